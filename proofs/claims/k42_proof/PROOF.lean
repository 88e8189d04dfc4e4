import PyProof.Rows.All
import Wide.All
import OpenK.AllK
import Wide.FinOn
import Lean
import PyProof.EqAt
import PyProof.EqKinds
import PyProof.TupleCall
import PyProof.TupleKey
import PyProof.DictWalks
import PyProof.DictItems
import KE.KPairComp
import KE.KUnpack
import KE.KSortAsk
import KE.KSortTup
import KE.KDictSum
import PySem.Challenge.RW_fakehunt_k42_least_papers
set_option Elab.async false
set_option linter.all false
set_option maxRecDepth 100000
set_option maxHeartbeats 4000000
set_option genSizeOf false
set_option genInjectivity false
set_option compiler.extract_closed false
set_option bootstrap.genMatcherCode false
def gF:=@Nat.le_refl
open PySem renaming sizeLine → ay,Expr → az,mainGlobals → a8,wpAny → a9,model → bf,Program → bg,starEach → bh,bootBuiltins → bj,Scope → bo,FuncData → bp,Heap → bq,World → br,compareOp → bt,sysModules → bu,Around → bv,binaryOp → bw
open PySem.PyData renaming keyHash → bx
open PySem.Value renaming ref → bz,none → b5
open Option renaming some → aa,none → ab
open Bool renaming true → ae,false → af
open List renaming replicate → ag,range → aj
open Decidable renaming decide → ak
def am:=@of_decide_eq_false
def ao:=@of_decide_eq_true
def aq:=@if_pos
def ar:=@if_neg
def au:=@absurd
def av:=@congrArg
def aw:=@Option.some.inj
def ax:=@Eq.symm
noncomputable section
def aB:=@Nat.le_refl
def aD:=@List.length_map
def aF:=@List.size_toArray
def aG:=@decide_eq_true
def aH:=@List.length_append
def aI:=@decide_eq_false
def aJ:=@Nat.le_trans
def aL:=@List.mem_cons
def aM:=@List.append_assoc
def aO:=@decide_eq_true_eq
def aP:=@List.mem_singleton
def aQ:=@List.mem_map
def aR:=@Nat.zero_le
def aT:=@Nat.lt_of_lt_of_le
def aU:=@List.getD_eq_getElem?_getD
def aV:=@List.length_take
def aW:=@List.mem_of_getElem?
def aX:=@List.length_cons
def aY:=@List.mem_append
def aZ:=@List.map_cons
def bA:=@List.getElem?_map
def bB:=@List.take_append_drop
def bC:=@List.getElem_mem
def bD:=@List.getElem?_append_right
def bE:=@Nat.ne_of_lt
def bF:=@List.append_nil
def bG:=@List.getElem?_eq_some_iff
def bH:=@List.getElem?_set_self
def bL:=@List.length_set
def bM:=@Int.toNat_natCast
def bN:=@List.mem_append_right
def bO:=@List.getElem?_set_ne
def bP:=@List.getElem?_append_left
def bQ:=@List.map_map
def bS:=@List.nodup_cons
def bT:=@List.all_eq_true
def bU:=@List.drop_eq_getElem_cons
def bV:=@Bool.or_eq_true
def bY:=@Int.toNat_of_nonneg
def cA:=@List.all_cons
def cB:=@List.length_drop
def cC:=@Nat.min_eq_left
def cD:=@Nat.testBit_and
def cF:=@List.map_append
def cG:=@List.mem_of_mem_drop
def cH:=@List.mem_of_mem_take
def cI:=@Nat.zero_add
def cJ:=@Nat.lt_irrefl
def cK:=@List.mem_range
def cL:=@Bool.eq_iff_iff
def cM:=@Nat.max_eq_right
def cN:=@List.getElem?_take
def cP:=@List.take_length
def cQ:=@List.drop_zero
def cR:=@Nat.le_of_eq
def cT:=@Nat.le_add_right
def cU:=@Nat.add_sub_cancel_left
def cV:=@List.length_reverse
def cY:=@List.length_range
def cZ:=@Int.natCast_add
def dA:=@List.replicate_succ
def dB:=@List.flatten_cons
def dC:=@List.take_take
def dD:=@List.lookup_cons
def dE:=@Nat.eq_of_testBit_eq
def dF:=@List.mem_append_left
def dG:=@List.length_nil
def dH:=@List.nodup_nil
def dI:=@List.mem_iff_getElem?
def dJ:=@Nat.lt_or_ge
def dL:=@beq_eq_false_iff_ne
def dM:=@Bool.or_false
def dN:=@List.any_cons
def dO:=@List.find?_cons
def dP:=@List.getElem?_drop
def dQ:=@List.drop_drop
def dR:=@Bool.and_true
def dS:=@Nat.mod_two_eq_zero_or_one
def dU:=@Int.natCast_nonneg
def dW:=@List.not_mem_nil
def dZ:=@List.mem_flatMap
def eB:=@Nat.mul_le_mul
def eC:=@Nat.le_of_lt
def eD:=@Array.getElem?_toList
def eE:=@List.nil_append
def eG:=@Int.lt_of_lt_of_le
def eH:=@List.getElem?_eq_none
def eI:=@List.pairwise_map
def eJ:=@Bool.true_and
def eK:=@Nat.testBit_two_pow
def eM:=@List.map_reverse
def eN:=@Array.length_toList
def eO:=@Bool.false_and
def eP:=@Nat.lt_succ_self
def eQ:=@Option.map_eq_some_iff
def eR:=@List.pairwise_append
def eS:=@List.pairwise_cons
def eT:=@List.reverse_cons
def eU:=@Nat.add_sub_cancel
def eV:=@Int.lt_of_le_of_lt
def eW:=@List.length_eq_zero_iff
def eX:=@Nat.sub_self
def eY:=@List.drop_of_length_le
def eZ:=@List.cons_ne_nil
def fA:=@Option.getD_some
def fB:=@Bool.false_eq_true
def fC:=@Bool.or_eq_false_iff
def fD:=@Nat.testBit_or
def fE:=@List.mem_reverse
def fF:=@List.mem_filter
def fG:=@List.filterMap_cons
def fH:=@List.of_mem_zip
def fI:=@List.length_replicate
def fJ:=@Nat.succ_le_succ
def fK:=@List.length_singleton
def fL:=@Nat.le_of_not_lt
def fM:=@List.perm_append_comm
def fN:=@List.drop_length
def fO:=@List.pairwise_iff_getElem
def fP:=@List.take_of_length_le
def fQ:=@List.pairwise_singleton
def fR:=@Bool.and_eq_true_iff
def fS:=@Bool.not_eq_true'
def fU:=@Int.natCast_mul
def fV:=@List.flatMap_cons
def fW:=@Nat.zero_testBit
def fX:=@Nat.pow_le_pow_right
def fY:=@Option.isSome_iff_exists
def fZ:=@List.getElem?_replicate
def gA:=@List.getElem?_cons_succ
def gC:=@Option.bind_eq_some_iff
def gE:=@List.mem_or_eq_of_mem_set
section
open PySem PySem.Spec PyProof.Rows
def aA:=@wpAny_bind
def aE:=@wpAny_pure
def aK:=@Heap.lt_size
def aS:=@Heap.get?_push_of_some
def bR:=@Heap.get?_push_size
def bZ:=@wpAny_mono
end
abbrev Li.{u}(α:Type u):Type u:=List α
abbrev Ot.{u}(α:Type u):Type u:=Option α
abbrev vL:=PySem.Value
abbrev Ad:=PySem.Addr
abbrev Sd:=PySem.Shared
def Ob{α β:Type}{a:α}{f:α->Ot β}:(aa a).bind f=f a:=rfl
abbrev Fg:=PySem.W.Frag
def Ba(a b:Bool):((a&&b)=ae)=(a=ae/\b=ae):=Bool.and_eq_true a b
def Lg{α:Type _}{l:Li α}{i:Nat}(h:i<l.length):l[i]?=aa l[i]:=List.getElem?_eq_getElem h
def Lm{α:Type _}(y:α){a:α}{l:Li α}(h:a∈l):a∈y::l:=List.mem_cons_of_mem y h
def Ls{α:Type _}{a:α}{l:Li α}:a∈a::l:=List.mem_cons_self
def Bf:¬af=ae:=Bool.false_ne_true
namespace L2
open PySem PySem.Spec PyProof.Rows
abbrev Key:=Sum Int Str
noncomputable def keyIs:Key->vL->Bool
  |.inl k,v=>Value.isInt k v
  |.inr x,v=>Value.isStrOf x v
noncomputable def keyH(w:br):Key->Int
  |.inl k=>hashInt k
  |.inr x=>hashStr w x
def keyIs_shape:∀ {k:Key}{v:vL},keyIs k v=ae->(∃ i t,k=Sum.inl i/\v=Value.int i t)\/(∃ x t,k=Sum.inr x/\v=Value.str x t)
  |.inl i,v,h=>by
    obtain⟨t,e⟩:=Value.isInt_shape (k:=i) (v:=v) h;exact .inl ⟨i,t,rfl,e⟩
  |.inr x,v,h=>by
    obtain⟨t,e⟩:=Value.isStrOf_shape (x:=x) (v:=v) h;exact .inr ⟨x,t,rfl,e⟩
def keyIs_int(i:Int)(t:Tok):keyIs (.inl i) (.int i t)=ae:=by simp[keyIs,Value.isInt]
def keyIs_str(x:Str)(t:Tok):keyIs (.inr x) (.str x t)=ae:=by simp[keyIs,Value.isStrOf]
def key_ll(a b:Int):ak ((Sum.inl a:Key)=Sum.inl b)=(a==b):=by
  by_cases e:a=b
  . subst e;simp
  . have h:¬(Sum.inl a:Key)=Sum.inl b:=λq=>e (Sum.inl.inj q)
    rw[aI h];exact(dL.mpr e).symm
def key_rr(a b:Str):ak ((Sum.inr a:Key)=Sum.inr b)=ak (a=b):=by
  by_cases e:a=b
  . subst e;simp
  . have h:¬(Sum.inr a:Key)=Sum.inr b:=λq=>e (Sum.inr.inj q)
    rw[aI h,aI e]
def key_lr(a:Int)(b:Str):ak ((Sum.inl a:Key)=Sum.inr b)=af:=aI (λq=>nomatch q)
def key_rl(a:Str)(b:Int):ak ((Sum.inr a:Key)=Sum.inl b)=af:=aI (λq=>nomatch q)
def mixKind(prog:bg)(w:br):PySem.KeyKind prog w Key where
  is:=keyIs
  hash:=keyH w
  inj:=λv a b l f=>by
    rcases keyIs_shape l with⟨i,t,rfl,rfl⟩|⟨x,t,rfl,rfl⟩
    . rcases keyIs_shape f with⟨j,u,rfl,e⟩|⟨y,u,rfl,e⟩
      . injection e with c _;rw[c]
      . exact nomatch e
    . rcases keyIs_shape f with⟨j,u,rfl,e⟩|⟨y,u,rfl,e⟩
      . exact nomatch e
      . injection e with c _;rw[c]
  byValue:=λk v h=>by
    rcases keyIs_shape h with⟨i,t,rfl,rfl⟩|⟨x,t,rfl,rfl⟩<;>rfl
  pyHash:=λd h=>by
    rcases keyIs_shape d with⟨i,t,rfl,rfl⟩|⟨x,t,rfl,rfl⟩
    . exact wpAny_pyHash_int h
    . exact wpAny_pyHash_str h
  eqBool:=λg d h=>by
    rcases keyIs_shape g with⟨i,t,rfl,rfl⟩|⟨x,t,rfl,rfl⟩
    . rcases keyIs_shape d with⟨j,u,rfl,rfl⟩|⟨y,u,rfl,rfl⟩
      . rw[key_ll]at h;exact wpAny_eqBool_int h
      . rw[key_lr]at h;exact SeqAt.EqAt.int_str i t y u _ _ _ _ h
    . rcases keyIs_shape d with⟨j,u,rfl,rfl⟩|⟨y,u,rfl,rfl⟩
      . rw[key_rl]at h;exact SeqAt.EqAt.str_int x t j u _ _ _ _ h
      . rw[key_rr]at h;exact wpAny_eqBool_str h
  «strs»:=λk x t v h=>by
    rcases keyIs_shape h with⟨i,u,rfl,e⟩|⟨y,u,rfl,e⟩
    . exact nomatch e
    . injection e with c _
      subst c;cases v<;>rfl
def mixKind_int(prog:bg)(w:br)(i:Int)(t:Tok):(mixKind prog w).is (.inl i) (.int i t)=ae:=keyIs_int i t
def mixKind_str(prog:bg)(w:br)(x:Str)(t:Tok):(mixKind prog w).is (.inr x) (.str x t)=ae:=keyIs_str x t
set_option genInjectivity true in
inductive V where
  |non|bl (b:Bool)|int (i:Int)|str (x:Str)|byt (b:Array UInt8)|flt (b:UInt64)|ref (a:Addr)|ty (n:String)
  deriving DecidableEq
def RelV:V->vL->Prop
  |.non,u=>u=b5
  |.bl b,u=>u=Value.bool b
  |.int i,u=>∃ t,u=Value.int i t
  |.str x,u=>∃ t,u=Value.str x t
  |.byt b,u=>∃ t,u=Value.bytes b t
  |.flt b,u=>∃ t,u=Value.float b t
  |.ref a,u=>u=bz a
  |.ty n,u=>u=Value.type n
abbrev Vals:Li V->Li vL->Prop:=Paired RelV
variable{xs:Li V}{us:Li vL}
theorem Vals.length(r:Vals xs us):xs.length=us.length:=Paired.length r
theorem Vals.get:∀ {xs:Li V}{us:Li vL}{i:Nat}{x:V},Vals xs us->xs[i]?=aa x->∃ u,us[i]?=aa u/\RelV x u
  |_,_,_,_,.nil,e=>by simp at e
  |_,_,0,_,.cons r _,e=>by simp at e;subst e;exact⟨_,rfl,r⟩
  |_,_,i+1,x,.cons _ t,e=>by
    obtain⟨u,b,a⟩:=Vals.get (i:=i) (x:=x) t (by simpa using e)
    exact⟨u,by simpa using b,a⟩
theorem Vals.set{x:V}{u:vL}(r:RelV x u):∀ {xs:Li V}{us:Li vL} (i:Nat),Vals xs us->Vals (xs.set i x) (us.set i u)
  |_,_,_,.nil=>.nil
  |_,_,0,.cons _ t=>.cons r t
  |_,_,i+1,.cons q t=>.cons q (Vals.set r i t)
theorem Vals.append:∀ {xs ys:Li V}{us ws:Li vL},Vals xs us->Vals ys ws->Vals (xs++ys) (us++ws)
  |_,_,_,_,.nil,s=>s
  |_,_,_,_,.cons r t,s=>.cons r (Vals.append t s)
theorem Vals.take:∀ {xs:Li V}{us:Li vL} (n:Nat),Vals xs us->Vals (xs.take n) (us.take n)
  |_,_,0,_=>.nil
  |_,_,_+1,.nil=>.nil
  |_,_,n+1,.cons r t=>.cons r (Vals.take n t)
theorem Vals.drop:∀ {xs:Li V}{us:Li vL} (n:Nat),Vals xs us->Vals (xs.drop n) (us.drop n)
  |_,_,0,r=>r
  |_,_,_+1,.nil=>.nil
  |_,_,n+1,.cons _ t=>Vals.drop n t
def RelO:Ot V->Ot vL->Prop
  |some v,aa u=>RelV v u
  |none,ab=>True
  |_,_=>False
def KV{a:Type}:Li (a×V)->Li (a×vL)->Prop:=Paired λ(p:a×V) (q:a×vL)=>p.1=q.1/\RelV p.2 q.2
noncomputable def kV:Key->V
  |.inl i=>.int i
  |.inr x=>.str x
inductive HO where
    |lst (xs:List V)
    |tup (xs:List V)
    |dK (kvs:List (Key×V))|dT (kvs:List (List Key×V))
    |set (S:Int->Bool) (n:Nat)
    |ins (C dx:Addr) (fs:List (Str×V))
    |own (x:Addr)
    |xd (fs:List (Str×V))
    |met (f x:Addr)
    |rng (lo hi:Int)
    |frz (o:Obj) (u:HO)
    |tbl (ps:Array Value)
    |ext (φ:bq->Prop)
abbrev Hp:=Ad->Ot HO
noncomputable def upd(H:Hp)(a:Ad)(o:HO):Hp:=λb=>if b=a then aa o else H b
variable{H:Hp}
def upd_same{a:Ad}{o:HO}:upd H a o a=aa o:=by unfold upd;rw[aq rfl]
def upd_ne{a b:Ad}{o:HO}(h:b≠a):upd H a o b=H b:=by unfold upd;rw[ar h]
def ne_of{a b:Ad}{o u:HO}(h:H a=aa o)(c:H b=aa u)(d:o≠u):a≠b:=by
  intro e;subst e;rw[h]at c;exact d (aw c)
def ne_of_none{a b:Ad}{o:HO}(h:H a=aa o)(c:H b=ab):a≠b:=by
  intro e;subst e;rw[h]at c;cases c
section
variable (P:bg) (w:br)
def ObjOk(H:Hp)(h:bq)(a:Ad):HO->Prop
  |.lst xs=>xs.length<=ay/\∃ (c:Li vL) (n:Nat),Vals xs c/\h.get? a=aa { cls:=.type "list",data:=.seq c.toArray n }
  |.tup xs=>xs.length<=ay/\∃ c:Li vL,Vals xs c/\IsTup h a c.toArray
  |.dK b=>b.length<=ay/\(a==bu)=af/\∃ i,KV b i/\h.DictOf (mixKind P w) a i
  |.dT b=>b.length<=ay/\(a==bu)=af/\∃ xs:Li (Li Key×Ad×vL),
      Paired (λ(p:Li Key×V) (q:Li Key×Ad×vL)=>p.1=q.1/\H q.2.1=aa (.tup (p.1.map kV))/\RelV p.2 q.2.2) b xs /\
      ∃ o l s,h.get? a=aa o/\o.ExactDict/\o.data=.dict l s/\l.toList=xs.map (entryOfKey (tupleKind (mixKind P w)))/\(xs.map (·.1)).Nodup
  |.set S n=>h.SetOf (intKind P w) a S n
  |.ins C e fs=>H e=aa (.own a)/\fs.length<=1000/\e≠a/\h.get? a=aa (W.instObj C e) /\
      ∃ d,h.Ns1 e d/\(∀ f,RelO (fs.lookup f) (d f))/\PySem.Within d (fs.map (·.1))
  |.own _=>∃ o,h.get? a=aa o
  |.xd fs=>∃ d,h.Ns1 a d/\∀ f,RelO (fs.lookup f) (d f)
  |.rng lo r=>∃ t u v,h.get? a=aa { cls:=.type "range",data:=.fields #[.int lo t,.int r u,.int 1 v] }
  |.frz o u=>h.get? a=aa o/\ObjOk H h a u
  |.tbl m=>h.get? a=aa { cls:=.none,data:=.fields m }
  |.met f x=>h.get? a=aa (W.methodObj (.ref f) (.ref x))
  |.ext g=>g h/\(∃ o,h.get? a=aa o)/\∀ k j:bq,g k->(∀ o,k.get? a=aa o->j.get? a=aa o)->g j
def HOk(H:Hp)(h:bq):Prop:=∀ a o,H a=aa o->ObjOk P w H h a o
end
variable{P:bg}{w:br}{H H':Hp}{h h':bq}{a:Ad}
section
variable{o:HO}
theorem ObjOk.lt(x:ObjOk P w H h a o):a < h.objs.size:=by
  cases o with
  |lst xs=>obtain⟨_,_,_,_,e⟩:=x;exact aK e
  |tup xs=>obtain⟨_,_,_,p⟩:=x;exact p.lt
  |dK b=>obtain⟨_,_,_,_,o,_,_,e,_⟩:=x;exact aK e
  |dT b=>obtain⟨_,_,_,_,o,_,_,e,_⟩:=x;exact aK e
  |set S n=>obtain⟨o,_,_,_,e,_⟩:=x;exact aK e
  |ins C j fs=>obtain⟨_,_,_,e,_⟩:=x;exact aK e
  |own y=>obtain⟨_,e⟩:=x;exact aK e
  |xd fs=>obtain⟨_,⟨_,_,_,e,_⟩,_⟩:=x;exact aK e
  |rng lo i=>obtain⟨_,_,_,e⟩:=x;exact aK e
  |frz g u=>obtain⟨e,_⟩:=x;exact aK e
  |tbl d=>exact aK (show h.get? a=aa _ from x)
  |met f y=>exact aK (show h.get? a=aa _ from x)
  |ext c=>obtain⟨_,⟨_,e⟩,_⟩:=x;exact aK e
theorem Paired.mapP{d c:Type}{F G:d->c->Prop}:∀ {l₁:Li d}{l₂:Li c},Paired F l₁ l₂->(∀ a b,F a b->G a b)->Paired G l₁ l₂
  |_,_,.nil,_=>.nil
  |_,_,.cons r t,f=>.cons (f _ _ r) (Paired.mapP t f)
def ObjOk.stay(x:ObjOk P w H h a o)(k:∀ b u,(b=a\/H b=aa (.own a))->h.get? b=aa u->h'.get? b=aa u)(I:∀ b,H b=aa (.own a)->H' b=aa (.own a))(G:∀ b xs,H b=aa (.tup xs)->H' b=aa (.tup xs)):ObjOk P w H' h' a o:=by
  induction o with
  |lst xs=>obtain⟨z,l,n,r,e⟩:=x;exact⟨z,l,n,r,k _ _ (.inl rfl) e⟩
  |tup xs=>obtain⟨z,l,r,g,e,c⟩:=x;exact⟨z,l,r,g,k _ _ (.inl rfl) e,c⟩
  |dK A=>obtain⟨z,y,E,r,g,i,j,e,c⟩:=x;exact⟨z,y,E,r,g,i,j,k _ _ (.inl rfl) e,c⟩
  |dT A=>
    obtain⟨z,y,xs,r,g,i,j,e,c⟩:=x;exact⟨z,y,xs,Paired.mapP r λp q z=>⟨z.1,G _ _ z.2.1,z.2.2⟩,g,i,j,k _ _ (.inl rfl) e,c⟩
  |set S n=>obtain⟨g,i,j,t,e,c⟩:=x;exact⟨g,i,j,t,k _ _ (.inl rfl) e,c⟩
  |ins C M fs=>
    obtain⟨d,z,ne,e,s,⟨m,i,j,J,c⟩,r⟩:=x;exact⟨I _ d,z,ne,k _ _ (.inl rfl) e,s,⟨m,i,j,k _ _ (.inr d) J,c⟩,r⟩
  |own y=>obtain⟨g,e⟩:=x;exact⟨g,k _ _ (.inl rfl) e⟩
  |xd fs=>obtain⟨s,⟨m,i,j,e,c⟩,r⟩:=x;exact⟨s,⟨m,i,j,k _ _ (.inl rfl) e,c⟩,r⟩
  |rng lo L=>obtain⟨t,u,v,e⟩:=x;exact⟨t,u,v,k _ _ (.inl rfl) e⟩
  |frz g u F=>obtain⟨e,q⟩:=x;exact⟨k _ _ (.inl rfl) e,F q⟩
  |tbl D=>
    have e:h.get? a=aa { cls:=.none,data:=.fields D }:=x;show h'.get? a=aa { cls:=.none,data:=.fields D };exact k a _ (.inl rfl) e
  |met f y=>
    have e:h.get? a=aa (W.methodObj (.ref f) (.ref y)):=x;show h'.get? a=aa (W.methodObj (.ref f) (.ref y));exact k a _ (.inl rfl) e
  |ext K=>obtain⟨p,⟨o,e⟩,B⟩:=x;exact⟨B _ _ p λo q=>k _ _ (.inl rfl) q,⟨o,k _ _ (.inl rfl) e⟩,B⟩
theorem HOk.lt(x:HOk P w H h)(e:H a=aa o):a < h.objs.size:=(x a o e).lt
def HOk.fresh(x:HOk P w H h)(e:h.objs.size<=a):H a=ab:=by
  cases q:H a with
  |none=>rfl
  |some u=>exact au (aT (x.lt q) e) (cJ _)
def HOk.kept(x:HOk P w H h)(k:∀ b u,h.get? b=aa u->h'.get? b=aa u):HOk P w H h':=λa o e=>
  (x a o e).stay (λb u _ q=>k b u q) (λ_ q=>q) λ_ _ q=>q
def HOk.laid(x:HOk P w H h)(k:∀ b u,h.get? b=aa u->h'.get? b=aa u)(g:h.objs.size<=a)(new:ObjOk P w (upd H a o) h' a o):HOk P w (upd H a o) h':=λb u e=>by
  have d:=x.fresh g;by_cases f:b=a
  . subst f;rw[upd_same]at e;cases e;exact new
  . rw[upd_ne f]at e
    exact(x b u e).stay (λc v _ q=>k c v q) (λc q=>by rw[upd_ne (ne_of_none q d)];exact q) λc xs q=>by rw[upd_ne (ne_of_none q d)];exact q
end
def Rd(H:Hp)(a:Ad)(u:HO):Prop:=H a=aa u\/∃ o,H a=aa (.frz o u)
variable{w:br}{h:bq}
def Rd.ok{P:bg}{a:Ad}{u:HO}(r:Rd H a u)(x:HOk P w H h):ObjOk P w H h a u:=by
  rcases r with r|⟨o,r⟩
  . exact x a u r
  . obtain⟨_,q⟩:=x a _ r
    exact q
def Mut:Ot HO->Prop
  |some (.lst _)=>True
  |some (.dK _)=>True
  |some (.dT _)=>True
  |some (.set _ _)=>True
  |some (.ins _ _ _)=>True
  |some (.ext _)=>True
  |_=>False
variable{x:Ad}
section
variable{e:Ad}{o':HO}
def HOk.write(ok:HOk P w H h)(mu:Mut (H x))(l:e=x\/H e=aa (.own x))(k:∀ b u,b≠e->h.get? b=aa u->h'.get? b=aa u)(i:∃ u,h'.get? e=aa u)(new:ObjOk P w (upd H x o') h' x o'):HOk P w (upd H x o') h':=λb u q=>by
  have d:∀ c y,H c=aa (.own y)->c≠x:=λc y r z=>by subst z;rw[r]at mu;exact mu
  have f:∀ c xs,H c=aa (.tup xs)->c≠x:=λc xs r z=>by subst z;rw[r]at mu;exact mu
  by_cases g:b=x
  . subst g;rw[upd_same]at q;cases q;exact new
  . rw[upd_ne g]at q
    by_cases a:b=e
    . have j:H b=aa (.own x):=by
        rcases l with z|z
        . exact au (a.trans z) g
        . rw[a];exact z
      rw[q]at j;cases j
      obtain⟨v,m⟩:=i;exact⟨v,by rw[a];exact m⟩
    . refine(ok b u q).stay (λc v hc r=>k c v ?_ r) (λc r=>by rw[upd_ne (d c b r)];exact r) λc xs r=>by rw[upd_ne (f c xs r)];exact r
      rcases hc with rfl|hc
      . exact a
      . rintro rfl
        rcases l with z|z
        . exact d c b hc z
        . rw[hc]at z;cases z;exact g rfl
end
structure Un(fs ex:List Addr)(H H':Hp)(h h':bq):Prop where
  keep:∀ b o,h.get? b=aa o->H b=ab->b∉fs->b∉ex->h'.get? b=aa o
  slot:∀ b o,h.get? b=aa o->H b=ab->b∈fs->b∉ex->∃ sl,h'.get? b=aa { o with slots:=sl }
  free:∀ b o,h.get? b=aa o->H b=ab->b∉ex->H' b=ab
  there:∀ b o,h.get? b=aa o->b∉ex->∃ o',h'.get? b=aa o'
  tups:∀ b xs,H b=aa (.tup xs)->H' b=aa (.tup xs)
  frzs:∀ b o u,H b=aa (.frz o u)->H' b=aa (.frz o u)
  tbls:∀ b ps,H b=aa (.tbl ps)->∃ more,H' b=aa (.tbl (ps++more))
section
variable{fs fs' ex ex':Li Ad}{H1 H2:Hp}{h1 h2:bq}{e:Ad}{o:HO}
def Un.any(u:Un fs ex H H1 h h1){b:Ad}{a:Obj}(q:h.get? b=aa a)(n:H b=ab)(c:b∉ex):∃ sl,h1.get? b=aa { a with slots:=sl }:=by
  by_cases d:b∈fs
  . exact u.slot b a q n d c
  . exact⟨a.slots,u.keep b a q n d c⟩
def Un.kept(k:∀ b u,h.get? b=aa u->h'.get? b=aa u):Un fs ex H H h h':=
  ⟨λb a q _ _ _=>k b a q,λb a q _ _ _=>⟨a.slots,k b a q⟩,λ_ _ _ n _=>n,λb a q _=>⟨a,k b a q⟩,λ_ _ q=>q,λ_ _ _ q=>q,λ_ c q=>⟨#[],by rw[q];simp⟩⟩
def Un.refl:Un fs ex H H h h:=Un.kept λ_ _ q=>q
def Un.laid(k:∀ b u,h.get? b=aa u->h'.get? b=aa u)(d:h.objs.size<=a)(c:H a=ab):Un fs ex H (upd H a o) h h' where
  keep:=λb u q _ _ _=>k b u q
  slot:=λb u q _ _ _=>⟨u.slots,k b u q⟩
  free:=λb u q n _=>by rw[upd_ne (bE (aT (aK q) d))];exact n
  there:=λb u q _=>⟨u,k b u q⟩
  tups:=λb xs q=>by rw[upd_ne (ne_of_none q c)];exact q
  frzs:=λb u xs q=>by rw[upd_ne (ne_of_none q c)];exact q
  tbls:=λb e q=>⟨#[],by rw[upd_ne (ne_of_none q c),q];simp⟩
def Un.write(mu:Mut (H x))(i:e=x\/H e=aa (.own x))(k:∀ b u,b≠e->h.get? b=aa u->h'.get? b=aa u)(d:∃ u,h'.get? e=aa u):Un fs ex H (upd H x o) h h':=by
  have f:∀ b,H b=ab->b≠x:=λb n z=>by subst z;rw[n]at mu;exact mu
  have g:∀ b,H b=ab->b≠e:=λb n z=>by
    subst z;rcases i with r|r
    . exact f b n r
    . rw[n]at r;cases r
  have c:∀ b u,H b=aa u->¬Mut (aa u)->b≠x:=λb u q nm z=>by subst z;rw[q]at mu;exact nm mu
  refine⟨λb u q n _ _=>k b u (g b n) q,λb u q n _ _=>⟨u.slots,k b u (g b n) q⟩,λb u q n _=>by rw[upd_ne (f b n)];exact n,λb u q _=>?_,
    λb xs q=>by rw[upd_ne (c b _ q λz=>z)];exact q,λb u xs q=>by rw[upd_ne (c b _ q λz=>z)];exact q,λb j q=>⟨#[],by rw[upd_ne (c b _ q λz=>z),q];simp⟩⟩
  by_cases a:b=e
  . subst a;exact d
  . exact⟨u,k b u a q⟩
end
noncomputable def trk(h:bq)(H:Hp):Li Ad:=(aj h.objs.size).filter λa=>(H a).isSome
def hidT(h:bq)(H:Hp):bq:=W.hideAll h (trk h H)
def hidT_size(h:bq)(H:Hp):(hidT h H).objs.size=h.objs.size:=W.hideAll_size _ _
def hidT_get{b:Ad}{o:Obj}(e:h.get? b=aa o)(n:H b=ab):(hidT h H).get? b=aa o:=
  W.hideAll_get _ e λa=>by
    have q:(H b).isSome=ae:=(fF.mp a).2;rw[n]at q;simp at q
def of_hidT{b:Ad}{o:Obj}(e:(hidT h H).get? b=aa o):h.get? b=aa o/\H b=ab:=by
  have a:h.get? b=aa o:=W.of_hideAll (trk h H) e;refine⟨a,?_⟩;cases q:H b with
  |none=>rfl
  |some x=>
    have c:b∈trk h H:=fF.mpr ⟨cK.mpr (aK a),by simp[q]⟩
    have z:(hidT h H).get? b=ab:=W.hideAll_none (trk h H) c;rw[z]at e;cases e
structure Mod(K:Fg)(mg:Str->Option Value)(base:bq):Prop where
  kin:K.In base
  glob:base.Ns a8 mg
  blt:∃ mb,base.Ns builtinsNs mb/\∀ x:Str,x ≠ "__name__"->mb x=bj x
  nolimit:base.NoLimit
structure Cx where
  prog:bg
  w:br
  K:Fg
  mg:Str->Option Value
  base:bq
  A:bv
  N:List Str
  s₀:Shared
  H₀:Hp
  env:Env
  outer:List Env
  stack:List Env
  ex:List Addr
  fn:Str->Bool
  calm:Bool
  pn:List (Addr×Obj)
  xe:Value->Shared->Prop
noncomputable def frs(l:Li Env):Li Ad:=l.filterMap (·.frame)
abbrev Cx.fs(X:Cx):Li Ad:=frs X.outer
def Vis(sc:bo)(x:Str):Prop:=sc.names.lookup x=aa .local\/sc.names.lookup x=aa .cell\/sc.names.lookup x=aa .free
def Loc(sc:bo)(x:Str):Prop:=sc.names.lookup x=aa .local\/sc.names.lookup x=aa .cell
def Look(env:Env)(h:bq)(m:Str->Ot vL)(x:Str)(u:vL):Prop:=
  (env.kindOf x=aa .local/\m x=aa u)\/((env.kindOf x=aa .cell\/env.kindOf x=aa .free)/\∃ c,env.cells.lookup x=aa c/\h.IsCell c (aa u))
structure Cx.Ok(X:Cx):Prop where
  mod:Mod X.K X.mg X.base
  kind:X.env.scope.kind=.function
  glob:X.env.globals=a8
  blt:X.env.builtins=builtinsNs
  above:X.s₀.heap.objs.size<=X.env.locals
  inj:∀ x y c,X.env.cells.lookup x=aa c->X.env.cells.lookup y=aa c->x=y
  has:∀ x,(X.env.kindOf x=aa .cell\/X.env.kindOf x=aa .free)->∃ c,X.env.cells.lookup x=aa c
  cab:∀ x c,X.fn x=ae->X.env.cells.lookup x=aa c->X.s₀.heap.objs.size<=c
  hd:X.calm=ae->X.A.handled=ab
  frames:X.A.frames=aa X.stack
  stk:X.stack=X.outer\/(X.stack=X.env :: X.outer/\X.env.frame=aa X.env.locals)
  exf:∀ b∈X.ex,b≠X.env.locals/\∀ x c,X.env.cells.lookup x=aa c->c≠b
  bs:∀ b o,X.base.get? b=aa o->X.s₀.heap.get? b=aa o/\X.H₀ b=ab
  bsz:X.base.objs.size<=X.s₀.heap.objs.size
  noex:∀ b o,X.base.get? b=aa o->b∉X.ex
  exfs:∀ b∈X.ex,b∉X.fs
  funs:X.s₀.heap.FunFrames X.base X.outer
  frf:∀ b∈X.fs,X.H₀ b=ab
structure Inv(X:Cx)(pQ:List (Addr×Obj))(O:List (Option V))(H:Hp)(s:Shared):Prop where
  ok:X.Ok
  os:s.os=X.s₀.os
  bare:AllBare s.gens
  base:Un X.fs X.ex X.H₀ H X.s₀.heap s.heap
  loc:∃ m,s.heap.Ns X.env.locals m/\∀ (i:Nat) (x:Str) (v:V),X.N[i]?=aa x->O[i]?=aa (aa v)->Vis X.env.scope x->∃ u,RelV v u/\Look X.env s.heap m x u
  cell:∀ x c,X.env.cells.lookup x=aa c->∃ v,s.heap.IsCell c v
  free:H X.env.locals=ab
  freeC:∀ x c,X.env.cells.lookup x=aa c->H c=ab
  pin:∀ p∈X.pn++pQ,s.heap.get? p.1=aa p.2/\H p.1=ab/\p.1≠X.env.locals/\p.1∉X.fs/\∀ v,p.2.data≠.cell v
  hok:HOk X.prog X.w H s.heap
  len:O.length=X.N.length
variable{g':Array GenState}{t' i:Nat}{d':Drawn}{N:Li Str}
variable{X:Cx}{pQ:Li (Ad×Obj)}{s:Sd}
section
variable{O:Li (Ot V)}
def Cx.Ok.nofr(ok:X.Ok){b:Ad}{o:Obj}(e:X.base.get? b=aa o):b∉X.fs:=λa=>by
  have:=(ok.funs.mem a).1;rw[e]at this;cases this
theorem Inv.bs(I:Inv X pQ O H s):∀ b o,X.base.get? b=aa o->s.heap.get? b=aa o/\H b=ab:=λb o e=>
  ⟨I.base.keep b o (I.ok.bs b o e).1 (I.ok.bs b o e).2 (I.ok.nofr e) (I.ok.noex b o e),I.base.free b o (I.ok.bs b o e).1 (I.ok.bs b o e).2 (I.ok.noex b o e)⟩
def Inv.bk(I:Inv X pQ O H s):∀ b o,X.base.get? b=aa o->s.heap.get? b=aa o:=λb o e=>(I.bs b o e).1
theorem Inv.mod(I:Inv X pQ O H s):Mod X.K X.mg X.base:=I.ok.mod
def Inv.kIn(I:Inv X pQ O H s):X.K.In s.heap:=I.ok.mod.kin.keeps I.bk
theorem Inv.lt(I:Inv X pQ O H s):X.env.locals < s.heap.objs.size:=let ⟨_,hn,_⟩:=I.loc;hn.lt
def Inv.sz(I:Inv X pQ O H s):X.s₀.heap.objs.size<=s.heap.objs.size:=aJ I.ok.above (eC I.lt)
def Inv.nofs(I:Inv X pQ O H s){a:Ad}(h:s.heap.objs.size<=a):a∉X.fs:=λc=>by
  obtain⟨_,o,b,_⟩:=I.ok.funs.mem c;exact au (aT (aK b) (aJ I.sz h)) (cJ _)
def Inv.cne(I:Inv X pQ O H s):∀ x c,X.env.cells.lookup x=aa c->c≠X.env.locals:=λx c e z=>by
  obtain⟨v,o,d,f⟩:=I.cell x c e;obtain⟨m,⟨g,h,i,a,b,_⟩,_⟩:=I.loc;rw[z,a]at d;cases d;rw[b]at f;cases f
theorem Inv.funs(I:Inv X pQ O H s):s.heap.FunFrames X.base X.outer:=by
  have all:∀ (l:Li Env),(∀ b∈frs l,b∈X.fs)->X.s₀.heap.FunFrames X.base l->s.heap.FunFrames X.base l:=by
    intro l
    induction l with
    |nil=>intro _ _;trivial
    |cons p r g=>
      intro f k;obtain⟨m,⟨L,o,a,j,i,n⟩,h⟩:=k;have d:L∈X.fs:=f L (by unfold frs;rw[fG,a];exact Ls)
      obtain⟨sl,e⟩:=I.base.slot L o i (I.ok.frf L d) d λz=>I.ok.exfs L z d
      exact⟨m,⟨L,_,a,j,e,n⟩,g (λb c=>f b (by unfold frs;rw[fG,a];exact Lm _ c)) h⟩
  exact all X.outer (λ_ c=>c) I.ok.funs
theorem Inv.stack(I:Inv X pQ O H s):s.heap.FunFrames X.base X.stack:=by
  rcases I.ok.stk with e|⟨e,b⟩
  . rw[e];exact I.funs
  . rw[e]
    obtain⟨m,a,_⟩:=I.loc;refine .cons (by rw[I.ok.kind];decide) b a ?_ I.funs
    exact Heap.get?_none_of_le (aJ I.ok.bsz I.ok.above)
def Inv.stkSub(I:Inv X pQ O H s):∀ b∈frs X.stack,b∈X.env.locals :: X.fs:=λb a=>by
  rcases I.ok.stk with e|⟨e,c⟩
  . rw[e]at a;exact Lm _ a
  . rw[e]at a
    unfold frs at a;rw[fG,c]at a;exact a
def Inv.stkFree(I:Inv X pQ O H s):∀ b∈frs X.stack,H b=ab:=λb hb=>by
  rcases aL.mp (I.stkSub b hb) with e|hb
  . rw[e];exact I.free
  . obtain⟨_,o,a,_⟩:=I.ok.funs.mem hb
    exact I.base.free b o a (I.ok.frf b hb) λz=>I.ok.exfs b z hb
def Inv.step{ch:Li Ad}(I:Inv X pQ O H s)(g:∀ b∈ch,(b∈X.ex\/X.s₀.heap.objs.size<=b)/\b≠X.env.locals/\(∀ x c,X.env.cells.lookup x=aa c->c≠b)/\∀ p∈X.pn++pQ,p.1≠b)(keep:∀ b o,b≠X.env.locals->b∉X.fs->b∉ch->s.heap.get? b=aa o->H b=ab->h'.get? b=aa o)(slot:∀ b o,b≠X.env.locals->b∈X.fs->b∉ch->s.heap.get? b=aa o->H b=ab->∃ sl,h'.get? b=aa { o with slots:=sl })(free:∀ b o,b∉ch->s.heap.get? b=aa o->H b=ab->H' b=ab)(there:∀ b o,b∉ch->s.heap.get? b=aa o->∃ B,h'.get? b=aa B)(tups:∀ b xs,H b=aa (.tup xs)->H' b=aa (.tup xs))(frzs:∀ b o u,H b=aa (.frz o u)->H' b=aa (.frz o u))(tbls:∀ b E,H b=aa (.tbl E)->∃ more,H' b=aa (.tbl (E++more)))(M:∀ m,s.heap.Ns X.env.locals m->h'.Ns X.env.locals m)(hok:HOk X.prog X.w H' h')(S:AllBare g') :
    Inv X pQ O H' { s with heap:=h',gens:=g',drawn:=d',toks:=t' }:=by
  have C:∀ b o,X.s₀.heap.get? b=aa o->b≠X.env.locals:=λb o e=>bE (aT (aK e) I.ok.above)
  have j:∀ b o,X.s₀.heap.get? b=aa o->b∉X.ex->b∉ch:=λb o e a y=>by
    rcases (g b y).1 with z|z
    . exact a z
    . exact au (aT (aK e) z) (cJ _)
  have h:∀ x c,X.env.cells.lookup x=aa c->∀ v,s.heap.IsCell c v->h'.IsCell c v:=λx c e v ⟨o,A,G⟩=>by
    have f:c∉ch:=λz=>(g c z).2.2.1 x c e rfl
    by_cases L:c∈X.fs
    . obtain⟨sl,q⟩:=slot c o (I.cne x c e) L f A (I.freeC x c e)
      exact⟨_,q,G⟩
    . exact⟨o,keep c o (I.cne x c e) L f A (I.freeC x c e),G⟩
  refine⟨I.ok,I.os,S,⟨λb o e n y a=>?_,λb o e n y a=>?_,λb o e n a=>?_,λb o e a=>?_,λb xs e=>tups b xs (I.base.tups b xs e),λb o xs e=>frzs b o xs (I.base.frzs b o xs e),λb E e=>?_⟩,?_,λx c e=>?_,?_,λx c e=>?_,λp K=>?_,hok,I.len⟩
  . exact keep b o (C b o e) y (j b o e a) (I.base.keep b o e n y a) (I.base.free b o e n a)
  . obtain⟨sl,t⟩:=I.base.slot b o e n y a
    obtain⟨F,D⟩:=slot b _ (C b o e) y (j b o e a) t (I.base.free b o e n a);exact⟨F,D⟩
  . obtain⟨B,t⟩:=I.base.there b o e a
    exact free b B (j b o e a) t (I.base.free b o e n a)
  . obtain⟨B,t⟩:=I.base.there b o e a
    exact there b B (j b o e a) t
  . obtain⟨P,t⟩:=I.base.tbls b E e
    obtain⟨N,D⟩:=tbls b _ t;exact⟨P++N,by rw[D,Array.append_assoc]⟩
  . obtain⟨m,Q,R⟩:=I.loc
    refine⟨m,M m Q,λi x v t D T=>?_⟩
    obtain⟨u,r,l⟩:=R i x v t D T;refine⟨u,r,?_⟩;rcases l with l|⟨k,c,e,z⟩
    . exact .inl l
    . exact .inr ⟨k,c,e,h x c e _ z⟩
  . obtain⟨v,z⟩:=I.cell x c e
    exact⟨v,h x c e v z⟩
  . obtain⟨m,⟨o,_,_,A,_⟩,_⟩:=I.loc
    exact free _ o (λz=>(g _ z).2.1 rfl) A I.free
  . obtain⟨v,o,A,G⟩:=I.cell x c e
    exact free c o (λz=>(g c z).2.2.1 x c e rfl) A (I.freeC x c e)
  . obtain⟨e,n,ne,J,d⟩:=I.pin p K
    have f:p.1∉ch:=λz=>(g p.1 z).2.2.2 p K rfl
    exact⟨keep p.1 p.2 ne J f e n,free p.1 p.2 f e n,ne,J,d⟩
def Inv.un(I:Inv X pQ O H s)(u:Un X.fs [] H H' s.heap h')(hok:HOk X.prog X.w H' h'):Inv X pQ O H' { s with heap:=h',toks:=t' }:=by
  obtain⟨m,⟨o,p,q,g,r⟩,_⟩:=id I.loc;obtain⟨sl,j⟩:=u.any g I.free (by simp)
  exact I.step (g':=s.gens) (d':=s.drawn) (ch:=[]) (λ_ z=>nomatch z) (λb o _ c _ e n=>u.keep b o e n c (by simp)) (λb o _ c _ e n=>u.slot b o e n c (by simp)) (λb o _ e n=>u.free b o e n (by simp)) (λb o _ e=>u.there b o e (by simp)) u.tups u.frzs u.tbls (λl i=>by
    obtain⟨k,d,f,a,h⟩:=i;rw[g]at a;cases a
    exact⟨_,d,f,j,h⟩) hok I.bare
def Inv.call{ch:Li Ad}(I:Inv X pQ O H s)(u:Un (frs X.stack) ch H H' s.heap h')(hok:HOk X.prog X.w H' h')(q:AllBare g')(f:∀ b∈ch,(b∈X.ex\/X.s₀.heap.objs.size<=b)/\b≠X.env.locals/\(∀ x c,X.env.cells.lookup x=aa c->c≠b)/\∀ p∈X.pn++pQ,p.1≠b) :
    Inv X pQ O H' { s with heap:=h',gens:=g',drawn:=d',toks:=t' }:=by
  obtain⟨m,⟨o,A,B,j,r⟩,_⟩:=id I.loc;obtain⟨sl,g⟩:=u.any j I.free λz=>(f _ z).2.1 rfl
  exact I.step (ch:=ch) f (λb o g t a e n=>u.keep b o e n (λz=>(aL.mp (I.stkSub b z)).elim g t) a) (λb o _ _ a e n=>u.any e n a) (λb o a e n=>u.free b o e n a) (λb o a e=>u.there b o e a) u.tups u.frzs u.tbls (λy l=>by
    obtain⟨v,h,i,d,k⟩:=l;rw[j]at d;cases d
    exact⟨_,h,i,g,k⟩) hok q
def Inv.turned{a:Ad}(I:Inv X pQ O H s)(k:∀ b o,b≠a->s.heap.get? b=aa o->h'.get? b=aa o)(i:H a=ab)(g:a≠X.env.locals)(y:a∈X.ex\/X.s₀.heap.objs.size<=a)(w:∀ x c,X.env.cells.lookup x=aa c->c≠a)(t:∀ p∈X.pn++pQ,p.1≠a):Inv X pQ O H { s with heap:=h',toks:=t' }:=by
  have f:∀ b u,H b=aa u->b≠a:=λb u e z=>by rw[z,i]at e;cases e
  refine I.step (g':=s.gens) (d':=s.drawn) (ch:=[a]) (λb l=>?_) (λb o _ _ d e _=>k b o (λz=>d (by simp[z])) e) (λb o _ _ d e _=>⟨o.slots,k b o (λz=>d (by simp[z])) e⟩) (λ_ _ _ _ n=>n)
    (λb o d e=>⟨o,k b o (λz=>d (by simp[z])) e⟩) (λ_ _ e=>e) (λ_ _ _ e=>e) (λb C e=>⟨#[],by rw[e];simp⟩) (λm j=>?_) (λb u e=>?_) I.bare
  . have e:b=a:=by simpa using l
    subst e;exact⟨y,g,w,t⟩
  . obtain⟨o,A,B,h,r⟩:=j
    exact⟨o,A,B,k _ o (Ne.symm g) h,r⟩
  . refine(I.hok b u e).stay (λc v d q=>k c v ?_ q) (λ_ q=>q) λ_ _ q=>q
    rcases d with z|z
    . rw[z];exact f b u e
    . exact f c _ z
def Inv.tok(I:Inv X pQ O H s)(t:Nat):Inv X pQ O H { s with toks:=t }:=I.un (h':=s.heap) (t':=t) Un.refl I.hok
theorem Inv.kept{t':Nat}(I:Inv X pQ O H s)(k:∀ b u,s.heap.get? b=aa u->h'.get? b=aa u):Inv X pQ O H { s with heap:=h',toks:=t' }:=I.un (Un.kept k) (I.hok.kept k)
theorem Inv.laid{a:Ad}{o:HO}{t':Nat}(I:Inv X pQ O H s)(k:∀ b u,s.heap.get? b=aa u->h'.get? b=aa u)(c:s.heap.objs.size<=a)(new:ObjOk X.prog X.w (upd H a o) h' a o) :
    Inv X pQ O (upd H a o) { s with heap:=h',toks:=t' }:=I.un (Un.laid k c (I.hok.fresh c)) (I.hok.laid k c new)
theorem Inv.write{x e:Ad}{o:HO}{t':Nat}(I:Inv X pQ O H s)(mu:Mut (H x))(c:e=x\/H e=aa (.own x))(k:∀ b u,b≠e->s.heap.get? b=aa u->h'.get? b=aa u)(a:∃ u,h'.get? e=aa u)(new:ObjOk X.prog X.w (upd H x o) h' x o):Inv X pQ O (upd H x o) { s with heap:=h',toks:=t' }:=I.un (Un.write mu c k a) (I.hok.write mu c k a new)
def Inv.pins_of{a:Li (Ad×Obj)}(I:Inv X pQ O H s)(h:∀ p∈a,s.heap.get? p.1=aa p.2/\H p.1=ab/\p.1≠X.env.locals/\p.1∉X.fs/\∀ v,p.2.data≠.cell v):Inv X a O H s:=
  ⟨I.ok,I.os,I.bare,I.base,I.loc,I.cell,I.free,I.freeC,λp b=>(aY.mp b).elim (λz=>I.pin p (dF _ z)) (h p),I.hok,I.len⟩
def nodup_ix(hN:N.Nodup){j:Nat}{x:Str}(a:N[i]?=aa x)(b:N[j]?=aa x):i=j:=by
  obtain⟨f,d⟩:=bG.mp a;obtain⟨e,c⟩:=bG.mp b;exact(List.getElem_inj hN).mp (d.trans c.symm)
def store_ok2{M:Model}{A:bv}{E:vL->Sd->Prop}{x:Str}{v:V}{u:vL}{Q:Unit->Sd->Prop}(I:Inv X pQ O H s)(hN:X.N.Nodup)(P:X.N[i]?=aa x)(t:Loc X.env.scope x)(r:RelV v u)(h:∀ s',Inv X pQ (O.set i (aa v)) H s'->(∃ a,Heap.SameBut a s.heap s'.heap/\(a=X.env.locals\/X.env.cells.lookup x=aa a))->Q () s')(hf:X.fn x=ae\/X.env.scope.names.lookup x=aa .local:=by first|exact .inl rfl|exact .inr rfl|assumption):a9 M A (storeName X.env x u) Q E s:=by
  obtain⟨m,hn,hl⟩:=id I.loc;have R:(X.env.scope.kind==.class||(X.env.scope.kind==.module&&X.env.locals != X.env.globals))=af:=by rw[I.ok.kind];rfl
  have D:i < O.length:=by rw[I.len];exact(bG.mp P).1
  have cne:=I.cne;have g:∀ {a:Ad}{h':bq},(∃ o,s.heap.get? a=aa o/\H a=ab)->Heap.SameBut a s.heap h'->HOk X.prog X.w H h':=λ{a h'} ha f b ob e=>by
    obtain⟨_,_,B⟩:=ha;refine(I.hok b ob e).stay (λc U hc q=>(f.2 c ?_).trans q) (λ_ q=>q) λ_ _ q=>q
    rintro rfl
    rcases hc with rfl|hc
    . rw[B]at e;cases e
    . rw[B]at hc;cases hc
  rcases t with hk|hk
  . refine wpAny_storeName_local hk hn (λh' hn' f=>?_) R
    obtain⟨oL,_,_,hoL,_⟩:=id hn;refine h _ ⟨I.ok,I.os,I.bare,⟨λb o e n J t=>?_,λb o e n J t=>?_,I.base.free,λb o e t=>?_,I.base.tups,I.base.frzs,I.base.tbls⟩,⟨_,hn',λj y Y l C e3=>?_⟩,λy c e=>?_,I.free,I.freeC,λp hp=>?_,g ⟨oL,hoL,I.free⟩ f,by simpa using I.len⟩ ⟨_,f,.inl rfl⟩
    . exact(f.2 b (bE (aT (aK e) I.ok.above))).trans (I.base.keep b o e n J t)
    . obtain⟨sl,l⟩:=I.base.slot b o e n J t
      exact⟨sl,(f.2 b (bE (aT (aK e) I.ok.above))).trans l⟩
    . obtain⟨o',l⟩:=I.base.there b o e t
      exact⟨o',(f.2 b (bE (aT (aK e) I.ok.above))).trans l⟩
    . by_cases F:j=i
      . subst F
        rw[P]at l;cases l
        rw[bH D]at C;cases C;exact⟨u,r,.inl ⟨hk,by simp⟩⟩
      . rw[bO (Ne.symm F)]at C
        obtain⟨Z,r',q⟩:=hl j y Y l C e3;refine⟨Z,r',?_⟩;rcases q with⟨k,e⟩|⟨k,c,e,z⟩
        . refine .inl ⟨k,?_⟩
          have:y≠x:=λe=>F (nodup_ix hN l (e ▸ P))
          simp[this,e]
        . exact .inr ⟨k,c,e,z.sameBut f (cne y c e)⟩
    . obtain⟨U,z⟩:=I.cell y c e
      exact⟨U,z.sameBut f (cne y c e)⟩
    . obtain⟨e,n,ne,nf,d⟩:=I.pin p hp
      exact⟨(f.2 p.1 ne).trans e,n,ne,nf,d⟩
  . have G:X.fn x=ae:=by
      rcases hf with z|z
      . exact z
      . rw[z]at hk;cases hk
    obtain⟨c,hc⟩:=I.ok.has x (.inl hk);obtain⟨U,z⟩:=I.cell x c hc;refine wpAny_storeName_cell I.ok.kind hk hc z (λh' T f=>?_)
    obtain⟨oc,L,K⟩:=id z;refine h { s with heap:=h' } ⟨I.ok,I.os,I.bare,⟨λb o e n J t=>?_,λb o e n J t=>?_,I.base.free,λb o e t=>?_,I.base.tups,I.base.frzs,I.base.tbls⟩,⟨m,hn.sameBut f (Ne.symm (cne x c hc)),λj y Y l C e3=>?_⟩,λy W e=>?_,I.free,I.freeC,λp hp=>?_,g ⟨oc,L,I.freeC x c hc⟩ f,by simpa using I.len⟩ ⟨c,f,.inr hc⟩
    . exact(f.2 b (bE (aT (aK e) (I.ok.cab x c G hc)))).trans (I.base.keep b o e n J t)
    . obtain⟨sl,l⟩:=I.base.slot b o e n J t
      exact⟨sl,(f.2 b (bE (aT (aK e) (I.ok.cab x c G hc)))).trans l⟩
    . obtain⟨o',l⟩:=I.base.there b o e t
      exact⟨o',(f.2 b (bE (aT (aK e) (I.ok.cab x c G hc)))).trans l⟩
    . by_cases F:j=i
      . subst F
        rw[P]at l;cases l
        rw[bH D]at C;cases C;exact⟨u,r,.inr ⟨.inl hk,c,hc,T⟩⟩
      . rw[bO (Ne.symm F)]at C
        obtain⟨Z,r',q⟩:=hl j y Y l C e3;refine⟨Z,r',?_⟩;rcases q with q|⟨k,W,e,z'⟩
        . exact .inl q
        . refine .inr ⟨k,W,e,z'.sameBut f ?_⟩
          rintro rfl
          exact F (nodup_ix hN l (I.ok.inj _ _ _ e hc ▸ P))
    . by_cases S:W=c
      . subst S;exact⟨_,T⟩
      . obtain⟨w2,z2⟩:=I.cell y W e
        exact⟨w2,z2.sameBut f S⟩
    . obtain⟨e,n,ne,nf,d⟩:=I.pin p hp
      refine⟨(f.2 p.1 ?_).trans e,n,ne,nf,d⟩;intro q;rw[q,L]at e;have q':oc=p.2:=aw e;exact d U (by rw[<-q'];exact K)
def store_ok{M:Model}{A:bv}{E:vL->Sd->Prop}{x:Str}{v:V}{u:vL}{Q:Unit->Sd->Prop}(I:Inv X pQ O H s)(hN:X.N.Nodup)(c:X.N[i]?=aa x)(b:Loc X.env.scope x)(r:RelV v u)(h:∀ a,Inv X pQ (O.set i (aa v)) H a->Q () a)(d:X.fn x=ae\/X.env.scope.names.lookup x=aa .local:=by first|exact .inl rfl|exact .inr rfl|assumption):a9 M A (storeName X.env x u) Q E s:=
  store_ok2 I hN c b r (λa e _=>h a e) d
def Inv.call'{s':Sd}{ch:Li Ad}(I:Inv X pQ O H s)(f:s'.os=s.os)(u:Un (frs X.stack) ch H H' s.heap s'.heap)(hok:HOk X.prog X.w H' s'.heap)(g:AllBare s'.gens)(a:∀ b∈ch,(b∈X.ex\/X.s₀.heap.objs.size<=b)/\b≠X.env.locals/\(∀ x c,X.env.cells.lookup x=aa c->c≠b)/\∀ p∈X.pn++pQ,p.1≠b):Inv X pQ O H' s':=by
  obtain⟨h',g',d',t',d⟩:=s';have e:d=s.os:=f;subst e;exact I.call (g':=g') (t':=t') (d':=d') u hok g a
end
abbrev XK:=vL->Ot Ad->Hp->Prop
abbrev St:=Li (Ot V)
abbrev VK:=V->Hp->Prop
abbrev TE:=St->Hp->VK->Prop
abbrev TT:=St->Hp->(Bool->Hp->Prop)->Prop
abbrev TA:=St->Hp->(Li V->Hp->Prop)->Prop
structure Ends where
  nx:St->Hp->Prop
  rt:VK
  bk:St->Hp->Prop:=λ_ _=>False
  ct:St->Hp->Prop:=λ_ _=>False
abbrev TS:=Ends->St->Hp->Prop
def EP(X:Cx)(c:Li (Ad×Obj))(O:St)(Q:VK)(u:vL)(b:Sd):Prop:=∃ v a,Inv X c O a b/\RelV v u/\Q v a
def TP(X:Cx)(d:Li (Ad×Obj))(O:St)(Q:Bool->Hp->Prop)(b:Bool)(c:Sd):Prop:=∃ a,Inv X d O a c/\Q b a
def AP(X:Cx)(d:Li (Ad×Obj))(O:St)(Q:Li V->Hp->Prop)(us:Li vL)(c:Sd):Prop:=∃ a b,Inv X d O b c/\Vals a us/\Q a b
def SP(X:Cx)(d:Li (Ad×Obj))(D:Ends)(f:Flow)(c:Sd):Prop:=
  match f with
  |.next=>∃ b a,Inv X d b a c/\D.nx b a
  |.brk=>∃ b a,Inv X d b a c/\D.bk b a
  |.cont=>∃ b a,Inv X d b a c/\D.ct b a
  |.ret u=>∃ v b a,Inv X d b a c/\RelV v u/\D.rt v a
def PE(X:Cx)(e:az)(t:TE):Prop:=
  ∀ (pQ:Li (Ad×Obj)) (s:Sd) (O:St) (H:Hp) (Q:VK),Inv X pQ O H s->t O H Q->a9 (bf X.prog X.w) X.A (eval e X.env) (EP X pQ O Q) X.xe s
def PT(X:Cx)(e:az)(t:TT):Prop:=
  ∀ (pQ:Li (Ad×Obj)) (s:Sd) (O:St) (H:Hp) (Q:Bool->Hp->Prop),Inv X pQ O H s->t O H Q->a9 (bf X.prog X.w) X.A (isTrue e X.env (eval e X.env)) (TP X pQ O Q) X.xe s
def PW(X:Cx)(e:az)(t:TT):Prop:=
  ∀ (whole:Sem vL) (pQ:Li (Ad×Obj)) (s:Sd) (O:St) (H:Hp) (Q:Bool->Hp->Prop),Inv X pQ O H s->t O H Q->a9 (bf X.prog X.w) X.A (isTrue e X.env whole) (TP X pQ O Q) X.xe s
variable{X:Cx}
def PW.pt{e:az}{t:TT}(h:PW X e t):PT X e t:=h _
def PA(X:Cx)(a:Li az)(t:TA):Prop:=
  ∀ (pos:Pos) (pQ:Li (Ad×Obj)) (s:Sd) (O:St) (H:Hp) (Q:Li V->Hp->Prop),Inv X pQ O H s->t O H Q->a9 (bf X.prog X.w) X.A (spliced (backTo pos (bh a X.env))) (AP X pQ O Q) X.xe s
def PS(X:Cx)(a:Stmt)(t:TS):Prop:=
  ∀ (pQ:Li (Ad×Obj)) (s:Sd) (O:St) (H:Hp) (D:Ends),Inv X pQ O H s->t D O H->a9 (bf X.prog X.w) X.A (exec a X.env) (SP X pQ D) X.xe s
def PSs(X:Cx)(a:Li Stmt)(t:TS):Prop:=
  ∀ (pQ:Li (Ad×Obj)) (s:Sd) (O:St) (H:Hp) (D:Ends),Inv X pQ O H s->t D O H->a9 (bf X.prog X.w) X.A (execs a X.env) (SP X pQ D) X.xe s
variable{M:Model}{A:bv}
def thn{b:Type}{t:Sem b}{Q c:b->Sd->Prop}{E:vL->Sd->Prop}{s:Sd}(h:a9 M A t Q E s)(d:∀ a s,Q a s->c a s):a9 M A t c E s:=bZ h d λ_ _ x=>x
variable{pQ:Li (Ad×Obj)}{s:Sd}{Q:vL->Sd->Prop}
variable{b:az}{ta tb:TE}{pos:Pos}
section
def tVar(i:Nat):TE:=λO H Q=>∃ v,O[i]?=aa (aa v)/\Q v H
def tC(v:V):TE:=λ_ H Q=>Q v H
def pe_var{x:Str}{d:Pos}(hN:X.N[i]?=aa x)(j:Vis X.env.scope x)(hd:(x==("__debug__":Str))=af:=by decide)(f:(x==("__classdict__":Str))=af:=by decide):PE X (.Name x d) (tVar i):=by
  intro pQ s O H Q I h;obtain⟨v,e,h⟩:=h;obtain⟨m,k,o⟩:=I.loc;obtain⟨u,r,l⟩:=o i x v hN e j;have b:EP X pQ O Q u s:=⟨v,H,I,r,h⟩;rcases l with⟨hk,n⟩|⟨hk,c,g,a⟩
  . exact wpAny_Name (wpAny_loadName_local I.ok.kind hk k n b) hd
  . rcases hk with hk|hk
    . exact wpAny_Name (wpAny_loadName_cell I.ok.kind hk g a b) hd
    . exact wpAny_Name (wpAny_loadName_free I.ok.kind hk g a b f) hd
def pe_int{i j pos}:PE X (.Constant (.int i) j pos) (tC (.int i)):=λ_ _ _ H _ I h=>wpAny_Constant_int ⟨.int i,H,I.tok _,⟨_,rfl⟩,h⟩
def pe_bl{b j pos}:PE X (.Constant (.bool b) j pos) (tC (.bl b)):=λ_ _ _ H _ I h=>Constant_bool ⟨.bl b,H,I,rfl,h⟩
def pe_non{j pos}:PE X (.Constant .none j pos) (tC .non):=λ_ _ _ H _ I h=>Constant_none ⟨.non,H,I,rfl,h⟩
def pe_str{x j pos}:PE X (.Constant (.str x) j pos) (tC (.str x)):=λ_ _ _ H _ I h=>Calls.Constant_str ⟨.str x,H,I.tok _,⟨_,rfl⟩,h⟩
def Gl(X:Cx)(x:Str):Prop:=X.env.kindOf x=aa .globalImplicit
def ld_glob{E:vL->Sd->Prop}{O:St}{x:Str}{u:vL}{a:Pos}(I:Inv X pQ O H s)(c:Gl X x)(b:X.mg x=aa u)(h:Q u s)(hd:(x==("__debug__":Str))=af:=by decide):a9 (bf X.prog X.w) X.A (eval (.Name x a) X.env) Q E s:=
  Calls.Name_function_global I.ok.kind c (Calls.loadGlobal_global (by rw[I.ok.glob];exact I.mod.glob.keeps I.bk) b h) hd
def ld_blt{E:vL->Sd->Prop}{O:St}{x:Str}{u:vL}{a:Pos}(I:Inv X pQ O H s)(e:Gl X x)(d:X.mg x=ab)(b:bj x=aa u)(h:Q u s)(c:x ≠ "__name__":=by decide)(hd:(x==("__debug__":Str))=af:=by decide):a9 (bf X.prog X.w) X.A (eval (.Name x a) X.env) Q E s:=by
  obtain⟨i,g,f⟩:=I.mod.blt;exact Calls.Name_function_global I.ok.kind e (Calls.loadGlobal_builtin (by rw[I.ok.glob];exact I.mod.glob.keeps I.bk) d (by rw[I.ok.blt];exact g.keeps I.bk) ((f x c).trans b) h) hd
def pe_glob{x:Str}{v:V}{u:vL}{a:Pos}(c:Gl X x)(b:X.mg x=aa u)(r:RelV v u)(hd:(x==("__debug__":Str))=af:=by decide):PE X (.Name x a) (tC v):=
  λ_ _ _ H _ I h=>ld_glob I c b ⟨v,H,I,r,h⟩ hd
def pe_bltn{x:Str}{v:V}{u:vL}{a:Pos}(e:Gl X x)(d:X.mg x=ab)(b:bj x=aa u)(r:RelV v u)(c:x ≠ "__name__":=by decide)(hd:(x==("__debug__":Str))=af:=by decide):PE X (.Name x a) (tC v):=
  λ_ _ _ H _ I h=>ld_blt I e d b ⟨v,H,I,r,h⟩ c hd
variable{a:az}
def PC(X:Cx)(e:CmpOp)(a b:az)(t:TE):Prop:=
  ∀ (pQ:Li (Ad×Obj)) (s:Sd) (O:St) (H:Hp) (Q:VK),Inv X pQ O H s->t O H Q->
    a9 (bf X.prog X.w) X.A (eval a X.env) (λv d=>a9 (bf X.prog X.w) X.A (eval b X.env) (λu c=>a9 (bf X.prog X.w) X.A (bt e v u) (EP X pQ O Q) X.xe c) X.xe d) X.xe s
def tB(t:TE):TT:=λO H Q=>t O H λx a=>∃ c,x=.bl c/\Q c a
def pt_val{e:az}{t:TE}(h:PE X e t)(g:∀ a,isTrue e X.env a=(do let v <-a;standAt e.pos;holding [v] (truthy v)):=by intro _;rfl):PT X e (tB t):=by
  intro pQ s O H Q I f;refine isTrue_plain (thn (h pQ s O H _ I f) λv s1 ⟨x,j,i,b,c⟩=>?_) (g _)
  obtain⟨d,rfl,q⟩:=c;cases b;exact wpAny_truthy_bool ⟨j,i,q⟩
variable{tA tB':TT}{rest:Li az}
def tAnd(t u:TT):TT:=λO H Q=>t O H λc a=>if c=ae then u O a Q else Q af a
def tOr(t u:TT):TT:=λO H Q=>t O H λc a=>if c=ae then Q ae a else u O a Q
def tNot(t:TT):TT:=λO H Q=>t O H λc a=>Q (!c) a
def pw_and1(b:PT X a tA):PW X (.BoolOp .And [a] pos) tA:=by
  intro d pQ s O H Q I h;refine isTrue_and (thn (b pQ s O H Q I h) λc s1 e=>?_)
  cases c with
  |true=>exact isTrue_and_nil e
  |false=>exact e
def pw_or1(b:PT X a tA):PW X (.BoolOp .Or [a] pos) tA:=by
  intro d pQ s O H Q I h;refine isTrue_or (thn (b pQ s O H Q I h) λc s1 e=>?_)
  cases c with
  |false=>exact isTrue_or_nil e
  |true=>exact e
def pw_and(j:PT X a tA)(i:PW X (.BoolOp .And (b :: rest) pos) tB'):PW X (.BoolOp .And (a :: b :: rest) pos) (tAnd tA tB'):=by
  intro g pQ s O H Q I h;refine isTrue_and (thn (j pQ s O H _ I h) λc s1 ⟨f,e,d⟩=>?_)
  cases c with
  |true=>exact i g pQ s1 O f Q e d
  |false=>exact⟨f,e,d⟩
def pw_or(j:PT X a tA)(i:PW X (.BoolOp .Or (b :: rest) pos) tB'):PW X (.BoolOp .Or (a :: b :: rest) pos) (tOr tA tB'):=by
  intro g pQ s O H Q I h;refine isTrue_or (thn (j pQ s O H _ I h) λc s1 ⟨f,e,d⟩=>?_)
  cases c with
  |true=>exact⟨f,e,d⟩
  |false=>exact i g pQ s1 O f Q e d
def pt_not(b:PT X a tA):PT X (.UnaryOp .Not a pos) (tNot tA):=by
  intro pQ s O H Q I h;exact isTrue_not (b pQ s O H (λc d=>Q (!c) d) I h)
def tAndV(ta tb:TE):TE:=λO H Q=>ta O H λx a=>∃ c,x=.bl c/\if c=ae then tb O a Q else Q (.bl af) a
def tOrV(ta tb:TE):TE:=λO H Q=>ta O H λx a=>∃ c,x=.bl c/\if c=ae then Q (.bl ae) a else tb O a Q
def tNotV(ta:TE):TE:=λO H Q=>ta O H λx a=>∃ c,x=.bl c/\Q (.bl (!c)) a
def pe_one{op}{t:TE}(h:PE X a t):PE X (.BoolOp op [a] pos) t:=λpQ s O H Q I b=>BoolOp_one (h pQ s O H Q I b)
def pe_and(j:PE X a ta)(i:PE X (.BoolOp .And (b :: rest) pos) tb):PE X (.BoolOp .And (a :: b :: rest) pos) (tAndV ta tb):=by
  intro pQ s O H Q I h;refine BoolOp_and (thn (j pQ s O H _ I h) λv s1 ⟨x,f,e,g,d⟩=>?_)
  obtain⟨c,rfl,d⟩:=d;cases g;refine wpAny_truthy_bool ?_;cases c with
  |true=>exact i pQ s1 O f Q e d
  |false=>exact⟨.bl af,f,e,rfl,d⟩
def pe_or(j:PE X a ta)(i:PE X (.BoolOp .Or (b :: rest) pos) tb):PE X (.BoolOp .Or (a :: b :: rest) pos) (tOrV ta tb):=by
  intro pQ s O H Q I h;refine BoolOp_or (thn (j pQ s O H _ I h) λv s1 ⟨x,f,e,g,d⟩=>?_)
  obtain⟨c,rfl,d⟩:=d;cases g;refine wpAny_truthy_bool ?_;cases c with
  |false=>exact i pQ s1 O f Q e d
  |true=>exact⟨.bl ae,f,e,rfl,d⟩
def pe_not(e:PE X a ta):PE X (.UnaryOp .Not a pos) (tNotV ta):=by
  intro pQ s O H Q I h;refine UnaryOp_ (thn (e pQ s O H _ I h) λv s1 ⟨x,g,f,d,b⟩=>?_)
  obtain⟨c,rfl,b⟩:=b;cases d;exact not_of (wpAny_truthy_bool ⟨.bl (!c),g,f,rfl,b⟩)
def tIf(t:TT)(ta tb:TE):TE:=λO H Q=>t O H λc a=>if c=ae then ta O a Q else tb O a Q
def pe_ifExp{c:az}(i:PT X c tA)(k:PE X a ta)(j:PE X b tb):PE X (.IfExp c a b pos) (tIf tA ta tb):=by
  intro pQ s O H Q I h;refine wpAny_IfExp (thn (i pQ s O H _ I h) λd s1 ⟨g,f,e⟩=>?_)
  cases d with
  |true=>exact k pQ s1 O g Q f e
  |false=>exact j pQ s1 O g Q f e
end
def SqL(K:Fg)(H:Hp)(a:Ad)(xs:Li V):Prop:=
  Rd H a (.lst xs) \/
    ∃ (o:Obj) (its:Array vL) (n:Nat),K.lookup a=aa o/\o.cls=.type "list"/\o.dict=ab/\o.data=.seq its n/\its.size<=ay/\Vals xs its.toList
def SqT(K:Fg)(H:Hp)(a:Ad)(xs:Li V):Prop:=
  Rd H a (.tup xs) \/
    ∃ (o:Obj) (its:Array vL) (n:Nat),K.lookup a=aa o/\o.cls=.type "tuple"/\o.data=.seq its n/\its.size<=ay/\Vals xs its.toList
noncomputable def absV:vL->Ot V
  |.none=>aa .non
  |.bool b=>aa (.bl b)
  |.int i _=>aa (.int i)
  |.str x _=>aa (.str x)
  |.bytes b _=>aa (.byt b)
  |.float b _=>aa (.flt b)
  |.ref a=>aa (.ref a)
  |.type n=>aa (.ty n)
  |_=>ab
def RelV.abs{x:V}{u:vL}(r:RelV x u):absV u=aa x:=by
  cases x with
  |non=>cases r;rfl
  |bl _=>cases r;rfl
  |int _=>obtain⟨t,rfl⟩:=r;rfl
  |str _=>obtain⟨t,rfl⟩:=r;rfl
  |byt _=>obtain⟨t,rfl⟩:=r;rfl
  |flt _=>obtain⟨t,rfl⟩:=r;rfl
  |ref _=>cases r;rfl
  |ty _=>cases r;rfl
theorem RelV.inj{x y:V}{u:vL}(r:RelV x u)(q:RelV y u):x=y:=aw (r.abs.symm.trans q.abs)
theorem Vals.inj:∀ {xs ys:Li V}{us:Li vL},Vals xs us->Vals ys us->xs=ys
  |_,_,_,.nil,.nil=>rfl
  |_,_,_,.cons r t,.cons a t'=>by rw[r.inj a,Vals.inj t t']
variable{K:Fg}
variable{O:St}{xs:Li V}
section
variable{ys:Li V}
def SqT.of(h:H a=aa (.tup xs)):SqT K H a xs:=.inl (.inl h)
def Inv.list(I:Inv X pQ O H s)(h:SqL X.K H a xs):∃ b:Li vL,Vals xs b/\PlainL s.heap a b.toArray/\xs.length<=ay:=by
  rcases h with h|⟨o,b,n,d,g,f,c,i,r⟩
  . obtain⟨z,b,n,r,e⟩:=h.ok I.hok
    exact⟨b,r,⟨_,n,e,rfl,rfl,rfl⟩,z⟩
  . refine⟨b.toList,r,⟨o,n,I.kIn a o d,g,f,by simpa using c⟩,?_⟩
    have e:=r.length;simp only[eN]at e;omega
def Inv.tuple(I:Inv X pQ O H s)(h:SqT X.K H a xs):∃ b:Li vL,Vals xs b/\IsTup s.heap a b.toArray/\xs.length<=ay:=by
  rcases h with h|⟨o,b,n,d,f,c,g,r⟩
  . obtain⟨z,b,r,p⟩:=h.ok I.hok
    exact⟨b,r,p,z⟩
  . refine⟨b.toList,r,⟨o,I.kIn a o d,f,n,by simpa using c⟩,?_⟩
    have e:=r.length;simp only[eN]at e;omega
def Inv.list_inj(I:Inv X pQ O H s)(h:SqL X.K H a xs)(i:SqL X.K H a ys):xs=ys:=by
  obtain⟨c,r,⟨o,n,e,_,_,d⟩,_⟩:=I.list h;obtain⟨b,g,⟨k,l,f,_,_,d'⟩,_⟩:=I.list i;rw[e]at f;cases f
  rw[d]at d'
  injection d' with j _
  have:c=b:=by simpa using av Array.toList j
  subst this;exact r.inj g
def Inv.tuple_inj(I:Inv X pQ O H s)(h:SqT X.K H a xs)(i:SqT X.K H a ys):xs=ys:=by
  obtain⟨c,r,⟨o,e,_,n,d⟩,_⟩:=I.tuple h;obtain⟨b,g,⟨k,f,_,l,d'⟩,_⟩:=I.tuple i;rw[e]at f;cases f
  rw[d]at d'
  injection d' with j _
  have:c=b:=by simpa using av Array.toList j
  subst this;exact r.inj g
end
noncomputable abbrev Cx.wish(X:Cx)(E:vL->Sd->Prop):Cx:={ X with xe:=E }
noncomputable abbrev Cx.nox(X:Cx):Cx:=X.wish λ_ _=>False
theorem Cx.Ok.wish(ok:X.Ok)(E:vL->Sd->Prop):(X.wish E).Ok:=
  ⟨ok.mod,ok.kind,ok.glob,ok.blt,ok.above,ok.inj,ok.has,ok.cab,ok.hd,ok.frames,ok.stk,ok.exf,ok.bs,ok.bsz,ok.noex,ok.exfs,ok.funs,ok.frf⟩
def Cx.Ok.unwish{E:vL->Sd->Prop}(ok:(X.wish E).Ok):X.Ok:=
  ⟨ok.mod,ok.kind,ok.glob,ok.blt,ok.above,ok.inj,ok.has,ok.cab,ok.hd,ok.frames,ok.stk,ok.exf,ok.bs,ok.bsz,ok.noex,ok.exfs,ok.funs,ok.frf⟩
variable{E:vL->Sd->Prop}
theorem Inv.wish(I:Inv X pQ O H s)(E:vL->Sd->Prop):Inv (X.wish E) pQ O H s:=⟨I.ok.wish E,I.os,I.bare,I.base,I.loc,I.cell,I.free,I.freeC,I.pin,I.hok,I.len⟩
theorem Inv.unwish(I:Inv (X.wish E) pQ O H s):Inv X pQ O H s:=⟨I.ok.unwish,I.os,I.bare,I.base,I.loc,I.cell,I.free,I.freeC,I.pin,I.hok,I.len⟩
theorem SP.unwish{D:Ends}{f:Flow}{c:Sd}(h:SP (X.wish E) pQ D f c):SP X pQ D f c:=by
  cases f with
  |next=>obtain⟨a,b,I,q⟩:=h;exact⟨a,b,I.unwish,q⟩
  |brk=>obtain⟨a,b,I,q⟩:=h;exact⟨a,b,I.unwish,q⟩
  |cont=>obtain⟨a,b,I,q⟩:=h;exact⟨a,b,I.unwish,q⟩
  |ret u=>obtain⟨v,a,b,I,r,q⟩:=h;exact⟨v,a,b,I.unwish,r,q⟩
theorem PSs.nox{a:Li Stmt}{t:TS}(h:PSs X.nox a t):PSs X a t:=λpQ s O H D I b=>
  bZ (h pQ s O H D (I.wish _) b) (λ_ _ q=>q.unwish) λ_ _ z=>False.elim z
variable{e:az}{te:TE}
section
variable{st:Stmt}{rest:Li Stmt}{t u:TS}
def tNext:TS:=λD O H=>D.nx O H
def tSeq(t u:TS):TS:=λD O H=>t { D with nx:=u D } O H
def pss_nil:PSs X [] tNext:=λ_ _ O H _ I h=>wpAny_execs_nil ⟨O,H,I,h⟩
def pss_cons(b:PS X st t)(a:PSs X rest u):PSs X (st :: rest) (tSeq t u):=by
  intro pQ s O H D I h;refine wpAny_execs_cons (thn (b pQ s O H { D with nx:=u D } I h) λf s1 q=>?_)
  cases f with
  |next=>
    obtain⟨c,e,d,q⟩:=q;exact a pQ s1 c e D d q
  |ret v=>exact q
  |brk=>exact q
  |cont=>exact q
def tBreak:TS:=λD O H=>D.bk O H
def tCont:TS:=λD O H=>D.ct O H
def ps_pass:PS X (.Pass pos) tNext:=λ_ _ O H _ I h=>wpAny_Pass ⟨O,H,I,h⟩
def ps_break:PS X (.Break pos) tBreak:=λ_ _ O H _ I h=>wpAny_Break ⟨O,H,I,h⟩
def ps_continue:PS X (.Continue pos) tCont:=λ_ _ O H _ I h=>wpAny_Continue ⟨O,H,I,h⟩
def Inv.quiet{O:St}(I:Inv X pQ O H s):interactive X.env=af:=by simp[interactive,I.ok.kind]
def tDrop(te:TE):TS:=λD O H=>te O H λ_ a=>D.nx O a
def ps_expr(c:PE X e te)(b:swapsWith e ab pos.line X.env=pure af:=by rfl):PS X (.Expr e pos) (tDrop te):=by
  intro pQ s O H D I h;exact wpAny_Expr_any (thn (c pQ s O H _ I h) λv s1 ⟨x,f,d,g,a⟩=>⟨O,f,d,a⟩) I.quiet b
def tRet(te:TE):TS:=λD O H=>te O H D.rt
def ps_ret(c:PE X e te):PS X (.Return (aa e) pos) (tRet te):=by
  intro pQ s O H D I h;exact wpAny_Return_some (thn (c pQ s O H _ I h) λv s1 ⟨x,f,d,a,b⟩=>⟨x,O,f,d,a,b⟩)
def tIfS(c:TT)(t u:TS):TS:=λD O H=>c O H λb a=>if b=ae then t D O a else u D O a
def ps_if{c:az}{a b:Li Stmt}{e:TT}(j:PT X c e)(l:PSs X a t)(k:PSs X b u):PS X (.If c a b pos) (tIfS e t u):=by
  intro pQ s O H D I h;refine wpAny_If (thn (j pQ s O H _ I h) λd s1 ⟨i,g,f⟩=>?_)
  cases d with
  |true=>exact l pQ s1 O i D g f
  |false=>exact k pQ s1 O i D g f
end
abbrev TG:=V->St->Hp->(St->Hp->Prop)->Prop
abbrev TGs:=Li V->St->Hp->(St->Hp->Prop)->Prop
def PG(X:Cx)(a:az)(t:TG):Prop:=
  ∀ (pQ:Li (Ad×Obj)) (s:Sd) (O:St) (H:Hp) (v:V) (u:vL) (Q:St->Hp->Prop),Inv X pQ O H s->RelV v u->t v O H Q->
    a9 (bf X.prog X.w) X.A (assign a X.env u) (λ_ d=>∃ b c,Inv X pQ b c d/\Q b c) X.xe s
def PGs(X:Cx)(c:Li az)(t:TGs):Prop:=
  ∀ (pQ:Li (Ad×Obj)) (s:Sd) (O:St) (H:Hp) (vs:Li V) (us:Li vL) (Q:St->Hp->Prop),Inv X pQ O H s->Vals vs us->t vs O H Q->
    a9 (bf X.prog X.w) X.A (assignInOrder ((assignEach c X.env).map (·.2)) us) (λ_ d=>∃ a b,Inv X pQ a b d/\Q a b) X.xe s
abbrev TSet:=V->V->V->Hp->(Hp->Prop)->Prop
def PSet(X:Cx)(t:TSet):Prop:=
  ∀ (pQ:Li (Ad×Obj)) (s:Sd) (O:St) (H:Hp) (o i v:V) (ov iv u:vL) (Q:Hp->Prop),Inv X pQ O H s->RelV o ov->RelV i iv->RelV v u->t o i v H Q->
    a9 (bf X.prog X.w) X.A (setItem ov iv u) (λ_ b=>∃ a,Inv X pQ O a b/\Q a) X.xe s
variable{es:Li az}{n:Nat}{tg:az}
def gName(i:Nat):TG:=λv O H Q=>Q (O.set i (aa v)) H
def pg_name{x:Str}(hN:X.N.Nodup)(b:X.N[i]?=aa x)(a:Loc X.env.scope x)(c:X.fn x=ae\/X.env.scope.names.lookup x=aa .local:=by first|exact .inl rfl|exact .inr rfl|assumption):PG X (.Name x pos) (gName i):=by
  intro pQ s O H v u Q I r h;exact wpAny_assign_Name (store_ok I hN b a r (λe d=>⟨_,H,d,h⟩) c)
def gNil:TGs:=λa O H Q=>a=[]/\Q O H
def gCons(t:TG)(u:TGs):TGs:=λa O H Q=>∃ v r,a=v :: r/\t v O H λb c=>u r b c Q
def pgs_nil:PGs X [] gNil:=by
  intro pQ s O H a us Q I r h;obtain⟨e,h⟩:=h;subst e;cases r;exact assignInOrder_nil ⟨O,H,I,h⟩
def pgs_cons{e:az}{t:TG}{u:TGs}(g:PG X e t)(f:PGs X es u)(d:(assignEach (e :: es) X.env).map (·.2)=assign e X.env :: (assignEach es X.env).map (·.2):=by rfl):PGs X (e :: es) (gCons t u):=by
  intro pQ s O H l us Q I r h;obtain⟨v,m,i,h⟩:=h;subst i;cases r with
  |cons r b=>
    rw[d];refine assignInOrder_cons (thn (g pQ s O H _ _ _ I r h) λ_ s1 ⟨a,k,j,c⟩=>?_)
    exact f pQ s1 a k _ _ Q j b c
def gTup(K:Fg)(n:Nat)(t:TGs):TG:=λv O H Q=>∃ a xs,v=.ref a/\SqT K H a xs/\xs.length=n/\t xs O H Q
def pg_tup{k:Nat}{t:TGs}(p:X.calm=ae)(h:PGs X es t)(l:(assignEach es X.env).length=n:=by rfl)(d:(assignEach es X.env).findIdx? (·.1)=ab:=by rfl):PG X (.Tuple es k pos) (gTup X.K n t):=by
  intro pQ s O H v u Q I r c;obtain⟨a,xs,w,j,m,c⟩:=c;subst w;cases r;obtain⟨f,rv,i,y⟩:=I.tuple j;refine assign_Tuple_tuple (I.ok.hd p) i (by simp[l,<-m,rv.length]) d λq g=>?_
  have x:Inv X pQ O H { s with heap:=q }:=I.kept (t':=s.toks) λb o e=>g b o (bE (aK e)) e
  exact h pQ _ O H xs _ Q x (by simpa using rv) c
def gSub(a b:TE)(t:TSet):TG:=λv O H Q=>a O H λo e=>b O e λi d=>t o i v d λc=>Q O c
def pg_sub{o i:az}{c d:TE}{t:TSet}(n:PE X o c)(p:PE X i d)(m:PSet X t)(q:∀ v,assign (.Subscript o i pos) X.env v=(do
      let a <-holding [v] (eval o X.env)
      let b <-holding [v,a] (eval i X.env)
      standAt pos
      holding [v,a,b] (setItem a b v)
      release [v,a,b] []):=by intro _;rfl):PG X (.Subscript o i pos) (gSub c d t):=by
  intro pQ s O H v u Q I r h;rw[q];refine aA (wpAny_holding (thn (n pQ s O H _ I h) λa s1 ⟨x,D,A,g,l⟩=>?_))
  refine aA (wpAny_holding (thn (p pQ s1 O D _ A l) λb e ⟨y,C,z,f,k⟩=>?_))
  refine aA (wpAny_standAt (aA (wpAny_holding (thn (m pQ e O C x y v a b u _ z g f r k) λ_ E ⟨B,w,j⟩=>?_))))
  exact wpAny_release ⟨O,B,w,j⟩
def tAsg(a:TE)(g:TG):TS:=λD O H=>a O H λx b=>g x O b D.nx
def ps_asg{e:az}{a:TE}{g:TG}(j:PE X e a)(i:PG X tg g)(f:swapsWithSole [tg] e pos.line X.env=pure af:=by rfl)(d:swappedStores [tg] e X.env=pure ab:=by rfl)(k:(assignEach [tg] X.env).map (·.2)=[assign tg X.env]:=by rfl):PS X (.Assign [tg] e pos) (tAsg a g):=by
  intro pQ s O H D I h;refine wpAny_Assign_stores (thn (j pQ s O H _ I h) λv s1 ⟨x,m,l,b,c⟩=>?_) f d
  rw[k];exact thn (i pQ s1 O m x v _ l b c) λ_ n q=>q
def ps_set{x:Str}{e:az}{b:TE}{a:Pos}(hN:X.N.Nodup)(j:X.N[i]?=aa x)(f:Loc X.env.scope x)(l:PE X e b)(g:swapsWith e (aa (.Name x a)) pos.line X.env=pure af:=by rfl)(k:X.fn x=ae\/X.env.scope.names.lookup x=aa .local:=by first|exact .inl rfl|exact .inr rfl|assumption) :
    PS X (.Assign [.Name x a] e pos) (tAsg b (gName i)):=by
  intro pQ s O H D I h;refine wpAny_Assign_Name (thn (l pQ s O H _ I h) λv s1 ⟨y,o,n,c,d⟩=>?_) g
  exact store_ok n hN j f c (λp m=>⟨_,o,m,d⟩) k
variable{body:Li Stmt}
def tWhile(c:TT)(g:TS):TS:=λD O H=>∃ W:Nat->St->Hp->Prop,(∃ m,W m O H)/\∀ m O H,W m O H->
  c O H λb e=>if b=ae then ∃ N:St->Hp->Prop,(∀ d f,N d f->∃ a,a < m/\W a d f)/\g { D with nx:=N,ct:=N,bk:=D.nx } O e else D.nx O e
def ps_while{c:az}{p:TT}{q:TS}(r:PassesOwn (bf X.prog X.w) X.A X.env X.xe)(K:PT X c p)(L:PSs X body q):PS X (.While c body [] pos) (tWhile p q):=by
  intro pQ s O H D I h;obtain⟨W,⟨J,E⟩,turn⟩:=h;refine wpAny_While (codeAny_whileLoop (λn G=>∃ u B,Inv X pQ u B G/\W n u B) ?_ J ⟨O,H,I,E⟩)
  rintro n s1 ⟨d,z,M,C⟩
  refine wpAny_passesOwn r (thn (K pQ s1 d z _ M (turn n d z C)) λb F ⟨y,x,i⟩=>?_)
  cases b with
  |true=>
    obtain⟨N,t,i⟩:=i;rw[aq rfl];refine wpAny_passesOwn r (thn (L pQ F d y _ x i) λf P g=>?_)
    cases f with
    |next=>
      obtain⟨a,e,o,k⟩:=g;obtain⟨l,m,j⟩:=t a e k;exact⟨l,m,a,e,o,j⟩
    |cont=>
      obtain⟨a,e,o,k⟩:=g;obtain⟨l,m,j⟩:=t a e k;exact⟨l,m,a,e,o,j⟩
    |brk=>exact g
    |ret v=>exact g
  |false=>
    rw[ar Bf];exact wpAny_execs_nil ⟨d,y,x,i⟩
structure It where
  go:Nat->Hp->Prop
  yld:Nat->Hp->V->Hp->Prop
  stop:Nat->Hp->Prop
def FpOk(X:Cx)(pQ:Li (Ad×Obj))(H:Hp)(b:Ad):Prop:=
  H b=ab/\b≠X.env.locals/\b∉X.fs/\(b∈X.ex\/X.s₀.heap.objs.size<=b)/\(∀ x c,X.env.cells.lookup x=aa c->c≠b)/\∀ p∈X.pn++pQ,p.1≠b
def Inv.fpOk{O:St}{d:Hp}{b:Ad}(I:Inv X pQ O H s)(a:s.heap.objs.size<=b)(g:d b=ab):FpOk X pQ d b:=by
  refine⟨g,Nat.ne_of_gt (aT I.lt a),I.nofs a,.inr (aJ I.sz a),λx c e z=>?_,λp f z=>?_⟩
  . obtain⟨v,q⟩:=I.cell x c e
    exact au (aT q.lt (by rw[z];exact a)) (cJ _)
  . exact au (aT (aK (I.pin p f).1) (by rw[z];exact a)) (cJ _)
structure Turn(P:bg)(w:br)(K:Fg)(tg:az)(J:It)(fp:List Addr)(it:Addr)(tn:Nat->bq->Prop):Prop where
  mem:it∈fp
  obj:∀ i h,tn i h->∀ b∈fp,∃ o,h.get? b=aa o/\∀ v,o.data≠.cell v
  keep:∀ i h h',tn i h->(∀ b∈fp,∀ o,h.get? b=aa o->h'.get? b=aa o)->tn i h'
  item:∀ (X:Cx),X.prog=P->X.w=w->X.K=K->X.calm=ae->∀ (i:Nat) (pQ:List (Addr×Obj)) (s:Shared) (O:St) (H:Hp) (E:Value->Shared->Prop),Inv X pQ O H s->(∀ b∈fp,FpOk X pQ H b)->tn i s.heap->J.go i H->
    a9 (bf P w) X.A (pyNext (.ref it)) (λr s1=>∃ u,r=aa u /\
      a9 (bf P w) X.A (letOwnedTupleGo tg (.ref it) u) (λ_ s2=>∃ x H',Inv X pQ O H' s2/\RelV x u/\J.yld i H x H'/\tn (i+1) s2.heap/\∀ b∈fp,H' b=ab) E s1) E s
  done:∀ (X:Cx),X.prog=P->X.w=w->X.K=K->X.calm=ae->∀ (i:Nat) (pQ:List (Addr×Obj)) (s:Shared) (O:St) (H:Hp) (E:Value->Shared->Prop),Inv X pQ O H s->(∀ b∈fp,FpOk X pQ H b)->tn i s.heap->J.stop i H->
    a9 (bf P w) X.A (pyNext (.ref it)) (λr s1=>r=ab/\Inv X pQ O H s1) E s
  self:∀ (A:bv) (i:Nat) (s:Shared) (Q:Value->Shared->Prop) (E:Value->Shared->Prop),tn i s.heap->Q (.ref it) s->a9 (bf P w) A (pyIter (.ref it)) Q E s
abbrev TI:=St->Hp->(It->Hp->Prop)->Prop
def PIE(X:Cx)(pQ:Li (Ad×Obj))(O:St)(tg:az)(R:It->Hp->Prop)(a:vL)(c:Sd):Prop:=
  ∃ (it:Ad) (fp:Li Ad) (tn:Nat->bq->Prop) (J:It) (H':Hp),a=.ref it/\Inv X pQ O H' c/\Turn X.prog X.w X.K tg J fp it tn/\tn 0 c.heap/\(∀ b∈fp,FpOk X pQ H' b)/\R J H'
def PI(X:Cx)(tg iter:az)(a:TI):Prop:=
  ∀ (pQ:Li (Ad×Obj)) (s:Sd) (O:St) (H:Hp) (R:It->Hp->Prop),Inv X pQ O H s->a O H R->
    a9 (bf X.prog X.w) X.A (eval iter X.env) (λv s1=>a9 (bf X.prog X.w) X.A (pyIter v) (PIE X pQ O tg R) X.xe s1) X.xe s
def go_of{E:vL->Sd->Prop}{c:Ad}{u:vL}{o:Obj}{n:String}{b:Array vL}{Q:Unit->Sd->Prop}(d:s.heap.get? c=aa o)(f:o.cls=.type n)(hd:o.data=.fields b)(e:["enumerate", "zip", "dict_itemiterator", "dict_reverseitemiterator", "odict_iterator", "itertools.zip_longest", "itertools.pairwise"].contains n=af)(a:Q () s):a9 M A (letOwnedTupleGo tg (.ref c) u) Q E s:=by
  unfold letOwnedTupleGo;cases tg<;>first
    |exact aE a
    | (cases u<;>first
        |exact aE a
        | (refine aA (wpAny_load d ?_)
           rw[f,hd];show a9 M A (if (["enumerate", "zip", "dict_itemiterator", "dict_reverseitemiterator", "odict_iterator", "itertools.zip_longest", "itertools.pairwise"].contains n&&b[0]?==aa (rawInt _))=ae then _ else _) Q E s
           rw[ar (by intro h;rw[e,eO]at h;cases h)]
           exact aE a))
noncomputable def Itl(K:Fg)(a:Ad):It:=
  ⟨λi H=>∃ xs x,SqL K H a xs/\xs[i]?=aa x,λi H x b=>b=H/\∀ xs,SqL K H a xs->xs[i]?=aa x,λi H=>∃ xs,SqL K H a xs/\xs.length<=i⟩
noncomputable def Itt(K:Fg)(a:Ad):It:=
  ⟨λi H=>∃ xs x,SqT K H a xs/\xs[i]?=aa x,λi H x b=>b=H/\∀ xs,SqT K H a xs->xs[i]?=aa x,λi H=>∃ xs,SqT K H a xs/\xs.length<=i⟩
noncomputable def Itr(lo:Int)(n:Nat):It:=⟨λi _=>i < n,λi H x a=>a=H/\x=.int (lo+i),λi _=>n<=i⟩
def turn_list{P:bg}(a g:Ad):Turn P w K tg (Itl K a) [g] g (λi h=>h.IsListIter g a i) where
  mem:=by simp
  obj:=λi h f b j=>by
    have e:b=g:=by simpa using j
    subst e;obtain⟨o,e,c,d⟩:=f;exact⟨o,e,λv z=>by rw[d]at z;cases z⟩
  keep:=λi h q f k=>f.at λo e=>k g (by simp) o e
  item:=by
    intro X B y C M i pQ s O H E I n f A;subst B y C;obtain⟨xs,x,m,t⟩:=A;obtain⟨r,rv,p,Q⟩:=I.list m;obtain⟨u,S,N⟩:=rv.get t;obtain⟨L,J,T,G,F,D⟩:=n g (by simp)
    refine wpAny_pyNext_list_item f p.isList (x:=u) (by simpa using S) λq l sb=>?_
    have V:Inv X pQ O H { s with heap:=q }:=I.turned (t':=s.toks) (λb o j e=>(sb.2 b j).trans e) L J G F D
    obtain⟨o,e,c,d⟩:=id l;exact⟨u,rfl,go_of (s:={ s with heap:=q }) e c d (by decide) ⟨x,H,V,N,⟨rfl,λW R=>by rw[I.list_inj R m];exact t⟩,l,λb j=>(n b j).1⟩⟩
  done:=by
    intro X B y C M i pQ s O H E I n f A;subst B y C;obtain⟨xs,m,t⟩:=A;obtain⟨r,rv,p,Q⟩:=I.list m;obtain⟨L,J,T,G,F,D⟩:=n g (by simp)
    have Y:=rv.length;exact wpAny_pyNext_list_end (I.ok.hd M) f p.isList (by simp;omega) λq U=>⟨rfl,I.turned (t':=s.toks) (λb o j e=>U b o j e) L J G F D⟩
  self:=λ_ _ _ _ _ f h=>wpAny_pyIter_listiter f h
def turn_tuple{P:bg}(a j:Ad):Turn P w K tg (Itt K a) [j] j (λi h=>h.IsTupleIter j a i) where
  mem:=by simp
  obj:=λi h f b l=>by
    have e:b=j:=by simpa using l
    subst e;obtain⟨o,e,c,d⟩:=f;exact⟨o,e,λv z=>by rw[d]at z;cases z⟩
  keep:=λi h r f k=>f.at λo e=>k j (by simp) o e
  item:=by
    intro X B y C M i pQ s O H E I q f A;subst B y C;obtain⟨xs,x,n,t⟩:=A;obtain⟨g,rv,p,Q⟩:=I.tuple n;obtain⟨u,S,N⟩:=rv.get t;obtain⟨L,J,T,G,F,D⟩:=q j (by simp)
    refine wpAny_pyNext_tuple_item f (show s.heap.IsTuple a g.toArray from p) (x:=u) (by simpa using S) λr m sb=>?_
    have V:Inv X pQ O H { s with heap:=r }:=I.turned (t':=s.toks) (λb o l e=>(sb.2 b l).trans e) L J G F D
    obtain⟨o,e,c,d⟩:=id m;exact⟨u,rfl,go_of (s:={ s with heap:=r }) e c d (by decide) ⟨x,H,V,N,⟨rfl,λW R=>by rw[I.tuple_inj R n];exact t⟩,m,λb l=>(q b l).1⟩⟩
  done:=by
    intro X B y C M i pQ s O H E I q f A;subst B y C;obtain⟨xs,n,t⟩:=A;obtain⟨g,rv,p,Q⟩:=I.tuple n;obtain⟨L,J,T,G,F,D⟩:=q j (by simp)
    have Y:=rv.length;exact wpAny_pyNext_tuple_end (I.ok.hd M) f (show s.heap.IsTuple a g.toArray from p) (by simp;omega) λr U=>⟨rfl,I.turned (t':=s.toks) (λb o l e=>U b o l e) L J G F D⟩
  self:=λ_ _ _ _ _ f h=>wpAny_pyIter_tupleiter f h
def turn_range{P:bg}(c:Ad)(lo:Int)(n:Nat):Turn P w K tg (Itr lo n) [c] c (λi h=>IsRangeIter h c (lo+(i:Nat) * 1) ((n:Int) - (i:Nat)) 1) where
  mem:=by simp
  obj:=λi h a b d=>by
    have e:b=c:=by simpa using d
    subst e;exact⟨_,a,λv z=>by
      have D:Data.fields _=Data.cell v:=z;cases D⟩
  keep:=λi h j a k=>k c (by simp) _ a
  item:=by
    intro X q l r p i pQ s O H E I g a m;subst q l r;obtain⟨B,A,J,y,x,u⟩:=g c (by simp)
    have W:=Walks.range (prog:=X.prog) (w:=X.w) (I.ok.hd p) c lo 1 n;refine W.item i s _ _ m a λv j C G f F=>?_
    obtain⟨t,rfl⟩:=G;have M:Inv X pQ O H { s with heap:=j,toks:=C }:=I.turned (λb o d e=>F b o (by simpa using d) e) B A y x u
    refine⟨_,rfl,go_of (s:={ s with heap:=j,toks:=C }) (n := "range_iterator") f rfl rfl (by decide) ⟨.int (lo+i),H,M,⟨t,?_⟩,⟨rfl,rfl⟩,f,λb d=>(g b d).1⟩⟩
    rw[Int.mul_one]
  done:=by
    intro X q l r p i pQ s O H E I g a m;subst q l r;obtain⟨B,A,J,y,x,u⟩:=g c (by simp)
    exact wpAny_pyNext_range_end (I.ok.hd p) a (by have:n<=i:=m;omega) λj L=>⟨rfl,I.turned (t':=s.toks) (λb o d e=>L b o d e) B A y x u⟩
  self:=λ_ _ _ _ _ a h=>wpAny_pyIter_rangeiter a h
variable{l:az}{fp:Li Ad}
variable{tg:az}
def iList(K:Fg)(tl:TE):TI:=λO H R=>tl O H λx b=>∃ a,x=.ref a/\(∃ xs,SqL K b a xs)/\R (Itl K a) b
def iTup(K:Fg)(tl:TE):TI:=λO H R=>tl O H λx b=>∃ a,x=.ref a/\(∃ xs,SqT K b a xs)/\R (Itt K a) b
def pi_list{tl:TE}(j:PE X l tl):PI X tg l (iList X.K tl):=by
  intro pQ s O H R I h;refine thn (j pQ s O H _ I h) λv s1 ⟨x,m,c,d,f⟩=>?_
  obtain⟨a,e,⟨xs,i⟩,q⟩:=f;subst e;cases d;obtain⟨g,rv,p,n⟩:=c.list i;refine wpAny_pyIter_list p.isList ?_;refine⟨s1.heap.objs.size,[s1.heap.objs.size],_,_,m,rfl,c.kept (t':=s1.toks) λb o e=>aS _ e,turn_list a _,⟨_,bR _ rfl,rfl,rfl⟩,λb k=>?_,q⟩
  have e:b=s1.heap.objs.size:=by simpa using k
  subst e;exact c.fpOk (aB _) (c.hok.fresh (aB _))
def pi_tup{tl:TE}(j:PE X l tl):PI X tg l (iTup X.K tl):=by
  intro pQ s O H R I h;refine thn (j pQ s O H _ I h) λv s1 ⟨x,m,c,f,g⟩=>?_
  obtain⟨a,e,⟨xs,i⟩,q⟩:=g;subst e;cases f;obtain⟨d,rv,p,n⟩:=c.tuple i;refine wpAny_pyIter_tuple (show s1.heap.IsTuple a d.toArray from p) ?_;refine⟨s1.heap.objs.size,[s1.heap.objs.size],_,_,m,rfl,c.kept (t':=s1.toks) λb o e=>aS _ e,turn_tuple a _,⟨_,bR _ rfl,rfl,rfl⟩,λb k=>?_,q⟩
  have e:b=s1.heap.objs.size:=by simpa using k
  subst e;exact c.fpOk (aB _) (c.hok.fresh (aB _))
def range_it{O:St}{R:It->Hp->Prop}{E:vL->Sd->Prop}{lo a:Int}{t u v:Tok}{c:Nat}(I:Inv X pQ O H s)(j:-(2 ^ 62)<=lo)(i:lo < 2 ^ 62)(h:-(2 ^ 62)<=a)(g:a < 2 ^ 62)(q:R (Itr lo (a - lo).toNat) H):a9 (bf X.prog X.w) X.A (pyIter (.ref s.heap.objs.size)) (PIE X pQ O tg R) E { s with heap:=s.heap.push { cls:=.type "range",data:=.fields #[.int lo t,.int a u,.int 1 v] },toks:=c }:=by
  refine wpAny_pyIter_range (IsRange.new ..) (small_one j i h g) ?_;have d:Inv X pQ O H { s with heap:=s.heap.push { cls:=.type "range",data:=.fields #[.int lo t,.int a u,.int 1 v] },toks:=c }:=I.kept λb o e=>aS _ e
  refine⟨(s.heap.push { cls:=.type "range",data:=.fields #[.int lo t,.int a u,.int 1 v] }).objs.size,[(s.heap.push { cls:=.type "range",data:=.fields #[.int lo t,.int a u,.int 1 v] }).objs.size],_,_,H,rfl,
    d.kept (t':=c) λb o e=>aS _ e,turn_range _ lo (a - lo).toNat,?_,λb f=>?_,q⟩
  . have l:lo+((0:Nat):Int) * 1=lo:=by simp
    have k:(((a - lo).toNat:Nat):Int) - ((0:Nat):Int)=Builtin.Range.rangeSize lo a 1:=by rw[rangeSize_one];split<;>omega
    show IsRangeIter _ _ (lo+((0:Nat):Int) * 1) ((((a - lo).toNat:Nat):Int) - ((0:Nat):Int)) 1;rw[l,k];exact bR _ rfl
  . have e:b=(s.heap.push { cls:=.type "range",data:=.fields #[.int lo t,.int a u,.int 1 v] }).objs.size:=by simpa using f
    subst e;exact d.fpOk (aB _) (d.hok.fresh (aB _))
def iRng1(b:TA):TI:=λO H R=>b O H λa c=>∃ j:Int,a=[.int j]/\-(2 ^ 62)<=j/\j < 2 ^ 62/\R (Itr 0 j.toNat) c
def pi_range1{a:az}{d:TA}{p b:Pos}(m:Gl X "range")(l:X.mg "range"=ab)(n:PA X [a] d)(k:bh [a] X.env=[(af,eval a X.env)]:=by rfl):PI X tg (.Call (.Name "range" p) [a] [] b) (iRng1 d):=by
  intro pQ s O H R I h;refine Call_ (ld_blt I m l boot_range (PyProof.Rows.callWith_type1 (thn (n b pQ s O H _ I h) λus s1 ⟨u,v,o,g,c⟩=>?_) k rfl))
  obtain⟨j,e,c,i,q⟩:=c;subst e;cases g with
  |cons r f=>
    cases f;obtain⟨t,rfl⟩:=r;exact call_range_1 (range_it o (by omega) (by omega) c i (by simpa using q))
def tFor(e:TI)(g:TG)(f:TS):TS:=λD O H=>e O H λJ j=>∃ W:Nat->Nat->St->Hp->Prop,(∃ m,W 0 m O j)/\∀ i m O H,W i m O H->
  (J.stop i H/\D.nx O H)\/(J.go i H/\∃ N:St->Hp->Prop,(∀ d a,N d a->∃ c,c < m/\W (i+1) c d a)/\∀ x a,J.yld i H x a->g x O a λb h=>f { D with nx:=N,ct:=N,bk:=D.nx } b h)
noncomputable def pinsAt(fp:Li Ad)(h:bq):Li (Ad×Obj):=fp.filterMap λb=>(h.get? b).map λo=>(b,o)
def mem_pinsAt{b:Ad}{o:Obj}(a:b∈fp)(e:h.get? b=aa o):(b,o)∈pinsAt fp h:=List.mem_filterMap.mpr ⟨b,a,by rw[e];rfl⟩
def of_pinsAt{p:Ad×Obj}(a:p∈pinsAt fp h):p.1∈fp/\h.get? p.1=aa p.2:=by
  obtain⟨b,c,e⟩:=List.mem_filterMap.mp a;cases q:h.get? b with
  |none=>rw[q]at e;cases e
  |some o=>
    rw[q]at e;have d:(b,o)=p:=aw e;subst d;exact⟨c,q⟩
def Inv.pinned{O:St}{fp:Li Ad}(I:Inv X pQ O H s)(h:∀ b∈fp,FpOk X pQ H b)(g:∀ b∈fp,∃ o,s.heap.get? b=aa o/\∀ v,o.data≠.cell v):Inv X (pQ++pinsAt fp s.heap) O H s:=
  I.pins_of λp f=>(aY.mp f).elim (λz=>I.pin p (bN _ z)) λz=>by
    obtain⟨a,e⟩:=of_pinsAt z;obtain⟨k,j,i,_⟩:=h p.1 a;obtain⟨o,c,d⟩:=g p.1 a;rw[e]at c;cases c
    exact⟨e,k,j,i,d⟩
def Inv.unpinned{a:Li (Ad×Obj)}{O:St}(I:Inv X (pQ++a) O H s):Inv X pQ O H s:=I.pins_of λp b=>I.pin p (bN _ (dF _ b))
def ps_for{iter:az}{V:TI}{g:TG}{Z:TS}{Q:Pos}(E:PassesOwn (bf X.prog X.w) X.A X.env X.xe)(hc:X.calm=ae)(hi:PI X tg iter V)(hg:PG X tg g)(k:PSs X body Z)(hs:∀ x,foldedSetIterable iter X.env x=pure x:=by intro _;rfl):PS X (.For tg iter body [] Q) (tFor V g Z):=by
  intro pQ s O H D I h;refine wpAny_For (thn (hi pQ s O H _ I h) λv s1 h1=>thn h1 λitv s2 h2=>?_) hs
  obtain⟨it,fp,Y,J,H2,e,I2,T,M,f2,W,⟨m0,w0⟩,turn⟩:=h2;subst e
  -- what stays ae of the iterator's objects through the loop
  have j:∀ {t:Hp},(∀ b∈fp,t b=ab)->∀ b∈fp,FpOk X pQ t b:=λhn b k=>⟨hn b k,(f2 b k).2⟩
  refine codeAny_forLoop_any (λn s'=>∃ i G t,Inv X pQ G t s'/\Y i s'.heap/\(∀ b∈fp,t b=ab)/\W i n G t) ?_ m0 ⟨0,O,H2,I2,M,λb k=>(f2 b k).1,w0⟩
  rintro n s3 ⟨i,c,K,I3,B,F,w3⟩
  rcases turn i n c K w3 with⟨stop,qn⟩|⟨go,N,hN,step⟩
  . refine wpAny_passesOwn E (thn (T.done X rfl rfl rfl hc i pQ s3 c K X.xe I3 (j F) B stop) λr s4 ⟨R,I4⟩=>?_)
    subst R;exact wpAny_execs_nil ⟨c,K,I4,qn⟩
  . refine wpAny_passesOwn E (thn (T.item X rfl rfl rfl hc i pQ s3 c K X.xe I3 (j F) B go) λr s4 ⟨u,R,h4⟩=>?_)
    subst R;refine wpAny_passesOwn E (thn h4 λ_ s5 ⟨x,H5,I5,r5,y5,z,S⟩=>?_)
    have U:=I5.pinned (j S) (T.obj _ _ z);refine wpAny_passesOwn E (thn (hg _ s5 c H5 x u _ U r5 (step x H5 y5)) λ_ s6 ⟨L,H6,I6,q6⟩=>?_)
    refine wpAny_passesOwn E (thn (k _ s6 L H6 _ I6 q6) λf P y=>?_)
    have l:∀ {a:St}{q:Hp},Inv X (pQ++pinsAt fp s5.heap) a q P->N a q->∃ m,m < n/\∃ i G t,Inv X pQ G t P/\Y i P.heap/\(∀ b∈fp,t b=ab)/\W i m G t:=λ{a q} p C=>by
      obtain⟨m',hm,w7⟩:=hN a q C;refine⟨m',hm,i+1,a,q,p.unpinned,T.keep _ _ _ z λb k o e=>(p.pin (b,o) (bN _ (bN _ (mem_pinsAt k e)))).1,λb k=>?_,w7⟩
      obtain⟨o,e,d⟩:=T.obj _ _ z b k;exact(p.pin (b,o) (bN _ (bN _ (mem_pinsAt k e)))).2.1
    cases f with
    |next=>obtain⟨a,q,p,C⟩:=y;exact l p C
    |cont=>obtain⟨a,q,p,C⟩:=y;exact l p C
    |brk=>obtain⟨a,q,p,y⟩:=y;exact⟨a,q,p.unpinned,y⟩
    |ret v=>obtain⟨x7,a,q,p,r7,y⟩:=y;exact⟨x7,a,q,p.unpinned,r7,y⟩
def for_tup{a:Ad}{g:TG}{k:TS}{D:Ends}{O:St}{H:Hp}(b:Nat->St->Hp->Prop)(t:b 0 O H)(r:∀ i O H,i<=xs.length->b i O H->SqT K H a xs)(o:∀ i x O H,xs[i]?=aa x->b i O H->g x O H λc j=>k { D with nx:=b (i+1),ct:=b (i+1),bk:=D.nx } c j)(hd:∀ O H,b xs.length O H->D.nx O H) :
    ∃ W:Nat->Nat->St->Hp->Prop,(∃ m,W 0 m O H)/\∀ i m O H,W i m O H->
      ((Itt K a).stop i H/\D.nx O H)\/((Itt K a).go i H/\∃ N:St->Hp->Prop,(∀ h d,N h d->∃ l,l < m/\W (i+1) l h d)/\∀ x d,(Itt K a).yld i H x d->g x O d λc j=>k { D with nx:=N,ct:=N,bk:=D.nx } c j):=by
  refine⟨λi m O H=>m=xs.length - i/\i<=xs.length/\b i O H,⟨xs.length,by simp,aR _,t⟩,?_⟩
  rintro i m O H ⟨rfl,s,p⟩
  have q:=r i O H s p;by_cases f:i < xs.length
  . refine .inr ⟨⟨xs,xs[i],q,by simp[f]⟩,b (i+1),λh d n=>⟨xs.length - (i+1),by omega,rfl,f,n⟩,λx d y=>?_⟩
    obtain⟨e,y⟩:=y;subst e;exact o i x O _ (y xs q) p
  . have e:i=xs.length:=by omega
    subst e;exact .inl ⟨⟨xs,q,aB _⟩,hd O H p⟩
def for_range{lo:Int}{g:TG}{j:TS}{D:Ends}{O:St}{H:Hp}(c:Nat->St->Hp->Prop)(q:c 0 O H)(o:∀ i O H,i < n->c i O H->g (.int (lo+i)) O H λa h=>j { D with nx:=c (i+1),ct:=c (i+1),bk:=D.nx } a h)(hd:∀ O H,c n O H->D.nx O H) :
    ∃ W:Nat->Nat->St->Hp->Prop,(∃ m,W 0 m O H)/\∀ i m O H,W i m O H->
      ((Itr lo n).stop i H/\D.nx O H)\/((Itr lo n).go i H/\∃ N:St->Hp->Prop,(∀ f d,N f d->∃ k,k < m/\W (i+1) k f d)/\∀ x d,(Itr lo n).yld i H x d->g x O d λa h=>j { D with nx:=N,ct:=N,bk:=D.nx } a h):=by
  refine⟨λi m O H=>m=n - i/\i<=n/\c i O H,⟨n,by simp,aR _,q⟩,?_⟩
  rintro i m O H ⟨rfl,r,p⟩
  by_cases b:i < n
  . refine .inr ⟨b,c (i+1),λf d l=>⟨n - (i+1),by omega,rfl,b,l⟩,λx d y=>?_⟩
    obtain⟨e,y⟩:=y;subst e y;exact o i O _ b p
  . have e:i=n:=by omega
    subst e;exact .inl ⟨aB _,hd O H p⟩
abbrev R2:=V->V->Hp->VK->Prop
def OpR(X:Cx)(f:vL->vL->Sem vL)(r:R2):Prop:=
  ∀ (pQ:Li (Ad×Obj)) (s:Sd) (O:St) (H:Hp) (x y:V) (v u:vL) (Q:VK),Inv X pQ O H s->RelV x v->RelV y u->r x y H Q->
    a9 (bf X.prog X.w) X.A (f v u) (EP X pQ O Q) X.xe s
def UnR(X:Cx)(f:vL->Sem vL)(r:V->Hp->VK->Prop):Prop:=
  ∀ (pQ:Li (Ad×Obj)) (s:Sd) (O:St) (H:Hp) (x:V) (v:vL) (Q:VK),Inv X pQ O H s->RelV x v->r x H Q->
    a9 (bf X.prog X.w) X.A (f v) (EP X pQ O Q) X.xe s
def CallR(X:Cx)(f:vL)(r:Li V->Hp->VK->Prop):Prop:=
  ∀ (pQ:Li (Ad×Obj)) (s:Sd) (O:St) (H:Hp) (xs:Li V) (us:Li vL) (Q:VK),Inv X pQ O H s->Vals xs us->r xs H Q->
    a9 (bf X.prog X.w) X.A (call f us) (EP X pQ O Q) X.xe s
def tOp(r:R2)(b a:TE):TE:=λO H Q=>b O H λx d=>a O d λy c=>r x y c Q
def tUn(r:V->Hp->VK->Prop)(a:TE):TE:=λO H Q=>a O H λx b=>r x b Q
def rI(C:Int->Int->Prop)(g:Int->Int->V):R2:=λx y H Q=>∃ i j,x=.int i/\y=.int j/\C i j/\Q (g i j) H
def rI0(g:Int->Int->V):R2:=λx y H Q=>∃ i j,x=.int i/\y=.int j/\Q (g i j) H
def rU(g:Int->V):V->Hp->VK->Prop:=λx H Q=>∃ i,x=.int i/\Q (g i) H
variable{c:az}{tc:TE}
section
variable{a:az}
def binT(p:PE X a ta)(o:PE X b tb){O:St}{R:V->V->Hp->Prop}(I:Inv X pQ O H s)(h:ta O H λx i=>tb O i λy c=>R x y c){f:vL->vL->Sem vL}(n:∀ v u g x y c,Inv X pQ O c g->RelV x v->RelV y u->R x y c->a9 (bf X.prog X.w) X.A (f v u) Q X.xe g) :
    a9 (bf X.prog X.w) X.A (eval a X.env) (λv e=>a9 (bf X.prog X.w) X.A (eval b X.env) (λu d=>a9 (bf X.prog X.w) X.A (f v u) Q X.xe d) X.xe e) X.xe s:=by
  refine thn (p pQ s O H _ I h) λv s1 ⟨x,i,r,k,m⟩=>?_
  refine thn (o pQ s1 O i _ r m) λu g ⟨y,c,q,j,l⟩=>?_
  exact n v u g x y c q k j l
def pe_op{c:Operator}{r:R2}(g:OpR X (bw c) r)(j:PE X a ta)(i:PE X b tb):PE X (.BinOp a c b pos) (tOp r ta tb):=by
  intro pQ s O H Q I h;exact wpAny_BinOp (binT j i I h λv u d x y l k f e q=>g pQ d O l x y v u Q k f e q)
def pe_un{b:UnaryOp}{r:V->Hp->VK->Prop}(e:UnR X (unaryOp b) r)(f:PE X a ta):PE X (.UnaryOp b a pos) (tUn r ta):=by
  intro pQ s O H Q I h;exact UnaryOp_ (thn (f pQ s O H _ I h) λv s1 ⟨x,i,g,c,d⟩=>e pQ s1 O i x v Q g c d)
def opI{f:vL->vL->Sem vL}{C:Int->Int->Prop}{g:Int->Int->Int}(a:∀ (i j:Int) (t u:Tok) (s:Sd) (Q:vL->Sd->Prop) (E:vL->Sd->Prop),C i j->Q (.int (g i j) s.toks) { s with toks:=s.toks+1 }->a9 (bf X.prog X.w) X.A (f (.int i t) (.int j u)) Q E s) :
    OpR X f (rI C λi j=>.int (g i j)):=by
  intro pQ s O H x y v u Q I c b h;obtain⟨i,j,rfl,rfl,d,q⟩:=h;obtain⟨t,rfl⟩:=c;obtain⟨t',rfl⟩:=b;exact a i j t t' s _ _ d ⟨.int (g i j),H,I.tok _,⟨_,rfl⟩,q⟩
def opI0{f:vL->vL->Sem vL}{g:Int->Int->Int}(a:∀ (i j:Int) (t u:Tok) (s:Sd) (Q:vL->Sd->Prop) (E:vL->Sd->Prop),Q (.int (g i j) s.toks) { s with toks:=s.toks+1 }->a9 (bf X.prog X.w) X.A (f (.int i t) (.int j u)) Q E s) :
    OpR X f (rI0 λi j=>.int (g i j)):=by
  intro pQ s O H x y v u Q I c b h;obtain⟨i,j,rfl,rfl,q⟩:=h;obtain⟨t,rfl⟩:=c;obtain⟨t',rfl⟩:=b;exact a i j t t' s _ _ ⟨.int (g i j),H,I.tok _,⟨_,rfl⟩,q⟩
def opB0{f:vL->vL->Sem vL}{g:Int->Int->Bool}(a:∀ (i j:Int) (t u:Tok) (s:Sd) (Q:vL->Sd->Prop) (E:vL->Sd->Prop),Q (.bool (g i j)) s->a9 (bf X.prog X.w) X.A (f (.int i t) (.int j u)) Q E s) :
    OpR X f (rI0 λi j=>.bl (g i j)):=by
  intro pQ s O H x y v u Q I c b h;obtain⟨i,j,rfl,rfl,q⟩:=h;obtain⟨t,rfl⟩:=c;obtain⟨t',rfl⟩:=b;exact a i j t t' s _ _ ⟨.bl (g i j),H,I,rfl,q⟩
def CDiv(i j:Int):Prop:=0 < j/\j < 1073741824
def CDivN(i j:Int):Prop:=j≠0/\j.natAbs < 1073741824
def CPow(i j:Int):Prop:=0<=j/\j<=1000000/\i.natAbs < 2 ^ 64
def CMul(i j:Int):Prop:=(-(2 ^ 64) < i/\i < 2 ^ 64)\/(-(2 ^ 64) < j/\j < 2 ^ 64)
def CMul.ok{i j:Int}(h:CMul i j):IntMulOk i j:=by
  rcases h with⟨b,a⟩|⟨b,a⟩
  . exact .of_left (intBits_le_64 b a)
  . exact .of_right (intBits_le_64 b a)
def op_add:OpR X (bw .Add) (rI0 λi j=>.int (i+j)):=opI0 λ_ _ _ _ _ _ _ q=>add_int q
def op_sub:OpR X (bw .Sub) (rI0 λi j=>.int (i - j)):=opI0 λ_ _ _ _ _ _ _ q=>sub_int q
def op_mul:OpR X (bw .Mult) (rI CMul λi j=>.int (i * j)):=opI λ_ _ _ _ _ _ _ a q=>mul_int q a.ok
def op_fdiv:OpR X (bw .FloorDiv) (rI CDiv λi j=>.int (i / j)):=opI λi j _ _ _ _ _ a q=>by
  have c:(0:Int) < j:=a.1;have b:j < 1073741824:=a.2;exact floordiv_int (by omega) (by rw[Int.fdiv_eq_ediv_of_nonneg i (by omega)];exact q) (.inl (PyProof.noPylong_small (by omega)))
def op_fdivN:OpR X (bw .FloorDiv) (rI CDivN λi j=>.int (i.fdiv j)):=opI λ_ _ _ _ _ _ _ a q=>floordiv_int a.1 q (.inl (PyProof.noPylong_small a.2))
def op_mod:OpR X (bw .Mod) (rI (λ_ j=>0 < j) λi j=>.int (i % j)):=opI λi j _ _ _ _ _ a q=>by
  have b:(0:Int) < j:=a;exact mod_int' (by omega) (by rw[Int.fmod_eq_emod_of_nonneg i (by omega)];exact q)
def op_modN:OpR X (bw .Mod) (rI (λ_ j=>j≠0) λi j=>.int (i.fmod j)):=opI λ_ _ _ _ _ _ _ a q=>mod_int' a q
def op_shl:OpR X (bw .LShift) (rI CPow λi j=>.int (i * 2 ^ j.toNat)):=opI λ_ _ _ _ _ _ _ a q=>lshift_int_small a.1 a.2.1 a.2.2 q
def op_and:OpR X (bw .BitAnd) (rI0 λi j=>.int (Builtin.bitAnd i j)):=opI0 λ_ _ _ _ _ _ _ q=>and_int q
def op_or:OpR X (bw .BitOr) (rI0 λi j=>.int (Builtin.bitOr i j)):=opI0 λ_ _ _ _ _ _ _ q=>or_int q
def unI{f:vL->Sem vL}{g:Int->Int}(a:∀ (i:Int) (t:Tok) (s:Sd) (Q:vL->Sd->Prop) (E:vL->Sd->Prop),Q (.int (g i) s.toks) { s with toks:=s.toks+1 }->a9 (bf X.prog X.w) X.A (f (.int i t)) Q E s) :
    UnR X f (rU λi=>.int (g i)):=by
  intro pQ s O H x v Q I b h;obtain⟨i,rfl,q⟩:=h;obtain⟨t,rfl⟩:=b;exact a i t s _ _ ⟨.int (g i),H,I.tok _,⟨_,rfl⟩,q⟩
def un_neg:UnR X (unaryOp .USub) (rU λi=>.int (-i)):=unI λ_ _ _ _ _ q=>neg_int q
def un_inv:UnR X (unaryOp .Invert) (rU λi=>.int (Builtin.bitNot i)):=unI λ_ _ _ _ _ q=>invert_int q
end
noncomputable def scal:V->V->Bool
  |.non,.non=>ae|.non,.int _=>ae|.int _,.non=>ae|.non,.bl _=>ae|.bl _,.non=>ae|.non,.str _=>ae|.str _,.non=>ae
  |.int _,.int _=>ae|.bl _,.bl _=>ae|.str _,.str _=>ae|.byt _,.byt _=>ae
  |.int _,.str _=>ae|.str _,.int _=>ae|.bl _,.str _=>ae|.str _,.bl _=>ae
  |_,_=>af
def rEq:R2:=λx y H Q=>scal x y=ae/\Q (.bl (ak (x=y))) H
def rNe:R2:=λx y H Q=>scal x y=ae/\Q (.bl (!decide (x=y))) H
def dec_int{i j:Int}:ak (V.int i=V.int j)=(i==j):=by
  rw[cL];simp
def dec_bl{i j:Bool}:ak (V.bl i=V.bl j)=(i==j):=by
  rw[cL];simp
def dec_str{i j:Str}:ak (V.str i=V.str j)=(i==j):=by
  rw[cL];simp
def dec_byt{i j:Array UInt8}:ak (V.byt i=V.byt j)=(i.toList==j.toList):=by
  rw[cL];cases i;cases j;simp
variable{op:CmpOp}
section
variable{a:az}
def fin_bl{O:St}{Q:VK}{k a:Bool}(I:Inv X pQ O H s)(q:Q (.bl k) H)(e:k=a):EP X pQ O Q (.bool a) s:=by
  subst e;exact⟨.bl k,H,I,rfl,q⟩
def op_eq:OpR X (bt .Eq) rEq:=by
  intro pQ s O H x y v u Q I c a h;obtain⟨b,q⟩:=h;cases x with
  |non=>
    cases c;cases y with
    |non=>cases a;exact PySem.EqNone.eq_none_none (fin_bl I q (by simp))
    |bl j=>cases a;exact PySem.EqNone.eq_none_bool (fin_bl I q (by simp))
    |int j=>obtain⟨t',rfl⟩:=a;exact PySem.EqNone.eq_none_int (fin_bl I q (by simp))
    |str j=>obtain⟨t',rfl⟩:=a;exact PySem.EqNone.eq_none_str (fin_bl I q (by simp))
    |_=>exact au (show af=ae from b) Bf
  |bl i=>
    cases c;cases y with
    |non=>cases a;exact PySem.EqNone.eq_bool_none (fin_bl I q (by simp))
    |bl j=>cases a;exact eq_bool (fin_bl I q dec_bl)
    |str j=>obtain⟨t',rfl⟩:=a;exact PySem.EqMixed.eq_bool_str (fin_bl I q (by simp))
    |_=>exact au (show af=ae from b) Bf
  |int i=>
    obtain⟨t,rfl⟩:=c;cases y with
    |non=>cases a;exact PySem.EqNone.eq_int_none (fin_bl I q (by simp))
    |int j=>obtain⟨t',rfl⟩:=a;exact eq_int (fin_bl I q dec_int)
    |str j=>obtain⟨t',rfl⟩:=a;exact PySem.EqMixed.eq_int_str (fin_bl I q (by simp))
    |_=>exact au (show af=ae from b) Bf
  |str i=>
    obtain⟨t,rfl⟩:=c;cases y with
    |non=>cases a;exact PySem.EqNone.eq_str_none (fin_bl I q (by simp))
    |bl j=>cases a;exact PySem.EqMixed.eq_str_bool (fin_bl I q (by simp))
    |int j=>obtain⟨t',rfl⟩:=a;exact PySem.EqMixed.eq_str_int (fin_bl I q (by simp))
    |str j=>obtain⟨t',rfl⟩:=a;exact eq_str (fin_bl I q dec_str)
    |_=>exact au (show af=ae from b) Bf
  |byt i=>
    obtain⟨t,rfl⟩:=c;cases y with
    |byt j=>obtain⟨t',rfl⟩:=a;exact W.eq_bytes (fin_bl I q dec_byt)
    |_=>exact au (show af=ae from b) Bf
  |_=>cases y<;>exact au (show af=ae from b) Bf
def op_ne:OpR X (bt .NotEq) rNe:=by
  intro pQ s O H x y v u Q I c a h;obtain⟨b,q⟩:=h;cases x with
  |non=>
    cases c;cases y with
    |non=>cases a;exact PySem.EqNone.ne_none_none (fin_bl I q (by simp))
    |bl j=>cases a;exact PySem.EqNone.ne_none_bool (fin_bl I q (by simp))
    |int j=>obtain⟨t',rfl⟩:=a;exact PySem.EqNone.ne_none_int (fin_bl I q (by simp))
    |str j=>obtain⟨t',rfl⟩:=a;exact PySem.EqNone.ne_none_str (fin_bl I q (by simp))
    |_=>exact au (show af=ae from b) Bf
  |bl i=>
    cases c;cases y with
    |non=>cases a;exact PySem.EqNone.ne_bool_none (fin_bl I q (by simp))
    |bl j=>cases a;exact ne_bool (fin_bl I q (av not dec_bl))
    |str j=>obtain⟨t',rfl⟩:=a;exact PySem.EqMixed.ne_bool_str (fin_bl I q (by simp))
    |_=>exact au (show af=ae from b) Bf
  |int i=>
    obtain⟨t,rfl⟩:=c;cases y with
    |non=>cases a;exact PySem.EqNone.ne_int_none (fin_bl I q (by simp))
    |int j=>obtain⟨t',rfl⟩:=a;exact ne_int (fin_bl I q (av not dec_int))
    |str j=>obtain⟨t',rfl⟩:=a;exact PySem.EqMixed.ne_int_str (fin_bl I q (by simp))
    |_=>exact au (show af=ae from b) Bf
  |str i=>
    obtain⟨t,rfl⟩:=c;cases y with
    |non=>cases a;exact PySem.EqNone.ne_str_none (fin_bl I q (by simp))
    |bl j=>cases a;exact PySem.EqMixed.ne_str_bool (fin_bl I q (by simp))
    |int j=>obtain⟨t',rfl⟩:=a;exact PySem.EqMixed.ne_str_int (fin_bl I q (by simp))
    |str j=>obtain⟨t',rfl⟩:=a;exact ne_str (fin_bl I q (av not dec_str))
    |_=>exact au (show af=ae from b) Bf
  |byt i=>
    obtain⟨t,rfl⟩:=c;cases y with
    |byt j=>obtain⟨t',rfl⟩:=a;exact W.ne_bytes (fin_bl I q (av not dec_byt))
    |_=>exact au (show af=ae from b) Bf
  |_=>cases y<;>exact au (show af=ae from b) Bf
def op_lt:OpR X (bt .Lt) (rI0 λi j=>.bl (ak (i < j))):=opB0 λ_ _ _ _ _ _ _ q=>lt_int q
def op_le:OpR X (bt .LtE) (rI0 λi j=>.bl (ak (i<=j))):=opB0 λ_ _ _ _ _ _ _ q=>le_int q
def op_gt:OpR X (bt .Gt) (rI0 λi j=>.bl (ak (j < i))):=opB0 λ_ _ _ _ _ _ _ q=>gt_int q
def op_ge:OpR X (bt .GtE) (rI0 λi j=>.bl (ak (j<=i))):=opB0 λ_ _ _ _ _ _ _ q=>ge_int q
def op_in_str:OpR X (bt .In) (λx y H Q=>∃ i j,x=.str i/\y=.str j/\Q (.bl (!(Builtin.Str.occurrences j i 0 j.length 1).isEmpty)) H):=by
  intro pQ s O H x y v u Q I b a h;obtain⟨i,j,rfl,rfl,q⟩:=h;obtain⟨t,rfl⟩:=b;obtain⟨t',rfl⟩:=a;exact in_str (fin_bl I q rfl)
def op_isN:OpR X (bt .Is) (λx y H Q=>y=.non/\Q (.bl (ak (x=.non))) H):=by
  intro pQ s O H x y v u Q I a b h;obtain⟨rfl,q⟩:=h;cases b;refine is_none_gen (fin_bl I q ?_);cases x<;>first
    | (cases a;rfl)
    | (obtain⟨t,rfl⟩:=a;rfl)
def op_notN:OpR X (bt .IsNot) (λx y H Q=>y=.non/\Q (.bl (!decide (x=.non))) H):=by
  intro pQ s O H x y v u Q I a b h;obtain⟨rfl,q⟩:=h;cases b;refine isnot_none_gen (fin_bl I q ?_);cases x<;>first
    | (cases a;rfl)
    | (obtain⟨t,rfl⟩:=a;rfl)
def pe_cmpR{r:R2}(f:OpR X (bt op) r)(j:PE X a ta)(i:PE X b tb)(g:behindInMarks op b=af):PE X (.Compare a [op] [b] pos) (tOp r ta tb):=by
  intro pQ s O H Q I h;exact wpAny_Compare1 (binT j i I h λv u c x y l k e d q=>f pQ c O l x y v u Q k e d q) g
def tTest(t:TE):TT:=λO H Q=>t O H λx a=>∃ k,x=.bl k/\Q k a
def pt_cmpR{r:R2}(n:OpR X (bt op) r)(q:PE X a ta)(p:PE X b tb)(o:behindInMarks op b=af):PT X (.Compare a [op] [b] pos) (tTest (tOp r ta tb)):=by
  intro pQ s O H Q I h;refine wpAny_isTrue_Compare1 (thn (q pQ s O H _ I h) λv s1 ⟨x,D,A,i,m⟩=>thn (p pQ s1 O D _ A m) λu d ⟨y,C,w,g,l⟩=>
    thn (n pQ d O C x y v u _ w i g l) λc E ⟨z,B,t,f,k,e,j⟩=>?_) o
  subst e;cases f;exact wpAny_truthy_bool ⟨B,t,j⟩
def line63:(ay:Nat) < 2 ^ 63:=by rw[sizeLine_eq];decide
def op_add_str:OpR X (bw .Add) (λx y H Q=>∃ i j,x=.str i/\y=.str j/\i.length+j.length<=ay/\Q (.str (i++j)) H):=by
  intro pQ s O H x y v u Q I b a h;obtain⟨i,j,rfl,rfl,c,q⟩:=h;obtain⟨t,rfl⟩:=b;obtain⟨t',rfl⟩:=a;exact add_str (λt' d=>⟨.str (i++j),H,I.tok _,⟨_,rfl⟩,q⟩) c
def vals1{x:V}(r:Vals [x] us):∃ u,us=[u]/\RelV x u:=by
  cases r with
  |cons b a=>cases a;exact⟨_,rfl,b⟩
def LenV(K:Fg)(x:V)(H:Hp)(n:Nat):Prop:=
  match x with
  |.str y=>y.length<=ay/\n=y.length
  |.byt y=>y.size<=ay/\n=y.size
  |.ref p=>(∃ xs,SqL K H p xs/\n=xs.length)\/∃ xs,SqT K H p xs/\n=xs.length
  |_=>False
def call_len:CallR X (.builtin "len") (λxs H Q=>∃ x n,xs=[x]/\LenV X.K x H n/\Q (.int n) H):=by
  intro pQ s O H xs us Q I r h;obtain⟨x,n,rfl,e,q⟩:=h;obtain⟨u,rfl,c⟩:=vals1 r;have m:=line63;have l:ay=16777216:=sizeLine_eq;cases x with
  |str y=>
    obtain⟨t,rfl⟩:=c;obtain⟨k,b⟩:y.length<=ay/\n=y.length:=e;subst b;exact len_str (by omega) ⟨.int _,H,I.tok _,⟨_,rfl⟩,q⟩
  |byt y=>
    obtain⟨t,rfl⟩:=c;obtain⟨k,b⟩:y.size<=ay/\n=y.size:=e;subst b;exact W.len_bytes (by omega) ⟨.int _,H,I.tok _,⟨_,rfl⟩,q⟩
  |ref p=>
    cases c;have b:(∃ xs,SqL X.K H p xs/\n=xs.length)\/∃ xs,SqT X.K H p xs/\n=xs.length:=e;rcases b with⟨xs,i,b⟩|⟨xs,i,b⟩
    . subst b
      obtain⟨g,d,f,j⟩:=I.list i;have a:=d.length;exact Calls.call_len_list f.isList (by simp only[aF];omega) ⟨.int xs.length,H,I.tok _,⟨_,by simp only[aF];rw[a]⟩,q⟩
    . subst b
      obtain⟨g,d,f,j⟩:=I.tuple i;have a:=d.length;exact len_tuple f (by simp only[aF];omega) ⟨.int xs.length,H,I.tok _,⟨_,by simp only[aF];rw[a]⟩,q⟩
  |_=>exact(show False from e).elim
end
structure ObjM(h:bq)(x dx C:Addr)(mA:Str->Option Value):Prop where
  obj:h.get? x=aa (W.instObj C dx)
  ns:h.Ns1 dx mA
  ne:dx≠x
variable{mA:Str->Ot vL}
def lookIn_ns{f:Ad}(n:h.Ns1 f mA):∃ d,h.get? f=aa d/\∀ b,W.lookIn b d=aa (mA b):=by
  obtain⟨o,es,p,i,l,k,_,j⟩:=n;refine⟨o,i,λb=>?_⟩
  have e:=j b;unfold nsFind findBy at e;rw[<-Array.find?_toList]at e;unfold W.lookIn;rw[l];dsimp only;split
  . rename_i y q
    rw[q]at e;exact av aa e
  . rename_i q
    rw[q]at e;have a:es.toList.any (·.refKey)=af:=by
      rw[List.any_eq_false];intro y g;obtain⟨z,t,c⟩:=k y (Array.mem_toList_iff.mp g);simp[DictEntry.refKey,c]
    have m:¬es.toList.any (·.refKey)=ae:=by rw[a];exact Bf
    rw[ar m];exact av aa e
def ObjM.look{x c C:Ad}(I:ObjM h x c C mA):∃ b,W.InstAt h x (W.instObj C c) C (aa b)/\∀ a,W.lookIn a b=aa (mA a):=
  let ⟨b,ho,hl⟩:=lookIn_ns I.ns
  ⟨b,⟨I.obj,rfl,rfl,ho⟩,hl⟩
variable{A:bv}{K:Fg}{dx C f:Ad}{mA:Str->Ot vL}
section
variable{prog:bg}{name:Str}{v:vL}
end
def RelO.some_of{v:V}{o:Ot vL}(r:RelO (aa v) o):∃ u,o=aa u/\RelV v u:=by
  cases o with
  |none=>exact(show False from r).elim
  |some u=>exact⟨u,rfl,r⟩
def RelO.none_of{o:Ot vL}(r:RelO ab o):o=ab:=by
  cases o with
  |none=>rfl
  |some u=>exact(show False from r).elim
variable{fs:Li (Str×V)}
section
variable{fs':Li (Str×V)}
def ins_get(hok:HOk P w H h)(e:H a=aa (.ins C dx fs)):∃ mA,ObjM h a dx C mA/\(∀ f,RelO (fs.lookup f) (mA f))/\PySem.Within mA (fs.map (·.1))/\fs.length<=1000/\H dx=aa (.own a):=by
  obtain⟨d,z,ne,b,mA,n,r,q⟩:=(show ObjOk P w H h a (.ins C dx fs) from hok a _ e);exact⟨mA,⟨b,n,ne⟩,r,q,z,d⟩
end
structure Cls(K:Fg)(C:Addr):Prop where
  pg:W.plainGet K C Str.empty=ae
  hd:W.hasDictIn K C=ae
  po:W.plainOver K C=ae
  sa:W.findIn K (.ref C) "__setattr__"=aa (aa (.builtin "object.__setattr__"))
def Cls.get{C:Ad}(c:Cls K C)(f:Str):W.plainGet K C f=ae:=c.pg
structure Con(K:Fg)(C:Addr)(f:Str)(v:V)(u:Value):Prop where
  at_:W.findIn K (.ref C) f=aa (aa u)
  rel:RelV v u
  get:W.specialIn K u "__get__"=aa ab
  cp:W.copiedNames.contains f=af
structure Meth(K:Fg)(C:Addr)(m:Str)(f:Addr):Prop where
  at_:W.findIn K (.ref C) m=aa (aa (.ref f))
  fn:W.isFn K (.ref f)=ae
  kp:W.keepIn K (.ref f)=ae
section
variable{f:Str}{v:V}
def Inv.made(I:Inv X pQ O H s):Inv X pQ O (upd (upd H s.heap.objs.size (.own (s.heap.objs.size+1))) (s.heap.objs.size+1) (.ins C s.heap.objs.size []))
    { s with heap:=(s.heap.push W.emptyDict).push (W.instObj C s.heap.objs.size) }:=by
  have c:(s.heap.push W.emptyDict).get? s.heap.objs.size=aa W.emptyDict:=bR s.heap rfl;have h:((s.heap.push W.emptyDict).push (W.instObj C s.heap.objs.size)).get? (s.heap.objs.size+1)=aa (W.instObj C s.heap.objs.size):=by
    have:=bR (s.heap.push W.emptyDict) (o:=W.instObj C s.heap.objs.size) rfl
    rwa [Heap.size_push]at this
  have g:(s.heap.push W.emptyDict).Ns s.heap.objs.size (λ_=>ab):=⟨W.emptyDict,#[],_,c,rfl,(λe f=>au f (by simp)),λ_=>rfl⟩
  have i:=I.laid (a:=s.heap.objs.size) (o:=.own (s.heap.objs.size+1)) (h':=s.heap.push W.emptyDict) (t':=s.toks) (λb u q=>aS _ q) (aB _) ⟨_,c⟩
  refine i.laid (a:=s.heap.objs.size+1) (o:=.ins C s.heap.objs.size []) (t':=s.toks) (λb u q=>aS _ q) (cR (Heap.size_push _ _)) ?_
  have ne:s.heap.objs.size≠s.heap.objs.size+1:=bE (eP _);refine⟨by rw[upd_ne ne,upd_same],aR _,ne,h,λ_=>ab,(Heap.Ns1.of_empty g).at λo q=>aS _ q,λ_=>True.intro,λy d=>au rfl d⟩
end
variable{o:az}
section
variable{value:az}{f:Str}{pos' tpos:Pos}{tv:TE}
end
variable{Q:vL->Sd->Prop}
section
variable{c:vL}{b:Bool}
inductive TyOf(K:Fg)(H:Hp):V->Value->Prop where
  |non:TyOf K H .non (.type "NoneType")
  |bl (x:Bool):TyOf K H (.bl x) (.type "bool")
  |int (i:Int):TyOf K H (.int i) (.type "int")
  |str (x:Str):TyOf K H (.str x) (.type "str")
  |flt (x:UInt64):TyOf K H (.flt x) (.type "float")
  |lst {a:Addr}{xs:List V} (e:H a=aa (.lst xs)):TyOf K H (.ref a) (.type "list")
  |frz {a:Addr}{o:Obj}{xs:List V} (e:H a=aa (.frz o (.lst xs))):TyOf K H (.ref a) (.type "list")
  |tup {a:Addr}{xs:List V} (e:H a=aa (.tup xs)):TyOf K H (.ref a) (.type "tuple")
  |dK {a:Addr}{kvs:List (Key×V)} (e:H a=aa (.dK kvs)):TyOf K H (.ref a) (.type "dict")
  |dT {a:Addr}{kvs:List (List Key×V)} (e:H a=aa (.dT kvs)):TyOf K H (.ref a) (.type "dict")
  |ins {a C dx:Addr}{fs:List (Str×V)} (e:H a=aa (.ins C dx fs)) (cl:Cls K C) (ha:W.findIn K (.ref C) "__class__"=aa (aa (.builtin "object.__class__")))
      (hn:W.specialIn K (.builtin "object.__class__") "__get__"=aa (aa (.builtin "getset_descriptor.__get__"))) (htk:W.takesIn K (.builtin "object.__class__")=aa ae)
      (hm:W.mroIn K C (.type "object")=aa ae):TyOf K H (.ref a) (.ref C)
def isinst_ok{x:V}{u t:vL}(I:Inv X pQ O H s)(d:RelV x u)(ty:TyOf X.K H x t)(e:W.kitOne X.K t c=aa b)(h:∀ r,Q (.bool b) { s with toks:=r }) :
    a9 (bf X.prog X.w) A (call (.builtin "isinstance") [u,c]) Q E s:=by
  cases ty with
  |non=>cases (show u=b5 from d);exact W.kia_one W.kitx_none I.kIn True.intro e (λz=>nomatch z) h
  |bl y=>cases (show u=Value.bool y from d);exact W.kia_one W.kitx_bool I.kIn True.intro e (λz=>nomatch z) h
  |int i=>obtain⟨t,q⟩:=(show ∃ t,u=Value.int i t from d);cases q;exact W.kia_one W.kitx_int I.kIn True.intro e (λz=>nomatch z) h
  |str y=>obtain⟨t,q⟩:=(show ∃ t,u=Value.str y t from d);cases q;exact W.kia_one W.kitx_str I.kIn True.intro e (λz=>nomatch z) h
  |flt y=>obtain⟨t,q⟩:=(show ∃ t,u=Value.float y t from d);cases q;exact W.kia_one W.kitx_float I.kIn True.intro e (λz=>nomatch z) h
  |@lst a xs f=>
    cases (show u=bz a from d)
    obtain⟨_,_,n,_,g⟩:=(show ObjOk X.prog X.w H s.heap a (.lst xs) from I.hok a _ f);exact W.kia_one W.kitx_list I.kIn ⟨_,g,rfl⟩ e (λz=>nomatch z) h
  |@frz a v xs f=>
    cases (show u=bz a from d)
    obtain⟨_,_,_,n,_,g⟩:=(show ObjOk X.prog X.w H s.heap a (.frz v (.lst xs)) from I.hok a _ f);exact W.kia_one W.kitx_list I.kIn ⟨_,g,rfl⟩ e (λz=>nomatch z) h
  |@tup a xs f=>
    cases (show u=bz a from d)
    obtain⟨_,_,_,p⟩:=(show ObjOk X.prog X.w H s.heap a (.tup xs) from I.hok a _ f);obtain⟨o,g,k,_⟩:=p;exact W.kia_one W.kitx_tuple I.kIn ⟨o,g,k⟩ e (λz=>nomatch z) h
  |@dK a j f=>
    cases (show u=bz a from d)
    obtain⟨_,_,M,_,p⟩:=(show ObjOk X.prog X.w H s.heap a (.dK j) from I.hok a _ f);obtain⟨o,es,G,g,k,_⟩:=p;exact W.kia_one W.kitx_dict I.kIn ⟨o,g,k.1⟩ e (λz=>nomatch z) h
  |@dT a j f=>
    cases (show u=bz a from d)
    obtain⟨_,_,xs,_,o,es,G,g,k,_⟩:=(show ObjOk X.prog X.w H s.heap a (.dT j) from I.hok a _ f);exact W.kia_one W.kitx_dict I.kIn ⟨o,g,k.1⟩ e (λz=>nomatch z) h
  |@ins a C P fs f m F B l D=>
    cases (show u=bz a from d)
    obtain⟨mA,L,_⟩:=ins_get I.hok f;obtain⟨N,J,_⟩:=L.look;exact W.kia_one (W.kitx_own (m.get _) m.hd F B l D) I.kIn J e (λz=>nomatch z) h
end
structure Room(k:Nat)(A:bv):Prop where
  hd:A.handled=ab
  dp:A.depth+3 * k+5 < recursionLimit
  un:A.units+16 * k+200 < cLine
variable{k:Nat}
theorem Room.deeper(r:Room (k+1) A)(env:Env):Room k (A.deeper env):=
  ⟨r.hd,by have:=r.dp;show A.depth+1+3 * k+5 < _;omega,by have:=r.un;show A.units+3+16 * k+200 < _;omega⟩
theorem Room.depth(r:Room k A):A.depth < recursionLimit:=by have:=r.dp;omega
theorem Room.units(r:Room k A):A.units+64 < cLine:=by have:=r.un;omega
def tNil:TA:=λ_ H Q=>Q [] H
def tCons(a:TE)(tr:TA):TA:=λO H Q=>a O H λx c=>tr O c λxs b=>Q (x :: xs) b
variable{es:Li az}{t:TA}
def pa_nil:PA X [] tNil:=λ_ _ _ _ H Q I h=>Calls.spliced_nil ⟨[],H,I,.nil,h⟩
def pa_cons(i:PE X e te)(g:PA X es t)(f:bh (e :: es) X.env=(af,eval e X.env) :: bh es X.env:=by rfl):PA X (e :: es) (tCons te t):=by
  intro pos pQ s O H Q I h;rw[f];show a9 _ _ (spliced ((af,eval e X.env) :: backTo pos (bh es X.env))) _ _ s;refine Calls.spliced_cons (thn (i pQ s O H _ I h) λu s1 ⟨x,m,k,b,d⟩=>?_)
  exact thn (g pos pQ s1 O m _ k d) λus n ⟨xs,l,j,a,c⟩=>⟨x :: xs,l,j,.cons b a,c⟩
def tTup(t:TA):TE:=λO H Q=>t O H λxs a=>xs.length<=ay/\∀ p,a p=ab->Q (.ref p) (upd a p (.tup xs))
def tLst(t:TA):TE:=λO H Q=>t O H λxs a=>xs.length<=ay/\∀ p,a p=ab->Q (.ref p) (upd a p (.lst xs))
def pe_tup{x1}(h:PA X es t):PE X (.Tuple es x1 pos) (tTup t):=by
  intro pQ s O H Q I d;refine wpAny_Tuple_spliced (thn (h pos pQ s O H _ I d) λus s1 ⟨xs,c,a,r,z,q⟩=>⟨by rw[<-r.length];exact z,?_⟩)
  have f:c s1.heap.objs.size=ab:=a.hok.fresh (aB _);refine⟨.ref s1.heap.objs.size,upd c s1.heap.objs.size (.tup xs),a.laid (t':=s1.toks) (λb u e=>aS _ e) (aB _) ?_,rfl,q _ f⟩
  exact⟨z,us,r,⟨_,bR _ rfl,rfl,_,rfl⟩⟩
def pe_lst(h:PA X es t):PE X (.List es pos) (tLst t):=by
  intro pQ s O H Q I d;refine wpAny_List_spliced (thn (h pos pQ s O H _ I d) λus s1 ⟨xs,c,a,r,z,q⟩=>⟨by rw[<-r.length];exact z,?_⟩)
  have f:c s1.heap.objs.size=ab:=a.hok.fresh (aB _);refine⟨.ref s1.heap.objs.size,upd c s1.heap.objs.size (.lst xs),a.laid (t':=s1.toks) (λb u e=>aS _ e) (aB _) ?_,rfl,q _ f⟩
  exact⟨z,us,0,r,bR _ rfl⟩
abbrev Sp:=Li V->Hp->VK->XK->Prop
abbrev CXT:=Li Env->Hp->Sd->XK->vL->Sd->Prop
structure Env0(P:bg)(w:br)(K:Fg)(mg:Str->Option Value)(base:bq)(A:bv)(outer:List Env)(s:Shared)(H:Hp):Prop where
  frames:A.frames=aa outer
  mod:Mod K mg base
  bs:∀ b o,base.get? b=aa o->s.heap.get? b=aa o/\H b=ab
  bsz:base.objs.size<=s.heap.objs.size
  funs:s.heap.FunFrames base outer
  frf:∀ b∈frs outer,H b=ab
  hok:HOk P w H s.heap
  bare:AllBare s.gens
def CE(outer:Li Env)(P:bg)(w:br)(H:Hp)(s:Sd)(Q:VK)(u:vL)(a:Sd):Prop:=
  ∃ v b,a.os=s.os/\AllBare a.gens/\Un (frs outer) [] H b s.heap a.heap/\HOk P w b a.heap/\RelV v u/\Q v b
def CR(CX:CXT)(outer:Li Env)(P:bg)(w:br)(H:Hp)(s:Sd)(Q:VK)(E:XK)(r:Result)(a:Sd):Prop:=
  match r with
  |.ok (.ret u)=>CE outer P w H s Q u a
  |.ok _=>False
  |.error e=>CX outer H s E e a
structure FnOk(P:bg)(w:br)(K:Fg)(mg:Str->Option Value)(base:bq)(CX:CXT)(k:Nat)(f:Addr)(fd:bp)(ps:List Str)(sp:Sp):Prop where
  len:∀ vs H Q E,sp vs H Q E->vs.length=ps.length
  run:∀ (A:bv) (outer:List Env) (s:Shared) (H:Hp) (args:Args) (us:List Value) (vs:List V) (Q:VK) (E:XK),Room k A->Env0 P w K mg base A outer s H->BindsTo s fd args (ps.zip us)->Vals vs us->sp vs H Q E->
    codeAny (bf P w) A (.call (.ref f) args) (CR CX outer P w H s Q E) s
section
variable{s':Sd}
def Inv.env0(I:Inv X pQ O H s):Env0 X.prog X.w X.K X.mg X.base X.A X.stack s H:=
  ⟨I.ok.frames,I.ok.mod,I.bs,aJ I.ok.bsz I.sz,I.stack,I.stkFree,I.hok,I.bare⟩
def Inv.after{Q:VK}{u:vL}(I:Inv X pQ O H s)(h:CE X.stack X.prog X.w H s Q u s'):EP X pQ O Q u s':=by
  obtain⟨v,j,f,a,un,e,r,q⟩:=h;obtain⟨i,g,d,t,c⟩:=s';obtain rfl:c=s.os:=f;exact⟨v,j,I.call (h':=i) (g':=g) (d':=d) (t':=t) (ch:=[]) un e a (λb z=>au z (by simp)),r,q⟩
end
def tCall(c:Sp)(a:Li V)(E:XK)(t:TA):TE:=λO H Q=>t O H λb d=>c (b++a) d Q E
def Binds(K:Fg)(fd:bp)(a:Li Str)(b:Li vL):Prop:=
  ∀ (s:Sd) (us:Li vL),K.In s.heap->(us++b).length=a.length->BindsTo s fd ⟨us,[]⟩ (a.zip (us++b))
variable{ps:Li Str}
def Binds.all{fd:bp}(h:∀ us:Li vL,us.length=ps.length->bindArgs fd ⟨us,[]⟩=pure (ps.zip us)):Binds K fd ps []:=λs us _ a=>by
  rw[bF]at a ⊢;exact .of_eq (h us a)
def Passes(CX:CXT)(X:Cx)(E:XK):Prop:=∀ (pQ:Li (Ad×Obj)) (O:St) (H:Hp) (s:Sd) (e:vL) (s':Sd),Inv X pQ O H s->CX X.stack H s E e s'->X.xe e s'
variable{vs:Li V}
variable{CX:CXT}{k:Nat}{fd:bp}{ps:Li Str}{sp:Sp}{m:Str}{p apos:Pos}
section
variable{dvs:Li V}{ds:Li vL}{E:XK}{x:Str}
def run_fn{O:St}{Q:VK}(F:FnOk X.prog X.w X.K X.mg X.base CX k f fd ps sp)(g:Room k X.A)(j:Binds X.K fd ps ds)(hd:Vals dvs ds)(d:Passes CX X E)(I:Inv X pQ O H s)(r:Vals vs us)(h:sp (vs++dvs) H Q E):a9 (bf X.prog X.w) X.A (call (.ref f) us) (EP X pQ O Q) X.xe s:=by
  have b:Vals (vs++dvs) (us++ds):=r.append hd;have i:(us++ds).length=ps.length:=by rw[<-b.length];exact F.len _ _ _ _ h
  refine wpAny_call (codeAny_mono (F.run X.A X.stack s H ⟨us,[]⟩ (us++ds) (vs++dvs) Q E g I.env0 (j s us I.kIn i) b h) λr c a=>?_)
  cases r with
  |error e=>exact d pQ O H s e c I a
  |ok l=>
    cases l with
    |ret u=>exact I.after a
    |next=>exact False.elim a
    |brk=>exact False.elim a
    |cont=>exact False.elim a
def pe_call(F:FnOk X.prog X.w X.K X.mg X.base CX k f fd ps sp)(g:Room k X.A)(l:Gl X x)(i:X.mg x=aa (.ref f))(j:W.keepIn X.K (.ref f)=ae)(n:Binds X.K fd ps ds)(hd:Vals dvs ds)(d:Passes CX X E)(o:PA X (e :: es) t)(b:(x==("__debug__":Str))=af:=by decide)(m:bh (e :: es) X.env=(af,eval e X.env) :: bh es X.env:=by rfl)(a:(backTo pos (bh es X.env)).any (·.1)=af:=by rfl) :
    PE X (.Call (.Name x p) (e :: es) [] pos) (tCall sp dvs E t):=by
  intro pQ s O H Q I h;refine wpAny_Call_Name_kw (ld_glob I l i ?_ b);refine W.callWith_K (h₀:=X.base) I.ok.mod.kin j (thn (o pos pQ s O H _ I h) λus s1 ⟨vs,u,c,r,q⟩=>⟨c.kIn,?_⟩) m a
  exact run_fn F g n hd d c r q
def pe_call0(F:FnOk X.prog X.w X.K X.mg X.base CX k f fd ps sp)(c:Room k X.A)(g:Gl X x)(d:X.mg x=aa (.ref f))(e:W.keepIn X.K (.ref f)=ae)(i:Binds X.K fd ps ds)(hd:Vals dvs ds)(b:Passes CX X E)(a:(x==("__debug__":Str))=af:=by decide):PE X (.Call (.Name x p) [] [] pos) (tCall sp dvs E tNil):=by
  intro pQ s O H Q I h;refine wpAny_Call_Name_kw (ld_glob I g d ?_ a);exact W.callWith_K0 I.kIn e (run_fn (us:=[]) F c i hd b I .nil h)
structure Mk(K:Fg)(C f:Addr):Prop where
  makes:W.makesIn K C=ae
  init:W.findIn K (.ref C) "__init__"=aa (aa (.ref f))
  fn:W.isFn K (.ref f)=ae
  kp:W.keepIn K (.ref C)=ae
end
section
variable{ks:Li Str}{E:XK}{x:Str}{kpos:Pos}{kws:Li Keyword}{tk:TA}{nm:Ot Str}
structure KBinds(K:Fg)(fd:bp)(ps ks:List Str)(g:List Value->List Value->List Value)(gV:List V->List V->List V):Prop where
  to:∀ (s:Shared) (us ws:List Value),K.In s.heap->(g us ws).length=ps.length->BindsTo s fd ⟨us,ks.zip ws⟩ (ps.zip (g us ws))
  rel:∀ {vs:List V}{us:List Value}{zs:List V}{ws:List Value},Vals vs us->Vals zs ws->Vals (gV vs zs) (g us ws)
variable{g:Li vL->Li vL->Li vL}{gV:Li V->Li V->Li V}
end
structure FnScope(N P:List Str)(sc:bo):Prop where
  kind:sc.kind=.function
  co:sc.isCoroutine=af
  gen:sc.isGenerator=af
  nd:N.Nodup
  pre:N.take P.length=P
  par:∀ x∈P,sc.names.lookup x=aa .local\/sc.names.lookup x=aa .cell
  nofree:∀ y∈sc.names,y.2≠.free
theorem bindL_out{a:Str->Ot NameKind}{x:Str}:∀ {binds:Li (Str×vL)}{m:Str->Ot vL},(∀ v,(x,v)∉binds)->bindL a binds m x=m x
  |[],_,_=>rfl
  | (n,v) :: r,m,h=>by
    unfold bindL;rw[bindL_out λw b=>h w (Lm _ b)]
    split
    . have:x≠n:=by rintro rfl;exact h v Ls
      simp[this]
    . rfl
theorem bindC_out{a:Str->Ot NameKind}{x:Str}:∀ {binds:Li (Str×vL)}{m:Str->Ot vL},(∀ v,(x,v)∉binds)->bindC a binds m x=m x
  |[],_,_=>rfl
  | (n,v) :: r,m,h=>by
    unfold bindC;rw[bindC_out λw b=>h w (Lm _ b)]
    split
    . rfl
    . have:x≠n:=by rintro rfl;exact h v Ls
      simp[this]
theorem bindL_get{a:Str->Ot NameKind}{x:Str}{v:vL}:∀ {P:Li Str}{vs:Li vL}{i:Nat}{m:Str->Ot vL},P.Nodup->P[i]?=aa x->vs[i]?=aa v->a x=aa .local->
    bindL a (P.zip vs) m x=aa v
  |[],_,_,_,_,h,_,_=>by simp at h
  |_ :: _,[],_,_,_,_,h,_=>by simp at h
  |p :: P,w :: vs,0,m,d,c,b,e=>by
    simp at c b;subst c;subst b;show bindL a ((p,w) :: P.zip vs) m p=_;unfold bindL;rw[bindL_out λv f=>(bS.mp d).1 (fH f).1,aq e]
    simp
  |p :: P,w :: vs,i+1,m,d,c,b,e=>by
    show bindL a ((p,w) :: P.zip vs) m x=_;unfold bindL;exact bindL_get (i:=i) (bS.mp d).2 (by simpa using c) (by simpa using b) e
theorem bindC_get{a:Str->Ot NameKind}{x:Str}{v:vL}:∀ {P:Li Str}{vs:Li vL}{i:Nat}{m:Str->Ot vL},P.Nodup->P[i]?=aa x->vs[i]?=aa v->a x≠aa .local->
    bindC a (P.zip vs) m x=aa v
  |[],_,_,_,_,h,_,_=>by simp at h
  |_ :: _,[],_,_,_,_,h,_=>by simp at h
  |p :: P,w :: vs,0,m,d,c,b,e=>by
    simp at c b;subst c;subst b;show bindC a ((p,w) :: P.zip vs) m p=_;unfold bindC;rw[bindC_out λv f=>(bS.mp d).1 (fH f).1,ar e]
    simp
  |p :: P,w :: vs,i+1,m,d,c,b,e=>by
    show bindC a ((p,w) :: P.zip vs) m x=_;unfold bindC;exact bindC_get (i:=i) (bS.mp d).2 (by simpa using c) (by simpa using b) e
noncomputable def start(N:Li Str)(vs:Li V):St:=vs.map aa++ag (N.length - vs.length) ab
noncomputable def cxOf(CX:CXT)(P:bg)(w:br)(K:Fg)(mg:Str->Ot vL)(base:bq)(N:Li Str)(a:Str)(scope:bo)(f:Ad)(c:vL)(A:bv)(outer:Li Env)(s:Sd)(H:Hp)(E:XK):Cx where
  prog:=P
  w:=w
  K:=K
  mg:=mg
  base:=base
  A:=A.deeper (envOfC a scope s.heap.objs.size f c)
  N:=N
  s₀:=s
  H₀:=H
  env:=envOfC a scope s.heap.objs.size f c
  outer:=outer
  stack:=envOfC a scope s.heap.objs.size f c :: outer
  ex:=[]
  calm:=ae
  fn:=λ_=>ae
  pn:=[]
  xe:=λe d=>a9 (bf P w) (A.deeper (envOfC a scope s.heap.objs.size f c)) (leaving (envOfC a scope s.heap.objs.size f c) e) (λ_ b=>CX outer H s E e b) (λg b=>CX outer H s E g b) d
def cell_has{sc:bo}{x:Str}(h:sc.names.lookup x=aa .cell):∃ c,(cellsFrom n sc.names []).lookup x=aa c:=by
  have q:=W.cellsFrom_some sc.names n [] (.inl h);exact fY.mp q
variable{mg:Str->Ot vL}{base:bq}
def inv_start{CX:CXT}{P:bg}{d:Str}{scope:bo}{f:Ad}{C:vL}{outer:Li Env}{s1:Sd}{E:XK}(S:FnScope N ps scope)(hd:A.handled=ab)(j:Env0 P w K mg base A outer s H)(L:vs.length=ps.length)(r:Vals vs us)(x:InCallC s s.heap.objs.size (bindL (envOfC d scope s.heap.objs.size f C).kindOf (ps.zip us) λ_=>ab) (cellsFrom (s.heap.objs.size+1) scope.names []) (bindC (envOfC d scope s.heap.objs.size f C).kindOf (ps.zip us) λ_=>ab) s1) :
    Inv (cxOf CX P w K mg base N d scope f C A outer s H E) [] (start N vs) H s1:=by
  have G:ps.length<=N.length:=by have:=av List.length S.pre;rw[aV]at this;omega
  obtain⟨B,J,rfl,F⟩:=x.done;have l:∀ b:Ad,b∉(cxOf CX P w K mg base N d scope f C A outer s H E).ex:=λb z=>au (show b∈([]:Li Ad) from z) (by simp)
  refine⟨⟨j.mod,S.kind,rfl,rfl,aB _,λy z c B g=>?_,λy hy=>?_,λy c _ h=>?_,λ_=>hd,Around.frames_deeper j.frames,.inr ⟨rfl,rfl⟩,λb z=>au z (l b),j.bs,j.bsz,λb _ _=>l b,λb z=>au z (l b),j.funs,j.frf⟩,
    rfl,j.bare,Un.kept F,⟨_,x.toInCall.ns,λi y v B g M=>?_⟩,λy c h=>⟨_,x.cell y c h⟩,j.hok.fresh (aB _),λy c h=>?_,λp o=>au (show p∈([]:Li (Ad×Obj)) from o) (by simp),j.hok.kept F,?_⟩
  . exact name_of_addr x.apart (PySem.mem_of_lookup B) (PySem.mem_of_lookup g)
  . have hy:scope.names.lookup y=aa .cell\/scope.names.lookup y=aa .free:=hy
    rcases hy with hy|hy
    . exact cell_has hy
    . exact au rfl (S.nofree _ (PySem.mem_of_lookup hy))
  . exact eC (x.above y c (PySem.mem_of_lookup h))
  . have t:i < vs.length:=by
      unfold start at g;by_cases t:i < vs.length
      . exact t
      . rw[bD (by simpa using t)]at g
        rw[fZ]at g;split at g<;>cases g
    have I:vs[i]?=aa v:=by
      unfold start at g;rw[bP (by simpa using t),bA]at g
      cases e:vs[i]? with
      |none=>rw[e]at g;cases g
      |some a=>rw[e]at g;cases g;rfl
    obtain⟨u,D,rv⟩:=r.get I;have o:ps[i]?=aa y:=by
      rw[<-S.pre,List.getElem?_take_of_lt (by omega)];exact B
    have m:ps.Nodup:=by rw[<-S.pre];exact S.nd.sublist (List.take_sublist _ _)
    refine⟨u,rv,?_⟩;rcases S.par y (aW o) with k|k
    . exact .inl ⟨k,bindL_get m o D k⟩
    . obtain⟨c,e⟩:=cell_has (n:=s.heap.objs.size+1) k
      refine .inr ⟨.inl k,c,e,?_⟩;have q:=x.cell y c e;rw[bindC_get m o D (by show scope.names.lookup y≠_;rw[k];decide)]at q
      exact q
  . exact j.hok.fresh (eC (x.above y c (PySem.mem_of_lookup h)))
  . unfold start
    show _=N.length;rw[aH,aD,fI];omega
def fn_of{CX:CXT}{P:bg}{f:Ad}{g a:Str}{d:Arguments}{body:Li Stmt}{scope:bo}{T kV B R c ct oc:vL}{X Z:Ot Ad}{G:Array (Ot vL)}{D:Sp}(lk:K.lookup f=aa ⟨oc,Z,.func (W.fnOf g a d body scope T kV B R X c ct),G⟩)(O:W.codeIn K c a=ae)(S:FnScope N ps scope)(len:∀ vs H Q E,D vs H Q E->vs.length=ps.length)(j:∀ (A:bv) (outer:Li Env) (s:Sd) (H:Hp) (vs:Li V) (Q:VK) (E:XK),Room k (A.deeper (envOfC a scope s.heap.objs.size f c))->D vs H Q E->
      ∃ t,PSs (cxOf CX P w K mg base N a scope f c A outer s H E) body t/\t { nx:=λ_ h=>Q .non h,rt:=Q } (start N vs) H) :
    FnOk P w K mg base CX (k+1) f (W.fnOf g a d body scope T kV B R X c ct) ps D:=by
  refine⟨len,λA outer s H U us vs Q E M z hb r m=>?_⟩
  have hl:=len _ _ _ _ m;have Y:K.In s.heap:=z.mod.kin.keeps λb o e=>(z.bs b o e).1
  have L:s.heap.NoLimit:=z.mod.nolimit.keeps λb o e=>(z.bs b o e).1
  have i:∀ y∈ps.zip us,scope.names.lookup y.1=aa .local\/(scope.names.lookup y.1=aa .cell/\((cellsFrom (s.heap.objs.size+1) scope.names []).lookup y.1).isSome=ae):=λ⟨n,v⟩ hy=>by
    rcases S.par n (fH hy).1 with q|q
    . exact .inl q
    . exact .inr ⟨q,W.cellsFrom_some _ _ _ (.inl q)⟩
  refine codeAny_call_function M.depth (Y _ _ lk) rfl S.co S.gen rfl (W.codeRec_of Y O) (hb _ _ _ _ ?_);refine wpAny_newFunctionEnv_cells S.kind i λenv he s1 x=>?_
  subst he;refine⟨L.keeps x.toInCall.keep,codeAny_func ?_⟩;obtain⟨t,ht,hq⟩:=j A outer s H vs Q E (M.deeper _) m;have I:Inv (cxOf CX P w K mg base N a scope f c A outer s H E) [] (start N vs) H s1:=inv_start S M.hd z hl r x;refine bZ (ht [] s1 (start N vs) H _ I hq) (λfl F l=>?_) λe F l=>l
  have p:∀ {C:St}{h:Hp}{v:V}{u:vL},Inv (cxOf CX P w K mg base N a scope f c A outer s H E) [] C h F->RelV v u->Q v h->CE outer P w H s Q u F:=
    λ{C h v u} J rv q=>⟨v,h,J.os,J.bare,J.base,J.hok,rv,q⟩
  cases fl with
  |ret u=>
    obtain⟨v,C,h,J,rv,q⟩:=l;exact p J rv q
  |next=>
    obtain⟨C,h,J,q⟩:=l;exact p (v:=V.non) (u:=b5) J rfl q
  |brk=>
    obtain⟨_,_,_,q⟩:=l;exact False.elim q
  |cont=>
    obtain⟨_,_,_,q⟩:=l;exact False.elim q
section
variable{x:Str}{id T:String}{r:Li V->Hp->VK->Prop}
def tCB(r:Li V->Hp->VK->Prop)(t:TA):TE:=λO H Q=>t O H λvs a=>r vs a Q
def pe_callB(l:CallR X (.builtin id) r)(j:Gl X x)(i:X.mg x=ab)(f:bj x=aa (.builtin id))(m:PA X (e :: es) t)(g:x ≠ "__name__":=by decide)(b:(x==("__debug__":Str))=af:=by decide)(k:bh (e :: es) X.env=(af,eval e X.env) :: bh es X.env:=by rfl)(a:(backTo pos (bh es X.env)).any (·.1)=af:=by rfl):PE X (.Call (.Name x p) (e :: es) [] pos) (tCB r t):=by
  intro pQ s O H Q I h;refine wpAny_Call_Name_kw (ld_blt I j i f ?_ g b);exact PyProof.Rows.callWith_builtin1 (thn (m pos pQ s O H _ I h) λus s1 ⟨vs,o,n,c,d⟩=>l pQ s1 O o vs us Q n c d) k a
def pe_callTy(l:CallR X (.type T) r)(j:Gl X x)(i:X.mg x=ab)(f:bj x=aa (.type T))(m:PA X (e :: es) t)(g:x ≠ "__name__":=by decide)(b:(x==("__debug__":Str))=af:=by decide)(k:bh (e :: es) X.env=(af,eval e X.env) :: bh es X.env:=by rfl)(a:(backTo pos (bh es X.env)).any (·.1)=af:=by rfl):PE X (.Call (.Name x p) (e :: es) [] pos) (tCB r t):=by
  intro pQ s O H Q I h;refine wpAny_Call_Name_kw (ld_blt I j i f ?_ g b);exact PyProof.Rows.callWith_type1 (thn (m pos pQ s O H _ I h) λus s1 ⟨vs,o,n,c,d⟩=>l pQ s1 O o vs us Q n c d) k a
end
end L2
namespace HT
open PySem PyProof.Rows
section
open PySem.SeqAt
open PySem.AutoSeq1 (wpAny_loadPart')
open PySem.MeetsSeq PySem.MeetsSeq2 PySem.MeetsSeq3
end
variable{Q:vL->Sd->Prop}{hi:Ot Int}
section
variable{prog:bg}{w:br}{A:bv}{E:vL->Sd->Prop}{s:Sd}
def cat_tup{t b:Ad}{d a:Li vL}(v:IsTup s.heap t d.toArray)(x:IsTup s.heap b a.toArray)(p:d≠[])(z:a=[]->Q (.ref t) s)(y:a≠[]->Q (.ref s.heap.objs.size) { s with heap:=s.heap.push { cls:=.type "tuple",data:=.seq (d++a).toArray } })(l:d.length+a.length<=ay):a9 (bf prog w) A (bw .Add (.ref t) (.ref b)) Q E s:=by
  obtain⟨⟨cls,dd,data,sl⟩,k,r,n,q⟩:=id v;obtain⟨⟨u,i,m,f⟩,c,h,o,g⟩:=id x;simp only at r q h g;subst r q h g;have e:d.toArray++a.toArray=(d++a).toArray:=by simp
  by_cases j:a=[]
  . exact concat_meets ⟨_,k,rfl⟩ ⟨_,c,rfl⟩ noFill_tuple_add seq_tuple_add PySem.F.slot_tuple_add PySem.F.entry_tuple_add (PySem.F.args_tuple_add_2 _ _)
      (tuple_addW1 t b d.toArray a.toArray n o dd i sl f (by simpa using p) (by simp[j])) ⟨k,c,z j⟩
  . refine concat_meets ⟨_,k,rfl⟩ ⟨_,c,rfl⟩ noFill_tuple_add seq_tuple_add PySem.F.slot_tuple_add PySem.F.entry_tuple_add (PySem.F.args_tuple_add_2 _ _)
      (tuple_addW2 t b d.toArray a.toArray n o dd i sl f (by simpa using p) (by simpa using j) (by rw[aF,aF];exact l)) ⟨k,c,?_⟩
    rw[e];exact y j
noncomputable def sIx(n d:Nat):Ot Int->Nat
  |none=>d
  |some v=>if v < 0 then (v+(n:Int)).toNat else min v.toNat n
def sIx_le(n d:Nat)(hd:d<=n)(o:Ot Int):sIx n d o<=n:=by
  cases o with
  |none=>exact hd
  |some v=>
    show(if v < 0 then (v+(n:Int)).toNat else min v.toNat n)<=n
    by_cases a:v < 0
    . rw[aq a];omega
    . rw[ar a];exact Nat.min_le_right _ _
def clip_eq(v:Int)(n d:Nat):(if v < 0 then max (v+(n:Int)) 0 else min v (n:Int))=((sIx n d (aa v):Nat):Int):=by
  show(if v < 0 then max (v+(n:Int)) 0 else min v (n:Int))=(((if v < 0 then (v+(n:Int)).toNat else min v.toNat n):Nat):Int)
  by_cases a:v < 0
  . simp only[aq a];omega
  . simp only[ar a];omega
def adjust_gen(lo hi:Ot Int)(n:Nat):Builtin.Slice.sliceAdjust lo hi 1 (n:Int)=(((sIx n 0 lo:Nat):Int),((sIx n n hi:Nat):Int)):=by
  have a:¬((1:Int) < 0):=by omega
  unfold Builtin.Slice.sliceAdjust;simp only[a,if_false];refine Prod.ext ?_ ?_
  . cases lo with
    |none=>rfl
    |some v=>exact clip_eq v n 0
  . cases hi with
    |none=>rfl
    |some v=>exact clip_eq v n n
def places_gen(i j:Nat):Builtin.Slice.slicePlaces (i:Int) (j:Int) 1=j - i:=by
  unfold Builtin.Slice.slicePlaces;have a:(1:Int) > 0:=by omega
  simp only[a,if_true,Int.ediv_one];split<;>omega
def slicePart_{v:vL}{o:Ot Int}{Q:Ot Int->Sd->Prop}(p:IsPart v o)(h:Q o s):a9 (bf prog w) A (Builtin.Slice.slicePartIndex v) Q E s:=by
  cases p with
  |none=>exact slicePart_none h
  |int i t=>exact slicePart_int h
def sliceApplied_gen{sl:Ad}{d c:vL}{lo:Ot Int}{n:Nat}{Q:Int×Int×Nat->Sd->Prop}(g:s.heap.IsSliceOf sl d c .none)(f:IsPart d lo)(e:IsPart c hi)(h:Q (((sIx n 0 lo:Nat):Int),1,sIx n n hi - sIx n 0 lo) s):a9 (bf prog w) A (Builtin.Slice.sliceApplied (.ref sl) (pure (n:Int))) Q E s:=by
  obtain⟨j,a,i,b⟩:=id g;unfold Builtin.Slice.sliceApplied Builtin.Slice.sliceFields;refine aA (aA (wpAny_field a b (x:=d) rfl (aA (wpAny_field a b (x:=c) rfl (aA (wpAny_field a b (x:=.none) rfl (aE ?_)))))));refine aA (slicePart_none ?_);show a9 _ _ (if ((1:Int)==0)=ae then _ else _) _ _ s
  rw[ar (by decide)]
  refine aA (slicePart_ f (aA (slicePart_ e (aA (aE ?_)))));show a9 _ _ (match Builtin.Slice.sliceAdjust lo hi 1 (n:Int) with | (lo,hi)=>pure (lo,(1:Int),Builtin.Slice.slicePlaces lo hi 1)) _ _ s
  rw[adjust_gen lo hi n];show a9 _ _ (pure (((sIx n 0 lo:Nat):Int),(1:Int),Builtin.Slice.slicePlaces ((sIx n 0 lo:Nat):Int) ((sIx n n hi:Nat):Int) 1)) _ _ s;rw[places_gen];exact aE h
def pick_gen(a:Array vL)(i k:Nat):((aj k).filterMap λ(m:Nat)=>a[((i:Int)+(m:Int) * 1).toNat]?).toArray=((a.toList.drop i).take k).toArray:=by
  have e:(λ(m:Nat)=>a[((i:Int)+(m:Int) * 1).toNat]?)=λm=>a[i+m]?:=by
    funext m
    have:((i:Int)+(m:Int) * 1).toNat=i+m:=by omega
    rw[this]
  rw[e];have:=pick_run a i k;rw[List.filterMap_map]at this;have b:((λx=>a[x]?) ∘ λx=>i+x)=λm=>a[i+m]?:=rfl
  rw[b]at this;rw[this]
def getItem_tuple_cut{t sl:Ad}{a:Array vL}{j i:vL}{lo:Ot Int}(c:IsTup s.heap t a)(k:s.heap.IsSliceOf sl j i .none)(n:IsPart j lo)(l:IsPart i hi)(p:¬(sIx a.size 0 lo=0/\sIx a.size a.size hi=a.size))(h:Q (.ref s.heap.objs.size) { s with heap:=s.heap.push { cls:=.type "tuple",data:=.seq ((a.toList.drop (sIx a.size 0 lo)).take (sIx a.size a.size hi - sIx a.size 0 lo)).toArray } })(r:a.size<=ay):a9 (bf prog w) A (getItem (.ref t) (.ref sl)) Q E s:=by
  have b:sizeOk (.seq ((a.toList.drop (sIx a.size 0 lo)).take (sIx a.size a.size hi - sIx a.size 0 lo)).toArray):=by
    show((a.toList.drop (sIx a.size 0 lo)).take (sIx a.size a.size hi - sIx a.size 0 lo)).toArray.size<=ay;rw[aF,aV,cB,eN];omega
  have y:sIx a.size a.size hi<=a.size:=sIx_le _ _ (aB _) hi;obtain⟨o,d,f,u⟩:=id k;have g:s.TypeIs (.ref sl) "slice":=⟨o,d,f⟩;unfold getItem
  try with_reducible refine wpAny_holding ?_
  first|refine aA (aE ?_)|skip
  refine aA (wpAny_sequenceKey c.typeIs (by decide) ?_)
  refine aA (wpAny_callSpecial?_slot (name:=Str.ofString "__getitem__") c.typeIs PyProof.Rows.slot_tuple_getitem
    (wpAny_call_entry PyProof.Rows.slot_tuple_getitem c.typeIs entry_tuple_getitem ?_ (args_tuple_getitem _ _)))
  show a9 _ _ (Builtin.Tuple.tupleItemsOf (.ref t) >>= _) _ _ s;refine aA (tupleItemsOf_ c ?_);refine aA (wpAny_typeOf g ?_);rw[aq (by decide)]
  refine aA (sliceApplied_gen k n l ?_);have e:¬((((sIx a.size 0 lo:Nat):Int)==0&&(1:Int)==1&&(sIx a.size a.size hi - sIx a.size 0 lo)==a.size)=ae):=by
    intro q;rw[Ba,Ba]at q;have x:((sIx a.size 0 lo:Nat):Int)=0:=eq_of_beq q.1.1;have v:sIx a.size a.size hi - sIx a.size 0 lo=a.size:=eq_of_beq q.2;exact p ⟨by omega,by omega⟩
  show a9 _ _ (if (((sIx a.size 0 lo:Nat):Int)==0&&(1:Int)==1&&(sIx a.size a.size hi - sIx a.size 0 lo)==a.size)=ae then _ else _) _ _ s
  rw[ar e,pick_gen]
  first
    |exact aA (m:=Builtin.Tuple.tupleExact _) (wpAny_newObj_type (aE ⟨_,rfl,aE h⟩) b)
    |exact aA (m:=Builtin.Tuple.tupleExact _) (wpAny_newObj_type (aA (aE (aE ⟨_,rfl,aE h⟩))) b)
    |exact aA (aA (m:=Builtin.Tuple.tupleExact _) (wpAny_newObj_type (aE (aE ⟨_,rfl,aE h⟩)) b))
    |exact aA (aA (m:=Builtin.Tuple.tupleExact _) (wpAny_newObj_type (aE ⟨_,rfl,aE h⟩) b))
end
end HT
namespace L2
open PySem PySem.Spec PyProof.Rows
abbrev TO:=St->Hp->(Ot Int->Hp->Prop)->Prop
def PO(X:Cx)(e:Ot az)(t:TO):Prop:=
  ∀ (pQ:Li (Ad×Obj)) (s:Sd) (O:St) (H:Hp) (Q:Ot Int->Hp->Prop),Inv X pQ O H s->t O H Q->
    a9 (bf X.prog X.w) X.A (evalPart e X.env) (λu b=>∃ o a,Inv X pQ O a b/\IsPart u o/\Q o a) X.xe s
def tNoPart:TO:=λ_ H Q=>Q ab H
def tPart(t:TE):TO:=λO H Q=>t O H λx a=>∃ i,x=.int i/\Q (aa i) a
variable{xs:Li V}{us:Li vL}
variable{X:Cx}{e:az}{pos:Pos}
section
variable{te:TE}{lo hi:Ot az}{tl th:TO}{p2:Pos}
def po_none:PO X ab tNoPart:=by
  intro a s O H Q I h;rw[evalPart_none];exact aE ⟨ab,H,I,.none,h⟩
def po_some(h:PE X e te):PO X (aa e) (tPart te):=by
  intro c s O H Q I d;rw[evalPart_some];refine thn (h c s O H _ I d) λu s1 ⟨x,g,f,a,b⟩=>?_
  obtain⟨i,rfl,q⟩:=b;obtain⟨t,rfl⟩:=a;exact⟨aa i,g,f,.int i t,q⟩
def SlR(X:Cx)(r:V->Ot Int->Ot Int->Hp->VK->Prop):Prop:=
  ∀ (pQ:Li (Ad×Obj)) (s:Sd) (O:St) (H:Hp) (x:V) (v vl vu:vL) (lo hi:Ot Int) (sl:Ad) (Q:VK),Inv X pQ O H s->RelV x v->s.heap.IsSliceOf sl vl vu .none->IsPart vl lo->IsPart vu hi->r x lo hi H Q->
    ∃ T id,typeLookup (.type T) "__getitem__"=pure (aa (.builtin id))/\s.TypeIs v T/\a9 (bf X.prog X.w) X.A (getItem v (.ref sl)) (EP X pQ O Q) X.xe s
def tSl(r:V->Ot Int->Ot Int->Hp->VK->Prop)(te:TE)(tl th:TO):TE:=λO H Q=>te O H λx c=>tl O c λl b=>th O b λu a=>r x l u a Q
def pe_slice{r:V->Ot Int->Ot Int->Hp->VK->Prop}(y:SlR X r)(C:PE X e te)(z:PO X lo tl)(hu:PO X hi th):PE X (.Subscript e (.Slice lo hi ab p2) pos) (tSl r te tl th):=by
  intro c s O H Q I h;refine Subscript_ (thn (C c s O H _ I h) λv s1 ⟨x,L,J,j,n⟩=>?_)
  refine wpAny_Slice (thn (z c s1 O L _ J n) λf i ⟨l,K,G,p,m⟩=>thn (hu c i O K _ G m) λd a ⟨u,g,F,o,k⟩=>?_)
  rw[evalPart_none];refine aE ?_;have E:Inv X c O g { a with heap:=a.heap.push { cls:=.type "slice",data:=.fields #[f,d,.none] } }:=F.kept (t':=a.toks) λb M q=>aS _ q
  obtain⟨T,id,D,t,B⟩:=y c { a with heap:=a.heap.push { cls:=.type "slice",data:=.fields #[f,d,.none] } } O g x v f d l u a.heap.objs.size Q E j (Heap.IsSliceOf.new ..) p o k
  show a9 (bf X.prog X.w) X.A (subscriptTail e (.Slice lo hi ab p2) v (.ref a.heap.objs.size)) (EP X c O Q) X.xe { a with heap:=a.heap.push { cls:=.type "slice",data:=.fields #[f,d,.none] } }
  exact tail_any (ops:=[.ref a.heap.objs.size,v]) t D B (by with_unfolding_all rfl)
noncomputable def cutV(xs:Li V)(lo hi:Ot Int):Li V:=(xs.drop (HT.sIx xs.length 0 lo)).take (HT.sIx xs.length xs.length hi - HT.sIx xs.length 0 lo)
def cutV_length(xs:Li V)(lo hi:Ot Int):(cutV xs lo hi).length<=xs.length:=by
  unfold cutV;rw[aV,cB];omega
def rSlT(K:Fg):V->Ot Int->Ot Int->Hp->VK->Prop:=λx lo hi H Q=>∃ a xs,x=.ref a/\SqT K H a xs /\
  ¬(HT.sIx xs.length 0 lo=0/\HT.sIx xs.length xs.length hi=xs.length)/\∀ p,H p=ab->Q (.ref p) (upd H p (.tup (cutV xs lo hi)))
def sl_tup:SlR X (rSlT X.K):=by
  intro t s O H x v p n lo hi sl Q I g m j i h;obtain⟨a,xs,rfl,k,l,q⟩:=h;cases g;obtain⟨d,r,f,e⟩:=I.tuple k;have c:d.toArray.size=xs.length:=by rw[aF];exact r.length.symm
  refine⟨"tuple",_,PyProof.Rows.slot_tuple_getitem.lookup,f.typeIs,?_⟩;refine HT.getItem_tuple_cut f m j i (by rw[c];exact l) ?_ (by rw[c];exact e)
  rw[c];refine⟨.ref s.heap.objs.size,_,I.laid (t':=s.toks) (o:=.tup (cutV xs lo hi)) (λb u q=>aS _ q) (aB _) ?_,rfl,q _ (I.hok.fresh (aB _))⟩
  exact⟨aJ (cutV_length xs lo hi) e,_,(r.drop (HT.sIx xs.length 0 lo)).take (HT.sIx xs.length xs.length hi - HT.sIx xs.length 0 lo),IsTup.new _ _⟩
def rCatT(K:Fg):R2:=λx y H Q=>∃ a b xs c,x=.ref a/\y=.ref b/\SqT K H a xs/\SqT K H b c/\xs≠[]/\xs.length+c.length<=ay /\
  (c=[]->Q (.ref a) H)/\(c≠[]->∀ p,H p=ab->Q (.ref p) (upd H p (.tup (xs++c))))
def Vals.nil_iff(r:Vals xs us):us=[]↔xs=[]:=by
  cases r with
  |nil=>simp
  |cons _ _=>simp
def op_catT:OpR X (bw .Add) (rCatT X.K):=by
  intro A s O H x y v u Q I j i h;obtain⟨a,b,xs,g,rfl,rfl,t,r,p,f,l,k⟩:=h;cases j;cases i;obtain⟨n,d,m,_⟩:=I.tuple t;obtain⟨e,c,p2,_⟩:=I.tuple r;refine HT.cat_tup m p2 (λz=>p (d.nil_iff.mp z)) (λz=>⟨.ref a,H,I,rfl,l (c.nil_iff.mp z)⟩) (λz=>?_) (by rw[<-d.length,<-c.length];exact f)
  refine⟨.ref s.heap.objs.size,_,I.laid (t':=s.toks) (o:=.tup (xs++g)) (λb B q=>aS _ q) (aB _) ?_,rfl,k (λw=>z (c.nil_iff.mpr w)) _ (I.hok.fresh (aB _))⟩
  exact⟨by rw[aH];exact f,_,d.append c,IsTup.new _ _⟩
end
noncomputable def ixN(n:Nat)(i:Int):Ot Nat:=if 0<=i then (if i < n then aa i.toNat else ab) else if -(n:Int)<=i then aa (i+n).toNat else ab
def atI{a:Type}(xs:Li a)(i:Int):Ot a:=(ixN xs.length i).bind λj=>xs[j]?
variable{n:Nat}
def ixN_seq{i:Int}{j:Nat}(h:ixN n i=aa j):seqIndex? i n=aa j/\j < n/\-(n:Int)<=i/\i < n:=by
  unfold ixN at h;by_cases b:0<=i
  . rw[aq b]at h
    by_cases a:i < n
    . rw[aq a]at h
      have e:i.toNat=j:=aw h;exact⟨by rw[seqIndex_of b a,e],by omega,by omega,a⟩
    . rw[ar a]at h;cases h
  . rw[ar b]at h
    by_cases a:-(n:Int)<=i
    . rw[aq a]at h
      have e:(i+n).toNat=j:=aw h;exact⟨by rw[seqIndex_neg (by omega) a,e],by omega,a,by omega⟩
    . rw[ar a]at h;cases h
variable{α:Type}
def atI_get{xs:Li α}{i:Int}{v:α}(h:atI xs i=aa v):∃ j,seqIndex? i xs.length=aa j/\xs[j]?=aa v/\j < xs.length/\-(xs.length:Int)<=i/\i < xs.length:=by
  unfold atI at h;cases e:ixN xs.length i with
  |none=>rw[e]at h;cases h
  |some j=>
    rw[e]at h;obtain⟨d,c,b,a⟩:=ixN_seq e;exact⟨j,d,h,c,b,a⟩
def PlainIx(b:az):Prop:=∀ o i,subscripted b af o i=operate [o,i] (getItem o i)
def IxR(X:Cx)(r:R2):Prop:=
  ∀ (value slice:az) (pQ:Li (Ad×Obj)) (s:Sd) (O:St) (H:Hp) (x y:V) (v u:vL) (Q:VK),Inv X pQ O H s->RelV x v->RelV y u->r x y H Q->
    subscripted slice af v u=operate [v,u] (getItem v u)->a9 (bf X.prog X.w) X.A (subscriptTail value slice v u) (EP X pQ O Q) X.xe s
def MtR(X:Cx)(id:String)(r:V->Li V->Hp->VK->Prop):Prop:=
  ∀ (pQ:Li (Ad×Obj)) (s:Sd) (O:St) (H:Hp) (x:V) (xs:Li V) (v:vL) (us:Li vL) (Q:VK),Inv X pQ O H s->RelV x v->Vals xs us->r x xs H Q->
    a9 (bf X.prog X.w) X.A (call (.builtin id) (v :: us)) (EP X pQ O Q) X.xe s
variable{pQ:Li (Ad×Obj)}{s:Sd}{its its':Li vL}{y x:V}
section
variable{a b:az}{ta tb:TE}
def pe_ix{r:R2}(g:IxR X r)(j:PE X a ta)(i:PE X b tb)(f:PlainIx b):PE X (.Subscript a b pos) (tOp r ta tb):=by
  intro pQ s O H Q I h;exact Subscript_ (binT j i I h λv u c x y l k e d q=>g a b pQ c O l x y v u Q k e d q (f _ _))
def rIxL(K:Fg):R2:=λx y H Q=>∃ p xs i v,x=.ref p/\y=.int i/\SqL K H p xs/\atI xs i=aa v/\Q v H
def rIxT(K:Fg):R2:=λx y H Q=>∃ p xs i v,x=.ref p/\y=.int i/\SqT K H p xs/\atI xs i=aa v/\Q v H
def rIxS:R2:=λx y H Q=>∃ z i c,x=.str z/\y=.int i/\z.length<=ay/\atI z.cps.toList i=aa c/\Q (.str ⟨#[c]⟩) H
def ix_list:IxR X (rIxL X.K):=by
  intro c slice pQ s O H x y v u Q I o n h g;obtain⟨p,xs,i,z,rfl,rfl,A,C,q⟩:=h;cases o;obtain⟨t,rfl⟩:=n;obtain⟨its,r,e,G⟩:=I.list A;obtain⟨j,b,F,L,E,D⟩:=atI_get C;obtain⟨w,l,d⟩:=r.get F;have B:=r.length;have J:=line63;have a:EP X pQ O Q w s:=⟨z,H,I,d,q⟩;by_cases k:0<=i
  . have f:i.toNat=j:=by
      rw[seqIndex_of k D]at b;exact aw b
    exact item_listR e.isList k (by omega) (by rw[f];simpa using l) a g
  . have f:(i+(its.toArray.size:Int)).toNat=j:=by
      rw[seqIndex_neg (by omega) E]at b
      rw[aF,<-B];exact aw b
    exact subscriptTail_builtinR (x:=w) e.isList.typeIs slot_list_getitem.lookup
      (wpAny_getItem_list_neg (Q:=λr m=>r=w/\EP X pQ O Q r m) e.isList (by omega) (by rw[aF]<;>omega) (by omega) (by rw[f];simpa using l) ⟨rfl,a⟩) g
def ix_tup:IxR X (rIxT X.K):=by
  intro a slice pQ s O H x y v u Q I g f h k;obtain⟨p,xs,i,z,rfl,rfl,l,n,q⟩:=h;cases g;obtain⟨t,rfl⟩:=f;obtain⟨its,r,d,C⟩:=I.tuple l;obtain⟨j,A,o,G,F,E⟩:=atI_get n;obtain⟨w,B,b⟩:=r.get o;have m:=r.length;have D:=line63;have c:EP X pQ O Q w s:=⟨z,H,I,b,q⟩;exact subscriptTail_builtinR (x:=w) d.typeIs slot_tuple_getitem.lookup
    (getItem_tuple (j:=j) (Q:=λr e=>r=w/\EP X pQ O Q r e) d (by omega) (by omega) (by rw[aF,<-m];exact A) (by simpa using B) ⟨rfl,c⟩) k
def ix_str:IxR X rIxS:=by
  intro a slice pQ s O H x y v u Q I e d h f;obtain⟨z,i,c,rfl,rfl,w,k,q⟩:=h;obtain⟨t,rfl⟩:=e;obtain⟨r,rfl⟩:=d;obtain⟨j,b,n,B,m,l⟩:=atI_get k;have g:z.cps.toList.length=z.length:=by simp[Str.length]
  rw[g]at b m l;have A:=line63;exact tail_any (typeIs_str s z t) slot_str_getitem.lookup (getItem_str (c:=c) (by
    have p:ak (i < -(2 ^ 63:Int))=af:=aI (by omega)
    have o:ak (i>=2 ^ 63)=af:=aI (by omega)
    rw[p,o,dM]) (by rw[b];simpa using n) ⟨.str ⟨#[c]⟩,H,I.tok _,⟨_,rfl⟩,q⟩) f
def mapSeq_set(its:Li vL)(n j:Nat)(u:vL):Obj.mapSeq (·.setIfInBounds j u) { cls:=.type "list",data:=.seq its.toArray n }={ cls:=.type "list",data:=.seq (its.set j u).toArray n }:=by
  simp[Obj.mapSeq]
theorem Inv.lst{pQ:Li (Ad×Obj)}{O:St}{H:Hp}{s:Sd}{p:Ad}{xs:Li V}(I:Inv X pQ O H s)(h:H p=aa (.lst xs)) :
    ∃ (its:Li vL) (n:Nat),Vals xs its/\s.heap.get? p=aa { cls:=.type "list",data:=.seq its.toArray n }/\xs.length<=ay:=by
  obtain⟨z,its,n,r,e⟩:=I.hok p _ h;exact⟨its,n,r,e,z⟩
def Inv.lstUpd{O:St}{H:Hp}{p:Ad}{a:Li V}{c:Nat}{f:Obj->Obj}(I:Inv X pQ O H s)(h:H p=aa (.lst xs))(i:s.heap.get? p=aa { cls:=.type "list",data:=.seq its.toArray n })(d:f { cls:=.type "list",data:=.seq its.toArray n }={ cls:=.type "list",data:=.seq its'.toArray c })(r:Vals a its')(g:a.length<=ay)(t:Nat) :
    Inv X pQ O (upd H p (.lst a)) { s with heap:=s.heap.update p f,toks:=t }:=by
  have e:(s.heap.update p f).get? p=aa { cls:=.type "list",data:=.seq its'.toArray c }:=by
    rw[Heap.get?_update_self f i (by rw[d]<;>rfl),d]
  refine I.write (x:=p) (e:=p) (by rw[h];trivial) (.inl rfl) (λb u j q=>(Heap.get?_update_other _ _ (Ne.symm j)).trans q) ⟨_,e⟩ ?_
  exact⟨g,its',c,r,e⟩
def rSetL:V->V->V->Hp->(Hp->Prop)->Prop:=λo i v H Q=>∃ p xs k j,o=.ref p/\i=.int k/\H p=aa (.lst xs)/\ixN xs.length k=aa j/\Q (upd H p (.lst (xs.set j v)))
def set_list:PSet X rSetL:=by
  intro pQ s O H o i v A B u Q I w x rv h;obtain⟨p,xs,k,j,rfl,rfl,e,z,q⟩:=h;cases w;obtain⟨t,rfl⟩:=x;obtain⟨its,n,r,b,y⟩:=I.lst e;obtain⟨a,D,g,f⟩:=ixN_seq z;have c:=r.length;have C:=line63;have m:Inv X pQ O (upd H p (.lst (xs.set j v))) { s with heap:=s.heap.update p (Obj.mapSeq (·.setIfInBounds j u)) }:=
    I.lstUpd e b (mapSeq_set its n j u) (r.set rv j) (by rw[bL];exact y) s.toks
  by_cases l:0<=k
  . have d:k.toNat=j:=by
      rw[seqIndex_of l f]at a;exact aw a
    exact W.ki_setAt b l (by omega) (by rw[aF,<-c];exact f) (by rw[d];exact⟨_,m,q⟩)
  . have d:(k+(its.toArray.size:Int)).toNat=j:=by
      rw[seqIndex_neg (by omega) g]at a
      rw[aF,<-c];exact aw a
    exact W.ki_setBack b (by omega) (by rw[aF,<-c];exact g) (by omega) (by rw[d];exact⟨_,m,q⟩)
def slice_bounds(lo a:Ot Int)(n:Nat):(sliceBounds lo a ab n).1=((HT.sIx n 0 lo:Nat):Int)/\(sliceBounds lo a ab n).2.1=((HT.sIx n n a:Nat):Int)/\(sliceBounds lo a ab n).2.2=1:=by
  refine⟨?_,?_,rfl⟩
  . cases lo with
    |none=>simp[sliceBounds,HT.sIx]
    |some i=>
      simp only[sliceBounds,HT.sIx,Option.getD_none,show(1:Int) > 0 by decide,if_true]
      by_cases h:i < 0
      . simp only[h,if_true]<;>omega
      . simp only[h,if_false]<;>omega
  . cases a with
    |none=>simp[sliceBounds,HT.sIx]
    |some i=>
      simp only[sliceBounds,HT.sIx,Option.getD_none,show(1:Int) > 0 by decide,if_true]
      by_cases h:i < 0
      . simp only[h,if_true]<;>omega
      . simp only[h,if_false]<;>omega
def slicePick_cut(its:Li vL)(lo a:Ot Int):slicePick its.toArray lo a ab=((its.drop (HT.sIx its.length 0 lo)).take (HT.sIx its.length its.length a - HT.sIx its.length 0 lo)).toArray:=by
  obtain⟨d,c,b⟩:=slice_bounds lo a its.toArray.size;unfold slicePick;rw[d,c,b];simp only[sliceRange_one,pick_run,aF]<;>rfl
def rSlL(K:Fg):V->Ot Int->Ot Int->Hp->VK->Prop:=λx lo b H Q=>∃ a xs,x=.ref a/\SqL K H a xs/\∀ p,H p=ab->Q (.ref p) (upd H p (.lst (cutV xs lo b)))
def sl_list:SlR X (rSlL X.K):=by
  intro pQ s O H x v n m lo d sl Q I f l i g h;obtain⟨a,xs,rfl,k,q⟩:=h;cases f;obtain⟨its,r,e,j⟩:=I.list k;have c:=r.length;refine⟨"list",_,slot_list_getitem.lookup,e.isList.typeIs,?_⟩;refine wpAny_getItem_list_slice e.isList l i g .none (by simp) ?_ (by rw[aF]<;>omega)
  rw[slicePick_cut,<-c];refine⟨.ref s.heap.objs.size,_,I.laid (t':=s.toks) (o:=.lst (cutV xs lo d)) (λb p q=>aS _ q) (aB _) ?_,rfl,q _ (I.hok.fresh (aB _))⟩
  exact⟨aJ (cutV_length xs lo d) j,_,0,(r.drop (HT.sIx xs.length 0 lo)).take (HT.sIx xs.length xs.length d - HT.sIx xs.length 0 lo),bR _ rfl⟩
noncomputable def flatV:V->Bool
  |.non=>ae
  |.bl _=>ae
  |.int _=>ae
  |.str _=>ae
  |_=>af
noncomputable def eqV:V->V->Bool
  |.non,.non=>ae
  |.bl a,.bl b=>a==b
  |.bl a,.int b=>(if a then 1 else 0)==b
  |.int a,.bl b=>a==(if b then 1 else 0)
  |.int a,.int b=>a==b
  |.str a,.str b=>a==b
  |_,_=>af
def eqAt_V{A:bv}{u v:vL}(e:RelV y u)(c:RelV x v)(g:flatV y=ae)(f:flatV x=ae):SeqAt.EqAt A s u v (eqV y x):=by
  cases y with
  |non=>
    cases e;cases x with
    |non=>cases c;exact SeqAt.EqAt.same _
    |bl b=>cases c;exact SeqAt.EqAt.none_bool b
    |int b=>obtain⟨t,rfl⟩:=c;exact SeqAt.EqAt.none_int b t
    |str b=>obtain⟨t,rfl⟩:=c;exact SeqAt.EqAt.none_str b t
    |_=>exact au (show af=ae from f) Bf
  |bl a=>
    cases e;cases x with
    |non=>cases c;exact SeqAt.EqAt.bool_none a
    |bl b=>cases c;exact SeqAt.EqAt.bool_bool a b
    |int b=>obtain⟨t,rfl⟩:=c;exact SeqAt.EqAt.bool_int a b t
    |str b=>obtain⟨t,rfl⟩:=c;exact SeqAt.EqAt.bool_str a b t
    |_=>exact au (show af=ae from f) Bf
  |int a=>
    obtain⟨d,rfl⟩:=e;cases x with
    |non=>cases c;exact SeqAt.EqAt.int_none a d
    |bl b=>cases c;exact SeqAt.EqAt.int_bool a d b
    |int b=>obtain⟨t,rfl⟩:=c;exact SeqAt.EqAt.int_int a d b t
    |str b=>obtain⟨t,rfl⟩:=c;exact SeqAt.EqAt.int_str a d b t
    |_=>exact au (show af=ae from f) Bf
  |str a=>
    obtain⟨d,rfl⟩:=e;cases x with
    |non=>cases c;exact SeqAt.EqAt.str_none a d
    |bl b=>cases c;exact SeqAt.EqAt.str_bool a d b
    |int b=>obtain⟨t,rfl⟩:=c;exact SeqAt.EqAt.str_int a d b t
    |str b=>obtain⟨t,rfl⟩:=c;exact SeqAt.EqAt.str_str a d b t
    |_=>exact au (show af=ae from f) Bf
  |_=>exact au (show af=ae from g) Bf
def eqU(x:V)(u:vL):Bool:=match u with
  |.none=>eqV .non x
  |.bool b=>eqV (.bl b) x
  |.int i _=>eqV (.int i) x
  |.str z _=>eqV (.str z) x
  |_=>af
def eqU_of{u:vL}(r:RelV y u)(f:flatV y=ae):eqU x u=eqV y x:=by
  cases y with
  |non=>cases r;rfl
  |bl b=>cases r;rfl
  |int i=>obtain⟨t,rfl⟩:=r;rfl
  |str z=>obtain⟨t,rfl⟩:=r;rfl
  |_=>exact au (show af=ae from f) Bf
theorem any_eqU{x:V}:∀ {xs:Li V}{us:Li vL},Vals xs us->xs.all flatV=ae->us.any (eqU x)=xs.any λy=>eqV y x
  |_,_,.nil,_=>rfl
  |y :: xs,u :: us,.cons r t,f=>by
    rw[cA,Ba]at f;rw[dN,dN,eqU_of r f.1,any_eqU t f.2]
theorem mem_eqAt{A:bv}{s:Sd}{x:V}{v:vL}(a:RelV x v)(b:flatV x=ae):∀ {xs:Li V}{us:Li vL},Vals xs us->xs.all flatV=ae->∀ u∈us,SeqAt.EqAt A s u v (eqU x u)
  |_,_,.nil,_=>λu hu=>by cases hu
  |y :: xs,u :: us,.cons r t,f=>λc hu=>by
    rw[cA,Ba]at f;rcases aL.mp hu with rfl|hu
    . rw[eqU_of r f.1];exact eqAt_V r a f.1 b
    . exact mem_eqAt a b t f.2 c hu
def inV(x:V)(xs:Li V):Bool:=xs.any λy=>eqV y x
def rIn(K:Fg)(neg:Bool):R2:=λx y H Q=>∃ p xs,y=.ref p/\(SqL K H p xs\/SqT K H p xs)/\flatV x=ae/\xs.all flatV=ae/\Q (.bl (if neg then !inV x xs else inV x xs)) H
def op_in_seq:OpR X (bt .In) (rIn X.K af):=by
  intro pQ s O H x y v u Q I c e h;obtain⟨p,xs,rfl,hq,d,fs,q⟩:=h;cases e;rcases hq with hq|hq
  . obtain⟨its,r,a,f⟩:=I.list hq
    refine SeqAt.in_listAt (eqU x) a.isList (λw b=>mem_eqAt c d r fs w (by simpa using b)) ⟨.bl _,H,I,rfl,?_⟩
    rw[show its.toArray.any (eqU x)=its.any (eqU x) by simp,any_eqU r fs]
    exact q
  . obtain⟨its,r,a,f⟩:=I.tuple hq
    refine SeqAt.in_tupleAt (eqU x) a (λw b=>mem_eqAt c d r fs w (by simpa using b)) ⟨.bl _,H,I,rfl,?_⟩
    rw[show its.toArray.any (eqU x)=its.any (eqU x) by simp,any_eqU r fs]
    exact q
def op_notIn_seq:OpR X (bt .NotIn) (rIn X.K ae):=by
  intro pQ s O H x y v u Q I c e h;obtain⟨p,xs,rfl,hq,d,fs,q⟩:=h;cases e;rcases hq with hq|hq
  . obtain⟨its,r,a,f⟩:=I.list hq
    refine SeqAt.notIn_listAt (eqU x) a.isList (λw b=>mem_eqAt c d r fs w (by simpa using b)) ⟨.bl _,H,I,rfl,?_⟩
    rw[show its.toArray.any (eqU x)=its.any (eqU x) by simp,any_eqU r fs]
    exact q
  . obtain⟨its,r,a,f⟩:=I.tuple hq
    refine SeqAt.notIn_tupleAt (eqU x) a (λw b=>mem_eqAt c d r fs w (by simpa using b)) ⟨.bl _,H,I,rfl,?_⟩
    rw[show its.toArray.any (eqU x)=its.any (eqU x) by simp,any_eqU r fs]
    exact q
def op_notIn_str:OpR X (bt .NotIn) (λx y H Q=>∃ i j,x=.str i/\y=.str j/\Q (.bl (!(!(Builtin.Str.occurrences j i 0 j.length 1).isEmpty))) H):=by
  intro pQ s O H x y v u Q I b a h;obtain⟨i,j,rfl,rfl,q⟩:=h;obtain⟨t,rfl⟩:=b;obtain⟨c,rfl⟩:=a;exact notIn_str ⟨.bl _,H,I,rfl,q⟩
def call_len_seq:CallR X (.builtin "len") (λxs H Q=>∃ p b,xs=[.ref p]/\(SqL X.K H p b\/SqT X.K H p b)/\Q (.int b.length) H):=by
  intro pQ s O H xs us Q I r h;obtain⟨p,b,rfl,hq,q⟩:=h;obtain⟨u,rfl,e⟩:=vals1 r;cases e;have g:=line63;rcases hq with hq|hq
  . obtain⟨its,c,d,f⟩:=I.list hq
    have a:=c.length;exact Calls.call_len_list d.isList (by simp only[aF]<;>omega) ⟨.int b.length,H,I.tok _,⟨s.toks+1,by rw[aF,a]⟩,q⟩
  . obtain⟨its,c,d,f⟩:=I.tuple hq
    have a:=c.length;exact len_tuple d (by simp only[aF]<;>omega) ⟨.int b.length,H,I.tok _,⟨s.toks+1,by rw[aF,a]⟩,q⟩
def call_list_of:CallR X (.type "list") (λxs H Q=>∃ p c,xs=[.ref p]/\(SqL X.K H p c\/SqT X.K H p c)/\∀ l,H l=ab->Q (.ref l) (upd H l (.lst c))):=by
  intro pQ s O H xs us Q I r h;obtain⟨p,c,rfl,hq,q⟩:=h;obtain⟨u,rfl,y⟩:=vals1 r;cases y;have j:∀ (its:Li vL),Vals c its->c.length<=ay->∀ (a:bq) (f:Nat),(∀ b x,s.heap.get? b=aa x->a.get? b=aa x)->
      a.get? s.heap.objs.size=aa { cls:=.type "list",dict:=ab,data:=.seq its.toArray f,slots:=#[] }->EP X pQ O Q (.ref s.heap.objs.size) { s with heap:=a }:=λits d g a f kp e=>
    ⟨.ref s.heap.objs.size,_,I.laid (t':=s.toks) kp (aB _) (show ObjOk X.prog X.w _ a _ (.lst c) from⟨g,its,f,d,e⟩),rfl,q _ (I.hok.fresh (aB _))⟩
  rcases hq with hq|hq
  . obtain⟨its,d,k,g⟩:=I.list hq
    have i:=d.length;obtain⟨o,m,v,n,t⟩:=k.isList;exact call_list_seq p (.inl rfl) m v t (λa f kp e=>j its d g a f kp e) (by simp only[aF]<;>omega)
  . obtain⟨its,d,k,g⟩:=I.tuple hq
    have i:=d.length;obtain⟨o,m,v,n,t⟩:=k;exact call_list_seq p (.inr rfl) m v t (λa f kp e=>j its d g a f kp e) (by simp only[aF]<;>omega)
def call_tuple_of:CallR X (.type "tuple") (λxs H Q=>∃ p a,xs=[.ref p]/\((SqL X.K H p a/\∀ l,H l=ab->Q (.ref l) (upd H l (.tup a)))\/(SqT X.K H p a/\Q (.ref p) H))):=by
  intro pQ s O H xs us Q I r h;obtain⟨p,a,rfl,h⟩:=h;obtain⟨u,rfl,m⟩:=vals1 r;cases m;rcases h with⟨g,q⟩|⟨g,q⟩
  . obtain⟨its,d,f,i⟩:=I.list g
    have j:=d.length;refine call_tuple_list f.isList (λc kp=>?_) (by simp only[aF]<;>omega)
    have k:Inv X pQ O H { s with heap:=c }:=I.kept (t':=s.toks) kp
    have n:Inv X pQ O (upd H c.objs.size (.tup a)) { s with heap:=c.push { cls:=.type "tuple",data:=.seq its.toArray } }:=
      k.laid (t':=s.toks) (λb o e=>aS _ e) (aB _) (show ObjOk X.prog X.w _ _ _ (.tup a) from⟨i,its,d,IsTup.new _ _⟩)
    exact⟨.ref c.objs.size,_,n,rfl,q _ (k.hok.fresh (aB _))⟩
  . obtain⟨its,d,f,i⟩:=I.tuple g
    exact call_tuple_same f ⟨.ref p,H,I,rfl,q⟩
def tyV(K:Fg)(T:String)(x:V)(H:Hp):Prop:=match x with
  |.str _=>T = "str"
  |.int _=>T = "int"
  |.ref p=>(T = "list"/\∃ xs,SqL K H p xs)\/(T = "tuple"/\∃ o,K.lookup p=aa o/\o.cls=.type "tuple"/\o.dict=ab) \/
      (T = "dict"/\((∃ a,H p=aa (.dK a))\/∃ a,H p=aa (.dT a)))\/(T = "set"/\∃ S n,H p=aa (.set S n))
  |_=>False
def tyV_is{O:St}{H:Hp}{T:String}{v:vL}(I:Inv X pQ O H s)(r:RelV x v)(ty:tyV X.K T x H) :
    s.TypeIs v T/\∀ a,v=.ref a->∃ j,s.heap.get? a=aa j/\j.dict=ab:=by
  cases x with
  |str z=>
    obtain⟨t,rfl⟩:=r;cases (show T = "str" from ty)
    exact⟨typeIs_str s z t,λ_ e=>nomatch e⟩
  |int i=>
    obtain⟨t,rfl⟩:=r;cases (show T = "int" from ty)
    exact⟨typeIs_int s i t,λ_ e=>nomatch e⟩
  |ref p=>
    cases r;rcases ty with⟨rfl,xs,k⟩|⟨rfl,o,b,l,f⟩|⟨rfl,b⟩|⟨rfl,S,n,b⟩
    . obtain⟨its,_,h,_⟩:=I.list k
      refine⟨h.isList.typeIs,λa e=>?_⟩
      cases e;obtain⟨o,n,e,c,f,_⟩:=h;exact⟨o,e,f⟩
    . refine⟨⟨o,I.kIn p o b,l⟩,λa e=>?_⟩
      cases e;exact⟨o,I.kIn _ o b,f⟩
    . have z:∃ o,s.heap.get? p=aa o/\o.ExactDict:=by
        rcases b with⟨d,b⟩|⟨d,b⟩
        . obtain⟨_,_,_,_,o,_,_,e,ex,_⟩:=I.hok p _ b
          exact⟨o,e,ex⟩
        . obtain⟨_,_,_,_,o,_,_,e,ex,_⟩:=I.hok p _ b
          exact⟨o,e,ex⟩
      obtain⟨o,e,ex⟩:=z;refine⟨⟨o,e,ex.1⟩,λa g=>?_⟩
      cases g;exact⟨o,e,ex.2.1⟩
    . obtain⟨o,_,_,_,e,ex,_⟩:=I.hok p _ b
      refine⟨⟨o,e,ex.1⟩,λa g=>?_⟩
      cases g;exact⟨o,e,ex.2.1⟩
  |_=>exact False.elim ty
def tBM0(K:Fg)(T:String)(r:V->Li V->Hp->VK->Prop)(b:TE):TE:=λO H Q=>b O H λx a=>tyV K T x a/\r x [] a Q
def tBM(K:Fg)(T:String)(r:V->Li V->Hp->VK->Prop)(b:TE)(t:TA):TE:=λO H Q=>b O H λx a=>tyV K T x a/\t O a λxs c=>r x xs c Q
variable{o:az}{es:Li az}{to:TE}{t:TA}{name:Str}{apos cpos:Pos}{T id:String}{r:V->Li V->Hp->VK->Prop}
def pe_bm0(g:PlainAttrs T)(slot:Slot T name id)(c:typeOf (.builtin id)=pure (.type "method_descriptor"))(j:MtR X id r)(i:PE X o to)(b:attributeBase o name X.env (eval o X.env)=eval o X.env:=by rfl)(a:(apos.endLine==cpos.line)=ae:=by rfl):PE X (.Call (.Attribute o name apos) [] [] cpos) (tBM0 X.K T r to):=by
  intro pQ s O H Q I h;refine wpAny_Call_method0_late b a (thn (i pQ s O H _ I h) λv s1 ⟨x,m,e,d,ty,f⟩=>?_)
  obtain⟨l,k⟩:=tyV_is e d ty;exact⟨T,id,g,slot,c,l,k,Calls.callWith_builtin rfl (PySem.evalArgs_none (j pQ s1 O m x [] v [] Q e d .nil f))⟩
def pe_bm(q:PlainAttrs T)(slot:Slot T name id)(f:typeOf (.builtin id)=pure (.type "method_descriptor"))(y:MtR X id r)(w:PE X o to)(z:PA X (e :: es) t)(c:attributeBase o name X.env (eval o X.env)=eval o X.env:=by rfl)(d:((backTo cpos (bh (e :: es) X.env)).all (λx=>!x.1)&&(backToKw cpos (keywordEach [] X.env)).all (λx=>x.1.isSome)
     &&ak ((e :: es).length+([]:Li Keyword).length+(if ([]:Li Keyword).isEmpty then 0 else 1) < 30))=ae:=by rfl)(b:(apos.endLine==cpos.line)=ae:=by rfl)(u:bh (e :: es) X.env=(af,eval e X.env) :: bh es X.env:=by rfl)(a:(backTo cpos (bh es X.env)).any (·.1)=af:=by rfl) :
    PE X (.Call (.Attribute o name apos) (e :: es) [] cpos) (tBM X.K T r to t):=by
  intro pQ s O H Q I h;refine wpAny_Call_method_late c d b rfl (thn (w pQ s O H _ I h) λv s1 ⟨x,E,j,g,ty,p⟩=>?_)
  obtain⟨B,A⟩:=tyV_is j g ty;refine⟨T,id,q,slot,f,B,A,?_⟩;have i:=z cpos pQ s1 O E _ j p;rw[u]at i ⊢;refine Calls.callWith_builtin (by show(af||(backTo cpos (bh es X.env)).any (·.1))=af;rw[a]<;>rfl) (Calls.evalArgs_plain ?_)
  exact thn i λus l ⟨k,D,C,m,n⟩=>y pQ l O D x k v us Q C g m n
end
def MtM(X:Cx)(id:String)(r:V->Li V->Hp->VK->Prop):Prop:=
  ∀ (pQ:Li (Ad×Obj)) (s:Sd) (O:St) (H:Hp) (x:V) (xs:Li V) (v:vL) (us:Li vL) (Q:VK),Inv X pQ O H s->RelV x v->Vals xs us->r x xs H Q->
    a9 (bf X.prog X.w) X.A (call (.builtin id) (v :: us)) (EP X pQ O Q) X.xe s
def Vals.one(h:Vals [x] us):∃ u,us=[u]/\RelV x u:=by
  cases h with
  |cons r h=>cases h;exact⟨_,rfl,r⟩
def Vals.two(h:Vals [x,y] us):∃ u v,us=[u,v]/\RelV x u/\RelV y v:=by
  cases h with
  |cons r h=>cases h with
    |cons q h=>cases h;exact⟨_,_,rfl,r,q⟩
def Vals.zero:∀ {us:Li vL},Vals [] us->us=[]
  |_,.nil=>rfl
theorem Vals.dropLast(h:Vals xs us):Vals xs.dropLast us.dropLast:=by
  induction h with
  |nil=>exact .nil
  |cons r t a=>
    cases t with
    |nil=>exact .nil
    |cons q b=>exact .cons r a
theorem Vals.eraseIdx:∀ {xs:Li V}{us:Li vL} (i:Nat),Vals xs us->Vals (xs.eraseIdx i) (us.eraseIdx i)
  |_,_,_,.nil=>.nil
  |_,_,0,.cons _ t=>t
  |_,_,i+1,.cons r t=>.cons r (Vals.eraseIdx i t)
theorem Vals.rep(h:Vals xs us):∀ k:Nat,Vals (ag k xs).flatten (ag k us).flatten
  |0=>.nil
  |k+1=>by
    rw[dA,dA,dB,dB];exact Vals.append h (Vals.rep h k)
def erase_last(l:Li α):l.eraseIdx (l.length - 1)=l.dropLast:=by
  induction l with
  |nil=>rfl
  |cons a r c=>
    cases r with
    |nil=>rfl
    |cons b r=>
      have e:(a :: b :: r).length - 1=((b :: r).length - 1)+1:=by
        have f:(a :: b :: r).length=r.length+2:=rfl;have d:(b :: r).length=r.length+1:=rfl;omega
      rw[e,List.eraseIdx_cons_succ,c]
      all_goals rfl
theorem len_erase{α:Type}:∀ (l:Li α) (i:Nat),(l.eraseIdx i).length<=l.length
  |[],_=>aB _
  |_ :: _,0=>Nat.le_succ _
  |_ :: r,i+1=>fJ (len_erase r i)
theorem foldl_rep(its:Li vL):∀ (k:Nat) (a:Li vL),
    List.foldl (λc b=>c++b) a.toArray (ag k its.toArray)=(a++(ag k its).flatten).toArray
  |0,a=>by simp
  |k+1,a=>by
    have e:a.toArray++its.toArray=(a++its).toArray:=by simp
    have d:(a++its)++(ag k its).flatten=a++(ag (k+1) its).flatten:=by
      rw[dA,dB,aM]
    rw[<-d,<-foldl_rep its k (a++its),<-e,dA,List.foldl_cons]
variable{pQ:Li (Ad×Obj)}{s:Sd}{xs:Li V}
section
variable{O:St}{H:Hp}{l b:Ad}{ys zs:Li V}
def Inv.lset{f:Array vL->Array vL}{a:Nat}(I:Inv X pQ O H s)(i:H l=aa (.lst xs))(e:s.heap.get? l=aa { cls:=.type "list",data:=.seq its.toArray n })(g:f its.toArray=its'.toArray)(c:Vals ys its')(b:ys.length<=ay) :
    Inv X pQ O (upd H l (.lst ys)) { s with heap:=s.heap.update l (Obj.mapSeq f),toks:=a }:=by
  have q:=PySem.IsL.update e f;rw[g]at q;refine I.write (x:=l) (e:=l) (by rw[i];exact trivial) (.inl rfl) (λj u h d=>(Heap.get?_update_other s.heap (Obj.mapSeq f) (Ne.symm h)).trans d) ⟨_,q⟩ ?_
  exact⟨b,its',_,c,q⟩
def Inv.lnew{t':Nat}(I:Inv X pQ O H s)(b:Vals ys its)(a:ys.length<=ay) :
    Inv X pQ O (upd H s.heap.objs.size (.lst ys)) { s with heap:=s.heap.push { cls:=.type "list",data:=.seq its.toArray },toks:=t' }:=
  I.laid (λ_ _ q=>aS _ q) (aB _) ⟨a,its,0,b,bR _ rfl⟩
theorem Inv.fresh(I:Inv X pQ O H s):H s.heap.objs.size=ab:=I.hok.fresh (aB _)
def Inv.lstM(I:Inv X pQ O H s)(a:H l=aa (.lst xs)):xs.length<=ay/\∃ (its:Li vL) (n:Nat),Vals xs its/\xs.length=its.length/\s.heap.get? l=aa { cls:=.type "list",data:=.seq its.toArray n }:=by
  obtain⟨z,its,n,r,e⟩:=I.hok l _ a;exact⟨z,its,n,r,r.length,e⟩
def notLongL(h:n<=ay):Builtin.List.listTooLong n=af:=by
  unfold Builtin.List.listTooLong;exact aI (by omega)
end
def rAppend:V->Li V->Hp->VK->Prop:=λx a H Q=>∃ l xs y,x=.ref l/\a=[y]/\H l=aa (.lst xs)/\xs.length < ay/\Q .non (upd H l (.lst (xs++[y])))
theorem mt_append:MtM X "list.append" rAppend:=by
  intro pQ s O H x d v us Q I b rv h;obtain⟨l,xs,y,rfl,rfl,a,f,q⟩:=h;cases b;obtain⟨u,rfl,c⟩:=rv.one;obtain⟨z,its,n,r,g,e⟩:=I.lstM a;refine call_meets F.slot_list_append ⟨_,e,rfl⟩ F.entry_list_append (F.args_list_append_2 _ _) (PySem.list_append l its.toArray n u (by rw[aF];omega)) ⟨e,?_⟩
  refine⟨.non,_,I.lset (its':=its++[u]) a e (by simp) (r.append (.cons c .nil)) ?_,rfl,q⟩
  rw[aH,fK];omega
def rExtend:V->Li V->Hp->VK->Prop:=λx c H Q=>∃ l b xs a,x=.ref l/\c=[.ref b]/\H l=aa (.lst xs)/\H b=aa (.lst a)/\xs.length+a.length<=ay/\Q .non (upd H l (.lst (xs++a)))
theorem mt_extend:MtM X "list.extend" rExtend:=by
  intro pQ s O H x y v us Q I g rv h;obtain⟨l,b,xs,t,rfl,rfl,f,o,A,q⟩:=h;cases g;obtain⟨u,rfl,i⟩:=rv.one;cases i;obtain⟨z,its,n,r,B,e⟩:=I.lstM f;obtain⟨w,a,k,j,m,p⟩:=I.lstM o;have d:its.toArray.size+a.toArray.size<=ay:=by rw[aF,aF];omega
  have c:¬(!its.toArray.isEmpty&&Builtin.List.listTooLong (its.toArray.size+a.toArray.size))=ae:=by
    rw[notLongL d,Bool.and_false];exact Bf
  refine call_meets F.slot_list_extend ⟨_,e,rfl⟩ F.entry_list_extend (F.args_list_extend_2 _ _)
    (AutoSeq1.list_extend_list_list_0 l its.toArray n b a.toArray k c (by rw[aF];omega) (by omega)) ⟨e,p,?_⟩
  refine⟨.non,_,I.lset (its':=its++a) f e (by simp) (r.append j) ?_,rfl,q⟩
  rw[aH];omega
def rPop:V->Li V->Hp->VK->Prop:=λx a H Q=>∃ l xs y,x=.ref l/\a=[]/\H l=aa (.lst xs)/\xs[xs.length - 1]?=aa y/\Q y (upd H l (.lst xs.dropLast))
theorem mt_pop:MtM X "list.pop" rPop:=by
  intro pQ s O H x k v us Q I d rv h;obtain⟨l,xs,y,rfl,rfl,c,g,q⟩:=h;cases d;have b:=rv.zero;subst b;obtain⟨z,its,n,r,j,e⟩:=I.lstM c;obtain⟨u,i,f⟩:=r.get g;have a:its.toArray[its.toArray.size - 1]?=aa u:=by
    show its.toArray[its.length - 1]?=aa u;rw[<-eD,<-j];exact i
  refine call_meets F.slot_list_pop ⟨_,e,rfl⟩ F.entry_list_pop (F.args_list_pop_1 _) (MeetsSeq.list_pop_last l its.toArray n u a (by rw[aF];omega)) ⟨e,?_⟩
  refine⟨y,_,I.lset (its':=its.dropLast) c e ?_ r.dropLast ?_,f,q⟩
  . show its.toArray.eraseIdxIfInBounds (its.toArray.size - 1)=its.dropLast.toArray
    rw[aF,List.eraseIdxIfInBounds_toArray,erase_last]
  . rw[List.length_dropLast]
    omega
def rPopAt:V->Li V->Hp->VK->Prop:=λx a H Q=>∃ l xs i k y,x=.ref l/\a=[.int i]/\H l=aa (.lst xs)/\-(2 ^ 63)<=i/\i < 2 ^ 63/\seqIndex? i xs.length=aa k/\xs[k]?=aa y/\Q y (upd H l (.lst (xs.eraseIdx k)))
theorem mt_popAt:MtM X "list.pop" rPopAt:=by
  intro pQ s O H x A v us Q I c rv h;obtain⟨l,xs,i,k,y,rfl,rfl,b,p,o,m,f,q⟩:=h;cases c;obtain⟨u,rfl,d⟩:=rv.one;obtain⟨t,rfl⟩:=d;obtain⟨z,its,n,r,j,e⟩:=I.lstM b;obtain⟨w,g,a⟩:=r.get f;refine call_meets F.slot_list_pop ⟨_,e,rfl⟩ F.entry_list_pop (F.args_list_pop_2 _ _)
    (MeetsSeq.list_pop_at l its.toArray n i t k w (fitsIndex_both p o) (by rw[aF,<-j];exact m) (by rw[<-eD];exact g) (by rw[aF];omega)) ⟨e,?_⟩
  refine⟨y,_,I.lset (its':=its.eraseIdx k) b e ?_ (r.eraseIdx k) ?_,a,q⟩
  . show its.toArray.eraseIdxIfInBounds k=(its.eraseIdx k).toArray
    rw[List.eraseIdxIfInBounds_toArray]
  . have:=len_erase xs k
    omega
def rRep:R2:=λx y H Q=>∃ l k xs,x=.ref l/\y=.int k/\H l=aa (.lst xs)/\-(2 ^ 63)<=k/\k < 2 ^ 63/\xs.length * k.toNat<=ay /\
  ∀ p,H p=ab->Q (.ref p) (upd H p (.lst (ag k.toNat xs).flatten))
def len_rep(xs:Li α)(k:Nat):(ag k xs).flatten.length=k * xs.length:=by
  induction k with
  |zero=>simp
  |succ k a=>rw[dA,dB,aH,a,Nat.succ_mul,Nat.add_comm]
theorem op_rep:OpR X (bw .Mult) rRep:=by
  intro pQ s O H x y v u Q I A w h;obtain⟨l,k,xs,rfl,rfl,C,E,D,o,q⟩:=h;cases A;obtain⟨t,rfl⟩:=w;obtain⟨z,its,n,r,B,e⟩:=I.lstM C;have d:its.toArray.size * k.toNat<=ay:=by rw[aF,<-B];exact o
  have g:¬its.toArray.size * k.toNat > (2 ^ 63 - 1) / 8:=by
    have:(ay:Nat)<=(2 ^ 63 - 1) / 8:=by decide
    omega
  have f:¬(!Builtin.List.listFitsIndex k)=ae:=by
    rw[fitsIndex_both E D];exact Bf
  have b:¬Builtin.List.listTooLong (its.toArray.size * k.toNat)=ae:=by
    rw[notLongL d];exact Bf
  have c:List.foldl (λj i=>j++i) #[] (ag (if its.toArray.isEmpty=ae then 0 else k.toNat) its.toArray)=(ag k.toNat its).flatten.toArray:=by
    have G:∀ m:Nat,List.foldl (λj i=>j++i) #[] (ag m its.toArray)=(ag m its).flatten.toArray:=λm=>by
      have:=foldl_rep its m [];rw[eE]at this;exact this
    rw[G];cases its with
    |nil=>simp
    |cons a J=>rw[ar (by simp)]
  refine wpAny_binaryOp_repeat_ref (T := "list") (U := "int") (by decide) ⟨_,e,rfl⟩ (λp=>typeIs_int p k t) noFill_list_mul F.fills_int_mul F.slot_int_rmul repeat_list F.slot_int_index.lookup
    (call_meets F.slot_int_rmul (typeIs_int s k t) F.entry_int_rmul (F.args_int_rmul_2 _ _) (int___rmul___int_list k t l its.toArray n)
      ⟨e,rfl,⟨_,e,rfl⟩,call_meets F.slot_list_mul ⟨_,e,rfl⟩ F.entry_list_mul (F.args_list_mul_2 _ _) (AutoListH.list___mul___list_int_3 l its.toArray n k t f g b) ⟨e,?_⟩⟩)
  rw[c];exact⟨.ref _,_,I.lnew (t':=s.toks) (r.rep k.toNat) (by rw[len_rep,Nat.mul_comm];exact o),rfl,q _ I.fresh⟩
section
variable{prog:bg}{w:br}{A:bv}{E:vL->Sd->Prop}
end
end L2
namespace Att
open PySem PySem.W PySem.Calls PyProof.Rows
variable{h:bq}
def ints_of_wellAll{P:Params}:∀ (c:Li Int) (d:Li vL),WellAll P h d (c.map WData.int)->IntsAre d c:=by
  intro c
  induction c with
  |nil=>
    intro d w;rw[List.map_nil]at w;cases w;exact .nil
  |cons n c e=>
    intro d w;rw[aZ]at w;cases w with
    |cons a b=>
      cases a;exact .cons _ _ (e _ b)
variable{l:OpenLaw}
def script_of{n:Nat}(w:l.most=aa n){P:Params}{args:Li WData}{c:Li vL}(e:l.row.toRowW.claim.pre args=ae)(k:WellAll P h c args) :
    ∃ a o b,c=[bz a]/\args=[WData.list (b.map WData.int)]/\h.get? a=aa { cls:=.type "list",data:=.seq o.toArray }/\IntsAre o b/\b.length<=n:=by
  have m:WShape.hasAll [] args [.list .int]=ae:=(pre_splitW e).1;have p:l.pre.holds [] { args:=args }=ae:=(pre_splitW e).2;obtain⟨d,r,rfl,z,y⟩:=hasAllW_cons m;obtain rfl:=hasAllW_nil y;obtain⟨A,rfl,x⟩:=hasW_list z;obtain⟨b,rfl⟩:=items_int x;have f:b.length<=n:=by
    unfold OpenLaw.pre at p;have j:(WTm.not (.lt (.lit (.int (n:Int))) (.len (.arg 0)))).holds [] { args:=[.list (b.map .int)] }=ae:=by
      have j:=(holds_andW p).1;rw[w]at j;exact j
    have i:=condW_of j (w_not (w_lt w_lit (w_len_list (w_arg rfl))));rw[aD]at i;refine fL λq=>?_
    have u:(n:Int) < ((b.length:Nat):Int):=by omega
    first
      | (rw[aG u]at i;exact au i (by decide))
      | (simp at i;omega)
  cases k with
  |cons t s=>
    cases s;cases t with
    |list v g=>exact⟨_,_,b,rfl,rfl,v,ints_of_wellAll b _ g,f⟩
def post_true(l:OpenLaw)(args:Li WData):l.row.toRowW.claim.post args (.bool ae) args=ae:=
  postW_of (r:=l.row.toRowW) (X:=(ae==ae))
    (show WShape.has [] (.bool ae) .bool=ae by first|rfl|decide|simp[WShape.has,WShape.arms,WShape.armsAll])
    (show(WTm.eq .res (.lit (.bool ae))).value [] { args:=args,res:=aa (.bool ae),after:=args }=aa (.bool (ae==ae)) from w_eq_bool (w_res rfl) w_lit) rfl
def attach_call{n:Nat}{q:bg}{c:Li Str}{H:(Str->Ot vL)->bq->Prop}{F:br->bq->Prop}{d:DefRec}(L:l.most=aa n)(z:d.params.defaults=[])(call:∀ (w:br) (s₀ b:Sd) (mg v:Str->Ot vL) (m:Ad) (o:Obj) (u t g:vL) (a:Ad) (h:Li vL) (s:Li Int),
      Ground q c [] H w s₀ mg v b.heap->F w b.heap->
      b.heap.get? m=aa o->o.data=.func (docDef d.name d.params d.body d.scope u t g)->b.heap.CodeRec t d.name->mg d.name=aa (.ref m)->
      b.heap.get? a=aa { cls:=.type "list",data:=.seq h.toArray }->IntsAre h s->s.length<=n->b.gens=#[]->
      codeAny (bf l.prog w) callerA (.call (.ref m) ⟨[.ref a],[]⟩) (λr p=>r=.ok (.ret (.bool ae))/\OldK b.heap p.heap/\p.os=b.os/\AllBare p.gens) b) :
    WalkO q c H F l.row.toRowW d [] (λf h=>PySem.call f h):=by
  intro w s₀ b mg v G Y m o u t g T kV K P A D y O E B U i C I x N;obtain rfl:T=.none:=Dflts.none D z;obtain rfl:kV=.none:=Dflts.noKw D;obtain⟨a,h,s,rfl,rfl,j,e,k⟩:=script_of L i x;refine enter_call (codeAny_mono (call w s₀ b mg v m o u t g a h s G Y K (fd_plain P) A y j e k O) λr p J=>?_)
  obtain⟨rfl,S,R,Q⟩:=J;exact⟨.inl ⟨.bool ae,.bool ae,[],rfl,λ_=>rfl,.bool ae,post_true l _,λ_=>⟨List.Pairwise.nil,λ_ M=>(nomatch M)⟩⟩,S,R,Q⟩
section
variable{prog:bg}{w:br}{A:bv}{E:vL->Sd->Prop}{s:Sd}{K:Frag}
end
end Att
namespace L2
open PySem PySem.Spec PyProof.Rows
theorem vals_ints:∀ {vs:Li vL}{ns:Li Int},IntsAre vs ns->Vals (ns.map V.int) vs
  |_,_,.nil=>.nil
  |_,_,.cons n t h=>.cons ⟨t,rfl⟩ (vals_ints h)
def Only(H:Hp):Prop:=∀ b,H b=ab\/∃ o a,H b=aa (.frz o (.lst a))
variable{w:br}
def law_call{P:bg}{K:Fg}{mg Q:Str->Ot vL}{CX:CXT}{k:Nat}{W a:Ad}{fd:bp}{x:Str}{Y:Sp}{c:Sd}{p:Li vL}{A:Li Int}(KX:K.In c.heap)(E:c.heap.Ns a8 mg)(g:c.heap.Ns builtinsNs Q)(T:∀ x:Str,x ≠ "__name__"->Q x=bj x)(G:c.heap.NoLimit)(hg:c.gens=#[])(N:c.heap.get? a=aa { cls:=.type "list",data:=.seq p.toArray })(hi:IntsAre p A)(Z:A.length<=ay)(hr:Room k callerA)(F:∀ base:bq,K.In base->base.Ns a8 mg->FnOk P w K mg base CX k W fd [x] Y)(t:∀ (s:Sd) (u:vL),BindsTo s fd ⟨[u],[]⟩ [(x,u)])(R:∀ H:Hp,Only H->SqL K H a (A.map V.int)->Y [.ref a] H (λv _=>v=.bl ae) λ_ _ _=>False)(U:∀ H e i,CX [] H c (λ_ _ _=>False) e i->False) :
    codeAny (bf P w) callerA (.call (.ref W) ⟨[.ref a],[]⟩) (λr i=>r=.ok (.ret (.bool ae))/\OldK c.heap i.heap/\i.os=c.os/\AllBare i.gens) c:=by
  have rv:=vals_ints hi;have B:=hi.length
  -- from an abstract heap in which nothing but the script may be tracked
  have l:∀ H:Hp,Only H->SqL K H a (A.map V.int)->HOk P w H c.heap->(∀ b,H b≠ab->b=a)->(H a≠ab->K.lookup a=ab)->
      codeAny (bf P w) callerA (.call (.ref W) ⟨[.ref a],[]⟩) (λr i=>r=.ok (.ret (.bool ae))/\OldK c.heap i.heap/\i.os=c.os/\AllBare i.gens) c:=by
    intro H hO hS D hA hK;have f:∀ {b:Ad}{o:Obj},c.heap.get? b=aa o->H b=ab->(hidT c.heap H).get? b=aa o:=λe n=>hidT_get e n
    have O:∀ {b:Ad}{o:Obj}{J:Array DictEntry}{L:Nat},c.heap.get? b=aa o->o.data=.dict J L->H b=ab:=λ{b o J L} e d=>by
      cases q:H b with
      |none=>rfl
      |some u=>
        have X:b=a:=hA b (by rw[q];simp)
        subst X;rw[N]at e;cases e
        have d':Data.seq p.toArray _=Data.dict J L:=d;cases d'
    have j:∀ {b:Ad}{m:Str->Ot vL},c.heap.Ns b m->(hidT c.heap H).Ns b m:=λ{b m} ⟨o,J,L,e,d,r⟩=>⟨o,J,L,f e (O e d),d,r⟩
    have I:K.In (hidT c.heap H):=λb o e=>f (KX b o e) (by
      cases q:H b with
      |none=>rfl
      |some u=>
        have X:b=a:=hA b (by rw[q];simp)
        subst X;rw[hK (by rw[q];simp)]at e;cases e)
    have hM:Mod K mg (hidT c.heap H):=⟨I,j E,⟨Q,j g,T⟩,let ⟨mc,h1,h2⟩:=G;⟨mc,j h1,h2⟩⟩
    have e0:Env0 P w K mg (hidT c.heap H) callerA [] c H:=⟨rfl,hM,λb o e=>of_hidT e,cR (hidT_size _ _),trivial,λb g=>au (show b∈([]:Li Ad) from g) (by simp),D,.of_eq hg⟩
    refine codeAny_mono ((F _ I (j E)).run callerA [] c H ⟨[.ref a],[]⟩ [.ref a] [.ref a] _ _ hr e0 (t c (.ref a)) (.cons rfl .nil) (R H hO hS)) λr i h=>?_
    cases r with
    |error e=>exact(U H e i h).elim
    |ok fl=>
      cases fl with
      |next=>exact False.elim h
      |brk=>exact False.elim h
      |cont=>exact False.elim h
      |ret u=>
        obtain⟨v,H',os,M,un,C,r',q⟩:=h;have q':v=.bl ae:=q;subst q';obtain rfl:u=Value.bool ae:=r';refine⟨rfl,OldK.of_keep λb o e=>?_,os,M⟩
        cases q:H b with
        |none=>exact un.keep b o e q (by intro z;exact au (show b∈([]:Li Ad) from z) (by simp)) (by simp)
        |some u=>
          rcases hO b with z|⟨ob,xs,z⟩
          . rw[q]at z;cases z
          . have z2:=un.frzs b ob _ z
            obtain⟨e1,_⟩:=D b _ z;obtain⟨e2,_⟩:=C b _ z2;rw[e]at e1;cases e1
            exact e2
  cases S:K.lookup a with
  |some o=>
    -- the script is one of the module's own objects
    have e:=KX a o S;rw[N]at e;cases e;refine l (λ_=>ab) (λ_=>.inl rfl) (.inr ⟨_,p.toArray,_,S,rfl,rfl,rfl,by rw[aF,B];exact Z,by simpa using rv⟩) (λb u z=>by have y:(ab:Ot HO)=aa u:=z;cases y) (λb z=>au rfl z) λz=>au rfl z
  |none=>
    refine l (λb=>if b=a then aa (.frz { cls:=.type "list",data:=.seq p.toArray } (.lst (A.map V.int))) else ab) (λb=>?_) (.inl (.inr ⟨{ cls:=.type "list",data:=.seq p.toArray },aq rfl⟩)) (λb u z=>?_) (λb z=>?_) λ_=>S
    . by_cases g:b=a
      . exact .inr ⟨_,_,aq g⟩
      . exact .inl (ar g)
    . by_cases g:b=a
      . have y:=(aq g).symm.trans z
        cases y;subst g;exact⟨N,by rw[aD];exact Z,p,_,rv,N⟩
      . have y:=(ar g).symm.trans z
        cases y
    . by_cases g:b=a
      . exact g
      . exact au (ar g) z
def walk_of{l:W.OpenLaw}{n k:Nat}{q:bg}{i:Li Str}{XP:(Str->Ot vL)->bq->Prop}{J:br->bq->Prop}{d:DefRec}{K:Params->Fg}{CX:br->CXT}{sp:br->Sp}{x:Str}(N:l.most=aa n)(A:n<=ay)(C:d.params.defaults=[])(M:Room k callerA)(R:∀ (w:br) (h:bq),J w h->(K w.params).In h)(F:∀ (w:br) (mg:Str->Ot vL) (t:Ad) (h:bq),(K w.params).In h->h.Ns a8 mg->mg d.name=aa (.ref t)->
      ∃ fd:bp,(∀ (s:Sd) (u:vL),BindsTo s fd ⟨[u],[]⟩ [(x,u)]) /\
        ∀ base:bq,(K w.params).In base->base.Ns a8 mg->FnOk l.prog w (K w.params) mg base (CX w) k t fd [x] (sp w))(z:∀ (w:br) (H:Hp) (a:Ad) (r:Li Int),r.length<=n->Only H->SqL (K w.params) H a (r.map V.int)->sp w [.ref a] H (λv _=>v=.bl ae) λ_ _ _=>False)(D:∀ (w:br) (H:Hp) (s:Sd) (e:vL) (y:Sd),CX w [] H s (λ_ _ _=>False) e y->False) :
    W.WalkO q i XP J l.row.toRowW d [] (λf E=>PySem.call f E):=by
  refine Att.attach_call N C λw I m mg mb t o pm cd Z a E r G Y ho hd P B p j c O=>?_
  have L:=R w _ Y;obtain⟨fd,Q,X⟩:=F w mg t _ L G.T.g B;exact law_call L G.T.g G.T.b G.T.builtins G.T.nolimit O p j (aJ c A) M X Q (λH U S=>z w H a r c U S) λH e y=>D w H m e y
noncomputable def defArgs(s:Stmt):Arguments:=match s with
  |.FunctionDef _ a _ _ _ _ _ _ _ _=>a
  |_=>{ posonlyargs:=[],args:=[],vararg:=ab,kwonlyargs:=[],kw_defaults:=[],kwarg:=ab,defaults:=[] }
noncomputable def defBody(s:Stmt):Li Stmt:=match s with
  |.FunctionDef _ _ b _ _ _ _ _ _ _=>b
  |_=>[]
noncomputable def defScope(s:Stmt):bo:=match s with
  |.FunctionDef _ _ _ _ _ _ sc _ _ _=>sc
  |_=>{ kind:=.function,names:=[],isGenerator:=af,isCoroutine:=af }
noncomputable abbrev CX0:CXT:=λ_ _ _ _ _ _=>False
abbrev E0:XK:=λ_ _ _=>False
variable{X:Cx}
def pass0:Passes CX0 X E0:=λ_ _ _ _ _ _ _ h=>h.elim
structure Fun(K:Fg)(x qual:Str)(st:Stmt)(f:Addr)(fd:bp):Prop where
  ex:∃ (oc:Value) (od:Option Addr) (kV doc pm:Value) (an:Option Addr) (cdv ct:Value) (osl:Array (Option Value)),
    fd=W.fnOf x qual (defArgs st) (defBody st) (defScope st) .none kV doc pm an cdv ct/\K.lookup f=aa ⟨oc,od,.func fd,osl⟩/\W.codeIn K cdv qual=ae
  kp:W.keepIn K (.ref f)=ae
variable{P:bg}{w:br}
section
variable{K:Fg}{mg:Str->Ot vL}{base:bq}
end
variable{X:Cx}
variable{y:V}{u:vL}
section
variable {κ:Type} [DecidableEq κ]
noncomputable def valV(a:Li (κ×V))(k:κ):Ot V:=(a.find? λb=>ak (b.1=k)).map (·.2)
noncomputable def putK(a:Li (κ×V))(k:κ)(v:V):Li (κ×V):=
 if (a.any λb=>ak (b.1=k))=ae then a.map (λb=>if b.1=k then (b.1,v) else b) else a++[(k,v)]
def valV_pos{p:κ×V}{r:Li (κ×V)}{k:κ}(e:p.1=k):valV (p :: r) k=aa p.2:=by simp[valV,dO,e]
def valV_neg{p:κ×V}{r:Li (κ×V)}{k:κ}(e:¬p.1=k):valV (p :: r) k=valV r k:=by simp[valV,dO,e]
def length_putK(a:Li (κ×V))(k:κ)(v:V):(putK a k v).length<=a.length+1:=by
 unfold putK;split
 .rw[aD];omega
 .rw[aH,aX,dG];omega
def RelO.isSome_eq{o:Ot V}{u:Ot vL}(r:RelO o u):o.isSome=u.isSome:=by
 cases o with
 |none=>cases u with
  |none=>rfl
  |some _=>exact(show False from r).elim
 |some _=>cases u with
  |none=>exact(show False from r).elim
  |some _=>rfl
def KV.val{a:Li (κ×V)}{f:Li (κ×vL)}(r:KV a f)(k:κ):RelO (valV a k) (valueAt f k):=by
 unfold KV at r
 induction r with
 |nil=>exact True.intro
 |@cons p q l c h t i=>
  obtain⟨g,j⟩:=h;by_cases e:p.1=k
  .have d:q.1=k:=g.symm.trans e
   have b:valueAt (q :: c) k=aa q.2:=by simp[valueAt,dO,d]
   rw[valV_pos e,b];exact j
  .have d:¬q.1=k:=λz=>e (g.trans z)
   have b:valueAt (q :: c) k=valueAt c k:=by simp[valueAt,dO,d]
   rw[valV_neg e,b];exact i
theorem KV.any{a:Li (κ×V)}{c:Li (κ×vL)}(r:KV a c)(k:κ):(a.any λb=>ak (b.1=k))=c.any λb=>ak (b.1=k):=by
 unfold KV at r
 induction r with
 |nil=>rfl
 |cons h t d=>rw[dN,dN,d,h.1]
def KV.repl{b:Li (κ×V)}{d:Li (κ×vL)}(r:KV b d)(k:κ)(f:RelV y u) :
  KV (b.map λa=>if a.1=k then (a.1,y) else a) (d.map λa=>if a.1=k then (a.1,u) else a):=by
 unfold KV at r ⊢
 induction r with
 |nil=>exact .nil
 |@cons p q l j h t g=>
  rw[aZ,aZ];refine .cons ?_ g;obtain⟨c,i⟩:=h;by_cases e:p.1=k
  .rw[aq e,aq (c.symm.trans e)];exact⟨c,f⟩
  .rw[ar e,ar (λz=>e (c.trans z))];exact⟨c,i⟩
def KV.put{a:Li (κ×V)}{b:Li (κ×vL)}(r:KV a b)(k:κ)(c:RelV y u):KV (putK a k y) (stored b k u):=by
 unfold putK stored;rw[r.any k];by_cases e:(b.any λd=>ak (d.1=k))=ae
 .rw[aq e,aq e];exact r.repl k c
 .rw[ar e,ar e];exact Paired.snoc r ⟨rfl,c⟩
end
def kV_is{P:bg}{k:Key}(r:RelV (kV k) u):(mixKind P w).is k u=ae:=by
 cases k with
 |inl i=>obtain⟨t,e⟩:=(show ∃ t,u=Value.int i t from r);subst e;exact mixKind_int P w i t
 |inr x=>obtain⟨t,e⟩:=(show ∃ t,u=Value.str x t from r);subst e;exact mixKind_str P w x t
variable{H:Hp}{h:bq}{a:Ad}
def rd_of{u:HO}(ok:HOk P w H h)(e:Rd H a u):ObjOk P w H h a u:=e.ok ok
def dk_rd{b:Li (Key×V)}(ok:HOk P w H h)(e:Rd H a (.dK b)):b.length<=ay/\(a==bu)=af/\∃ c,KV b c/\h.DictOf (mixKind P w) a c:=
 show ObjOk P w H h a (.dK b) from rd_of ok e
def dk_of{b:Li (Key×V)}(ok:HOk P w H h)(e:H a=aa (.dK b)):b.length<=ay/\(a==bu)=af/\∃ c,KV b c/\h.DictOf (mixKind P w) a c:=dk_rd ok (.inl e)
variable{h':bq}
variable{y:V}{u:vL}
section
variable{pQ:Li (Ad×Obj)}{O:St}{s:Sd}{v:V}{r:vL}{o:Ot V}{A:bv}{E:vL->Sd->Prop}
def Inv.big(I:Inv X pQ O H s):bu < s.heap.objs.size:=by
 have h:a8 < s.heap.objs.size:=(I.mod.glob.keeps I.bk).lt;exact Nat.lt_trans (by decide) h
def d_write{d:Nat}{c:HO}(I:Inv X pQ O H s)(mu:Mut (H a))(f:Heap.SameBut a s.heap h')(g:∃ q,h'.get? a=aa q)(new:ObjOk X.prog X.w (upd H a c) h' a c) :
  Inv X pQ O (upd H a c) { s with heap:=h',toks:=d }:=
 I.write (x:=a) (e:=a) mu (.inl rfl) (λb q h z=>(f.2 b h).trans z) g new
def dk_new{P:bg}{e:Hp}{b:Li (Key×V)}{c:Li (Key×vL)}(z:b.length<=ay)(hd:(a==bu)=af)(d:KV b c)(dd:h'.DictOf (mixKind P w) a c) :
  ObjOk P w e h' a (.dK b):=⟨z,hd,c,d,dd⟩
end
variable{H:Hp}
def dk_empty{P:bg}(h:bq)(a:bu < h.objs.size):ObjOk P w H (h.push { cls:=.type "dict",data:=.dict #[] }) h.objs.size (.dK []):=
 ⟨aR _,dL.mpr (Ne.symm (bE a)),[],.nil,Heap.DictOf.new h⟩
def tPairs:Li (TE×TE)->St->Hp->(Li (V×V)->Hp->Prop)->Prop
 |[],_,H,Q=>Q [] H
 | (b,a) :: r,O,H,Q=>b O H λx f=>a O f λy e=>tPairs r O e λc d=>Q ((x,y) :: c) d
abbrev VV:Li (V×V)->Li (vL×vL)->Prop:=Paired λp q=>RelV p.1 q.1/\RelV p.2 q.2
def PPs(X:Cx)(d:Pos)(b:Li (Ot az))(a:Li az)(c:Li (TE×TE)):Prop:=
 ∀ (pQ:Li (Ad×Obj)) (s:Sd) (O:St) (H:Hp) (Q:Li (V×V)->Hp->Prop),Inv X pQ O H s->tPairs c O H Q->
  a9 (bf X.prog X.w) X.A (evalPairs (pairTrees b a X.env d)) (λg h=>∃ e f,Inv X pQ O f h/\VV e g/\Q e f) X.xe s
variable{pos:Pos}
def pps_nil:PPs X pos [] [] []:=λa s O H Q I h=>pairTrees_nil_walk ⟨[],H,I,.nil,h⟩
variable{trs:Li (TE×TE)}
def pps_cons{k v:az}{f:Li (Ot az)}{c:Li az}{e d:TE}(r:PE X k e)(p:PE X v d)(q:PPs X pos f c trs) :
  PPs X pos (aa k :: f) (v :: c) ((e,d) :: trs):=λb s O H Q I h=>
 pairTrees_cons_walk (thn (r b s O H _ I h) λu s1 ⟨x,C,z,j,n⟩=>thn (p b s1 O C _ z n) λE g ⟨y,B,w,i,m⟩=>
  thn (q b g O B _ w m) λD F ⟨o,A,t,a,l⟩=>⟨(x,y) :: o,A,t,.cons ⟨j,i⟩ a,l⟩)
def mergeK(a more:Li (Key×V)):Li (Key×V):=more.foldl (λb c=>putK b c.1 c.2) a
def KV.merge:∀ {more:Li (Key×V)}{rs:Li (Key×vL)}{a:Li (Key×V)}{b:Li (Key×vL)},KV more rs->KV a b->KV (mergeK a more) (merged b rs):=by
 intro more rs a b r;unfold KV at r
 induction r generalizing a b with
 |nil=>intro q;exact q
 |@cons p q g f h t d=>
  intro c;have e:KV (putK a p.1 p.2) (stored b q.1 q.2):=by
   have:=c.put p.1 h.2;rw[<-h.1];exact this
  exact d e
theorem length_mergeK:∀ (more a:Li (Key×V)),(mergeK a more).length<=a.length+more.length
 |[],a=>by show a.length<=a.length+0;omega
 |p :: r,a=>by
  have c:=length_mergeK r (putK a p.1 p.2);have b:=length_putK a p.1 p.2;show(mergeK (putK a p.1 p.2) r).length<=_;rw[aX];omega
theorem carries_of{P:bg}{w:br}:∀ {d:Li (Key×V)}{ws:Li (vL×vL)},VV (d.map λe=>(kV e.1,e.2)) ws->∃ rs,Carries (mixKind P w) ws rs/\KV d rs
 |[],_,r=>by rw[List.map_nil]at r;cases r;exact⟨[],True.intro,.nil⟩
 |p :: d,_,r=>by
  rw[aZ]at r;cases r with
  |@cons a b i bs h t=>
   obtain⟨rs,c,q⟩:=carries_of (P:=P) (w:=w) t;obtain⟨g,f⟩:=b;exact⟨(p.1,f) :: rs,⟨kV_is h.1,rfl,c⟩,.cons ⟨rfl,h.2⟩ q⟩
def tDisp(K:Fg)(trs:Li (TE×TE)):TE:=λO H Q=>∀ p,H p=ab->(∀ o,K.lookup p≠aa o)->tPairs trs O (upd H p (.dK [])) λd c=>c p=aa (.dK [])/\∃ a:Li (Key×V),d=a.map (λb=>(kV b.1,b.2))/\a.length<=15/\Q (.ref p) (upd c p (.dK (mergeK [] a)))
def pe_disp{b:Li (Ot az)}{d:Li az}(h:PPs X pos b d trs)(g:b.all (·.isSome)=ae)(y:b.length=d.length)(D:b≠[])(k:b.length<=15):PE X (.Dict b d pos) (tDisp X.K trs):=by
 intro t s O H Q I q;have x:=I.hok.fresh (aB s.heap.objs.size);have F:=I.laid (a:=s.heap.objs.size) (o:=.dK []) (h':=s.heap.push { cls:=.type "dict",data:=.dict #[] }) (t':=s.toks) (λ_ _ q=>aS _ q) (aB _) (dk_empty s.heap I.big)
 refine wpAny_Dict_walk (knd:=mixKind X.prog X.w) g y D k (thn (h t _ O _ _ F (q _ x λo z=>au (aK (I.kIn _ o z)) (cJ _))) λG J ⟨L,M,l,j,e,f,E,lk,r⟩=>?_)
 subst E;obtain⟨rs,c,n⟩:=carries_of (P:=X.prog) (w:=X.w) j;obtain⟨z,B,m,p,dd⟩:=dk_of l.hok e;cases p;refine⟨rs,c,dd,λh' i v=>⟨.ref s.heap.objs.size,_,?_,rfl,r⟩⟩
 have u:(mergeK [] f).length<=ay:=by
  have C:=length_mergeK f [];rw[dG]at C;rw[sizeLine_eq];omega
 have A:∃ q,h'.get? s.heap.objs.size=aa q:=let ⟨q,_,_,hq,_⟩:=i;⟨q,hq⟩
 exact d_write l (by rw[e];exact True.intro) v A (dk_new u B (n.merge .nil) i)
def rIxD:R2:=λx y H Q=>∃ p a k v,x=.ref p/\y=kV k/\H p=aa (.dK a)/\valV a k=aa v/\Q v H
def ix_dct:IxR X rIxD:=by
 intro a slice t s O H x y v u Q I f e h j;obtain⟨p,g,k,z,rfl,rfl,l,m,q⟩:=h;cases f;obtain⟨n,w,d,c,dd⟩:=dk_of I.hok l;obtain⟨r,i,b⟩:=RelO.some_of (v:=z) (o:=valueAt d k) (by rw[<-m];exact c.val k)
 exact tail_any dd.typeIs PySem.F.slot_dict_getitem.lookup (wpAny_getItem_of (kV_is e) dd.mapOf i ⟨z,H,I.tok _,b,q⟩) j
def rInD:R2:=λx y H Q=>∃ p a k,y=.ref p/\x=kV k/\H p=aa (.dK a)/\Q (.bl (valV a k).isSome) H
def op_in_dct:OpR X (bt .In) rInD:=by
 intro j s O H x y v u Q I d c h;obtain⟨p,b,k,rfl,rfl,e,q⟩:=h;cases c;obtain⟨g,f,i,a,dd⟩:=dk_of I.hok e;refine wpAny_in_of (kV_is d) f dd.mapOf ?_;rw[<-(a.val k).isSome_eq];exact⟨.bl (valV b k).isSome,H,I.tok _,rfl,q⟩
section
variable {κ:Type} [DecidableEq κ]
theorem valV_any(k:κ):∀ a:Li (κ×V),(a.any λb=>ak (b.1=k))=(valV a k).isSome
 |[]=>rfl
 |p :: r=>by
  rw[dN];by_cases e:p.1=k
  .simp only[valV_pos e,aG e,Bool.true_or,Option.isSome_some]
  .rw[valV_neg e,aI e,Bool.false_or];exact valV_any k r
end
theorem items_are{P:bg}{w:br}:∀ {a:Li Key}{us:Li vL},Vals (a.map kV) us->ItemsAre (mixKind P w) a us
 |[],_,r=>by rw[List.map_nil]at r;cases r;exact .nil
 |k :: a,_,r=>by
  rw[aZ]at r;cases r with
  |cons h t=>exact .cons (kV_is h) (items_are t)
abbrev KTp(H:Hp):Li (Li Key×V)->Li (Li Key×Ad×vL)->Prop:=Paired λp q=>p.1=q.1/\H q.2.1=aa (.tup (p.1.map kV))/\RelV p.2 q.2.2
variable{kvs:Li (Li Key×V)}{xs:Li (Li Key×Ad×vL)}
def KTp.val(r:KTp H kvs xs)(k:Li Key):RelO (valV kvs k) ((atKey xs k).map (·.2)):=by
 induction r with
 |nil=>exact True.intro
 |@cons p q i a h t f=>
  obtain⟨d,_,g⟩:=h;by_cases e:p.1=k
  .have c:q.1=k:=d.symm.trans e
   have b:atKey (q :: a) k=aa q.2:=by simp[atKey,dO,c]
   rw[valV_pos e,b];exact g
  .have c:¬q.1=k:=λz=>e (d.trans z)
   have b:atKey (q :: a) k=atKey a k:=by simp[atKey,dO,c]
   rw[valV_neg e,b];exact f
def KTp.repl(r:KTp H kvs xs)(k:Li Key)(d:RelV y u) :
  KTp H (kvs.map λb=>if b.1=k then (b.1,y) else b) (xs.map (putAt k u)):=by
 induction r with
 |nil=>exact .nil
 |@cons p q j i h t f=>
  rw[aZ,aZ];refine .cons ?_ f;obtain⟨a,c,g⟩:=h;unfold putAt;by_cases e:p.1=k
  .rw[aq e,aq (a.symm.trans e)];exact⟨a,c,d⟩
  .rw[ar e,ar (λz=>e (a.trans z))];exact⟨a,c,g⟩
def KTp.put(r:KTp H kvs xs)(k:Li Key){b:Ad}(d:H b=aa (.tup (k.map kV)))(a:RelV y u) :
  KTp H (putK kvs k y) (storedH xs k b u):=by
 have e:(kvs.any λc=>ak (c.1=k))=(atKey xs k).isSome:=by
  rw[valV_any,(r.val k).isSome_eq,Option.isSome_map]
 unfold putK storedH;rw[e];by_cases q:(atKey xs k).isSome=ae
 .rw[aq q,aq q];exact r.repl k a
 .rw[ar q,ar q];exact Paired.snoc r ⟨rfl,d,a⟩
def KTp.keeps{c:Hp}(r:KTp H kvs xs)(d:∀ b a,H b=aa (.tup a)->c b=aa (.tup a)):KTp c kvs xs:=
 Paired.mapP r λ_ _ z=>⟨z.1,d _ _ z.2.1,z.2.2⟩
variable{ks:Li Key}
def key_at{b:Li vL}(r:Vals (ks.map kV) b)(t:IsTup h a b.toArray):(tupleKind (mixKind P w)).is h ks a:=by
 obtain⟨o,e,d,n,c⟩:=t;exact⟨o,b.toArray,n,e,d,c,by simpa using items_are r⟩
def key_of(ok:HOk P w H h)(e:H a=aa (.tup (ks.map kV))):(tupleKind (mixKind P w)).is h ks a:=by
 obtain⟨_,b,r,o,f,d,n,c⟩:=(show ObjOk P w H h a (.tup (ks.map kV)) from ok a _ e);exact⟨o,b.toArray,n,f,d,c,by simpa using items_are r⟩
def dt_rd(ok:HOk P w H h)(e:Rd H a (.dT kvs)):kvs.length<=ay/\(a==bu)=af /\
  ∃ xs,KTp H kvs xs/\h.DictOfH (tupleKind (mixKind P w)) a xs:=by
 obtain⟨z,y,xs,r,o,k,n,j,i,g,f,d⟩:=(show ObjOk P w H h a (.dT kvs) from rd_of ok e);refine⟨z,y,xs,r,o,k,n,j,i,g,f,λx hx=>?_,d⟩
 have all:∀ {l:Li (Li Key×V)}{m:Li (Li Key×Ad×vL)},KTp H l m->∀ x∈m,(tupleKind (mixKind P w)).is h x.1 x.2.1:=by
  intro l m q
  induction q with
  |nil=>intro x hx;exact nomatch hx
  |@cons p q u s b t c=>
   intro x hx;rcases aL.mp hx with e|hx
   .subst e
    exact key_of ok (by rw[<-b.1];exact b.2.1)
   .exact c x hx
 exact all r x hx
def dt_of(ok:HOk P w H h)(e:H a=aa (.dT kvs)):kvs.length<=ay/\(a==bu)=af /\
  ∃ xs,KTp H kvs xs/\h.DictOfH (tupleKind (mixKind P w)) a xs:=dt_rd ok (.inl e)
def dt_empty{P:bg}(h:bq)(a:bu < h.objs.size):ObjOk P w H (h.push { cls:=.type "dict",data:=.dict #[] }) h.objs.size (.dT []):=
 ⟨aR _,dL.mpr (Ne.symm (bE a)),[],.nil,_,#[],0,bR _ rfl,⟨rfl,rfl,rfl⟩,rfl,rfl,dH⟩
def tDNewT(K:Fg):TE:=λ_ H Q=>∀ p,H p=ab->(∀ o,K.lookup p≠aa o)->Q (.ref p) (upd H p (.dT []))
def pe_dnewT:PE X (.Dict [] [] pos) (tDNewT X.K):=λb s O H Q I h=>
 wpAny_Dict_empty ⟨.ref s.heap.objs.size,_,I.laid (a:=s.heap.objs.size) (o:=.dT []) (t':=s.toks) (λ_ _ q=>aS _ q) (aB _) (dt_empty s.heap I.big),rfl,h _ (I.hok.fresh (aB _)) λo z=>au (aK (I.kIn _ o z)) (cJ _)⟩
def rSetT:V->V->V->Hp->(Hp->Prop)->Prop:=λo i v H Q=>∃ p b kvs k,o=.ref p/\i=.ref b/\H p=aa (.dT kvs)/\H b=aa (.tup (k.map kV))/\kvs.length < ay/\Q (upd H p (.dT (putK kvs k v)))
def set_dT(hu:X.A.units+1 < cLine):PSet X rSetT:=by
 intro K s O H o i v L M u Q I p r rv h;obtain⟨a,b,kvs,k,rfl,rfl,e,n,l,q⟩:=h;cases p;cases r;obtain⟨z,y,xs,d,dd⟩:=dt_of I.hok e;have t:xs.length<=ay:=by rw[<-Paired.length d];exact z
 have x:(putK kvs k v).length<=ay:=by have:=length_putK kvs k v;omega
 refine wpAny_setItem_heap (hsz:=t) (tupleKind_room_in1 hu) (key_of I.hok n) dd λh' f w=>?_
 obtain⟨g,F,G,j,E,D,C,_,B⟩:=f;refine⟨upd H a (.dT (putK kvs k v)),d_write I (by rw[e];exact True.intro) w ⟨g,j⟩ ⟨x,y,_,(d.put k n rv).keeps λc J m=>?_,g,F,G,j,E,D,C,B⟩,q⟩
 rw[upd_ne (ne_of m e (λz=>nomatch z))]
 exact m
def rIxdT(K:Fg):R2:=λx y H Q=>∃ p b kvs k v,x=.ref p/\y=.ref b/\SqT K H b (k.map kV)/\H p=aa (.dT kvs)/\valV kvs k=aa v/\Q v H
def ix_dT(hu:X.A.units+1 < cLine):IxR X (rIxdT X.K):=by
 intro a slice E s O H x y v u Q I i g h n;obtain⟨p,b,kvs,k,z,rfl,rfl,B,r,w,q⟩:=h;cases i;cases g;obtain⟨C,J,xs,d,dd⟩:=dt_of I.hok r;obtain⟨l,j,f,_⟩:=I.tuple B;obtain⟨D,m,c⟩:=RelO.some_of (v:=z) (o:=(atKey xs k).map (·.2)) (by rw[<-w];exact d.val k)
 obtain⟨G,t,e⟩:=eQ.mp m;refine tail_any dd.typeIs PySem.F.slot_dict_getitem.lookup (wpAny_getItem_heap (tupleKind_room_in1 hu) (key_at j f) dd t ?_) n;rw[e];exact⟨z,H,I.tok _,c,q⟩
def in_dT(hu:X.A.units+1 < cLine){c:Li (Ad×Obj)}{O:St}{s:Sd}{p b:Ad}{k:Li Key}{Q:VK}(I:Inv X c O H s)(i:H p=aa (.dT kvs))(j:SqT X.K H b (k.map kV)) :
  (Q (.bl (valV kvs k).isSome) H->a9 (bf X.prog X.w) X.A (bt .In (.ref b) (.ref p)) (EP X c O Q) X.xe s)/\(Q (.bl (!(valV kvs k).isSome)) H->a9 (bf X.prog X.w) X.A (bt .NotIn (.ref b) (.ref p)) (EP X c O Q) X.xe s):=by
 obtain⟨l,g,xs,a,dd⟩:=dt_of I.hok i;obtain⟨h,f,d,_⟩:=I.tuple j;have e:=(a.val k).isSome_eq;rw[Option.isSome_map]at e;rw[e];exact⟨λq=>wpAny_in_heap (tupleKind_room_in1 hu) (key_at f d) g dd ⟨.bl _,H,I.tok _,rfl,q⟩,λq=>wpAny_notIn_heap (tupleKind_room_in1 hu) (key_at f d) g dd ⟨.bl _,H,I.tok _,rfl,q⟩⟩
end L2
namespace LS
open PySem PyProof.Rows
noncomputable def gallop':Bool->Keyed->Array Keyed->Nat->Nat->Nat->StateT SortSt Sem (Ot Nat):=sortPriv% PySem.Builtin.gallop
noncomputable def mergeLo':Array Keyed->Array Keyed->StateT SortSt Sem (Array Keyed):=sortPriv% PySem.Builtin.mergeLo
noncomputable def mergeHi':Array Keyed->Array Keyed->StateT SortSt Sem (Array Keyed):=sortPriv% PySem.Builtin.mergeHi
noncomputable def setG':Nat->StateT SortSt Sem Unit:=sortPriv% PySem.Builtin.setMinGallop
variable{M:Model}{l arr:Li Nat}{i x j y key base m hint k:Nat}{Q:Ot Bool->SortSt->Prop}{left:Bool}
variable{prog:bg}{w:br}{A:bv}{E:vL->Sd->Prop}{s:Sd}{κ:SortKind}{g:Nat->Keyed}{φ:Nat->Int}{n:Nat}
section
def wpS_set{O:Type}{b a:O}{Q:PUnit->O->Prop}(h:Q ⟨⟩ a):wpS M A E s (set a:StateT O Sem PUnit) Q b:=by
 unfold wpS;rw[StateT.run_set];exact aE ⟨rfl,h⟩
noncomputable def im(g:Nat->Keyed)(l:Li Nat):Array Keyed:=(l.map g).toArray
def im_get(h:l[i]?=aa x):(im g l)[i]?=aa (g x):=by
 unfold im;simp[h]
def im_size(l:Li Nat):(im g l).size=l.length:=by simp[im]
structure Or(prog:bg)(w:br)(A:bv)(s:Shared)(κ:SortKind)(g:Nat->Keyed)(φ:Nat->Int)(n:Nat):Prop where
 ask:∀ i j,i < n->j < n->∀ C:Bool->Shared->Prop,C (ak (φ i < φ j)) s->a9 (bf prog w) A (keyLt' κ (g i).1 (g j).1) C (λ_ _=>False) s
noncomputable def St(κ:SortKind)(a:Array Keyed)(b:Array (Nat×Nat×Nat))(m:Nat):SortSt:=SortSt.mk' κ a b m ab
variable (Oo:Or prog w A s κ g φ n) {a:Array Keyed}{pe:Array (Nat×Nat×Nat)}{mg:Nat}
include Oo
def w_lt(f:i < n)(e:j < n)(h:Q (aa (ak (φ i < φ j))) (St κ a pe mg)):wpS (bf prog w) A E s (lt' (g i) (g j)) Q (St κ a pe mg):=by
 rw[lt'_eq];refine wpS_bind (wpS_get ?_);refine wpS_bind (wpS_lift (wpAny_attempt (bZ (Oo.ask i j f e (λb c=>b=ak (φ i < φ j)/\c=s) ⟨rfl,rfl⟩) (λb c d=>?_) λ_ _ x=>x.elim)))
 obtain⟨rfl,rfl⟩:=d;exact⟨rfl,wpS_pure h⟩
omit Oo in
def w_el{M:Model}{a:SortSt}{arr:Array Keyed}{i:Nat}{x:Keyed}{Q:Keyed->SortSt->Prop}(b:arr[i]?=aa x)(h:Q x a):wpS M A E s (elem' arr i) Q a:=by
 rw[elem'_eq,b];exact wpS_pure h
def w_ltAt(d:l[i]?=aa x)(c:l[j]?=aa y)(b:x < n)(a:y < n)(h:Q (aa (ak (φ x < φ y))) (St κ (im g l) pe mg)):wpS (bf prog w) A E s (ltAt' i j) Q (St κ (im g l) pe mg):=by
 rw[ltAt'_eq];exact wpS_bind (wpS_get (wpS_bind (w_el (im_get d) (wpS_bind (w_el (im_get c) (w_lt Oo b a h))))))
def w_bey{b:Bool}(c:key < n)(e:arr[i]?=aa x)(d:x < n)(f:(if left=ae then ak (φ x < φ key) else !decide (φ key < φ x))=b)(h:Q (aa b) (St κ a pe mg)) :
  wpS (bf prog w) A E s (do let x <-elem' (im g arr) i;if left=ae then lt' x (g key) else do let r <-lt' (g key) x;pure (r.map (!·))) Q (St κ a pe mg):=by
 refine wpS_bind (w_el (im_get e) ?_);cases left with
 |true=>exact w_lt Oo d c (by rw[<-f]at h;exact h)
 |false=>exact wpS_bind (w_lt Oo c d (wpS_pure (by rw[<-f]at h;exact h)))
def gallop_ok{Q:Ot Nat->SortSt->Prop}(J:hint < m)(M:k<=m)(G:key < n)(L:∀ i,i < m->∃ x,arr[base+i]?=aa x/\x < n/\(if left=ae then ak (φ x < φ key) else !decide (φ key < φ x))=ak (i < k))(h:Q (aa k) (St κ a pe mg)) :
  wpS (bf prog w) A E s (gallop' left (g key) (im g arr) base m hint) Q (St κ a pe mg):=by
 have v:∀ {i:Nat}{Q:Ot Bool->SortSt->Prop},i < m->Q (aa (ak (i < k))) (St κ a pe mg)->wpS (bf prog w) A E s (do let x <-elem' (im g arr) (base+i);if left=ae then lt' x (g key) else do let r <-lt' (g key) x;pure (r.map (!·))) Q (St κ a pe mg):=λd H=>
  let ⟨x,e,hx,hb⟩:=L _ d
  w_bey Oo G e hx hb H
 refine wpS_bind ?_;dsimp only;refine v J ?_;have j:∀ {lo d:Nat},lo<=k->k<=d->d<=m->∀ (f:Nat->Ot (Ot Nat)×Nat×Nat->StateT SortSt Sem (ForInStep (Ot (Ot Nat)×Nat×Nat))),
   (∀ i lo d,f i (ab,lo,d)=if lo>=d then pure (.done (ab,lo,d)) else do
    let x <-(do let x <-elem' (im g arr) (base+(lo+(d - lo) / 2));if left=ae then lt' x (g key) else do let r <-lt' (g key) x;pure (r.map (!·)))
    match x with
    |some more=>if more=ae then pure (.yield (ab,lo+(d - lo) / 2+1,d)) else pure (.yield (ab,lo,lo+(d - lo) / 2))
    |_=>pure (.done (aa ab,lo,d)))->
   ∀ (c:Ot (Ot Nat)×Nat×Nat->StateT SortSt Sem (Ot Nat)),(c (ab,k,k)=pure (aa k))->
   wpS (bf prog w) A E s (forIn [:m] ((ab,lo,d):Ot (Ot Nat)×Nat×Nat) f >>= c) Q (St κ a pe mg):=by
  intro lo d y u C f K c D;refine wpS_bind (wpS_forRange (I:=λi b p=>p=St κ a pe mg/\∃ lo d,b=(ab,lo,d)/\lo<=k/\k<=d/\d<=m/\(d - lo+i<=m)) (λi b p _ B t=>?_) (λb p t=>?_) ⟨rfl,lo,d,rfl,y,u,C,by omega⟩)
  .obtain⟨rfl,lo,d,rfl,y,u,C,F⟩:=t
   rw[K];by_cases q:lo>=d
   .rw[aq q]
    obtain⟨rfl,rfl⟩:lo=k/\d=k:=by omega
    exact wpS_pure (by show wpS _ _ _ _ (c _) _ _;rw[D];exact wpS_pure h)
   .rw[ar q]
    refine wpS_bind (v (by omega) ?_)
    by_cases r:lo+(d - lo) / 2 < k
    .rw[aG r]
     exact wpS_pure ⟨rfl,_,_,rfl,by omega,u,C,by omega⟩
    .rw[aI r]
     exact wpS_pure ⟨rfl,_,_,rfl,y,by omega,by omega,by omega⟩
  .obtain⟨rfl,lo,d,rfl,y,u,C,F⟩:=t
   rw[cM (aR m)]at F;obtain⟨rfl,rfl⟩:lo=k/\d=k:=by omega
   rw[D];exact wpS_pure h
 by_cases q:hint < k
 .rw[aG q]
  refine wpS_bind (wpS_forRange (I:=λi b p=>p=St κ a pe mg/\∃ l o,b=(ab,l,o)/\hint+l < k/\i < o) (λi b p _ B t=>?_) (λb p t=>?_) ⟨rfl,0,1,rfl,by omega,by omega⟩)
  .obtain⟨rfl,l,o,rfl,y,u⟩:=t
   by_cases r:o>=m - hint
   .rw[aq r]
    exact wpS_pure (j (by show hint+l+1<=k;omega) (by show k<=hint+min o (m - hint);omega) (by show hint+min o (m - hint)<=m;omega) _ (λ_ _ _=>rfl) _ rfl)
   .rw[ar r]
    refine wpS_bind (v (by show hint+o < m;omega) ?_)
    by_cases z:hint+o < k
    .rw[aG z]
     exact wpS_pure ⟨rfl,_,_,rfl,z,by show i+1 < 2 * o+1;omega⟩
    .rw[aI z]
     exact wpS_pure (j (by show hint+l+1<=k;omega) (by show k<=hint+min o (m - hint);omega) (by show hint+min o (m - hint)<=m;omega) _ (λ_ _ _=>rfl) _ rfl)
  .obtain⟨rfl,l,o,rfl,y,u⟩:=t
   rw[cM (aR m)]at u;exact j (by show hint+l+1<=k;omega) (by show k<=hint+min o (m - hint);omega) (by show hint+min o (m - hint)<=m;omega) _ (λ_ _ _=>rfl) _ rfl
 .rw[aI q]
  refine wpS_bind (wpS_forRange (I:=λi b p=>p=St κ a pe mg/\∃ l o,b=(ab,l,o)/\k+l<=hint/\i < o) (λi b p _ B t=>?_) (λb p t=>?_) ⟨rfl,0,1,rfl,by omega,by omega⟩)
  .obtain⟨rfl,l,o,rfl,y,u⟩:=t
   by_cases r:o>=hint+1
   .rw[aq r]
    exact wpS_pure (j (by show hint+1 - min o (hint+1)<=k;omega) (by show k<=hint - l;omega) (by show hint - l<=m;omega) _ (λ_ _ _=>rfl) _ rfl)
   .rw[ar r]
    refine wpS_bind (v (by show hint - o < m;omega) ?_)
    by_cases z:hint - o < k
    .rw[aG z]
     exact wpS_pure (j (by show hint+1 - min o (hint+1)<=k;omega) (by show k<=hint - l;omega) (by show hint - l<=m;omega) _ (λ_ _ _=>rfl) _ rfl)
    .rw[aI z]
     exact wpS_pure ⟨rfl,_,_,rfl,by show k+o<=hint;omega,by show i+1 < 2 * o+1;omega⟩
  .obtain⟨rfl,l,o,rfl,y,u⟩:=t
   rw[cM (aR m)]at u;exact j (by show hint+1 - min o (hint+1)<=k;omega) (by show k<=hint - l;omega) (by show hint - l<=m;omega) _ (λ_ _ _=>rfl) _ rfl
end
variable{W o L Z:Li Nat}
section
def Srt(φ:Nat->Int)(l:Li Nat):Prop:=l.Pairwise λi j=>φ i < φ j
def Srt.app{l m:Li Nat}(h:Srt φ (l++m)):Srt φ l/\Srt φ m/\∀ x∈l,∀ y∈m,φ x < φ y:=eR.mp h
def Srt.mk{l m:Li Nat}(h:Srt φ l)(b:Srt φ m)(a:∀ x∈l,∀ y∈m,φ x < φ y):Srt φ (l++m):=eR.mpr ⟨h,b,a⟩
theorem Srt.drop(h:Srt φ l)(k:Nat):Srt φ (l.drop k):=List.Pairwise.sublist (List.drop_sublist k l) h
theorem Srt.take(h:Srt φ l)(k:Nat):Srt φ (l.take k):=List.Pairwise.sublist (List.take_sublist k l) h
def Fr(φ:Nat->Int)(W o L:Li Nat):Prop:=∀ R,Srt φ R->R.Perm L->Srt φ (o++R)/\(o++R).Perm W
def Fb(φ:Nat->Int)(W o L:Li Nat):Prop:=∀ R,Srt φ R->R.Perm L->Srt φ (R++o)/\(R++o).Perm W
def Fr.step{c a:Li Nat}(h:Fr φ W o L)(p:L.Perm (c++a))(sc:Srt φ c)(lt:∀ x∈c,∀ y∈a,φ x < φ y):Fr φ W (o++c) a:=λR f b=>by
 rw[aM];exact h (c++R) (sc.mk f λx e y d=>lt x e y (b.mem_iff.mp d)) ((b.append_left c).trans p.symm)
def Fb.step{c a:Li Nat}(h:Fb φ W o L)(p:L.Perm (a++c))(sc:Srt φ c)(lt:∀ x∈c,∀ y∈a,φ y < φ x):Fb φ W (c++o) a:=λR f b=>by
 rw[<-aM];exact h (R++c) (f.mk sc λx e y d=>lt y d x (b.mem_iff.mp e)) ((b.append_right c).trans p.symm)
def Fr.a{X Y:Li Nat}(k:Nat)(h:Fr φ W o (X++Y))(b:Srt φ X)(lt:∀ x∈X.take k,∀ y∈Y,φ x < φ y):Fr φ W (o++X.take k) (X.drop k++Y):=by
 refine h.step ?_ (b.take k) λx c y hy=>?_
 .rw[<-aM,bB]
 .rcases aY.mp hy with hy|hy
  .rw[<-bB k X]at b;exact b.app.2.2 x c y hy
  .exact lt x c y hy
def Fr.b{X Y:Li Nat}(k:Nat)(h:Fr φ W o (X++Y))(a:Srt φ Y)(lt:∀ y∈Y.take k,∀ x∈X,φ y < φ x):Fr φ W (o++Y.take k) (X++Y.drop k):=by
 refine h.step ?_ (a.take k) λx c y hy=>?_
 .rw[<-aM]
  have p:=(fM (l₁:=X) (l₂:=Y.take k)).append_right (Y.drop k);rw[aM,bB]at p;exact p
 .rcases aY.mp hy with hy|hy
  .exact lt x c y hy
  .rw[<-bB k Y]at a;exact a.app.2.2 x c y hy
def Fb.a{X Y:Li Nat}(k:Nat)(h:Fb φ W o (X++Y))(b:Srt φ X)(lt:∀ x∈X.drop k,∀ y∈Y,φ y < φ x):Fb φ W (X.drop k++o) (X.take k++Y):=by
 refine h.step ?_ (b.drop k) λx c y hy=>?_
 .have p:=(fM (l₁:=X.drop k) (l₂:=Y)).append_left (X.take k)
  rw[<-aM,bB,<-aM]at p;exact p
 .rcases aY.mp hy with hy|hy
  .rw[<-bB k X]at b;exact b.app.2.2 y hy x c
  .exact lt x c y hy
def Fb.b{X Y:Li Nat}(k:Nat)(h:Fb φ W o (X++Y))(a:Srt φ Y)(lt:∀ y∈Y.drop k,∀ x∈X,φ x < φ y):Fb φ W (Y.drop k++o) (X++Y.take k):=by
 refine h.step ?_ (a.drop k) λx c y hy=>?_
 .rw[aM,bB]
 .rcases aY.mp hy with hy|hy
  .exact lt x c y hy
  .rw[<-bB k Y]at a;exact a.app.2.2 y hy x c
theorem cut{v:Int}:∀ {L:Li Nat},Srt φ L->∃ k,k<=L.length/\∀ i x,L[i]?=aa x->(φ x < v↔i < k)
 |[],_=>⟨0,aB 0,λi x h=>nomatch h⟩
 |y :: L,h=>by
  obtain⟨b,f⟩:=eS.mp h;obtain⟨k,c,d⟩:=cut f;by_cases q:φ y < v
  .refine⟨k+1,fJ c,λi x e=>?_⟩
   cases i with
   |zero=>cases e;exact⟨λ_=>Nat.succ_pos k,λ_=>q⟩
   |succ i=>rw[d i x e];omega
  .refine⟨0,aR _,λi x e=>⟨λa=>?_,λa=>nomatch a⟩⟩
   cases i with
   |zero=>cases e;exact au a q
   |succ i=>have:=b x (aW e);omega
def mem_take(h:x∈L.take k):∃ i,i < k/\L[i]?=aa x:=by
 obtain⟨i,a⟩:=dI.mp h;rw[cN]at a;split at a
 .exact⟨i,by assumption,a⟩
 .exact nomatch a
def mem_drop(h:x∈L.drop k):∃ i,k<=i/\L[i]?=aa x:=by
 obtain⟨i,a⟩:=dI.mp h;rw[dP]at a;exact⟨k+i,cT _ _,a⟩
def im_app(l m:Li Nat):im g l++im g m=im g (l++m):=by simp[im]
def im_push(l:Li Nat)(x:Nat):(im g l).push (g x)=im g (l++[x]):=by simp[im]
def im_ext(l:Li Nat)(i j:Nat):(im g l).extract i j=im g ((l.take j).drop i):=by
 apply Array.toList_inj.mp
 simp[im,List.drop_take]
def im_cut(l:Li Nat)(i k:Nat):(im g l).extract i (i+k)=im g ((l.drop i).take k):=by
 rw[im_ext,List.drop_take,cU]
def im_rev(l:Li Nat):(im g l).reverse=im g l.reverse:=by simp[im]
def take_one(h:L[i]?=aa x):(L.drop i).take 1=[x]:=by
 obtain⟨a,rfl⟩:=bG.mp h;rw[bU a];rfl
variable (Oo:Or prog w A s κ g φ n) {a:Array Keyed}{pe:Array (Nat×Nat×Nat)}{mg:Nat}
include Oo
def gal{L:Li Nat}{Q:Ot Nat->SortSt->Prop}(u:hint < m)(j:L.length=m)(y:∀ i,i < m->Z[base+i]?=L[i]?)(t:key < n)(r:Srt φ L)(o:∀ x∈L,x < n/\φ x≠φ key)(h:∀ k,k<=m->(∀ x∈L.take k,φ x < φ key)->(∀ x∈L.drop k,φ key < φ x)->Q (aa k) (St κ a pe mg)) :
  wpS (bf prog w) A E s (gallop' left (g key) (im g Z) base m hint) Q (St κ a pe mg):=by
 obtain⟨k,p,l⟩:=cut (v:=φ key) r;refine gallop_ok Oo u (j ▸ p) t (λi d=>?_) (h k (j ▸ p) (λx f=>?_) λx f=>?_)
 .have b:i < L.length:=j ▸ d
  have e:L[i]?=aa L[i]:=Lg b;refine⟨L[i],(y i d).trans e,(o _ (bC b)).1,?_⟩;have ne:=(o _ (bC b)).2;have c:=l i _ e;cases left with
  |true=>exact decide_eq_decide.mpr c
  |false=>
   show(!decide _)=_;rw[<-decide_not];exact decide_eq_decide.mpr ⟨λh=>c.mp (by omega),λh=>by have:=c.mpr h;omega⟩
 .obtain⟨i,d,e⟩:=mem_take f
  exact(l i x e).mpr d
 .obtain⟨i,d,e⟩:=mem_drop f
  have c:=l i x e;have ne:=(o x (aW e)).2;rcases Int.lt_or_gt_of_ne ne with q|q
  .have:=c.mp q;omega
  .exact q
end
section
variable (Oo:Or prog w A s κ g φ n) {a:Array Keyed}{pe:Array (Nat×Nat×Nat)}{mg:Nat}
omit Oo in
def w_set{M:Model}{m:Nat}{Q:Unit->SortSt->Prop}(h:Q () (St κ a pe m)):wpS M A E s (setG' m) Q (St κ a pe mg):=wpS_modify h
omit Oo in
def w_post{M:Model}{d:Type}{m:StateT SortSt Sem (ForInStep d)}{D Y:d->SortSt->Prop}{a:SortSt}(h:∀ P:ForInStep d->SortSt->Prop,(∀ b a,D b a->P (.done b) a)->(∀ b a,Y b a->P (.yield b) a)->wpS M A E s m P a) :
  wpS M A E s m (λr c=>match r with|.done b=>D b c|.yield b=>Y b c) a:=h _ (λ_ _=>id) λ_ _=>id
omit Oo in
def w_ite{M:Model}{a:Type}{c:Prop}[Decidable c]{jp:Unit->Nat->StateT SortSt Sem a}{x y:Nat}{P:a->SortSt->Prop}{b:SortSt}(h:∀ x,wpS M A E s (jp () x) P b):wpS M A E s (if c then jp () x else jp () y) P b:=by
 split
 .exact h x
 .exact h y
omit Oo in
def mn{Z:Li Nat}{u x:Nat}(a:Srt φ Z)(e:Z[u]?=aa x):∀ y∈Z.drop u,φ x<=φ y:=λy hy=>by
 have d:=a.drop u;obtain⟨b,rfl⟩:=bG.mp e;rw[bU b]at d hy;rcases aL.mp hy with rfl|hy
 .exact Int.le_refl _
 .exact Int.le_of_lt ((eS.mp d).1 y hy)
include Oo
def mergeLo_ok{X Y:Li Nat}{Q:Array Keyed->SortSt->Prop}(hX:0 < X.length)(hY:0 < Y.length)(W:Srt φ X)(U:Srt φ Y)(dX:∀ x∈X,x < n)(dY:∀ y∈Y,y < n)(ne:∀ x∈X,∀ y∈Y,φ x≠φ y)(p1:∀ x∈X,∀ y∈Y.take 1,φ y < φ x)(p2:∀ x∈X.drop (X.length - 1),∀ y∈Y,φ y < φ x)(h:∀ R m,Srt φ R->R.Perm (X++Y)->Q (im g R) (St κ a pe m)) :
  wpS (bf prog w) A E s (mergeLo' (im g X) (im g Y)) Q (St κ a pe mg):=by
 refine wpS_bind (wpS_lift (wpAny_rule ⟨rfl,?_⟩))
 extract_lets -underBinder total done lastA ia ib
 have K:(im g X).size=X.length:=im_size X;have S:(im g Y).size=Y.length:=im_size Y;have fd:∀ {o:Li Nat}{i j m:Nat},Fr φ (X++Y) o (X.drop i++Y.drop j)->j=Y.length->Q (done (im g o) i j) (St κ a pe m):=λ{o i j m} hf e=>by
  subst e;have r:=hf _ ((W.drop i).mk (U.drop Y.length) (λx _ y J=>by rw[fN]at J;exact nomatch J)) (List.Perm.refl _)
  show Q (im g o++(im g X).extract i (im g X).size++(im g Y).extract Y.length (im g Y).size) _;rw[K,S,im_ext,im_ext,cP,cP,im_app,im_app,aM];exact h _ m r.1 r.2
 have fl:∀ {o:Li Nat}{i j m:Nat},Fr φ (X++Y) o (X.drop i++Y.drop j)->i+1=X.length->Q (lastA (im g o) i j) (St κ a pe m):=λ{o i j m} hf e=>by
  have r:=hf _ ((U.drop j).mk (W.drop i) (λy J x hx=>p2 x (by rw[<-e];exact hx) y (cG J))) fM
  show Q (im g o++(im g Y).extract j (im g Y).size++(im g X).extract i (im g X).size) _;rw[K,S,im_ext,im_ext,cP,cP,im_app,im_app,aM];exact h _ m r.1 r.2
 clear_value done lastA
 have hT:total=X.length+Y.length:=by show(im g X).size+(im g Y).size=_;rw[K,S]
 rw[S,K];have gX:∀ {i:Nat},i < X.length->∃ x,X[i]?=aa x/\x < n/\x∈X:=λO=>⟨_,Lg O,dX _ (bC O),bC O⟩
 have gY:∀ {i:Nat},i < Y.length->∃ x,Y[i]?=aa x/\x < n/\x∈Y:=λO=>⟨_,Lg O,dY _ (bC O),bC O⟩
 obtain⟨y0,ey0,ny0,my0⟩:=gY hY;refine wpS_bind (w_el (im_get ey0) ?_)
 extract_lets -underBinder out
 have f0:Fr φ (X++Y) [y0] (X.drop 0++Y.drop 1):=by
  have i0:Fr φ (X++Y) [] (X++Y):=λR hR pR=>⟨hR,pR⟩
  have r:=i0.b 1 U (λy J x hx=>p1 x hx y J)
  rw[show Y.take 1=[y0] from take_one (i:=0) ey0]at r;exact r
 split
 .rename_i q
  exact wpS_pure (fd f0 (beq_iff_eq.mp q))
 rename_i q1;split
 .rename_i q
  exact wpS_pure (fl f0 (beq_iff_eq.mp q))
 rename_i q2;have q1:1 < Y.length:=by
  have:1≠Y.length:=λe=>q1 (beq_iff_eq.mpr e)
  omega
 have q2:1 < X.length:=by
  have:0+1≠X.length:=λe=>q2 (beq_iff_eq.mpr e)
  omega
 have tk:∀ {o:Li Nat}{u v x:Nat},Fr φ (X++Y) o (X.drop u++Y.drop v)->X[u]?=aa x->(∀ y∈Y.drop v,φ x < φ y)->Fr φ (X++Y) (o++[x]) (X.drop (u+1)++Y.drop v):=λ{o u v x} f e lt=>by
  have r:=f.a 1 (W.drop u) (by rw[take_one e];intro x' C y J;obtain rfl:=aP.mp C;exact lt y J)
  rw[take_one e,dQ]at r;exact r
 have tl:∀ {o:Li Nat}{u v x:Nat},Fr φ (X++Y) o (X.drop u++Y.drop v)->Y[v]?=aa x->(∀ y∈X.drop u,φ x < φ y)->Fr φ (X++Y) (o++[x]) (X.drop u++Y.drop (v+1)):=λ{o u v x} f e lt=>by
  have r:=f.b 1 (U.drop v) (by rw[take_one e];intro x' C y J;obtain rfl:=aP.mp C;exact lt y J)
  rw[take_one e,dQ]at r;exact r
 refine wpS_bind (wpS_get ?_)
 extract_lets -underBinder mg0
 refine wpS_bind (wpS_forRange (I:=λi b B=>∃ m o u v G,B=St κ a pe m/\b=(ab,im g o,u,v,G)/\Fr φ (X++Y) o (X.drop u++Y.drop v)/\u+1 < X.length/\v < Y.length/\i+1<=u+v) (λi b B _ O N=>?_) (λb B N=>?_) ⟨mg,[y0],0,1,mg0,rfl,rfl,f0,q2,q1,aB 1⟩)
 .obtain⟨m,o,u,v,G,rfl,rfl,f,M,D,hc⟩:=N
  dsimp (zeta:=af) only
  extract_lets -underBinder s1 o1 s2 u1 s3 v1 G1 G2
  dsimp (zeta:=af) only[s1,o1,s2,u1,s3,v1,G1]
  refine wpS_bind (wpS_mono (wpS_forRange (I:=λi b B=>∃ m o l p c d,B=St κ a pe m/\b=(ab,im g o,l,p,c,d)/\Fr φ (X++Y) o (X.drop l++Y.drop p)/\l+1 < X.length/\p < Y.length/\u+v<=l+p)
   (Q:=λb B=>∃ m,B=St κ a pe m/\((∃ R,b.1=aa R/\Q R B)\/∃ o l p c d,b=(ab,im g o,l,p,c,d)/\Fr φ (X++Y) o (X.drop l++Y.drop p)/\l+1 < X.length/\p < Y.length/\u+v<=l+p)) (λi b B _ O N=>?_) (λb B N=>?_) ⟨m,o,u,v,0,0,rfl,rfl,f,M,D,aB _⟩) λb B hb=>?_)
  .obtain⟨m,o,l,p,c,d,rfl,rfl,f,M,D,hc⟩:=N
   obtain⟨x,ex,nx,mx⟩:=gX (show l < X.length by omega)
   obtain⟨y,T,ny,my⟩:=gY D;dsimp only;refine wpS_bind (w_el (im_get T) (wpS_bind (w_el (im_get ex) (wpS_bind (w_lt Oo ny nx ?_)))));by_cases lt:φ y < φ x
   .rw[aG lt]
    refine wpS_bind (w_el (im_get T) ?_);rw[im_push];have F:=tl f T λz K=>eG lt (mn W ex z K)
    split
    .rename_i q
     exact wpS_pure ⟨m,rfl,.inl ⟨_,rfl,fd F (beq_iff_eq.mp q)⟩⟩
    .rename_i q
     have q:p+1≠Y.length:=λe=>q (beq_iff_eq.mpr e)
     split
     .exact wpS_pure ⟨m,rfl,.inr ⟨_,_,_,_,_,rfl,F,M,by omega,by omega⟩⟩
     .exact wpS_pure ⟨m,_,_,_,_,_,rfl,rfl,F,M,by omega,by omega⟩
   .rw[aI lt]
    refine wpS_bind (w_el (im_get ex) ?_);rw[im_push];have F:=tk f ex λz K=>by have:=mn U T z K;have:=ne x mx y my;omega
    split
    .rename_i q
     exact wpS_pure ⟨m,rfl,.inl ⟨_,rfl,fl F (beq_iff_eq.mp q)⟩⟩
    .rename_i q
     have q:l+1+1≠X.length:=λe=>q (beq_iff_eq.mpr e)
     split
     .exact wpS_pure ⟨m,rfl,.inr ⟨_,_,_,_,_,rfl,F,by omega,D,by omega⟩⟩
     .exact wpS_pure ⟨m,_,_,_,_,_,rfl,rfl,F,by omega,D,by omega⟩
  .obtain⟨m,o,l,p,c,d,rfl,r⟩:=N
   exact⟨m,rfl,.inr ⟨_,_,_,_,_,r⟩⟩
  .obtain⟨m,rfl,⟨R,e,hq⟩|⟨o,u0,v0,c,d,rfl,f,M,D,hc0⟩⟩:=hb
   .obtain⟨b1,b2⟩:=b
    cases e;exact wpS_pure (wpS_pure hq)
   dsimp (zeta:=af) only
   extract_lets -underBinder r1 t1 o2 t2 u2 t3 v2 t4 c2 d2
   dsimp (zeta:=af) only[r1,t1,o2,t2,u2,t3,v2,t4,c2,d2]
   refine wpS_bind (wpS_lift (wpAny_rule ⟨rfl,?_⟩));refine wpS_bind (wpS_mono (wpS_forRange (I:=λi b B=>∃ m o l p G c d,B=St κ a pe m/\b=(ab,im g o,l,p,G,c,d)/\Fr φ (X++Y) o (X.drop l++Y.drop p)/\l+1 < X.length/\p < Y.length/\u0+v0+i<=l+p)
    (Q:=λb B=>∃ m,B=St κ a pe m/\((∃ R,b.1=aa R/\Q R B)\/∃ o l p G c d,b=(ab,im g o,l,p,G,c,d)/\Fr φ (X++Y) o (X.drop l++Y.drop p)/\l+1 < X.length/\p < Y.length/\u0+v0+1<=l+p)) (λi b B _ O N=>?_) (λb B N=>?_) ⟨m,o,u0,v0,_,_,_,rfl,rfl,f,M,D,aB _⟩) λb B hb=>?_)
   .obtain⟨m,o,l,p,G,c,d,rfl,rfl,f,M,D,hc⟩:=N
    refine w_post λP pd py=>?_
    dsimp (zeta:=af) only
    extract_lets -underBinder s1 o1 s2 u1 s3 v1 s4 G1 s5 c1 d1 jp
    refine w_ite (jp:=jp) λV=>?_
    dsimp (zeta:=af) only[jp]
    dsimp (zeta:=af) only[s1,o1,s2,u1,s3,v1,s4,G1,s5,c1,d1]
    refine wpS_bind (w_set ?_);obtain⟨y,T,ny,my⟩:=gY D;refine wpS_bind (w_el (im_get T) ?_);refine wpS_bind (gal Oo (L:=X.drop l) (show 0 < X.length - l by omega) (by rw[cB]) (λi _=>by rw[dP]) ny (W.drop l) (λx hx=>⟨dX x (cG hx),ne x (cG hx) y my⟩) λk hk h1 h2=>?_)
    dsimp (zeta:=af) only
    have hk':l+k < X.length:=by
     by_cases q:l+k < X.length
     .exact q
     obtain⟨x,ex,nx,mx⟩:=gX (show X.length - 1 < X.length by omega)
     have a1:=h1 x (dI.mpr ⟨X.length - 1 - l,by rw[cN,aq (by omega),dP,show l+(X.length - 1 - l)=X.length - 1 by omega,ex]⟩)
     have a2:=p2 x (dI.mpr ⟨0,by rw[dP];exact ex⟩) y my
     omega
    rw[dQ]at h2
    extract_lets -underBinder ac jp2 o5 u5
    have hj:∀ o t,Fr φ (X++Y) o (X.drop t++Y.drop p)->t+1 < X.length->l<=t->(∀ x∈X.drop t,φ y < φ x)->wpS (bf prog w) A E s (jp2 () (im g o) t) P (St κ a pe V):=by
     intro o t f M hle lt;dsimp (zeta:=af) only[jp2]
     refine wpS_bind (w_el (im_get T) ?_)
     extract_lets -underBinder o3 v3
     have eo:o3=im g (o++[y]):=im_push o y
     clear_value o3;subst eo
     dsimp (zeta:=af) only[v3]
     have F:=tl f T lt;split
     .rename_i q
      exact wpS_pure (pd _ _ ⟨V,rfl,.inl ⟨_,rfl,fd F (beq_iff_eq.mp q)⟩⟩)
     rename_i q;have q:p+1≠Y.length:=λe=>q (beq_iff_eq.mpr e)
     obtain⟨x,ex,nx,mx⟩:=gX (show t < X.length by omega)
     refine wpS_bind (w_el (im_get ex) ?_);refine wpS_bind (gal Oo (L:=Y.drop (p+1)) (by omega) (by rw[cB]) (λi _=>by rw[dP]) nx (U.drop _) (λy J=>⟨dY y (cG J),(ne x mx y (cG J)).symm⟩) λk2 hk2 g1 g2=>?_)
     rw[dQ]at g2;dsimp (zeta:=af) only
     extract_lets -underBinder bc jp3 o6 v6
     have hj3:∀ o H,Fr φ (X++Y) o (X.drop t++Y.drop H)->H < Y.length->p < H->(∀ z∈Y.drop H,φ x < φ z)->wpS (bf prog w) A E s (jp3 () (im g o) H) P (St κ a pe V):=by
      intro o H f D hlt lt;dsimp (zeta:=af) only[jp3]
      refine wpS_bind (w_el (im_get ex) ?_)
      extract_lets -underBinder o3 u3
      have eo:o3=im g (o++[x]):=im_push o x
      clear_value o3;subst eo
      dsimp (zeta:=af) only[u3]
      have F:=tk f ex lt;split
      .rename_i q
       exact wpS_pure (pd _ _ ⟨V,rfl,.inl ⟨_,rfl,fl F (beq_iff_eq.mp q)⟩⟩)
      rename_i q;have q:t+1+1≠X.length:=λe=>q (beq_iff_eq.mpr e)
      split
      .exact wpS_pure (pd _ _ ⟨V,rfl,.inr ⟨_,_,_,_,_,_,rfl,F,by omega,D,by omega⟩⟩)
      .exact wpS_pure (py _ _ ⟨V,_,_,_,_,_,_,rfl,rfl,F,by omega,D,by omega⟩)
     split
     .have eo:o6=im g (o++[y]++(Y.drop (p+1)).take k2):=by
       show im g (o++[y])++(im g Y).extract (p+1) (p+1+k2)=_;rw[im_cut,im_app]
      clear_value o6;subst eo
      dsimp (zeta:=af) only[v6]
      have Z:=F.b k2 (U.drop _) λz K x' C=>eG (g1 z K) (mn W ex x' C)
      rw[dQ]at Z;split
      .rename_i q
       exact wpS_pure (pd _ _ ⟨V,rfl,.inl ⟨_,rfl,fd Z (beq_iff_eq.mp q)⟩⟩)
      .rename_i q
       have q:p+1+k2≠Y.length:=λe=>q (beq_iff_eq.mpr e)
       exact hj3 _ _ Z (by omega) (by omega) g2
     .obtain rfl:k2=0:=by omega
      exact hj3 _ _ F (by omega) (by omega) g2
    split
    .have eo:o5=im g (o++(X.drop l).take k):=by
      show im g o++(im g X).extract l (l+k)=_;rw[im_cut,im_app]
     clear_value o5;subst eo
     dsimp (zeta:=af) only[u5]
     have Z:=f.a k (W.drop _) λz K x' C=>eG (h1 z K) (mn U T x' C)
     rw[dQ]at Z;split
     .rename_i q
      exact wpS_pure (pd _ _ ⟨V,rfl,.inl ⟨_,rfl,fl Z (beq_iff_eq.mp q)⟩⟩)
     .rename_i q
      have q:l+k+1≠X.length:=λe=>q (beq_iff_eq.mpr e)
      rw[ar (λe=>by have:=beq_iff_eq.mp e;omega)]
      exact hj _ _ Z (by omega) (by omega) h2
    .obtain rfl:k=0:=by omega
     exact hj _ _ f M (aB _) h2
   .obtain⟨m,o,l,p,G,c,d,rfl,e,f,h1,h2,h3⟩:=N
    rw[cM (aR _),hT]at h3;exact⟨m,rfl,.inr ⟨_,_,_,_,_,_,e,f,h1,h2,by omega⟩⟩
   .obtain⟨m,rfl,⟨R,e,hq⟩|⟨o,l,p,G,c,d,rfl,f,M,D,hc1⟩⟩:=hb
    .obtain⟨b1,b2⟩:=b
     cases e;exact wpS_pure (wpS_pure hq)
    .exact wpS_bind (w_set (wpS_pure ⟨_,_,_,_,_,rfl,rfl,f,M,D,by show _<=l+p;omega⟩))
 .obtain⟨m,o,l,p,G,rfl,rfl,f,M,D,hc⟩:=N
  rw[cM (aR _)]at hc;rw[hT]at hc;omega
end
section
variable (Oo:Or prog w A s κ g φ n) {a:Array Keyed}{pe:Array (Nat×Nat×Nat)}{mg:Nat}
def im_pr(o:Li Nat)(x:Nat):(im g o.reverse).push (g x)=im g (x :: o).reverse:=by rw[im_push,eT]
def im_cr(o l:Li Nat)(i j:Nat):im g o.reverse++((im g l).extract i j).reverse=im g (((l.take j).drop i)++o).reverse:=by rw[im_ext,im_rev,im_app,List.reverse_append]
def mt{Z:Li Nat}{u:Nat}(a:Srt φ Z)(hu:0 < u)(e:Z[u - 1]?=aa x):∀ y∈Z.take u,φ y<=φ x:=λy b=>by
 obtain⟨i,g,f⟩:=mem_take b;obtain⟨d,rfl⟩:=bG.mp e;obtain⟨c,rfl⟩:=bG.mp f;by_cases q:i=u - 1
 .subst q;exact Int.le_refl _
 .exact Int.le_of_lt (fO.mp a i (u - 1) c d (by omega))
def take_last{u:Nat}(hu:0 < u)(e:Z[u - 1]?=aa x):(Z.take u).drop (u - 1)=[x]/\(Z.take u).take (u - 1)=Z.take (u - 1):=by
 obtain⟨u,rfl⟩:∃ v,u=v+1:=⟨u - 1,by omega⟩
 exact⟨by rw[List.drop_take,eU,cU];exact take_one e,by rw[dC,eU,cC (Nat.le_succ u)]⟩
include Oo
def mergeHi_ok{X Y:Li Nat}{Q:Array Keyed->SortSt->Prop}(hX:0 < X.length)(hY:0 < Y.length)(W:Srt φ X)(V:Srt φ Y)(dX:∀ x∈X,x < n)(dY:∀ y∈Y,y < n)(ne:∀ x∈X,∀ y∈Y,φ x≠φ y)(p1:∀ x∈X,∀ y∈Y.take 1,φ y < φ x)(p2:∀ x∈X.drop (X.length - 1),∀ y∈Y,φ y < φ x)(h:∀ R m,Srt φ R->R.Perm (X++Y)->Q (im g R) (St κ a pe m)) :
  wpS (bf prog w) A E s (mergeHi' (im g X) (im g Y)) Q (St κ a pe mg):=by
 refine wpS_bind (wpS_lift (wpAny_rule ⟨rfl,?_⟩))
 extract_lets -underBinder total done first na nb
 have M:(im g X).size=X.length:=im_size X;have hzy:(im g Y).size=Y.length:=im_size Y;have fd:∀ {o:Li Nat}{i j m:Nat},Fb φ (X++Y) o (X.take i++Y.take j)->i=0->Q (done (im g o.reverse) i j) (St κ a pe m):=λ{o i j m} hf e=>by
  subst e;have r:=hf _ ((W.take 0).mk (V.take j) (λx hx=>nomatch hx)) (List.Perm.refl _)
  show Q ((im g X).extract 0 0++(im g Y).extract 0 j++(im g o.reverse).reverse) _;rw[im_ext,im_ext,im_rev,List.reverse_reverse,im_app,im_app,cQ,cQ];exact h _ m r.1 r.2
 have fl:∀ {o:Li Nat}{i j m:Nat},Fb φ (X++Y) o (X.take i++Y.take j)->j=1->Q (first (im g o.reverse) i j) (St κ a pe m):=λ{o i j m} hf e=>by
  subst e;have r:=hf _ ((V.take 1).mk (W.take i) (λy N x hx=>p1 x (cH hx) y N)) fM
  show Q ((im g Y).extract 0 1++(im g X).extract 0 i++(im g o.reverse).reverse) _;rw[im_ext,im_ext,im_rev,List.reverse_reverse,im_app,im_app,cQ,cQ];exact h _ m r.1 r.2
 clear_value done first
 have hT:total=X.length+Y.length:=by show(im g X).size+(im g Y).size=_;rw[M,hzy]
 have eu:na=X.length - 1:=by show(im g X).size - 1=_;rw[M]
 have ev:nb=Y.length:=hzy
 clear_value na nb
 subst eu ev;have gX:∀ {i:Nat},i < X.length->∃ x,X[i]?=aa x/\x < n/\x∈X:=λH=>⟨_,Lg H,dX _ (bC H),bC H⟩
 have gY:∀ {i:Nat},i < Y.length->∃ x,Y[i]?=aa x/\x < n/\x∈Y:=λH=>⟨_,Lg H,dY _ (bC H),bC H⟩
 have tk:∀ {o:Li Nat}{u v x:Nat},Fb φ (X++Y) o (X.take u++Y.take v)->0 < u->X[u - 1]?=aa x->(∀ y∈Y.take v,φ y < φ x)->Fb φ (X++Y) (x :: o) (X.take (u - 1)++Y.take v):=λ{o u v x} f t e lt=>by
  have r:=f.a (u - 1) (W.take u) (by rw[(take_last t e).1];intro x' D y N;obtain rfl:=aP.mp D;exact lt y N)
  rw[(take_last t e).1,(take_last t e).2]at r;exact r
 have tl:∀ {o:Li Nat}{u v x:Nat},Fb φ (X++Y) o (X.take u++Y.take v)->0 < v->Y[v - 1]?=aa x->(∀ y∈X.take u,φ y < φ x)->Fb φ (X++Y) (x :: o) (X.take u++Y.take (v - 1)):=λ{o u v x} f t e lt=>by
  have r:=f.b (v - 1) (V.take v) (by rw[(take_last t e).1];intro x' D y N;obtain rfl:=aP.mp D;exact lt y N)
  rw[(take_last t e).1,(take_last t e).2]at r;exact r
 obtain⟨x0,ex0,nx0,mx0⟩:=gX (show X.length - 1 < X.length by omega)
 refine wpS_bind (w_el (im_get ex0) ?_)
 extract_lets -underBinder out
 have f0:Fb φ (X++Y) [x0] (X.take (X.length - 1)++Y.take Y.length):=by
  have i0:Fb φ (X++Y) [] (X.take X.length++Y.take Y.length):=λR hR pR=>by rw[cP,cP]at pR;rw[bF];exact⟨hR,pR⟩
  exact tk i0 hX ex0 λy N=>p2 x0 (dI.mpr ⟨0,by rw[dP];exact ex0⟩) y (cH N)
 split
 .rename_i q
  exact wpS_pure (fd (o:=[x0]) f0 (beq_iff_eq.mp q))
 rename_i q1;split
 .rename_i q
  exact wpS_pure (fl (o:=[x0]) f0 (beq_iff_eq.mp q))
 rename_i q2;have q1:X.length - 1≠0:=λe=>q1 (beq_iff_eq.mpr e)
 have q2:Y.length≠1:=λe=>q2 (beq_iff_eq.mpr e)
 refine wpS_bind (wpS_get ?_)
 extract_lets -underBinder mg0
 refine wpS_bind (wpS_forRange (I:=λi b C=>∃ m o u v G,C=St κ a pe m/\b=(ab,u,v,im g o.reverse,G)/\Fb φ (X++Y) o (X.take u++Y.take v)/\(0 < u/\u<=X.length)/\(1 < v/\v<=Y.length)/\i+1+(u+v)<=X.length+Y.length) (λi b C _ H K=>?_) (λb C K=>?_) ⟨mg,[x0],_,_,mg0,rfl,rfl,f0,by omega,by omega,by omega⟩)
 .obtain⟨m,o,u,v,G,rfl,rfl,f,t,O,hc⟩:=K
  dsimp (zeta:=af) only
  extract_lets -underBinder s1 u1 s2 v1 s3 o1 G1
  dsimp (zeta:=af) only[s1,u1,s2,v1,s3,o1,G1]
  refine wpS_bind (wpS_mono (wpS_forRange (I:=λi b C=>∃ m o p l c d,C=St κ a pe m/\b=(ab,p,l,im g o.reverse,c,d)/\Fb φ (X++Y) o (X.take p++Y.take l)/\(0 < p/\p<=X.length)/\(1 < l/\l<=Y.length)/\p+l<=u+v)
   (Q:=λb C=>∃ m,C=St κ a pe m/\((∃ R,b.1=aa R/\Q R C)\/∃ o p l c d,b=(ab,p,l,im g o.reverse,c,d)/\Fb φ (X++Y) o (X.take p++Y.take l)/\(0 < p/\p<=X.length)/\(1 < l/\l<=Y.length)/\p+l<=u+v)) (λi b C _ H K=>?_) (λb C K=>?_) ⟨m,o,u,v,0,0,rfl,rfl,f,t,O,aB _⟩) λb C hb=>?_)
  .obtain⟨m,o,p,l,c,d,rfl,rfl,f,t,O,hc⟩:=K
   obtain⟨x,ex,nx,mx⟩:=gX (show p - 1 < X.length by omega)
   obtain⟨y,S,ny,my⟩:=gY (show l - 1 < Y.length by omega)
   dsimp only;refine wpS_bind (w_el (im_get S) (wpS_bind (w_el (im_get ex) (wpS_bind (w_lt Oo ny nx ?_)))));by_cases lt:φ y < φ x
   .rw[aG lt]
    refine wpS_bind (w_el (im_get ex) ?_);rw[im_pr];have F:=tk f t.1 ex λz M=>eV (mt V (by omega) S z M) lt
    split
    .rename_i q
     exact wpS_pure ⟨m,rfl,.inl ⟨_,rfl,fd F (beq_iff_eq.mp q)⟩⟩
    .rename_i q
     have q:p - 1≠0:=λe=>q (beq_iff_eq.mpr e)
     split
     .exact wpS_pure ⟨m,rfl,.inr ⟨_,_,_,_,_,rfl,F,by omega,O,by omega⟩⟩
     .exact wpS_pure ⟨m,_,_,_,_,_,rfl,rfl,F,by omega,O,by omega⟩
   .rw[aI lt]
    refine wpS_bind (w_el (im_get S) ?_);rw[im_pr];have F:=tl f (by omega) S λz M=>by have:=mt W t.1 ex z M;have:=ne x mx y my;omega
    split
    .rename_i q
     exact wpS_pure ⟨m,rfl,.inl ⟨_,rfl,fl F (beq_iff_eq.mp q)⟩⟩
    .rename_i q
     have q:l - 1≠1:=λe=>q (beq_iff_eq.mpr e)
     split
     .exact wpS_pure ⟨m,rfl,.inr ⟨_,_,_,_,_,rfl,F,t,by omega,by omega⟩⟩
     .exact wpS_pure ⟨m,_,_,_,_,_,rfl,rfl,F,t,by omega,by omega⟩
  .obtain⟨m,o,p,l,c,d,rfl,r⟩:=K
   exact⟨m,rfl,.inr ⟨_,_,_,_,_,r⟩⟩
  .obtain⟨m,rfl,⟨R,e,hq⟩|⟨o,u0,v0,c,d,rfl,f,t,O,hc0⟩⟩:=hb
   .obtain⟨b1,b2⟩:=b
    cases e;exact wpS_pure (wpS_pure hq)
   dsimp (zeta:=af) only
   extract_lets -underBinder r1 t1 u2 t2 v2 t3 o2 t4 c2 d2
   dsimp (zeta:=af) only[r1,t1,u2,t2,v2,t3,o2,t4,c2,d2]
   refine wpS_bind (wpS_lift (wpAny_rule ⟨rfl,?_⟩));refine wpS_bind (wpS_mono (wpS_forRange (I:=λi b C=>∃ m o p l G c d,C=St κ a pe m/\b=(ab,p,l,im g o.reverse,G,c,d)/\Fb φ (X++Y) o (X.take p++Y.take l)/\(0 < p/\p<=X.length)/\(1 < l/\l<=Y.length)/\p+l+i<=u0+v0)
    (Q:=λb C=>∃ m,C=St κ a pe m/\((∃ R,b.1=aa R/\Q R C)\/∃ o p l G c d,b=(ab,p,l,im g o.reverse,G,c,d)/\Fb φ (X++Y) o (X.take p++Y.take l)/\(0 < p/\p<=X.length)/\(1 < l/\l<=Y.length)/\p+l+1<=u0+v0)) (λi b C _ H K=>?_) (λb C K=>?_) ⟨m,o,u0,v0,_,_,_,rfl,rfl,f,t,O,aB _⟩) λb C hb=>?_)
   .obtain⟨m,o,p,l,G,c,d,rfl,rfl,f,t,O,hc⟩:=K
    refine w_post λP pd py=>?_
    dsimp (zeta:=af) only
    extract_lets -underBinder s1 u1 s2 v1 s3 o1 s4 G1 s5 c1 d1 jp
    refine w_ite (jp:=jp) λU=>?_
    dsimp (zeta:=af) only[jp]
    dsimp (zeta:=af) only[s1,u1,s2,v1,s3,o1,s4,G1,s5,c1,d1]
    refine wpS_bind (w_set ?_);obtain⟨y,S,ny,my⟩:=gY (show l - 1 < Y.length by omega)
    refine wpS_bind (w_el (im_get S) ?_);refine wpS_bind (gal Oo (L:=X.take p) (show p - 1 < p by omega) (by rw[aV];omega) (λi H=>by rw[cN,aq H,cI]) ny (W.take p) (λx hx=>⟨dX x (cH hx),ne x (cH hx) y my⟩) λk hk h1 h2=>?_)
    dsimp (zeta:=af) only
    rw[dC,cC hk]at h1
    extract_lets -underBinder k3 ac jp2 o5 u5
    have hj:∀ o B,Fb φ (X++Y) o (X.take B++Y.take l)->0 < B->B<=p->(∀ x∈X.take B,φ x < φ y)->wpS (bf prog w) A E s (jp2 () B (im g o.reverse)) P (St κ a pe U):=by
     intro o B f hu0 hle lt;dsimp (zeta:=af) only[jp2]
     extract_lets -underBinder v3
     dsimp (zeta:=af) only[v3]
     refine wpS_bind (w_el (im_get S) ?_)
     extract_lets -underBinder o3
     have eo:o3=im g (y :: o).reverse:=im_pr o y
     clear_value o3;subst eo
     have F:=tl f (by omega) S lt
     split
     .rename_i q
      exact wpS_pure (pd _ _ ⟨U,rfl,.inl ⟨_,rfl,fl F (beq_iff_eq.mp q)⟩⟩)
     rename_i q;have q:l - 1≠1:=λe=>q (beq_iff_eq.mpr e)
     obtain⟨x,ex,nx,mx⟩:=gX (show B - 1 < X.length by omega)
     refine wpS_bind (w_el (im_get ex) ?_);refine wpS_bind (gal Oo (L:=Y.take (l - 1)) (show l - 1 - 1 < l - 1 by omega) (by rw[aV];omega) (λi H=>by rw[cN,aq H,cI]) nx (V.take _) (λy N=>⟨dY y (cH N),(ne x mx y (cH N)).symm⟩) λT hk2 g1 g2=>?_)
     rw[dC,cC hk2]at g1;have hk0:0 < T:=by
      rcases Nat.eq_zero_or_pos T with rfl|q0
      .obtain⟨y0,ey0,ny0,my0⟩:=gY hY
       have m0:y0∈Y.take 1:=dI.mpr ⟨0,by rw[cN,aq Nat.one_pos];exact ey0⟩
       have a1:=p1 x mx y0 m0;have a2:=g2 y0 (dI.mpr ⟨0,by rw[dP,cN,aq (by omega)];exact ey0⟩)
       omega
      .exact q0
     dsimp (zeta:=af) only
     extract_lets -underBinder k4 bc jp3 o6 v6
     have hj3:∀ o J,Fb φ (X++Y) o (X.take B++Y.take J)->1 < J->J < l->(∀ z∈Y.take J,φ z < φ x)->wpS (bf prog w) A E s (jp3 () J (im g o.reverse)) P (St κ a pe U):=by
      intro o J f hv1 hlt lt;dsimp (zeta:=af) only[jp3]
      extract_lets -underBinder u3
      dsimp (zeta:=af) only[u3]
      refine wpS_bind (w_el (im_get ex) ?_)
      extract_lets -underBinder o3
      have eo:o3=im g (x :: o).reverse:=im_pr o x
      clear_value o3;subst eo
      have F:=tk f hu0 ex lt;split
      .rename_i q
       exact wpS_pure (pd _ _ ⟨U,rfl,.inl ⟨_,rfl,fd F (beq_iff_eq.mp q)⟩⟩)
      rename_i q;have q:B - 1≠0:=λe=>q (beq_iff_eq.mpr e)
      split
      .exact wpS_pure (pd _ _ ⟨U,rfl,.inr ⟨_,_,_,_,_,_,rfl,F,by omega,by omega,by omega⟩⟩)
      .exact wpS_pure (py _ _ ⟨U,_,_,_,_,_,_,rfl,rfl,F,by omega,by omega,by omega⟩)
     split
     .have eo:o6=im g ((Y.take (l - 1)).drop T++(y :: o)).reverse:=im_cr (y :: o) Y T (l - 1)
      clear_value o6;subst eo
      have Z:=F.b T (V.take _) λz M x' D=>eV (mt W hu0 ex x' D) (g2 z M)
      rw[dC,cC hk2]at Z;split
      .rename_i q
       exact wpS_pure (pd _ _ ⟨U,rfl,.inl ⟨_,rfl,fl Z (beq_iff_eq.mp q)⟩⟩)
      .rename_i q
       have q:T≠1:=λe=>q (beq_iff_eq.mpr e)
       rw[ar (λe=>by have:=beq_iff_eq.mp e;omega)]
       exact hj3 _ _ Z (by omega) (by omega) g1
     .rename_i q5
      have q5:¬(l - 1 - T > 0):=q5;obtain rfl:T=l - 1:=by omega
      exact hj3 _ _ F (by omega) (by omega) g1
    split
    .have eo:o5=im g ((X.take p).drop k++o).reverse:=im_cr o X k p
     clear_value o5;subst eo
     have Z:=f.a k (W.take _) λz M x' D=>eV (mt V (by omega) S x' D) (h2 z M)
     rw[dC,cC hk]at Z;split
     .rename_i q
      exact wpS_pure (pd _ _ ⟨U,rfl,.inl ⟨_,rfl,fd Z (beq_iff_eq.mp q)⟩⟩)
     .rename_i q
      have q:k≠0:=λe=>q (beq_iff_eq.mpr e)
      exact hj _ _ Z (by omega) (by omega) h1
    .rename_i q5
     have q5:¬(p - k > 0):=q5;obtain rfl:k=p:=by omega
     exact hj _ _ f t.1 (aB _) h1
   .obtain⟨m,o,p,l,G,c,d,rfl,e,f,h1,h2,h3⟩:=K
    rw[cM (aR _),hT]at h3;exact⟨m,rfl,.inr ⟨_,_,_,_,_,_,e,f,h1,h2,by omega⟩⟩
   .obtain⟨m,rfl,⟨R,e,hq⟩|⟨o,p,l,G,c,d,rfl,f,t,O,hc1⟩⟩:=hb
    .obtain⟨b1,b2⟩:=b
     cases e;exact wpS_pure (wpS_pure hq)
    .exact wpS_bind (w_set (wpS_pure ⟨_,_,_,_,_,rfl,rfl,f,t,O,by show _+(p+l)<=_;omega⟩))
 .obtain⟨m,o,u,v,G,rfl,rfl,f,t,O,hc⟩:=K
  rw[cM (aR _)]at hc;rw[hT]at hc;omega
end
section
def back{c:Nat}(l:Li Keyed):∀ (k:Nat) (b M V:Li Keyed) (arr:Array Keyed),arr.toList=b++(M++V)->b.length=c+k->M.length=l.length->((l.zipIdx k).foldl (λa (p,j)=>a.setIfInBounds (c+j) p) arr).toList=b++(l++V):=by
 induction l with
 |nil=>
  intro k b M V arr h _ d;rw[eW.mp d]at h;exact h
 |cons p l g=>
  intro k b M V arr h f d;obtain⟨m,M,rfl⟩:=List.exists_cons_of_length_eq_add_one d;rw[List.zipIdx_cons,List.foldl_cons];have e:(arr.setIfInBounds (c+k) p).toList=(b++[p])++(M++V):=by
   rw[Array.toList_setIfInBounds,h,<-f,List.cons_append,List.set_append_right _ _ (aB _),eX,List.set_cons_zero,aM];rfl
  rw[g (k+1) (b++[p]) M V _ e (by rw[aH,f];rfl) (Nat.succ.inj d),aM]
  rfl
def back_im{c:Nat}{R b M V:Li Nat}(hu:b.length=c)(d:M.length=R.length):(im g R).toList.zipIdx.foldl (λa (p,j)=>a.setIfInBounds (c+j) p) (im g (b++(M++V)))=im g (b++(R++V)):=by
 apply Array.toList_inj.mp
 have r:=back (c:=c) (R.map g) 0 (b.map g) (M.map g) (V.map g) (im g (b++(M++V))) (by simp[im]) (by rw[aD,hu];rfl) (by rw[aD,aD,d])
 simp only[im]at r ⊢;rw[r];simp
def mid(P X Z:Li Nat)(a:i < X.length):(P++(X++Z))[P.length+i]?=X[i]?:=by
 rw[bD (cT _ _),cU,bP a]
def mid_ext(P X Z:Li Nat)(a:j<=X.length):((P++(X++Z)).take (P.length+j)).drop (P.length+i)=(X.take j).drop i:=by
 rw[List.take_append,cU,fP (cT _ _),List.drop_append,cU,eY (cT _ _),eE,List.take_append_of_le_length a]
variable (Oo:Or prog w A s κ g φ n) {a:Array Keyed}{pe:Array (Nat×Nat×Nat)}{mg:Nat}
include Oo
def mergeAt_ok{P X Y S:Li Nat}{K J:Nat}{Q:Bool->SortSt->Prop}(e1:pe[i]?=aa (P.length,X.length,K))(e2:pe[i+1]?=aa (P.length+X.length,Y.length,J))(hX:0 < X.length)(hY:0 < Y.length)(t:Srt φ X)(o:Srt φ Y)(W:∀ x∈X,x < n)(V:∀ y∈Y,y < n)(ne:∀ x∈X,∀ y∈Y,φ x≠φ y)(h:∀ R m,Srt φ R->R.Perm (X++Y)->Q ae (St κ (im g (P++(R++S))) ((pe.setIfInBounds i (P.length,X.length+Y.length,K)).eraseIdxIfInBounds (i+1)) m)) :
  wpS (bf prog w) A E s (mergeAt' i) Q (St κ (im g (P++(X++(Y++S)))) pe mg):=by
 refine wpS_bind (wpS_get ?_);show wpS _ _ _ _ (match (pe[i]?,pe[i+1]?) with | (aa (sa,na,M),aa (sb,nb,_))=>_|_=>_) _ _
 rw[e1,e2];refine wpS_bind (wpS_set ?_);obtain⟨u,d⟩:∃ y,Y[0]?=aa y:=⟨_,Lg hY⟩;have C:=aW d;have H:=V u C;have U:P++(X++(Y++S))=(P++X)++(Y++S):=by rw[aM]
 have N:(P++X).length=P.length+X.length:=aH;have a0:(P++(X++(Y++S)))[P.length+X.length]?=aa u:=by
  rw[U,<-N,<-d];exact mid (P++X) Y S (i:=0) hY
 refine wpS_bind (w_el (im_get a0) ?_);refine wpS_bind (gal Oo (L:=X) hX rfl (λi T=>mid P X _ T) H t (λx hx=>⟨W x hx,ne x hx u C⟩) λk hk F h2=>?_)
 show wpS _ _ _ _ (if (X.length - k==0)=ae then _ else _) _ _
 have c:∀ y∈Y,φ u<=φ y:=λy hy=>by have:=mn o d y (by rw[cQ];exact hy);exact this
 split
 .rename_i q
  have q:X.length - k=0:=beq_iff_eq.mp q;obtain rfl:k=X.length:=by omega
  rw[cP]at F;have r:=h (X++Y) mg (t.mk o λx hx y hy=>eG (F x hx) (c y hy)) (List.Perm.refl _)
  rw[aM]at r;exact wpS_pure r
 rename_i q;have q:k < X.length:=by
  have:X.length - k≠0:=λe=>q (beq_iff_eq.mpr e)
  omega
 obtain⟨z,f⟩:∃ x,X[X.length - 1]?=aa x:=⟨_,Lg (by omega)⟩
 have D:=aW f;have a1:(P++(X++(Y++S)))[P.length+k+(X.length - k) - 1]?=aa z:=by
  rw[show P.length+k+(X.length - k) - 1=P.length+(X.length - 1) by omega,mid P X _ (by omega),f]
 refine wpS_bind (w_el (im_get a1) ?_);refine wpS_bind (gal Oo (L:=Y) (show Y.length - 1 < Y.length by omega) rfl (λi T=>by rw[U,<-N];exact mid (P++X) Y S T) (W z D) o (λy hy=>⟨V y hy,(ne z D y hy).symm⟩) λb O g1 g2=>?_)
 show wpS _ _ _ _ (if (b==0)=ae then _ else _) _ _
 have v:∀ x∈X,φ x<=φ z:=λx hx=>mt t hX f x (by rw[cP];exact hx)
 split
 .rename_i q
  obtain rfl:b=0:=beq_iff_eq.mp q;have r:=h (X++Y) mg (t.mk o λx hx y hy=>eV (v x hx) (g2 y hy)) (List.Perm.refl _)
  rw[aM]at r;exact wpS_pure r
 rename_i I;have I:0 < b:=by
  have:b≠0:=λe=>I (beq_iff_eq.mpr e)
  omega
 have ex:(im g (P++(X++(Y++S)))).extract (P.length+k) (P.length+X.length)=im g (X.drop k):=by
  rw[im_ext,mid_ext P X _ (aB _),cP]
 have ey:(im g (P++(X++(Y++S)))).extract (P.length+X.length) (P.length+X.length+b)=im g (Y.take b):=by
  rw[im_ext,U,<-N];have:=mid_ext (P++X) Y S (i:=0) O;rw[Nat.add_zero,cQ]at this;rw[this]
 have G:∀ R m,Srt φ R->R.Perm (X.drop k++Y.take b)->wpS (bf prog w) A E s (do
   modify λs=>setArr s ((im g R).toList.zipIdx.foldl (λa (p,j)=>a.setIfInBounds (P.length+k+j) p) (arrOf s))
   return (failedOf (<-get)).isNone) Q (St κ (im g (P++(X++(Y++S)))) ((pe.setIfInBounds i (P.length,X.length+Y.length,K)).eraseIdxIfInBounds (i+1)) m):=λR m B l=>by
  refine wpS_bind (wpS_modify (wpS_bind (wpS_get (wpS_pure ?_))));show Q ae (St κ ((im g R).toList.zipIdx.foldl (λa (p,j)=>a.setIfInBounds (P.length+k+j) p) (im g (P++(X++(Y++S))))) _ m)
  have e0:P++(X++(Y++S))=(P++X.take k)++((X.drop k++Y.take b)++(Y.drop b++S)):=by
   simp only[aM];rw[<-aM (X.take k),bB,<-aM (Y.take b),bB]
  rw[e0,back_im (by rw[aH,aV];omega) l.length_eq.symm]
  have r:=h (X.take k++(R++Y.drop b)) m ?_ ?_
  .have e3:P++(X.take k++(R++Y.drop b)++S)=P++X.take k++(R++(Y.drop b++S)):=by simp only[aM]
   rw[e3]at r;exact r
  .refine(t.take k).mk (B.mk (o.drop b) λx hx y hy=>?_) λx hx y hy=>?_
   .rcases aY.mp (l.mem_iff.mp hx) with hx|hx
    .exact eV (v x (cG hx)) (g2 y hy)
    .exact Int.lt_trans (g1 x hx) (g2 y hy)
   .rcases aY.mp hy with hy|hy
    .rcases aY.mp (l.mem_iff.mp hy) with hy|hy
     .exact Int.lt_trans (F x hx) (h2 y hy)
     .exact eG (F x hx) (c y (cH hy))
    .exact eG (F x hx) (c y (cG hy))
  .have p:=(l.append_right (Y.drop b)).append_left (X.take k)
   rw[aM (X.drop k),bB,<-aM (X.take k) (X.drop k),bB]at p;exact p
 have p1:∀ x∈X.drop k,∀ y∈(Y.take b).take 1,φ y < φ x:=λx hx y hy=>by
  rw[dC,cC I]at hy;have:Y.take 1=[u]:=take_one (i:=0) d;rw[this]at hy;obtain rfl:=aP.mp hy;exact h2 x hx
 have Z:∀ x∈(X.drop k).drop ((X.drop k).length - 1),∀ y∈Y.take b,φ y < φ x:=λx hx y hy=>by
  rw[dQ,cB,show k+(X.length - k - 1)=X.length - 1 by omega]at hx
  have:X.drop (X.length - 1)=[z]:=by
   have:=take_one f
   rwa [fP (by rw[cB];omega)]at this
  rw[this]at hx;obtain rfl:=aP.mp hx;exact g1 y hy
 have l1:0 < (X.drop k).length:=by rw[cB];omega
 have l2:0 < (Y.take b).length:=by rw[aV];omega
 have d1:∀ x∈X.drop k,x < n:=λx hx=>W x (cG hx)
 have d2:∀ x∈Y.take b,x < n:=λx hx=>V x (cH hx)
 have n1:∀ x∈X.drop k,∀ y∈Y.take b,φ x≠φ y:=λx hx y hy=>ne x (cG hx) y (cH hy)
 show wpS _ _ _ _ (if X.length - k<=b then mergeLo' ((im g (P++(X++(Y++S)))).extract (P.length+k) (P.length+X.length)) ((im g (P++(X++(Y++S)))).extract (P.length+X.length) (P.length+X.length+b)) >>= _ else _) _ _
 split
 .rw[ex,ey]
  exact wpS_bind (mergeLo_ok Oo l1 l2 (t.drop k) (o.take b) d1 d2 n1 p1 Z λR m B l=>G R m B l)
 .show wpS _ _ _ _ (mergeHi' ((im g (P++(X++(Y++S)))).extract (P.length+k) (P.length+X.length)) ((im g (P++(X++(Y++S)))).extract (P.length+X.length) (P.length+X.length+b)) >>= _) _ _
  rw[ex,ey];exact wpS_bind (mergeHi_ok Oo l1 l2 (t.drop k) (o.take b) d1 d2 n1 p1 Z λR m B l=>G R m B l)
end
section
structure Ok(φ:Nat->Int)(n:Nat)(T:List Nat):Prop where
 d:T.Pairwise λi j=>φ i≠φ j
 b:∀ x∈T,x < n
def Ok.perm{T a:Li Nat}(h:Ok φ n T)(p:a.Perm T):Ok φ n a:=⟨(p.pairwise_iff λh=>Ne.symm h).mpr h.d,λx c=>h.b x (p.mem_iff.mp c)⟩
def Ok.ne{T:Li Nat}(h:Ok φ n T){i j x y:Nat}(e:T[i]?=aa x)(c:T[j]?=aa y)(ne:i≠j):φ x≠φ y:=by
 obtain⟨b,rfl⟩:=bG.mp e;obtain⟨a,rfl⟩:=bG.mp c;rcases Nat.lt_or_gt_of_ne ne with q|q
 .exact fO.mp h.d i j b a q
 .exact(fO.mp h.d j i a b q).symm
def take_succ{T:Li Nat}(e:T[m]?=aa x):T.take (m+1)=T.take m++[x]:=by rw[List.take_succ,e];rfl
def Srt.snoc{T:Li Nat}(h:Srt φ (T.take m))(c:0 < m)(e:T[m - 1]?=aa x)(d:T[m]?=aa y)(lt:φ x < φ y):Srt φ (T.take (m+1)):=by
 rw[take_succ d];refine h.mk (fQ _ _) λz a f b=>?_
 obtain rfl:=aP.mp b;have:=mt h c (by rw[cN,aq (by omega)];exact e) z (by rw[dC,Nat.min_self];exact a)
 omega
def Dsc.snoc{T:Li Nat}(h:Srt φ (T.take m).reverse)(g:0 < m)(e:T[m - 1]?=aa x)(f:T[m]?=aa y)(lt:φ y < φ x):Srt φ (T.take (m+1)).reverse:=by
 rw[take_succ f,List.reverse_append];refine Srt.mk (l:=[y].reverse) (fQ _ _) h λz b a c=>?_
 obtain rfl:z=y:=aP.mp b;have d:(T.take m).reverse[0]?=aa x:=by
  have i:m - 1 < T.length:=(bG.mp e).1;rw[List.getElem?_reverse (by rw[aV];omega),aV,cN,aq (by omega),<-e]
  congr 1;omega
 have:=mn h d a (by rw[cQ];exact c)
 omega
def imq(l:Li Nat)(k:Nat):(im g l)[k]?=(l[k]?).map g:=by simp[im]
def mirror_im(a M V:Li Nat):mirror (im g (a++(M++V))) a.length (a.length+M.length) ((a.length+M.length - a.length) / 2)=im g (a++(M.reverse++V)):=by
 apply Array.ext_getElem?
 intro k;rw[getElem?_mirror_all (by rw[im_size];simp only[aH];omega),imq,imq,imq]
 split
 .rename_i q
  obtain⟨j,rfl⟩:∃ j,k=a.length+j:=⟨k - a.length,by omega⟩
  rw[mid a M.reverse V (by rw[cV];omega),show a.length+(a.length+M.length) - 1 - (a.length+j)=a.length+(M.length - 1 - j) by omega,mid a M V (by omega),List.getElem?_reverse (by omega)]
 .rename_i q
  by_cases h:k < a.length
  .rw[bP h,bP h]
  .rw[bD (by omega),bD (by omega),bD (by omega),bD (by rw[cV];omega),cV]
def bubble_im(a M V:Li Nat)(x:Nat):bubble (im g (a++(M++x :: V))) (a.length+M.length) M.length=im g (a++(x :: (M++V))):=by
 apply Array.ext_getElem?
 intro k;rw[getElem?_bubble (by rw[im_size];simp only[aH,aX];omega) _ (Nat.le_add_left _ _),imq,imq,imq,imq,eU]
 split
 .rename_i q
  subst q;rw[bD (cT _ _),cU,bD (aB _),bD (aB _),eX,eX];rfl
 .split
  .obtain⟨j,rfl⟩:∃ j,k=a.length+(j+1):=⟨k - a.length - 1,by omega⟩
   rw[show a.length+(j+1) - 1=a.length+j by omega,mid a M _ (by omega),bD (cT _ _),cU,gA,bP (by omega)]
  .by_cases h:k < a.length
   .rw[bP h,bP h]
   .obtain⟨j,rfl⟩:∃ j,k=a.length+(M.length+(j+1)):=⟨k - a.length - M.length - 1,by omega⟩
    rw[bD (cT _ _),bD (cT _ _),cU,bD (cT _ _),cU,gA,<-Nat.add_assoc,gA,bD (cT _ _),cU]
variable (Oo:Or prog w A s κ g φ n) {a:Array Keyed}{pe:Array (Nat×Nat×Nat)}{mg:Nat}
def rev_ok{P T:Li Nat}{Q:Unit->SortSt->Prop}(a:m<=T.length)(h:Q () (St κ (im g (P++((T.take m).reverse++T.drop m))) pe mg)):wpS M A E s (reverseSlice' P.length (P.length+m)) Q (St κ (im g (P++T)) pe mg):=by
 rw[reverseSlice'_eq];refine wpS_modify ?_;show Q () (St κ (mirror (im g (P++T)) P.length (P.length+m) ((P.length+m - P.length) / 2)) pe mg);have e:=mirror_im (g:=g) P (T.take m) (T.drop m);rw[bB,aV,cC a]at e;rw[e];exact h
include Oo
def asc_ok{P T:Li Nat}{Q:Ot (Ot Nat)×Nat->SortSt->Prop}(J:1<=m)(D:m<=T.length)(l:Ok φ n T)(B:Srt φ (T.take m))(h:∀ d,1<=d->m<=d->d<=T.length->Srt φ (T.take d)->(d < T.length->∀ x y,T[d]?=aa x->T[d - 1]?=aa y->φ x < φ y)->Q (ab,d) (St κ (im g (P++T)) pe mg)) :
  wpS (bf prog w) A E s (forIn [m:T.length] ((ab,m):Ot (Ot Nat)×Nat) λ_ c=>do
   let x <-ltAt' (P.length+c.snd) (P.length+c.snd - 1)
   match x with
   |some a=>if a=ae then pure (.done (ab,c.snd)) else pure (.yield (ab,c.snd+1))
   |_=>pure (.done (aa ab,c.snd))) Q (St κ (im g (P++T)) pe mg):=by
 refine wpS_forRange (I:=λi b j=>j=St κ (im g (P++T)) pe mg/\∃ k,b=(ab,k)/\i=k/\m<=k/\k<=T.length/\Srt φ (T.take k)) (λi b j _ F o=>?_) (λb j o=>?_) ⟨rfl,m,rfl,rfl,aB _,D,B⟩
 .obtain⟨rfl,k,rfl,G,r,p,e⟩:=o
  by_cases q:k < T.length
  .have ex:=Lg q
   have f:=Lg (show k - 1 < T.length by omega)
   have z:=mid P T [] q;have v:=mid P T [] (show k - 1 < T.length by omega)
   rw[bF,ex]at z;rw[bF,f]at v;have nx:=l.b _ (bC q);have C:=l.b _ (bC (show k - 1 < T.length by omega))
   have ne:=l.ne ex f (by omega)
   refine wpS_bind (w_ltAt Oo z (by show(P++T)[P.length+k - 1]?=_;rw[show P.length+k - 1=P.length+(k - 1) by omega];exact v) nx C ?_)
   by_cases lt:φ T[k] < φ T[k - 1]
   .rw[aG lt]
    exact wpS_pure (h k (by omega) r p e λ_ x y u t=>by rw[ex]at u;rw[f]at t;cases u;cases t;exact lt)
   .rw[aI lt]
    exact wpS_pure ⟨rfl,k+1,rfl,by omega,by omega,q,e.snoc (by omega) f ex (by omega)⟩
  .have H:i < T.length:=F
   omega
 .obtain⟨rfl,k,rfl,G,r,p,e⟩:=o
  exact h k (by omega) r p e λq=>by omega
def count_ok{P T:Li Nat}{Q:Ot Nat->SortSt->Prop}(t:0 < T.length)(o:Ok φ n T)(h:∀ R S,0 < R.length->Srt φ R->(R++S).Perm T->Q (aa R.length) (St κ (im g (P++(R++S))) pe mg)) :
  wpS (bf prog w) A E s (countRun' P.length T.length) Q (St κ (im g (P++T)) pe mg):=by
 have s1:Srt φ (T.take 1):=by
  match T,t with
  |x :: T,_=>exact fQ _ _
 refine wpS_bind (wpS_mono (asc_ok Oo (Q:=λb a=>a=St κ (im g (P++T)) pe mg/\∃ m,b=(ab,m)/\1<=m/\m<=T.length/\Srt φ (T.take m)/\(m < T.length->∀ x y,T[m]?=aa x->T[m - 1]?=aa y->φ x < φ y)) (aB 1) t o s1 λm D _ f d c=>⟨rfl,m,rfl,D,f,d,c⟩) λb a B=>?_)
 obtain⟨rfl,m,rfl,D,f,d,c⟩:=B;have C:Q (aa m) (St κ (im g (P++T)) pe mg):=by
  have r:=h (T.take m) (T.drop m) (by rw[aV];omega) d (List.Perm.of_eq (bB m T))
  rw[bB,aV,cC f]at r;exact r
 dsimp (zeta:=af) only
 extract_lets -underBinder r1 m1
 dsimp (zeta:=af) only[r1,m1]
 split
 .exact wpS_pure C
 rename_i q;have q:m≠T.length:=λe=>q (beq_iff_eq.mpr e)
 extract_lets -underBinder jp
 split
 .rename_i z
  have z:m > 1:=z;have ex:=Lg t;have j:=Lg (show m - 1 < T.length by omega)
  have v:=mid P T [] t;have u:=mid P T [] (show m - 1 < T.length by omega)
  rw[bF,ex,Nat.add_zero]at v;rw[bF,j]at u;refine wpS_bind (w_ltAt Oo v (by show(P++T)[P.length+m - 1]?=_;rw[show P.length+m - 1=P.length+(m - 1) by omega];exact u) (o.b _ (bC _)) (o.b _ (bC _)) ?_)
  have lt:φ T[0] < φ T[m - 1]:=by
   have:=fO.mp d 0 (m - 1) (by rw[aV];omega) (by rw[aV];omega) (by omega)
   rw[List.getElem_take,List.getElem_take]at this;exact this
  rw[aG lt];exact wpS_pure C
 .rename_i z
  have z:¬m > 1:=z;obtain rfl:m=1:=by omega
  dsimp (zeta:=af) only[jp]
  refine wpS_bind (wpS_lift (wpAny_rule ⟨rfl,?_⟩));have ex:=Lg t;have j:=Lg (show 1 < T.length by omega)
  have N:Srt φ (T.take 2).reverse:=Dsc.snoc (m:=1) (by
   match T,t with
   |x :: T,_=>exact fQ _ _) Nat.one_pos ex j (c (by omega) _ _ j ex)
  refine wpS_bind (wpS_mono (wpS_forRange (I:=λi b a=>a=St κ (im g (P++T)) pe mg/\∃ k,b=(ab,k,0)/\i=k/\2<=k/\k<=T.length/\Srt φ (T.take k).reverse)
   (Q:=λb a=>a=St κ (im g (P++T)) pe mg/\∃ k,b=(ab,k,0)/\2<=k/\k<=T.length/\Srt φ (T.take k).reverse) (λi b a _ K H=>?_) (λb a H=>?_) ⟨rfl,2,rfl,rfl,aB _,by omega,N⟩) λb a B=>?_)
  .obtain⟨rfl,k,rfl,D,f,d,c⟩:=H
   have K:i < T.length:=K;by_cases q:k < T.length
   .have ex:=Lg q
    have j:=Lg (show k - 1 < T.length by omega)
    have v:=mid P T [] q;have u:=mid P T [] (show k - 1 < T.length by omega)
    rw[bF,ex]at v;rw[bF,j,show P.length+(k - 1)=P.length+k - 1 by omega]at u
    have nx:=o.b _ (bC q);have J:=o.b _ (bC (show k - 1 < T.length by omega))
    have ne:=o.ne ex j (by omega)
    refine wpS_bind (w_ltAt Oo v u nx J ?_);by_cases lt:φ T[k] < φ T[k - 1]
    .rw[aG lt]
     exact wpS_pure ⟨rfl,k+1,rfl,by omega,by omega,q,Dsc.snoc c (by omega) j ex lt⟩
    .rw[aI lt]
     refine wpS_bind (w_ltAt Oo u v J nx ?_);rw[aG (show φ T[k - 1] < φ T[k] by omega)]
     exact wpS_pure ⟨rfl,k,rfl,f,d,c⟩
   .omega
  .obtain⟨rfl,k,rfl,D,f,d,c⟩:=H
   exact⟨rfl,k,rfl,f,d,c⟩
  .obtain⟨rfl,k,rfl,f,d,c⟩:=B
   refine wpS_bind (rev_ok d ?_);have p:((T.take k).reverse++T.drop k).Perm T:=((List.reverse_perm _).append_right _).trans (List.Perm.of_eq (bB k T));have l:((T.take k).reverse++T.drop k).length=T.length:=p.length_eq;have lk:(T.take k).reverse.length=k:=by rw[cV,aV];omega
   have L:=asc_ok Oo (P:=P) (T:=(T.take k).reverse++T.drop k) (m:=k) (pe:=pe) (mg:=mg) (E:=E) (Q:=λb a=>∃ G,b=(ab,G)/\Q (aa G) a) (by omega) (by omega) (o.perm p) (by rw[List.take_append_of_le_length (by omega),fP (by omega)];exact c) λF W V U O _=>⟨F,rfl,by
    have r:=h (((T.take k).reverse++T.drop k).take F) (((T.take k).reverse++T.drop k).drop F) (by rw[aV];omega) O (by rw[bB];exact p)
    rw[bB,aV,cC U]at r;exact r⟩
   rw[l]at L;refine wpS_bind (wpS_mono L λb a B=>?_)
   obtain⟨G,rfl,M⟩:=B;exact wpS_pure M
end
section
variable (Oo:Or prog w A s κ g φ n) {a:Array Keyed}{pe:Array (Nat×Nat×Nat)}{mg:Nat}
include Oo
def bin_ok{P T:Li Nat}{N ok:Nat}{Q:Bool->SortSt->Prop}(O:1<=ok)(hok:ok<=N)(hN:N<=T.length)(oT:Ok φ n T)(Y:Srt φ (T.take ok))(h:∀ R S,R.length=N->Srt φ R->(R++S).Perm T->Q ae (St κ (im g (P++(R++S))) pe mg)) :
  wpS (bf prog w) A E s (binarySort' P.length N ok) Q (St κ (im g (P++T)) pe mg):=by
 refine wpS_bind (wpS_mono (wpS_forRange (I:=λk b d=>∃ a,b=(ab,())/\d=St κ (im g (P++a)) pe mg/\a.Perm T/\Srt φ (a.take k)) (Q:=λb d=>∃ a,b=(ab,())/\d=St κ (im g (P++a)) pe mg/\a.Perm T/\Srt φ (a.take N))
  (λk b d hk hkN t=>?_) (λb d t=>?_) ⟨T,rfl,rfl,List.Perm.refl _,by rw[Nat.max_eq_left O];exact Y⟩) λb d G=>?_)
 .obtain⟨a,rfl,rfl,p,f⟩:=t
  have j:=oT.perm p;have hl:=p.length_eq;have B:k < a.length:=by omega
  obtain⟨x,ex⟩:∃ x,a[k]?=aa x:=⟨_,Lg B⟩;have nx:=j.b x (aW ex);have X:=mid P a [] B;rw[bF,ex]at X;obtain⟨c,hc,o⟩:=cut (v:=φ x) f;have m:c<=k:=by rw[aV]at hc;omega
  refine wpS_bind (wpS_mono (wpS_forRange (I:=λi b d=>d=St κ (im g (P++a)) pe mg/\∃ l r,b=(ab,l,r)/\l<=c/\c<=r/\r<=k/\r - l+i<=k) (Q:=λb d=>d=St κ (im g (P++a)) pe mg/\b=(ab,c,c))
   (λi b d _ F t=>?_) (λb d t=>?_) ⟨rfl,0,k,rfl,aR _,m,aB _,aB _⟩) λb d G=>?_)
  .obtain⟨rfl,l,r,rfl,C,M,L,K⟩:=t
   by_cases q:l>=r
   .obtain⟨rfl,rfl⟩:l=c/\r=c:=by omega
    show wpS _ _ _ _ (if r>=r then _ else _) _ _
    rw[aq (aB r)];exact wpS_pure ⟨rfl,rfl⟩
   .show wpS _ _ _ _ (if l>=r then _ else _) _ _
    rw[ar q];have hm:(l+r) / 2 < k:=by omega
    obtain⟨y,D⟩:∃ y,a[(l+r) / 2]?=aa y:=⟨_,Lg (by omega)⟩
    have W:=mid P a [] (show(l+r) / 2 < a.length by omega)
    rw[bF,D]at W;have V:=o ((l+r) / 2) y (by rw[cN,aq hm,D])
    have ne:=j.ne ex D (by omega)
    refine wpS_bind (w_ltAt Oo X W nx (j.b y (aW D)) ?_);by_cases lt:φ x < φ y
    .rw[aG lt]
     have:¬(l+r) / 2 < c:=λz=>by have:=V.mpr z;omega
     exact wpS_pure ⟨rfl,_,_,rfl,C,show c<=(l+r) / 2 by omega,show(l+r) / 2<=k by omega,show(l+r) / 2 - l+(i+1)<=k by omega⟩
    .rw[aI lt]
     have:(l+r) / 2 < c:=V.mp (by omega)
     exact wpS_pure ⟨rfl,_,_,rfl,show(l+r) / 2+1<=c by omega,M,L,show r - ((l+r) / 2+1)+(i+1)<=k by omega⟩
  .obtain⟨rfl,l,r,rfl,C,M,L,K⟩:=t
   rw[cM (aR _)]at K;obtain⟨rfl,rfl⟩:l=c/\r=c:=by omega
   exact⟨rfl,rfl⟩
  .obtain⟨rfl,rfl⟩:=G
   have U:P++a=(P++a.take c)++((a.take k).drop c++x :: a.drop (k+1)):=by
    have hd:a.drop k=x :: a.drop (k+1):=by
     obtain⟨h,rfl⟩:=bG.mp ex;exact bU h
    have C:a.take c=(a.take k).take c:=by rw[dC,cC m]
    rw[aM,<-hd,C,<-aM ((a.take k).take c),bB,bB]
   have J:(a.take c).length=c:=by rw[aV];omega
   have H:((a.take k).drop c).length=k - c:=by rw[cB,aV];omega
   have bm:∀ {Q:Unit->SortSt->Prop},Q () (St κ (im g (P++(a.take c++(x :: ((a.take k).drop c++a.drop (k+1)))))) pe mg)->wpS (bf prog w) A E s (moveDown' (P.length+k) (P.length+c)) Q (St κ (im g (P++a)) pe mg):=λ{Q} hq=>by
    rw[moveDown'_eq];refine wpS_modify ?_;show Q () (St κ (bubble (im g (P++a)) (P.length+k) (P.length+k - (P.length+c))) pe mg);have e:=bubble_im (g:=g) (P++a.take c) ((a.take k).drop c) (a.drop (k+1)) x;rw[aH,J,H,show P.length+c+(k - c)=P.length+k by omega,<-U]at e
    rw[show P.length+k - (P.length+c)=k - c by omega,e,aM]
    exact hq
   refine wpS_bind (bm (wpS_pure ⟨_,rfl,rfl,?_,?_⟩))
   .have q:(a.take c++(x :: ((a.take k).drop c++a.drop (k+1)))).Perm (a.take c++((a.take k).drop c++x :: a.drop (k+1))):=(List.perm_middle.symm).append_left _
    have e1:a.take c++((a.take k).drop c++x :: a.drop (k+1))=a:=List.append_cancel_left (as:=P) (by rw[<-aM];exact U.symm)
    rw[e1]at q;exact q.trans p
   .have e2:(a.take c++(x :: ((a.take k).drop c++a.drop (k+1)))).take (k+1)=a.take c++x :: (a.take k).drop c:=by
     rw[show a.take c++(x :: ((a.take k).drop c++a.drop (k+1)))=(a.take c++x :: (a.take k).drop c)++a.drop (k+1) by simp only[aM,List.cons_append]]
     have:(a.take c++x :: (a.take k).drop c).length=k+1:=by rw[aH,aX,J,H];omega
     rw[<-this,List.take_left]
    rw[e2];have d:=f;rw[<-bB c (a.take k),dC,cC m]at d;obtain⟨s1,s2,Z⟩:=d.app;have l1:∀ z∈a.take c,φ z < φ x:=λz u=>by
     obtain⟨i,F,e⟩:=mem_take u;exact(o i z (by rw[cN,aq (by omega),e])).mpr F
    have l2:∀ z∈(a.take k).drop c,φ x < φ z:=λz u=>by
     obtain⟨i,F,e⟩:=mem_drop u;have c1:=o i z e;rw[cN]at e;split at e
     .have:=j.ne e ex (by omega)
      have:¬φ z < φ x:=λq=>by have:=c1.mp q;omega
      omega
     .exact nomatch e
    refine s1.mk (eS.mpr ⟨l2,s2⟩) λz u y hy=>?_
    rcases aL.mp hy with rfl|hy
    .exact l1 z u
    .exact Z z u y hy
 .obtain⟨a,rfl,rfl,p,f⟩:=t
  rw[Nat.max_eq_left O,cM hok]at f;exact⟨a,rfl,rfl,p,f⟩
 .obtain⟨a,rfl,rfl,p,f⟩:=G
  have r:=h (a.take N) (a.drop N) (by rw[aV,p.length_eq];omega) f (by rw[bB];exact p)
  rw[bB]at r;exact wpS_pure r
end
variable{rs:Li (Li Nat)}
section
noncomputable abbrev Pt:Type:=Nat×Nat×Nat
def Pn:Nat->Li (Li Nat)->Li Pt->Prop
 |_,[],[]=>True
 |i,r :: rs,p :: a=>p.1=i/\p.2.1=r.length/\Pn (i+r.length) rs a
 |_,_,_=>False
theorem Pn.len:∀ {i:Nat}{rs:Li (Li Nat)}{ps:Li Pt},Pn i rs ps->rs.length=ps.length
 |_,[],[],_=>rfl
 |_,_ :: _,_ :: _,h=>av (·+1) h.2.2.len
theorem Pn.push:∀ {i:Nat}{rs:Li (Li Nat)}{ps:Li Pt} (r:Li Nat) (q:Nat),Pn i rs ps->Pn i (rs++[r]) (ps++[(i+rs.flatten.length,r.length,q)])
 |_,[],[],_,_,_=>⟨rfl,rfl,trivial⟩
 |i,a :: rs,_ :: _,r,q,h=>⟨h.1,h.2.1,by
  have:=h.2.2.push r q;rw[Nat.add_assoc,<-aH]at this;exact this⟩
theorem Pn.mod{f:Pt->Pt}(a:∀ p,(f p).1=p.1/\(f p).2.1=p.2.1):∀ {i:Nat}{rs:Li (Li Nat)}{ps:Li Pt} (k:Nat),Pn i rs ps->Pn i rs (ps.modify k f)
 |_,[],[],0,h=>h
 |_,[],[],_+1,h=>h
 |_,_ :: _,p :: _,0,h=>⟨(a p).1.trans h.1,(a p).2.trans h.2.1,h.2.2⟩
 |_,_ :: _,_ :: _,k+1,h=>⟨h.1,h.2.1,h.2.2.mod a k⟩
theorem Pn.two:∀ {i:Nat}{rs:Li (Li Nat)}{c:Li Pt} (k:Nat),Pn i rs c->k+1 < rs.length->∃ B X Y D b a,rs=B++X :: Y :: D/\c[k]?=aa (i+B.flatten.length,X.length,b)/\c[k+1]?=aa (i+B.flatten.length+X.length,Y.length,a) /\
  ∀ R:Li Nat,R.length=X.length+Y.length->Pn i (B++R :: D) ((c.set k (i+B.flatten.length,X.length+Y.length,b)).eraseIdx (k+1))
 |i,X :: Y :: D,(_,_,b) :: (_,_,a) :: c,0,⟨n,m,f,l,j⟩,_=>by
  cases n;cases m;cases f;cases l
  exact⟨[],X,Y,D,b,a,rfl,rfl,rfl,λR d=>⟨rfl,d.symm,by rw[d,<-Nat.add_assoc];exact j⟩⟩
 |i,r :: rs,p :: c,k+1,h,g=>by
  obtain⟨B,X,Y,D,b,a,rfl,q,o,f⟩:=h.2.2.two k (Nat.lt_of_succ_lt_succ g);have e:i+(r :: B).flatten.length=i+r.length+B.flatten.length:=by rw[dB,aH,Nat.add_assoc]
  refine⟨r :: B,X,Y,D,b,a,rfl,by rw[e];exact q,by rw[e];exact o,λR d=>?_⟩
  rw[e];exact⟨h.1,h.2.1,f R d⟩
structure Sr(φ:Nat->Int)(T0:List Nat)(lo:Nat)(rs:List (List Nat))(T:List Nat)(pe:Array Pt):Prop where
 pn:Pn 0 rs pe.toList
 ok:∀ r∈rs,Srt φ r/\0 < r.length
 lo:rs.flatten.length=lo
 pm:(rs.flatten++T).Perm T0
def Sr.sz{b T:Li Nat}{lo:Nat}{a:Array Pt}(h:Sr φ b lo rs T a):a.size=rs.length:=h.pn.len.symm
variable (Oo:Or prog w A s κ g φ n) {pe:Array Pt}{mg:Nat}{T0:Li Nat} (o0:Ok φ n T0)
include Oo o0
def mrg_ok{lo:Nat}{T:Li Nat}{Q:Bool->SortSt->Prop}(h:Sr φ T0 lo rs T pe)(H:i+1 < rs.length)(G:∀ a c m,Sr φ T0 lo a T c->a.length+1=rs.length->Q ae (St κ (im g (a.flatten++T)) c m)):wpS (bf prog w) A E s (mergeAt' i) Q (St κ (im g (rs.flatten++T)) pe mg):=by
 obtain⟨B,X,Y,D,L,z,rfl,t,p,I⟩:=h.pn.two i H;have n:=h.ok X (bN _ Ls);have l:=h.ok Y (bN _ (Lm _ Ls));have o:∀ R:Li Nat,(B++R :: D).flatten++T=B.flatten++(R++(D.flatten++T)):=λR=>by simp
 have u:(B++X :: Y :: D).flatten++T=B.flatten++(X++(Y++(D.flatten++T))):=by simp
 have f:=h.pm;rw[u]at f;have j:=o0.perm f;obtain⟨_,K,_⟩:=eR.mp j.d;obtain⟨_,_,J⟩:=eR.mp K;rw[cI]at t p;rw[u];refine mergeAt_ok Oo (by rw[<-t,eD]) (by rw[<-p,eD]) n.2 l.2 n.1 l.1 (λx e=>j.b x (by simp[e])) (λx e=>j.b x (by simp[e])) (λx e y F=>J x e y (dF _ F)) λR m v k=>?_
 have C:R.length=X.length+Y.length:=by rw[k.length_eq,aH]
 rw[<-o R];refine G (B++R :: D) _ m ⟨?_,λr hr=>?_,?_,?_⟩ (by simp only[aH,aX];omega)
 .have r:=I R C
  rw[cI]at r;rw[Array.toList_eraseIdxIfInBounds,Array.toList_setIfInBounds];exact r
 .rcases aY.mp hr with hr|hr
  .exact h.ok r (dF _ hr)
  .rcases aL.mp hr with rfl|hr
   .exact⟨v,by omega⟩
   .exact h.ok r (bN _ (Lm _ (Lm _ hr)))
 .have:=h.lo
  simp only[List.flatten_append,dB,aH]at this ⊢;omega
 .rw[o R]
  refine List.Perm.trans ?_ f;have q:=(k.append_right (D.flatten++T)).append_left B.flatten;rw[aM X]at q;exact q
def runs_ok{Q:Unit->SortSt->Prop}(h:∀ R pe m,Srt φ R->R.Perm T0->Q () (St κ (im g R) pe m)):wpS (bf prog w) A E s sortRuns' Q (St κ (im g T0) #[] mg):=by
 refine wpS_bind (wpS_get ?_)
 extract_lets -underBinder size minrun lo
 have hs:size=T0.length:=im_size T0
 clear_value size
 subst hs
 clear_value minrun
 refine wpS_bind (wpS_mono (wpS_forRange (I:=λi b k=>∃ lo rs T pe m,b=(ab,lo)/\k=St κ (im g (rs.flatten++T)) pe m/\Sr φ T0 lo rs T pe/\i<=lo) (Q:=λb k=>∃ lo rs pe m,b=(ab,lo)/\k=St κ (im g (rs.flatten++[])) pe m/\Sr φ T0 T0.length rs [] pe)
  (λi b k _ U u=>?_) (λb k u=>?_) ⟨0,[],T0,#[],mg,rfl,rfl,⟨trivial,λ_ hr=>(nomatch hr),rfl,List.Perm.refl _⟩,aB 0⟩) λb k O=>?_)
 .obtain⟨lo,rs,T,pe,m,rfl,rfl,S,J⟩:=u
  refine w_post λP pd py=>?_
  dsimp (zeta:=af) only
  extract_lets -underBinder l1
  dsimp (zeta:=af) only[l1]
  have Z:lo+T.length=T0.length:=by rw[<-S.lo,<-aH,S.pm.length_eq]
  by_cases q:lo>=T0.length
  .rw[aq q]
   obtain rfl:T=[]:=List.eq_nil_of_length_eq_zero (by omega)
   obtain rfl:lo=T0.length:=by rw[dG]at Z;omega
   exact wpS_pure (pd _ _ ⟨_,rs,pe,m,rfl,rfl,S⟩)
  rw[ar q];have oT:Ok φ n T:=⟨(eR.mp (o0.perm S.pm).d).2.1,λx Y=>(o0.perm S.pm).b x (bN _ Y)⟩
  have C:=count_ok Oo (P:=rs.flatten) (T:=T) (pe:=pe) (mg:=m) (E:=E) (Q:=λr k=>∃ R S,r=aa R.length/\0 < R.length/\Srt φ R/\(R++S).Perm T/\k=St κ (im g (rs.flatten++(R++S))) pe m) (by omega) oT λR S H F v=>⟨R,S,rfl,H,F,v,rfl⟩
  rw[S.lo,show T.length=T0.length - lo by omega]at C
  refine wpS_bind (wpS_mono C λr k hr=>?_)
  obtain⟨R,l,rfl,H,F,v,rfl⟩:=hr;dsimp (zeta:=af) only
  extract_lets -underBinder N jp
  have hj:∀ R l,0 < R.length->Srt φ R->(R++l).Perm T->wpS (bf prog w) A E s (jp () R.length) P (St κ (im g (rs.flatten++(R++l))) pe m):=by
   intro R l H F v;dsimp (zeta:=af) only[jp]
   refine wpS_bind (wpS_get ?_)
   extract_lets -underBinder jp2
   have S1:Sr φ T0 lo rs (R++l) pe:=⟨S.pn,S.ok,S.lo,(v.append_left _).trans S.pm⟩;have M:∀ j a t,Sr φ T0 lo j (R++l) a->wpS (bf prog w) A E s (jp2 ()) P (St κ (im g (j.flatten++(R++l))) a t):=by
    intro j a t o;dsimp (zeta:=af) only[jp2]
    refine wpS_bind (wpS_modify (wpS_pure (py _ _ ⟨lo+R.length,j++[R],l,a.push (lo,R.length,0),t,rfl,?_,⟨?_,λr hr=>?_,?_,?_⟩,by omega⟩)))
    .show St κ (im g (j.flatten++(R++l))) (a.push (lo,R.length,0)) t=_
     simp
    .rw[Array.toList_push]
     have r:=o.pn.push R 0;rw[cI,o.lo]at r;exact r
    .rcases aY.mp hr with hr|hr
     .exact o.ok r hr
     .obtain rfl:=aP.mp hr
      exact⟨F,H⟩
    .have:=o.lo
     simp[this]
    .have:=o.pm
     simpa using this
   clear_value jp2
   show wpS _ _ _ _ (match pe.back? with|some (s1,n1,_)=>_|_=>_) _ _
   split
   .extract_lets -underBinder pw
    refine wpS_bind (wpS_mono (wpS_forRange (I:=λi b k=>∃ j a t,b=(ab,())/\k=St κ (im g (j.flatten++(R++l))) a t/\Sr φ T0 lo j (R++l) a) (Q:=λb k=>∃ j a t,b=(ab,())/\k=St κ (im g (j.flatten++(R++l))) a t/\Sr φ T0 lo j (R++l) a)
     (λi b k _ U u=>?_) (λb k u=>u) ⟨rs,pe,m,rfl,rfl,S1⟩) λb k O=>?_)
    .obtain⟨j,a,t,rfl,rfl,o⟩:=u
     refine wpS_bind (wpS_get ?_);show wpS _ _ _ _ (match (if a.size > 1 then a[a.size - 2]? else ab) with|some (_,_,W)=>_|_=>_) _ _
     split
     .rename_i e
      have F:a.size > 1:=by
       by_cases z:a.size > 1
       .exact z
       .rw[ar z]at e;exact nomatch e
      split
      .exact wpS_pure ⟨j,a,t,rfl,rfl,o⟩
      .have sz:=o.sz
       exact wpS_bind (mrg_ok Oo o0 o (show a.size - 2+1 < j.length by omega) λB D X S2 _=>wpS_pure ⟨B,D,X,rfl,rfl,S2⟩)
     .exact wpS_pure ⟨j,a,t,rfl,rfl,o⟩
    .obtain⟨j,a,t,rfl,rfl,o⟩:=O
     refine wpS_bind (wpS_modify ?_);refine M j _ t ⟨?_,o.ok,o.lo,o.pm⟩;show Pn 0 j (a.modify (a.size - 1) _).toList;rw[Array.toList_modify];exact o.pn.mod (f:=λx=>(x.1,x.2.1,pw)) (λp=>⟨rfl,rfl⟩) _
   .exact M rs pe m S1
  clear_value jp
  split
  .rename_i q5
   have q5:R.length < minrun:=q5;refine wpS_bind (wpS_lift (wpAny_rule ⟨rfl,?_⟩))
   extract_lets -underBinder force
   have hp:=v.length_eq;rw[aH]at hp;have hf:force=min (T0.length - lo) minrun:=rfl;have Bi:=bin_ok Oo (P:=rs.flatten) (T:=R++l) (N:=force) (ok:=R.length) (pe:=pe) (mg:=m) (E:=E) (Q:=λr k=>∃ y G,r=ae/\y.length=force/\Srt φ y/\(y++G).Perm T/\k=St κ (im g (rs.flatten++(y++G))) pe m) H (by omega) (by rw[aH];omega) (oT.perm v) (by rw[List.take_left];exact F) λy G a1 a2 a3=>⟨y,G,rfl,a1,a2,a3.trans v,rfl⟩
   rw[S.lo]at Bi;refine wpS_bind (wpS_mono Bi λr k hr=>?_)
   obtain⟨y,G,rfl,a1,a2,a3,rfl⟩:=hr;have r:=hj y G (by omega) a2 a3
   rw[a1]at r;exact r
  .exact hj R l H F v
 .obtain⟨lo,rs,T,pe,m,rfl,rfl,S,J⟩:=u
  rw[cM (aR _)]at J;have Z:lo+T.length=T0.length:=by rw[<-S.lo,<-aH,S.pm.length_eq]
  obtain rfl:T=[]:=List.eq_nil_of_length_eq_zero (by omega)
  obtain rfl:lo=T0.length:=by rw[dG]at Z;omega
  exact⟨_,rs,pe,m,rfl,rfl,S⟩
 .obtain⟨lo,rs,pe,m,rfl,rfl,S⟩:=O
  have K:∀ {rs:Li (Li Nat)},(∀ r∈rs,Srt φ r/\0 < r.length)->rs.length<=rs.flatten.length:=by
   intro rs
   induction rs with
   |nil=>exact λ_=>aB 0
   |cons r rs ih=>
    intro h;have:=ih λx Y=>h x (Lm _ Y)
    have:=(h r Ls).2;rw[dB,aH,aX];omega
  have L:=K S.ok;rw[S.lo]at L;refine wpS_bind (wpS_mono (wpS_forRange (I:=λi b k=>∃ rs pe m,b=(ab,())/\k=St κ (im g (rs.flatten++[])) pe m/\Sr φ T0 T0.length rs [] pe/\rs.length+i<=T0.length) (Q:=λb k=>∃ rs pe m,b=(ab,())/\k=St κ (im g (rs.flatten++[])) pe m/\Sr φ T0 T0.length rs [] pe/\rs.length<=1)
   (λi b k _ U u=>?_) (λb k u=>?_) ⟨rs,pe,m,rfl,rfl,S,L⟩) λb k O=>?_)
  .obtain⟨rs,pe,m,rfl,rfl,S,V⟩:=u
   have sz:=S.sz;refine wpS_bind (wpS_get ?_);show wpS _ _ _ _ (if pe.size<=1 then _ else _) _ _
   split
   .exact wpS_pure ⟨rs,pe,m,rfl,rfl,S,by omega⟩
   .rename_i q
    have U:∀ (c:Prop) [Decidable c],(if c then pe.size - 2 - 1 else pe.size - 2)+1 < rs.length:=λc _=>by split<;>omega
    exact wpS_bind (mrg_ok Oo o0 S (U _) λB D X S2 e2=>wpS_pure ⟨B,D,X,rfl,rfl,S2,by omega⟩)
  .obtain⟨rs,pe,m,rfl,rfl,S,V⟩:=u
   rw[cM (aR _)]at V;exact⟨rs,pe,m,rfl,rfl,S,by omega⟩
  .obtain⟨rs,pe,m,rfl,rfl,S,V⟩:=O
   refine wpS_pure (h _ pe m ?_ S.pm)
   match rs,S,V with
   |[],_,_=>exact List.Pairwise.nil
   |[r],S,_=>rw[List.flatten_singleton,bF];exact(S.ok r Ls).1
end
end LS
namespace Dp
open PySem
variable{α:Type}
def Zb{x:α}{C:Prop}(h:(ab:Ot α)=aa x):C:=nomatch h
noncomputable abbrev S(x:String):Str:=Str.ofString x
set_option genInjectivity true in
inductive D where
 |non|bl (b:Bool)|int (i:Int)|str (x:Str)|tup (xs:List D)|lst (id:Nat)|dct (ks:List Str) (vs:List D)|obj (i:Nat)|kt (ks:List Str)|dic (id:Nat)
abbrev Env:=Li (Ot D)
abbrev YO:=Bool×Li D
abbrev Za:=Li YO
abbrev Res:=Ot (D×Za)
abbrev Fn:=Li D->Za->Res
noncomputable def o2{α b a:Type}(f:α->b->a):Ot α->Ot b->Ot a
 |some x,aa y=>aa (f x y)
 |_,_=>ab
noncomputable def og{α:Type}(p:Prop)[Decidable p](o:Ot α):Ot α:=if p then o else ab
mutual
noncomputable def Zv:D->D->Bool
 |.non,.non=>ae
 |.bl a,.bl b=>a==b
 |.int a,.int b=>ak (a=b)
 |.str a,.str b=>ak (a=b)
 |.tup a,.tup b=>Zr a b
 |_,_=>af
noncomputable def Zr:Li D->Li D->Bool
 |[],[]=>ae
 |x :: b,y :: a=>Zv x y&&Zr b a
 |_,_=>af
end
mutual
noncomputable def okD:Nat->D->Bool
 |_,.non=>ae
 |_,.int _=>ae
 |_,.str _=>ae
 |n+1,.tup a=>Yf n a
 |_,_=>af
noncomputable def Yf:Nat->Li D->Bool
 |_,[]=>ae
 |n,x :: a=>okD n x&&Yf n a
end
inductive Sc where
 |non|bl (b:Bool)|int (i:Int)|str (x:Str)
noncomputable def scD:D->Ot Sc
 |.non=>aa .non
 |.bl b=>aa (.bl b)
 |.int i=>aa (.int i)
 |.str x=>aa (.str x)
 |_=>ab
noncomputable def Zfq:Sc->Sc->Ot Bool
 |.non,.non=>aa ae
 |.non,.bl _=>aa af
 |.non,.int _=>aa af
 |.non,.str _=>aa af
 |.bl _,.non=>aa af
 |.bl a,.bl b=>aa (a==b)
 |.bl _,.int _=>ab
 |.bl _,.str _=>aa af
 |.int _,.non=>aa af
 |.int _,.bl _=>ab
 |.int a,.int b=>aa (ak (a=b))
 |.int _,.str _=>aa af
 |.str _,.non=>aa af
 |.str _,.bl _=>aa af
 |.str _,.int _=>aa af
 |.str a,.str b=>aa (ak (a=b))
def eqT(b:Li D):D->Ot Bool
 |.tup a=>if okD 8 (.tup b)&&okD 8 (.tup a) then aa (Zr b a) else ab
 |_=>ab
def eqD(x y:D):Ot Bool:=match x with
 |.tup a=>eqT a y
 |x=>(o2 Zfq (scD x) (scD y)).join
inductive Ty where
 |int|bool|str|tuple
 deriving DecidableEq
inductive CE where
 |v (i:Nat)|c (d:D)
 |bin (op:Operator) (a b:CE)|neg (a:CE)
 |cmp (op:CmpOp) (a b:CE)
 |not (a:CE)|and (a b:CE)|or (a b:CE)|ife (c a b:CE)
 |tupE (a:CE)|lstE (a:CE)|aN|aC (a r:CE)
 |ix (a b:CE)|slice (a lo hi:CE)|nop|part (a:CE)
 |call (f:Nat) (args:CE) (ds:List D)
 |len (a:CE)|tOf (a:CE)|listOf (a:CE)|intOf (a:CE)|min (a b:CE)|max (a b:CE)|isi (T:Ty) (a:CE)
 |comp (rng:Bool) (fr:List Nat) (it elt YY:CE)|comp2 (fr:List Nat) (it elt YY:CE)|compT (fr:List Nat) (it elt YY:CE)|lstR (a b:CE)|new (i:Nat)|meth (tab:List (Nat×Nat)) (o a:CE)|isc (l:List Nat) (a:CE)|tix (o a:CE)
 |rs (k:Bool) (a:CE)
 |inv (a:CE)|tupR (a:CE)|look (ks:List Str) (ds:List D) (a:CE)|dget (a k d:CE)|all (a:CE)|any (a:CE)|inR (ng:Bool) (a b:CE)
 |dict (ks:List Str) (a:CE)|dnew|strOf (a:CE)|joinE (a b:CE)|starts (a b:CE)|rng2 (a b:CE)|srt (a:CE)
 |comp3 (fr:List Nat) (it elt YY:CE)|dd (a b e:CE)|dgN (o k d:CE)|pop (o:CE)|ksrt (o:CE)|popz (o z:CE)
inductive CS where
 |skip|seq (a b:CS)|ret (e:CE)|set (i:Nat) (e:CE)|app (i:Nat) (e:CE)|ext (i:Nat) (e:CE)|put (i:Nat) (k e:CE)
 |ite (c:CE) (a b:CS)|for1 (i:Nat) (rng:Bool) (it:CE) (b:CS)|for3 (i:Nat) (it:CE) (b:CS)|forP (i j:Nat) (it:CE) (b:CS)|forE (i j:Nat) (it:CE) (b:CS)|set2 (i j:Nat) (e:CE)|for4 (i j l:Nat) (it:CE) (b:CS)|for2 (i j:Nat) (it:CE) (b:CS)|whl (c:CE) (b:CS)|brk|cont|stop|set3 (i j l:Nat) (e:CE)|act (e:CE)|dput (i:Nat) (a b e:CE)|app2 (o e:CE)
noncomputable def ZX(i:Int):Bool:=ak (-(2 ^ 64) < i)&&ak (i < 2 ^ 64)
noncomputable def Zk:Nat:=1000000
def QU(a:Operator)(i j:Int):Ot Int:=
 match a with
 |.Add=>aa (i+j)
 |.Sub=>aa (i - j)
 |.Mult=>if ZX i||ZX j then aa (i * j) else ab
 |.FloorDiv=>if 0 < j/\j < 1073741824 then aa (i / j) else if j < 0/\-1073741824 < j then aa (i.fdiv j) else ab
 |.Mod=>if 0 < j then aa (i % j) else if j < 0 then aa (i.fmod j) else ab
 |.LShift=>if 0<=j/\j<=1000/\ZX i=ae then aa (i * 2 ^ j.toNat) else ab
 |.BitAnd=>if 0<=i/\0<=j then aa ((i.toNat &&& j.toNat:Nat):Int) else if 0<=i/\j < 0 then aa (i - ((i.toNat &&& (-j - 1).toNat:Nat):Int)) else ab
 |.BitOr=>if 0<=i/\0<=j then aa ((i.toNat ||| j.toNat:Nat):Int) else ab
 |_=>ab
noncomputable def Uc:Operator->Bool
 |.Add=>ae
 |_=>af
noncomputable def Zaa:Operator->Bool
 |.Mult=>ae
 |_=>af
def ZbE(a b:Nat)(c:Za):Res:=match c[a]?,c[b]? with
 |some (_,e),aa (_,d)=>if e.length+d.length<=Zk then aa (.lst c.length,c++[(ae,e++d)]) else ab
 |_,_=>ab
noncomputable def ZfI(a:Nat)(j:Int)(b:Za):Res:=match b[a]? with
 |some (ae,[x])=>if j<=1000/\-1000<=j then aa (.lst b.length,b++[(ae,ag j.toNat x)]) else ab
 |_=>ab
noncomputable def repT(a:Li D)(j:Int)(b:Za):Res:=match a with
 |[x]=>if j<=1000/\-1000<=j then aa (.tup (ag j.toNat x),b) else ab
 |_=>ab
def VO(d:Operator)(x y:D)(c:Za):Res:=
 match x,y with
 |.int i,.int j=>match QU d i j with
  |some k=>aa (.int k,c)
  |none=>ab
 |.tup e,.tup f=>if Uc d=ae/\e.length+f.length<=Zk then aa (.tup (e++f),c) else ab
 |.tup e,.int j=>if Zaa d=ae then repT e j c else ab
 |.lst a,.lst b=>if Uc d=ae then ZbE a b c else ab
 |.lst a,.int j=>if Zaa d=ae then ZfI a j c else ab
 |.str x,.str y=>if Uc d=ae/\x.length+y.length<=Zk then aa (.str (x++y),c) else ab
 |_,_=>ab
noncomputable def Zgl(x k:Str):Bool:=!(PySem.Builtin.Str.occurrences x k 0 x.length 1).isEmpty
noncomputable def chS(x:Str):Li Str:=x.cps.toList.map λc=>⟨#[c]⟩
noncomputable def ZaI(_:Za)(_ _:Li D):Ot Bool:=ab
def Vh(a ys:Li D):Ot Bool:=if (a.isEmpty||ys.isEmpty)=ae then aa (a.isEmpty&&ys.isEmpty) else if Yf 7 a&&Yf 7 ys then aa (Zr a ys) else ab
def Zfr(c:Za)(b:Li D):D->Ot Bool
 |.tup a=>(match eqT b (.tup a) with
  |some k=>aa k
  |none=>ZaI c b a)
 |_=>ab
def Zfp(e:Za)(a:Nat):D->Ot Bool
 |.lst b=>(o2 (λ(c d:YO)=>Vh c.2 d.2) e[a]? e[b]?).join
 |_=>ab
def eqS(b:Za)(x y:D):Ot Bool:=match x with
 |.lst a=>Zfp b a y
 |.tup c=>Zfr b c y
 |x=>eqD x y
noncomputable def Yn:Int->Li D->Ot Bool
 |_,[]=>aa af
 |k,.int i :: r=>(Yn k r).map λb=>ak (i=k)||b
 |_,_=>ab
noncomputable def ZU:Str->Li D->Ot Bool
 |_,[]=>aa af
 |k,.str i :: r=>(ZU k r).map λb=>ak (i=k)||b
 |_,_=>ab
noncomputable def Zeb:D->Ot Int
 |.int i=>aa i
 |_=>ab
noncomputable def iB(i:Int):D->Bool
 |.int a=>ak (a=i)
 |_=>af
def isK(i j:Int):D->Bool
 |.tup [x,y,_]=>iB i x&&iB j y
 |_=>af
noncomputable def Zg4:D->Ot D
 |.tup [_,_,v]=>aa v
 |_=>ab
def Yc(a:Li D)(i j:Int):Ot D:=(a.find? (isK i j)).bind Zg4
def Xr(a:Li D)(i j:Int)(v:D):Li D:=if a.any (isK i j)=ae then a.map (λe=>if isK i j e=ae then .tup [.int i,.int j,v] else e) else a++[.tup [.int i,.int j,v]]
def dAt(d:Li D)(a:Nat)(b:Za):Ot (Ot D):=match d with
 |[x,y]=>o2 (λ(p:Int×Int) (c:YO)=>Yc c.2 p.1 p.2) (o2 Prod.mk (Zeb x) (Zeb y)) b[a]?
 |_=>ab
noncomputable def Z5:Li Str->Li D->Str->Ot D
 |k :: b,v :: a,x=>if k=x then aa v else Z5 b a x
 |_,_,_=>ab
noncomputable def Je(f:Int->Int->Bool):D->D->Ot Bool
 |.int i,.int j=>aa (f i j)
 |_,_=>ab
def geD:D->D->Ot Bool
 |.tup [.int a,.int b],.tup [.int c,.int d]=>aa (if a=c then ak (d<=b) else ak (c<=a))
 |x,y=>Je (λi j=>ak (j<=i)) x y
def Vq:Li D->Li D->Ot Bool
 |x :: d,y :: c=>if Zv x y=ae then Vq d c else match x,y with
  |.int i,.int j=>aa (ak (i < j))
  |.str a,.str b=>aa (ak (a.cps.toList < b.cps.toList))
  |_,_=>ab
 |[],c=>aa (ak (0 < c.length))
 |_ :: _,[]=>aa af
def ltD(x y:D):Ot Bool:=match x,y with
 |.tup b,.tup a=>if okD 8 (.tup b)&&okD 8 (.tup a) then Vq b a else ab
 |x,y=>Je (λi j=>ak (i < j)) x y
def ltS(_:Za)(x y:D):Ot Bool:=ltD x y
def inS(c:Za)(x y:D):Ot Bool:=match x,y with
 |.int k,.lst a=>match c[a]? with
  |some (_,b)=>Yn k b
  |none=>ab
 |.str k,.lst a=>match c[a]? with
  |some (_,b)=>ZU k b
  |none=>ab
 |.int k,.tup b=>Yn k b
 |.str k,.tup b=>ZU k b
 |.str k,.dct d e=>aa (Z5 d e k).isSome
 |.tup d,.dic a=>(dAt d a c).map Option.isSome
 |.str k,.str x=>aa (Zgl x k)
 |_,_=>ab
def niS(a:Za)(x y:D):Ot Bool:=match y with
 |.dct _ _=>ab
 |y=>(inS a x y).map not
noncomputable def isN:D->Ot Bool
 |.non=>aa ae
 |.int _=>aa af
 |.str _=>aa af
 |.bl _=>aa af
 |.tup _=>aa af
 |.lst _=>aa af
 |.dct _ _=>ab
 |.obj _=>ab
 |.kt _=>ab
 |.dic _=>ab
noncomputable def isB(b:Bool):D->Ot Bool
 |.bl a=>aa (a==b)
 |_=>ab
def isD(x:D):D->Ot Bool
 |.non=>isN x
 |.bl b=>isB b x
 |_=>ab
def Q0(b:CmpOp)(x y:D)(a:Za):Ot Bool:=
 match b with
 |.Lt=>ltS a x y
 |.LtE=>Je (λi j=>ak (i<=j)) x y
 |.Gt=>Je (λi j=>ak (j < i)) x y
 |.GtE=>geD x y
 |.Eq=>eqS a x y
 |.NotEq=>(eqS a x y).map not
 |.In=>inS a x y
 |.NotIn=>niS a x y
 |.Is=>isD x y
 |.IsNot=>(isD x y).map not
noncomputable def ixN(n:Nat)(i:Int):Ot Nat:=if 0<=i then (if i < n then aa i.toNat else ab) else if -(n:Int)<=i then aa (i+n).toNat else ab
def atD(a:Li D)(i:Int):Ot D:=(ixN a.length i).bind λj=>a[j]?
def ixD(x y:D)(d:Za):Ot D:=
 match x,y with
 |.tup c,.int i=>atD c i
 |.lst a,.int i=>match d[a]? with
  |some (_,c)=>atD c i
  |none=>ab
 |.dct b e,.str k=>Z5 b e k
 |.kt b,.int i=>atD (b.map .str) i
 |.dic a,.tup b=>(dAt b a d).join
 |.str x,.int i=>if x.length<=Zk then atD ((chS x).map .str) i else ab
 |_,_=>ab
noncomputable def sIx(n d:Nat):Ot Int->Nat
 |none=>d
 |some i=>if i < 0 then (i+n).toNat else Nat.min i.toNat n
def XN(a:Li D)(lo b:Ot Int):Li D:=(a.drop (sIx a.length 0 lo)).take (sIx a.length a.length b - sIx a.length 0 lo)
def Ya(x:D)(lo d:Ot Int)(c:Za):Res:=
 match x with
 |.tup b=>if sIx b.length 0 lo=0/\sIx b.length b.length d=b.length then aa (.tup b,c) else aa (.tup (XN b lo d),c)
 |.lst a=>match c[a]? with
  |some (_,b)=>aa (.lst c.length,c++[(ae,XN b lo d)])
  |none=>ab
 |_=>ab
def Zcg(x:D)(c:Za):Ot Int:=
 match x with
 |.tup b=>aa b.length
 |.lst a=>match c[a]? with
  |some (_,b)=>aa b.length
  |none=>ab
 |.kt d=>aa d.length
 |.str x=>if x.length<=Zk then aa x.length else ab
 |.dic a=>match c[a]? with
  |some (_,b)=>aa b.length
  |none=>ab
 |_=>ab
noncomputable def Zee(T:Ty):D->Ot Bool
 |.int _=>aa (ak (T=.int))
 |.bl _=>aa (ak (T=.int)||ak (T=.bool))
 |.str _=>aa (ak (T=.str))
 |.tup _=>aa (ak (T=.tuple))
 |.non=>aa af
 |_=>ab
noncomputable def Wr(rng:Bool)(x:D):Ot (Li D):=
 match rng,x with
 |true,.int n=>if n < 2 ^ 62/\-(2 ^ 62)<=n then aa ((aj n.toNat).map λ(k:Nat)=>D.int (k:Int)) else ab
 |false,.tup a=>aa a
 |_,_=>ab
noncomputable def Zex(a b c:Int):Nat:=if 0 < c then (if a < b then ((b - a - 1) / c+1).toNat else 0) else (if b < a then ((a - b - 1) / (-c)+1).toNat else 0)
def Zew(a b c:Int):Li Int:=(aj (Zex a b c)).map λ(k:Nat)=>a+k * c
noncomputable def Yg(ok:Za->Prop)(f:D->Za->Res)(c:D->Za->Res):Li D->Za->Ot (Li D×Za)
 |[],b=>open Classical in if ok b then aa ([],b) else ab
 |x :: g,b=>open Classical in if ok b then (match c x b with
  |some (.bl ae,a)=>match f x a with
   |some (y,e)=>match Yg ok f c g e with
    |some (h,d)=>aa (y :: h,d)
    |none=>ab
   |none=>ab
  |some (.bl af,a)=>Yg ok f c g a
  |_=>ab) else ab
def Y8(rng:Bool)(x:D)(e:Za):Ot (Li D×(Za->Prop)):=match Wr rng x with
 |some d=>aa (d,λ_=>True)
 |none=>match rng,x with
  |false,.lst a=>match e[a]? with
   |some c=>aa (c.2,λs=>s[a]?=aa c)
   |none=>ab
  |false,.dct [] [.int a,.int b]=>aa ((Zew a b 1).map .int,λ_=>True)
  |_,_=>ab
noncomputable def Ja:D->Bool
 |.tup [_,_]=>ae
 |_=>af
def W7(x:D)(d:Za):Ot (Li D×(Za->Prop)):=match x with
 |.tup b=>if b.all Ja=ae then aa (b,λ_=>True) else ab
 |.lst a=>match d[a]? with
  |some c=>if c.2.all Ja=ae then aa (c.2,λs=>s[a]?=aa c) else ab
  |none=>ab
 |_=>ab
abbrev Ev:=Env->Za->Res
noncomputable def Zl(c:Ev)(g:D->Za->Res):Ev:=λU b=>match c U b with
 |some (x,a)=>g x a
 |none=>ab
noncomputable def ZH(e d:Ev)(g:D->D->Za->Res):Ev:=λU c=>match e U c with
 |some (x,b)=>match d U b with
  |some (y,a)=>g x y a
  |none=>ab
 |none=>ab
noncomputable def Yz(h f e:Ev)(g:D->D->D->Za->Res):Ev:=λU d=>match h U d with
 |some (x,c)=>match f U c with
  |some (y,b)=>match e U b with
   |some (z,a)=>g x y z a
   |none=>ab
  |none=>ab
 |none=>ab
noncomputable def YY(e c d:Ev):Ev:=λU b=>match e U b with
 |some (.bl ae,a)=>c U a
 |some (.bl af,a)=>d U a
 |_=>ab
noncomputable def Z4(i:Nat):Ev:=λU a=>match U[i]? with
 |some (aa d)=>aa (d,a)
 |_=>ab
noncomputable def evC(d:D):Ev:=λ_ a=>aa (d,a)
noncomputable def Zeo:D->Za->Res
 |.int i,a=>aa (.int (-i),a)
 |_,_=>ab
noncomputable def Zau:D->Za->Res
 |.bl k,a=>aa (.bl (!k),a)
 |_,_=>ab
def XL(b:CmpOp)(x y:D)(a:Za):Res:=match Q0 b x y a with
 |some k=>aa (.bl k,a)
 |none=>ab
noncomputable def Zci:D->Za->Res
 |.tup b,a=>aa (.lst a.length,a++[(ae,b)])
 |_,_=>ab
noncomputable def V1:D->D->Za->Res
 |x,.tup a,b=>if a.length < 1000 then aa (.tup (x :: a),b) else ab
 |_,_,_=>ab
def ixR(x y:D)(a:Za):Res:=match ixD x y a with
 |some d=>aa (d,a)
 |none=>ab
def YM:D->D->D->Za->Res
 |x,.non,.non,a=>Ya x ab ab a
 |x,.int i,.non,a=>Ya x (aa i) ab a
 |x,.non,.int j,a=>Ya x ab (aa j) a
 |x,.int i,.int j,a=>Ya x (aa i) (aa j) a
 |_,_,_,_=>ab
noncomputable def Ul:D->Za->Res
 |.int i,a=>aa (.int i,a)
 |_,_=>ab
noncomputable def XT(g:Fn)(c:Li D):D->Za->Res
 |.tup a,b=>g (a++c) b
 |_,_=>ab
def US(x:D)(a:Za):Res:=match Zcg x a with
 |some n=>aa (.int n,a)
 |none=>ab
noncomputable def VE:D->Za->Res
 |.tup b,a=>aa (.tup b,a)
 |.lst l,a=>match a[l]? with
  |some (_,b)=>aa (.tup b,a)
  |none=>ab
 |_,_=>ab
noncomputable def Ug:D->Za->Res
 |.tup b,a=>aa (.lst a.length,a++[(ae,b)])
 |.lst l,a=>match a[l]? with
  |some (_,b)=>aa (.lst a.length,a++[(ae,b)])
  |none=>ab
 |_,_=>ab
def Zab(T:Ty)(x:D)(a:Za):Res:=match Zee T x with
 |some k=>aa (.bl k,a)
 |none=>ab
noncomputable def ZeS:Li D->Ot (Li D)
 |[.int i,.int j]=>aa (if j < i then [.int j,.int i] else [.int i,.int j])
 |_=>ab
def rsL(k:Bool)(a:Li D):Ot (Li D):=if k then ZeS a else aa a.reverse
def rsD(k:Bool):D->Za->Res
 |.lst a,b=>match b[a]? with
  |some (_,d)=>(match rsL k d with
   |some c=>aa (.lst b.length,b++[(ae,c)])
   |none=>ab)
  |none=>ab
 |_,_=>ab
noncomputable def Zec:D->Za->Res
 |.int i,a=>aa (.int (-i - 1),a)
 |_,_=>ab
def Zam(b:Li Str)(c:Li D):D->Za->Res
 |.str k,a=>match Z5 b c k with
  |some d=>aa (d,a)
  |none=>ab
 |_,_=>ab
def getD:D->D->D->Za->Res
 |.dct c a,.str k,d,b=>aa ((Z5 c a k).getD d,b)
 |_,_,_,_=>ab
noncomputable def Zga(b:Bool):D->D->Za->Res
 |.int x,.int n,a=>if -(2 ^ 62)<=n/\n < 2 ^ 62 then aa (.bl (b != ak (0<=x/\x < n)),a) else ab
 |_,_,_=>ab
noncomputable def YS:Li D->Ot (Li Bool)
 |[]=>aa []
 |.bl b :: r=>(YS r).map (b :: ·)
 |_=>ab
def WE(f:Li Bool->Bool)(x:D)(b:Za):Res:=match x with
 |.lst a=>match b[a]? with
  |some (_,c)=>match YS c with
   |some bs=>aa (.bl (f bs),b)
   |none=>ab
  |none=>ab
 |_=>ab
noncomputable def Zdc(a:Li Str):D->Za->Res
 |.tup b,c=>if a.length=b.length/\(a.Nodup/\a≠[])/\a.length<=15 then aa (.dct a b,c) else ab
 |_,_=>ab
noncomputable def one(d:D):Li (Ot D):=[aa d]
noncomputable def two:D->Li (Ot D)
 |.tup [a,b]=>[aa a,aa b]
 |_=>[]
noncomputable def Zg8:D->Li (Ot D)
 |.tup [a,b,c]=>[aa a,aa b,aa c]
 |_=>[]
def ddE(h g f:Env->Za->Res):Env->Za->Res:=λU b=>match h U (b++[(ae,[])]) with
 |some (.int i,d)=>match g U d with
  |some (.int j,c)=>match f U c with
   |some (v,a)=>match a[b.length]? with
    |some (ae,e)=>if e.length < Zk then aa (.dic b.length,a.set b.length (ae,Xr e i j v)) else ab
    |_=>ab
   |none=>ab
  |_=>ab
 |_=>ab
def gtD:D->D->D->Za->Res
 |.dic a,.tup c,d,b=>(dAt c a b).map λo=>(o.getD d,b)
 |_,_,_,_=>ab
noncomputable def Zcs:D->Za->Res
 |.lst a,c=>match c[a]? with
  |some (ae,b)=>(b[b.length - 1]?).map λd=>(d,c.set a (ae,b.dropLast))
  |_=>ab
 |_,_=>ab
noncomputable def ZaO:D->D->Za->Res
 |.lst a,.int 0,b=>match b[a]? with
  |some (ae,x :: c)=>aa (x,b.set a (ae,c))
  |_=>ab
 |_,_,_=>ab
noncomputable def kOf:D->Ot (Int×Int)
 |.tup [.int i,.int j,_]=>aa (i,j)
 |_=>ab
noncomputable def Vu(p:Int×Int):Int:=p.1 * 1000+p.2
def Zu(a:Li D):Li (Int×Int):=a.map λe=>(kOf e).getD (0,0)
noncomputable def prD(p:Int×Int):D:=.tup [.int p.1,.int p.2]
def okP(a:Li (Int×Int)):Bool:=a.all (λp=>ak (0<=p.1/\p.1 < 1000/\0<=p.2/\p.2 < 1000))&&ak ((a.map Vu).Nodup)
def atP(a:Li (Int×Int))(i:Nat):Int:=Vu (a.getD i (0,0))
def ZaE(a:Li (Int×Int)):Li Nat:=(aj a.length).mergeSort λi j=>ak (atP a i<=atP a j)
def ZQ{a:Type}(c:Li (Int×Int))(z:a)(b:Li a):Li a:=(ZaE c).map λi=>b.getD i z
def Qx:D->Za->Res
 |.dic a,c=>match c[a]? with
  |some (_,b)=>if b.length<=400/\okP (Zu b)=ae then aa (.lst c.length,c++[(ae,ZQ (Zu b) .non ((Zu b).map prD))]) else ab
  |none=>ab
 |_,_=>ab
noncomputable def Yd(b:D->Li (Ot D))(U:Env)(a:Li Nat)(d:D):Env:=b d++a.map λi=>(U[i]?).join
def Xc(b:D->Li (Ot D))(w:D->Za->Ot (Li D×(Za->Prop)))(f:Li Nat)(i j k:Ev):Ev:=λU h=>match i U h with
 |some (x,c)=>match w x c with
  |some (e,ok)=>if e.length<=1000 then
    match Yg ok (λd s=>j (Yd b U f d) s) (λd s=>k (Yd b U f d) s) e c with
    |some (g,a)=>aa (.lst a.length,a++[(ae,g)])
    |none=>ab
   else ab
  |none=>ab
 |none=>ab
noncomputable def Zdd:Ev:=λ_ a=>aa (.dic a.length,a++[(ae,[])])
def ev(F:Nat->Fn):CE->Ev
 |.v i=>Z4 i
 |.c d=>evC d
 |.bin j a b=>ZH (ev F a) (ev F b) (VO j)
 |.neg a=>Zl (ev F a) Zeo
 |.cmp j a b=>ZH (ev F a) (ev F b) (XL j)
 |.not a=>Zl (ev F a) Zau
 |.and a b=>YY (ev F a) (ev F b) (evC (.bl af))
 |.or a b=>YY (ev F a) (evC (.bl ae)) (ev F b)
 |.ife c a b=>YY (ev F c) (ev F a) (ev F b)
 |.tupE a=>ev F a
 |.lstE a=>Zl (ev F a) Zci
 |.aN=>evC (.tup [])
 |.aC a r=>ZH (ev F a) (ev F r) V1
 |.ix a b=>ZH (ev F a) (ev F b) ixR
 |.slice a lo t=>Yz (ev F a) (ev F lo) (ev F t) YM
 |.nop=>evC .non
 |.part a=>Zl (ev F a) Ul
 |.call f a q=>Zl (ev F a) (XT (F f) q)
 |.len a=>Zl (ev F a) US
 |.tOf a=>Zl (ev F a) VE
 |.listOf a=>Zl (ev F a) Ug
 |.intOf _=>λ_ _=>ab
 |.min _ _=>λ_ _=>ab
 |.max _ _=>λ_ _=>ab
 |.isi T a=>Zl (ev F a) (Zab T)
 |.rs k a=>Zl (ev F a) (rsD k)
 |.inv a=>Zl (ev F a) Zec
 |.tupR _=>λ_ _=>ab
 |.look m q a=>Zl (ev F a) (Zam m q)
 |.dget a k d=>Yz (ev F a) (ev F k) (ev F d) getD
 |.inR s a b=>ZH (ev F a) (ev F b) (Zga s)
 |.all a=>Zl (ev F a) (WE λl=>l.all id)
 |.any _=>λ_ _=>ab
 |.comp rng p n g h=>Xc one (Y8 rng) p (ev F n) (ev F g) (ev F h)
 |.comp2 _ _ _ _=>λ_ _=>ab
 |.compT p n g h=>Xc two W7 p (ev F n) (ev F g) (ev F h)
 |.lstR _ _=>λ_ _=>ab
 |.new _=>λ_ _=>ab
 |.meth _ _ _=>λ_ _=>ab
 |.isc _ _=>λ_ _=>ab
 |.tix _ _=>λ_ _=>ab
 |.dict m a=>Zl (ev F a) (Zdc m)
 |.dnew=>Zdd
 |.strOf _=>λ_ _=>ab
 |.joinE _ _=>λ_ _=>ab
 |.starts _ _=>λ_ _=>ab
 |.rng2 _ _=>λ_ _=>ab
 |.srt _=>λ_ _=>ab
 |.comp3 _ _ _ _=>λ_ _=>ab
 |.dd a b e=>ddE (ev F a) (ev F b) (ev F e)
 |.dgN o k d=>Yz (ev F o) (ev F k) (ev F d) gtD
 |.pop o=>Zl (ev F o) Zcs
 |.ksrt o=>Zl (ev F o) Qx
 |.popz o z=>ZH (ev F o) (ev F z) ZaO
inductive Fl where
 |nx (U:Env)|rt (d:D)|bk (U:Env)|ct (U:Env)
noncomputable def Zj(U:Env)(i:Nat)(d:D):Env:=U.set i (aa d)
noncomputable def Zi(b:D->Env->Za->Ot (Fl×Za)):Li D->Env->Za->Ot (Fl×Za)
 |[],U,c=>aa (.nx U,c)
 |d :: e,U,c=>match b d U c with
  |some (.nx U',a)=>Zi b e U' a
  |some (.ct U',a)=>Zi b e U' a
  |some (.bk U',a)=>aa (.nx U',a)
  |some (.rt v,a)=>aa (.rt v,a)
  |none=>ab
noncomputable def ZL(c:D->Env->Za->Ot (Fl×Za))(a:Nat):Nat->Nat->Env->Za->Ot (Fl×Za)
 |0,i,U,e=>match e[a]? with
  |some (_,f)=>if f.length<=i then aa (.nx U,e) else ab
  |none=>ab
 |n+1,i,U,e=>match e[a]? with
  |some (_,f)=>match f[i]? with
   |none=>aa (.nx U,e)
   |some d=>match c d U e with
    |some (.nx U',b)=>ZL c a n (i+1) U' b
    |some (.ct U',b)=>ZL c a n (i+1) U' b
    |some (.bk U',b)=>aa (.nx U',b)
    |some (.rt v,b)=>aa (.rt v,b)
    |none=>ab
  |none=>ab
abbrev Ex:=Env->Za->Ot (Fl×Za)
noncomputable def Yq(f g:Ex):Ex:=λU b=>match f U b with
 |some (.nx U',a)=>g U' a
 |r=>r
noncomputable def U3(f:Ev):Ex:=λU b=>match f U b with
 |some (d,a)=>aa (.rt d,a)
 |none=>ab
def VB(i:Nat)(f:Ev):Ex:=λU b=>match f U b with
 |some (d,a)=>aa (.nx (Zj U i d),a)
 |none=>ab
def WG(i j:Nat)(f:Ev):Ex:=λU b=>match f U b with
 |some (.tup [x,y],a)=>aa (.nx (Zj (Zj U i x) j y),a)
 |_=>ab
def Uu(i j l:Nat)(f:Ev):Ex:=λU b=>match f U b with
 |some (.tup [x,y,z],a)=>aa (.nx (Zj (Zj (Zj U i x) j y) l z),a)
 |_=>ab
noncomputable def ZdL(f:Ev):Ex:=λU b=>match f U b with
 |some (_,a)=>aa (.nx U,a)
 |none=>ab
def Js(a:Nat)(d:D)(c:Za):Ot Za:=match c[a]? with
 |some (ae,b)=>if b.length < Zk then aa (c.set a (ae,b++[d])) else ab
 |_=>ab
def X9(a:Nat)(j:Int)(d:D)(c:Za):Ot Za:=match c[a]? with
 |some (ae,b)=>match ixN b.length j with
  |some p=>aa (c.set a (ae,b.set p d))
  |none=>ab
 |_=>ab
def Ju(i:Nat)(f:Ev):Ex:=λU e=>match U[i]? with
 |some (aa (.lst a))=>match f U e with
  |some (d,c)=>match Js a d c with
   |some b=>aa (.nx U,b)
   |none=>ab
  |none=>ab
 |_=>ab
def Jt(o f:Ev):Ex:=λU g=>match o U g with
 |some (.lst a,e)=>match f U e with
  |some (d,c)=>match Js a d c with
   |some b=>aa (.nx U,b)
   |none=>ab
  |none=>ab
 |_=>ab
def Zd5(a b:Nat)(c:Za):Ot Za:=match c[a]?,c[b]? with
 |some (ae,e),aa (ae,d)=>if e.length+d.length<=Zk then aa (c.set a (ae,e++d)) else ab
 |_,_=>ab
def JK(i:Nat)(f:Ev):Ex:=λU e=>match U[i]? with
 |some (aa (.lst a))=>match f U e with
  |some (.lst b,d)=>match Zd5 a b d with
   |some c=>aa (.nx U,c)
   |none=>ab
  |_=>ab
 |_=>ab
def U0(i:Nat)(k f:Ev):Ex:=λU g=>match f U g with
 |some (d,e)=>match U[i]? with
  |some (aa (.lst a))=>match k U e with
   |some (.int j,c)=>match X9 a j d c with
    |some b=>aa (.nx U,b)
    |none=>ab
   |_=>ab
  |_=>ab
 |none=>ab
def V4(i:Nat)(k j f:Ev):Ex:=λU h=>match f U h with
 |some (d,e)=>match U[i]? with
  |some (aa (.dic a))=>match k U e with
   |some (.int x,c)=>match j U c with
    |some (.int y,b)=>match b[a]? with
     |some (ae,g)=>if g.length < Zk then aa (.nx U,b.set a (ae,Xr g x y d)) else ab
     |_=>ab
    |_=>ab
   |_=>ab
  |_=>ab
 |none=>ab
noncomputable def Z3(c:Ev)(f g:Ex):Ex:=λU b=>match c U b with
 |some (.bl ae,a)=>f U a
 |some (.bl af,a)=>g U a
 |_=>ab
def Vj(i:Nat)(rng:Bool)(g:Ev)(b:Ex):Ex:=λU f=>match g U f with
 |some (x,c)=>match Wr rng x with
  |some e=>Zi (λd U s=>b (Zj U i d) s) e U c
  |none=>match rng,x with
   |false,.lst a=>match c[a]? with
    |some (_,e)=>ZL (λd U s=>b (Zj U i d) s) a e.length 0 U c
    |none=>ab
   |_,_=>ab
 |none=>ab
noncomputable def Ui(ok:Za->Prop)(b:D->D->Env->Za->Ot (Fl×Za)):Li (D×D)->Env->Za->Ot (Fl×Za)
 |[],U,c=>open Classical in if ok c then aa (.nx U,c) else ab
 |p :: d,U,c=>open Classical in if ok c then (match b p.1 p.2 U c with
  |some (.nx U',a)=>Ui ok b d U' a
  |some (.ct U',a)=>Ui ok b d U' a
  |some (.bk U',a)=>aa (.nx U',a)
  |some (.rt v,a)=>aa (.rt v,a)
  |none=>ab) else ab
def Zg6(i j:Nat)(f:Ev)(b:Ex):Ex:=λU e=>match f U e with
 |some (.tup [.tup d,.tup c],a)=>Ui (λ_=>True) (λx y U s=>b (Zj (Zj U i x) j y) s) (d.zip c) U a
 |_=>ab
noncomputable def Zde:Nat->Li D->Li (D×D)
 |_,[]=>[]
 |k,x :: a=>(.int (k:Int),x) :: Zde (k+1) a
noncomputable def ZfY(x:D)(d:Za):Ot (Li D×(Za->Prop)):=match x with
 |.tup b=>aa (b,λ_=>True)
 |.lst a=>match d[a]? with
  |some c=>aa (c.2,λs=>s[a]?=aa c)
  |none=>ab
 |_=>ab
def Zg5(i j:Nat)(e:Ev)(b:Ex):Ex:=λU d=>match e U d with
 |some (x,a)=>match ZfY x a with
  |some (c,ok)=>Ui ok (λx y U s=>b (Zj (Zj U i x) j y) s) (Zde 0 c) U a
  |none=>ab
 |none=>ab
def Xb(i j l:Nat)(b:Ex)(d:D)(U:Env)(s:Za):Ot (Fl×Za):=match d with
 |.tup [x,y,z]=>b (Zj (Zj (Zj U i x) j y) l z) s
 |_=>ab
def V6(i j l:Nat)(f:Ev)(b:Ex):Ex:=λU e=>match f U e with
 |some (.lst a,c)=>match c[a]? with
  |some (_,d)=>ZL (Xb i j l b) a d.length 0 U c
  |none=>ab
 |some (.tup d,c)=>Zi (Xb i j l b) d U c
 |_=>ab
noncomputable def ZM(f g:Ex):Ex:=λU b=>match f U b with
 |some (.nx U',a)=>g U' a
 |some (.ct U',a)=>g U' a
 |some (.bk U',a)=>aa (.nx U',a)
 |some (.rt v,a)=>aa (.rt v,a)
 |none=>ab
def ZW(c:Ev)(b:Ex):Nat->Ex
 |0=>λ_ _=>ab
 |n+1=>Z3 c (ZM b (ZW c b n)) λU a=>aa (.nx U,a)
def ex(F:Nat->Fn):CS->Ex
 |.skip=>λU d=>aa (.nx U,d)
 |.seq a b=>Yq (ex F a) (ex F b)
 |.ret e=>U3 (ev F e)
 |.set i e=>VB i (ev F e)
 |.app i e=>Ju i (ev F e)
 |.ext i e=>JK i (ev F e)
 |.put i k e=>U0 i (ev F k) (ev F e)
 |.ite c a b=>Z3 (ev F c) (ex F a) (ex F b)
 |.for1 i rng f b=>Vj i rng (ev F f) (ex F b)
 |.forP _ _ _ _=>λ_ _=>ab
 |.forE _ _ _ _=>λ_ _=>ab
 |.for3 _ _ _=>λ_ _=>ab
 |.set2 i j e=>WG i j (ev F e)
 |.for4 i j l f b=>V6 i j l (ev F f) (ex F b)
 |.for2 _ _ _ _=>λ_ _=>ab
 |.whl c b=>ZW (ev F c) (ex F b) 20000
 |.brk=>λU d=>aa (.bk U,d)
 |.cont=>λU d=>aa (.ct U,d)
 |.stop=>λ_ _=>ab
 |.set3 i j l e=>Uu i j l (ev F e)
 |.act e=>ZdL (ev F e)
 |.dput i a b e=>V4 i (ev F a) (ev F b) (ev F e)
 |.app2 o e=>Jt (ev F o) (ev F e)
structure FD where
 ps:Nat
 ns:Nat
 body:CS
def fnD(F:Nat->Fn)(f:FD):Fn:=λb c=>
 if b.length=f.ps then
  match ex F f.body (b.map aa++ag (f.ns - b.length) ab) c with
  |some (.rt d,a)=>aa (d,a)
  |some (.nx _,a)=>aa (.non,a)
  |_=>ab
 else ab
def run(T:Nat->Ot FD):Nat->Nat->Fn
 |0,_=>λ_ _=>ab
 |n+1,i=>match T i with
  |some f=>fnD (run T n) f
  |none=>λ_ _=>ab
inductive GV where
 |fn (i:Nat) (ps:Nat) (ds:List D)|c (d:D)|blt|dct (ks:List Str) (ds:List D)|cls (i:Nat) (ms:List (Str×Nat×Nat)) (subs:List Nat)
abbrev Gs:=Li (Str×GV)
noncomputable def CE.ofConst:Const->Ot CE
 |.none=>aa (.c .non)
 |.bool b=>aa (.c (.bl b))
 |.int i=>aa (.c (.int i))
 |.str x=>aa (.c (.str x))
 |_=>ab
noncomputable def Xw(sc:bo)(x:Str):Bool:=!(x==("__debug__":Str))&&!(x==("__classdict__":Str))&&match sc.names.lookup x with
 |some .local=>ae
 |some .cell=>ae
 |some .free=>ae
 |_=>af
noncomputable def ZA(sc:bo)(x:Str):Bool:=!(x==("__debug__":Str))&&match sc.names.lookup x with
 |some .globalImplicit=>ae
 |_=>af
noncomputable def ZfW(x:Str):Ot Ty:=
 if x = "int" then aa .int else if x = "bool" then aa .bool else if x = "str" then aa .str else if x = "tuple" then aa .tuple else ab
noncomputable def ZF(sc:bo):Li Str:=(sc.names.filter λp=>ak (p.2=.free)).map (·.1)
noncomputable def ZdV(f:Str)(x:CE):Ot CE:=
 if f = "len" then aa (.len x) else if f = "tuple" then aa (.tOf x) else if f = "list" then aa (.listOf x) else if f = "all" then aa (.all x) else if f = "sorted" then aa (.ksrt x) else ab
noncomputable def Zff(_:Str)(_ _:CE):Ot CE:=ab
noncomputable def Qw(G:Gs)(x:Str):Bool:=match G.lookup x with
 |some .blt=>ae
 |_=>af
def ZeW(G:Gs)(sc:bo)(t:Str):Ot Ty:=if ZA sc t&&Qw G t then ZfW t else ab
def QP(G:Gs)(sc:bo):az->Ot Ty
 |.Name t _=>ZeW G sc t
 |_=>ab
noncomputable def UJ(_:Gs)(_:bo)(_:az):Ot (Li Nat):=ab
noncomputable def ZG:Li (Ot az)->Ot (Li Str)
 |[]=>aa []
 |some (.Constant (.str k) _ _) :: r=>(ZG r).map (k :: ·)
 |_=>ab
noncomputable def Zda:az->Ot (Str×Li az)
 |.Call (.Name f _) a [] _=>aa (f,a)
 |_=>ab
def fnA(G:Gs)(sc:bo)(nm:Str)(e:az):Ot (Li az):=(Zda e).bind λp=>og (p.1=nm/\ZA sc p.1=ae/\Qw G p.1=ae) (aa p.2)
noncomputable def Zep:Li az->Ot az
 |[a]=>aa a
 |_=>ab
def ZJ(G:Gs)(sc:bo)(e:az):Ot az:=(fnA G sc "range" e).bind Zep
noncomputable def Qd(_:Gs)(_:bo)(_:Str)(_:az):Ot az:=ab
noncomputable def UU(_:Gs)(_:bo)(_:Str)(_:az):Ot (az×az):=ab
def o3{g e d a:Type}(f:g->e->d->a):Ot g->Ot e->Ot d->Ot a
 |some x,b,c=>o2 (f x) b c
 |none,_,_=>ab
variable{γ:Type}
def Wz{P:γ->Prop}{f:α->γ}{a:Ot α}{c:γ}(h:a.map f=aa c)(k:∀ x,a=aa x->P (f x)):P c:=by
 cases a with
 |none=>exact Zb h
 |some x=>cases h;exact k x rfl
variable{β:Type}
def ZO{P:γ->Prop}{f:α->β->γ}{a:Ot α}{b:Ot β}{c:γ}(h:o2 f a b=aa c)(k:∀ x y,a=aa x->b=aa y->P (f x y)):P c:=by
 cases a with
 |none=>exact Zb h
 |some x=>cases b with
  |none=>exact Zb h
  |some y=>cases h;exact k x y rfl rfl
def Xm{g:Type}{P:g->Prop}{f:α->β->γ->g}{a:Ot α}{b:Ot β}{d:Ot γ}{c:g}(h:o3 f a b d=aa c)(k:∀ x y z,a=aa x->b=aa y->d=aa z->P (f x y z)):P c:=by
 cases a with
 |none=>exact Zb h
 |some x=>exact ZO (P:=P) h λy z e i=>k x y z rfl e i
def Xz{P:Prop}{p:Prop}[Decidable p]{o:Ot α}{c:α}(h:og p o=aa c)(k:p->o=aa c->P):P:=by
 unfold og at h;by_cases a:p
 .rw[aq a]at h;exact k a h
 .rw[ar a]at h;cases h
def j_e{P:Prop}{o:Ot (Ot α)}{c:α}(h:o.join=aa c)(k:o=aa (aa c)->P):P:=by
 cases o with
 |none=>exact Zb h
 |some x=>cases h;exact k rfl
def Jx(G:Gs)(sc:bo)(f:Str)(a:az)(r:az->Ot CE):Ot CE:=match Qd G sc f a with
 |some e=>(r e).map .tupR
 |none=>match UU G sc f a with
  |some (u,v)=>o2 .lstR (r u) (r v)
  |none=>((r a).map (ZdV f)).join
def Jy(G:Gs)(sc:bo)(f:Str)(a b:az)(r:az->Ot CE):Ot CE:=if f = "isinstance" then (match UJ G sc b with
  |some l=>(r a).map (.isc l)
  |none=>o2 (λx T=>.isi T x) (r a) (QP G sc b)) else (o2 (Zff f) (r a) (r b)).join
def Jz(G:Gs)(sc:bo)(f:Str)(d:Li az)(h:Ot CE)(r:az->Ot CE):Ot CE:=
 if ZA sc f then (match G.lookup f with
   |some (.fn i e g)=>og (d.length<=e/\e<=d.length+g.length) (h.map λc=>.call i c (g.drop (d.length+g.length - e)))
   |some .blt=>match d with
    |[a]=>Jx G sc f a r
    |[a,b]=>Jy G sc f a b r
    |_=>ab
   |_=>ab) else ab
def Zf9(o:Ot CE)(d:Li az)(r:az->Ot CE):Ot CE:=match d with
 |[a]=>o2 (λx y=>.dgN x y (.c .non)) o (r a)
 |[a,b]=>o3 .dgN o (r a) (r b)
 |_=>ab
def Zgm(o:Ot CE)(b:Li az)(r:az->Ot CE):Ot CE:=match b with
 |[]=>o.map .pop
 |[a]=>o2 .popz o (r a)
 |_=>ab
def Zc8(G:Gs)(c:az)(m:Str)(f:Pos)(d:Li az)(e:Pos)(g:Ot CE)(r:az->Ot CE):Ot CE:=match c with
 |.Dict _ _ _=>(match d with
  |[a,b]=>og (m = "get"/\(f.endLine==e.line)=ae) (o3 .dget (r c) (r a) (r b))
  |_=>ab)
 |.Name _ _=>og ((f.endLine==e.line)=ae/\d.length < 20) (if m = "pop" then Zgm (r c) d r else if m = "get" then Zf9 (r c) d r else ab)
 |_=>ab
def Zfg(G:Gs)(sc:bo)(f:az)(b:Li az)(d:Pos)(a:Ot CE)(r:az->Ot CE):Ot CE:=match f with
 |.Name f _=>Jz G sc f b a r
 |.Attribute c m e=>Zc8 G c m e b d a r
 |_=>ab
noncomputable def Zgb:az->Bool
 |.Slice ..=>ae
 |_=>af
noncomputable def cVs(f:az->Ot CE):Li az->Ot CE
 |[]=>aa .aN
 |e :: a=>match f e,cVs f a with
  |some x,aa r=>aa (.aC x r)
  |_,_=>ab
noncomputable def W2:az->Ot (az×az)
 |.Tuple [a,b] _ _=>aa (a,b)
 |_=>ab
def QI:Li (Ot az)->Ot (az×az)
 |[aa e]=>W2 e
 |_=>ab
noncomputable def Zco:Li az->Ot az
 |[e]=>aa e
 |_=>ab
def Zf6(f:az->Ot CE)(a:Li (Ot az))(b:Li az):Ot CE:=match a with
 |[]=>og (b.length=0) (aa .dnew)
 |_=>match QI a with
  |some p=>o3 .dd (f p.1) (f p.2) ((Zco b).bind f)
  |none=>og (a.length=b.length/\a≠[]/\a.length<=15) (o2 .dict (ZG a) (cVs f b))
noncomputable def XS(_:Gs)(_:bo)(_:az):Ot (Li az):=ab
noncomputable def Wb(_:Gs)(_:bo)(_:az):Ot (Li az):=ab
def Vg(G:Gs)(sc:bo)(e:az):Ot az:=(fnA G sc "enumerate" e).bind Zep
noncomputable def X3(_:Gs)(_:bo)(_:az):Ot az:=ab
noncomputable def nmE:az->Ot Str
 |.Name x _=>aa x
 |_=>ab
def nmL:Li az->Ot (Li Str)
 |[a,b]=>o2 (λx y=>[x,y]) (nmE a) (nmE b)
 |_=>ab
def tgN:az->Ot (Li Str)
 |.Name x _=>aa [x]
 |.Tuple a _ _=>nmL a
 |_=>ab
noncomputable def mkC(n:Nat)(r:Ot (Ot Bool))(a:Li Nat)(c d e:CE):CE:=if n=3 then .comp3 a c d e else match r with
 |some (aa b)=>.comp b a c d e
 |some ab=>.comp2 a c d e
 |none=>.compT a c d e
noncomputable def Y5(N:Li Str):Li Str->Ot (Li Nat)
 |[]=>aa []
 |x :: r=>match N.idxOf? x,Y5 N r with
  |some i,aa a=>aa (i :: a)
  |_,_=>ab
def Zas(G:Gs)(sc:bo)(N:Li Str)(x:Str):Ot CE:=
 if Xw sc x then (N.idxOf? x).map .v else if ZA sc x then (match G.lookup x with
  |some (.c d)=>aa (.c d)
  |_=>ab) else ab
def QB(G:Gs)(sc:bo):az->Ot (Li Str×Li D)
 |.Name x _=>if ZA sc x then (match G.lookup x with
  |some (.dct a b)=>aa (a,b)
  |_=>ab) else ab
 |_=>ab
noncomputable def X8:az->Ot (Ot az×Ot az)
 |.Slice lo a ab _=>aa (lo,a)
 |_=>ab
noncomputable def QL:az->Ot az
 |.Slice ab ab (aa s) _=>aa s
 |_=>ab
noncomputable def Zed:CE->Bool
 |.neg (.c (.int 1))=>ae
 |_=>af
noncomputable def Wp(sc:bo)(x:Str):Bool:=match sc.names.lookup x with
 |some .cell=>ae
 |some .free=>ae
 |_=>af
def YX(sc a:bo)(b:Li Str):Bool:=
 ak (a.kind=.function)&&(a.names.all λp=>ak (p.2≠.cell))&&(b.all λx=>ak (a.names.lookup x=aa .local))&&(a.names.all λp=>!decide (p.2=.local)||ak (a.names.lookup p.1=aa .local)) &&
 ak (b++ZF a).Nodup&&(ZF a).all (λy=>Wp sc y&&ak (a.names.lookup y=aa .free))
noncomputable def Zea(_:CmpOp):Ot Bool:=ab
noncomputable def unC(b:UnaryOp)(a:Ot CE):Ot CE:=match b with
 |.Not=>a.map .not
 |.USub=>a.map .neg
 |.Invert=>a.map .inv
 |_=>ab
def Zfj(G:Gs)(sc:bo)(f:az->Ot CE)(a:Ot CE):Li CmpOp->Li az->Ot CE
 |[c],[b]=>(match ZJ G sc b with
  |some e=>o3 .inR (Zea c) a (f e)
  |none=>o2 (.cmp c) a (f b))
 |_,_=>ab
def Zc9(f:az->Ot CE)(d:BoolOp)(c:Pos):Li az->Ot CE
 |[]=>ab
 |[a]=>f a
 |a :: b :: r=>match d with
  |.And=>o2 .and (f a) (f (.BoolOp .And (b :: r) c))
  |.Or=>o2 .or (f a) (f (.BoolOp .Or (b :: r) c))
def ZeU(G:Gs)(sc:bo)(f:az->Ot CE)(c:Ot az->Ot CE)(a b:az):Ot CE:=match X8 b with
 |some (lo,e)=>o3 .slice (f a) (c lo) (c e)
 |none=>match QL b with
  |some s=>(o2 (λx y=>og (Zed y=ae) (aa (.rs af x))) (f a) (f s)).join
  |none=>match QB G sc a with
   |some (d,g)=>(f b).map (.look d g)
   |none=>o2 .ix (f a) (f b)
def itC(G:Gs)(sc:bo)(b:az)(f:az->Ot CE):Li Str->Ot (Ot (Ot Bool)×CE)
 |[_]=>(match ZJ G sc b with
  |some a=>(f a).map λc=>(aa (aa ae),c)
  |none=>(f b).map λc=>(aa (aa af),c))
 |[_,_]=>(match Vg G sc b with
  |some _=>ab
  |none=>(f b).map λc=>(ab,c))
 |_=>(match Vg G sc b with
  |some _=>ab
  |none=>(f b).map λc=>(ab,c))
noncomputable def ifC(f:az->Ot CE):Li az->Ot CE
 |[]=>aa (CE.c (.bl ae))
 |[c]=>f c
 |_=>ab
def Zdb(G:Gs)(sc a:bo)(N:Li Str)(f:az->Ot CE)(g:Li Str->az->Ot CE)(d:az):Li Comprehension->Ot CE
 |[⟨e,h,c,0⟩]=>(match tgN e with
  |none=>ab
  |some b=>og (YX sc a b=ae) (o3 (λi p (q:CE×CE)=>mkC b.length p.1 i p.2 q.1 q.2) (Y5 N (ZF a)) (itC G sc h f b) (o2 Prod.mk (g (b++ZF a) d) (ifC (g (b++ZF a)) c))))
 |_=>ab
mutual
def cE(G:Gs):Nat->bo->Li Str->az->Ot CE
 |0,_,_,_=>ab
 |n+1,sc,N,e=>match e with
  |.Constant c _ _=>CE.ofConst c
  |.Name x _=>Zas G sc N x
  |.BinOp a h b _=>o2 (.bin h) (cE G n sc N a) (cE G n sc N b)
  |.UnaryOp h a _=>unC h (cE G n sc N a)
  |.Compare a l bs _=>Zfj G sc (cE G n sc N) (cE G n sc N a) l bs
  |.BoolOp h q k=>Zc9 (cE G n sc N) h k q
  |.IfExp c a b _=>o3 .ife (cE G n sc N c) (cE G n sc N a) (cE G n sc N b)
  |.Tuple m _ _=>(cEs G n sc N m).map .tupE
  |.List m _=>(cEs G n sc N m).map .lstE
  |.Dict i d _=>Zf6 (cE G n sc N) i d
  |.Subscript a b _=>ZeU G sc (cE G n sc N) (cO G n sc N) a b
  |.Call f p [] r=>Zfg G sc f p r (cEs G n sc N p) (cE G n sc N)
  |.ListComp o j g _=>Zdb G sc g N (cE G n sc N) (cE G n g) o j
  |_=>ab
def cEs(G:Gs):Nat->bo->Li Str->Li az->Ot CE
 |0,_,_,_=>ab
 |_+1,_,_,[]=>aa .aN
 |n+1,sc,N,e :: a=>o2 .aC (cE G n sc N e) (cEs G n sc N a)
def cO(G:Gs):Nat->bo->Li Str->Ot az->Ot CE
 |0,_,_,_=>ab
 |_+1,_,_,ab=>aa .nop
 |n+1,sc,N,aa e=>(cE G n sc N e).map .part
end
noncomputable def Y2:az->Bool
 |.ListComp ..=>ae
 |.SetComp ..=>ae
 |.DictComp ..=>ae
 |_=>af
noncomputable def Ue:az->Bool
 |.Tuple ..=>ae
 |_=>af
def Zfe(N:Li Str)(a e:az)(c:Ot CE):Ot CS:=match a with
 |.Name x _=>o2 .set (N.idxOf? x) c
 |.Tuple [.Name x _,.Name y _] _ _=>og ((Y2 e||Ue e)=af) (o3 (λi j c=>og (i≠j) (aa (.set2 i j c))) (N.idxOf? x) (N.idxOf? y) c).join
 |.Tuple [.Name x _,.Name y _,.Name z _] _ _=>og ((Y2 e||Ue e)=af) (o3 (λi j (p:Nat×CE)=>.set3 i j p.1 p.2) (N.idxOf? x) (N.idxOf? y) (o2 Prod.mk (N.idxOf? z) c))
 |_=>ab
def ZfF(sc:bo)(N:Li Str)(x:Str)(k e:az)(f:az->Ot CE):Ot CS:=og (Y2 e=af/\Zgb k=af/\Xw sc x=ae) (match W2 k with
 |some (a,b)=>o3 (λi (p:CE×CE) c=>.dput i p.1 p.2 c) (N.idxOf? x) (o2 Prod.mk (f a) (f b)) (f e)
 |none=>o3 .put (N.idxOf? x) (f k) (f e))
def Zd7(G:Gs)(sc:bo)(N:Li Str)(f:az->Ot CE)(fs:Li az->Ot CE)(h d:az)(b:Ot CS):Ot CS:=match h with
 |.Name x _=>(match XS G sc d with
  |some g=>o3 .for3 (N.idxOf? x) (fs g) b
  |none=>match ZJ G sc d with
   |some a=>o3 (λi c b=>.for1 i ae c b) (N.idxOf? x) (f a) b
   |none=>o3 (λi c b=>.for1 i af c b) (N.idxOf? x) (f d) b)
 |.Tuple [.Name x _,.Name y _] _ _=>(o2 (λi j=>og (i≠j) (aa (i,j))) (N.idxOf? x) (N.idxOf? y)).join.bind λp=>(match Wb G sc d with
  |some g=>o2 (.forP p.1 p.2) (fs g) b
  |none=>match X3 G sc d with
   |some e=>o2 (.forE p.1 p.2) (f e) b
   |none=>o2 (.for2 p.1 p.2) (f d) b)
 |.Tuple [.Name x _,.Name y _,.Name z _] _ _=>o3 (λ(p:Nat×Nat) (q:Nat×CE) b=>.for4 p.1 p.2 q.1 q.2 b) (o2 Prod.mk (N.idxOf? x) (N.idxOf? y)) (o2 Prod.mk (N.idxOf? z) (f d)) b
 |_=>ab
def Zfd(sc:bo)(N:Li Str)(x m:Str)(b a:Pos)(c:Ot CE):Ot CS:=og (Xw sc x=ae/\(b.endLine==a.line)=ae) (if m = "append" then o2 .app (N.idxOf? x) c else if m = "extend" then o2 .ext (N.idxOf? x) c else ab)
def Zfa(sc:bo)(N:Li Str)(f:az->Ot CE):az->Ot CS
 |.Call (.Name g d) h c a=>(f (.Call (.Name g d) h c a)).map .act
 |.Call (.Attribute (.Name x _) m b) [e] [] a=>Zfd sc N x m b a (f e)
 |.Call (.Attribute (.Subscript o k p) m b) [e] [] a=>og (m = "append"/\(b.endLine==a.line)=ae) (o2 .app2 (f (.Subscript o k p)) (f e))
 |_=>ab
mutual
def cS(G:Gs):Nat->bo->Li Str->Stmt->Ot CS
 |0,_,_,_=>ab
 |n+1,sc,N,s=>match s with
  |.Assign [.Subscript (.Name x _) k _] e _=>ZfF sc N x k e (cE G n sc N)
  |.Assign [d] e _=>Zfe N d e (cE G n sc N e)
  |.Expr e _=>Zfa sc N (cE G n sc N) e
  |.Return (aa e) _=>(cE G n sc N e).map .ret
  |.If c a b _=>o3 .ite (cE G n sc N c) (cSs G n sc N a) (cSs G n sc N b)
  |.For d f b [] _=>Zd7 G sc N (cE G n sc N) (cEs G n sc N) d f (cSs G n sc N b)
  |.While c b [] _=>o2 .whl (cE G n sc N c) (cSs G n sc N b)
  |.Pass _=>aa .skip
  |.Break _=>aa .brk
  |.Continue _=>aa .cont
  |.Raise _ _ _=>aa .stop
  |_=>ab
def cSs(G:Gs):Nat->bo->Li Str->Li Stmt->Ot CS
 |0,_,_,_=>ab
 |_+1,_,_,[]=>aa .skip
 |n+1,sc,N,s :: r=>o2 .seq (cS G n sc N s) (cSs G n sc N r)
end
end Dp
namespace Dp
open PySem PySem.Spec PyProof.Rows L2
class ClsTab where
 ca:Nat->Addr
variable [ClsTab]
variable{X:Cx}{e:az}
def Zh{t a:TE}(h:PE X e t)(i:∀ O H Q,a O H Q->t O H Q):PE X e a:=λb s O H Q I q=>h b s O H Q I (i O H Q q)
def WB{t a:TT}(h:PT X e t)(i:∀ O H Q,a O H Q->t O H Q):PT X e a:=λb s O H Q I q=>h b s O H Q I (i O H Q q)
def ZaG{e:Li az}{t b:TA}(h:PA X e t)(i:∀ O H Q,b O H Q->t O H Q):PA X e b:=λa c s O H Q I q=>h a c s O H Q I (i O H Q q)
def ZaN{e:Ot az}{t a:TO}(h:PO X e t)(i:∀ O H Q,a O H Q->t O H Q):PO X e a:=λb s O H Q I q=>h b s O H Q I (i O H Q q)
def ZB{e:Stmt}{t a:TS}(h:PS X e t)(i:∀ D O H,a D O H->t D O H):PS X e a:=λb s O H D I q=>h b s O H D I (i D O H q)
def QK{e:Li Stmt}{t a:TS}(h:PSs X e t)(i:∀ D O H,a D O H->t D O H):PSs X e a:=λb s O H D I q=>h b s O H D I (i D O H q)
def KT(K:Fg)(a:Ad)(b:Li V):Prop:=
 ∃ (o:Obj) (its:Array vL) (n:Nat),K.lookup a=aa o/\o.cls=.type "tuple"/\o.data=.seq its n/\its.size<=ay/\Vals b its.toList
def TupAt(K:Fg)(H:Hp)(a:Ad)(b:Li V):Prop:=H a=aa (.tup b)\/KT K a b
variable{K:Fg}{H:Hp}{xs:Li V}
def TupAt.sq{a:Ad}(h:TupAt K H a xs):SqT K H a xs:=by
 rcases h with h|h
 .exact .inl (.inl h)
 .exact .inr h
def Ye(H:Hp)(a:Ad):Prop:=∃ b,H a=aa (.dT b)
def LA(b:Li Ad)(H:Hp)(i:Nat)(a:Ad):Prop:=b[i]?=aa a/\¬Ye H a
variable{o:HO}
def Wy{a:Ad}(h:H a=aa o)(n:∀ b,o≠.dT b):¬Ye H a:=λ⟨b,z⟩=>n b (aw (h.symm.trans z))
mutual
inductive Den(K:Fg)(ad:List Addr)(H:Hp):V->D->Prop where
 |non:Den K ad H .non .non
 |bl (b:Bool):Den K ad H (.bl b) (.bl b)
 |int (i:Int):Den K ad H (.int i) (.int i)
 |str (x:Str):Den K ad H (.str x) (.str x)
 |tup {a:Addr}{xs:List V}{ds:List D} (h:TupAt K H a xs) (r:Dens K ad H xs ds):Den K ad H (.ref a) (.tup ds)
 |lst {a:Addr}{i:Nat} (h:LA ad H i a):Den K ad H (.ref a) (.lst i)
 |dic {a:Addr}{i:Nat} (h:ad[i]?=aa a) (n:Ye H a):Den K ad H (.ref a) (.dic i)
 |dct {a:Addr}{kvs:List (Key×V)}{ks:List Str}{vs:List V}{ds:List D} (h:H a=aa (.dK kvs)) (hk:kvs=(ks.zip vs).map λp=>(Sum.inr p.1,p.2)) (nd:ks.Nodup/\ks≠[]) (hl:ks.length=vs.length) (r:Dens K ad H vs ds):Den K ad H (.ref a) (.dct ks ds)
 |obj {a dx:Addr}{i:Nat} (h:H a=aa (.ins (ClsTab.ca i) dx [])) (n:a∉ad):Den K ad H (.ref a) (.obj i)
 |kt {a:Addr}{ks:List Str}{o:Obj}{its:Array Value}{n:Nat} (l:K.lookup a=aa o) (c:o.cls=.type "tuple") (g:o.dict=ab) (e:o.data=.seq its n) (z:its.size<=ay) (r:Vals (ks.map V.str) its.toList):Den K ad H (.ref a) (.kt ks)
inductive Dens(K:Fg)(ad:List Addr)(H:Hp):List V->List D->Prop where
 |nil:Dens K ad H [] []
 |cons {v:V}{d:D}{vs:List V}{ds:List D} (h:Den K ad H v d) (r:Dens K ad H vs ds):Dens K ad H (v :: vs) (d :: ds)
end
structure Ext(ad:List Addr)(H:Hp)(ad':List Addr)(H':Hp):Prop where
 pre:∀ (i:Nat) (a:Addr),ad[i]?=aa a->ad'[i]?=aa a
 tup:∀ b xs,H b=aa (.tup xs)->H' b=aa (.tup xs)
 dk:∀ b kvs,H b=aa (.dK kvs)->H' b=aa (.dK kvs)
 keep:∀ b o,H b=aa o->b∉ad->H' b=aa o
 new:∀ b,b∈ad'->b∈ad\/H b=ab
 kd:∀ (i:Nat) (a:Addr),ad[i]?=aa a->(Ye H a↔Ye H' a)
def Ext.refl(a:Li Ad)(H:Hp):Ext a H a H:=⟨λ_ _ h=>h,λ_ _ h=>h,λ_ _ h=>h,λ_ _ h _=>h,λ_ h=>.inl h,λ_ _ _=>Iff.rfl⟩
theorem Ext.trans{d j g:Li Ad}{f l k:Hp}(x:Ext d f j l)(y:Ext j l g k):Ext d f g k:=by
 refine⟨λi a h=>y.pre i a (x.pre i a h),λb c h=>y.tup b c (x.tup b c h),λb c h=>y.dk b c (x.dk b c h),λb o h n=>?_,λb h=>?_,λi a h=>(x.kd i a h).trans (y.kd i a (x.pre i a h))⟩
 .refine y.keep b o (x.keep b o h n) λz=>?_
  rcases x.new b z with z|z
  .exact n z
  .rw[h]at z;cases z
 .rcases y.new b h with z|z
  .exact x.new b z
  .cases e:f b with
   |none=>exact .inr rfl
   |some o=>
    by_cases q:b∈d
    .exact .inl q
    .rw[x.keep b o e q]at z;cases z
variable{ad ad':Li Ad}{H':Hp}
def TupAt.mono{a:Ad}(x:Ext ad H ad' H')(h:TupAt K H a xs):TupAt K H' a xs:=h.imp (x.tup _ _) id
def TupAt.upd{K:Fg}{H:Hp}{a p:Ad}{b:Li V}{o d:HO}(c:H p=aa o)(e:∀ b,o≠.tup b)(h:TupAt K H a b):TupAt K (upd H p d) a b:=by
 rcases h with h|h
 .refine .inl ?_
  have n:a≠p:=λz=>by subst z;rw[h]at c;cases c;exact e _ rfl
  rw[upd_ne n];exact h
 .exact .inr h
variable{ks:Li Str}{vs ys:Li V}{d:D}{ds es:Li D}{i:Nat}{kvs kvs':Li (Li Key×V)}{st:Za}{p:Ad}{α:Type}{O:L2.St}{U:Env}
variable{K:Fg}{ad ad':Li Ad}{H H':Hp}
def ZeZ(h:ks≠[])(a:ks.length=vs.length):(ks.zip vs).map (λp=>((Sum.inr p.1:Key),p.2))≠[]:=by
 cases ks with
 |nil=>exact au rfl h
 |cons k ks=>cases vs with
  |nil=>cases a
  |cons v vs=>exact eZ _ _
structure Keeps(K:Fg)(ad ad':List Addr)(H H':Hp):Prop where
 t:∀ {a xs},TupAt K H a xs->TupAt K H' a xs
 l:∀ {i:Nat}{a:Addr},ad[i]?=aa a->ad'[i]?=aa a/\(Ye H a↔Ye H' a)
 k:∀ {a kvs},kvs≠[]->H a=aa (.dK kvs)->H' a=aa (.dK kvs)
 o:∀ {a C dx},H a=aa (.ins C dx [])->a∉ad->H' a=aa (.ins C dx [])/\a∉ad'
def Den.map(x:Keeps K ad ad' H H'){v:V}(h:Den K ad H v d):Den K ad' H' v d:=
 Den.rec (motive_1:=λv d _=>Den K ad' H' v d) (motive_2:=λvs ds _=>Dens K ad' H' vs ds) .non .bl .int .str (λh _ r=>.tup (x.t h) r) (λh=>.lst ⟨(x.l h.1).1,λz=>h.2 ((x.l h.1).2.mpr z)⟩) (λh n=>.dic (x.l h).1 ((x.l h).2.mp n)) (λh f c e _ r=>.dct (x.k (λz=>ZeZ c.2 e (f.symm.trans z)) h) f c e r) (λh n=>.obj (x.o h n).1 (x.o h n).2) .kt .nil (λ_ _ a b=>.cons a b) h
theorem Dens.map(x:Keeps K ad ad' H H')(h:Dens K ad H vs ds):Dens K ad' H' vs ds:=
 Dens.rec (motive_1:=λ_ _ _=>True) (motive_2:=λvs ds _=>Dens K ad' H' vs ds) trivial (λ_=>trivial) (λ_=>trivial) (λ_=>trivial) (λ_ _ _=>trivial) (λ_=>trivial) (λ_ _=>trivial) (λ_ _ _ _ _ _=>trivial) (λ_ _=>trivial) (λ_ _ _ _ _ _=>trivial) .nil (λa _ _ b=>.cons (a.map x) b) h
def Ext.keeps(x:Ext ad H ad' H'):Keeps K ad ad' H H':=⟨λh=>h.mono x,λh=>⟨x.pre _ _ h,x.kd _ _ h⟩,λ_ h=>x.dk _ _ h,λh n=>⟨x.keep _ _ h n,λz=>(x.new _ z).elim n λq=>by rw[h]at q;cases q⟩⟩
def Den.mono(x:Ext ad H ad' H'){v:V}(h:Den K ad H v d):Den K ad' H' v d:=h.map x.keeps
def Dens.mono(x:Ext ad H ad' H')(h:Dens K ad H vs ds):Dens K ad' H' vs ds:=h.map x.keeps
def Zeg(x:∀ (i:Nat) (a:Ad),ad[i]?=aa a->ad'[i]?=aa a)(y:∀ b,b∈ad'->b∈ad\/∃ c,H b=aa (.lst c)):Keeps K ad ad' H H:=⟨id,λh=>⟨x _ _ h,Iff.rfl⟩,λ_ h=>h,λh n=>⟨h,λz=>(y _ z).elim n λ⟨c,q⟩=>by rw[h]at q;cases q⟩⟩
theorem Dens.length:∀ {vs:Li V}{ds:Li D},Dens K ad H vs ds->vs.length=ds.length
 |_,_,.nil=>rfl
 |_,_,.cons _ r=>av (·+1) (Dens.length r)
theorem Dens.get:∀ {vs:Li V}{ds:Li D}{i:Nat}{d:D},Dens K ad H vs ds->ds[i]?=aa d->∃ v,vs[i]?=aa v/\Den K ad H v d
 |_,_,_,_,.nil,e=>by simp at e
 |_,_,0,_,.cons h _,e=>by simp at e;subst e;exact⟨_,rfl,h⟩
 |_,_,i+1,d,.cons _ r,e=>by
  obtain⟨v,b,a⟩:=Dens.get (i:=i) (d:=d) r (by simpa using e)
  exact⟨v,by simpa using b,a⟩
theorem Dens.append:∀ {vs ws:Li V}{ds es:Li D},Dens K ad H vs ds->Dens K ad H ws es->Dens K ad H (vs++ws) (ds++es)
 |_,_,_,_,.nil,s=>s
 |_,_,_,_,.cons h r,s=>.cons h (Dens.append r s)
theorem Dens.take:∀ {vs:Li V}{ds:Li D} (n:Nat),Dens K ad H vs ds->Dens K ad H (vs.take n) (ds.take n)
 |_,_,0,_=>.nil
 |_,_,_+1,.nil=>.nil
 |_,_,n+1,.cons h r=>.cons h (Dens.take n r)
theorem Dens.drop:∀ {vs:Li V}{ds:Li D} (n:Nat),Dens K ad H vs ds->Dens K ad H (vs.drop n) (ds.drop n)
 |_,_,0,r=>r
 |_,_,_+1,.nil=>.nil
 |_,_,n+1,.cons _ r=>Dens.drop n r
theorem Dens.set{v:V}(h:Den K ad H v d):∀ {vs:Li V}{ds:Li D} (n:Nat),Dens K ad H vs ds->Dens K ad H (vs.set n v) (ds.set n d)
 |_,_,_,.nil=>.nil
 |_,_,0,.cons _ r=>.cons h r
 |_,_,n+1,.cons q r=>.cons q (Dens.set h n r)
theorem Dens.rep{v:V}(h:Den K ad H v d):∀ n:Nat,Dens K ad H (ag n v) (ag n d)
 |0=>.nil
 |n+1=>.cons h (Dens.rep h n)
def Den.ofInt{v:V}{i:Int}(h:Den K ad H v (.int i)):v=.int i:=by cases h;rfl
def Den.ofStr{v:V}{x:Str}(h:Den K ad H v (.str x)):v=.str x:=by cases h;rfl
def Den.ofBl{v:V}{b:Bool}(h:Den K ad H v (.bl b)):v=.bl b:=by cases h;rfl
def Den.ofDct{v:V}(h:Den K ad H v (.dct ks ds)):∃ a vs,v=.ref a/\H a=aa (.dK ((ks.zip vs).map λp=>(Sum.inr p.1,p.2)))/\ks.length=vs.length/\Dens K ad H vs ds:=by
 cases h with
 |dct h c d b r=>subst c;exact⟨_,_,rfl,h,b,r⟩
def Den.ofTup{v:V}(h:Den K ad H v (.tup ds)):∃ a b,v=.ref a/\TupAt K H a b/\Dens K ad H b ds:=by
 cases h with
 |tup h r=>exact⟨_,_,rfl,h,r⟩
def Den.ofLst{v:V}(h:Den K ad H v (.lst i)):∃ a,v=.ref a/\LA ad H i a:=by
 cases h with
 |lst h=>exact⟨_,rfl,h⟩
def Den.ofDic{v:V}(h:Den K ad H v (.dic i)):∃ a,v=.ref a/\ad[i]?=aa a/\Ye H a:=by
 cases h with
 |dic h n=>exact⟨_,rfl,h,n⟩
def Den.newL{a:Ad}(h:ad[i]?=aa a):Den K ad (upd H a (.lst xs)) (.ref a) (.lst i):=.lst ⟨h,Wy upd_same λ_ z=>nomatch z⟩
def LA.mono{a:Ad}(x:Ext ad H ad' H')(h:LA ad H i a):LA ad' H' i a:=⟨x.pre _ _ h.1,λz=>h.2 ((x.kd _ _ h.1).mpr z)⟩
def Den.ofKt{v:V}(h:Den K ad H v (.kt ks)):∃ a o b n,v=.ref a/\K.lookup a=aa o/\(o.cls=.type "tuple"/\o.dict=ab)/\o.data=.seq b n/\b.size<=ay/\Vals (ks.map V.str) b.toList:=by
 cases h with
 |kt l c g e z r=>exact⟨_,_,_,_,rfl,l,⟨c,g⟩,e,z,r⟩
theorem W5:∀ ks:Li Str,Dens K ad H (ks.map V.str) (ks.map D.str)
 |[]=>.nil
 |k :: ks=>.cons (.str k) (W5 ks)
def KL(K:Fg)(a:Ad)(b:Li V):Prop:=
 ∃ (o:Obj) (its:Array vL) (n:Nat),(K.lookup a=aa o/\o.cls=.type "list")/\(o.dict=ab/\o.data=.seq its n)/\its.size<=ay/\Vals b its.toList
inductive Ents(K:Fg)(ad:List Addr)(H:Hp):List (List Key×V)->List D->Prop where
 |nil:Ents K ad H [] []
 |cons {i j:Int}{v:V}{d:D}{kvs:List (List Key×V)}{ds:List D} (h:Den K ad H v d) (r:Ents K ad H kvs ds):Ents K ad H (([.inl i,.inl j],v) :: kvs) (.tup [.int i,.int j,d] :: ds)
theorem Ents.map(x:Keeps K ad ad' H H')(h:Ents K ad H kvs ds):Ents K ad' H' kvs ds:=by
 induction h with
 |nil=>exact .nil
 |cons h _ a=>exact .cons (h.map x) a
def Ents.mono(x:Ext ad H ad' H')(h:Ents K ad H kvs ds):Ents K ad' H' kvs ds:=h.map x.keeps
inductive CellOk(K:Fg)(ad:List Addr)(H:Hp)(a:Addr)(c:YO):Prop where
 |l {xs:List V} (n:¬Ye H a) (r:Dens K ad H xs c.2) (h:(c.1=ae/\H a=aa (.lst xs))\/(c.1=af/\((∃ o,H a=aa (.frz o (.lst xs)))\/KL K a xs)))
 |d {kvs:List (List Key×V)} (r:Ents K ad H kvs c.2) (e:c.1=ae) (h:H a=aa (.dT kvs))
structure StOk(K:Fg)(ad:List Addr)(H:Hp)(st:Za):Prop where
 len:ad.length=st.length
 nd:∀ (i j:Nat) (a:Addr) (c d:List D),ad[i]?=aa a->ad[j]?=aa a->st[i]?=aa (ae,c)->st[j]?=aa (ae,d)->i=j
 cell:∀ (i:Nat) (c:YO),st[i]?=aa c->∃ a,ad[i]?=aa a/\CellOk K ad H a c
def CellOk.sq{a:Ad}{c:YO}(h:CellOk K ad H a c)(n:¬Ye H a):∃ f,Dens K ad H f c.2/\SqL K H a f:=by
 cases h with
 |l _ r h=>
  obtain⟨_,e⟩|⟨_,⟨o,e⟩|⟨o,b,n,⟨p,m⟩,⟨k,j⟩,i,g⟩⟩:=h
  .exact⟨_,r,.inl (.inl e)⟩
  .exact⟨_,r,.inl (.inr ⟨o,e⟩)⟩
  .exact⟨_,r,.inr ⟨o,b,n,p,m,k,j,i,g⟩⟩
 |d r e h=>exact au ⟨_,h⟩ n
def StOk.list{a:Ad}{b:Bool}(S:StOk K ad H st)(h:LA ad H i a)(e:st[i]?=aa (b,ds)):∃ d,Dens K ad H d ds/\SqL K H a d:=by
 obtain⟨g,f,c⟩:=S.cell i _ e;rw[h.1]at f;cases f
 exact c.sq h.2
def StOk.listM{a:Ad}(S:StOk K ad H st)(h:LA ad H i a)(e:st[i]?=aa (ae,ds)):∃ b,Dens K ad H b ds/\H a=aa (.lst b):=by
 obtain⟨g,f,c⟩:=S.cell i _ e;rw[h.1]at f;cases f
 cases c with
 |l _ r q=>
  obtain⟨_,q⟩|⟨q,_⟩:=q
  .exact⟨_,r,q⟩
  .cases q
 |d r _ q=>exact au ⟨_,q⟩ h.2
def StOk.dict{a:Ad}{b:Bool}(S:StOk K ad H st)(h:ad[i]?=aa a)(n:Ye H a)(e:st[i]?=aa (b,ds)):∃ kvs,Ents K ad H kvs ds/\H a=aa (.dT kvs)/\b=ae:=by
 obtain⟨g,f,c⟩:=S.cell i _ e;rw[h]at f;cases f
 cases c with
 |l z=>exact au n z
 |d r e q=>exact⟨_,r,q,e⟩
def WK{a:Ad}(b:¬Ye H p)(c:∀ kvs,o≠.dT kvs):Ye H a↔Ye (upd H p o) a:=by
 by_cases z:a=p
 .subst z
  exact⟨λq=>au q b,λq=>au q (Wy upd_same c)⟩
 .unfold Ye
  rw[upd_ne z]
def QF(a:H p=ab):¬Ye H p:=λ⟨_,z⟩=>by rw[a]at z;cases z
def Ext.laid(a:H p=ab)(d:∀ kvs,o≠.dT kvs:=by intro _ z;cases z):Ext ad H ad (upd H p o):=
 ⟨λ_ _ h=>h,λb c h=>by rw[upd_ne (ne_of_none h a)];exact h,λb c h=>by rw[upd_ne (ne_of_none h a)];exact h,λb o h _=>by rw[upd_ne (ne_of_none h a)];exact h,λ_ h=>.inl h,λ_ _ _=>WK (QF a) d⟩
def CellOk.laid{a:Ad}{c:YO}(g:ad[i]?=aa a)(f:H p=ab)(x:Ext ad H ad' (upd H p o))(h:CellOk K ad H a c):CellOk K ad' (upd H p o) a c:=by
 cases h with
 |l n r h=>
  refine .l (λz=>n ((x.kd i a g).mpr z)) (r.mono x) ?_
  rcases h with⟨b,e⟩|⟨b,⟨o,e⟩|e⟩
  .exact .inl ⟨b,by rw[upd_ne (ne_of_none e f)];exact e⟩
  .exact .inr ⟨b,.inl ⟨o,by rw[upd_ne (ne_of_none e f)];exact e⟩⟩
  .exact .inr ⟨b,.inr e⟩
 |d r e h=>exact .d (r.mono x) e (by rw[upd_ne (ne_of_none h f)];exact h)
theorem StOk.laid(S:StOk K ad H st)(b:H p=ab)(d:∀ kvs,o≠.dT kvs:=by intro _ z;cases z):StOk K ad (upd H p o) st:=
 ⟨S.len,S.nd,λi c e=>let ⟨a,h,q⟩:=S.cell i c e;⟨a,h,q.laid h b (Ext.laid b d)⟩⟩
def Xu{l:Li α}{x y:α}(h:(l++[x])[i]?=aa y):l[i]?=aa y\/(i=l.length/\y=x):=by
 by_cases a:i < l.length
 .rw[bP a]at h
  exact .inl h
 .rw[bD (by omega)]at h
  have:i - l.length=0:=by
   cases e:i - l.length with
   |zero=>rfl
   |succ k=>rw[e]at h;simp at h
  rw[this]at h;simp at h;exact .inr ⟨by omega,h.symm⟩
def Y7{l:Li α}{x y:α}(h:l[i]?=aa y):(l++[x])[i]?=aa y:=by
 rw[bP (bG.mp h).1];exact h
def Zt{l:Li α}{x:α}:(l++[x])[l.length]?=aa x:=by simp
def Ext.pushG(c:H p=ab)(e:∀ (i:Nat) (a:Ad),ad[i]?=aa a->(Ye H a↔Ye (upd H p o) a)):Ext ad H (ad++[p]) (upd H p o):=
 ⟨λ_ _ h=>Y7 h,λb d h=>by rw[upd_ne (ne_of_none h c)];exact h,λb d h=>by rw[upd_ne (ne_of_none h c)];exact h,λb o h _=>by rw[upd_ne (ne_of_none h c)];exact h,λb h=>(aY.mp h).elim .inl λz=>.inr (by rw[aP.mp z];exact c),e⟩
def Ext.push(a:H p=ab):Ext ad H (ad++[p]) (upd H p (.lst xs)):=Ext.pushG a λ_ _ _=>WK (QF a) λ_ z=>nomatch z
def StOk.more(S:StOk K ad H st)(o:∀ (i:Nat) (c:Li D),ad[i]?=aa p->st[i]?=aa (ae,c)->False)(u:∀ (i:Nat) (c:YO) (a:Ad),ad[i]?=aa a->CellOk K ad H a c->CellOk K (ad++[p]) H' a c)(t:CellOk K (ad++[p]) H' p (ae,ds)):StOk K (ad++[p]) H' (st++[(ae,ds)]):=by
 have b:∀ (i:Nat) (c:Li D) (a:Ad),(ad++[p])[i]?=aa a->st[i]?=aa (ae,c)->ad[i]?=aa a:=λi c a h e=>by
  obtain⟨z,k,_⟩:=S.cell i _ e;have n:=Y7 (x:=p) k;rw[h]at n;cases n;exact k
 refine⟨by rw[aH,aH,S.len];rfl,λi j a c d m l g f=>?_,λi c e=>?_⟩
 .rcases Xu g with g|⟨v,_⟩
  .rcases Xu f with f|⟨r,_⟩
   .exact S.nd i j a c d (b i c a m g) (b j d a l f) g f
   .have k:=b i c a m g
    rw[r,<-S.len,Zt]at l;cases l;exact(o i c k g).elim
  .rcases Xu f with f|⟨r,_⟩
   .have s:=b j d a l f
    rw[v,<-S.len,Zt]at m;cases m;exact(o j d s f).elim
   .omega
 .rcases Xu e with e|⟨y,w⟩
  .obtain⟨a,h,q⟩:=S.cell i c e
   exact⟨a,Y7 h,u i c a h q⟩
  .subst w
   exact⟨p,by rw[y,<-S.len];exact Zt,t⟩
def StOk.noNew(S:StOk K ad H st)(a:H p=ab)(i:Nat)(c:Li D)(h:ad[i]?=aa p)(e:st[i]?=aa (ae,c)):False:=by
 obtain⟨f,b,q⟩:=S.cell i _ e;rw[h]at b;cases b
 cases q with
 |l _ _ q=>
  obtain⟨_,q⟩|⟨q,_⟩:=q
  .rw[a]at q;cases q
  .cases q
 |d _ _ q=>rw[a]at q;cases q
theorem StOk.push(S:StOk K ad H st)(a:H p=ab)(r:Dens K ad H xs ds):StOk K (ad++[p]) (upd H p (.lst xs)) (st++[(ae,ds)]):=
 S.more (S.noNew a) (λ_ _ _ h q=>q.laid h a (Ext.push a)) (.l (Wy upd_same λ_ z=>nomatch z) (r.mono (Ext.push a)) (.inl ⟨rfl,upd_same⟩))
def StOk.wrG(S:StOk K ad H st)(kp:Keeps K ad ad H (upd H p o))(f:p∉ad):StOk K ad (upd H p o) st:=
 ⟨S.len,S.nd,λi c e=>by
  obtain⟨a,h,q⟩:=S.cell i c e;have ne:a≠p:=λz=>f (by rw[<-z];exact aW h)
  refine⟨a,h,?_⟩;cases q with
  |l n r q=>
   refine .l (λz=>n ((kp.l h).2.mpr z)) (r.map kp) ?_
   rcases q with⟨b,q⟩|⟨b,⟨o,q⟩|q⟩
   .exact .inl ⟨b,by rw[upd_ne ne];exact q⟩
   .exact .inr ⟨b,.inl ⟨o,by rw[upd_ne ne];exact q⟩⟩
   .exact .inr ⟨b,.inr q⟩
  |d r t q=>exact .d (r.map kp) t (by rw[upd_ne ne];exact q)⟩
def StOk.has{a:Ad}(S:StOk K ad H st)(b:ad[i]?=aa a):(∃ o,H a=aa o)\/∃ o,K.lookup a=aa o:=by
 obtain⟨h,c,q⟩:=S.cell i _ (Lg (show i < st.length by rw[<-S.len];exact(bG.mp b).1))
 rw[b]at c;cases c
 cases q with
 |l _ _ q=>
  obtain⟨_,q⟩|⟨_,⟨o,q⟩|⟨o,e,m,⟨f,g⟩,_⟩⟩:=q
  .exact .inl ⟨_,q⟩
  .exact .inl ⟨_,q⟩
  .exact .inr ⟨_,f⟩
 |d _ _ q=>exact .inl ⟨_,q⟩
def StOk.extD(S:StOk K ad H st)(b:H p=ab)(c:∀ o,K.lookup p≠aa o):Ext ad H (ad++[p]) (upd H p (.dT kvs)):=
 Ext.pushG b λi a h=>by
  have n:a≠p:=λz=>(S.has h).elim (λ⟨o,q⟩=>by rw[z,b]at q;cases q) λ⟨o,q⟩=>c o (z ▸ q)
  unfold Ye;rw[upd_ne n]
def StOk.pushD(S:StOk K ad H st)(a:H p=ab)(b:∀ o,K.lookup p≠aa o):StOk K (ad++[p]) (upd H p (.dT [])) (st++[(ae,[])]):=
 S.more (S.noNew a) (λ_ _ _ h q=>q.laid h a (S.extD a b)) (.d .nil rfl upd_same)
def StOk.adopt(S:StOk K ad H st)(a:H p=aa (.lst xs))(c:p∉ad)(r:Dens K ad H xs ds):StOk K (ad++[p]) H (st++[(ae,ds)]):=by
 have kp:Keeps K ad (ad++[p]) H H:=Zeg (λ_ _ h=>Y7 h) (λb f=>(aY.mp f).imp id λz=>⟨xs,by rw[aP.mp z];exact a⟩)
 exact S.more (λi _ h _=>c (aW h)) (λ_ _ _ _ q=>by
  cases q with
  |l n r h=>exact .l n (r.map kp) h
  |d r e h=>exact .d (r.map kp) e h) (.l (Wy a λ_ z=>nomatch z) (r.map kp) (.inl ⟨rfl,a⟩))
def Ext.writeG{a:Ad}{d:HO}(h:H a=aa o)(i:a∈ad)(k:∀ c,o≠.tup c)(j:∀ c,o≠.dK c)(g:Ye H a↔Ye (upd H a d) a):Ext ad H ad (upd H a d):=
 ⟨λ_ _ h=>h,λb f e=>by rw[upd_ne (ne_of e h (λz=>k _ z.symm))];exact e,λb f e=>by rw[upd_ne (ne_of e h (λz=>j _ z.symm))];exact e,λb o e n=>by rw[upd_ne (show b≠a from λz=>n (by rw[z];exact i))];exact e,λ_ h=>.inl h,λ_ b _=>by
  by_cases z:b=a
  .rw[z];exact g
  .unfold Ye;rw[upd_ne z]⟩
def Ext.write{a:Ad}(h:H a=aa (.lst xs))(b:a∈ad):Ext ad H ad (upd H a (.lst ys)):=
 Ext.writeG h b (λ_ z=>nomatch z) (λ_ z=>nomatch z) ⟨λz=>au z (Wy h λ_ z=>nomatch z),λz=>au z (Wy upd_same λ_ z=>nomatch z)⟩
def StOk.writeG{a:Ad}{g:HO}(S:StOk K ad H st)(h:ad[i]?=aa a)(e:st[i]?=aa (ae,ds))(y:H a=aa o)(B:∀ q u,o≠.frz q u)(x:Ext ad H ad (upd H a g))(r:CellOk K ad (upd H a g) a (ae,es)) :
  StOk K ad (upd H a g) (st.set i (ae,es)):=by
 have A:i < st.length:=(bG.mp e).1;refine⟨by rw[bL];exact S.len,λj k b c d E C s p=>?_,λj c q=>?_⟩
 .have up:∀ (j:Nat) (c:Li D),(st.set i (ae,es))[j]?=aa (ae,c)->∃ v,st[j]?=aa (ae,v):=λj c q=>by
   by_cases z:i=j
   .subst z;exact⟨_,e⟩
   .rw[bO z]at q;exact⟨_,q⟩
  obtain⟨v,s⟩:=up j c s;obtain⟨F,p⟩:=up k d p;exact S.nd j k b v F E C s p
 .by_cases z:i=j
  .subst z
   rw[bH A]at q;cases q;exact⟨a,h,r⟩
  .rw[bO z]at q
   obtain⟨b,m,hz⟩:=S.cell j c q;refine⟨b,m,?_⟩;have ne:c.1=ae->b≠a:=λt w=>by
    obtain⟨I,G⟩:=c;cases (show I=ae from t)
    exact z (S.nd i j a ds G h (w ▸ m) e q)
   cases hz with
   |l n f hz=>
    refine .l (λz=>n ((x.kd j b m).mpr z)) (f.mono x) ?_
    rcases hz with⟨t,hz⟩|⟨t,⟨o,hz⟩|hz⟩
    .exact .inl ⟨t,by rw[upd_ne (ne t)];exact hz⟩
    .exact .inr ⟨t,.inl ⟨o,by rw[upd_ne (ne_of hz y (λz=>B _ _ z.symm))];exact hz⟩⟩
    .exact .inr ⟨t,.inr hz⟩
   |d f t hz=>exact .d (f.mono x) t (by rw[upd_ne (ne t)];exact hz)
theorem StOk.write{a:Ad}(S:StOk K ad H st)(h:LA ad H i a)(e:st[i]?=aa (ae,ds))(b:H a=aa (.lst xs))(r:Dens K ad H ys es) :
  StOk K ad (upd H a (.lst ys)) (st.set i (ae,es)):=
 S.writeG h.1 e b (λ_ _ z=>nomatch z) (Ext.write b (aW h.1)) (.l (Wy upd_same λ_ z=>nomatch z) (r.mono (Ext.write b (aW h.1))) (.inl ⟨rfl,upd_same⟩))
def Ext.writeD{a:Ad}(h:H a=aa (.dT kvs))(b:a∈ad):Ext ad H ad (upd H a (.dT kvs')):=
 Ext.writeG h b (λ_ z=>nomatch z) (λ_ z=>nomatch z) ⟨λ_=>⟨_,upd_same⟩,λ_=>⟨_,h⟩⟩
theorem StOk.writeD{a:Ad}(S:StOk K ad H st)(h:ad[i]?=aa a)(e:st[i]?=aa (ae,ds))(b:H a=aa (.dT kvs))(r:Ents K ad H kvs' es) :
  StOk K ad (upd H a (.dT kvs')) (st.set i (ae,es)):=
 S.writeG h e b (λ_ _ z=>nomatch z) (Ext.writeD b (aW h)) (.d (r.mono (Ext.writeD b (aW h))) rfl upd_same)
structure EnvOk(K:Fg)(ad:List Addr)(H:Hp)(O:L2.St)(U:Env):Prop where
 len:O.length=U.length
 at_:∀ (i:Nat) (d:D),U[i]?=aa (aa d)->∃ v,O[i]?=aa (aa v)/\Den K ad H v d
theorem EnvOk.mono(x:Ext ad H ad' H')(h:EnvOk K ad H O U):EnvOk K ad' H' O U:=⟨h.len,λi d e=>let ⟨v,e1,e2⟩:=h.at_ i d e;⟨v,e1,e2.mono x⟩⟩
theorem EnvOk.set{v:V}(h:EnvOk K ad H O U)(i:Nat)(r:Den K ad H v d):EnvOk K ad H (O.set i (aa v)) (Zj U i d):=by
 refine⟨by unfold Zj;rw[bL,bL];exact h.len,λj e q=>?_⟩
 unfold Zj at q;by_cases z:i=j
 .subst z
  by_cases a:i < U.length
  .rw[bH a]at q
   cases q;exact⟨v,by rw[bH (by rw[h.len];exact a)],r⟩
  .rw[eH (by rw[bL];omega)]at q
   cases q
 .rw[bO z]at q
  obtain⟨w,c,b⟩:=h.at_ j e q;exact⟨w,by rw[bO z];exact c,b⟩
def Post(K:Fg)(ad:Li Ad)(H:Hp)(d:D)(a:Za)(Q:VK):Prop:=∀ v ad' H',Ext ad H ad' H'->StOk K ad' H' a->Den K ad' H' v d->Q v H'
def tE(K:Fg)(f:Env->Za->Res):TE:=λO H Q=>∃ ad U st d a,EnvOk K ad H O U/\StOk K ad H st/\f U st=aa (d,a)/\Post K ad H d a Q
def tT(K:Fg)(f:Env->Za->Res):TT:=λO H Q=>∃ ad U st k a,EnvOk K ad H O U/\StOk K ad H st/\f U st=aa (.bl k,a)/\∀ ad' H',Ext ad H ad' H'->StOk K ad' H' a->Q k H'
def tA(K:Fg)(f:Env->Za->Res):TA:=λO H Q=>∃ ad U st ds a,EnvOk K ad H O U/\StOk K ad H st/\f U st=aa (.tup ds,a)/\∀ vs ad' H',Ext ad H ad' H'->StOk K ad' H' a->Dens K ad' H' vs ds->Q vs H'
def rD(K:Fg)(f:D->D->Za->Res):R2:=λx y H Q=>∃ ad st c b d a,StOk K ad H st/\Den K ad H x c/\Den K ad H y b/\f c b st=aa (d,a)/\Post K ad H d a Q
noncomputable def spD(K:Fg)(g:Fn):Sp:=λvs H Q _=>∃ ad ds st d a,StOk K ad H st/\Dens K ad H vs ds/\g ds st=aa (d,a)/\Post K ad H d a Q
def tS(K:Fg)(f:Env->Za->Ot (Fl×Za)):TS:=λD O H=>∃ ad U st r a,EnvOk K ad H O U/\StOk K ad H st/\f U st=aa (r,a) /\
 match r with
 |.nx U'=>∀ b ad' H',Ext ad H ad' H'->StOk K ad' H' a->EnvOk K ad' H' b U'->D.nx b H'
 |.bk U'=>∀ b ad' H',Ext ad H ad' H'->StOk K ad' H' a->EnvOk K ad' H' b U'->D.bk b H'
 |.ct U'=>∀ b ad' H',Ext ad H ad' H'->StOk K ad' H' a->EnvOk K ad' H' b U'->D.ct b H'
 |.rt d=>Post K ad H d a D.rt
def Post.at{Q:VK}(p:Post K ad H d st Q)(S:StOk K ad H st){v:V}(h:Den K ad H v d):Q v H:=p v ad H (Ext.refl _ _) S h
def Post.later{Q:VK}(p:Post K ad H d st Q)(x:Ext ad H ad' H'):Post K ad' H' d st Q:=λv a b y S h=>p v a b (x.trans y) S h
variable [ClsTab]
variable{x:D}{st':Za}
variable{X:Cx}
section
variable{a b c:az}{fa fb fc:Ev}{pos:Pos}
def Zb8(O:L2.St)(H:Hp)(Q:VK)(h:tE K (Z4 i) O H Q):tVar i O H Q:=by
 obtain⟨ad,U,st,d,st',E,S,e,p⟩:=h;unfold Z4 at e;split at e
 .rename_i q
  obtain⟨v,b,a⟩:=E.at_ i _ q;cases e;exact⟨v,b,p.at S a⟩
 .exact Zb e
def V8{v:V}(hd:∀ ad H,Den K ad H v d)(O:L2.St)(H:Hp)(Q:VK)(h:tE K (evC d) O H Q):tC v O H Q:=by
 obtain⟨ad,U,st,a,st',E,S,e,p⟩:=h;cases e;exact p.at S (hd _ _)
def Vl{g:D->D->Za->Res}(O:L2.St)(H:Hp)(Q:VK)(h:tE K (ZH fa fb g) O H Q):tOp (rD K g) (tE K fa) (tE K fb) O H Q:=by
 obtain⟨ad,U,st,d,st',E,S,e,p⟩:=h;unfold ZH at e;split at e
 .rename_i x b l
  split at e
  .rename_i y a k
   refine⟨ad,U,st,x,b,E,S,l,λs f u j q n=>⟨f,U,b,y,a,E.mono j,q,k,λr c t i o m=>?_⟩⟩
   exact⟨c,a,x,y,d,st',o,n.mono i,m,e,p.later (j.trans i)⟩
  .exact Zb e
 .exact Zb e
def rU1(K:Fg)(g:D->Za->Res):V->Hp->VK->Prop:=λx H Q=>∃ ad st a d st',StOk K ad H st/\Den K ad H x a/\g a st=aa (d,st')/\Post K ad H d st' Q
def J6{g:D->Za->Res}(O:L2.St)(H:Hp)(Q:VK)(h:tE K (Zl fa g) O H Q):tUn (rU1 K g) (tE K fa) O H Q:=by
 obtain⟨ad,U,st,d,st',E,S,e,p⟩:=h;unfold Zl at e;split at e
 .rename_i x a f
  exact⟨ad,U,st,x,a,E,S,f,λk b l c j i=>⟨b,a,x,d,st',j,i,e,p.later c⟩⟩
 .exact Zb e
def J5(O:L2.St)(H:Hp)(Q:Bool->Hp->Prop)(h:tT K fa O H Q):tE K fa O H λx d=>∃ c,x=.bl c/\Q c d:=by
 obtain⟨ad,U,st,k,st',E,S,e,p⟩:=h;exact⟨ad,U,st,.bl k,st',E,S,e,λv ad' H' x b a=>⟨k,a.ofBl,p ad' H' x b⟩⟩
def Z9{a b:Ev}{r:D×Za}(h:YY fc a b U st=aa r):∃ k st1,fc U st=aa (.bl k,st1)/\(if k=ae then a U st1 else b U st1)=aa r:=by
 unfold YY at h;split at h
 .rename_i st1 q
  exact⟨ae,st1,q,by rw[aq rfl];exact h⟩
 .rename_i st1 q
  exact⟨af,st1,q,by rw[ar Bf];exact h⟩
 .exact Zb h
def Zd9(O:L2.St)(H:Hp)(Q:VK)(h:tE K (YY fc fa fb) O H Q):tIf (tT K fc) (tE K fa) (tE K fb) O H Q:=by
 obtain⟨ad,U,st,d,st',E,S,e,p⟩:=h;obtain⟨k,a,q,e⟩:=Z9 e;refine⟨ad,U,st,k,a,E,S,q,λb g c f=>?_⟩
 cases k with
 |true=>
  rw[aq rfl]at e ⊢;exact⟨b,U,a,d,st',E.mono c,f,e,p.later c⟩
 |false=>
  rw[ar Bf]at e ⊢;exact⟨b,U,a,d,st',E.mono c,f,e,p.later c⟩
def JO(O:L2.St)(H:Hp)(Q:VK)(h:tE K (YY fa fb (evC (.bl af))) O H Q):tAndV (tE K fa) (tE K fb) O H Q:=by
 obtain⟨ad,U,st,d,st',E,S,e,p⟩:=h;obtain⟨k,a,q,e⟩:=Z9 e;refine⟨ad,U,st,.bl k,a,E,S,q,λi c j b f g=>⟨k,g.ofBl,?_⟩⟩
 cases k with
 |true=>
  rw[aq rfl]at e ⊢;exact⟨c,U,a,d,st',E.mono b,f,e,p.later b⟩
 |false=>
  rw[ar Bf]at e ⊢;cases e;exact(p.later b).at f (.bl af)
def Zb1(O:L2.St)(H:Hp)(Q:VK)(h:tE K (YY fa (evC (.bl ae)) fb) O H Q):tOrV (tE K fa) (tE K fb) O H Q:=by
 obtain⟨ad,U,st,d,st',E,S,e,p⟩:=h;obtain⟨k,a,q,e⟩:=Z9 e;refine⟨ad,U,st,.bl k,a,E,S,q,λi c j b f g=>⟨k,g.ofBl,?_⟩⟩
 cases k with
 |true=>
  rw[aq rfl]at e ⊢;cases e;exact(p.later b).at f (.bl ae)
 |false=>
  rw[ar Bf]at e ⊢;exact⟨c,U,a,d,st',E.mono b,f,e,p.later b⟩
def JN(O:L2.St)(H:Hp)(Q:Bool->Hp->Prop)(h:tT K (YY fa fb (evC (.bl af))) O H Q):tAnd (tT K fa) (tT K fb) O H Q:=by
 obtain⟨ad,U,st,d,st',E,S,e,p⟩:=h;obtain⟨k,a,q,e⟩:=Z9 e;refine⟨ad,U,st,k,a,E,S,q,λb m c g=>?_⟩
 cases k with
 |true=>
  rw[aq rfl]at e ⊢;exact⟨b,U,a,d,st',E.mono c,g,e,λf l i j=>p f l (c.trans i) j⟩
 |false=>
  rw[ar Bf]at e ⊢;cases e;exact p b m c g
def Zb0(O:L2.St)(H:Hp)(Q:Bool->Hp->Prop)(h:tT K (YY fa (evC (.bl ae)) fb) O H Q):tOr (tT K fa) (tT K fb) O H Q:=by
 obtain⟨ad,U,st,d,st',E,S,e,p⟩:=h;obtain⟨k,a,q,e⟩:=Z9 e;refine⟨ad,U,st,k,a,E,S,q,λb m c g=>?_⟩
 cases k with
 |true=>
  rw[aq rfl]at e ⊢;cases e;exact p b m c g
 |false=>
  rw[ar Bf]at e ⊢;exact⟨b,U,a,d,st',E.mono c,g,e,λf l i j=>p f l (c.trans i) j⟩
def JZ(O:L2.St)(H:Hp)(Q:Bool->Hp->Prop)(h:tT K (Zl fa Zau) O H Q):tNot (tT K fa) O H Q:=by
 obtain⟨ad,U,st,d,st',E,S,e,p⟩:=h;unfold Zl at e;split at e
 .rename_i x a f
  cases x with
  |bl k=>
   cases (show aa (D.bl (!k),a)=_ from e)
   exact⟨ad,U,st,k,_,E,S,f,λb i c g=>p b i c g⟩
  |_=>simp[Zau]at e
 .exact Zb e
def J0(O:L2.St)(H:Hp)(Q:VK)(h:tE K (Zl fa Zau) O H Q):tNotV (tE K fa) O H Q:=by
 obtain⟨ad,U,st,d,st',E,S,e,p⟩:=h;unfold Zl at e;split at e
 .rename_i x a c
  cases x with
  |bl k=>
   cases (show aa (D.bl (!k),a)=_ from e)
   exact⟨ad,U,st,.bl k,_,E,S,c,λj g l b i f=>⟨k,f.ofBl,(p.later b).at i (.bl _)⟩⟩
  |_=>simp[Zau]at e
 .exact Zb e
def Wo(O:L2.St)(H:Hp)(Q:Li V->Hp->Prop)(h:tA K (evC (.tup [])) O H Q):tNil O H Q:=by
 obtain⟨ad,U,st,d,st',E,S,e,p⟩:=h;cases e;exact p [] ad H (Ext.refl _ _) S .nil
def WZ(O:L2.St)(H:Hp)(Q:Li V->Hp->Prop)(h:tA K (ZH fa fb V1) O H Q):tCons (tE K fa) (tA K fb) O H Q:=by
 obtain⟨ad,U,st,d,st',E,S,e,p⟩:=h;unfold ZH at e;split at e
 .rename_i x a l
  split at e
  .rename_i y c k
   cases y with
   |tup b=>
    have e:(if b.length < 1000 then aa (D.tup (x :: b),c) else ab)=aa (D.tup d,st'):=e
    split at e
    .cases e
     refine⟨ad,U,st,_,a,E,S,l,λt g u j q n=>⟨g,U,a,b,_,E.mono j,q,k,λs f r i o m=>?_⟩⟩
     exact p _ f r (j.trans i) o (.cons (n.mono i) m)
    .cases e
   |_=>simp[V1]at e
  .cases e
 .cases e
def Zb7(i:∀ U st ds st',fa U st=aa (.tup ds,st')->ds.length<=1000)(g:∀ U st d st',fa U st=aa (d,st')->∃ ds,d=.tup ds)(O:L2.St)(H:Hp)(Q:VK)(h:tE K fa O H Q):tTup (tA K fa) O H Q:=by
 obtain⟨ad,U,st,d,st',E,S,e,p⟩:=h;obtain⟨ds,rfl⟩:=g _ _ _ _ e;refine⟨ad,U,st,ds,st',E,S,e,λvs b k f j c=>⟨?_,λq a=>?_⟩⟩
 .rw[c.length]
  exact aJ (i _ _ _ _ e) (by decide)
 .exact p _ b _ (f.trans (Ext.laid a)) (j.laid a) (.tup (.inl upd_same) (c.mono (Ext.laid a)))
def ZbY(k:∀ U st ds st',fa U st=aa (.tup ds,st')->ds.length<=1000)(O:L2.St)(H:Hp)(Q:VK)(h:tE K (Zl fa Zci) O H Q):tLst (tA K fa) O H Q:=by
 obtain⟨ad,U,st,d,st',E,S,e,p⟩:=h;unfold Zl at e;split at e
 .rename_i x a c
  cases x with
  |tup ds=>
   cases (show aa (D.lst a.length,a++[(ae,ds)])=_ from e)
   refine⟨ad,U,st,ds,_,E,S,c,λvs b l j i g=>⟨?_,λq f=>?_⟩⟩
   .rw[g.length]
    exact aJ (k _ _ _ _ c) (by decide)
   .refine p _ (b++[q]) _ (j.trans (Ext.push f)) (i.push f g) (.newL ?_)
    rw[<-i.len];exact Zt
  |_=>simp[Zci]at e
 .exact Zb e
def V9{g:Fn}{a:Li V}{E:XK}(hd:∀ ad H,Dens K ad H a ds)(O:L2.St)(H:Hp)(Q:VK)(h:tE K (Zl fa (XT g ds)) O H Q):tCall (spD K g) a E (tA K fa) O H Q:=by
 obtain⟨ad,U,st,d,st',E,S,e,p⟩:=h;unfold Zl at e;split at e
 .rename_i x i j
  cases x with
  |tup c=>exact⟨ad,U,st,c,_,E,S,j,λvs b m f l k=>⟨b,c++ds,_,d,st',l,k.append (hd _ _),e,p.later f⟩⟩
  |_=>simp[XT]at e
 .exact Zb e
def rC(K:Fg)(g:Li D->Za->Res):Li V->Hp->VK->Prop:=λvs H Q=>∃ ad st ds d st',StOk K ad H st/\Dens K ad H vs ds/\g ds st=aa (d,st')/\Post K ad H d st' Q
noncomputable def on1(g:D->Za->Res):Li D->Za->Res
 |[x],st=>g x st
 |_,_=>ab
def Y1{g:D->Za->Res}(O:L2.St)(H:Hp)(Q:VK)(h:tE K (Zl fa g) O H Q):tCB (rC K (on1 g)) (tCons (tE K fa) tNil) O H Q:=by
 obtain⟨ad,U,st,d,st',E,S,e,p⟩:=h;unfold Zl at e;split at e
 .rename_i x a f
  exact⟨ad,U,st,x,a,E,S,f,λk b l c j i=>⟨b,a,[x],d,st',j,.cons i .nil,e,p.later c⟩⟩
 .exact Zb e
def tO(K:Fg)(f:Ev):TO:=λO H Q=>∃ ad U st d st',EnvOk K ad H O U/\StOk K ad H st/\f U st=aa (d,st') /\
 ((d=.non/\∀ ad' H',Ext ad H ad' H'->StOk K ad' H' st'->Q ab H')\/∃ i,d=.int i/\∀ ad' H',Ext ad H ad' H'->StOk K ad' H' st'->Q (aa i) H')
def rSl(K:Fg):V->Ot Int->Ot Int->Hp->VK->Prop:=λx lo b H Q=>∃ ad st a d st',StOk K ad H st/\Den K ad H x a/\Ya a lo b st=aa (d,st')/\Post K ad H d st' Q
noncomputable def part:D->Ot (Ot Int)
 |.non=>aa ab
 |.int i=>aa (aa i)
 |_=>ab
def VC{l h:D}{r:D×Za}(e:YM x l h st=aa r):∃ lo a,part l=aa lo/\part h=aa a/\Ya x lo a st=aa r:=by
 unfold YM at e;split at e
 .exact⟨_,_,rfl,rfl,e⟩
 .exact⟨_,_,rfl,rfl,e⟩
 .exact⟨_,_,rfl,rfl,e⟩
 .exact⟨_,_,rfl,rfl,e⟩
 .exact Zb e
def Zdy{f:Ev}{Q:Ot Int->Hp->Prop}{o:Ot Int}(E:EnvOk K ad H O U)(S:StOk K ad H st)(e:f U st=aa (d,st'))(a:part d=aa o)(q:∀ ad' H',Ext ad H ad' H'->StOk K ad' H' st'->Q o H'):tO K f O H Q:=by
 refine⟨ad,U,st,d,st',E,S,e,?_⟩;cases d with
 |non=>cases a;exact .inl ⟨rfl,q⟩
 |int i=>cases a;exact .inr ⟨i,rfl,q⟩
 |_=>exact Zb a
def Q8(O:L2.St)(H:Hp)(Q:VK)(h:tE K (Yz fa fb fc YM) O H Q):tSl (rSl K) (tE K fa) (tO K fb) (tO K fc) O H Q:=by
 obtain⟨ad,U,st,d,st',E,S,e,p⟩:=h;unfold Yz at e;split at e
 .rename_i x f m
  split at e
  .rename_i y j l
   split at e
   .rename_i z c k
    obtain⟨lo,A,n,o,e⟩:=VC e;refine⟨ad,U,st,x,f,E,S,m,λw s D b v q=>Zdy (E.mono b) v l n λr C a u=>Zdy (E.mono (b.trans a)) u k o λg B i t=>?_⟩
    exact⟨g,c,x,d,st',t,q.mono (a.trans i),e,p.later (b.trans (a.trans i))⟩
   .exact Zb e
  .exact Zb e
 .exact Zb e
def ZbZ(O:L2.St)(H:Hp)(Q:Ot Int->Hp->Prop)(h:tO K (evC .non) O H Q):tNoPart O H Q:=by
 obtain⟨ad,U,st,d,st',E,S,e,p⟩:=h;cases e;rcases p with⟨_,p⟩|⟨i,z,_⟩
 .exact p ad H (Ext.refl _ _) S
 .cases z
end
variable [ClsTab]
def PostS(K:Fg)(ad:Li Ad)(H:Hp)(r:Fl)(st':Za)(D:Ends):Prop:=match r with
 |.nx U'=>∀ a ad' H',Ext ad H ad' H'->StOk K ad' H' st'->EnvOk K ad' H' a U'->D.nx a H'
 |.bk U'=>∀ a ad' H',Ext ad H ad' H'->StOk K ad' H' st'->EnvOk K ad' H' a U'->D.bk a H'
 |.ct U'=>∀ a ad' H',Ext ad H ad' H'->StOk K ad' H' st'->EnvOk K ad' H' a U'->D.ct a H'
 |.rt d=>Post K ad H d st' D.rt
theorem PostS.later{r:Fl}{D:Ends}(x:Ext ad H ad' H')(p:PostS K ad H r st D):PostS K ad' H' r st D:=by
 cases r with
 |nx U=>exact λa b c y S E=>p a b c (x.trans y) S E
 |bk U=>exact λa b c y S E=>p a b c (x.trans y) S E
 |ct U=>exact λa b c y S E=>p a b c (x.trans y) S E
 |rt d=>exact Post.later p x
def ZR{f:Ex}{D:Ends}{r:Fl}(E:EnvOk K ad H O U)(S:StOk K ad H st)(e:f U st=aa (r,st'))(p:PostS K ad H r st' D):tS K f D O H:=by
 refine⟨ad,U,st,r,st',E,S,e,?_⟩;cases r<;>exact p
def ZP{f:Ex}{D:Ends}(h:tS K f D O H):∃ ad U st r st',EnvOk K ad H O U/\StOk K ad H st/\f U st=aa (r,st')/\PostS K ad H r st' D:=by
 obtain⟨ad,U,st,r,st',E,S,e,p⟩:=h;refine⟨ad,U,st,r,st',E,S,e,?_⟩;cases r<;>exact p
variable{j l m:Nat}{E:Ends}{st1:Za}{B:D->Env->Za->Ot (Fl×Za)}
section
variable{f g:Ex}{fe fi fk:Ev}
def Ub(D:Ends)(O:L2.St)(H:Hp)(h:tS K (λU st=>aa (.nx U,st)) D O H):tNext D O H:=by
 obtain⟨ad,U,st,r,st',E,S,e,p⟩:=ZP h;cases e;exact p O ad H (Ext.refl _ _) S E
def ZbS(D:Ends)(O:L2.St)(H:Hp)(h:tS K (λU st=>aa (.bk U,st)) D O H):tBreak D O H:=by
 obtain⟨ad,U,st,r,st',E,S,e,p⟩:=ZP h;cases e;exact p O ad H (Ext.refl _ _) S E
def JQ(D:Ends)(O:L2.St)(H:Hp)(h:tS K (λU st=>aa (.ct U,st)) D O H):tCont D O H:=by
 obtain⟨ad,U,st,r,st',E,S,e,p⟩:=ZP h;cases e;exact p O ad H (Ext.refl _ _) S E
def Zb6(D:Ends)(O:L2.St)(H:Hp)(h:tS K (Yq f g) D O H):tSeq (tS K f) (tS K g) D O H:=by
 obtain⟨ad,U,st,r,st',E,S,e,p⟩:=ZP h;unfold Yq at e;split at e
 .rename_i a st1 q
  exact ZR E S q λb i l c j k=>ZR k j e (p.later c)
 .rename_i q
  refine ZR E S e ?_;cases r with
  |nx a=>exact au e (q a st')
  |bk a=>exact p
  |ct a=>exact p
  |rt d=>exact p
def Zb4(D:Ends)(O:L2.St)(H:Hp)(h:tS K (U3 fe) D O H):tRet (tE K fe) D O H:=by
 obtain⟨ad,U,st,r,st',E,S,e,p⟩:=ZP h;unfold U3 at e;split at e
 .rename_i d st1 q
  cases e;exact⟨ad,U,st,d,_,E,S,q,p⟩
 .exact Zb e
def Vm(D:Ends)(O:L2.St)(H:Hp)(h:tS K (VB i fe) D O H):tAsg (tE K fe) (gName i) D O H:=by
 obtain⟨ad,U,st,r,st',E,S,e,p⟩:=ZP h;unfold VB at e;split at e
 .rename_i d st1 q
  cases e;exact⟨ad,U,st,d,_,E,S,q,λv a g b f c=>p _ a g b f ((E.mono b).set i c)⟩
 .exact Zb e
def J3(D:Ends)(O:L2.St)(H:Hp)(h:tS K (WG i j fe) D O H):tAsg (tE K fe) (gTup K 2 (gCons (gName i) (gCons (gName j) gNil))) D O H:=by
 obtain⟨ad,U,st,r,st',E,S,e,p⟩:=ZP h;unfold WG at e;split at e
 .rename_i x y st1 q
  cases e;refine⟨ad,U,st,_,_,E,S,q,λv c l d k b=>?_⟩
  obtain⟨a,vs,rfl,f,rv⟩:=b.ofTup;cases rv with
  |cons b rv=>
   cases rv with
   |cons g rv=>
    cases rv;exact⟨a,_,rfl,(f).sq,rfl,_,_,rfl,_,_,rfl,rfl,p _ c l d k (((E.mono d).set i b).set j g)⟩
 .exact Zb e
def J4(D:Ends)(O:L2.St)(H:Hp)(h:tS K (Uu i j l fe) D O H):tAsg (tE K fe) (gTup K 3 (gCons (gName i) (gCons (gName j) (gCons (gName l) gNil)))) D O H:=by
 obtain⟨ad,U,st,r,st',E,S,e,p⟩:=ZP h;unfold Uu at e;split at e
 .rename_i x y z st1 q
  cases e;refine⟨ad,U,st,_,_,E,S,q,λv c n d m b=>?_⟩
  obtain⟨a,vs,rfl,f,rv⟩:=b.ofTup;cases rv with
  |cons b rv=>
   cases rv with
   |cons k rv=>
    cases rv with
    |cons g rv=>
     cases rv;exact⟨a,_,rfl,(f).sq,rfl,_,_,rfl,_,_,rfl,_,_,rfl,rfl,p _ c n d m ((((E.mono d).set i b).set j k).set l g)⟩
 .exact Zb e
def ZbQ(D:Ends)(O:L2.St)(H:Hp)(h:tS K (ZdL fe) D O H):tDrop (tE K fe) D O H:=by
 obtain⟨ad,U,st,r,st',E,S,e,p⟩:=ZP h;unfold ZdL at e;split at e
 .rename_i d st1 q
  cases e;exact⟨ad,U,st,d,_,E,S,q,λv a f b c g=>p _ a f b c (E.mono b)⟩
 .exact Zb e
def ZbX(D:Ends)(O:L2.St)(H:Hp)(h:tS K (Z3 fe f g) D O H):tIfS (tT K fe) (tS K f) (tS K g) D O H:=by
 obtain⟨ad,U,st,r,st',E,S,e,p⟩:=ZP h;unfold Z3 at e;split at e
 .rename_i st1 q
  refine⟨ad,U,st,ae,st1,E,S,q,λb d a c=>?_⟩
  dsimp only;rw[aq rfl];exact ZR (E.mono a) c e (p.later a)
 .rename_i st1 q
  refine⟨ad,U,st,af,st1,E,S,q,λb d a c=>?_⟩
  dsimp only;rw[ar Bf];exact ZR (E.mono a) c e (p.later a)
 .exact Zb e
def WH{a:Ad}(S:StOk K ad H st)(h:LA ad H i a):∃ b ds,st[i]?=aa (b,ds):=by
 have c:i < st.length:=by rw[<-S.len];exact(bG.mp h.1).1
 exact⟨st[i].1,st[i].2,by rw[Lg c]⟩
def Qm{c:Za}{a:Ad}{v:V}(S:StOk K ad H st)(h:LA ad H i a)(hd:Den K ad H v d)(e:Js i d st=aa c) :
  ∃ b,H a=aa (.lst b)/\b.length < ay/\Ext ad H ad (upd H a (.lst (b++[v])))/\StOk K ad (upd H a (.lst (b++[v]))) c:=by
 unfold Js at e;split at e
 .rename_i ds q
  split at e
  .rename_i g
   cases e;obtain⟨b,r,f⟩:=S.listM h q;refine⟨b,f,?_,Ext.write f (aW h.1),S.write h q f (r.append (.cons hd .nil))⟩;rw[r.length];exact aT g (by decide)
  .exact Zb e
 .exact Zb e
def ZbR(D:Ends)(O:L2.St)(H:Hp)(h:tS K (Ju i fe) D O H):tDrop (tBM K "list" rAppend (tVar i) (tCons (tE K fe) tNil)) D O H:=by
 obtain⟨ad,U,st,r,st',E,S,e,p⟩:=ZP h;unfold Ju at e;split at e
 .rename_i a q
  split at e
  .rename_i d st1 o
   split at e
   .rename_i m n
    cases e;obtain⟨v,y,x⟩:=E.at_ i _ q;obtain⟨l,rfl,f⟩:=x.ofLst;obtain⟨b,ds,u⟩:=WH S f;obtain⟨k,_,sq⟩:=S.list f u;refine⟨_,y,.inl ⟨rfl,k,sq⟩,ad,U,st,d,st1,E,S,o,λw g C c B z=>?_⟩
    obtain⟨ys,t,s,j,A⟩:=Qm B (f.mono c) z n;exact⟨l,ys,w,rfl,rfl,t,s,p _ g _ (c.trans j) A (E.mono (c.trans j))⟩
   .exact Zb e
  .exact Zb e
 .exact Zb e
def JP{n:Ev}(D:Ends)(O:L2.St)(H:Hp)(h:tS K (Jt n fe) D O H):tDrop (tBM K "list" rAppend (tE K n) (tCons (tE K fe) tNil)) D O H:=by
 obtain⟨ad,U,st,r,st',E,S,e,p⟩:=ZP h;unfold Jt at e;split at e
 .rename_i a c u
  split at e
  .rename_i d st1 t
   split at e
   .rename_i q s
    cases e;refine⟨ad,U,st,.lst a,c,E,S,u,λv k I g S0 B=>?_⟩
    obtain⟨l,rfl,i⟩:=B.ofLst;obtain⟨b,ds,z⟩:=WH S0 i;obtain⟨o,_,sq⟩:=S0.list i z;refine⟨.inl ⟨rfl,o,sq⟩,k,U,c,d,st1,E.mono g,S0,t,λw j G f F A=>?_⟩
    obtain⟨ys,y,x,m,C⟩:=Qm F (i.mono f) A s;exact⟨l,ys,w,rfl,rfl,y,x,p _ j _ ((g.trans f).trans m) C (E.mono ((g.trans f).trans m))⟩
   .exact Zb e
  .exact Zb e
 .exact Zb e
def ZbT(D:Ends)(O:L2.St)(H:Hp)(h:tS K (JK i fe) D O H):tDrop (tBM K "list" rExtend (tVar i) (tCons (tE K fe) tNil)) D O H:=by
 obtain⟨ad,U,st,r,st',E,S,e,p⟩:=ZP h;unfold JK at e;split at e
 .rename_i a B
  split at e
  .rename_i b st1 A
   split at e
   .rename_i z d
    cases e;obtain⟨v,L,J⟩:=E.at_ i _ B;obtain⟨l,rfl,k⟩:=J.ofLst;obtain⟨P,ds,G⟩:=WH S k;obtain⟨y,_,sq⟩:=S.list k G;refine⟨_,L,.inl ⟨rfl,y,sq⟩,ad,U,st,.lst b,st1,E,S,A,λw n Q f o M=>?_⟩
    obtain⟨m,rfl,F⟩:=M.ofLst;unfold Zd5 at d;split at d
    .rename_i N es x I
     split at d
     .rename_i C
      cases d;have c:=k.mono f;obtain⟨ys,u,j⟩:=o.listM c x;obtain⟨q,t,g⟩:=o.listM F I;have s:=Ext.write (ys:=ys++q) j (aW c.1);refine⟨l,m,ys,q,rfl,rfl,j,g,?_,p _ n _ (f.trans s) (o.write c x j (u.append t)) (E.mono (f.trans s))⟩;rw[u.length,t.length];exact aJ C (by decide)
     .exact Zb d
    .exact Zb d
   .exact Zb e
  .exact Zb e
 .exact Zb e
def Zb3(D:Ends)(O:L2.St)(H:Hp)(h:tS K (U0 i fk fe) D O H):tAsg (tE K fe) (gSub (tVar i) (tE K fk) rSetL) D O H:=by
 obtain⟨ad,U,st,r,st',E,S,e,p⟩:=ZP h;unfold U0 at e;split at e
 .rename_i d st1 C
  split at e
  .rename_i a F
   split at e
   .rename_i j n B
    split at e
    .rename_i z f
     cases e;obtain⟨v,J,I⟩:=E.at_ i _ F;obtain⟨l,rfl,G⟩:=I.ofLst;refine⟨ad,U,st,d,st1,E,S,C,λw q Q m N M=>⟨_,J,q,U,st1,.int j,n,E.mono m,N,B,λP c y g x L=>?_⟩⟩
     cases L.ofInt;unfold X9 at f;split at f
     .rename_i ds u
      split at f
      .rename_i k A
       cases f;have b:=G.mono (m.trans g);obtain⟨s,r,o⟩:=x.listM b u;have t:Ext c y c (upd y l (.lst (s.set k w))):=Ext.write o (aW b.1);refine⟨l,s,j,k,rfl,rfl,o,?_,p _ c _ (m.trans (g.trans t)) (x.write b u o (r.set (M.mono g) k)) (E.mono (m.trans (g.trans t)))⟩;rw[r.length];exact A
      .exact Zb f
     .exact Zb f
    .exact Zb e
   .exact Zb e
  .exact Zb e
 .exact Zb e
def UP(a b i j:Int):ak (([.inl a,.inl b]:Li Key)=[.inl i,.inl j])=(ak (a=i)&&ak (b=j)):=by
 rw[cL];simp
def JI{i j:Int}(r:Ents K ad H kvs ds):(kvs.any λa=>ak (a.1=[.inl i,.inl j]))=ds.any (isK i j):=by
 induction r with
 |nil=>rfl
 |cons h _ b=>rw[dN,dN,b,UP];rfl
def V5{i j:Int}{v:V}(hd:Den K ad H v d)(r:Ents K ad H kvs ds):Ents K ad H (putK kvs [.inl i,.inl j] v) (Xr ds i j d):=by
 unfold putK Xr;rw[JI r];by_cases e:ds.any (isK i j)=ae
 .rw[aq e,aq e]
  clear e
  induction r with
  |nil=>exact .nil
  |@cons a b w c _ _ h _ f=>
   rw[aZ,aZ];have z:=UP a b i j;by_cases q:(ak (a=i)&&ak (b=j))=ae
   .rw[aq (ao (z.trans q)),aq (show isK i j (.tup [.int a,.int b,c])=ae from q)]
    rw[Ba,aO,aO]at q;rw[q.1,q.2];exact .cons hd f
   .rw[ar (λt=>q (z.symm.trans (aG t))),ar (show ¬isK i j (.tup [.int a,.int b,c])=ae from q)]
    exact .cons h f
 .rw[ar e,ar e]
  clear e
  induction r with
  |nil=>exact .cons hd .nil
  |cons h _ f=>exact .cons h f
def Xa{i j:Int}(r:Ents K ad H kvs ds):(∃ v d,valV kvs [.inl i,.inl j]=aa v/\Yc ds i j=aa d/\Den K ad H v d)\/(valV kvs [.inl i,.inl j]=ab/\Yc ds i j=ab):=by
 induction r with
 |nil=>exact .inr ⟨rfl,rfl⟩
 |@cons a b w c kvs ds h _ e=>
  have z:=UP a b i j;by_cases q:(ak (a=i)&&ak (b=j))=ae
  .exact .inl ⟨w,c,valV_pos (ao (z.trans q)),by unfold Yc;rw[List.find?_cons_of_pos (show isK i j (.tup [.int a,.int b,c])=ae from q)];rfl,h⟩
  .have g:valV ((([.inl a,.inl b]:Li Key),w) :: kvs) [.inl i,.inl j]=valV kvs [.inl i,.inl j]:=valV_neg λt=>q (z.symm.trans (aG t))
   have f:Yc (.tup [.int a,.int b,c] :: ds) i j=Yc ds i j:=by unfold Yc;rw[List.find?_cons_of_neg (show ¬isK i j (.tup [.int a,.int b,c])=ae from q)]
   rw[g,f];exact e
def Q4{i j:Int}(r:Ents K ad H kvs ds):(valV kvs [.inl i,.inl j]).isSome=(Yc ds i j).isSome:=by
 rcases Xa r with⟨w,d,b,a,c⟩|⟨b,a⟩
 .rw[b,a];rfl
 .rw[b,a];rfl
def Y0(r:Ents K ad H kvs ds):kvs.length=ds.length:=by
 induction r with
 |nil=>rfl
 |cons _ _ a=>rw[aX,aX,a]
def JS(O:L2.St)(H:Hp)(Q:VK)(h:tE K Zdd O H Q):tDNewT K O H Q:=by
 obtain⟨ad,U,st,d,st',E,S,e,p⟩:=h;cases e;intro q a b;exact p _ (ad++[q]) _ (S.extD a b) (S.pushD a b) (.dic (by rw[<-S.len];exact Zt) ⟨_,upd_same⟩)
def JT{G F:Ev}(D:Ends)(O:L2.St)(H:Hp)(h:tS K (V4 i G F fe) D O H):tAsg (tE K fe) (gSub (tVar i) (tTup (tCons (tE K G) (tCons (tE K F) tNil))) rSetT) D O H:=by
 obtain⟨ad,U,st,r,st',E,S,e,p⟩:=ZP h;unfold V4 at e;split at e
 .rename_i d st1 M
  split at e
  .rename_i a N
   split at e
   .rename_i x f L
    split at e
    .rename_i y c J
     split at e
     .rename_i ds B
      split at e
      .rename_i P
       cases e;obtain⟨v,R,Q⟩:=E.at_ i _ N;obtain⟨l,rfl,g,n⟩:=Q.ofDic;refine⟨ad,U,st,d,st1,E,S,M,λw s H1 m S1 W=>⟨_,R,s,U,st1,.int x,f,E.mono m,S1,L,λw2 q H2 k Z V=>⟨q,U,f,.int y,c,E.mono (m.trans k),Z,J,λw3 b j A Y T=>⟨show 2<=ay by decide,λt C=>?_⟩⟩⟩⟩
       cases V.ofInt;cases T.ofInt;have z:Ext b j b (upd j t (.tup [.int x,.int y])):=Ext.laid C;have X:=m.trans (k.trans (A.trans z));have I:StOk K b (upd j t (.tup [.int x,.int y])) c:=Y.laid C;obtain⟨kvs,r,o,_⟩:=I.dict (X.pre _ _ g) ((X.kd _ _ g).mp n) B;have u:Ext b _ b (upd (upd j t (.tup [.int x,.int y])) l (.dT (putK kvs [.inl x,.inl y] w))):=Ext.writeD o (aW (X.pre _ _ g))
       exact⟨l,t,kvs,[.inl x,.inl y],rfl,rfl,o,upd_same,by rw[Y0 r];exact aT P (by decide),p _ b _ (X.trans u) (I.writeD (X.pre _ _ g) B o (V5 (W.mono (k.trans (A.trans z))) r)) (E.mono (X.trans u))⟩
      .exact Zb e
     .exact Zb e
    .exact Zb e
   .exact Zb e
  .exact Zb e
 .exact Zb e
def Left(K:Fg)(b:D->Env->Za->Ot (Fl×Za))(E:Ends)(a:Li D)(O:L2.St)(H:Hp):Prop:=∃ ad U st r st',EnvOk K ad H O U/\StOk K ad H st/\Zi b a U st=aa (r,st')/\PostS K ad H r st' E
def Left.turn{b:Ex}{m:Li D}{H:Hp}{v:V}(o:∀ ad H,Den K ad H v x)(h:Left K (λd U s=>b (Zj U i d) s) E (x :: m) O H) :
  tS K b { E with nx:=Left K (λd U s=>b (Zj U i d) s) E m,ct:=Left K (λd U s=>b (Zj U i d) s) E m,bk:=E.nx } (O.set i (aa v)) H:=by
 obtain⟨ad,U,st,r,st',En,S,e,p⟩:=h;unfold Zi at e;have f:=En.set i (o ad H);split at e
 .rename_i c st1 q
  exact ZR f S q λg a n j k l=>⟨a,c,st1,r,st',l,k,e,p.later j⟩
 .rename_i c st1 q
  exact ZR f S q λg a n j k l=>⟨a,c,st1,r,st',l,k,e,p.later j⟩
 .rename_i c st1 q
  cases e;exact ZR f S q λg a n j k l=>p g a n j k l
 .rename_i d st1 q
  cases e;exact ZR f S q p
 .exact Zb e
def Left.turnD{b:Ex}{m:Li D}{U:Env}{r:Fl}{v:V}(En:EnvOk K ad H O U)(S:StOk K ad H st)(o:Den K ad H v x)(e:Zi (λd U s=>b (Zj U i d) s) (x :: m) U st=aa (r,st'))(p:PostS K ad H r st' E)(L:L2.St->Hp->Prop)(n:∀ c a g f st1,Ext ad H a g->StOk K a g st1->EnvOk K a g c f->Zi (λd U s=>b (Zj U i d) s) m f st1=aa (r,st')->L c g) :
  tS K b { E with nx:=L,ct:=L,bk:=E.nx } (O.set i (aa v)) H:=by
 unfold Zi at e;have h:=En.set i o;split at e
 .rename_i f st1 q
  exact ZR h S q λc a g j k l=>n c a g f st1 j k l e
 .rename_i f st1 q
  exact ZR h S q λc a g j k l=>n c a g f st1 j k l e
 .rename_i f st1 q
  cases e;exact ZR h S q λc a g j k l=>p c a g j k l
 .rename_i d st1 q
  cases e;exact ZR h S q p
 .exact Zb e
def Left.done{b:D->Env->Za->Ot (Fl×Za)}(h:Left K b E [] O H):E.nx O H:=by
 obtain⟨ad,U,st,r,st',En,S,e,p⟩:=h;cases e;exact p O ad H (Ext.refl _ _) S En
def U2(n k:Nat)(h:k < n):((aj n).map λ(j:Nat)=>D.int (j:Int)).drop k=D.int (k:Int) :: ((aj n).map λ(j:Nat)=>D.int (j:Int)).drop (k+1):=by
 rw[bU (by simpa using h)]
 simp
def JW(E:Ends)(O:L2.St)(H:Hp)(h:tS K (Vj i ae fi f) E O H):tFor (iRng1 (tCons (tE K fi) tNil)) (gName i) (tS K f) E O H:=by
 obtain⟨ad,U,st,r,st',En,S,e,p⟩:=ZP h;unfold Vj at e;split at e
 .rename_i x st1 l
  cases x with
  |int n=>
   have e:(match (if n < 2 ^ 62/\-(2 ^ 62)<=n then aa ((aj n.toNat).map λ(k:Nat)=>D.int (k:Int)) else ab) with
    |some j=>Zi (λd U s=>f (Zj U i d) s) j U st1
    |none=>ab)=aa (r,st'):=e
   by_cases a:n < 2 ^ 62/\-(2 ^ 62)<=n
   .rw[aq a]at e
    refine⟨ad,U,st,.int n,st1,En,S,l,λv b t g q o=>⟨n,by rw[o.ofInt],a.2,a.1,?_⟩⟩
    refine for_range (λk c H'=>Left K (λd U s=>f (Zj U i d) s) E (((aj n.toNat).map λ(k:Nat)=>D.int (k:Int)).drop k) c H') ⟨b,U,st1,r,st',En.mono g,q,e,p.later g⟩ (λk c H' m L=>?_) λc H' L=>?_
    .rw[U2 _ _ m]at L
     have z:(0:Int)+(k:Int)=(k:Int):=Int.zero_add _;rw[z];exact L.turn λ_ _=>.int _
    .rw[List.drop_eq_nil_of_le (by simp)]at L
     exact L.done
   .rw[ar a]at e
    cases e
  |_=>simp[Wr]at e
 .exact Zb e
def Qv{i:Int}(h:Zeb d=aa i):d=.int i:=by cases d<;>first | (cases h;done) | (cases h;rfl)
def Zc5(K:Fg)(b:D->Env->Za->Ot (Fl×Za))(E:Ends)(a:Ad)(vs:Li V)(c:Li D)(k:Nat)(O:L2.St)(H:Hp):Prop:=
 ∃ ad U st r st',EnvOk K ad H O U/\StOk K ad H st/\(TupAt K H a vs/\Dens K ad H vs c)/\Zi b (c.drop k) U st=aa (r,st')/\PostS K ad H r st' E
def JX(E:Ends)(O:L2.St)(H:Hp){U:Env}{r:Fl}{xs:Li D}(En:EnvOk K ad H O U)(S:StOk K ad H st)(Q:fi U st=aa (.tup xs,st1))(e:Zi (λd U s=>f (Zj U i d) s) xs U st1=aa (r,st'))(p:PostS K ad H r st' E):tFor (iTup K (tE K fi)) (gName i) (tS K f) E O H:=by
 refine⟨ad,U,st,.tup xs,st1,En,S,Q,λv C H1 G Y W=>?_⟩
 obtain⟨a,vs,rfl,J,rv⟩:=W.ofTup;refine⟨a,rfl,⟨vs,(J).sq⟩,?_⟩;refine for_tup (xs:=vs) (λk t H'=>Zc5 K (λd U s=>f (Zj U i d) s) E a vs xs k t H') ⟨C,U,st1,r,st',En.mono G,Y,⟨J,rv⟩,by rw[cQ];exact e,p.later G⟩ (λk t H' _ L=>?_) (λk y t H' I L=>?_) λt H' L=>?_
 .obtain⟨_,_,_,_,_,_,_,⟨h,_⟩,_⟩:=L
  exact(h).sq
 .obtain⟨o,j,l,A,b,g,F,⟨M,c⟩,n,q⟩:=L
  have m:k < xs.length:=by rw[<-c.length];exact(bG.mp I).1
  have R:xs[k]?=aa xs[k]:=Lg m;obtain⟨w,N,V⟩:=c.get R;rw[I]at N;cases N
  rw[bU m]at n;exact Left.turnD g F V n q _ λP B H3 u z x X Z T=>⟨B,u,z,A,b,Z,X,⟨M.mono x,c.mono x⟩,T,q.later x⟩
 .obtain⟨o,j,l,A,b,g,F,⟨M,c⟩,n,q⟩:=L
  rw[c.length,fN]at n;exact Left.done ⟨o,j,l,A,b,g,F,n,q⟩
def Ua{G:TG}(E:Ends)(O:L2.St)(H:Hp){ad:Li Ad}{U:Env}{st st1:Za}{r:Fl}{bb:Bool}{W:Li D}(En:EnvOk K ad H O U)(S:StOk K ad H st)(q1:fi U st=aa (.lst l,st1))(q2:st1[l]?=aa (bb,W))(e:ZL B l W.length 0 U st1=aa (r,st'))(p:PostS K ad H r st' E)(Q:∀ (x:D) (v:V) (O:L2.St) (H:Hp) (ad:Li Ad) (U:Env) (st st1:Za) (r1:Fl) (E':Ends),EnvOk K ad H O U->StOk K ad H st->Den K ad H v x->B x U st=aa (r1,st1)->PostS K ad H r1 st1 E'->G v O H λT H2=>tS K f E' T H2) :
  tFor (iList K (tE K fi)) G (tS K f) E O H:=by
 refine⟨ad,U,st,.lst l,st1,En,S,q1,λv ad1 H1 x1 S1 d1=>?_⟩
 obtain⟨a,rfl,ha⟩:=d1.ofLst;obtain⟨vs,rv,sq⟩:=S1.list ha q2;refine⟨a,rfl,⟨vs,sq⟩,?_⟩;refine⟨λk m O' H'=>∃ b c g,(EnvOk K b H' O' c/\StOk K b H' g/\LA b H' l a)/\ZL B l m k c g=aa (r,st')/\PostS K b H' r st' E,⟨W.length,ad1,U,st1,⟨En.mono x1,S1,ha⟩,e,p.later x1⟩,?_⟩
 rintro k m O' H' ⟨b,c,g,⟨o,A,s⟩,j,L⟩
 obtain⟨b2,ys,M⟩:=WH A s;obtain⟨X,J,z⟩:=A.list s M;have stop:ys.length<=k->ZL B l m k c g=aa (.nx c,g):=λC=>by
  cases m with
  |zero=>unfold ZL;simp only[M];rw[aq C]
  |succ m=>unfold ZL;simp only[M,eH C]
 by_cases C:ys.length<=k
 .refine .inl ⟨⟨X,z,by rw[J.length];exact C⟩,?_⟩
  rw[stop C]at j;cases j;exact L O' b H' (Ext.refl _ _) A o
 .have Z:k < ys.length:=by omega
  have hy:ys[k]?=aa ys[k]:=Lg Z;obtain⟨w,ew,R⟩:=J.get hy;cases m with
  |zero=>
   unfold ZL at j;simp only[M]at j;rw[ar C]at j;cases j
  |succ m=>
   unfold ZL at j;simp only[M,hy]at j;refine .inr ⟨⟨X,w,z,ew⟩,λI F=>∃ t i h,(EnvOk K t F I i/\StOk K t F h/\LA t F l a)/\ZL B l m (k+1) i h=aa (r,st')/\PostS K t F r st' E,λI F h3=>⟨m,eP m,h3⟩,λx F Y=>?_⟩
   obtain⟨rfl,Y⟩:=Y;have ex:=Y X z;rw[ew]at ex;cases ex
   split at j
   .rename_i i h q
    exact Q _ _ _ _ b c g _ _ _ o A R q λu n H4 y N P=>⟨n,i,h,⟨P,N,s.mono y⟩,j,L.later y⟩
   .rename_i i h q
    exact Q _ _ _ _ b c g _ _ _ o A R q λu n H4 y N P=>⟨n,i,h,⟨P,N,s.mono y⟩,j,L.later y⟩
   .rename_i i h q
    cases j;exact Q _ _ _ _ b c g _ _ _ o A R q λu n H4 y N P=>L u n H4 y N P
   .rename_i d h q
    cases j;exact Q _ _ _ _ b c g _ _ _ o A R q L
   .exact Zb j
def JV(E:Ends)(O:L2.St)(H:Hp)(h:tS K (Vj i af fi f) E O H):tFor (iTup K (tE K fi)) (gName i) (tS K f) E O H\/tFor (iList K (tE K fi)) (gName i) (tS K f) E O H:=by
 obtain⟨ad,U,st,r,st',En,S,e,p⟩:=ZP h;unfold Vj at e;split at e
 .rename_i x st1 b
  cases x with
  |tup a=>exact .inl (JX E O H En S b e p)
  |lst l=>
   have e:(match st1[l]? with
    |some (_,a)=>ZL (λd U s=>f (Zj U i d) s) l a.length 0 U st1
    |none=>ab)=aa (r,st'):=e
   split at e
   .rename_i n a c
    refine .inr (Ua E O H En S b c e p λx v O H ad U st st1 m o En S k j g=>?_)
    exact ZR (En.set i k) S j g
   .exact Zb e
  |_=>simp[Wr]at e
 .exact Zb e
def Q7{G:TG}(E:Ends)(O:L2.St)(H:Hp){ad:Li Ad}{U:Env}{st st1:Za}{r:Fl}{xs:Li D}(En:EnvOk K ad H O U)(S:StOk K ad H st)(q1:fi U st=aa (.tup xs,st1))(e:Zi B xs U st1=aa (r,st'))(p:PostS K ad H r st' E)(M:∀ (x:D) (v:V) (O:L2.St) (H:Hp) (ad:Li Ad) (U:Env) (st st1:Za) (Y:Fl) (E':Ends),EnvOk K ad H O U->StOk K ad H st->Den K ad H v x->B x U st=aa (Y,st1)->PostS K ad H Y st1 E'->G v O H λQ H2=>tS K f E' Q H2) :
  tFor (iTup K (tE K fi)) G (tS K f) E O H:=by
 refine⟨ad,U,st,.tup xs,st1,En,S,q1,λv T H1 X S1 d1=>?_⟩
 obtain⟨a,vs,rfl,ha,rv⟩:=d1.ofTup;refine⟨a,rfl,⟨vs,(ha).sq⟩,?_⟩;refine for_tup (xs:=vs) (λk P H'=>Zc5 K B E a vs xs k P H') ⟨T,U,st1,r,st',En.mono X,S1,⟨ha,rv⟩,by rw[cQ];exact e,p.later X⟩ (λk P H' _ L=>?_) (λk y P H' Z L=>?_) λP H' L=>?_
 .obtain⟨_,_,_,_,_,_,_,⟨h,_⟩,_⟩:=L
  exact(h).sq
 .obtain⟨j,c,g,J,b,l,A,⟨R,i⟩,n,z⟩:=L
  have C:k < xs.length:=by rw[<-i.length];exact(bG.mp Z).1
  have hx:xs[k]?=aa xs[k]:=Lg C;obtain⟨w,ew,N⟩:=i.get hx;rw[Z]at ew;cases ew
  rw[bU C]at n;unfold Zi at n;split at n
  .rename_i s m q
   exact M _ _ _ _ j c g _ _ _ l A N q λu o W t F I=>⟨o,s,m,J,b,I,F,⟨R.mono t,i.mono t⟩,n,z.later t⟩
  .rename_i s m q
   exact M _ _ _ _ j c g _ _ _ l A N q λu o W t F I=>⟨o,s,m,J,b,I,F,⟨R.mono t,i.mono t⟩,n,z.later t⟩
  .rename_i s m q
   cases n;exact M _ _ _ _ j c g _ _ _ l A N q λu o W t F I=>z u o W t F I
  .rename_i d m q
   cases n;exact M _ _ _ _ j c g _ _ _ l A N q z
  .exact Zb n
 .obtain⟨j,c,g,J,b,l,A,⟨R,i⟩,n,z⟩:=L
  rw[i.length,fN]at n;exact Left.done ⟨j,c,g,J,b,l,A,n,z⟩
def Zdz{v:V}{d:Fl}{e:Ends}(En:EnvOk K ad H O U)(S:StOk K ad H st)(k:Den K ad H v x)(b:Xb i j l f x U st=aa (d,st1))(g:PostS K ad H d st1 e):gTup K 3 (gCons (gName i) (gCons (gName j) (gCons (gName l) gNil))) v O H λc p=>tS K f e c p:=by
 unfold Xb at b;split at b
 .rename_i y z u
  obtain⟨a,vs,rfl,h,rv⟩:=k.ofTup;cases rv with
  |cons o rv=>
   cases rv with
   |cons n rv=>
    cases rv with
    |cons m rv=>
     cases rv;exact⟨a,_,rfl,(h).sq,rfl,_,_,rfl,_,_,rfl,_,_,rfl,rfl,ZR (((En.set i o).set j n).set l m) S b g⟩
 .exact Zb b
def JU(E:Ends)(O:L2.St)(H:Hp)(h:tS K (V6 i j l fi f) E O H):tFor (iTup K (tE K fi)) (gTup K 3 (gCons (gName i) (gCons (gName j) (gCons (gName l) gNil)))) (tS K f) E O H\/tFor (iList K (tE K fi)) (gTup K 3 (gCons (gName i) (gCons (gName j) (gCons (gName l) gNil)))) (tS K f) E O H:=by
 obtain⟨ad,U,st,r,st',En,S,e,p⟩:=ZP h;unfold V6 at e;split at e
 .rename_i q st1 a
  split at e
  .rename_i o g m
   exact .inr (Ua E O H En S a m e p λx v O H ad U st st1 k n En S d c b=>Zdz En S d c b)
  .exact Zb e
 .rename_i g st1 a
  exact .inl (Q7 E O H En S a e p λx v O H ad U st st1 k n En S d c b=>Zdz En S d c b)
 .exact Zb e
def Q9(E:Ends)(O:L2.St)(H:Hp)(h:tS K (ZW fe f m) E O H):tWhile (tT K fe) (tS K f) E O H:=by
 obtain⟨ad,U,st,r,st',En,S,e,p⟩:=ZP h;refine⟨λm O H=>∃ ad U st,(EnvOk K ad H O U/\StOk K ad H st)/\ZW fe f m U st=aa (r,st')/\PostS K ad H r st' E,⟨m,ad,U,st,⟨En,S⟩,e,p⟩,?_⟩
 rintro m O H ⟨ad,U,st,⟨En,S⟩,e,p⟩
 cases m with
 |zero=>exact Zb e
 |succ m=>
  have e:Z3 fe (ZM f (ZW fe f m)) (λU st=>aa (.nx U,st)) U st=aa (r,st'):=e
  unfold Z3 at e;split at e
  .rename_i st1 q
   refine⟨ad,U,st,ae,st1,En,S,q,λl t a j=>?_⟩
   dsimp only;rw[aq rfl];refine⟨λO H=>∃ ad U st,(EnvOk K ad H O U/\StOk K ad H st)/\ZW fe f m U st=aa (r,st')/\PostS K ad H r st' E,λu H' h=>⟨m,eP m,h⟩,?_⟩
   have e:ZM f (ZW fe f m) U st1=aa (r,st'):=e;unfold ZM at e;split at e
   .rename_i d b i
    exact ZR (En.mono a) j i λg c s k n o=>⟨c,d,b,⟨o,n⟩,e,p.later (a.trans k)⟩
   .rename_i d b i
    exact ZR (En.mono a) j i λg c s k n o=>⟨c,d,b,⟨o,n⟩,e,p.later (a.trans k)⟩
   .rename_i d b i
    cases e;exact ZR (En.mono a) j i λg c s k n o=>p g c s (a.trans k) n o
   .rename_i v b i
    cases e;exact ZR (En.mono a) j i (Post.later p a)
   .exact Zb e
  .rename_i st1 q
   cases e;refine⟨ad,U,st,af,_,En,S,q,λl t a j=>?_⟩
   dsimp only;rw[ar Bf];exact p O l t a j (En.mono a)
  .exact Zb e
inductive LK(K:Fg)(ok:Za->Prop)(B:D->D->Env->Za->Option (Fl×Za))(qs:List (D×D))(Good:List Addr->Hp->Prop)(r:Fl)(st':Za)(E:Ends)(k m:Nat)(O:L2.St)(H:Hp):Prop
 |mk {ad:List Addr}{U:Env}{st:Za} (hk:k+m=qs.length) (En:EnvOk K ad H O U) (S:StOk K ad H st) (g:Good ad H) (e:Ui ok B (qs.drop k) U st=aa (r,st')) (p:PostS K ad H r st' E):LK K ok B qs Good r st' E k m O H
end
variable [ClsTab]
mutual
theorem Zbz:∀ {x y:D},Zv x y=ae->x=y
 |.non,y,h=>by cases y<;>simp[Zv]at h ⊢
 |.bl a,y,h=>by cases y<;>simp[Zv]at h ⊢;exact h
 |.int a,y,h=>by cases y<;>simp[Zv]at h ⊢;exact h
 |.str a,y,h=>by cases y<;>simp[Zv]at h ⊢;exact h
 |.tup a,y,h=>by
  cases y with
  |tup b=>rw[VN (x:=a) (y:=b) (by simpa[Zv] using h)]
  |_=>simp[Zv]at h
 |.lst a,y,h=>by cases y<;>simp[Zv]at h
 |.dct a b,y,h=>by cases y<;>simp[Zv]at h
 |.obj a,y,h=>by cases y<;>simp[Zv]at h
 |.kt a,y,h=>by cases y<;>simp[Zv]at h
 |.dic a,y,h=>by cases y<;>simp[Zv]at h
theorem VN:∀ {x y:Li D},Zr x y=ae->x=y
 |[],y,h=>by cases y<;>simp[Zr]at h ⊢
 |a :: x,y,h=>by
  cases y with
  |nil=>simp[Zr]at h
  |cons b y=>
   have h:(Zv a b&&Zr x y)=ae:=h;rw[Ba]at h;rw[Zbz h.1,VN h.2]
end
mutual
theorem WV:∀ {n:Nat}{x:D},okD n x=ae->Zv x x=ae
 |_,.non,_=>rfl
 |_,.bl a,_=>by simp[Zv]
 |_,.int a,_=>by simp[Zv]
 |_,.str a,_=>by simp[Zv]
 |0,.tup a,h=>by simp[okD]at h
 |n+1,.tup a,h=>Wg (n:=n) (x:=a) h
 |_,.lst a,h=>by simp[okD]at h
 |_,.dct a b,h=>by simp[okD]at h
 |_,.obj a,h=>by simp[okD]at h
 |_,.kt a,h=>by simp[okD]at h
 |_,.dic a,h=>by simp[okD]at h
theorem Wg:∀ {n:Nat}{x:Li D},Yf n x=ae->Zr x x=ae
 |_,[],_=>rfl
 |n,a :: x,h=>by
  have h:(okD n a&&Yf n x)=ae:=h;rw[Ba]at h;show(Zv a a&&Zr x x)=ae;rw[WV h.1,Wg h.2];rfl
end
theorem Y3:∀ {n:Nat}{a:Li D}{i:Nat}{d:D},Yf n a=ae->a[i]?=aa d->okD n d=ae
 |_,[],_,_,_,e=>by simp at e
 |n,x :: a,i,d,h,e=>by
  have h:(okD n x&&Yf n a)=ae:=h;rw[Ba]at h;cases i with
  |zero=>simp at e;subst e;exact h.1
  |succ i=>exact Y3 (i:=i) h.2 (by simpa using e)
theorem YB:∀ {a ys:Li D},Zr a ys=((aj (min a.length ys.length)).all (λi=>Zv ((a[i]?).getD .non) ((ys[i]?).getD .non))&&a.length==ys.length)
 |[],[]=>rfl
 |[],_ :: _=>by simp[Zr]
 |_ :: _,[]=>by simp[Zr]
 |x :: a,y :: ys=>by
  have b:=@YB a ys;show(Zv x y&&Zr a ys)=_;rw[b];have e:min (x :: a).length (y :: ys).length=min a.length ys.length+1:=by simp only[aX];omega
  rw[e,List.range_succ_eq_map,cA,List.all_map];simp only[aX];have z:(a.length+1==ys.length+1)=(a.length==ys.length):=by
   rw[cL];simp
  rw[z,Bool.and_assoc];rfl
variable{n:Nat}{pQ:Li (Ad×Obj)}{s:Sd}{A:bv}
def Ze9(X:Cx)(ad:Li Ad)(H:Hp)(v:V)(x:D):Prop:=∀ n m y,okD n x=ae->okD m y=ae->Den X.K ad H v y->x=y
def Xd{n:Nat}{P:Prop}(h:okD n x=ae)(a:∀ n,okD n x=af):P:=by rw[a]at h;cases h
def Zaz(i n:Nat):okD n (.lst i)=af:=by cases n<;>rfl
def Zax(ks:Li Str)(vs:Li D)(n:Nat):okD n (.dct ks vs)=af:=by cases n<;>rfl
def Zay(i n:Nat):okD n (.dic i)=af:=by cases n<;>rfl
def ZaA(i n:Nat):okD n (.obj i)=af:=by cases n<;>rfl
def Zds(ks:Li Str)(n:Nat):okD n (.kt ks)=af:=by cases n<;>rfl
def ZaC{a:Li D}(h:okD n (.tup a)=ae):∃ m,Yf m a=ae:=by
 cases n with
 |zero=>cases h
 |succ n=>exact⟨n,h⟩
def Den.injP(J:∀ (a:Ad) (d ys:Li V),TupAt X.K H a d->TupAt X.K H a ys->d=ys){v:V}(h:Den X.K ad H v x):Ze9 X ad H v x:=
 Den.rec (motive_1:=λv x _=>Ze9 X ad H v x) (motive_2:=λvs d _=>∀ n m ys,Yf n d=ae->Yf m ys=ae->Dens X.K ad H vs ys->d=ys)
  (λ_ _ _ _ _ h=>by cases h;rfl) (λ_ _ _ _ _ _ h=>by cases h;rfl) (λ_ _ _ _ _ _ h=>by cases h;rfl) (λ_ _ _ _ _ _ h=>by cases h;rfl)
  (λe _ j n m y b c h=>by
   obtain⟨g,b⟩:=ZaC b;cases h with
   |tup o f=>
    cases J _ _ _ e o
    obtain⟨i,c⟩:=ZaC c;rw[j g i _ b c f]
   |lst _=>exact Xd c (Zaz _)
   |dic _ _=>exact Xd c (Zay _)
   |dct _ _ _ _ _=>exact Xd c (Zax _ _)
   |obj _ _=>exact Xd c (ZaA _)
   |kt _ _ _ _ _ _=>exact Xd c (Zds _))
  (λ_ _ _ _ b _ _=>Xd b (Zaz _)) (λ_ _ _ _ _ b _ _=>Xd b (Zay _)) (λ_ _ _ _ _ _ _ _ _ b _ _=>Xd b (Zax _ _)) (λ_ _ _ _ _ b _ _=>Xd b (ZaA _)) (λ_ _ _ _ _ _ _ _ _ b _ _=>Xd b (Zds _))
  (λ_ _ _ _ _ h=>by cases h;rfl)
  (λ_ _ l k n m ys b c h=>by
   cases h with
   |cons p f=>
    have b:=fR.mp b;have c:=fR.mp c;rw[l n m _ b.1 c.1 p,k n m _ b.2 c.2 f]) h
def Den.inj(J:∀ (a:Ad) (b ys:Li V),TupAt X.K H a b->TupAt X.K H a ys->b=ys){v:V}{y:D}(d:okD n x=ae)(c:okD m y=ae)(h:Den X.K ad H v x)(e:Den X.K ad H v y):x=y:=h.injP J n m y d c e
theorem Dens.inj(J:∀ (a:Ad) (b ys:Li V),TupAt X.K H a b->TupAt X.K H a ys->b=ys){b ys:Li D}(d:Yf n b=ae)(c:Yf m ys=ae)(h:Dens X.K ad H vs b)(e:Dens X.K ad H vs ys):b=ys:=by
 induction vs generalizing b ys with
 |nil=>cases h;cases e;rfl
 |cons v vs g=>
  cases h with
  |cons a r=>cases e with
   |cons i f=>
    have d:=fR.mp d;have c:=fR.mp c;rw[a.inj J d.1 c.1 i,g d.2 c.2 r f]
open PySem.SeqAt in
def Zd4(I:Inv X pQ O H s):∀ (n:Nat) (x y:D) (A:bv) (B w:V) (E C:vL),okD n x=ae->okD n y=ae->A.units+n < cLine->Den X.K ad H B x->Den X.K ad H w y->RelV B E->RelV w C->EqAt A s E C (Zv x y):=by
 intro n
 induction n with
 |zero=>
  intro x y A B w E C u h hu J l k d;cases J with
  |non=>
   cases k;cases l with
   |non=>cases d;exact EqAt.same _
   |int j=>obtain⟨c,rfl⟩:=d;exact EqAt.none_int j c
   |str j=>obtain⟨c,rfl⟩:=d;exact EqAt.none_str j c
   |_=>simp[okD]at h
  |int i=>
   obtain⟨t,rfl⟩:=k;cases l with
   |non=>cases d;exact EqAt.int_none i t
   |int j=>obtain⟨c,rfl⟩:=d;exact(show Zv (.int i) (.int j)=(i==j) from by rw[cL];simp[Zv]) ▸ EqAt.int_int i t j c
   |str j=>obtain⟨c,rfl⟩:=d;exact EqAt.int_str i t j c
   |_=>simp[okD]at h
  |str i=>
   obtain⟨t,rfl⟩:=k;cases l with
   |non=>cases d;exact EqAt.str_none i t
   |int j=>obtain⟨c,rfl⟩:=d;exact EqAt.str_int i t j c
   |str j=>obtain⟨c,rfl⟩:=d;exact(show Zv (.str i) (.str j)=(i==j) from by rw[cL];simp[Zv]) ▸ EqAt.str_str i t j c
   |_=>simp[okD]at h
  |_=>simp[okD]at u
 |succ n ih=>
  intro x y A B w E C u h hu J l k d;cases J with
  |non=>
   cases k;cases l with
   |non=>cases d;exact EqAt.same _
   |int j=>obtain⟨c,rfl⟩:=d;exact EqAt.none_int j c
   |str j=>obtain⟨c,rfl⟩:=d;exact EqAt.none_str j c
   |tup e r=>
    cases d;obtain⟨f,_,p,_⟩:=I.tuple ((e).sq);exact EqAt.none_tuple p (by omega)
   |_=>simp[okD]at h
  |int i=>
   obtain⟨t,rfl⟩:=k;cases l with
   |non=>cases d;exact EqAt.int_none i t
   |int j=>obtain⟨c,rfl⟩:=d;exact(show Zv (.int i) (.int j)=(i==j) from by rw[cL];simp[Zv]) ▸ EqAt.int_int i t j c
   |str j=>obtain⟨c,rfl⟩:=d;exact EqAt.int_str i t j c
   |tup e r=>
    cases d;obtain⟨f,_,p,_⟩:=I.tuple ((e).sq);exact EqAt.int_tuple i t p (by omega)
   |_=>simp[okD]at h
  |str i=>
   obtain⟨t,rfl⟩:=k;cases l with
   |non=>cases d;exact EqAt.str_none i t
   |int j=>obtain⟨c,rfl⟩:=d;exact EqAt.str_int i t j c
   |str j=>obtain⟨c,rfl⟩:=d;exact(show Zv (.str i) (.str j)=(i==j) from by rw[cL];simp[Zv]) ▸ EqAt.str_str i t j c
   |tup e r=>
    cases d;obtain⟨f,_,p,_⟩:=I.tuple ((e).sq);exact EqAt.str_tuple i t p (by omega)
   |_=>simp[okD]at h
  |@tup a xs ds e r=>
   cases k;obtain⟨f,rv,p,_⟩:=I.tuple ((e).sq);cases l with
   |non=>cases d;exact EqAt.tuple_none p (by omega)
   |int j=>obtain⟨c,rfl⟩:=d;exact EqAt.tuple_int j c p (by omega)
   |str j=>obtain⟨c,rfl⟩:=d;exact EqAt.tuple_str j c p (by omega)
   |@tup b ys es Q F=>
    cases d;by_cases v:a=b
    .subst v
     have z:=Den.inj (λ_ _ _ e G=>I.tuple_inj e.sq G.sq) (n:=n+1) (m:=n+1) u h (Den.tup e r) (Den.tup Q F)
     cases z;rw[WV u];exact EqAt.same _
    .obtain⟨g,o,p',_⟩:=I.tuple ((Q).sq)
     refine EqAt.of_refs v ?_;have q:=RcAt.tuples (A:=A) (s:=s) (e:=λi=>Zv ((ds[i]?).getD .non) ((es[i]?).getD .non)) p p' (by omega) λj P N=>?_
     .have e1:f.toArray.size=ds.length:=by rw[aF,<-rv.length,r.length]
      have G:g.toArray.size=es.length:=by rw[aF,<-o.length,F.length]
      rw[e1,G]at q;show RcAt A s (.ref a) (.ref b) (Zr ds es);rw[YB];exact q
     .have l1:j < ds.length:=by rw[<-r.length,rv.length];simpa using P
      have l2:j < es.length:=by rw[<-F.length,o.length];simpa using N
      have g1:ds[j]?=aa ds[j]:=Lg l1;have g2:es[j]?=aa es[j]:=Lg l2;obtain⟨U,q1,d1⟩:=r.get g1;obtain⟨T,Z,d2⟩:=F.get g2;obtain⟨M,S,Y⟩:=rv.get q1;obtain⟨L,R,W⟩:=o.get Z;have f1:f.toArray[j]=M:=by
       have:f[j]?=aa (f[j]'(by simpa using P)):=Lg _
       rw[S]at this;simpa using(aw this).symm
      have f2:g.toArray[j]=L:=by
       have:g[j]?=aa (g[j]'(by simpa using N)):=Lg _
       rw[R]at this;simpa using(aw this).symm
      rw[f1,f2,g1,g2];exact ih ds[j] es[j] A.in1 U T M L (Y3 u g1) (Y3 h g2) (by show A.units+1+n < cLine;omega) d1 d2 Y W
   |_=>simp[okD]at h
  |_=>simp[okD]at u
open PySem.SeqAt in
def Wq(I:Inv X pQ O H s){a b:Ad}{d c:Li vL}(z:Yf n ds=ae)(y:Yf n es=ae)(hu:A.units+n+1 < cLine)(r:Dens X.K ad H xs ds)(h:Dens X.K ad H ys es)(rv:Vals xs d)(e:Vals ys c)(j:Nat)(k:j < d.toArray.size)(i:j < c.toArray.size):EqAt A.in1 s d.toArray[j] c.toArray[j] (Zv ((ds[j]?).getD .non) ((es[j]?).getD .non)):=by
 have x:j < ds.length:=by rw[<-r.length,rv.length];simpa using k
 have w:j < es.length:=by rw[<-h.length,e.length];simpa using i
 have g1:ds[j]?=aa ds[j]:=Lg x;have g2:es[j]?=aa es[j]:=Lg w;obtain⟨p,v,E⟩:=r.get g1;obtain⟨o,u,D⟩:=h.get g2;obtain⟨g,m,t⟩:=rv.get v;obtain⟨f,l,q⟩:=e.get u;have C:d.toArray[j]=g:=by
  have:d[j]?=aa (d[j]'(by simpa using k)):=Lg _
  rw[m]at this;simpa using(aw this).symm
 have B:c.toArray[j]=f:=by
  have:c[j]?=aa (c[j]'(by simpa using i)):=Lg _
  rw[l]at this;simpa using(aw this).symm
 rw[C,B,g1,g2];exact Zd4 I n ds[j] es[j] A.in1 p o g f (Y3 z g1) (Y3 y g2) (by show A.units+1+n < cLine;omega) E D t q
open PySem.SeqAt in
def Zcu(I:Inv X pQ O H s){a b:Ad}(t:Yf n ds=ae)(o:Yf n es=ae)(hu:A.units+n+1 < cLine)(e:TupAt X.K H a xs)(r:Dens X.K ad H xs ds)(w:TupAt X.K H b ys)(f:Dens X.K ad H ys es):RcAt A s (.ref a) (.ref b) (Zr ds es)/\RcNeAt A s (.ref a) (.ref b) (!Zr ds es):=by
 obtain⟨g,rv,p,_⟩:=I.tuple (e.sq);obtain⟨d,c,m,_⟩:=I.tuple (w.sq);have v:g.toArray.size=ds.length:=by rw[aF,<-rv.length,r.length]
 have u:d.toArray.size=es.length:=by rw[aF,<-c.length,f.length]
 have q:=RcAt.tuples (A:=A) (s:=s) (e:=λi=>Zv ((ds[i]?).getD .non) ((es[i]?).getD .non)) p m (by omega) λj k h=>Wq (a:=a) (b:=b) I t o hu r f rv c j k h
 have l:=RcNeAt.tuples (A:=A) (s:=s) (e:=λi=>Zv ((ds[i]?).getD .non) ((es[i]?).getD .non)) p m (by omega) λj k h=>Wq (a:=a) (b:=b) I t o hu r f rv c j k h
 rw[v,u]at q l;rw[YB];exact⟨q,l⟩
end Dp
namespace Dp
open PySem PySem.Spec PyProof.Rows L2 PySem.SeqAt
section
variable{prog:bg}{w:br}{A:bv}{E:vL->Sd->Prop}{s:Sd}{d:Ad}{es:Array DictEntry}{ep:Nat}
def Raw(h:bq)(d:Ad)(es:Array DictEntry)(ep:Nat):Prop:=∃ o,h.get? d=aa o/\o.ExactDict/\o.data=.dict es ep
def Raw.typeIs(x:Raw s.heap d es ep):s.TypeIs (.ref d) "dict":=let ⟨o,ho,hc,_⟩:=x;⟨o,ho,hc.1⟩
def UX(hd:(d==bu)=af) :
  MeetsIn prog w (Builtin.«dict.__len__» ⟨[.ref d],[]⟩) (λ_ R s=>Raw s.heap d es ep/\R (.ok (.ret (.int es.size s.toks))) { s with toks:=s.toks+1 }):=
 .of_wp λA R s ⟨⟨o,b,c,a⟩,h⟩=>by
  show a9 _ _ (dictSize d >>= _) _ _ s;unfold dictSize;refine aA (aA (wpAny_dictEntries b a (aE ?_)));show a9 _ _ (Builtin.Dict.pendingCount d >>= _) _ _ s;refine aA (wpAny_pendingCount_other hd (wpAny_ret_mkInt ?_));rw[Nat.add_zero];exact h
theorem Zch{Q:vL->Sd->Prop}(hd:(d==bu)=af)(a:Raw s.heap d es ep)(b:(es.size:Int) < 2 ^ 63)(h:Q (.int es.size (s.toks+1)) { s with toks:=s.toks+1+1 }):a9 (bf prog w) A (call (.builtin "len") [.ref d]) Q E s:=by
 refine Calls.call_function_entry kind_len plain_len entry_len (args_len1 _) ?_;unfold Builtin.«len»
 refine aA (m:=oneArg "len" _) (aE ?_);refine aA (m:=callSpecial? (.ref d) (Str.ofString "__len__")) (wpAny_callSpecial?_slot (name:=Str.ofString "__len__") a.typeIs F.slot_dict_len
  (call_meetsIn F.slot_dict_len a.typeIs F.entry_dict_len (F.args_dict_len_1 _) (UX (es:=es) (ep:=ep) hd) ⟨a,?_⟩))
 show a9 _ _ _ _ _ { s with toks:=s.toks+1 }
 refine aA (wpAny_holding (aE (aA (wpAny_letGo ?_))));show a9 _ _ (if ((es.size:Nat):Int) < 0 then _ else _) _ _ _
 rw[ar (by omega)]
 show a9 _ _ (if ((es.size:Nat):Int)>=2 ^ 63 then _ else _) _ _ _
 rw[ar (by omega)]
 exact aA (wpAny_mkInt (aE ⟨_,rfl,h⟩))
def VT{X:Cx}:CallR X (.builtin "len") (λc H Q=>∃ a kvs,c=[.ref a]/\H a=aa (.dT kvs)/\Q (.int kvs.length) H):=by
 intro pQ s O H c m Q I r h;obtain⟨a,kvs,rfl,e,q⟩:=h;obtain⟨u,rfl,f⟩:=vals1 r;cases f;have p:=line63;have t:ay=16777216:=sizeLine_eq;obtain⟨n,k,c,d,o,es,ep,i,l,b,j,_⟩:=(show ObjOk X.prog X.w H s.heap a (.dT kvs) from I.hok a _ e);have g:es.size=kvs.length:=by rw[<-eN,j,aD];exact(Paired.length d).symm
 exact Zch k ⟨o,i,l,b⟩ (by omega) ⟨.int kvs.length,H,I.tok _,⟨s.toks+1,by rw[g]⟩,q⟩
end
end Dp
namespace Dp
open PySem PySem.Spec PyProof.Rows L2 Builtin Builtin.Str
variable [ClsTab]
section
variable{X:Cx}{tg:az}
end
end Dp
namespace Dp
open PySem PySem.Spec PyProof.Rows L2
variable [ClsTab]
variable{X:Cx}{pQ:Li (Ad×Obj)}{s:Sd}{O:L2.St}{H:Hp}{Q:VK}
section
open Builtin
open AutoSeq1 (wpAny_loadPart')
theorem XQ:fillsNumberSlot (.type "tuple") "mul"=pure af:=
 PySem.fillsNumberSlot_seq (id := "tuple.__mul__") (r:=aa (.builtin "tuple.__rmul__")) F.slot_tuple_mul.lookup (by decide +kernel) F.slot_tuple_rmul.lookup (by decide +kernel)
theorem Vz:seqRepeat? (.type "tuple")=pure (aa (.builtin "tuple.__mul__")):=by
 unfold seqRepeat?
 rw[PySem.seqSlot_of (T := "tuple") (name := "__mul__") (id := "tuple.__mul__") F.slot_tuple_mul.lookup (by decide +kernel),PySem.seqSlot_of (T := "tuple") (name := "__rmul__") (id := "tuple.__rmul__") F.slot_tuple_rmul.lookup (by decide +kernel)]
 rfl
def U4(a:Int)(t:Tok)(l:Ad)(b:Array vL)(n:Nat)(dd:Ot Ad)(sl:Array (Ot vL)):Meets (Builtin.«int.__rmul__» ⟨[.int a t,.ref l],[]⟩) (λ_ R s=>s.heap.get? l=aa { cls:=.type "tuple",dict:=dd,data:=.seq b n,slots:=sl }/\R (.ok (.ret Value.notImplemented)) s):=
 .of_wp λc w A R s h=>by obtain⟨i,g,d,e,f⟩:=s;obtain⟨j,h⟩:=h;wp_walk;exact⟨_,rfl,h⟩
def Zbd(l:Ad)(a:Array vL)(n:Nat)(dd:Ot Ad)(sl:Array (Ot vL))(u:Tok) :
  Meets (Builtin.«tuple.__mul__» ⟨[.ref l,.int 1 u],[]⟩) (λ_ R s=>s.heap.get? l=aa { cls:=.type "tuple",dict:=dd,data:=.seq a n,slots:=sl }/\R (.ok (.ret (bz l))) s):=
 .of_wp λb w A R s h=>by
  obtain⟨i,g,d,e,f⟩:=s;obtain⟨c,h⟩:=h;have j:=AutoSeq1.idx_int;wp_walk using wpAny_loadPart' c;exact⟨_,rfl,h⟩
def Zbc(l:Ad)(items:Array vL)(n:Nat)(dd:Ot Ad)(sl:Array (Ot vL))(k:Int)(u:Tok)(e:¬items.isEmpty=ae)(c:k<=0)(p:-1000<=k) :
  Meets (Builtin.«tuple.__mul__» ⟨[.ref l,.int k u],[]⟩) (λ_ R s=>s.heap.get? l=aa { cls:=.type "tuple",dict:=dd,data:=.seq items n,slots:=sl }/\R (.ok (.ret (bz s.heap.objs.size))) { s with heap:=s.heap.push { cls:=.type "tuple",data:=.seq #[] } }):=
 .of_wp λb w A R s h=>by
  obtain⟨o,g,d,j,m⟩:=s;obtain⟨a,h⟩:=h;have q:=AutoSeq1.idx_int;have i:(ak (k < -(2 ^ 63))||ak (k>=2 ^ 63))=af:=by rw[aI (by omega),aI (by omega)];rfl
  have f:(items.isEmpty||k==1)=af:=by
   have:(k==1)=af:=by rw[dL];omega
   rw[this,dM];simpa using e
  have r:(ak (k<=0)||items.isEmpty)=ae:=by rw[aG c];rfl
  wp_walk using wpAny_loadPart' a
  refine wpAny_ite_false (by rw[i];rfl) ?_
  wp_walk using wpAny_loadPart' a
  refine wpAny_ite_false (by rw[f];rfl) ?_
  wp_walk using wpAny_loadPart' a
  exact⟨_,rfl,h⟩
def Zbe(l:Ad)(items:Array vL)(n:Nat)(dd:Ot Ad)(sl:Array (Ot vL))(k:Int)(u:Tok)(b:items.size=1)(y:2<=k)(x:k<=1000) :
  Meets (Builtin.«tuple.__mul__» ⟨[.ref l,.int k u],[]⟩) (λ_ R s=>s.heap.get? l=aa { cls:=.type "tuple",dict:=dd,data:=.seq items n,slots:=sl }/\R (.ok (.ret (bz s.heap.objs.size))) { s with heap:=s.heap.push { cls:=.type "tuple",data:=.seq ((ag k.toNat items).foldl (λe c=>e++c) #[]) } }):=
 .of_wp λf w A R s h=>by
  obtain⟨v,g,d,r,t⟩:=s;obtain⟨a,h⟩:=h;have B:=AutoSeq1.idx_int;have q:(ak (k < -(2 ^ 63))||ak (k>=2 ^ 63))=af:=by rw[aI (by omega),aI (by omega)];rfl
  have i:items.isEmpty=af:=by
   rw[Array.isEmpty_eq_false_iff];intro z;rw[z]at b;simp at b
  have p:(items.isEmpty||k==1)=af:=by
   have:(k==1)=af:=by rw[dL];omega
   rw[this,dM];exact i
  have o:(ak (k<=0)||items.isEmpty)=af:=by rw[aI (by omega),i];rfl
  have m:ak ((items.size:Int) * k > (2 ^ 63 - 1) / 8)=af:=by rw[b];exact aI (by omega)
  have j:Tuple.tupleTooMany ((items.size:Int) * k)=af:=by
   unfold Tuple.tupleTooMany;rw[b];exact aI (by have:(ay:Int)>=1000:=(by decide);omega)
  have C:ak (((ag k.toNat items).foldl (λe c=>e++c) #[]).size > ay)=af:=by
   rw[AutoListH.size_joined];refine aI ?_;have:ay>=1000:=by decide
   simp only[b,Array.size_empty];omega
  wp_walk using wpAny_loadPart' a
  refine wpAny_ite_false (by rw[q];rfl) ?_
  wp_walk using wpAny_loadPart' a
  refine wpAny_ite_false (by rw[p];rfl) ?_
  wp_walk using wpAny_loadPart' a
  refine wpAny_ite_false (by rw[o];rfl) ?_
  wp_walk using wpAny_loadPart' a
  refine wpAny_ite_false m ?_
  wp_walk using wpAny_loadPart' a
  refine wpAny_ite_false (by rw[j];rfl) ?_
  wp_walk using wpAny_loadPart' a
  exact⟨_,rfl,h⟩
theorem Zcv{a:Ad}{v:V}{k:Int}{t:Tok}(I:L2.Inv X pQ O H s)(L:TupAt X.K H a [v])(N:k<=1000)(M:-1000<=k)(E:k=1->Q (.ref a) H)(D:∀ p,H p=ab->Q (.ref p) (upd H p (.tup (ag k.toNat v)))):a9 (bf X.prog X.w) X.A (bw .Mult (.ref a) (.int k t)) (EP X pQ O Q) X.xe s:=by
 obtain⟨J,r,G,_⟩:=I.tuple (L.sq);obtain⟨u,rfl,B⟩:=r.one;obtain⟨⟨Y,dd,W,sl⟩,d,l,n,i⟩:=id G;simp only at l i;subst l i;have f:∀ c:Li vL,Vals (ag k.toNat v) c->EP X pQ O Q (.ref s.heap.objs.size) { s with heap:=s.heap.push { cls:=.type "tuple",data:=.seq c.toArray } }:=λc C=>
  ⟨.ref s.heap.objs.size,_,I.laid (t':=s.toks) (o:=.tup (ag k.toNat v)) (λb S q=>aS _ q) (aB _) ⟨by rw[fI];exact aJ (show k.toNat<=1000 by omega) (by decide),c,C,IsTup.new _ _⟩,rfl,D _ (I.hok.fresh (aB _))⟩
 refine wpAny_binaryOp_repeat_ref (T := "tuple") (U := "int") (by decide) ⟨_,d,rfl⟩ (λy=>typeIs_int y k t) XQ F.fills_int_mul F.slot_int_rmul Vz F.slot_int_index.lookup
  (call_meets F.slot_int_rmul (typeIs_int s k t) F.entry_int_rmul (F.args_int_rmul_2 _ _) (U4 k t a _ n dd sl) ⟨d,rfl,⟨_,d,rfl⟩,?_⟩)
 by_cases P:k=1
 .subst P
  exact call_meets F.slot_tuple_mul ⟨_,d,rfl⟩ F.entry_tuple_mul (F.args_tuple_mul_2 _ _) (Zbd a _ n dd sl t) ⟨d,⟨.ref a,H,I,rfl,E rfl⟩⟩
 .by_cases R:k<=0
  .refine call_meets F.slot_tuple_mul ⟨_,d,rfl⟩ F.entry_tuple_mul (F.args_tuple_mul_2 _ _) (Zbc a _ n dd sl k t (by simp) R M) ⟨d,?_⟩
   have z:k.toNat=0:=by omega
   exact f [] (by rw[z];exact .nil)
  .refine call_meets F.slot_tuple_mul ⟨_,d,rfl⟩ F.entry_tuple_mul (F.args_tuple_mul_2 _ _) (Zbe a _ n dd sl k t (by simp) (by omega) N) ⟨d,?_⟩
   have e:List.foldl (λx m=>x++m) #[] (ag k.toNat [u].toArray)=(ag k.toNat u).toArray:=by
    have h:=foldl_rep [u] k.toNat [];rw[eE]at h;rw[show([]:Li vL).toArray=#[] from rfl]at h;rw[h]
    congr 1
    generalize k.toNat=j
    induction j with
    |zero=>rfl
    |succ j g=>rw[dA,dB,g,dA];rfl
   rw[e];refine f _ ?_;generalize k.toNat=j
   induction j with
   |zero=>exact .nil
   |succ j g=>exact .cons B g
end
def Yr:Zk<=ay:=by decide
variable{i j:Int}{xs ys:Li V}{op:Operator}{ds:Li D}{ad:Li Ad}{d:D}{st:Za}{hi:Ot Int}{prog:bg}{w:br}{A:bv}{E:vL->Sd->Prop}{k:Bool}{K:Fg}
variable{X:Cx}
def UT(h:ZX i=ae):-(2 ^ 64) < i/\i < 2 ^ 64:=by
 unfold ZX at h;rw[Ba]at h;exact⟨ao h.1,ao h.2⟩
def ZbF{a b:Ad}(I:Inv X pQ O H s)(q:TupAt X.K H a xs)(o:TupAt X.K H b ys)(B:xs.length+ys.length<=ay)(v:xs=[]->Q (.ref b) H)(u:ys=[]->Q (.ref a) H)(t:∀ p,H p=ab->Q (.ref p) (upd H p (.tup (xs++ys)))):a9 (bf X.prog X.w) X.A (bw .Add (.ref a) (.ref b)) (EP X pQ O Q) X.xe s:=by
 by_cases i:xs=[]
 .obtain⟨h,r,y,_⟩:=I.tuple (q.sq)
  obtain⟨c,E,x,_⟩:=I.tuple (o.sq);have C:h=[]:=r.nil_iff.mpr i;subst C;obtain⟨⟨L,dd,G,sl⟩,k,m,n,l⟩:=id y;obtain⟨⟨J,j,D,g⟩,d,f,z,e⟩:=id x;simp only at m l f e;subst m l f e;exact concat_meets ⟨_,k,rfl⟩ ⟨_,d,rfl⟩ noFill_tuple_add seq_tuple_add PySem.F.slot_tuple_add PySem.F.entry_tuple_add (PySem.F.args_tuple_add_2 _ _)
   (tuple_addW0 a b #[] c.toArray n z dd j sl g rfl) ⟨k,d,⟨.ref b,H,I,rfl,v i⟩⟩
 .exact op_catT pQ s O H (.ref a) (.ref b) _ _ Q I rfl rfl ⟨a,b,xs,ys,rfl,rfl,(q).sq,(o).sq,i,B,u,λ_=>t⟩
def QV(hi:0<=i)(a:0<=j):Builtin.bitAnd i j=((i.toNat &&& j.toNat:Nat):Int):=by
 unfold Builtin.bitAnd;simp[hi,a]
def QW(hi:0<=i)(a:j < 0):Builtin.bitAnd i j=i - ((i.toNat &&& (-j - 1).toNat:Nat):Int):=by
 unfold Builtin.bitAnd;rw[aG hi,aI (by omega)]
 rfl
def Jw(hi:0<=i)(b:0<=j):Builtin.bitOr i j=((i.toNat ||| j.toNat:Nat):Int):=by
 unfold Builtin.bitOr;have n:∀ {k:Int},0<=k->ak (0<=Builtin.bitNot k)=af:=λ{k} h=>by unfold Builtin.bitNot;exact aI (by omega)
 have a:∀ k:Int,Builtin.bitNot (Builtin.bitNot k)=k:=λk=>by unfold Builtin.bitNot;omega
 have e:Builtin.bitAnd (Builtin.bitNot i) (Builtin.bitNot j)=Builtin.bitNot ((Builtin.bitNot (Builtin.bitNot i)).toNat ||| (Builtin.bitNot (Builtin.bitNot j)).toNat:Nat):=by
  unfold Builtin.bitAnd;rw[n hi,n b]
 rw[e,a,a,a]
def Zcq{k:Int}{v u:vL}(I:L2.Inv X pQ O H s)(c:RelV (.int i) v)(b:RelV (.int j) u)(e:QU op i j=aa k)(p:Q (.int k) H) :
  a9 (bf X.prog X.w) X.A (bw op v u) (EP X pQ O Q) X.xe s:=by
 unfold QU at e;split at e
 .cases e
  exact op_add pQ s O H _ _ v u Q I c b ⟨_,_,rfl,rfl,p⟩
 .cases e
  exact op_sub pQ s O H _ _ v u Q I c b ⟨_,_,rfl,rfl,p⟩
 .split at e
  .rename_i a
   cases e;refine op_mul pQ s O H _ _ v u Q I c b ⟨_,_,rfl,rfl,?_,p⟩;rw[bV]at a;exact a.elim (λz=>.inl (UT z)) λz=>.inr (UT z)
  .cases e
 .split at e
  .rename_i a
   cases e;exact op_fdiv pQ s O H _ _ v u Q I c b ⟨_,_,rfl,rfl,a,p⟩
  .split at e
   .rename_i a
    cases e;exact op_fdivN pQ s O H _ _ v u Q I c b ⟨_,_,rfl,rfl,⟨by omega,by omega⟩,p⟩
   .cases e
 .split at e
  .rename_i a
   cases e;exact op_mod pQ s O H _ _ v u Q I c b ⟨_,_,rfl,rfl,a,p⟩
  .split at e
   .rename_i a
    cases e;exact op_modN pQ s O H _ _ v u Q I c b ⟨_,_,rfl,rfl,(by omega),p⟩
   .cases e
 .split at e
  .rename_i a
   cases e;have:=UT a.2.2;exact op_shl pQ s O H _ _ v u Q I c b ⟨_,_,rfl,rfl,⟨a.1,by omega,by omega⟩,p⟩
  .cases e
 .split at e
  .rename_i a
   cases e;refine op_and pQ s O H _ _ v u Q I c b ⟨_,_,rfl,rfl,?_⟩;dsimp only;rw[QV a.1 a.2];exact p
  .split at e
   .rename_i a
    cases e;refine op_and pQ s O H _ _ v u Q I c b ⟨_,_,rfl,rfl,?_⟩;dsimp only;rw[QW a.1 a.2];exact p
   .cases e
 .split at e
  .rename_i a
   cases e;refine op_or pQ s O H _ _ v u Q I c b ⟨_,_,rfl,rfl,?_⟩;dsimp only;rw[Jw a.1 a.2];exact p
  .cases e
 .cases e
def QZ{a b:Ad}(I:L2.Inv X pQ O H s)(C:SqL X.K H a xs)(B:SqL X.K H b ys)(G:xs.length+ys.length<=ay)(q:∀ p,H p=ab->Q (.ref p) (upd H p (.lst (xs++ys)))):a9 (bf X.prog X.w) X.A (bw .Add (.ref a) (.ref b)) (EP X pQ O Q) X.xe s:=by
 obtain⟨d,r,y,_⟩:=I.list C;obtain⟨c,l,x,_⟩:=I.list B;obtain⟨⟨cls,dd,u,sl⟩,m,t,n,o⟩:=id y.isList;obtain⟨⟨v,j,k,i⟩,f,h,z,g⟩:=id x.isList;simp only at t o h g;subst t o h g;have e:d.toArray++c.toArray=(d++c).toArray:=by simp
 have E:=r.length;have D:=l.length;refine concat_meets ⟨_,m,rfl⟩ ⟨_,f,rfl⟩ noFill_list_add seq_list_add PySem.F.slot_list_add PySem.F.entry_list_add (PySem.F.args_list_add_2 _ _) (list_addW a b d.toArray c.toArray n z dd j sl i (by simp;omega)) ⟨m,f,?_⟩
 rw[e];exact⟨.ref _,_,I.lnew (t':=s.toks) (r.append l) (by rw[aH];omega),rfl,q _ I.fresh⟩
def UC(h:Uc op=ae):op=.Add:=by cases op<;>first|rfl|cases h
def Zaq(h:Zaa op=ae):op=.Mult:=by cases op<;>first|rfl|cases h
def Zcp:OpR X (bw op) (rD X.K (VO op)):=by
 intro pQ s O H x y v u Q I r o h;obtain⟨ad,st,R,P,d,st',S,m,l,e,p⟩:=h;unfold VO at e;split at e
 .split at e
  .rename_i k q
   cases e;cases m;cases l
   exact Zcq I r o q (p.at S (.int _))
  .exact Zb e
 .split at e
  .rename_i i
   cases UC i.1
   have g:=i.2;cases e;obtain⟨a,xs,rfl,j,c⟩:=m.ofTup;obtain⟨b,ys,rfl,E,A⟩:=l.ofTup;cases r;cases o
   refine ZbF I j E (by rw[c.length,A.length];exact aJ g Yr) (λz=>?_) (λz=>?_) λq f=>?_
   .subst z;cases c
    exact p.at S l
   .subst z;cases A
    rw[bF]at p;exact p.at S m
   .exact p _ ad _ (Ext.laid f) (S.laid f) (.tup (.inl upd_same) ((c.append A).mono (Ext.laid f)))
  .exact Zb e
 .split at e
  .rename_i i
   cases Zaq i
   obtain⟨a,xs,rfl,j,c⟩:=m.ofTup;cases l;cases r;obtain⟨t,rfl⟩:=o;cases c with
   |nil=>exact Zb e
   |cons B c=>cases c with
    |cons _ _=>exact Zb e
    |nil=>
     have e:(if _/\_ then aa (D.tup (ag _ _),st) else ab)=aa (d,st'):=e
     split at e
     .rename_i g
      cases e;refine Zcv I j g.1 g.2 (λz=>?_) λq f=>p _ ad _ (Ext.laid f) (S.laid f) (.tup (.inl upd_same) ((Dens.rep B _).mono (Ext.laid f)))
      subst z;exact p.at S (.tup j (.cons B .nil))
     .exact Zb e
  .exact Zb e
 .split at e
  .rename_i n
   cases UC n
   unfold ZbE at e;split at e
   .rename_i xs ys C G
    split at e
    .rename_i g
     cases e;obtain⟨a,rfl,j⟩:=m.ofLst;obtain⟨b,rfl,E⟩:=l.ofLst;obtain⟨vs,c,F⟩:=S.list j C;obtain⟨N,A,L⟩:=S.list E G;cases r;cases o
     refine QZ I F L (by rw[c.length,A.length];exact aJ g Yr) λq f=>?_
     refine p _ (ad++[q]) _ (Ext.push f) (S.push f (c.append A)) (.newL ?_);rw[<-S.len];exact Zt
    .exact Zb e
   .exact Zb e
  .exact Zb e
 .split at e
  .rename_i n
   cases Zaq n
   unfold ZfI at e;split at e
   .rename_i z C
    split at e
    .rename_i g
     cases e;obtain⟨a,rfl,j⟩:=m.ofLst;obtain⟨vs,c,F⟩:=S.listM j C;cases l;cases c with
     |cons B c=>
      cases c;rename_i w;refine op_rep pQ s O H _ _ v u Q I r o ⟨a,_,[w],rfl,rfl,F,by omega,by omega,?_,λq f=>?_⟩
      .rw[fK,Nat.one_mul]
       exact aJ (show _<=1000 by omega) (by decide)
      .have M:∀ k:Nat,(ag k [w]).flatten=ag k w:=λk=>by
        induction k with
        |zero=>rfl
        |succ k J=>rw[dA,dB,J,dA];rfl
       rw[M];refine p _ (ad++[q]) _ (Ext.push f) (S.push f (Dens.rep B _)) (.newL ?_);rw[<-S.len];exact Zt
    .exact Zb e
   .exact Zb e
  .exact Zb e
 .split at e
  .rename_i g
   cases UC g.1
   cases e;cases m;cases l
   exact op_add_str pQ s O H _ _ v u Q I r o ⟨_,_,rfl,rfl,aJ g.2 Yr,p.at S (.str _)⟩
  .exact Zb e
 .exact Zb e
def Zc1:UnR X (unaryOp .USub) (rU1 X.K Zeo):=by
 intro pQ s O H x v Q I a h;obtain⟨ad,st,c,d,st',S,b,e,p⟩:=h;unfold Zeo at e;split at e
 .cases e;cases b
  exact un_neg pQ s O H _ v Q I a ⟨_,rfl,p.at S (.int _)⟩
 .exact Zb e
def Zc0:UnR X (unaryOp .Invert) (rU1 X.K Zec):=by
 intro pQ s O H x v Q I a h;obtain⟨ad,st,c,d,st',S,b,e,p⟩:=h;unfold Zec at e;split at e
 .cases e;cases b
  exact un_inv pQ s O H _ v Q I a ⟨_,rfl,p.at S (.int _)⟩
 .exact Zb e
def UE(r:Dens X.K ad H xs ds)(e:atD ds i=aa d):∃ v,atI xs i=aa v/\Den X.K ad H v d:=by
 unfold atD at e;have a:L2.ixN xs.length i=Dp.ixN ds.length i:=by rw[r.length];rfl
 cases q:Dp.ixN ds.length i with
 |none=>rw[q]at e;cases e
 |some j=>
  rw[q]at e;obtain⟨v,c,b⟩:=r.get (i:=j) e;refine⟨v,?_,b⟩;unfold atI;rw[a,q];exact c
theorem Xy{ad:Li Ad}{H:Hp}{k:Str}:∀ {ks:Li Str}{vs:Li V}{ds:Li D},Dens X.K ad H vs ds->ks.length=vs.length->
  (∃ v d,valV ((ks.zip vs).map λp=>((Sum.inr p.1:Key),p.2)) (Sum.inr k)=aa v/\Z5 ks ds k=aa d/\Den X.K ad H v d)\/(valV ((ks.zip vs).map λp=>((Sum.inr p.1:Key),p.2)) (Sum.inr k)=ab/\Z5 ks ds k=ab)
 |[],_,_,.nil,_=>.inr ⟨rfl,rfl⟩
 |[],_,_,.cons _ _,h=>by simp at h
 |_ :: _,_,_,.nil,h=>by simp at h
 |x :: ks,v :: vs,d :: ds,.cons b r,h=>by
  by_cases e:x=k
  .subst e
   exact .inl ⟨v,d,valV_pos rfl,by simp[Z5],b⟩
  .have a:=Xy (k:=k) r (by simpa using h)
   have f:valV (((x :: ks).zip (v :: vs)).map λp=>((Sum.inr p.1:Key),p.2)) (Sum.inr k)=valV ((ks.zip vs).map λp=>((Sum.inr p.1:Key),p.2)) (Sum.inr k):=valV_neg (p:=(Sum.inr x,v)) (by intro z;exact e (Sum.inr.inj z))
   have c:Z5 (x :: ks) (d :: ds) k=Z5 ks ds k:=by simp[Z5,e]
   rw[f,c];exact a
def UL{ks:Li D}{a:Nat}{o:Ot D}(h:dAt ks a st=aa o):∃ i j b xs,ks=[.int i,.int j]/\st[a]?=aa (b,xs)/\o=Yc xs i j:=by
 cases ks with
 |nil=>exact Zb h
 |cons x ks=>cases ks with
  |nil=>exact Zb h
  |cons y ks=>cases ks with
   |cons _ _=>exact Zb h
   |nil=>
    refine ZO (P:=λo=>∃ i j b xs,[x,y]=[D.int i,.int j]/\st[a]?=aa (b,xs)/\o=Yc xs i j) h λp c d f=>?_
    refine ZO (P:=λp:Int×Int=>∃ i j b xs,[x,y]=[D.int i,.int j]/\st[a]?=aa (b,xs)/\Yc c.2 p.1 p.2=Yc xs i j) d λi j hi e=>?_
    exact⟨i,j,c.1,c.2,by rw[Qv hi,Qv e],f,rfl⟩
def Xq{y:V}(a:Den X.K ad H y (.tup [.int i,.int j])):∃ b,y=.ref b/\SqT X.K H b (([.inl i,.inl j]:Li Key).map kV):=by
 obtain⟨b,xs,rfl,c,r⟩:=a.ofTup;cases r with
 |cons e r=>cases r with
  |cons d r=>cases r;cases e;cases d;exact⟨b,rfl,c.sq⟩
def Zfh{x:Str}(q:atD ((chS x).map D.str) i=aa d):∃ c,atI x.cps.toList i=aa c/\d=.str ⟨#[c]⟩:=by
 unfold atD at q;unfold atI;have b:((chS x).map D.str).length=x.cps.toList.length:=by simp[chS]
 rw[b]at q;show ∃ c,(Dp.ixN x.cps.toList.length i).bind (λj=>x.cps.toList[j]?)=aa c/\_
 cases e:Dp.ixN x.cps.toList.length i with
 |none=>rw[e]at q;cases q
 |some j=>
  rw[e]at q;have q:((chS x).map D.str)[j]?=aa d:=q;unfold chS at q;rw[bA,bA]at q;show ∃ c,x.cps.toList[j]?=aa c/\_;cases a:x.cps.toList[j]? with
  |none=>rw[a]at q;cases q
  |some c=>rw[a]at q;cases q;exact⟨c,rfl,rfl⟩
def Zgc(hu:X.A.units+64 < cLine):IxR X (rD X.K ixR):=by
 intro f slice pQ s O H x y v u Q I t m h C;obtain⟨ad,st,Z,Y,d,st',S,B,z,e,p⟩:=h;unfold ixR at e;split at e
 .rename_i d' q
  cases e;unfold ixD at q;split at q
  .obtain⟨a,xs,rfl,l,r⟩:=B.ofTup
   cases z;obtain⟨w,k,g⟩:=UE r q;exact ix_tup f slice pQ s O H _ _ v u Q I t m ⟨a,xs,_,w,rfl,rfl,(l).sq,k,p.at S g⟩ C
  .split at q
   .rename_i D
    obtain⟨a,rfl,l⟩:=B.ofLst;cases z;obtain⟨xs,r,sq⟩:=S.list l D;obtain⟨w,k,g⟩:=UE r q;exact ix_list f slice pQ s O H _ _ v u Q I t m ⟨a,xs,_,w,rfl,rfl,sq,k,p.at S g⟩ C
   .exact Zb q
  .obtain⟨a,vs,rfl,l,L,r⟩:=B.ofDct
   cases z;rcases Xy r L with⟨w,W,k,g,F⟩|⟨_,g⟩
   .rw[g]at q
    cases q;exact ix_dct f slice pQ s O H _ _ v u Q I t m ⟨a,_,Sum.inr _,w,rfl,rfl,l,k,p.at S F⟩ C
   .rw[g]at q;cases q
  .obtain⟨a,o,E,n,rfl,V,U,T,R,P⟩:=B.ofKt
   cases z;obtain⟨w,k,g⟩:=UE (W5 _) q;exact ix_tup f slice pQ s O H _ _ v u Q I t m ⟨a,_,_,w,rfl,rfl,.inr ⟨o,E,n,V,U.1,T,R,P⟩,k,p.at S g⟩ C
  .refine j_e q λq=>?_
   obtain⟨i,j,bb,es,rfl,D,q⟩:=UL q;obtain⟨a,rfl,l,J⟩:=B.ofDic;obtain⟨kvs,r,M,_⟩:=S.dict l J D;obtain⟨b,rfl,N⟩:=Xq z;rcases Xa r with⟨w,W,k,g,F⟩|⟨_,g⟩
   .rw[g]at q
    cases q;exact ix_dT (by omega) f slice pQ s O H _ _ v u Q I t m ⟨a,b,kvs,_,w,rfl,rfl,N,M,k,p.at S F⟩ C
   .rw[g]at q;cases q
  .split at q
   .rename_i G
    cases B;cases z
    obtain⟨c,k,rfl⟩:=Zfh q;exact ix_str f slice pQ s O H _ _ v u Q I t m ⟨_,_,c,rfl,rfl,aJ G Yr,k,p.at S (.str _)⟩ C
   .exact Zb q
  .exact Zb q
 .exact Zb e
def YD(n d:Nat)(o:Ot Int):Dp.sIx n d o=HT.sIx n d o:=by cases o<;>rfl
def JF{lo:Ot Int}(r:Dens X.K ad H xs ds):Dens X.K ad H (cutV xs lo hi) (XN ds lo hi):=by
 unfold cutV XN;rw[<-r.length,YD,YD];exact(r.drop _).take _
def WQ{t sl:Ad}{a:Array vL}{i g:vL}{lo:Ot Int}{Q:vL->Sd->Prop}(c:IsTup s.heap t a)(k:s.heap.IsSliceOf sl i g .none)(m:IsPart i lo)(l:IsPart g hi)(j:HT.sIx a.size 0 lo=0/\HT.sIx a.size a.size hi=a.size)(h:Q (.ref t) s):a9 (bf prog w) A (getItem (.ref t) (.ref sl)) Q E s:=by
 obtain⟨n,d,e,o⟩:=id k;have f:s.TypeIs (.ref sl) "slice":=⟨n,d,e⟩;unfold getItem
 try with_reducible refine wpAny_holding ?_
 first|refine aA (aE ?_)|skip
 refine aA (wpAny_sequenceKey c.typeIs (by decide) ?_)
 refine aA (wpAny_callSpecial?_slot (name:=Str.ofString "__getitem__") c.typeIs PyProof.Rows.slot_tuple_getitem
  (wpAny_call_entry PyProof.Rows.slot_tuple_getitem c.typeIs PyProof.Rows.entry_tuple_getitem ?_ (PyProof.Rows.args_tuple_getitem _ _)))
 show a9 _ _ (Builtin.Tuple.tupleItemsOf (.ref t) >>= _) _ _ s;refine aA (tupleItemsOf_ c ?_);refine aA (wpAny_typeOf f ?_);rw[aq (by decide)]
 refine aA (HT.sliceApplied_gen k m l ?_);rw[j.1,j.2];have b:(((0:Nat):Int)==0&&(1:Int)==1&&(a.size - 0)==a.size)=ae:=by simp
 show a9 _ _ (if (((0:Nat):Int)==0&&(1:Int)==1&&(a.size - 0)==a.size)=ae then _ else _) _ _ s
 rw[aq b];unfold Builtin.Tuple.tupleIsExact
 wp_walk using wpAny_typeOf c.typeIs
 exact⟨_,rfl,aE h⟩
def Za6:SlR X (λx lo hi H Q=>∃ a xs,x=.ref a/\SqT X.K H a xs/\(HT.sIx xs.length 0 lo=0/\HT.sIx xs.length xs.length hi=xs.length)/\Q (.ref a) H):=by
 intro pQ s O H x v m l lo hi sl Q I e k g f h;obtain⟨a,xs,rfl,i,j,q⟩:=h;cases e;obtain⟨c,r,d,n⟩:=I.tuple i;have b:c.toArray.size=xs.length:=by rw[aF];exact r.length.symm
 refine⟨"tuple",_,PyProof.Rows.slot_tuple_getitem.lookup,d.typeIs,?_⟩;exact WQ d k g f (by rw[b];exact j) ⟨.ref a,H,I,rfl,q⟩
def Zg3:SlR X (rSl X.K):=by
 intro pQ s O H x v i g lo hi sl Q I j n l k h;obtain⟨ad,st,t,d,st',S,f,e,p⟩:=h;unfold Ya at e;split at e
 .rename_i ds
  split at e
  .rename_i m
   cases e;obtain⟨a,xs,rfl,c,r⟩:=f.ofTup;refine Za6 pQ s O H _ v i g lo hi sl Q I j n l k ⟨a,xs,rfl,c.sq,?_,p.at S f⟩;rw[r.length,<-YD,<-YD];exact m
  .rename_i m
   cases e;obtain⟨a,xs,rfl,c,r⟩:=f.ofTup;refine sl_tup pQ s O H _ v i g lo hi sl Q I j n l k ⟨a,xs,rfl,(c).sq,?_,λq b=>p _ ad _ (Ext.laid b) (S.laid b) (.tup (.inl upd_same) ((JF r).mono (Ext.laid b)))⟩
   rw[r.length,<-YD,<-YD];exact m
 .split at e
  .rename_i o
   cases e;obtain⟨a,rfl,c⟩:=f.ofLst;obtain⟨xs,r,sq⟩:=S.list c o;refine sl_list pQ s O H _ v i g lo hi sl Q I j n l k ⟨a,xs,rfl,sq,λq b=>p _ (ad++[q]) _ (Ext.push b) (S.push b (JF r)) (.newL ?_)⟩
   rw[<-S.len];exact Zt
  .exact Zb e
 .exact Zb e
def WX{vs:Li V}(h:Dens X.K ad H vs [d]):∃ v,vs=[v]/\Den X.K ad H v d:=by
 cases h with
 |cons h r=>cases r;exact⟨_,rfl,h⟩
def Yi{g:D->Za->Res}{r:D×Za}(h:on1 g ds st=aa r):∃ d,ds=[d]/\g d st=aa r:=by
 unfold on1 at h;split at h
 .exact⟨_,rfl,h⟩
 .exact Zb h
def QY:CallR X (.builtin "len") (rC X.K (on1 US)):=by
 intro pQ s O H xs b Q I r h;obtain⟨ad,st,ds,d,st',S,u,e,p⟩:=h;obtain⟨x,rfl,C⟩:=Yi e;have e:=C;obtain⟨v,rfl,f⟩:=WX u;unfold US at e;split at e
 .rename_i n q
  cases e;unfold Zcg at q;split at q
  .cases q
   obtain⟨a,ys,rfl,j,c⟩:=f.ofTup;refine call_len_seq pQ s O H _ b Q I r ⟨a,ys,rfl,.inr ((j).sq),?_⟩;rw[c.length];exact p.at S (.int _)
  .split at q
   .rename_i g
    cases q;obtain⟨a,rfl,j⟩:=f.ofLst;obtain⟨ys,c,sq⟩:=S.list j g;refine call_len_seq pQ s O H _ b Q I r ⟨a,ys,rfl,.inl sq,?_⟩;rw[c.length];exact p.at S (.int _)
   .cases q
  .cases q
   obtain⟨a,o,i,n,rfl,B,A,z,y,w⟩:=f.ofKt;refine call_len_seq pQ s O H _ b Q I r ⟨a,_,rfl,.inr (.inr ⟨o,i,n,B,A.1,z,y,w⟩),?_⟩;rw[aD];exact p.at S (.int _)
  .split at q
   .rename_i k
    cases q;cases f
    exact call_len pQ s O H _ b Q I r ⟨_,_,rfl,⟨aJ k Yr,rfl⟩,p.at S (.int _)⟩
   .cases q
  .split at q
   .rename_i g
    cases q;obtain⟨l,rfl,t,n⟩:=f.ofDic;obtain⟨kvs,c,m,_⟩:=S.dict t n g;refine VT pQ s O H _ b Q I r ⟨l,kvs,rfl,m,?_⟩;rw[Y0 c];exact p.at S (.int _)
   .cases q
  .cases q
 .exact Zb e
def VU:CallR X (.type "tuple") (rC X.K (on1 VE)):=by
 intro pQ s O H xs g Q I r h;obtain⟨ad,st,ds,d,st',S,k,e,p⟩:=h;obtain⟨x,rfl,m⟩:=Yi e;have e:=m;obtain⟨v,rfl,b⟩:=WX k;unfold VE at e;split at e
 .cases e
  obtain⟨a,ys,rfl,f,i⟩:=b.ofTup;exact call_tuple_of pQ s O H _ g Q I r ⟨a,ys,rfl,.inr ⟨(f).sq,p.at S b⟩⟩
 .split at e
  .rename_i j
   cases e;obtain⟨a,rfl,f⟩:=b.ofLst;obtain⟨ys,i,sq⟩:=S.list f j;exact call_tuple_of pQ s O H _ g Q I r ⟨a,ys,rfl,.inl ⟨sq,λl c=>p _ ad _ (Ext.laid c) (S.laid c) (.tup (.inl upd_same) (i.mono (Ext.laid c)))⟩⟩
  .cases e
 .cases e
def UI:CallR X (.type "list") (rC X.K (on1 Ug)):=by
 intro pQ s O H xs g Q I r h;obtain⟨ad,st,ds,d,st',S,k,e,p⟩:=h;obtain⟨x,rfl,m⟩:=Yi e;have e:=m;obtain⟨v,rfl,i⟩:=WX k;unfold Ug at e;split at e
 .cases e
  obtain⟨a,ys,rfl,f,c⟩:=i.ofTup;refine call_list_of pQ s O H _ g Q I r ⟨a,ys,rfl,.inr ((f).sq),λl b=>p _ (ad++[l]) _ (Ext.push b) (S.push b c) (.newL ?_)⟩
  rw[<-S.len];exact Zt
 .split at e
  .rename_i j
   cases e;obtain⟨a,rfl,f⟩:=i.ofLst;obtain⟨ys,c,sq⟩:=S.list f j;refine call_list_of pQ s O H _ g Q I r ⟨a,ys,rfl,.inl sq,λl b=>p _ (ad++[l]) _ (Ext.push b) (S.push b c) (.newL ?_)⟩
   rw[<-S.len];exact Zt
  .cases e
 .cases e
theorem VS{ad:Li Ad}{H:Hp}:∀ {vs:Li V}{ds:Li D}{bs:Li Bool},Dens X.K ad H vs ds->YS ds=aa bs->vs=bs.map V.bl
 |_,_,_,.nil,e=>by cases e;rfl
 |_,_,bs,.cons (d:=d) h r,e=>by
  cases d with
  |bl b=>
   cases h;unfold YS at e;cases q:YS _ with
   |none=>rw[q]at e;cases e
   |some l=>rw[q]at e;cases e;rw[VS r q];rfl
  |_=>simp[YS]at e
theorem WL:∀ {bs:Li Bool}{its:Li vL},Vals (bs.map V.bl) its->its=bs.map Value.bool
 |[],_,.nil=>rfl
 |b :: bs,_,.cons r t=>by cases r;rw[WL t];rfl
def ZaT{nm:String}{f:Li Bool->Bool}(u:∀ {prog:bg}{w:br}{A:bv}{E:vL->Sd->Prop}{s:Sd}{l:Ad}{bs:Li Bool}{Q:vL->Sd->Prop},A.handled=ab->s.heap.IsList l (bs.map Value.bool).toArray->
   (∀ g c,(∀ b o,s.heap.get? b=aa o->g.get? b=aa o)->Q (.bool (f bs)) { s with heap:=g,toks:=c })->a9 (bf prog w) A (call (.builtin nm) [.ref l]) Q E s)(B:X.calm=ae):CallR X (.builtin nm) (rC X.K (on1 (WE f))):=by
 intro pQ s O H xs J Q I r h;obtain⟨ad,st,ds,d,st',S,z,e,p⟩:=h;obtain⟨x,rfl,G⟩:=Yi e;have e:=G;obtain⟨v,rfl,y⟩:=WX z;unfold WE at e;split at e
 .split at e
  .rename_i n
   split at e
   .rename_i bs m
    cases e;obtain⟨a,rfl,C⟩:=y.ofLst;obtain⟨ys,i,sq⟩:=S.list C n;cases r with
    |cons r j=>
     cases j;cases r
     obtain⟨t,rv,q,_⟩:=I.list sq;have F:=VS i m;subst F;have D:=WL rv;subst D;exact u (I.ok.hd B) q.isList λg c k=>⟨.bl _,H,I.kept (t':=c) k,rfl,p.at S (.bl _)⟩
   .exact Zb e
  .exact Zb e
 .exact Zb e
def Zcc{a:bq}{o:Obj}(d:∀ b x,b∉[s.heap.objs.size]->(s.heap.push o).get? b=aa x->a.get? b=aa x):∀ b x,s.heap.get? b=aa x->a.get? b=aa x:=
 λb x e=>d b x (λc=>by rw[aP.mp c]at e;exact cJ _ (aK e)) (aS _ e)
def ZbC{bs:Li Bool}{i:Nat}{v:vL}(h:(bs.map Value.bool).toArray[i]?=aa v):∃ b,bs[i]?=aa b/\v=.bool b:=by
 rw[List.getElem?_toArray,bA]at h;cases q:bs[i]? with
 |none=>rw[q]at h;cases h
 |some b=>rw[q]at h;cases h;exact⟨b,rfl,rfl⟩
def Zfb{l:Ad}{bs:Li Bool}{Q:vL->Sd->Prop}(m:A.handled=ab)(g:s.heap.IsList l (bs.map Value.bool).toArray)(h:∀ c d,(∀ b o,s.heap.get? b=aa o->c.get? b=aa o)->Q (.bool (bs.all id)) { s with heap:=c,toks:=d }):a9 (bf prog w) A (call (.builtin "all") [.ref l]) Q E s:=by
 have f:l < s.heap.objs.size:=by obtain⟨_,e,_⟩:=g;exact aK e
 refine call_all_walk (wpAny_pyIter_list g ?_);refine⟨s.heap.objs.size,[s.heap.objs.size,l],[s.heap.objs.size],(bs.map Value.bool).toArray.size,_,_,λi=>(bs[i]?).getD ae,rfl,Walks.list (A:=A.in1) m _ l (bE f) _,
  ⟨⟨_,bR _ rfl,rfl,rfl⟩,g.push _⟩,λi v q r t p j=>?_,λc d k=>?_⟩
 .obtain⟨b,e,rfl⟩:=ZbC p
  simp only[e,fA]at j;exact wpAny_truthy_bool j
 .have e:((aj (bs.map Value.bool).toArray.size).all λi=>(bs[i]?).getD ae)=bs.all id:=by
   rw[aF,aD,cL,bT,bT];constructor
   .intro z b n
    obtain⟨i,hi,rfl⟩:=List.getElem_of_mem n;have:=z i (cK.mpr hi);simp only[Lg hi,fA]at this;exact this
   .intro z i hi
    have a:=cK.mp hi;simp only[Lg a,fA];exact z _ (bC a)
  rw[e];exact h c d (Zcc k)
noncomputable def tyN:Ty->String
 |.int => "int"
 |.bool => "bool"
 |.str => "str"
 |.tuple => "tuple"
noncomputable def Zae:D->String
 |.int _ => "int"
 |.bl _ => "bool"
 |.str _ => "str"
 |.tup _ => "tuple"
 |.non => "NoneType"
 |_ => "list"
def Zaf(K:Fg){T:Ty}(h:Zee T d=aa k):W.kitOne K (.type (Zae d)) (.type (tyN T))=aa k:=by
 cases d<;>first | (cases h;done) | (cases T<;>(cases h;rfl))
def ZfX{v:V}{T:Ty}(h:Zee T d=aa k)(c:Den K ad H v d):TyOf K H v (.type (Zae d))\/∃ a xs,v=.ref a/\SqT K H a xs/\Zae d = "tuple":=by
 cases c with
 |non=>exact .inl .non
 |bl b=>exact .inl (.bl b)
 |int i=>exact .inl (.int i)
 |str x=>exact .inl (.str x)
 |tup e r=>exact .inr ⟨_,_,rfl,e.sq,rfl⟩
 |lst e=>exact Zb h
 |dic _ _=>exact Zb h
 |dct _ _ _ _ _=>exact Zb h
 |obj _ _=>exact Zb h
 |kt _ _ _ _ _ _=>exact Zb h
def JA{T:Ty}:CallR X (.builtin "isinstance") (λvs H Q=>∃ v,vs=[v,.ty (tyN T)]/\rC X.K (on1 (Zab T)) [v] H Q):=by
 intro pQ s O H xs D Q I r h;obtain⟨v,rfl,ad,st,ds,d,st',S,u,e,p⟩:=h;obtain⟨x,rfl,B⟩:=Yi e;have e:=B;obtain⟨w,n,t⟩:=WX u;cases n;unfold Zab at e;split at e
 .rename_i k q
  cases e;cases r with
  |cons b i=>
   cases i with
   |cons g f=>
    cases f;cases g;rcases ZfX q t with ty|⟨a,C,rfl,sq,l⟩
    .exact isinst_ok I b ty (Zaf X.K q) λc=>⟨.bl k,H,I.tok _,rfl,p.at S (.bl k)⟩
    .have kt:=Zaf X.K q
     rw[l]at kt;cases b;obtain⟨m,_,j,_⟩:=I.tuple sq;obtain⟨o,A,y,_⟩:=j;exact W.kia_one W.kitx_tuple I.kIn ⟨o,A,y⟩ kt (λz=>nomatch z) λc=>⟨.bl k,H,I.tok _,rfl,p.at S (.bl k)⟩
 .exact Zb e
variable{e:az}{pos:Pos}
def Uq(n:Nat):sliceRange ((n:Int) - 1) (-1) (-1)=(aj n).map λk=>n - 1 - k:=by
 unfold sliceRange;rw[ar (by omega)]
 have e:(if (n:Int) - 1 > -1 then ((n:Int) - 1 - -1 - -1 - 1) / (- -1) else 0).toNat=n:=by
  split
  .have:((n:Int) - 1 - -1 - -1 - 1) / (- -1)=(n:Int):=by
    rw[show(- -1:Int)=1 by omega,Int.ediv_one];omega
   rw[this];simp
  .have:n=0:=by omega
   subst this;rfl
 show List.map (λ(k:Nat)=>((n:Int) - 1+-1 * (k:Int)).toNat) (aj (if (n:Int) - 1 > -1 then ((n:Int) - 1 - -1 - -1 - 1) / (- -1) else 0).toNat)=_
 rw[e];apply List.map_congr_left
 intro k a;omega
theorem JM(a:Li vL):∀ (L:Li Nat),(∀ k∈L,k < a.length)->L.filterMap (a.toArray[·]?)=L.map λk=>a.getD k .none
 |[],_=>rfl
 |k :: L,h=>by
  have c:=h k (Ls ..);have e:a.toArray[k]?=aa (a.getD k .none):=by
   rw[List.getElem?_toArray,aU,Lg c];rfl
  rw[fG,e,aZ,JM a L λb d=>h b (Lm _ d)]
def ZaM(a:Li vL):slicePick a.toArray ab ab (aa (-1))=a.reverse.toArray:=by
 unfold slicePick;have b:sliceBounds ab ab (aa (-1)) a.toArray.size=((a.length:Int) - 1,-1,-1):=by
  simp[sliceBounds]
 rw[b];show((sliceRange ((a.length:Int) - 1) (-1) (-1)).filterMap (a.toArray[·]?)).toArray=_;rw[Uq,JM a _ (λk c=>by
  obtain⟨j,d,rfl⟩:=aQ.mp c;have:=cK.mp d;omega)]
 congr 1
 apply List.ext_getElem
 .simp
 .intro k e f
  have c:k < a.length:=by simpa using e
  simp only[List.getElem_map,List.getElem_range,List.getElem_reverse];rw[aU,Lg (by omega)]
  rfl
def Zg1(K:Fg):V->Hp->VK->Prop:=λx H Q=>∃ a xs,x=.ref a/\SqL K H a xs/\∀ p,H p=ab->Q (.ref p) (upd H p (.lst xs.reverse))
def ZfU(K:Fg)(b a:TE):TE:=λO H Q=>b O H λx d=>a O d λy c=>y=.int (-1)/\Zg1 K x c Q
theorem UA:∀ {xs:Li V}{its:Li vL},Vals xs its->Vals xs.reverse its.reverse
 |_,_,.nil=>.nil
 |_,_,.cons a r=>by
  rw[eT,eT];exact(UA r).append (.cons a .nil)
theorem V2{K:Fg}{ad:Li Ad}{H:Hp}:∀ {xs:Li V}{ds:Li D},Dens K ad H xs ds->Dens K ad H xs.reverse ds.reverse
 |_,_,.nil=>.nil
 |_,_,.cons a r=>by
  rw[eT,eT];exact(V2 r).append (.cons a .nil)
def Zeu{es:az}{g f:TE}{i:Pos}(D:PE X e g)(C:PE X es f):PE X (.Subscript e (.Slice ab ab (aa es) i) pos) (ZfU X.K g f):=by
 intro pQ s O H Q I h;refine Subscript_ (thn (D pQ s O H _ I h) λv s1 ⟨x,J,F,m,p⟩=>?_)
 refine wpAny_Slice ?_;rw[evalPart_none];refine aE ?_;refine aE ?_;rw[evalPart_some];refine thn (C pQ s1 O J _ F p) λvs c ⟨y,G,E,l,n⟩=>?_
 obtain⟨rfl,a,xs,rfl,sq,q⟩:=n;obtain⟨t,rfl⟩:=l;cases m;have d:Inv X pQ O G { c with heap:=c.heap.push { cls:=.type "slice",data:=.fields #[.none,.none,.int (-1) t] } }:=E.kept (t':=c.toks) λb u q=>aS _ q
 obtain⟨z,r,j,B⟩:=d.list sq;have k:=r.length;show a9 (bf X.prog X.w) X.A (subscriptTail e (.Slice ab ab (aa es) i) (.ref a) (.ref c.heap.objs.size)) (EP X pQ O Q) X.xe { c with heap:=c.heap.push { cls:=.type "slice",data:=.fields #[.none,.none,.int (-1) t] } }
 refine tail_any (ops:=[.ref a,.ref c.heap.objs.size]) j.isList.typeIs slot_list_getitem.lookup ?_ (by with_unfolding_all rfl)
 refine wpAny_getItem_list_slice j.isList (Heap.IsSliceOf.new ..) .none .none (.int (-1) t) (by simp) ?_ (by rw[aF]<;>omega)
 rw[ZaM];refine⟨.ref _,_,d.laid (t':=c.toks) (o:=.lst xs.reverse) (λb u q=>aS _ q) (aB _) ?_,rfl,q _ (d.hok.fresh (aB _))⟩
 exact⟨by rw[cV];exact B,_,0,UA r,bR _ rfl⟩
variable [ClsTab]
def tDd(K:Fg)(c d:TE):TE:=λO H Q=>∀ p,H p=ab->(∀ o,K.lookup p≠aa o)->c O (upd H p (.dT [])) λx e=>d O e λv a=>∃ kvs b k,a p=aa (.dT kvs)/\kvs.length < ay/\x=.ref b/\a b=aa (.tup (k.map kV))/\Q (.ref p) (upd a p (.dT (putK kvs k v)))
def ZfD(hu:X.A.units+1 < cLine){a:az}{i j:TE}(J:PE X a i)(F:PE X e j):PE X (.Dict [aa a] [e] pos) (tDd X.K i j):=by
 intro pQ s O H Q I q;have E:=I.hok.fresh (aB s.heap.objs.size);have T:=I.laid (a:=s.heap.objs.size) (o:=.dT []) (h':=s.heap.push { cls:=.type "dict",data:=.dict #[] }) (t':=s.toks) (λ_ _ q=>aS _ q) (aB _) (dt_empty s.heap I.big)
 refine wpAny_Dict_any rfl rfl (by simp) (by show 1<=15;decide) (pairTrees_cons_walk (thn (J pQ _ O _ _ T (q _ E λo z=>au (aK (I.kIn _ o z)) (cJ _))) λt s1 ⟨x,V,S,u,B⟩=>thn (F pQ s1 O V _ S B) λW Y ⟨v,U,h,rv,kvs,b,k,f,n,ex,r,y⟩=>pairTrees_nil_walk ?_))
 subst ex;cases (show t=bz b from u)
 obtain⟨z,G,xs,d,dd⟩:=dt_of h.hok f;have C:xs.length<=ay:=by rw[<-Paired.length d];exact z
 have n:(putK kvs k v).length<=ay:=by have:=length_putK kvs k v;omega
 unfold storeAll;rw[List.forIn_cons];refine aA (aA (wpAny_dictSet_heap (hsz:=C) (show(tupleKind (mixKind X.prog X.w)).room X.A from Nat.lt_of_succ_lt hu) (key_of h.hok r) dd λh' g D=>aE ?_))
 dsimp only;rw[List.forIn_nil];refine aE ?_;obtain⟨l,es,R,m,P,N,M,_,L⟩:=g;refine⟨.ref _,upd U _ (.dT (putK kvs k v)),d_write h (by rw[f];exact True.intro) D ⟨l,m⟩ ⟨n,G,_,(d.put k r rv).keeps λc ys p=>?_,l,es,R,m,P,N,M,L⟩,rfl,y⟩
 rw[upd_ne (ne_of p f (λz=>nomatch z))]
 exact p
variable{fa:Ev}
def Zd8{C B:Ev}(O:L2.St)(H:Hp)(Q:VK)(h:tE X.K (ddE fa C B) O H Q):tDd X.K (tTup (tCons (tE X.K fa) (tCons (tE X.K C) tNil))) (tE X.K B) O H Q:=by
 obtain⟨ad,U,st,d,st',E,S,e,p⟩:=h;unfold ddE at e;split at e
 .rename_i i st1 N
  split at e
  .rename_i j f M
   split at e
   .rename_i z l L
    split at e
    .rename_i xs v
     split at e
     .rename_i P
      cases e;intro q x A;have g:=S.extD (kvs:=[]) x A;refine⟨ad++[q],U,st++[(ae,[])],.int i,st1,E.mono g,S.pushD x A,N,λw1 n H1 k Y V=>⟨n,U,st1,.int j,f,E.mono (g.trans k),Y,M,λZ c G u W T=>⟨show 2<=ay by decide,λt w=>?_⟩⟩⟩
      cases V.ofInt;cases T.ofInt;have s:Ext c G c (upd G t (.tup [.int i,.int j])):=Ext.laid w;refine⟨c,U,f,z,l,E.mono (g.trans (k.trans (u.trans s))),W.laid w,L,λJ b F o D R=>?_⟩
      have X:=k.trans (u.trans (s.trans o));have y:(ad++[q])[st.length]?=aa q:=by rw[<-S.len];exact Zt
      have a:=X.pre _ _ y;obtain⟨kvs,r,m,_⟩:=D.dict a ((X.kd _ _ y).mp ⟨_,upd_same⟩) v;have I:Ext b F b (upd F q (.dT (putK kvs [.inl i,.inl j] J))):=Ext.writeD m (aW a);exact⟨kvs,t,[.inl i,.inl j],m,by rw[Y0 r];exact aT P (by decide),rfl,o.tup t _ upd_same,p _ b _ (g.trans (X.trans I)) (D.writeD a v m (V5 R r)) (.dic a ⟨_,upd_same⟩)⟩
     .exact Zb e
    .exact Zb e
   .exact Zb e
  .exact Zb e
 .exact Zb e
def Zb2(O:L2.St)(H:Hp)(Q:VK)(h:tE K (Zl fa Zcs) O H Q):tBM0 K "list" rPop (tE K fa) O H Q:=by
 obtain⟨ad,U,st,d,st',E,S,e,p⟩:=h;unfold Zl at e;split at e
 .rename_i x st1 o
  unfold Zcs at e;split at e
  .rename_i i
   split at e
   .rename_i ds g
    obtain⟨u,n,e⟩:=eQ.mp e;cases e;refine⟨ad,U,st,.lst i,st1,E,S,o,λv a k m j t=>?_⟩
    obtain⟨l,rfl,c⟩:=t.ofLst;obtain⟨xs,r,b⟩:=j.listM c g;obtain⟨y,q,s⟩:=r.get n;have f:Ext a k a (upd k l (.lst xs.dropLast)):=Ext.write b (aW c.1);refine⟨.inl ⟨rfl,xs,.inl (.inl b)⟩,l,xs,y,rfl,rfl,b,by rw[r.length];exact q,p _ a _ (m.trans f) (j.write c g b ?_) (s.mono f)⟩
    rw[List.dropLast_eq_take,List.dropLast_eq_take,r.length];exact r.take _
   .exact Zb e
  .exact Zb e
 .exact Zb e
def J2{u:Ev}(O:L2.St)(H:Hp)(Q:VK)(h:tE K (ZH fa u ZaO) O H Q):tBM K "list" rPopAt (tE K fa) (tCons (tE K u) tNil) O H Q:=by
 obtain⟨ad,U,st,d,st',E,S,e,p⟩:=h;unfold ZH at e;split at e
 .rename_i x st1 D
  split at e
  .rename_i z g C
   unfold ZaO at e;split at e
   .rename_i i
    split at e
    .rename_i M ds t
     cases e;refine⟨ad,U,st,.lst i,st1,E,S,D,λv m N s n L=>?_⟩
     obtain⟨l,rfl,k⟩:=L.ofLst;obtain⟨b,I,F⟩:=WH n k;obtain⟨f,_,sq⟩:=n.list k F;refine⟨.inl ⟨rfl,f,sq⟩,m,U,st1,.int 0,g,E.mono s,n,C,λw c B q A J=>?_⟩
     cases J.ofInt;have a:=k.mono q;obtain⟨xs,r,j⟩:=A.listM a t;cases r with
     |cons G r=>
      rename_i y ys;have o:Ext c B c (upd B l (.lst ys)):=Ext.write j (aW a.1);exact⟨l,y :: ys,0,0,y,rfl,rfl,j,by decide,by decide,PySem.StrLaws.seqIndex_nonneg (Int.le_refl 0) (by rw[aX];omega),rfl,p _ c _ (s.trans (q.trans o)) (A.write a t j r) (G.mono o)⟩
    .exact Zb e
   .exact Zb e
  .exact Zb e
 .exact Zb e
def ZaU(K:Fg):V->Li V->Hp->VK->Prop:=λx vs H Q=>∃ p kvs b k,x=.ref p/\H p=aa (.dT kvs)/\SqT K H b (k.map kV)/\((vs=[.ref b]/\Q ((valV kvs k).getD .non) H)\/∃ a,vs=[.ref b,a]/\Q ((valV kvs k).getD a) H)
def W3{a:Ot V}{b:Ot vL}{x:V}{u:vL}(h:L2.RelO a b)(r:L2.RelV x u):L2.RelV (a.getD x) (b.getD u):=by
 cases a with
 |none=>cases b with
  |none=>exact r
  |some _=>exact h.elim
 |some _=>cases b with
  |none=>exact h.elim
  |some _=>exact h
def QE(hu:X.A.units+1 < cLine):MtM X "dict.get" (ZaU X.K):=by
 intro pQ s O H x vs v u Q I j rv h;obtain⟨p,kvs,b,k,rfl,o,r,h⟩:=h;cases j;obtain⟨t,e,xs,a,dd⟩:=dt_of I.hok o;obtain⟨n,l,i,_⟩:=I.tuple r;have d:=key_at (P:=X.prog) (w:=X.w) l i;rcases h with⟨rfl,q⟩|⟨y,rfl,q⟩
 .obtain⟨g,rfl,c⟩:=rv.one
  cases c;exact call_meetsIn PySem.F.slot_dict_get dd.typeIs PySem.F.entry_dict_get (PySem.F.args_dict_get_2 _ _) (meetsH_dict_get (tupleKind (mixKind X.prog X.w)) p b e) ⟨tupleKind_room_in1 hu,k,xs,d,dd,⟨_,H,I.tok _,W3 (x:=V.non) (a.val k) (show L2.RelV .non .none from rfl),q⟩⟩
 .obtain⟨g,f,rfl,c,m⟩:=rv.two
  cases c;exact call_meetsIn PySem.F.slot_dict_get dd.typeIs PySem.F.entry_dict_get (PySem.F.args_dict_get_3 _ _ _) (meetsH_dict_get_default (tupleKind (mixKind X.prog X.w)) p b e f) ⟨tupleKind_room_in1 hu,k,xs,d,dd,⟨_,H,I.tok _,W3 (a.val k) m,q⟩⟩
def Zdg{x y z:D}{st':Za}(h:gtD x y z st=aa (d,st')):∃ a i j b ds,x=.dic a/\y=.tup [.int i,.int j]/\st[a]?=aa (b,ds)/\d=(Yc ds i j).getD z/\st'=st:=by
 unfold gtD at h;split at h
 .obtain⟨o,f,c⟩:=eQ.mp h
  cases c;obtain⟨i,j,b,ds,rfl,e,rfl⟩:=UL f;exact⟨_,i,j,b,ds,rfl,rfl,e,rfl,rfl⟩
 .exact Zb h
def ZbV{B fd:Ev}(O:L2.St)(H:Hp)(Q:VK)(h:tE X.K (Yz fa B fd gtD) O H Q):tBM X.K "dict" (ZaU X.K) (tE X.K fa) (tCons (tE X.K B) (tCons (tE X.K fd) tNil)) O H Q:=by
 obtain⟨ad,U,st,d,st',E,S,e,p⟩:=h;unfold Yz at e;split at e
 .rename_i x st1 L
  split at e
  .rename_i y f J
   split at e
   .rename_i z F I
    obtain⟨a,i,j,bb,ds,rfl,rfl,G,rfl,rfl⟩:=Zdg e;refine⟨ad,U,st,_,st1,E,S,L,λv1 s H1 k Y V=>?_⟩
    obtain⟨l,rfl,A,n⟩:=V.ofDic;refine⟨.inr (.inr (.inl ⟨rfl,.inr n⟩)),s,U,st1,_,f,E.mono k,Y,J,λZ q H2 v W T=>⟨q,U,f,_,_,E.mono (k.trans v),W,I,λD g C u t R=>?_⟩⟩
    have c:=v.trans u;obtain⟨kvs,r,M,_⟩:=t.dict (c.pre _ _ A) ((c.kd _ _ A).mp n) G;obtain⟨b,rfl,N⟩:=Xq (T.mono u);refine⟨l,kvs,b,_,rfl,M,N,.inr ⟨D,rfl,?_⟩⟩;rcases Xa r with⟨w,d0,o,m,P⟩|⟨o,m⟩
    .rw[o];rw[m]at p
     exact p _ g C (k.trans c) t P
    .rw[o];rw[m]at p
     exact p _ g C (k.trans c) t R
   .exact Zb e
  .exact Zb e
 .exact Zb e
def ZbU{u:Ev}(O:L2.St)(H:Hp)(Q:VK)(h:tE X.K (Yz fa u (evC .non) gtD) O H Q):tBM X.K "dict" (ZaU X.K) (tE X.K fa) (tCons (tE X.K u) tNil) O H Q:=by
 obtain⟨ad,U,st,d,st',E,S,e,p⟩:=h;unfold Yz at e;split at e
 .rename_i x st1 B
  split at e
  .rename_i y k A
   obtain⟨a,i,j,P,ds,rfl,rfl,z,rfl,rfl⟩:=Zdg (show gtD x y .non k=aa (d,st') from e);refine⟨ad,U,st,_,st1,E,S,B,λM q R g J I=>?_⟩
   obtain⟨l,rfl,t,n⟩:=I.ofDic;refine⟨.inr (.inr (.inl ⟨rfl,.inr n⟩)),q,U,st1,_,_,E.mono g,J,A,λL c v f s G=>?_⟩
   obtain⟨kvs,r,C,_⟩:=s.dict (f.pre _ _ t) ((f.kd _ _ t).mp n) z;obtain⟨b,rfl,D⟩:=Xq G;refine⟨l,kvs,b,_,rfl,C,D,.inl ⟨rfl,?_⟩⟩;rcases Xa r with⟨w,N,o,m,F⟩|⟨o,m⟩
   .rw[o];rw[m]at p
    exact p _ c v (g.trans f) s F
   .rw[o];rw[m]at p
    exact p _ c v (g.trans f) s .non
  .exact Zb e
 .exact Zb e
end Dp
namespace Dp
open PySem PySem.Spec PyProof.Rows L2 PySem.W
variable [ClsTab]
variable{prog:bg}{w:br}{A:bv}{E:vL->Sd->Prop}{s:Sd}
omit [ClsTab] in
def ZcU{a:Ad}{vs f:Li vL}{n:Nat}{P:PySem.Fin->Sd->Prop}{κ:SortKind}{φ:Nat->Int}(v:s.heap.get? a=aa (seqObj "list" vs.toArray n))(hN:vs.length<=400)(U:∀ l,(∀ b o,b≠a->s.heap.get? b=aa o->l.get? b=aa o)->2<=vs.length->∀ (Q:SortKind->Sd->Prop),Q κ { s with heap:=l }->a9 (bf prog w) A (keyKind' vs.toArray) Q (λ_ _=>False) { s with heap:=l })(Y:∀ l,(∀ b o,b≠a->s.heap.get? b=aa o->l.get? b=aa o)->∀ i j C,i < vs.length->j < vs.length->C (ak (φ i < φ j)) { s with heap:=l }->kas_ask prog w A κ vs i j C { s with heap:=l })(hd:(aj vs.length).Pairwise λi j=>φ i≠φ j)(F:vs.length < 2->f=vs)(t:∀ R,LS.Srt φ R->R.Perm (aj vs.length)->f=R.map λi=>vs.getD i b5)(h:P (.done (.ret .none)) { s with heap:=sortedHeap s.heap a vs f.toArray }) :
  a9 (bf prog w) A (Builtin.«list.sort» ⟨[.ref a],[]⟩) P E s:=by
 have J:f.length=vs.length:=by
  by_cases q:vs.length < 2
  .rw[F q]
  .have D:=List.mergeSort_perm (aj vs.length) λi j=>ak (φ i<=φ j)
   have z:LS.Srt φ ((aj vs.length).mergeSort λi j=>ak (φ i<=φ j)):=by
    have K:=List.pairwise_mergeSort (le:=λi j=>ak (φ i<=φ j)) (λa b c F k=>by rw[aO]at *;omega) (λa b=>by rw[bV,aO,aO];omega) (aj vs.length)
    exact(K.and ((D.pairwise_iff λh=>Ne.symm h).mpr hd)).imp λh=>by have:=ao h.1;have:=h.2;omega
   rw[t _ z D,aD,D.length_eq,cY]
 rw[list_sort_plain];have T:a < s.heap.objs.size:=aK v;refine aA (listItems_at v rfl ?_);refine aA (listUpdate_at v rfl ?_ (by rw[aF,sizeLine_eq];omega) (aR _))
 obtain⟨H,u⟩:∃ H,(s.heap.update a (Obj.mapSeq λ_=>#[])).get? a=aa (seqObj "list" #[] H):=⟨_,get?_update_seq v (λ_=>#[])⟩
 refine aA (seqEpoch_at u rfl ?_);refine aA (wpAny_newTuple ?_ (by show vs.length<=_;rw[sizeLine_eq];omega))
 refine aA (wpAny_newList ?_ (aR _));refine wpAny_holding ?_;have g:(((s.heap.update a (Obj.mapSeq λ_=>#[])).push (seqObj "tuple" vs.toArray 0)).push (seqObj "list" #[] 0)).get? a=aa (seqObj "list" #[] H):=aS _ (aS _ u)
 have I:∀ b o,b≠a->s.heap.get? b=aa o->(((s.heap.update a (Obj.mapSeq λ_=>#[])).push (seqObj "tuple" vs.toArray 0)).push (seqObj "list" #[] 0)).get? b=aa o:=λb o L q=>
  aS _ (aS _ (by rw[Heap.get?_update_ne _ _ _ _ L];exact q))
 show a9 (bf prog w) A _ P E { s with heap:=((s.heap.update a (Obj.mapSeq λ_=>#[])).push (seqObj "tuple" vs.toArray 0)).push (seqObj "list" #[] 0) }
 dsimp only;by_cases k:vs.toArray.size < 2
 .rw[aq k,aq k]
  refine aA (aE ?_);rw[StateT.run_pure];refine aA (aE ?_);dsimp only;have G:(arrOf (SortSt.mk' general' (vs.toArray.zip vs.toArray) #[] 7 ab)).map (·.2)=f.toArray:=by
   rw[F (by simpa using k)]
   show(vs.toArray.zip vs.toArray).map (·.2)=_;apply Array.toList_inj.mp
   simp only[Array.toList_map,Array.toList_zip,List.toList_toArray];exact List.map_snd_zip (aB _)
  rw[G];refine aA (seqEpoch_at g rfl ?_);refine aA (listUpdate_at g rfl ?_ (aR _) (by rw[aF,sizeLine_eq];omega))
  simp only[bne_self_eq_false,fB,if_false];exact aE h
 .rw[ar k,ar k]
  have B:2<=vs.length:=by rw[aF]at k;omega
  refine aA (bZ (U _ I B (λd y=>d=κ/\y=_) ⟨rfl,rfl⟩) (λd y O=>?_) λ_ _ x=>x.elim)
  obtain⟨rfl,rfl⟩:=O;have e0:SortSt.mk' d (vs.toArray.zip vs.toArray) #[] 7 ab=LS.St d (LS.im (kas_item (vs.toArray.zip vs.toArray)) (aj vs.length)) #[] 7:=by
   have e:=kas_range (vs.toArray.zip vs.toArray);rw[show(vs.toArray.zip vs.toArray).size=vs.length by simp]at e
   rw[List.map_toArray]at e;unfold LS.St LS.im;rw[e]
  rw[e0];have Oo:LS.Or prog w A { s with heap:=((s.heap.update a (Obj.mapSeq λ_=>#[])).push (seqObj "tuple" vs.toArray 0)).push (seqObj "list" #[] 0) } d (kas_item (vs.toArray.zip vs.toArray)) φ vs.length:=⟨λi j W V C Z=>by
   have q:=Y _ I i j C W V Z;rw[kat_ask_eq rfl]at q;exact q⟩
  refine aA (bZ (LS.runs_ok (E:=E) Oo ⟨hd,λx N=>cK.mp N⟩ (Q:=λ_ st'=>∃ R r m,LS.Srt φ R/\R.Perm (aj vs.length)/\st'=LS.St d (LS.im (kas_item (vs.toArray.zip vs.toArray)) R) r m) λR r m a1 a2=>⟨R,r,m,a1,a2,rfl⟩) ?_ λ_ _ e=>e)
  rintro⟨⟨⟩,st'⟩ y ⟨rfl,R,r,m,z,S,rfl⟩
  dsimp only;have G:(arrOf (LS.St d (LS.im (kas_item (vs.toArray.zip vs.toArray)) R) r m)).map (·.2)=f.toArray:=by
   rw[kat_snds (ks:=vs) (vs:=vs) rfl (p:=R.toArray) (by show LS.im _ R=_;unfold LS.im;rw[List.map_toArray]),t R z S]
  rw[G];have X:failedOf (LS.St d (LS.im (kas_item (vs.toArray.zip vs.toArray)) R) r m)=ab:=rfl;have M:f.toArray.size<=ay:=by
   rw[aF,sizeLine_eq];omega
  refine aA (seqEpoch_at g rfl ?_);refine aA (listUpdate_at g rfl ?_ (aR _) (Nat.le_succ_of_le M));rw[X];simp only[bne_self_eq_false,fB,if_false];exact aE h
section
variable{d:Ad}{es:Array DictEntry}{ep:Nat}
omit [ClsTab] in
def ZaF:Builtin.Dict_items.ownsTuple "dict_keyiterator"=af:=by decide
omit [ClsTab] in
theorem Zat{b:Ad}{i:Nat}{Q:Ot vL->Sd->Prop}(a:s.heap.IsKeyIter b d i es.size ep)(l:Raw s.heap d es ep)(j:i < es.size)(p:∀ k,k.IsKeyIter b d (i+1) es.size ep->Heap.SameBut b s.heap k->Q (aa es[i].key) { s with heap:=k }):a9 (bf prog w) A (pyNext (.ref b)) Q E s:=by
 obtain⟨o,h,n,g⟩:=id a;obtain⟨q,e,m,f⟩:=id l;unfold pyNext;refine aA (wpAny_attempt (wpAny_callSpecial?_slot (name:=Str.ofString "__next__") a.typeIs F.slot_dict_keyiterator_next (wpAny_call_entry F.slot_dict_keyiterator_next a.typeIs F.entry_dict_keyiterator_next ?_ (F.args_dict_keyiterator_next_1 _))));refine aA (aE (aA (aA ?_)))
 refine aA (wpAny_typeNameOfWhole_keyiter a.typeIs (aE (aA (wpAny_fieldsOf h g ?_))));simp only[ZaF,fB,if_false];show a9 _ _ (if (bz d==b5)=ae then _ else _) _ _ s
 rw[ar (show ¬((bz d==b5)=ae) from Bf)];refine aA (aE (aA (wpAny_dictEntries e f ?_)));rw[ar (by simp)]
 refine aA (aE (aA (wpAny_dictEpoch e f ?_)));rw[ar (by simp)]
 refine aE ?_;simp only[show ¬((i:Int) < 0) from by omega,if_false,bM,Array.getElem?_eq_getElem j]
 refine aA (aA (wpAny_typeNameOfWhole_keyiter a.typeIs (aE (aA (wpAny_isOneOf_keyiter a.typeIs ?_)))));show a9 _ _ (setField (.ref b) 1 (rawInt ((i:Int)+1)) >>= _) _ _ s;refine aA (wpAny_setField h g (by simp) ?_)
 have c:(s.heap.update b (Obj.mapFields (·.setIfInBounds 1 (rawInt ((i:Int)+1))))).IsKeyIter b d (i+1) es.size ep:=
  ⟨_,Heap.get?_update_self _ h (Obj.isFreed_of_fields (Obj.data_mapFields g _)),(Obj.cls_mapFields ..).trans n,by rw[Obj.data_mapFields g];simp[rawInt]⟩
 refine aA (wpAny_holding (aA (wpAny_isOneOf_keyiter (s:={ s with heap:=s.heap.update b (Obj.mapFields (·.setIfInBounds 1 (rawInt ((i:Int)+1)))) }) c.typeIs ?_)))
 show a9 _ _ (pure es[i].key) _ _ _;exact aE (aE ⟨_,rfl,aE (p _ c (Heap.SameBut.update ..))⟩)
omit [ClsTab] in
theorem ZbK{g:Ad}{Q:Ot vL->Sd->Prop}(l:A.handled=ab)(c:s.heap.IsKeyIter g d es.size es.size ep)(k:Raw s.heap d es ep)(p:∀ j,Heap.ExtBut g s.heap j->Q ab { s with heap:=j }):a9 (bf prog w) A (pyNext (.ref g)) Q E s:=by
 obtain⟨o,h,r,i⟩:=id c;obtain⟨q,e,n,f⟩:=id k;unfold pyNext;refine aA (wpAny_attempt (wpAny_callSpecial?_slot (name:=Str.ofString "__next__") c.typeIs F.slot_dict_keyiterator_next (wpAny_call_entry F.slot_dict_keyiterator_next c.typeIs F.entry_dict_keyiterator_next ?_ (F.args_dict_keyiterator_next_1 _))));refine aA (aE (aA (aA ?_)))
 refine aA (wpAny_typeNameOfWhole_keyiter c.typeIs (aE (aA (wpAny_fieldsOf h i ?_))));simp only[ZaF,fB,if_false];show a9 _ _ (if (bz d==b5)=ae then _ else _) _ _ s
 rw[ar (show ¬((bz d==b5)=ae) from Bf)];refine aA (aE (aA (wpAny_dictEntries e f ?_)));rw[ar (by simp)]
 refine aA (aE (aA (wpAny_dictEpoch e f ?_)));rw[ar (by simp)]
 refine aE ?_;simp only[show ¬((es.size:Int) < 0) from by omega,if_false,bM,Array.getElem?_eq_none (aB es.size)]
 refine aA (aA (wpAny_typeNameOfWhole_keyiter c.typeIs (aE ?_)));show a9 _ _ (setField (.ref g) 0 .none >>= _) _ _ s;refine aA (wpAny_setField h i (by simp) ?_)
 show a9 _ _ (newExc (.type "StopIteration") [] >>= _) _ _ _;refine aA ?_;simp only[newExc,newTuple];refine aA (wpAny_newObj_type ?_ (by size_fits))
 refine aA (m:=firstArgMember _ _) (wpAny_of_eq (a:=b5) (by first|rfl | (simp only[firstArgMember];rfl)) (wpAny_newObj_type ?_ (by size_fits)))
 simp only[raiseNew];refine aA (wpAny_handled ?_);rw[show A.in1.handled=ab from l];refine aA (aE (wpAny_throw ?_));exact aA (wpAny_isInstance (T := "StopIteration") (b:=ae) ⟨_,bR _ rfl,rfl⟩ isSubtype_stop (aE (p _ (((Heap.SameBut.update ..).extBut.push _).push _))))
omit [ClsTab] in
def Raw.at{h a:bq}(x:Raw h d es ep)(e:∀ o,h.get? d=aa o->a.get? d=aa o):Raw a d es ep:=let ⟨o,ho,r⟩:=x;⟨o,e _ ho,r⟩
omit [ClsTab] in
def Raw.lt{h:bq}(x:Raw h d es ep):d < h.objs.size:=let ⟨_,ho,_⟩:=x;aK ho
omit [ClsTab] in
def Ji(p:A.handled=ab)(I:Ad)(j:d≠I):Walks prog w A I [I,d] [I] es.size (λi v=>∃ e,es[i]?=aa e/\v=e.key) (λi h=>h.IsKeyIter I d i es.size ep/\Raw h d es ep) where
 sub:=λb a=>by simp at a;simp[a]
 frame:=λ_ _ _ st m=>⟨st.1.at λo e=>m I (by simp) o e,st.2.at λo e=>m d (by simp) o e⟩
 item:=λi s Q E n st g=>Zat st.1 st.2 n λl f c=>g _ l s.toks ⟨_,Array.getElem?_eq_getElem n,rfl⟩ ⟨f,st.2.at λo e=>c.extBut d o j e⟩ λb o a e=>c.extBut b o (λh=>a (by simp[h])) e
 done:=λs Q E st g=>ZbK p st.1 st.2 λl k=>g l s.toks λb o a e=>k b o (λh=>a (by simp[h])) e
 self:=λ_ _ _ _ st g=>wpAny_pyIter_keyiter st.1 g
omit [ClsTab] in
theorem Jb{Q:vL->Sd->Prop}(hd:(d==bu)=af)(e:Raw s.heap d es ep)(f:Q (.ref s.heap.objs.size) { s with heap:=s.heap.push { cls:=.type "dict_keyiterator",data:=.fields #[.ref d,.int 0 0,.int es.size 0,.int ep 0] } }) :
  a9 (bf prog w) A (pyIter (.ref d)) Q E s:=by
 obtain⟨o,c,g,a⟩:=id e;have b:s.TypeIs (.ref d) "dict":=e.typeIs;refine wpAny_pyIter_slot b F.slot_dict_iter (wpAny_call_entry F.slot_dict_iter b F.entry_dict_iter ?_ (F.args_dict_iter_1 _));unfold Builtin.«dict.__iter__»
 refine aA ?_;unfold Builtin.Dict.dictSlotNone;refine aA (wpAny_notOrdered_dict b ?_);show a9 _ _ (pure (bz d)) _ _ s;refine aE ?_;show a9 _ _ (Builtin.Dict.showsAll d >>= _) _ _ s;unfold Builtin.Dict.showsAll;rw[ar (by rw[hd];exact Bf)]
 refine aA (aE ?_);refine aA (wpAny_dictEntries c a ?_);refine aA (wpAny_dictEpoch c a ?_);refine aA (wpAny_newObj_type (aE ⟨_,rfl, "dict_keyiterator",_,⟨_,bR _ rfl,rfl⟩,F.slot_dict_keyiterator_next.lookup,?_⟩));simpa[rawInt] using f
omit [ClsTab] in
def Za9(hd:(d==bu)=af):KdlSrc prog w "dict" d d es.size (λi v=>∃ e,es[i]?=aa e/\v=e.key) (λh=>Raw h d es ep) where
 type:=λ_ a=>a.typeIs
 there:=λ_ a=>⟨a.lt,a.lt⟩
 keep:=λ_ _ a c=>a.at λo e=>c d (.inl rfl) o e
 notList:=by decide
 notTuple:=by decide
 hint:=λ_ _ _ _ a b=>kdl_hint_dict a.typeIs b
 iter:=λ_ _ f a=>⟨_,_,(λ_ _ b=>Jb hd a b),Ji f _ (bE a.lt),⟨⟨_,bR _ rfl,rfl,rfl⟩,a.at λo e=>aS _ e⟩⟩
omit [ClsTab] in
def U8{vs out:Li vL}{κ:SortKind}{φ:Nat->Int}{Q:vL->Sd->Prop}(H:A.handled=ab)(hd:(d==bu)=af)(F:Raw s.heap d es ep)(B:es.toList.map (·.key)=vs)(hN:vs.length<=400)(G:∀ a f,(∀ b o,s.heap.get? b=aa o->a.get? b=aa o)->2<=vs.length->∀ (Q:SortKind->Sd->Prop),Q κ { s with heap:=a,toks:=f }->a9 (bf prog w) A.in1.in1 (keyKind' vs.toArray) Q (λ_ _=>False) { s with heap:=a,toks:=f })(J:∀ a f,(∀ b o,s.heap.get? b=aa o->a.get? b=aa o)->∀ i j C,i < vs.length->j < vs.length->C (ak (φ i < φ j)) { s with heap:=a,toks:=f }->kas_ask prog w A.in1.in1 κ vs i j C { s with heap:=a,toks:=f })(y:(aj vs.length).Pairwise λi j=>φ i≠φ j)(u:vs.length < 2->out=vs)(t:∀ R,LS.Srt φ R->R.Perm (aj vs.length)->out=R.map λi=>vs.getD i b5)(h:∀ (q a:bq) (f c:Nat),(∀ b o,s.heap.get? b=aa o->q.get? b=aa o)->(∀ b o,q.get? b=aa o->a.get? b=aa o)->a.get? q.objs.size=aa (seqObj "list" out.toArray c)->Q (.ref q.objs.size) { s with heap:=a,toks:=f }) :
  a9 (bf prog w) A (call (.builtin "sorted") [.ref d]) Q E s:=by
 refine Calls.call_function_entry kind_sorted plain_sorted entry_sorted (args_sorted1 _) ?_;unfold Builtin.«sorted»
 refine aA (m:=checkCount "sorted" 1 1 _) (aE ?_);have r:es.size=vs.length:=by rw[<-B,aD,eN]
 refine aA (kdu_collect (A:=A.in1) (Za9 (es:=es) (ep:=ep) hd) H F (by rw[r,sizeLine_eq];omega) λa f p n l=>?_)
 have M:p.toList=vs:=by
  rw[<-B];apply List.ext_getElem?
  intro i;rw[eD,bA,eD];cases e:p[i]? with
  |none=>
   have:p.size<=i:=Array.getElem?_eq_none_iff.mp e;rw[l.1]at this;rw[Array.getElem?_eq_none this];rfl
  |some v=>
   obtain⟨O,N,rfl⟩:=l.2 i v e;rw[N];rfl
 rw[M];refine aA (wpAny_newList ?_ (by rw[sizeLine_eq];omega))
 have x:(a.push { cls:=.type "list",data:=.seq vs.toArray }).get? a.objs.size=aa (seqObj "list" vs.toArray 0):=bR _ rfl;have kp:∀ (g:bq),(∀ b o,b≠a.objs.size->(a.push { cls:=.type "list",data:=.seq vs.toArray }).get? b=aa o->g.get? b=aa o)->∀ b o,s.heap.get? b=aa o->g.get? b=aa o:=λg k b o e=>
  k b o (bE (aK (n b o e))) (aS _ (n b o e))
 refine aA (wpAny_holding (wpAny_call_entry slot_list_sort ⟨_,x,rfl⟩ entry_list_sort ?_ (args_list_sort _)));refine ZcU (s:={ s with heap:=a.push { cls:=.type "list",data:=.seq vs.toArray },toks:=f }) (κ:=κ) (φ:=φ) x hN (λg k D Q K=>G g f (kp g k) D Q K) (λg k i j C q z L=>J g f (kp g k) i j C q z L) y u t ?_
 refine⟨_,rfl,aE ⟨_,rfl,?_⟩⟩;obtain⟨c,I⟩:=sortedHeap_at (out:=out.toArray) x;refine h a _ f c n (λb o e=>?_) I
 rw[sortedHeap_old (bE (aK e)) (by rw[size_push'];exact Nat.lt_succ_of_lt (aK e))]
 exact aS _ e
end
def Xe(h:bq)(p:Int×Int)(v:vL):Prop:=∃ a o n t u,v=.ref a/\h.get? a=aa o/\o.cls=.type "tuple"/\o.data=.seq #[.int p.1 t,.int p.2 u] n
omit [ClsTab] in
def Zcr{h:bq}{i j:Int}{a:Ad}(x:(tupleKind (mixKind prog w)).is h [.inl i,.inl j] a):Xe h (i,j) (.ref a):=by
 obtain⟨o,c,n,p,m,g,f⟩:=(show IsTupleKey (mixKind prog w) h [.inl i,.inl j] a from x);have b:∀ {k:Int}{v:vL},(mixKind prog w).is (.inl k) v=ae->∃ t,v=.int k t:=λ{k v} z=>by
  rcases keyIs_shape (show keyIs (.inl k) v=ae from z) with⟨i,t,e,rfl⟩|⟨x,t,e,_⟩
  .cases e;exact⟨t,rfl⟩
  .exact nomatch e
 obtain⟨l,d⟩:∃ l,c.toList=l:=⟨_,rfl⟩;rw[d]at f;cases f with
 |cons s r=>cases r with
  |cons q r=>
   cases r;obtain⟨t,rfl⟩:=b s;obtain⟨u,rfl⟩:=b q;refine⟨a,o,n,t,u,rfl,p,m,?_⟩;rw[g,<-d]
omit [ClsTab] in
def Jv{p q:Int×Int}{v u:vL}{C:Bool->Sd->Prop}(f:Xe s.heap p v)(d:Xe s.heap q u)(B:0<=p.2/\p.2 < 1000)(z:0<=q.2/\q.2 < 1000)(h:C (ak (Vu p < Vu q)) s):a9 (bf prog w) A (keyLt' (tuples' ae) v u) C E s:=by
 obtain⟨a,o,n,t,k,rfl,i,y,g⟩:=f;obtain⟨b,x,m,r,l,rfl,g1,g2,j⟩:=d;refine kat_lt i g g1 j ?_;unfold Vu at h;refine kat_cons (wpAny_eqBool_int ?_);by_cases e:p.1=q.1
 .rw[show(p.1==q.1)=ae from beq_iff_eq.mpr e]
  refine kat_yes (kat_cons (wpAny_eqBool_int ?_));by_cases c:p.2=q.2
  .rw[show(p.2==q.2)=ae from beq_iff_eq.mpr c]
   refine kat_yes (kat_nil ?_);rw[aI (by omega)]at h
   exact h
  .rw[show(p.2==q.2)=af from dL.mpr c]
   rw[show ak (p.1 * 1000+p.2 < q.1 * 1000+q.2)=ak (p.2 < q.2) from decide_eq_decide.mpr (by omega)]at h
   exact kat_no (kat_one _ _ (wpAny_lt_int h))
 .rw[show(p.1==q.1)=af from dL.mpr e]
  rw[show ak (p.1 * 1000+p.2 < q.1 * 1000+q.2)=ak (p.1 < q.1) from decide_eq_decide.mpr (by omega)]at h
  exact kat_no (oneLt_int h)
omit [ClsTab] in
def UQ{vs:Li vL}{Q:SortKind->Sd->Prop}(b:∀ v∈vs,∃ p,Xe s.heap p v)(f:2<=vs.length)(h:Q (tuples' ae) s):a9 (bf prog w) A (keyKind' vs.toArray) Q E s:=by
 have all:∀ {l:Li vL},(∀ v∈l,∃ p,Xe s.heap p v)->∃ fs,KatTups s.heap l fs/\fs.length=l.length/\∀ v∈fs,∃ i t,v=Value.int i t:=by
  intro l
  induction l with
  |nil=>intro _;exact⟨[],.nil,rfl,λ_ z=>nomatch z⟩
  |cons v l j=>
   intro e;obtain⟨fs,d,g,c⟩:=j λv b=>e v (Lm _ b)
   obtain⟨p,a,o,n,t,u,rfl,m,f,k⟩:=e v Ls;refine⟨.int p.1 t :: fs,.cons m f k rfl d,by rw[aX,aX,g],λx hx=>?_⟩
   rcases aL.mp hx with rfl|hx
   .exact⟨_,_,rfl⟩
   .exact c x hx
 obtain⟨fs,d,g,c⟩:=all b;refine kat_kind (T:=.type "int") d (by omega) (λv b=>?_) (by decide) h
 obtain⟨i,t,rfl⟩:=c v b;exact Looks.now
section
variable{K:Fg}{ad:Li Ad}{H:Hp}
def Zcd{kvs:Li (Li Key×V)}{ds:Li D}{ys:Li (Li Key×Ad×vL)}(e:Ents K ad H kvs ds)(r:KTp H kvs ys):Dens K ad H (ys.map λy=>V.ref y.2.1) ((Zu ds).map prD)/\∀ (i:Nat) (y:Li Key×Ad×vL),ys[i]?=aa y->y.1=[.inl ((Zu ds).getD i (0,0)).1,.inl ((Zu ds).getD i (0,0)).2]:=by
 induction e generalizing ys with
 |nil=>cases r;exact⟨.nil,λi y h=>nomatch h⟩
 |cons _ _ c=>cases r with
  |cons h r=>
   obtain⟨a,b⟩:=c r;refine⟨.cons (.tup (.inl h.2.1) (.cons (.int _) (.cons (.int _) .nil))) a,λi y e=>?_⟩
   cases i with
   |zero=>cases e;exact h.1.symm
   |succ i=>exact b i y e
theorem WY{vs:Li V}{ds:Li D}(r:Dens K ad H vs ds):∀ (l:Li Nat),(∀ i∈l,i < ds.length)->Dens K ad H (l.map λi=>vs.getD i .non) (l.map λi=>ds.getD i .non)
 |[],_=>.nil
 |i :: l,h=>by
  refine .cons ?_ (WY r l λj d=>h j (Lm _ d))
  have a:=h i Ls;obtain⟨v,f,e⟩:=r.get (Lg a);have c:vs.getD i .non=v:=by rw[aU,f];rfl
  have b:ds.getD i .non=ds[i]:=by rw[aU,Lg a];rfl
  show Den K ad H (vs.getD i .non) (ds.getD i .non);rw[c,b];exact e
omit [ClsTab] in
theorem W6{vs:Li V}{a:Li vL}(r:Vals vs a):∀ (l:Li Nat),(∀ i∈l,i < vs.length)->Vals (l.map λi=>vs.getD i .non) (l.map λi=>a.getD i .none)
 |[],_=>.nil
 |i :: l,h=>by
  refine .cons ?_ (W6 r l λj e=>h j (Lm _ e))
  have b:=h i Ls;obtain⟨u,g,f⟩:=r.get (Lg b);have d:a.getD i .none=u:=by rw[aU,g];rfl
  have c:vs.getD i .non=vs[i]:=by rw[aU,Lg b];rfl
  show L2.RelV (vs.getD i .non) (a.getD i .none);rw[d,c];exact f
omit [ClsTab] in
def Yo(a:Li (Int×Int)):(ZaE a).Perm (aj a.length):=List.mergeSort_perm _ _
omit [ClsTab] in
def ZdR(a:Li (Int×Int)):a.map Vu=(aj a.length).map (atP a):=by
 apply List.ext_getElem?
 intro i;rw[bA,bA];by_cases h:i < a.length
 .rw[Lg h,List.getElem?_range h]
  show aa (Vu a[i])=aa (Vu (a.getD i (0,0)));rw[aU,Lg h];rfl
 .rw[eH (by omega),eH (by rw[cY];omega)];rfl
omit [ClsTab] in
def Zdr{a:Li (Int×Int)}(h:okP a=ae):(aj a.length).Pairwise λi j=>atP a i≠atP a j:=by
 unfold okP at h;rw[Ba,aO,ZdR]at h;exact eI.mp h.2
omit [ClsTab] in
def Zdq{a:Li (Int×Int)}(h:okP a=ae){i:Nat}(b:i < a.length):0<=(a.getD i (0,0)).2/\(a.getD i (0,0)).2 < 1000:=by
 unfold okP at h;rw[Ba]at h;have:=ao (bT.mp h.1 a[i] (bC b));rw[aU,Lg b];exact this.2.2
omit [ClsTab] in
def QH{d:Li (Int×Int)}(h:okP d=ae):LS.Srt (atP d) (ZaE d):=by
 have e:=List.pairwise_mergeSort (le:=λi j=>ak (atP d i<=atP d j)) (λa b c g f=>by rw[aO]at *;omega) (λa b=>by rw[bV,aO,aO];omega) (aj d.length)
 exact(e.and (((Yo d).pairwise_iff λh=>Ne.symm h).mpr (Zdr h))).imp λh=>by have:=ao h.1;have:=h.2;omega
omit [ClsTab] in
def Zet{c:Li (Int×Int)}(h:okP c=ae){R:Li Nat}(d:LS.Srt (atP c) R)(e:R.Perm (aj c.length)):ZaE c=R:=
 List.Perm.eq_of_pairwise (le:=λi j=>atP c i < atP c j) (λa b _ _ f g=>au f (by omega)) (QH h) d ((Yo c).trans e.symm)
omit [ClsTab] in
def XB{a:Li (Int×Int)}:∀ i∈ZaE a,i < a.length:=λi b=>cK.mp ((Yo a).mem_iff.mp b)
omit [ClsTab] in
def ZaL{α:Type}{a:Li (Int×Int)}{z:α}{b:Li α}:(ZQ a z b).length=a.length:=by
 unfold ZQ;rw[aD,(Yo a).length_eq,cY]
omit [ClsTab] in
def UZ{α:Type}{z:α}:∀ {ps:Li (Int×Int)}{xs:Li α},xs.length=ps.length->ps.length < 2->ZQ ps z xs=xs
 |[],[],_,_=>by
  have:=Yo [];unfold ZQ;rw[List.Perm.eq_nil this];rfl
 |[p],[x],_,_=>by
  have:=Yo [p];unfold ZQ;rw[List.perm_singleton.mp this];rfl
end
omit [ClsTab] in
theorem Us:∀ {ys:Li (Li Key×Ad×vL)},Vals (ys.map λy=>V.ref y.2.1) (ys.map λy=>bz y.2.1)
 |[]=>.nil
 |_ :: _=>.cons rfl Us
def UH{X:Cx}(hc:X.calm=ae):CallR X (.builtin "sorted") (rC X.K (on1 Qx)):=by
 intro pQ s O H xs us Q I r h;obtain⟨ad,st,ds,d,st',S,hd,e,p⟩:=h;obtain⟨x,rfl,B⟩:=Yi e;obtain⟨v,rfl,N⟩:=WX hd;unfold Qx at B;split at B
 .rename_i a
  split at B
  .rename_i b f q0
   split at B
   .rename_i L
    cases B;obtain⟨l,rfl,hl,n⟩:=N.ofDic;obtain⟨kvs,Y,hx,_⟩:=S.dict hl n q0;obtain⟨u1,rfl,r1⟩:=r.one;cases r1;obtain⟨_,G,ys,M,o,es,ep,h1,W,h3,h4,U,_⟩:=dt_of I.hok hx;obtain⟨Z,kk⟩:=Zcd Y M;have J:ys.length=(Zu f).length:=by have:=Z.length;rwa [aD,aD]at this
    have hl0:(Zu f).length=f.length:=by unfold Zu;rw[aD]
    have P:∀ (m:bq),(∀ b o,s.heap.get? b=aa o->m.get? b=aa o)->∀ (i:Nat),i < ys.length->Xe m ((Zu f).getD i (0,0)) ((ys.map λy=>bz y.2.1).getD i .none):=λm k i A=>by
     have z:(ys.map λy=>bz y.2.1).getD i .none=.ref ys[i].2.1:=by rw[aU,bA,Lg A];rfl
     have w:=U ys[i] (bC A);rw[kk i _ (Lg A)]at w;obtain⟨a,o,n,t,u,B,e2,e3,e4⟩:=Zcr w;rw[z];exact⟨a,o,n,t,u,B,k _ _ e2,e3,e4⟩
    have hm:∀ (m:bq),(∀ b o,s.heap.get? b=aa o->m.get? b=aa o)->∀ v∈(ys.map λy=>bz y.2.1),∃ p,Xe m p v:=λm k v N=>by
     obtain⟨i,A,rfl⟩:=List.mem_iff_getElem.mp N;have T:i < ys.length:=by rwa [aD]at A
     have zz:(ys.map λy=>bz y.2.1).getD i .none=(ys.map λy=>bz y.2.1)[i]:=by rw[aU,Lg A];rfl
     rw[<-zz];exact⟨_,P m k i T⟩
    have F:(ys.map λy=>bz y.2.1).length=(Zu f).length:=by rw[aD,J]
    refine U8 (vs:=ys.map λy=>bz y.2.1) (out:=ZQ (Zu f) b5 (ys.map λy=>bz y.2.1)) (κ:=tuples' ae) (φ:=atP (Zu f)) (I.ok.hd hc) G ⟨o,h1,W,h3⟩ (by rw[h4,bQ];rfl) (by rw[aD];omega)
     (λm E k W Q hQ=>UQ (s:={ s with heap:=m,toks:=E }) (hm m k) W hQ)
     (λm E k i j C A hj hC=>Jv (s:={ s with heap:=m,toks:=E }) (P m k i (by rwa [aD]at A)) (P m k j (by rwa [aD]at hj)) (Zdq L.2 (by omega)) (Zdq L.2 (by omega)) hC)
     (by rw[F];exact Zdr L.2) (λq=>UZ F (by omega)) (λR hs hR=>by rw[F]at hR;unfold ZQ;rw[Zet L.2 hs hR])
     λg g' E c k k' hg=>?_
    have I2:L2.Inv X pQ O H { s with heap:=g,toks:=E }:=I.kept (t':=E) k
    have hf:=I2.hok.fresh (aB _);have hV:Vals (ZQ (Zu f) V.non (ys.map λy=>V.ref y.2.1)) (ZQ (Zu f) b5 (ys.map λy=>bz y.2.1)):=
     W6 Us _ (λi A=>by have:=XB i A;rw[aD];omega)
    have hD:Dens X.K ad H (ZQ (Zu f) V.non (ys.map λy=>V.ref y.2.1)) (ZQ (Zu f) D.non ((Zu f).map prD)):=
     WY Z _ (λi A=>by have:=XB i A;rw[aD];omega)
    refine⟨.ref g.objs.size,upd H g.objs.size (.lst (ZQ (Zu f) V.non (ys.map λy=>V.ref y.2.1))),I2.laid (t':=E) k' (aB _) (show ObjOk X.prog X.w _ _ _ (.lst _) from⟨?_,_,c,hV,hg⟩),rfl,p _ (ad++[_]) _ (Ext.push hf) (S.push hf hD) (.newL ?_)⟩
    .rw[ZaL,sizeLine_eq];omega
    .rw[<-S.len];exact Zt
   .exact Zb B
  .exact Zb B
 .exact Zb B
end Dp
namespace Dp
open PySem PySem.Spec PyProof.Rows L2
variable [ClsTab]
variable{A:bv}
section
open PySem.SeqAt PySem.MeetsSeq PySem.MeetsSeq2 PySem.MeetsSeq3 PySem.SeqRoads2
open AutoSeq1 (wpAny_loadPart')
def LtAt(A:bv)(s:Sd)(y x:vL)(b:Bool):Prop:=
 ∀ (prog:bg) (w:br) (E:vL->Sd->Prop) (Q:vL->Sd->Prop),Q (.bool b) s->a9 (bf prog w) A (richCompare .Lt y x) Q E s
noncomputable def ltR(e lt:Nat->Bool)(f:Bool):Li Nat->Bool
 |[]=>f
 |j :: r=>if e j=ae then ltR e lt f r else lt j
def Qf(l b:Ad)(items items2:Array vL)(n n2:Nat)(dd dd2:Ot Ad)(sl sl2:Array (Ot vL))(e lt:Nat->Bool) :
  Meets (Builtin.«tuple.__lt__» ⟨[.ref l,.ref b],[]⟩)
   (λA R s=>s.heap.get? l=aa { cls:=.type "tuple",dict:=dd,data:=.seq items n,slots:=sl }/\s.heap.get? b=aa { cls:=.type "tuple",dict:=dd2,data:=.seq items2 n2,slots:=sl2 } /\
    (∀ j (h1:j < items.size) (h2:j < items2.size),EqAt A.in1 s items[j] items2[j] (e j))/\(∀ j (h1:j < items.size) (h2:j < items2.size),(∀ i,i < j->e i=ae)->e j=af->LtAt A.in1 s items[j] items2[j] (lt j)) /\
    R (.ok (.ret (.bool (ltR e lt (ak (items.size < items2.size)) (aj (min items.size items2.size)))))) s):=
 .of_wp λprog w A R s h=>by
  obtain⟨hp,g,d,tk,os⟩:=s;obtain⟨hl,hb,he,hq,h⟩:=h;have f2:=AutoSeq1.sub_tuple_tuple;have hZ:(items.toList.zip items2.toList).length=min items.size items2.size:=by simp
  wp_walk using wpAny_loadPart' hl,wpAny_loadPart' hb,wpAny_forIn_list _ (λrest b s'=>b.1=ab/\s'=⟨hp,g,d,tk,os⟩/\∃ i,rest=(items.toList.zip items2.toList).drop i/\(∀ k,k < i->e k=ae) /\
   R (.ok (.ret (.bool (ltR e lt (ak (items.size < items2.size)) ((aj (min items.size items2.size)).drop i))))) ⟨hp,g,d,tk,os⟩) _
  case turn=>
   rintro⟨y,x⟩ rest b s' ⟨hb',rfl,i,hz,hk,hR⟩
   have hlt:i < (items.toList.zip items2.toList).length:=by
    rcases dJ i (items.toList.zip items2.toList).length with h'|h'
    .exact h'
    .rw[eY h']at hz;cases hz
   have hm:i < min items.size items2.size:=hZ ▸ hlt;have h1:i < items.size:=aT hm (Nat.min_le_left _ _);have h2:i < items2.size:=aT hm (Nat.min_le_right _ _);rw[bU hlt]at hz
   injection hz with hyx hrest
   have hy:y=items[i]:=by have:=av Prod.fst hyx;simpa using this
   have hx:x=items2[i]:=by have:=av Prod.snd hyx;simpa using this
   subst hy hx;have hd:(aj (min items.size items2.size)).drop i=i :: (aj (min items.size items2.size)).drop (i+1):=by simp[bU,hm]
   rw[hd]at hR;have hR:R (.ok (.ret (.bool (if e i=ae then ltR e lt (ak (items.size < items2.size)) ((aj (min items.size items2.size)).drop (i+1)) else lt i)))) ⟨hp,g,d,tk,os⟩:=hR
   refine aA (he i h1 h2 prog w _ _ ?_);cases hy:e i with
   |true=>
    rw[hy]at hR
    wp_walk
    refine⟨rfl,rfl,i+1,hrest,λk hk'=>?_,by simpa using hR⟩
    rcases dJ k i with h|h
    .exact hk k h
    .rw[show k=i by omega];exact hy
   |false=>
    rw[hy]at hR;have hz:∀ (E:vL->Sd->Prop) (Q:vL->Sd->Prop),Q (.bool (lt i)) ⟨hp,g,d,tk,os⟩->a9 (bf prog w) A.in1 (richCompare .Lt items[i] items2[i]) Q E ⟨hp,g,d,tk,os⟩:=λE Q=>hq i h1 h2 hk hy prog w E Q
    generalize richCompare .Lt items[i] items2[i]=rc at hz ⊢
    wp_walk using hz _ _
    exact⟨_,rfl,by simpa using hR⟩
  case fin=>
   rintro⟨b1,b2⟩ s' ⟨hb',rfl,i,hz,_,hR⟩
   simp only at hb';subst hb';have hge:min items.size items2.size<=i:=by
    rcases dJ i (items.toList.zip items2.toList).length with h'|h'
    .rw[bU h']at hz;cases hz
    .exact hZ ▸ h'
   rw[eY (by simpa using hge)]at hR
   wp_walk
   exact⟨_,rfl,by simpa[Builtin.Tuple.tupleCompareSizes,ltR] using hR⟩
  case h=>
   exact⟨rfl,rfl,0,rfl,λk hk=>au hk (by omega),by simpa using h⟩
theorem LtAt.tuples{s:Sd}{l b:Ad}{c a:Array vL}{e lt:Nat->Bool}(B:s.heap.IsTuple l c)(D:s.heap.IsTuple b a)(hu:A.units < cLine)(C:∀ j (H:j < c.size) (G:j < a.size),EqAt A.in1 s c[j] a[j] (e j))(z:∀ j (H:j < c.size) (G:j < a.size),(∀ i,i < j->e i=ae)->e j=af->LtAt A.in1 s c[j] a[j] (lt j)):LtAt A s (.ref l) (.ref b) (ltR e lt (ak (c.size < a.size)) (aj (min c.size a.size))):=λp w E Q h=>by
 obtain⟨⟨cls,dd,u,sl⟩,q,t,n,r⟩:=id B;obtain⟨⟨v,m,o,k⟩,d,g,y,f⟩:=id D;simp only at t r g f;subst t r g f;exact richCompare_meets_room (op:=.Lt) ⟨_,q,rfl⟩ ⟨_,d,rfl⟩ F.slot_tuple_lt F.entry_tuple_lt (F.args_tuple_lt_2 _ _) (Qf l b c a n y dd m sl k e lt)
  ⟨q,d,C,z,show Value.bool (ltR e lt (ak (c.size < a.size)) (aj (min c.size a.size)))≠Value.notImplemented/\Q (.bool (ltR e lt (ak (c.size < a.size)) (aj (min c.size a.size)))) s from⟨(λx=>nomatch x),h⟩⟩ hu
def GeAt(A:bv)(s:Sd)(y x:vL)(b:Bool):Prop:=
 ∀ (prog:bg) (w:br) (E:vL->Sd->Prop) (Q:vL->Sd->Prop),Q (.bool b) s->a9 (bf prog w) A (richCompare .GtE y x) Q E s
def Qe(l b:Ad)(items items2:Array vL)(n n2:Nat)(dd dd2:Ot Ad)(sl sl2:Array (Ot vL))(e lt:Nat->Bool) :
  Meets (Builtin.«tuple.__ge__» ⟨[.ref l,.ref b],[]⟩)
   (λA R s=>s.heap.get? l=aa { cls:=.type "tuple",dict:=dd,data:=.seq items n,slots:=sl }/\s.heap.get? b=aa { cls:=.type "tuple",dict:=dd2,data:=.seq items2 n2,slots:=sl2 } /\
    (∀ j (h1:j < items.size) (h2:j < items2.size),EqAt A.in1 s items[j] items2[j] (e j))/\(∀ j (h1:j < items.size) (h2:j < items2.size),(∀ i,i < j->e i=ae)->e j=af->GeAt A.in1 s items[j] items2[j] (lt j)) /\
    R (.ok (.ret (.bool (ltR e lt (ak (items2.size<=items.size)) (aj (min items.size items2.size)))))) s):=
 .of_wp λprog w A R s h=>by
  obtain⟨hp,g,d,tk,os⟩:=s;obtain⟨hl,hb,he,hq,h⟩:=h;have f2:=AutoSeq1.sub_tuple_tuple;have hZ:(items.toList.zip items2.toList).length=min items.size items2.size:=by simp
  wp_walk using wpAny_loadPart' hl,wpAny_loadPart' hb,wpAny_forIn_list _ (λrest b s'=>b.1=ab/\s'=⟨hp,g,d,tk,os⟩/\∃ i,rest=(items.toList.zip items2.toList).drop i/\(∀ k,k < i->e k=ae) /\
   R (.ok (.ret (.bool (ltR e lt (ak (items2.size<=items.size)) ((aj (min items.size items2.size)).drop i))))) ⟨hp,g,d,tk,os⟩) _
  case turn=>
   rintro⟨y,x⟩ rest b s' ⟨hb',rfl,i,hz,hk,hR⟩
   have hlt:i < (items.toList.zip items2.toList).length:=by
    rcases dJ i (items.toList.zip items2.toList).length with h'|h'
    .exact h'
    .rw[eY h']at hz;cases hz
   have hm:i < min items.size items2.size:=hZ ▸ hlt;have h1:i < items.size:=aT hm (Nat.min_le_left _ _);have h2:i < items2.size:=aT hm (Nat.min_le_right _ _);rw[bU hlt]at hz
   injection hz with hyx hrest
   have hy:y=items[i]:=by have:=av Prod.fst hyx;simpa using this
   have hx:x=items2[i]:=by have:=av Prod.snd hyx;simpa using this
   subst hy hx;have hd:(aj (min items.size items2.size)).drop i=i :: (aj (min items.size items2.size)).drop (i+1):=by simp[bU,hm]
   rw[hd]at hR;have hR:R (.ok (.ret (.bool (if e i=ae then ltR e lt (ak (items2.size<=items.size)) ((aj (min items.size items2.size)).drop (i+1)) else lt i)))) ⟨hp,g,d,tk,os⟩:=hR
   refine aA (he i h1 h2 prog w _ _ ?_);cases hy:e i with
   |true=>
    rw[hy]at hR
    wp_walk
    refine⟨rfl,rfl,i+1,hrest,λk hk'=>?_,by simpa using hR⟩
    rcases dJ k i with h|h
    .exact hk k h
    .rw[show k=i by omega];exact hy
   |false=>
    rw[hy]at hR;have hz:∀ (E:vL->Sd->Prop) (Q:vL->Sd->Prop),Q (.bool (lt i)) ⟨hp,g,d,tk,os⟩->a9 (bf prog w) A.in1 (richCompare .GtE items[i] items2[i]) Q E ⟨hp,g,d,tk,os⟩:=λE Q=>hq i h1 h2 hk hy prog w E Q
    generalize richCompare .GtE items[i] items2[i]=rc at hz ⊢
    wp_walk using hz _ _
    exact⟨_,rfl,by simpa using hR⟩
  case fin=>
   rintro⟨b1,b2⟩ s' ⟨hb',rfl,i,hz,_,hR⟩
   simp only at hb';subst hb';have hge:min items.size items2.size<=i:=by
    rcases dJ i (items.toList.zip items2.toList).length with h'|h'
    .rw[bU h']at hz;cases hz
    .exact hZ ▸ h'
   rw[eY (by simpa using hge)]at hR
   wp_walk
   exact⟨_,rfl,by simpa[Builtin.Tuple.tupleCompareSizes,ltR] using hR⟩
  case h=>
   exact⟨rfl,rfl,0,rfl,λk hk=>au hk (by omega),by simpa using h⟩
theorem GeAt.tuples{s:Sd}{l b:Ad}{c a:Array vL}{e lt:Nat->Bool}(B:s.heap.IsTuple l c)(D:s.heap.IsTuple b a)(hu:A.units < cLine)(C:∀ j (H:j < c.size) (G:j < a.size),EqAt A.in1 s c[j] a[j] (e j))(z:∀ j (H:j < c.size) (G:j < a.size),(∀ i,i < j->e i=ae)->e j=af->GeAt A.in1 s c[j] a[j] (lt j)):GeAt A s (.ref l) (.ref b) (ltR e lt (ak (a.size<=c.size)) (aj (min c.size a.size))):=λp w E Q h=>by
 obtain⟨⟨cls,dd,u,sl⟩,q,t,n,r⟩:=id B;obtain⟨⟨v,m,o,k⟩,d,g,y,f⟩:=id D;simp only at t r g f;subst t r g f;exact richCompare_meets_room (op:=.GtE) ⟨_,q,rfl⟩ ⟨_,d,rfl⟩ F.slot_tuple_ge F.entry_tuple_ge (F.args_tuple_ge_2 _ _) (Qe l b c a n y dd m sl k e lt)
  ⟨q,d,C,z,show Value.bool (ltR e lt (ak (a.size<=c.size)) (aj (min c.size a.size)))≠Value.notImplemented/\Q (.bool (ltR e lt (ak (a.size<=c.size)) (aj (min c.size a.size)))) s from⟨(λx=>nomatch x),h⟩⟩ hu
end
def eF(ds es:Li D)(i:Nat):Bool:=Zv ((ds[i]?).getD .non) ((es[i]?).getD .non)
noncomputable def lF(ds es:Li D)(i:Nat):Bool:=match ds[i]?,es[i]? with
 |some (.int a),aa (.int b)=>ak (a < b)
 |some (.str a),aa (.str b)=>ak (a.cps.toList < b.cps.toList)
 |_,_=>af
theorem QC{e lt:Nat->Bool}{f:Bool}:∀ {l:Li Nat},ltR e lt f (l.map Nat.succ)=ltR (λi=>e (i+1)) (λi=>lt (i+1)) f l
 |[]=>rfl
 |i :: l=>by
  show(if e (i+1)=ae then ltR e lt f (l.map Nat.succ) else lt (i+1))=_
  rw[QC];rfl
theorem Zao:∀ {ds es:Li D}{k:Bool},Vq ds es=aa k->ltR (eF ds es) (lF ds es) (ak (ds.length < es.length)) (aj (min ds.length es.length))=k
 |[],[],k,h=>by cases h;rfl
 |[],y :: ys,k,h=>by
  have h:aa (ak (0 < ys.length+1))=aa k:=h;cases h;simp[ltR]
 |x :: a,[],k,h=>by cases h;simp[ltR]
 |x :: a,y :: ys,k,h=>by
  have e:min (x :: a).length (y :: ys).length=min a.length ys.length+1:=by simp only[aX];omega
  rw[e,List.range_succ_eq_map];show(if Zv x y=ae then ltR (eF (x :: a) (y :: ys)) (lF (x :: a) (y :: ys)) _ ((aj (min a.length ys.length)).map Nat.succ) else lF (x :: a) (y :: ys) 0)=k
  unfold Vq at h;by_cases c:Zv x y=ae
  .rw[aq c]at h ⊢
   rw[QC,show ak ((x :: a).length < (y :: ys).length)=ak (a.length < ys.length) by simp]
   exact Zao h
  .rw[ar c]at h ⊢
   split at h
   .cases h;rfl
   .cases h;rfl
   .exact Zb h
theorem QD:∀ {ds es:Li D}{k:Bool}{j:Nat},Vq ds es=aa k->j < ds.length->j < es.length->(∀ i,i < j->eF ds es i=ae)->eF ds es j=af->(∃ a b,ds[j]?=aa (.int a)/\es[j]?=aa (.int b))\/(∃ a b,ds[j]?=aa (.str a)/\es[j]?=aa (.str b))
 |[],_,_,_,_,f,_,_,_=>au f (by simp)
 |_ :: _,[],_,_,_,_,d,_,_=>au d (by simp)
 |x :: l,y :: ys,k,0,h,_,_,_,e=>by
  have e:Zv x y=af:=e;unfold Vq at h;rw[ar (by rw[e];simp)]at h
  split at h
  .exact .inl ⟨_,_,rfl,rfl⟩
  .exact .inr ⟨_,_,rfl,rfl⟩
  .exact Zb h
 |x :: l,y :: ys,k,j+1,h,f,d,g,e=>by
  have c:Zv x y=ae:=g 0 (by omega)
  unfold Vq at h;rw[aq c]at h;exact QD (j:=j) h (by simpa using f) (by simpa using d) (λi m=>g (i+1) (by omega)) e
variable{X:Cx}{H:Hp}{ad:Li Ad}{ys:Li V}{ds es:Li D}{k:Bool}
open PySem.SeqAt in
def Zcj{s:Sd}{f:Li V}{a b:Li vL}(r:Dens X.K ad H f ds)(x:Dens X.K ad H ys es)(rv:Vals f a)(e:Vals ys b)(h:Vq ds es=aa k) :
  ∀ j (l:j < a.toArray.size) (y:j < b.toArray.size),(∀ i,i < j->eF ds es i=ae)->eF ds es j=af->LtAt A s a.toArray[j] b.toArray[j] (lF ds es j):=λj l y M N=>by
 have R:a.toArray.size=ds.length:=by rw[aF,<-rv.length,r.length]
 have P:b.toArray.size=es.length:=by rw[aF,<-e.length,x.length]
 have get:∀ {f:Li V}{ds:Li D}{a:Li vL}{d:D} (l:j < a.toArray.size),Dens X.K ad H f ds->Vals f a->ds[j]?=aa d->∃ v,Den X.K ad H v d/\RelV v a.toArray[j]:=λ{f ds a d} l r rv g=>by
  obtain⟨v,J,o⟩:=r.get g;obtain⟨u,B,m⟩:=rv.get J;have O:a.toArray[j]=u:=by
   have:a[j]?=aa (a[j]'(by simpa using l)):=Lg _
   rw[B]at this;simpa using(aw this).symm
  exact⟨v,o,by rw[O];exact m⟩
 rcases QD h (by omega) (by omega) M N with⟨i,L,g1,g2⟩|⟨i,L,g1,g2⟩
 .obtain⟨F,o,m⟩:=get l r rv g1
  obtain⟨C,z,t⟩:=get y x e g2;cases o;cases z
  obtain⟨I,q⟩:=m;obtain⟨G,p⟩:=t;rw[q,p];intro n w E Q c;have c:Q (.bool (lF ds es j)) s:=c;unfold lF at c;rw[g1,g2]at c;exact lt_int c
 .obtain⟨F,o,m⟩:=get l r rv g1
  obtain⟨C,z,t⟩:=get y x e g2;cases o;cases z
  obtain⟨I,q⟩:=m;obtain⟨G,p⟩:=t;rw[q,p];intro n w E Q c;have c:Q (.bool (lF ds es j)) s:=c;unfold lF at c;rw[g1,g2]at c;exact lt_str c
variable{pQ:Li (Ad×Obj)}{O:L2.St}{n:Nat}
open PySem.SeqAt in
def Zck{s:Sd}(I:Inv X pQ O H s){a b:Ad}{i:Li V}(o:Yf n ds=ae)(m:Yf n es=ae)(hu:A.units+n+1 < cLine)(e:TupAt X.K H a i)(r:Dens X.K ad H i ds)(x:TupAt X.K H b ys)(f:Dens X.K ad H ys es)(h:Vq ds es=aa k):LtAt A s (.ref a) (.ref b) k:=by
 obtain⟨g,rv,p,_⟩:=I.tuple (e.sq);obtain⟨d,c,l,_⟩:=I.tuple (x.sq);have w:g.toArray.size=ds.length:=by rw[aF,<-rv.length,r.length]
 have v:d.toArray.size=es.length:=by rw[aF,<-c.length,f.length]
 have q:=LtAt.tuples (A:=A) (s:=s) (e:=eF ds es) (lt:=lF ds es) p l (by omega) (λj u t=>Wq (a:=a) (b:=b) I o m hu r f rv c j u t) (Zcj r f rv c h)
 rw[w,v,Zao h]at q;exact q
open PySem.SeqAt in
def ZbP{s:Sd}(I:Inv X pQ O H s){a b:Ad}{o:Li V}{g k f i:Int}(hu:A.units+8 < cLine)(e:TupAt X.K H a o)(r:Dens X.K ad H o [.int g,.int k])(R:TupAt X.K H b ys)(D:Dens X.K ad H ys [.int f,.int i]):GeAt A s (.ref a) (.ref b) (if g=f then ak (i<=k) else ak (f<=g)):=by
 obtain⟨h,rv,p,_⟩:=I.tuple (e.sq);obtain⟨v,l,J,_⟩:=I.tuple (R.sq);have P:h.toArray.size=2:=by rw[aF,<-rv.length,r.length];rfl
 have N:v.toArray.size=2:=by rw[aF,<-l.length,D.length];rfl
 have y:∀ {o:Li V}{B z:Int}{h:Li vL},Dens X.K ad H o [.int B,.int z]->Vals o h->∃ t C,h=[.int B t,.int z C]:=λ{o B z h} r rv=>by
  cases r with
  |cons m r=>cases r with
   |cons x r=>
    cases r;cases m;cases x
    cases rv with
    |cons g1 rv=>cases rv with
     |cons g2 rv=>
      cases rv;obtain⟨t,rfl⟩:=g1;obtain⟨C,rfl⟩:=g2;exact⟨t,C,rfl⟩
 have F:A.units+1+1 < cLine:=by omega
 obtain⟨W,U,M⟩:=y r rv;obtain⟨T,S,L⟩:=y D l;have q:=GeAt.tuples (A:=A) (s:=s) (e:=eF [.int g,.int k] [.int f,.int i]) (lt:=λj=>if j=0 then ak (f<=g) else ak (i<=k)) p J (by omega) (λj m x=>Wq (n:=1) (a:=a) (b:=b) I rfl rfl F r D rv l j m x) (λj m x _ _=>by
  subst M;subst L
  match j,m,x with
  |0,_,_=>exact λu w E Q G=>ge_int G
  |1,_,_=>exact λu w E Q G=>ge_int G
  |j+2,m,_=>exact au m (by show ¬j+2 < 2;omega))
 rw[P,N]at q;have ev:ltR (eF [.int g,.int k] [.int f,.int i]) (λj=>if j=0 then ak (f<=g) else ak (i<=k)) (ak (2<=2)) (aj (min 2 2))=(if g=f then ak (i<=k) else ak (f<=g)):=by
  show(if ak (g=f)=ae then (if ak (k=i)=ae then ae else ak (i<=k)) else ak (f<=g))=_
  by_cases c:g=f
  .rw[aq (aG c),aq c]
   by_cases d:k=i
   .rw[aq (aG d),aG (by omega)]
   .rw[ar (by rw[aO];exact d)]
  .rw[ar (by rw[aO];exact c),ar c]
 rw[ev]at q;exact q
variable{dx dy:D}{u:vL}{Q:VK}{st:Za}{op:CmpOp}
variable{X:Cx}
section
theorem J7{ad:Li Ad}{H:Hp}{k:Int}:∀ {xs:Li V}{ds:Li D}{b:Bool},Dens X.K ad H xs ds->Yn k ds=aa b->xs.all flatV=ae/\inV (.int k) xs=b
 |_,_,_,.nil,e=>by cases e;exact⟨rfl,rfl⟩
 |_,_,b,.cons (d:=d) h r,e=>by
  cases d with
  |int i=>
   cases h;unfold Yn at e;cases q:Yn k _ with
   |none=>rw[q]at e;cases e
   |some b'=>
    rw[q]at e;cases e;obtain⟨c,a⟩:=J7 r q;refine⟨by rw[cA,c];rfl,?_⟩
    show((i==k)||inV (.int k) _)=(ak (i=k)||b');rw[a];rfl
  |_=>simp[Yn]at e
theorem UN{ad:Li Ad}{H:Hp}{k:Str}:∀ {xs:Li V}{ds:Li D}{b:Bool},Dens X.K ad H xs ds->ZU k ds=aa b->xs.all flatV=ae/\inV (.str k) xs=b
 |_,_,_,.nil,e=>by cases e;exact⟨rfl,rfl⟩
 |_,_,b,.cons (d:=d) h r,e=>by
  cases d with
  |str i=>
   cases h;unfold ZU at e;cases q:ZU k _ with
   |none=>rw[q]at e;cases e
   |some b'=>
    rw[q]at e;cases e;obtain⟨c,a⟩:=UN r q;refine⟨by rw[cA,c];rfl,?_⟩
    show((i==k)||inV (.str k) _)=(ak (i=k)||b');rw[a]
    congr 1
  |_=>simp[ZU]at e
def CW(X:Cx)(pQ:Li (Ad×Obj))(O:L2.St)(Q:VK)(s:Sd)(op:CmpOp)(v u:vL):Prop:=a9 (bf X.prog X.w) X.A (bt op v u) (EP X pQ O Q) X.xe s
def CW2(X:Cx)(pQ:Li (Ad×Obj))(O:L2.St)(Q:VK)(s:Sd)(H:Hp)(op a:CmpOp)(v u:vL)(k:Bool):Prop:=(Q (.bl k) H->CW X pQ O Q s op v u)/\(Q (.bl (!k)) H->CW X pQ O Q s a v u)
noncomputable def vSc:Sc->V
 |.non=>.non
 |.bl b=>.bl b
 |.int i=>.int i
 |.str x=>.str x
def Den.vSc{K:Fg}{ad:Li Ad}{H:Hp}{x:V}{d:D}{a:Sc}(h:Den K ad H x d)(e:scD d=aa a):x=vSc a:=by
 cases h<;>cases e<;>rfl
def ZbM{a b:Sc}(h:Zfq a b=aa k):scal (vSc a) (vSc b)=ae/\ak (vSc a=vSc b)=k:=by
 cases a<;>cases b<;>first
  | (cases h;done)
  | (cases h;exact⟨rfl,rfl⟩)
  | (cases h;exact⟨rfl,dec_bl⟩)
  | (cases h;exact⟨rfl,by simp[vSc]⟩)
inductive EqD(x y:V):D->D->Bool->Prop
 |sc {dx dy:D}{k:Bool} (h3:scal x y=ae) (h4:ak (x=y)=k):EqD x y dx dy k
 |tup {xs ys:List D} (h:(okD 8 (.tup xs)&&okD 8 (.tup ys))=ae):EqD x y (.tup xs) (.tup ys) (Zr xs ys)
def ZbL{K:Fg}{x y:V}(i:Den K ad H x dx)(g:Den K ad H y dy)(e:eqD dx dy=aa k):EqD x y dx dy k:=by
 unfold eqD at e;split at e
 .unfold eqT at e
  split at e
  .split at e
   .rename_i c
    cases e;exact .tup c
   .exact Zb e
  .exact Zb e
 .refine j_e e λe=>ZO (P:=λo=>o=aa k->EqD x y dx dy k) e (λa b l j h=>?_) rfl
  obtain⟨f,d⟩:=ZbM h;rw[<-i.vSc l,<-g.vSc j]at f d;exact .sc f d
def Zfs(hu:X.A.units+64 < cLine){s:Sd}{x y:V}{v:vL}(I:Inv X pQ O H s)(f:RelV x v)(d:RelV y u)(S:StOk X.K ad H st)(h:Den X.K ad H x dx)(g:Den X.K ad H y dy)(e:eqD dx dy=aa k):CW2 X pQ O Q s H .Eq .NotEq v u k:=by
 cases ZbL h g e with
 |sc i p=>
  subst p;exact⟨λq=>op_eq pQ s O H x y v u Q I f d ⟨i,q⟩,λq=>op_ne pQ s O H x y v u Q I f d ⟨i,q⟩⟩
 |tup c=>
  rw[Ba]at c;obtain⟨a,r,rfl,o,l⟩:=h.ofTup;obtain⟨b,ys,rfl,m,j⟩:=g.ofTup;cases f;cases d
  obtain⟨g1,g2⟩:=Zcu (ad:=ad) (A:=X.A) I (n:=7) c.1 c.2 (by omega) o l m j
  exact⟨λq=>g1 X.prog X.w X.xe _ ⟨.bl _,H,I,rfl,q⟩,λq=>g2 X.prog X.w X.xe _ ⟨.bl _,H,I,rfl,q⟩⟩
open PySem.SeqAt in
def Zct{s:Sd}(I:Inv X pQ O H s){a b:Ad}{m:Li V}{d c:Li vL}(w:Yf n ds=ae)(v:Yf n es=ae)(hu:A.units+n+1 < cLine)(r:Dens X.K ad H m ds)(o:Dens X.K ad H ys es)(rv:Vals m d)(f:Vals ys c)(p:s.heap.IsList a d.toArray)(h:s.heap.IsList b c.toArray):RcAt A s (.ref a) (.ref b) (Zr ds es)/\RcNeAt A s (.ref a) (.ref b) (!Zr ds es):=by
 have l:d.toArray.size=ds.length:=by rw[aF,<-rv.length,r.length]
 have u:c.toArray.size=es.length:=by rw[aF,<-f.length,o.length]
 by_cases k:ds.length=es.length
 .have t:=λj y x=>Wq (a:=a) (b:=b) I w v hu r o rv f j y x
  have q:=RcAt.lists (A:=A) (s:=s) (e:=λi=>Zv ((ds[i]?).getD .non) ((es[i]?).getD .non)) p h (by omega) (by omega) t
  have g:=RcNeAt.lists (A:=A) (s:=s) (e:=λi=>Zv ((ds[i]?).getD .non) ((es[i]?).getD .non)) p h (by omega) (by omega) t
  rw[l]at q g;rw[YB,show min ds.length es.length=ds.length by omega,show(ds.length==es.length)=ae by simpa using k,dR]
  exact⟨q,g⟩
 .have q:=RcAt.lists_lengths (A:=A) (s:=s) p h (by rw[l,u];simpa using k) (by omega)
  have g:=RcNeAt.lists_lengths (A:=A) (s:=s) p h (by rw[l,u];simpa using k) (by omega)
  rw[YB,show(ds.length==es.length)=af by simpa using k,Bool.and_false]
  exact⟨q,g⟩
open PySem.SeqAt in
def Zf7(hu:X.A.units+64 < cLine){s:Sd}{x y:V}{v:vL}(I:Inv X pQ O H s)(b:RelV x v)(a:RelV y u)(S:StOk X.K ad H st)(d:Den X.K ad H x (.tup ds))(c:Den X.K ad H y (.tup es))(e:ZaI st ds es=aa k):CW2 X pQ O Q s H .Eq .NotEq v u k:=by cases e
def Zft(hu:X.A.units+64 < cLine){s:Sd}{x y:V}{v:vL}(I:Inv X pQ O H s)(r:RelV x v)(p:RelV y u)(S:StOk X.K ad H st)(M:Den X.K ad H x dx)(L:Den X.K ad H y dy)(e:eqS st dx dy=aa k):CW2 X pQ O Q s H .Eq .NotEq v u k:=by
 have sc:scal x y=ae->(ak (x=y))=k->CW2 X pQ O Q s H .Eq .NotEq v u k:=λC h2=>by
  subst h2;exact⟨λq=>op_eq pQ s O H x y v u Q I r p ⟨C,q⟩,λq=>op_ne pQ s O H x y v u Q I r p ⟨C,q⟩⟩
 unfold eqS at e;split at e
 .unfold Zfp at e
  split at e
  case h_2=>exact Zb e
  obtain⟨a,rfl,ha⟩:=M.ofLst;obtain⟨b,rfl,hb⟩:=L.ofLst;cases r;cases p
  have two:∀ {ba bb:Bool}{i ys:Li D},st[_]?=aa (ba,i)->st[_]?=aa (bb,ys)->(i=[]\/ys=[])->(i.isEmpty&&ys.isEmpty)=k->CW2 X pQ O Q s H .Eq .NotEq (.ref a) (.ref b) k:=λ{ba bb i ys} J G E hk=>by
   obtain⟨vs,T,s1⟩:=S.list ha J;obtain⟨ws,R,N⟩:=S.list hb G;obtain⟨h,rv,B,_⟩:=I.list s1;obtain⟨g,l,t,_⟩:=I.list N;have Z:h.toArray.size=i.length:=by rw[aF,<-rv.length,T.length]
   have Y:g.toArray.size=ys.length:=by rw[aF,<-l.length,R.length]
   by_cases n:i.length=ys.length
   .have W:i=[]:=by
     rcases E with z|z
     .exact z
     .rw[z]at n;exact eW.mp n
    have z2:ys=[]:=by rw[W]at n;exact eW.mp n.symm
    subst W z2;cases hk;have f:h=[]:=eW.mp (by simpa using Z)
    have f':g=[]:=eW.mp (by simpa using Y)
    subst f f';refine⟨λq=>SeqAt.RcAt.lists (e:=λ_=>ae) B.isList t.isList rfl (by omega) (λj C _=>au C (by simp)) X.prog X.w X.xe _ ⟨.bl ae,H,I,rfl,q⟩,λq=>SeqAt.RcNeAt.lists (e:=λ_=>ae) B.isList t.isList rfl (by omega) (λj C _=>au C (by simp)) X.prog X.w X.xe _ ⟨.bl af,H,I,rfl,q⟩⟩
   .have U:k=af:=by
     rw[<-hk];rcases E with z|z
     .subst z
      cases ys with
      |nil=>exact au rfl n
      |cons _ _=>rfl
     .subst z
      cases i with
      |nil=>exact au rfl n
      |cons _ _=>rfl
    subst U;have F:(h.toArray.size != g.toArray.size)=ae:=by rw[Z,Y];simpa using n
    exact⟨λq=>SeqAt.RcAt.lists_lengths B.isList t.isList F (by omega) X.prog X.w X.xe _ ⟨.bl af,H,I,rfl,q⟩,λq=>SeqAt.RcNeAt.lists_lengths B.isList t.isList F (by omega) X.prog X.w X.xe _ ⟨.bl ae,H,I,rfl,q⟩⟩
  refine j_e e λe=>ZO (P:=λo=>o=aa k->CW2 X pQ O Q s H .Eq .NotEq (.ref a) (.ref b) k) e (λc d J G e=>?_) rfl
  obtain⟨c1,c2⟩:=c;obtain⟨d1,d2⟩:=d;unfold Vh at e;split at e
  .rename_i E
   cases e;rw[bV]at E;exact two J G (E.imp List.isEmpty_iff.mp List.isEmpty_iff.mp) rfl
  .split at e
   .rename_i m
    cases e;rw[Ba]at m;obtain⟨vs,T,s1⟩:=S.list ha J;obtain⟨ws,R,N⟩:=S.list hb G;obtain⟨h,rv,B,_⟩:=I.list s1;obtain⟨g,l,t,_⟩:=I.list N;obtain⟨g1,g2⟩:=Zct (ad:=ad) (A:=X.A) I m.1 m.2 (by omega) T R rv l B.isList t.isList
    exact⟨λq=>g1 X.prog X.w X.xe _ ⟨.bl _,H,I,rfl,q⟩,λq=>g2 X.prog X.w X.xe _ ⟨.bl _,H,I,rfl,q⟩⟩
   .exact Zb e
 .unfold Zfr at e
  split at e
  .split at e
   .rename_i k' q
    cases e;exact Zfs hu I r p S M L (show eqD (.tup _) (.tup _)=aa _ from q)
   .exact Zf7 hu I r p S M L e
  .exact Zb e
 .exact Zfs hu I r p S M L e
open Classical in
def Zg7(K:Fg)(ad:Li Ad)(H:Hp)(d:D)(u:vL):Bool:=ak (∃ y e,RelV y u/\Den K ad H y e/\okD 8 e=ae/\Zv e d=ae)
section
variable{pQ:Li (Ad×Obj)}{s:Sd}{O:L2.St}{H:Hp}{x y:V}{v u:vL}{Q:VK}{ad:Li Ad}{st:Za}{dx dy:D}{k:Bool}
def Vn{a:Ad}{b:Li V}(I:Inv X pQ O H s)(e:RelV x v)(d:RelV y u)(i:y=.ref a)(sq:SqL X.K H a b\/SqT X.K H a b)(g:flatV x=ae)(h:b.all flatV=ae/\inV x b=k):CW2 X pQ O Q s H .In .NotIn v u k:=by
 obtain⟨f,j⟩:=h;subst j;exact⟨λc=>op_in_seq pQ s O H _ _ v u Q I e d ⟨a,b,i,sq,g,f,c⟩,λc=>op_notIn_seq pQ s O H _ _ v u Q I e d ⟨a,b,i,sq,g,f,c⟩⟩
def InW(X:Cx)(pQ:Li (Ad×Obj))(O:L2.St)(Q:VK)(s:Sd)(H:Hp)(v u:vL)(dy:D)(k:Bool):Prop:=(Q (.bl k) H->CW X pQ O Q s .In v u)/\((∀ ks vs,dy≠.dct ks vs)->Q (.bl (!k)) H->CW X pQ O Q s .NotIn v u)
def CW2.inW(h:CW2 X pQ O Q s H .In .NotIn v u k):InW X pQ O Q s H v u dy k:=⟨h.1,λ_=>h.2⟩
def Zfv(hu:X.A.units+64 < cLine)(I:Inv X pQ O H s)(f:RelV x v)(d:RelV y u)(S:StOk X.K ad H st)(l:Den X.K ad H x dx)(h:Den X.K ad H y dy)(q:inS st dx dy=aa k):InW X pQ O Q s H v u dy k:=by
 unfold inS at q;split at q
 .split at q
  .rename_i m
   obtain⟨a,e,c⟩:=h.ofLst;obtain⟨n,r,sq⟩:=S.list c m;cases l;exact(Vn I f d e (.inl sq) rfl (J7 r q)).inW
  .exact Zb q
 .split at q
  .rename_i m
   obtain⟨a,e,c⟩:=h.ofLst;obtain⟨n,r,sq⟩:=S.list c m;cases l;exact(Vn I f d e (.inl sq) rfl (UN r q)).inW
  .exact Zb q
 .obtain⟨a,n,e,c,r⟩:=h.ofTup
  cases l;exact(Vn I f d e (.inr c.sq) rfl (J7 r q)).inW
 .obtain⟨a,n,e,c,r⟩:=h.ofTup
  cases l;exact(Vn I f d e (.inr c.sq) rfl (UN r q)).inW
 .obtain⟨a,vs,rfl,c,D,r⟩:=h.ofDct
  cases l;cases q;refine⟨λg=>op_in_dct pQ s O H _ _ v u Q I f d ⟨a,_,Sum.inr _,rfl,rfl,c,?_⟩,λz=>au rfl (z _ _)⟩
  rcases Xy r D with⟨w,J,t,p,G⟩|⟨t,p⟩
  .rw[t];rw[p]at g;exact g
  .rw[t];rw[p]at g;exact g
 .obtain⟨o,B,rfl⟩:=eQ.mp q
  obtain⟨i,j,L,es,rfl,m,rfl⟩:=UL B;obtain⟨a,rfl,c,C⟩:=h.ofDic;obtain⟨kvs,r,E,_⟩:=S.dict c C m;obtain⟨b,rfl,F⟩:=Xq l;cases f;cases d
  have z:=in_dT (X:=X) (Q:=Q) (by omega) I E F
  rw[Q4 r]at z;exact⟨z.1,λ_=>z.2⟩
 .cases l;cases h;cases q
  exact⟨λg=>op_in_str pQ s O H _ _ v u Q I f d ⟨_,_,rfl,rfl,g⟩,λ_ g=>op_notIn_str pQ s O H _ _ v u Q I f d ⟨_,_,rfl,rfl,g⟩⟩
 .exact Zb q
def Zcb(a:Den X.K ad H x dx)(q:isN dx=aa k):ak (x=V.non)=k:=by
 cases a<;>cases q<;>rfl
def Zfw(I:Inv X pQ O H s)(f:RelV x v)(d:RelV y u)(h:Den X.K ad H x dx)(g:Den X.K ad H y dy)(q:isD dx dy=aa k):CW2 X pQ O Q s H .Is .IsNot v u k:=by
 unfold isD at q;split at q
 .cases g
  have z:=Zcb h q;subst z;exact⟨λc=>op_isN pQ s O H _ _ v u Q I f d ⟨rfl,c⟩,λc=>op_notN pQ s O H _ _ v u Q I f d ⟨rfl,c⟩⟩
 .unfold isB at q
  split at q
  .cases q
   cases h;cases g
   cases f;cases d
   have e:∀ a b:Bool,(Value.bool a==Value.bool b)=(a==b):=λa b=>by cases a<;>cases b<;>rfl
   exact⟨λc=>wpAny_is_plain rfl (by rw[e];exact⟨.bl _,H,I,rfl,c⟩),λc=>wpAny_isNot_plain rfl (by rw[e];exact⟨.bl _,H,I,rfl,c⟩)⟩
  .cases q
 .cases q
def X7{f:Int->Int->Bool}(b:Den X.K ad H x dx)(a:Den X.K ad H y dy)(q:Je f dx dy=aa k):∃ i j,x=.int i/\y=.int j/\f i j=k:=by
 unfold Je at q;split at q
 .cases q;cases b;cases a;exact⟨_,_,rfl,rfl,rfl⟩
 .exact Zb q
def Zgj(hu:X.A.units+64 < cLine)(I:Inv X pQ O H s)(e:RelV x v)(d:RelV y u)(S:StOk X.K ad H st)(h:Den X.K ad H x dx)(g:Den X.K ad H y dy)(q:ltS st dx dy=aa k)(f:Q (.bl k) H):CW X pQ O Q s .Lt v u:=by
   have q:ltD dx dy=aa k:=q;unfold ltD at q;split at q
   .split at q
    .rename_i ds es c
     rw[Ba]at c;obtain⟨a,r,rfl,p,m⟩:=h.ofTup;obtain⟨b,ys,rfl,o,l⟩:=g.ofTup;cases e;cases d
     exact Zck (ad:=ad) (A:=X.A) I (n:=7) c.1 c.2 (by omega) p m o l q X.prog X.w X.xe _ ⟨.bl _,H,I,rfl,f⟩
    .exact Zb q
   obtain⟨i,j,rfl,rfl,z⟩:=X7 h g q;exact op_lt pQ s O H _ _ v u Q I e d ⟨_,_,rfl,rfl,by cases z;exact f⟩
def Vt{o:Ot Bool}(q:o.map not=aa k):o=aa (!k):=by
 cases o with
 |none=>exact Zb q
 |some a=>cases q;rw[Bool.not_not]
def Zav{a:CmpOp}(h:CW2 X pQ O Q s H op a v u (!k))(b:Q (.bl k) H):CW X pQ O Q s a v u:=h.2 (by rw[Bool.not_not];exact b)
end
def QG(hu:X.A.units+64 < cLine):OpR X (bt op) (rD X.K (XL op)):=by
 intro pQ s O H x y v u Q I f c h;obtain⟨ad,st,dx,dy,d,st',S,m,l,e,p⟩:=h
 change CW X pQ O Q s op v u;unfold XL at e;cases q:Q0 op dx dy st with
 |none=>rw[q]at e;cases e
 |some k=>
  rw[q]at e;cases e;have g:=p.at S (.bl k);clear p;cases op with
  |Lt=>exact Zgj hu I f c S m l q g
  |LtE=>
   obtain⟨i,j,rfl,rfl,z⟩:=X7 m l q;exact op_le pQ s O H _ _ v u Q I f c ⟨_,_,rfl,rfl,by cases z;exact g⟩
  |Gt=>
   obtain⟨i,j,rfl,rfl,z⟩:=X7 m l q;exact op_gt pQ s O H _ _ v u Q I f c ⟨_,_,rfl,rfl,by cases z;exact g⟩
  |GtE=>
   have q:geD dx dy=aa k:=q;unfold geD at q;split at q
   .cases q
    obtain⟨a,C,rfl,B,o⟩:=m.ofTup;obtain⟨b,ys,rfl,t,n⟩:=l.ofTup;cases f;cases c
    exact ZbP (ad:=ad) (A:=X.A) I (by omega) B o t n X.prog X.w X.xe _ ⟨.bl _,H,I,rfl,g⟩
   obtain⟨i,j,rfl,rfl,z⟩:=X7 m l q;exact op_ge pQ s O H _ _ v u Q I f c ⟨_,_,rfl,rfl,by cases z;exact g⟩
  |Eq=>exact(Zft hu I f c S m l q).1 g
  |NotEq=>exact Zav (Zft hu I f c S m l (Vt q)) g
  |In=>exact(Zfv hu I f c S m l q).1 g
  |NotIn=>
   have q:niS st dx dy=aa k:=q;unfold niS at q;split at q
   .cases q
   .rename_i r
    exact(Zfv hu I f c S m l (Vt q)).2 r (by rw[Bool.not_not];exact g)
  |Is=>exact(Zfw I f c m l q).1 g
  |IsNot=>exact Zav (Zfw I f c m l (Vt q)) g
end
variable [ClsTab]
noncomputable def Zg:az->Bool
 |.Starred ..=>af
 |.Set ..=>af
 |.Slice ..=>af
 |_=>ae
variable{sc:bo}{N:Li Str}{e:az}
def Zd{G:Gs}{c:CE}(h:cE G n sc N e=aa c):Zg e=ae:=by
 cases n with
 |zero=>exact nomatch (show(ab:Ot CE)=aa c from h)
 |succ n=>cases e<;>first|rfl|exact nomatch (show(ab:Ot CE)=aa c from h)
variable{env:PySem.Env}
def Ze{es:Li az}(h:Zg e=ae):bh (e :: es) env=(af,eval e env) :: bh es env:=by
 cases e<;>first|rfl|cases h
def XV{b:az}(h:Zg b=ae):behindInMarks op b=af:=by
 cases b<;>first|rfl|cases h
def Uf{b:az}(h:Zg b=ae):PlainIx b:=by
 cases b<;>first | (intro o i;rfl)|cases h
theorem XF{a:Pos}{env:PySem.Env}:∀ {es:Li az},es.all Zg=ae->(backTo a (bh es env)).any (·.1)=af
 |[],_=>rfl
 |e :: es,h=>by
  rw[cA,Ba]at h;rw[Ze h.1];show(af||(backTo a (bh es env)).any (·.1))=af;rw[XF h.2];rfl
inductive EsOk(Pm:Params)(K:Fg):List DictEntry->List Str->List D->Prop where
 |nil:EsOk Pm K [] [] []
 |cons {e:DictEntry}{es:List DictEntry}{k:Str}{ks:List Str}{d:D}{ds:List D}{v:V}{t:Tok} (h1:e.hash=bx Pm k) (h2:e.key=.str k t) (h3:RelV v e.val) (h4:∀ ad H,Den K ad H v d) (r:EsOk Pm K es ks ds):EsOk Pm K (e :: es) (k :: ks) (d :: ds)
def Ql(b:Params)(K:Fg)(mg:Str->Ot vL)(x:Str)(ks:Li Str)(ds:Li D):Prop:=
 ∃ A o es a,mg x=aa (.ref A)/\K.lookup A=aa o/\o.ExactDict/\o.data=.dict es a/\(A==bu)=af/\ks.Nodup/\EsOk b K es.toList ks ds
variable{w:br}
theorem EsOk.open{P:bg}{K:Fg}:∀ {es:Li DictEntry}{ks:Li Str}{ds:Li D},EsOk w.params K es ks ds->∃ kvs:Li (Key×vL),Pairs (mixKind P w) es kvs/\kvs.map (·.1)=ks.map Sum.inr/\(∀ e∈es,∃ k,(mixKind P w).is k e.key=ae/\e.hash=(mixKind P w).hash k) /\
  ∀ k d,Z5 ks ds k=aa d->∃ u v,valueAt kvs (Sum.inr k)=aa u/\RelV v u/\∀ ad H,Den K ad H v d
 |_,_,_,.nil=>⟨[],.nil,rfl,(λ_ h=>nomatch h),λk d h=>by simp[Z5]at h⟩
 |e :: es,a :: ks,n :: ds,.cons (v:=v) (t:=t) m l j i r=>by
  obtain⟨kvs,B,A,y,s⟩:=EsOk.open (P:=P) r;have b:(mixKind P w).is (Sum.inr a) e.key=ae:=by rw[l];exact mixKind_str P w a t
  refine⟨(Sum.inr a,e.val) :: kvs,.cons b rfl B,by rw[aZ,aZ,A],λx hx=>?_,λk d h=>?_⟩
  .rcases aL.mp hx with rfl|hx
   .exact⟨Sum.inr a,b,m⟩
   .exact y x hx
  .unfold valueAt
   by_cases c:a=k
   .subst c
    have h:Z5 (a :: ks) (n :: ds) a=aa d:=h;simp only[Z5,aq]at h;cases h;exact⟨e.val,v,by simp,j,i⟩
   .have h:Z5 ks ds k=aa d:=by
     simp only[Z5,ar c]at h;exact h
    obtain⟨u,f,q,p,o⟩:=s k d h;refine⟨u,f,?_,p,o⟩;have g:¬(Sum.inr a:Key)=Sum.inr k:=λz=>c (Sum.inr.inj z)
    rw[List.find?_cons_of_neg (by simpa using g)]
    exact q
structure SubOk(K:Fg)(C B:Addr):Prop where
 cl:Cls K C
 ha:W.findIn K (.ref C) "__class__"=aa (aa (.builtin "object.__class__"))
 hn:W.specialIn K (.builtin "object.__class__") "__get__"=aa (aa (.builtin "getset_descriptor.__get__"))
 ht:W.takesIn K (.builtin "object.__class__")=aa ae
 hm:W.mroIn K C (.type "object")=aa ae
 kit:W.kitOne K (.ref C) (.ref B)=aa ae
structure NewOk(K:Fg)(C:Addr):Prop where
 makes:W.makesIn K C=ae
 init:W.findIn K (.ref C) "__init__"=aa (aa (.builtin "object.__init__"))
 kp:W.keepIn K (.ref C)=ae
 cl:Cls K C
def GOk(P:bg)(w:br)(K:Fg)(mg:Str->Ot vL)(base:bq)(A:bv)(F:Nat->Fn)(x:Str):GV->Prop
 |.c d=>∃ v u,mg x=aa u/\RelV v u/\∀ ad H,Den K ad H v d
 |.blt=>mg x=ab
 |.dct ks ds=>Ql w.params K mg x ks ds
 |.cls i l a=>mg x=aa (.ref (ClsTab.ca i))/\NewOk K (ClsTab.ca i)/\(∀ h,a.contains h=ae->SubOk K (ClsTab.ca h) (ClsTab.ca i)) /\
   ∀ m j g,l.lookup m=aa (j,g)->∃ (k:Nat) (f:Ad) (fd:bp) (pn:Li Str),FnOk P w K mg base CX0 k f fd pn (spD K (F j))/\Room k A/\Meth K (ClsTab.ca i) m f/\Binds K fd pn []
 |.fn i g ds=>∃ (k:Nat) (f:Ad) (fd:bp) (pn:Li Str),FnOk P w K mg base CX0 k f fd pn (spD K (F i))/\Room k A/\mg x=aa (.ref f)/\W.keepIn K (.ref f)=ae /\
   ∀ m,m<=ds.length->∃ b e,(∀ ad H,Dens K ad H b (ds.drop m))/\Vals b e/\Binds K fd pn e
structure Cxt(X:Cx)(G:Gs)(F:Nat->Fn)(sc:bo)(N:List Str):Prop where
 hN:X.N=N
 vis:∀ x,Xw sc x=ae->Vis X.env.scope x
 glb:∀ x,ZA sc x=ae->Gl X x
 calm:X.calm=ae
 hu:X.A.units+64 < cLine
 gl:∀ x g,G.lookup x=aa g->GOk X.prog X.w X.K X.mg X.base X.A F x g
 cel:∀ x,Wp sc x=ae->X.env.scope.names.lookup x=aa .cell\/X.env.scope.names.lookup x=aa .free
 nx:X.xe=λ_ _=>False
variable{i:Nat}
def Xl{x:Str}(h:N.idxOf? x=aa i):N[i]?=aa x:=by
 unfold List.idxOf? at h
 rw[List.findIdx?_eq_some_iff_getElem]at h;obtain⟨a,b,_⟩:=h;rw[Lg a];rw[beq_iff_eq.mp b]
def Vp{x:Str}(h:Xw sc x=ae):(x==("__debug__":Str))=af/\(x==("__classdict__":Str))=af:=by
 unfold Xw at h;rw[Ba,Ba,fS,fS]at h;exact h.1
def Xv{x:Str}(h:ZA sc x=ae):(x==("__debug__":Str))=af:=by
 unfold ZA at h;rw[Ba,fS]at h;exact h.1
variable{fa:Ev}{pos:Pos}{U:Env}{st':Za}{d:D}
variable{F:Nat->Fn}
def ZfE{f:Ev}(h:PE X e (tE X.K f))(b:∀ a,isTrue e X.env a=(do let v <-a;standAt e.pos;holding [v] (truthy v)):=by intro _;rfl):PT X e (tT X.K f):=WB (pt_val h b) J5
def Zev{c a b:az}{r u:Ev}(x:PT X c (tT X.K r))(z:PT X a (tT X.K fa))(y:PT X b (tT X.K u)):PT X (.IfExp c a b pos) (tT X.K (YY r fa u)):=by
 intro pQ s O H Q I h;obtain⟨ad,U,st,d,st',E,S,e,p⟩:=h;obtain⟨k,st1,q,e⟩:=Z9 e;show a9 _ _ (isTrue c X.env (eval c X.env) >>= λt=>if t then isTrue a X.env (eval a X.env) else isTrue b X.env (eval b X.env)) _ _ s
 refine aA (thn (x pQ s O H (λw j=>w=k/\∃ f,Ext ad H f j/\StOk X.K f j st1) I ⟨ad,U,st,k,st1,E,S,q,λf j i l=>⟨rfl,f,i,l⟩⟩) λt s1 ⟨j,v,A,f,i,l⟩=>?_)
 subst A;cases t with
 |true=>
  rw[aq rfl]at e ⊢;exact z pQ s1 O j Q v ⟨f,U,st1,d,st',E.mono i,l,e,λg o m n=>p g o (i.trans m) n⟩
 |false=>
  rw[ar Bf]at e ⊢;exact y pQ s1 O j Q v ⟨f,U,st1,d,st',E.mono i,l,e,λg o m n=>p g o (i.trans m) n⟩
def Jj:CE->Prop
 |.aN=>True
 |.aC _ _=>True
 |_=>False
def XY{c:CE}(h:Jj c)(e:ev F c U st=aa (d,st')):∃ ds,d=.tup ds/\ds.length<=1000:=by
 cases c with
 |aN=>cases e;exact⟨[],rfl,by decide⟩
 |aC a r=>
  have e:ZH (ev F a) (ev F r) V1 U st=aa (d,st'):=e;unfold ZH at e;split at e
  .split at e
   .rename_i y b _
    cases y with
    |tup f=>
     have e:(if f.length < 1000 then aa (D.tup (_ :: f),b) else ab)=aa (d,st'):=e
     split at e
     .rename_i g
      cases e;exact⟨_,rfl,g⟩
     .exact Zb e
    |_=>simp[V1]at e
   .exact Zb e
  .exact Zb e
 |_=>exact False.elim h
structure SE(X:Cx)(F:Nat->Fn)(e:az)(c:CE):Prop where
 pe:PE X e (tE X.K (ev F c))
 pt:PT X e (tT X.K (ev F c))
def SE.of{c:CE}(h:PE X e (tE X.K (ev F c)))(b:∀ a,isTrue e X.env a=(do let v <-a;standAt e.pos;holding [v] (truthy v)):=by intro _;rfl):SE X F e c:=⟨h,ZfE h b⟩
def Up{op:BoolOp}{es:Li az}{t:TT}(h:PT X (.BoolOp op es pos) t):PW X (.BoolOp op es pos) t:=λ_ pQ s O H Q I q=>h pQ s O H Q I q
variable{vs:Li V}{ad0:Li Ad}
variable{ad:Li Ad}{H:Hp}{p:Ad}
section
variable{o:HO}
variable (ho:∀ kvs,o≠.dT kvs)
include ho
def Zad{K:Fg}(a:H p=aa (.dK [])):Keeps K ad ad H (upd H p o):=⟨λh=>h.upd a (by intro b z;cases z),λh=>⟨h,WK (Wy a λ_ z=>nomatch z) ho⟩,λn h=>by rw[upd_ne (ne_of h a (by intro z;injection z with z;exact n z))];exact h,λh n=>⟨by rw[upd_ne (ne_of h a (by intro z;cases z))];exact h,n⟩⟩
def Dens.wrK{K:Fg}(a:H p=aa (.dK []))(h:Dens K ad H vs ds):Dens K ad (upd H p o) vs ds:=h.map (Zad ho a)
def StOk.wrK{K:Fg}(S:StOk K ad H st)(a:H p=aa (.dK []))(b:p∉ad):StOk K ad (upd H p o) st:=
 S.wrG (Zad ho a) b
def Ext.wrK{e:Hp}(x:Ext ad0 e ad H)(f:H p=aa (.dK []))(d:e p=ab):Ext ad0 e ad (upd H p o):=by
 refine⟨x.pre,λb c h=>?_,λb c h=>?_,λb o h n=>?_,x.new,λi a h=>(x.kd i a h).trans (WK (Wy f λ_ z=>nomatch z) ho)⟩
 .rw[upd_ne (ne_of_none h d)];exact x.tup b c h
 .rw[upd_ne (ne_of_none h d)];exact x.dk b c h
 .rw[upd_ne (ne_of_none h d)];exact x.keep b o h n
end
theorem W1:∀ (kvs a:Li (Key×V)),(∀ p∈kvs,∀ q∈a,q.1≠p.1)->(kvs.map (·.1)).Nodup->mergeK a kvs=a++kvs
 |[],a,_,_=>by show a=a++[];rw[bF]
 |p :: r,a,h,n=>by
  rw[aZ,bS]at n;have e:putK a p.1 p.2=a++[p]:=by
   unfold putK;rw[ar];intro z;rw[List.any_eq_true]at z;obtain⟨q,hq,z⟩:=z;exact h p (Ls ..) q hq (ao z)
  show mergeK (putK a p.1 p.2) r=_;rw[e,W1 r (a++[p]) (λx b q hq=>?_) n.2,aM];rfl
  rcases aY.mp hq with hq|hq
  .exact h x (Lm _ b) q hq
  .rw[aP]at hq
   subst hq;intro z;exact n.1 (by rw[z];exact List.mem_map_of_mem b)
theorem Ws:∀ {ks:Li Str}{vs:Li V},ks.Nodup->(((ks.zip vs).map λp=>((Sum.inr p.1:Key),p.2)).map (·.1)).Nodup
 |[],_,_=>by simp
 |_ :: _,[],_=>by simp
 |k :: ks,v :: vs,h=>by
  rw[bS]at h;show((Sum.inr k:Key) :: ((ks.zip vs).map λp=>((Sum.inr p.1:Key),p.2)).map (·.1)).Nodup
  rw[bS];refine⟨λz=>h.1 ?_,Ws h.2⟩
  rw[bQ,aQ]at z;obtain⟨q,a,e⟩:=z;have e:(Sum.inr q.1:Key)=Sum.inr k:=e;rw[<-Sum.inr.inj e];exact(fH a).1
theorem Xx:∀ {keys:Li (Ot az)}{ks:Li Str},ZG keys=aa ks->keys.length=ks.length/\keys.all (·.isSome)=ae
 |[],_,h=>by cases h;exact⟨rfl,rfl⟩
 |some (.Constant (.str k) a b) :: r,ks,h=>by
  have h:(ZG r).map (k :: ·)=aa ks:=h;cases q:ZG r with
  |none=>rw[q]at h;cases h
  |some c=>
   rw[q]at h;cases h;obtain⟨f,d⟩:=Xx q;exact⟨by rw[aX,aX,f],by rw[cA,d];rfl⟩
 |none :: _,_,h=>by simp[ZG]at h
 |some e :: r,ks,h=>by
  cases e with
  |Constant v a b=>cases v with
   |str k=>
    have h:(ZG r).map (k :: ·)=aa ks:=h;cases q:ZG r with
    |none=>rw[q]at h;cases h
    |some c=>
     rw[q]at h;cases h;obtain⟨f,d⟩:=Xx q;exact⟨by rw[aX,aX,f],by rw[cA,d];rfl⟩
   |_=>simp[ZG]at h
  |_=>simp[ZG]at h
variable{vals:Li az}{keys:Li (Ot az)}{ks:Li Str}
variable{pos:Pos}
section
variable{f:az->Ot CE}
theorem ZaP(n:∀ e c,f e=aa c->PE X e (tE X.K (ev F c))):∀ {vals:Li az}{keys:Li (Ot az)}{ks:Li Str}{c:CE},ZG keys=aa ks->cVs f vals=aa c->ks.length=vals.length->
  Jj c/\∃ i,PPs X pos keys vals i/\∀ O H (Q:Li (V×V)->Hp->Prop),tA X.K (ev F c) O H (λvs H'=>Q ((ks.zip vs).map λp=>(V.str p.1,p.2)) H')->tPairs i O H Q
 |[],keys,ks,c,g,j,l=>by
  cases j;cases ks with
  |cons _ _=>simp at l
  |nil=>
   have A:=(Xx g).1;cases keys with
   |cons _ _=>simp at A
   |nil=>exact⟨trivial,[],pps_nil,λO H Q h=>Wo O H _ h⟩
 |v :: vals,keys,ks,c,g,j,l=>by
  cases ks with
  |nil=>simp at l
  |cons k ks=>
   have j:(match f v,cVs f vals with
    |some x,aa r=>aa (CE.aC x r)
    |_,_=>ab)=aa c:=j
   split at j
   .rename_i x r u w
    cases j;cases keys with
    |nil=>cases g
    |cons m keys=>
     cases m with
     |none=>simp[ZG]at g
     |some e=>
      cases e with
      |Constant C a b=>
       cases C with
       |str t=>
        have g:(ZG keys).map (t :: ·)=aa (k :: ks):=g;cases q:ZG keys with
        |none=>rw[q]at g;cases g
        |some s=>
         rw[q]at g;cases g;obtain⟨_,i,z,y⟩:=ZaP n q w (by simpa using l)
         refine⟨trivial,(tC (.str k),tE X.K (ev F x)) :: i,pps_cons pe_str (n v x u) z,λO H Q h=>?_⟩
         have h:=WZ O H _ h;obtain⟨ad,U,st,d,st',E,S,e,p⟩:=h;exact⟨ad,U,st,d,st',E,S,e,λv ad' H' o D B=>y O H' _ (p v ad' H' o D B)⟩
       |_=>simp[ZG]at g
      |_=>simp[ZG]at g
   .exact Zb j
def ZaK(J:∀ e c,f e=aa c->PE X e (tE X.K (ev F c))){c:CE}(w:ZG keys=aa ks)(L:cVs f vals=aa c)(G:keys.length=vals.length)(R:keys≠[])(t:keys.length<=15) :
  PE X (.Dict keys vals pos) (tE X.K (ev F (.dict ks c))):=by
 obtain⟨Y,B⟩:=Xx w;obtain⟨M,A,P,N⟩:=ZaP (pos:=pos) J w L (by omega)
 refine Zh (pe_disp P B G R t) λO H Q h=>?_
 obtain⟨ad,U,st,d,st',E,S,e,p⟩:=h;have e:Zl (ev F c) (Zdc ks) U st=aa (d,st'):=e;unfold Zl at e;split at e
 .rename_i y st1 v
  obtain⟨ds,rfl,_⟩:=XY M v;have e:(if ks.length=ds.length/\(ks.Nodup/\ks≠[])/\ks.length<=15 then aa (D.dct ks ds,st1) else ab)=aa (d,st'):=e
  split at e
  .rename_i u
   cases e;intro a b s;refine N O _ _ ⟨ad,U,st,ds,_,E.mono (Ext.laid b),S.laid b,v,λvs g W k T x=>?_⟩
   have j:W a=aa (.dK []):=k.dk a [] upd_same;have m:∀ {l:Li (Key×V)} (kvs:Li (Li Key×V)),HO.dK l≠.dT kvs:=λ_ z=>nomatch z
   have r:ks.length=vs.length:=by rw[x.length];exact u.1
   have n:a∉g:=λz=>by
    rcases k.new a z with z|z
    .obtain⟨i,I⟩:=dI.mp z
     rcases S.has I with⟨o,q⟩|⟨o,q⟩
     .rw[b]at q;cases q
     .exact s o q
    .rw[upd_same]at z;cases z
   refine⟨j,(ks.zip vs).map λp=>((Sum.inr p.1:Key),p.2),by rw[bQ];rfl,by rw[aD,List.length_zip];omega,?_⟩
   rw[W1 _ [] (λ_ _ q C=>nomatch C) (Ws u.2.1.1),eE]
   exact p _ g _ ((((Ext.laid b).trans k)).wrK m j b) (T.wrK m j n) (.dct upd_same rfl u.2.1 r (x.wrK m j))
  .exact Zb e
 .exact Zb e
end
variable [ClsTab]
def VR:bj "tuple"=aa (.type "tuple"):=by decide +kernel
def ZbB:bj "list"=aa (.type "list"):=by decide +kernel
def ZdX:bj "int"=aa (.type "int"):=by decide +kernel
def ZbA:bj "bool"=aa (.type "bool"):=by decide +kernel
def ZdZ:bj "str"=aa (.type "str"):=by decide +kernel
def WN:bj "isinstance"=aa (.builtin "isinstance"):=by decide +kernel
def QX:bj "sorted"=aa (.builtin "sorted"):=by decide +kernel
def ZdW:bj "all"=aa (.builtin "all"):=by decide +kernel
def ZdY:bj "len"=aa (.builtin "len"):=by decide +kernel
variable{as:Li az}{ap cp:Pos}{m:Str}
variable{G:Gs}
section
def Zo(G:Gs)(F:Nat->Fn)(n:Nat):Prop:=∀ X sc N,Cxt X G F sc N->∀ e c,cE G n sc N e=aa c->SE X F e c
def Yv(G:Gs)(F:Nat->Fn)(n:Nat):Prop:=∀ X sc N,Cxt X G F sc N->∀ es c,cEs G n sc N es=aa c->PA X es (tA X.K (ev F c))/\Jj c/\es.all Zg=ae/\(es=[]->c=.aN)
def Vc(G:Gs)(F:Nat->Fn)(n:Nat):Prop:=∀ X sc N,Cxt X G F sc N->∀ e c,cO G n sc N e=aa c->PO X e (tO X.K (ev F c))
def Za4{v:Const}{k:Nat}{c:CE}(h:CE.ofConst v=aa c):SE X F (.Constant v k pos) c:=by
 cases v with
 |none=>cases h;exact .of (Zh pe_non (V8 λ_ _=>.non))
 |bool b=>cases h;exact .of (Zh pe_bl (V8 λ_ _=>.bl b))
 |int i=>cases h;exact .of (Zh pe_int (V8 λ_ _=>.int i))
 |str x=>cases h;exact .of (Zh pe_str (V8 λ_ _=>.str x))
 |_=>exact Zb h
def ZcF{x:Str}{c:CE}(K:Cxt X G F sc N)(h:Zas G sc N x=aa c):SE X F (.Name x pos) c:=by
 unfold Zas at h;split at h
 .rename_i a
  cases q:N.idxOf? x with
  |none=>rw[q]at h;cases h
  |some i=>
   rw[q]at h;cases h;obtain⟨j,g⟩:=Vp a;exact .of (Zh (pe_var (i:=i) (by rw[K.hN];exact Xl q) (K.vis x a) j g) Zb8)
 .split at h
  .rename_i b
   split at h
   .rename_i d q
    cases h;obtain⟨v,u,e,r,f⟩:=K.gl x _ q;exact .of (Zh (pe_glob (K.glb x b) e r (Xv b)) (V8 f))
   .exact Zb h
  .exact Zb h
def pa1{a:az}{t:TE}(b:Zg a=ae)(c:PE X a t):PA X [a] (tCons t tNil):=pa_cons c pa_nil (Ze b)
def pa2{a b:az}{t u:TE}(d:Zg a=ae)(c:Zg b=ae)(f:PE X a t)(e:PE X b u):PA X [a,b] (tCons t (tCons u tNil)):=pa_cons f (pa1 c e) (Ze d)
def Zcy{f:Str}{a:az}{x c:CE}{p:Pos}(K:Cxt X G F sc N)(i:ZA sc f=ae)(d:X.mg f=ab)(b:Zg a=ae)(A:PE X a (tE X.K (ev F x)))(h:ZdV f x=aa c) :
  PE X (.Call (.Name f p) [a] [] pos) (tE X.K (ev F c)):=by 
 have g:=K.glb f i;unfold ZdV at h;split at h
 .rename_i e;subst e;cases h
  exact Zh (pe_callB QY g d ZdY (pa1 b A) (by decide) (by decide) (Ze b) rfl) Y1
 .split at h
  .rename_i e;subst e;cases h
   exact Zh (pe_callTy VU g d VR (pa1 b A) (by decide) (by decide) (Ze b) rfl) Y1
  .split at h
   .rename_i e;subst e;cases h
    exact Zh (pe_callTy UI g d ZbB (pa1 b A) (by decide) (by decide) (Ze b) rfl) Y1
   .split at h
    .rename_i e;subst e;cases h
     exact Zh (pe_callB (ZaT Zfb K.calm) g d ZdW (pa1 b A) (by decide) (by decide) (Ze b) rfl) Y1
    .split at h
     .rename_i e;subst e;cases h
      exact Zh (pe_callB (UH K.calm) g d QX (pa1 b A) (by decide) (by decide) (Ze b) rfl) Y1
     .exact Zb h
def Zb5{K:Fg}(O:L2.St)(H:Hp)(Q:VK)(h:tE K (Zl fa (rsD af)) O H Q):ZfU K (tE K fa) (tE K (ev F (.neg (.c (.int 1))))) O H Q:=by
 obtain⟨ad,U,st,d,st',E,S,e,p⟩:=h;unfold Zl at e;split at e
 .rename_i x st1 n
  refine⟨ad,U,st,x,st1,E,S,n,λw f z j t s=>⟨f,U,st1,.int (-1),st1,E.mono j,t,rfl,λv b y i g r=>⟨r.ofInt,?_⟩⟩⟩
  unfold rsD at e;split at e
  .split at e
   .rename_i c u o
    cases e;obtain⟨a,rfl,q⟩:=(s.mono i).ofLst;obtain⟨ys,m,sq⟩:=g.list q o;refine⟨a,ys,rfl,sq,λl k=>p.later (j.trans i) _ (b++[l]) _ (Ext.push k) (g.push k (V2 m)) (.newL ?_)⟩
    rw[<-g.len];exact Zt
   .exact Zb e
  .exact Zb e
 .exact Zb e
def ZdP{b:az}(a:Zg b=ae):(backTo pos (bh [b] X.env)).any (·.1)=af:=XF (by rw[cA,a];rfl)
def Zcz{f:Str}{a b:az}{x y c:CE}{p:Pos}(K:Cxt X G F sc N)(i:ZA sc f=ae)(g:X.mg f=ab)(e:Zg a=ae)(d:Zg b=ae)(A:PE X a (tE X.K (ev F x)))(B:PE X b (tE X.K (ev F y)))(h:Zff f x y=aa c):PE X (.Call (.Name f p) [a,b] [] pos) (tE X.K (ev F c)):=by cases h
def ZbW{K:Fg}{T:Ty}(O:L2.St)(H:Hp)(Q:VK)(h:tE K (Zl fa (Zab T)) O H Q) :
  tCB (λvs H Q=>∃ v,vs=[v,.ty (tyN T)]/\rC K (on1 (Zab T)) [v] H Q) (tCons (tE K fa) (tCons (tC (.ty (tyN T))) tNil)) O H Q:=by
 obtain⟨ad,U,st,d,st',E,S,e,p⟩:=h;unfold Zl at e;split at e
 .rename_i x st1 f
  exact⟨ad,U,st,x,st1,E,S,f,λc a j b i g=>⟨c,rfl,a,st1,[x],d,st',i,.cons g .nil,e,p.later b⟩⟩
 .exact Zb e
def Zbg{b:az}{T:Ty}(K:Cxt X G F sc N)(h:QP G sc b=aa T):Zg b=ae/\PE X b (tC (.ty (tyN T))):=by
 cases b with
 |Name t p=>
  have a:ZeW G sc t=aa T:=h;clear h;unfold ZeW at a;split at a
  .rename_i f
   rw[Ba]at f;have c:X.mg t=ab:=by
    have z:=f.2;unfold Qw at z;split at z
    .rename_i q;exact K.gl t _ q
    .cases z
   have d:=K.glb t f.1;refine⟨rfl,?_⟩;unfold ZfW at a;split at a
   .rename_i e;subst e;cases a
    exact pe_bltn d c ZdX rfl
   .split at a
    .rename_i e;subst e;cases a
     exact pe_bltn d c ZbA rfl
    .split at a
     .rename_i e;subst e;cases a
      exact pe_bltn d c ZdZ rfl
     .split at a
      .rename_i e;subst e;cases a
       exact pe_bltn d c VR rfl
      .exact Zb a
  .exact Zb a
 |_=>simp[QP]at h
def ZeG{a b:az}{x:CE}{T:Ty}{p:Pos}(K:Cxt X G F sc N)(f:ZA sc "isinstance"=ae)(e:X.mg "isinstance"=ab)(d:Zg a=ae)(A:PE X a (tE X.K (ev F x)))(g:QP G sc b=aa T) :
  PE X (.Call (.Name "isinstance" p) [a,b] [] pos) (tE X.K (ev F (.isi T x))):=by
 obtain⟨c,B⟩:=Zbg K g;exact Zh (pe_callB (JA (T:=T)) (K.glb _ f) e WN (pa2 d c A B) (by decide) (by decide) (Ze d) (ZdP c)) ZbW
def ZcB{f:Str}{d:CE}{a:Nat}{p:Pos}(K:Cxt X G F sc N)(c:ZA sc f=ae)(u:G.lookup f=aa (.fn i a ds))(y:as.length<=a/\a<=as.length+ds.length)(A:PA X as (tA X.K (ev F d))/\Jj d/\as.all Zg=ae/\(as=[]->d=.aN)):PE X (.Call (.Name f p) as [] pos) (tE X.K (ev F (.call i d (ds.drop (as.length+ds.length - a))))):=by
 obtain⟨k,fa,fd,x,r,m,n,o,t⟩:=K.gl f _ u;obtain⟨v,w,q,l,b⟩:=t (as.length+ds.length - a) (by omega)
 obtain⟨j,_,g,s⟩:=A;cases as with
 |nil=>
  refine Zh (pe_call0 (E:=E0) r m (K.glb f c) n o b l pass0 (Xv c)) λO H Q h=>?_
  rw[s rfl]at h;exact Wo O H _ (V9 (E:=E0) q O H Q h)
 |cons e es=>
  rw[cA,Ba]at g;exact Zh (pe_call (E:=E0) r m (K.glb f c) n o b l pass0 j (Xv c) (Ze g.1) (XF g.2)) (V9 q)
def Zd6{nm:Str}{b:az}(K:Cxt X G F sc N)(h:fnA G sc nm b=aa as):∃ p pos,b=.Call (.Name nm p) as [] pos/\Gl X nm/\X.mg nm=ab:=by
 obtain⟨q,a,g⟩:=gC.mp h;refine Xz g λe f=>?_
 obtain⟨rfl,d,c⟩:=e;cases f;unfold Zda at a;split at a
 .cases a
  refine⟨_,_,rfl,K.glb _ d,?_⟩;unfold Qw at c;split at c
  .rename_i q;exact K.gl _ _ q
  .cases c
 .cases a
def Zcn{a:az}(h:Zep as=aa a):as=[a]:=by
 cases as with
 |nil=>exact Zb h
 |cons x as=>cases as with
  |nil=>cases h;rfl
  |cons _ _=>exact Zb h
def WS{b:az}(K:Cxt X G F sc N)(h:ZJ G sc b=aa e):∃ p pos,b=.Call (.Name "range" p) [e] [] pos/\Gl X "range"/\X.mg "range"=ab:=by
 obtain⟨as,a,c⟩:=gC.mp h;rw[Zcn c]at a;exact Zd6 K a
def ZeE{a b:az}{x y:CE}{c:Bool}(K:Cxt X G F sc N)(g:ZJ G sc b=aa e)(d:Zea op=aa c)(f:Zg e=ae)(A:PE X a (tE X.K (ev F x)))(B:PE X e (tE X.K (ev F y))):SE X F (.Compare a [op] [b] pos) (.inR c x y):=by cases d
def ZeI{f:Str}{a:az}{o:Ot CE}{c:CE}{p:Pos}(K:Cxt X G F sc N)(g:ZA sc f=ae)(d:X.mg f=ab)(b:Qd G sc f a=aa e)(B:∀ c,o=aa c->Zg e=ae/\PE X e (tE X.K (ev F c)))(h:o.map CE.tupR=aa c):SE X F (.Call (.Name f p) [a] [] pos) c:=by cases b
def rLk(K:Fg)(A:Ad)(ks:Li Str)(ds:Li D):R2:=λx y H Q=>x=.ref A/\∃ k d,y=.str k/\Z5 ks ds k=aa d/\∀ v,(∀ ad H,Den K ad H v d)->Q v H
def Zfx{A:Ad}{o:Obj}{es:Array DictEntry}{f:Nat}(lk:X.K.lookup A=aa o)(ex:o.ExactDict)(hd:o.data=.dict es f)(B:(A==bu)=af)(nd:ks.Nodup)(r:EsOk X.w.params X.K es.toList ks ds):IxR X (rLk X.K A ks ds):=by
 intro a slice pQ s O H x y v u Q I i g h p;obtain⟨rfl,k,d,rfl,c,q⟩:=h;cases i;obtain⟨kvs,j,l,m,val⟩:=r.open (P:=X.prog);have dd:s.heap.DictOf (mixKind X.prog X.w) A kvs:=by
  refine⟨o,es,f,I.kIn A o lk,ex,hd,λe c=>m e (by simpa using c),j,?_⟩
  rw[l];exact eI.mpr (nd.imp λh z=>h (Sum.inr.inj z))
 obtain⟨w,z,n,b,t⟩:=val k d c;exact tail_any dd.typeIs PySem.F.slot_dict_getitem.lookup (wpAny_getItem_of (kV_is (k:=Sum.inr k) g) dd.mapOf n ⟨z,H,I.tok _,b,q z t⟩) p
def JY{K:Fg}{A:Ad}(O:L2.St)(H:Hp)(Q:VK)(h:tE K (Zl fa (Zam ks ds)) O H Q):tOp (rLk K A ks ds) (tC (.ref A)) (tE K fa) O H Q:=by
 obtain⟨ad,U,st,d,st',E,S,e,p⟩:=h;unfold Zl at e;split at e
 .rename_i x st1 f
  unfold Zam at e;split at e
  .rename_i k
   split at e
   .rename_i m g
    cases e;exact⟨ad,U,st,.str k,_,E,S,f,λv a b c l j=>⟨rfl,k,d,j.ofStr,g,λw i=>p w a b c l (i a b)⟩⟩
   .exact Zb e
  .exact Zb e
 .exact Zb e
def ZcE{f:Str}{a u v:az}{x y:CE}{p:Pos}(K:Cxt X G F sc N)(e:ZA sc f=ae)(d:X.mg f=ab)(b:UU G sc f a=aa (u,v))(hu:Zg u=ae)(c:Zg v=ae)(A:PE X u (tE X.K (ev F x)))(B:PE X v (tE X.K (ev F y))):PE X (.Call (.Name f p) [a] [] pos) (tE X.K (ev F (.lstR x y))):=by cases b
def ZcD{a b:az}{y:CE}(K:Cxt X G F sc N)(c:QB G sc a=aa (ks,ds))(g:Zg b=ae)(B:PE X b (tE X.K (ev F y))):PE X (.Subscript a b pos) (tE X.K (ev F (.look ks ds y))):=by
 unfold QB at c;split at c
 .split at c
  .rename_i d
   split at c
   .rename_i q
    cases c;obtain⟨A,o,es,k,h,lk,ex,i,f,e,j⟩:=K.gl _ _ q;exact Zh (pe_ix (Zfx lk ex i f e j) (pe_glob (K.glb _ d) h (show RelV (.ref A) (.ref A) from rfl) (Xv d)) B (Uf g)) JY
   .exact Zb c
  .exact Zb c
 .exact Zb c
def ZfH:V->Li V->Hp->VK->Prop:=λx vs H Q=>∃ p kvs k a,x=.ref p/\vs=[kV k,a]/\H p=aa (.dK kvs)/\Q ((valV kvs k).getD a) H
def Zem:MtM X "dict.get" ZfH:=by
 intro pQ s O H x vs v r Q I g rv h;obtain⟨p,kvs,k,n,rfl,rfl,l,q⟩:=h;cases g;obtain⟨t,f,rfl,j,i⟩:=rv.two;obtain⟨o,m,e,d,dd⟩:=dk_of I.hok l;refine call_meetsIn PySem.F.slot_dict_get dd.typeIs PySem.F.entry_dict_get (PySem.F.args_dict_get_3 _ _ _) (meets_dict_get_default (mixKind X.prog X.w) p (kV_is j) m f) ⟨_,dd.mapOf,?_⟩;have a:=d.val k;cases b:valV kvs k with
 |none=>
  cases c:valueAt e k with
  |none=>rw[b]at q;exact⟨n,H,I.tok _,i,q⟩
  |some w=>rw[b,c]at a;exact a.elim
 |some z=>
  cases c:valueAt e k with
  |none=>rw[b,c]at a;exact a.elim
  |some w=>rw[b]at q;rw[b,c]at a;exact⟨z,H,I.tok _,a,q⟩
def JR{s fd:Ev}(O:L2.St)(H:Hp)(Q:VK)(h:tE X.K (Yz fa s fd getD) O H Q):tBM X.K "dict" ZfH (tE X.K fa) (tCons (tE X.K s) (tCons (tE X.K fd) tNil)) O H Q:=by
 obtain⟨ad,U,st,d,st',E,S,e,p⟩:=h;unfold Yz at e;split at e
 .rename_i x st1 I
  split at e
  .rename_i y b G
   split at e
   .rename_i z C F
    unfold getD at e;split at e
    .rename_i ks vs k
     cases e;refine⟨ad,U,st,_,st1,E,S,I,λZ r H1 i V t=>?_⟩
     obtain⟨a,W,rfl,J,hl,D⟩:=t.ofDct;refine⟨.inr (.inr (.inl ⟨rfl,.inl ⟨_,J⟩⟩)),r,U,st1,_,b,E.mono i,V,G,λY q H2 g T R=>⟨q,U,b,_,_,E.mono (i.trans g),T,F,λB c w f v P=>?_⟩⟩
     obtain⟨a',A,M,m,l,j⟩:=(t.mono (g.trans f)).ofDct;cases M;have L:=(R.mono f).ofStr;refine⟨a,_,Sum.inr k,B,rfl,by rw[L];rfl,m,?_⟩
     rcases Xy (k:=k) j l with⟨u,d0,o,n,N⟩|⟨o,n⟩
     .rw[o]
      rw[n]at p;exact p _ c w (i.trans (g.trans f)) v N
     .rw[o]
      rw[n]at p;exact p _ c w (i.trans (g.trans f)) v P
    .exact Zb e
   .exact Zb e
  .exact Zb e
 .exact Zb e
def ZcC{ks:Li (Ot az)}{vs:Li az}{a b:az}{x y z:CE}{f:Pos}(K:Cxt X G F sc N)(c:(ap.endLine==cp.line)=ae)(e:Zg a=ae)(d:Zg b=ae)(D:PE X (.Dict ks vs f) (tE X.K (ev F x)))(A:PE X a (tE X.K (ev F y)))(B:PE X b (tE X.K (ev F z))) :
  PE X (.Call (.Attribute (.Dict ks vs f) "get" ap) [a,b] [] cp) (tE X.K (ev F (.dget x y z))):=by
 refine Zh (pe_bm PySem.F.plainAttrs_dict PySem.F.slot_dict_get PySem.F.type_dict_get Zem D (pa2 e d A B) rfl ?_ c (Ze e) (ZdP d)) JR;rw[Ze e,Ze d];rfl
def ZeD{u:Str}{a b:az}{x y z:CE}{up:Pos}(K:Cxt X G F sc N)(c:(ap.endLine==cp.line)=ae)(e:Zg a=ae)(d:Zg b=ae)(D:PE X (.Name u up) (tE X.K (ev F x)))(A:PE X a (tE X.K (ev F y)))(B:PE X b (tE X.K (ev F z))) :
  PE X (.Call (.Attribute (.Name u up) "get" ap) [a,b] [] cp) (tE X.K (ev F (.dgN x y z))):=by
 refine Zh (pe_bm PySem.F.plainAttrs_dict PySem.F.slot_dict_get PySem.F.type_dict_get (QE (by have:=K.hu;omega)) D (pa2 e d A B) rfl ?_ c (Ze e) (ZdP d)) ZbV
 rw[Ze e,Ze d];rfl
def ZeC{u:Str}{a:az}{x y:CE}{up:Pos}(K:Cxt X G F sc N)(b:(ap.endLine==cp.line)=ae)(d:Zg a=ae)(D:PE X (.Name u up) (tE X.K (ev F x)))(A:PE X a (tE X.K (ev F y))) :
  PE X (.Call (.Attribute (.Name u up) "get" ap) [a] [] cp) (tE X.K (ev F (.dgN x y (.c .non)))):=
 Zh (pe_bm PySem.F.plainAttrs_dict PySem.F.slot_dict_get PySem.F.type_dict_get (QE (by have:=K.hu;omega)) D (pa1 d A) rfl (by rw[Ze d];rfl) b (Ze d) rfl) ZbU
def ZfK{p:az×az}{x y z:CE}(K:Cxt X G F sc N)(d:∀ e c,cE G n sc N e=aa c->PE X e (tE X.K (ev F c)))(a:QI keys=aa p)(h:cE G n sc N p.1=aa x)(g:cE G n sc N p.2=aa y)(f:(Zco vals).bind (cE G n sc N)=aa z)(j:Zg p.1=ae)(i:Zg p.2=ae) :
  PE X (.Dict keys vals pos) (tE X.K (ev F (.dd x y z))):=by
 obtain⟨e,b,k⟩:=gC.mp f;obtain rfl:vals=[e]:=by
  unfold Zco at b;split at b
  .cases b;rfl
  .exact Zb b
 unfold QI at a;split at a
 .unfold W2 at a
  split at a
  .obtain rfl:=aw a
   exact Zh (ZfD (by have:=K.hu;omega) (pe_tup (pa2 j i (d _ x h) (d _ y g))) (d e z k)) Zd8
  .exact Zb a
 .exact Zb a
def ZeF{a b:az}{x:CE}{l:Li Nat}{p:Pos}(K:Cxt X G F sc N)(f:ZA sc "isinstance"=ae)(e:X.mg "isinstance"=ab)(d:Zg a=ae)(A:PE X a (tE X.K (ev F x)))(c:UJ G sc b=aa l) :
  PE X (.Call (.Name "isinstance" p) [a,b] [] pos) (tE X.K (ev F (.isc l x))):=by cases c
section
open PySem.SeqAt PySem.MeetsSeq PySem.MeetsSeq2 PySem.MeetsSeq3 PySem.SeqRoads2
end
def Zca{y:CE}(h:Zed y=ae):y=.neg (.c (.int 1)):=by
 unfold Zed at h;split at h
 .rfl
 .cases h
def U6{b:az}{p:Ot az×Ot az}(q:X8 b=aa p):∃ a,b=.Slice p.1 p.2 ab a:=by
 unfold X8 at q;split at q
 .cases q;exact⟨_,rfl⟩
 .exact Zb q
def ZaV{b s:az}(q:QL b=aa s):∃ a,b=.Slice ab ab (aa s) a:=by
 unfold QL at q;split at q
 .cases q;exact⟨_,rfl⟩
 .exact Zb q
def ZfL{op:UnaryOp}{a:az}{o:Ot CE}{c:CE}(A:∀ x,o=aa x->SE X F a x)(h:unC op o=aa c):SE X F (.UnaryOp op a pos) c:=by
 cases op with
 |Not=>exact Wz (P:=SE X F _) (show o.map CE.not=aa c from h) λx b=>⟨Zh (pe_not (A x b).pe) J0,WB (pt_not (A x b).pt) JZ⟩
 |USub=>exact Wz (P:=SE X F _) (show o.map CE.neg=aa c from h) λx b=>.of (Zh (pe_un Zc1 (A x b).pe) J6)
 |Invert=>exact Wz (P:=SE X F _) (show o.map CE.inv=aa c from h) λx b=>.of (Zh (pe_un Zc0 (A x b).pe) J6)
 |_=>exact Zb h
section
variable {X:Cx}{sc:bo}{N:Li Str}{n:Nat}{c:CE} (K:Cxt X G F sc N) (hf:∀ e c,cE G n sc N e=aa c->SE X F e c)
include K hf
def ZeB{a:az}{d:Li CmpOp}{bs:Li az}(h:Zfj G sc (cE G n sc N) (cE G n sc N a) d bs=aa c):SE X F (.Compare a d bs pos) c:=by
 cases d with
 |nil=>exact Zb h
 |cons op d=>cases bs with
  |nil=>cases d with
   |nil=>exact Zb h
   |cons _ r=>cases r<;>cases h
  |cons b bs=>cases d with
   |nil=>cases bs with
    |cons _ _=>exact Zb h
    |nil=>
     replace h:(match ZJ G sc b with
      |some e=>o3 CE.inR (Zea op) (cE G n sc N a) (cE G n sc N e)
      |none=>o2 (CE.cmp op) (cE G n sc N a) (cE G n sc N b))=aa c:=h
     cases i:ZJ G sc b with
     |some e=>
      rw[i]at h;exact Xm (P:=SE X F _) h λl x y k g f=>ZeE K i k (Zd f) (hf a x g).pe (hf e y f).pe
     |none=>
      rw[i]at h;exact ZO (P:=SE X F _) h λx y g f=>⟨Zh (pe_cmpR (QG K.hu) (hf a x g).pe (hf b y f).pe (XV (Zd f))) Vl,WB (pt_cmpR (QG K.hu) (hf a x g).pe (hf b y f).pe (XV (Zd f))) λO H Q q=>Vl O H _ (J5 O H Q q)⟩
   |cons j d=>exact Zb h
omit K in
def ZcA{op:BoolOp}{vs:Li az}{pos:Pos}(h:Zc9 (cE G n sc N) op pos vs=aa c):SE X F (.BoolOp op vs pos) c:=by
 cases vs with
 |nil=>exact Zb h
 |cons a r=>cases r with
  |nil=>
   have A:=hf a c h;refine⟨pe_one A.pe,?_⟩;cases op with
   |And=>exact(pw_and1 A.pt).pt
   |Or=>exact(pw_or1 A.pt).pt
  |cons b r=>cases op with
   |And=>exact ZO (P:=SE X F _) (show o2 CE.and (cE G n sc N a) (cE G n sc N (.BoolOp .And (b :: r) pos))=aa c from h) λx y e d=>⟨Zh (pe_and (hf a x e).pe (hf _ y d).pe) JO,WB (pw_and (hf a x e).pt (Up (hf _ y d).pt)).pt JN⟩
   |Or=>exact ZO (P:=SE X F _) (show o2 CE.or (cE G n sc N a) (cE G n sc N (.BoolOp .Or (b :: r) pos))=aa c from h) λx y e d=>⟨Zh (pe_or (hf a x e).pe (hf _ y d).pe) Zb1,WB (pw_or (hf a x e).pt (Up (hf _ y d).pt)).pt Zb0⟩
def ZeH(e:Vc G F n){a b:az}(h:ZeU G sc (cE G n sc N) (cO G n sc N) a b=aa c):SE X F (.Subscript a b pos) c:=by
 unfold ZeU at h;cases q:X8 b with
 |some p=>
  obtain⟨lo,t⟩:=p;rw[q]at h;obtain⟨j,rfl⟩:=U6 q;exact Xm (P:=SE X F _) h λx l u f r m=>.of (Zh (pe_slice Zg3 (hf a x f).pe (e X sc N K lo l r) (e X sc N K t u m)) Q8)
 |none=>
  rw[q]at h;dsimp only at h;cases g:QL b with
  |some s=>
   rw[g]at h;obtain⟨j,rfl⟩:=ZaV g;exact j_e h λh=>ZO (P:=λo=>o=aa c->SE X F _ c) h (λx y f d h=>Xz h λk h=>by
    cases h;rw[Zca k]at d;exact .of (Zh (Zeu (hf a x f).pe (hf s _ d).pe) Zb5)) rfl
  |none=>
   rw[g]at h;dsimp only at h;cases i:QB G sc a with
   |some p=>
    obtain⟨ks,ds⟩:=p;rw[i]at h;exact Wz (P:=SE X F _) h λy d=>.of (ZcD K i (Zd d) (hf b y d).pe)
   |none=>
    rw[i]at h;exact ZO (P:=SE X F _) h λx y f d=>.of (Zh (pe_ix (Zgc K.hu) (hf a x f).pe (hf b y d).pe (Uf (Zd d))) Vl)
def Za1{f:Str}{a:az}{p:Pos}(i:ZA sc f=ae)(d:X.mg f=ab)(h:Jx G sc f a (cE G n sc N)=aa c):SE X F (.Call (.Name f p) [a] [] pos) c:=by
 unfold Jx at h;cases j:Qd G sc f a with
 |some e=>
  rw[j]at h;exact ZeI K i d j (λc l=>⟨Zd l,(hf e c l).pe⟩) h
 |none=>
  rw[j]at h;dsimp only at h;cases g:UU G sc f a with
  |some q=>
   obtain⟨u,v⟩:=q;rw[g]at h;exact ZO (P:=SE X F _) h λx y b k=>.of (ZcE K i d g (Zd b) (Zd k) (hf u x b).pe (hf v y k).pe)
  |none=>
   rw[g]at h;exact j_e h λh=>Wz (P:=λo=>o=aa c->SE X F _ c) h (λx b h=>.of (Zcy K i d (Zd b) (hf a x b).pe h)) rfl
def Za2{f:Str}{a b:az}{p:Pos}(i:ZA sc f=ae)(e:X.mg f=ab)(h:Jy G sc f a b (cE G n sc N)=aa c):SE X F (.Call (.Name f p) [a,b] [] pos) c:=by
 unfold Jy at h;by_cases k:f = "isinstance"
 .subst k
  rw[aq rfl]at h;cases g:UJ G sc b with
  |some l=>
   rw[g]at h;exact Wz (P:=SE X F _) h λx q=>.of (ZeF K i e (Zd q) (hf a x q).pe g)
  |none=>
   rw[g]at h;exact ZO (P:=SE X F _) h λx T d m=>.of (ZeG K i e (Zd d) (hf a x d).pe m)
 .rw[ar k]at h
  exact j_e h λh=>ZO (P:=λo=>o=aa c->SE X F _ c) h (λx y d j h=>.of (Zcz K i e (Zd d) (Zd j) (hf a x d).pe (hf b y j).pe h)) rfl
def Za3(j:Yv G F n){f:Str}{p:Pos}(h:Jz G sc f as (cEs G n sc N as) (cE G n sc N)=aa c):SE X F (.Call (.Name f p) as [] pos) c:=by
 unfold Jz at h;cases d:ZA sc f with
 |false=>rw[d]at h;cases h
 |true=>
 rw[d,aq rfl]at h;cases e:G.lookup f with
 |none=>rw[e]at h;cases h
 |some g=>
  rw[e]at h;cases g with
  |fn i q ds=>exact Xz h λm h=>Wz (P:=SE X F _) h λo k=>.of (ZcB K d e m (j X sc N K as o k))
  |blt=>
   have l:X.mg f=ab:=K.gl f _ e;cases as with
   |nil=>exact Zb h
   |cons a as=>cases as with
    |nil=>exact Za1 K hf d l h
    |cons b as=>cases as with
     |nil=>exact Za2 K hf d l h
     |cons _ _=>exact Zb h
  |_=>exact Zb h
def Zcx(p:Yv G F n){k:az}(h:Zc8 G k m ap as pos (cEs G n sc N as) (cE G n sc N)=aa c):SE X F (.Call (.Attribute k m ap) as [] pos) c:=by
 cases k with
 |Dict ks vs r=>cases as with
  |nil=>exact Zb h
  |cons a as=>cases as with
   |nil=>exact Zb h
   |cons b as=>cases as with
    |cons _ _=>exact Zb h
    |nil=>
     refine Xz h λg h=>Xm (P:=SE X F _) h λx y z e l d=>?_
     obtain⟨rfl,f⟩:=g;exact .of (ZcC K f (Zd l) (Zd d) (hf _ x e).pe (hf a y l).pe (hf b z d).pe)
 |Name y q=>
  refine Xz h λg h=>?_
  by_cases i:m = "pop"
  .subst i
   rw[aq rfl]at h;cases as with
   |nil=>exact Wz (P:=SE X F _) h λx e=>.of (Zh (pe_bm0 PySem.F.plainAttrs_list PySem.F.slot_list_pop PySem.F.type_list_pop mt_pop (hf _ x e).pe rfl g.1) Zb2)
   |cons a as=>cases as with
    |cons _ _=>exact Zb h
    |nil=>exact ZO (P:=SE X F _) h λx z e d=>.of (Zh (pe_bm PySem.F.plainAttrs_list PySem.F.slot_list_pop PySem.F.type_list_pop mt_popAt (hf _ x e).pe (pa1 (Zd d) (hf a z d).pe) rfl (by rw[Ze (Zd d)];rfl) g.1 (Ze (Zd d)) rfl) J2)
  .rw[ar i]at h
   by_cases j:m = "get"
   .subst j
    rw[aq rfl]at h;cases as with
    |nil=>exact Zb h
    |cons a as=>cases as with
     |nil=>exact ZO (P:=SE X F _) h λx z e d=>.of (ZeC K g.1 (Zd d) (hf _ x e).pe (hf a z d).pe)
     |cons b as=>cases as with
      |cons _ _=>exact Zb h
      |nil=>exact Xm (P:=SE X F _) h λx u z e o d=>.of (ZeD K g.1 (Zd o) (Zd d) (hf _ x e).pe (hf a u o).pe (hf b z d).pe)
   .rw[ar j]at h
    exact nomatch h
 |_=>exact Zb h
end
def U9(H:Zo G F n)(j:Yv G F n)(E:Vc G F n)(u:∀ X sc N,Cxt X G F sc N->∀ o gens i pos c,cE G (n+1) sc N (.ListComp o gens i pos)=aa c->SE X F (.ListComp o gens i pos) c):Zo G F (n+1):=by
 intro X sc N K e c h;have g:=H X sc N K;have no:∀ {P:Prop},(ab:Ot CE)=aa c->P:=λz=>nomatch z
 cases e with
 |Constant v k pos=>exact Za4 h
 |Name x pos=>exact ZcF K h
 |BinOp a op b pos=>exact ZO (P:=SE X F _) (show o2 (CE.bin op) (cE G n sc N a) (cE G n sc N b)=aa c from h) λx y s r=>.of (Zh (pe_op Zcp (g a x s).pe (g b y r).pe) Vl)
 |UnaryOp op a pos=>exact ZfL (g a) h
 |Compare a L bs pos=>exact ZeB K g h
 |BoolOp op vs pos=>exact ZcA g h
 |IfExp t a b pos=>exact Xm (P:=SE X F _) (show o3 CE.ife (cE G n sc N t) (cE G n sc N a) (cE G n sc N b)=aa c from h) λz x y l s r=>⟨Zh (pe_ifExp (g t z l).pt (g a x s).pe (g b y r).pe) Zd9,Zev (g t z l).pt (g a x s).pt (g b y r).pt⟩
 |Tuple es k pos=>
  refine Wz (P:=SE X F _) (show(cEs G n sc N es).map CE.tupE=aa c from h) λx q=>?_
  obtain⟨A,C,_,_⟩:=j X sc N K es x q;exact .of (Zh (pe_tup A) (Zb7 (λU st ds st' e=>by obtain⟨w,z,l⟩:=XY C e;cases z;exact l) λU st d st' e=>by obtain⟨w,z,l⟩:=XY C e;exact⟨w,z⟩))
 |List es pos=>
  refine Wz (P:=SE X F _) (show(cEs G n sc N es).map CE.lstE=aa c from h) λx q=>?_
  obtain⟨A,C,_,_⟩:=j X sc N K es x q;exact .of (Zh (pe_lst A) (ZbY λU st ds st' e=>by obtain⟨w,z,l⟩:=XY C e;cases z;exact l))
 |Dict keys vals pos=>cases keys with
  |nil=>cases vals with
   |nil=>cases h;exact .of (Zh pe_dnewT JS)
   |cons _ _=>exact Zb h
  |cons B keys=>
   have h:(match QI (B :: keys) with
    |some p=>o3 .dd (cE G n sc N p.1) (cE G n sc N p.2) ((Zco vals).bind (cE G n sc N))
    |none=>og ((B :: keys).length=vals.length/\(B :: keys)≠[]/\(B :: keys).length<=15) (o2 CE.dict (ZG (B :: keys)) (cVs (cE G n sc N) vals)))=aa c:=h
   split at h
   .rename_i p I
    exact Xm (P:=SE X F _) h λx y z s r l=>.of (ZfK K (λe c h=>(g e c h).pe) I s r l (Zd s) (Zd r))
   .exact Xz h λJ h=>ZO (P:=SE X F _) h λks Q I M=>.of (ZaK (λe c h=>(g e c h).pe) I M J.1 J.2.1 J.2.2)
 |Subscript a b pos=>exact ZeH K g E h
 |Call f as D pos=>cases D with
  |cons _ _=>exact no h
  |nil=>cases f with
   |Attribute O m ap=>exact Zcx K g j h
   |Name f p=>exact Za3 K g j h
   |_=>exact no h
 |ListComp o gens i pos=>exact u X sc N K o gens i pos c h
 |_=>exact no h
def Uv(a:Zo G F n)(b:Yv G F n):Yv G F (n+1):=by
 intro X sc N K es c h;cases es with
 |nil=>
  simp only[cEs]at h;cases h;exact⟨ZaG pa_nil Wo,trivial,rfl,λ_=>rfl⟩
 |cons e es=>
  refine ZO (P:=λc=>PA X _ (tA X.K (ev F c))/\Jj c/\_/\(_->c=.aN)) (show o2 CE.aC (cE G n sc N e) (cEs G n sc N es)=aa c from h) λx r d f=>?_
  obtain⟨A,i,g,_⟩:=b X sc N K es r f;exact⟨ZaG (pa_cons (a X sc N K e x d).pe A (Ze (Zd d))) WZ,trivial,by rw[cA,g,Zd d];rfl,λz=>nomatch z⟩
def Uw(b:Zo G F n):Vc G F (n+1):=by
 intro X sc N K e c h;cases e with
 |none=>
  simp only[cO]at h;cases h;exact ZaN po_none ZbZ
 |some e=>
  simp only[cO]at h;cases q:cE G n sc N e with
  |none=>rw[q]at h;cases h
  |some x=>
   rw[q]at h;cases h;refine ZaN (po_some (b X sc N K e x q).pe) λO H Q g=>?_
   obtain⟨ad,U,st,d,st',E,S,a,p⟩:=g;have a:Zl (ev F x) Ul U st=aa (d,st'):=a;unfold Zl at a;split at a
   .rename_i y st1 f
    cases y with
    |int i=>
     cases a;rcases p with⟨z,_⟩|⟨j,z,p⟩
     .cases z
     .cases z
      exact⟨ad,U,st,.int i,_,E,S,f,λv ad' H' x l k=>⟨i,k.ofInt,p ad' H' x l⟩⟩
    |_=>simp[Ul]at a
   .exact Zb a
end
variable [ClsTab]
variable{α β:Type}
def b_e{P:Prop}{o:Ot α}{f:α->Ot β}{c:β}(h:o.bind f=aa c)(k:∀ x,o=aa x->f x=aa c->P):P:=by
 cases o with
 |none=>exact Zb h
 |some x=>exact k x rfl h
def Zdu{s:Stmt}{t u:TS}(b:PS X s t)(a:PS X s u):PS X s (λD O H=>t D O H\/u D O H):=λpQ s O H D I q=>q.elim (b pQ s O H D I) (a pQ s O H D I)
variable{l:Nat}
def XX{a:Ot az}(h:Y2 e=af):swapsWith e a l env=pure af:=by
 cases e<;>first|rfl|cases h
variable{tg:az}
def YN(h:Y2 e=af):swapsWithSole [tg] e l env=pure af:=XX h
def We{o k:az}{p:Pos}(h:Zg k=ae):∀ v,assign (.Subscript o k p) env v=(do
   let a <-holding [v] (eval o env)
   let b <-holding [v,a] (eval k env)
   standAt p
   holding [v,a,b] (setItem a b v)
   release [v,a,b] []):=by
 cases k<;>first | (intro _;rfl)|cases h
def WI{o k:az}{p:Pos}:swappedStores [.Subscript o k p] e env=pure ab:=by
 cases e<;>rfl
def Z2(h:Zg e=ae):∀ x,foldedSetIterable e env x=pure x:=by
 cases e<;>first | (intro _;rfl)|cases h
structure CxtS(X:Cx)(G:Gs)(F:Nat->Fn)(sc:bo)(N:List Str):Prop extends Cxt X G F sc N where
 nd:N.Nodup
 loc:∀ x∈N,Loc X.env.scope x
 fn:∀ x,X.fn x=ae
variable{it elt:az}{gens:Li Comprehension}{sc2:bo}{tp p2 p3:Pos}{ctx j:Nat}{h':bq}
section
def UB(G:Gs)(F:Nat->Fn)(n:Nat):Prop:=∀ X sc N,CxtS X G F sc N->∀ s c,cS G n sc N s=aa c->PS X s (tS X.K (ex F c))
def ZK(G:Gs)(F:Nat->Fn)(n:Nat):Prop:=∀ X sc N,CxtS X G F sc N->∀ s c,cSs G n sc N s=aa c->PSs X s (tS X.K (ex F c))
def Vk{x:Str}(h:N.idxOf? x=aa i):x∈N:=aW (Xl h)
def Yu{x:Str}{p:Pos}(K:CxtS X G F sc N)(h:N.idxOf? x=aa i):PG X (.Name x p) (gName i):=
 pg_name (by rw[K.hN];exact K.nd) (by rw[K.hN];exact Xl h) (K.loc x (Vk h)) (.inl (K.fn x))
def XR(K:CxtS X G F sc N):PassesOwn (bf X.prog X.w) X.A X.env X.xe:=by
 rw[K.nx];exact PassesOwn.never
def QJ{x:Str}{p:Pos}(K:Cxt X G F sc N)(a:Xw sc x=ae)(b:N.idxOf? x=aa i):PE X (.Name x p) (tVar i):=
 pe_var (by rw[K.hN];exact Xl b) (K.vis _ a) (Vp a).1 (Vp a).2
def XW{a:az}{x:CE}(K:Cxt X G F sc N)(h:ZJ G sc it=aa a)(b:Zg a=ae)(A:PE X a (tE X.K (ev F x))):Zg it=ae/\PI X tg it (iRng1 (tCons (tE X.K (ev F x)) tNil)):=by
 obtain⟨_,_,rfl,d,c⟩:=WS K h;exact⟨rfl,pi_range1 d c (pa1 b A) (Ze b)⟩
def Wc(G:Gs)(F:Nat->Fn)(n:Nat):Prop:=∀ X sc N,CxtS X G F sc N->∀ (x:Str) (i:Nat) (p:Pos) elt gens sc2 epos (pos:Pos) c,N.idxOf? x=aa i->cE G n sc N (.ListComp elt gens sc2 epos)=aa c->
 swapsWith (.ListComp elt gens sc2 epos) (aa (.Name x p)) pos.line X.env=pure ae->PS X (.Assign [.Name x p] (.ListComp elt gens sc2 epos) pos) (tAsg (tE X.K (ev F c)) (gName i))
def Qa{epos p:Pos}{x:Str}:∃ b:Bool,swapsWith (.ListComp elt gens sc2 epos) (aa (.Name x p)) l env=pure b:=⟨_,rfl⟩
def Zaw{c:CE}(h:cE G n sc N e=aa c):Y2 e=af\/∃ elt gens sc2 a,e=.ListComp elt gens sc2 a:=by
 cases n with
 |zero=>exact nomatch (show(ab:Ot CE)=aa c from h)
 |succ n=>cases e<;>first|exact .inl rfl|exact .inr ⟨_,_,_,_,rfl⟩|exact nomatch (show(ab:Ot CE)=aa c from h)
def ZeL(a:Zo G F n)(o:Wc G F n)(K:CxtS X G F sc N){c:CS}{x:Str}{p:Pos}(h:o2 CS.set (N.idxOf? x) (cE G n sc N e)=aa c):PS X (.Assign [.Name x p] e pos) (tS X.K (ex F c)):=by
 refine ZO (P:=λc=>PS X _ (tS X.K (ex F c))) h λi y f d=>?_
 have g:∀ j,PS X (.Assign [.Name x p] e pos) (tAsg (tE X.K (ev F y)) (gName i)):=λj=>ps_set (by rw[K.hN];exact K.nd) (by rw[K.hN];exact Xl f) (K.loc _ (Vk f)) (a X sc N K.toCxt _ y d).pe j (.inl (K.fn _))
 rcases Zaw d with m|⟨elt,gens,sc2,epos,rfl⟩
 .exact ZB (g (XX m)) Vm
 .obtain⟨b,k⟩:=Qa (elt:=elt) (gens:=gens) (sc2:=sc2) (epos:=epos) (p:=p) (x:=x) (l:=pos.line) (env:=X.env)
  cases b with
  |false=>exact ZB (g k) Vm
  |true=>exact ZB (o X sc N K _ i p elt gens sc2 epos pos y f d k) Vm
def WJ{a:Li az}{k:Nat}(h:Ue e=af):swappedStores [.Tuple a k tp] e env=pure ab:=by
 cases e with
 |Tuple=>cases h
 |_=>rfl
def ZcQ(a:Zo G F n)(K:CxtS X G F sc N){c:CS}{x y:Str}{p:Pos}(h:og ((Y2 e||Ue e)=af) (o3 (λi j c=>og (i≠j) (aa (CS.set2 i j c))) (N.idxOf? x) (N.idxOf? y) (cE G n sc N e)).join=aa c):PS X (.Assign [.Tuple [.Name x p,.Name y p2] ctx tp] e pos) (tS X.K (ex F c)):=by
 refine Xz h λb h=>j_e h λh=>Xm (P:=λo=>o=aa c->PS X _ (tS X.K (ex F c))) h (λi j k g f d h=>Xz h λ_ h=>?_) rfl
 cases h;rw[fC]at b;exact ZB (ps_asg (a X sc N K.toCxt _ k d).pe (pg_tup K.calm (pgs_cons (Yu K g) (pgs_cons (Yu K f) pgs_nil))) (YN b.1) (WJ b.2)) J3
def ZcR(a:Zo G F n)(K:CxtS X G F sc N){c:CS}{x y z:Str}{p:Pos}(h:og ((Y2 e||Ue e)=af) (o3 (λi j (p:Nat×CE)=>CS.set3 i j p.1 p.2) (N.idxOf? x) (N.idxOf? y) (o2 Prod.mk (N.idxOf? z) (cE G n sc N e)))=aa c):PS X (.Assign [.Tuple [.Name x p,.Name y p2,.Name z p3] ctx tp] e pos) (tS X.K (ex F c)):=by
 refine Xz h λb h=>Xm (P:=λc=>PS X _ (tS X.K (ex F c))) h λi j q m k f=>ZO (P:=λq=>PS X _ (tS X.K (ex F (.set3 i j q.1 q.2)))) f λl o g d=>?_
 rw[fC]at b;exact ZB (ps_asg (a X sc N K.toCxt _ o d).pe (pg_tup K.calm (pgs_cons (Yu K m) (pgs_cons (Yu K k) (pgs_cons (Yu K g) pgs_nil)))) (YN b.1) (WJ b.2)) J4
def ZeJ(a:Zo G F n)(K:CxtS X G F sc N){c:CS}{f:Str}{d:Pos}{b:Li Keyword}(h:(cE G n sc N (.Call (.Name f d) as b cp)).map CS.act=aa c):PS X (.Expr (.Call (.Name f d) as b cp) pos) (tS X.K (ex F c)):=by
 obtain⟨g,e,rfl⟩:=eQ.mp h;exact ZB (ps_expr (a X sc N K.toCxt _ g e).pe rfl) ZbQ
def ZaH{k a b:az}(h:W2 k=aa (a,b)):∃ c p,k=.Tuple [a,b] c p:=by
 unfold W2 at h;split at h
 .cases h;exact⟨_,_,rfl⟩
 .exact Zb h
def ZeM(d:Zo G F n)(K:CxtS X G F sc N){c:CS}{x:Str}{k:az}{p q:Pos}(h:ZfF sc N x k e (cE G n sc N)=aa c):PS X (.Assign [.Subscript (.Name x p) k q] e pos) (tS X.K (ex F c)):=
 Xz h λl h=>by
 cases o:W2 k with
 |some u=>
  rw[o]at h;obtain⟨a,b⟩:=u;obtain⟨_,_,rfl⟩:=ZaH o;refine Xm (P:=λc=>PS X _ (tS X.K (ex F c))) h λ_ j y r f m=>?_
  exact ZO (P:=λj:CE×CE=>PS X _ (tS X.K (ex F (.dput _ j.1 j.2 y)))) f λt s i g=>ZB (ps_asg (d X sc N K.toCxt _ y m).pe (pg_sub (QJ K.toCxt l.2.2 r) (pe_tup (pa_cons (d X sc N K.toCxt _ t i).pe (pa_cons (d X sc N K.toCxt _ s g).pe pa_nil (Ze (Zd g))) (Ze (Zd i)))) (set_dT (by have:=K.toCxt.hu;omega)) (We rfl)) (YN l.1) WI) JT
 |none=>
 rw[o]at h;exact Xm (P:=λc=>PS X _ (tS X.K (ex F c))) h λ_ j y r f m=>ZB (ps_asg (d X sc N K.toCxt _ y m).pe (pg_sub (QJ K.toCxt l.2.2 r) (d X sc N K.toCxt _ j f).pe set_list (We (Zd f))) (YN l.1) WI) Zb3
def ZeN(a:Zo G F n)(K:CxtS X G F sc N){c:CS}(h:(cE G n sc N e).map CS.ret=aa c):PS X (.Return (aa e) pos) (tS X.K (ex F c)):=
 Wz (P:=λc=>PS X _ (tS X.K (ex F c))) h λx q=>ZB (ps_ret (a X sc N K.toCxt _ x q).pe) Zb4
def ZfM(f:Zo G F n)(d:ZK G F n)(K:CxtS X G F sc N){c:CS}{a b:Li Stmt}(h:o3 CS.ite (cE G n sc N e) (cSs G n sc N a) (cSs G n sc N b)=aa c):PS X (.If e a b pos) (tS X.K (ex F c)):=
 Xm (P:=λc=>PS X _ (tS X.K (ex F c))) h λk m l g j i=>ZB (ps_if (f X sc N K.toCxt _ k g).pt (d X sc N K _ m j) (d X sc N K _ l i)) ZbX
def ZcL(d:Yv G F n)(a:ZK G F n)(K:CxtS X G F sc N){c:CS}{x:Str}{b:Li Stmt}{p:Pos}(e:XS G sc it=aa as)(h:o3 CS.for3 (N.idxOf? x) (cEs G n sc N as) (cSs G n sc N b)=aa c):PS X (.For (.Name x p) it b [] pos) (tS X.K (ex F c)):=by cases e
def ZcJ(e:Zo G F n)(d:ZK G F n)(K:CxtS X G F sc N){c:CS}{x:Str}{b:Li Stmt}{p:Pos}(h:(match ZJ G sc it with
   |some a=>o3 (λi c b=>CS.for1 i ae c b) (N.idxOf? x) (cE G n sc N a) (cSs G n sc N b)
   |none=>o3 (λi c b=>CS.for1 i af c b) (N.idxOf? x) (cE G n sc N it) (cSs G n sc N b))=aa c):PS X (.For (.Name x p) it b [] pos) (tS X.K (ex F c)):=by
 cases k:ZJ G sc it with
 |some a=>
  rw[k]at h;refine Xm (P:=λc=>PS X _ (tS X.K (ex F c))) h λi r j f q g=>?_
  obtain⟨o,m⟩:=XW K.toCxt k (Zd q) (e X sc N K.toCxt a _ q).pe;exact ZB (ps_for (XR K) K.calm m (Yu K f) (d X sc N K _ j g) (Z2 o)) JW
 |none=>
  rw[k]at h;refine Xm (P:=λc=>PS X _ (tS X.K (ex F c))) h λi r j f q g=>?_
  have A:=(e X sc N K.toCxt _ _ q).pe;have l:=Z2 (env:=X.env) (Zd q);exact ZB (Zdu (ps_for (XR K) K.calm (pi_tup A) (Yu K f) (d X sc N K _ j g) l) (ps_for (XR K) K.calm (pi_list A) (Yu K f) (d X sc N K _ j g) l)) JV
section
variable{prog:bg}{w:br}{A:bv}{E:vL->Sd->Prop}{s:Sd}
open Sem (wp)
open AutoSeq1 (wpAny_loadPart')
end
structure ZD(z TI TO i1 i2:Addr):Prop where
 a:TI≠z
 b:TO≠z
 c:i1≠z
 d:i2≠z
 e:TI≠TO
 f:TI≠i1
 g:TI≠i2
 h:TO≠i1
 i:TO≠i2
 j:i1≠i2
section
variable{prog:bg}{w:br}{A:bv}{s:Sd}{z TI TO i1 i2:Ad}{x y a b:vL}{S1 S2:bq->Prop}
open Builtin.SmallTypes
def KB(l:Li Ad)(h h':bq):Prop:=∀ c o,c∉l->h.get? c=aa o->h'.get? c=aa o
def KB.of{l:Li Ad}{p:Ad}{h:bq}(k:Heap.SameBut p h h')(m:p∈l):KB l h h':=λc o n e=>k.extBut c o (λq=>n (q ▸ m)) e
def KB.trans{l:Li Ad}{d b a:bq}(x:KB l d b)(y:KB l b a):KB l d a:=λc o n e=>y c o n (x c o n e)
end
structure ZSt(z TI TO i1 i2 a b:Addr)(i:Nat)(h:bq):Prop where
 hz:IsZip h z TI TO .none
 hI:IsPair h TI (.ref i1) (.ref i2)
 hO:∃ u v,IsPair h TO u v
 h1:h.IsTupleIter i1 a i
 h2:h.IsTupleIter i2 b i
section
variable{X:Cx}{z TI TO i1 i2 a b:Ad}{i:Nat}{pQ:Li (Ad×Obj)}{s:Sd}{O:L2.St}{H:Hp}{E:vL->Sd->Prop}
end
section
variable{prog:bg}{w:br}{A:bv}{E:vL->Sd->Prop}{s:Sd}
open Sem (wp)
open AutoSeq1 (wpAny_loadPart')
end
def Za5(d:Zo G F n)(a:ZK G F n)(K:CxtS X G F sc N){c:CS}{b:Li Stmt}(h:o2 CS.whl (cE G n sc N e) (cSs G n sc N b)=aa c):PS X (.While e b [] pos) (tS X.K (ex F c)):=
 ZO (P:=λc=>PS X _ (tS X.K (ex F c))) h λi j f g=>ZB (ps_while (XR K) (d X sc N K.toCxt _ i f).pt (a X sc N K _ j g)) Q9
def ZcP(d:Yv G F n)(a:ZK G F n)(K:CxtS X G F sc N){c:CS}{x y:Str}{b:Li Stmt}{p:Pos}(g:N.idxOf? x=aa i)(f:N.idxOf? y=aa j)(e:Wb G sc it=aa as)(h:o2 (CS.forP i j) (cEs G n sc N as) (cSs G n sc N b)=aa c):PS X (.For (.Tuple [.Name x p,.Name y p2] ctx tp) it b [] pos) (tS X.K (ex F c)):=by cases e
def ZcO(d:Zo G F n)(a:ZK G F n)(K:CxtS X G F sc N){c:CS}{x y:Str}{b:Li Stmt}{p:Pos}(k:N.idxOf? x=aa i)(g:N.idxOf? y=aa j)(f:X3 G sc it=aa e)(h:o2 (CS.forE i j) (cE G n sc N e) (cSs G n sc N b)=aa c):PS X (.For (.Tuple [.Name x p,.Name y p2] ctx tp) it b [] pos) (tS X.K (ex F c)):=by cases f
def ZcM(d:Zo G F n)(a:ZK G F n)(K:CxtS X G F sc N){c:CS}{x y z:Str}{b:Li Stmt}{p:Pos}(h:o3 (λ(p:Nat×Nat) (q:Nat×CE) b=>CS.for4 p.1 p.2 q.1 q.2 b) (o2 Prod.mk (N.idxOf? x) (N.idxOf? y)) (o2 Prod.mk (N.idxOf? z) (cE G n sc N it)) (cSs G n sc N b)=aa c):PS X (.For (.Tuple [.Name x p,.Name y p2,.Name z p3] ctx tp) it b [] pos) (tS X.K (ex F c)):=
 Xm (P:=λc=>PS X _ (tS X.K (ex F c))) h λu v f t s o=>ZO (P:=λu:Nat×Nat=>PS X _ (tS X.K (ex F (.for4 u.1 u.2 v.1 v.2 f)))) t λi j m k=>ZO (P:=λv:Nat×CE=>PS X _ (tS X.K (ex F (.for4 i j v.1 v.2 f)))) s λl r g e=>
  ZB (Zdu (ps_for (XR K) K.calm (pi_tup (d X sc N K.toCxt _ r e).pe) (pg_tup K.calm (pgs_cons (Yu K m) (pgs_cons (Yu K k) (pgs_cons (Yu K g) pgs_nil)))) (a X sc N K _ f o) (Z2 (Zd e))) (ps_for (XR K) K.calm (pi_list (d X sc N K.toCxt _ r e).pe) (pg_tup K.calm (pgs_cons (Yu K m) (pgs_cons (Yu K k) (pgs_cons (Yu K g) pgs_nil)))) (a X sc N K _ f o) (Z2 (Zd e)))) JU
def ZcK(d:Zo G F n)(a:ZK G F n)(K:CxtS X G F sc N){c:CS}{x y:Str}{b:Li Stmt}{p:Pos}(g:N.idxOf? x=aa i)(f:N.idxOf? y=aa j)(h:o2 (CS.for2 i j) (cE G n sc N it) (cSs G n sc N b)=aa c):PS X (.For (.Tuple [.Name x p,.Name y p2] ctx tp) it b [] pos) (tS X.K (ex F c)):=by
 refine ZO (P:=λc=>PS X _ (tS X.K (ex F c))) h λm o k l=>?_
 exact λpQ s O H D I q=>by
  obtain⟨_,_,_,_,_,_,_,e,_⟩:=ZP q;cases e
def ZeK(b:Zo G F n)(K:CxtS X G F sc N){c:CS}{x:Str}{p:Pos}(h:Zfd sc N x m ap cp (cE G n sc N e)=aa c):PS X (.Expr (.Call (.Attribute (.Name x p) m ap) [e] [] cp) pos) (tS X.K (ex F c)):=by
 refine Xz h λd h=>?_
 by_cases j:m = "append"
 .subst j
  rw[aq rfl]at h;exact ZO (P:=λc=>PS X _ (tS X.K (ex F c))) h λi y f a=>ZB (ps_expr (pe_bm PySem.F.plainAttrs_list PySem.F.slot_list_append PySem.F.type_list_append mt_append (QJ K.toCxt d.1 f) (pa1 (Zd a) (b X sc N K.toCxt _ y a).pe) rfl (by rw[Ze (Zd a)];rfl) d.2 (Ze (Zd a)) rfl) rfl) ZbR
 .rw[ar j]at h
  by_cases g:m = "extend"
  .subst g
   rw[aq rfl]at h;exact ZO (P:=λc=>PS X _ (tS X.K (ex F c))) h λi y f a=>ZB (ps_expr (pe_bm PySem.F.plainAttrs_list PySem.F.slot_list_extend PySem.F.type_list_extend mt_extend (QJ K.toCxt d.1 f) (pa1 (Zd a) (b X sc N K.toCxt _ y a).pe) rfl (by rw[Ze (Zd a)];rfl) d.2 (Ze (Zd a)) rfl) rfl) ZbT
  .rw[ar g]at h;cases h
def ZcI(d:Zo G F n)(f:Wc G F n)(K:CxtS X G F sc N){c:CS}(h:Zfe N tg e (cE G n sc N e)=aa c):PS X (.Assign [tg] e pos) (tS X.K (ex F c)):=by
 have no:∀ {P:Prop},(ab:Ot CS)=aa c->P:=λz=>nomatch z
 cases tg with
 |Name x p=>exact ZeL d f K h
 |Tuple es ctx tp=>cases es with
  |nil=>exact no h
  |cons a es=>cases a with
   |Name _ _=>cases es with
    |nil=>exact no h
    |cons b es=>cases b with
     |Name _ _=>cases es with
      |nil=>exact ZcQ d K h
      |cons g es=>cases g with
       |Name _ _=>cases es with
        |nil=>exact ZcR d K h
        |cons _ _=>exact no h
       |_=>exact no h
     |_=>exact no h
   |_=>exact no h
 |_=>exact no h
def ZcN(f:Zo G F n)(g:Yv G F n)(d:ZK G F n)(K:CxtS X G F sc N){c:CS}{b:Li Stmt}(h:Zd7 G sc N (cE G n sc N) (cEs G n sc N) tg it (cSs G n sc N b)=aa c):PS X (.For tg it b [] pos) (tS X.K (ex F c)):=by
 have no:∀ {P:Prop},(ab:Ot CS)=aa c->P:=λz=>nomatch z
 cases tg with
 |Name x p=>
  unfold Zd7 at h;cases l:XS G sc it with
  |some as=>
   rw[l]at h;exact ZcL g d K l h
  |none=>
   rw[l]at h;exact ZcJ f d K h
 |Tuple es ctx tp=>cases es with
  |nil=>exact no h
  |cons a es=>cases a with
   |Name x p=>cases es with
    |nil=>exact no h
    |cons v es=>cases v with
     |Name y p2=>cases es with
      |nil=>
       replace h:((o2 (λi j=>og (i≠j) (aa (i,j))) (N.idxOf? x) (N.idxOf? y)).join.bind λp=>(match Wb G sc it with
        |some as=>o2 (CS.forP p.1 p.2) (cEs G n sc N as) (cSs G n sc N b)
        |none=>match X3 G sc it with
         |some e=>o2 (CS.forE p.1 p.2) (cE G n sc N e) (cSs G n sc N b)
         |none=>o2 (CS.for2 p.1 p.2) (cE G n sc N it) (cSs G n sc N b)))=aa c:=h
       refine b_e h λq m h=>j_e m λm=>ZO (P:=λo=>o=aa q->PS X _ (tS X.K (ex F c))) m (λi j s r e=>Xz e λ_ e=>?_) rfl
       cases e;cases k:Wb G sc it with
       |some as=>
        rw[k]at h;exact ZcP g d K s r k h
       |none=>
        rw[k]at h;dsimp only at h;cases t:X3 G sc it with
        |some e=>
         rw[t]at h;exact ZcO f d K s r t h
        |none=>
         rw[t]at h;exact ZcK f d K s r h
      |cons u es=>cases u with
       |Name _ _=>cases es with
        |nil=>exact ZcM f d K h
        |cons _ _=>exact no h
       |_=>exact no h
     |_=>exact no h
   |_=>exact no h
 |_=>exact no h
def ZcH(a:Zo G F n)(K:CxtS X G F sc N){c:CS}{o k:az}{p:Pos}(h:og (m = "append"/\(ap.endLine==cp.line)=ae) (o2 CS.app2 (cE G n sc N (.Subscript o k p)) (cE G n sc N e))=aa c):PS X (.Expr (.Call (.Attribute (.Subscript o k p) m ap) [e] [] cp) pos) (tS X.K (ex F c)):=by
 refine Xz h λg h'=>?_
 obtain⟨i,f⟩:=g;subst i;exact ZO (P:=λc=>PS X _ (tS X.K (ex F c))) h' λz y d b=>ZB (ps_expr (pe_bm PySem.F.plainAttrs_list PySem.F.slot_list_append PySem.F.type_list_append mt_append (a X sc N K.toCxt _ z d).pe (pa1 (Zd b) (a X sc N K.toCxt _ y b).pe) rfl (by rw[Ze (Zd b)];rfl) f (Ze (Zd b)) rfl) rfl) JP
def ZcG(a:Zo G F n)(K:CxtS X G F sc N){c:CS}{v:az}(h:Zfa sc N (cE G n sc N) v=aa c):PS X (.Expr v pos) (tS X.K (ex F c)):=by
 have no:∀ {P:Prop},(ab:Ot CS)=aa c->P:=λz=>nomatch z
 cases v with
 |Call f as b cp=>cases f with
  |Attribute o m ap=>cases o with
   |Name x p=>cases as with
    |nil=>exact no h
    |cons e es=>cases es with
     |nil=>cases b with
      |nil=>exact ZeK a K h
      |cons _ _=>exact no h
     |cons _ _=>exact no h
   |Subscript o k p=>cases as with
    |nil=>exact no h
    |cons e es=>cases es with
     |nil=>cases b with
      |nil=>exact ZcH a K h
      |cons _ _=>exact no h
     |cons _ _=>exact no h
   |_=>exact no h
  |Name f d=>exact ZeJ a K h
  |_=>exact no h
 |_=>exact no h
def Ux(d:Zo G F n)(j:Yv G F n)(f:ZK G F n)(m:Wc G F n):UB G F (n+1):=by
 intro X sc N K s c h;have no:∀ {P:Prop},(ab:Ot CS)=aa c->P:=λz=>nomatch z
 cases s with
 |Assign g e pos=>cases g with
  |nil=>exact no h
  |cons t l=>cases l with
   |cons _ _=>cases t with
    |Subscript o k p=>cases o<;>exact no h
    |_=>exact no h
   |nil=>cases t with
    |Subscript o k p=>cases o with
     |Name x q=>exact ZeM d K h
     |_=>exact no h
    |_=>exact ZcI d m K h
 |Return e pos=>cases e with
  |none=>exact no h
  |some e=>exact ZeN d K h
 |If e a b pos=>exact ZfM d f K h
 |While e b i pos=>cases i with
  |cons _ _=>exact no h
  |nil=>exact Za5 d f K h
 |For t it b i pos=>cases i with
  |cons _ _=>exact no h
  |nil=>exact ZcN d j f K h
 |Expr v pos=>exact ZcG d K h
 |Pass pos=>
  cases (show aa CS.skip=aa c from h)
  exact ZB ps_pass Ub
 |Break pos=>
  cases (show aa CS.brk=aa c from h)
  exact ZB ps_break ZbS
 |Raise a b pos=>
  cases (show aa CS.stop=aa c from h)
  exact λpQ s O H D I q=>by
   obtain⟨_,_,_,_,_,_,_,e,_⟩:=ZP q;cases e
 |Continue pos=>
  cases (show aa CS.cont=aa c from h)
  exact ZB ps_continue JQ
 |_=>exact no h
def VD(e:UB G F n)(d:ZK G F n):ZK G F (n+1):=by
 intro X sc N K s c h;cases s with
 |nil=>
  simp only[cSs]at h;cases h;exact QK pss_nil Ub
 |cons s r=>
  exact ZO (P:=λc=>PSs X _ (tS X.K (ex F c))) (show o2 CS.seq (cS G n sc N s) (cSs G n sc N r)=aa c from h) λa b g f=>QK (pss_cons (e X sc N K s a g) (d X sc N K r b f)) Zb6
end
variable [ClsTab]
def YQ(G:Gs)(F:Nat->Fn):Prop:=∀ n,Zo G F n->(∀ X sc N,Cxt X G F sc N->∀ elt gens sc2 pos c,cE G (n+1) sc N (.ListComp elt gens sc2 pos)=aa c->SE X F (.ListComp elt gens sc2 pos) c)/\Wc G F (n+1)
theorem W4{G:Gs}{F:Nat->Fn}(d:YQ G F):∀ n,(Zo G F n/\Yv G F n/\Vc G F n)/\UB G F n/\ZK G F n/\Wc G F n
 |0=>⟨⟨λX sc N K e c h=>(nomatch (show(ab:Ot CE)=aa c from h)),λX sc N K e c h=>(nomatch (show(ab:Ot CE)=aa c from h)),λX sc N K e c h=>(nomatch (show(ab:Ot CE)=aa c from h))⟩,λX sc N K e c h=>(nomatch (show(ab:Ot CS)=aa c from h)),λX sc N K e c h=>(nomatch (show(ab:Ot CS)=aa c from h)),λX sc N K x i p elt gens sc2 j pos c _ h=>(nomatch (show(ab:Ot CE)=aa c from h))⟩
 |n+1=>by
  obtain⟨⟨a,g,l⟩,k,b,f⟩:=W4 d n;exact⟨⟨U9 a g l (d n a).1,Uv a g,Uw a⟩,Ux a g b f,VD k b,(d n a).2⟩
def QT(K:Fg)(G:Gs)(T:Nat->Ot FD)(x y:Str)(i:Nat)(f:Ad)(fd:bp)(pn N:Li Str):Prop:=∃ (st:Stmt) (oc:vL) (od:Ot Ad) (dV kV doc pm:vL) (an:Ot Ad) (cdv ct:vL) (osl:Array (Ot vL)) (code:CS),
  fd=W.fnOf x y (defArgs st) (defBody st) (defScope st) dV kV doc pm an cdv ct/\K.lookup f=aa ⟨oc,od,.func fd,osl⟩/\W.codeIn K cdv y=ae/\FnScope N pn (defScope st)/\(∀ y∈N,Loc (defScope st) y) /\
  cSs G 60 (defScope st) N (defBody st)=aa code/\T i=aa ⟨pn.length,N.length,code⟩
def Zbw(K:Fg)(mg:Str->Ot vL)(G:Gs)(T:Nat->Ot FD)(i:Nat)(f:Ad)(fd:bp)(pn:Li Str):Prop:=∀ (P:bg) (w:br) (base:bq) (n:Nat),(∀ m,m<=n->∀ A,Room m A->∀ y g,G.lookup y=aa g->GOk P w K mg base A (run T m) y g)->FnOk P w K mg base CX0 (n+1) f fd pn (spD K (run T (n+1) i))
structure DefOk(K:Fg)(mg:Str->Option Value)(G:Gs)(T:Nat->Option FD)(x:Str)(i:Nat)(ds:List D)(f:Addr)(fd:bp)(pn N:List Str):Prop where
 ob:QT K G T x x i f fd pn N\/Zbw K mg G T i f fd pn
 kp:W.keepIn K (.ref f)=ae
 at_:mg x=aa (.ref f)
 bn:∀ m,m<=ds.length->∃ dvs us,(∀ ad H,Dens K ad H dvs (ds.drop m))/\Vals dvs us/\Binds K fd pn us
structure MethOk(K:Fg)(G:Gs)(T:Nat->Option FD)(C:Addr)(x y:Str)(i:Nat)(f:Addr)(fd:bp)(pn N:List Str):Prop where
 ob:QT K G T x y i f fd pn N
 mt:Meth K C x f
 bn:Binds K fd pn []
structure Text(Pm:Params)(K:Fg)(mg:Str->Option Value)(G:Gs)(T:Nat->Option FD):Prop where
 cst:∀ x d,G.lookup x=aa (.c d)->∃ v u,mg x=aa u/\RelV v u/\∀ ad H,Den K ad H v d
 blt:∀ x,G.lookup x=aa .blt->mg x=ab
 dct:∀ x ks ds,G.lookup x=aa (.dct ks ds)->Ql Pm K mg x ks ds
 fn:∀ x i ps ds,G.lookup x=aa (.fn i ps ds)->∃ f fd pn N,DefOk K mg G T x i ds f fd pn N
 cls:∀ x i ms subs,G.lookup x=aa (.cls i ms subs)->(mg x=aa (.ref (ClsTab.ca i))/\NewOk K (ClsTab.ca i)/\∀ i',subs.contains i'=ae->SubOk K (ClsTab.ca i') (ClsTab.ca i)) /\
  ∀ m j ps,ms.lookup m=aa (j,ps)->∃ y f fd pn N,MethOk K G T (ClsTab.ca i) m y j f fd pn N
variable{pn:Li Str}
variable{P:bg}{w:br}{K:Fg}{mg:Str->Ot vL}{base:bq}{T:Nat->Ot FD}
def Zbh{x:Str}(h:Xw sc x=ae):Vis sc x:=by
 unfold Xw at h;rw[Ba]at h;have h:=h.2;split at h
 .rename_i q;exact .inl q
 .rename_i q;exact .inr (.inl q)
 .rename_i q;exact .inr (.inr q)
 .cases h
def Qs{x:Str}(h:ZA sc x=ae):sc.names.lookup x=aa .globalImplicit:=by
 unfold ZA at h;rw[Ba]at h;have h:=h.2;split at h
 .rename_i q;exact q
 .cases h
def Qn{x:Str}(h:Wp sc x=ae):sc.names.lookup x=aa .cell\/sc.names.lookup x=aa .free:=by
 unfold Wp at h;split at h
 .rename_i q;exact .inl q
 .rename_i q;exact .inr q
 .cases h
def Q5(h:Dens K ad H vs ds)(j:ds.length<=N.length):EnvOk K ad H (L2.start N vs) (ds.map aa++ag (N.length - ds.length) ab):=by
 have e:=h.length;refine⟨by unfold L2.start;simp[e],λi d q=>?_⟩
 by_cases a:i < ds.length
 .rw[bP (by simpa using a),bA,Lg a]at q
  have b:ds[i]=d:=by simpa using q
  have g:ds[i]?=aa d:=by rw[Lg a,b]
  obtain⟨v,f,c⟩:=h.get g;refine⟨v,?_,c⟩;unfold L2.start;rw[bP (by simpa[e] using a),bA,f]
  rfl
 .rw[bD (by simpa using a),fZ]at q
  split at q<;>cases q
def Zeq{n:Nat}(L:∀ n,YQ G (run T n))(gl:∀ A,Room n A->∀ y g,G.lookup y=aa g->GOk P w K mg base A (run T n) y g){x y:Str}{f:Ad}{fd:bp}(J:QT K G T x y i f fd pn N):FnOk P w K mg base CX0 (n+1) f fd pn (spD K (run T (n+1) i)):=by
 obtain⟨st,oc,Y,Z,kV,O,X,an,v,ct,I,l,rfl,lk,u,S,k,c,M⟩:=J;have a:run T (n+1) i=fnD (run T n) ⟨pn.length,N.length,l⟩:=by
  show(match T i with|some f=>fnD (run T n) f|none=>λ_ _=>ab)=_
  rw[M]
 refine fn_of lk u S (λvs H Q E h=>?_) (λA b s H vs Q E z h=>?_)
 .obtain⟨ad,es,st,d,st',_,t,e,_⟩:=h
  rw[a]at e;unfold fnD at e;split at e
  .rename_i r
   rw[t.length];exact r
  .exact Zb e
 .obtain⟨ad,es,W,d,st',S0,t,e,p⟩:=h
  rw[a]at e;unfold fnD at e;split at e
  .rename_i r
   have C:CxtS (cxOf CX0 P w K mg base N y (defScope st) f v A b s H E).nox G (run T n) (defScope st) N:={
    hN:=rfl
    vis:=λy j=>Zbh j
    glb:=λy j=>Qs j
    calm:=rfl
    hu:=z.units
    gl:=gl _ z
    cel:=λy j=>Qn j
    nx:=rfl
    nd:=S.nd
    loc:=k
    fn:=λ_=>rfl }
   have B:=(W4 (L n) 60).2.2.1 _ _ _ C _ _ c;have o:pn.length<=N.length:=by have:=av List.length S.pre;rw[aV]at this;omega
   have m:=Q5 (N:=N) t (by rw[show es.length=pn.length from r];exact o)
   refine⟨_,B.nox,?_⟩;split at e
   .rename_i d' st1 q
    cases e;exact ZR m S0 q p
   .rename_i U st1 q
    cases e;exact ZR m S0 q λD R H1 F V E1=>(p.later F).at V .non
   .exact Zb e
  .exact Zb e
def Zc3{f:Ad}{fd:bp}:FnOk P w K mg base CX0 0 f fd pn (spD K (run T 0 i)):=by
 refine⟨λvs H Q E h=>?_,λA a s H b c vs Q E _ _ _ _ h=>?_⟩
 .obtain⟨_,_,_,_,_,_,_,e,_⟩:=h;cases e
 .obtain⟨_,_,_,_,_,_,_,e,_⟩:=h;cases e
def Zdf(X:Text w.params K mg G T)(k:∀ {x y:Str}{i:Nat}{f:Ad}{fd:bp}{pn N:Li Str},QT K G T x y i f fd pn N\/Zbw K mg G T i f fd pn->FnOk P w K mg base CX0 n f fd pn (spD K (run T n i)))(A:bv)(h:Room n A):∀ y g,G.lookup y=aa g->GOk P w K mg base A (run T n) y g:=λy g b=>by
 cases g with
 |c d=>exact X.cst y d b
 |blt=>exact X.blt y b
 |dct ks ds=>exact X.dct y ks ds b
 |fn j l es=>
  obtain⟨f,fd,pn,N,e⟩:=X.fn y j l es b;exact⟨n,f,fd,pn,k e.ob,h,e.at_,e.kp,e.bn⟩
 |cls i p a=>
  obtain⟨⟨u,t,s⟩,r⟩:=X.cls y i p a b;refine⟨u,t,s,λm j o q=>?_⟩
  obtain⟨z,f,fd,pn,N,Mk⟩:=r m j o q;exact⟨n,f,fd,pn,k (.inl Mk.ob),h,Mk.mt,Mk.bn⟩
theorem UD(c:∀ n,YQ G (run T n))(X:Text w.params K mg G T):∀ (n m:Nat),m<=n->∀ {x y:Str}{i:Nat}{f:Ad}{fd:bp}{pn N:Li Str},QT K G T x y i f fd pn N\/Zbw K mg G T i f fd pn->FnOk P w K mg base CX0 m f fd pn (spD K (run T m i))
 |n,0,_,_,_,_,_,_,_,_,_=>Zc3
 |n+1,m+1,h,_,_,_,_,_,_,_,.inl a=>Zeq c (λA b=>Zdf X (λa=>UD c X n m (Nat.le_of_succ_le_succ h) a) A b) a
 |n+1,m+1,h,_,_,_,_,_,_,_,.inr e=>e P w base m λl d A b=>Zdf X (λa=>UD c X n l (aJ d (Nat.le_of_succ_le_succ h)) a) A b
def ZdO(a:∀ n,YQ G (run T n))(X:Text w.params K mg G T)(n:Nat){x y:Str}{f:Ad}{fd:bp}(h:QT K G T x y i f fd pn N\/Zbw K mg G T i f fd pn):FnOk P w K mg base CX0 n f fd pn (spD K (run T n i)):=UD a X n n (aB _) h
variable [ClsTab]
variable{ys:Li V}
section
variable{xs:Li V}
def UV(b:H p=aa (.lst xs)){a:Ad}:Ye H a↔Ye (upd H p (.lst ys)) a:=WK (Wy b λ_ z=>nomatch z) λ_ z=>nomatch z
def UO{K:Fg}(a:H p=aa (.lst xs)):Keeps K ad ad H (upd H p (.lst ys)):=⟨λh=>h.upd a (by intro xs z;cases z),λh=>⟨h,UV a⟩,λ_ h=>by rw[upd_ne (ne_of h a (by intro z;cases z))];exact h,λh n=>⟨by rw[upd_ne (ne_of h a (by intro z;cases z))];exact h,n⟩⟩
def Den.wr{K:Fg}(a:H p=aa (.lst xs)){v:V}(h:Den K ad H v d):Den K ad (upd H p (.lst ys)) v d:=h.map (UO a)
def Dens.wr{K:Fg}(a:H p=aa (.lst xs))(h:Dens K ad H vs ds):Dens K ad (upd H p (.lst ys)) vs ds:=h.map (UO a)
theorem EnvOk.wr{K:Fg}(a:H p=aa (.lst xs))(h:EnvOk K ad H O U):EnvOk K ad (upd H p (.lst ys)) O U:=⟨h.len,λi d e=>let ⟨v,e1,e2⟩:=h.at_ i d e;⟨v,e1,e2.wr a⟩⟩
def StOk.wr{K:Fg}(S:StOk K ad H st)(a:H p=aa (.lst xs))(b:p∉ad):StOk K ad (upd H p (.lst ys)) st:=
 S.wrG (UO a) b
def Ext.wr{e:Hp}(x:Ext ad0 e ad H)(f:H p=aa (.lst xs))(d:e p=ab):Ext ad0 e ad (upd H p (.lst ys)):=by
 refine⟨x.pre,λb c h=>?_,λb c h=>?_,λb o h n=>?_,x.new,λi a h=>(x.kd i a h).trans (UV f)⟩
 .rw[upd_ne (ne_of_none h d)];exact x.tup b c h
 .rw[upd_ne (ne_of_none h d)];exact x.dk b c h
 .rw[upd_ne (ne_of_none h d)];exact x.keep b o h n
end
theorem Ww{c:Str->NameKind->Bool}:∀ {l:Li (Str×NameKind)}{y:Str},(l.map λ(n,k)=>if c n k=ae then (n,NameKind.cell) else (n,k)).lookup y=(l.lookup y).map λk=>if c y k=ae then NameKind.cell else k
 |[],_=>rfl
 | (n,k) :: r,y=>by
  have a:=@Ww c r y;rw[aZ];have e:(if c n k=ae then (n,NameKind.cell) else (n,k))=(n,if c n k=ae then NameKind.cell else k):=by split<;>rfl
  show List.lookup y ((if c n k=ae then (n,NameKind.cell) else (n,k)) :: _)=_
  rw[e,dD,dD];cases q:y==n with
  |true=>rw[beq_iff_eq.mp q];rfl
  |false=>exact a
def Yp{env:PySem.Env}{y:Str}:(relabel sc env).names.lookup y=(sc.names.lookup y).map λk=>if (k==NameKind.free&&env.scope.kind==.function&&env.kindOf y==aa .cell)=ae then NameKind.cell else k:=
 Ww (c:=λn k=>k==NameKind.free&&env.scope.kind==.function&&env.kindOf n==aa .cell)
def Yy{y:Str}{k:NameKind}(h:sc.names.lookup y=aa k)(a:k≠.free):(relabel sc env).names.lookup y=aa k:=by
 rw[Yp,h];have:(k==NameKind.free)=af:=by simpa using a
 show aa (if (k==NameKind.free&&_&&_)=ae then NameKind.cell else k)=aa k
 rw[this,eO,eO,ar Bf]
def YL{y:Str}(h:sc.names.lookup y=aa .free):(relabel sc env).names.lookup y=aa .cell\/(relabel sc env).names.lookup y=aa .free:=by
 rw[Yp,h];show(aa (if _ then NameKind.cell else NameKind.free))=_\/(aa (if _ then NameKind.cell else NameKind.free))=_
 split
 .exact .inl rfl
 .exact .inr rfl
def Vy{sc:bo}{y:Str}(d:∀ p∈sc.names,p.2≠.cell)(h:(relabel sc env).names.lookup y=aa .cell\/(relabel sc env).names.lookup y=aa .free):sc.names.lookup y=aa .free:=by
 rw[Yp]at h;cases q:sc.names.lookup y with
 |none=>rw[q]at h;rcases h with h|h<;>cases h
 |some k=>
  rw[q]at h;cases k with
  |free=>rfl
  |cell=>
   have:∀ {l:Li (Str×NameKind)},l.lookup y=aa .cell->∃ p∈l,p.2=.cell:=λ{l} e=>by
    induction l with
    |nil=>exact Zb e
    |cons a l c=>
     obtain⟨n,k⟩:=a;rw[dD]at e;split at e
     .cases e;exact⟨_,Ls,rfl⟩
     .obtain⟨p,b,f⟩:=c e;exact⟨p,Lm _ b,f⟩
   obtain⟨p,b,e⟩:=this q;exact au e (d p b)
  |_=>rcases h with h|h<;>simp at h
theorem Xk{env:PySem.Env}:∀ (l:Li (Str×NameKind)) (b:Li (Str×Ad)),(∀ p∈l,p.2=.free->∃ c,env.cells.lookup p.1=aa c)->
  ∃ d,(forIn l b λ(x:Str×NameKind) (r:Li (Str×Ad))=>(do
   if (x.2==NameKind.free)=ae then
    let a <-cellOf env x.1
    pure (ForInStep.yield ((x.1,a) :: r))
   else pure (ForInStep.yield r):Sem (ForInStep (Li (Str×Ad)))))=pure d /\
   (∀ y c,d.lookup y=aa c->b.lookup y=aa c\/((y,NameKind.free)∈l/\env.cells.lookup y=aa c))/\(∀ y,(y,NameKind.free)∈l\/(b.lookup y).isSome->(d.lookup y).isSome)
 |[],b,_=>⟨b,by simp only[List.forIn_nil],λy c h=>.inl h,λy h=>by simpa using h⟩
 | (n,k) :: l,b,h=>by
  by_cases m:k=.free
  .subst m
   obtain⟨t,f⟩:=h (n,.free) Ls rfl;obtain⟨d,e,s,o⟩:=Xk (env:=env) l ((n,t) :: b) λp j=>h p (Lm _ j)
   refine⟨d,?_,λy c q=>?_,λy q=>?_⟩
   .rw[List.forIn_cons]
    simp only[beq_self_eq_true,if_true];have:cellOf env n=pure t:=by unfold cellOf;rw[f]
    simp only[this,pure_bind];exact e
   .rcases s y c q with z|⟨i,g⟩
    .rw[dD]at z
     split at z
     .rename_i u
      cases z;rw[beq_iff_eq.mp u];exact .inr ⟨Ls,f⟩
     .exact .inl z
    .exact .inr ⟨Lm _ i,g⟩
   .refine o y ?_
    rcases q with q|q
    .rcases aL.mp q with z|z
     .cases z
      exact .inr (by rw[dD];simp)
     .exact .inl z
    .refine .inr ?_
     rw[dD];split
     .rfl
     .exact q
  .obtain⟨d,e,s,o⟩:=Xk (env:=env) l b λp j=>h p (Lm _ j)
   refine⟨d,?_,λy c q=>?_,λy q=>?_⟩
   .rw[List.forIn_cons]
    have:(k==NameKind.free)=af:=by simpa using m
    simp only[this,fB,if_false,pure_bind];exact e
   .rcases s y c q with z|⟨i,g⟩
    .exact .inl z
    .exact .inr ⟨Lm _ i,g⟩
   .refine o y ?_
    rcases q with q|q
    .rcases aL.mp q with z|z
     .cases z;exact au rfl m
     .exact .inl z
    .exact .inr q
def VZ{sc:bo}(h:∀ p∈sc.names,p.2=.free->∃ c,env.cells.lookup p.1=aa c):∃ a,closureFor sc env=pure a/\(∀ y c,a.lookup y=aa c->env.cells.lookup y=aa c)/\∀ y,(y,NameKind.free)∈sc.names->(a.lookup y).isSome:=by
 obtain⟨a,e,d,b⟩:=Xk (env:=env) sc.names [] h;refine⟨a,?_,λy c q=>?_,λy q=>b y (.inl q)⟩
 .unfold closureFor
  rw[show(λ(x:Str×NameKind) (r:Li (Str×Ad))=>_)=_ from rfl]at e
  first|exact(by simp only[e,pure_bind]) | (simp only[bind_pure]at *;exact e)|exact e
 .rcases d y c q with z|⟨_,z⟩
  .exact Zb z
  .exact z
variable [ClsTab]
variable{iter:az}{ifs:Li az}
def V0{prog:bg}{R:Result->Sd->Prop}{s:Sd}{a:az}{scope:bo}{it p:vL}(I:Nat->Sd->Prop)(turn:∀ n s,I n s->a9 (bf prog w) A (pyNext it) (λr g=>match r with
   |none=>R (.ok .next) g
   |some v=>a9 (bf prog w) A (letOwnedTupleGo a it v) (λ_ f=>a9 (bf prog w) A (assign a env v) (λ_ l=>
     a9 (bf prog w) A (forIn ifs ae λc r=>if r=ae then do let ok <-isTrue c env (eval c env);pure (ForInStep.yield ok) else pure (ForInStep.yield r)) (λok d=>
      if ok=ae then a9 (bf prog w) A (eval elt env) (λx k=>
       a9 (bf prog w) A (call (.builtin "list.append") [p,x]) (λ_ j=>∃ m,m < n/\I m j) (notedBy (bf prog w) A env λe i=>R (.error e) i) k) (notedBy (bf prog w) A env λe i=>R (.error e) i) d
      else ∃ m,m < n/\I m d) (notedBy (bf prog w) A env λe i=>R (.error e) i) l) (notedBy (bf prog w) A env λe i=>R (.error e) i) f) (notedBy (bf prog w) A env λe i=>R (.error e) i) g) (notedBy (bf prog w) A env λe i=>R (.error e) i) s)(n:Nat)(h:I n s):codeAny (bf prog w) A (.compLoop (.ListComp elt [⟨a,iter,ifs,0⟩] scope pos) 0 it p env) R s:=by
 refine codeAny_loop rfl I (λn s y=>?_) n h
 show a9 _ A ((compTurn (.ListComp elt [⟨a,iter,ifs,0⟩] scope pos) 0 it p env).onRaise (λx=>do noteFrame x env;theTreesLotGoes x)) _ _ s
 refine wpAny_noted ?_;rw[compTurn_list];refine aA (wpAny_standAt (aA (bZ (turn n s y) (λr g b=>?_) λ_ _ h'=>h')))
 cases r with
 |none=>exact aE b
 |some v=>
  refine aA (bZ b (λ_ f b=>?_) λ_ _ h'=>h')
  refine aA (bZ b (λ_ l u=>aA (bZ u (λok d o=>?_) λ_ _ h'=>h')) λ_ _ h'=>h')
  cases ok with
  |false=>exact aE ⟨rfl,o⟩
  |true=>
   exact aA (aA (bZ o (λx k t=>aA (bZ t (λ_ j q=>aE (aE ⟨rfl,q⟩)) λ_ _ h'=>h')) λ_ _ h'=>h'))
def cxC(X:Cx)(N:Li Str)(env:PySem.Env)(a:Sd)(c:Hp)(b:Li Ad)(pQ:Li (Ad×Obj)):Cx:=
 { X with N:=N,s₀:=a,H₀:=c,env:=env,outer:=X.stack,ex:=b,fn:=λ_=>af,pn:=X.pn++pQ,xe:=λ_ _=>False }
variable{m0:Str->Ot vL}{tk:Nat}{O':L2.St}
variable{pQ:Li (Ad×Obj)}{O:L2.St}{sc2:bo}{cl:Li (Str×Ad)}{N:Li Str}
section
variable{H3:Hp}{s3:Sd}{fp:Li Ad}
def J9(a:L2.Inv X pQ O H3 s3){G:bq}(Q:sc2.kind=.function)(f:∀ p∈sc2.names,p.2≠.cell)(E:G.Ns s3.heap.objs.size m0)(up:∀ b u,s3.heap.get? b=aa u->G.get? b=aa u)(k:∀ y c,cl.lookup y=aa c->X.env.cells.lookup y=aa c)(J:∀ y,sc2.names.lookup y=aa .free->(cl.lookup y).isSome)(s:∀ b∈fp,FpOk X pQ H3 b)(R:∀ b∈fp,b < s3.heap.objs.size)(A:∀ (i:Nat) (y:Str) (v:V),N[i]?=aa y->O'[i]?=aa (aa v)->∃ j:Nat,X.N[j]?=aa y/\O[j]?=aa (aa v)/\sc2.names.lookup y=aa .free/\(X.env.scope.names.lookup y=aa .cell\/X.env.scope.names.lookup y=aa .free))(P:O'.length=N.length) :
  L2.Inv (cxC X N (compEnvC sc2 cl s3.heap.objs.size X.env) s3 H3 fp pQ) [] O' H3 { s3 with heap:=G,toks:=tk } where
 ok:={
  mod:=a.ok.mod
  kind:=Q
  glob:=a.ok.glob
  blt:=a.ok.blt
  above:=aB _
  inj:=λx y c e U=>a.ok.inj x y c (k _ _ e) (k _ _ U)
  has:=λx h=>by
   have e:=Vy (env:=X.env) f h;have:=J x e;cases q:cl.lookup x with
   |none=>rw[q]at this;cases this
   |some c=>exact⟨c,q⟩
  cab:=λx c h=>nomatch h
  hd:=a.ok.hd
  frames:=a.ok.frames
  stk:=.inl rfl
  exf:=λb g=>⟨bE (R b g),λx c e=>(s b g).2.2.2.2.1 x c (k _ _ e)⟩
  bs:=a.bs
  bsz:=aJ a.ok.bsz a.sz
  noex:=λb o e g=>by
   rcases (s b g).2.2.2.1 with z|z
   .exact a.ok.noex b o e z
   .exact au (aT (aK e) (aJ a.ok.bsz z)) (cJ _)
  exfs:=λb g B=>by
   rcases aL.mp (a.stkSub b B) with z|z
   .exact(s b g).2.1 z
   .exact(s b g).2.2.1 z
  funs:=a.stack
  frf:=a.stkFree }
 os:=rfl
 bare:=a.bare
 base:=Un.kept up
 loc:=⟨m0,E,λi y v T S Y=>by
  obtain⟨j,g1,g2,I,H⟩:=A i y v T S;obtain⟨m,W,F⟩:=a.loc;obtain⟨u,r,l⟩:=F j y v g1 g2 (.inr H);refine⟨u,r,.inr ⟨YL I,?_⟩⟩;rcases l with⟨z,_⟩|⟨_,c,e,z⟩
  .have K:X.env.scope.names.lookup y=aa .local:=z
   rcases H with w|w<;>(rw[K]at w;cases w)
  .have q:=J y I
   cases t:cl.lookup y with
   |none=>rw[t]at q;cases q
   |some Z=>
    have:=k _ _ t;rw[e]at this;cases this
    obtain⟨o,D,hd⟩:=z;exact⟨c,t,o,up c o D,hd⟩⟩
 cell:=λy c e=>by
  obtain⟨v,o,D,hd⟩:=a.cell y c (k _ _ e);exact⟨v,o,up c o D,hd⟩
 free:=a.hok.fresh (aB _)
 freeC:=λy c e=>a.freeC y c (k _ _ e)
 pin:=λp M=>by
  have C:p∈X.pn++pQ:=by simpa[cxC] using M
  obtain⟨e,n,ne,L,d⟩:=a.pin p C;refine⟨up _ _ e,n,bE (aK e),λB=>?_,d⟩
  rcases aL.mp (a.stkSub _ B) with z|z
  .exact ne z
  .exact L z
 hok:=a.hok.kept up
 len:=P
def J8(p:L2.Inv X pQ O H3 s3){d:Li (Ad×Obj)}{H':Hp}{s':Sd}(m:env.locals=s3.heap.objs.size)(g:L2.Inv (cxC X N env s3 H3 fp pQ) d O' H' s')(sb:Heap.SameBut s3.heap.objs.size s'.heap h')(h:∀ b∈fp,FpOk X pQ H3 b):L2.Inv X pQ O H' { s' with heap:=h' }:=by
 have u:Un (frs X.stack) fp H3 H' s3.heap s'.heap:=g.base;have ne:∀ b o,s3.heap.get? b=aa o->b≠s3.heap.objs.size:=λb o e=>bE (aK e)
 have j:H' s3.heap.objs.size=ab:=by have:=g.free;rw[show(cxC X N env s3 H3 fp pQ).env.locals=s3.heap.objs.size from m]at this;exact this
 refine p.call' (s':={ s' with heap:=h' }) (ch:=fp) g.os ⟨λb o e n a f=>?_,λb o e n a f=>?_,u.free,λb o e f=>?_,u.tups,u.frzs,u.tbls⟩ (λb k e=>?_) g.bare (λb a=>?_)
 .exact(sb.2 b (ne b o e)).trans (u.keep b o e n a f)
 .obtain⟨sl,i⟩:=u.slot b o e n a f
  exact⟨sl,(sb.2 b (ne b o e)).trans i⟩
 .obtain⟨l,i⟩:=u.there b o e f
  exact⟨l,(sb.2 b (ne b o e)).trans i⟩
 .refine(g.hok b k e).stay (λc r hc q=>(sb.2 c ?_).trans q) (λ_ q=>q) λ_ _ q=>q
  rintro rfl
  rcases hc with rfl|hc
  .rw[j]at e;cases e
  .rw[j]at hc;cases hc
 .exact⟨(h b a).2.2.2.1,(h b a).2.1,(h b a).2.2.2.2.1,(h b a).2.2.2.2.2⟩
end
variable [ClsTab]
theorem WA{N:Li Str}:∀ {l:Li Str}{b:Li Nat},Y5 N l=aa b->b.length=l.length/\∀ (i:Nat) (k:Nat),b[i]?=aa k->∃ y,l[i]?=aa y/\N[k]?=aa y
 |[],b,h=>by cases h;exact⟨rfl,λi k e=>by simp at e⟩
 |x :: r,b,h=>by
  unfold Y5 at h;split at h
  .rename_i a as g f
   cases h;obtain⟨d,c⟩:=WA f;refine⟨by simp[d],λi k e=>?_⟩
   cases i with
   |zero=>simp at e;subst e;exact⟨x,rfl,Xl g⟩
   |succ i=>exact c i k (by simpa using e)
  .exact Zb h
theorem StOk.lt{s:Sd}{a:Ad}(I:L2.Inv X pQ O H s)(S:StOk X.K ad H st)(h:a∈ad):a < s.heap.objs.size:=by
 obtain⟨i,b,e⟩:=List.getElem_of_mem h;rcases S.has (show ad[i]?=aa a by rw[Lg b,e]) with⟨o,q⟩|⟨o,q⟩
 .exact I.hok.lt q
 .exact aK (I.kIn a o q)
variable{fr:Li Nat}
def JJ{K:Fg}{bs:L2.St}{b:D->Li (Ot D)}(E:EnvOk K ad H O U)(hd:EnvOk K ad H bs (b d)):EnvOk K ad H (bs++fr.map λi=>(O[i]?).join) (Yd b U fr d):=by
 refine⟨by simp[Yd,hd.len],λi e h=>?_⟩
 unfold Yd at h;by_cases a:i < (b d).length
 .rw[bP a]at h
  rw[bP (by rw[hd.len];exact a)]
  exact hd.at_ i e h
 .have a:(b d).length<=i:=fL a
  rw[bD a,bA]at h;rw[bD (by rw[hd.len];exact a),bA,hd.len]
  cases q:fr[i - (b d).length]? with
  |none=>rw[q]at h;cases h
  |some k=>
   rw[q]at h;have h:(U[k]?).join=aa e:=by simpa using h
   have c:U[k]?=aa (aa e):=by
    cases z:U[k]? with
    |none=>rw[z]at h;cases h
    |some o=>rw[z]at h;rw[show o=aa e from h]
   obtain⟨w,g,f⟩:=E.at_ k e c;exact⟨w,by simp[g],f⟩
def XD(K:Fg)(tg:az)(a:Li Str)(b:D->Li (Ot D))(ds:Li D):Prop:=
 ∀ X:Cx,X.K=K->X.calm=ae->X.N.Nodup->(∀ (i:Nat) x,a[i]?=aa x->X.N[i]?=aa x)->(∀ y∈a,X.env.scope.names.lookup y=aa .local)->∀ (pQ:Li (Ad×Obj)) (s:Sd) (os fv:L2.St) (H:Hp) (ad:Li Ad) (v:V) (u:vL) (d:D),os.length=a.length->L2.Inv X pQ (os++fv) H s->RelV v u->Den K ad H v d->d∈ds->
  a9 (bf X.prog X.w) X.A (assign tg X.env u) (λ_ c=>∃ bs,bs.length=a.length/\EnvOk K ad H bs (b d)/\L2.Inv X pQ (bs++fv) H c) X.xe s
variable{px:Pos}
def VP{K:Fg}{x:Str}:XD K (.Name x px) [x] one ds:=by
 intro X w t k f j pQ s a l H ad v u d g I r n _;obtain⟨o,rfl⟩:∃ o,a=[o]:=by match a,g with|[o],_=>exact⟨o,rfl⟩
 have b:=j x Ls;have c:PG X (.Name x px) (gName 0):=pg_name k (f 0 x rfl) (.inl b) (.inr b);refine thn (c pQ s _ H v u (λO' H'=>O'=[aa v]++l/\H'=H) I r ⟨rfl,rfl⟩) λ_ q ⟨O',H',p,e,m⟩=>?_
 subst e;subst m
 exact⟨[aa v],rfl,⟨rfl,λi e h=>by
  cases i with
  |zero=>cases h;exact⟨v,rfl,n⟩
  |succ i=>exact nomatch (show(ab:Ot (Ot D))=aa (aa e) from h)⟩,p⟩
def VQ{K:Fg}{x y:Str}{j:Pos}{k:Nat}{ds:Li D}(l:∀ d∈ds,∃ a b,d=.tup [a,b]):XD K (.Tuple [.Name x px,.Name y j] k tp) [x,y] two ds:=by
 intro X G E z t w pQ s m J H ad v u d B I r M C;obtain⟨o,g,rfl⟩:∃ o g,m=[o,g]:=by match m,B with|[o,g],_=>exact⟨o,g,rfl⟩
 obtain⟨a,b,rfl⟩:=l d C;have q:=w x Ls;have n:=w y (Lm _ Ls);have g1:PG X (.Name x px) (gName 0):=pg_name z (t 0 x rfl) (.inl q) (.inr q);have g2:PG X (.Name y j) (gName 1):=pg_name z (t 1 y rfl) (.inl n) (.inr n);have A:PG X (.Tuple [.Name x px,.Name y j] k tp) _:=pg_tup E (pgs_cons g1 (pgs_cons g2 pgs_nil))
 obtain⟨p,vs,rfl,F,rv⟩:=M.ofTup;cases rv with
 |cons O rv=>cases rv with
  |cons N rv=>
   cases rv;rename_i f c;refine thn (A pQ s _ H _ u (λO' H'=>O'=[aa f,aa c]++J/\H'=H) I r ⟨p,[f,c],rfl,by rw[G];exact F.sq,rfl,f,[c],rfl,c,[],rfl,rfl,rfl,rfl⟩) λ_ Q ⟨O',H',P,e,L⟩=>?_
   subst e;subst L
   exact⟨[aa f,aa c],rfl,⟨rfl,λi e h=>by
    cases i with
    |zero=>cases h;exact⟨f,rfl,O⟩
    |succ i=>cases i with
     |zero=>cases h;exact⟨c,rfl,N⟩
     |succ i=>exact nomatch (show(ab:Ot (Ot D))=aa (aa e) from h)⟩,P⟩
variable{cl:Li (Str×Ad)}{ce cc:CE}{bd:D->Li (Ot D)}{J:It}{tn:Nat->bq->Prop}{Good:Li Ad->Hp->Prop}{ad2:Li Ad}{H2:Hp}{use:Ot (vL->Sem Unit)}{R0:vL->Sd->Prop}{st1:Za}
variable{sc:bo}
section
variable{xs:Li Str}
def Yh(h:YX sc sc2 xs=ae):sc2.kind=.function/\(∀ p∈sc2.names,p.2≠.cell)/\(∀ x∈xs,sc2.names.lookup x=aa .local)/\(∀ p∈sc2.names,p.2=.local->sc2.names.lookup p.1=aa .local)/\(xs++ZF sc2).Nodup/\∀ y∈ZF sc2,Wp sc y=ae/\sc2.names.lookup y=aa .free:=by
 unfold YX at h;simp only[Ba,aO,bT,bV,fS,decide_eq_false_iff_not]at h;obtain⟨⟨⟨⟨⟨i,g⟩,f⟩,d⟩,c⟩,b⟩:=h;exact⟨i,g,f,λp a e=>(d p a).elim (λz=>au e z) id,c,b⟩
def mem_frees{y:Str}:y∈ZF sc2↔(y,NameKind.free)∈sc2.names:=by
 unfold ZF;rw[aQ];constructor
 .rintro⟨⟨n,k⟩,h,rfl⟩
  rw[fF]at h;have:k=.free:=ao h.2;rw[<-this];exact h.1
 .intro h
  exact⟨(y,.free),fF.mpr ⟨h,by simp⟩,rfl⟩
theorem mem_of_lookup{y:Str}{k:NameKind}:∀ {l:Li (Str×NameKind)},l.lookup y=aa k->(y,k)∈l
 |[],h=>by cases h
 | (n,q) :: l,h=>by
  rw[dD]at h;split at h
  .rename_i e
   cases h;rw[beq_iff_eq.mp e];exact Ls
  .exact Lm _ (mem_of_lookup h)
def JG(c:Cxt X G F sc N)(b:YX sc sc2 xs=ae){C:Ad}{s3:Sd}{H3:Hp}{fp:Li Ad}:Cxt (cxC X (xs++ZF sc2) (compEnvC sc2 cl C X.env) s3 H3 fp pQ) G F sc2 (xs++ZF sc2):=by
 obtain⟨i,d,h,g,f,e⟩:=Yh b;exact {
  hN:=rfl
  vis:=λy a=>by
   rcases Zbh a with z|z|z
   .exact .inl (Yy z (by intro q;cases q))
   .exact au rfl (d _ (mem_of_lookup z))
   .rcases YL (env:=X.env) z with w|w
    .exact .inr (.inl w)
    .exact .inr (.inr w)
  glb:=λy a=>Yy (Qs a) (by intro q;cases q)
  calm:=c.calm
  hu:=c.hu
  gl:=c.gl
  cel:=λy a=>by
   rcases Qn a with z|z
   .exact au rfl (d _ (mem_of_lookup z))
   .exact YL z
  nx:=rfl }
def JD{ok:Za->Prop}{f c:D->Za->Res}{xs:Li D}{r:Li D×Za}(h:Yg ok f c xs st=aa r):ok st:=by
 unfold Yg at h;split at h
 .split at h
  .assumption
  .exact Zb h
 .split at h
  .assumption
  .exact Zb h
def evB(F:Nat->Fn)(c:CE)(b:D->Li (Ot D))(U:Env)(fr:Li Nat):D->Za->Res:=λd s=>ev F c (Yd b U fr d) s
inductive CI(X:Cx)(tn:Nat->bq->Prop)(fp:List Addr)(fv O:L2.St)(U:Env)(w:Nat)(ds:List D)(go:List D->Za->Option (List D×Za))(Good:List Addr->Hp->Prop)(dd:Addr)(ad2:List Addr)(H2:Hp)(st':Za)(ys:List D)(m:Nat)(s:Shared):Prop
 |mk (i:Nat) (o0:L2.St) (H:Hp) (ad:List Addr) (st:Za) (vs:List V) (es zs:List D) (him:i+m=ds.length) (hol:o0.length=w) (I:L2.Inv X [] (o0++fv) H s) (ti:tn i s.heap) (fi:∀ b∈fp,H b=ab) (En:EnvOk X.K ad H O U) (S:StOk X.K ad H st) (Gd:Good ad H) (nd:dd∉ad) (hv:H dd=aa (.lst vs)) (rv:Dens X.K ad H vs es) (hel:es.length<=i)
  (hcp:go (ds.drop i) st=aa (zs,st')) (hys:es++zs=ys) (ex:Ext ad2 H2 ad H):CI X tn fp fv O U w ds go Good dd ad2 H2 st' ys m s
def Q3(Kx:Cxt X G F sc2 N)(ihE:Zo G F n)(hce:cE G n sc2 N elt=aa ce)(hcc:(ifs=[]/\cc=.c (.bl ae))\/∃ e,ifs=[e]/\cE G n sc2 N e=aa cc){fp:Li Ad}{it:Ad}{ok:Za->Prop}(gm:∀ ad H ad' H',Ext ad H ad' H'->Good ad H->Good ad' H')(gw:∀ ad H p xs ys,H p=aa (.lst xs)->Good ad H->Good ad (upd H p (.lst ys)))(go:∀ i ad H st,Good ad H->StOk X.K ad H st->ok st->i < ds.length->J.go i H)(stop:∀ i ad H st,Good ad H->StOk X.K ad H st->ok st->ds.length=i->J.stop i H)(yl:∀ i ad H st v H',Good ad H->StOk X.K ad H st->ok st->J.yld i H v H'->i < ds.length->Ext ad H ad H'/\StOk X.K ad H' st/\∃ d,ds[i]?=aa d/\Den X.K ad H' v d)(T:Turn X.prog X.w X.K tg J fp it tn)(B:XD X.K tg xs bd ds)(hN:X.N.Nodup)(hx:∀ (i:Nat) x,xs[i]?=aa x->X.N[i]?=aa x)(hl:∀ y∈xs,X.env.scope.names.lookup y=aa .local)(exx:X.xe=λ_ _=>False)(fpk:∀ {H:Hp},(∀ b∈fp,H b=ab)->∀ b∈fp,FpOk X [] H b){fv:L2.St}(ec:∀ {ad H bs d},EnvOk X.K ad H O U->EnvOk X.K ad H bs (bd d)->EnvOk X.K ad H (bs++fv) (Yd bd U fr d)){dd:Ad}{ys:Li D}(D0:H2 dd=ab)(hz:ds.length<=1000){R:Result->Sd->Prop}(done:∀ s5 σ5 H ad vs,L2.Inv X [] σ5 H s5->StOk X.K ad H st'->dd∉ad->H dd=aa (.lst vs)->Dens X.K ad H vs ys->Ext ad2 H2 ad H->R (.ok .next) s5){s:Sd}{m:Nat}(h0:CI X tn fp fv O U xs.length ds (Yg ok (evB F ce bd U fr) (evB F cc bd U fr)) Good dd ad2 H2 st' ys m s) :
  codeAny (bf X.prog X.w) X.A (.compLoop (.ListComp elt [⟨tg,iter,ifs,0⟩] sc2 pos) 0 (.ref it) (.ref dd) X.env) R s:=by
 refine V0 _ (λm s h=>?_) m h0
 cases h with
 |mk i o0 H ad st vs es zs him hol I ti fi En S Gd nd hv rv hel a Z ex=>
 have W:=JD a;have none_of:∀ {E:vL->Sd->Prop}{α:Type}{t:Sem α}{R:α->Sd->Prop}{s0:Sd},a9 (bf X.prog X.w) X.A t R X.xe s0->a9 (bf X.prog X.w) X.A t R E s0:=λh=>by
  rw[exx]at h;exact bZ h (λ_ _ q=>q) λ_ _ q=>q.elim
 by_cases hi:i < ds.length
 .refine thn (T.item X rfl rfl rfl Kx.calm i [] s _ H _ I (fpk fi) ti (go i ad H st Gd S W hi)) λr s5 ⟨u,hr,h5'⟩=>?_
  subst hr;refine thn h5' λ_ s6 ⟨v,H',I6,r6,y6,t6,f6⟩=>?_
  obtain⟨x6,S6,d,ed,dv⟩:=yl i ad H st v H' Gd S W y6 hi;have hd:ds.drop i=d :: ds.drop (i+1):=by
   rw[bU hi];rw[Lg hi]at ed;cases ed;rfl
  refine thn (none_of (B X rfl Kx.calm hN hx hl _ s6 o0 _ H' ad v u _ hol (I6.pinned (fpk f6) (T.obj _ _ t6)) r6 dv (aW ed))) λ_ s7 ⟨bs,lb,Eb,I7⟩=>?_
  have En6:=En.mono x6;have En7:=ec En6 Eb
  -- behind the item's turn
  have Y:∀ {M:Hp}{s9:Sd}{g:Li Ad}{st9:Za}{vs9:Li V}{es9 zs9:Li D},L2.Inv X ([]++pinsAt fp s6.heap) (bs++fv) M s9->StOk X.K g M st9->Good g M->dd∉g->M dd=aa (.lst vs9)->Dens X.K g M vs9 es9->es9.length<=i+1->
    Yg ok (evB F ce bd U fr) (evB F cc bd U fr) (ds.drop (i+1)) st9=aa (zs9,st')->es9++zs9=ys->Ext ad2 H2 g M->EnvOk X.K g M O U->
    ∃ m',m' < m/\CI X tn fp fv O U xs.length ds (Yg ok (evB F ce bd U fr) (evB F cc bd U fr)) Good dd ad2 H2 st' ys m' s9:=
   λI9 S9 G9 n9 v9 r9 l9 c9 y9 x9 e9=>
    have pk:=λb hb o e=>I9.pin (b,o) (bN _ (bN _ (mem_pinsAt hb e)))
    ⟨m - 1,by omega,.mk (i+1) bs _ _ _ _ _ _ (by omega) lb I9.unpinned (T.keep _ _ _ t6 λb hb o e=>(pk b hb o e).1) (λb hb=>let ⟨o,e,_⟩:=T.obj _ _ t6 b hb;(pk b hb o e).2.1) e9 S9 G9 n9 v9 r9 l9 c9 y9 x9⟩
  -- the L
  have L:∀ {k:Bool}{j:Za},evB F cc bd U fr d st=aa (.bl k,j)->∀ {R:Bool->Sd->Prop}{E:vL->Sd->Prop},(∀ s8 l f,L2.Inv X ([]++pinsAt fp s6.heap) (bs++fv) l s8->Ext ad H' f l->StOk X.K f l j->R k s8)->
    a9 (bf X.prog X.w) X.A (forIn ifs ae λc r=>if r=ae then do let ok <-isTrue c X.env (eval c X.env);pure (ForInStep.yield ok) else pure (ForInStep.yield r)) R E s7:=λ{k j} q {R E} hR=>by
   rcases hcc with⟨rfl,rfl⟩|⟨e,rfl,he⟩
   .cases q
    exact wpAny_tests_nil (hR s7 H' ad I7 (Ext.refl _ _) S6)
   .refine wpAny_tests_one (thn (none_of ((ihE X sc2 _ Kx e cc he).pt _ s7 _ H' (λk' l=>k'=k/\∃ f,Ext ad H' f l/\StOk X.K f l j) I7 ⟨ad,Yd bd U fr d,st,k,j,En7,S6,q,λad' H' x S'=>⟨rfl,ad',x,S'⟩⟩)) λk' s8 ⟨l,I8,e8,f,C,S8⟩=>?_)
    subst e8;exact hR s8 l f I8 C S8
  have n8:∀ {f l},Ext ad H' f l->dd∉f:=λC z=>((x6.trans C).new dd z).elim nd λw=>by rw[hv]at w;cases w
  have v8:∀ {f l},Ext ad H' f l->l dd=aa (.lst vs):=λC=>(x6.trans C).keep dd _ hv nd
  have rv6:=rv.mono x6;have ex6:=ex.trans x6;have G6:=gm _ _ _ _ x6 Gd;clear x6 En Eb ex Gd S I hv rv;rw[hd]at a;unfold Yg at a;rw[aq W]at a;split at a
  .rename_i j q1
   split at a
   .rename_i y st3 q2
    split at a
    .rename_i zs' st4 q3
     cases a;refine L q1 λs8 l f I8 C S8=>?_
     rw[aq rfl];refine thn (none_of ((ihE X sc2 _ Kx elt ce hce).pe _ s8 _ l (λv8 M=>∃ g,Ext f l g M/\StOk X.K g M st3/\Den X.K g M v8 y) I8 ⟨f,Yd bd U fr d,j,y,st3,En7.mono C,S8,q2,λv8 ad' H' x S' dn=>⟨ad',x,S',dn⟩⟩)) λu9 s9 ⟨v9,M,I9,r9,g,x9,S9,d9⟩=>?_
     have P:=C.trans x9;have Q:=v8 P;have hlen:vs.length=es.length:=rv6.length;refine thn (none_of (mt_append (X:=X) _ s9 _ M (.ref dd) [v9] (.ref dd) [u9] (λ_ H10=>H10=upd M dd (.lst (vs++[v9]))) I9 rfl (.cons r9 .nil) ⟨dd,vs,v9,rfl,rfl,Q,Nat.lt_of_le_of_lt (show vs.length<=1000 by omega) (by decide),rfl⟩)) λu10 s10 ⟨v10,H10,I10,r10,e10⟩=>?_
     subst e10;have nd9:=n8 P;exact Y (vs9:=vs++[v9]) (es9:=es++[y]) (zs9:=zs') I10 (S9.wr Q nd9) (gw _ _ _ _ _ Q (gm _ _ _ _ P G6)) nd9 upd_same (((rv6.mono P).append (.cons d9 .nil)).wr Q) (by rw[aH,fK];omega) q3 (by rw[<-Z,aM];rfl) ((ex6.trans P).wr Q D0) ((En6.mono P).wr Q)
    .exact Zb a
   .exact Zb a
  .rename_i j q1
   refine L q1 λs8 l f I8 C S8=>?_
   rw[ar Bf];exact Y I8 S8 (gm _ _ _ _ C G6) (n8 C) (v8 C) (rv6.mono C) (by omega) a Z (ex6.trans C) (En6.mono C)
  .exact Zb a
 .refine thn (T.done X rfl rfl rfl Kx.calm i [] s _ H _ I (fpk fi) ti (stop i ad H st Gd S W (by omega))) λr s5 ⟨hr,I5⟩=>?_
  subst hr;rw[List.drop_eq_nil_of_le (fL hi)]at a;unfold Yg at a;rw[aq W]at a;cases a;rw[bF]at Z;subst Z;exact done s5 _ H ad vs I5 S nd hv rv ex
def UK(Kx:Cxt X G F sc N)(ihE:Zo G F n)(P:YX sc sc2 xs=ae)(hfr:Y5 N (ZF sc2)=aa fr)(hce:cE G n sc2 (xs++ZF sc2) elt=aa ce)(hcc:(ifs=[]/\cc=.c (.bl ae))\/∃ e,ifs=[e]/\cE G n sc2 (xs++ZF sc2) e=aa cc)(c1:∀ y c,cl.lookup y=aa c->X.env.cells.lookup y=aa c)(c2:∀ y,(y,NameKind.free)∈sc2.names->(cl.lookup y).isSome){fp:Li Ad}{it:Ad}{ok:Za->Prop}(gm:∀ ad H ad' H',Ext ad H ad' H'->Good ad H->Good ad' H')(gw:∀ ad H p xs ys,H p=aa (.lst xs)->Good ad H->Good ad (upd H p (.lst ys)))(go:∀ i ad H st,Good ad H->StOk X.K ad H st->ok st->i < ds.length->J.go i H)(stop:∀ i ad H st,Good ad H->StOk X.K ad H st->ok st->ds.length=i->J.stop i H)(yl:∀ i ad H st v H',Good ad H->StOk X.K ad H st->ok st->J.yld i H v H'->i < ds.length->Ext ad H ad H'/\StOk X.K ad H' st/\∃ d,ds[i]?=aa d/\Den X.K ad H' v d){s2 s3:Sd}{dd:Ad}{h:bq}{ys:Li D}(B:XD X.K tg xs bd ds)(T:Turn X.prog X.w X.K tg J fp it tn)(t2:tn 0 s2.heap)(I:∀ b∈fp,FpOk X pQ H2 b)(fb:∀ b∈fp,b < dd)(E2:EnvOk X.K ad2 H2 O U)(S2:StOk X.K ad2 H2 st1)(g2:Good ad2 H2)(r:Yg ok (λd s=>ev F ce (Yd bd U fr d) s) (λd s=>ev F cc (Yd bd U fr d) s) ds st1=aa (ys,st'))(hz:ds.length<=1000)(hp:Post X.K ad2 H2 (.lst st'.length) (st'++[(ae,ys)]) Q)(V:∀ C dd t H5 Z,t.heap.Ns C Z->(∀ h',Heap.SameBut C t.heap h'->L2.Inv X pQ O H5 { t with heap:=h' })->FpOk X pQ H5 C->Q (.ref dd) H5->compPost (bf X.prog X.w) X.A X.xe use R0 (.ref dd) C (.ok .next) t)  (L:H2 dd=ab) (W:L2.Inv X pQ O (upd H2 dd (.lst [])) s3) (z3:s3.heap.objs.size=dd+1) (Y:dd∉ad2) (l:h.Ns s3.heap.objs.size m0) (up:∀ b u,s3.heap.get? b=aa u->h.get? b=aa u) (M:∀ b u,s2.heap.get? b=aa u->s3.heap.get? b=aa u) :
  codeAny (bf X.prog X.w) X.A (.compStart (.ListComp elt [⟨tg,iter,ifs,0⟩] sc2 pos) 0 (.ref it) (.ref dd) (compEnvC sc2 cl s3.heap.objs.size X.env)) (compPost (bf X.prog X.w) X.A X.xe use R0 (.ref dd) s3.heap.objs.size) { s3 with heap:=h,toks:=tk }:=by
 obtain⟨h1,h2,h3,h4,h5,h6⟩:=Yh P;have f3:∀ b∈fp,FpOk X pQ (upd H2 dd (.lst [])) b:=λb f=>⟨by rw[upd_ne (bE (fb b f))];exact(I b f).1,(I b f).2⟩
 obtain⟨fl,fg⟩:=WA hfr;have I4:=J9 (N:=xs++ZF sc2) (cl:=cl) (fp:=fp) (tk:=tk) (O':=ag xs.length ab++fr.map λi=>(O[i]?).join) W h1 h2 l up c1 (λy e=>c2 y (mem_of_lookup e)) f3 (λb f=>by rw[z3];exact Nat.lt_succ_of_lt (fb b f)) (λi y v e1 g=>by
  by_cases E:i < xs.length
  .rw[bP (by simpa using E),fZ,aq E]at g;cases g
  .have E:xs.length<=i:=fL E
   rw[bD (by simpa using E),bA,fI]at g
   rw[bD E]at e1;cases q:fr[i - xs.length]? with
   |none=>rw[q]at g;cases g
   |some k=>
    rw[q]at g;have g:(O[k]?).join=aa v:=by simpa using g
    have e3:O[k]?=aa (aa v):=by
     cases w:O[k]? with
     |none=>rw[w]at g;cases g
     |some o=>rw[w]at g;rw[show o=aa v from g]
    obtain⟨y',g1,g2⟩:=fg _ k q;rw[e1]at g1;cases g1
    obtain⟨k1,k2⟩:=h6 y (aW e1);exact⟨k,by rw[Kx.hN];exact g2,e3,k2,Kx.cel y k1⟩) (by simp[fl])
 have K':=JG (cl:=cl) (C:=s3.heap.objs.size) (s3:=s3) (H3:=upd H2 dd (.lst [])) (fp:=fp) (pQ:=pQ) Kx P;have m:=Q3 (R:=compPost (bf X.prog X.w) X.A X.xe use R0 (.ref dd) s3.heap.objs.size) (pos:=pos) (iter:=iter) K' ihE hce hcc gm gw go stop yl T B h5 (λi x e=>by show(xs++ZF sc2)[i]?=aa x;rw[bP (bG.mp e).1];exact e) (λy hy=>Yy (h3 y hy) (by intro q;cases q)) rfl (λ{H} hn b f=>⟨hn b f,by
  show b≠s3.heap.objs.size;rw[z3];exact bE (Nat.lt_succ_of_lt (fb b f)),λhs=>(aL.mp (W.stkSub b hs)).elim (I b f).2.1 (I b f).2.2.1,.inl f,λy c e=>(I b f).2.2.2.2.1 y c (c1 _ _ e),λp hp=>(I b f).2.2.2.2.2 p (by simpa[cxC] using hp)⟩) (O:=O) (U:=U) (fr:=fr) (λa b=>JJ a b) (dd:=dd) (ad2:=ad2) (H2:=H2) (st':=st') (ys:=ys) L hz (λt σ5 H ad vs I5 S nd hv rv ex=>by
   obtain⟨Z,hn,_⟩:=I5.loc;refine V s3.heap.objs.size dd t H Z hn (λh' sb=>J8 W rfl I5 sb f3) (W.fpOk (aB _) I5.free) (hp (.ref dd) (ad++[dd]) H ⟨λj a e=>Y7 (ex.pre j a e),ex.tup,ex.dk,ex.keep,λb f=>?_,ex.kd⟩ (S.adopt hv nd rv) (.lst ⟨by rw[<-S.len];exact Zt,Wy hv λ_ z=>nomatch z⟩))
   rcases aY.mp f with z|z
   .exact ex.new b z
   .rw[aP.mp z];exact .inr L)
  (.mk 0 (ag xs.length ab) (upd H2 dd (.lst [])) ad2 st1 [] [] ys (cI _) (fI ..) I4 (T.keep _ _ _ t2 λb _ o e=>up b o (M b o e)) (λb f=>(f3 b f).1) (E2.mono (Ext.laid L)) (S2.laid L) (gm _ _ _ _ (Ext.laid L) g2) Y upd_same .nil (aB _) r rfl (Ext.laid L))
 exact codeAny_compStart_list m (T.self X.A 0 _ _ _ (T.keep _ _ _ t2 λb _ o e=>up b o (M b o e)) m)
def Q2(Kx:Cxt X G F sc N)(x:Zo G F n)(m:YX sc sc2 xs=ae)(E:Y5 N (ZF sc2)=aa fr)(I:cE G n sc2 (xs++ZF sc2) elt=aa ce)(L:(ifs=[]/\cc=.c (.bl ae))\/∃ e,ifs=[e]/\cE G n sc2 (xs++ZF sc2) e=aa cc)(c1:∀ y c,cl.lookup y=aa c->X.env.cells.lookup y=aa c)(c2:∀ y,(y,NameKind.free)∈sc2.names->(cl.lookup y).isSome){M:Li Ad}{it:Ad}{ok:Za->Prop}(Good:Li Ad->Hp->Prop)(gm:∀ ad H ad' H',Ext ad H ad' H'->Good ad H->Good ad' H')(gw:∀ ad H p xs ys,H p=aa (.lst xs)->Good ad H->Good ad (upd H p (.lst ys)))(go:∀ i ad H st,Good ad H->StOk X.K ad H st->ok st->i < ds.length->J.go i H)(stop:∀ i ad H st,Good ad H->StOk X.K ad H st->ok st->ds.length=i->J.stop i H)(Y:∀ i ad H st v H',Good ad H->StOk X.K ad H st->ok st->J.yld i H v H'->i < ds.length->Ext ad H ad H'/\StOk X.K ad H' st/\∃ d,ds[i]?=aa d/\Den X.K ad H' v d){g:Sd}{ys:Li D}(P:L2.Inv X pQ O H2 g)(B:XD X.K tg xs bd ds)(T:Turn X.prog X.w X.K tg J M it tn)(S:tn 0 g.heap)(f2:∀ b∈M,FpOk X pQ H2 b)(E2:EnvOk X.K ad2 H2 O U)(W:StOk X.K ad2 H2 st1)(g2:Good ad2 H2)(j:Yg ok (λd s=>ev F ce (Yd bd U fr d) s) (λd s=>ev F cc (Yd bd U fr d) s) ds st1=aa (ys,st'))(hz:ds.length<=1000)(hp:Post X.K ad2 H2 (.lst st'.length) (st'++[(ae,ys)]) Q)(q:∀ C dd t R Z,t.heap.Ns C Z->(∀ h',Heap.SameBut C t.heap h'->L2.Inv X pQ O R { t with heap:=h' })->FpOk X pQ R C->Q (.ref dd) R->compPost (bf X.prog X.w) X.A X.xe use R0 (.ref dd) C (.ok .next) t) :
  a9 (bf X.prog X.w) X.A (newList []) (λr l=>a9 (bf X.prog X.w) X.A (newFunctionEnv sc2 X.env.globals cl [] X.env.qual ab .none (aa X.env)) (λh k=>
   codeAny (bf X.prog X.w) X.A (.compStart (.ListComp elt [⟨tg,iter,ifs,0⟩] sc2 pos) 0 (.ref it) r { h with scope:=relabel sc2 X.env }) (compPost (bf X.prog X.w) X.A X.xe use R0 r h.locals) k) X.xe l) X.xe g:=by
 obtain⟨h1,h2,h3,h4,h5,h6⟩:=Yh m;have fb:∀ b∈M,b < g.heap.objs.size:=λb hb=>let ⟨o,e,_⟩:=T.obj 0 _ S b hb;aK e
 refine wpAny_newObj_type (wpAny_newFunctionEnv h2 (by intro y hy;simp at hy) (λV f a=>?_) h1)
 dsimp only at f a ⊢;have I3:L2.Inv X pQ O (upd H2 g.heap.objs.size (.lst [])) { g with heap:=g.heap.push { cls:=.type "list",dict:=ab,data:=.seq ([]:Li vL).toArray } }:=P.lnew (its:=[]) (t':=g.toks) .nil (aR _)
 have e3:g.heap.push { cls:=.type "list",dict:=ab,data:=.seq ([]:Li vL).toArray }=({ g with heap:=g.heap.push { cls:=.type "list",dict:=ab,data:=.seq ([]:Li vL).toArray } }:Sd).heap:=rfl
 exact UK Kx x m E I L c1 c2 gm gw go stop Y B T S f2 fb E2 W g2 j hz hp q (P.hok.fresh (aB _)) I3 (Heap.size_push ..) (λz=>au (W.lt P z) (cJ _)) f (λb u e=>a.extBut b u (bE (aK e)) (aS _ e)) (λb u e=>aS _ e)
end
variable [ClsTab]
def Zbm(X:Cx)(O:L2.St)(U:Env)(ds:Li D)(ok:Za->Prop)(st1 a:Za)(ys:Li D)(Q:VK)(J:It)(b:Hp):Prop:=
 ∃ (ad1:Li Ad) (Good:Li Ad->Hp->Prop),(∀ ad H ad' H',Ext ad H ad' H'->Good ad H->Good ad' H')/\(∀ ad H p c ys,H p=aa (.lst c)->Good ad H->Good ad (upd H p (.lst ys))) /\
  (∀ i ad H st,Good ad H->StOk X.K ad H st->ok st->i < ds.length->J.go i H)/\(∀ i ad H st,Good ad H->StOk X.K ad H st->ok st->ds.length=i->J.stop i H)/\(∀ i ad H st v H',Good ad H->StOk X.K ad H st->ok st->J.yld i H v H'->i < ds.length->Ext ad H ad H'/\StOk X.K ad H' st/\∃ d,ds[i]?=aa d/\Den X.K ad H' v d) /\
  EnvOk X.K ad1 b O U/\StOk X.K ad1 b st1/\Good ad1 b/\Post X.K ad1 b (.lst a.length) (a++[(ae,ys)]) Q
variable{st2:Za}
def VX{ys:Li D}{f:Ev}(E:EnvOk X.K ad H O U)(S:StOk X.K ad H st)(q:f U st=aa (.tup ds,st1))(p:Post X.K ad H (.lst st2.length) (st2++[(ae,ys)]) Q) :
  iTup X.K (tE X.K f) O H (Zbm X O U ds (λ_=>True) st1 st2 ys Q):=by
 refine⟨ad,U,st,.tup ds,st1,E,S,q,λv c o d n m=>?_⟩
 obtain⟨a,vs,rfl,j,rv⟩:=m.ofTup;refine⟨a,rfl,⟨vs,(j).sq⟩,c,λad H=>TupAt X.K H a vs/\Dens X.K ad H vs ds,λ_ _ _ _ x g=>⟨g.1.mono x,g.2.mono x⟩,λ_ H p k ys h g=>⟨g.1.upd h (by intro k z;cases z),g.2.wr h⟩,λi ad H st g _ _ b=>?_,λi ad H st g _ _ b=>⟨vs,(g.1).sq,by rw[g.2.length];exact cR b⟩,
  λi ad H st v H' g S _ y b=>?_,E.mono d,n,⟨j,rv⟩,p.later d⟩
 .obtain⟨v,e,_⟩:=g.2.get (Lg b)
  exact⟨vs,v,(g.1).sq,e⟩
 .obtain⟨w,e,l⟩:=g.2.get (Lg b)
  have:=y.2 vs ((g.1).sq);rw[e]at this;cases this
  cases y.1;exact⟨Ext.refl _ _,S,_,Lg b,l⟩
def JB{n:Int}{ys:Li D}{f:Ev}(e:n < 2 ^ 62/\-(2 ^ 62)<=n)(E:EnvOk X.K ad H O U)(S:StOk X.K ad H st)(q:f U st=aa (.int n,st1))(p:Post X.K ad H (.lst st2.length) (st2++[(ae,ys)]) Q) :
  iRng1 (tCons (tE X.K f) tNil) O H (Zbm X O U ((aj n.toNat).map λ(k:Nat)=>D.int (k:Int)) (λ_=>True) st1 st2 ys Q):=by
 refine⟨ad,U,st,.int n,st1,E,S,q,λv c j d h g=>?_⟩
 cases g.ofInt;refine⟨n,rfl,e.2,e.1,c,λ_ _=>True,λ_ _ _ _ _ _=>trivial,λ_ _ _ _ _ _ _=>trivial,λi ad H st _ _ _ a=>(show i < n.toNat by simpa using a),λi ad H st _ _ _ a=>(show n.toNat<=i by simpa using cR a),λi ad H st v H' _ S _ y a=>?_,E.mono d,h,trivial,p.later d⟩
 cases y.1;have b:i < n.toNat:=by simpa using a
 refine⟨Ext.refl _ _,S,.int (i:Int),?_,?_⟩
 .rw[bA,List.getElem?_range b];rfl
 .rw[y.2,Int.zero_add];exact .int _
def VW{c:YO}{ys:Li D}{f:Ev}(E:EnvOk X.K ad H O U)(S:StOk X.K ad H st)(q:f U st=aa (.lst l,st1))(m:st1[l]?=aa c)(p:Post X.K ad H (.lst st2.length) (st2++[(ae,ys)]) Q) :
  iList X.K (tE X.K f) O H (Zbm X O U c.2 (λs=>s[l]?=aa c) st1 st2 ys Q):=by
 refine⟨ad,U,st,.lst l,st1,E,S,q,λv d r h k o=>?_⟩
 obtain⟨a,rfl,j⟩:=o.ofLst;obtain⟨vs,rv,sq⟩:=k.list j (show st1[l]?=aa (c.1,c.2) from m);refine⟨a,rfl,⟨vs,sq⟩,d,λad H=>LA ad H l a,λ_ _ _ _ x g=>g.mono x,λ_ _ _ _ _ e g=>⟨g.1,λz=>g.2 ((UV e).mpr z)⟩,λi ad H st g S e b=>?_,λi ad H st g S e b=>?_,λi ad H st v H' g S e y b=>?_,E.mono h,k,j,p.later h⟩
 .obtain⟨vs,rv,sq⟩:=S.list g (show st[l]?=aa (c.1,c.2) from e)
  obtain⟨v,e,_⟩:=rv.get (Lg b);exact⟨vs,v,sq,e⟩
 .obtain⟨vs,rv,sq⟩:=S.list g (show st[l]?=aa (c.1,c.2) from e)
  exact⟨vs,sq,by rw[rv.length];exact cR b⟩
 .obtain⟨vs,rv,sq⟩:=S.list g (show st[l]?=aa (c.1,c.2) from e)
  obtain⟨w,e,n⟩:=rv.get (Lg b);have:=y.2 vs sq;rw[e]at this;cases this
  cases y.1;exact⟨Ext.refl _ _,S,_,Lg b,n⟩
def ZaQ{ds:Li D}(e:ds.all Ja=ae):∀ d∈ds,∃ a b,d=.tup [a,b]:=λd c=>by
 have:=bT.mp e d c;unfold Ja at this;split at this
 .exact⟨_,_,rfl⟩
 .cases this
def Jh{x:D}{ds:Li D}{ok:Za->Prop}(h:W7 x st=aa (ds,ok)):((x=.tup ds/\ok=λ_=>True)\/∃ l c,x=.lst l/\st[l]?=aa c/\ds=c.2/\ok=λs=>s[l]?=aa c)/\∀ d∈ds,∃ a b,d=.tup [a,b]:=by
 unfold W7 at h;split at h
 .split at h
  .rename_i e
   cases h;exact⟨.inl ⟨rfl,rfl⟩,ZaQ e⟩
  .exact Zb h
 .split at h
  .rename_i c f
   split at h
   .rename_i e
    cases h;exact⟨.inr ⟨_,c,rfl,f,rfl,rfl⟩,ZaQ e⟩
   .exact Zb h
  .exact Zb h
 .exact Zb h
def Jg{d:Li Str}(h:tgN tg=aa d):(∃ x px,tg=.Name x px/\d=[x])\/∃ x y px f k tp,tg=.Tuple [.Name x px,.Name y f] k tp/\d=[x,y]:=by
 unfold tgN at h;split at h
 .cases h;exact .inl ⟨_,_,rfl,rfl⟩
 .rename_i es k tp
  have nm:∀ {e:az}{x:Str},nmE e=aa x->∃ p,e=.Name x p:=λ{e x} h=>by
   unfold nmE at h;split at h
   .cases h;exact⟨_,rfl⟩
   .exact Zb h
  cases es with
  |nil=>exact Zb h
  |cons a es=>cases es with
   |nil=>exact Zb h
   |cons b es=>cases es with
    |cons c es=>exact Zb h
    |nil=>
     refine ZO (P:=λd=>_\/∃ x y px f i g,Expr.Tuple [a,b] k tp=.Tuple [.Name x px,.Name y f] i g/\d=[x,y]) h λx y l j=>?_
     obtain⟨px,rfl⟩:=nm l;obtain⟨f,rfl⟩:=nm j;exact .inr ⟨x,y,px,f,k,tp,rfl,rfl⟩
 .exact Zb h
inductive CSh(G:Gs)(n:Nat)(sc:bo)(N:List Str)(elt:az)(sc2:bo):List Comprehension->CE->Prop
 |mk {tg it:az}{ifs:List az}{xs:List Str}{fr:List Nat}{r:Option (Option Bool)}{ci ce cc:CE} (htg:tgN tg=aa xs) (hsc:YX sc sc2 xs=ae) (hfr:Y5 N (ZF sc2)=aa fr) (hi:itC G sc it (cE G n sc N) xs=aa (r,ci)) (hce:cE G n sc2 (xs++ZF sc2) elt=aa ce) (hcc:(ifs=[]/\cc=.c (.bl ae))\/∃ e,ifs=[e]/\cE G n sc2 (xs++ZF sc2) e=aa cc):CSh G n sc N elt sc2 [⟨tg,it,ifs,0⟩] (mkC xs.length r fr ci ce cc)
def ZbI{G:Gs}{c:CE}(h:cE G (n+1) sc N (.ListComp elt gens sc2 pos)=aa c):CSh G n sc N elt sc2 gens c:=by
 replace h:Zdb G sc sc2 N (cE G n sc N) (cE G n sc2) elt gens=aa c:=h;have no:∀ {P:Prop},(ab:Ot CE)=aa c->P:=λz=>nomatch z
 cases gens with
 |nil=>exact no h
 |cons g gs=>
  obtain⟨tg,it,ifs,k⟩:=g;cases k with
  |negSucc _=>cases gs<;>exact no h
  |ofNat m=>cases m with
   |succ _=>cases gs<;>exact no h
   |zero=>cases gs with
    |cons _ _=>exact no h
    |nil=>
     replace h:(match tgN tg with
      |none=>ab
      |some b=>og (YX sc sc2 b=ae) (o3 (λfr p (q:CE×CE)=>mkC b.length p.1 fr p.2 q.1 q.2) (Y5 N (ZF sc2)) (itC G sc it (cE G n sc N) b) (o2 Prod.mk (cE G n sc2 (b++ZF sc2) elt) (ifC (cE G n sc2 (b++ZF sc2)) ifs))))=aa c:=h
     cases d:tgN tg with
     |none=>rw[d]at h;cases h
     |some b=>
      rw[d]at h;refine Xz h λf h=>Xm (P:=CSh G n sc N elt sc2 _) h λfr p q i r o=>ZO (P:=λq:CE×CE=>CSh G n sc N elt sc2 _ (mkC b.length p.1 fr p.2 q.1 q.2)) o λce cc j e=>.mk d f i r j ?_
      cases ifs with
      |nil=>cases e;exact .inl ⟨rfl,rfl⟩
      |cons a l=>cases l with
       |nil=>exact .inr ⟨a,rfl,e⟩
       |cons _ _=>exact Zb e
inductive CR(b:D->List (Option D))(w:D->Za->Option (List D×(Za->Prop)))(fr:List Nat)(fi fe fc:Ev)(U:Env)(st:Za):D->Za->Prop
 |mk {x:D}{st1 st2:Za}{ds ys:List D}{ok:Za->Prop} (q1:fi U st=aa (x,st1)) (q2:w x st1=aa (ds,ok)) (hz:ds.length<=1000) (q3:Yg ok (λd s=>fe (Yd b U fr d) s) (λd s=>fc (Yd b U fr d) s) ds st1=aa (ys,st2)):CR b w fr fi fe fc U st (.lst st2.length) (st2++[(ae,ys)])
def XM{b:D->Li (Ot D)}{w:D->Za->Ot (Li D×(Za->Prop))}{a c f:Ev}(e:Xc b w fr a c f U st=aa (d,st')):CR b w fr a c f U st d st':=by
 unfold Xc at e;split at e
 .split at e
  .split at e
   .split at e
    .cases e;exact .mk ‹_› ‹_› ‹_› ‹_›
    .exact Zb e
   .exact Zb e
  .exact Zb e
 .exact Zb e
inductive CIt(X:Cx)(pQ:List (Addr×Obj))(s:Shared)(O:L2.St)(U:Env)(tg it:az)(xs:List Str)(F:Nat->Fn)(fr:List Nat)(ce cc:CE)(Q:VK):Prop
 |mk {bd:D->List (Option D)}{ds:List D}{ok:Za->Prop}{st1 st2:Za}{ys:List D} (B:XD X.K tg xs bd ds) (hz:ds.length<=1000) (q3:Yg ok (λd s=>ev F ce (Yd bd U fr d) s) (λd s=>ev F cc (Yd bd U fr d) s) ds st1=aa (ys,st2)) (hp:Zg it=ae) (pi:a9 (bf X.prog X.w) X.A (eval it X.env) (λv s1=>a9 (bf X.prog X.w) X.A (pyIter v) (PIE X pQ O tg (Zbm X O U ds ok st1 st2 ys Q)) X.xe s1) X.xe s):CIt X pQ s O U tg it xs F fr ce cc Q
def Vr{f:α->β}{o:Ot α}{b:β}(h:o.map f=aa b):∃ a,o=aa a/\f a=b:=by
 cases o with
 |none=>exact Zb h
 |some a=>exact⟨a,rfl,by cases h;rfl⟩
variable{F:Nat->Fn}
def ZbG{G:Gs}(g:Zo G F n)(m:Cxt X G F sc N){i:Li Str}{r:Ot (Ot Bool)}{w:CE}(C:tgN tg=aa i)(f:itC G sc it (cE G n sc N) i=aa (r,w)){s:Sd}(I:L2.Inv X pQ O H s)(E:EnvOk X.K ad H O U)(S:StOk X.K ad H st)(e:ev F (mkC i.length r fr w ce cc) U st=aa (d,st'))(p:Post X.K ad H d st' Q):CIt X pQ s O U tg it i F fr ce cc Q:=by
 rcases Jg C with⟨x,px,rfl,rfl⟩|⟨x,y,px,py,k,tp,rfl,rfl⟩
 .replace f:(match ZJ G sc it with
   |some a=>(cE G n sc N a).map λc=>(aa (aa ae),c)
   |none=>(cE G n sc N it).map λc=>(aa (aa af),c))=aa (r,w):=f
  split at f
  .rename_i a ha
   obtain⟨P,q,f⟩:=Vr f;cases f;obtain⟨Y,T⟩:=XW (tg:=.Name x px) m ha (Zd q) (g X sc N m a _ q).pe;cases XM e with
   |@mk B st1 st2 ds ys ok h b t o=>
    refine .mk VP t o Y (T pQ s O H _ I ?_);cases B with
    |int k=>
     have b:(match (if k < 2 ^ 62/\-(2 ^ 62)<=k then aa ((aj k.toNat).map λ(k:Nat)=>D.int (k:Int)) else ab) with
      |some i=>aa (i,λ_=>True)
      |none=>ab)=aa (ds,ok):=b
     by_cases J:k < 2 ^ 62/\-(2 ^ 62)<=k
     .rw[aq J]at b
      cases b;exact JB J E S h p
     .rw[ar J]at b
      cases b
    |_=>exact Zb b
  .obtain⟨P,q,f⟩:=Vr f
   cases f;cases XM e with
   |@mk B st1 st2 ds ys ok h b t o=>
    refine .mk VP t o (Zd q) ?_;cases B with
    |tup i=>cases b;exact pi_tup (g X sc N m it _ q).pe pQ s O H _ I (VX E S h p)
    |lst l=>
     have b:(match st1[l]? with
      |some c=>aa (c.2,λs=>s[l]?=aa c)
      |none=>ab)=aa (ds,ok):=b
     cases u:st1[l]? with
     |none=>rw[u]at b;cases b
     |some c0=>
      rw[u]at b;cases b;exact pi_list (g X sc N m it _ q).pe pQ s O H _ I (VW E S h u p)
    |str z=>exact Zb b
    |dct ks vs=>
     have no:∀ {v:V}{j:Li Ad}{A:Hp},Den X.K j A v (.dct ks vs)->False:=λ{v j A} L=>by
      obtain⟨a,R,_,_,Z,r⟩:=L.ofDct;cases ks with
      |cons _ _=>exact Zb b
      |nil=>
       cases R with
       |cons _ _=>cases Z
       |nil=>cases r;cases b
     exact thn ((g X sc N m it _ q).pe pQ s O H (λ_ _=>False) I ⟨ad,U,st,_,st1,E,S,h,λv j A x1 S1 L=>no L⟩) λv s1 ⟨x,A,I1,r1,z⟩=>z.elim
    |_=>exact Zb b
 .replace f:(match Vg G sc it with
   |some _=>ab
   |none=>(cE G n sc N it).map λc=>(ab,c))=aa (r,w):=f
  split at f
  .exact Zb f
  .obtain⟨P,q,f⟩:=Vr f
   cases f;cases XM e with
   |mk h b t o=>
    obtain⟨W,M⟩:=Jh b;rcases W with⟨rfl,rfl⟩|⟨l,c0,rfl,u,rfl,rfl⟩
    .exact .mk (VQ M) t o (Zd q) (pi_tup (g X sc N m it _ q).pe pQ s O H _ I (VX E S h p))
    .exact .mk (VQ M) t o (Zd q) (pi_list (g X sc N m it _ q).pe pQ s O H _ I (VW E S h u p))
def Qp{G:Gs}(b:Zo G F n)(t:Cxt X G F sc N){c:CE}(h:cE G (n+1) sc N (.ListComp elt gens sc2 pos)=aa c){s:Sd}(I:L2.Inv X pQ O H s)(Y:tE X.K (ev F c) O H Q)(g:∀ C dd i u M,i.heap.Ns C M->(∀ h',Heap.SameBut C i.heap h'->L2.Inv X pQ O u { i with heap:=h' })->FpOk X pQ u C->Q (.ref dd) u->compPost (bf X.prog X.w) X.A X.xe use R0 (.ref dd) C (.ok .next) i) :
  ∃ tg it ifs,gens=[⟨tg,it,ifs,0⟩]/\∀ a,a9 (bf X.prog X.w) X.A (comprehension (.ListComp elt [⟨tg,it,ifs,0⟩] sc2 pos) sc2 X.env a (newList []) af (eval it X.env) use) R0 X.xe s:=by
 cases ZbI h with
 |@mk tg it ifs xs fr r ci ce cc j f k hi l m=>
  obtain⟨h1,h2,h3,h4,h5,h6⟩:=Yh f;obtain⟨ad,U,st,d,st',E,S,e,p⟩:=Y;obtain⟨cl,ec,c1,c2⟩:=VZ (env:=X.env) (sc:=sc2) (λy W hf=>by
   have hm:(y.1,NameKind.free)∈sc2.names:=by rw[<-hf];exact W
   exact I.ok.has y.1 (t.cel y.1 (h6 y.1 (mem_frees.mpr hm)).1))
  refine⟨tg,it,ifs,rfl,λa=>?_⟩
  cases ZbG b t j hi I E S e p with
  |mk B V D Z L=>
   refine wpAny_comprehension_free (use:=use) rfl (Z2 Z) ec h1 h4 (thn L λv s1 q=>thn q λP s2 o=>?_)
   obtain⟨R,fp,tn,J,H2,rfl,I2,T,z,f2,ad1,Good,gm,gw,go,stop,x,E2,S2,g2,p2⟩:=o;exact Q2 t b f k l m c1 c2 Good gm gw go stop x I2 B T z f2 E2 S2 g2 D V p2 g
def ZbH{G:Gs}:YQ G F:=by
 intro n f;refine⟨λX sc N P elt gens sc2 pos c h=>SE.of ?_,λX sc N K y i p elt gens sc2 j pos c E h r=>?_⟩
 .intro pQ s O H Q I g
  obtain⟨tg,it,ifs,rfl,go⟩:=Qp f P h I g (use:=ab) (R0:=EP X pQ O Q) λC dd l x m t u _ q=>⟨m,t,λh' sb=>⟨.ref dd,x,u h' sb,rfl,q⟩⟩
  rw[eval_ListComp];exact go _
 .intro pQ s O H D I g
  obtain⟨tg,it,ifs,rfl,go⟩:=Qp f K.toCxt h I g (use:=aa (assign (.Name y p) X.env)) (R0:=λ_ B=>SP X pQ D .next B) λC dd l x m t u d q=>by
   have S:=u l.heap (Heap.SameBut.refl _ _);show a9 _ X.A (assign (.Name y p) X.env (.ref dd)) _ _ l;refine wpAny_assign_Name (store_ok2 (v:=.ref dd) S (by rw[K.hN];exact K.nd) (by rw[K.hN];exact Xl E) (K.loc _ (Vk E)) rfl (λJ R ⟨a,sb,M⟩=>?_) (.inl (K.fn _)))
   have ne:C≠a:=by
    rcases M with z|z
    .rw[z];exact d.2.1
    .exact λw=>d.2.2.2.2.1 _ _ z w.symm
   exact⟨m,t.sameBut sb ne,λT k=>⟨_,x,R.turned (t':=J.toks) (λb o L e=>k.extBut b o L e) d.1 d.2.1 d.2.2.2.1 d.2.2.2.2.1 d.2.2.2.2.2,q⟩⟩
  rw[exec_Assign_Name_used _ _ _ _ r];refine aA (wpAny_standAt (aA ?_));show a9 _ X.A (do let _ <-comprehension (.ListComp elt [⟨tg,it,ifs,0⟩] sc2 j) sc2 X.env _ (newList []) af (eval it X.env) (aa (assign (.Name y p) X.env))) _ _ s
  exact aA (bZ (go _) (λ_ B g=>aE (aE g)) λ_ _ e=>e)
variable [ClsTab]
def Zgd{α:Type}:∀ {us:Li α},us.length=0->us=[]
 |[],_=>rfl
def ZfB{α:Type}:∀ {us:Li α},us.length=1->∃ a,us=[a]
 |[a],_=>⟨a,rfl⟩
def Zge{α:Type}:∀ {us:Li α},us.length=2->∃ a b,us=[a,b]
 |[a,b],_=>⟨a,b,rfl⟩
def Zgf{α:Type}:∀ {us:Li α},us.length=3->∃ a b c,us=[a,b,c]
 |[a,b,c],_=>⟨a,b,c,rfl⟩
def Zgg{α:Type}:∀ {us:Li α},us.length=4->∃ a b c d,us=[a,b,c,d]
 |[a,b,c,d],_=>⟨a,b,c,d,rfl⟩
def Zgh{α:Type}:∀ {us:Li α},us.length=5->∃ a b c d e,us=[a,b,c,d,e]
 |[a,b,c,d,e],_=>⟨a,b,c,d,e,rfl⟩
def Zgi{α:Type}:∀ {us:Li α},us.length=6->∃ a b c d e f,us=[a,b,c,d,e,f]
 |[a,b,c,d,e,f],_=>⟨a,b,c,d,e,f,rfl⟩
def W8(K:Fg)(G:Gs)(T:Nat->Ot FD)(C:Ad):Li (Str×Nat×Nat)->Prop
 |[]=>True
 | (m,j,_) :: r=>(∃ y f fd pn N,MethOk K G T C m y j f fd pn N)/\W8 K G T C r
def XE(K:Fg)(B:Ad):Li Nat->Prop
 |[]=>True
 |i :: r=>SubOk K (ClsTab.ca i) B/\XE K B r
def Xo(a:Params)(K:Fg)(mg:Str->Ot vL)(G:Gs)(T:Nat->Ot FD):Gs->Prop
 |[]=>True
 | (x,.c d) :: r=>(∃ v u,mg x=aa u/\RelV v u/\∀ ad H,Den K ad H v d)/\Xo a K mg G T r
 | (x,.blt) :: r=>mg x=ab/\Xo a K mg G T r
 | (x,.dct ks ds) :: r=>Ql a K mg x ks ds/\Xo a K mg G T r
 | (x,.fn i _ ds) :: r=>(∃ f fd pn N,DefOk K mg G T x i ds f fd pn N)/\Xo a K mg G T r
 | (x,.cls i e b) :: r=>((mg x=aa (.ref (ClsTab.ca i))/\NewOk K (ClsTab.ca i)/\XE K (ClsTab.ca i) b)/\W8 K G T (ClsTab.ca i) e)/\Xo a K mg G T r
def ZdK(e:Params)(K:Fg)(mg:Str->Ot vL)(G:Gs)(T:Nat->Ot FD)(x:Str):GV->Prop
 |.c d=>∃ v u,mg x=aa u/\RelV v u/\∀ ad H,Den K ad H v d
 |.blt=>mg x=ab
 |.dct ks ds=>Ql e K mg x ks ds
 |.fn i _ ds=>∃ f fd pn N,DefOk K mg G T x i ds f fd pn N
 |.cls i b a=>(mg x=aa (.ref (ClsTab.ca i))/\NewOk K (ClsTab.ca i)/\XE K (ClsTab.ca i) a)/\W8 K G T (ClsTab.ca i) b
theorem YC{b:Params}:∀ {l:Gs}{x:Str}{g:GV},Xo b K mg G T l->l.lookup x=aa g->ZdK b K mg G T x g
 |[],_,_,_,h=>by cases h
 | (y,v) :: r,x,g,a,h=>by
  have tl:Xo b K mg G T r/\ZdK b K mg G T y v:=by
   cases v with
   |c d=>exact⟨a.2,a.1⟩
   |blt=>exact⟨a.2,a.1⟩
   |dct ks ds=>exact⟨a.2,a.1⟩
   |fn i j ds=>exact⟨a.2,a.1⟩
   |cls i k f=>exact⟨a.2,a.1⟩
  rw[dD]at h;cases e:x==y with
  |true=>
   rw[e]at h;cases h;rw[beq_iff_eq.mp e];exact tl.2
  |false=>
   rw[e]at h;exact YC tl.1 h
theorem QO{B:Ad}:∀ {l:Li Nat},XE K B l->∀ i,l.contains i=ae->SubOk K (ClsTab.ca i) B
 |[],_,_,h=>by cases h
 |j :: r,a,i,h=>by
  rw[List.contains_cons,bV]at h;rcases h with h|h
  .rw[beq_iff_eq.mp h];exact a.1
  .exact QO a.2 i h
theorem Uj{C:Ad}:∀ {l:Li (Str×Nat×Nat)},W8 K G T C l->∀ m j b,l.lookup m=aa (j,b)->∃ y f fd pn N,MethOk K G T C m y j f fd pn N
 |[],_,_,_,_,h=>by cases h
 | (d,g,c) :: r,a,m,j,b,h=>by
  rw[dD]at h;cases e:m==d with
  |true=>
   rw[e]at h;cases h;rw[beq_iff_eq.mp e];exact a.1
  |false=>
   rw[e]at h;exact Uj a.2 m j b h
def ZcX{b:Params}(h:Xo b K mg G T G):Text b K mg G T:=
 ⟨λ_ _ e=>YC h e,λ_ e=>YC h e,λ_ _ _ e=>YC h e,λ_ _ _ _ e=>YC h e,λx i c a e=>by
  have g:ZdK b K mg G T x (.cls i c a):=YC h e;exact⟨⟨g.1.1,g.1.2.1,QO g.1.2.2⟩,Uj g.2⟩⟩
def Zd3(a:∀ n,YQ G (run T n))(X:Text w.params K mg G T)(n:Nat){x:Str}{f:Ad}{fd:bp}(b:DefOk K mg G T x i ds f fd pn N):FnOk P w K mg base CX0 n f fd pn (spD K (run T n i)):=ZdO a X n b.ob
def ZeT{a:Ad}{f:Li Int}(r:Only H)(u:SqL K H a (f.map V.int))(h:∃ st',run T n i [.lst 0] [(af,f.map .int)]=aa (.bl ae,st')):spD K (run T n i) [.ref a] H (λv _=>v=.bl ae) λ_ _ _=>False:=by
 obtain⟨st',e⟩:=h;have ds:∀ f:Li Int,Dens K [a] H (f.map V.int) (f.map D.int):=λf=>by
  induction f with
  |nil=>exact .nil
  |cons n l t=>exact .cons (.int n) t
 have p:¬Ye H a:=λ⟨kvs,q⟩=>by
  rcases r a with z|⟨o,s,z⟩<;>(rw[q]at z;cases z)
 refine⟨[a],[.lst 0],[(af,f.map .int)],.bl ae,st',⟨rfl,λi j b c d _ _ k _=>?_,λi c g=>?_⟩,.cons (.lst ⟨rfl,p⟩) .nil,e,λv ad' H' x S h=>h.ofBl⟩
 .cases i with
  |zero=>simp at k
  |succ i=>simp at k
 .cases i with
  |succ i=>simp at g
  |zero=>
   have g:(af,f.map D.int)=c:=by simpa using g
   subst g;refine⟨a,rfl,.l p (ds f) (.inr ⟨rfl,?_⟩)⟩;rcases u with(h|⟨o,h⟩)|⟨o,m,n,C,B,k,A,y,w⟩
   .rcases r a with z|⟨o,s,z⟩
    .rw[h]at z;cases z
    .rw[h]at z;cases z
   .exact .inl ⟨o,h⟩
   .exact .inr ⟨o,m,n,⟨C,B⟩,⟨k,A⟩,y,w⟩
abbrev fnS(x y:Str)(s:Stmt)(c kV b a:vL)(e:Ot Ad)(d ct:vL):bp:=W.fnOf x y (defArgs s) (defBody s) (defScope s) c kV b a e d ct
inductive FnAt(K:Fg)(x:Str)(s:Stmt):Prop
 |mk {f:Addr}{oc kV dc pm cd ct:Value}{od an:Option Addr}{sl:Array (Option Value)} (a:W.nsIn K a8 x=aa (aa (.ref f))) (l:K.lookup f=aa ⟨oc,od,.func (W.fnOf x x (defArgs s) (defBody s) (defScope s) .none kV dc pm an cd ct),sl⟩) (e:W.codeIn K cd x=ae) (k:W.keepIn K (.ref f)=ae):FnAt K x s
inductive FnAtE(K:Fg)(x:Str)(s:Stmt)(v:Int):Prop
 |mk {f E:Addr}{eo:Obj}{en:Nat}{et:Tok}{oc kV dc pm cd ct:Value}{od an:Option Addr}{sl:Array (Option Value)} (a:W.nsIn K a8 x=aa (aa (.ref f))) (l:K.lookup f=aa ⟨oc,od,.func (W.fnOf x x (defArgs s) (defBody s) (defScope s) (.ref E) kV dc pm an cd ct),sl⟩) (e:W.codeIn K cd x=ae) (k:W.keepIn K (.ref f)=ae) (d:K.lookup E=aa eo) (g:eo.data=.seq #[.int v et] en):FnAtE K x s v
inductive MtAt(K:Fg)(C:Addr)(x y:Str)(s:Stmt):Prop
 |mk {f:Addr}{oc kV dc pm cd ct:Value}{od an:Option Addr}{sl:Array (Option Value)} (m:W.findIn K (.ref C) x=aa (aa (.ref f))) (l:K.lookup f=aa ⟨oc,od,.func (W.fnOf x y (defArgs s) (defBody s) (defScope s) .none kV dc pm an cd ct),sl⟩) (e:W.codeIn K cd y=ae) (k:W.keepIn K (.ref f)=ae) (i:W.isFn K (.ref f)=ae):MtAt K C x y s
structure ClsAt(K:Fg)(x:Str)(C:Addr):Prop where
 ya:W.nsIn K a8 x=aa (aa (.ref C))
 yb:W.makesIn K C=ae
 yc:W.findIn K (.ref C) "__init__"=aa (aa (.builtin "object.__init__"))
 yd:W.keepIn K (.ref C)=ae
 ye:W.plainGet K C Str.empty=ae
 yf:W.hasDictIn K C=ae
 yg:W.plainOver K C=ae
 yh:W.findIn K (.ref C) "__setattr__"=aa (aa (.builtin "object.__setattr__"))
 yi:W.findIn K (.ref C) "__class__"=aa (aa (.builtin "object.__class__"))
 yj:W.mroIn K C (.type "object")=aa ae
 yk:W.specialIn K (.builtin "object.__class__") "__get__"=aa (aa (.builtin "getset_descriptor.__get__"))
 yl:W.takesIn K (.builtin "object.__class__")=aa ae
abbrev Zbn(G:Gs)(s:Stmt)(N a:Li Str)(c:CS):Prop:=FnScope N a (defScope s)/\(∀ y∈N,L2.Loc (defScope s) y)/\cSs G 60 (defScope s) N (defBody s)=aa c
variable{ps:Li Str}
section
variable{fd:bp}
def bd1(b:ps.length=1)(h:∀ a,bindArgs fd ⟨[a],[]⟩=pure (ps.zip [a])):Binds K fd ps []:=.all λc e=>by obtain⟨_,rfl⟩:=ZfB (e.trans b);exact h _
def bd2(c:ps.length=2)(h:∀ a b,bindArgs fd ⟨[a,b],[]⟩=pure (ps.zip [a,b])):Binds K fd ps []:=.all λd e=>by obtain⟨_,_,rfl⟩:=Zge (e.trans c);exact h _ _
def bd3(d:ps.length=3)(h:∀ a b c,bindArgs fd ⟨[a,b,c],[]⟩=pure (ps.zip [a,b,c])):Binds K fd ps []:=.all λf e=>by obtain⟨_,_,_,rfl⟩:=Zgf (e.trans d);exact h _ _ _
def bd4(f:ps.length=4)(h:∀ a b c d,bindArgs fd ⟨[a,b,c,d],[]⟩=pure (ps.zip [a,b,c,d])):Binds K fd ps []:=.all λg e=>by obtain⟨_,_,_,_,rfl⟩:=Zgg (e.trans f);exact h _ _ _ _
def bd5(f:ps.length=5)(h:∀ a b c d k,bindArgs fd ⟨[a,b,c,d,k],[]⟩=pure (ps.zip [a,b,c,d,k])):Binds K fd ps []:=.all λg e=>by obtain⟨_,_,_,_,_,rfl⟩:=Zgh (e.trans f);exact h _ _ _ _ _
def bd6(f:ps.length=6)(h:∀ a b c d k l,bindArgs fd ⟨[a,b,c,d,k,l],[]⟩=pure (ps.zip [a,b,c,d,k,l])):Binds K fd ps []:=.all λg e=>by obtain⟨_,_,_,_,_,_,rfl⟩:=Zgi (e.trans f);exact h _ _ _ _ _ _
def bd0(a:ps.length=0)(h:bindArgs fd ⟨[],[]⟩=pure []):Binds K fd ps []:=.all λb e=>by rw[Zgd (e.trans a),List.zip_nil_right];exact h
end
variable{i:Nat}
section
variable{Pm:Params}{h:bq}{x y:Str}{p:Nat}{s:Stmt}{c:CS}{r:Gs}
def gD(X:K.In h)(o:h.Ns a8 mg)(F:FnAt K x s)(q:Zbn G s N ps c)(f:T i=aa ⟨ps.length,N.length,c⟩)(t:Xo Pm K mg G T r)(d:∀ kV g b n j ct,Binds K (fnS x x s .none kV g b n j ct) ps []:=by intros;(first|refine bd0 rfl ?_|refine bd1 rfl ?_|refine bd2 rfl ?_|refine bd3 rfl ?_|refine bd4 rfl ?_|refine bd5 rfl ?_|refine bd6 rfl ?_);intros;rfl):Xo Pm K mg G T ((x,.fn i p []) :: r):=by
 cases F with
 |mk a l e k=>exact⟨⟨_,_,ps,N,.inl ⟨s,_,_,_,_,_,_,_,_,_,_,c,rfl,l,e,q.1,q.2.1,q.2.2,f⟩,k,W.mg_of X o a,λm u=>⟨[],[],λ_ _=>by rw[List.drop_nil];exact .nil,.nil,d _ _ _ _ _ _⟩⟩,t⟩
def gS{C B:Ad}{l:Li Nat}(a:ClsTab.ca i=C)(F:ClsAt K x C)(m:W.kitOne K (.ref C) (.ref B)=aa ae)(t:XE K B l):XE K B (i :: l):=by
 subst a;exact⟨⟨⟨F.ye,F.yf,F.yg,F.yh⟩,F.yi,F.yk,F.yl,F.yj,m⟩,t⟩
def gB(X:K.In h)(a:h.Ns a8 mg)(z:W.nsIn K a8 x=aa ab)(t:Xo Pm K mg G T r):Xo Pm K mg G T ((x,.blt) :: r):=⟨W.mg_none_of X a z,t⟩
def gI{v:Int}{k:Tok}(X:K.In h)(a:h.Ns a8 mg)(g:W.nsIn K a8 x=aa (aa (.int v k)))(t:Xo Pm K mg G T r):Xo Pm K mg G T ((x,.c (.int v)) :: r):=⟨⟨.int v,_,W.mg_of X a g,⟨_,rfl⟩,λ_ _=>.int _⟩,t⟩
def gL{fa:Ad}{z:Str}(X:K.In h)(j:h.Ns a8 mg)(b:mg x=aa (.ref fa))(F:FnAt K x s)(q:Zbn G s N [z] c)(p:T i=aa ⟨1,N.length,c⟩)(g:∀ kV r n v t ct u,bindArgs (fnS x x s .none kV r n v t ct) ⟨[u],[]⟩=pure [(z,u)]):∃ (fd:bp) (N:Li Str),(∀ (s:Sd) (u:vL),BindsTo s fd ⟨[u],[]⟩ [(z,u)])/\DefOk K mg G T x i [] fa fd [z] N:=by
 cases F with
 |@mk f _ _ _ _ _ _ _ _ _ a l e k=>
  have d:=b.symm.trans (W.mg_of X j a);have d:fa=f:=by cases d;rfl
  rw[d];exact⟨_,N,λ_ u=>.of_eq (g _ _ _ _ _ _ u),.inl ⟨s,_,_,_,_,_,_,_,_,_,_,c,rfl,l,e,q.1,q.2.1,q.2.2,p⟩,k,W.mg_of X j a,λm y=>⟨[],[],λ_ _=>by rw[List.drop_nil];exact .nil,.nil,.all λw o=>by obtain⟨u,rfl⟩:=ZfB o;exact g _ _ _ _ _ _ u⟩⟩
end
omit [ClsTab] in
def Jd{l:W.OpenLaw}{q:bg}{e:Li Str}{V:(Str->Ot vL)->bq->Prop}{r:br->bq->Prop}{d:DefRec}{K:Params->Fg}{G:Gs}{T:Nat->Ot FD}{n i:Nat}{x:Str}(y:l.most=aa 63)(o:d.params.defaults=[])(v:Room n callerA)(I:∀ (w:br) (h:bq),r w h->(K w.params).In h)(C:∀ [ClsTab] n,YQ G (run T n))(F:∀ (w:br) (mg:Str->Ot vL) (fa:Ad) (h:bq),(K w.params).In h->h.Ns a8 mg->mg d.name=aa (.ref fa)->
   ∃ _:ClsTab,Text w.params (K w.params) mg G T/\∃ (fd:bp) (N:Li Str),(∀ (s:Sd) (u:vL),BindsTo s fd ⟨[u],[]⟩ [(x,u)])/\DefOk (K w.params) mg G T d.name i [] fa fd [x] N)(L:∀ j:Li Int,j.length<=63->∃ st',run T n i [.lst 0] [(af,j.map .int)]=aa (.bl ae,st')) :
  W.WalkO q e V r l.row.toRowW d [] (λf vs=>PySem.call f vs):=
 L2.walk_of (n:=63) (k:=n) (x:=x) (CX:=λ_=>CX0) (sp:=λw vs H Q E=>∀ c:ClsTab,@spD c (K w.params) (run T n i) vs H Q E) y (by decide) o v I
  (λw mg fa h Y Z m=>by
   obtain⟨c,X,fd,N,D,Dk⟩:=F w mg fa h Y Z m;refine⟨fd,D,λbase _ _=>?_⟩
   have p:=Zd3 (P:=l.prog) (w:=w) (base:=base) (λn=>C n) X n Dk
   exact⟨λvs H Q E z=>p.len vs H Q E (z c),λA b s H g t vs Q E U S R O z=>p.run A b s H g t vs Q E U S R O (z c)⟩)
  (λw H a j B M J c=>ZeT M J (L j B)) λ_ _ _ _ _ z=>z
end Dp
namespace Dp
open PySem
noncomputable def Xj:FD:=⟨3,3,(.seq (.ret (.bin .Add (.bin .Add (.slice (.v 0) .nop (.part (.v 1))) (.tupE (.aC (.v 2) .aN))) (.slice (.v 0) (.part (.bin .Add (.v 1) (.c (.int 1)))) .nop)))
 .skip)⟩
def Z8:FD:=⟨1,1,(.seq (.ret (.look [(S "put"),(S "if"),(S "tell"),(S "go"),(S "skip")] [(.tup [(.int 2),(.int 4)]),(.tup [(.int 1),(.int 3)]),(.tup [(.int 1)]),(.tup []),(.tup [])] (.ix (.v 0) (.c (.int 0)))))
 .skip)⟩
noncomputable def Xf:CS:=(.seq (.set 1 (.bin .Mult (.v 1) (.c (.int 2))))
 .skip)
def Wj:FD:=⟨1,3,(.seq (.set 1 (.c (.int 1)))
 (.seq (.for1 2 ae (.v 0) Xf)
 (.seq (.ret (.v 1))
 .skip)))⟩
noncomputable def Xh:FD:=⟨1,1,(.seq (.ret (.bin .Sub (.call 43 (.aC (.v 0) .aN) []) (.c (.int 1))))
 .skip)⟩
noncomputable def XG:FD:=⟨2,2,(.seq (.ret (.cmp .NotEq (.bin .BitAnd (.v 0) (.call 43 (.aC (.v 1) .aN) [])) (.c (.int 0))))
 .skip)⟩
noncomputable def Yx:FD:=⟨2,2,(.seq (.ret (.bin .BitAnd (.v 0) (.inv (.call 43 (.aC (.v 1) .aN) []))))
 .skip)⟩
noncomputable def YF:FD:=⟨2,2,(.seq (.ret (.cmp .Eq (.bin .BitAnd (.v 0) (.v 1)) (.v 0)))
 .skip)⟩
noncomputable def Wi:FD:=⟨1,1,(.seq (.ret (.bin .Sub (.bin .Mod (.bin .Add (.v 0) (.c (.int 1000000000))) (.c (.int 2000000000))) (.c (.int 1000000000))))
 .skip)⟩
noncomputable def Y9:FD:=⟨2,2,(.seq (.ite (.cmp .Eq (.v 1) (.c (.int 0))) (.seq (.ret (.c (.int 0)))
 .skip) .skip)
 (.seq (.ret (.call 0 (.aC (.bin .FloorDiv (.v 0) (.v 1)) .aN) []))
 .skip))⟩
noncomputable def Yt:FD:=⟨2,2,(.seq (.ite (.cmp .Eq (.v 1) (.c (.int 0))) (.seq (.ret (.v 0))
 .skip) .skip)
 (.seq (.ret (.bin .Sub (.v 0) (.bin .Mult (.v 1) (.bin .FloorDiv (.v 0) (.v 1)))))
 .skip))⟩
def Wm:FD:=⟨3,3,(.seq (.ite (.cmp .Eq (.v 1) (.c (.str (S "+")))) (.seq (.ret (.call 0 (.aC (.bin .Add (.v 0) (.v 2)) .aN) []))
 .skip) .skip)
 (.seq (.ite (.cmp .Eq (.v 1) (.c (.str (S "-")))) (.seq (.ret (.call 0 (.aC (.bin .Sub (.v 0) (.v 2)) .aN) []))
 .skip) .skip)
 (.seq (.ite (.cmp .Eq (.v 1) (.c (.str (S "*")))) (.seq (.ret (.call 0 (.aC (.bin .Mult (.v 0) (.v 2)) .aN) []))
 .skip) .skip)
 (.seq (.ite (.cmp .Eq (.v 1) (.c (.str (S "/")))) (.seq (.ret (.call 1 (.aC (.v 0) (.aC (.v 2) .aN)) []))
 .skip) .skip)
 (.seq (.ret (.call 2 (.aC (.v 0) (.aC (.v 2) .aN)) []))
 .skip)))))⟩
def Vd:FD:=⟨3,3,(.seq (.ite (.cmp .Eq (.v 1) (.c (.str (S "<")))) (.seq (.ret (.cmp .Lt (.v 0) (.v 2)))
 .skip) .skip)
 (.seq (.ite (.cmp .Eq (.v 1) (.c (.str (S "<=")))) (.seq (.ret (.cmp .LtE (.v 0) (.v 2)))
 .skip) .skip)
 (.seq (.ite (.cmp .Eq (.v 1) (.c (.str (S "=")))) (.seq (.ret (.cmp .Eq (.v 0) (.v 2)))
 .skip) .skip)
 (.seq (.ite (.cmp .Eq (.v 1) (.c (.str (S ">=")))) (.seq (.ret (.cmp .GtE (.v 0) (.v 2)))
 .skip) .skip)
 (.seq (.ite (.cmp .Eq (.v 1) (.c (.str (S ">")))) (.seq (.ret (.cmp .Gt (.v 0) (.v 2)))
 .skip) .skip)
 (.seq (.ret (.cmp .NotEq (.v 0) (.v 2)))
 .skip))))))⟩
def Yw:FD:=⟨2,2,(.seq (.ret (.and (.cmp .Eq (.ix (.v 0) (.c (.int 0))) (.c (.str (S "number")))) (.cmp .Eq (.ix (.v 1) (.c (.int 0))) (.c (.str (S "number"))))))
 .skip)⟩
noncomputable def Z1:FD:=⟨3,3,(.seq (.ite (.cmp .Lt (.ix (.v 0) (.v 2)) (.ix (.v 0) (.v 1))) (.seq (.ret (.call 42 (.aC (.call 42 (.aC (.v 0) (.aC (.v 1) (.aC (.ix (.v 0) (.v 2)) .aN))) []) (.aC (.v 2) (.aC (.ix (.v 0) (.v 1)) .aN))) []))
 .skip) .skip)
 (.seq (.ret (.v 0))
 .skip))⟩
def Z0:FD:=⟨1,1,(.seq (.ite (.and (.cmp .Eq (.ix (.v 0) (.c (.int 3))) (.c (.str (S "-")))) (.cmp .Eq (.ix (.ix (.v 0) (.c (.int 4))) (.c (.int 0))) (.c (.str (S "number"))))) (.seq (.ret (.bin .Add (.slice (.v 0) .nop (.part (.c (.int 3)))) (.tupE (.aC (.c (.str (S "+"))) (.aC (.tupE (.aC (.c (.str (S "number"))) (.aC (.call 0 (.aC (.neg (.ix (.ix (.v 0) (.c (.int 4))) (.c (.int 1)))) .aN) []) .aN))) .aN)))))
 .skip) .skip)
 (.seq (.ret (.v 0))
 .skip))⟩
def ZN:FD:=⟨1,4,(.seq (.set 1 (.ix (.v 0) (.c (.int 2))))
 (.seq (.set 2 (.ix (.v 0) (.c (.int 3))))
 (.seq (.set 3 (.ix (.v 0) (.c (.int 4))))
 (.seq (.ite (.or (.and (.cmp .Eq (.v 2) (.c (.str (S "*")))) (.cmp .Eq (.v 3) (.c (.tup [(.str (S "number")),(.int 0)])))) (.or (.and (.cmp .Eq (.v 2) (.c (.str (S "mod")))) (.cmp .Eq (.v 3) (.c (.tup [(.str (S "number")),(.int 1)])))) (.and (.cmp .Eq (.v 2) (.c (.str (S "-")))) (.cmp .Eq (.v 1) (.v 3))))) (.seq (.ret (.tupE (.aC (.c (.str (S "put"))) (.aC (.ix (.v 0) (.c (.int 1))) (.aC (.c (.tup [(.str (S "number")),(.int 0)])) (.aC (.c (.str (S "+"))) (.aC (.c (.tup [(.str (S "number")),(.int 0)])) .aN)))))))
 .skip) .skip)
 (.seq (.ite (.and (.cmp .In (.v 2) (.tupE (.aC (.c (.str (S "*"))) (.aC (.c (.str (S "/"))) .aN)))) (.cmp .Eq (.v 3) (.c (.tup [(.str (S "number")),(.int 1)])))) (.seq (.ret (.tupE (.aC (.c (.str (S "put"))) (.aC (.ix (.v 0) (.c (.int 1))) (.aC (.v 1) (.aC (.c (.str (S "+"))) (.aC (.c (.tup [(.str (S "number")),(.int 0)])) .aN)))))))
 .skip) .skip)
 (.seq (.ret (.v 0))
 .skip))))))⟩
def Xi:FD:=⟨1,1,(.seq (.ite (.call 73 (.aC (.ix (.v 0) (.c (.int 2))) (.aC (.ix (.v 0) (.c (.int 4))) .aN)) []) (.seq (.ret (.tupE (.aC (.c (.str (S "put"))) (.aC (.ix (.v 0) (.c (.int 1))) (.aC (.tupE (.aC (.c (.str (S "number"))) (.aC (.call 3 (.aC (.ix (.ix (.v 0) (.c (.int 2))) (.c (.int 1))) (.aC (.ix (.v 0) (.c (.int 3))) (.aC (.ix (.ix (.v 0) (.c (.int 4))) (.c (.int 1))) .aN))) []) .aN))) (.aC (.c (.str (S "+"))) (.aC (.c (.tup [(.str (S "number")),(.int 0)])) .aN)))))))
 .skip) .skip)
 (.seq (.set 0 (.call 75 (.aC (.v 0) .aN) []))
 (.seq (.ite (.cmp .In (.ix (.v 0) (.c (.int 3))) (.tupE (.aC (.c (.str (S "+"))) (.aC (.c (.str (S "*"))) .aN)))) (.seq (.set 0 (.call 74 (.aC (.v 0) (.aC (.c (.int 2)) (.aC (.c (.int 4)) .aN))) []))
 .skip) .skip)
 (.seq (.set 0 (.call 76 (.aC (.v 0) .aN) []))
 (.seq (.ite (.cmp .Eq (.v 0) (.tupE (.aC (.c (.str (S "put"))) (.aC (.ix (.v 0) (.c (.int 1))) (.aC (.tupE (.aC (.c (.str (S "name"))) (.aC (.ix (.v 0) (.c (.int 1))) .aN))) (.aC (.c (.str (S "+"))) (.aC (.c (.tup [(.str (S "number")),(.int 0)])) .aN))))))) (.seq (.ret (.c (.tup [(.str (S "skip"))])))
 .skip) .skip)
 (.seq (.ret (.v 0))
 .skip))))))⟩
def ZZ:FD:=⟨1,1,(.seq (.ite (.cmp .Eq (.ix (.v 0) (.c (.int 2))) (.c (.str (S ">")))) (.seq (.ret (.tupE (.aC (.c (.str (S "if"))) (.aC (.ix (.v 0) (.c (.int 3))) (.aC (.c (.str (S "<"))) (.aC (.ix (.v 0) (.c (.int 1))) (.aC (.ix (.v 0) (.c (.int 4))) .aN)))))))
 .skip) .skip)
 (.seq (.ite (.cmp .Eq (.ix (.v 0) (.c (.int 2))) (.c (.str (S ">=")))) (.seq (.ret (.tupE (.aC (.c (.str (S "if"))) (.aC (.ix (.v 0) (.c (.int 3))) (.aC (.c (.str (S "<="))) (.aC (.ix (.v 0) (.c (.int 1))) (.aC (.ix (.v 0) (.c (.int 4))) .aN)))))))
 .skip) .skip)
 (.seq (.ret (.v 0))
 .skip)))⟩
noncomputable def YH:FD:=⟨1,1,(.seq (.ret (.or (.call 73 (.aC (.ix (.v 0) (.c (.int 1))) (.aC (.ix (.v 0) (.c (.int 3))) .aN)) []) (.cmp .Eq (.ix (.v 0) (.c (.int 1))) (.ix (.v 0) (.c (.int 3))))))
 .skip)⟩
def XI:FD:=⟨1,2,(.seq (.set 1 (.call 4 (.aC (.ix (.ix (.v 0) (.c (.int 1))) (.c (.int 1))) (.aC (.ix (.v 0) (.c (.int 2))) (.aC (.ix (.ix (.v 0) (.c (.int 3))) (.c (.int 1))) .aN))) []))
 (.seq (.ret (.ife (.v 1) (.tupE (.aC (.c (.str (S "go"))) (.aC (.ix (.v 0) (.c (.int 4))) .aN))) (.c (.tup [(.str (S "skip"))]))))
 .skip))⟩
def Ym:FD:=⟨1,3,(.seq (.set 1 (.ix (.v 0) (.c (.int 1))))
 (.seq (.set 2 (.ix (.v 0) (.c (.int 3))))
 (.seq (.ite (.cmp .NotEq (.ix (.v 0) (.c (.int 2))) (.c (.str (S "<=")))) (.seq (.ret (.v 0))
 .skip) .skip)
 (.seq (.ite (.and (.cmp .Eq (.ix (.v 2) (.c (.int 0))) (.c (.str (S "number")))) (.cmp .Lt (.ix (.v 2) (.c (.int 1))) (.c (.int 999999999)))) (.seq (.ret (.tupE (.aC (.c (.str (S "if"))) (.aC (.v 1) (.aC (.c (.str (S "<"))) (.aC (.tupE (.aC (.c (.str (S "number"))) (.aC (.bin .Add (.ix (.v 2) (.c (.int 1))) (.c (.int 1))) .aN))) (.aC (.ix (.v 0) (.c (.int 4))) .aN)))))))
 .skip) .skip)
 (.seq (.ite (.and (.cmp .Eq (.ix (.v 1) (.c (.int 0))) (.c (.str (S "number")))) (.cmp .Gt (.ix (.v 1) (.c (.int 1))) (.c (.int (-1000000000))))) (.seq (.ret (.tupE (.aC (.c (.str (S "if"))) (.aC (.tupE (.aC (.c (.str (S "number"))) (.aC (.bin .Sub (.ix (.v 1) (.c (.int 1))) (.c (.int 1))) .aN))) (.aC (.c (.str (S "<"))) (.aC (.v 2) (.aC (.ix (.v 0) (.c (.int 4))) .aN)))))))
 .skip) .skip)
 (.seq (.ret (.v 0))
 .skip))))))⟩
def XH:FD:=⟨2,2,(.seq (.ite (.cmp .Eq (.ix (.v 0) (.c (.int 4))) (.bin .Add (.v 1) (.c (.int 1)))) (.seq (.ret (.c (.tup [(.str (S "skip"))])))
 .skip) .skip)
 (.seq (.set 0 (.call 78 (.aC (.v 0) .aN) []))
 (.seq (.ite (.call 79 (.aC (.v 0) .aN) []) (.seq (.ret (.call 80 (.aC (.v 0) .aN) []))
 .skip) .skip)
 (.seq (.ite (.cmp .In (.ix (.v 0) (.c (.int 2))) (.tupE (.aC (.c (.str (S "="))) (.aC (.c (.str (S "!="))) .aN)))) (.seq (.set 0 (.call 74 (.aC (.v 0) (.aC (.c (.int 1)) (.aC (.c (.int 3)) .aN))) []))
 .skip) .skip)
 (.seq (.ret (.call 81 (.aC (.v 0) .aN) []))
 .skip)))))⟩
def ZT:FD:=⟨2,2,(.seq (.ite (.cmp .Eq (.ix (.v 0) (.c (.int 0))) (.c (.str (S "put")))) (.seq (.ret (.call 77 (.aC (.v 0) .aN) []))
 .skip) .skip)
 (.seq (.ite (.cmp .Eq (.ix (.v 0) (.c (.int 0))) (.c (.str (S "if")))) (.seq (.ret (.call 82 (.aC (.v 0) (.aC (.v 1) .aN)) []))
 .skip) .skip)
 (.seq (.ite (.cmp .Eq (.v 0) (.tupE (.aC (.c (.str (S "go"))) (.aC (.bin .Add (.v 1) (.c (.int 1))) .aN)))) (.seq (.ret (.c (.tup [(.str (S "skip"))])))
 .skip) .skip)
 (.seq (.ret (.v 0))
 .skip))))⟩
def Xp:FD:=⟨2,2,(.seq (.ite (.cmp .GtE (.v 1) (.len (.ix (.v 0) (.c (.int 2))))) (.seq (.ret (.c (.tup [(.str (S "end"))])))
 .skip) .skip)
 (.seq (.ret (.call 83 (.aC (.ix (.ix (.v 0) (.c (.int 2))) (.v 1)) (.aC (.v 1) .aN)) []))
 .skip))⟩
def YG:FD:=⟨1,1,(.seq (.ret (.or (.cmp .Eq (.v 0) (.c (.tup [(.str (S "end"))]))) (.cmp .Eq (.ix (.v 0) (.c (.int 0))) (.c (.str (S "tell"))))))
 .skip)⟩
def Wf:CS:=(.seq (.ite (.and (.cmp .Eq (.ix (.ix (.v 0) (.v 2)) (.c (.int 0))) (.c (.str (S "name")))) (.not (.call 114 (.aC (.v 1) (.aC (.ix (.ix (.v 0) (.v 2)) (.c (.int 1))) .aN)) []))) (.seq (.ret (.c (.bl af)))
 .skip) .skip)
 .skip)
def YJ:FD:=⟨2,3,(.seq (.for1 2 af (.call 113 (.aC (.v 0) .aN) []) Wf)
 (.seq (.ret (.c (.bl ae)))
 .skip))⟩
def YU:FD:=⟨3,3,(.seq (.ret (.and (.cmp .Eq (.v 0) (.v 1)) (.or (.cmp .Eq (.v 0) (.c (.tup [(.str (S "end"))]))) (.call 117 (.aC (.v 0) (.aC (.v 2) .aN)) []))))
 .skip)⟩
def ZI:FD:=⟨3,3,(.seq (.ret (.and (.cmp .Eq (.ix (.v 0) (.c (.int 0))) (.c (.str (S "if")))) (.and (.cmp .Eq (.ix (.v 1) (.c (.int 0))) (.c (.str (S "if")))) (.and (.cmp .Eq (.slice (.v 0) (.part (.c (.int 1))) (.part (.c (.int 4)))) (.slice (.v 1) (.part (.c (.int 1))) (.part (.c (.int 4))))) (.call 117 (.aC (.v 0) (.aC (.v 2) .aN)) [])))))
 .skip)⟩
def Zy:CS:=(.seq (.ite (.cmp .Eq (.ix (.v 3) (.c (.int 0))) (.c (.str (S "put")))) (.seq (.set 2 (.call 57 (.aC (.v 2) (.aC (.ix (.v 3) (.c (.int 1))) .aN)) []))
 .skip) .skip)
 .skip)
def XJ:FD:=⟨3,4,(.seq (.ite (.and (.cmp .Eq (.ix (.v 0) (.c (.int 0))) (.c (.str (S "put")))) (.and (.cmp .Eq (.v 0) (.v 1)) (.call 117 (.aC (.v 0) (.aC (.v 2) .aN)) []))) (.seq (.ret (.bin .BitOr (.v 2) (.call 43 (.aC (.ix (.v 0) (.c (.int 1))) .aN) [])))
 .skip) .skip)
 (.seq (.for1 3 af (.tupE (.aC (.v 0) (.aC (.v 1) .aN))) Zy)
 (.seq (.ret (.v 2))
 .skip)))⟩
def ZE:FD:=⟨2,2,(.seq (.ite (.cmp .Eq (.ix (.v 0) (.c (.int 0))) (.c (.str (S "go")))) (.seq (.ret (.tupE (.aC (.ix (.v 0) (.c (.int 1))) .aN)))
 .skip) .skip)
 (.seq (.ite (.cmp .Eq (.ix (.v 0) (.c (.int 0))) (.c (.str (S "if")))) (.seq (.ret (.tupE (.aC (.ix (.v 0) (.c (.int 4))) (.aC (.bin .Add (.v 1) (.c (.int 1))) .aN))))
 .skip) .skip)
 (.seq (.ret (.tupE (.aC (.bin .Add (.v 1) (.c (.int 1))) .aN)))
 .skip)))⟩
noncomputable def UM:CE:=(.comp af [9,7] (.call 121 (.aC (.v 6) (.aC (.v 3) .aN)) []) (.tupE (.aC (.v 1) (.aC (.v 0) (.aC (.v 2) .aN)))) (.c (.bl ae)))
def UG:CS:=(.seq (.ext 8 UM)
 .skip)
def Wl:FD:=⟨5,10,(.seq (.set 5 (.call 115 (.aC (.v 0) (.aC (.v 2) .aN)) []))
 (.seq (.set 6 (.call 115 (.aC (.v 1) (.aC (.v 3) .aN)) []))
 (.seq (.ite (.or (.call 116 (.aC (.v 5) .aN) []) (.call 116 (.aC (.v 6) .aN) [])) (.seq (.ret (.ife (.call 118 (.aC (.v 5) (.aC (.v 6) (.aC (.v 4) .aN))) []) (.tupE .aN) (.c .non)))
 .skip) .skip)
 (.seq (.ite (.call 119 (.aC (.v 5) (.aC (.v 6) (.aC (.v 4) .aN))) []) (.seq (.ret (.tupE (.aC (.tupE (.aC (.ix (.v 5) (.c (.int 4))) (.aC (.ix (.v 6) (.c (.int 4))) (.aC (.v 4) .aN)))) (.aC (.tupE (.aC (.bin .Add (.v 2) (.c (.int 1))) (.aC (.bin .Add (.v 3) (.c (.int 1))) (.aC (.v 4) .aN)))) .aN))))
 .skip) .skip)
 (.seq (.set 7 (.call 120 (.aC (.v 5) (.aC (.v 6) (.aC (.v 4) .aN))) []))
 (.seq (.set 8 (.lstE .aN))
 (.seq (.for1 9 af (.call 121 (.aC (.v 5) (.aC (.v 2) .aN)) []) UG)
 (.seq (.ret (.tOf (.v 8)))
 .skip))))))))⟩
noncomputable def Yb:FD:=⟨2,10,(.seq (.set 2 (.dd (.c (.int 0)) (.c (.int 0)) (.call 56 (.aC (.ix (.v 0) (.c (.int 1))) .aN) [])))
 (.seq (.set 3 (.lstE (.aC (.tupE (.aC (.c (.int 0)) (.aC (.c (.int 0)) .aN))) .aN)))
 (.seq (.whl (.cmp .Gt (.len (.v 3)) (.c (.int 0))) (.seq (.set 4 (.pop (.v 3)))
 (.seq (.set 5 (.call 122 (.aC (.v 0) (.aC (.v 1) (.aC (.ix (.v 4) (.c (.int 0))) (.aC (.ix (.v 4) (.c (.int 1))) (.aC (.ix (.v 2) (.v 4)) .aN))))) []))
 (.seq (.ite (.cmp .Is (.v 5) (.c .non)) (.seq (.ret (.c .non))
 .skip) .skip)
 (.seq (.for4 6 7 8 (.v 5) (.seq (.set 9 (.bin .BitAnd (.v 8) (.dgN (.v 2) (.tupE (.aC (.v 6) (.aC (.v 7) .aN))) (.v 8))))
 (.seq (.ite (.cmp .NotEq (.dgN (.v 2) (.tupE (.aC (.v 6) (.aC (.v 7) .aN))) (.c .non)) (.v 9)) (.seq (.dput 2 (.v 6) (.v 7) (.v 9))
 (.seq (.app 3 (.tupE (.aC (.v 6) (.aC (.v 7) .aN))))
 .skip)) .skip)
 .skip)))
 .skip)))))
 (.seq (.ret (.tOf (.compT [2] (.ksrt (.v 2)) (.tupE (.aC (.v 0) (.aC (.v 1) (.aC (.ix (.v 2) (.tupE (.aC (.v 0) (.aC (.v 1) .aN)))) .aN)))) (.c (.bl ae)))))
 .skip))))⟩
noncomputable def Wn:FD:=⟨2,3,(.seq (.set 2 (.slice (.v 0) .nop (.part (.c (.int 2)))))
 (.seq (.ret (.and (.cmp .In (.v 2) (.v 1)) (.call 45 (.aC (.ix (.v 1) (.v 2)) (.aC (.ix (.v 0) (.c (.int 2))) .aN)) [])))
 .skip))⟩
noncomputable def WP:CE:=(.comp af [3] (.v 4) (.call 202 (.aC (.v 0) (.aC (.v 1) .aN)) []) (.c (.bl ae)))
def YV:FD:=⟨4,5,(.seq (.set 4 (.call 122 (.aC (.v 0) (.aC (.v 1) (.aC (.ix (.v 2) (.c (.int 0))) (.aC (.ix (.v 2) (.c (.int 1))) (.aC (.ix (.v 2) (.c (.int 2))) .aN))))) []))
 (.seq (.ret (.and (.cmp .IsNot (.v 4) (.c .non)) (.all WP)))
 .skip))⟩
noncomputable def YZ:CE:=(.comp af [3,0,1] (.v 2) (.call 203 (.aC (.v 2) (.aC (.v 3) (.aC (.v 0) (.aC (.v 1) .aN)))) []) (.c (.bl ae)))
def YI:FD:=⟨3,7,(.seq (.set 3 .dnew)
 (.seq (.for4 4 5 6 (.v 2) (.seq (.dput 3 (.v 4) (.v 5) (.v 6))
 .skip))
 (.seq (.ite (.or (.cmp .NotEq (.len (.v 3)) (.len (.v 2))) (.cmp .NotIn (.tupE (.aC (.c (.int 0)) (.aC (.c (.int 0)) .aN))) (.v 3))) (.seq (.ret (.c (.bl af)))
 .skip) .skip)
 (.seq (.ret (.all YZ))
 .skip))))⟩
noncomputable def Yj:FD:=⟨2,2,(.seq (.ite (.cmp .Lt (.v 1) (.len (.v 0))) (.seq (.ret (.ix (.v 0) (.v 1)))
 .skip) .skip)
 (.seq (.ite (.cmp .Eq (.v 0) (.lstE .aN)) (.seq (.ret (.bin .Mod (.bin .Mult (.bin .Add (.bin .Add (.bin .Mult (.v 1) (.v 1)) (.bin .Mult (.c (.int 3)) (.v 1))) (.c (.int 1))) (.c (.int 16807))) (.c (.int 2147483629))))
 .skip) .skip)
 (.seq (.ret (.bin .Mod (.bin .Mult (.bin .Add (.bin .Mod (.ix (.v 0) (.neg (.c (.int 1)))) (.c (.int 1000003))) (.c (.int 2))) (.bin .Add (.bin .Mult (.v 1) (.v 1)) (.c (.int 16807)))) (.c (.int 2147483629))))
 .skip)))⟩
noncomputable def YE:FD:=⟨1,1,(.seq (.ite (.cmp .Eq (.bin .Mod (.v 0) (.c (.int 4))) (.c (.int 0))) (.seq (.ret (.bin .Sub (.bin .Mod (.bin .FloorDiv (.v 0) (.c (.int 4))) (.c (.int 9))) (.c (.int 4))))
 .skip) .skip)
 (.seq (.ite (.cmp .Eq (.bin .Mod (.v 0) (.c (.int 4))) (.c (.int 1))) (.seq (.ret (.ix (.lstE (.aC (.neg (.c (.int 1000000000))) (.aC (.neg (.c (.int 999999999))) (.aC (.neg (.c (.int 1))) (.aC (.c (.int 0)) (.aC (.c (.int 1)) (.aC (.c (.int 999999998)) (.aC (.c (.int 999999999)) .aN)))))))) (.bin .Mod (.bin .FloorDiv (.v 0) (.c (.int 4))) (.c (.int 7)))))
 .skip) .skip)
 (.seq (.ret (.bin .Sub (.bin .Mod (.bin .Mult (.bin .FloorDiv (.v 0) (.c (.int 4))) (.c (.int 69621))) (.c (.int 2000000000))) (.c (.int 1000000000))))
 .skip)))⟩
def Yl:FD:=⟨2,2,(.seq (.ite (.and (.cmp .Gt (.v 1) (.c (.int 0))) (.cmp .Gt (.bin .Mod (.v 0) (.c (.int 3))) (.c (.int 0)))) (.seq (.ret (.tupE (.aC (.c (.str (S "name"))) (.aC (.bin .Mod (.bin .FloorDiv (.v 0) (.c (.int 3))) (.v 1)) .aN))))
 .skip) .skip)
 (.seq (.ret (.tupE (.aC (.c (.str (S "number"))) (.aC (.call 20 (.aC (.bin .FloorDiv (.v 0) (.c (.int 3))) .aN) []) .aN))))
 .skip))⟩
def Xg:FD:=⟨3,5,(.seq (.set 3 (.call 28 (.aC (.ix (.v 0) (.c (.int 1))) (.aC (.v 1) .aN)) []))
 (.seq (.set 4 (.call 28 (.aC (.ix (.v 0) (.c (.int 2))) (.aC (.v 1) .aN)) []))
 (.seq (.ite (.and (.cmp .Lt (.bin .Mod (.ix (.v 0) (.c (.int 0))) (.c (.int 8))) (.c (.int 4))) (.cmp .Gt (.v 1) (.c (.int 0)))) (.seq (.ret (.tupE (.aC (.c (.str (S "put"))) (.aC (.bin .Mod (.ix (.v 0) (.c (.int 3))) (.v 1)) (.aC (.v 3) (.aC (.ix (.lstE (.aC (.c (.str (S "+"))) (.aC (.c (.str (S "-"))) (.aC (.c (.str (S "*"))) (.aC (.c (.str (S "/"))) (.aC (.c (.str (S "mod"))) .aN)))))) (.bin .Mod (.bin .FloorDiv (.ix (.v 0) (.c (.int 0))) (.c (.int 8))) (.c (.int 5)))) (.aC (.v 4) .aN)))))))
 .skip) .skip)
 (.seq (.ite (.cmp .Lt (.bin .Mod (.ix (.v 0) (.c (.int 0))) (.c (.int 8))) (.c (.int 6))) (.seq (.ret (.tupE (.aC (.c (.str (S "if"))) (.aC (.v 3) (.aC (.ix (.lstE (.aC (.c (.str (S "<"))) (.aC (.c (.str (S "<="))) (.aC (.c (.str (S "="))) (.aC (.c (.str (S ">="))) (.aC (.c (.str (S ">"))) (.aC (.c (.str (S "!="))) .aN))))))) (.bin .Mod (.bin .FloorDiv (.ix (.v 0) (.c (.int 0))) (.c (.int 8))) (.c (.int 6)))) (.aC (.v 4) (.aC (.bin .Mod (.ix (.v 0) (.c (.int 3))) (.bin .Add (.v 2) (.c (.int 1)))) .aN)))))))
 .skip) .skip)
 (.seq (.ite (.cmp .Eq (.bin .Mod (.ix (.v 0) (.c (.int 0))) (.c (.int 8))) (.c (.int 6))) (.seq (.ret (.tupE (.aC (.c (.str (S "tell"))) (.aC (.v 3) .aN))))
 .skip) .skip)
 (.seq (.ret (.ix (.lstE (.aC (.tupE (.aC (.c (.str (S "go"))) (.aC (.bin .Mod (.ix (.v 0) (.c (.int 3))) (.bin .Add (.v 2) (.c (.int 1)))) .aN))) (.aC (.tupE (.aC (.c (.str (S "skip"))) .aN)) .aN))) (.bin .Mod (.bin .FloorDiv (.ix (.v 0) (.c (.int 0))) (.c (.int 8))) (.c (.int 2)))))
 .skip))))))⟩
def ZC:FD:=⟨2,2,(.seq (.ite (.cmp .Eq (.ix (.v 0) (.c (.int 0))) (.c (.str (S "if")))) (.seq (.ret (.bin .Add (.slice (.v 0) .nop (.part (.c (.int 4)))) (.tupE (.aC (.ix (.v 1) (.ix (.v 0) (.c (.int 4)))) .aN))))
 .skip) .skip)
 (.seq (.ite (.cmp .Eq (.ix (.v 0) (.c (.int 0))) (.c (.str (S "go")))) (.seq (.ret (.tupE (.aC (.c (.str (S "go"))) (.aC (.ix (.v 1) (.ix (.v 0) (.c (.int 1)))) .aN))))
 .skip) .skip)
 (.seq (.ret (.v 0))
 .skip)))⟩
def Zp:FD:=⟨1,2,(.seq (.ite (.and (.cmp .Eq (.ix (.v 0) (.c (.int 0))) (.c (.str (S "put")))) (.cmp .In (.ix (.v 0) (.c (.int 3))) (.lstE (.aC (.c (.str (S "+"))) (.aC (.c (.str (S "*"))) .aN))))) (.seq (.ret (.tupE (.aC (.c (.str (S "put"))) (.aC (.ix (.v 0) (.c (.int 1))) (.aC (.ix (.v 0) (.c (.int 4))) (.aC (.ix (.v 0) (.c (.int 3))) (.aC (.ix (.v 0) (.c (.int 2))) .aN)))))))
 .skip) .skip)
 (.seq (.ite (.cmp .Eq (.ix (.v 0) (.c (.int 0))) (.c (.str (S "if")))) (.seq (.set 1 (.dget (.dict [(S "<"),(S "<="),(S ">"),(S ">=")] (.aC (.c (.str (S ">"))) (.aC (.c (.str (S ">="))) (.aC (.c (.str (S "<"))) (.aC (.c (.str (S "<="))) .aN))))) (.ix (.v 0) (.c (.int 2))) (.ix (.v 0) (.c (.int 2)))))
 (.seq (.ret (.tupE (.aC (.c (.str (S "if"))) (.aC (.ix (.v 0) (.c (.int 3))) (.aC (.v 1) (.aC (.ix (.v 0) (.c (.int 1))) (.aC (.ix (.v 0) (.c (.int 4))) .aN)))))))
 .skip)) .skip)
 (.seq (.ret (.v 0))
 .skip)))⟩
noncomputable def XO:CE:=(.comp ae [6] (.v 2) (.bin .Add (.v 0) (.v 1)) (.c (.bl ae)))
def YA:CS:=(.seq (.set 6 (.bin .Mult (.bin .Mod (.bin .Mod (.bin .Mult (.bin .Add (.bin .Mod (.v 1) (.c (.int 1000003))) (.c (.int 1))) (.bin .Add (.bin .Add (.bin .Mult (.v 5) (.v 5)) (.bin .Mult (.c (.int 13)) (.v 4))) (.c (.int 5)))) (.c (.int 10007))) (.c (.int 2))) (.v 2)))
 (.seq (.app 3 (.call 123 (.aC (.ix (.v 0) (.v 5)) (.aC (.bin .Add XO (.lstE (.aC (.bin .Mult (.c (.int 2)) (.v 2)) .aN))) .aN)) []))
 .skip))
def Z7:CS:=(.seq (.for1 5 ae (.v 2) YA)
 .skip)
def Yk:FD:=⟨2,7,(.seq (.set 2 (.len (.v 0)))
 (.seq (.set 3 (.lstE .aN))
 (.seq (.for1 4 ae (.c (.int 2)) Z7)
 (.seq (.ret (.v 3))
 .skip))))⟩
noncomputable def WO:CE:=(.comp ae [5,0] (.c (.int 4)) (.call 27 (.aC (.v 2) (.aC (.bin .Add (.bin .Add (.c (.int 10)) (.bin .Mult (.c (.int 4)) (.v 1))) (.v 0)) .aN)) []) (.c (.bl ae)))
def WM:CS:=(.seq (.app 4 (.call 29 (.aC WO (.aC (.v 1) (.aC (.v 3) .aN))) []))
 .skip)
def YT:FD:=⟨3,6,(.seq (.set 3 (.bin .Mod (.call 27 (.aC (.v 0) (.aC (.c (.int 6)) .aN)) []) (.c (.int 13))))
 (.seq (.ite (.or (.cmp .Eq (.v 2) (.c (.int 5))) (.cmp .Eq (.v 2) (.c (.int 6)))) (.seq (.set 3 (.bin .Mod (.v 3) (.c (.int 7))))
 .skip) .skip)
 (.seq (.set 4 (.lstE .aN))
 (.seq (.for1 5 ae (.v 3) WM)
 (.seq (.ite (.and (.cmp .In (.v 2) (.lstE (.aC (.c (.int 5)) (.aC (.c (.int 6)) .aN)))) (.and (.cmp .Gt (.v 3) (.c (.int 0))) (.cmp .NotIn (.ix (.ix (.v 4) (.neg (.c (.int 1)))) (.c (.int 0))) (.lstE (.aC (.c (.str (S "go"))) (.aC (.c (.str (S "tell"))) .aN)))))) (.seq (.put 4 (.neg (.c (.int 1))) (.tupE (.aC (.c (.str (S "go"))) (.aC (.bin .Mod (.call 27 (.aC (.v 0) (.aC (.bin .Add (.c (.int 9)) (.bin .Mult (.c (.int 4)) (.v 3))) .aN)) []) (.bin .Add (.v 3) (.c (.int 1)))) .aN))))
 .skip) .skip)
 (.seq (.ret (.v 4))
 .skip))))))⟩
noncomputable def Xs:CE:=(.comp af [] (.v 5) (.call 124 (.aC (.v 0) .aN) []) (.c (.bl ae)))
noncomputable def Xt:CE:=(.comp ae [0] (.c (.int 4)) (.call 27 (.aC (.v 1) (.aC (.bin .Add (.c (.int 2)) (.v 0)) .aN)) []) (.c (.bl ae)))
abbrev jN(n:Nat):Option D:=aa (.int n)
abbrev jI(n:Int):Option D:=aa (.int n)
abbrev jL(n:Nat):Option D:=aa (.lst n)
noncomputable abbrev CE.i(n:Int):CE:=.c (.int n)
noncomputable abbrev CE.t(s:String):CE:=.c (.str (S s))
noncomputable abbrev CE.u(a:CE):CE:=.aC a .aN
noncomputable abbrev CS.z(a:CS):CS:=.seq a .skip
noncomputable abbrev CS.w(c:CE)(a:CS):CS:=.ite c a .skip
abbrev CE.f(n:Nat)(a:CE):CE:=.call n a []
abbrev CE.x(n:Nat)(i:Int):CE:=.ix (.v n) (.i i)
abbrev CE.a(n:Nat)(b:CE):CE:=.aC (.v n) b
abbrev CE.s(n:Nat):CE:=.u (.v n)
abbrev CE.e(a b:CE):CE:=.cmp .Eq a b
abbrev CE.p(a b:CE):CE:=.bin .Add a b
abbrev CE.m(a b:CE):CE:=.bin .Mod a b
abbrev CE.h(a b:CE):CE:=.bin .Mult a b
abbrev CE.k(a b:CE):CE:=.bin .FloorDiv a b
abbrev CE.l(a b:CE):CE:=.bin .Sub a b
abbrev CE.g(a:CE):CE:=.tupE a
abbrev CS.y(n:Nat)(a:CE)(b:CS):CS:=.seq (.set n a) b
abbrev CS.k(a:CE)(b c:CS):CS:=.seq (.w a b) c
abbrev CS.q(a:CE):CS:=.z (.ret a)
def c__law_two:FD:=⟨1,12,(.y 1 (.f 27 (.a 0 (.u (.i 0))))
 (.y 2 (.m (.v 1) (.i 4))
 (.y 3 (.p (.v 2) (.m (.k (.v 1) (.i 4)) (.l (.i 6) (.v 2))))
 (.y 4 (.m (.f 27 (.a 0 (.u (.i 1)))) (.i 8))
 (.y 5 (.f 126 (.a 0 (.a 3 (.s 4))))
 (.y 6 (.len (.v 5))
 (.y 7 (.listOf (.v 5))
 (.k (.or (.e (.v 4) (.i 1)) (.e (.v 4) (.i 4))) (.z (.set 7 Xs))
 (.k (.or (.e (.v 4) (.i 5)) (.e (.v 4) (.i 6))) (.z (.set 7 (.f 125 (.a 5 (.u (.f 27 (.a 0 (.u (.i 2)))))))))
 (.k (.e (.v 4) (.i 7)) (.z (.set 7 (.rs af (.v 5))))
 (.k (.and (.cmp .In (.v 4) (.lstE (.aC (.i 2) (.aC (.i 3) (.aC (.i 4) (.u (.i 6))))))) (.cmp .Gt (.v 6) (.i 0))) (.y 8 (.l (.l (.len (.v 7)) (.i 1)) (.m (.k (.f 27 (.a 0 (.u (.i 1)))) (.i 8)) (.v 6)))
 (.y 9 (.f 29 (.aC Xt (.a 3 (.s 6))))
 (.k (.and (.e (.x 9 0) (.t "put")) (.e (.ix (.ix (.v 7) (.v 8)) (.i 0)) (.t "put"))) (.z (.set 9 (.p (.p (.slice (.v 9) .nop (.part (.i 1))) (.slice (.ix (.v 7) (.v 8)) (.part (.i 1)) (.part (.i 2)))) (.slice (.v 9) (.part (.i 2)) .nop))))
 (.z (.put 7 (.v 8) (.v 9))))))
 (.y 10 (.g (.aC (.h (.g (.u (.g (.aC (.i 0) (.u (.i 4)))))) (.v 2)) (.a 3 (.u (.tOf (.v 5))))))
 (.y 11 (.g (.aC (.h (.g (.u (.g (.aC (.neg (.i 9)) (.u (.i 9)))))) (.v 2)) (.a 3 (.u (.tOf (.v 7))))))
 (.k (.e (.m (.k (.f 27 (.a 0 (.u (.i 1)))) (.i 104)) (.i 2)) (.i 1)) (.q (.g (.a 11 (.s 10))))
 (.q (.g (.a 10 (.s 11))))))))))))))))))⟩
def Zd0:FD:=⟨3,11,(.y 3 .dnew
 (.seq (.for4 4 5 6 (.v 0) (.z (.dput 3 (.v 4) (.v 5) (.v 6))))
 (.k (.or (.cmp .NotEq (.len (.v 3)) (.len (.v 0))) (.cmp .NotIn (.g (.aC (.i 0) (.u (.i 0)))) (.v 3))) (.q (.c (.bl af)))
 (.seq (.for4 4 5 6 (.v 0) (.y 7 (.f 122 (.a 1 (.a 2 (.a 4 (.a 5 (.s 6))))))
 (.k (.cmp .Is (.v 7) (.c .non)) (.q (.c (.bl af)))
 (.z (.for4 8 9 10 (.v 7) (.z (.w (.or (.cmp .NotIn (.g (.a 8 (.s 9))) (.v 3)) (.cmp .NotEq (.bin .BitOr (.ix (.v 3) (.g (.a 8 (.s 9)))) (.v 10)) (.v 10))) (.q (.c (.bl af))))))))))
 (.q (.c (.bl ae)))))))⟩
def c__law_under:FD:=⟨2,6,(.y 2 .dnew
 (.seq (.for4 3 4 5 (.v 1) (.z (.dput 2 (.v 3) (.v 4) (.v 5))))
 (.seq (.for4 3 4 5 (.v 0) (.z (.w (.or (.cmp .NotIn (.g (.a 3 (.s 4))) (.v 2)) (.cmp .NotEq (.bin .BitOr (.ix (.v 2) (.g (.a 3 (.s 4)))) (.v 5)) (.v 5))) (.q (.c (.bl af))))))
 (.q (.c (.bl ae))))))⟩
def c__law_no_less:FD:=⟨5,9,(.y 5 (.m (.v 3) (.len (.v 0)))
 (.k (.cmp .IsNot (.f 204 (.a 1 (.a 2 (.u (.p (.slice (.v 0) .nop (.part (.v 5))) (.slice (.v 0) (.part (.p (.v 5) (.i 1))) .nop)))))) (.c (.bl af))) (.q (.c (.bl af)))
 (.seq (.set3 6 7 8 (.ix (.v 0) (.v 5)))
 (.k (.or (.cmp .GtE (.v 4) (.x 1 1)) (.e (.m (.k (.v 8) (.bin .LShift (.i 1) (.v 4))) (.i 2)) (.i 1))) (.q (.c (.bl ae)))
 (.q (.cmp .Is (.f 204 (.a 1 (.a 2 (.u (.p (.p (.slice (.v 0) .nop (.part (.v 5))) (.g (.u (.g (.a 6 (.a 7 (.u (.p (.v 8) (.bin .LShift (.i 1) (.v 4)))))))))) (.slice (.v 0) (.part (.p (.v 5) (.i 1))) .nop)))))) (.c (.bl af))))))))⟩
def c_law_k42:FD:=⟨1,6,(.seq (.set2 1 2 (.f 47 (.s 0)))
 (.y 3 (.f 201 (.a 1 (.s 2)))
 (.y 4 (.f 294 (.a 1 (.a 2 (.u (.l (.bin .LShift (.i 1) (.x 1 1)) (.i 1))))))
 (.seq (.ite (.cmp .Is (.v 4) (.c .non)) (.z (.w (.cmp .IsNot (.v 3) (.c .non)) (.q (.c (.bl af))))) (.z (.w (.or (.not (.isi .tuple (.v 3))) (.cmp .NotEq (.listOf (.v 3)) (.v 4))) (.q (.c (.bl af))))))
 (.y 5 (.f 294 (.a 1 (.a 2 (.u (.m (.f 27 (.a 0 (.u (.i 9)))) (.bin .LShift (.i 1) (.x 1 1)))))))
 (.k (.cmp .IsNot (.v 5) (.c .non)) (.k (.or (.cmp .Is (.v 3) (.c .non)) (.not (.f 55 (.a 3 (.s 5))))) (.q (.c (.bl af)))
 (.z (.w (.or (.cmp .IsNot (.f 204 (.a 1 (.a 2 (.u (.tOf (.v 5)))))) (.c (.bl ae))) (.cmp .IsNot (.f 204 (.a 1 (.a 2 (.u (.tOf (.rs af (.v 5))))))) (.c (.bl ae)))) (.q (.c (.bl af))))))
 (.k (.cmp .Is (.v 3) (.c .non)) (.q (.c (.bl ae)))
 (.q (.f 295 (.a 3 (.a 1 (.a 2 (.aC (.k (.f 27 (.a 0 (.u (.i 8)))) (.i 5)) (.u (.m (.f 27 (.a 0 (.u (.i 8)))) (.i 5))))))))))))))))⟩
def c__law_closed:FD:=⟨3,12,(.y 3 (.dd (.i 0) (.i 0) (.v 2))
 (.y 4 (.lstE (.u (.g (.aC (.i 0) (.u (.i 0))))))
 (.seq (.whl (.cmp .NotEq (.v 4) (.lstE .aN)) (.seq (.set2 5 6 (.popz (.v 4) (.i 0)))
 (.y 7 (.f 122 (.a 0 (.a 1 (.a 5 (.a 6 (.u (.ix (.v 3) (.g (.a 5 (.s 6))))))))))
 (.k (.cmp .Is (.v 7) (.c .non)) (.q (.c .non))
 (.z (.for4 8 9 10 (.v 7) (.y 11 (.dgN (.v 3) (.g (.a 8 (.s 9))) (.c .non))
 (.z (.w (.or (.cmp .Is (.v 11) (.c .non)) (.cmp .NotEq (.bin .BitAnd (.v 11) (.v 10)) (.v 11))) (.seq (.dput 3 (.v 8) (.v 9) (.v 10))
 (.k (.cmp .IsNot (.v 11) (.c .non)) (.z (.dput 3 (.v 8) (.v 9) (.bin .BitAnd (.v 10) (.v 11))))
 (.z (.app 4 (.g (.a 8 (.s 9))))))))))))))))
 (.q (.compT [3] (.ksrt (.v 3)) (.g (.a 0 (.a 1 (.u (.ix (.v 2) (.g (.a 0 (.s 1)))))))) (.c (.bl ae)))))))⟩
end Dp
noncomputable section
namespace Dp
open PySem
def T:Nat->Ot FD
 |42=>aa Xj
 |113=>aa Z8
 |43=>aa Wj
 |56=>aa Xh
 |114=>aa XG
 |57=>aa Yx
 |45=>aa YF
 |0=>aa Wi
 |1=>aa Y9
 |2=>aa Yt
 |3=>aa Wm
 |4=>aa Vd
 |73=>aa Yw
 |74=>aa Z1
 |75=>aa Z0
 |76=>aa ZN
 |77=>aa Xi
 |78=>aa ZZ
 |79=>aa YH
 |80=>aa XI
 |81=>aa Ym
 |82=>aa XH
 |83=>aa ZT
 |115=>aa Xp
 |116=>aa YG
 |117=>aa YJ
 |118=>aa YU
 |119=>aa ZI
 |120=>aa XJ
 |121=>aa ZE
 |122=>aa Wl
 |201=>aa Yb
 |202=>aa Wn
 |203=>aa YV
 |204=>aa YI
 |27=>aa Yj
 |20=>aa YE
 |28=>aa Yl
 |29=>aa Xg
 |123=>aa ZC
 |124=>aa Zp
 |125=>aa Yk
 |126=>aa YT
 |47=>aa c__law_two
 |294=>aa c__law_closed
 |55=>aa c__law_under
 |295=>aa c__law_no_less
 |16=>aa c_law_k42
 |_=>ab
abbrev rT:=run T
structure Grw(s s':Za):Prop where
 old:∀ i,i < s.length->s'[i]?=s[i]?
 len:s.length<=s'.length
variable{α:Type}{U':Env}{fr:Li Nat}{it elt:CE}{hi:Ot Int}
variable{F:Nat->Fn}{s st:Za}{e a b:CE}{U:Env}{d x y:D}{q p:CS}{n f i j w:Nat}{xs ds:Li D}
section
variable{s' s1 s2:Za}{c:CE}{z:D}{k m:Bool}{t:YO}
def Zw{l:Li α}{x:α}(h:l[i]?=aa x):i < l.length:=(bG.mp h).1
def Grw.refl:Grw s s:=⟨λ_ _=>rfl,aB _⟩
theorem Grw.trans(a:Grw s s1)(b:Grw s1 s2):Grw s s2:=⟨λi h=>(b.old i (aT h a.len)).trans (a.old i h),aJ a.len b.len⟩
def Grw.get(g:Grw s s')(h:s[i]?=aa t):s'[i]?=aa t:=(g.old i (Zw h)).trans h
def Grw.push:Grw s (s++[t]):=⟨λi h=>bP h,by rw[aH];omega⟩
def Grw.nil:Grw [] s:=⟨λ_ h=>au h (Nat.not_lt_zero _),aR _⟩
def Gv(s:Za)(f:Za->Res)(d:D):Prop:=∀ st,Grw s st->∃ st',f st=aa (d,st')/\Grw st st'
def Y(F:Nat->Fn)(s:Za)(e:CE)(U:Env)(d:D):Prop:=Gv s (ev F e U) d
def C(F:Nat->Fn)(s:Za)(f:Nat)(ds:Li D)(d:D):Prop:=Gv s (F f ds) d
def R(F:Nat->Fn)(s:Za)(q:CS)(U:Env)(d:D):Prop:=∀ st,Grw s st->∃ st',ex F q U st=aa (.rt d,st')/\Grw st st'
def rf{f:Za->Res}(x:Za):f x=f x:=rfl
def Y.r(h:∀ st,ev F e U st=aa (d,st)):Y F s e U d:=λst _=>⟨st,h st,.refl⟩
def Y.at(h:∀ st,Grw s st->ev F e U st=aa (d,st)):Y F s e U d:=λst g=>⟨st,h st g,.refl⟩
def Gv.mono{f:Za->Res}(h:Gv s f d)(g:Grw s s'):Gv s' f d:=λst k=>h st (g.trans k)
def C.up(h:C F [] f ds d):C F s f ds d:=Gv.mono h .nil
def g1{g:D->Za->Res}(e:Y F s a U x)(h:Gv s (g x) d):Gv s (Zl (ev F a) g U) d:=λst k=>by
 obtain⟨s1,i,b⟩:=e st k;obtain⟨s2,f,c⟩:=h s1 (k.trans b);exact⟨s2,by unfold Zl;rw[i];exact f,b.trans c⟩
def g2{g:D->D->Za->Res}(l:Y F s a U x)(j:Y F s b U y)(h:Gv s (g x y) d):Gv s (ZH (ev F a) (ev F b) g U) d:=λst k=>by
 obtain⟨s1,o,c⟩:=l st k;obtain⟨s2,n,e⟩:=j s1 (k.trans c);obtain⟨f,m,i⟩:=h s2 (k.trans (c.trans e));exact⟨f,by unfold ZH;rw[o];simp only[n];exact m,c.trans (e.trans i)⟩
def gp{f:Za->Res}(h:∀ st,f st=aa (d,st)):Gv s f d:=λst _=>⟨st,h st,.refl⟩
def gs{f:Za->Res}(h:∀ st,Grw s st->f st=aa (d,st)):Gv s f d:=λst k=>⟨st,h st k,.refl⟩
theorem Y.cmp{op:CmpOp}(d:Y F s a U x)(c:Y F s b U y)(h:∀ st,Q0 op x y st=aa k):Y F s (.cmp op a b) U (.bl k):=g2 d c (gp λst=>by unfold XL;rw[h])
def gc{e b c:Ev}(i:Gv s (e U) (.bl k))(h:Gv s ((if k then b else c) U) d):Gv s (YY e b c U) d:=λst g=>by
 obtain⟨s1,l,a⟩:=i st g;obtain⟨s2,j,f⟩:=h s1 (g.trans a);exact⟨s2,by unfold YY;rw[l];cases k<;>exact j,a.trans f⟩
theorem Y.and(c:Y F s a U (.bl k))(d:k=ae->Y F s b U (.bl m)):Y F s (.and a b) U (.bl (k&&m)):=by
 cases k
 .exact gc c (gp λ_=>rfl)
 .exact gc c (d rfl)
theorem Y.or(c:Y F s a U (.bl k))(d:k=af->Y F s b U (.bl m)):Y F s (.or a b) U (.bl (k||m)):=by
 cases k
 .exact gc c (d rfl)
 .exact gc c (gp λ_=>rfl)
theorem Y.not(b:Y F s a U (.bl k)):Y F s (.not a) U (.bl (!k)):=g1 b (gp λ_=>rfl)
theorem Y.ife(e:Y F s c U (.bl k))(h:Y F s (if k then a else b) U d):Y F s (.ife c a b) U d:=by
 cases k<;>exact gc e h
theorem Y.call(b:Y F s a U (.tup xs))(h:C F s f (xs++ds) d):Y F s (.call f a ds) U d:=g1 b h
def Y.cons(e:Y F s a U x)(d:Y F s b U (.tup xs))(c:xs.length < 1000:=by first|decide | (simp only[aX,dG];decide)):Y F s (.aC a b) U (.tup (x :: xs)):=g2 e d (gp λst=>aq c)
def Y.nil:Y F s .aN U (.tup []):=.r rf
def Y.call1(b:Y F s a U x)(h:C F s f [x] d):Y F s (.f f (.u a)) U d:=.call (.cons b .nil) h
theorem R.ret(h:Y F s e U d):R F s (.seq (.ret e) q) U d:=λst g=>by
 obtain⟨s1,b,a⟩:=h st g;exact⟨s1,by show Yq (U3 (ev F e)) (ex F q) U st=_;unfold Yq U3;rw[b],a⟩
def R.set(h:Y F s e U x)(c:R F s q (Zj U i x) d):R F s (.y i e q) U d:=λst g=>by
 obtain⟨s1,j,a⟩:=h st g;obtain⟨s2,f,b⟩:=c s1 (g.trans a);exact⟨s2,by show Yq (VB i (ev F e)) (ex F q) U st=_;unfold Yq VB;rw[j];exact f,a.trans b⟩
def R.no(h:Y F s e U (.bl af))(c:R F s q U d):R F s (.seq (.ite e p .skip) q) U d:=λst g=>by
 obtain⟨s1,i,a⟩:=h st g;obtain⟨s2,f,b⟩:=c s1 (g.trans a);exact⟨s2,by show Yq (Z3 (ev F e) (ex F p) (ex F .skip)) (ex F q) U st=_;unfold Yq Z3;rw[i];exact f,a.trans b⟩
def R.yB(h:Y F s e U (.bl ae))(c:R F s p U d):R F s (.seq (.ite e p .skip) q) U d:=λst g=>by
 obtain⟨s1,i,a⟩:=h st g;obtain⟨s2,f,b⟩:=c s1 (g.trans a);exact⟨s2,by show Yq (Z3 (ev F e) (ex F p) (ex F .skip)) (ex F q) U st=_;unfold Yq Z3;rw[i];simp only[f],a.trans b⟩
def R.yes(h:Y F s e U (.bl ae))(b:Y F s a U d):R F s (.seq (.ite e (.q a) .skip) q) U d:=.yB h (.ret b)
def Zg2{v:FD}(h:T f=aa v)(a:ds.length=v.ps):rT (n+1) f ds st=match ex (rT n) v.body (ds.map aa++ag (v.ns - ds.length) ab) st with
  |some (.rt d,st')=>aa (d,st')
  |some (.nx _,st')=>aa (.non,st')
  |_=>ab:=by
 show(match T f with|some f=>fnD (rT n) f|none=>λ_ _=>ab) ds st=_
 rw[h];exact aq a
def U1{v:FD}(h:T f=aa v)(b:ds.length=v.ps)(a:ex (rT n) v.body (ds.map aa++ag (v.ns - ds.length) ab) st=aa (.rt d,s')):rT (n+1) f ds st=aa (d,s'):=by rw[Zg2 h b,a]
def C.of{v:FD}(h:T f=aa v)(c:ds.length=v.ps)(b:R (rT n) s v.body (ds.map aa++ag (v.ns - ds.length) ab) d):C (rT (n+1)) s f ds d:=λst g=>by
 obtain⟨s1,e,a⟩:=b st g;exact⟨s1,U1 h c e,a⟩
def Zc(h:ex F p U st=aa (.nx U',s')):ex F (.seq p q) U st=ex F q U' s':=by
 show Yq (ex F p) (ex F q) U st=_;unfold Yq;rw[h]
def Zq(h:ex F p U st=aa (.rt d,s')):ex F (.seq p q) U st=aa (.rt d,s'):=by
 show Yq (ex F p) (ex F q) U st=_;unfold Yq;rw[h]
theorem X1{α:Type}{f g:α->D}{ok:Za->Prop}{fe fc:D->Za->Res}(e:∀ d st,fc d st=aa (.bl ae,st))(b:∀ st,Grw s st->ok st):∀ {l:Li α},(∀ a∈l,Gv s (fe (f a)) (g a))->∀ st,Grw s st->∃ st',Yg ok fe fc (l.map f) st=aa (l.map g,st')/\Grw st st'
 |[],_,st,k=>⟨st,aq (b st k),.refl⟩
 |x :: xs,h,st,k=>by
  obtain⟨s1,n,c⟩:=h x Ls st k;obtain⟨s2,m,i⟩:=X1 e b (λd j=>h d (Lm _ j)) s1 (k.trans c)
  refine⟨s2,?_,c.trans i⟩;rw[aZ,Yg,aq (b st k),e];simp only[n,m,aZ]
def Lv(s:Za)(f:Za->Res)(xs:Li D):Prop:=∀ st,Grw s st->∃ st' j b,f st=aa (.lst j,st')/\st'[j]?=aa (b,xs)/\Grw st st'
def Zx:(s++[t])[s.length]?=aa t:=by rw[bD (aB _),eX];rfl
def Wk(F:Nat->Fn)(s:Za)(it:CE)(U:Env)(wk:D->Za->Ot (Li D×(Za->Prop)))(xs:Li D):Prop:=∀ st,Grw s st->∃ x st1 ok,ev F it U st=aa (x,st1)/\Grw st st1/\wk x st1=aa (xs,ok)/\∀ st',Grw st1 st'->ok st'
def Wk.of{wk:D->Za->Ot (Li D×(Za->Prop))}(hi:Y F s e U x)(h:∀ st,wk x st=aa (xs,λ_=>True)):Wk F s e U wk xs:=λst k=>by
 obtain⟨s1,b,a⟩:=hi st k;exact⟨x,s1,_,b,a,h s1,λ_ _=>trivial⟩
def Wv{b:D->Li (Ot D)}{wk:D->Za->Ot (Li D×(Za->Prop))}{en g:α->D}{l:Li α}(hi:Wk F s it U wk (l.map en))(j:l.length<=1000)(h:∀ a∈l,Y F s elt (Yd b U fr (en a)) (g a)):Lv s (Xc b wk fr (ev F it) (ev F elt) (ev F (.c (.bl ae))) U) (l.map g):=λst k=>by
 obtain⟨x,s1,ok,p,e,o,i⟩:=hi st k;obtain⟨s2,n,f⟩:=X1 (s:=s1) (ok:=ok) (fe:=λd=>ev F elt (Yd b U fr d)) (fc:=λd=>ev F (.c (.bl ae)) (Yd b U fr d)) (λ_ _=>rfl) i (λa m=>Gv.mono (h a m) (k.trans e)) s1 .refl
 refine⟨s2++[(ae,l.map g)],_,_,?_,Zx,(e.trans f).trans .push⟩;unfold Xc;simp only[p,o,aD,aq j,n]
theorem WW{α:Type}{g:α->Bool}:∀ {l:Li α},YS (l.map λx=>.bl (g x))=aa (l.map g)
 |[]=>rfl
 |x :: l=>by show(YS (l.map _)).map _=_;rw[WW];rfl
theorem Y.all{l:Li α}{g:α->Bool}(h:Lv s (ev F e U) (l.map λa=>.bl (g a))):Y F s (.all e) U (.bl (l.all g)):=λst k=>by
 obtain⟨s1,j,b,f,d,c⟩:=h st k;refine⟨s1,?_,c⟩;show Zl (ev F e) (WE λl=>l.all id) U st=_
 unfold Zl WE;simp only[f,d,WW,List.all_map];rfl
def UF(h:xs[j]?=aa d):atD xs (j:Int)=aa d:=by
 have:=Zw h;unfold atD ixN;rw[aq (by omega),aq (by omega),Ob,bM,h]
def Y.ixl(c:s[w]?=aa t)(f:Y F s a U (.lst w))(e:Y F s b U (.int (j:Int)))(h:t.2[j]?=aa d):Y F s (.ix a b) U d:=g2 f e (gs λst k=>by
 show ixR (.lst w) (.int (j:Int)) st=_;unfold ixR ixD;simp only[k.get c,UF h])
def Y.ixt(e:Y F s a U (.tup xs))(c:Y F s b U (.int (j:Int)))(h:xs[j]?=aa d):Y F s (.ix a b) U d:=g2 e c (gp λst=>by
 show ixR (.tup xs) (.int (j:Int)) st=_;unfold ixR ixD;simp only[UF h])
def Y.lenl(b:s[w]?=aa t)(c:Y F s a U (.lst w)):Y F s (.len a) U (.int (t.2.length:Int)):=g1 c (gs λst k=>by
 show US (.lst w) st=_;unfold US Zcg;simp only[k.get b])
def Lv.sl{lo:Ot Int}(i:s[w]?=aa t)(m:Y F s a U (.lst w))(l:Y F s b U x)(j:Y F s c U y)(h:∀ st,YM (.lst w) x y st=Ya (.lst w) lo hi st):Lv s (ev F (.slice a b c) U) (XN t.2 lo hi):=λst k=>by
 obtain⟨s1,p,d⟩:=m st k;obtain⟨s2,o,e⟩:=l s1 (k.trans d);obtain⟨g,n,f⟩:=j s2 (k.trans (d.trans e));refine⟨g++[(ae,XN t.2 lo hi)],_,_,?_,Zx,(d.trans (e.trans f)).trans .push⟩;show Yz (ev F a) (ev F b) (ev F c) YM U st=_;unfold Yz;simp only[p,o,n,h];unfold Ya;simp only[(k.trans (d.trans (e.trans f))).get i]
def Lv.mk(h:Y F s e U (.tup xs)):Lv s (ev F (.lstE e) U) xs:=λst k=>by
 obtain⟨s1,b,a⟩:=h st k;exact⟨_,_,_,by show Zl (ev F e) Zci U st=_;unfold Zl;rw[b];rfl,Zx,a.trans .push⟩
def RL(F:Nat->Fn)(s:Za)(q:CS)(U:Env)(xs:Li D):Prop:=∀ st,Grw s st->∃ st' j b,ex F q U st=aa (.rt (.lst j),st')/\st'[j]?=aa (b,xs)/\Grw st st'
def Vf{c:YO}(h:ev F e U st=aa (.lst j,s'))(a:s'[j]?=aa c):ev F (.tOf e) U st=aa (.tup c.2,s'):=by
 show Zl (ev F e) VE U st=_;unfold Zl;rw[h];show(match s'[j]? with
  |some (_,xs)=>aa (D.tup xs,s')
  |none=>ab)=_
 rw[a]
def Z6(h:ev F e U st=aa (d,s')):ex F (.ret e) U st=aa (.rt d,s'):=by
 show U3 (ev F e) U st=_;unfold U3;rw[h]
def Zn(h:ev F e U st=aa (v,st')):ex F (.set i e) U st=aa (.nx (Zj U i v),st'):=by
 show VB i (ev F e) U st=_;unfold VB;rw[h]
def Ys(h:ev F e U st=aa (.bl af,st')):ex F (.ite e p q) U st=ex F q U st':=by
 show Z3 (ev F e) (ex F p) (ex F q) U st=_;unfold Z3;rw[h]
def ZY(h:ev F e U st=aa (.bl ae,st')):ex F (.ite e p q) U st=ex F p U st':=by
 show Z3 (ev F e) (ex F p) (ex F q) U st=_;unfold Z3;rw[h]
def Zf:ex F .skip U st=aa (.nx U,st):=rfl
end
section
local macro_rules|`(())=>`(.r rf)
local macro_rules|`(∅)=>`(by omega)
local macro_rules|`(#[])=>`(by decide)
variable{st' st1:Za}{U':Env}{ys:Li D}
section
variable{U'':Env}{k:Bool}
structure Kj(j:Nat)(st st':Za):Prop where
 old:∀ i,i < st.length->i≠j->st'[i]?=st[i]?
 len:st.length<=st'.length
def Grw.kj(g:Grw st st'):Kj j st st':=⟨λi h _=>g.old i h,g.len⟩
theorem Kj.trans(a:Kj j st st1)(b:Kj j st1 st'):Kj j st st':=⟨λi h c=>(b.old i (aT h a.len) c).trans (a.old i h c),aJ a.len b.len⟩
def Kj.grw(k:Kj j st st')(a:s.length<=j)(g:Grw s st):Grw s st':=⟨λi h=>(k.old i (aT h g.len) ∅).trans (g.old i h),aJ g.len k.len⟩
def X5{c:YO}(h:i < st.length):(st.set i c)[j]?=if i=j then aa c else st[j]?:=by
 rw[List.getElem?_set];split
 .rename_i e;subst e
  first|rfl|rw[aq h]
 .rfl
def Ap(F:Nat->Fn)(s:Za)(j:Nat)(q:CS)(U U':Env)(xs:Li D):Prop:=∀ st a,Grw s st->st[j]?=aa (ae,a)->a.length+xs.length<=90000->∃ st',ex F q U st=aa (.nx U',st')/\Kj j st st'/\st'[j]?=aa (ae,a++xs)
theorem Ap.skip:Ap F s j .skip U U []:=λst a g h _=>⟨st,rfl,Grw.refl.kj,by rw[bF];exact h⟩
theorem Ap.seq(f:s.length<=j)(k:Ap F s j q U U' xs)(i:Ap F s j p U' U'' ys):Ap F s j (.seq q p) U U'' (xs++ys):=λst a g h e=>by
 rw[aH]at e;obtain⟨s1,m,g1,d⟩:=k st a g h ∅
 obtain⟨b,l,g2,c⟩:=i s1 _ (g1.grw f g) d (by rw[aH];omega)
 exact⟨b,by show Yq (ex F q) (ex F p) U st=_;unfold Yq;rw[m];exact l,g1.trans g2,by rw[<-aM];exact c⟩
def Ap.one(h:Ap F s j q U U' xs):Ap F s j (.z q) U U' xs:=λst a g d c=>by
 obtain⟨s1,e,g1,b⟩:=h st a g d c;exact⟨s1,by show Yq (ex F q) (ex F .skip) U st=_;unfold Yq;rw[e];rfl,g1,b⟩
theorem Ap.app(hi:U[i]?=aa (jL j))(h:Y F s e U d):Ap F s j (.app i e) U U [d]:=λst a g n f=>by
 obtain⟨s1,o,b⟩:=h st g;have c:=b.get n;have f:a.length+1<=90000:=f;refine⟨s1.set j (ae,a++[d]),?_,⟨λm l k=>?_,by rw[bL];exact b.len⟩,by rw[X5 (Zw c),aq rfl]⟩
 .show Ju i (ev F e) U st=_
  unfold Ju Js;simp only[hi,o,c];rw[aq (by unfold Zk;omega)]
 .rw[X5 (Zw c),ar (Ne.symm k)]
  exact b.old m l
theorem Ap.ite(h:Y F s e U (.bl k))(f:Ap F s j (if k then q else p) U U' xs):Ap F s j (.ite e q p) U U' xs:=λst b g l i=>by
 obtain⟨s1,n,a⟩:=h st g;obtain⟨c,m,g2,d⟩:=f s1 b (g.trans a) (a.get l) i;exact⟨c,by show Z3 (ev F e) (ex F q) (ex F p) U st=_;unfold Z3;rw[n];cases k<;>exact m,a.kj.trans g2,d⟩
theorem Ap.set(h:Y F s e U d):Ap F s j (.set i e) U (Zj U i d) []:=λst f g b k=>by
 obtain⟨s1,c,a⟩:=h st g;exact⟨s1,by show VB i (ev F e) U st=_;unfold VB;rw[c],a.kj,by rw[bF];exact a.get b⟩
end
variable{c:Nat}{q':CS}
variable{Q:D->Za->Prop}
section
variable{st2:Za}{m:Bool}{tx:Str}
def Lv.v(b:s[j]?=aa (m,xs))(h:Y F s e U (.lst j)):Lv s (ev F e U) xs:=λst g=>by
 obtain⟨s1,c,a⟩:=h st g;exact⟨s1,j,m,c,(g.trans a).get b,a⟩
def Lv.mono{f:Za->Res}(h:Lv s f xs)(g:Grw s st):Lv st f xs:=λst1 k=>h st1 (g.trans k)
def Lv.cat(k:Lv s (ev F a U) xs)(j:Lv s (ev F b U) ys)(i:xs.length+ys.length<=Zk):Lv s (ev F (.p a b) U) (xs++ys):=λst g=>by
 obtain⟨s1,h,r,o,m,e⟩:=k st g;obtain⟨c,f,q,n,l,d⟩:=j s1 (g.trans e);refine⟨c++[(ae,xs++ys)],_,_,?_,Zx,(e.trans d).trans .push⟩;show ZH (ev F a) (ev F b) (VO .Add) U st=_;unfold ZH;simp only[o,n];show ZbE h f c=_;unfold ZbE;simp only[d.get m,l];exact aq i
def RP(F:Nat->Fn)(q:CS)(U:Env)(st:Za)(Q:D->Za->Prop):Prop:=∃ d st',ex F q U st=aa (.rt d,st')/\Grw st st'/\Q d st'
def RP.pre(h:ex F q U st=ex F q' U' st1)(g:Grw st st1)(a:RP F q' U' st1 Q):RP F q U st Q:=by
 obtain⟨d,st',e,b,k⟩:=a;exact⟨d,st',h.trans e,g.trans b,k⟩
def RP.setY(h:Y F s e U d)(g:Grw s st)(c:∀ a,Grw st a->RP F q (Zj U i d) a Q):RP F (.y i e q) U st Q:=by
 obtain⟨s1,f,b⟩:=h st g;exact .pre (Zc (Zn f)) b (c s1 b)
def RP.no{p:CS}(h:Y F s e U (.bl af))(g:Grw s st)(c:∀ a,Grw st a->RP F q U a Q):RP F (.seq (.ite e p .skip) q) U st Q:=by
 obtain⟨s1,d,b⟩:=h st g;exact .pre (Zc ((Ys d).trans Zf)) b (c s1 b)
theorem RP.ret(h:Y F s e U d)(g:Grw s st)(c:∀ a,Grw st a->Q d a):RP F (.seq (.ret e) q) U st Q:=by
 obtain⟨s1,f,b⟩:=h st g;exact⟨d,s1,Zq (Z6 f),b,c s1 b⟩
def RP.yes{p:CS}(h:Y F s e U (.bl ae))(g:Grw s st)(i:∀ a,Grw st a->RP F p U a Q):RP F (.seq (.ite e p .skip) q) U st Q:=by
 obtain⟨s1,l,b⟩:=h st g;obtain⟨d,c,k,f,j⟩:=i s1 b;exact⟨d,c,Zq ((ZY l).trans k),b.trans f,j⟩
def CP(F:Nat->Fn)(f:Nat)(ds:Li D)(st:Za)(Q:D->Za->Prop):Prop:=∃ d st',F f ds st=aa (d,st')/\Grw st st'/\Q d st'
def CP.of{v:FD}{f:Nat}{ds:Li D}(h:T f=aa v)(c:ds.length=v.ps)(b:RP (rT n) v.body (ds.map aa++ag (v.ns - ds.length) ab) st Q):CP (rT (n+1)) f ds st Q:=by
 obtain⟨d,s1,g,a,e⟩:=b;exact⟨d,s1,U1 h c g,a,e⟩
end
def Sm(a:Int):Prop:=-1000000000<=a/\a<=999999999
variable{m sz:Nat}{ns:Li Int}
section
variable{i j k c:Int}{op:Operator}
def Y.bi(d:Y F s a U (.int i))(c:Y F s b U (.int j))(h:QU op i j=aa k):Y F s (.bin op a b) U (.int k):=g2 d c (gp λst=>by
 show VO op (.int i) (.int j) st=_;unfold VO;simp only[h])
def Y.add(d:Y F s a U (.int i))(c:Y F s b U (.int j)):Y F s (.p a b) U (.int (i+j)):=.bi d c rfl
def Y.sub(d:Y F s a U (.int i))(c:Y F s b U (.int j)):Y F s (.l a b) U (.int (i - j)):=.bi d c rfl
def Y.mul(d:Y F s a U (.int i))(c:Y F s b U (.int j))(h:ZX j=ae):Y F s (.h a b) U (.int (i * j)):=.bi d c (by show(if ZX i||ZX j then aa (i * j) else ab)=_;rw[h,Bool.or_true];rfl)
def Y.md(d:Y F s a U (.int i))(c:Y F s b U (.int j))(h:0 < j):Y F s (.m a b) U (.int (i % j)):=.bi d c (aq h)
def Y.fd(d:Y F s a U (.int i))(c:Y F s b U (.int j))(h:0 < j/\j < 1073741824):Y F s (.k a b) U (.int (i / j)):=.bi d c (aq h)
def Y.ixL{j:Nat}(k:Lv s (ev F a U) xs)(i:Y F s b U (.int (j:Int)))(h:xs[j]?=aa d):Y F s (.ix a b) U d:=λst g=>by
 obtain⟨s1,q,t,n,l,f⟩:=k st g;obtain⟨c,m,e⟩:=i s1 (g.trans f);refine⟨c,?_,f.trans e⟩;show ZH (ev F a) (ev F b) ixR U st=_;unfold ZH;simp only[n,m];show ixR (.lst q) (.int (j:Int)) c=_;unfold ixR ixD;simp only[e.get l,UF h]
def Zm(i:Int)(h:0 < j):0<=i % j/\i % j < j:=⟨Int.emod_nonneg _ ∅,Int.emod_lt_of_pos _ h⟩
def WR(h:-(2 ^ 64) < i/\i < 2 ^ 64):ZX i=ae:=by unfold ZX;rw[aG h.1,aG h.2];rfl
end
variable{N:Nat}
theorem WF{I:Env->Prop}{P:Nat->D->Prop}(o:s.length<=j)(p:∀ k,k < N->∀ U,I U->∃ d U',P k d/\I U'/\Ap F s j q (Zj U i (.int (k:Int))) U' [d]):∀ (M a:Nat),a+M=N->∀ U,I U->∃ xs U',xs.length=M/\(∀ t d,xs[t]?=aa d->P (a+t) d)/\I U'/\∀ st b,Grw s st->st[j]?=aa (ae,b)->b.length+M<=90000->∃ st',Zi (λd U s=>ex F q (Zj U i d) s) ((List.range' a M).map λ(k:Nat)=>D.int (k:Int)) U st=aa (.nx U',st')/\Kj j st st'/\st'[j]?=aa (ae,b++xs)
 |0,a,_,U,m=>⟨[],U,rfl,λt d h=>(nomatch h),m,λst b g h _=>⟨st,rfl,Grw.refl.kj,by rw[bF];exact h⟩⟩
 |M+1,a,K,U,m=>by
  obtain⟨d,e,z,l,A⟩:=p a ∅ U m
  obtain⟨xs,c,y,w,f,x⟩:=WF o p M (a+1) ∅ e l
  refine⟨d :: xs,c,by rw[aX,y],λt H h=>?_,f,λst b g h J=>?_⟩
  .cases t with
   |zero=>cases h;exact z
   |succ t=>have:=w t H h;rw[show a+1+t=a+(t+1) by omega]at this;exact this
  .obtain⟨s1,G,n,C⟩:=A st b g h (by show _+1<=90000;omega)
   obtain⟨r,E,u,B⟩:=x s1 _ (n.grw o g) C (by rw[aH];show _+1+M<=90000;omega)
   refine⟨r,?_,n.trans u,by rw[B,aM];rfl⟩
   rw[List.range'_succ,aZ];show(match ex F q (Zj U i (.int (a:Int))) st with
    |some (.nx U',st')=>Zi _ _ U' st'
    |some (.ct U',st')=>Zi _ _ U' st'
    |some (.bk U',st')=>aa (.nx U',st')
    |some (.rt v,st')=>aa (.rt v,st')
    |none=>ab)=_
   rw[G];exact E
def Zac{v:Int}(b:v < 2 ^ 62)(a:-(2 ^ 62)<=v):Wr ae (.int v)=aa ((aj v.toNat).map λ(k:Nat)=>D.int (k:Int)):=by
 show(if v < 2 ^ 62/\-(2 ^ 62)<=v then aa ((aj v.toNat).map λ(k:Nat)=>D.int (k:Int)) else ab)=_
 rw[aq ⟨b,a⟩]
def X4{v:Int}{st1:Za}(b:v < 2 ^ 62)(a:-(2 ^ 62)<=v)(c:ev F e U st=aa (.int v,st1)):ex F (.for1 i ae e q) U st=Zi (λd U s=>ex F q (Zj U i d) s) ((aj v.toNat).map λ(k:Nat)=>D.int (k:Int)) U st1:=by
 show Vj i ae (ev F e) (ex F q) U st=_;unfold Vj;rw[c];simp only[Zac b a]
noncomputable def arI(x:Int):Int:=(x+1000000000) % 2000000000 - 1000000000
noncomputable def fdI(i j:Int):Int:=if 0 < j then i / j else i.fdiv j
def rkI(a:Int)(g:Str)(b:Int):Int:=if g=S "+" then arI (a+b) else if g=S "-" then arI (a - b) else if g=S "*" then arI (a * b) else if g=S "/" then (if b=0 then 0 else arI (fdI a b)) else if b=0 then a else a - b * fdI a b
def soI(a:Int)(g:Str)(b:Int):Bool:=if g=S "<" then ak (a < b) else if g=S "<=" then ak (a<=b) else if g=S "=" then ak (a=b) else if g=S ">=" then ak (b<=a) else if g=S ">" then ak (b < a) else !decide (a=b)
def psL:Li Str:=[S "+",S "-",S "*",S "/",S "mod"]
def isL:Li Str:=[S "<",S "<=",S "=",S ">=",S ">",S "!="]
inductive Op where
 |nm (i:Nat)|nu (v:Int)
 deriving DecidableEq
noncomputable def opE:Op->D
 |.nm i=>.tup [.str "name",.int (i:Int)]
 |.nu v=>.tup [.str "number",.int v]
def VI(m:Nat):Op->Prop
 |.nm i=>i < m
 |.nu v=>Sm v
inductive Rw where
 |put (x:Nat) (y:Op) (g:Str) (z:Op)|ifr (y:Op) (g:Str) (z:Op) (t:Nat)|go (t:Nat)|tell (y:Op)|skip
 deriving DecidableEq
def rwE:Rw->D
 |.put x y g z=>.tup [.str "put",.int (x:Int),opE y,.str g,opE z]
 |.ifr y g z t=>.tup [.str "if",opE y,.str g,opE z,.int (t:Int)]
 |.go t=>.tup [.str "go",.int (t:Int)]
 |.tell y=>.tup [.str "tell",opE y]
 |.skip=>.tup [.str "skip"]
def RwOk(m sz:Nat):Rw->Prop
 |.put x y g z=>x < m/\VI m y/\g∈psL/\VI m z
 |.ifr y g z t=>VI m y/\g∈isL/\VI m z/\t<=sz
 |.go t=>t<=sz
 |.tell y=>VI m y
 |.skip=>True
noncomputable def woI(vs:Li Int):Op->Int
 |.nm i=>vs.getD i 0
 |.nu v=>v
structure Vs(m:Nat)(vs:List Int):Prop where
 l:vs.length=m
 s:∀ v∈vs,Sm v
noncomputable def inZ(vs:Li Int):Li D:=vs.map D.int
variable{vs:Li Int}{g:Str}{o:Op}{r:Rw}
section
variable{i j:Int}
def VL:Sm (arI i):=by
 have:=Zm (i+1000000000) (j:=2000000000) #[]
 unfold Sm arI;omega
def Zf8(h:j≠0):(0 < j/\j * fdI i j<=i/\i < j * fdI i j+j)\/(j < 0/\i<=j * fdI i j/\j * fdI i j+j < i):=by
 unfold fdI;by_cases a:0 < j
 .rw[aq a]
  have b:=Int.mul_ediv_add_emod i j;have d:=Int.emod_nonneg i h;have e:=Int.emod_lt_of_pos i a;exact .inl ⟨a,∅,∅⟩
 .rw[ar a]
  have b:=Int.fmod_def i j;have d:j < 0:=by omega
  have e:=Int.emod_nonneg i h;have g:i % j < -j:=by have:=Int.emod_lt i h;omega
  rw[Int.fmod_eq_emod]at b;by_cases c:j ∣ i
  .rw[aq (.inr c),Int.emod_eq_zero_of_dvd c]at b
   exact .inr ⟨d,∅,∅⟩
  .have f:i % j≠0:=λz=>c (Int.dvd_of_emod_eq_zero z)
   rw[ar ∅]at b
   exact .inr ⟨d,∅,∅⟩
def ZaW(a:Sm i)(e:Sm j):Sm (rkI i g j):=by
 unfold rkI;split
 .exact VL
 .split
  .exact VL
  .split
   .exact VL
   .split
    .split
     .exact⟨#[],#[]⟩
     .exact VL
    .split
     .exact a
     .rename_i h
      have:=Zf8 (i:=i) h;unfold Sm at *
      rcases this with⟨d,c,b⟩|⟨d,c,b⟩
      .generalize j * fdI i j=q at *
       omega
      .generalize j * fdI i j=q at *
       omega
theorem Y.v{i:Nat}(h:U[i]?=aa (aa d)):Y F s (.v i) U d:=.r λst=>by show Z4 i U st=_;unfold Z4;rw[h]
def Y.fdv(f:Y F s a U (.int i))(e:Y F s b U (.int j))(h:j≠0)(d:Sm j):Y F s (.k a b) U (.int (fdI i j)):=.bi f e (by
 unfold Sm at d;show(if 0 < j/\j < 1073741824 then aa (i / j) else if j < 0/\-1073741824 < j then aa (i.fdiv j) else ab)=_
 unfold fdI;by_cases c:0 < j
 .rw[aq c,aq ⟨c,∅⟩]
 .rw[ar c,ar ∅,aq ⟨∅,∅⟩])
def Zak(h:Sm j):ZX j=ae:=WR (by unfold Sm at h;omega)
def Y.arx(b:Y F s a U (.int i)):Y F s (.l (.m (.p a (.i 1000000000)) (.i 2000000000)) (.i 1000000000)) U (.int (arI i)):=.sub (.md (.add b ()) () #[]) ()
def YR:C (rT (n+1)) s 0 [.int i] (.int (arI i)):=.of (v:=Wi) rfl rfl (.ret (.arx ()))
def Ze0(a:Sm j):C (rT (n+2)) s 1 [.int i,.int j] (.int (if j=0 then 0 else arI (fdI i j))):=by
 by_cases h:j=0
 .subst h;exact .of (v:=Y9) rfl rfl (.yes () ())
 .rw[ar h]
  exact .of (v:=Y9) rfl rfl (.no (.cmp () () λ_=>av aa (aI h)) (.ret (.call1 (.fdv () () h a) YR)))
def ZdE(a:Sm j):C (rT (n+1)) s 2 [.int i,.int j] (.int (if j=0 then i else i - j * fdI i j)):=by
 by_cases h:j=0
 .subst h;exact .of (v:=Yt) rfl rfl (.yes () ())
 .rw[ar h]
  refine .of (v:=Yt) rfl rfl (.no (.cmp () () λ_=>av aa (aI h)) (.ret (.sub () (.bi (i:=j) (j:=fdI i j) () (.fdv () () h a) ?_))))
  show(if ZX j||ZX (fdI i j) then aa (j * fdI i j) else ab)=_
  rw[Zak a];rfl
def Y.eqs{x y:Str}(d:Y F s a U (.str x))(c:Y F s b U (.str y)):Y F s (.e a b) U (.bl (ak (x=y))):=.cmp d c λ_=>rfl
def R.pick{k:Bool}{q p:CS}(h:Y F s e U (.bl k))(b:k=ae->R F s p U d)(a:k=af->R F s q U d):R F s (.seq (.ite e p .skip) q) U d:=by
 cases k
 .exact .no h (a rfl)
 .exact .yB h (b rfl)
def Zf2(hi:Sm i)(c:Sm j):C (rT (n+3)) s 3 [.int i,.str g,.int j] (.int (rkI i g j)):=by
 unfold rkI;refine .of (v:=Wm) rfl rfl (.pick (.eqs () ()) (λh=>?_) λh=>.pick (.eqs () ()) (λa=>?_) λa=>.pick (.eqs () ()) (λb=>?_) λb=>.pick (.eqs () ()) (λd=>?_) λd=>?_)
 .rw[aq (ao h)];exact .ret (.call1 (.add () ()) YR)
 .rw[ar (am h),aq (ao a)];exact .ret (.call1 (.sub () ()) YR)
 .rw[ar (am h),ar (am a),aq (ao b)];exact .ret (.call1 (.mul () () (Zak c)) YR)
 .rw[ar (am h),ar (am a),ar (am b),aq (ao d)];exact .ret (.call (xs:=[.int i,.int j]) () (Ze0 c))
 .rw[ar (am h),ar (am a),ar (am b),ar (am d)];exact .ret (.call (xs:=[.int i,.int j]) () (ZdE c))
def Zf3:C (rT (n+1)) s 4 [.int i,.str g,.int j] (.bl (soI i g j)):=by
 unfold soI;refine .of (v:=Vd) rfl rfl (.pick (.eqs () ()) (λh=>?_) λh=>.pick (.eqs () ()) (λa=>?_) λa=>.pick (.eqs () ()) (λb=>?_) λb=>.pick (.eqs () ()) (λc=>?_) λc=>.pick (.eqs () ()) (λd=>?_) λd=>?_)
 .rw[aq (ao h)];exact .ret ()
 .rw[ar (am h),aq (ao a)];exact .ret ()
 .rw[ar (am h),ar (am a),aq (ao b)];exact .ret ()
 .rw[ar (am h),ar (am a),ar (am b),aq (ao c)];exact .ret ()
 .rw[ar (am h),ar (am a),ar (am b),ar (am c),aq (ao d)];exact .ret ()
 .rw[ar (am h),ar (am a),ar (am b),ar (am c),ar (am d)];exact .ret ()
def Zbk(a:Vs m vs)(h:VI m o):Sm (woI vs o):=by
 cases o with
 |nm i=>
  have b:=a.l;have hi:i < m:=h;show Sm (vs.getD i 0);rw[aU,Lg ∅]
  exact a.s _ (bC _)
 |nu v=>exact h
end
def pgD(a:D)(m:Nat)(rs:Li Rw):D:=.tup [a,.int (m:Int),.tup (rs.map rwE)]
def stD(k:Nat)(vs:Li Int):D:=.tup [.int (k:Int),.tup (inZ vs)]
noncomputable def noD:D:=.tup [.str "none"]
noncomputable def laD:D:=.tup [.str "late"]
noncomputable def teD(v:Int):D:=.tup [.str "told",.int v]
def vsN(vs:Li Int):Rw->Li Int
 |.put x y g z=>vs.set x (rkI (woI vs y) g (woI vs z))
 |_=>vs
def pkN(k:Nat)(vs:Li Int):Rw->Nat
 |.go t=>t
 |.ifr y g z t=>if soI (woI vs y) g (woI vs z)=ae then t else k+1
 |_=>k+1
def mv(rs:Li Rw)(k:Nat)(vs:Li Int):Sum D (Nat×Li Int):=match rs[k]? with
 |none=>.inl noD
 |some (.tell y)=>.inl (teD (woI vs y))
 |some r=>.inr (pkN k vs r,vsN vs r)
def oc(rs:Li Rw):Nat->Nat->Li Int->D
 |0,k,_=>if rs.length<=k then noD else laD
 |n+1,k,vs=>match mv rs k vs with
  |.inl o=>o
  |.inr p=>oc rs n p.1 p.2
def tl(rs:Li Rw):Nat->Nat->Li Int->Li D
 |0,k,_=>[if rs.length<=k then noD else laD]
 |n+1,k,vs=>match mv rs k vs with
  |.inl o=>[o]
  |.inr p=>stD p.1 p.2 :: tl rs n p.1 p.2
structure Rs(m:Nat)(rs:List Rw):Prop where
 l:rs.length<=50
 ok:∀ r∈rs,RwOk m rs.length r
noncomputable def v0(m:Nat)(ins:Li Int):Li Int:=ins++ag (m - ins.length) 0
variable{tk:D}{k:Nat}{ins:Li Int}{rs:Li Rw}
section
variable{c:CE}
def JE{j:Nat}:sIx w j (aa (i:Int))=Nat.min i w:=by
 show(if (i:Int) < 0 then ((i:Int)+(w:Int)).toNat else Nat.min (i:Int).toNat w)=_
 rw[ar ∅,bM]
def Zd2(h:i<=xs.length):XN xs ab (aa (i:Int))=xs.take i:=by
 unfold XN;rw[JE,show Nat.min i xs.length=i from cC h];rfl
def Zd1(h:i<=xs.length):XN xs (aa (i:Int)) ab=xs.drop i:=by
 unfold XN;rw[JE,show Nat.min i xs.length=i from cC h];exact fP (by rw[cB];exact aB _)
def sl_tup{lo:Ot Int}:Ya (.tup xs) lo hi st=aa (.tup (XN xs lo hi),st):=by
 show(if sIx xs.length 0 lo=0/\sIx xs.length xs.length hi=xs.length then aa (D.tup xs,st) else aa (.tup (XN xs lo hi),st))=_
 split
 .rename_i h
  unfold XN;rw[h.1,h.2,cQ,Nat.sub_zero,cP]
 .rfl
def Y.tkT(j:Y F s a U (.tup xs))(f:Y F s b U (.int (i:Int)))(h:i<=xs.length):Y F s (.slice a .nop (.part b)) U (.tup (xs.take i)):=λst g=>by
 obtain⟨s1,l,d⟩:=j st g;obtain⟨c,k,e⟩:=f s1 (g.trans d);refine⟨c,?_,d.trans e⟩;show Yz (ev F a) (evC .non) (Zl (ev F b) Ul) YM U st=_;unfold Yz Zl evC;simp only[l,k];show Ya (.tup xs) ab (aa (i:Int)) c=_;rw[sl_tup,Zd2 h]
def Y.dpT(j:Y F s a U (.tup xs))(f:Y F s b U (.int (i:Int)))(h:i<=xs.length):Y F s (.slice a (.part b) .nop) U (.tup (xs.drop i)):=λst g=>by
 obtain⟨s1,l,d⟩:=j st g;obtain⟨c,k,e⟩:=f s1 (g.trans d);refine⟨c,?_,d.trans e⟩;show Yz (ev F a) (Zl (ev F b) Ul) (evC .non) YM U st=_;unfold Yz Zl evC;simp only[l,k];show Ya (.tup xs) (aa (i:Int)) ab c=_;rw[sl_tup,Zd1 h]
def Y.adT(d:Y F s a U (.tup xs))(c:Y F s b U (.tup ys))(h:xs.length+ys.length<=100000):Y F s (.p a b) U (.tup (xs++ys)):=g2 d c (gp λst=>by
 show(if Uc .Add=ae/\xs.length+ys.length<=Zk then aa (D.tup (xs++ys),st) else ab)=_
 exact aq ⟨rfl,by unfold Zk;omega⟩)
def Y.rep(e:Y F s a U d)(c:Y F s b U (.int (i:Int)))(h:i<=1000):Y F s (.h (.g (.u a)) b) U (.tup (ag i d)):=g2 (x:=.tup [d]) (.cons e .nil) c (gp λst=>by
 show(if (i:Int)<=1000/\-1000<=(i:Int) then aa (D.tup (ag (i:Int).toNat d),st) else ab)=_
 rw[aq ⟨∅,∅⟩,bM])
def Y.lnT(b:Y F s a U (.tup xs)):Y F s (.len a) U (.int (xs.length:Int)):=g1 b (gp λst=>rfl)
def Vb(h:i < xs.length)(a:xs.length<=1000):C (rT (n+1)) s 42 [.tup xs,.int (i:Int),d] (.tup (xs.set i d)):=by
 rw[show xs.set i d=(xs.take i++[d])++xs.drop (i+1) by rw[aM];exact List.set_eq_take_append_cons_drop.trans (aq h)]
 refine .of (v:=Xj) rfl rfl (.ret (.adT (.adT (.tkT () () ∅) (.cons () .nil) ?_) (.dpT (i:=i+1) () (by rw[cZ];exact .add () ()) ∅) ?_))
 .rw[aV];show _+1<=_;omega
 .rw[aH,aV,cB];show _+1+_<=_;omega
end
variable{L:Nat}{acc:Li D}
section
variable{c:CE}
def Zdo(a:Vs m vs)(d:Rs m rs){p:Nat×Li Int}(h:mv rs k vs=.inr p):Vs m p.2:=by
 unfold mv at h;cases q:rs[k]? with
 |none=>rw[q]at h;cases h
 |some r=>
  rw[q]at h;have ok:=d.ok r (aW q);cases r with
  |tell y=>cases h
  |put x y g z=>
   cases h;obtain⟨e,c,f,b⟩:=ok;refine⟨by show(vs.set x _).length=m;rw[bL];exact a.l,λv h=>?_⟩
   rcases gE h with h|h
   .exact a.s v h
   .rw[h];exact ZaW (Zbk a c) (Zbk a b)
  |ifr y g z t=>cases h;exact a
  |go t=>cases h;exact a
  |skip=>cases h;exact a
end
variable{l:Li Nat}
section
variable{c:CE}
def Zby(h:xs≠[])(a:xs.length<=100000):atD xs (-1)=aa (xs.getLastD .non):=by
 have b:0 < xs.length:=List.length_pos_iff.mpr h;unfold atD ixN;rw[ar #[],aq ∅,Ob,show(-1+(xs.length:Int)).toNat=xs.length - 1 by omega,<-List.getLast?_eq_getElem?,List.getLastD_eq_getLast?]
 cases q:xs.getLast? with
 |none=>exact au (List.getLast?_eq_none_iff.mp q) h
 |some z=>rfl
end
section
variable{c:CE}
theorem Uh{I:Nat->Env->Prop}{body:D->Env->Za->Ot (Fl×Za)}:∀ {xs:Li D} (a:Nat) (U:Env) (st1:Za),(∀ i d U b,xs[i]?=aa d->I (a+i) U->Grw st1 b->∃ U' c,body d U b=aa (.nx U',c)/\Grw b c/\I (a+i+1) U')->I a U->∃ U' b,Zi body xs U st1=aa (.nx U',b)/\Grw st1 b/\I (a+xs.length) U'
 |[],a,U,st1,_,h=>⟨U,st1,rfl,.refl,h⟩
 |x :: xs,a,U,st1,k,h=>by
  obtain⟨f,m,r,j,t⟩:=k 0 x U st1 rfl h .refl;obtain⟨e,l,q,n,s⟩:=Uh (xs:=xs) (a+1) f m (λi d U b p o g=>by
   have:=k (i+1) d U b p (by rw[show a+(i+1)=a+1+i by omega];exact o) (j.trans g)
   rw[show a+(i+1)+1=a+1+i+1 by omega]at this
   exact this) t
  refine⟨e,l,?_,j.trans n,by rw[aX,show a+(xs.length+1)=a+1+xs.length by omega];exact s⟩
  show(match body x U st1 with
   |some (.nx U',st')=>Zi body xs U' st'
   |some (.ct U',st')=>Zi body xs U' st'
   |some (.bk U',st')=>aa (.nx U',st')
   |some (.rt v,st')=>aa (.rt v,st')
   |none=>ab)=_
  rw[r];exact q
def for_tup(a:ev F e U st=aa (.tup xs,st1)):ex F (.for1 i af e q) U st=Zi (λd U s=>ex F q (Zj U i d) s) xs U st1:=by
 show Vj i af (ev F e) (ex F q) U st=_;unfold Vj;rw[a];rfl
def Qi(t:k<=60):C (rT (n+1)) s 43 [.int (k:Int)] (.int ((2 ^ k:Nat):Int)):=λst g=>by
 obtain⟨U',j,f,m,y,rfl⟩:=Uh (st1:=st) (I:=λi U=>∃ y,U=[jN k,aa (.int ((2 ^ i:Nat):Int)),y]) (body:=λd U s=>ex (rT n) Xf (Zj U 2 d) s) (xs:=(aj k).map λ(k:Nat)=>D.int (k:Int)) 0 [jN k,aa (.int ((2 ^ 0:Nat):Int)),ab] (λi d U c u o g2=>by
  obtain⟨y,rfl⟩:=o;obtain⟨h,p,l⟩:=Y.mul (F:=rT n) (s:=c) (a:=.v 1) (b:=.i 2) (U:=[jN k,aa (.int ((2 ^ (0+i):Nat):Int)),aa d]) () () rfl c .refl;refine⟨_,h,(Zc (Zn p)).trans Zf,l,aa d,?_⟩;rw[show((2 ^ (0+i+1):Nat):Int)=((2 ^ (0+i):Nat):Int) * 2 by rw[Nat.pow_succ,fU];rfl]
  rfl) ⟨ab,rfl⟩
 have fr:=X4 (F:=rT n) (i:=2) (e:=.v 0) (q:=Xf) (U:=[jN k,aa (.int ((2 ^ 0:Nat):Int)),ab]) (st:=st) (v:=(k:Int)) ∅ ∅ rfl
 rw[bM]at fr;rw[aD,cY,cI]at f;exact⟨j,U1 (v:=Wj) rfl rfl ((Zc (Zn rfl)).trans ((Zc (fr.trans f)).trans (Zq (Z6 rfl)))),m⟩
end
variable{z:Op}{obj:D}
section
variable{c:CE}
def op_eq:eqS st (opE o) (opE z)=aa (ak (o=z)):=by
 cases o with
 |nm i=>cases z with
  |nm j=>
   show aa (ak (S "name"=S "name")&&(ak ((i:Int)=(j:Int))&&ae))=_;rw[aG rfl,eJ,dR];exact av aa (decide_eq_decide.mpr ⟨λh=>by rw[Int.ofNat_inj.mp h],λh=>by cases h;rfl⟩)
  |nu v=>
   show aa (ak (S "name"=S "number")&&(ak ((i:Int)=v)&&ae))=_;rw[show ak (S "name"=S "number")=af by decide +kernel]
   exact av aa (aI λh=>nomatch h).symm
 |nu u=>cases z with
  |nm j=>
   show aa (ak (S "number"=S "name")&&(ak (u=(j:Int))&&ae))=_;rw[show ak (S "number"=S "name")=af by decide +kernel]
   exact av aa (aI λh=>nomatch h).symm
  |nu v=>
   show aa (ak (S "number"=S "number")&&(ak (u=v)&&ae))=_;rw[aG rfl,eJ,dR];exact av aa (decide_eq_decide.mpr ⟨λh=>by rw[h],λh=>by cases h;rfl⟩)
end
variable{i0:Nat}
section
variable{c:CE}{g0:Str}
theorem Zfc{α:Type}{b:α->D}{g:α->Li D}{E:Ot D->Env}(n:∀ y d,Zj (E y) i d=E (aa d))(m:s.length<=j):∀ {l:Li α},(∀ a∈l,Ap F s j q (E (aa (b a))) (E (aa (b a))) (g a))->∀ {y:Ot D}{st:Za}{acc:Li D},Grw s st->st[j]?=aa (ae,acc)->acc.length+(l.flatMap g).length<=90000->∃ e st',Zi (λd U s=>ex F q (Zj U i d) s) (l.map b) (E y) st=aa (.nx (E e),st')/\Kj j st st'/\st'[j]?=aa (ae,acc++l.flatMap g)
 |[],_,y,st,acc,k,f,_=>⟨y,st,rfl,Grw.refl.kj,by rw[List.flatMap_nil,bF];exact f⟩
 |a :: l,h,y,st,acc,k,f,t=>by
  rw[fV,aH]at t;obtain⟨s1,x,g1,r⟩:=h a Ls st acc k f ∅
  obtain⟨e,o,w,g2,p⟩:=Zfc n m (λc u=>h c (Lm _ u)) (y:=aa (b a)) (g1.grw m k) r (by rw[aH];omega)
  refine⟨e,o,?_,g1.trans g2,by rw[fV,<-aM];exact p⟩
  rw[aZ];show(match ex F q (Zj (E y) i (b a)) st with
   |some (.nx U',st')=>Zi _ (l.map b) U' st'
   |some (.ct U',st')=>Zi _ (l.map b) U' st'
   |some (.bk U',st')=>aa (.nx U',st')
   |some (.rt v,st')=>aa (.rt v,st')
   |none=>ab)=_
  rw[n,x];exact w
def Lf(s:Za)(f:Za->Res)(xs:Li D):Prop:=∀ st,Grw s st->∃ st' j,f st=aa (.lst j,st')/\st'[j]?=aa (ae,xs)/\Grw st st'
def Zej{b:D->Li (Ot D)}{wk:D->Za->Ot (Li D×(Za->Prop))}{en g:α->D}{l:Li α}(hi:Wk F s it U wk (l.map en))(m:l.length<=1000)(h:∀ a∈l,Y F s elt (Yd b U fr (en a)) (g a)):Lf s (Xc b wk fr (ev F it) (ev F elt) (ev F (.c (.bl ae))) U) (l.map g):=λst k=>by
 obtain⟨x,s1,ok,q,e,p,j⟩:=hi st k;obtain⟨f,o,i⟩:=X1 (s:=s1) (ok:=ok) (fe:=λd=>ev F elt (Yd b U fr d)) (fc:=λd=>ev F (.c (.bl ae)) (Yd b U fr d)) (λ_ _=>rfl) j (λa n=>Gv.mono (h a n) (k.trans e)) s1 .refl
 refine⟨f++[(ae,l.map g)],_,?_,Zx,(e.trans i).trans .push⟩;unfold Xc;simp only[q,p,aD,aq m,o]
theorem Ap.ext(hi:U[i]?=aa (jL j))(h:Lf s (ev F e U) xs):Ap F s j (.ext i e) U U xs:=λst acc g f n=>by
 obtain⟨s1,q,l,k,a⟩:=h st g;have b:=a.get f;refine⟨s1.set j (ae,acc++xs),?_,⟨λm d c=>?_,by rw[bL];exact a.len⟩,by rw[X5 (Zw b),aq rfl]⟩
 .show JK i (ev F e) U st=_
  unfold JK Zd5;simp only[hi,l,b,k];rw[aq (by unfold Zk;omega)]
 .rw[X5 (Zw b),ar (Ne.symm c)]
  exact a.old m d
def R.gather{l:Li α}{en:α->D}{g:α->Li D}{E:Ot D->Nat->Env}(w:∀ j,Zj U i0 (.lst j)=E ab j)(t:∀ y j d,Zj (E y j) i d=E (aa d) j)(n:∀ y j,(E y j)[i0]?=aa (jL j))(p:∀ j,Y F s e (E ab j) (.tup (l.map en)))(r:∀ j,s.length<=j->∀ a∈l,Ap F s j q (E (aa (en a)) j) (E (aa (en a)) j) (g a))(o:(l.flatMap g).length<=90000):R F s (.y i0 (.lstE .aN) (.seq (.for1 i af e q) (.q (.tOf (.v i0))))) U (.tup (l.flatMap g)):=λst b=>by
 obtain⟨s1,z,f⟩:=p st.length (st++[(ae,[])]) (b.trans .push);obtain⟨A,h,x,m,u⟩:=Zfc (i:=i) (E:=λy=>E y st.length) (λy d=>t y st.length d) b.len (r st.length b.len) (y:=ab) ((b.trans .push).trans f) (f.get Zx) (by rw[dG,cI];exact o)
 refine⟨h,?_,(f.kj.trans m).grw (aB _) .push⟩;have k:ex F (.set i0 (.lstE .aN)) U st=aa (.nx (E ab st.length),st++[(ae,[])]):=by rw[<-w];exact Zn rfl
 exact(Zc k).trans ((Zc ((for_tup z).trans x)).trans (Zq (Z6 (Vf (c:=(ae,[]++l.flatMap g)) (by show Z4 i0 _ _=_;unfold Z4;rw[n]) u))))
end
structure Stp where
 c:Nat
 t:Nat
 v:Nat
 w:Str
 f:Rw->List Rw
section
variable{c:CE}
end
mutual
theorem ZdS:∀ {x y:D},Zv x y=ae->x=y
 |.non,.non,_=>rfl
 |.bl a,.bl b,h=>by have h:(a==b)=ae:=h;rw[eq_of_beq h]
 |.int a,.int b,h=>by rw[ao (p:=a=b) h]
 |.str a,.str b,h=>by rw[ao (p:=a=b) h]
 |.tup a,.tup b,h=>by rw[XZ (xs:=a) (ys:=b) h]
theorem XZ:∀ {xs ys:Li D},Zr xs ys=ae->xs=ys
 |[],[],_=>rfl
 |x :: xs,y :: ys,h=>by
  have h:(Zv x y&&Zr xs ys)=ae:=h;rw[Ba]at h;rw[ZdS h.1,XZ h.2]
end
variable{xs:Li D}
def Zz{a b:Str}{ys:Li D}(h:D.tup (.str a :: xs)=.tup (.str b :: ys)):a=b:=by injection h with h;injection h with h _;injection h
def Y4{o z:Op}(h:opE o=opE z):o=z:=by
 cases o with
 |nm i=>cases z with
  |nm j=>
   have h:D.tup [.str "name",.int (i:Int)]=.tup [.str "name",.int (j:Int)]:=h
   injection h with h;injection h with _ h;injection h with h _;injection h with h;rw[Int.ofNat.inj h]
  |nu v=>exact au (Zz h) (by decide +kernel)
 |nu u=>cases z with
  |nm j=>exact au (Zz h) (by decide +kernel)
  |nu v=>
   have h:D.tup [.str "number",.int u]=.tup [.str "number",.int v]:=h
   injection h with h;injection h with _ h;injection h with h _;injection h with h;rw[h]
def Za0{r q:Rw}(h:rwE r=rwE q):r=q:=by
 have B:S "put"≠S "if"/\S "put"≠S "go"/\S "put"≠S "tell"/\S "put"≠S "skip"/\S "if"≠S "go"/\S "if"≠S "tell"/\S "if"≠S "skip"/\S "go"≠S "tell"/\S "go"≠S "skip"/\S "tell"≠S "skip":=by decide +kernel
 obtain⟨w,v,u,s,p,o,n,m,l,f⟩:=B;cases r with
 |put x y g z=>cases q with
  |put A a k i=>
   have h:D.tup [.str "put",.int (x:Int),opE y,.str g,opE z]=.tup [.str "put",.int (A:Int),opE a,.str k,opE i]:=h
   injection h with h;injection h with _ h;injection h with e h;injection h with d h;injection h with c h;injection h with b _;injection e with e;injection c with c
   rw[Int.ofNat.inj e,Y4 d,c,Y4 b]
  |ifr _ _ _ _=>exact au (Zz h) w
  |go _=>exact au (Zz h) v
  |tell _=>exact au (Zz h) u
  |skip=>exact au (Zz h) s
 |ifr y g z t=>cases q with
  |put _ _ _ _=>exact au (Zz h) w.symm
  |ifr a k i j=>
   have h:D.tup [.str "if",opE y,.str g,opE z,.int (t:Int)]=.tup [.str "if",opE a,.str k,opE i,.int (j:Int)]:=h
   injection h with h;injection h with _ h;injection h with e h;injection h with d h;injection h with c h;injection h with b _;injection b with b;injection d with d
   rw[Y4 e,d,Y4 c,Int.ofNat.inj b]
  |go _=>exact au (Zz h) p
  |tell _=>exact au (Zz h) o
  |skip=>exact au (Zz h) n
 |go t=>cases q with
  |put _ _ _ _=>exact au (Zz h) v.symm
  |ifr _ _ _ _=>exact au (Zz h) p.symm
  |go j=>
   have h:D.tup [.str "go",.int (t:Int)]=.tup [.str "go",.int (j:Int)]:=h
   injection h with h;injection h with _ h;injection h with h _;injection h with h;rw[Int.ofNat.inj h]
  |tell _=>exact au (Zz h) m
  |skip=>exact au (Zz h) l
 |tell y=>cases q with
  |put _ _ _ _=>exact au (Zz h) u.symm
  |ifr _ _ _ _=>exact au (Zz h) o.symm
  |go _=>exact au (Zz h) m.symm
  |tell a=>
   have h:D.tup [.str "tell",opE y]=.tup [.str "tell",opE a]:=h
   injection h with h;injection h with _ h;injection h with h _;rw[Y4 h]
  |skip=>exact au (Zz h) f
 |skip=>cases q with
  |put _ _ _ _=>exact au (Zz h) s.symm
  |ifr _ _ _ _=>exact au (Zz h) n.symm
  |go _=>exact au (Zz h) l.symm
  |tell _=>exact au (Zz h) f.symm
  |skip=>rfl
mutual
theorem ZdT:∀ {n:Nat}{x:D},okD n x=ae->Zv x x=ae
 |_,.non,_=>rfl
 |_,.int i,_=>aG rfl
 |_,.str i,_=>aG rfl
 |n+1,.tup xs,h=>X0 (n:=n) (xs:=xs) h
 |0,.tup xs,h=>nomatch h
 |0,.bl _,h=>nomatch h
 |_+1,.bl _,h=>nomatch h
 |0,.lst _,h=>nomatch h
 |_+1,.lst _,h=>nomatch h
 |0,.dic _,h=>nomatch h
 |_+1,.dic _,h=>nomatch h
 |0,.dct _ _,h=>nomatch h
 |_+1,.dct _ _,h=>nomatch h
 |0,.obj _,h=>nomatch h
 |_+1,.obj _,h=>nomatch h
 |0,.kt _,h=>nomatch h
 |_+1,.kt _,h=>nomatch h
theorem X0:∀ {n:Nat}{xs:Li D},Yf n xs=ae->Zr xs xs=ae
 |_,[],_=>rfl
 |n,x :: xs,h=>by
  have h:(okD n x&&Yf n xs)=ae:=h;rw[Ba]at h;show(Zv x x&&Zr xs xs)=ae;rw[ZdT h.1,X0 h.2];rfl
end
def ZaD(o:Op):∃ a,opE o=.tup a/\okD 8 (.tup a)=ae:=by cases o<;>exact⟨_,rfl,rfl⟩
def U5(r:Rw):∃ a,rwE r=.tup a/\okD 8 (.tup a)=ae:=by
 cases r with
 |put x y g z=>exact⟨_,rfl,by cases y<;>cases z<;>rfl⟩
 |ifr y g z t=>exact⟨_,rfl,by cases y<;>cases z<;>rfl⟩
 |go t=>exact⟨_,rfl,rfl⟩
 |tell y=>exact⟨_,rfl,by cases y<;>rfl⟩
 |skip=>exact⟨_,rfl,rfl⟩
def Y.eqd(d:Y F s a U (.tup xs))(c:Y F s b U (.tup ys))(g:okD 8 (.tup xs)=ae)(f:okD 8 (.tup ys)=ae):Y F s (.e a b) U (.bl (Zr xs ys)):=.cmp d c λst=>by
 have e:eqT xs (.tup ys)=aa (Zr xs ys):=aq (by rw[g,f];rfl)
 show(match eqT xs (.tup ys) with
  |some k=>aa k
  |none=>ZaI st xs ys)=_
 rw[e]
open Classical in
def Wh(a:okD 8 (.tup xs)=ae):Zr xs ys=ak (xs=ys):=by
 by_cases c:xs=ys
 .subst c;rw[aG rfl];exact X0 (n:=7) a
 .rw[aI c]
  cases q:Zr xs ys with
  |false=>rfl
  |true=>exact au (XZ q) c
def rv(k:Nat)(vs:Li Int):Rw->Sum D (Nat×Li Int)
 |.tell y=>.inl (teD (woI vs y))
 |r=>.inr (pkN k vs r,vsN vs r)
def ZfC(h:rs[k]?=aa r):mv rs k vs=rv k vs r:=by unfold mv;rw[h];cases r<;>rfl
def Als(m j:Nat)(r a:Rw):Prop:=∀ vs,Vs m vs->rv j vs a=rv j vs r
variable{v:Int}
section
variable{a b:Int}{x:Nat}
def Zc7(h:Sm a):arI a=a:=by unfold Sm at h;unfold arI;omega
def ZdQ:arI (a+arI (-b))=arI (a - b):=by unfold arI;omega
def Y6:rkI a (S "+") b=arI (a+b):=aq rfl
def ZaX:rkI a (S "-") b=arI (a - b):=by
 unfold rkI;rw[ar (by decide +kernel),aq rfl]
def VA:rkI a (S "*") b=arI (a * b):=by
 unfold rkI;rw[ar (by decide +kernel),ar (by decide +kernel),aq rfl]
def Zey:rkI a (S "/") b=if b=0 then 0 else arI (fdI a b):=by
 unfold rkI;rw[ar (by decide +kernel),ar (by decide +kernel),ar (by decide +kernel),aq rfl]
def Zez:rkI a (S "mod") b=if b=0 then a else a - b * fdI a b:=by
 unfold rkI;rw[ar (by decide +kernel),ar (by decide +kernel),ar (by decide +kernel),ar (by decide +kernel)]
def JL:fdI a 1=a:=by unfold fdI;rw[aq #[],Int.ediv_one]
def ZeP(a:Vs m vs)(b:x < m)(h:v=woI vs (.nm x)):vs.set x v=vs:=by
 have c:=a.l;subst h;show vs.set x (vs.getD x 0)=vs;rw[aU,Lg ∅,fA,List.set_getElem_self]
def Za8:soI a (S "<") b=ak (a < b):=aq rfl
def Za7:soI a (S "<=") b=ak (a<=b):=by
 unfold soI;rw[ar (by decide +kernel),aq rfl]
def Zdw:soI a (S "=") b=ak (a=b):=by
 unfold soI;rw[ar (by decide +kernel),ar (by decide +kernel),aq rfl]
def ZfP:soI a (S ">=") b=ak (b<=a):=by
 unfold soI;rw[ar (by decide +kernel),ar (by decide +kernel),ar (by decide +kernel),aq rfl]
def ZfQ:soI a (S ">") b=ak (b < a):=by
 unfold soI;rw[ar (by decide +kernel),ar (by decide +kernel),ar (by decide +kernel),ar (by decide +kernel),aq rfl]
def Zdx:soI a (S "!=") b=!decide (a=b):=by
 unfold soI;rw[ar (by decide +kernel),ar (by decide +kernel),ar (by decide +kernel),ar (by decide +kernel),ar (by decide +kernel)]
def ZcT:soI a g a=soI b g b:=by
 unfold soI;rw[aI (Int.lt_irrefl a),aI (Int.lt_irrefl b),aG (Int.le_refl a),aG (Int.le_refl b),aG (rfl:a=a),aG (rfl:b=b)]
end
def RX(c:Nat)(q:CS)(U:Env)(P:D->Prop):Prop:=∃ d,(∀ n s,R (rT (n+c)) s q U d)/\P d
def CX(c f:Nat)(ds:Li D)(P:D->Prop):Prop:=∃ d,(∀ n s,C (rT (n+c)) s f ds d)/\P d
variable{P:D->Prop}
section
variable{c':Nat}{k:Bool}{Q:D->Prop}
theorem CX.of{v:FD}(h:T f=aa v)(b:ds.length=v.ps)(a:RX c v.body (ds.map aa++ag (v.ns - ds.length) ab) P):CX (c+1) f ds P:=by
 obtain⟨d,g,e⟩:=a;exact⟨d,λn s=>.of h b (g n s),e⟩
def RX.pick(h:∀ n s,Y (rT (n+c)) s e U (.bl k))(g:k=ae->RX c p U P)(f:k=af->RX c q U P):RX c (.seq (.ite e p .skip) q) U P:=by
 cases k with
 |true=>obtain⟨d,a,b⟩:=g rfl;exact⟨d,λn s=>.yB (h n s) (a n s),b⟩
 |false=>obtain⟨d,a,b⟩:=f rfl;exact⟨d,λn s=>.no (h n s) (a n s),b⟩
theorem RX.ret(h:∀ n s,Y (rT (n+c)) s e U d)(a:P d):RX c (.seq (.ret e) q) U P:=⟨d,λn s=>.ret (h n s),a⟩
theorem RX.set(h:∀ n s,Y (rT (n+c)) s e U d)(f:RX c q (Zj U i d) P):RX c (.y i e q) U P:=by
 obtain⟨d,a,b⟩:=f;exact⟨d,λn s=>.set (h n s) (a n s),b⟩
def CX.mono(h:CX c f ds P)(e:∀ d,P d->Q d):CX c f ds Q:=let ⟨d,a,b⟩:=h;⟨d,a,e d b⟩
def CX.up(h:CX c' f ds P)(e:c'<=c):CX c f ds P:=let ⟨d,a,b⟩:=h;⟨d,λn s=>by have:=a (n+(c - c')) s;rwa [show n+(c - c')+c'=n+c by omega]at this,b⟩
def RX.retC(g:∀ n s,Y (rT (n+c)) s a U (.tup xs))(h:CX c' f (xs++ds) P)(e:c'<=c:=by decide):RX c (.seq (.ret (.call f a ds)) q) U P:=by
 obtain⟨d,a,b⟩:=h.up e;exact .ret (λn s=>.call (g n s) (a n s)) b
def RX.setC(j:∀ n s,Y (rT (n+c)) s a U (.tup xs))(h:CX c' f (xs++ds) P)(e:∀ d,P d->RX c q (Zj U i d) Q)(g:c'<=c:=by decide):RX c (.y i (.call f a ds) q) U Q:=by
 obtain⟨d,a,b⟩:=h.up g;exact .set (λn s=>.call (j n s) (a n s)) (e d b)
def RX.iset{e':CE}(h:∀ n s,Y (rT (n+c)) s e U (.bl k))(t:k=ae->∃ d,(∀ n s,Y (rT (n+c)) s e' U d)/\RX c q (Zj U i d) P)(r:k=af->RX c q U P):RX c (.seq (.ite e (.z (.set i e')) .skip) q) U P:=by
 cases k with
 |true=>
  obtain⟨x,p,d,a,b⟩:=t rfl;refine⟨d,λn s st g=>?_,b⟩
  obtain⟨s1,w,f⟩:=h n s st g;obtain⟨m,v,j⟩:=p n s s1 (g.trans f);obtain⟨l,u,o⟩:=a n s m (g.trans (f.trans j));exact⟨l,(Zc ((ZY w).trans ((Zc (Zn v)).trans Zf))).trans u,f.trans (j.trans o)⟩
 |false=>obtain⟨d,a,b⟩:=r rfl;exact⟨d,λn s=>.no (h n s) (a n s),b⟩
end
noncomputable def Ud:Op->Bool
 |.nm _=>af
 |.nu _=>ae
variable{g:Str}
section
variable{k:Bool}{Q:D->Prop}
def Y.eqo{u:Op}(f:∀ s,Y F s a U (opE o))(d:∀ s,Y F s b U (opE u)):∀ s,Y F s (.e a b) U (.bl (ak (o=u))):=λs=>by
 obtain⟨xs,c,i⟩:=ZaD o;obtain⟨ys,g,j⟩:=ZaD u;have e:ak (o=u)=Zr xs ys:=by
  rw[Wh i];refine decide_eq_decide.mpr ⟨λh=>?_,λh=>Y4 (by rw[c,g,h])⟩
  rw[h,g]at c;injection c with c;exact c.symm
 have f:=f s;have d:=d s;rw[c]at f;rw[g]at d;rw[e];exact .eqd f d i j
def Y.eqr{o u:Rw}(f:∀ s,Y F s a U (rwE o))(d:∀ s,Y F s b U (rwE u)):∀ s,Y F s (.e a b) U (.bl (ak (o=u))):=λs=>by
 obtain⟨xs,c,i⟩:=U5 o;obtain⟨ys,g,j⟩:=U5 u;have e:ak (o=u)=Zr xs ys:=by
  rw[Wh i];refine decide_eq_decide.mpr ⟨λh=>?_,λh=>Za0 (by rw[c,g,h])⟩
  rw[h,g]at c;injection c with c;exact c.symm
 have f:=f s;have d:=d s;rw[c]at f;rw[g]at d;rw[e];exact .eqd f d i j
def IsPut(m sz:Nat)(r:Rw)(d:D):Prop:=∃ x y g z,d=rwE (.put x y g z)/\RwOk m sz (.put x y g z)/\∀ vs,Vs m vs->vsN vs (.put x y g z)=vsN vs r
def IsIf(m sz:Nat)(r:Rw)(d:D):Prop:=∃ y g z t,d=rwE (.ifr y g z t)/\RwOk m sz (.ifr y g z t)/\∀ vs j,Vs m vs->pkN j vs (.ifr y g z t)=pkN j vs r
def IsRw(m sz j:Nat)(r:Rw)(d:D):Prop:=∃ a,d=rwE a/\RwOk m sz a/\Als m j r a
def Jm(y z:Op):C (rT (n+1)) s 73 [opE y,opE z] (.bl (Ud y&&Ud z)):=by
 cases y<;>cases z<;>exact .of (v:=Yw) rfl rfl (.ret ())
def Zdk(o u:Op):∃ k,∀ st,Q0 .Lt (opE o) (opE u) st=aa k:=by
 have a:∀ (i j:Int),∃ k:Bool,(if Zv (.int i) (.int j)=ae then aa (ak (0 < ([]:Li D).length)) else aa (ak (i < j)))=aa k:=λi j=>by
  split<;>exact⟨_,rfl⟩
 cases o<;>cases u
 .rename_i i j
  obtain⟨k,h⟩:=a i j;exact⟨k,λst=>h⟩
 .exact⟨_,λst=>rfl⟩
 .exact⟨_,λst=>rfl⟩
 .rename_i i j
  obtain⟨k,h⟩:=a i j;exact⟨k,λst=>h⟩
def Zbr{x:Nat}{y z:Op}(h:RwOk m sz (.put x y g z)):CX 2 75 [rwE (.put x y g z)] (IsPut m sz (.put x y g z)):=by
 obtain⟨b,a,e,c⟩:=h;have same:IsPut m sz (.put x y g z) (rwE (.put x y g z)):=⟨x,y,g,z,rfl,⟨b,a,e,c⟩,λ_ _=>rfl⟩
 cases z with
 |nm j=>exact .of (v:=Z0) rfl rfl (.pick (k:=ak (g=S "-")&&af) (λn s=>.and (.eqs () ()) λ_=>.r rf) (λq=>by rw[Bool.and_false]at q;cases q) λ_=>.ret (λn s=>.r rf) same)
 |nu v=>
  refine .of (v:=Z0) rfl rfl (.pick (k:=ak (g=S "-")&&ae) (λn s=>.and (.eqs () ()) λ_=>.r rf) (λq=>?_) λ_=>.ret (λn s=>.r rf) same)
  rw[dR]at q;have q:=ao q;refine .ret (λn s=>.adT (xs:=[.str "put",.int (x:Int),opE y]) (.tkT (i:=3) (xs:=[.str "put",.int (x:Int),opE y,.str g,opE (.nu v)]) () () (show 3<=5 by decide)) (.cons () (.cons (.cons () (.cons (.call1 (g1 (.ixt (j:=1) (xs:=[.str "number",.int v]) () () rfl) (d:=.int (-v)) (gp λ_=>rfl)) YR) .nil)) .nil)) (show 3+2<=100000 by decide)) ⟨x,y,S "+",.nu (arI (-v)),rfl,⟨b,a,#[],VL⟩,λvs _=>?_⟩
  subst q;show vs.set x (rkI (woI vs y) (S "+") (arI (-v)))=vs.set x (rkI (woI vs y) (S "-") v);rw[Y6,ZaX,ZdQ]
end
section
variable{k:Bool}{Q:D->Prop}
def Ze3{x:Nat}{y z:Op}(h:RwOk m sz (.put x y g z))(f:g=S "+"\/g=S "*"):CX 2 74 [rwE (.put x y g z),.int 2,.int 4] (IsPut m sz (.put x y g z)):=by
 obtain⟨c,b,d,a⟩:=h;obtain⟨k,e⟩:=Zdk z y;refine .of (v:=Z1) rfl rfl (.pick (k:=k) (λn s=>.cmp (x:=opE z) (y:=opE y) () () e) (λ_=>?_) λ_=>.ret (λn s=>.r rf) ⟨x,y,g,z,rfl,⟨c,b,d,a⟩,λ_ _=>rfl⟩)
 refine .ret (λn s=>.call (xs:=[.tup [.str "put",.int (x:Int),opE z,.str g,opE z],.int 4,opE y]) (.cons (.call (xs:=[rwE (.put x y g z),.int 2,opE z]) () (Vb (xs:=[.str "put",.int (x:Int),opE y,.str g,opE z]) (i:=2) (show 2 < 5 by decide) (show 5<=1000 by decide))) (.cons () (.cons () .nil))) (Vb (xs:=[.str "put",.int (x:Int),opE z,.str g,opE z]) (i:=4) (show 4 < 5 by decide) (show 5<=1000 by decide))) ⟨x,z,g,y,rfl,⟨c,a,d,b⟩,λvs _=>?_⟩
 show vs.set x (rkI (woI vs z) g (woI vs y))=vs.set x (rkI (woI vs y) g (woI vs z));rcases f with rfl|rfl
 .rw[Y6,Y6,Int.add_comm]
 .rw[VA,VA,Int.mul_comm]
def Ze2{t:Nat}{y z:Op}(h:RwOk m sz (.ifr y g z t))(f:g=S "="\/g=S "!="):CX 2 74 [rwE (.ifr y g z t),.int 1,.int 3] (IsIf m sz (.ifr y g z t)):=by
 obtain⟨b,d,a,c⟩:=h;obtain⟨k,e⟩:=Zdk z y;refine .of (v:=Z1) rfl rfl (.pick (k:=k) (λn s=>.cmp (x:=opE z) (y:=opE y) () () e) (λ_=>?_) λ_=>.ret (λn s=>.r rf) ⟨y,g,z,t,rfl,⟨b,d,a,c⟩,λ_ _ _=>rfl⟩)
 refine .ret (λn s=>.call (xs:=[.tup [.str "if",opE z,.str g,opE z,.int (t:Int)],.int 3,opE y]) (.cons (.call (xs:=[rwE (.ifr y g z t),.int 1,opE z]) () (Vb (xs:=[.str "if",opE y,.str g,opE z,.int (t:Int)]) (i:=1) (show 1 < 5 by decide) (show 5<=1000 by decide))) (.cons () (.cons () .nil))) (Vb (xs:=[.str "if",opE z,.str g,opE z,.int (t:Int)]) (i:=3) (show 3 < 5 by decide) (show 5<=1000 by decide))) ⟨z,g,y,t,rfl,⟨a,d,b,c⟩,λvs j _=>?_⟩
 show(if soI (woI vs z) g (woI vs y)=ae then t else j+1)=if soI (woI vs y) g (woI vs z)=ae then t else j+1
 rcases f with rfl|rfl
 .rw[Zdw,Zdw,decide_eq_decide.mpr ⟨ax,ax⟩]
 .rw[Zdx,Zdx,decide_eq_decide.mpr ⟨ax,ax⟩]
def Ze8{x:Nat}{y z:Op}(h:RwOk m sz (.put x y g z)):CX 2 76 [rwE (.put x y g z)] (IsPut m sz (.put x y g z)):=by
 obtain⟨a,c,f,e⟩:=h;refine .of (v:=ZN) rfl rfl (.set (d:=opE y) (λn s=>.r rf) (.set (d:=.str g) (λn s=>.r rf) (.set (d:=opE z) (λn s=>.r rf) (.pick (k:=(ak (g=S "*")&&ak (z=.nu 0))||((ak (g=S "mod")&&ak (z=.nu 1))||(ak (g=S "-")&&ak (y=z)))) (λn s=>.or (.and (.eqs () ()) λ_=>Y.eqo (o:=z) (u:=.nu 0) (λs=>.r rf) (λs=>.r rf) s) λ_=>.or (.and (.eqs () ()) λ_=>Y.eqo (o:=z) (u:=.nu 1) (λs=>.r rf) (λs=>.r rf) s) λ_=>.and (.eqs () ()) λ_=>Y.eqo (o:=y) (u:=z) (λs=>.r rf) (λs=>.r rf) s) (λq=>?_) λ_=>.pick (k:=(ak (S "*"=g)||(ak (S "/"=g)||false))&&ak (z=.nu 1)) (λn s=>.and (.cmp (x:=.str g) () () λst=>rfl) λ_=>Y.eqo (o:=z) (u:=.nu 1) (λs=>.r rf) (λs=>.r rf) s) (λq=>?_) λ_=>.ret (λn s=>.r rf) ⟨x,y,g,z,rfl,⟨a,c,f,e⟩,λ_ _=>rfl⟩))))
 .refine .ret (λn s=>.r rf) ⟨x,.nu 0,S "+",.nu 0,rfl,⟨a,⟨#[],#[]⟩,#[],⟨#[],#[]⟩⟩,λvs _=>?_⟩
  show vs.set x (rkI 0 (S "+") 0)=vs.set x (rkI (woI vs y) g (woI vs z));have b:rkI 0 (S "+") 0=0:=Y6;rw[bV,bV,Ba,Ba,Ba,aO,aO,aO,aO,aO,aO]at q;rcases q with⟨rfl,rfl⟩|⟨rfl,rfl⟩|⟨rfl,rfl⟩
  .rw[b,VA]
   show vs.set x 0=vs.set x (arI (_ * 0));rw[Int.mul_zero];rfl
  .rw[b,Zez]
   show vs.set x 0=vs.set x (if (1:Int)=0 then _ else _ - 1 * fdI _ 1);rw[ar #[],JL,Int.one_mul,Int.sub_self]
  .rw[b,ZaX,Int.sub_self];rfl
 .refine .ret (λn s=>.r rf) ⟨x,y,S "+",.nu 0,rfl,⟨a,c,#[],⟨#[],#[]⟩⟩,λvs _=>?_⟩
  show vs.set x (rkI (woI vs y) (S "+") 0)=vs.set x (rkI (woI vs y) g (woI vs z));rw[dM,Ba,bV,aO,aO,aO]at q;rcases q with⟨rfl|rfl,rfl⟩
  .rw[Y6,VA,Int.add_zero]
   show _=vs.set x (arI (_ * 1));rw[Int.mul_one]
  .rw[Y6,Zey,Int.add_zero]
   show _=vs.set x (if (1:Int)=0 then 0 else arI (fdI _ 1));rw[ar #[],JL]
def IsPut.rw{x j:Nat}{y z:Op}(h:IsPut m sz (.put x y g z) d):IsRw m sz j (.put x y g z) d:=let ⟨_,_,_,_,a,b,c⟩:=h;⟨_,a,b,λvs e=>av (λw=>Sum.inr (j+1,w)) (c vs e)⟩
def IsIf.rw{t j:Nat}{y z:Op}(h:IsIf m sz (.ifr y g z t) d):IsRw m sz j (.ifr y g z t) d:=let ⟨_,_,_,_,a,b,c⟩:=h;⟨_,a,b,λvs e=>av (λw=>Sum.inr (w,vs)) (c vs j e)⟩
def IsRw.tr{j:Nat}{e:Rw}(h:IsRw m sz j e d)(g:Als m j r e):IsRw m sz j r d:=let ⟨_,a,b,c⟩:=h;⟨_,a,b,λvs f=>(c vs f).trans (g vs f)⟩
def ZdG{x j:Nat}{y z:Op}(h:RwOk m sz (.put x y g z)):CX 4 77 [rwE (.put x y g z)] (IsRw m sz j (.put x y g z)):=by
 have A:∀ {x:Nat}{y z:Op}{g:Str},RwOk m sz (.put x y g z)->RX 3 (.y 0 (.f 76 (.s 0))
 (.seq (.ite (.e (.v 0) (.g (.aC (.t "put") (.aC (.x 0 1) (.aC (.g (.aC (.t "name") (.u (.x 0 1)))) (.aC (.t "+") (.u (.c (.tup [(.str "number"),(.int 0)]))))))))) (.q (.c (.tup [(.str "skip")]))) .skip)
 (.q (.v 0)))) [aa (rwE (.put x y g z))] (IsRw m sz j (.put x y g z)):=λ{x y z g} h=>by
  refine .setC (xs:=[rwE (.put x y g z)]) (λn s=>.r rf) (Ze8 h) λd ⟨l,E,g2,C,M,J,T⟩=>?_
  subst M;have B:Als m j (.put x y g z) (.put l E g2 C):=λvs p=>av (λw=>Sum.inr (j+1,w)) (T vs p)
  refine .pick (k:=ak (Rw.put l E g2 C=.put l (.nm l) (S "+") (.nu 0))) (λn s=>Y.eqr (o:=.put l E g2 C) (u:=.put l (.nm l) (S "+") (.nu 0)) (λs=>.r rf) (λs=>.r rf) s) (λq=>?_) λ_=>.ret (λn s=>.r rf) ⟨_,rfl,J,B⟩
  refine .ret (λn s=>.r rf) ⟨.skip,rfl,trivial,λvs p=>(B vs p).symm.symm ▸ ?_⟩
  rw[ao q];show Sum.inr (j+1,vs)=Sum.inr (j+1,vs.set l (rkI (woI vs (.nm l)) (S "+") 0));rw[Y6,Int.add_zero,Zc7 (Zbk (o:=.nm l) p J.1),ZeP p J.1 rfl]
 have W:=h;obtain⟨V,I,hg,H⟩:=W;refine .of (v:=Xi) rfl rfl (.pick (k:=Ud y&&Ud z) (λn s=>.call (xs:=[opE y,opE z]) () (Jm y z)) (λq=>?_) λ_=>?_)
 .cases y with
  |nm _=>cases q
  |nu a=>cases z with
   |nm _=>cases q
   |nu b=>
    refine .ret (λn s=>.cons () (.cons () (.cons (.cons () (.cons (.call (xs:=[.int a,.str g,.int b]) () (Zf2 I H)) .nil)) (.cons () (.cons () .nil))))) ⟨.put x (.nu (rkI a g b)) (S "+") (.nu 0),rfl,⟨V,ZaW I H,#[],⟨#[],#[]⟩⟩,λvs _=>?_⟩
    show Sum.inr (j+1,vs.set x (rkI (rkI a g b) (S "+") 0))=Sum.inr (j+1,vs.set x (rkI a g b));rw[Y6,Int.add_zero,Zc7 (ZaW I H)]
 .refine .setC (xs:=[rwE (.put x y g z)]) (λn s=>.r rf) (Zbr h) λd ⟨G,F,g1,D,N,Q,O⟩=>?_
  subst N;have B:Als m j (.put x y g z) (.put G F g1 D):=λvs p=>av (λw=>Sum.inr (j+1,w)) (O vs p)
  have go:∀ (k:Bool),ZU g1 [.str "+",.str "*"]=aa k->(k=ae->g1=S "+"\/g1=S "*")->RX 3 _ _ _:=λk N M=>.iset (k:=k) (i:=0) (e:=.cmp .In (.x 0 3) (.g (.aC (.t "+") (.u (.t "*"))))) (e':=.call 74 (.a 0 (.aC (.i 2) (.u (.i 4)))) []) (U:=[aa (rwE (.put G F g1 D))]) (P:=IsRw m sz j (.put x y g z)) (λn s=>.cmp (x:=.str g1) (y:=.tup [.str "+",.str "*"]) () () λst=>N) (λq=>by
    obtain⟨d,X,x3,y3,g3,z3,rfl,Z,R⟩:=Ze3 Q (M q);obtain⟨d,L,K⟩:=A Z;exact⟨_,λn s=>.call (xs:=[rwE (.put G F g1 D),.int 2,.int 4]) () (X _ s),d,L,K.tr λvs p=>av (λw=>Sum.inr (j+1,w)) ((R vs p).trans (O vs p))⟩) λ_=>by
    obtain⟨d,L,K⟩:=A Q;exact⟨d,L,K.tr B⟩
  exact go (ak (S "+"=g1)||(ak (S "*"=g1)||false)) rfl λq=>by
   rw[bV,aO,dM,aO]at q;exact q.imp ax ax
end
section
variable{k:Bool}{Q:D->Prop}
noncomputable def opV:Op->Int
 |.nm i=>i
 |.nu v=>v
def Zfl{a b:Int}:ak (a - 1 < b)=ak (a<=b):=decide_eq_decide.mpr ⟨λh=>by omega,λh=>by omega⟩
def Zfm{a b:Int}:ak (a < b+1)=ak (a<=b):=decide_eq_decide.mpr ⟨λh=>by omega,λh=>by omega⟩
def Ze1{t:Nat}{y z:Op}(h:RwOk m sz (.ifr y g z t)):CX 1 78 [rwE (.ifr y g z t)] (IsIf m sz (.ifr y g z t)):=by
 obtain⟨b,d,a,c⟩:=h;refine .of (v:=ZZ) rfl rfl (.pick (λn s=>.eqs () ()) (λq=>.ret (λn s=>.r rf) ⟨z,S "<",y,t,rfl,⟨a,#[],b,c⟩,λvs j _=>?_⟩) λ_=>.pick (λn s=>.eqs () ()) (λq=>.ret (λn s=>.r rf) ⟨z,S "<=",y,t,rfl,⟨a,#[],b,c⟩,λvs j _=>?_⟩) λ_=>.ret (λn s=>.r rf) ⟨y,g,z,t,rfl,⟨b,d,a,c⟩,λ_ _ _=>rfl⟩)
 .cases ao q
  show(if soI (woI vs z) (S "<") (woI vs y)=ae then t else j+1)=if soI (woI vs y) (S ">") (woI vs z)=ae then t else j+1
  rw[Za8,ZfQ]
 .cases ao q
  show(if soI (woI vs z) (S "<=") (woI vs y)=ae then t else j+1)=if soI (woI vs y) (S ">=") (woI vs z)=ae then t else j+1
  rw[Za7,ZfP]
def Zbp{t:Nat}{y z:Op}:C (rT (n+2)) s 79 [rwE (.ifr y g z t)] (.bl ((Ud y&&Ud z)||ak (y=z))):=
 .of (v:=YH) rfl rfl (.ret (.or (.call (xs:=[opE y,opE z]) () (Jm y z)) λ_=>Y.eqo (o:=y) (u:=z) (λs=>.r rf) (λs=>.r rf) s))
def QS{t j:Nat}{y z:Op}(h:RwOk m sz (.ifr y g z t))(d:((Ud y&&Ud z)||ak (y=z))=ae):CX 2 80 [rwE (.ifr y g z t)] (IsRw m sz j (.ifr y g z t)):=by
 obtain⟨p,w,o,l⟩:=h;have c:∀ n s,Y (rT (n+1)) s (.f 4 (.aC (.ix (.x 0 1) (.i 1)) (.aC (.x 0 2) (.u (.ix (.x 0 3) (.i 1)))))) [aa (rwE (.ifr y g z t)),ab] (.bl (soI (opV y) g (opV z))):=λn s=>by
  cases y<;>cases z<;>exact .call () Zf3
 have e:∀ vs,soI (woI vs y) g (woI vs z)=soI (opV y) g (opV z):=λvs=>by
  rw[bV,aO]at d;rcases d with d|rfl
  .cases y with
   |nm _=>cases d
   |nu a=>cases z with
    |nm _=>cases d
    |nu b=>rfl
  .exact ZcT
 refine .of (v:=XI) rfl rfl (.set c ?_);cases q:soI (opV y) g (opV z) with
 |true=>exact .ret (λn s=>.ife (k:=ae) () ()) ⟨.go t,rfl,l,λvs _=>by show Sum.inr (t,vs)=Sum.inr (if soI (woI vs y) g (woI vs z)=ae then t else j+1,vs);rw[e,q,aq rfl]⟩
 |false=>exact .ret (λn s=>.ife (k:=af) () ()) ⟨.skip,rfl,trivial,λvs _=>by show Sum.inr (j+1,vs)=Sum.inr (if soI (woI vs y) g (woI vs z)=ae then t else j+1,vs);rw[e,q,ar #[]]⟩
def Ze4{t:Nat}{y z:Op}(h:RwOk m sz (.ifr y g z t)):CX 1 81 [rwE (.ifr y g z t)] (IsIf m sz (.ifr y g z t)):=by
 obtain⟨p,B,o,w⟩:=h;have same:IsIf m sz (.ifr y g z t) (rwE (.ifr y g z t)):=⟨y,g,z,t,rfl,⟨p,B,o,w⟩,λ_ _ _=>rfl⟩
 have b:g=S "<="->RX 0 (.seq (.ite (.and (.e (.x 1 0) (.t "number")) (.cmp .Gt (.x 1 1) (.i (-1000000000)))) (.q (.g (.aC (.t "if") (.aC (.g (.aC (.t "number") (.u (.l (.x 1 1) (.i 1))))) (.aC (.t "<") (.a 2 (.u (.x 0 4)))))))) .skip)
 (.q (.v 0))) [aa (rwE (.ifr y g z t)),aa (opE y),aa (opE z)] (IsIf m sz (.ifr y g z t)):=λf=>by
  cases y with
  |nm i=>exact .pick (k:=af) (λn s=>.and (k:=af) (m:=af) () λq=>nomatch q) (λq=>nomatch q) λ_=>.ret (λn s=>.r rf) same
  |nu v=>
   refine .pick (k:=ae&&ak (-1000000000 < v)) (λn s=>.and () λ_=>.cmp (x:=.int v) (y:=.int (-1000000000)) () () λ_=>rfl) (λq=>?_) λ_=>.ret (λn s=>.r rf) same
   have q:-1000000000 < v:=ao (by rwa [eJ]at q)
   have A:Sm v:=p;refine .ret (λn s=>.r rf) ⟨.nu (v - 1),S "<",z,t,rfl,⟨(show Sm (v - 1) by unfold Sm at *;omega),#[],o,w⟩,λvs j _=>?_⟩
   subst f;show(if soI (v - 1) (S "<") (woI vs z)=ae then t else j+1)=if soI v (S "<=") (woI vs z)=ae then t else j+1
   rw[Za8,Za7,Zfl]
 refine .of (v:=Ym) rfl rfl (.set (d:=opE y) (λn s=>.r rf) (.set (d:=opE z) (λn s=>.r rf) (.pick (k:=!decide (g=S "<=")) (λn s=>.cmp (x:=.str g) (y:=.str "<=") () () λ_=>rfl) (λ_=>.ret (λn s=>.r rf) same) λq=>?_)))
 have f:g=S "<=":=ao (by cases c:ak (g=S "<=") with|true=>rfl|false=>rw[c]at q;cases q)
 cases z with
 |nm i=>exact .pick (k:=af) (λn s=>.and (k:=af) (m:=af) () λq=>nomatch q) (λq=>nomatch q) λ_=>b f
 |nu v=>
  refine .pick (k:=ae&&ak (v < 999999999)) (λn s=>.and () λ_=>.cmp (x:=.int v) (y:=.int 999999999) () () λ_=>rfl) (λq=>?_) λ_=>b f
  have q:v < 999999999:=ao (by rwa [eJ]at q)
  have A:Sm v:=o;refine .ret (λn s=>.r rf) ⟨y,S "<",.nu (v+1),t,rfl,⟨p,#[],(show Sm (v+1) by unfold Sm at *;omega),w⟩,λvs j _=>?_⟩
  subst f;show(if soI (woI vs y) (S "<") (v+1)=ae then t else j+1)=if soI (woI vs y) (S "<=") v=ae then t else j+1
  rw[Za8,Za7,Zfm]
def Ze5{t j:Nat}{y z:Op}(h:RwOk m sz (.ifr y g z t)):CX 3 82 [rwE (.ifr y g z t),.int (j:Int)] (IsRw m sz j (.ifr y g z t)):=by
 refine .of (v:=XH) rfl rfl (.pick (k:=ak ((t:Int)=(j:Int)+1)) (λn s=>.cmp (x:=.int (t:Int)) (y:=.int ((j:Int)+1)) () (.add () ()) λ_=>rfl) (λq=>?_) λ_=>?_)
 .have q:=ao q
  refine .ret (λn s=>.r rf) ⟨.skip,rfl,trivial,λvs _=>?_⟩
  show Sum.inr (j+1,vs)=Sum.inr (if soI (woI vs y) g (woI vs z)=ae then t else j+1,vs)
  rw[show t=j+1 by omega];split<;>rfl
 .refine .setC (xs:=[rwE (.ifr y g z t)]) (λn s=>.r rf) (Ze1 h) λd ⟨c,g1,b,l,D,A,E⟩=>?_
  subst D;have F:Als m j (.ifr y g z t) (.ifr c g1 b l):=λvs p=>av (λw=>Sum.inr (w,vs)) (E vs j p)
  have o:∀ {t:Nat}{y z:Op}{g:Str},RwOk m sz (.ifr y g z t)->RX 2 (.q (.f 81 (.s 0))) [aa (rwE (.ifr y g z t)),jN j] (IsRw m sz j (.ifr y g z t)):=λ{t y z g} h=>.retC (xs:=[rwE (.ifr y g z t)]) (λn s=>.r rf) ((Ze4 h).mono λ_=>IsIf.rw)
  refine .pick (λn s=>.call (xs:=[rwE (.ifr c g1 b l)]) () Zbp) (λq=>.retC (xs:=[rwE (.ifr c g1 b l)]) (λn s=>.r rf) ((QS A q).mono λ_ w=>w.tr F)) λ_=>?_
  have go:∀ (k:Bool),ZU g1 [.str "=",.str "!="]=aa k->(k=ae->g1=S "="\/g1=S "!=")->RX 2 _ _ _:=λk D J=>.iset (k:=k) (i:=0) (e:=.cmp .In (.x 0 2) (.g (.aC (.t "=") (.u (.t "!="))))) (e':=.call 74 (.a 0 (.aC (.i 1) (.u (.i 3)))) []) (U:=[aa (rwE (.ifr c g1 b l)),jN j]) (P:=IsRw m sz j (.ifr y g z t)) (λn s=>.cmp (x:=.str g1) (y:=.tup [.str "=",.str "!="]) () () λst=>D) (λq=>by
    obtain⟨d,H,L,N,K,M,rfl,I,G⟩:=Ze2 A (J q);obtain⟨d,C,B⟩:=o I;exact⟨_,λn s=>.call (xs:=[rwE (.ifr c g1 b l),.int 1,.int 3]) () (H _ s),d,C,B.tr λvs p=>av (λw=>Sum.inr (w,vs)) ((G vs j p).trans (E vs j p))⟩) λ_=>by
    obtain⟨d,C,B⟩:=o A;exact⟨d,C,B.tr F⟩
  exact go (ak (S "="=g1)||(ak (S "!="=g1)||false)) rfl λq=>by
   rw[bV,aO,dM,aO]at q;exact q.imp ax ax
def ZdH{j:Nat}(h:RwOk m sz r):CX 5 83 [rwE r,.int (j:Int)] (IsRw m sz j r):=by
 have go:∀ (r:Rw),RwOk m sz r->RX 4 (.seq (.ite (.e (.v 0) (.g (.aC (.t "go") (.u (.p (.v 1) (.i 1)))))) (.q (.c (.tup [(.str "skip")]))) .skip)
 (.q (.v 0))) [aa (rwE r),jN j] (IsRw m sz j r):=λr h=>.pick (k:=ak (r=.go (j+1))) (λn s=>Y.eqr (o:=r) (u:=.go (j+1)) (λs=>.r rf) (λs=>by
   show Y _ _ _ _ (.tup [.str "go",.int ((j+1:Nat):Int)]);rw[cZ];exact .cons () (.cons (.add () ()) .nil)) s) (λq=>by cases ao q;exact .ret (λn s=>.r rf) ⟨.skip,rfl,trivial,λ_ _=>rfl⟩) λ_=>.ret (λn s=>.r rf) ⟨r,rfl,h,λ_ _=>rfl⟩
 cases r with
 |put x y g z=>exact .of (v:=ZT) rfl rfl (.pick (k:=ae) (λn s=>.r rf) (λ_=>.retC (xs:=[rwE (.put x y g z)]) (λn s=>.r rf) (ZdG h)) λq=>nomatch q)
 |ifr y g z t=>exact .of (v:=ZT) rfl rfl (.pick (k:=af) (λn s=>.r rf) (λq=>nomatch q) λ_=>.pick (k:=ae) (λn s=>.r rf) (λ_=>.retC (xs:=[rwE (.ifr y g z t),.int (j:Int)]) (λn s=>.r rf) (Ze5 h)) λq=>nomatch q)
 |go t=>exact .of (v:=ZT) rfl rfl (.pick (k:=af) (λn s=>.r rf) (λq=>nomatch q) λ_=>.pick (k:=af) (λn s=>.r rf) (λq=>nomatch q) λ_=>go _ h)
 |tell y=>exact .of (v:=ZT) rfl rfl (.pick (k:=af) (λn s=>.r rf) (λq=>nomatch q) λ_=>.pick (k:=af) (λn s=>.r rf) (λq=>nomatch q) λ_=>go _ h)
 |skip=>exact .of (v:=ZT) rfl rfl (.pick (k:=af) (λn s=>.r rf) (λq=>nomatch q) λ_=>.pick (k:=af) (λn s=>.r rf) (λq=>nomatch q) λ_=>go _ h)
end
section
variable{c:CE}{k t:Bool}{Q:D->Prop}
def Y.tof(b:s[j]?=aa (t,xs))(h:Y F s e U (.lst j)):Y F s (.tOf e) U (.tup xs):=λst g=>by
 obtain⟨s1,c,a⟩:=h st g;exact⟨s1,Vf c ((g.trans a).get b),a⟩
def Lv.tof(h:Lv s (ev F e U) xs):Y F s (.tOf e) U (.tup xs):=λst g=>by
 obtain⟨s1,j,b,d,c,a⟩:=h st g;exact⟨s1,Vf d c,a⟩
end
def VJ(a b:Nat):a+b=(a ^^^ b)+2 * (a &&& b):=by
 induction a using Nat.strongRecOn generalizing b with
 |_ a c=>
  by_cases h:a=0
  .subst h;simp
  .have i:=c (a / 2) ∅ (b / 2)
   rw[<-Nat.xor_div_two,<-Nat.and_div_two]at i;have x:=@Nat.xor_mod_two_eq_one a b;have n:=@Nat.and_mod_two_eq_one a b;generalize a ^^^ b=q at *
   generalize a &&& b=r at *
   rcases dS a with ha|ha<;>rcases dS b with hb|hb<;>rw[ha,hb]at x n
   .have:=(dS q).resolve_right λz=>(by simp at x;omega)
    have:=(dS r).resolve_right λz=>(by simp at n;omega)
    omega
   .have:=x.mpr (by simp)
    have:=(dS r).resolve_right λz=>(by simp at n;omega)
    omega
   .have:=x.mpr (by simp)
    have:=(dS r).resolve_right λz=>(by simp at n;omega)
    omega
   .have:=(dS q).resolve_right λz=>(by simp at x;omega)
    have:=n.mpr ⟨rfl,rfl⟩;omega
def ZcW{c i:Nat}(h:c.testBit i=ae):c - 2 ^ i=c ^^^ 2 ^ i:=by
 have a:=VJ (c ^^^ 2 ^ i) (2 ^ i);have d:(c ^^^ 2 ^ i) ^^^ 2 ^ i=c:=by rw[Nat.xor_assoc,Nat.xor_self,Nat.xor_zero]
 have b:(c ^^^ 2 ^ i) &&& 2 ^ i=0:=by
  apply dE
  intro j;rw[cD,Nat.testBit_xor,eK,fW];by_cases e:i=j
  .subst e;simp[h]
  .simp[e]
 rw[d,b]at a;omega
noncomputable def woN(c i:Nat):Nat:=c - (c &&& 2 ^ i)
def Zbj{c i j:Nat}:(woN c i).testBit j=(c.testBit j&&!decide (j=i)):=by
 unfold woN;cases h:c.testBit i with
 |false=>
  have e:c &&& 2 ^ i=0:=by
   apply dE
   intro k;rw[cD,eK,fW];by_cases e:i=k
   .subst e;simp[h]
   .simp[e]
  rw[e,Nat.sub_zero];by_cases e:j=i
  .subst e;simp[h]
  .simp[e]
 |true=>
  have e:c &&& 2 ^ i=2 ^ i:=by
   apply dE
   intro k;rw[cD,eK];by_cases e:i=k
   .subst e;simp[h]
   .simp[e]
  rw[e,ZcW h,Nat.testBit_xor,eK];by_cases e:j=i
  .subst e;simp[h]
  .have:¬i=j:=λz=>e z.symm
   simp[e,this]
def Zbx{a k:Nat}:ak (((a &&& 2 ^ k:Nat):Int)=0)=!a.testBit k:=by
 have:(a &&& 2 ^ k=0)↔a.testBit k=af:=by
  constructor
  .intro h
   have:=av (λz=>z.testBit k) h
   simp only[cD,Nat.testBit_two_pow_self,dR,fW]at this;exact this
  .intro h
   refine dE λi=>?_
   rw[cD,eK,fW];by_cases c:k=i
   .rw[<-c,h];rfl
   .rw[aI c,Bool.and_false]
 cases q:a.testBit k with
 |false=>rw[aG (by rw[this.mpr q];rfl)];rfl
 |true=>rw[aI (λh=>by have:=this.mp (Int.ofNat.inj h);rw[q]at this;cases this)];rfl
variable{it:CE}
section
variable{i':Nat}{t:Bool}{o u:Ot Rw}
def Y.band(e:Y F s a U (.int (c:Int)))(d:Y F s b U (.int (k:Int))):Y F s (.bin .BitAnd a b) U (.int ((c &&& k:Nat):Int)):=.bi e d (by
 show(if 0<=(c:Int)/\0<=(k:Int) then aa (((c:Int).toNat &&& (k:Int).toNat:Nat):Int) else if 0<=(c:Int)/\(k:Int) < 0 then aa ((c:Int) - (((c:Int).toNat &&& (-(k:Int) - 1).toNat:Nat):Int)) else ab)=_
 rw[aq ⟨dU _,dU _⟩,bM,bM])
def Y.bor(e:Y F s a U (.int (c:Int)))(d:Y F s b U (.int (k:Int))):Y F s (.bin .BitOr a b) U (.int ((c ||| k:Nat):Int)):=.bi e d (by
 show(if 0<=(c:Int)/\0<=(k:Int) then aa (((c:Int).toNat ||| (k:Int).toNat:Nat):Int) else ab)=_
 rw[aq ⟨dU _,dU _⟩,bM,bM])
def ZdD(a:k<=60):C (rT (n+2)) s 114 [.int (c:Int),.int (k:Int)] (.bl (c.testBit k)):=
 .of (v:=XG) rfl rfl (.ret (.cmp (.band () (.call1 () (Qi a))) () λst=>by
  show(aa (ak (((c &&& 2 ^ k:Nat):Int)=0))).map Bool.not=_;rw[Zbx];show aa (!!c.testBit k)=_;rw[Bool.not_not]))
def Zf0{v:Nat}:QU .BitAnd (c:Int) (-(v:Int) - 1)=aa ((c - (c &&& v):Nat):Int):=by
 have a:c &&& v<=c:=Nat.and_le_left;show(if 0<=(c:Int)/\0<=-(v:Int) - 1 then aa (((c:Int).toNat &&& (-(v:Int) - 1).toNat:Nat):Int) else if 0<=(c:Int)/\-(v:Int) - 1 < 0 then aa ((c:Int) - (((c:Int).toNat &&& (-(-(v:Int) - 1) - 1).toNat:Nat):Int)) else ab)=_
 rw[ar ∅,aq ∅,bM,show(-(-(v:Int) - 1) - 1).toNat=v by omega,Int.ofNat_sub a]
def Ze7(a:k<=60):C (rT (n+2)) s 57 [.int (c:Int),.int (k:Int)] (.int ((woN c k:Nat):Int)):=
 .of (v:=Yx) rfl rfl (.ret (.bi (i:=(c:Int)) (j:=-((2 ^ k:Nat):Int) - 1) () (g1 (.call1 () (Qi a)) (gp λ_=>rfl)) Zf0))
def ZdC(a:k<=60):C (rT (n+2)) s 56 [.int (k:Int)] (.int ((2 ^ k - 1:Nat):Int)):=by
 refine .of (v:=Xh) rfl rfl (.ret ?_);rw[Int.ofNat_sub (Nat.one_le_two_pow)];exact .sub (.call1 () (Qi a)) ()
def Bs(F:Nat->Fn)(s:Za)(q:CS)(U:Env)(o:Ot D):Prop:=∀ st,Grw s st->∃ st',ex F q U st=aa (match o with|some d=>.rt d|none=>.nx U,st')/\Grw st st'
theorem Bs.skip:Bs F s .skip U ab:=λst _=>⟨st,rfl,.refl⟩
theorem Bs.ite{o:Ot D}(h:Y F s e U (.bl t))(l:t=ae->Y F s a U d)(k:t=af->Bs F s q U o):Bs F s (.seq (.ite e (.q a) .skip) q) U (if t=ae then aa d else o):=λst g=>by
 obtain⟨s1,j,b⟩:=h st g;cases t with
 |true=>
  obtain⟨c,i,f⟩:=l rfl s1 (g.trans b);exact⟨c,Zq ((ZY j).trans (Zq (Z6 i))),b.trans f⟩
 |false=>
  obtain⟨c,i,f⟩:=k rfl s1 (g.trans b);exact⟨c,(Zc ((Ys j).trans Zf)).trans i,b.trans f⟩
noncomputable def skR{α:Type}(f:α->Ot D):Li α->Ot D
 |[]=>ab
 |x :: l=>match f x with
  |some d=>aa d
  |none=>skR f l
theorem ZfN{α:Type}{a:α->D}{f:α->Ot D}{E:Ot D->Env}(e:∀ y d,Zj (E y) i d=E (aa d)):∀ {l:Li α},(∀ x∈l,Bs F s q (E (aa (a x))) (f x))->∀ {y:Ot D}{st:Za},Grw s st->∃ b st',Zi (λd U s=>ex F q (Zj U i d) s) (l.map a) (E y) st=aa (match skR f l with|some d=>.rt d|none=>.nx (E b),st')/\Grw st st'
 |[],_,y,st,_=>⟨y,st,rfl,.refl⟩
 |x :: l,h,y,st,g=>by
  obtain⟨s1,o,c⟩:=h x Ls st g;obtain⟨b,j,n,k⟩:=ZfN e (λz m=>h z (Lm _ m)) (y:=aa (a x)) (g.trans c)
  show ∃ b st',(match ex F q (Zj (E y) i (a x)) st with
   |some (.nx U',st')=>Zi (λd U s=>ex F q (Zj U i d) s) (l.map a) U' st'
   |some (.ct U',st')=>Zi (λd U s=>ex F q (Zj U i d) s) (l.map a) U' st'
   |some (.bk U',st')=>aa (.nx U',st')
   |some (.rt v,st')=>aa (.rt v,st')
   |none=>ab)=_/\_
  rw[e,o];unfold skR;cases f x with
  |some d=>exact⟨y,s1,rfl,c⟩
  |none=>exact⟨b,j,n,c.trans k⟩
def R.seekD{l:Li α}{en:α->D}{f:α->Ot D}{E:Ot D->Env}{y:Ot D}(u:∀ y d,Zj (E y) i d=E (aa d))(r:Y F s it (E y) (.tup (l.map en)))(t:∀ x∈l,Bs F s q (E (aa (en x))) (f x))(o:∀ y,R F s p (E y) d):R F s (.seq (.for1 i af it q) p) (E y) ((skR f l).getD d):=λst g=>by
 obtain⟨s1,j,a⟩:=r st g;obtain⟨k,h,b,e⟩:=ZfN u t (y:=y) (g.trans a);cases c:skR f l with
 |some v=>rw[c]at b;exact⟨h,Zq ((for_tup j).trans b),a.trans e⟩
 |none=>
  rw[c]at b;obtain⟨m,w,n⟩:=o k h (g.trans (a.trans e));exact⟨m,(Zc ((for_tup j).trans b)).trans w,a.trans (e.trans n)⟩
end
noncomputable def Zfo:D:=.tup [.str "end"]
def roD:Ot Rw->D
 |none=>Zfo
 |some r=>rwE r
noncomputable def isE:Ot Rw->Bool
 |none=>ae
 |some (.tell _)=>ae
 |_=>af
noncomputable def XA:Rw->Li (Nat×Op)
 |.put _ y _ z=>[(2,y),(4,z)]
 |.ifr y _ z _=>[(1,y),(3,z)]
 |.tell y=>[(1,y)]
 |_=>[]
noncomputable def inB(b:Nat):Op->Bool
 |.nm i=>b.testBit i
 |.nu _=>ae
def rdO(b:Nat)(r:Rw):Bool:=(XA r).all λp=>inB b p.2
def eaB(b:Nat)(o u:Ot Rw):Bool:=ak (o=u)&&(match o with|none=>ae|some r=>rdO b r)
def caB(b:Nat):Rw->Rw->Bool
 |.ifr y g z t,.ifr c d a _=>Zr [opE y,.str g,opE z] [opE c,.str d,opE a]&&rdO b (.ifr y g z t)
 |_,_=>af
def woX(b:Nat):Rw->Nat
 |.put x _ _ _=>woN b x
 |_=>b
noncomputable def isP:Rw->Bool
 |.put _ _ _ _=>ae
 |_=>af
noncomputable def tgR:Rw->Nat
 |.put x _ _ _=>x
 |_=>0
def stN(b:Nat)(r q:Rw):Nat:=if (isP r&&(ak (aa r=aa q)&&rdO b r))=ae then b ||| 2 ^ tgR r else woX (woX b r) q
noncomputable def pbN(k:Nat):Rw->Li Nat
 |.go t=>[t]
 |.ifr _ _ _ t=>[t,k+1]
 |_=>[k+1]
section
variable{q:Rw}{o u:Ot Rw}
def Zfz:S "put"≠S "end"/\S "if"≠S "end"/\S "go"≠S "end"/\S "tell"≠S "end"/\S "skip"≠S "end":=by decide +kernel
def ZaY(o:Ot Rw):∃ a,roD o=.tup a/\okD 8 (.tup a)=ae:=by
 cases o with
 |none=>exact⟨_,rfl,rfl⟩
 |some r=>exact U5 r
def ZeA(h:roD o=roD u):o=u:=by
 obtain⟨e,d,c,b,a⟩:=Zfz;have ne:∀ r:Rw,rwE r≠Zfo:=λr h=>by
  cases r with
  |put _ _ _ _=>exact au (Zz h) e
  |ifr _ _ _ _=>exact au (Zz h) d
  |go _=>exact au (Zz h) c
  |tell _=>exact au (Zz h) b
  |skip=>exact au (Zz h) a
 cases o with
 |none=>cases u with
  |none=>rfl
  |some r=>exact au h.symm (ne r)
 |some r=>cases u with
  |none=>exact au h (ne r)
  |some q=>rw[Za0 h]
def Y.eqro(g:Y F s a U (roD o))(f:Y F s b U (roD u)):Y F s (.e a b) U (.bl (ak (o=u))):=by
 obtain⟨j,c,i⟩:=ZaY o;obtain⟨ys,d,k⟩:=ZaY u;have e:ak (o=u)=Zr j ys:=by
  rw[Wh i];refine decide_eq_decide.mpr ⟨λh=>?_,λh=>ZeA (by rw[c,d,h])⟩
  rw[h,d]at c;injection c with c;exact c.symm
 rw[c]at g;rw[d]at f;rw[e];exact .eqd g f i k
inductive RoP(m:Nat)(rs:List Rw)(k:Nat):Option Rw->Prop where
 |e (h:rs.length<=k):RoP m rs k ab
 |r {r r':Rw} (h:rs[k]?=aa r) (ok:RwOk m rs.length r') (al:Als m k r r'):RoP m rs k (aa r')
def Qk(p:Rs m rs):CX 6 115 [pgD tk m rs,.int (k:Int)] (λd=>∃ o,d=roD o/\RoP m rs k o):=by
 have f:∀ n s,Y (rT (n+5)) s (.cmp .GtE (.v 1) (.len (.x 0 2))) [aa (pgD tk m rs),jN k] (.bl (ak ((rs.length:Int)<=(k:Int)))):=λn s=>by
  have:=Y.cmp (F:=rT (n+5)) (s:=s) (op:=.GtE) (a:=.v 1) (b:=.len (.x 0 2)) (U:=[aa (pgD tk m rs),jN k]) (x:=.int (k:Int)) (y:=.int ((rs.map rwE).length:Int)) () (.lnT ()) λ_=>rfl
  rw[aD]at this;exact this
 by_cases h:rs.length<=k
 .exact .of (v:=Xp) rfl rfl (.pick f (λ_=>.ret (λn s=>.r rf) ⟨ab,rfl,.e h⟩) λq=>au (am q) ∅)
 .have c:=Lg (l:=rs) (i:=k) ∅
  obtain⟨d,t,g,u,ok,w⟩:=ZdH (j:=k) (p.ok _ (aW c));subst u;exact .of (v:=Xp) rfl rfl (.pick f (λq=>au (ao q) ∅) λ_=>.ret (λn s=>.call (xs:=[rwE rs[k],.int (k:Int)]) (.cons (.ixt (j:=k) (xs:=rs.map rwE) () () (by rw[bA,c];rfl)) ()) (t _ s)) ⟨aa g,rfl,.r c ok w⟩)
def Jl:C (rT (n+1)) s 116 [roD o] (.bl (isE o)):=by
 have a:Y (rT n) s (.e (.v 0) (.c (.tup [.str "end"]))) [aa (roD o)] (.bl (ak (o=ab))):=.eqro (u:=ab) () ();cases o with
 |none=>exact .of (v:=YG) rfl rfl (.ret (.or (k:=ae) (m:=af) a λq=>nomatch q))
 |some r=>cases r<;>exact .of (v:=YG) rfl rfl (.ret (.or (k:=af) a λ_=>.r rf))
def Zer:∀ p∈XA r,∃ b,rwE r=.tup b/\b[p.1]?=aa (opE p.2):=λp a=>by
 cases r with
 |put x y g z=>
  simp only[XA,aL,dW,or_false]at a;rcases a with rfl|rfl<;>exact⟨_,rfl,rfl⟩
 |ifr y g z t=>
  simp only[XA,aL,dW,or_false]at a;rcases a with rfl|rfl<;>exact⟨_,rfl,rfl⟩
 |tell y=>
  simp only[XA,aL,dW,or_false]at a;subst a;exact⟨_,rfl,rfl⟩
 |go t=>cases a
 |skip=>cases a
def Zes(h:RwOk m sz r):∀ p∈XA r,VI m p.2:=λp a=>by
 cases r with
 |put x y g z=>
  simp only[XA,aL,dW,or_false]at a;rcases a with rfl|rfl
  .exact h.2.1
  .exact h.2.2.2
 |ifr y g z t=>
  simp only[XA,aL,dW,or_false]at a;rcases a with rfl|rfl
  .exact h.1
  .exact h.2.2.1
 |tell y=>
  simp only[XA,aL,dW,or_false]at a;subst a;exact h
 |go t=>cases a
 |skip=>cases a
def Jn:C (rT (n+1)) s 113 [rwE r] (.tup ((XA r).map λp=>.int (p.1:Int))):=by
 cases r<;>exact .of (v:=Z8) rfl rfl (.ret ())
def Va(f:m<=60)(h:RwOk m sz r):C (rT (n+3)) s 117 [rwE r,.int (c:Int)] (.bl (rdO c r)):=by
 have e:D.bl (rdO c r)=(skR (λp:Nat×Op=>if (!inB c p.2)=ae then aa (.bl af) else ab) (XA r)).getD (.bl ae):=by
  unfold rdO
  induction XA r with
  |nil=>rfl
  |cons p l d=>
   unfold skR;rw[cA];cases inB c p.2 with
   |true=>exact d
   |false=>rfl
 rw[e];refine .of (v:=YJ) rfl rfl (.seekD (i:=2) (l:=XA r) (en:=λp=>.int (p.1:Int)) (E:=λy=>[aa (rwE r),jN c,y]) (λ_ _=>rfl) (.call (xs:=[rwE r]) () Jn) (λp b=>?_) λy=>.ret ())
 obtain⟨xs,o,g⟩:=Zer p b;have a:Y (rT (n+2)) s (.ix (.v 0) (.v 2)) [aa (rwE r),jN c,jN p.1] (opE p.2):=by
  rw[o];exact .ixt (j:=p.1) (xs:=xs) () () g
 have ok:=Zes h p b;refine .ite (t:=!inB c p.2) ?_ (λ_=>.r rf) λ_=>.skip
 cases q:p.2 with
 |nm x=>
  rw[q]at a ok;exact .and (k:=ae) (.cmp (x:=.str "name") (.ixt (j:=0) a () rfl) () λ_=>rfl) λ_=>.not (.call (xs:=[.int (c:Int),.int (x:Int)]) (.cons () (.cons (.ixt (j:=1) a () rfl) .nil)) (ZdD (eC (aT ok f))))
 |nu v=>
  rw[q]at a;exact .and (k:=af) (m:=af) (.cmp (x:=.str "number") (.ixt (j:=0) a () rfl) () λ_=>rfl) λq=>nomatch q
def Qj(b:m<=60)(h:∀ r,o=aa r->RwOk m sz r):C (rT (n+4)) s 118 [roD o,roD u,.int (c:Int)] (.bl (eaB c o u)):=by
 refine .of (v:=YU) rfl rfl (.ret (.and (.eqro () ()) λ_=>?_))
 have a:Y (rT (n+3)) s (.e (.v 0) (.c (.tup [.str "end"]))) [aa (roD o),aa (roD u),jN c] (.bl (ak (o=ab))):=.eqro (u:=ab) () ();cases o with
 |none=>exact .or (k:=ae) (m:=af) a λq=>nomatch q
 |some r=>exact .or (k:=af) a λ_=>.call (xs:=[rwE r,.int (c:Int)]) () (Va b (h r rfl))
def Zbo(d:m<=60)(h:RwOk m sz r):C (rT (n+4)) s 119 [rwE r,rwE q,.int (c:Int)] (.bl (caB c r q)):=by
 cases r with
 |ifr y g z t=>cases q with
  |ifr b e a f=>
   refine .of (v:=ZI) rfl rfl (.ret (.and (k:=ae) () λ_=>.and (k:=ae) () λ_=>.and (.eqd (xs:=[opE y,.str g,opE z]) (ys:=[opE b,.str e,opE a]) () () ?_ ?_) λ_=>.call (xs:=[rwE (.ifr y g z t),.int (c:Int)]) () (Va d h)))
   .cases y<;>cases z<;>rfl
   .cases b<;>cases a<;>rfl
  |_=>exact .of (v:=ZI) rfl rfl (.ret (.and (k:=ae) () λ_=>.and (k:=af) (m:=af) () λq=>nomatch q))
 |_=>exact .of (v:=ZI) rfl rfl (.ret (.and (k:=af) (m:=af) () λq=>nomatch q))
def QN{A B y:Ot D}(d:m<=60)(h:RwOk m sz r):∀ st,Grw s st->∃ st',ex (rT (n+3)) Zy [A,B,jN c,aa (rwE r)] st=aa (.nx [A,B,aa (.int ((woX c r:Nat):Int)),aa (rwE r)],st')/\Grw st st':=λst g=>by
 cases r with
 |put x y g z=>
  obtain⟨s1,e,b⟩:=Y.call (F:=rT (n+3)) (s:=st) (f:=57) (a:=.a 2 (.u (.x 3 1))) (U:=[A,B,jN c,aa (rwE (.put x y g z))]) (xs:=[.int (c:Int),.int (x:Int)]) (ds:=[]) () (Ze7 (n:=n+1) (eC (aT h.1 d))) st .refl;exact⟨s1,(Zc ((ZY rfl).trans ((Zc (Zn e)).trans Zf))).trans Zf,b⟩
 |_=>exact⟨st,(Zc ((Ys rfl).trans Zf)).trans Zf,.refl⟩
def ZdJ(b:m<=60)(h:RwOk m sz r)(p:RwOk m sz q):C (rT (n+4)) s 120 [rwE r,rwE q,.int (c:Int)] (.int ((stN c r q:Nat):Int)):=by
 have f:R (rT (n+3)) s (.seq (.for1 3 af (.g (.a 0 (.s 1))) Zy) (.q (.v 2))) [aa (rwE r),aa (rwE q),jN c,ab] (.int ((woX (woX c r) q:Nat):Int)):=λst g=>by
  obtain⟨s1,E,l⟩:=QN (n:=n) (s:=st) (c:=c) (A:=aa (rwE r)) (B:=aa (rwE q)) (y:=ab) b h st .refl;obtain⟨i,D,j⟩:=QN (n:=n) (s:=s1) (c:=woX c r) (A:=aa (rwE r)) (B:=aa (rwE q)) (y:=ab) b p s1 .refl;refine⟨i,(Zc (U':=[aa (rwE r),aa (rwE q),aa (.int ((woX (woX c r) q:Nat):Int)),aa (rwE q)]) (s':=i) ((for_tup (xs:=[rwE r,rwE q]) rfl).trans ?_)).trans (Zq (Z6 rfl)),l.trans j⟩
  show(match ex (rT (n+3)) Zy [aa (rwE r),aa (rwE q),jN c,aa (rwE r)] st with
   |some (.nx U',st')=>Zi (λd U s=>ex (rT (n+3)) Zy (Zj U 3 d) s) [rwE q] U' st'
   |some (.ct U',st')=>Zi (λd U s=>ex (rT (n+3)) Zy (Zj U 3 d) s) [rwE q] U' st'
   |some (.bk U',st')=>aa (.nx U',st')
   |some (.rt v,st')=>aa (.rt v,st')
   |none=>ab)=_
  rw[E];show(match ex (rT (n+3)) Zy [aa (rwE r),aa (rwE q),aa (.int ((woX c r:Nat):Int)),aa (rwE q)] s1 with
   |some (.nx U',st')=>Zi (λd U s=>ex (rT (n+3)) Zy (Zj U 3 d) s) [] U' st'
   |some (.ct U',st')=>Zi (λd U s=>ex (rT (n+3)) Zy (Zj U 3 d) s) [] U' st'
   |some (.bk U',st')=>aa (.nx U',st')
   |some (.rt v,st')=>aa (.rt v,st')
   |none=>ab)=_
  rw[D];rfl
 have kp:Y (rT (n+3)) s (.e (.x 0 0) (.t "put")) [aa (rwE r),aa (rwE q),jN c,ab] (.bl (isP r)):=by cases r<;>exact .r rf
 refine .of (v:=XJ) rfl rfl (.pick (k:=isP r&&(ak (aa r=aa q)&&rdO c r)) (.and kp λ_=>.and (.eqro (o:=aa r) (u:=aa q) () ()) λ_=>.call (xs:=[rwE r,.int (c:Int)]) () (Va b h)) (λz=>?_) λz=>?_)
 .unfold stN
  rw[aq z];cases r with
  |put x y g w=>exact .ret (.bor () (.call1 (x:=.int (x:Int)) () (Qi (eC (aT h.1 b)))))
  |_=>cases z
 .unfold stN
  rw[ar (by rw[z];decide)]
  exact f
def VF:C (rT (n+1)) s 121 [rwE r,.int (k:Int)] (.tup ((pbN k r).map λ(x:Nat)=>D.int (x:Int))):=by
 have one:∀ {U:Env},U[1]?=aa (jN k)->Y (rT n) s (.p (.v 1) (.i 1)) U (.int ((k+1:Nat):Int)):=λ{U} h=>by
  rw[cZ];exact .add (.v h) ()
 cases r with
 |go t=>exact .of (v:=ZE) rfl rfl (.yes () ())
 |ifr y g z t=>
  show C _ _ _ _ (.tup [.int (t:Int),.int ((k+1:Nat):Int)]);exact .of (v:=ZE) rfl rfl (.no () (.yes () (.cons () (.cons (one rfl) .nil))))
 |_=>
  show C _ _ _ _ (.tup [.int ((k+1:Nat):Int)]);exact .of (v:=ZE) rfl rfl (.no () (.no () (.ret (.cons (one rfl) .nil))))
end
noncomputable def trD(t:Nat×Nat×Nat):D:=.tup [.int (t.1:Int),.int (t.2.1:Int),.int (t.2.2:Int)]
def Ag(c:Nat)(vs a:Li Int):Prop:=∀ i,c.testBit i=ae->vs.getD i 0=a.getD i 0
def Mt(a:Li (Nat×Nat×Nat)):Sum D (Nat×Li Int)->Sum D (Nat×Li Int)->Prop
 |.inl o,.inl b=>o=b
 |.inr p,.inr q=>∃ t∈a,t.1=p.1/\t.2.1=q.1/\Ag t.2.2 p.2 q.2
 |_,_=>False
def roM(k:Nat)(vs:Li Int):Ot Rw->Sum D (Nat×Li Int)
 |none=>.inl noD
 |some r=>rv k vs r
structure FolT(m:Nat)(rs rs':List Rw)(k j c:Nat)(ts:List (Nat×Nat×Nat)):Prop where
 l:ts.length<=4
 b:∀ t∈ts,t.1<=rs.length/\t.2.1<=rs'.length/\t.2.2 < 2 ^ m
 s:∀ vs ws,Vs m vs->Vs m ws->Ag c vs ws->Mt ts (mv rs k vs) (mv rs' j ws)
def Zf4(m:Nat)(rs a:Li Rw)(k j c:Nat)(d:D):Prop:=d=.non\/∃ b,d=.tup (b.map trD)/\FolT m rs a k j c b
variable{tk':D}{rs':Li Rw}
section
variable{q:Rw}{o u:Ot Rw}{ws:Li Int}{y:Op}
theorem RoP.mv(h:RoP m rs k o)(a:Vs m vs):mv rs k vs=roM k vs o:=by
 cases h with
 |e h=>unfold Dp.mv;rw[eH h];rfl
 |r h ok b=>rw[ZfC h];exact(b vs a).symm
def ZfZ(h:inB c y=ae)(a:Ag c vs ws):woI vs y=woI ws y:=by
 cases y with
 |nm i=>exact a i h
 |nu v=>rfl
def Ur(h:rdO c r=ae)(a:Ag c vs ws):∀ p∈XA r,woI vs p.2=woI ws p.2:=λp b=>ZfZ (bT.mp h p b) a
def ZeQ(h:eaB c o u=ae)(b:(isE o||isE u)=ae)(a:Ag c vs ws):Mt [] (roM k vs o) (roM j ws u):=by
 unfold eaB at h;rw[Ba,aO]at h;obtain⟨rfl,h⟩:=h;rw[Bool.or_self]at b;cases o with
 |none=>rfl
 |some r=>cases r with
  |tell y=>show teD _=teD _;rw[Ur h a (1,y) Ls]
  |_=>cases b
def U7(h:caB c r q=ae)(a:Ag c vs ws):∃ y g z t b,r=.ifr y g z t/\q=.ifr y g z b/\Mt [(t,b,c),(k+1,j+1,c)] (rv k vs r) (rv j ws q):=by
 cases r with
 |ifr y g z t=>cases q with
  |ifr i l f b=>
   have h:(Zr [opE y,.str g,opE z] [opE i,.str l,opE f]&&rdO c (.ifr y g z t))=ae:=h;rw[Ba]at h;have e:=XZ h.1
   injection e with n e;injection e with d e;injection e with m _;injection d with d
   cases Y4 n;cases d;cases Y4 m
   refine⟨y,g,z,t,b,rfl,rfl,?_⟩;show ∃ p∈[(t,b,c),(k+1,j+1,c)],p.1=(if soI (woI vs y) g (woI vs z)=ae then t else k+1)/\p.2.1=(if soI (woI ws y) g (woI ws z)=ae then b else j+1)/\Ag p.2.2 vs ws
   rw[Ur h.2 a (1,y) Ls,Ur h.2 a (3,z) (Lm _ Ls)];split
   .exact⟨_,Ls,rfl,rfl,a⟩
   .exact⟨_,Lm _ Ls,rfl,rfl,a⟩
  |_=>cases h
 |_=>cases h
def Zbi(h:(woX c r).testBit i=ae):c.testBit i=ae/\(isP r=ae->i≠tgR r):=by
 cases r with
 |put x y g z=>
  have h:(woN c x).testBit i=ae:=h;rw[Zbj,Ba]at h;refine⟨h.1,λ_ e=>?_⟩
  have e:i=x:=e;rw[aG e]at h;cases h.2
 |_=>exact⟨h,λq=>nomatch q⟩
def QQ(h:isP r=ae->i≠tgR r):(vsN vs r).getD i 0=vs.getD i 0:=by
 cases r with
 |put x y g z=>
  have h:i≠x:=h rfl;show(vs.set x _).getD i 0=_;rw[aU,aU,bO (Ne.symm h)]
 |_=>rfl
def ZfR(p:Vs m vs)(o:Vs m ws)(ok:RwOk m sz r)(a:Ag c vs ws):Ag (stN c r q) (vsN vs r) (vsN ws q):=λi h=>by
 unfold stN at h;split at h
 .rename_i z
  rw[Ba,Ba,aO]at z;obtain⟨j,f,d⟩:=z;cases f;cases r with
  |put x y g z=>
   have e:rkI (woI vs y) g (woI vs z)=rkI (woI ws y) g (woI ws z):=by
    rw[Ur d a (2,y) Ls,Ur d a (4,z) (Lm _ Ls)]
   have v:=p.l;have u:=o.l;have w:x < m:=ok.1;show(vs.set x _).getD i 0=(ws.set x _).getD i 0;rw[aU,aU];by_cases b:x=i
   .subst b
    rw[bH ∅,bH ∅,e]
   .rw[bO b,bO b,<-aU,<-aU]
    have h:(c ||| 2 ^ x).testBit i=ae:=h;rw[fD,eK,aI b,dM]at h;exact a i h
  |_=>cases j
 .obtain⟨t,n⟩:=Zbi h
  obtain⟨s,k⟩:=Zbi t;rw[QQ k,QQ n];exact a i s
def ZdB:woX c r<=c:=by
 cases r with
 |put x y g z=>exact Nat.sub_le _ _
 |_=>exact aB _
def ZfT(a:c < 2 ^ m)(ok:RwOk m sz r):stN c r q < 2 ^ m:=by
 unfold stN;split
 .rename_i z
  rw[Ba]at z;cases r with
  |put x y g w=>exact Nat.or_lt_two_pow a (Nat.pow_lt_pow_right #[] ok.1)
  |_=>cases z.1
 .exact Nat.lt_of_le_of_lt (aJ ZdB ZdB) a
def ZaJ(a:∀ y,r≠.tell y):∃ x∈pbN k r,rv k vs r=.inr (x,vsN vs r):=by
 cases r with
 |tell y=>exact au rfl (a y)
 |ifr y g z t=>
  show ∃ x∈[t,k+1],Sum.inr (if soI (woI vs y) g (woI vs z)=ae then t else k+1,vs)=Sum.inr (x,vs)
  split
  .exact⟨_,Ls,rfl⟩
  .exact⟨_,Lm _ Ls,rfl⟩
 |_=>exact⟨_,Ls,rfl⟩
def Zdt(a:k < sz)(ok:RwOk m sz r):∀ x∈pbN k r,x<=sz:=λx hx=>by
 cases r with
 |go t=>rw[aP.mp hx];exact ok
 |ifr y g z t=>
  rcases aL.mp hx with rfl|hx
  .exact ok.2.2.2
  .rw[aP.mp hx];exact a
 |_=>rw[aP.mp hx];exact a
def UY:(pbN k r).length<=2:=by cases r<;>first|exact aB _|exact Nat.le_succ _
noncomputable def tgI:Rw->Nat
 |.ifr _ _ _ t=>t
 |_=>0
def Vi(k j c:Nat)(r q:Rw):Li (Nat×Nat×Nat):=(pbN k r).flatMap λp=>(pbN j q).map λa=>(p,a,stN c r q)
def Qq:(Vi k j c r q).length<=4:=by
 have d:=UY (k:=j) (r:=q);have h:∀ l:Li Nat,(l.flatMap λp=>(pbN j q).map λa=>(p,a,stN c r q)).length<=2 * l.length:=λl=>by
  induction l with
  |nil=>exact aB _
  |cons x l b=>rw[fV,aH,aD,aX];omega
 have:=h (pbN k r);have:=UY (k:=k) (r:=r);unfold Vi;omega
def ZeR(f:Vs m vs)(e:Vs m ws)(ok:RwOk m sz r)(h:∀ y,r≠.tell y)(g:∀ y,q≠.tell y)(a:Ag c vs ws):Mt (Vi k j c r q) (rv k vs r) (rv j ws q):=by
 obtain⟨x,d,l⟩:=ZaJ (k:=k) (vs:=vs) h;obtain⟨z,b,i⟩:=ZaJ (k:=j) (vs:=ws) g;rw[l,i];exact⟨(x,z,stN c r q),dZ.mpr ⟨x,d,aQ.mpr ⟨z,b,rfl⟩⟩,rfl,rfl,ZfR f e ok a⟩
def foD:Ot (Li (Nat×Nat×Nat))->D
 |none=>.non
 |some a=>.tup (a.map trD)
def fvO(o u:Ot Rw)(k j c:Nat):Ot (Li (Nat×Nat×Nat)):=
 if (isE o||isE u)=ae then (if eaB c o u=ae then aa [] else ab)
 else match o,u with
  |some r,aa q=>aa (if caB c r q=ae then [(tgI r,tgI q,c),(k+1,j+1,c)] else Vi k j c r q)
  |_,_=>ab
def WT(Z:Rs m rs)(L:Rs m rs')(J:m<=60):∃ o u,RoP m rs k o/\RoP m rs' j u/\∀ c:Nat,c < 2 ^ m->CX 7 122 [pgD tk m rs,pgD tk' m rs',.int (k:Int),.int (j:Int),.int (c:Int)] (λd=>d=foD (fvO o u k j c)/\∀ B,fvO o u k j c=aa B->FolT m rs rs' k j c B):=by
 obtain⟨_,O,o,rfl,F⟩:=Qk (tk:=tk) (k:=k) Z;obtain⟨_,N,u,rfl,C⟩:=Qk (tk:=tk') (k:=j) L;refine⟨o,u,F,C,λc P=>.of (v:=Wl) rfl rfl (.set (d:=roD o) (λn s=>.call (xs:=[pgD tk m rs,.int (k:Int)]) () (O n s)) (.set (d:=roD u) (λn s=>.call (xs:=[pgD tk' m rs',.int (j:Int)]) () (N n s)) ?_))⟩
 have A:∀ r,o=aa r->RwOk m rs.length r:=λr e=>by
  subst e;cases F with|r h ok R=>exact ok
 have K:∀ r,u=aa r->RwOk m rs'.length r:=λr e=>by
  subst e;cases C with|r h ok R=>exact ok
 refine .pick (k:=isE o||isE u) (λn s=>.or (.call1 () Jl) λ_=>.call1 () Jl) (λw=>?_) λw=>?_
 .cases q:eaB c o u with
  |true=>
   refine .ret (d:=.tup []) (λn s=>.ife (k:=ae) (by rw[<-q];exact .call (xs:=[roD o,roD u,.int (c:Int)]) () (Qj J A)) ()) (by
    unfold fvO;rw[aq w,aq q];exact⟨rfl,λB e=>by cases e;exact⟨aR _,λt h=>(nomatch h),λvs ws H G a=>by
     rw[F.mv H,C.mv G];exact ZeQ q w a⟩⟩)
  |false=>exact .ret (d:=.non) (λn s=>.ife (k:=af) (by rw[<-q];exact .call (xs:=[roD o,roD u,.int (c:Int)]) () (Qj J A)) ()) (by
    unfold fvO;rw[aq w,q];exact⟨rfl,λB e=>nomatch e⟩)
 .have M:=w
  rw[fC]at w;cases o with
  |none=>cases w.1
  |some r=>cases u with
   |none=>cases w.2
   |some q=>
    have b:=A r rfl;have o2:=K q rfl;have V:k < rs.length:=by cases F with|r h ok R=>exact Zw h
    have T:j < rs'.length:=by cases C with|r h ok R=>exact Zw h
    have ef:fvO (aa r) (aa q) k j c=aa (if caB c r q=ae then [(tgI r,tgI q,c),(k+1,j+1,c)] else Vi k j c r q):=by
     unfold fvO;rw[M,ar #[]]
    rw[ef];refine .pick (k:=caB c r q) (λn s=>.call (xs:=[rwE r,rwE q,.int (c:Int)]) () (Zbo J b)) (λI=>?_) λI=>?_
    .obtain⟨y,g,z,t,S,rfl,rfl,_⟩:=U7 (vs:=[]) (ws:=[]) (k:=k) (j:=j) I λ_ _=>rfl
     have Q:FolT m rs rs' k j c [(t,S,c),(k+1,j+1,c)]:=⟨(show 2<=4 by decide),λp hp=>by
      rcases aL.mp hp with rfl|hp
      .exact⟨b.2.2.2,o2.2.2.2,P⟩
      .rw[aP.mp hp];exact⟨V,T,P⟩,λvs ws H G a=>by
      rw[F.mv H,C.mv G];obtain⟨_,_,_,_,_,e1,e2,e3⟩:=U7 (k:=k) (j:=j) I a;cases e1;cases e2
      exact e3⟩
     refine .ret (d:=.tup [trD (t,S,c),trD (k+1,j+1,c)]) (λn s=>?_) (by
      rw[aq I];exact⟨rfl,λB e=>by cases e;exact Q⟩)
     have one:∀ {i v:Nat}{U:Env},U[i]?=aa (jN v)->Y (rT (n+6)) s (.p (.v i) (.i 1)) U (.int ((v+1:Nat):Int)):=λ{i v U} h=>by
      rw[cZ];exact .add (.v h) ()
     exact .cons (.cons () (.cons () (.cons () .nil))) (.cons (.cons (one (i:=2) rfl) (.cons (one (i:=3) rfl) (.cons () .nil))) .nil)
    .have Q:FolT m rs rs' k j c (Vi k j c r q):=⟨Qq,λp hp=>by
      obtain⟨x,X,hp⟩:=dZ.mp hp;obtain⟨z,W,rfl⟩:=aQ.mp hp;exact⟨Zdt V b x X,Zdt T o2 z W,ZfT P b⟩,λvs ws H G a=>by
      rw[F.mv H,C.mv G];exact ZeR H G b (λy e=>by subst e;cases w.1) (λy e=>by subst e;cases w.2) a⟩
     refine .set (λn s=>.call (xs:=[rwE r,rwE q,.int (c:Int)]) () (ZdJ (sz:=max rs.length rs'.length) J ?_ ?_)) ⟨.tup ((Vi k j c r q).map trD),λn s=>?_,by
      rw[I,ar #[]]
      exact⟨rfl,λB e=>by cases e;exact Q⟩⟩
     .cases r<;>first|exact b|exact aJ b (Nat.le_max_left _ _)|exact⟨b.1,b.2.1,b.2.2.1,aJ b.2.2.2 (Nat.le_max_left _ _)⟩
     .cases q<;>first|exact o2|exact aJ o2 (Nat.le_max_right _ _)|exact⟨o2.1,o2.2.1,o2.2.2.1,aJ o2.2.2.2 (Nat.le_max_right _ _)⟩
     .have e:(Vi k j c r q).map trD=(pbN k r).flatMap λp=>(pbN j q).map λa=>trD (p,a,stN c r q):=by
       unfold Vi;rw[List.map_flatMap];exact av (λf=>(pbN k r).flatMap f) (funext λp=>bQ)
      rw[e];refine .gather (i0:=8) (i:=9) (E:=λy l=>[aa (pgD tk m rs),aa (pgD tk' m rs'),jN k,jN j,jN c,aa (rwE r),aa (rwE q),jI (stN c r q:Nat),jL l,y]) (en:=λ(p:Nat)=>D.int (p:Int)) (λ_=>rfl) (λ_ _ _=>rfl) (λ_ _=>rfl) (λl=>.call (xs:=[rwE r,.int (k:Int)]) () VF) (λl hl p hp=>.one (.ext rfl (Zej (l:=pbN j q) (en:=λ(p:Nat)=>D.int (p:Int)) (g:=λa=>trD (p,a,stN c r q)) (.of (x:=.tup ((pbN j q).map λ(x:Nat)=>D.int (x:Int))) (.call (xs:=[rwE q,.int (j:Int)]) () VF) λst=>rfl) (by have:=UY (k:=j) (r:=q);omega) λa ha=>.cons () (.cons () (.cons () .nil))))) ?_
      rw[<-e,aD];have:=Qq (k:=k) (j:=j) (c:=c) (r:=r) (q:=q);omega
def VH(f:Rs m rs)(a:Rs m rs')(g:m<=60)(l:c < 2 ^ m):CX 7 122 [pgD tk m rs,pgD tk' m rs',.int (k:Int),.int (j:Int),.int (c:Int)] (Zf4 m rs rs' k j c):=by
 obtain⟨o,u,_,_,h⟩:=WT (tk:=tk) (tk':=tk') (k:=k) (j:=j) f a g;obtain⟨d,i,e,n⟩:=h c l;refine⟨d,i,?_⟩;cases q:fvO o u k j c with
 |none=>exact .inl (by rw[e,q];rfl)
 |some b=>exact .inr ⟨b,by rw[e,q];rfl,n b q⟩
def Vx{b:Nat}(h:∀ i,b.testBit i=ae->c.testBit i=ae)(d:rdO b r=ae):rdO c r=ae:=bT.mpr λp a=>by
 have:=bT.mp d p a;cases e:p.2 with
 |nm i=>rw[e]at this;exact h i this
 |nu v=>rfl
def ZbJ{b:Nat}(h:∀ i,b.testBit i=ae->c.testBit i=ae)(a:eaB b o u=ae):eaB c o u=ae:=by
 unfold eaB at a ⊢
 rw[Ba]at a ⊢;refine⟨a.1,?_⟩;cases o with
 |none=>rfl
 |some r=>exact Vx h a.2
def ZbD{b:Nat}(h:∀ i,b.testBit i=ae->c.testBit i=ae)(a:caB b r q=ae):caB c r q=ae:=by
 cases r with
 |ifr y g z t=>cases q with
  |ifr e f d j=>
   have a:(Zr [opE y,.str g,opE z] [opE e,.str f,opE d]&&rdO b (.ifr y g z t))=ae:=a;show(Zr [opE y,.str g,opE z] [opE e,.str f,opE d]&&rdO c (.ifr y g z t))=ae;rw[Ba]at a ⊢;exact⟨a.1,Vx h a.2⟩
  |_=>cases a
 |_=>cases a
def Wa(i:Nat):(woX c r).testBit i=(c.testBit i&&!(isP r&&ak (i=tgR r))):=by
 cases r with
 |put x y g z=>exact Zbj
 |_=>exact(dR _).symm
def ZcV{b:Nat}(h:∀ i,b.testBit i=ae->c.testBit i=ae)(i:Nat)(a:(stN b r q).testBit i=ae):(stN c r q).testBit i=ae:=by
 unfold stN at a ⊢
 have w:∀ i,(woX (woX b r) q).testBit i=ae->(woX (woX c r) q).testBit i=ae/\c.testBit i=ae:=λi a=>by
  rw[Wa,Wa,Ba,Ba]at a;rw[Wa,Wa,h i a.1.1,a.1.2,a.2];exact⟨rfl,rfl⟩
 by_cases d:(isP r&&(ak (aa r=aa q)&&rdO b r))=ae
 .rw[aq d]at a
  rw[Ba,Ba]at d;rw[aq (by rw[Ba,Ba];exact⟨d.1,d.2.1,Vx h d.2.2⟩)]
  rw[fD,bV]at a ⊢;exact a.imp (h i) id
 .rw[ar d]at a
  split
  .rw[fD,(w i a).2];rfl
  .exact(w i a).1
def Qr{b:Nat}(h:∀ i,b.testBit i=ae->c.testBit i=ae):(fvO o u k j c=ab->fvO o u k j b=ab)/\∀ l a,fvO o u k j b=aa l->fvO o u k j c=aa a->∀ p∈a,∃ v∈l,v.1=p.1/\v.2.1=p.2.1/\∀ i,v.2.2.testBit i=ae->p.2.2.testBit i=ae:=by
 unfold fvO;cases n:isE o||isE u with
 |true=>
  rw[aq rfl,aq rfl];refine⟨λe=>?_,λl a _ f p hp=>?_⟩
  .split at e
   .exact nomatch e
   .rename_i q
    exact ar λz=>q (ZbJ h z)
  .split at f
   .cases f;exact nomatch hp
   .exact nomatch f
 |false=>
  rw[ar #[],ar #[]]
  rw[fC]at n;cases o with
  |none=>cases n.1
  |some r=>cases u with
   |none=>cases n.2
   |some q=>
    refine⟨λe=>(nomatch e),λl a B f p hp=>?_⟩
    cases B;cases f
    by_cases m:caB c r q=ae
    .rw[aq m]at hp
     by_cases s:caB b r q=ae
     .rw[aq s]
      rcases aL.mp hp with rfl|hp
      .exact⟨_,Ls,rfl,rfl,h⟩
      .rw[aP.mp hp];exact⟨_,Lm _ Ls,rfl,rfl,h⟩
     .rw[ar s]
      obtain⟨y,g,z,t,d,rfl,rfl,_⟩:=U7 (vs:=[]) (ws:=[]) (k:=k) (j:=j) m λ_ _=>rfl
      have C:stN b (.ifr y g z t) (.ifr y g z d)=b:=rfl;rcases aL.mp hp with rfl|hp
      .exact⟨(t,d,stN b (.ifr y g z t) (.ifr y g z d)),dZ.mpr ⟨t,Ls,aQ.mpr ⟨d,Ls,rfl⟩⟩,rfl,rfl,h⟩
      .rw[aP.mp hp]
       exact⟨(k+1,j+1,stN b (.ifr y g z t) (.ifr y g z d)),dZ.mpr ⟨k+1,Lm _ Ls,aQ.mpr ⟨j+1,Lm _ Ls,rfl⟩⟩,rfl,rfl,h⟩
    .rw[ar m]at hp
     rw[ar λz=>m (ZbD h z)]
     obtain⟨x,A,hp⟩:=dZ.mp hp;obtain⟨z,w,rfl⟩:=aQ.mp hp;exact⟨(x,z,stN b r q),dZ.mpr ⟨x,A,aQ.mpr ⟨z,w,rfl⟩⟩,rfl,rfl,ZcV h⟩
end
noncomputable abbrev Tr:=Nat×Nat×Nat
def lk:Li Tr->Nat->Nat->Ot Nat
 |[],_,_=>ab
 |t :: a,k,j=>if t.1=k/\t.2.1=j then aa t.2.2 else lk a k j
def pt:Li Tr->Nat->Nat->Nat->Li Tr
 |[],k,j,b=>[(k,j,b)]
 |t :: a,k,j,b=>if t.1=k/\t.2.1=j then (k,j,b) :: a else t :: pt a k j b
def ky(t:Tr):Nat×Nat:=(t.1,t.2.1)
def sb(a:Li Tr):Nat:=(a.map λt=>t.2.2).sum
def Sb(b c:Nat):Prop:=∀ i,b.testBit i=ae->c.testBit i=ae
variable{Lp:Tr->Prop}{M:Nat}
variable{sz':Nat}{ts us:Li Tr}{t u:Tr}{ah:Li (Nat×Nat)}
section
variable{b k' j':Nat}{ws:Li Int}
theorem Zs:∀ {ts:Li Tr},lk ts k j=aa b->(k,j,b)∈ts
 |t :: ts,h=>by
  unfold lk at h;split at h
  .rename_i e;cases h;rw[<-e.1,<-e.2];exact Ls
  .exact Lm _ (Zs h)
theorem ZV:∀ {ts:Li Tr},(k,j)∈ts.map ky->∃ b,lk ts k j=aa b
 |t :: ts,h=>by
  unfold lk;split
  .exact⟨_,rfl⟩
  .rename_i n
   rcases aL.mp h with h|h
   .exact au ⟨(av Prod.fst h).symm,(av Prod.snd h).symm⟩ n
   .exact ZV h
theorem Qz:∀ {ts:Li Tr},lk ts k j=ab->∀ t∈ts,¬(t.1=k/\t.2.1=j)
 |t :: ts,h,u,hu=>by
  unfold lk at h;split at h
  .cases h
  .rename_i n
   rcases aL.mp hu with rfl|hu
   .exact n
   .exact Qz h u hu
theorem QA:∀ {ts:Li Tr},lk (pt ts k j b) k' j'=if k'=k/\j'=j then aa b else lk ts k' j'
 |[]=>by
  show(if k=k'/\j=j' then aa b else ab)=if k'=k/\j'=j then aa b else ab
  by_cases e:k'=k/\j'=j
  .rw[aq e,aq ⟨e.1.symm,e.2.symm⟩]
  .rw[ar e,ar λh=>e ⟨h.1.symm,h.2.symm⟩]
 |t :: ts=>by
  unfold pt;split
  .rename_i e
   show(if k=k'/\j=j' then aa b else lk ts k' j')=if k'=k/\j'=j then aa b else if t.1=k'/\t.2.1=j' then aa t.2.2 else lk ts k' j'
   rw[e.1,e.2];by_cases c:k'=k/\j'=j
   .rw[aq c,aq ⟨c.1.symm,c.2.symm⟩]
   .have a:¬(k=k'/\j=j'):=λh=>c ⟨h.1.symm,h.2.symm⟩
    rw[ar c,ar a,ar a]
  .rename_i n
   show(if t.1=k'/\t.2.1=j' then aa t.2.2 else lk (pt ts k j b) k' j')=if k'=k/\j'=j then aa b else if t.1=k'/\t.2.1=j' then aa t.2.2 else lk ts k' j'
   rw[QA];by_cases c:t.1=k'/\t.2.1=j'
   .rw[aq c,aq c,ar λh=>n ⟨c.1.trans h.1,c.2.trans h.2⟩]
   .rw[ar c,ar c]
theorem WD:∀ {ts:Li Tr},u∈pt ts k j b->u=(k,j,b)\/u∈ts
 |[],h=>.inl (aP.mp h)
 |t :: ts,h=>by
  unfold pt at h;split at h
  .rcases aL.mp h with h|h
   .exact .inl h
   .exact .inr (Lm _ h)
  .rcases aL.mp h with rfl|h
   .exact .inr Ls
   .exact(WD h).imp_right (Lm _)
theorem Uo:∀ {ts:Li Tr},(ts.map ky).Nodup->((pt ts k j b).map ky).Nodup
 |[],_=>bS.mpr ⟨λh=>(nomatch h),dH⟩
 |t :: ts,h=>by
  have h:(ky t :: ts.map ky).Nodup:=h;unfold pt;split
  .rename_i e
   have e:ky t=(k,j):=by show(t.1,t.2.1)=_;rw[e.1,e.2]
   rw[e]at h;exact h
  .rename_i n
   rw[bS]at h;refine bS.mpr ⟨λq=>?_,Uo h.2⟩
   obtain⟨u,hu,a⟩:=aQ.mp q;rcases WD hu with rfl|hu
   .exact n ⟨(av Prod.fst a).symm,(av Prod.snd a).symm⟩
   .exact h.1 (aQ.mpr ⟨u,hu,a⟩)
theorem WC:∀ {ts:Li Tr}{x:Nat×Nat},x=(k,j)\/x∈ts.map ky->x∈(pt ts k j b).map ky
 |[],x,h=>h.elim (λe=>by rw[e];exact Ls) λh=>nomatch h
 |t :: ts,x,h=>by
  unfold pt;split
  .rename_i e
   have e:ky t=(k,j):=by show(t.1,t.2.1)=_;rw[e.1,e.2]
   rcases h with h|h
   .rw[h];exact Ls
   .rcases aL.mp h with h|h
    .rw[h,e];exact Ls
    .exact Lm _ h
  .rcases h with h|h
   .exact Lm _ (WC (.inl h))
   .rcases aL.mp h with h|h
    .rw[h];exact Ls
    .exact Lm _ (WC (.inr h))
theorem XC:∀ {ts:Li Tr},lk ts k j=aa c->(pt ts k j b).length=ts.length/\sb (pt ts k j b)+c=sb ts+b
 |t :: ts,h=>by
  unfold lk at h;unfold pt;split at h
  .rename_i e
   cases h;rw[aq e];refine⟨rfl,?_⟩;show b+sb ts+t.2.2=t.2.2+sb ts+b;omega
  .rename_i n
   rw[ar n];obtain⟨a,d⟩:=XC h;refine⟨av (·+1) a,?_⟩;show t.2.2+sb (pt ts k j b)+c=t.2.2+sb ts+b;omega
theorem Vw:∀ {ts:Li Tr},lk ts k j=ab->(pt ts k j b).length=ts.length+1/\sb (pt ts k j b)=sb ts+b
 |[],_=>⟨rfl,by show b+0=0+b;omega⟩
 |t :: ts,h=>by
  unfold lk at h;unfold pt;split at h
  .cases h
  .rename_i n
   rw[ar n];obtain⟨a,c⟩:=Vw h;refine⟨av (·+1) a,?_⟩;show t.2.2+sb (pt ts k j b)=t.2.2+sb ts+b;omega
theorem Zdp{α:Type}[DecidableEq α]:∀ {l l':Li α},l.Nodup->(∀ x∈l,x∈l')->l.length<=l'.length
 |[],_,_,_=>aR _
 |x :: l,l',h,c=>by
  rw[bS]at h;have b:=c x Ls;have:=Zdp (l':=l'.erase x) h.2 λz a=>(List.mem_erase_of_ne λe=>h.1 (by rw[<-e];exact a)).mpr (c z (Lm _ a))
  rw[List.length_erase_of_mem b]at this;have:=List.length_pos_of_mem b;rw[aX];omega
noncomputable def ZdM(sz sz':Nat):Li (Nat×Nat):=(aj (sz+1)).flatMap λk=>(aj (sz'+1)).map λj=>(k,j)
def Jr:(ZdM sz sz').length=(sz+1) * (sz'+1):=by
 have h:∀ l:Li Nat,(l.flatMap λk=>(aj (sz'+1)).map λj=>(k,j)).length=l.length * (sz'+1):=λl=>by
  induction l with
  |nil=>exact(Nat.zero_mul _).symm
  |cons x l a=>rw[fV,aH,a,aD,cY,aX,Nat.add_mul,Nat.one_mul,Nat.add_comm]
 unfold ZdM;rw[h,cY]
def Xn(c:(ts.map ky).Nodup)(d:∀ t∈ts,t.1<=sz/\t.2.1<=sz'/\t.2.2 < 2 ^ m):ts.length<=(sz+1) * (sz'+1):=by
 have:=Zdp (l':=ZdM sz sz') c λx a=>by
  obtain⟨t,b,rfl⟩:=aQ.mp a;obtain⟨f,e,_⟩:=d t b;exact dZ.mpr ⟨t.1,cK.mpr ∅,aQ.mpr ⟨t.2.1,cK.mpr ∅,rfl⟩⟩
 rwa [Jr,aD]at this
def Cu(ts:Li Tr)(u:Tr):Prop:=∃ b,lk ts u.1 u.2.1=aa b/\Sb b u.2.2
def Zbv(tk tk':D)(m:Nat)(rs rs':Li Rw)(k j b:Nat)(us:Li Tr):Prop:=FolT m rs rs' k j b us/\∀ n s,C (rT (n+7)) s 122 [pgD tk m rs,pgD tk' m rs',.int (k:Int),.int (j:Int),.int (b:Int)] (.tup (us.map trD))
def Cv(tk tk':D)(m:Nat)(rs rs':Li Rw)(ts:Li Tr)(k j b:Nat):Prop:=∃ us,Zbv tk tk' m rs rs' k j b us/\∀ u∈us,Cu ts u
structure Kp(tk tk':D)(m:Nat)(rs rs':List Rw)(K:List Tr):Prop where
 rt:(0,0)∈K.map ky
 bd:∀ t∈K,t.2.2 < 2 ^ m
 cl:∀ k j b,lk K k j=aa b->Cv tk tk' m rs rs' K k j b
def Lw(tk tk':D)(m:Nat)(rs rs':Li Rw)(u:Tr):Prop:=∀ K,Kp tk tk' m rs rs' K->Cu K u
def C.eq{F:Nat->Fn}{s:Za}{f:Nat}{d b:D}(h:C F s f xs d)(c:C F s f xs b):d=b:=by
 obtain⟨_,e,_⟩:=h s .refl;obtain⟨_,a,_⟩:=c s .refl;rw[e]at a;cases a;rfl
theorem Qc:∀ {us vs:Li Tr},us.map trD=vs.map trD->us=vs
 |[],[],_=>rfl
 | (a,b,c) :: us,(k,j,i) :: vs,h=>by
  injection h with d l
  injection d with d
  injection d with g d;injection d with f d;injection d with e _
  injection g with g;injection f with f;injection e with e
  have g:(a:Int)=k:=g;have f:(b:Int)=j:=f;have e:(c:Int)=i:=e;rw[Qc l,show a=k by omega,show b=j by omega,show c=i by omega]
def UW:∀ k j b c,Lw tk tk' m rs rs' (k,j,b)->Lw tk tk' m rs rs' (k,j,c)->Lw tk tk' m rs rs' (k,j,b &&& c):=λk j b c l h K f=>by
 obtain⟨x,g,o⟩:=l K f;obtain⟨y,a,n⟩:=h K f;have d:lk K k j=aa x:=g;have a:lk K k j=aa y:=a;rw[d]at a;cases a;exact⟨x,g,λi e=>by show(b &&& c).testBit i=ae;rw[cD,o i e];exact n i e⟩
def Zan(z:Rs m rs)(t:Rs m rs')(B:m<=60)(F:c < 2 ^ m)(H:Lw tk tk' m rs rs' (k,j,c)):∃ d,(∀ n s,C (rT (n+7)) s 122 [pgD tk m rs,pgD tk' m rs',.int (k:Int),.int (j:Int),.int (c:Int)] d)/\((d=.non/\∀ K,¬Kp tk tk' m rs rs' K)\/∃ us,d=.tup (us.map trD)/\FolT m rs rs' k j c us/\∀ u∈us,Lw tk tk' m rs rs' u):=by
 obtain⟨o,u,_,_,h⟩:=WT (tk:=tk) (tk':=tk') (k:=k) (j:=j) z t B;obtain⟨d,E,e,G⟩:=h c F;have g:∀ K,Kp tk tk' m rs rs' K->∃ b us,Sb b c/\fvO o u k j b=aa us/\∀ v∈us,Cu K v:=λK f=>by
  obtain⟨b,y,sb⟩:=H K f;obtain⟨us,⟨_,I⟩,a⟩:=f.cl k j b y;obtain⟨P,w,x,_⟩:=h b (f.bd _ (Zs y));have:=C.eq (w 0 []) (I 0 []);rw[x]at this;cases q:fvO o u k j b with
  |none=>rw[q]at this;exact nomatch this
  |some vs=>
   rw[q]at this
   injection this with this
   exact⟨b,vs,sb,q,λv r=>a v (by rw[<-Qc this];exact r)⟩
 refine⟨d,E,?_⟩;cases q:fvO o u k j c with
 |none=>
  refine .inl ⟨by rw[e,q];rfl,λK f=>?_⟩
  obtain⟨b,us,sb,l,_⟩:=g K f;rw[(Qr sb).1 q]at l;exact nomatch l
 |some us=>
  refine .inr ⟨us,by rw[e,q];rfl,G us q,λp A K f=>?_⟩
  obtain⟨b,vs,sb,l,a⟩:=g K f;obtain⟨v,r,N,x,M⟩:=(Qr sb).2 vs us l q p A;obtain⟨O,L,J⟩:=a v r;exact⟨O,by rw[<-N,<-x];exact L,λi D=>M i (J i D)⟩
def mu(m sz sz':Nat)(ts:Li Tr)(ah:Li (Nat×Nat)):Nat:=2 * (sb ts+2 ^ m * ((sz+1) * (sz'+1) - ts.length))+ah.length
structure In(Lp:Tr->Prop)(tk tk':D)(m sz sz':Nat)(rs rs':List Rw)(p:Tr)(M:Nat)(ts:List Tr)(ah:List (Nat×Nat))(dn:List Tr):Prop where
 nd:(ts.map ky).Nodup
 bd:∀ t∈ts,t.1<=sz/\t.2.1<=sz'/\t.2.2 < 2 ^ m
 ai:∀ x∈ah,x∈ts.map ky
 rt:(0,0)∈ts.map ky
 cv:∀ k j b,lk ts k j=aa b->(k,j)∈ah\/Cv tk tk' m rs rs' ts k j b\/(k,j,b)=p
 dn:∀ u∈dn,Cu ts u
 mu:mu m sz sz' ts ah<=M
 lo:∀ t∈ts,Lp t
def s1(x:Li Tr×Li (Nat×Nat))(u:Tr):Li Tr×Li (Nat×Nat):=
 if lk x.1 u.1 u.2.1=aa (u.2.2 &&& (lk x.1 u.1 u.2.1).getD u.2.2) then x else (pt x.1 u.1 u.2.1 (u.2.2 &&& (lk x.1 u.1 u.2.1).getD u.2.2),x.2++[(u.1,u.2.1)])
def ZeO:Sb (b &&& c) b:=λi h=>by rw[cD,Ba]at h;exact h.1
def ZcS:Sb (b &&& c) c:=λi h=>by rw[cD,Ba]at h;exact h.2
def In.step{p:Tr}{B:Li Tr}(d:∀ k j b c,Lp (k,j,b)->Lp (k,j,c)->Lp (k,j,b &&& c))(h:In Lp tk tk' m sz sz' rs rs' p M ts ah B)(hu:(u.1<=sz/\u.2.1<=sz'/\u.2.2 < 2 ^ m)/\Lp u):In Lp tk tk' m sz sz' rs rs' p M (s1 (ts,ah) u).1 (s1 (ts,ah) u).2 (B++[u]):=by
 have y:=hu.2;replace hu:=hu.1;unfold s1;generalize a:u.2.2 &&& (lk ts u.1 u.2.1).getD u.2.2=b;have E:Sb b u.2.2:=a ▸ ZeO;have bl:b < 2 ^ m:=by
  rw[<-a];exact Nat.lt_of_le_of_lt Nat.and_le_left hu.2.2
 dsimp only;split
 .rename_i e
  exact⟨h.nd,h.bd,h.ai,h.rt,h.cv,λv hv=>(aY.mp hv).elim (h.dn v) λq=>by rw[aP.mp q];exact⟨b,e,E⟩,h.mu,h.lo⟩
 .rename_i e
  have l:∀ c,lk ts u.1 u.2.1=aa c->Sb b c:=λc q=>by rw[<-a,q];exact ZcS
  have C:∀ v,Cu ts v->Cu (pt ts u.1 u.2.1 b) v:=λv ⟨c,n,A⟩=>by
   unfold Cu;rw[QA];by_cases q:v.1=u.1/\v.2.1=u.2.1
   .rw[aq q]
    rw[q.1,q.2]at n;exact⟨b,rfl,λi H=>A i (l c n i H)⟩
   .rw[ar q];exact⟨c,n,A⟩
  have o:=Uo (k:=u.1) (j:=u.2.1) (b:=b) h.nd;have D:∀ t∈pt ts u.1 u.2.1 b,t.1<=sz/\t.2.1<=sz'/\t.2.2 < 2 ^ m:=λt ht=>by
   rcases WD ht with rfl|ht
   .exact⟨hu.1,hu.2.1,bl⟩
   .exact h.bd t ht
  have F:=Xn o D;have lo:∀ t∈pt ts u.1 u.2.1 b,Lp t:=λt ht=>by
   rcases WD ht with rfl|ht
   .rw[<-a]
    cases q:lk ts u.1 u.2.1 with
    |none=>show Lp (u.1,u.2.1,u.2.2 &&& u.2.2);rw[Nat.and_self];exact y
    |some c=>exact d _ _ _ _ y (h.lo _ (Zs q))
   .exact h.lo t ht
  refine⟨o,D,λx hx=>?_,WC (.inr h.rt),λk j c q=>?_,λv hv=>?_,?_,lo⟩
  .rcases aY.mp hx with hx|hx
   .exact WC (.inr (h.ai x hx))
   .exact WC (.inl (aP.mp hx))
  .rw[QA]at q
   split at q
   .rename_i z
    exact .inl (bN _ (by rw[z.1,z.2];exact Ls))
   .rcases h.cv k j c q with z|⟨us,f,z⟩|z
    .exact .inl (dF _ z)
    .exact .inr (.inl ⟨us,f,λv hv=>C v (z v hv)⟩)
    .exact .inr (.inr z)
  .rcases aY.mp hv with hv|hv
   .exact C v (h.dn v hv)
   .rw[aP.mp hv]
    exact⟨b,by rw[QA,aq ⟨rfl,rfl⟩],E⟩
  .have s:=h.mu
   unfold Dp.mu at s ⊢
   rw[aH];show 2 * (sb (pt ts u.1 u.2.1 b)+2 ^ m * ((sz+1) * (sz'+1) - (pt ts u.1 u.2.1 b).length))+(ah.length+1)<=M;cases q:lk ts u.1 u.2.1 with
   |some c=>
    obtain⟨g,r⟩:=XC (b:=b) q;rw[g];have:b<=c:=by rw[<-a,q];exact Nat.and_le_right
    have:b≠c:=λz=>e (by rw[q,z])
    omega
   |none=>
    obtain⟨g,r⟩:=Vw (b:=b) q;rw[g,r];rw[g]at F;obtain⟨w,G⟩:∃ w,(sz+1) * (sz'+1) - ts.length=w+1:=⟨(sz+1) * (sz'+1) - ts.length - 1,∅⟩
    rw[show(sz+1) * (sz'+1) - (ts.length+1)=w by omega]
    rw[G,Nat.mul_succ]at s;omega
structure Cl(Lp:Tr->Prop)(tk tk':D)(m sz sz':Nat)(rs rs':List Rw)(ts:List Tr):Prop where
 nd:(ts.map ky).Nodup
 bd:∀ t∈ts,t.1<=sz/\t.2.1<=sz'/\t.2.2 < 2 ^ m
 rt:(0,0)∈ts.map ky
 cv:∀ k j b,lk ts k j=aa b->Cv tk tk' m rs rs' ts k j b
 lo:∀ t∈ts,Lp t
def Zdn(h:mv rs k vs=.inl noD):rs.length<=k:=by
 unfold mv at h;cases q:rs[k]? with
 |none=>exact List.getElem?_eq_none_iff.mp q
 |some r=>
  rw[q]at h;cases r with
  |tell y=>
   have h:Sum.inl (teD (woI vs y))=(Sum.inl noD:Sum D (Nat×Li Int)):=h
   injection h with h
   exact au (Zz h) (by decide +kernel)
  |_=>cases h
def Zar(h:rs.length<=k):mv rs k vs=.inl noD:=by unfold mv;rw[eH h]
theorem Cl.oc{Lp:Tr->Prop}(h:Cl Lp tk tk' m sz sz' rs rs' ts)(t:Rs m rs)(e:Rs m rs'):∀ (L k j b:Nat) (vs ws:Li Int),lk ts k j=aa b->Vs m vs->Vs m ws->Ag b vs ws->oc rs L k vs=oc rs' L j ws
 |0,k,j,b,vs,ws,n,l,g,a=>by
  obtain⟨us,f,_⟩:=h.cv k j b n;have:=f.1.s vs ws l g a;unfold Dp.oc;by_cases c:rs.length<=k
  .rw[aq c]
   rw[Zar c]at this;cases q:mv rs' j ws with
   |inl o=>rw[q]at this;rw[aq (Zdn (q.trans (av Sum.inl (show noD=o from this).symm)))]
   |inr p=>rw[q]at this;exact this.elim
  .rw[ar c]
   by_cases w:rs'.length<=j
   .rw[Zar w]at this
    cases q:mv rs k vs with
    |inl o=>rw[q]at this;exact au (Zdn (q.trans (av Sum.inl (show o=noD from this)))) c
    |inr p=>rw[q]at this;exact this.elim
   .rw[ar w]
 |L+1,k,j,b,vs,ws,n,l,g,a=>by
  obtain⟨us,f,D⟩:=h.cv k j b n;have:=f.1.s vs ws l g a;unfold Dp.oc;cases q:mv rs k vs with
  |inl o=>cases d:mv rs' j ws with
   |inl x=>rw[q,d]at this;exact this
   |inr p=>rw[q,d]at this;exact this.elim
  |inr p=>cases d:mv rs' j ws with
   |inl x=>rw[q,d]at this;exact this.elim
   |inr r=>
    rw[q,d]at this;obtain⟨u,y,C,B,E⟩:=this;obtain⟨c,v,A⟩:=D u y;rw[C,B]at v;exact h.oc t e L p.1 r.1 c p.2 r.2 v (Zdo l t q) (Zdo g e d) λi z=>E i (A i z)
def Cl.same(h:Cl Lp tk tk' m sz sz' rs rs' ts)(d:Rs m rs)(a:Rs m rs')(c:Vs m vs)(L:Nat):Dp.oc rs L 0 vs=Dp.oc rs' L 0 vs:=by
 obtain⟨b,e⟩:=ZV h.rt;exact h.oc d a L 0 0 b vs vs e c c λ_ _=>rfl
end
noncomputable def prN(p:Nat×Nat):D:=.tup [.int (p.1:Int),.int (p.2:Int)]
noncomputable def iN(b:Nat):D:=.int (b:Int)
def bI:CS:=.y 9 (.bin .BitAnd (.v 8) (.dgN (.v 2) (.g (.a 6 (.s 7))) (.v 8)))
 (.z (.ite (.cmp .NotEq (.dgN (.v 2) (.g (.a 6 (.s 7))) (.c .non)) (.v 9)) (.seq (.dput 2 (.v 6) (.v 7) (.v 9))
 (.z (.app 3 (.g (.a 6 (.s 7)))))) .skip))
def cW:CE:=.cmp .Gt (.len (.v 3)) (.i 0)
def bW:CS:=.y 4 (.pop (.v 3))
 (.y 5 (.f 122 (.a 0 (.a 1 (.aC (.x 4 0) (.aC (.x 4 1) (.u (.ix (.v 2) (.v 4))))))))
 (.seq (.ite (.cmp .Is (.v 5) (.c .non)) (.q (.c .non)) .skip)
 (.z (.for4 6 7 8 (.v 5) bI))))
variable{A B:D}{M:Nat}{dn:Li Tr}{x4 x5 x6 x7 x8 x9:Ot D}
section
variable{b q:Nat}{p:Tr}
noncomputable def En(A B:D)(q w:Nat)(x4 x5 x6 x7 x8 x9:Ot D):Env:=[aa A,aa B,aa (.dic q),jL w,x4,x5,x6,x7,x8,x9]
def isk:isK (k:Int) (j:Int) (trD u)=ak (u.1=k/\u.2.1=j):=by
 show(ak ((u.1:Int)=(k:Int))&&ak ((u.2.1:Int)=(j:Int)))=_;rw[<-Bool.decide_and];exact decide_eq_decide.mpr ⟨λh=>⟨Int.ofNat.inj h.1,Int.ofNat.inj h.2⟩,λh=>⟨av Int.ofNat h.1,av Int.ofNat h.2⟩⟩
theorem V3:∀ {ts:Li Tr},Yc (ts.map trD) (k:Int) (j:Int)=(lk ts k j).map iN
 |[]=>rfl
 |t :: ts=>by
  unfold Yc lk;rw[aZ,dO,isk];by_cases h:t.1=k/\t.2.1=j
  .rw[aq h,aG h];rfl
  .rw[ar h,aI h];exact V3
theorem Vv:∀ {ts:Li Tr},lk ts k j=ab->pt ts k j b=ts++[(k,j,b)]
 |[],_=>rfl
 |t :: ts,h=>by
  unfold lk at h;split at h
  .cases h
  .rename_i n
   unfold pt;rw[ar n,Vv h];rfl
theorem ZaR:∀ {ts:Li Tr},(ts.map ky).Nodup->lk ts k j=aa c->(ts.map trD).map (λe=>if isK (k:Int) (j:Int) e=ae then D.tup [.int (k:Int),.int (j:Int),.int (b:Int)] else e)=(pt ts k j b).map trD
 |t :: ts,a,h=>by
  have a:(ky t :: ts.map ky).Nodup:=a;rw[bS]at a;unfold lk at h;unfold pt;rw[aZ,aZ,isk];split at h
  .rename_i e
   rw[aq e,aq (aG e),aZ];refine av (D.tup [.int (k:Int),.int (j:Int),.int (b:Int)] :: ·) ?_;rw[bQ];refine List.map_congr_left λu d=>?_
   show(if isK (k:Int) (j:Int) (trD u)=ae then _ else trD u)=trD u
   rw[isk,ar λz=>a.1 ?_]
   have z:=ao z;exact aQ.mpr ⟨u,d,by show(u.1,u.2.1)=(t.1,t.2.1);rw[z.1,z.2,e.1,e.2]⟩
  .rename_i n
   rw[ar n,ar (λz=>n (ao z)),aZ,ZaR a.2 h]
def X2(nd:(ts.map ky).Nodup):Xr (ts.map trD) (k:Int) (j:Int) (.int (b:Int))=(pt ts k j b).map trD:=by
 unfold Xr;cases h:lk ts k j with
 |none=>
  rw[ar λz=>?_,Vv h,cF];rfl
  obtain⟨e,d,z⟩:=List.any_eq_true.mp z;obtain⟨u,a,rfl⟩:=aQ.mp d;rw[isk]at z;exact Qz h u a (ao z)
 |some c=>
  rw[aq (List.any_eq_true.mpr ⟨trD (k,j,c),aQ.mpr ⟨_,Zs h,rfl⟩,by rw[isk];exact aG ⟨rfl,rfl⟩⟩)]
  exact ZaR nd h
def YK(a:st[q]?=aa (ae,ts.map trD)):dAt [.int (k:Int),.int (j:Int)] q st=aa ((lk ts k j).map iN):=by
 show o2 (λ(p:Int×Int) (c:YO)=>Yc c.2 p.1 p.2) (aa ((k:Int),(j:Int))) st[q]?=_
 rw[a];show aa (Yc (ts.map trD) (k:Int) (j:Int))=_;rw[V3]
def Y.dg{a:CE}(l:s[q]?=aa (ae,ts.map trD))(p:Y F s a U (.dic q)){kk:CE}(n:Y F s kk U (.tup [.int (k:Int),.int (j:Int)]))(m:Y F s e U d):Y F s (.dgN a kk e) U (((lk ts k j).map iN).getD d):=λst g=>by
 obtain⟨s1,u,b⟩:=p st g;obtain⟨i,t,f⟩:=n s1 (g.trans b);obtain⟨c,r,h⟩:=m i (g.trans (b.trans f));refine⟨c,?_,b.trans (f.trans h)⟩;show Yz (ev F a) (ev F kk) (ev F e) gtD U st=_;unfold Yz;simp only[u,t,r];show(dAt [.int (k:Int),.int (j:Int)] q c).map (λo=>(o.getD d,c))=_
 rw[YK ((g.trans (b.trans (f.trans h))).get l)];rfl
def ZS{b:YO}(g:Grw s st)(h:s.length<=q):Grw s (st.set q b):=⟨λi a=>by rw[bO ∅];exact g.old i a,by rw[bL];exact g.len⟩
def Zb9(nd:(ts.map ky).Nodup)(S:ts.length<=400)(T:ah.length<=19000)(ne:q≠w)(x:st[q]?=aa (ae,ts.map trD))(O:st[w]?=aa (ae,ah.map prN))(L:s.length<=q)(K:s.length<=w)(g:Grw s st) :
  ∃ p st',ex F bI (En A B q w x4 x5 (jN u.1) (jN u.2.1) (jN u.2.2) x9) st=aa (.nx (En A B q w x4 x5 (jN u.1) (jN u.2.1) (jN u.2.2) p),st')/\Grw s st'/\st'[q]?=aa (ae,(s1 (ts,ah) u).1.map trD)/\st'[w]?=aa (ae,(s1 (ts,ah) u).2.map prN):=by
 have N:((lk ts u.1 u.2.1).map iN).getD (.int (u.2.2:Int))=.int (((lk ts u.1 u.2.1).getD u.2.2:Nat):Int):=by cases lk ts u.1 u.2.1<;>rfl
 have C:=Y.dg (F:=F) (s:=st) (a:=.v 2) (kk:=.g (.a 6 (.s 7))) (e:=.v 8) (U:=En A B q w x4 x5 (jN u.1) (jN u.2.1) (jN u.2.2) x9) (k:=u.1) (j:=u.2.1) (d:=.int (u.2.2:Int)) x () () ();rw[N]at C;obtain⟨t,z,l⟩:=Y.band (c:=u.2.2) (a:=.v 8) () C st .refl;generalize M:u.2.2 &&& (lk ts u.1 u.2.1).getD u.2.2=v at z
 have I:=Y.dg (F:=F) (s:=t) (a:=.v 2) (kk:=.g (.a 6 (.s 7))) (e:=.c .non) (U:=En A B q w x4 x5 (jN u.1) (jN u.2.1) (jN u.2.2) (jN v)) (k:=u.1) (j:=u.2.1) (d:=.non) (l.get x) () () ();have H:Y F t (.cmp .NotEq (.dgN (.v 2) (.g (.a 6 (.s 7))) (.c .non)) (.v 9)) (En A B q w x4 x5 (jN u.1) (jN u.2.1) (jN u.2.2) (jN v)) (.bl (!decide (lk ts u.1 u.2.1=aa v))):=.cmp (y:=.int (v:Int)) I () λst=>by
  cases lk ts u.1 u.2.1 with
  |none=>rfl
  |some c=>
   show aa (!decide ((c:Int)=(v:Int)))=aa (!decide (aa c=aa v));have e:ak ((c:Int)=(v:Int))=ak (aa c=aa v):=decide_eq_decide.mpr ⟨λh=>av aa ∅,λh=>by injection h with h;omega⟩
   rw[e]
 obtain⟨b,o,n⟩:=H t .refl;unfold s1;dsimp only;rw[M];have f:=(l.trans n).get x;have m:=(l.trans n).get O;by_cases c:lk ts u.1 u.2.1=aa v
 .rw[aG c]at o
  rw[aq c];exact⟨_,b,(Zc (Zn z)).trans ((Zc ((Ys o).trans Zf)).trans Zf),g.trans (l.trans n),f,m⟩
 .rw[aI c]at o
  rw[ar c];have R:ex F (.dput 2 (.v 6) (.v 7) (.v 9)) (En A B q w x4 x5 (jN u.1) (jN u.2.1) (jN u.2.2) (jN v)) b=aa (.nx (En A B q w x4 x5 (jN u.1) (jN u.2.1) (jN u.2.2) (jN v)),b.set q (ae,(pt ts u.1 u.2.1 v).map trD)):=by
   show(match b[q]? with
    |some (ae,D)=>if D.length < Zk then aa (Fl.nx _,b.set q (ae,Xr D (u.1:Int) (u.2.1:Int) (.int (v:Int)))) else ab
    |_=>ab)=_
   rw[f];show(if (ts.map trD).length < Zk then _ else _)=_
   rw[aq (by rw[aD];unfold Zk;omega),X2 nd]
  have G:q < b.length:=Zw f;obtain⟨J,Q,E,P⟩:=Ap.app (F:=F) (s:=b.set q (ae,(pt ts u.1 u.2.1 v).map trD)) (j:=w) (i:=3) (e:=.g (.a 6 (.s 7))) (U:=En A B q w x4 x5 (jN u.1) (jN u.2.1) (jN u.2.2) (jN v)) (d:=prN (u.1,u.2.1)) rfl () _ (ah.map prN) .refl (by rw[bO ne];exact m) (by rw[aD];show _+1<=90000;omega)
  refine⟨_,J,(Zc (Zn z)).trans ((Zc ((ZY o).trans ((Zc R).trans ((Zc Q).trans Zf)))).trans Zf),E.grw K (ZS (g.trans (l.trans n)) L),?_,by rw[P,cF];rfl⟩
  rw[E.old q (by rw[bL];exact G) ne,bH G]
theorem Qu{Lp:Tr->Prop}(a:∀ k j b c,Lp (k,j,b)->Lp (k,j,c)->Lp (k,j,b &&& c))(I:(sz+1) * (sz'+1)<=400)(K:M<=19000)(ne:q≠w)(r:s.length<=q)(o:s.length<=w):∀ (us dn ts:Li Tr) (ah:Li (Nat×Nat)) (st:Za) (x6 x7 x8 x9:Ot D),(∀ u∈us,(u.1<=sz/\u.2.1<=sz'/\u.2.2 < 2 ^ m)/\Lp u)->In Lp tk tk' m sz sz' rs rs' p M ts ah dn->st[q]?=aa (ae,ts.map trD)->st[w]?=aa (ae,ah.map prN)->Grw s st->
  ∃ i h f d st',Zi (Xb 6 7 8 (ex F bI)) (us.map trD) (En A B q w x4 x5 x6 x7 x8 x9) st=aa (.nx (En A B q w x4 x5 i h f d),st')/\Grw s st'/\st'[q]?=aa (ae,(us.foldl s1 (ts,ah)).1.map trD)/\st'[w]?=aa (ae,(us.foldl s1 (ts,ah)).2.map prN)
 |[],dn,ts,ah,st,x6,x7,x8,x9,_,_,n,l,g=>⟨x6,x7,x8,x9,st,rfl,g,n,l⟩
 |u :: us,dn,ts,ah,st,x6,x7,x8,x9,t,e,n,l,g=>by
  have S:=Xn e.nd e.bd;have H:=e.mu;unfold mu at H;obtain⟨d,G,N,g1,R,P⟩:=Zb9 (F:=F) (A:=A) (B:=B) (x4:=x4) (x5:=x5) (u:=u) (x9:=x9) e.nd ∅ ∅ ne n l r o g
  obtain⟨C,z,y,x,E,L,g2,Q,O⟩:=Qu a I K ne r o us (dn++[u]) _ _ G (jN u.1) (jN u.2.1) (jN u.2.2) d (λv J=>t v (Lm _ J)) (e.step a (t u Ls)) R P g1
  refine⟨C,z,y,x,E,?_,g2,Q,O⟩;show(match ex F bI (En A B q w x4 x5 (jN u.1) (jN u.2.1) (jN u.2.2) x9) st with
   |some (.nx U',st')=>Zi (Xb 6 7 8 (ex F bI)) (us.map trD) U' st'
   |some (.ct U',st')=>Zi (Xb 6 7 8 (ex F bI)) (us.map trD) U' st'
   |some (.bk U',st')=>aa (.nx U',st')
   |some (.rt v,st')=>aa (.rt v,st')
   |none=>ab)=_
  rw[N];exact L
theorem In.all(a:∀ k j b c,Lp (k,j,b)->Lp (k,j,c)->Lp (k,j,b &&& c)):∀ {us dn ts:Li Tr}{ah:Li (Nat×Nat)},(∀ u∈us,(u.1<=sz/\u.2.1<=sz'/\u.2.2 < 2 ^ m)/\Lp u)->In Lp tk tk' m sz sz' rs rs' p M ts ah dn->In Lp tk tk' m sz sz' rs rs' p M (us.foldl s1 (ts,ah)).1 (us.foldl s1 (ts,ah)).2 (dn++us)
 |[],dn,ts,ah,_,h=>by rw[bF];exact h
 |u :: us,dn,ts,ah,d,h=>by
  have:=In.all a (us:=us) (λv e=>d v (Lm _ e)) (h.step a (d u Ls))
  rw[aM]at this;exact this
structure Ou(Lp:Tr->Prop)(tk tk':D)(m sz sz':Nat)(rs rs':List Rw)(M:Nat)(ts:List Tr)(ah:List (Nat×Nat)):Prop where
 nd:(ts.map ky).Nodup
 bd:∀ t∈ts,t.1<=sz/\t.2.1<=sz'/\t.2.2 < 2 ^ m
 ai:∀ x∈ah,x∈ts.map ky
 rt:(0,0)∈ts.map ky
 cv:∀ k j b,lk ts k j=aa b->(k,j)∈ah\/Cv tk tk' m rs rs' ts k j b
 mu:mu m sz sz' ts ah<=M
 lo:∀ t∈ts,Lp t
def wl(hz:(sz+1) * (sz'+1)<=400)(hr:Rs m rs)(hr':Rs m rs')(h1:rs.length=sz)(h2:rs'.length=sz')(hm:m<=60):∀ (M:Nat) (ts:Li Tr) (ah:Li (Nat×Nat)),M<=19000->Ou (Lw tk tk' m rs rs') tk tk' m sz sz' rs rs' M ts ah->∃ r:Ot (Li Tr),(∀ E,r=aa E->Cl (Lw tk tk' m rs rs') tk tk' m sz sz' rs rs' E)/\(r=ab->∀ K,¬Kp tk tk' m rs rs' K)/\∀ (n l:Nat),M < l->∀ (s st:Za) (q w:Nat) (x4 x5 x6 x7 x8 x9:Ot D),q≠w->s.length<=q->s.length<=w->st[q]?=aa (ae,ts.map trD)->st[w]?=aa (ae,ah.map prN)->Grw s st->
  ∃ st',Grw s st'/\match r with
   |none=>ZW (ev (rT (n+7)) cW) (ex (rT (n+7)) bW) l (En (pgD tk m rs) (pgD tk' m rs') q w x4 x5 x6 x7 x8 x9) st=aa (.rt .non,st')
   |some E=>(∃ y4 y5 W V T S,ZW (ev (rT (n+7)) cW) (ex (rT (n+7)) bW) l (En (pgD tk m rs) (pgD tk' m rs') q w x4 x5 x6 x7 x8 x9) st=aa (.nx (En (pgD tk m rs) (pgD tk' m rs') q w y4 y5 W V T S),st'))/\st'[q]?=aa (ae,E.map trD):=λM=>by
 induction M using Nat.strongRecOn with
 |_ M ih=>
  intro ts ah hM h;rcases List.eq_nil_or_concat ah with rfl|⟨t,p,O⟩
  .refine⟨aa ts,λE e=>by cases e;exact⟨h.nd,h.bd,h.rt,λk j b q=>(h.cv k j b q).resolve_left λz=>(nomatch z),h.lo⟩,λe=>(nomatch e),λn l hf s st q w x4 x5 x6 x7 x8 x9 ne Q J R L g=>?_⟩
   obtain⟨f,rfl⟩:∃ f,l=f+1:=⟨l - 1,∅⟩
   obtain⟨t1,e1,k1⟩:=Y.cmp (F:=rT (n+7)) (s:=st) (op:=.Gt) (a:=.len (.v 3)) (b:=.i 0) (U:=En (pgD tk m rs) (pgD tk' m rs') q w x4 x5 x6 x7 x8 x9) (x:=.int 0) (y:=.int 0) (k:=af) (.lenl L ()) () (λ_=>rfl) st .refl
   refine⟨t1,g.trans k1,⟨x4,x5,x6,x7,x8,x9,?_⟩,k1.get R⟩;show Z3 (ev _ cW) _ _ _ st=_;unfold Z3;rw[show ev (rT (n+7)) cW _ st=_ from e1]
  .rw[List.concat_eq_append]at O
   subst O;obtain⟨M,rfl⟩:∃ N,M=N+1:=⟨M - 1,by
    have hm:=h.mu;unfold mu at hm;rw[aH]at hm;show M=M - 1+1;have:[p].length=1:=rfl;omega⟩
   replace ih:=ih M (eP M);obtain⟨c,H⟩:=ZV (h.ai p (bN _ Ls));have hcb:=(h.bd _ (Zs H)).2.2;obtain⟨d,hd,hP⟩:=Zan hr hr' hm hcb (h.lo _ (Zs H));have X:=h.mu
   -- a turn up to the triples
   have turn:∀ (n:Nat) (s st:Za) (q w:Nat) (x4 x5 x6 x7 x8 x9:Ot D),q≠w->s.length<=q->s.length<=w->st[q]?=aa (ae,ts.map trD)->st[w]?=aa (ae,(t++[p]).map prN)->Grw s st->∃ o G,ev (rT (n+7)) cW (En (pgD tk m rs) (pgD tk' m rs') q w x4 x5 x6 x7 x8 x9) st=aa (.bl ae,o)/\Grw s G/\G[q]?=aa (ae,ts.map trD)/\G[w]?=aa (ae,t.map prN)/\∀ P,ex (rT (n+7)) (.y 4 (.pop (.v 3)) (.y 5 (.f 122 (.a 0 (.a 1 (.aC (.x 4 0) (.aC (.x 4 1) (.u (.ix (.v 2) (.v 4)))))))) P)) (En (pgD tk m rs) (pgD tk' m rs') q w x4 x5 x6 x7 x8 x9) o=ex (rT (n+7)) P (En (pgD tk m rs) (pgD tk' m rs') q w (aa (prN p)) (aa d) x6 x7 x8 x9) G:=λn s st q w x4 x5 x6 x7 x8 x9 ne Q J R L g=>by
    have hl:((t++[p]).map prN).length=t.length+1:=by rw[aD,aH];rfl
    obtain⟨o,O,k0⟩:=Y.cmp (F:=rT (n+7)) (s:=st) (op:=.Gt) (a:=.len (.v 3)) (b:=.i 0) (U:=En (pgD tk m rs) (pgD tk' m rs') q w x4 x5 x6 x7 x8 x9) (x:=.int (((t++[p]).map prN).length:Int)) (y:=.int 0) (k:=ae) (.lenl L ()) () (λ_=>by
     show aa (ak ((0:Int) < (((t++[p]).map prN).length:Int)))=_;rw[hl,aG ∅]) st .refl
    have b0:=k0.get L;have hw:w < o.length:=Zw b0;have e1:ev (rT (n+7)) (.pop (.v 3)) (En (pgD tk m rs) (pgD tk' m rs') q w x4 x5 x6 x7 x8 x9) o=aa (prN p,o.set w (ae,t.map prN)):=by
     show Zcs (.lst w) o=_;show(match o[w]? with
      |some (ae,xs)=>(xs[xs.length - 1]?).map λd=>(d,o.set w (ae,xs.dropLast))
      |_=>ab)=_
     rw[b0];show(((t++[p]).map prN)[((t++[p]).map prN).length - 1]?).map (λd=>(d,o.set w (ae,((t++[p]).map prN).dropLast)))=_
     rw[hl,cF,List.map_singleton,List.dropLast_concat,bD (by rw[aD];omega),aD,eU,eX];rfl
    have g2:Grw s (o.set w (ae,t.map prN)):=ZS (g.trans k0) J;have a2:(o.set w (ae,t.map prN))[q]?=aa (ae,ts.map trD):=by rw[bO (Ne.symm ne)];exact k0.get R
    have b2:(o.set w (ae,t.map prN))[w]?=aa (ae,t.map prN):=bH hw;generalize o.set w (ae,t.map prN)=t2 at *
    have yi:Y (rT (n+7)) t2 (.ix (.v 2) (.v 4)) (En (pgD tk m rs) (pgD tk' m rs') q w (aa (prN p)) x5 x6 x7 x8 x9) (.int (c:Int)):=Dp.g2 (a:=.v 2) (b:=.v 4) (x:=.dic q) (y:=prN p) () () (gs λst k=>by
     show ixR (.dic q) (prN p) st=_;unfold ixR;show(match ((dAt [.int (p.1:Int),.int (p.2:Int)] q st).join) with|some d=>aa (d,st)|none=>ab)=_
     rw[YK (k.get a2),H];rfl)
    obtain⟨G,Z,k3⟩:=Y.call (F:=rT (n+7)) (s:=t2) (f:=122) (a:=.a 0 (.a 1 (.aC (.x 4 0) (.aC (.x 4 1) (.u (.ix (.v 2) (.v 4))))))) (U:=En (pgD tk m rs) (pgD tk' m rs') q w (aa (prN p)) x5 x6 x7 x8 x9) (xs:=[pgD tk m rs,pgD tk' m rs',.int (p.1:Int),.int (p.2:Int),.int (c:Int)]) (ds:=[]) (.cons () (.cons () (.cons () (.cons () (.cons yi .nil))))) (hd n t2) t2 .refl
    exact⟨o,G,O,g2.trans k3,k3.get a2,k3.get b2,λP=>(Zc (Zn e1)).trans (Zc (Zn Z))⟩
   rcases hP with⟨rfl,noK⟩|⟨us,rfl,fT,lw⟩
   .refine⟨ab,λE e=>(nomatch e),λ_=>noK,λn l hf s st q w x4 x5 x6 x7 x8 x9 ne Q J R L g=>?_⟩
    obtain⟨f,rfl⟩:∃ f,l=f+1:=⟨l - 1,∅⟩
    obtain⟨o,G,O,g3,a3,b3,Z⟩:=turn n s st q w x4 x5 x6 x7 x8 x9 ne Q J R L g;refine⟨G,g3,?_⟩;show Z3 (ev _ cW) (ZM (ex _ bW) _) _ _ st=_;unfold Z3;rw[O];show ZM (ex _ bW) _ _ o=_;unfold ZM;rw[show ex (rT (n+7)) bW _ o=aa (.rt .non,G) from(Z _).trans (Zq ((ZY rfl).trans (Zq (Z6 rfl))))]
   .have hI:In (Lw tk tk' m rs rs') tk tk' m sz sz' rs rs' (p.1,p.2,c) M ts t []:=⟨h.nd,h.bd,λx hx=>h.ai x (dF _ hx),h.rt,λk j b z=>by
     rcases h.cv k j b z with z2|z2
     .rcases aY.mp z2 with z2|z2
      .exact .inl z2
      .have z2:=aP.mp z2
       rw[<-z2]at H;have H:lk ts k j=aa c:=H;rw[z]at H
       injection H with H
       exact .inr (.inr (by rw[<-z2,H]))
     .exact .inr (.inl z2),λu I=>(nomatch I),by
     unfold mu at X ⊢
     rw[aH]at X;have:([p]:Li (Nat×Nat)).length=1:=rfl;omega,h.lo⟩
    have I:∀ u∈us,(u.1<=sz/\u.2.1<=sz'/\u.2.2 < 2 ^ m)/\Lw tk tk' m rs rs' u:=λu I=>by
     have:=fT.b u I;rw[h1,h2]at this;exact⟨this,lw u I⟩
    have C:=In.all UW I hI;have hO:Ou (Lw tk tk' m rs rs') tk tk' m sz sz' rs rs' M (us.foldl s1 (ts,t)).1 (us.foldl s1 (ts,t)).2:=⟨C.nd,C.bd,C.ai,C.rt,λk j b z=>by
     rcases C.cv k j b z with z2|z2|z2
     .exact .inl z2
     .exact .inr z2
     .cases z2
      exact .inr ⟨us,⟨fT,hd⟩,λu I=>C.dn u (bN _ I)⟩,C.mu,C.lo⟩
    obtain⟨r,hr1,hr0,hr2⟩:=ih _ _ ∅ hO
    refine⟨r,hr1,hr0,λn l hf s st q w x4 x5 x6 x7 x8 x9 ne Q J R L g=>?_⟩
    obtain⟨f,rfl⟩:∃ f,l=f+1:=⟨l - 1,∅⟩
    obtain⟨o,G,O,g3,a3,b3,Z⟩:=turn n s st q w x4 x5 x6 x7 x8 x9 ne Q J R L g;obtain⟨W,V,T,S,t4,e4,g4,a4,b4⟩:=Qu UW (F:=rT (n+7)) (A:=pgD tk m rs) (B:=pgD tk' m rs') (x4:=aa (prN p)) (x5:=aa (.tup (us.map trD))) hz (show M<=19000 by omega) ne Q J us [] ts t G x6 x7 x8 x9 I hI a3 b3 g3
    obtain⟨t5,g5,h5⟩:=hr2 n f ∅ s t4 q w (aa (prN p)) (aa (.tup (us.map trD))) W V T S ne Q J a4 b4 g4
    have e5:ex (rT (n+7)) (.for4 6 7 8 (.v 5) bI) (En (pgD tk m rs) (pgD tk' m rs') q w (aa (prN p)) (aa (.tup (us.map trD))) x6 x7 x8 x9) G=aa (.nx (En (pgD tk m rs) (pgD tk' m rs') q w (aa (prN p)) (aa (.tup (us.map trD))) W V T S),t4):=e4;have eb:ex (rT (n+7)) bW (En (pgD tk m rs) (pgD tk' m rs') q w x4 x5 x6 x7 x8 x9) o=aa (.nx (En (pgD tk m rs) (pgD tk' m rs') q w (aa (prN p)) (aa (.tup (us.map trD))) W V T S),t4):=(Z _).trans ((Zc ((Ys rfl).trans Zf)).trans ((Zc e5).trans Zf))
    have ew:ZW (ev (rT (n+7)) cW) (ex (rT (n+7)) bW) (f+1) (En (pgD tk m rs) (pgD tk' m rs') q w x4 x5 x6 x7 x8 x9) st=ZW (ev (rT (n+7)) cW) (ex (rT (n+7)) bW) f (En (pgD tk m rs) (pgD tk' m rs') q w (aa (prN p)) (aa (.tup (us.map trD))) W V T S) t4:=by
     show Z3 (ev _ cW) (ZM (ex _ bW) _) _ _ st=_;unfold Z3;rw[O];show ZM (ex _ bW) _ _ o=_;unfold ZM;rw[eb]
    refine⟨t5,g5,?_⟩;cases r with
    |none=>rw[ew];exact h5
    |some E=>rw[ew];exact h5
end
def Um{β:Type}{b:Li (Int×Int)}{g:α->β}{z:α}{z':β}{a:Li α}(h:a.length=b.length):ZQ b z' (a.map g)=(ZQ b z a).map g:=by
 unfold ZQ;rw[bQ];refine List.map_congr_left λi c=>?_
 have:=XB i c;show(a.map g).getD i z'=g (a.getD i z);rw[aU,aU,bA,Lg ∅];rfl
def Jf{b:Li (Int×Int)}{z:α}{a:Li α}(h:a.length=b.length):(ZQ b z a).Perm a:=by
 have p:=(Yo b).map λi=>a.getD i z
 have e:(aj b.length).map (λi=>a.getD i z)=a:=List.ext_getElem (by rw[aD,cY,h]) λi d c=>by rw[List.getElem_map,List.getElem_range,aU,Lg c];rfl
 exact p.trans (.of_eq e)
def Ris(ks:Li (Nat×Nat)):Prop:=ks.Pairwise λa b=>a.1 * 1000+a.2 < b.1 * 1000+b.2
theorem Qy{α:Type}{a:α->D}{P:α->Prop}:∀ {ys:Li D},(∀ d∈ys,∃ r,d=a r/\P r)->∃ rs:Li α,ys=rs.map a/\∀ r∈rs,P r
 |[],_=>⟨[],rfl,λ_ h=>nomatch h⟩
 |y :: ys,h=>by
  obtain⟨r,rfl,c⟩:=h y Ls;obtain⟨rs,rfl,b⟩:=Qy λd e=>h d (Lm _ e)
  exact⟨r :: rs,rfl,λx hx=>by
   rcases aL.mp hx with rfl|hx
   .exact c
   .exact b x hx⟩
def Zf5(e a:D)(m sz f:Nat)(rs b:Li Rw)(d:D):Prop:=(d=.non/\∀ K,¬Kp e a m rs b K)\/∃ c:Li Tr,d=.tup (c.map trD)/\Cl (Lw e a m rs b) e a m sz f rs b c/\Ris (c.map ky)
section
variable{q a b:Nat}{ks:Li (Nat×Nat)}
theorem Zdj:∀ {ks:Li (Nat×Nat)},lk (ks.map λk=>(k.1,k.2,(lk ts k.1 k.2).getD 0)) a b=if (a,b)∈ks then aa ((lk ts a b).getD 0) else ab
 |[]=>rfl
 |k :: ks=>by
  show(if k.1=a/\k.2=b then aa ((lk ts k.1 k.2).getD 0) else lk (ks.map λk=>(k.1,k.2,(lk ts k.1 k.2).getD 0)) a b)=_
  by_cases c:k.1=a/\k.2=b
  .have e:k=(a,b):=Prod.ext c.1 c.2
   rw[aq c,aq (by rw[e];exact Ls),c.1,c.2]
  .rw[ar c,Zdj]
   by_cases z:(a,b)∈ks
   .rw[aq z,aq (Lm _ z)]
   .rw[ar z,ar λh=>(aL.mp h).elim (λe=>c ⟨(av Prod.fst e).symm,(av Prod.snd e).symm⟩) z]
def Cl.of(h:Cl Lp tk tk' m sz sz' rs rs' ts)(p:ks.Perm (ts.map ky)):Cl Lp tk tk' m sz sz' rs rs' (ks.map λk=>(k.1,k.2,(lk ts k.1 k.2).getD 0)):=by
 have n:∀ a b,lk (ks.map λk=>(k.1,k.2,(lk ts k.1 k.2).getD 0)) a b=lk ts a b:=λa b=>by
  rw[Zdj];cases q:lk ts a b with
  |none=>exact ar λz=>by obtain⟨c,i⟩:=ZV (p.mem_iff.mp z);rw[q]at i;cases i
  |some c=>exact aq (p.mem_iff.mpr (aQ.mpr ⟨_,Zs q,rfl⟩))
 have l:(ks.map λk=>((k.1,k.2,(lk ts k.1 k.2).getD 0):Tr)).map ky=ks:=by rw[bQ];exact List.map_id _
 refine⟨by rw[l];exact p.nodup_iff.mpr h.nd,λt e=>?_,by rw[l];exact p.mem_iff.mpr h.rt,λk j b q=>?_,λt e=>?_⟩
 .obtain⟨k,g,rfl⟩:=aQ.mp e
  obtain⟨b,d⟩:=ZV (p.mem_iff.mp g);show k.1<=sz/\k.2<=sz'/\(lk ts k.1 k.2).getD 0 < 2 ^ m;rw[d];exact h.bd _ (Zs d)
 .rw[n]at q
  obtain⟨o,f,z⟩:=h.cv k j b q;exact⟨o,f,λu r=>by obtain⟨c,v,s⟩:=z u r;exact⟨c,by rw[n];exact v,s⟩⟩
 .obtain⟨k,g,rfl⟩:=aQ.mp e
  obtain⟨b,d⟩:=ZV (p.mem_iff.mp g);rw[d];exact h.lo _ (Zs d)
def X6:Zu (ts.map trD)=(ts.map ky).map λk=>((k.1:Int),(k.2:Int)):=by
 unfold Zu;rw[bQ,bQ];rfl
def Zei(nd:(ts.map ky).Nodup)(c:∀ k∈ts.map ky,k.1 < 1000/\k.2 < 1000):okP (Zu (ts.map trD))=ae:=by
 rw[X6];generalize ts.map ky=ks at *
 unfold okP;rw[Ba];refine⟨bT.mpr λp d=>?_,aG ?_⟩
 .obtain⟨k,f,rfl⟩:=aQ.mp d
  have:=c k f;exact aG ⟨∅,by show(k.1:Int) < 1000;omega,by show 0<=(k.2:Int);omega,by show(k.2:Int) < 1000;omega⟩
 .rw[bQ]
  refine eI.mpr ((List.Pairwise.and_mem.mp nd).imp λ{a b} h e=>?_)
  have i:=c a h.1;have g:=c b h.2.1;refine h.2.2 (Prod.ext ?_ ?_)
  all_goals
   simp only[Function.comp,Vu]at e;omega
def Uy(nd:(ts.map ky).Nodup)(x:∀ k∈ts.map ky,k.1 < 1000/\k.2 < 1000)(r:ts.length<=400):∃ ks:Li (Nat×Nat),ks.Perm (ts.map ky)/\Ris ks/\∀ F s q (U:Env) i,U[i]?=aa (aa (.dic q))->s[q]?=aa (ae,ts.map trD)->Wk F s (.ksrt (.v i)) U W7 (ks.map prN):=by
 have o:(Zu (ts.map trD)).map prD=(ts.map ky).map prN:=by
  rw[X6,bQ];rfl
 have m:(ts.map ky).length=(Zu (ts.map trD)).length:=by rw[X6,aD (as:=ts.map ky)]
 have ok:=Zei nd x;refine⟨ZQ (Zu (ts.map trD)) (0,0) (ts.map ky),Jf m,?_,λF s q U i n p st g=>?_⟩
 .unfold Ris ZQ
  refine eI.mpr ((List.Pairwise.and_mem.mp (QH ok)).imp λ{a b} h=>?_)
  have y:=XB a h.1;have n:=XB b h.2.1;have u:=h.2.2;have f:∀ i,i < (ts.map ky).length->atP (Zu (ts.map trD)) i=(((ts.map ky).getD i (0,0)).1:Int) * 1000+(((ts.map ky).getD i (0,0)).2:Int):=λi t=>by
   unfold atP;rw[X6,aU,aU,bA,Lg t];rfl
  rw[f a ∅,f b ∅]at u
  omega
 rw[<-Um (z':=.non) m,<-o];generalize e:ZQ (Zu (ts.map trD)) .non ((Zu (ts.map trD)).map prD)=ds;have l:∀ d∈ds,Ja d=ae:=λd l=>by
  rw[<-e,o,Um (z:=(0,0)) m]at l;obtain⟨k,_,rfl⟩:=aQ.mp l;rfl
 refine⟨.lst st.length,st++[(ae,ds)],λs=>s[st.length]?=aa (ae,ds),?_,.push,?_,λst' w=>w.get Zx⟩
 .show Zl (Z4 i) Qx U st=_
  unfold Zl Z4;rw[n];show(match st[q]? with
   |some (_,j)=>if j.length<=400/\okP (Zu j)=ae then aa (D.lst st.length,st++[(ae,ZQ (Zu j) D.non ((Zu j).map prD))]) else ab
   |none=>ab)=_
  rw[g.get p];show(if (ts.map trD).length<=400/\okP (Zu (ts.map trD))=ae then _ else ab)=_
  rw[aq ⟨by rw[aD];exact r,ok⟩,e]
 .show(match (st++[(ae,ds)])[st.length]? with
   |some c=>if c.2.all Ja=ae then aa (c.2,λs=>s[st.length]?=aa c) else ab
   |none=>ab)=_
  rw[Zx];exact aq (bT.mpr l)
def Qb(h:Cl Lp tk tk' m sz sz' rs rs' ts)(z:ts.length<=400)(f:sz < 1000/\sz' < 1000):∃ e:Li Tr,(Cl Lp tk tk' m sz sz' rs rs' e/\Ris (e.map ky))/\∀ F s A B q w x4 x5 x6 x7 x8 x9,s[q]?=aa (ae,ts.map trD)->Y F s (.tOf (.compT [2] (.ksrt (.v 2)) (.g (.a 0 (.a 1 (.u (.ix (.v 2) (.g (.a 0 (.s 1)))))))) (.c (.bl ae)))) (En A B q w x4 x5 x6 x7 x8 x9) (.tup (e.map trD)):=by
 obtain⟨ks,i,p,D⟩:=Uy h.nd (λk C=>by obtain⟨t,o,rfl⟩:=aQ.mp C;have:=h.bd t o;exact⟨by show t.1 < _;omega,by show t.2.1 < _;omega⟩) z
 have n:=i.length_eq;rw[aD]at n;refine⟨_,⟨h.of i,by rw[bQ];exact(List.Pairwise.map _ (λ_ _=>id) p)⟩,λF s A B q w x4 x5 x6 x7 x8 x9 f=>?_⟩
 rw[bQ];refine Lv.tof (Wv (U:=En A B q w x4 x5 x6 x7 x8 x9) (b:=two) (wk:=W7) (fr:=[2]) (en:=prN) (D F s q _ 2 rfl f) ∅ λk j=>?_)
 obtain⟨b,l⟩:=ZV (i.mem_iff.mp j);show Y F s _ [jN k.1,jN k.2,aa (.dic q)] (trD (k.1,k.2,(lk ts k.1 k.2).getD 0));rw[l];exact .cons () (.cons () (.cons (Dp.g2 (a:=.v 2) (b:=.g (.a 0 (.s 1))) (x:=.dic q) (y:=prN k) () () (gs λst g=>by
  show(match ((dAt [.int (k.1:Int),.int (k.2:Int)] q st).join) with|some d=>aa (d,st)|none=>ab)=_
  rw[YK (g.get f),l];rfl)) .nil))
def Zfn{e:CE}{v:D}{a:Za}(h:ev F e U (st++[(ae,[])])=aa (v,a))(c:a[st.length]?=aa (ae,[])):ev F (.dd (.i 0) (.i 0) e) U st=aa (.dic st.length,a.set st.length (ae,[.tup [.int 0,.int 0,v]])):=by
 have b:∀ s,ev F (.i 0) U s=aa (.int 0,s):=λ_=>rfl
 show ddE (ev F (.i 0)) (ev F (.i 0)) (ev F e) U st=_;unfold ddE;simp only[b,h,c];rw[aq (by unfold Zk;decide)]
 rfl
def Zap{b:Nat}:mu m sz sz' [(0,0,b)] [(0,0)]=2 * (b+2 ^ m * ((sz+1) * (sz'+1) - 1))+1:=by
 exact rfl
def Zdm{a:Nat}(h:a * ((sz+1) * (sz'+1))<=9000)(c:1<=a):2 * (a - 1+a * ((sz+1) * (sz'+1) - 1))+1<=19000:=by
 obtain⟨v,b⟩:∃ v,(sz+1) * (sz'+1)=v+1:=⟨(sz+1) * (sz'+1) - 1,by have:1<=(sz+1) * (sz'+1):=eB (Nat.le_add_left 1 sz) (Nat.le_add_left 1 sz');omega⟩
 rw[b,Nat.mul_succ]at h;rw[b,eU];omega
def Zbs(hr:Rs m rs)(H:Rs m rs')(h1:rs.length=sz)(h2:rs'.length=sz')(X:m<=60)(hz:(sz+1) * (sz'+1)<=400)(hs:sz < 1000/\sz' < 1000)(hB:2 ^ m * ((sz+1) * (sz'+1))<=9000):CX 8 201 [pgD tk m rs,pgD tk' m rs'] (Zf5 tk tk' m sz sz' rs rs'):=by
 have p2:1<=2 ^ m:=Nat.one_le_two_pow;obtain⟨M,A⟩:∃ M,M=19000:=⟨_,rfl⟩;have hO:Ou (Lw tk tk' m rs rs') tk tk' m sz sz' rs rs' M [(0,0,2 ^ m - 1)] [(0,0)]:=by
  refine⟨bS.mpr ⟨λh=>(nomatch h),dH⟩,λt D=>?_,λx hx=>hx,Ls,λk j b q=>?_,?_,λt D=>?_⟩
  .rw[aP.mp D];exact⟨aR _,aR _,by show 2 ^ m - 1 < 2 ^ m;omega⟩
  .have:=Zs q
   have:=aP.mp this;cases this;exact .inl Ls
  .exact aJ (cR Zap) (A ▸ Zdm hB p2)
  .rw[aP.mp D]
   intro K hK;obtain⟨c,z⟩:=ZV hK.rt;refine⟨c,z,λi Z=>?_⟩
   have hb:=hK.bd _ (Zs z);show(2 ^ m - 1).testBit i=ae;rw[Nat.testBit_two_pow_sub_one];refine aG ?_;rcases dJ i m with q|q
   .exact q
   .rw[Nat.testBit_lt_two_pow (aT hb (fX ∅ q))]at Z
    exact nomatch Z
 obtain⟨r,E,G,o⟩:=wl (tk:=tk) (show(sz+1) * (sz'+1)<=400 by omega) hr H h1 h2 X M _ _ (cR A) hO
 -- up to the loop
 have pre:∀ (n:Nat) (st:Za),∃ t q w,st.length<=q/\st.length<=w/\q≠w/\Grw st t/\t[q]?=aa (ae,[(0,0,2 ^ m - 1)].map trD)/\t[w]?=aa (ae,[(0,0)].map prN)/\∀ P,ex (rT (n+7)) (.y 2 (.dd (.i 0) (.i 0) (.f 56 (.u (.x 0 1)))) (.y 3 (.lstE (.u (.g (.aC (.i 0) (.u (.i 0)))))) P)) [aa (pgD tk m rs),aa (pgD tk' m rs'),ab,ab,ab,ab,ab,ab,ab,ab] st=ex (rT (n+7)) P (En (pgD tk m rs) (pgD tk' m rs') q w ab ab ab ab ab ab) t:=λn st=>by
  obtain⟨d,J,p⟩:=Y.call1 (F:=rT (n+7)) (s:=st++[(ae,[])]) (f:=56) (a:=.x 0 1) (x:=.int (m:Int)) (U:=[aa (pgD tk m rs),aa (pgD tk' m rs'),ab,ab,ab,ab,ab,ab,ab,ab]) () (ZdC (n:=n+5) X) _ .refl;have c3:d[st.length]?=aa (ae,[]):=p.get Zx;have ed:ev (rT (n+7)) (.dd (.i 0) (.i 0) (.f 56 (.u (.x 0 1)))) [aa (pgD tk m rs),aa (pgD tk' m rs'),ab,ab,ab,ab,ab,ab,ab,ab] st=aa (.dic st.length,d.set st.length (ae,[(0,0,2 ^ m - 1)].map trD)):=by
   exact Zfn J c3
  have hl:st.length < d.length:=Zw c3;have ll:(d.set st.length (ae,[(0,0,2 ^ m - 1)].map trD)).length=d.length:=bL;have gg:Grw st (d.set st.length (ae,[(0,0,2 ^ m - 1)].map trD)):=ZS (Grw.push.trans p) (aB _);have c4:(d.set st.length (ae,[(0,0,2 ^ m - 1)].map trD))[st.length]?=aa (ae,[(0,0,2 ^ m - 1)].map trD):=bH hl
  generalize d.set st.length (ae,[(0,0,2 ^ m - 1)].map trD)=t4 at *
  refine⟨t4++[(ae,[(0,0)].map prN)],st.length,t4.length,aB _,∅,∅,gg.trans .push,Grw.push.get c4,Zx,λP=>?_⟩
  exact(Zc (Zn ed)).trans (Zc (Zn rfl))
 cases r with
 |none=>
  refine⟨.non,λn s=>.of (v:=Yb) rfl rfl λst g=>?_,.inl ⟨rfl,G rfl⟩⟩
  obtain⟨t,q,w,C,B,ne,I,a,b,e⟩:=pre n st;obtain⟨l,g2,L⟩:=o n 20000 (by rw[A];decide) st t q w ab ab ab ab ab ab ne C B a b I
  exact⟨l,(e _).trans (Zq L),g2⟩
 |some ts=>
  have N:=E ts rfl;have tl:=Xn N.nd N.bd;obtain⟨W,z,hu⟩:=Qb N ∅ hs
  refine⟨.tup (W.map trD),λn s=>.of (v:=Yb) rfl rfl λst g=>?_,.inr ⟨W,rfl,z⟩⟩
  obtain⟨t,q,w,C,B,ne,I,a,b,e⟩:=pre n st;obtain⟨l,g2,⟨V,T,S,R,Q,O,L⟩,c2⟩:=o n 20000 (by rw[A];decide) st t q w ab ab ab ab ab ab ne C B a b I
  obtain⟨d,J,p⟩:=hu (rT (n+7)) l (pgD tk m rs) (pgD tk' m rs') q w V T S R Q O c2 l .refl;have e4:ex (rT (n+7)) (.whl cW bW) (En (pgD tk m rs) (pgD tk' m rs') q w ab ab ab ab ab ab) t=aa (.nx (En (pgD tk m rs) (pgD tk' m rs') q w V T S R Q O),l):=L;exact⟨d,(e _).trans ((Zc e4).trans (Zq (Z6 J))),g2.trans p⟩
end
def fwO(d a:D)(m:Nat)(rs b:Li Rw)(t:Tr):Ot (Li Tr):=
 open Classical in if h:∃ c,Zbv d a m rs b t.1 t.2.1 t.2.2 c then aa h.choose else ab
def stB(K:Li Tr)(u:Tr):Bool:=match lk K u.1 u.2.1 with
 |none=>af
 |some b=>ak (b &&& u.2.2=b)
def wkB(d a:D)(m:Nat)(rs b:Li Rw)(K:Li Tr)(t:Tr):Bool:=match fwO d a m rs b t with
 |none=>af
 |some c=>c.all (stB K)
def knW(a:Li Tr):Li Tr:=a.foldl (λK t=>pt K t.1 t.2.1 t.2.2) []
def kB(d b:D)(m:Nat)(rs c:Li Rw)(a:Li Tr):Bool:=(ak ((knW a).length=a.length)&&(lk (knW a) 0 0).isSome)&&a.all (wkB d b m rs c (knW a))
variable{ws K:Li Tr}{bb:Bool}
section
variable{P:D}{q:Nat}{vs:Li Tr}
def Zfu(g:Rs m rs)(a:Rs m rs')(i:m<=60)(l:t.2.2 < 2 ^ m):(∀ n s,C (rT (n+7)) s 122 [pgD tk m rs,pgD tk' m rs',.int (t.1:Int),.int (t.2.1:Int),.int (t.2.2:Int)] (foD (fwO tk tk' m rs rs' t)))/\∀ us,fwO tk tk' m rs rs' t=aa us->FolT m rs rs' t.1 t.2.1 t.2.2 us:=by
 obtain⟨d,c,o⟩:=VH (tk:=tk) (tk':=tk') (k:=t.1) (j:=t.2.1) g a i l;unfold fwO;split
 .rename_i h
  have b:=h.choose_spec;exact⟨λn s=>b.2 n s,λus e=>by cases e;exact b.1⟩
 .rename_i h
  rcases o with rfl|⟨us,rfl,f⟩
  .exact⟨λn s=>c n s,λus e=>nomatch e⟩
  .exact au ⟨us,f,c⟩ h
def Jq:C (rT (n+1)) s 45 [.int (c:Int),.int (k:Int)] (.bl (ak (c &&& k=c))):=.of (v:=YF) rfl rfl (.ret (.cmp (.band () ()) () λ_=>by
 show aa (ak (((c &&& k:Nat):Int)=(c:Int)))=_;rw[decide_eq_decide.mpr Int.ofNat_inj]))
def Jo(a:s[q]?=aa (ae,K.map trD)):C (rT (n+2)) s 202 [trD u,.dic q] (.bl (stB K u)):=by
 have f:stB K u=((lk K u.1 u.2.1).isSome&&ak ((lk K u.1 u.2.1).getD 0 &&& u.2.2=(lk K u.1 u.2.1).getD 0)):=by
  unfold stB;cases lk K u.1 u.2.1<;>rfl
 rw[f];refine .of (v:=Wn) rfl rfl (.set (x:=prN (u.1,u.2.1)) (.tkT (i:=2) (xs:=[.int (u.1:Int),.int (u.2.1:Int),.int (u.2.2:Int)]) () () (show 2<=3 by decide)) (.ret (.and ?_ λc=>.call (xs:=[.int (((lk K u.1 u.2.1).getD 0:Nat):Int),.int (u.2.2:Int)]) (.cons ?_ (.cons (.ixt (j:=2) (xs:=[.int (u.1:Int),.int (u.2.1:Int),.int (u.2.2:Int)]) () () rfl) .nil)) Jq)))
 .exact Dp.g2 (x:=prN (u.1,u.2.1)) (y:=.dic q) () () (gs λst g=>by
   show(match (dAt [.int (u.1:Int),.int (u.2.1:Int)] q st).map Option.isSome with|some k=>aa (D.bl k,st)|none=>ab)=_
   rw[YK (g.get a)];cases lk K u.1 u.2.1<;>rfl)
 .obtain⟨b,e⟩:=fY.mp c
  exact Dp.g2 (x:=.dic q) (y:=prN (u.1,u.2.1)) () () (gs λst g=>by
   show(match ((dAt [.int (u.1:Int),.int (u.2.1:Int)] q st).join) with|some d=>aa (d,st)|none=>ab)=_
   rw[YK (g.get a),e];rfl)
def Jp(c:s[q]?=aa (ae,K.map trD))(d:Rs m rs)(a:Rs m rs')(e:m<=60)(o:t.2.2 < 2 ^ m):C (rT (n+8)) s 203 [pgD tk m rs,pgD tk' m rs',trD t,.dic q] (.bl (wkB tk tk' m rs rs' K t)):=by
 obtain⟨w,p⟩:=Zfu (tk:=tk) (tk':=tk') d a e o;refine .of (v:=YV) rfl rfl (.set (.call (xs:=[pgD tk m rs,pgD tk' m rs',.int (t.1:Int),.int (t.2.1:Int),.int (t.2.2:Int)]) (.cons () (.cons () (.cons (.ixt (j:=0) (xs:=[.int (t.1:Int),.int (t.2.1:Int),.int (t.2.2:Int)]) () () rfl) (.cons (.ixt (j:=1) (xs:=[.int (t.1:Int),.int (t.2.1:Int),.int (t.2.2:Int)]) () () rfl) (.cons (.ixt (j:=2) (xs:=[.int (t.1:Int),.int (t.2.1:Int),.int (t.2.2:Int)]) () () rfl) .nil))))) (w n s)) ?_)
 unfold wkB;cases i:fwO tk tk' m rs rs' t with
 |none=>exact .ret (.and (k:=af) (m:=af) () λh=>nomatch h)
 |some us=>
  have f:=p us i;exact .ret (.and (k:=ae) (m:=us.all (stB K)) () λ_=>Y.all (g:=stB K) (Wv (b:=one) (wk:=Y8 af) (fr:=[3]) (en:=trD) (.of (x:=.tup (us.map trD)) () λ_=>rfl) (by have:=f.l;omega) λu y=>.call (xs:=[trD u,.dic q]) () (Jo (n:=n+5) c)))
theorem Wt:∀ {vs ws:Li Tr},(ws.map ky).Nodup->((vs.foldl (λK t=>pt K t.1 t.2.1 t.2.2) ws).map ky).Nodup/\(vs.foldl (λK t=>pt K t.1 t.2.1 t.2.2) ws).length<=ws.length+vs.length
 |[],ws,h=>⟨h,aB _⟩
 |v :: vs,ws,h=>by
  have r:=Wt (vs:=vs) (ws:=pt ws v.1 v.2.1 v.2.2) (Uo h);refine⟨r.1,aJ r.2 ?_⟩;rw[aX];cases z:lk ws v.1 v.2.1 with
  |none=>rw[(Vw (b:=v.2.2) z).1];omega
  |some c=>rw[(XC (b:=v.2.2) z).1];omega
theorem Wu{x0 x1 x2:Ot D}{tl:Env}(f:s.length<=q):∀ {vs ws:Li Tr}{y4 y5 y6:Ot D}{st:Za},(ws.map ky).Nodup->ws.length+vs.length<=1000->Grw s st->st[q]?=aa (ae,ws.map trD)->∃ c b a st',Zi (Xb 4 5 6 (ex F (.z (.dput 3 (.v 4) (.v 5) (.v 6))))) (vs.map trD) (x0 :: x1 :: x2 :: aa (.dic q) :: y4 :: y5 :: y6 :: tl) st=aa (.nx (x0 :: x1 :: x2 :: aa (.dic q) :: c :: b :: a :: tl),st')/\Grw s st'/\st'[q]?=aa (ae,(vs.foldl (λK t=>pt K t.1 t.2.1 t.2.2) ws).map trD)
 |[],ws,y4,y5,y6,st,_,_,g,h=>⟨y4,y5,y6,st,rfl,g,h⟩
 |v :: vs,ws,y4,y5,y6,st,d,m,g,h=>by
  rw[aX]at m;have e:ex F (.dput 3 (.v 4) (.v 5) (.v 6)) (x0 :: x1 :: x2 :: aa (.dic q) :: jN v.1 :: jN v.2.1 :: jN v.2.2 :: tl) st=aa (.nx (x0 :: x1 :: x2 :: aa (.dic q) :: jN v.1 :: jN v.2.1 :: jN v.2.2 :: tl),st.set q (ae,(pt ws v.1 v.2.1 v.2.2).map trD)):=by
   show(match st[q]? with
    |some (ae,xs)=>if xs.length < Zk then aa (Fl.nx _,st.set q (ae,Xr xs (v.1:Int) (v.2.1:Int) (.int (v.2.2:Int)))) else ab
    |_=>ab)=_
   rw[h];show(if (ws.map trD).length < Zk then _ else _)=_
   rw[aq (by rw[aD];unfold Zk;omega),X2 d]
  have k:=Wt (vs:=[v]) d;obtain⟨l,j,i,t,o,g2,n⟩:=Wu f (vs:=vs) (ws:=pt ws v.1 v.2.1 v.2.2) (y4:=jN v.1) (y5:=jN v.2.1) (y6:=jN v.2.2) k.1 (aJ (Nat.add_le_add_right k.2 _) (by show _+1+_<=_;omega)) (ZS g f) (bH (Zw h))
  refine⟨l,j,i,t,?_,g2,n⟩;show(match ex F (.z (.dput 3 (.v 4) (.v 5) (.v 6))) (x0 :: x1 :: x2 :: aa (.dic q) :: jN v.1 :: jN v.2.1 :: jN v.2.2 :: tl) st with
   |some (.nx U',st')=>Zi (Xb 4 5 6 (ex F (.z (.dput 3 (.v 4) (.v 5) (.v 6))))) (vs.map trD) U' st'
   |some (.ct U',st')=>Zi (Xb 4 5 6 (ex F (.z (.dput 3 (.v 4) (.v 5) (.v 6))))) (vs.map trD) U' st'
   |some (.bk U',st')=>aa (.nx U',st')
   |some (.rt v,st')=>aa (.rt v,st')
   |none=>ab)=_
  rw[show ex F (.z (.dput 3 (.v 4) (.v 5) (.v 6))) _ st=_ from(Zc e).trans Zf];exact o
def Y.lenq(h:s[q]?=aa (ae,K.map trD))(b:Y F s a U (.dic q)):Y F s (.len a) U (.int (K.length:Int)):=Dp.g1 (x:=.dic q) b (gs λst' g=>by
 show US (.dic q) st'=_;unfold US Zcg;simp only[g.get h,aD])
def Y.noq(h:s[q]?=aa (ae,K.map trD))(d:Y F s a U (prN (k,j)))(c:Y F s b U (.dic q)):Y F s (.cmp .NotIn a b) U (.bl (!(lk K k j).isSome)):=Dp.g2 (x:=prN (k,j)) (y:=.dic q) d c (gs λst' g=>by
 show(match ((dAt [.int (k:Int),.int (j:Int)] q st').map Option.isSome).map Bool.not with|some k=>aa (D.bl k,st')|none=>ab)=_
 rw[YK (g.get h)];cases lk K k j<;>rfl)
def W9(p:Rs m rs)(h:Rs m rs')(w:m<=60)(y:∀ t∈us,t.2.2 < 2 ^ m)(E:us.length<=900):C (rT (n+9)) s 204 [pgD tk m rs,pgD tk' m rs',.tup (us.map trD)] (.bl (kB tk tk' m rs rs' us)):=.of (v:=YI) rfl rfl λst g=>by
 obtain⟨y4,y5,y6,t,D,g1,e⟩:=Wu (F:=rT (n+8)) (x0:=aa (pgD tk m rs)) (x1:=aa (pgD tk' m rs')) (x2:=aa (.tup (us.map trD))) (tl:=[]) (s:=st) (q:=st.length) (aB _) (vs:=us) (ws:=[]) (y4:=ab) (y5:=ab) (y6:=ab) (st:=st++[(ae,[])]) dH (by show 0+_<=_;omega) .push Zx
 have e:t[st.length]?=aa (ae,(knW us).map trD):=e;have d:(us.map trD).length=us.length:=aD ..;have f:Y (rT (n+8)) t (.or (.cmp .NotEq (.len (.v 3)) (.len (.v 2))) (.cmp .NotIn (.g (.aC (.i 0) (.u (.i 0)))) (.v 3))) [aa (pgD tk m rs),aa (pgD tk' m rs'),aa (.tup (us.map trD)),aa (.dic st.length),y4,y5,y6] (.bl (!(ak ((knW us).length=us.length)&&(lk (knW us) 0 0).isSome))):=by
  rw[Bool.not_and];exact .or (.cmp (x:=.int ((knW us).length:Int)) (.lenq e ()) (.lnT ()) λ_=>by
   show aa (!decide (((knW us).length:Int)=((us.map trD).length:Int)))=_;rw[d,decide_eq_decide.mpr Int.ofNat_inj]) λ_=>.noq e () ()
 have a:R (rT (n+8)) t (.seq (.ite (.or (.cmp .NotEq (.len (.v 3)) (.len (.v 2))) (.cmp .NotIn (.g (.aC (.i 0) (.u (.i 0)))) (.v 3))) (.q (.c (.bl af))) .skip) (.q (.all YZ))) [aa (pgD tk m rs),aa (pgD tk' m rs'),aa (.tup (us.map trD)),aa (.dic st.length),y4,y5,y6] (.bl (kB tk tk' m rs rs' us)):=by
  unfold kB;cases j:(ak ((knW us).length=us.length)&&(lk (knW us) 0 0).isSome) with
  |false=>rw[j]at f;exact .yes f ()
  |true=>
   rw[j]at f;exact .no f (.ret (Y.all (g:=wkB tk tk' m rs rs' (knW us)) (Wv (b:=one) (wk:=Y8 af) (fr:=[3,0,1]) (en:=trD) (.of (x:=.tup (us.map trD)) () λ_=>rfl) ∅ λu o=>.call (xs:=[pgD tk m rs,pgD tk' m rs',trD u,.dic st.length]) () (Jp (n:=n) e p h w (y u o)))))
 obtain⟨k,B,l⟩:=a t .refl;have A:ex (rT (n+8)) (.for4 4 5 6 (.v 2) (.z (.dput 3 (.v 4) (.v 5) (.v 6)))) [aa (pgD tk m rs),aa (pgD tk' m rs'),aa (.tup (us.map trD)),aa (.dic st.length),ab,ab,ab] (st++[(ae,[])])=aa (.nx [aa (pgD tk m rs),aa (pgD tk' m rs'),aa (.tup (us.map trD)),aa (.dic st.length),y4,y5,y6],t):=D;exact⟨k,(Zc (Zn (v:=.dic st.length) (st':=st++[(ae,[])]) rfl)).trans ((Zc A).trans B),g1.trans l⟩
end
noncomputable def S0(a:Li Int):Za:=[(af,a.map D.int)]
noncomputable def ceI(a:Li Int)(k:Nat):Int:=if k < a.length then a.getD k 0 else if a=[] then ((k:Int) * k+3 * k+1) * 16807 % 2147483629 else (a.getLastD 0 % 1000003+2) * ((k:Int) * k+16807) % 2147483629
noncomputable def smL:Li Int:=[-1000000000,-999999999,-1,0,1,999999998,999999999]
def smI(c:Int):Int:=if c % 4=0 then c / 4 % 9 - 4 else if c % 4=1 then smL.getD (c / 4 % 7).toNat 0 else c / 4 * 69621 % 2000000000 - 1000000000
def opI(c:Int)(m:Nat):Op:=if 0 < m/\0 < c % 3 then .nm (c / 3 % m).toNat else .nu (smI (c / 3))
def Ut(a c d b:Int)(m sz:Nat):Rw:=
 if a % 8 < 4/\0 < m then .put (b % m).toNat (opI c m) (psL.getD (a / 8 % 5).toNat (S "")) (opI d m)
 else if a % 8 < 6 then .ifr (opI c m) (isL.getD (a / 8 % 6).toNat (S "")) (opI d m) (b % (sz+1)).toNat
 else if a % 8=6 then .tell (opI c m)
 else if a / 8 % 2=0 then .go (b % (sz+1)).toNat else .skip
section
variable{c c0 c1 c2 c3:Int}{Q:D->Prop}
def ZfJ(g:Grw (S0 ns) s):s[0]?=aa (af,ns.map D.int):=g.get rfl
def Y.lts{i j:Int}(d:Y F s a U (.int i))(c:Y F s b U (.int j)):Y F s (.cmp .Lt a b) U (.bl (ak (i < j))):=.cmp d c λ_=>rfl
def Y.gts{i j:Int}(d:Y F s a U (.int i))(c:Y F s b U (.int j)):Y F s (.cmp .Gt a b) U (.bl (ak (j < i))):=.cmp d c λ_=>rfl
def Y.eqi{i j:Int}(d:Y F s a U (.int i))(c:Y F s b U (.int j)):Y F s (.e a b) U (.bl (ak (i=j))):=.cmp d c λ_=>rfl
def Y.lastL(h:Lv s (ev F a U) xs)(e:xs≠[])(f:xs.length<=100000):Y F s (.ix a (.neg (.i 1))) U (xs.getLastD .non):=λst g=>by
 obtain⟨s1,j,b,l,k,c⟩:=h st g;refine⟨s1,?_,c⟩;show ZH (ev F a) (ev F (.neg (.i 1))) ixR U st=_;unfold ZH;simp only[l];show(match (match s1[j]? with
  |some (_,xs)=>atD xs (-1)
  |none=>ab) with|some d=>aa (d,s1)|none=>ab)=_
 rw[k];show(match atD xs (-1) with|some d=>aa (d,s1)|none=>ab)=_
 rw[Zby e f]
def Jk(l:k<=1000)(u:ns.length<=63):C (rT (n+1)) (S0 ns) 27 [.lst 0,.int (k:Int)] (.int (ceI ns k)):=by
 have h:(S0 ns)[0]?=aa (af,ns.map D.int):=rfl;have f:(ns.map D.int).length=ns.length:=aD ..;have b:ZX (k:Int)=ae:=WR ∅
 have t:(k:Int) * k<=1000000:=by
  have:k * k<=1000 * 1000:=eB l l;omega
 have p:0<=(k:Int) * k:=Int.mul_nonneg ∅ ∅
 unfold ceI;refine .of (v:=Yj) rfl rfl (.pick (k:=ak ((k:Int) < ((ns.map D.int).length:Int))) (.lts () (.lenl h ())) (λq=>?_) λq=>?_)
 .have q:=ao q
  rw[f]at q;rw[aq ∅]
  refine .ret (.ixl (j:=k) h () () ?_);show(ns.map D.int)[k]?=_;rw[bA,aU,Lg ∅];rfl
 .have q:=am q
  rw[f]at q;rw[ar ∅]
  have o:Y (rT n) (S0 ns) (.e (.v 0) (.lstE .aN)) [jL 0,jN k] (.bl (ak (ns=[]))):=λst g=>by
   refine⟨st++[(ae,[])],?_,.push⟩;show(match (o2 (λ(c d:YO)=>Vh c.2 d.2) (st++[(ae,[])])[0]? (st++[(ae,[])])[st.length]?).join with|some k=>aa (D.bl k,st++[(ae,[])])|none=>ab)=_
   rw[ZfJ (g.trans .push),Zx];cases ns with
   |nil=>rfl
   |cons v ns=>rw[aI (eZ _ _)];rfl
  refine .pick o (λz=>?_) λz=>?_
  .rw[aq (ao z)]
   exact .ret (.md (.mul (.add (.add (.mul () () b) (.mul () () b)) ()) () rfl) () #[])
  .have z:=am z
   rw[ar z];have m:Y (rT n) (S0 ns) (.ix (.v 0) (.neg (.i 1))) [jL 0,jN k] (.int (ns.getLastD 0)):=by
    have y:=Y.lastL (F:=rT n) (s:=S0 ns) (a:=.v 0) (U:=[jL 0,jN k]) (xs:=ns.map D.int) (.v h ()) (by cases ns with
     |nil=>exact au rfl z
     |cons v ns=>exact eZ _ _) (by rw[f];omega)
    have e:(ns.map D.int).getLastD .non=.int (ns.getLastD 0):=by
     cases ns with
     |nil=>exact au rfl z
     |cons v ns=>rw[aZ,List.getLastD_cons,List.getLastD_cons,List.getLastD_map]
    rw[e]at y;exact y
   exact .ret (.md (.mul (.add (.md m () #[]) ()) (.add (.mul () () b) ()) (WR ∅)) () #[])
def ZfO:Sm (smI c):=by
 unfold smI;split
 .have h:=Zm (c / 4) (j:=9) #[]
  unfold Sm;omega
 .split
  .have h:=Zm (c / 4) (j:=7) #[]
   have:(c / 4 % 7).toNat < 7:=by omega
   generalize (c / 4 % 7).toNat=i at *
   exact(by unfold Sm smL;decide:∀ i:Nat,i < 7->Sm (smL.getD i 0)) i this
  .have h:=Zm (c / 4 * 69621) (j:=2000000000) #[]
   unfold Sm;omega
def Zbt:C (rT (n+1)) s 20 [.int c] (.int (smI c)):=by
 unfold smI;refine .of (v:=YE) rfl rfl (.pick (.eqi (.md () () #[]) ()) (λq=>?_) λq=>.pick (.eqi (.md () () #[]) ()) (λz=>?_) λz=>?_)
 .rw[aq (ao q)]
  exact .ret (.sub (.md (.fd () () #[]) () #[]) ())
 .rw[ar (am q),aq (ao z)]
  have h:=Zm (c / 4) (j:=7) #[]
  have a:(c / 4 % 7).toNat < smL.length:=by show _ < 7;omega
  refine .ret (.ixL (xs:=smL.map D.int) (j:=(c / 4 % 7).toNat) (.mk ()) (by rw[bY h.1];exact .md (.fd () () #[]) () #[]) ?_)
  rw[bA,aU,Lg a];rfl
 .rw[ar (am q),ar (am z)]
  exact .ret (.sub (.md (.mul (.fd () () #[]) () rfl) () #[]) ())
def Uk:VI m (opI c m):=by
 unfold opI;split
 .rename_i h
  have h:=Zm (c / 3) (j:=(m:Int)) ∅
  show(c / 3 % (m:Int)).toNat < m;omega
 .exact ZfO
def WU(a:m<=1000):C (rT (n+2)) s 28 [.int c,.int (m:Int)] (opE (opI c m)):=by
 unfold opI;refine .of (v:=Yl) rfl rfl (.pick (.and (.gts () ()) λ_=>.gts (.md () () #[]) ()) (λq=>?_) λq=>?_)
 .rw[Ba,aO,aO]at q
  rw[aq ⟨∅,q.2⟩]
  have h:=Zm (c / 3) (j:=(m:Int)) q.1;show R _ _ _ _ (.tup [.str "name",.int ((c / 3 % (m:Int)).toNat:Int)]);rw[bY h.1];exact .ret (.cons () (.cons (.md (.fd () () #[]) () q.1) .nil))
 .rw[Bool.and_eq_false_iff,decide_eq_false_iff_not,decide_eq_false_iff_not]at q
  rw[ar ∅]
  exact .ret (.cons () (.cons (.call1 (.fd () () #[]) Zbt) .nil))
def V7{l:Li Str}{i:Nat}(h:i < l.length):l.getD i (S "")∈l:=by
 rw[aU,Lg h];exact bC h
def ZaZ:RwOk m sz (Ut c0 c1 c2 c3 m sz):=by
 have c:=Zm c3 (j:=(sz:Int)+1) ∅
 unfold Ut;split
 .rename_i h
  have b:=Zm c3 (j:=(m:Int)) ∅
  have a:=Zm (c0 / 8) (j:=5) #[]
  exact⟨∅,Uk,V7 (by show _ < 5;omega),Uk⟩
 .split
  .have a:=Zm (c0 / 8) (j:=6) #[]
   exact⟨Uk,V7 (by show _ < 6;omega),Uk,∅⟩
  .split
   .exact Uk
   .split
    .show(c3 % ((sz:Int)+1)).toNat<=sz;omega
    .trivial
def Y.sgn{l:Li Str}{i:Int}(d:Lv s (ev F a U) (l.map D.str))(c:Y F s b U (.int i))(e:0<=i)(f:i < l.length):Y F s (.ix a b) U (.str (l.getD i.toNat (S ""))):=by
 refine .ixL d (j:=i.toNat) (by rw[bY e];exact c) ?_
 rw[bA,aU,Lg ∅];rfl
def Zc4(a:s[j]?=aa (bb,[.int c0,.int c1,.int c2,.int c3]))(o:m<=1000)(y:sz<=1000):C (rT (n+3)) s 29 [.lst j,.int (m:Int),.int (sz:Int)] (rwE (Ut c0 c1 c2 c3 m sz)):=by
 have l:=Zm c3 (j:=(sz:Int)+1) ∅
 refine .of (v:=Xg) rfl rfl (.set (.call (xs:=[.int c1,.int (m:Int)]) (.cons (.ixl (j:=1) a () () rfl) (.cons () .nil)) (WU (n:=n) o)) (.set (.call (xs:=[.int c2,.int (m:Int)]) (.cons (.ixl (j:=2) a () () rfl) (.cons () .nil)) (WU (n:=n) o)) (.pick (.and (.lts (.md (.ixl (j:=0) a () () rfl) () #[]) ()) λ_=>.gts () ()) (λq=>?_) λq=>.pick (.lts (.md (.ixl (j:=0) a () () rfl) () #[]) ()) (λb=>?_) λb=>.pick (.eqi (.md (.ixl (j:=0) a () () rfl) () #[]) ()) (λe=>?_) λe=>?_)))
 .rw[Ba,aO,aO]at q
  unfold Ut;rw[aq ⟨q.1,∅⟩]
  have w:=Zm c3 (j:=(m:Int)) q.2;have d:=Zm (c0 / 8) (j:=5) #[]
  show R _ _ _ _ (.tup [.str "put",.int ((c3 % (m:Int)).toNat:Int),opE (opI c1 m),.str (psL.getD (c0 / 8 % 5).toNat (S "")),opE (opI c2 m)]);rw[bY w.1];exact .ret (.cons () (.cons (.md (.ixl (j:=3) a () () rfl) () q.2) (.cons () (.cons (.sgn (.mk ()) (.md (.fd (.ixl (j:=0) a () () rfl) () #[]) () #[]) d.1 (by show _ < (5:Int);omega)) (.cons () .nil)))))
 .have q:¬(c0 % 8 < 4/\0 < m):=λh=>by rw[aG h.1,aG (by omega:(0:Int) < (m:Int))]at q;exact nomatch q
  have b:=ao b;unfold Ut;rw[ar q,aq b];have d:=Zm (c0 / 8) (j:=6) #[]
  show R _ _ _ _ (.tup [.str "if",opE (opI c1 m),.str (isL.getD (c0 / 8 % 6).toNat (S "")),opE (opI c2 m),.int ((c3 % ((sz:Int)+1)).toNat:Int)])
  rw[bY l.1];exact .ret (.cons () (.cons () (.cons (.sgn (.mk ()) (.md (.fd (.ixl (j:=0) a () () rfl) () #[]) () #[]) d.1 (by show _ < (6:Int);omega)) (.cons () (.cons (.md (.ixl (j:=3) a () () rfl) (.add () ()) ∅) .nil)))))
 .have q:¬(c0 % 8 < 4/\0 < m):=λh=>by rw[aG h.1,aG (by omega:(0:Int) < (m:Int))]at q;exact nomatch q
  unfold Ut;rw[ar q,ar (am b),aq (ao e)];exact .ret (.cons () (.cons () .nil))
 .have q:¬(c0 % 8 < 4/\0 < m):=λh=>by rw[aG h.1,aG (by omega:(0:Int) < (m:Int))]at q;exact nomatch q
  unfold Ut;rw[ar q,ar (am b),ar (am e)];have d:=Zm (c0 / 8) (j:=2) #[]
  have c:Y (rT (n+2)) s (.m (.k (.x 0 0) (.i 8)) (.i 2)) [jL j,jN m,jN sz,aa (opE (opI c1 m)),aa (opE (opI c2 m))] (.int (c0 / 8 % 2)):=.md (.fd (.ixl (j:=0) a () () rfl) () #[]) () #[]
  have f:Y (rT (n+2)) s (.aC (.g (.aC (.t "go") (.u (.m (.x 0 3) (.p (.v 2) (.i 1)))))) (.u (.g (.u (.t "skip"))))) [jL j,jN m,jN sz,aa (opE (opI c1 m)),aa (opE (opI c2 m))] (.tup [.tup [.str "go",.int (c3 % ((sz:Int)+1))],.tup [.str "skip"]]):=.cons (.cons () (.cons (.md (.ixl (j:=3) a () () rfl) (.add () ()) ∅) .nil)) (.cons () .nil)
  split
  .rename_i z
   rw[z]at c;show R _ _ _ _ (.tup [.str "go",.int ((c3 % ((sz:Int)+1)).toNat:Int)]);rw[bY l.1];exact .ret (.ixL (j:=0) (.mk f) c rfl)
  .rw[show c0 / 8 % 2=1 by omega]at c
   exact .ret (.ixL (j:=1) (.mk f) c rfl)
end
variable{kb:Bool}
section
variable{c w:Int}
def ZeX{v:Int}(b:v < 2 ^ 62)(a:-(2 ^ 62)<=v)(h:Y F s e U (.int v)):Wk F s e U (Y8 ae) ((aj v.toNat).map λ(k:Nat)=>D.int (k:Int)):=.of h λst=>by
 unfold Y8;rw[Zac b a]
def n62{v:Int}(a:0<=v)(h:v<=700):v < 2 ^ 62/\-(2 ^ 62)<=v:=⟨∅,∅⟩
def Qg(a:N<=700)(h:Y F s e U (.int (N:Int))):Wk F s e U (Y8 ae) ((aj N).map λ(k:Nat)=>D.int (k:Int)):=by
 have b:=n62 (v:=(N:Int)) ∅ ∅
 have:=ZeX b.1 b.2 h;rw[bM]at this;exact this
def Y.callL(o:Lv s (ev F a U) xs)(n:∀ st,Grw s st->Y F st b U (.tup ys))(l:ys.length < 1000)(m:∀ st j bb,Grw s st->st[j]?=aa (bb,xs)->C F st f (.lst j :: ys++ds) d):Y F s (.call f (.aC a b) ds) U d:=λst g=>by
 obtain⟨s1,j,u,t,p,h⟩:=o st g;obtain⟨c,r,e⟩:=n s1 (g.trans h) s1 .refl;obtain⟨i,q,k⟩:=m c j u (g.trans (h.trans e)) (e.get p) c .refl;refine⟨i,?_,h.trans (e.trans k)⟩;show Zl (ZH (ev F a) (ev F b) _) (XT (F f) ds) U st=_;unfold Zl ZH;simp only[t,r];show(match (if ys.length < 1000 then aa (D.tup (.lst j :: ys),c) else ab) with|some (x,st1)=>XT (F f) ds x st1|none=>ab)=_
 rw[aq l];exact q
theorem Vo:∀ {l:Li Str},ZU g (l.map D.str)=aa (l.any λi=>ak (i=g))
 |[]=>rfl
 |i :: l=>by
  show(ZU g (l.map D.str)).map _=_;rw[Vo];rfl
def Y.inL{l:Li Str}(h:Y F s a U (.str g))(f:∀ st,Grw s st->Lv st (ev F b U) (l.map D.str)):Y F s (.cmp .In a b) U (.bl (l.any λi=>ak (i=g))):=λst k=>by
 obtain⟨s1,o,d⟩:=h st k;obtain⟨c,j,p,n,m,e⟩:=f s1 (k.trans d) s1 .refl;refine⟨c,?_,d.trans e⟩;show ZH (ev F a) (ev F b) (XL .In) U st=_;unfold ZH;simp only[o,n];show(match (match c[j]? with|some (_,xs)=>ZU g xs|none=>ab) with|some k=>aa (D.bl k,c)|none=>ab)=_
 rw[m];show(match ZU g (l.map D.str) with|some k=>aa (D.bl k,c)|none=>ab)=_
 rw[Vo]
def Y.noL{l:Li Str}(h:Y F s a U (.str g))(f:∀ st,Grw s st->Lv st (ev F b U) (l.map D.str)):Y F s (.cmp .NotIn a b) U (.bl (!l.any λi=>ak (i=g))):=λst k=>by
 obtain⟨s1,o,d⟩:=h st k;obtain⟨c,j,p,n,m,e⟩:=f s1 (k.trans d) s1 .refl;refine⟨c,?_,d.trans e⟩;show ZH (ev F a) (ev F b) (XL .NotIn) U st=_;unfold ZH;simp only[o,n];show(match (match c[j]? with|some (_,xs)=>ZU g xs|none=>ab).map Bool.not with|some k=>aa (D.bl k,c)|none=>ab)=_
 rw[m];show(match (ZU g (l.map D.str)).map Bool.not with|some k=>aa (D.bl k,c)|none=>ab)=_
 rw[Vo];rfl
theorem Qt:∀ {l:Li Int},Yn c (l.map D.int)=aa (l.any λi=>ak (i=c))
 |[]=>rfl
 |i :: l=>by
  show(Yn c (l.map D.int)).map _=_;rw[Qt];rfl
def Y.inI{l:Li Int}(h:Y F s a U (.int c))(g:∀ st,Grw s st->Lv st (ev F b U) (l.map D.int)):Y F s (.cmp .In a b) U (.bl (l.any λi=>ak (i=c))):=λst k=>by
 obtain⟨s1,o,e⟩:=h st k;obtain⟨d,j,p,n,m,f⟩:=g s1 (k.trans e) s1 .refl;refine⟨d,?_,e.trans f⟩;show ZH (ev F a) (ev F b) (XL .In) U st=_;unfold ZH;simp only[o,n];show(match (match d[j]? with|some (_,xs)=>Yn c xs|none=>ab) with|some k=>aa (D.bl k,d)|none=>ab)=_
 rw[m];show(match Yn c (l.map D.int) with|some k=>aa (D.bl k,d)|none=>ab)=_
 rw[Qt]
def RP.iset(h:Y F s e U (.bl kb))(g:Grw s st)(n:kb=ae->Y F s a U d)(f:kb=af->U=Zj U i d)(c:∀ j,Grw st j->RP F q (Zj U i d) j Q):RP F (.seq (.ite e (.z (.set i a)) .skip) q) U st Q:=by
 obtain⟨s1,l,b⟩:=h st g;cases kb with
 |true=>
  obtain⟨m,o,k⟩:=n rfl s1 (g.trans b);exact .pre (Zc ((ZY l).trans ((Zc (Zn o)).trans Zf))) (b.trans k) (c m (b.trans k))
 |false=>
  have c:=c s1 b;rw[<-f rfl]at c;exact .pre (Zc ((Ys l).trans Zf)) b c
def Zf1{t:Za}(h:ev F e U st=aa (d,t))(c:U[i]?=aa (jL j))(b:t[j]?=aa (ae,xs))(a:xs≠[])(f:xs.length<=1000):ex F (.put i (.neg (.i 1)) e) U st=aa (.nx U,t.set j (ae,xs.set (xs.length - 1) d)):=by
 have g:0 < xs.length:=List.length_pos_iff.mpr a;show U0 i (λ_ s=>aa (.int (-1),s)) (ev F e) U st=_
 unfold U0;simp only[h,c];unfold X9;simp only[b];unfold ixN;rw[ar #[],aq ∅,show(-1+(xs.length:Int)).toNat=xs.length - 1 by omega]
def Zcw(r:Rw):∃ h xs,rwE r=.tup (.str h :: xs):=by cases r<;>exact⟨_,_,rfl⟩
def QM(h:∀ (t:Nat) d,xs[t]?=aa d->∃ r,d=rwE r/\RwOk m sz r):∃ rs:Li Rw,xs=rs.map rwE/\∀ r∈rs,RwOk m sz r:=Qy λd b=>by
 obtain⟨t,a⟩:=List.getElem?_of_mem b;exact h t d a
def RP.fillj{I:Nat->Env->Prop}{P:Nat->D->Prop}{v:Int}{i0:Nat}(B:∀ j,Y F s e (Zj U i0 (.lst j)) (.int v))(u:v=(N:Int))(hN:N<=700)(E:∀ j,I j (Zj U i0 (.lst j)))(g:Grw s st)(A:∀ j,s.length<=j->∀ k,k < N->∀ U,I j U->∃ d a,P k d/\I j a/\Ap F s j q (Zj U i (.int (k:Int))) a [d])(x:∀ j xs a st',xs.length=N->(∀ t d,xs[t]?=aa d->P t d)->I j a->st.length<=j->Grw st st'->st'[j]?=aa (ae,xs)->∃ d t,ex F q' a st'=aa (.rt d,t)/\Grw st t/\Q d t):RP F (.y i0 (.lstE .aN) (.seq (.for1 i ae e q) q')) U st Q:=by
 have m:Grw s (st++[(ae,[])]):=g.trans .push;obtain⟨s1,L,c⟩:=B st.length (st++[(ae,[])]) m;obtain⟨xs,a,z,r,f,w⟩:=WF (I:=I st.length) g.len (A st.length g.len) N 0 ∅ _ (E st.length)
 obtain⟨l,K,o,G⟩:=w s1 [] (m.trans c) (c.get Zx) (by show 0+N<=90000;omega)
 have n:Grw st l:=(c.kj.trans o).grw (aB _) .push;obtain⟨d,t,J,H,C⟩:=x st.length xs a l z (λt d h=>by have:=r t d h;rw[cI]at this;exact this) f (aB _) n G
 refine⟨d,t,(Zc (p:=.set i0 (.lstE .aN)) (s':=st++[(ae,[])]) rfl).trans ((Zc ?_).trans J),H,C⟩;have b:=n62 (v:=v) ∅ ∅
 rw[X4 (v:=v) b.1 b.2 L,u,bM,List.range_eq_range'];exact K
def Zc6(m lo:Nat)(st:Za)(a:Nat)(d:D)(st':Za):Prop:=∃ (j:Nat) (rs:Li Rw),d=.lst j/\st.length<=j/\st'[j]?=aa (ae,rs.map rwE)/\(∀ r∈rs,RwOk m rs.length r)/\lo<=rs.length/\rs.length<=a
def Ve(b:s=S0 ns)(d:k<=1000)(c:ns.length<=63)(e:Y (rT (n+1)) s a U (.tup [.lst 0,.int (k:Int)])):Y (rT (n+1)) s (.f 27 a) U (.int (ceI ns k)):=by
 subst b;exact .call e (Jk d c)
def ZdI(K:ns.length<=63)(hm:m<=5)(g:Grw (S0 ns) st):CP (rT (n+5)) 126 [.lst 0,.int (m:Int),.int w] st (λd st'=>Zc6 m 0 st (if w=5\/w=6 then 6 else 12) d st'):=by
 have h6:=Zm (ceI ns 6) (j:=13) #[]
 have h7:=Zm (ceI ns 6 % 13) (j:=7) #[]
 obtain⟨sz,c⟩:∃ t:Nat,(if (ak (w=5)||ak (w=6))=ae then ceI ns 6 % 13 % 7 else ceI ns 6 % 13)=(t:Int):=⟨_,(bY (by split<;>omega)).symm⟩
 have G:sz<=(if w=5\/w=6 then 6 else 12):=by
  by_cases q:w=5\/w=6
  .rw[aq q]
   rw[aq (by rw[bV,aO,aO];exact q)]at c
   omega
  .rw[ar q]
   split at c<;>omega
 have Z:sz<=12:=by split at G<;>omega
 refine .of (v:=YT) rfl rfl (.setY (s:=S0 ns) (.md (Ve (k:=6) (n:=n+3) rfl ∅ K ()) () #[]) g λs1 C=>.iset (s:=S0 ns) (kb:=ak (w=5)||ak (w=6)) (d:=.int (sz:Int)) (.or (.eqi () ()) λ_=>.eqi () ()) (g.trans C) (λq=>?_) (λq=>?_) λs2 E=>?_)
 .rw[aq q]at c
  rw[<-c];exact .md () () #[]
 .rw[q,ar #[]]at c
  rw[<-c];rfl
 refine .fillj (s:=S0 ns) (N:=sz) (i0:=4) (i:=5) (I:=λj U=>∃ y,U=[jL 0,jN m,jI w,jN sz,jL j,y]) (P:=λ_ d=>∃ r,d=rwE r/\RwOk m sz r) (λj=>.r rf) rfl ∅ (λj=>⟨ab,rfl⟩) (g.trans (C.trans E)) (λj hj k hk U M=>?_) λj xs U t hl hP M o O H=>?_
 .obtain⟨y,rfl⟩:=M
  refine⟨_,_,⟨_,rfl,ZaZ⟩,⟨_,rfl⟩,.one (.app rfl (.callL (xs:=[.int (ceI ns (10+4 * k+0)),.int (ceI ns (10+4 * k+1)),.int (ceI ns (10+4 * k+2)),.int (ceI ns (10+4 * k+3))]) (ys:=[.int (m:Int),.int (sz:Int)]) ?_ (λst g=>.r rf) (by show 2 < 1000;decide) λst j bb g hs=>Zc4 (n:=n+1) hs ∅ ∅))⟩
  have lk:ZX (k:Int)=ae:=WR ∅
  exact Wv (b:=one) (wk:=Y8 ae) (fr:=[5,0]) (it:=.i 4) (l:=aj 4) (en:=λ(k:Nat)=>D.int (k:Int)) (g:=λi=>.int (ceI ns (10+4 * k+i))) (Qg (N:=4) #[] ()) #[] λi hi=>by
   have:=cK.mp hi;refine Ve (k:=10+4 * k+i) (n:=n+3) rfl ∅ K (.cons () (.cons ?_ .nil))
   rw[cZ,cZ,fU];exact .add (.add () (.mul () () lk)) ()
 .obtain⟨y,rfl⟩:=M
  obtain⟨rs,rfl,z⟩:=QM hP;rw[aD]at hl;subst hl;have k3:Grw st t:=C.trans (E.trans O);have W:st.length<=j:=aJ (C.trans E).len o;obtain⟨kb,T,L⟩:∃ kb,Y (rT (n+4)) t (.and (.cmp .In (.v 2) (.lstE (.aC (.i 5) (.u (.i 6))))) (.and (.cmp .Gt (.v 3) (.i 0)) (.cmp .NotIn (.ix (.ix (.v 4) (.neg (.i 1))) (.i 0)) (.lstE (.aC (.t "go") (.u (.t "tell"))))))) [jL 0,jN m,jI w,jN rs.length,jL j,y] (.bl kb)/\(kb=ae->rs≠[]):=by
   cases rs with
   |nil=>exact⟨_,.and (.inI (l:=[5,6]) () λ_ _=>.mk ()) λ_=>.and (m:=af) (.gts () ()) λh=>(nomatch h),λh=>by rw[Ba,Ba]at h;exact nomatch h.2.2⟩
   |cons V rs=>
    obtain⟨h,xs,er⟩:=Zcw (rs.getLastD V);have R:=Y.lastL (F:=rT (n+4)) (s:=t) (a:=.v 4) (U:=[jL 0,jN m,jI w,aa (.int (((V :: rs).length:Nat):Int)),jL j,y]) (.v H ()) (eZ _ _) (by rw[aD];omega)
    rw[aZ,List.getLastD_cons,List.getLastD_map,er]at R;exact⟨_,.and (.inI (l:=[5,6]) () λ_ _=>.mk ()) λ_=>.and (.gts () ()) λ_=>.noL (l:=[S "go",S "tell"]) (.ixt (j:=0) R () rfl) λ_ _=>.mk (),λ_=>eZ _ _⟩
  cases kb with
  |false=>
   obtain⟨B,Q,e⟩:=T t .refl;exact⟨_,B,(Zc ((Ys Q).trans Zf)).trans (Zq (Z6 rfl)),O.trans e,j,rs,rfl,W,e.get H,z,aR _,G⟩
  |true=>
   have A:=L rfl;have h0:0 < rs.length:=List.length_pos_iff.mpr A;have hv:=Zm (ceI ns (9+4 * rs.length)) (j:=(rs.length:Int)+1) ∅
   obtain⟨v,ev⟩:∃ v:Nat,ceI ns (9+4 * rs.length) % ((rs.length:Int)+1)=(v:Int):=⟨_,(bY hv.1).symm⟩;rw[ev]at hv;obtain⟨B,Q,e⟩:=T t .refl;have gS:Grw (S0 ns) B:=g.trans (k3.trans e);have lk:ZX (rs.length:Int)=ae:=WR ∅
   have yt:Y (rT (n+4)) (S0 ns) (.g (.aC (.t "go") (.u (.m (.f 27 (.a 0 (.u (.p (.i 9) (.h (.i 4) (.v 3)))))) (.p (.v 3) (.i 1)))))) [jL 0,jN m,jI w,jN rs.length,jL j,y] (rwE (.go v)):=by
    show Y _ _ _ _ (.tup [.str "go",.int (v:Int)]);rw[<-ev];refine .cons () (.cons (.md (Ve (k:=9+4 * rs.length) (n:=n+3) rfl ∅ K (.cons () (.cons ?_ .nil))) (.add () ()) ∅) .nil)
    rw[cZ,fU];exact .add () (.mul () () lk)
   obtain⟨t2,e2,X⟩:=yt B gS;have x:=(e.trans X).get H;have ep:=Zf1 (i:=4) e2 rfl x (λh=>A (List.map_eq_nil_iff.mp h)) (by rw[aD];omega)
   rw[aD,<-List.map_set]at ep;refine⟨_,t2.set j (ae,(rs.set (rs.length - 1) (.go v)).map rwE),(Zc ((ZY Q).trans ((Zc ep).trans Zf))).trans (Zq (Z6 rfl)),ZS (O.trans (e.trans X)) o,j,rs.set (rs.length - 1) (.go v),rfl,W,bH (Zw x),λr J=>?_,aR _,by rw[bL];exact G⟩
   rw[bL];rcases gE J with J|rfl
   .exact z r J
   .show v<=rs.length;omega
end
noncomputable def jmR(a:Li Nat):Rw->Rw
 |.ifr y g z t=>.ifr y g z (a.getD t 0)
 |.go t=>.go (a.getD t 0)
 |r=>r
noncomputable def inN(a:Li Nat):Li D:=a.map λ(p:Nat)=>D.int (p:Int)
section
variable{c:Int}{ps:Li Nat}
def Y.calT(n:Y F s a U x)(m:∀ st,Grw s st->Lv st (ev F b U) xs)(l:∀ st j bb,Grw s st->st[j]?=aa (bb,xs)->C F st f ([x,.lst j]++ds) d):Y F s (.call f (.aC a (.u b)) ds) U d:=λst g=>by
 obtain⟨s1,r,c⟩:=n st g;obtain⟨e,j,t,q,o,h⟩:=m s1 (g.trans c) s1 .refl;obtain⟨i,p,k⟩:=l e j t (g.trans (c.trans h)) o e .refl;refine⟨i,?_,c.trans (h.trans k)⟩;show Zl (ZH (ev F a) (ZH (ev F b) (ev F .aN) _) _) (XT (F f) ds) U st=_;unfold Zl ZH;simp only[r,q];exact p
def Zdh{t:Nat}(h:t < ps.length):(inN ps)[t]?=aa (.int ((ps.getD t 0:Nat):Int)):=by
 unfold inN;rw[bA,aU,Lg h];rfl
def Zbq(a:s[w]?=aa (bb,inN ps))(h:RwOk m sz r)(b:sz < ps.length):C (rT (n+1)) s 123 [rwE r,.lst w] (rwE (jmR ps r)):=by
 cases r with
 |ifr y g z t=>exact .of (v:=ZC) rfl rfl (.yes () (.adT (xs:=[.str "if",opE y,.str g,opE z]) (.tkT (i:=4) (xs:=[.str "if",opE y,.str g,opE z,.int (t:Int)]) () () (show 4<=5 by decide)) (.cons (.ixl (j:=t) a () () (Zdh (by have:=h.2.2.2;omega))) .nil) (by show 4+1<=100000;decide)))
 |go t=>exact .of (v:=ZC) rfl rfl (.no () (.yes () (.cons () (.cons (.ixl (j:=t) a () () (Zdh (by have:t<=sz:=h;omega))) .nil))))
 |put x y g z=>exact .of (v:=ZC) rfl rfl (.no () (.no () (.ret ())))
 |tell y=>exact .of (v:=ZC) rfl rfl (.no () (.no () (.ret ())))
 |skip=>exact .of (v:=ZC) rfl rfl (.no () (.no () (.ret ())))
def Zfy(h:RwOk m sz r)(c:sz < ps.length)(a:∀ p∈ps,p<=sz'):RwOk m sz' (jmR ps r):=by
 have ok:∀ t,t<=sz->ps.getD t 0<=sz':=λt b=>by
  rw[aU,Lg ∅]
  exact a _ (bC _)
 cases r with
 |ifr y g z t=>exact⟨h.1,h.2.1,h.2.2.1,ok t h.2.2.2⟩
 |go t=>exact ok t h
 |put x y g z=>exact h
 |tell y=>exact h
 |skip=>exact h
def Wd(h:RwOk m sz r):∃ c,RwOk m sz c/\∀ n s,C (rT (n+1)) s 124 [rwE r] (rwE c):=by
 cases r with
 |put x y g z=>
  cases j:([S "+",S "*"].any λi=>ak (i=g)) with
  |true=>exact⟨.put x z g y,⟨h.1,h.2.2.2,h.2.2.1,h.2.1⟩,λn s=>.of (v:=Zp) rfl rfl (.yes (by
    have y:=Y.and (F:=rT n) (s:=s) (k:=ae) (a:=.e (.x 0 0) (.t "put")) (U:=[aa (rwE (.put x y g z)),ab]) () λ_=>Y.inL (l:=[S "+",S "*"]) (a:=.x 0 3) (b:=.lstE (.aC (.t "+") (.u (.t "*")))) (g:=g) () λ_ _=>.mk ()
    rw[j]at y;exact y) ())⟩
  |false=>exact⟨.put x y g z,h,λn s=>.of (v:=Zp) rfl rfl (.no (by
    have y:=Y.and (F:=rT n) (s:=s) (k:=ae) (a:=.e (.x 0 0) (.t "put")) (U:=[aa (rwE (.put x y g z)),ab]) () λ_=>Y.inL (l:=[S "+",S "*"]) (a:=.x 0 3) (b:=.lstE (.aC (.t "+") (.u (.t "*")))) (g:=g) () λ_ _=>.mk ()
    rw[j]at y;exact y) (.no () (.ret ())))⟩
 |ifr y g z t=>
  have go:∀ d,d∈isL->(∀ n s,Y (rT n) s (.dget (.dict [(S "<"),(S "<="),(S ">"),(S ">=")] (.aC (.t ">") (.aC (.t ">=") (.aC (.t "<") (.u (.t "<=")))))) (.x 0 2) (.x 0 2)) [aa (rwE (.ifr y g z t)),ab] (.str d))->∃ c,RwOk m sz c/\∀ n s,C (rT (n+1)) s 124 [rwE (.ifr y g z t)] (rwE c):=λd f o=>⟨.ifr z d y t,⟨h.2.2.1,f,h.1,h.2.2.2⟩,λn s=>.of (v:=Zp) rfl rfl (.no (.and (k:=af) (m:=af) () λh=>(nomatch h)) (.yB () (.set (o n s) (.ret ()))))⟩
  have f:g=S "<"\/g=S "<="\/g=S "="\/g=S ">="\/g=S ">"\/g=S "!=":=by
   have:=h.2.1;unfold isL at this;simpa only[aL,dW,or_false] using this
  rcases f with rfl|rfl|rfl|rfl|rfl|rfl
  .exact go (S ">") (by decide +kernel) λn s=>.r rf
  .exact go (S ">=") (by decide +kernel) λn s=>.r rf
  .exact go (S "=") (by decide +kernel) λn s=>.r rf
  .exact go (S "<=") (by decide +kernel) λn s=>.r rf
  .exact go (S "<") (by decide +kernel) λn s=>.r rf
  .exact go (S "!=") (by decide +kernel) λn s=>.r rf
 |go t=>exact⟨.go t,h,λn s=>.of (v:=Zp) rfl rfl (.no (.and (k:=af) (m:=af) () λh=>(nomatch h)) (.no () (.ret ())))⟩
 |tell y=>exact⟨.tell y,h,λn s=>.of (v:=Zp) rfl rfl (.no (.and (k:=af) (m:=af) () λh=>(nomatch h)) (.no () (.ret ())))⟩
 |skip=>exact⟨.skip,h,λn s=>.of (v:=Zp) rfl rfl (.no (.and (k:=af) (m:=af) () λh=>(nomatch h)) (.no () (.ret ())))⟩
def ZdA:(2:Int) < 2 ^ 62/\-(2 ^ 62)<=(2:Int):=n62 #[] #[]
def ZbN{a b:Env}{s1 c:Za}(f:ex F q (Zj U i (.int 0)) st=aa (.nx a,s1))(e:ex F q (Zj a i (.int 1)) s1=aa (.nx b,c)):ex F (.for1 i ae (.i 2) q) U st=aa (.nx b,c):=by
 rw[X4 (v:=2) ZdA.1 ZdA.2 (st1:=st) rfl];show(match ex F q (Zj U i (.int 0)) st with
   |some (.nx U',st')=>Zi (λd U s=>ex F q (Zj U i d) s) [.int 1] U' st'
   |some (.ct U',st')=>Zi (λd U s=>ex F q (Zj U i d) s) [.int 1] U' st'
   |some (.bk U',st')=>aa (.nx U',st')
   |some (.rt v,st')=>aa (.rt v,st')
   |none=>ab)=_
 rw[f];show(match ex F q (Zj a i (.int 1)) s1 with
   |some (.nx U',st')=>Zi (λd U s=>ex F q (Zj U i d) s) [] U' st'
   |some (.ct U',st')=>Zi (λd U s=>ex F q (Zj U i d) s) [] U' st'
   |some (.bk U',st')=>aa (.nx U',st')
   |some (.rt v,st')=>aa (.rt v,st')
   |none=>ab)=_
 rw[e];rfl
def JH(K:s[w]?=aa (bb,rs.map rwE))(M:rs.length=sz)(hz:sz<=12)(z:∀ r∈rs,RwOk m sz r)(E:s.length<=j){cp:Int}(R:0<=cp/\cp < 2){y5 y6:Ot D}:∃ xs o f,xs.length=sz/\(∀ (t:Nat) d,xs[t]?=aa d->∃ r,d=rwE r/\RwOk m (2 * sz) r) /\
  ∀ st a,Grw s st->st[j]?=aa (ae,a)->a.length+sz<=90000->∃ st',ex (rT (n+1)) Z7 [jL w,jI c,jN sz,jL j,jI cp,y5,y6] st=aa (.nx [jL w,jI c,jN sz,jL j,jI cp,o,f],st')/\Kj j st st'/\st'[j]?=aa (ae,a++xs):=by
 obtain⟨xs,U',Q,J,A,y⟩:=WF (F:=rT (n+1)) (s:=s) (i:=5) (q:=YA) (N:=sz) (I:=λU=>∃ o f,U=[jL w,jI c,jN sz,jL j,jI cp,o,f]) (P:=λ_ d=>∃ r,d=rwE r/\RwOk m (2 * sz) r) E (λk hk U A=>by
  obtain⟨o,f,rfl⟩:=A;have B:=Zm ((c % 1000003+1) * ((k:Int) * k+13 * cp+5) % 10007) (j:=2) #[]
  obtain⟨v,ev⟩:∃ v:Nat,(c % 1000003+1) * ((k:Int) * k+13 * cp+5) % 10007 % 2=(v:Int):=⟨_,(bY B.1).symm⟩;rw[ev]at B;have lk:ZX (k:Int)=ae:=WR ∅
  have H:ZX cp=ae:=WR ∅
  have G:ZX (sz:Int)=ae:=WR ∅
  have X:(k:Int) * k<=144:=by
   have:k * k<=12 * 12:=eB ∅ ∅
   omega
  have W:0<=(k:Int) * k:=Int.mul_nonneg ∅ ∅
  have u:k < rs.length:=by omega
  have y:=z rs[k] (bC u);have O:((aj sz).map (λt=>t+v * sz)++[2 * sz]).length=sz+1:=by rw[aH,aD,cY];rfl
  have L:v * sz<=sz:=by
   have:v=0\/v=1:=by omega
   rcases this with rfl|rfl<;>omega
  refine⟨rwE (jmR ((aj sz).map (λt=>t+v * sz)++[2 * sz]) rs[k]),[jL w,jI c,jN sz,jL j,jI cp,jN k,aa (.int ((v * sz:Nat):Int))],⟨_,rfl,Zfy y ∅ λp hp=>?_⟩,⟨_,_,rfl⟩,.seq E (xs:=[]) (.set ?_) (.one (.app rfl (.calT (x:=rwE rs[k]) (xs:=inN ((aj sz).map (λt=>t+v * sz)++[2 * sz])) (.ixl (j:=k) K () () (by show(rs.map rwE)[k]?=_;rw[bA,Lg u];rfl)) (λst g=>?_) λst Z V g h=>Zbq (n:=n) h y ∅)))⟩
  .rcases aY.mp hp with hp|hp
   .obtain⟨t,C,rfl⟩:=aQ.mp hp
    have:=cK.mp C;omega
   .rw[aP.mp hp];exact aB _
  .rw[fU,<-ev]
   exact .mul (.md (.md (.mul (.add (.md () () #[]) ()) (.add (.add (.mul () () lk) (.mul () () H)) ()) (WR ∅)) () #[]) () #[]) () (WR ∅)
  .unfold inN
   rw[cF,bQ];refine .cat (Wv (b:=one) (wk:=Y8 ae) (fr:=[6]) (it:=.v 2) (l:=aj sz) (en:=λ(k:Nat)=>D.int (k:Int)) (g:=(λ(p:Nat)=>D.int (p:Int)) ∘ λt=>t+v * sz) (Qg ∅ ()) (by rw[cY];omega) λt C=>?_) ?_ ?_
   .show Y _ _ _ _ (.int ((t+v * sz:Nat):Int))
    rw[cZ];exact .add () ()
   .show Lv _ _ [.int ((2 * sz:Nat):Int)]
    rw[show((2 * sz:Nat):Int)=2 * (sz:Int) by omega]
    exact .mk (.cons (.mul () () G) .nil)
   .rw[aD,aD,cY]
    show sz+1<=1000000;omega) sz 0 ∅ [jL w,jI c,jN sz,jL j,jI cp,y5,y6] ⟨_,_,rfl⟩
 obtain⟨o,f,rfl⟩:=A;refine⟨xs,o,f,Q,J,λst a g h S=>?_⟩
 obtain⟨st',e,k,T⟩:=y st a g h S;refine⟨st',?_,k,T⟩;refine(Zc ?_).trans Zf;have b:=n62 (v:=(sz:Int)) ∅ ∅
 rw[X4 (v:=(sz:Int)) b.1 b.2 (st1:=st) rfl,bM,List.range_eq_range'];exact e
def QR(C:rs.length=sz)(H:sz<=12)(k:∀ r∈rs,RwOk m sz r)(I:st[w]?=aa (bb,rs.map rwE)):CP (rT (n+2)) 125 [.lst w,.int c] st (λd st'=>Zc6 m 0 st (2 * sz) d st'/\∃ j xs,d=.lst j/\st'[j]?=aa (ae,xs)/\xs.length=2 * sz):=by
 have D:((rs.map rwE).length:Int)=(sz:Int):=by rw[aD,C]
 refine .of (v:=Yk) rfl rfl (.setY (s:=st) (d:=.int (sz:Int)) (by have y:=Y.lenl (F:=rT (n+1)) (a:=.v 0) (U:=[jL w,jI c,ab,ab,ab,ab,ab]) I ();rw[D]at y;exact y) .refl λs1 G=>?_)
 have g:=G.get I;have O:st.length<=s1.length:=G.len;obtain⟨xs,y5,y6,f,B,A⟩:=JH (n:=n) (c:=c) (cp:=0) (s:=s1) (j:=s1.length) (y5:=ab) (y6:=ab) g C H k (aB _) ∅
 obtain⟨ys,L,K,z,x,u⟩:=JH (n:=n) (c:=c) (cp:=1) (s:=s1) (j:=s1.length) (y5:=y5) (y6:=y6) g C H k (aB _) ∅
 obtain⟨M,W,E,R⟩:=A (s1++[(ae,[])]) [] .push Zx (by show 0+sz<=90000;omega)
 obtain⟨p,V,N,Q⟩:=u M _ (E.grw (aB _) .push) R (by rw[eE,f];omega)
 have T:ex (rT (n+1)) (.for1 4 ae (.i 2) Z7) [jL w,jI c,jN sz,jL s1.length,ab,ab,ab] (s1++[(ae,[])])=aa (.nx [jL w,jI c,jN sz,jL s1.length,jI 1,L,K],p):=ZbN W V;have S:Grw s1 p:=(E.trans N).grw (aB _) .push;have l:(xs++ys).length=2 * sz:=by rw[aH,f,z];omega
 obtain⟨b,J,ok⟩:=QM (m:=m) (sz:=2 * sz) (xs:=xs++ys) (λt d h=>by
  by_cases q:t < xs.length
  .rw[bP q]at h;exact B t d h
  .rw[bD ∅]at h;exact x _ d h)
 have e:b.length=2 * sz:=by rw[<-l,J,aD]
 have o:p[s1.length]?=aa (ae,b.map rwE):=by rw[Q,eE,J]
 exact⟨.lst s1.length,p,(Zc (Zn (v:=.lst s1.length) (st':=s1++[(ae,[])]) rfl)).trans ((Zc T).trans (Zq (Z6 rfl))),S,⟨s1.length,b,rfl,O,o,λr P=>by rw[e];exact ok r P,aR _,cR e⟩,s1.length,b.map rwE,rfl,o,by rw[aD];exact e⟩
end
variable{j5 j7:Nat}{hd wy:Int}
variable{os:Li Rw}
section
variable{c:Int}
theorem Wk.lst(b:s[w]?=aa (bb,xs))(h:Y F s e U (.lst w)):Wk F s e U (Y8 af) xs:=λst g=>by
 obtain⟨s1,d,a⟩:=h st g;refine⟨.lst w,s1,λs=>s[w]?=aa (bb,xs),d,a,?_,λst' k=>k.get ((g.trans a).get b)⟩
 show(match s1[w]? with|some c=>aa (c.2,λs=>s[w]?=aa c)|none=>ab)=_
 rw[(g.trans a).get b]
def Ln(s:Za)(f:Za->Res)(xs:Li D):Prop:=∀ st,Grw s st->∃ st' j,f st=aa (.lst j,st')/\st.length<=j/\st'[j]?=aa (ae,xs)/\Grw st st'
def Ln.rev(b:s[w]?=aa (bb,xs))(h:Y F s e U (.lst w)):Ln s (ev F (.rs af e) U) xs.reverse:=λst g=>by
 obtain⟨s1,c,a⟩:=h st g;refine⟨s1++[(ae,xs.reverse)],s1.length,?_,a.len,Zx,a.trans .push⟩;show Zl (ev F e) (rsD af) U st=_;unfold Zl;simp only[c];show(match s1[w]? with|some (_,xs)=>(match rsL af xs with|some ys=>aa (D.lst s1.length,s1++[(ae,ys)])|none=>ab)|none=>ab)=_
 rw[(g.trans a).get b];rfl
def Ln.lo(b:s[w]?=aa (bb,xs))(h:Y F s e U (.lst w)):Ln s (ev F (.listOf e) U) xs:=λst g=>by
 obtain⟨s1,c,a⟩:=h st g;refine⟨s1++[(ae,xs)],s1.length,?_,a.len,Zx,a.trans .push⟩;show Zl (ev F e) Ug U st=_;unfold Zl;simp only[c];show(match s1[w]? with|some (_,xs)=>aa (D.lst s1.length,s1++[(ae,xs)])|none=>ab)=_
 rw[(g.trans a).get b]
def Ln.comp{b:D->Li (Ot D)}{wk:D->Za->Ot (Li D×(Za->Prop))}{en g:α->D}{l:Li α}(n:Wk F s it U wk (l.map en))(m:l.length<=1000)(h:∀ a∈l,Y F s elt (Yd b U fr (en a)) (g a)):Ln s (Xc b wk fr (ev F it) (ev F elt) (ev F (.c (.bl ae))) U) (l.map g):=λst k=>by
 obtain⟨x,s1,ok,r,e,q,j⟩:=n st k;obtain⟨f,p,i⟩:=X1 (s:=s1) (ok:=ok) (fe:=λd=>ev F elt (Yd b U fr d)) (fc:=λd=>ev F (.c (.bl ae)) (Yd b U fr d)) (λ_ _=>rfl) j (λa o=>Gv.mono (h a o) (k.trans e)) s1 .refl
 refine⟨f++[(ae,l.map g)],f.length,?_,(e.trans i).len,Zx,(e.trans i).trans .push⟩;unfold Xc;simp only[r,q,aD,aq m,p]
structure Ow(m:Nat)(ns:List Int)(rs os:List Rw)(j5 j7:Nat)(st:Za):Prop where
 g:Grw (S0 ns) st
 h5:st[j5]?=aa (ae,rs.map rwE)
 h7:st[j7]?=aa (ae,os.map rwE)
 ne:j5≠j7
 lo:1<=j7
 ok:∀ r∈os,RwOk m os.length r
 len:os.length<=12
 le:rs.length<=os.length
def Ow.up{t:Za}(h:Ow m ns rs os j5 j7 st)(g:Grw st t):Ow m ns rs os j5 j7 t:=⟨h.g.trans g,g.get h.h5,g.get h.h7,h.ne,h.lo,h.ok,h.len,h.le⟩
def Ow.new{t:Za}{a:Li Rw}(h:Ow m ns rs os j5 j7 st)(g:Grw st t)(d:st.length<=j)(c:t[j]?=aa (ae,a.map rwE))(ok:∀ r∈a,RwOk m a.length r)(len:a.length<=12)(b:rs.length<=a.length):Ow m ns rs a j5 j t:=
 ⟨h.g.trans g,g.get h.h5,c,by have:=Zw h.h5;omega,by have:=Zw h.h7;omega,ok,len,b⟩
noncomputable abbrev E2(hd:Int)(c m:Nat)(wy:Int)(j5 sz j7:Nat)(b a:Ot D):Env:=[jL 0,jI hd,jN c,jN m,jI wy,jL j5,jN sz,jL j7,b,a,ab,ab]
noncomputable def mrF(m sz:Nat)(r:Rw):Rw:=open Classical in if h:RwOk m sz r then (Wd h).choose else r
def Zdl(h:RwOk m sz r):RwOk m sz (mrF m sz r)/\∀ n s,C (rT (n+1)) s 124 [rwE r] (rwE (mrF m sz r)):=by
 unfold mrF;rw[dif_pos h];exact(Wd h).choose_spec
def Zbf{tk:Nat}{e7:CE}(h:Ow m ns rs os j5 j7 st)(o:Y F st e (E2 hd tk m wy j5 rs.length j7 ab ab) (.bl kb))(p:kb=ae->∀ t,Grw st t->∃ (j:Nat) (c:Za) (a:Li Rw),ev F e7 (E2 hd tk m wy j5 rs.length j7 ab ab) t=aa (.lst j,c)/\t.length<=j/\Grw t c/\c[j]?=aa (ae,a.map rwE)/\(∀ r∈a,RwOk m a.length r)/\a.length<=12/\rs.length<=a.length):∃ (j:Nat) (t:Za) (a:Li Rw),ex F (.ite e (.z (.set 7 e7)) .skip) (E2 hd tk m wy j5 rs.length j7 ab ab) st=aa (.nx (E2 hd tk m wy j5 rs.length j ab ab),t)/\Grw st t/\Ow m ns rs a j5 j t:=by
 obtain⟨d,g,b⟩:=o st .refl;cases kb with
 |false=>exact⟨j7,d,os,(Ys g).trans Zf,b,h.up b⟩
 |true=>
  obtain⟨j,i,a,q,n,f,l,ok,len,k⟩:=p rfl d b;exact⟨j,i,a,(ZY g).trans ((Zc (Zn q)).trans Zf),b.trans f,(h.up b).new f n l ok len k⟩
def ZeY{t:Za}{v y:Nat}(b:U[v]?=aa (jN k))(a:U[y]?=aa (aa d))(f:U[i]?=aa (jL j))(e:t[j]?=aa (ae,xs))(c:k < xs.length):ex F (.put i (.v v) (.v y)) U t=aa (.nx U,t.set j (ae,xs.set k d)):=by
 show U0 i (Z4 v) (Z4 y) U t=_;unfold U0 Z4;simp only[b,a,f];unfold X9;simp only[e];unfold ixN;rw[aq (dU k),bM,aq (Int.ofNat_lt.mpr c)]
theorem Ow.set(h:Ow m ns rs os j5 j7 st)(c:RwOk m os.length r):Ow m ns rs (os.set k r) j5 j7 (st.set j7 (ae,(os.map rwE).set k (rwE r))):=
 ⟨ZS h.g (by show 1<=j7;exact h.lo),by rw[bO (Ne.symm h.ne)];exact h.h5,by rw[bH (Zw h.h7),List.map_set],h.ne,h.lo,λb a=>by
  rw[bL];rcases gE a with q|rfl
  .exact h.ok b q
  .exact c,by rw[bL];exact h.len,by rw[bL];exact h.le⟩
end
inductive TwP(d:D):Prop where
 |mk (tk tk':D) (m:Nat) (rs rs':List Rw) (e:d=.tup [pgD tk m rs,pgD tk' m rs']) (m5:m<=5) (r:Rs m rs) (r':Rs m rs') (l:rs.length<=12) (l':rs'.length<=12)
variable{Q1:D->Za->Prop}{r':Rw}
section
variable{c:Int}
def Y.cutT{c b:D}(e:Y F s a U (.tup (c :: b :: xs))):Y F s (.slice a (.part (.i 1)) (.part (.i 2))) U (.tup [b]):=λst g=>by
 obtain⟨s1,f,d⟩:=e st g;refine⟨s1,?_,d⟩;show Yz (ev F a) (λ_ st=>aa (.int 1,st)) (λ_ st=>aa (.int 2,st)) YM U st=_
 unfold Yz;simp only[f];show Ya (.tup (c :: b :: xs)) (aa 1) (aa 2) s1=_;rw[sl_tup]
 congr 3
def RwOk.mono(h:RwOk m sz r)(a:sz<=k):RwOk m k r:=by
 cases r with
 |put x y g z=>exact h
 |ifr y g z t=>exact⟨h.1,h.2.1,h.2.2.1,aJ h.2.2.2 a⟩
 |go t=>exact aJ (show t<=sz from h) a
 |tell y=>exact h
 |skip=>exact h
noncomputable def tlC:Nat->CS->CS
 |0,q=>q
 |n+1,.seq _ q=>tlC n q
 |_,q=>q
noncomputable def hdC:CS->CS
 |.seq p _=>p
 |q=>q
noncomputable def bdC:CS->CS
 |.ite _ p _=>p
 |q=>q
def YW(g:Grw (S0 ns) st)(c:k<=1000)(b:ns.length<=63)(d:Y (rT (n+1)) st a U (.tup [.lst 0,.int (k:Int)])):Y (rT (n+1)) st (.f 27 a) U (.int (ceI ns k)):=.call d ((Jk c b).mono g)
def Q6{tk:Nat}{f:Rw}(q:RwOk m os.length r)(C:os[k]?=aa f)(B:RwOk m os.length f):∃ r',RwOk m os.length r'/\∀ t,t[j7]?=aa (ae,os.map rwE)->∃ d,ex F (hdC (tlC 2 (bdC (hdC (tlC 10 c__law_two.body))))) (E2 hd tk m wy j5 sz j7 (jN k) (aa (rwE r))) t=aa (.nx (E2 hd tk m wy j5 sz j7 (jN k) (aa (rwE r'))),d)/\Grw t d:=by
 have no:(∀ t,t[j7]?=aa (ae,os.map rwE)->Y F t (.and (.e (.x 9 0) (.t "put")) (.e (.ix (.ix (.v 7) (.v 8)) (.i 0)) (.t "put"))) (E2 hd tk m wy j5 sz j7 (jN k) (aa (rwE r))) (.bl af))->∃ r',RwOk m os.length r'/\∀ t,t[j7]?=aa (ae,os.map rwE)->∃ d,ex F (hdC (tlC 2 (bdC (hdC (tlC 10 c__law_two.body))))) (E2 hd tk m wy j5 sz j7 (jN k) (aa (rwE r))) t=aa (.nx (E2 hd tk m wy j5 sz j7 (jN k) (aa (rwE r'))),d)/\Grw t d:=λA=>⟨r,q,λt a=>by
  obtain⟨c,n,l⟩:=A t a t .refl;exact⟨c,(Ys n).trans Zf,l⟩⟩
 have b:∀ {r},∀ t,t[j7]?=aa (ae,os.map rwE)->Y F t (.ix (.v 7) (.v 8)) (E2 hd tk m wy j5 sz j7 (jN k) (aa (rwE r))) (rwE f):=λ{r} t a=>.ixl (j:=k) a () () (by show(os.map rwE)[k]?=_;rw[bA,C];rfl)
 cases r with
 |put x y g z=>
  cases f with
  |put o G H E=>exact⟨.put o y g z,⟨B.1,q.2⟩,λt a=>by
    have s:Y F t (.and (.e (.x 9 0) (.t "put")) (.e (.ix (.ix (.v 7) (.v 8)) (.i 0)) (.t "put"))) (E2 hd tk m wy j5 sz j7 (jN k) (aa (rwE (.put x y g z)))) (.bl ae):=.and (k:=ae) (m:=ae) () λ_=>.cmp (x:=.str "put") (.ixt (j:=0) (b t a) () rfl) () λ_=>rfl
    obtain⟨c,n,l⟩:=s t .refl;have ys:Y F c (.p (.p (.slice (.v 9) .nop (.part (.i 1))) (.slice (.ix (.v 7) (.v 8)) (.part (.i 1)) (.part (.i 2)))) (.slice (.v 9) (.part (.i 2)) .nop)) (E2 hd tk m wy j5 sz j7 (jN k) (aa (rwE (.put x y g z)))) (rwE (.put o y g z)):=.adT (.adT (.tkT (i:=1) (xs:=[.str "put",.int (x:Int),opE y,.str g,opE z]) () () (show 1<=5 by decide)) (.cutT (b c (l.get a))) (by show 1+1<=100000;decide)) (.dpT (i:=2) (xs:=[.str "put",.int (x:Int),opE y,.str g,opE z]) () () (show 2<=5 by decide)) (by show 2+3<=100000;decide)
    obtain⟨u,D,w⟩:=ys c .refl;exact⟨u,(ZY n).trans ((Zc (Zn D)).trans Zf),l.trans w⟩⟩
  |ifr _ _ _ _=>exact no λt a=>.and (k:=ae) (m:=af) () λ_=>.cmp (x:=.str "if") (.ixt (j:=0) (b t a) () rfl) () λ_=>rfl
  |go _=>exact no λt a=>.and (k:=ae) (m:=af) () λ_=>.cmp (x:=.str "go") (.ixt (j:=0) (b t a) () rfl) () λ_=>rfl
  |tell _=>exact no λt a=>.and (k:=ae) (m:=af) () λ_=>.cmp (x:=.str "tell") (.ixt (j:=0) (b t a) () rfl) () λ_=>rfl
  |skip=>exact no λt a=>.and (k:=ae) (m:=af) () λ_=>.cmp (x:=.str "skip") (.ixt (j:=0) (b t a) () rfl) () λ_=>rfl
 |ifr _ _ _ _=>exact no λt a=>.and (k:=af) (m:=af) () λh=>(nomatch h)
 |go _=>exact no λt a=>.and (k:=af) (m:=af) () λh=>(nomatch h)
 |tell _=>exact no λt a=>.and (k:=af) (m:=af) () λh=>(nomatch h)
 |skip=>exact no λt a=>.and (k:=af) (m:=af) () λh=>(nomatch h)
def ZfV{tk:Nat}(h:Ow m ns rs os j5 j7 st)(hm:m<=5)(C:ns.length<=63):∃ (os':Li Rw) (x8 x9:Ot D) (t:Za),ex (rT (n+5)) (hdC (tlC 10 c__law_two.body)) (E2 hd tk m wy j5 rs.length j7 ab ab) st=aa (.nx (E2 hd tk m wy j5 rs.length j7 x8 x9),t)/\Ow m ns rs os' j5 j7 t:=by
 have I:Y (rT (n+5)) st (.and (.cmp .In (.v 4) (.lstE (.aC (.i 2) (.aC (.i 3) (.aC (.i 4) (.u (.i 6))))))) (.cmp .Gt (.v 6) (.i 0))) (E2 hd tk m wy j5 rs.length j7 ab ab) (.bl (([2,3,4,6]:Li Int).any (λi=>ak (i=wy))&&ak ((0:Int) < (rs.length:Int)))):=.and (.inI (l:=[2,3,4,6]) () λ_ _=>.mk ()) λ_=>.gts () ()
 obtain⟨p,o,B⟩:=I st .refl;cases e:(([2,3,4,6]:Li Int).any (λi=>ak (i=wy))&&ak ((0:Int) < (rs.length:Int))) with
 |false=>rw[e]at o;exact⟨os,ab,ab,p,(Ys o).trans Zf,h.up B⟩
 |true=>
  rw[e]at o;rw[Ba,aO]at e;have x:=h.up B;have w:=h.le;have hv:=Zm (ceI ns 1 / 8) (j:=(rs.length:Int)) e.2;obtain⟨v,ev⟩:∃ v:Nat,(os.length:Int) - 1 - ceI ns 1 / 8 % (rs.length:Int)=(v:Int):=⟨_,(bY ∅).symm⟩
  have K:Y (rT (n+5)) p (.l (.l (.len (.v 7)) (.i 1)) (.m (.k (.f 27 (.a 0 (.u (.i 1)))) (.i 8)) (.v 6))) (E2 hd tk m wy j5 rs.length j7 ab ab) (.int (v:Int)):=by
   rw[<-ev];have z:=Y.lenl (F:=rT (n+5)) (a:=.v 7) (U:=E2 hd tk m wy j5 rs.length j7 ab ab) x.h7 ();rw[aD]at z;exact .sub (.sub z ()) (.md (.fd (YW (k:=1) (n:=n+4) x.g ∅ C ()) () #[]) () e.2)
  obtain⟨A,Z,P⟩:=K p .refl;have H:=x.up P;have J:Y (rT (n+5)) A (.f 29 (.aC Xt (.a 3 (.s 6)))) (E2 hd tk m wy j5 rs.length j7 (jN v) ab) (rwE (Ut (ceI ns (2+0)) (ceI ns (2+1)) (ceI ns (2+2)) (ceI ns (2+3)) m rs.length)):=
   .callL (xs:=[.int (ceI ns (2+0)),.int (ceI ns (2+1)),.int (ceI ns (2+2)),.int (ceI ns (2+3))]) (ys:=[.int (m:Int),.int (rs.length:Int)]) (Wv (b:=one) (wk:=Y8 ae) (fr:=[0]) (it:=.i 4) (l:=aj 4) (en:=λ(k:Nat)=>D.int (k:Int)) (g:=λi=>.int (ceI ns (2+i))) (Qg (N:=4) #[] ()) #[] λi S=>by
    have:=cK.mp S;refine YW (k:=2+i) (n:=n+4) H.g ∅ C (.cons () (.cons ?_ .nil))
    rw[cZ];exact .add () ()) (λst g=>.r rf) (by show 2 < 1000;decide) λst j bb g R=>Zc4 (n:=n+2) R ∅ (by have:=h.len;omega)
  obtain⟨L,X,O⟩:=J A .refl;have G:=H.up O;have c:v < os.length:=by omega
  have T:os[v]?=aa os[v]:=Lg c;obtain⟨r',q,Q⟩:=Q6 (F:=rT (n+5)) (m:=m) (hd:=hd) (wy:=wy) (tk:=tk) (j5:=j5) (j7:=j7) (sz:=rs.length) (RwOk.mono (ZaZ (c0:=ceI ns (2+0)) (c1:=ceI ns (2+1)) (c2:=ceI ns (2+2)) (c3:=ceI ns (2+3)) (m:=m) (sz:=rs.length)) w) T (h.ok _ (bC c));obtain⟨t4,W,M⟩:=Q L G.h7
  have E:=G.up M;have V:=ZeY (F:=rT (n+5)) (i:=7) (v:=8) (y:=9) (U:=E2 hd tk m wy j5 rs.length j7 (jN v) (aa (rwE r'))) (k:=v) (d:=rwE r') rfl rfl rfl E.h7 (by rw[aD];exact c)
  exact⟨os.set v r',_,_,_,(ZY o).trans ((Zc (Zn Z)).trans ((Zc (Zn X)).trans ((Zc W).trans ((Zc V).trans Zf)))),E.set q⟩
end
section
variable{c:Int}
def Y.repT{c:Nat}(e:Y F s a U (.tup [x]))(d:Y F s b U (.int (c:Int)))(h:c<=3):Y F s (.h a b) U (.tup (ag c x)):=g2 e d (gp λst=>by
 show(if (c:Int)<=1000/\-1000<=(c:Int) then aa (D.tup (ag (c:Int).toNat x),st) else ab)=_
 rw[aq ∅,bM])
def ZcY{tk:Nat}{x8 x9:Ot D}(h:Ow m ns rs os j5 j7 st)(y:Rs m rs)(J:ns.length<=63)(C:tk<=3)(z:m<=5):∃ d t,ex (rT (n+5)) (tlC 11 c__law_two.body) (E2 hd tk m wy j5 rs.length j7 x8 x9) st=aa (.rt d,t)/\Grw st t/\TwP d:=by
 have b:Rs m os:=⟨by have:=h.len;omega,h.ok⟩
 have A:=h.len;have K:=h.le;have l:Y (rT (n+5)) st (.g (.aC (.h (.g (.u (.g (.aC (.i 0) (.u (.i 4)))))) (.v 2)) (.a 3 (.u (.tOf (.v 5)))))) (E2 hd tk m wy j5 rs.length j7 x8 x9) (pgD (.tup (ag tk (.tup [.int 0,.int 4]))) m rs):=.cons (.repT () () C) (.cons () (.cons (.tof h.h5 ()) .nil))
 obtain⟨q,G,x⟩:=l st .refl;have E:=h.up x;have j:Y (rT (n+5)) q (.g (.aC (.h (.g (.u (.g (.aC (.neg (.i 9)) (.u (.i 9)))))) (.v 2)) (.a 3 (.u (.tOf (.v 7)))))) [jL 0,jI hd,jN tk,jN m,jI wy,jL j5,jN rs.length,jL j7,x8,x9,aa (pgD (.tup (ag tk (.tup [.int 0,.int 4]))) m rs),ab] (pgD (.tup (ag tk (.tup [.int (-9),.int 9]))) m os):=.cons (.repT () () C) (.cons () (.cons (.tof E.h7 ()) .nil))
 obtain⟨p,F,w⟩:=j q .refl;have L:=E.up w;have H:Y (rT (n+5)) p (.e (.m (.k (.f 27 (.a 0 (.u (.i 1)))) (.i 104)) (.i 2)) (.i 1)) [jL 0,jI hd,jN tk,jN m,jI wy,jL j5,jN rs.length,jL j7,x8,x9,aa (pgD (.tup (ag tk (.tup [.int 0,.int 4]))) m rs),aa (pgD (.tup (ag tk (.tup [.int (-9),.int 9]))) m os)] (.bl (ak (ceI ns 1 / 104 % 2=1))):=.eqi (.md (.fd (YW (k:=1) (n:=n+4) L.g ∅ J ()) () #[]) () #[]) ()
 obtain⟨o,c,I⟩:=H p .refl;have s:Grw st o:=x.trans (w.trans I);cases B:ak (ceI ns 1 / 104 % 2=1) with
 |true=>
  rw[B]at c;exact⟨_,o,(Zc (Zn G)).trans ((Zc (Zn F)).trans (Zq ((ZY c).trans (Zq (Z6 rfl))))),s,_,_,m,os,rs,rfl,z,b,y,A,∅⟩
 |false=>
  rw[B]at c;exact⟨_,o,(Zc (Zn G)).trans ((Zc (Zn F)).trans ((Zc ((Ys c).trans Zf)).trans (Zq (Z6 rfl)))),s,_,_,m,rs,os,rfl,z,y,b,∅,A⟩
def ZcZ{tk:Nat}(h:Ow m ns rs os j5 j7 st)(z:Rs m rs)(G:ns.length<=63)(W:tk<=3)(I:m<=5)(L:wy=5\/wy=6->rs.length<=6):∃ d t,ex (rT (n+5)) (tlC 7 c__law_two.body) (E2 hd tk m wy j5 rs.length j7 ab ab) st=aa (.rt d,t)/\Grw (S0 ns) t/\TwP d:=by
 have hl:=h.len;have S:=h.le;obtain⟨R,ta,oa,ea,ka,H⟩:=Zbf (F:=rT (n+5)) (hd:=hd) (wy:=wy) (tk:=tk) (e7:=Xs) (e:=.or (.e (.v 4) (.i 1)) (.e (.v 4) (.i 4))) h (.or (.eqi () ()) λ_=>.eqi () ()) λ_ t g=>by
  obtain⟨D,j,C,A,p,k⟩:=Ln.comp (F:=rT (n+5)) (s:=t) (U:=E2 hd tk m wy j5 rs.length j7 ab ab) (b:=one) (wk:=Y8 af) (fr:=[]) (it:=.v 5) (elt:=.call 124 (.s 0) []) (l:=rs) (en:=rwE) (g:=λr=>rwE (mrF m rs.length r)) (.lst (g.get h.h5) ()) ∅ (λr o=>.call1 () ((Zdl (z.ok r o)).2 (n+4) _)) t .refl
  exact⟨j,D,rs.map (mrF m rs.length),C,A,k,by rw[p,bQ];rfl,λr o=>by
   rw[aD];obtain⟨O,X,rfl⟩:=aQ.mp o;exact(Zdl (z.ok O X)).1,by rw[aD];omega,by rw[aD];exact aB _⟩
 obtain⟨Q,tb,ob,eb,kb,K⟩:=Zbf (F:=rT (n+5)) (hd:=hd) (wy:=wy) (tk:=tk) (kb:=ak (wy=5)||ak (wy=6)) (e7:=.call 125 (.a 5 (.u (.f 27 (.a 0 (.u (.i 2)))))) []) (e:=.or (.e (.v 4) (.i 5)) (.e (.v 4) (.i 6))) H (.or (.eqi () ()) λ_=>.eqi () ()) λJ t g=>by
  rw[bV,aO,aO]at J;have L:=L J;have Z:Grw (S0 ns) t:=H.g.trans g;have q:Y (rT (n+5)) t (.a 5 (.u (.f 27 (.a 0 (.u (.i 2)))))) (E2 hd tk m wy j5 rs.length R ab ab) (.tup [.lst j5,.int (ceI ns 2)]):=.cons () (.cons (YW (k:=2) (n:=n+4) Z ∅ G ()) .nil)
  obtain⟨D,C,E⟩:=q t .refl;obtain⟨d,N,e2,P,⟨j,w,rfl,A,p,ok,_,len⟩,j',M,ej,y,hx⟩:=QR (n:=n+3) (m:=m) (c:=ceI ns 2) (rs:=rs) (sz:=rs.length) rfl ∅ z.ok ((g.trans E).get H.h5)
  cases ej;rw[p]at y;have:w.length=2 * rs.length:=by
   have e:=av (λx=>(x.map (λc:YO=>c.2.length)).getD 0) y
   simp only[Option.map_some,fA,aD]at e;omega
  exact⟨j,N,w,by show Zl (ev (rT (n+5)) _) (XT (rT (n+5) 125) []) _ t=_;unfold Zl;rw[C];exact e2,aJ E.len A,E.trans P,p,ok,∅,∅⟩
 obtain⟨jc,tc,oc,ec,kc,T⟩:=Zbf (F:=rT (n+5)) (hd:=hd) (wy:=wy) (tk:=tk) (e7:=.rs af (.v 5)) (e:=.e (.v 4) (.i 7)) K (.eqi () ()) λ_ t g=>by
  obtain⟨D,j,C,A,p,k⟩:=Ln.rev (F:=rT (n+5)) (s:=t) (e:=.v 5) (U:=E2 hd tk m wy j5 rs.length Q ab ab) (g.get K.h5) () t .refl;exact⟨j,D,rs.reverse,C,A,k,by rw[p,eM],λr o=>by rw[cV];exact z.ok r (fE.mp o),by rw[cV];omega,by rw[cV];exact aB _⟩
 obtain⟨od,x8,x9,td,ed,B⟩:=ZfV (n:=n) (hd:=hd) (wy:=wy) (tk:=tk) T I G;obtain⟨d,t,e,k,V⟩:=ZcY (n:=n) (hd:=hd) (wy:=wy) (tk:=tk) (x8:=x8) (x9:=x9) B z G W I;exact⟨d,t,(Zc ea).trans ((Zc eb).trans ((Zc ec).trans ((Zc ed).trans e))),B.g.trans k,V⟩
def Ze6(z:ns.length<=63):∃ d t,rT (n+6) 47 [.lst 0] (S0 ns)=aa (d,t)/\Grw (S0 ns) t/\TwP d:=by
 have H:=Zm (ceI ns 0) (j:=4) #[]
 obtain⟨tk,o⟩:∃ t:Nat,ceI ns 0 % 4=(t:Int):=⟨_,(bY H.1).symm⟩;rw[o]at H;have hv2:=Zm (ceI ns 0 / 4) (j:=6 - (tk:Int)) ∅
 obtain⟨m,em⟩:∃ t:Nat,(tk:Int)+ceI ns 0 / 4 % (6 - (tk:Int))=(t:Int):=⟨_,(bY ∅).symm⟩
 have I:m<=5:=by omega
 generalize hw:ceI ns 1 % 8=wy;have Q:Y (rT (n+5)) (S0 ns) (.f 27 (.a 0 (.u (.i 0)))) [jL 0,ab,ab,ab,ab,ab,ab,ab,ab,ab,ab,ab] (.int (ceI ns 0)):=Ve (k:=0) (n:=n+4) rfl ∅ z ()
 obtain⟨s1,e1,k1⟩:=Q _ .refl;have P:Y (rT (n+5)) s1 (.m (.v 1) (.i 4)) [jL 0,jI (ceI ns 0),ab,ab,ab,ab,ab,ab,ab,ab,ab,ab] (.int (tk:Int)):=by rw[<-o];exact .md () () #[]
 obtain⟨T,e2,Z⟩:=P _ .refl;have O:Y (rT (n+5)) T (.p (.v 2) (.m (.k (.v 1) (.i 4)) (.l (.i 6) (.v 2)))) [jL 0,jI (ceI ns 0),jN tk,ab,ab,ab,ab,ab,ab,ab,ab,ab] (.int (m:Int)):=by rw[<-em];exact .add () (.md (.fd () () #[]) (.sub () ()) ∅)
 obtain⟨E,e3,X⟩:=O _ .refl;have L:Grw (S0 ns) E:=k1.trans (Z.trans X);have N:Y (rT (n+5)) E (.m (.f 27 (.a 0 (.u (.i 1)))) (.i 8)) [jL 0,jI (ceI ns 0),jN tk,jN m,ab,ab,ab,ab,ab,ab,ab,ab] (.int wy):=by rw[<-hw];exact .md (YW (k:=1) (n:=n+4) L ∅ z ()) () #[]
 obtain⟨S,e4,W⟩:=N _ .refl;have K:=L.trans W;obtain⟨d5,D,e5,V,j5,rs,rfl,hj5,B,c,_,b⟩:=ZdI (n:=n) (m:=m) (w:=wy) z I K;have g:rs.length<=12:=by split at b<;>omega
 have C:ex (rT (n+5)) (.set 5 (.f 126 (.a 0 (.a 3 (.s 4))))) [jL 0,jI (ceI ns 0),jN tk,jN m,jI wy,ab,ab,ab,ab,ab,ab,ab] S=aa (.nx [jL 0,jI (ceI ns 0),jN tk,jN m,jI wy,jL j5,ab,ab,ab,ab,ab,ab],D):=Zn e5
 have M:Y (rT (n+5)) D (.len (.v 5)) [jL 0,jI (ceI ns 0),jN tk,jN m,jI wy,jL j5,ab,ab,ab,ab,ab,ab] (.int (rs.length:Int)):=by
  have y:=Y.lenl (F:=rT (n+5)) (a:=.v 5) (U:=[jL 0,jI (ceI ns 0),jN tk,jN m,jI wy,jL j5,ab,ab,ab,ab,ab,ab]) B ();rw[aD]at y;exact y
 obtain⟨x,e6,A⟩:=M _ .refl;obtain⟨R,j7,e7,hj7,h7,G⟩:=Ln.lo (F:=rT (n+5)) (s:=x) (e:=.v 5) (U:=[jL 0,jI (ceI ns 0),jN tk,jN m,jI wy,jL j5,jN rs.length,ab,ab,ab,ab,ab]) (A.get B) () x .refl;have J:Grw (S0 ns) x:=K.trans (V.trans A);have h:=A.get B
 have hR:Rs m rs:=⟨∅,c⟩
 obtain⟨d,t,e8,gt,hP⟩:=ZcZ (n:=n) (hd:=ceI ns 0) (wy:=wy) (tk:=tk) (st:=R) (j5:=j5) (j7:=j7) (rs:=rs) (os:=rs) (m:=m) (ns:=ns) ⟨J.trans G,G.get h,h7,by have:=Zw h;omega,by have:=J.len;have:1<=x.length:=this;omega,c,g,aB _⟩ hR z ∅ I (λq=>by rw[aq q]at b;exact b)
 refine⟨d,t,U1 (v:=c__law_two) rfl rfl ((Zc (Zn e1)).trans ((Zc (Zn e2)).trans ((Zc (Zn e3)).trans ((Zc (Zn e4)).trans ((Zc C).trans ((Zc (Zn e6)).trans ((Zc (Zn e7)).trans e8))))))),gt,hP⟩
end
section
variable{b:Nat}{vs:Li Tr}
def ZfS(h:stB K u=ae):Cu K u:=by
 unfold stB at h;cases q:lk K u.1 u.2.1 with
 |none=>rw[q]at h;exact nomatch h
 |some b=>
  rw[q]at h;have h:=ao h;exact⟨b,q,λi a=>by rw[<-h,cD,Ba]at a;exact a.2⟩
def Zfk(h:Cu K u):stB K u=ae:=by
 obtain⟨b,c,a⟩:=h;unfold stB;rw[c];refine aG (dE λi=>?_)
 rw[cD];cases z:b.testBit i with
 |false=>rfl
 |true=>rw[a i z];rfl
theorem UR:∀ {vs ws:Li Tr},∀ x∈vs.foldl (λK t=>pt K t.1 t.2.1 t.2.2) ws,x∈ws\/x∈vs
 |[],ws,x,h=>.inl h
 |v :: vs,ws,x,h=>by
  rcases UR (vs:=vs) x h with h|h
  .rcases WD h with rfl|h
   .exact .inr Ls
   .exact .inl h
  .exact .inr (Lm _ h)
theorem W0:∀ {vs ws:Li Tr},((ws++vs).map ky).Nodup->vs.foldl (λK t=>pt K t.1 t.2.1 t.2.2) ws=ws++vs
 |[],ws,_=>(bF ws).symm
 |v :: vs,ws,h=>by
  have b:lk ws v.1 v.2.1=ab:=by
   cases z:lk ws v.1 v.2.1 with
   |none=>rfl
   |some c=>
    rw[cF,List.nodup_append]at h;exact au rfl (h.2.2 (ky (v.1,v.2.1,c)) (aQ.mpr ⟨_,Zs z,rfl⟩) (ky v) Ls)
  have a:(ws++[v])++vs=ws++v :: vs:=by rw[aM];rfl
  show vs.foldl _ (pt ws v.1 v.2.1 v.2.2)=_;rw[Vv b,W0 (by rw[a];exact h),a]
def Zdi(h:kB tk tk' m rs rs' us=ae)(g:∀ t∈us,t.2.2 < 2 ^ m):Kp tk tk' m rs rs' (knW us):=by
 unfold kB at h;rw[Ba,Ba]at h;have c:∀ x∈knW us,x∈us:=λx d=>(UR x d).resolve_left λz=>nomatch z
 refine⟨?_,λt f=>g t (c t f),λk j b q=>?_⟩
 .obtain⟨b,i⟩:=fY.mp h.1.2
  exact aQ.mpr ⟨_,Zs i,rfl⟩
 .have w:=bT.mp h.2 (k,j,b) (c _ (Zs q))
  unfold wkB at w;cases a:fwO tk tk' m rs rs' (k,j,b) with
  |none=>rw[a]at w;exact nomatch w
  |some vs=>
   rw[a]at w;refine⟨vs,?_,λu e=>ZfS (bT.mp w u e)⟩
   unfold fwO at a;split at a
   .rename_i d
    cases a;exact d.choose_spec
   .exact nomatch a
def ZbO(h:∀ n s,C (rT (n+7)) s 122 [pgD tk m rs,pgD tk' m rs',.int (t.1:Int),.int (t.2.1:Int),.int (t.2.2:Int)] (.tup (us.map trD)))(f:FolT m rs rs' t.1 t.2.1 t.2.2 us):fwO tk tk' m rs rs' t=aa us:=by
 unfold fwO;have a:∃ us,Zbv tk tk' m rs rs' t.1 t.2.1 t.2.2 us:=⟨us,f,h⟩;rw[dif_pos a];have e:=C.eq (a.choose_spec.2 0 []) (h 0 [])
 injection e with e
 rw[Qc e]
theorem Wx:∀ {us:Li Tr}{u v:Tr},(us.map ky).Nodup->u∈us->v∈us->ky u=ky v->u=v
 |x :: us,u,v,h,b,a,e=>by
  have h:(ky x :: us.map ky).Nodup:=h;rw[bS]at h;rcases aL.mp b with rfl|h2<;>rcases aL.mp a with rfl|h3
  .rfl
  .exact(h.1 (aQ.mpr ⟨v,h3,e.symm⟩)).elim
  .exact(h.1 (aQ.mpr ⟨u,h2,e⟩)).elim
  .exact Wx h.2 h2 h3 e
def Cl.wk(h:Cl Lp tk tk' m sz sz' rs rs' us)(a:t∈us):∃ vs,Zbv tk tk' m rs rs' t.1 t.2.1 t.2.2 vs/\∀ u∈vs,Cu us u:=by
 obtain⟨b,c⟩:=ZV (aQ.mpr ⟨t,a,rfl⟩:(t.1,t.2.1)∈us.map ky);have e:=Wx h.nd a (Zs c) rfl;have:=h.cv _ _ _ c;rw[e];exact this
theorem Cl.kB(h:Cl Lp tk tk' m sz sz' rs rs' us):Dp.kB tk tk' m rs rs' us=ae:=by
 have e:knW us=us:=W0 (ws:=[]) h.nd;unfold Dp.kB;rw[e,Ba,Ba,aO];obtain⟨c,d⟩:=ZV h.rt;refine⟨⟨rfl,by rw[d];rfl⟩,bT.mpr λt b=>?_⟩
 obtain⟨vs,f,z⟩:=h.wk b;unfold wkB;rw[ZbO f.2 f.1];exact bT.mpr λu a=>Zfk (z u a)
end
section
variable{q:Nat}{vs:Li Tr}{B:D->Env->Za->Ot (Fl×Za)}
theorem Zai{α:Type}{en:α->D}{l:Li α}{g:α->Bool}{J:Nat->Env->Za->Prop}(c:∀ i U st,J i U st->st[w]?=aa (bb,l.map en))(j:∀ i x,l[i]?=aa x->∀ U st,J i U st->(g x=ae/\∃ b st',B (en x) U st=aa (.nx b,st')/\J (i+1) b st')\/(g x=af/\∃ st',B (en x) U st=aa (.rt (.bl af),st')/\Grw s st')) :
  ∀ M i U st,i+M=l.length->J i U st->((l.drop i).all g=ae/\∃ b st',ZL B w M i U st=aa (.nx b,st')/\J l.length b st')\/((l.drop i).all g=af/\∃ st',ZL B w M i U st=aa (.rt (.bl af),st')/\Grw s st')
 |0,i,U,st,e,h=>by
  have e:i=l.length:=by omega
  subst e;refine .inl ⟨by rw[fN];rfl,U,st,?_,h⟩
  unfold ZL;rw[c _ _ _ h];exact aq (by rw[aD];exact aB _)
 |M+1,i,U,st,e,h=>by
  have m:i < l.length:=by omega
  have f:l[i]?=aa l[i]:=Lg m;have hd:l.drop i=l[i] :: l.drop (i+1):=bU m;have k:(l.map en)[i]?=aa (en l[i]):=by rw[bA,f];rfl
  rw[hd,cA];rcases j i _ f U st h with⟨g1,a,s1,d,o⟩|⟨g1,s1,d,n⟩
  .have eq:ZL B w (M+1) i U st=ZL B w M (i+1) a s1:=by
    conv=>lhs;unfold ZL
    simp only[c _ _ _ h,k,d]
   rw[g1,eJ,eq];exact Zai c j M (i+1) a s1 ∅ o
  .refine .inr ⟨by rw[g1];rfl,s1,?_,n⟩
   conv=>lhs;unfold ZL
   simp only[c _ _ _ h,k,d]
theorem Zah{α:Type}{en:α->D}{g:α->Bool}{I:Env->Prop}:∀ {l:Li α},(∀ x∈l,∀ U,I U->∀ st,Grw s st->(g x=ae/\∃ b st',B (en x) U st=aa (.nx b,st')/\I b/\Grw st st')\/(g x=af/\∃ st',B (en x) U st=aa (.rt (.bl af),st')/\Grw st st'))->
  ∀ U st,I U->Grw s st->(l.all g=ae/\∃ b st',Zi B (l.map en) U st=aa (.nx b,st')/\I b/\Grw st st')\/(l.all g=af/\∃ st',Zi B (l.map en) U st=aa (.rt (.bl af),st')/\Grw st st')
 |[],_,U,st,i,_=>.inl ⟨rfl,U,st,rfl,i,.refl⟩
 |x :: l,h,U,st,i,m=>by
  rw[aZ,Zi,cA];rcases h x Ls U i st m with⟨g1,d,s1,k,p,a⟩|⟨g1,s1,k,a⟩
  .simp only[k]
   rw[g1,eJ];rcases Zah (λz n=>h z (Lm _ n)) d s1 p (m.trans a) with⟨g2,c,e,j,o,f⟩|⟨g2,e,j,f⟩
   .exact .inl ⟨g2,c,e,j,o,a.trans f⟩
   .exact .inr ⟨g2,e,j,a.trans f⟩
  .simp only[k]
   exact .inr ⟨by rw[g1];rfl,s1,rfl,a⟩
def Y.ixq(h:s[q]?=aa (ae,K.map trD))(e:lk K k j=aa c)(i:Y F s a U (.dic q))(f:Y F s b U (prN (k,j))):Y F s (.ix a b) U (.int (c:Int)):=Dp.g2 (x:=.dic q) (y:=prN (k,j)) i f (gs λst g=>by
 show(match ((dAt [.int (k:Int),.int (j:Int)] q st).join) with|some d=>aa (d,st)|none=>ab)=_
 rw[YK (g.get h),e];rfl)
def or_and{b:Nat}:(b ||| c=c)↔(b &&& c=b):=by
 constructor
 .intro h
  refine dE λi=>?_
  have:=av (λx=>x.testBit i) h
  simp only[fD]at this;rw[cD]
  revert this
  cases b.testBit i<;>cases c.testBit i<;>decide
 .intro h
  refine dE λi=>?_
  have:=av (λx=>x.testBit i) h
  simp only[cD]at this;rw[fD]
  revert this
  cases b.testBit i<;>cases c.testBit i<;>decide
end
variable{N:Nat}
section
variable{q A:Nat}{vs:Li Tr}{r:CS}
def Y.shl(a:Y F s b U (.int (m:Int)))(c:m<=60):Y F s (.bin .LShift (.i 1) b) U (.int ((2 ^ m:Nat):Int)):=.bi () a (by
 show(if 0<=(m:Int)/\(m:Int)<=1000/\ZX 1=ae then aa ((1:Int) * 2 ^ (m:Int).toNat) else ab)=_
 rw[aq ⟨∅,∅,rfl⟩,bM,Int.one_mul,Int.natCast_pow];rfl)
theorem RL.ret(h:Lv s (ev F e U) xs):RL F s (.seq (.ret e) p) U xs:=λst g=>by
 obtain⟨s1,j,b,d,c,a⟩:=h st g;exact⟨s1,j,b,Zq (Z6 d),c,a⟩
def RL.set{i:Nat}(h:Y F s e U d)(k:RL F s p (Zj U i d) xs):RL F s (.y i e p) U xs:=λst g=>by
 obtain⟨s1,n,a⟩:=h st g;obtain⟨c,j,b,m,l,f⟩:=k s1 (g.trans a);exact⟨c,j,b,(Zc (Zn n)).trans m,l,a.trans f⟩
def RL.no(h:Y F s e U (.bl af))(f:RL F s p U xs):RL F s (.seq (.ite e r .skip) p) U xs:=λst g=>by
 obtain⟨s1,l,a⟩:=h st g;obtain⟨c,j,b,k,i,d⟩:=f s1 (g.trans a);exact⟨c,j,b,(Zc ((Ys l).trans Zf)).trans k,i,a.trans d⟩
def RL.yes(h:Y F s e U (.bl ae))(f:RL F s r U xs):RL F s (.seq (.ite e r .skip) p) U xs:=λst g=>by
 obtain⟨s1,l,a⟩:=h st g;obtain⟨c,j,b,k,i,d⟩:=f s1 (g.trans a);exact⟨c,j,b,Zq ((ZY l).trans k),i,a.trans d⟩
def RL.pick{a:Bool}{P:Li Tr->Prop}(h:Y F s e U (.bl a))(d:a=ae->∃ us,P us/\RL F s r U (us.map trD))(c:a=af->∃ us,P us/\RL F s p U (us.map trD)):∃ us,P us/\RL F s (.seq (.ite e r .skip) p) U (us.map trD):=by
 cases a with
 |true=>obtain⟨us,b,z⟩:=d rfl;exact⟨us,b,.yes h z⟩
 |false=>obtain⟨us,b,z⟩:=c rfl;exact⟨us,b,.no h z⟩
def Y.mdN(d:Y F s a U (.int (N:Int)))(c:Y F s b U (.int (M:Int)))(h:0 < M):Y F s (.m a b) U (.int ((N % M:Nat):Int)):=by
 rw[Int.natCast_emod];exact .md d c ∅
def Y.fdN(d:Y F s a U (.int (N:Int)))(c:Y F s b U (.int (M:Int)))(h:0 < M/\M < 1073741824):Y F s (.k a b) U (.int ((N / M:Nat):Int)):=by
 rw[Int.natCast_ediv];exact .fd d c ∅
def Y.adN(d:Y F s a U (.int (N:Int)))(c:Y F s b U (.int (M:Int))):Y F s (.p a b) U (.int ((N+M:Nat):Int)):=by
 rw[cZ];exact .add d c
end
def bJ:CS:=hdC (tlC 3 (match hdC (tlC 2 c__law_closed.body) with|.whl _ b=>b|q=>q))
def bK:CS:=match bJ with|.for4 _ _ _ _ b=>b|q=>q
noncomputable def cX:CE:=.cmp .NotEq (.v 4) (.lstE .aN)
def bX:CS:=match hdC (tlC 2 c__law_closed.body) with|.whl _ b=>b|q=>q
variable{S:D}{x10 x11:Ot D}{Lp:Tr->Prop}{NK:Prop}
section
variable{b q:Nat}{p:Tr}
def Ek(A B S:D)(q w:Nat)(x5 x6 x7 x8 x9 x10 x11:Ot D):Env:=[aa A,aa B,aa S,aa (.dic q),jL w,x5,x6,x7,x8,x9,x10,x11]
theorem Zdv:∀ {ts:Li Tr},pt (pt ts k j b) k j c=pt ts k j c
 |[]=>by show(if k=k/\j=j then _ else _)=_;rw[aq ⟨rfl,rfl⟩];rfl
 |t :: ts=>by
  have e:∀ {x:Nat},pt (t :: ts) k j x=if t.1=k/\t.2.1=j then (k,j,x) :: ts else t :: pt ts k j x:=rfl
  by_cases h:t.1=k/\t.2.1=j
  .rw[e,e,aq h,aq h]
   show(if k=k/\j=j then _ else _)=_
   rw[aq ⟨rfl,rfl⟩]
  .rw[e,e,ar h,ar h]
   show(if t.1=k/\t.2.1=j then _ else _)=_
   rw[ar h,Zdv]
def ZeV(h:lk ts k j=aa c):(pt ts k j b).length=ts.length:=(XC h).1
def Qh(g:U[8]?=aa (jN k))(f:U[9]?=aa (jN j))(a:U[3]?=aa (aa (.dic q)))(c:ev F e U st=aa (.int (b:Int),st))(d:st[q]?=aa (ae,ts.map trD))(nd:(ts.map ky).Nodup)(h:ts.length<=400):ex F (.dput 3 (.v 8) (.v 9) e) U st=aa (.nx U,st.set q (ae,(pt ts k j b).map trD)):=by
 show V4 3 (Z4 8) (Z4 9) (ev F e) U st=_;unfold V4 Z4;simp only[g,f,a,c];rw[d];show(if (ts.map trD).length < Zk then _ else _)=_
 rw[aq (by rw[aD];unfold Zk;omega),X2 nd]
abbrev Et(A B S:D)(q w:Nat)(x5 x6 x7:Ot D)(u:Tr)(x11:Ot D):Env:=Ek A B S q w x5 x6 x7 (jN u.1) (jN u.2.1) (jN u.2.2) x11
def VY(nd:(ts.map ky).Nodup)(Q:ts.length<=400)(hh:ah.length<=19000)(ne:q≠w)(X:st[q]?=aa (ae,ts.map trD))(hb:st[w]?=aa (ae,ah.map prN))(N:s.length<=q)(sw:s.length<=w)(g:Grw s st) :
  ∃ E st',ex F bK (Et A B S q w x5 x6 x7 u x11) st=aa (.nx (Et A B S q w x5 x6 x7 u E),st')/\Grw s st'/\st'[q]?=aa (ae,(s1 (ts,ah) u).1.map trD)/\st'[w]?=aa (ae,(s1 (ts,ah) u).2.map prN):=by
 have y1:=Y.dg (F:=F) (s:=st) (a:=.v 3) (kk:=.g (.a 8 (.s 9))) (e:=.c .non) (U:=Et A B S q w x5 x6 x7 u x11) (k:=u.1) (j:=u.2.1) (d:=.non) X () () ();obtain⟨o,n,P⟩:=y1 st .refl;have m:=P.get X;have I:=P.get hb;have g1:=g.trans P
 -- the end of a turn that changes the paper
 have app:∀ {x:Ot D}{t:Za},t[w]?=aa (ae,ah.map prN)->Grw s t->∃ K,ex F (.app 4 (.g (.a 8 (.s 9)))) (Et A B S q w x5 x6 x7 u x) t=aa (.nx (Et A B S q w x5 x6 x7 u x),K)/\Grw s K/\(∀ i,i < t.length->i≠w->K[i]?=t[i]?)/\K[w]?=aa (ae,(ah++[(u.1,u.2.1)]).map prN):=λ{x t} hw gt=>by
  obtain⟨M,p,W,V⟩:=Ap.app (F:=F) (s:=t) (j:=w) (i:=4) (e:=.g (.a 8 (.s 9))) (U:=Et A B S q w x5 x6 x7 u x) (d:=prN (u.1,u.2.1)) rfl () t (ah.map prN) .refl hw (by rw[aD];show _+1<=90000;omega)
  exact⟨M,p,W.grw sw gt,λi hi hn=>W.old i hi hn,by rw[V,cF];rfl⟩
 unfold s1;dsimp only;cases R:lk ts u.1 u.2.1 with
 |none=>
  rw[R]at n;have C:=Qh (F:=F) (st:=o) (ts:=ts) (q:=q) (e:=.v 10) (U:=Et A B S q w x5 x6 x7 u (aa .non)) (k:=u.1) (j:=u.2.1) (b:=u.2.2) rfl rfl rfl rfl m nd Q;have L:q < o.length:=Zw m;obtain⟨M,p,g4,o4,V⟩:=app (x:=aa .non) (t:=o.set q (ae,(pt ts u.1 u.2.1 u.2.2).map trD)) (by rw[bO ne];exact I) (ZS g1 N)
  rw[ar (λz=>nomatch z)]
  refine⟨_,M,(Zc (Zn n)).trans ((Zc ((ZY (e:=.or (.cmp .Is (.v 11) (.c .non)) _) rfl).trans ((Zc C).trans ((Zc ((Ys rfl).trans Zf)).trans ((Zc p).trans Zf))))).trans Zf),g4,?_,V⟩;rw[o4 q (by rw[bL];exact L) ne,bH L]
  show aa (ae,(pt ts u.1 u.2.1 u.2.2).map trD)=aa (ae,(pt ts u.1 u.2.1 (u.2.2 &&& u.2.2)).map trD);rw[Nat.and_self]
 |some c=>
  rw[R]at n;have n:ev F (.dgN (.v 3) (.g (.a 8 (.s 9))) (.c .non)) (Et A B S q w x5 x6 x7 u x11) st=aa (.int (c:Int),o):=n;have Z:Y F o (.or (.cmp .Is (.v 11) (.c .non)) (.cmp .NotEq (.bin .BitAnd (.v 11) (.v 10)) (.v 11))) (Et A B S q w x5 x6 x7 u (jN c)) (.bl (af||!decide (c &&& u.2.2=c))):=.or () λ_=>.cmp (x:=.int ((c &&& u.2.2:Nat):Int)) (y:=.int (c:Int)) (.band () ()) () λ_=>by
   show aa (!decide (((c &&& u.2.2:Nat):Int)=(c:Int)))=_;rw[decide_eq_decide.mpr Int.ofNat_inj]
  obtain⟨f,C,O⟩:=Z o .refl;have l:=O.get m;have H:=O.get I;have g2:=g1.trans O;by_cases h:c &&& u.2.2=c
  .rw[aG h]at C
   rw[aq (by show aa c=aa (u.2.2 &&& c);rw[Nat.and_comm,h])]
   exact⟨_,f,(Zc (Zn n)).trans ((Zc ((Ys C).trans Zf)).trans Zf),g2,l,H⟩
  .rw[aI h]at C
   rw[ar (by show ¬aa c=aa (u.2.2 &&& c);rw[Nat.and_comm];exact λz=>h (aw z).symm)]
   have L:q < f.length:=Zw l;have l1:=ZeV (b:=u.2.2) R;have e3:=Qh (F:=F) (st:=f) (ts:=ts) (q:=q) (e:=.v 10) (U:=Et A B S q w x5 x6 x7 u (jN c)) (k:=u.1) (j:=u.2.1) (b:=u.2.2) rfl rfl rfl rfl l nd Q;have J:(f.set q (ae,(pt ts u.1 u.2.1 u.2.2).map trD))[q]?=aa (ae,(pt ts u.1 u.2.1 u.2.2).map trD):=bH L;have T:(f.set q (ae,(pt ts u.1 u.2.1 u.2.2).map trD))[w]?=aa (ae,ah.map prN):=by rw[bO ne];exact H
   have g3:Grw s (f.set q (ae,(pt ts u.1 u.2.1 u.2.2).map trD)):=ZS g2 N;generalize f.set q (ae,(pt ts u.1 u.2.1 u.2.2).map trD)=t3 at *
   have p:=Qh (F:=F) (st:=t3) (ts:=pt ts u.1 u.2.1 u.2.2) (q:=q) (e:=.bin .BitAnd (.v 10) (.v 11)) (U:=Et A B S q w x5 x6 x7 u (jN c)) (k:=u.1) (j:=u.2.1) (b:=u.2.2 &&& c) rfl rfl rfl (by
    show VO .BitAnd (.int (u.2.2:Int)) (.int (c:Int)) t3=_;unfold VO;have e:QU .BitAnd (u.2.2:Int) (c:Int)=aa ((u.2.2 &&& c:Nat):Int):=by
     show(if 0<=(u.2.2:Int)/\0<=(c:Int) then aa (((u.2.2:Int).toNat &&& (c:Int).toNat:Nat):Int) else if 0<=(u.2.2:Int)/\(c:Int) < 0 then aa ((u.2.2:Int) - (((u.2.2:Int).toNat &&& (-(c:Int) - 1).toNat:Nat):Int)) else ab)=_
     rw[aq ⟨dU _,dU _⟩,bM,bM]
    simp only[e]) J (Uo nd) (by rw[l1];exact Q)
   rw[Zdv]at p;have G:q < t3.length:=Zw J;obtain⟨t5,e5,g5,o5,h5⟩:=app (x:=jN c) (t:=t3.set q (ae,(pt ts u.1 u.2.1 (u.2.2 &&& c)).map trD)) (by rw[bO ne];exact T) (ZS g3 N)
   refine⟨_,t5,(Zc (Zn n)).trans ((Zc ((ZY C).trans ((Zc e3).trans ((Zc ((ZY (e:=.cmp .IsNot (.v 11) (.c .non)) rfl).trans ((Zc p).trans Zf))).trans ((Zc e5).trans Zf))))).trans Zf),g5,?_,h5⟩;rw[o5 q (by rw[bL];exact G) ne,bH G]
   rfl
end
section
variable{b q:Nat}{p:Tr}
theorem XU(a:∀ k j b c,Lp (k,j,b)->Lp (k,j,c)->Lp (k,j,b &&& c))(J:(sz+1) * (sz'+1)<=400)(L:M<=19000)(ne:q≠w)(x:s.length<=q)(t:s.length<=w):∀ (us dn ts:Li Tr) (ah:Li (Nat×Nat)) (st:Za) (x8 x9 x10 x11:Ot D),(∀ u∈us,(u.1<=sz/\u.2.1<=sz'/\u.2.2 < 2 ^ m)/\Lp u)->In Lp tk tk' m sz sz' rs rs' p M ts ah dn->st[q]?=aa (ae,ts.map trD)->st[w]?=aa (ae,ah.map prN)->Grw s st->
  ∃ n l e d st',Zi (Xb 8 9 10 (ex F bK)) (us.map trD) (Ek A B S q w x5 x6 x7 x8 x9 x10 x11) st=aa (.nx (Ek A B S q w x5 x6 x7 n l e d),st')/\Grw s st'/\st'[q]?=aa (ae,(us.foldl s1 (ts,ah)).1.map trD)/\st'[w]?=aa (ae,(us.foldl s1 (ts,ah)).2.map prN)
 |[],dn,ts,ah,st,x8,x9,x10,x11,_,_,r,o,g=>⟨x8,x9,x10,x11,st,rfl,g,r,o⟩
 |u :: us,dn,ts,ah,st,x8,x9,x10,x11,y,f,r,o,g=>by
  have U:=Xn f.nd f.bd;have I:=f.mu;unfold mu at I;obtain⟨E,H,O,g1,T,Q⟩:=VY (F:=F) (A:=A) (B:=B) (S:=S) (x5:=x5) (x6:=x6) (x7:=x7) (u:=u) (x11:=x11) f.nd ∅ ∅ ne r o x t g
  obtain⟨C,z,i,h,G,N,g2,R,P⟩:=XU a J L ne x t us (dn++[u]) _ _ H (jN u.1) (jN u.2.1) (jN u.2.2) E (λv K=>y v (Lm _ K)) (f.step a (y u Ls)) T Q g1
  refine⟨C,z,i,h,G,?_,g2,R,P⟩;show(match ex F bK (Et A B S q w x5 x6 x7 u x11) st with
   |some (.nx U',st')=>Zi (Xb 8 9 10 (ex F bK)) (us.map trD) U' st'
   |some (.ct U',st')=>Zi (Xb 8 9 10 (ex F bK)) (us.map trD) U' st'
   |some (.bk U',st')=>aa (.nx U',st')
   |some (.rt v,st')=>aa (.rt v,st')
   |none=>ab)=_
  rw[O];exact N
def wlc(R:∀ k j b c,Lp (k,j,b)->Lp (k,j,c)->Lp (k,j,b &&& c))(hgo:∀ k j c,c < 2 ^ m->Lp (k,j,c)->∃ d,(∀ n s,C (rT (n+7)) s 122 [pgD tk m rs,pgD tk' m rs',.int (k:Int),.int (j:Int),.int (c:Int)] d)/\((d=.non/\NK)\/∃ us,d=.tup (us.map trD)/\FolT m rs rs' k j c us/\∀ u∈us,Lp u))(hz:(sz+1) * (sz'+1)<=400)(h1:rs.length=sz)(h2:rs'.length=sz'):∀ (M:Nat) (ts:Li Tr) (ah:Li (Nat×Nat)),M<=19000->Ou Lp tk tk' m sz sz' rs rs' M ts ah->∃ r:Ot (Li Tr),(∀ E,r=aa E->Cl Lp tk tk' m sz sz' rs rs' E)/\(r=ab->NK)/\∀ (n l:Nat),M < l->∀ (s st:Za) (q w:Nat) (x5 x6 x7 x8 x9 x10 x11:Ot D),q≠w->s.length<=q->s.length<=w->st[q]?=aa (ae,ts.map trD)->st[w]?=aa (ae,ah.map prN)->Grw s st->
  ∃ st',Grw s st'/\match r with
   |none=>ZW (ev (rT (n+7)) cX) (ex (rT (n+7)) bX) l (Ek (pgD tk m rs) (pgD tk' m rs') S q w x5 x6 x7 x8 x9 x10 x11) st=aa (.rt .non,st')
   |some E=>(∃ y5 y6 y7 X W I H,ZW (ev (rT (n+7)) cX) (ex (rT (n+7)) bX) l (Ek (pgD tk m rs) (pgD tk' m rs') S q w x5 x6 x7 x8 x9 x10 x11) st=aa (.nx (Ek (pgD tk m rs) (pgD tk' m rs') S q w y5 y6 y7 X W I H),st'))/\st'[q]?=aa (ae,E.map trD):=λM=>by
 induction M using Nat.strongRecOn with
 |_ M ih=>
  intro ts ah hM h
  -- what is waiting told
  have P:∀ {F:Nat->Fn}{U:Env}{w:Nat}{st:Za},U[4]?=aa (jL w)->st[w]?=aa (ae,ah.map prN)->ev F cX U st=aa (.bl (!ah.isEmpty),st++[(ae,[])]):=λ{F U w st} h4 L=>by
   show ZH (Z4 4) (ev F (.lstE .aN)) (XL .NotEq) U st=_;unfold ZH Z4;simp only[h4];show XL .NotEq (.lst w) (.lst st.length) (st++[(ae,[])])=_;unfold XL;have e:Q0 .NotEq (.lst w) (.lst st.length) (st++[(ae,[])])=aa (!ah.isEmpty):=by
    show((o2 (λ(c d:YO)=>Vh c.2 d.2) (st++[(ae,([]:Li D))])[w]? (st++[(ae,([]:Li D))])[st.length]?).join).map not=_
    rw[Grw.push.get L,Zx];show(Vh (ah.map prN) []).map not=_;unfold Vh;rw[aq (by show((ah.map prN).isEmpty||true)=ae;rw[Bool.or_true])]
    show aa (!((ah.map prN).isEmpty&&ae))=_;rw[dR];cases ah<;>rfl
   simp only[e]
  cases ah with
  |nil=>
   refine⟨aa ts,λE e=>by cases e;exact⟨h.nd,h.bd,h.rt,λk j b q=>(h.cv k j b q).resolve_left λz=>(nomatch z),h.lo⟩,λe=>(nomatch e),λn l hf s st q w x5 x6 x7 x8 x9 x10 x11 ne T Q V L g=>?_⟩
   obtain⟨f,rfl⟩:∃ f,l=f+1:=⟨l - 1,∅⟩
   refine⟨st++[(ae,[])],g.trans .push,⟨x5,x6,x7,x8,x9,x10,x11,?_⟩,Grw.push.get V⟩;show Z3 (ev _ cX) _ _ _ st=_;unfold Z3;rw[P (F:=rT (n+7)) (U:=Ek (pgD tk m rs) (pgD tk' m rs') S q w x5 x6 x7 x8 x9 x10 x11) rfl L];rfl
  |cons p G=>
   have Z:=h.mu;obtain⟨M,rfl⟩:∃ N,M=N+1:=⟨M - 1,by
    have hm:=h.mu;unfold mu at hm;rw[aX]at hm;omega⟩
   replace ih:=ih M (eP M);obtain⟨c,K⟩:=ZV (h.ai p Ls);have hcb:=(h.bd _ (Zs K)).2.2;obtain⟨d,hd,hP⟩:=hgo p.1 p.2 c hcb (h.lo _ (Zs K))
   -- a turn up to the triples
   have turn:∀ (n:Nat) (s st:Za) (q w:Nat) (x5 x6 x7 x8 x9 x10 x11:Ot D),q≠w->s.length<=q->s.length<=w->st[q]?=aa (ae,ts.map trD)->st[w]?=aa (ae,(p :: G).map prN)->Grw s st->∃ o J,ev (rT (n+7)) cX (Ek (pgD tk m rs) (pgD tk' m rs') S q w x5 x6 x7 x8 x9 x10 x11) st=aa (.bl ae,o)/\Grw s J/\J[q]?=aa (ae,ts.map trD)/\J[w]?=aa (ae,G.map prN)/\ex (rT (n+7)) bX (Ek (pgD tk m rs) (pgD tk' m rs') S q w x5 x6 x7 x8 x9 x10 x11) o=ex (rT (n+7)) (tlC 2 bX) (Ek (pgD tk m rs) (pgD tk' m rs') S q w (jN p.1) (jN p.2) (aa d) x8 x9 x10 x11) J:=λn s st q w x5 x6 x7 x8 x9 x10 x11 ne T Q V L g=>by
    have e0:=P (F:=rT (n+7)) (U:=Ek (pgD tk m rs) (pgD tk' m rs') S q w x5 x6 x7 x8 x9 x10 x11) rfl L;have b0:(st++[(ae,([]:Li D))])[w]?=aa (ae,(p :: G).map prN):=Grw.push.get L;have a0':(st++[(ae,([]:Li D))])[q]?=aa (ae,ts.map trD):=Grw.push.get V;have g0:Grw s (st++[(ae,([]:Li D))]):=g.trans .push;generalize st++[(ae,([]:Li D))]=o at *
    have hw:w < o.length:=Zw b0;have e1:ex (rT (n+7)) (hdC bX) (Ek (pgD tk m rs) (pgD tk' m rs') S q w x5 x6 x7 x8 x9 x10 x11) o=aa (.nx (Ek (pgD tk m rs) (pgD tk' m rs') S q w (jN p.1) (jN p.2) x7 x8 x9 x10 x11),o.set w (ae,G.map prN)):=by
     have ep:ev (rT (n+7)) (.popz (.v 4) (.i 0)) (Ek (pgD tk m rs) (pgD tk' m rs') S q w x5 x6 x7 x8 x9 x10 x11) o=aa (prN p,o.set w (ae,G.map prN)):=by
      show(match o[w]? with
       |some (ae,x :: xs)=>aa (x,o.set w (ae,xs))
       |_=>ab)=_
      rw[b0];rfl
     show WG 5 6 (ev (rT (n+7)) _) _ o=_;unfold WG;rw[ep];rfl
    have g2:Grw s (o.set w (ae,G.map prN)):=ZS g0 Q;have a2:(o.set w (ae,G.map prN))[q]?=aa (ae,ts.map trD):=by rw[bO (Ne.symm ne)];exact a0'
    have b2:(o.set w (ae,G.map prN))[w]?=aa (ae,G.map prN):=bH hw;generalize o.set w (ae,G.map prN)=t2 at *
    have yi:Y (rT (n+7)) t2 (.ix (.v 3) (.g (.a 5 (.s 6)))) (Ek (pgD tk m rs) (pgD tk' m rs') S q w (jN p.1) (jN p.2) x7 x8 x9 x10 x11) (.int (c:Int)):=Dp.g2 (a:=.v 3) (b:=.g (.a 5 (.s 6))) (x:=.dic q) (y:=prN p) () () (gs λst k=>by
     show ixR (.dic q) (prN p) st=_;unfold ixR;show(match ((dAt [.int (p.1:Int),.int (p.2:Int)] q st).join) with|some d=>aa (d,st)|none=>ab)=_
     rw[YK (k.get a2),K];rfl)
    obtain⟨J,e3,k3⟩:=Y.call (F:=rT (n+7)) (s:=t2) (f:=122) (a:=.a 0 (.a 1 (.a 5 (.a 6 (.u (.ix (.v 3) (.g (.a 5 (.s 6))))))))) (U:=Ek (pgD tk m rs) (pgD tk' m rs') S q w (jN p.1) (jN p.2) x7 x8 x9 x10 x11) (xs:=[pgD tk m rs,pgD tk' m rs',.int (p.1:Int),.int (p.2:Int),.int (c:Int)]) (ds:=[]) (.cons () (.cons () (.cons () (.cons () (.cons yi .nil))))) (hd n t2) t2 .refl
    exact⟨o,J,e0,g2.trans k3,k3.get a2,k3.get b2,(Zc e1).trans (Zc (Zn e3))⟩
   rcases hP with⟨rfl,noK⟩|⟨us,rfl,fT,lw⟩
   .refine⟨ab,λE e=>(nomatch e),λ_=>noK,λn l hf s st q w x5 x6 x7 x8 x9 x10 x11 ne T Q V L g=>?_⟩
    obtain⟨f,rfl⟩:∃ f,l=f+1:=⟨l - 1,∅⟩
    obtain⟨o,J,e0,g3,a3,b3,e3⟩:=turn n s st q w x5 x6 x7 x8 x9 x10 x11 ne T Q V L g;refine⟨J,g3,?_⟩;show Z3 (ev _ cX) (ZM (ex _ bX) _) _ _ st=_;unfold Z3;rw[e0];show ZM (ex _ bX) _ _ o=_;unfold ZM;rw[show ex (rT (n+7)) bX _ o=aa (.rt .non,J) from e3.trans (Zq ((ZY rfl).trans (Zq (Z6 rfl))))]
   .have hI:In Lp tk tk' m sz sz' rs rs' (p.1,p.2,c) M ts G []:=⟨h.nd,h.bd,λx hx=>h.ai x (Lm _ hx),h.rt,λk j b z=>by
     rcases h.cv k j b z with z2|z2
     .rcases aL.mp z2 with z2|z2
      .rw[<-z2]at K
       have K:lk ts k j=aa c:=K;rw[z]at K
       injection K with K
       exact .inr (.inr (by rw[<-z2,K]))
      .exact .inl z2
     .exact .inr (.inl z2),λu O=>(nomatch O),by
     unfold mu at Z ⊢
     rw[aX]at Z;omega,h.lo⟩
    have O:∀ u∈us,(u.1<=sz/\u.2.1<=sz'/\u.2.2 < 2 ^ m)/\Lp u:=λu O=>by
     have:=fT.b u O;rw[h1,h2]at this;exact⟨this,lw u O⟩
    have t:=In.all R O hI;have hO:Ou Lp tk tk' m sz sz' rs rs' M (us.foldl s1 (ts,G)).1 (us.foldl s1 (ts,G)).2:=⟨t.nd,t.bd,t.ai,t.rt,λk j b z=>by
     rcases t.cv k j b z with z2|z2|z2
     .exact .inl z2
     .exact .inr z2
     .cases z2
      exact .inr ⟨us,⟨fT,hd⟩,λu O=>t.dn u (bN _ O)⟩,t.mu,t.lo⟩
    obtain⟨r,hr1,hr0,hr2⟩:=ih _ _ ∅ hO
    refine⟨r,hr1,hr0,λn l hf s st q w x5 x6 x7 x8 x9 x10 x11 ne T Q V L g=>?_⟩
    obtain⟨f,rfl⟩:∃ f,l=f+1:=⟨l - 1,∅⟩
    obtain⟨o,J,e0,g3,a3,b3,e3⟩:=turn n s st q w x5 x6 x7 x8 x9 x10 x11 ne T Q V L g;obtain⟨X,W,I,H,t4,e4,g4,a4,b4⟩:=XU (F:=rT (n+7)) (A:=pgD tk m rs) (B:=pgD tk' m rs') (S:=S) (x5:=jN p.1) (x6:=jN p.2) (x7:=aa (.tup (us.map trD))) R hz (show M<=19000 by omega) ne T Q us [] ts G J x8 x9 x10 x11 O hI a3 b3 g3
    obtain⟨t5,g5,h5⟩:=hr2 n f ∅ s t4 q w (jN p.1) (jN p.2) (aa (.tup (us.map trD))) X W I H ne T Q a4 b4 g4
    have e5:ex (rT (n+7)) bJ (Ek (pgD tk m rs) (pgD tk' m rs') S q w (jN p.1) (jN p.2) (aa (.tup (us.map trD))) x8 x9 x10 x11) J=aa (.nx (Ek (pgD tk m rs) (pgD tk' m rs') S q w (jN p.1) (jN p.2) (aa (.tup (us.map trD))) X W I H),t4):=e4;have eb:ex (rT (n+7)) bX (Ek (pgD tk m rs) (pgD tk' m rs') S q w x5 x6 x7 x8 x9 x10 x11) o=aa (.nx (Ek (pgD tk m rs) (pgD tk' m rs') S q w (jN p.1) (jN p.2) (aa (.tup (us.map trD))) X W I H),t4):=e3.trans ((Zc ((Ys rfl).trans Zf)).trans ((Zc e5).trans Zf))
    have ew:ZW (ev (rT (n+7)) cX) (ex (rT (n+7)) bX) (f+1) (Ek (pgD tk m rs) (pgD tk' m rs') S q w x5 x6 x7 x8 x9 x10 x11) st=ZW (ev (rT (n+7)) cX) (ex (rT (n+7)) bX) f (Ek (pgD tk m rs) (pgD tk' m rs') S q w (jN p.1) (jN p.2) (aa (.tup (us.map trD))) X W I H) t4:=by
     show Z3 (ev _ cX) (ZM (ex _ bX) _) _ _ st=_;unfold Z3;rw[e0];show ZM (ex _ bX) _ _ o=_;unfold ZM;rw[eb]
    refine⟨t5,g5,?_⟩;cases r with
    |none=>rw[ew];exact h5
    |some E=>rw[ew];exact h5
end
variable{b0:Nat}
section
variable{b q:Nat}{p:Tr}
def Uz(h:Cl Lp tk tk' m sz sz' rs rs' ts)(p:ts.length<=400)(e:sz < 1000/\sz' < 1000):∃ us:Li Tr,(Cl Lp tk tk' m sz sz' rs rs' us/\Ris (us.map ky))/\∀ F s A B S q w x5 x6 x7 x8 x9 x10 x11,s[q]?=aa (ae,ts.map trD)->Lv s (ev F (.compT [3] (.ksrt (.v 3)) (.g (.a 0 (.a 1 (.u (.ix (.v 2) (.g (.a 0 (.s 1)))))))) (.c (.bl ae))) (Ek A B S q w x5 x6 x7 x8 x9 x10 x11)) (us.map trD):=by
 obtain⟨ks,f,o,C⟩:=Uy h.nd (λk z=>by obtain⟨t,n,rfl⟩:=aQ.mp z;have:=h.bd t n;exact⟨by show t.1 < _;omega,by show t.2.1 < _;omega⟩) p
 have l:=f.length_eq;rw[aD]at l;refine⟨_,⟨h.of f,by rw[bQ];exact(List.Pairwise.map _ (λ_ _=>id) o)⟩,λF s A B S q w x5 x6 x7 x8 x9 x10 x11 e=>?_⟩
 rw[bQ];refine Wv (U:=Ek A B S q w x5 x6 x7 x8 x9 x10 x11) (b:=two) (wk:=W7) (fr:=[3]) (en:=prN) (C F s q _ 3 rfl e) ∅ λk i=>?_
 obtain⟨b,j⟩:=ZV (f.mem_iff.mp i);show Y F s _ [jN k.1,jN k.2,aa (.dic q)] (trD (k.1,k.2,(lk ts k.1 k.2).getD 0));rw[j];exact .cons () (.cons () (.cons (Dp.g2 (a:=.v 2) (b:=.g (.a 0 (.s 1))) (x:=.dic q) (y:=prN k) () () (gs λst g=>by
  show(match ((dAt [.int (k.1:Int),.int (k.2:Int)] q st).join) with|some d=>aa (d,st)|none=>ab)=_
  rw[YK (g.get e),j];rfl)) .nil))
def Zen{a:Nat}(h:a * ((sz+1) * (sz'+1))<=9000)(c:b < a):2 * (b+a * ((sz+1) * (sz'+1) - 1))+1<=19000:=by
 have:=Zdm (sz:=sz) (sz':=sz') h ∅
 omega
def VG(p:∀ k j b c,Lp (k,j,b)->Lp (k,j,c)->Lp (k,j,b &&& c))(G:∀ k j c,c < 2 ^ m->Lp (k,j,c)->∃ d,(∀ n s,C (rT (n+7)) s 122 [pgD tk m rs,pgD tk' m rs',.int (k:Int),.int (j:Int),.int (c:Int)] d)/\((d=.non/\NK)\/∃ us,d=.tup (us.map trD)/\FolT m rs rs' k j c us/\∀ u∈us,Lp u))(h1:rs.length=sz)(h2:rs'.length=sz')(X:(sz+1) * (sz'+1)<=400)(hs:sz < 1000/\sz' < 1000)(hB:2 ^ m * ((sz+1) * (sz'+1))<=9000)(R:b0 < 2 ^ m)(h0:Lp (0,0,b0)) :
  ∃ r:Ot (Li Tr),(r=ab->NK)/\(∀ us,r=aa us->Cl Lp tk tk' m sz sz' rs rs' us/\Ris (us.map ky))/\∀ n st,∃ t d,rT (n+8) 294 [pgD tk m rs,pgD tk' m rs',.int (b0:Int)] st=aa (d,t)/\Grw st t/\match r with
   |none=>d=.non
   |some us=>∃ j b,d=.lst j/\t[j]?=aa (b,us.map trD):=by
 obtain⟨M,y⟩:∃ M,M=19000:=⟨_,rfl⟩;have hO:Ou Lp tk tk' m sz sz' rs rs' M [(0,0,b0)] [(0,0)]:=by
  refine⟨bS.mpr ⟨λh=>(nomatch h),dH⟩,λt B=>?_,λx Y=>Y,Ls,λk j b q=>?_,?_,λt B=>?_⟩
  .rw[aP.mp B];exact⟨aR _,aR _,R⟩
  .have:=Zs q
   have:=aP.mp this;cases this;exact .inl Ls
  .exact aJ (cR Zap) (y ▸ Zen hB R)
  .rw[aP.mp B];exact h0
 obtain⟨r,D,E,o⟩:=wlc (S:=.int (b0:Int)) p G X h1 h2 M _ _ (cR y) hO
 -- up to the loop
 have pre:∀ (n:Nat) (st:Za),∃ t q w,st.length<=q/\st.length<=w/\q≠w/\Grw st t/\t[q]?=aa (ae,[(0,0,b0)].map trD)/\t[w]?=aa (ae,[(0,0)].map prN)/\ex (rT (n+7)) c__law_closed.body [aa (pgD tk m rs),aa (pgD tk' m rs'),jN b0,ab,ab,ab,ab,ab,ab,ab,ab,ab] st=ex (rT (n+7)) (tlC 2 c__law_closed.body) (Ek (pgD tk m rs) (pgD tk' m rs') (.int (b0:Int)) q w ab ab ab ab ab ab ab) t:=λn st=>by
  have I:=Zfn (F:=rT (n+7)) (U:=[aa (pgD tk m rs),aa (pgD tk' m rs'),jN b0,ab,ab,ab,ab,ab,ab,ab,ab,ab]) (st:=st) (e:=.v 2) (v:=.int (b0:Int)) rfl Zx;have ll:((st++[(ae,[])]).set st.length (ae,[(0,0,b0)].map trD)).length=st.length+1:=by rw[bL,aH];rfl
  have gg:Grw st ((st++[(ae,[])]).set st.length (ae,[(0,0,b0)].map trD)):=ZS Grw.push (aB _);have c4:((st++[(ae,[])]).set st.length (ae,[(0,0,b0)].map trD))[st.length]?=aa (ae,[(0,0,b0)].map trD):=bH (by rw[aH];show _ < _+1;omega)
  have I:ev (rT (n+7)) (.dd (.i 0) (.i 0) (.v 2)) [aa (pgD tk m rs),aa (pgD tk' m rs'),jN b0,ab,ab,ab,ab,ab,ab,ab,ab,ab] st=aa (.dic st.length,(st++[(ae,[])]).set st.length (ae,[(0,0,b0)].map trD)):=I;generalize (st++[(ae,[])]).set st.length (ae,[(0,0,b0)].map trD)=t4 at *
  exact⟨t4++[(ae,[(0,0)].map prN)],st.length,t4.length,aB _,∅,∅,gg.trans .push,Grw.push.get c4,Zx,(Zc (Zn I)).trans (Zc (Zn rfl))⟩
 cases r with
 |none=>
  refine⟨ab,λ_=>E rfl,λus e=>(nomatch e),λn st=>?_⟩
  obtain⟨t,q,w,A,z,ne,H,a,b,e⟩:=pre n st;obtain⟨l,g2,J⟩:=o n 20000 (by rw[y];decide) st t q w ab ab ab ab ab ab ab ne A z a b H
  exact⟨l,.non,U1 (v:=c__law_closed) rfl rfl (e.trans (Zq J)),g2,rfl⟩
 |some ts=>
  have K:=D ts rfl;have tl:=Xn K.nd K.bd;obtain⟨us,hc,Z⟩:=Uz K ∅ hs
  refine⟨aa us,λe=>(nomatch e),λT e=>by cases e;exact hc,λn st=>?_⟩
  obtain⟨t,q,w,A,z,ne,H,a,b,e⟩:=pre n st;obtain⟨l,g2,⟨Q,P,O,N,L,g,f,J⟩,c2⟩:=o n 20000 (by rw[y];decide) st t q w ab ab ab ab ab ab ab ne A z a b H
  obtain⟨V,j,b3,e3,h3,W⟩:=Z (rT (n+7)) l (pgD tk m rs) (pgD tk' m rs') (.int (b0:Int)) q w Q P O N L g f c2 l .refl;have e4:ex (rT (n+7)) (hdC (tlC 2 c__law_closed.body)) (Ek (pgD tk m rs) (pgD tk' m rs') (.int (b0:Int)) q w ab ab ab ab ab ab ab) t=aa (.nx (Ek (pgD tk m rs) (pgD tk' m rs') (.int (b0:Int)) q w Q P O N L g f),l):=J
  exact⟨V,.lst j,U1 (v:=c__law_closed) rfl rfl (e.trans ((Zc e4).trans (Zq (Z6 e3)))),g2.trans W,j,b3,rfl,h3⟩
def Cl.kp(h:Cl Lp tk tk' m sz sz' rs rs' us):Kp tk tk' m rs rs' us:=⟨h.rt,λt a=>(h.bd t a).2.2,h.cv⟩
theorem Zba{α:Type}{f:α->Nat}:∀ {l c:Li α},l.Pairwise (λa b=>f a < f b)->c.Pairwise (λa b=>f a < f b)->(∀ x,x∈l↔x∈c)->l=c
 |[],[],_,_,_=>rfl
 |[],y :: c,_,_,h=>nomatch (h y).mpr Ls
 |x :: l,[],_,_,h=>nomatch (h x).mp Ls
 |x :: l,y :: c,k,j,h=>by
  obtain⟨i,n⟩:=eS.mp k;obtain⟨g,m⟩:=eS.mp j;have e:x=y:=by
   rcases aL.mp ((h x).mp Ls) with e|e
   .exact e
   .rcases aL.mp ((h y).mpr Ls) with e2|e2
    .exact e2.symm
    .have:=i y e2
     have:=g x e;omega
  subst e;rw[Zba n m λz=>⟨λd=>?_,λd=>?_⟩]
  .rcases aL.mp ((h z).mp (Lm _ d)) with e|e
   .have:=i z d;rw[e]at this;omega
   .exact e
  .rcases aL.mp ((h z).mpr (Lm _ d)) with e|e
   .have:=g z d;rw[e]at this;omega
   .exact e
def JC(h:Cl (Lw tk tk' m rs rs') tk tk' m sz sz' rs rs' us)(d:Cl (Lw tk tk' m rs rs') tk tk' m sz sz' rs rs' ws)(hu:u∈us):u∈ws:=by
 obtain⟨b,g,s1⟩:=h.lo u hu ws d.kp;have a:=Zs g;obtain⟨k,c,f⟩:=d.lo _ a us h.kp;have e:=Wx h.nd hu (Zs c) rfl;have j:u.2.2=k:=av (λx:Tr=>x.2.2) e
 have:b=u.2.2:=dE λi=>by
  cases z:b.testBit i with
  |true=>exact(s1 i z).symm
  |false=>
   cases y:u.2.2.testBit i with
   |false=>rfl
   |true=>rw[j]at y;have:=f i y;exact au (this.symm.trans z) #[]
 rw[this]at a;exact a
def Zfi(h:Cl (Lw tk tk' m rs rs') tk tk' m sz sz' rs rs' us)(a:Cl (Lw tk tk' m rs rs') tk tk' m sz sz' rs rs' ws)(r:Ris (us.map ky))(d:Ris (ws.map ky)):us=ws:=by
 have c:=eI.mp r;have b:=eI.mp d;exact Zba (f:=λt:Tr=>t.1 * 1000+t.2.1) c b λ_=>⟨JC h a,JC a h⟩
end
section
variable{p:Tr}{q:Nat}
def Zce(h:us[i]?=aa u):knW (us.take (i+1))=pt (knW (us.take i)) u.1 u.2.1 u.2.2:=by
 unfold knW;rw[List.take_add_one,h,List.foldl_append];rfl
def ZfA:((knW us).map ky).Nodup:=(Wt (vs:=us) (ws:=[]) dH).1
def Zeh:(knW us).length<=us.length:=by
 have h:=(Wt (vs:=us) (ws:=[]) dH).2;rw[dG,cI]at h;exact h
abbrev Eu(us:Li Tr)(w q:Nat)(c b a:Ot D):Env:=[aa (.tup (us.map trD)),jL w,aa (.dic q),c,b,a]
def Zc2(j:st[w]?=aa (bb,ws.map trD))(p:ws.length<=900)(n:q=st.length):∃ c b a t,ex F (hdC (tlC 1 c__law_under.body)) (Eu us w q ab ab ab) (st++[(ae,[])])=aa (.nx (Eu us w q c b a),t)/\Grw st t/\t[q]?=aa (ae,(knW ws).map trD):=by
 have r:=Zai (s:=st) (w:=w) (bb:=bb) (en:=trD) (l:=ws) (g:=λ_=>ae) (B:=Xb 3 4 5 (ex F (.z (.dput 2 (.v 3) (.v 4) (.v 5)))))
  (J:=λi U s1=>∃ c b a,U=Eu us w q c b a/\Grw st s1/\s1[q]?=aa (ae,(knW (ws.take i)).map trD)) (λi U s1 h=>by
   obtain⟨_,_,_,_,g,_⟩:=h;exact g.get j) (λi v k U s1 h=>by
   obtain⟨b,a,f,rfl,g,m⟩:=h;have u:i < ws.length:=(bG.mp k).1;have o:(knW (ws.take i)).length<=900:=aJ Zeh (by rw[aV];omega)
   have e:ex F (.dput 2 (.v 3) (.v 4) (.v 5)) (Eu us w q (jN v.1) (jN v.2.1) (jN v.2.2)) s1=aa (.nx (Eu us w q (jN v.1) (jN v.2.1) (jN v.2.2)),s1.set q (ae,(knW (ws.take (i+1))).map trD)):=by
    show(match s1[q]? with
     |some (ae,xs)=>if xs.length < Zk then aa (Fl.nx _,s1.set q (ae,Xr xs (v.1:Int) (v.2.1:Int) (.int (v.2.2:Int)))) else ab
     |_=>ab)=_
    rw[m];show(if ((knW (ws.take i)).map trD).length < Zk then _ else _)=_
    rw[aq (by rw[aD];unfold Zk;omega),X2 ZfA,Zce k]
   exact .inl ⟨rfl,_,_,(Zc e).trans Zf,_,_,_,rfl,ZS g ∅,by rw[bH (Zw m)]⟩) ws.length 0 (Eu us w q ab ab ab) (st++[(ae,[])]) (cI _) ⟨_,_,_,rfl,.push,by rw[n];exact Zx⟩
 rcases r with⟨_,x,t,e,b,a,f,rfl,g,h⟩|⟨r,_⟩
 .refine⟨b,a,f,t,?_,g,by rw[cP]at h;exact h⟩
  have d:(st++[(ae,[])])[w]?=aa (bb,ws.map trD):=Grw.push.get j;show V6 3 4 5 (Z4 1) _ _ _=_;unfold V6;show(match (st++[(ae,[])])[w]? with|some (_,xs)=>ZL (Xb 3 4 5 _) w xs.length 0 _ _|none=>ab)=_
  rw[d];show ZL _ w (ws.map trD).length 0 _ _=_;rw[aD];exact e
 .rw[cQ]at r
  exact au r (by rw[bT.mpr λ_ _=>rfl];exact λh=>nomatch h)
def Zbu(K:s[w]?=aa (bb,ws.map trD))(M:ws.length<=900)(nd:(ws.map ky).Nodup)(hu:∀ u∈us,Cu ws u):C (rT (n+1)) s 55 [.tup (us.map trD),.lst w] (.bl ae):=.of (v:=c__law_under) rfl rfl λst g=>by
 obtain⟨e,d,c,t,R,g1,D⟩:=Zc2 (F:=rT n) (us:=us) (g.get K) M rfl;rw[show knW ws=ws from W0 (ws:=[]) nd]at D;have G:=Zah (s:=t) (en:=trD) (g:=λ_=>ae) (l:=us) (I:=λU=>∃ e d c,U=Eu us w st.length e d c)
  (B:=Xb 3 4 5 (ex (rT n) (match hdC (tlC 2 c__law_under.body) with|.for4 _ _ _ _ b=>b|q=>q))) (λu L U N p g2=>by
   obtain⟨k,j,f,rfl⟩:=N;obtain⟨b,y,sb⟩:=hu u L;have A:=g2.get D;have m:Y (rT n) p (.or (.cmp .NotIn (.g (.a 3 (.s 4))) (.v 2)) (.cmp .NotEq (.bin .BitOr (.ix (.v 2) (.g (.a 3 (.s 4)))) (.v 5)) (.v 5))) (Eu us w st.length (jN u.1) (jN u.2.1) (jN u.2.2)) (.bl ((!(lk ws u.1 u.2.1).isSome)||false)):=.or (.noq A () ()) λ_=>.cmp (x:=.int ((b ||| u.2.2:Nat):Int)) (.bor (.ixq A y () ()) ()) () λ_=>by
    show aa (!decide (((b ||| u.2.2:Nat):Int)=(u.2.2:Int)))=_;rw[or_and.mpr (dE λi=>by
     rw[cD];cases z:b.testBit i with
     |false=>rfl
     |true=>rw[sb i z];rfl),aG rfl];rfl
   rw[y]at m;obtain⟨E,O,H⟩:=m p .refl;exact .inl ⟨rfl,_,E,(Zc ((Ys O).trans Zf)).trans Zf,⟨_,_,_,rfl⟩,H⟩) (Eu us w st.length e d c) t ⟨_,_,_,rfl⟩ .refl
 rcases G with⟨_,T,o,Q,⟨k,j,f,rfl⟩,J⟩|⟨r,_⟩
 .have P:ex (rT n) (hdC (tlC 2 c__law_under.body)) (Eu us w st.length e d c) t=aa (.nx (Eu us w st.length k j f),o):=Q
  have S:ex (rT n) (.set 2 .dnew) [aa (.tup (us.map trD)),jL w,ab,ab,ab,ab] st=aa (.nx (Eu us w st.length ab ab ab),st++[(ae,[])]):=Zn (v:=.dic st.length) rfl;exact⟨o,(Zc S).trans ((Zc R).trans ((Zc P).trans (Zq (Z6 rfl)))),g1.trans J⟩
 .exact au r (by rw[bT.mpr λ_ _=>rfl];exact λh=>nomatch h)
def VM{A:Nat}(h:us[A]?=aa u):us=us.take A++u :: us.drop (A+1):=by
 obtain⟨a,e⟩:=bG.mp h;rw[<-e,<-bU a,bB]
def Zek(h:Cl (Lw tk tk' m rs rs') tk tk' m sz sz' rs rs' us){A:Nat}(hu:us[A]?=aa u):kB tk tk' m rs rs' (us.take A++us.drop (A+1))=af:=by
 cases z:kB tk tk' m rs rs' (us.take A++us.drop (A+1)) with
 |false=>rfl
 |true=>
  have f:∀ t∈us.take A++us.drop (A+1),t.2.2 < 2 ^ m:=λt d=>by
   rcases aY.mp d with h1|h1
   .exact(h.bd t (cH h1)).2.2
   .exact(h.bd t (cG h1)).2.2
  obtain⟨b,e,_⟩:=h.lo u (aW hu) _ (Zdi z f);have c:=(UR _ (Zs e)).resolve_left λx=>nomatch x
  have a:=h.nd;rw[VM hu,cF,aZ,List.nodup_append,bS]at a;rcases aY.mp c with h1|h1
  .exact au rfl (a.2.2 (ky u) (aQ.mpr ⟨_,h1,rfl⟩) (ky u) Ls)
  .exact au (aQ.mpr ⟨_,h1,rfl⟩) a.2.1.1
def Zel(h:Cl (Lw tk tk' m rs rs') tk tk' m sz sz' rs rs' us){A:Nat}(hu:us[A]?=aa (k,j,c)){x:Nat}(f:c.testBit i=af)(n:x.testBit i=ae)(l:x < 2 ^ m):kB tk tk' m rs rs' (us.take A++[(k,j,x)]++us.drop (A+1))=af:=by
 cases z:kB tk tk' m rs rs' (us.take A++[(k,j,x)]++us.drop (A+1)) with
 |false=>rfl
 |true=>
  have r:∀ t∈us.take A++[(k,j,x)]++us.drop (A+1),t.2.2 < 2 ^ m:=λt g=>by
   rcases aY.mp g with h1|h1
   .rcases aY.mp h1 with h1|h1
    .exact(h.bd t (cH h1)).2.2
    .rw[aP.mp h1];exact l
   .exact(h.bd t (cG h1)).2.2
  have o:(us.take A++[(k,j,x)]++us.drop (A+1)).map ky=us.map ky:=by
   conv=>rhs;rw[VM hu]
   rw[aM,cF,cF,cF];rfl
  have d:((us.take A++[(k,j,x)]++us.drop (A+1)).map ky).Nodup:=by rw[o];exact h.nd
  obtain⟨b,a,sb⟩:=h.lo _ (aW hu) _ (Zdi z r);have e:knW (us.take A++[(k,j,x)]++us.drop (A+1))=us.take A++[(k,j,x)]++us.drop (A+1):=W0 (ws:=[]) d;rw[e]at a;have q:=Wx d (Zs a) (dF _ (bN _ Ls):(k,j,x)∈_) rfl;have p:b=x:=av (λt:Tr=>t.2.2) q
  rw[p]at sb;have:=sb i n;exact au (this.symm.trans f) #[]
def ZdU(d:c < 2 ^ m)(h:i < m)(a:c.testBit i=af):c+2 ^ i < 2 ^ m/\(c+2 ^ i).testBit i=ae:=by
 constructor
 .have e:c / 2 ^ i % 2=0:=by
   rw[Nat.testBit_eq_decide_div_mod_eq]at a;have:=am a;have:=Nat.mod_lt (c / 2 ^ i) (show 0 < 2 by decide)
   omega
  obtain⟨l,rfl⟩:∃ l,m=i+1+l:=⟨m - (i+1),∅⟩
  have b:0 < 2 ^ i:=Nat.two_pow_pos i;have o:c / 2 ^ i < 2 * 2 ^ l:=by
   rw[Nat.div_lt_iff_lt_mul b];rw[Nat.pow_add,Nat.pow_succ]at d
   calc c < 2 ^ i * 2 * 2 ^ l:=d
    _=2 * 2 ^ l * 2 ^ i:=by rw[Nat.mul_comm (2 ^ i) 2,Nat.mul_right_comm]
  have g:c / 2 ^ i+1 < 2 * 2 ^ l:=by omega
  have n:c+2 ^ i=(c / 2 ^ i+1) * 2 ^ i+c % 2 ^ i:=by
   have:=Nat.div_add_mod c (2 ^ i);rw[Nat.add_mul,Nat.one_mul,Nat.mul_comm (c / 2 ^ i)];omega
  have k:=Nat.mod_lt c b;have f:(c / 2 ^ i+1+1) * 2 ^ i<=2 * 2 ^ l * 2 ^ i:=Nat.mul_le_mul_right _ g;rw[Nat.add_mul (c / 2 ^ i+1) 1,Nat.one_mul]at f;have j:2 * 2 ^ l * 2 ^ i=2 ^ (i+1+l):=by rw[Nat.pow_add,Nat.pow_succ,Nat.mul_comm (2 ^ i) 2,Nat.mul_right_comm]
  omega
 .rw[Nat.add_comm,Nat.testBit_two_pow_add_eq,a];rfl
end
section
variable{x q:Nat}{vs:Li Tr}
abbrev Ez(us:Li Tr)(tk tk':D)(m:Nat)(rs rs':Li Rw)(v:Int)(x:Nat)(d c b a:Ot D):Env:=[aa (.tup (us.map trD)),aa (pgD tk m rs),aa (pgD tk' m rs'),jI v,jN x,d,c,b,a]
def ZdF(G:Rs m rs)(e:Rs m rs')(H:m<=60)(b:Cl (Lw tk tk' m rs rs') tk tk' m sz sz' rs rs' us)(hl:us.length<=900)(hx:x < 5):C (rT (n+10)) s 295 [.tup (us.map trD),pgD tk m rs,pgD tk' m rs',.int v,.int (x:Int)] (.bl ae):=by
 have S:0 < us.length:=by
  have:=b.rt;cases us with
  |nil=>exact nomatch this
  |cons _ _=>exact Nat.succ_pos _
 have T:(us.map trD).length=us.length:=aD ..;have F:=Zm v (j:=((us.map trD).length:Int)) ∅
 obtain⟨A,J⟩:∃ A:Nat,v % ((us.map trD).length:Int)=(A:Int):=⟨_,(bY F.1).symm⟩;rw[J]at F;have W:A < us.length:=by omega
 have f:us[A]?=aa us[A]:=Lg W;generalize us[A]=u at f;obtain⟨k,j,c⟩:=u;have V:c < 2 ^ m:=(b.bd _ (aW f)).2.2;have a:∀ t∈us.take A++us.drop (A+1),t.2.2 < 2 ^ m:=λt o=>by
  rcases aY.mp o with h1|h1
  .exact(b.bd t (cH h1)).2.2
  .exact(b.bd t (cG h1)).2.2
 have d:∀ {U:Env}{s:Za},U[0]?=aa (aa (.tup (us.map trD)))->U[5]?=aa (jN A)->Y (rT (n+9)) s (.slice (.v 0) .nop (.part (.v 5))) U (.tup ((us.take A).map trD)):=λw q=>by
  rw[List.map_take];exact .tkT (.v w) (.v q) ∅
 have l:∀ {U:Env}{s:Za},U[0]?=aa (aa (.tup (us.map trD)))->U[5]?=aa (jN A)->Y (rT (n+9)) s (.slice (.v 0) (.part (.p (.v 5) (.i 1))) .nop) U (.tup ((us.drop (A+1)).map trD)):=λw q=>by
  rw[List.map_drop];exact .dpT (.v w) (.adN (M:=1) (.v q) ()) ∅
 have O:((us.take A).map trD).length+((us.drop (A+1)).map trD).length<=1000:=by rw[aD,aD,aV,cB];omega
 refine .of (v:=c__law_no_less) rfl rfl (.set (x:=.int (A:Int)) (by rw[<-J];exact .md () (.lnT ()) ∅) (.no (.cmp (x:=.bl af) (y:=.bl af) (.call (xs:=[pgD tk m rs,pgD tk' m rs',.tup ((us.take A++us.drop (A+1)).map trD)]) (.cons () (.cons () (.cons (by rw[cF];exact .adT (d rfl rfl) (l rfl rfl) ∅) .nil))) (by
  have y:=W9 (n:=n) (s:=s) (tk:=tk) (tk':=tk') (us:=us.take A++us.drop (A+1)) G e H a (by rw[aH,aV,cB];omega)
  rw[Zek b f]at y;exact y)) () λ_=>rfl) λst g=>?_))
 have K:Y (rT (n+9)) s (.ix (.v 0) (.v 5)) (Ez us tk tk' m rs rs' v x (jN A) ab ab ab) (.tup [.int (k:Int),.int (j:Int),.int (c:Int)]):=.ixt (j:=A) () () (by rw[bA,f];rfl)
 obtain⟨s1,e1,D⟩:=K st g;have X:ex (rT (n+9)) (hdC (tlC 2 c__law_no_less.body)) (Ez us tk tk' m rs rs' v x (jN A) ab ab ab) st=aa (.nx (Ez us tk tk' m rs rs' v x (jN A) (jN k) (jN j) (jN c)),s1):=by
  show Uu 6 7 8 (ev (rT (n+9)) (.ix (.v 0) (.v 5))) _ st=_;unfold Uu;rw[e1];rfl
 suffices h:R (rT (n+9)) s (tlC 3 c__law_no_less.body) (Ez us tk tk' m rs rs' v x (jN A) (jN k) (jN j) (jN c)) (.bl ae) by
  obtain⟨N,Z,P⟩:=h s1 (g.trans D);exact⟨N,(Zc X).trans Z,D.trans P⟩
 have hp:0 < 2 ^ x:=Nat.two_pow_pos x;have Q:2 ^ x<=16:=fX #[] (show x<=4 by omega)
 refine R.pick (k:=ak (m<=x)||ak (((c / 2 ^ x % 2:Nat):Int)=1)) (.or (.cmp (x:=.int (x:Int)) (y:=.int (m:Int)) () (.ixt (j:=1) (xs:=[tk,.int (m:Int),.tup (rs.map rwE)]) () () rfl) λ_=>by
  show aa (ak ((m:Int)<=(x:Int)))=_;rw[decide_eq_decide.mpr Int.ofNat_le]) λ_=>.eqi (.mdN (.fdN () (.shl () ∅) ∅) () #[]) ()) (λ_=>.ret ()) λE=>?_
 rw[fC,decide_eq_false_iff_not,decide_eq_false_iff_not]at E;have I:c.testBit x=af:=by
  rw[Nat.testBit_eq_decide_div_mod_eq];exact aI λz=>E.2 (by rw[z];rfl)
 obtain⟨B,L⟩:=ZdU V (show x < m by omega) I
 refine .ret (.cmp (x:=.bl af) (y:=.bl af) (.call (xs:=[pgD tk m rs,pgD tk' m rs',.tup ((us.take A++[(k,j,c+2 ^ x)]++us.drop (A+1)).map trD)]) (.cons () (.cons () (.cons (by
  rw[cF,cF];exact .adT (.adT (d rfl rfl) (.cons (.cons () (.cons () (.cons (.adN () (.shl () ∅)) .nil))) .nil) (by show _+1<=_;omega)) (l rfl rfl) (by rw[aH];show _+1+_<=_;omega)) .nil))) (by
  have y:=W9 (n:=n) (s:=s) (tk:=tk) (tk':=tk') (us:=us.take A++[(k,j,c+2 ^ x)]++us.drop (A+1)) G e H (λt o=>by
   rcases aY.mp o with h1|h1
   .rcases aY.mp h1 with h1|h1
    .exact a t (dF _ h1)
    .rw[aP.mp h1];exact B
   .exact a t (bN _ h1)) (by rw[aH,aH,aV,cB];show _+1+_<=_;omega)
  rw[Zel b f I L B]at y;exact y)) () λ_=>rfl)
theorem Zag:∀ {vs ws:Li Tr},(ws.map ky).Nodup->(vs.foldl (λK t=>pt K t.1 t.2.1 t.2.2) ws).length=ws.length+vs.length->((ws++vs).map ky).Nodup
 |[],ws,h,_=>by rw[bF];exact h
 |v :: vs,ws,h,e=>by
  have e:(vs.foldl (λK t=>pt K t.1 t.2.1 t.2.2) (pt ws v.1 v.2.1 v.2.2)).length=ws.length+(vs.length+1):=e
  have a:((pt ws v.1 v.2.1 v.2.2).map ky).Nodup:=Uo h;have r:=(Wt (vs:=vs) a).2;have d:lk ws v.1 v.2.1=ab:=by
   cases z:lk ws v.1 v.2.1 with
   |none=>rfl
   |some c=>rw[(XC (b:=v.2.2) z).1]at r;omega
  have f:(ws++[v])++vs=ws++v :: vs:=by rw[aM];rfl
  rw[Vv d]at a e;rw[<-f];exact Zag a (by rw[e,aH,fK];omega)
def Zal(h:(us.map ky).Nodup):lk us.reverse k j=lk us k j:=by
 have b:∀ {l:Li Tr}{c},lk l k j=aa c->(k,j)∈l.map ky:=λz=>aQ.mpr ⟨_,Zs z,rfl⟩
 cases z:lk us k j with
 |some c=>
  obtain⟨d,a⟩:=ZV (ts:=us.reverse) (k:=k) (j:=j) (by rw[eM];exact fE.mpr (b z))
  have:=Wx h (Zs z) (fE.mp (Zs a)) rfl;cases this;exact a
 |none=>
  cases y:lk us.reverse k j with
  |none=>rfl
  |some c=>
   have:=b y;rw[eM,fE]at this;obtain⟨d,a⟩:=ZV this;rw[z]at a;exact nomatch a
def Zef:kB tk tk' m rs rs' us.reverse=kB tk tk' m rs rs' us:=by
 by_cases h:(us.map ky).Nodup
 .have f:knW us=us:=W0 (ws:=[]) h
  have d:knW us.reverse=us.reverse:=W0 (ws:=[]) (by show(us.reverse.map ky).Nodup;rw[eM];exact(List.reverse_perm _).nodup_iff.mpr h)
  have c:stB us.reverse=stB us:=funext λu=>by unfold stB;rw[Zal h]
  have b:wkB tk tk' m rs rs' us.reverse=wkB tk tk' m rs rs' us:=funext λt=>by unfold wkB;rw[c]
  unfold kB;rw[f,d,b,Zal h,cV,List.all_reverse]
 .have no:∀ {l:Li Tr},¬(l.map ky).Nodup->kB tk tk' m rs rs' l=af:=λ{l} a=>by
   unfold kB;rw[aI λe=>a (Zag (ws:=[]) (vs:=l) dH (by rw[dG,cI];exact e)),eO,eO]
  rw[no h,no (by rw[eM];exact λz=>h ((List.reverse_perm _).nodup_iff.mp z))]
def Lv.loT(h:Y F s e U (.tup xs)):Lv s (ev F (.listOf e) U) xs:=λst g=>by
 obtain⟨s1,b,a⟩:=h st g;refine⟨s1++[(ae,xs)],s1.length,ae,?_,Zx,a.trans .push⟩;show Zl (ev F e) Ug U st=_;unfold Zl;rw[b];rfl
theorem ZaB:∀ {us:Li Tr},Yf 7 (us.map trD)=ae
 |[]=>rfl
 |u :: us=>by
  show(okD 7 (trD u)&&Yf 7 (us.map trD))=ae;rw[ZaB];rfl
def Y.nel(k:Lv s (ev F a U) (us.map trD))(h:s[w]?=aa (bb,us.map trD))(i:∀ st,ev F b U st=aa (.lst w,st)):Y F s (.cmp .NotEq a b) U (.bl af):=λst g=>by
 obtain⟨s1,j,o,m,l,f⟩:=k st g;refine⟨s1,?_,f⟩;show ZH (ev F a) (ev F b) (XL .NotEq) U st=_;unfold ZH;simp only[m,i];show XL .NotEq (.lst j) (.lst w) s1=_;unfold XL;have e:Q0 .NotEq (.lst j) (.lst w) s1=aa af:=by
  show((o2 (λ(c d:YO)=>Vh c.2 d.2) s1[j]? s1[w]?).join).map Bool.not=_
  rw[l,(g.trans f).get h];show(Vh (us.map trD) (us.map trD)).map Bool.not=_;unfold Vh;rw[ZaB,X0 (n:=7) ZaB];cases us<;>rfl
 simp only[e]
def Qo{P:D->Za->Prop}(e:Y F st a U (.tup xs))(h:∀ st,∃ t d,F f xs st=aa (d,t)/\Grw st t/\P d t):∃ t d,ev F (.f f a) U st=aa (d,t)/\Grw st t/\P d t:=by
 obtain⟨s1,i,c⟩:=e st .refl;obtain⟨t,d,g,b,p⟩:=h s1;refine⟨t,d,?_,c.trans b,p⟩;show Zl (ev F a) (XT (F f) []) U st=_;unfold Zl;rw[i];show F f (xs++[]) s1=_;rw[bF];exact g
def Zcl:Lw tk tk' m rs rs' (0,0,2 ^ m - 1):=λK d=>by
 obtain⟨c,b⟩:=ZV d.rt;refine⟨c,b,λi a=>?_⟩
 have e:=d.bd _ (Zs b);show(2 ^ m - 1).testBit i=ae;rw[Nat.testBit_two_pow_sub_one];refine aG ?_;rcases dJ i m with q|q
 .exact q
 .rw[Nat.testBit_lt_two_pow (aT e (fX ∅ q))]at a
  exact nomatch a
def Zbb{a b:Nat}(d:a<=12)(c:b<=12):(a+1) * (b+1)<=169:=eB (fJ d) (fJ c)
def ZaS(a:m<=5):2 ^ m<=32:=fX #[] a
end
section
variable{x q:Nat}{vs:Li Tr}
abbrev El(tk tk':D)(m:Nat)(rs rs':Li Rw)(c b a:Ot D):Env:=[jL 0,aa (pgD tk m rs),aa (pgD tk' m rs'),c,b,a]
def Fd(tk tk':D)(m:Nat)(rs rs':Li Rw)(d:D):Prop:=(d=.non/\∀ K,¬Kp tk tk' m rs rs' K)\/∃ us:Li Tr,d=.tup (us.map trD)/\Cl (Lw tk tk' m rs rs') tk tk' m rs.length rs'.length rs rs' us/\Ris (us.map ky)/\us.length<=169
def Zcf(L:Rs m rs)(o:Rs m rs')(O:m<=5)(P:rs.length<=12)(p:rs'.length<=12){g:D}(z:Fd tk tk' m rs rs' g):∃ t F,ex (rT (n+10)) (.seq (hdC (tlC 2 c_law_k42.body)) (hdC (tlC 3 c_law_k42.body))) (El tk tk' m rs rs' (aa g) ab ab) st=aa (.nx (El tk tk' m rs rs' (aa g) F ab),t)/\Grw st t:=by
 have I:=Zbb P p;have M:=ZaS O;have T:1<=2 ^ m:=Nat.one_le_two_pow;obtain⟨r,N,d,e⟩:=VG (Lp:=Lw tk tk' m rs rs') (NK:=∀ K,¬Kp tk tk' m rs rs' K) (b0:=2 ^ m - 1) UW (λk j c Q S=>Zan L o ∅ Q S) rfl rfl ∅ ∅ (aJ (eB M I) #[]) ∅ Zcl
 have E:Y (rT (n+10)) st (.a 1 (.a 2 (.u (.l (.bin .LShift (.i 1) (.x 1 1)) (.i 1))))) (El tk tk' m rs rs' (aa g) ab ab) (.tup [pgD tk m rs,pgD tk' m rs',.int ((2 ^ m - 1:Nat):Int)]):=.cons () (.cons () (.cons (by
  rw[show((2 ^ m - 1:Nat):Int)=((2 ^ m:Nat):Int) - 1 by omega]
  exact .sub (.shl (.ixt (j:=1) (xs:=[tk,.int (m:Int),.tup (rs.map rwE)]) () () rfl) ∅) ()) .nil))
 obtain⟨h,V,B,y,A⟩:=Qo E (e (n+2));cases r with
 |none=>
  cases A;have s:=N rfl;rcases z with⟨rfl,_⟩|⟨us,rfl,w,_,_⟩
  .exact⟨h,_,(Zc (Zn B)).trans ((ZY rfl).trans ((Zc ((Ys rfl).trans Zf)).trans Zf)),y⟩
  .exact au w.kp (s us)
 |some ws=>
  obtain⟨j,b,rfl,J⟩:=A;obtain⟨f,q⟩:=d ws rfl;rcases z with⟨rfl,s⟩|⟨us,rfl,w,R,_⟩
  .exact au f.kp (s ws)
  .obtain rfl:=Zfi w f R q
   have C:Y (rT (n+10)) h (.or (.not (.isi .tuple (.v 3))) (.cmp .NotEq (.listOf (.v 3)) (.v 4))) (El tk tk' m rs rs' (aa (.tup (us.map trD))) (jL j) ab) (.bl af):=.or (k:=af) (m:=af) (.not (k:=ae) ()) λ_=>.nel (.loT ()) J λ_=>rfl
   obtain⟨G,U,H⟩:=C h .refl;exact⟨G,_,(Zc (Zn B)).trans ((Ys rfl).trans ((Zc ((Ys U).trans Zf)).trans Zf)),y.trans H⟩
def Zaj(hn:ns.length<=63)(H:Rs m rs)(o:Rs m rs')(hm:m<=5)(hl:rs.length<=12)(I:rs'.length<=12)(g:Grw (S0 ns) st){E:D}{x4:Ot D}(hF:Fd tk tk' m rs rs' E):∃ t V,ex (rT (n+10)) (.seq (hdC (tlC 4 c_law_k42.body)) (hdC (tlC 5 c_law_k42.body))) (El tk tk' m rs rs' (aa E) x4 ab) st=aa (.nx (El tk tk' m rs rs' (aa E) x4 V),t)/\Grw st t:=by
 have N:=Zbb hl I;have hp:=ZaS hm;have z:(0:Int) < ((2 ^ m:Nat):Int):=by
  have:0 < 2 ^ m:=Nat.two_pow_pos m;omega
 have P:=Zm (ceI ns 9) (j:=((2 ^ m:Nat):Int)) z;obtain⟨b0,Q⟩:∃ b:Nat,ceI ns 9 % ((2 ^ m:Nat):Int)=(b:Int):=⟨_,(bY P.1).symm⟩;rw[Q]at P;obtain⟨r,_,l,w⟩:=VG (Lp:=λ_=>True) (NK:=True) (tk:=tk) (tk':=tk') (b0:=b0) (λ_ _ _ _ _ _=>trivial) (λk j c hc _=>by
  obtain⟨d,hd,hP⟩:=VH (tk:=tk) (tk':=tk') (k:=k) (j:=j) H o (show m<=60 by omega) hc
  refine⟨d,hd,?_⟩;rcases hP with rfl|⟨us,rfl,f⟩
  .exact .inl ⟨rfl,trivial⟩
  .exact .inr ⟨us,rfl,f,λ_ _=>trivial⟩) rfl rfl ∅ ∅ (aJ (eB hp N) #[]) ∅ trivial
 have R:Y (rT (n+10)) st (.a 1 (.a 2 (.u (.m (.f 27 (.a 0 (.u (.i 9)))) (.bin .LShift (.i 1) (.x 1 1)))))) (El tk tk' m rs rs' (aa E) x4 ab) (.tup [pgD tk m rs,pgD tk' m rs',.int (b0:Int)]):=.cons () (.cons () (.cons (by
  rw[<-Q];exact .md (YW (k:=9) (n:=n+9) g ∅ hn ()) (.shl (.ixt (j:=1) (xs:=[tk,.int (m:Int),.tup (rs.map rwE)]) () () rfl) ∅) z) .nil))
 obtain⟨p,d5,C,A,B⟩:=Qo R (w (n+2));cases r with
 |none=>
  cases B;exact⟨p,_,(Zc (Zn C)).trans ((Ys rfl).trans Zf),A⟩
 |some ws=>
  obtain⟨j,b,rfl,O⟩:=B;obtain⟨h,_⟩:=l ws rfl;have wl:ws.length<=169:=aJ (Xn h.nd h.bd) N;rcases hF with⟨rfl,hK⟩|⟨us,rfl,hC,_,_⟩
  .exact au h.kp (hK ws)
  .have T:Y (rT (n+10)) p (.or (.cmp .Is (.v 3) (.c .non)) (.not (.f 55 (.a 3 (.s 5))))) (El tk tk' m rs rs' (aa (.tup (us.map trD))) x4 (jL j)) (.bl af):=.or (k:=af) (m:=af) () λ_=>.not (k:=ae) (.call (xs:=[.tup (us.map trD),.lst j]) () (Zbu (n:=n+9) O ∅ h.nd λu hu=>hC.lo u hu ws h.kp))
   obtain⟨L,e2,M⟩:=T p .refl;have q:=M.get O;have K:=λs=>W9 (n:=n+1) (s:=s) (tk:=tk) (tk':=tk') (us:=ws) H o ∅ (λt G=>(h.bd t G).2.2) ∅
   have J:=λs=>W9 (n:=n+1) (s:=s) (tk:=tk) (tk':=tk') (us:=ws.reverse) H o ∅ (λt G=>(h.bd t (fE.mp G)).2.2) (by rw[cV];omega)
   simp only[Zef,h.kB]at K J;have S:Y (rT (n+10)) L (.or (.cmp .IsNot (.f 204 (.a 1 (.a 2 (.u (.tOf (.v 5)))))) (.c (.bl ae))) (.cmp .IsNot (.f 204 (.a 1 (.a 2 (.u (.tOf (.rs af (.v 5))))))) (.c (.bl ae)))) (El tk tk' m rs rs' (aa (.tup (us.map trD))) x4 (jL j)) (.bl af):=
    .or (k:=af) (m:=af) (.cmp (x:=.bl ae) (y:=.bl ae) (.call (xs:=[pgD tk m rs,pgD tk' m rs',.tup (ws.map trD)]) (.cons () (.cons () (.cons (.tof q ()) .nil))) (K _)) () λ_=>rfl) λ_=>
     .cmp (x:=.bl ae) (y:=.bl ae) (.call (xs:=[pgD tk m rs,pgD tk' m rs',.tup (ws.reverse.map trD)]) (.cons () (.cons () (.cons (Lv.tof (e:=.rs af (.v 5)) (by
      rw[eM];exact λst g=>by
       obtain⟨p,Z,C,_,B,A⟩:=Ln.rev (F:=rT (n+10)) (e:=.v 5) (U:=El tk tk' m rs rs' (aa (.tup (us.map trD))) x4 (jL j)) q () st g;exact⟨p,Z,_,C,B,A⟩)) .nil))) (J _)) () λ_=>rfl
   obtain⟨W,e3,X⟩:=S L .refl;exact⟨W,_,(Zc (Zn C)).trans ((ZY rfl).trans ((Zc ((Ys e2).trans Zf)).trans ((Zc ((Ys e3).trans Zf)).trans Zf))),A.trans (M.trans X)⟩
def Zbl{p q r:CS}{st':Za}(h:ex F (.seq p q) U st=aa (.nx U',st')):ex F (.seq p (.seq q r)) U st=ex F r U' st':=by
 have h:Yq (ex F p) (ex F q) U st=aa (.nx U',st'):=h;show Yq (ex F p) (Yq (ex F q) (ex F r)) U st=_;unfold Yq at h ⊢
 cases e:ex F p U st with
 |none=>rw[e]at h;cases h
 |some y=>
  obtain⟨y,s1⟩:=y;rw[e]at h;cases y with
  |nx a=>
   have h:ex F q a s1=aa (.nx U',st'):=h;show(match ex F q a s1 with|some (.nx U',st')=>ex F r U' st'|r=>r)=_
   rw[h]
  |rt _=>cases h
  |bk _=>cases h
  |ct _=>cases h
def Jc(n:Nat)(w:ns.length<=63):∃ st',rT (n+11) 16 [.lst 0] [(af,ns.map .int)]=aa (.bl ae,st'):=by
 obtain⟨d0,g,W,R,tk,tk',m,rs,rs',rfl,z,q,b,A,c⟩:=Ze6 (n:=n+4) w;have E:=Zbb A c;have O:=ZaS z;obtain⟨d,hd,Q⟩:=Zbs (tk:=tk) (tk':=tk') q b rfl rfl ∅ (show(rs.length+1) * (rs'.length+1)<=400 by omega) ∅ (aJ (eB O E) #[])
 have B:Fd tk tk' m rs rs' d:=by
  rcases Q with h|⟨us,rfl,l,P⟩
  .exact .inl h
  .exact .inr ⟨us,rfl,l,P,aJ (Xn l.nd l.bd) E⟩
 have V:ex (rT (n+10)) (.set2 1 2 (.f 47 (.s 0))) [jL 0,ab,ab,ab,ab,ab] (S0 ns)=aa (.nx (El tk tk' m rs rs' ab ab ab),g):=by
  have e:ev (rT (n+10)) (.f 47 (.s 0)) [jL 0,ab,ab,ab,ab,ab] (S0 ns)=aa (.tup [pgD tk m rs,pgD tk' m rs'],g):=W;show WG 1 2 (ev (rT (n+10)) _) _ (S0 ns)=_;unfold WG;rw[e];rfl
 have J:Y (rT (n+10)) g (.f 201 (.a 1 (.s 2))) (El tk tk' m rs rs' ab ab ab) d:=.call (xs:=[pgD tk m rs,pgD tk' m rs']) () (hd (n+2) g);obtain⟨K,U,N⟩:=J g .refl;obtain⟨X,x4,T,M⟩:=Zcf (n:=n) (st:=K) q b z A c B;have H:=R.trans (N.trans M);obtain⟨p,D,S,L⟩:=Zaj (n:=n) (x4:=x4) w q b z A c H B
 have G:=H.trans L
 suffices h:∃ t,ex (rT (n+10)) (tlC 6 c_law_k42.body) (El tk tk' m rs rs' (aa d) x4 D) p=aa (.rt (.bl ae),t) by
  obtain⟨y,C⟩:=h;exact⟨y,U1 (v:=c_law_k42) rfl rfl ((Zc V).trans ((Zc (Zn U)).trans ((Zbl T).trans ((Zbl S).trans C))))⟩
 rcases B with⟨rfl,_⟩|⟨us,rfl,l,_,Z⟩
 .exact⟨p,Zq ((ZY rfl).trans (Zq (Z6 rfl)))⟩
 .have F:=Zm (ceI ns 8) (j:=5) #[]
  obtain⟨x,o⟩:∃ x:Nat,ceI ns 8 % 5=(x:Int):=⟨_,(bY F.1).symm⟩;rw[o]at F;have I:Y (rT (n+10)) p (.f 295 (.a 3 (.a 1 (.a 2 (.aC (.k (.f 27 (.a 0 (.u (.i 8)))) (.i 5)) (.u (.m (.f 27 (.a 0 (.u (.i 8)))) (.i 5)))))))) (El tk tk' m rs rs' (aa (.tup (us.map trD))) x4 D) (.bl ae):=
   .call (xs:=[.tup (us.map trD),pgD tk m rs,pgD tk' m rs',.int (ceI ns 8 / 5),.int (x:Int)]) (.cons () (.cons () (.cons () (.cons (.fd (YW (k:=8) (n:=n+9) G ∅ w ()) () #[]) (.cons (by rw[<-o];exact .md (YW (k:=8) (n:=n+9) G ∅ w ()) () #[]) .nil))))) (ZdF (n:=n) q b ∅ l ∅ ∅)
  obtain⟨y,C,_⟩:=I p .refl;exact⟨y,(Zc ((Ys rfl).trans Zf)).trans (Zq (Z6 C))⟩
end
end
end Dp
namespace PySem.W.Fast
local macro_rules|`(command|universe $xs*)=>do return Lean.mkNullNode (← xs.mapM fun x=>`(def $x :=gF))
universe tw10998051862724547563 tw15954798720887134133 tw15773064055404877606 tw13150941590600208856 tw740338818857645520 tw5949110171492136744 tw8945540682452027511 tw17144411034005460346 tw3146543783008641669 tw16734193886324395522 tw5574491211112780073 tw8368380606119299124 tw3121345862167868788 tw14748751724896686540 tw10231351699486395949 tw4015013630535664500 tw4972254095815321689 tw9315819531396922275 tw10613741206394419926 tw12488303699090924856 tw13931156949295759333 tw17408407502920282757 tw5710578479163608206 tw2330108583938521609 tw18042507855367040242 tw14136103468610610985 tw4338790864069446324 tw1071281461686787120 tw13997683544971487150 tw2094314497993707249 tw484942382896233118 tw8564057504860102088 tw14752925656705183931 tw3509471689799257111 tw6841113591045696138 tw16373578995083416281 tw5099272274581992989 tw13828216988311961521 tw4910596382763979158 tw5574951048464681027 tw12077341798843364313 tw5722156936694576654 tw17725899487426320820 tw10456480391211480823 tw16038916570803336172 tw13180245820082324303 tw9501794618229189235 tw9373193755511518260 tw9833374816515182952 tw12542690334686841556 tw17706101036347365733 tw4923297926593867295 tw13245632152826866206 tw5402354257070893505 tw5771202098098480710 tw9162330809704606690 tw4413963575106622155 tw5939993584960485858 tw419517271142988125 tw16727250453189670800 tw1038657065265705652 tw10464400353288972746 tw14823811948090494857 tw5403802547319060521 tw4583092075051315297 tw7403769482181554922 tw12181954046838557984 tw15201449589863821777 tw7368679432752307838 tw7396701412245943409 tw14426128190845934392 tw4171010017321026944 tw6322920326001897068 tw16984904663822919348 tw11456213606781530873 tw14710617352707649915 tw5149554354815005171 tw16041259197062493395 tw9515227808226136179 tw18257212592886945904 tw13726129702961201262 tw17212142641397160409 tw12549214897416924374 tw7511609496978336245 tw8313636102158112658 tw57442838299973809 tw618159503054630785 tw10748921151398839535 tw1160793125956631584 tw10014212128771509411 tw13204047591014828802 tw1641548361573803889 tw6463879917843877166 tw953611714777465662 tw1608825763922663797 tw3177139375058439623 tw12431764410777000966 tw15739289079281639137 tw1860376907700552105 tw13054942060318716526 tw9569564467519448448 tw16458230467184007533 tw3705411424850426432 tw6543733480190556737 tw13167240858921312110 tw11011030448390351040 tw17239766349276347036 tw90275060331712996 tw3756906858318205694 tw397364157394739741 tw1104955690146144551 tw7405499887628046305 tw4618605636460635265 tw18207787172044090301 tw13833353687516039062 tw8936104480362844693 tw4957237406609396222 tw14661449772918157941 tw13773934602573205419 tw1565485135508793179 tw3202064855922942238 tw4864709600442919840 tw3306876920993566957 tw17207696453896931035 tw8761634163427777984 tw11027154764395024008 tw4547825955466918197 tw14976704028528350160 tw327846162128829153 tw2886909725290671650 tw5018391226756626665 tw16034422232976642348 tw12213604638718328775 tw11176358674334803176 tw18335319382704238950 tw2616535715385144348 tw11447120080678285344 tw16506758971922011571 tw3013738681688612923 tw2396571788395193235 tw3390949314140607475 tw6867660062410253402 tw18055383514929610376 tw14749702076767933938 tw11312330300352695156 tw13840815684391067801 tw4439054924362130961 tw13261972138117779886 tw6757307299492737335 tw2513753184653604401 tw6494676585823428855 tw7960240329124759059 tw13434627451679409339 tw1862452288945383546 tw2952976400191037717 tw14213426631286871579 tw14302466044849661365 tw7755863678785315759 tw7036072707294732087 tw15581742475032763192 tw8263651226859495108 tw8638099061744022618 tw16348786816759179520 tw16879456658976734506 tw1862318258027635563 tw5517761071115455421 tw1678352858047794880 tw17216258551528691524 tw14672945546503822419 tw6308556162043113919 tw16183893220100374833 tw10896766000769322640 tw9388476957560912570 tw13649112762760696664 tw10382433343324608559 tw16337061084853850354 tw2733469100058195875 tw2802071328469951545 tw15032904405186030119 tw15192559485834062042 tw3653265124406250813 tw15665702512465134737 tw13057438884163886806 tw6788547650156244614 tw15338015136461088786 tw4241544648403349722 tw10361522002768523007 tw15489250101223595848 tw5809114286218542363 tw15884188889080898552 tw13633798292665874990 tw16652482738916398888 tw14039034728172185624 tw9881704752953443103 tw13342493962084931630 tw15932116018672319752 tw6967571023046718295 tw9514934366239356904 tw3037422753898331331 tw9476828160595093184 tw2158941562795555813 tw6076083805099051484 tw1196421946407713536 tw8685244516746400346 tw11993564010266105277 tw16202669826023644790 tw4859032073585726305 tw13956814055709367916 tw11377154750874710980 tw7172815894040255117 tw3191937786306722417 tw7634570683978749808 tw14340263285373594099 tw14998769593608654821 tw2816146120763016921 tw8507312232321195248 tw788663571353402505 tw933017977730964654
end PySem.W.Fast
namespace Dp
open PySem L2
noncomputable def top(i:Nat):Stmt:=PySem.Challenge.pw_fakehunt_k42_least_papers.main.body.getD i (.Pass ⟨0,0,0,0⟩)
def G:Gs:=[(S "OPERAND_PLACES",GV.dct [(S "put"),(S "if"),(S "tell"),(S "go"),(S "skip")] [(.tup [(.int 2),(.int 4)]),(.tup [(.int 1),(.int 3)]),(.tup [(.int 1)]),(.tup []),(.tup [])]),(S "replaced",GV.fn 42 3 []),(S "operand_places",GV.fn 113 1 []),(S "bit_of",GV.fn 43 1 []),(S "all_bits",GV.fn 56 1 []),(S "has_bit",GV.fn 114 2 []),(S "without_bit",GV.fn 57 2 []),(S "are_within",GV.fn 45 2 []),(S "LOWEST",GV.c (.int (-1000000000))),(S "HIGHEST",GV.c (.int 999999999)),(S "HALF",GV.c (.int 1000000000)),(S "RING",GV.c (.int 2000000000)),(S "around",GV.fn 0 1 []),(S "divided",GV.fn 1 2 []),(S "left_over",GV.fn 2 2 []),(S "reckon",GV.fn 3 3 []),(S "is_so",GV.fn 4 3 []),(S "NOUGHT",GV.c (.tup [(.str (S "number")),(.int 0)])),(S "ONE",GV.c (.tup [(.str (S "number")),(.int 1)])),(S "SKIP",GV.c (.tup [(.str (S "skip"))])),(S "are_numbers",GV.fn 73 2 []),(S "lesser_first",GV.fn 74 3 []),(S "less_as_more",GV.fn 75 1 []),(S "without_reckoning",GV.fn 76 1 []),(S "made_put",GV.fn 77 1 []),(S "greater_as_less",GV.fn 78 1 []),(S "is_settled",GV.fn 79 1 []),(S "settled",GV.fn 80 1 []),(S "most_as_less",GV.fn 81 1 []),(S "made_if",GV.fn 82 2 []),(S "made_row",GV.fn 83 2 []),(S "END",GV.c (.tup [(.str (S "end"))])),(S "row_at",GV.fn 115 2 []),(S "ends_run",GV.fn 116 1 []),(S "reads_only",GV.fn 117 2 []),(S "end_alike",GV.fn 118 3 []),(S "choose_alike",GV.fn 119 3 []),(S "staying",GV.fn 120 3 []),(S "places_behind",GV.fn 121 2 []),(S "follow",GV.fn 122 5 []),(S "found_paper",GV.fn 201 2 []),(S "stands",GV.fn 202 2 []),(S "is_walked",GV.fn 203 4 []),(S "paper_kept",GV.fn 204 3 []),(S "_law_cell_at",GV.fn 27 2 []),(S "_law_small",GV.fn 20 1 []),(S "_law_operand",GV.fn 28 2 []),(S "_law_row",GV.fn 29 3 []),(S "_law_jumps",GV.fn 123 2 []),(S "_law_mirrored",GV.fn 124 1 []),(S "_law_doubled",GV.fn 125 2 []),(S "_law_rows",GV.fn 126 3 []),(S "_law_two",GV.fn 47 1 []),(S "_law_closed",GV.fn 294 3 []),(S "_law_under",GV.fn 55 2 []),(S "_law_no_less",GV.fn 295 5 []),(S "law",GV.fn 16 1 []),(S "len",GV.blt),(S "range",GV.blt),(S "tuple",GV.blt),(S "list",GV.blt),(S "int",GV.blt),(S "bool",GV.blt),(S "str",GV.blt),(S "min",GV.blt),(S "max",GV.blt),(S "isinstance",GV.blt),(S "all",GV.blt),(S "any",GV.blt),(S "zip",GV.blt),(S "sorted",GV.blt),(S "enumerate",GV.blt),(S "set",GV.blt)]
def Zgk(i k:Nat):Stmt:=match top i with
 |.ClassDef _ _ _ b _ _ _ _ _ _ _=>b.getD k (.Pass ⟨0,0,0,0⟩)
 |s=>s
abbrev Cmp(i:Nat)(N:Li Str)(k:Nat)(c:FD):Prop:=Zbn G (top i) N (N.take k) c.body
abbrev Cmt(i j:Nat)(N:Li Str)(k:Nat)(c:FD):Prop:=Zbn G (Zgk i j) N (N.take k) c.body
abbrev fA9(K:Fg)(x:Str)(i:Nat):Prop:=FnAt K x (top i)
abbrev kO9(K:Fg)(a b:Ad):Prop:=W.kitOne K (.ref a) (.ref b)=aa ae
abbrev nN9(K:Fg)(x:Str):Prop:=W.nsIn K a8 x=aa ab
abbrev nV9(K:Fg)(x:Str)(v:vL):Prop:=W.nsIn K a8 x=aa (aa v)
local macro_rules
 |`(tactic| trivial)=>`(tactic| exact⟨⟨rfl,rfl,rfl,by decide +kernel,rfl,by decide +kernel,by decide +kernel⟩,by unfold L2.Loc;decide +kernel,by kernel_rfl⟩)
def q_2:Cmp 2 ["things","i","thing"] 3 Xj:=by trivial
def q_3:Cmp 3 ["row"] 1 Z8:=by trivial
def q_4:Cmp 4 ["i","bit","times"] 1 Wj:=by trivial
def q_5:Cmp 5 ["many"] 1 Xh:=by trivial
def q_6:Cmp 6 ["bits","i"] 2 XG:=by trivial
def q_7:Cmp 7 ["bits","i"] 2 Yx:=by trivial
def q_8:Cmp 8 ["few","bits"] 2 YF:=by trivial
def Zgn:Cmp 14 ["number"] 1 Wi:=by trivial
def Zgo:Cmp 15 ["one","other"] 2 Y9:=by trivial
def Zgp:Cmp 16 ["one","other"] 2 Yt:=by trivial
def Zgq:Cmp 17 ["one","sign","other"] 3 Wm:=by trivial
def Zgr:Cmp 18 ["one","sign","other"] 3 Vd:=by trivial
def Zgs:Cmp 23 ["y","z"] 2 Yw:=by trivial
def Zgt:Cmp 24 ["row","i","j"] 3 Z1:=by trivial
def Zgu:Cmp 25 ["row"] 1 Z0:=by trivial
def Zgv:Cmp 26 ["row","y","sign","z"] 1 ZN:=by trivial
def Zgw:Cmp 27 ["row"] 1 Xi:=by trivial
def Zgx:Cmp 28 ["row"] 1 ZZ:=by trivial
def Zgy:Cmp 29 ["row"] 1 YH:=by trivial
def Zgz:Cmp 30 ["row","so"] 1 XI:=by trivial
def ZgA:Cmp 31 ["row","y","z"] 1 Ym:=by trivial
def ZgB:Cmp 32 ["row","k"] 2 XH:=by trivial
def ZgC:Cmp 33 ["row","k"] 2 ZT:=by trivial
def ZgD:Cmp 36 ["program","k"] 2 Xp:=by trivial
def ZgE:Cmp 37 ["row"] 1 YG:=by trivial
def ZgF:Cmp 38 ["row","bits","i"] 2 YJ:=by trivial
def ZgG:Cmp 39 ["row","beside","bits"] 3 YU:=by trivial
def ZgH:Cmp 40 ["row","beside","bits"] 3 ZI:=by trivial
def ZgI:Cmp 41 ["row","beside","bits","each"] 3 XJ:=by trivial
def ZgJ:Cmp 42 ["row","k"] 2 ZE:=by trivial
def ZgK:Cmp 43 ["one","other","k","j","bits","row","beside","stay","triples","place"] 5 Wl:=by trivial
def ZgL:Cmp 45 ["one","other","paper","ahead","pair","triples","k","j","stay","bits"] 2 Yb:=by trivial
def ZgM:Cmp 47 ["triple","known","pair"] 2 Wn:=by trivial
def ZgN:Cmp 48 ["one","other","triple","known","triples"] 4 YV:=by trivial
def ZgO:Cmp 49 ["one","other","paper","known","k","j","bits"] 3 YI:=by trivial
def ZgP:Cmp 51 ["_law_script","_law_k"] 2 Yj:=by trivial
def ZgQ:Cmp 52 ["_law_cell"] 1 YE:=by trivial
def ZgR:Cmp 53 ["_law_cell","_law_many"] 2 Yl:=by trivial
def ZgS:Cmp 54 ["_law_cells","_law_many","_law_size","_law_one","_law_other"] 3 Xg:=by trivial
def ZgT:Cmp 55 ["_law_row_here","_law_places"] 2 ZC:=by trivial
def ZgU:Cmp 56 ["_law_row_here","_law_sign"] 1 Zp:=by trivial
def ZgV:Cmp 57 ["_law_rows_here","_law_cell","_law_size","_law_found","_law_copy","_law_k","_law_far"] 2 Yk:=by trivial
def ZgW:Cmp 58 ["_law_script","_law_many","_law_way","_law_size","_law_rows_here","_law_k"] 3 YT:=by trivial
def ZgX:Cmp 59 ["_law_script","_law_head","_law_taken","_law_many","_law_way","_law_rows_here","_law_size","_law_others","_law_at","_law_fresh","_law_one","_law_other"] 1 c__law_two:=by trivial
def ZgY:Cmp 60 ["_law_one","_law_other","_law_start","_law_agreed","_law_waiting","_law_k","_law_j","_law_following","_law_at","_law_to","_law_left","_law_old"] 3 c__law_closed:=by trivial
def ZgZ:Cmp 61 ["_law_found","_law_wide","_law_agreed","_law_k","_law_j","_law_bits"] 2 c__law_under:=by trivial
def Zg0:Cmp 62 ["_law_found","_law_one","_law_other","_law_cell","_law_name","_law_at","_law_k","_law_j","_law_bits"] 5 c__law_no_less:=by trivial
def ZfG:Cmp 63 ["_law_script","_law_one","_law_other","_law_found","_law_due","_law_wide"] 1 c_law_k42:=by trivial
@[reducible] noncomputable def tab (l:Li (Nat×Ad)):ClsTab:=⟨λi=>(l.lookup i).getD 0⟩
section
variable [ct:ClsTab]
def ZdN{Pm:Params}{K:Fg}{h:bq}{mg:Str->Ot vL}{fa:Ad}(X:K.In h)(a:h.Ns a8 mg)(hfa:mg "law"=aa (.ref fa)){A0 f e d c b A17 Z Y V:Ad}{E l k j i g D C B A:Obj}{ep0 U R Q P O on17 on18 on19 on31:Nat}{z q p y o n x m w r t8 t9 t10 t11 M L J I H F:Tok}(g0:nV9 K "OPERAND_PLACES" (.ref A0))(d0:K.lookup A0=aa E)(f0c:E.cls=.type "dict")(f0d:E.dict=ab)(f0s:E.slots=#[])(e0:E.data=.dict #[⟨bx Pm "put",.str "put" z,.ref f⟩,⟨bx Pm "if",.str "if" y,.ref e⟩,⟨bx Pm "tell",.str "tell" x,.ref d⟩,⟨bx Pm "go",.str "go" w,.ref c⟩,⟨bx Pm "skip",.str "skip" r,.ref b⟩] ep0)(s0:(A0==bu)=af)(h0_0:K.lookup f=aa l)(i0_0:l.cls=.type "tuple")(j0_0:l.data=.seq #[.int (2) q,.int (4) p] U)(h0_1:K.lookup e=aa k)(i0_1:k.cls=.type "tuple")(j0_1:k.data=.seq #[.int (1) o,.int (3) n] R)(h0_2:K.lookup d=aa j)(i0_2:j.cls=.type "tuple")(j0_2:j.data=.seq #[.int (1) m] Q)(h0_3:K.lookup c=aa i)(i0_3:i.cls=.type "tuple")(j0_3:i.data=.seq #[] P)(h0_4:K.lookup b=aa g)(i0_4:g.cls=.type "tuple")(j0_4:g.data=.seq #[] O)(a1:fA9 K "replaced" 2)(a2:fA9 K "operand_places" 3)(a3:fA9 K "bit_of" 4)(a4:fA9 K "all_bits" 5)(a5:fA9 K "has_bit" 6)(a6:fA9 K "without_bit" 7)(a7:fA9 K "are_within" 8)(g8:nV9 K "LOWEST" (.int (-1000000000) t8))(g9:nV9 K "HIGHEST" (.int (999999999) t9))(g10:nV9 K "HALF" (.int (1000000000) t10))(g11:nV9 K "RING" (.int (2000000000) t11))(a12:fA9 K "around" 14)(a13:fA9 K "divided" 15)(a14:fA9 K "left_over" 16)(a15:fA9 K "reckon" 17)(a16:fA9 K "is_so" 18)(g17:nV9 K "NOUGHT" (.ref A17))(d17:K.lookup A17=aa D)(f17c:D.cls=.type "tuple")(e17:D.data=.seq #[.str ("number") M,.int (0) L] on17)(g18:nV9 K "ONE" (.ref Z))(d18:K.lookup Z=aa C)(f18c:C.cls=.type "tuple")(e18:C.data=.seq #[.str ("number") J,.int (1) I] on18)(g19:nV9 K "SKIP" (.ref Y))(d19:K.lookup Y=aa B)(f19c:B.cls=.type "tuple")(e19:B.data=.seq #[.str ("skip") H] on19)(a20:fA9 K "are_numbers" 23)(a21:fA9 K "lesser_first" 24)(a22:fA9 K "less_as_more" 25)(a23:fA9 K "without_reckoning" 26)(a24:fA9 K "made_put" 27)(a25:fA9 K "greater_as_less" 28)(a26:fA9 K "is_settled" 29)(a27:fA9 K "settled" 30)(a28:fA9 K "most_as_less" 31)(a29:fA9 K "made_if" 32)(a30:fA9 K "made_row" 33)(g31:nV9 K "END" (.ref V))(d31:K.lookup V=aa A)(f31c:A.cls=.type "tuple")(e31:A.data=.seq #[.str ("end") F] on31)(a32:fA9 K "row_at" 36)(a33:fA9 K "ends_run" 37)(a34:fA9 K "reads_only" 38)(a35:fA9 K "end_alike" 39)(a36:fA9 K "choose_alike" 40)(a37:fA9 K "staying" 41)(a38:fA9 K "places_behind" 42)(a39:fA9 K "follow" 43)(a40:fA9 K "found_paper" 45)(a41:fA9 K "stands" 47)(a42:fA9 K "is_walked" 48)(a43:fA9 K "paper_kept" 49)(a44:fA9 K "_law_cell_at" 51)(a45:fA9 K "_law_small" 52)(a46:fA9 K "_law_operand" 53)(a47:fA9 K "_law_row" 54)(a48:fA9 K "_law_jumps" 55)(a49:fA9 K "_law_mirrored" 56)(a50:fA9 K "_law_doubled" 57)(a51:fA9 K "_law_rows" 58)(a52:fA9 K "_law_two" 59)(a53:fA9 K "_law_closed" 60)(a54:fA9 K "_law_under" 61)(a55:fA9 K "_law_no_less" 62)(a56:fA9 K "law" 63)(z57:nN9 K "len")(z58:nN9 K "range")(z59:nN9 K "tuple")(z60:nN9 K "list")(z61:nN9 K "int")(z62:nN9 K "bool")(z63:nN9 K "str")(z64:nN9 K "min")(z65:nN9 K "max")(z66:nN9 K "isinstance")(z67:nN9 K "all")(z68:nN9 K "any")(z69:nN9 K "zip")(z70:nN9 K "sorted")(z71:nN9 K "enumerate")(z72:nN9 K "set") :
  Text Pm K mg G T/\∃ (fd:bp) (N:Li Str),(∀ (s:Sd) (u:vL),BindsTo s fd ⟨[u],[]⟩ [(S "_law_script",u)])/\DefOk K mg G T "law" 16 [] fa fd [S "_law_script"] N:=by
 exact⟨ZcX (⟨⟨A0,E,#[⟨bx Pm "put",.str "put" z,.ref f⟩,⟨bx Pm "if",.str "if" y,.ref e⟩,⟨bx Pm "tell",.str "tell" x,.ref d⟩,⟨bx Pm "go",.str "go" w,.ref c⟩,⟨bx Pm "skip",.str "skip" r,.ref b⟩],ep0,W.mg_of X a g0,d0,⟨f0c,f0d,f0s⟩,e0,s0,(by decide),(show EsOk Pm K [⟨bx Pm "put",.str "put" z,.ref f⟩,⟨bx Pm "if",.str "if" y,.ref e⟩,⟨bx Pm "tell",.str "tell" x,.ref d⟩,⟨bx Pm "go",.str "go" w,.ref c⟩,⟨bx Pm "skip",.str "skip" r,.ref b⟩] _ _ from .cons (v:=.ref f) (t:=z) rfl rfl (show RelV (.ref f) (.ref f) from rfl) (λ_ _=>.tup (xs:=[.int (2),.int (4)]) (.inr ⟨l,#[.int (2) q,.int (4) p],U,h0_0,i0_0,j0_0,(show(2:Nat)<=ay by decide),.cons ⟨_,rfl⟩ (.cons ⟨_,rfl⟩ (.nil))⟩) (.cons (.int _) (.cons (.int _) (.nil)))) (.cons (v:=.ref e) (t:=y) rfl rfl (show RelV (.ref e) (.ref e) from rfl) (λ_ _=>.tup (xs:=[.int (1),.int (3)]) (.inr ⟨k,#[.int (1) o,.int (3) n],R,h0_1,i0_1,j0_1,(show(2:Nat)<=ay by decide),.cons ⟨_,rfl⟩ (.cons ⟨_,rfl⟩ (.nil))⟩) (.cons (.int _) (.cons (.int _) (.nil)))) (.cons (v:=.ref d) (t:=x) rfl rfl (show RelV (.ref d) (.ref d) from rfl) (λ_ _=>.tup (xs:=[.int (1)]) (.inr ⟨j,#[.int (1) m],Q,h0_2,i0_2,j0_2,(show(1:Nat)<=ay by decide),.cons ⟨_,rfl⟩ (.nil)⟩) (.cons (.int _) (.nil))) (.cons (v:=.ref c) (t:=w) rfl rfl (show RelV (.ref c) (.ref c) from rfl) (λ_ _=>.tup (xs:=[]) (.inr ⟨i,#[],P,h0_3,i0_3,j0_3,(show(0:Nat)<=ay by decide),.nil⟩) (.nil)) (.cons (v:=.ref b) (t:=r) rfl rfl (show RelV (.ref b) (.ref b) from rfl) (λ_ _=>.tup (xs:=[]) (.inr ⟨g,#[],O,h0_4,i0_4,j0_4,(show(0:Nat)<=ay by decide),.nil⟩) (.nil)) (.nil))))))⟩,gD X a a1 q_2 rfl (gD X a a2 q_3 rfl (gD X a a3 q_4 rfl (gD X a a4 q_5 rfl (gD X a a5 q_6 rfl (gD X a a6 q_7 rfl (gD X a a7 q_8 rfl (gI X a g8 (gI X a g9 (gI X a g10 (gI X a g11 (gD X a a12 Zgn rfl (gD X a a13 Zgo rfl (gD X a a14 Zgp rfl (gD X a a15 Zgq rfl (gD X a a16 Zgr rfl (⟨⟨.ref A17,.ref A17,W.mg_of X a g17,rfl,λ_ _=>.tup (xs:=[.str ("number"),.int (0)]) (.inr ⟨D,#[.str ("number") M,.int (0) L],on17,d17,f17c,e17,(show(2:Nat)<=ay by decide),.cons ⟨_,rfl⟩ (.cons ⟨_,rfl⟩ (.nil))⟩) (.cons (.str _) (.cons (.int _) (.nil)))⟩,⟨⟨.ref Z,.ref Z,W.mg_of X a g18,rfl,λ_ _=>.tup (xs:=[.str ("number"),.int (1)]) (.inr ⟨C,#[.str ("number") J,.int (1) I],on18,d18,f18c,e18,(show(2:Nat)<=ay by decide),.cons ⟨_,rfl⟩ (.cons ⟨_,rfl⟩ (.nil))⟩) (.cons (.str _) (.cons (.int _) (.nil)))⟩,⟨⟨.ref Y,.ref Y,W.mg_of X a g19,rfl,λ_ _=>.tup (xs:=[.str ("skip")]) (.inr ⟨B,#[.str ("skip") H],on19,d19,f19c,e19,(show(1:Nat)<=ay by decide),.cons ⟨_,rfl⟩ (.nil)⟩) (.cons (.str _) (.nil))⟩,gD X a a20 Zgs rfl (gD X a a21 Zgt rfl (gD X a a22 Zgu rfl (gD X a a23 Zgv rfl (gD X a a24 Zgw rfl (gD X a a25 Zgx rfl (gD X a a26 Zgy rfl (gD X a a27 Zgz rfl (gD X a a28 ZgA rfl (gD X a a29 ZgB rfl (gD X a a30 ZgC rfl (⟨⟨.ref V,.ref V,W.mg_of X a g31,rfl,λ_ _=>.tup (xs:=[.str ("end")]) (.inr ⟨A,#[.str ("end") F],on31,d31,f31c,e31,(show(1:Nat)<=ay by decide),.cons ⟨_,rfl⟩ (.nil)⟩) (.cons (.str _) (.nil))⟩,gD X a a32 ZgD rfl (gD X a a33 ZgE rfl (gD X a a34 ZgF rfl (gD X a a35 ZgG rfl (gD X a a36 ZgH rfl (gD X a a37 ZgI rfl (gD X a a38 ZgJ rfl (gD X a a39 ZgK rfl (gD X a a40 ZgL rfl (gD X a a41 ZgM rfl (gD X a a42 ZgN rfl (gD X a a43 ZgO rfl (gD X a a44 ZgP rfl (gD X a a45 ZgQ rfl (gD X a a46 ZgR rfl (gD X a a47 ZgS rfl (gD X a a48 ZgT rfl (gD X a a49 ZgU rfl (gD X a a50 ZgV rfl (gD X a a51 ZgW rfl (gD X a a52 ZgX rfl (gD X a a53 ZgY rfl (gD X a a54 ZgZ rfl (gD X a a55 Zg0 rfl (gD X a a56 ZfG rfl (gB X a z57 (gB X a z58 (gB X a z59 (gB X a z60 (gB X a z61 (gB X a z62 (gB X a z63 (gB X a z64 (gB X a z65 (gB X a z66 (gB X a z67 (gB X a z68 (gB X a z69 (gB X a z70 (gB X a z71 (gB X a z72 (trivial)))))))))))))))))))))))))))))))))))))))))⟩)))))))))))⟩⟩⟩))))))))))))))))⟩),gL X a hfa a56 ZfG rfl λ_ _ _ _ _ _ _=>rfl⟩
def Zcm:∀ n,YQ G (run T n):=λ_=>ZbH
end
end Dp
open PySem PySem.W PyProof.Rows
local macro_rules
 |`(∅)=>`(.mk ?_ ?_ ?_ ?_)
set_option maxRecDepth 100000 in
set_option maxHeartbeats 0 in
theorem PySem.Challenge.cw_fakehunt_k42_least_papers_holds : PySem.Challenge.rw_fakehunt_k42_least_papers.Holds := by
 w_on;o_law;k_head;(case hw=>w_witness2)
 k_fill
 refine Dp.Jd (l:=PySem.Challenge.rw_fakehunt_k42_least_papers) (G:=Dp.G) (T:=Dp.T) (n:=11) (i:=16) (x := "_law_script") rfl rfl ⟨rfl,by decide,by decide⟩ (λw h Y=>PySem.W.kIn_of Y) Dp.Zcm ?F (λns hn=>Dp.Jc 0 hn)
 case F=>
  intro w mg fa h KX G0 hmg;refine' ⟨Dp.tab [],Dp.ZdN (ct:=Dp.tab []) (Pm:=w.params)  KX G0 hmg  ?_ ?_ ?_ ?_ ?_ ?_ ?_ ?_ ?_ ?_ ?_ ?_ ?_ ?_ ?_ ?_ ?_ ?_ ?_ ?_ ?_ ?_ ∅ ∅ ∅ ∅ ∅ ∅ ∅ ?_ ?_ ?_ ?_ ∅ ∅ ∅ ∅ ∅ ?_ ?_ ?_ ?_ ?_ ?_ ?_ ?_ ?_ ?_ ?_ ?_ ∅ ∅ ∅ ∅ ∅ ∅ ∅ ∅ ∅ ∅ ∅ ?_ ?_ ?_ ?_ ∅ ∅ ∅ ∅ ∅ ∅ ∅ ∅ ∅ ∅ ∅ ∅ ∅ ∅ ∅ ∅ ∅ ∅ ∅ ∅ ∅ ∅ ∅ ∅ ∅ ?_ ?_ ?_ ?_ ?_ ?_ ?_ ?_ ?_ ?_ ?_ ?_ ?_ ?_ ?_ ?_⟩
  all_goals (first|k_is|exact rfl|skip)
  all_goals (first|k_is|exact rfl|skip)

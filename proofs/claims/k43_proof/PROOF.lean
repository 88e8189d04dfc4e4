import PyProof.Rows.All
import Wide.All
import OpenK.AllK
import Wide.FinOn
import Lean
import PyProof.EqAt
import PyProof.EqKinds
import PyProof.TupleCall
import PyProof.TupleKey
import PyProof.DictWalks
import PyProof.DictItems
import KE.KPairComp
import KE.KUnpack
import KE.KSortAsk
import KE.KSortTup
import KE.KDictSum
import PySem.Challenge.RW_fakehunt_k43_whole_papers_hold
set_option Elab.async false
set_option linter.all false
set_option maxRecDepth 100000
set_option maxHeartbeats 4000000
set_option genSizeOf false
set_option genInjectivity false
set_option compiler.extract_closed false
set_option bootstrap.genMatcherCode false
def gE:=@Nat.le_refl
open PySem renaming sizeLine → ay,Expr → az,mainGlobals → a7,wpAny → a8,model → a9,Program → bf,starEach → bg,bootBuiltins → bh,Scope → bj,FuncData → bo,Heap → bp,World → bq,compareOp → br,sysModules → bt,Around → bu,binaryOp → bv
open PySem.PyData renaming keyHash → bw
open PySem.Value renaming ref → bx,none → bz
open Option renaming some → aa,none → ab
open Bool renaming true → ae,false → af
open List renaming replicate → ag,range → aj
open Decidable renaming decide → ak
def am:=@of_decide_eq_false
def ao:=@of_decide_eq_true
def aq:=@if_pos
def ar:=@if_neg
def au:=@absurd
def av:=@congrArg
def aw:=@Option.some.inj
def ax:=@Eq.symm
noncomputable section
def aB:=@Nat.le_refl
def aD:=@List.length_map
def aE:=@decide_eq_true
def aG:=@decide_eq_false
def aH:=@List.length_append
def aI:=@List.mem_singleton
def aJ:=@List.size_toArray
def aK:=@List.mem_cons
def aM:=@List.append_assoc
def aO:=@decide_eq_true_eq
def aP:=@Nat.le_trans
def aQ:=@List.getD_eq_getElem?_getD
def aR:=@List.mem_map
def aS:=@Nat.lt_of_lt_of_le
def aU:=@Nat.zero_le
def aV:=@List.mem_of_getElem?
def aW:=@List.map_cons
def aX:=@List.getElem?_map
def aY:=@List.length_cons
def aZ:=@List.length_take
def bA:=@List.getElem?_append_right
def bB:=@List.take_append_drop
def bC:=@Nat.ne_of_lt
def bD:=@List.append_nil
def bE:=@List.mem_append
def bF:=@List.getElem?_eq_some_iff
def bG:=@List.getElem?_append_left
def bH:=@List.getElem_mem
def bJ:=@Int.toNat_natCast
def bK:=@List.length_set
def bL:=@Bool.or_eq_true
def bM:=@List.map_map
def bN:=@List.length_range
def bP:=@List.mem_append_right
def bQ:=@List.mem_range
def bR:=@List.getElem?_set_self
def bT:=@List.all_cons
def bU:=@Nat.le_add_right
def bV:=@List.drop_eq_getElem_cons
def bX:=@List.getElem?_set_ne
def bY:=@List.nodup_cons
def bZ:=@Nat.min_eq_left
def cA:=@List.not_mem_nil
def cB:=@Int.toNat_of_nonneg
def cC:=@Nat.zero_add
def cD:=@Int.natCast_add
def cF:=@List.length_drop
def cG:=@Nat.max_eq_right
def cH:=@List.getElem?_take
def cI:=@List.drop_zero
def cJ:=@Nat.lt_irrefl
def cK:=@Bool.eq_iff_iff
def cL:=@Bool.or_false
def cM:=@List.any_cons
def cN:=@Nat.add_sub_cancel_left
def cP:=@List.take_length
def cQ:=@List.getElem?_eq_none
def cR:=@Nat.le_of_eq
def cT:=@List.replicate_succ
def cU:=@List.flatten_cons
def cV:=@List.mem_of_mem_drop
def cX:=@List.take_take
def cY:=@List.mem_of_mem_take
def cZ:=@List.all_eq_true
def dA:=@List.lookup_cons
def dB:=@List.mem_flatMap
def dC:=@List.mem_iff_getElem?
def dD:=@List.length_reverse
def dE:=@Nat.testBit_and
def dF:=@List.map_append
def dG:=@beq_eq_false_iff_ne
def dH:=@List.length_replicate
def dI:=@List.find?_cons
def dJ:=@List.length_nil
def dL:=@List.getElem?_drop
def dM:=@List.drop_drop
def dN:=@Nat.lt_or_ge
def dO:=@Bool.and_true
def dP:=@Nat.mod_two_eq_zero_or_one
def dQ:=@Nat.testBit_two_pow
def dR:=@List.mem_filter
def dS:=@Nat.le_of_lt
def dU:=@List.mem_append_left
def dW:=@Nat.lt_succ_self
def dZ:=@List.nil_append
def eA:=@Int.lt_of_lt_of_le
def eB:=@Nat.one_pos
def eC:=@Nat.sub_self
def eD:=@List.getElem?_eq_none_iff
def eE:=@Array.length_toList
def eG:=@Array.getElem?_toList
def eH:=@Nat.lt_trans
def eI:=@Option.map_eq_some_iff
def eJ:=@List.pairwise_append
def eK:=@Nat.add_sub_cancel
def eM:=@List.reverse_cons
def eN:=@Int.lt_of_le_of_lt
def eO:=@List.length_eq_zero_iff
def eP:=@List.drop_of_length_le
def eQ:=@List.cons_ne_nil
def eR:=@Bool.false_eq_true
def eS:=@Int.emod_nonneg
def eT:=@Bool.true_and
def eU:=@Nat.eq_of_testBit_eq
def eV:=@Int.natCast_nonneg
def eW:=@Nat.mul_le_mul
def eX:=@List.filterMap_cons
def eY:=@List.of_mem_zip
def eZ:=@Nat.le_of_not_lt
def fA:=@List.perm_append_comm
def fB:=@List.drop_length
def fC:=@List.pairwise_iff_getElem
def fD:=@List.take_of_length_le
def fE:=@List.pairwise_singleton
def fF:=@Bool.and_eq_true_iff
def fG:=@List.getElem?_toArray
def fH:=@List.pairwise_map
def fI:=@Bool.not_eq_true'
def fJ:=@Option.bind_eq_some_iff
def fK:=@Bool.or_eq_false_iff
def fL:=@Int.emod_lt_of_pos
def fM:=@Int.natCast_mul
def fN:=@List.flatMap_cons
def fO:=@Nat.zero_testBit
def fP:=@Bool.eq_false_iff
def fQ:=@List.getLastD_cons
def fR:=@List.getElem?_replicate
def fS:=@List.length_singleton
def fU:=@List.getElem?_cons_succ
def fV:=@List.dropLast_eq_take
def fW:=@List.mem_or_eq_of_mem_set
def fX:=@Nat.testBit_two_pow_sub_one
section
open PySem PySem.Spec PyProof.Rows
def aA:=@wpAny_bind
def aF:=@wpAny_pure
def aL:=@Heap.lt_size
def aT:=@Heap.get?_push_of_some
def bO:=@Heap.get?_push_size
def bS:=@wpAny_mono
end
abbrev Li.{u}(α:Type u):Type u:=List α
abbrev Ot.{u}(α:Type u):Type u:=Option α
abbrev vL:=PySem.Value
abbrev Ad:=PySem.Addr
abbrev Sd:=PySem.Shared
def Ob{α β:Type}{a:α}{f:α->Ot β}:(aa a).bind f=f a:=rfl
abbrev Fg:=PySem.W.Frag
def Ba(a b:Bool):((a&&b)=ae)=(a=ae/\b=ae):=Bool.and_eq_true a b
def Lg{α:Type _}{l:Li α}{i:Nat}(h:i<l.length):l[i]?=aa l[i]:=List.getElem?_eq_getElem h
def Lm{α:Type _}(y:α){a:α}{l:Li α}(h:a∈l):a∈y::l:=List.mem_cons_of_mem y h
def Ls{α:Type _}{a:α}{l:Li α}:a∈a::l:=List.mem_cons_self
def Bf:¬af=ae:=Bool.false_ne_true
namespace L2
open PySem PySem.Spec PyProof.Rows
abbrev Key:=Sum Int Str
noncomputable def keyIs:Key->vL->Bool
  |.inl k,v=>Value.isInt k v
  |.inr x,v=>Value.isStrOf x v
noncomputable def keyH(w:bq):Key->Int
  |.inl k=>hashInt k
  |.inr x=>hashStr w x
def keyIs_shape:∀ {k:Key}{v:vL},keyIs k v=ae->(∃ i t,k=Sum.inl i/\v=Value.int i t)\/(∃ x t,k=Sum.inr x/\v=Value.str x t)
  |.inl i,v,h=>by
    obtain⟨t,e⟩:=Value.isInt_shape (k:=i) (v:=v) h;exact .inl ⟨i,t,rfl,e⟩
  |.inr x,v,h=>by
    obtain⟨t,e⟩:=Value.isStrOf_shape (x:=x) (v:=v) h;exact .inr ⟨x,t,rfl,e⟩
def keyIs_int(i:Int)(t:Tok):keyIs (.inl i) (.int i t)=ae:=by simp[keyIs,Value.isInt]
def keyIs_str(x:Str)(t:Tok):keyIs (.inr x) (.str x t)=ae:=by simp[keyIs,Value.isStrOf]
def key_ll(a b:Int):ak ((Sum.inl a:Key)=Sum.inl b)=(a==b):=by
  by_cases e:a=b
  . subst e;simp
  . have h:¬(Sum.inl a:Key)=Sum.inl b:=λq=>e (Sum.inl.inj q)
    rw[aG h];exact(dG.mpr e).symm
def key_rr(a b:Str):ak ((Sum.inr a:Key)=Sum.inr b)=ak (a=b):=by
  by_cases e:a=b
  . subst e;simp
  . have h:¬(Sum.inr a:Key)=Sum.inr b:=λq=>e (Sum.inr.inj q)
    rw[aG h,aG e]
def key_lr(a:Int)(b:Str):ak ((Sum.inl a:Key)=Sum.inr b)=af:=aG (λq=>nomatch q)
def key_rl(a:Str)(b:Int):ak ((Sum.inr a:Key)=Sum.inl b)=af:=aG (λq=>nomatch q)
def mixKind(prog:bf)(w:bq):PySem.KeyKind prog w Key where
  is:=keyIs
  hash:=keyH w
  inj:=λv a b l f=>by
    rcases keyIs_shape l with⟨i,t,rfl,rfl⟩|⟨x,t,rfl,rfl⟩
    . rcases keyIs_shape f with⟨j,u,rfl,e⟩|⟨y,u,rfl,e⟩
      . injection e with c _;rw[c]
      . exact nomatch e
    . rcases keyIs_shape f with⟨j,u,rfl,e⟩|⟨y,u,rfl,e⟩
      . exact nomatch e
      . injection e with c _;rw[c]
  byValue:=λk v h=>by
    rcases keyIs_shape h with⟨i,t,rfl,rfl⟩|⟨x,t,rfl,rfl⟩<;>rfl
  pyHash:=λd h=>by
    rcases keyIs_shape d with⟨i,t,rfl,rfl⟩|⟨x,t,rfl,rfl⟩
    . exact wpAny_pyHash_int h
    . exact wpAny_pyHash_str h
  eqBool:=λg d h=>by
    rcases keyIs_shape g with⟨i,t,rfl,rfl⟩|⟨x,t,rfl,rfl⟩
    . rcases keyIs_shape d with⟨j,u,rfl,rfl⟩|⟨y,u,rfl,rfl⟩
      . rw[key_ll]at h;exact wpAny_eqBool_int h
      . rw[key_lr]at h;exact SeqAt.EqAt.int_str i t y u _ _ _ _ h
    . rcases keyIs_shape d with⟨j,u,rfl,rfl⟩|⟨y,u,rfl,rfl⟩
      . rw[key_rl]at h;exact SeqAt.EqAt.str_int x t j u _ _ _ _ h
      . rw[key_rr]at h;exact wpAny_eqBool_str h
  «strs»:=λk x t v h=>by
    rcases keyIs_shape h with⟨i,u,rfl,e⟩|⟨y,u,rfl,e⟩
    . exact nomatch e
    . injection e with c _
      subst c;cases v<;>rfl
def mixKind_int(prog:bf)(w:bq)(i:Int)(t:Tok):(mixKind prog w).is (.inl i) (.int i t)=ae:=keyIs_int i t
def mixKind_str(prog:bf)(w:bq)(x:Str)(t:Tok):(mixKind prog w).is (.inr x) (.str x t)=ae:=keyIs_str x t
set_option genInjectivity true in
inductive V where
  |non|bl (b:Bool)|int (i:Int)|str (x:Str)|byt (b:Array UInt8)|flt (b:UInt64)|ref (a:Addr)|ty (n:String)
  deriving DecidableEq
def RelV:V->vL->Prop
  |.non,u=>u=bz
  |.bl b,u=>u=Value.bool b
  |.int i,u=>∃ t,u=Value.int i t
  |.str x,u=>∃ t,u=Value.str x t
  |.byt b,u=>∃ t,u=Value.bytes b t
  |.flt b,u=>∃ t,u=Value.float b t
  |.ref a,u=>u=bx a
  |.ty n,u=>u=Value.type n
abbrev Vals:Li V->Li vL->Prop:=Paired RelV
variable{xs:Li V}{us:Li vL}
theorem Vals.length(r:Vals xs us):xs.length=us.length:=Paired.length r
theorem Vals.get:∀ {xs:Li V}{us:Li vL}{i:Nat}{x:V},Vals xs us->xs[i]?=aa x->∃ u,us[i]?=aa u/\RelV x u
  |_,_,_,_,.nil,e=>by simp at e
  |_,_,0,_,.cons r _,e=>by simp at e;subst e;exact⟨_,rfl,r⟩
  |_,_,i+1,x,.cons _ t,e=>by
    obtain⟨u,b,a⟩:=Vals.get (i:=i) (x:=x) t (by simpa using e)
    exact⟨u,by simpa using b,a⟩
theorem Vals.set{x:V}{u:vL}(r:RelV x u):∀ {xs:Li V}{us:Li vL} (i:Nat),Vals xs us->Vals (xs.set i x) (us.set i u)
  |_,_,_,.nil=>.nil
  |_,_,0,.cons _ t=>.cons r t
  |_,_,i+1,.cons q t=>.cons q (Vals.set r i t)
theorem Vals.append:∀ {xs ys:Li V}{us ws:Li vL},Vals xs us->Vals ys ws->Vals (xs++ys) (us++ws)
  |_,_,_,_,.nil,s=>s
  |_,_,_,_,.cons r t,s=>.cons r (Vals.append t s)
theorem Vals.take:∀ {xs:Li V}{us:Li vL} (n:Nat),Vals xs us->Vals (xs.take n) (us.take n)
  |_,_,0,_=>.nil
  |_,_,_+1,.nil=>.nil
  |_,_,n+1,.cons r t=>.cons r (Vals.take n t)
theorem Vals.drop:∀ {xs:Li V}{us:Li vL} (n:Nat),Vals xs us->Vals (xs.drop n) (us.drop n)
  |_,_,0,r=>r
  |_,_,_+1,.nil=>.nil
  |_,_,n+1,.cons _ t=>Vals.drop n t
def RelO:Ot V->Ot vL->Prop
  |some v,aa u=>RelV v u
  |none,ab=>True
  |_,_=>False
def KV{a:Type}:Li (a×V)->Li (a×vL)->Prop:=Paired λ(p:a×V) (q:a×vL)=>p.1=q.1/\RelV p.2 q.2
noncomputable def kV:Key->V
  |.inl i=>.int i
  |.inr x=>.str x
inductive HO where
    |lst (xs:List V)
    |tup (xs:List V)
    |dK (kvs:List (Key×V))|dT (kvs:List (List Key×V))
    |set (S:Int->Bool) (n:Nat)
    |ins (C dx:Addr) (fs:List (Str×V))
    |own (x:Addr)
    |xd (fs:List (Str×V))
    |met (f x:Addr)
    |rng (lo hi:Int)
    |frz (o:Obj) (u:HO)
    |tbl (ps:Array Value)
    |ext (φ:bp->Prop)
abbrev Hp:=Ad->Ot HO
noncomputable def upd(H:Hp)(a:Ad)(o:HO):Hp:=λb=>if b=a then aa o else H b
variable{H:Hp}
def upd_same{a:Ad}{o:HO}:upd H a o a=aa o:=by unfold upd;rw[aq rfl]
def upd_ne{a b:Ad}{o:HO}(h:b≠a):upd H a o b=H b:=by unfold upd;rw[ar h]
def ne_of{a b:Ad}{o u:HO}(h:H a=aa o)(c:H b=aa u)(d:o≠u):a≠b:=by
  intro e;subst e;rw[h]at c;exact d (aw c)
def ne_of_none{a b:Ad}{o:HO}(h:H a=aa o)(c:H b=ab):a≠b:=by
  intro e;subst e;rw[h]at c;cases c
section
variable (P:bf) (w:bq)
def ObjOk(H:Hp)(h:bp)(a:Ad):HO->Prop
  |.lst xs=>xs.length<=ay/\∃ (c:Li vL) (n:Nat),Vals xs c/\h.get? a=aa { cls:=.type "list",data:=.seq c.toArray n }
  |.tup xs=>xs.length<=ay/\∃ c:Li vL,Vals xs c/\IsTup h a c.toArray
  |.dK b=>b.length<=ay/\(a==bt)=af/\∃ i,KV b i/\h.DictOf (mixKind P w) a i
  |.dT b=>b.length<=ay/\(a==bt)=af/\∃ xs:Li (Li Key×Ad×vL),
      Paired (λ(p:Li Key×V) (q:Li Key×Ad×vL)=>p.1=q.1/\H q.2.1=aa (.tup (p.1.map kV))/\RelV p.2 q.2.2) b xs /\
      ∃ o l s,h.get? a=aa o/\o.ExactDict/\o.data=.dict l s/\l.toList=xs.map (entryOfKey (tupleKind (mixKind P w)))/\(xs.map (·.1)).Nodup
  |.set S n=>h.SetOf (intKind P w) a S n
  |.ins C e fs=>H e=aa (.own a)/\fs.length<=1000/\e≠a/\h.get? a=aa (W.instObj C e) /\
      ∃ d,h.Ns1 e d/\(∀ f,RelO (fs.lookup f) (d f))/\PySem.Within d (fs.map (·.1))
  |.own _=>∃ o,h.get? a=aa o
  |.xd fs=>∃ d,h.Ns1 a d/\∀ f,RelO (fs.lookup f) (d f)
  |.rng lo r=>∃ t u v,h.get? a=aa { cls:=.type "range",data:=.fields #[.int lo t,.int r u,.int 1 v] }
  |.frz o u=>h.get? a=aa o/\ObjOk H h a u
  |.tbl m=>h.get? a=aa { cls:=.none,data:=.fields m }
  |.met f x=>h.get? a=aa (W.methodObj (.ref f) (.ref x))
  |.ext g=>g h/\(∃ o,h.get? a=aa o)/\∀ k j:bp,g k->(∀ o,k.get? a=aa o->j.get? a=aa o)->g j
def HOk(H:Hp)(h:bp):Prop:=∀ a o,H a=aa o->ObjOk P w H h a o
end
variable{P:bf}{w:bq}{H H':Hp}{h h':bp}{a:Ad}
section
variable{o:HO}
theorem ObjOk.lt(x:ObjOk P w H h a o):a < h.objs.size:=by
  cases o with
  |lst xs=>obtain⟨_,_,_,_,e⟩:=x;exact aL e
  |tup xs=>obtain⟨_,_,_,p⟩:=x;exact p.lt
  |dK b=>obtain⟨_,_,_,_,o,_,_,e,_⟩:=x;exact aL e
  |dT b=>obtain⟨_,_,_,_,o,_,_,e,_⟩:=x;exact aL e
  |set S n=>obtain⟨o,_,_,_,e,_⟩:=x;exact aL e
  |ins C j fs=>obtain⟨_,_,_,e,_⟩:=x;exact aL e
  |own y=>obtain⟨_,e⟩:=x;exact aL e
  |xd fs=>obtain⟨_,⟨_,_,_,e,_⟩,_⟩:=x;exact aL e
  |rng lo i=>obtain⟨_,_,_,e⟩:=x;exact aL e
  |frz g u=>obtain⟨e,_⟩:=x;exact aL e
  |tbl d=>exact aL (show h.get? a=aa _ from x)
  |met f y=>exact aL (show h.get? a=aa _ from x)
  |ext c=>obtain⟨_,⟨_,e⟩,_⟩:=x;exact aL e
theorem Paired.mapP{d c:Type}{F G:d->c->Prop}:∀ {l₁:Li d}{l₂:Li c},Paired F l₁ l₂->(∀ a b,F a b->G a b)->Paired G l₁ l₂
  |_,_,.nil,_=>.nil
  |_,_,.cons r t,f=>.cons (f _ _ r) (Paired.mapP t f)
def ObjOk.stay(x:ObjOk P w H h a o)(k:∀ b u,(b=a\/H b=aa (.own a))->h.get? b=aa u->h'.get? b=aa u)(I:∀ b,H b=aa (.own a)->H' b=aa (.own a))(G:∀ b xs,H b=aa (.tup xs)->H' b=aa (.tup xs)):ObjOk P w H' h' a o:=by
  induction o with
  |lst xs=>obtain⟨z,l,n,r,e⟩:=x;exact⟨z,l,n,r,k _ _ (.inl rfl) e⟩
  |tup xs=>obtain⟨z,l,r,g,e,c⟩:=x;exact⟨z,l,r,g,k _ _ (.inl rfl) e,c⟩
  |dK A=>obtain⟨z,y,E,r,g,i,j,e,c⟩:=x;exact⟨z,y,E,r,g,i,j,k _ _ (.inl rfl) e,c⟩
  |dT A=>
    obtain⟨z,y,xs,r,g,i,j,e,c⟩:=x;exact⟨z,y,xs,Paired.mapP r λp q z=>⟨z.1,G _ _ z.2.1,z.2.2⟩,g,i,j,k _ _ (.inl rfl) e,c⟩
  |set S n=>obtain⟨g,i,j,t,e,c⟩:=x;exact⟨g,i,j,t,k _ _ (.inl rfl) e,c⟩
  |ins C M fs=>
    obtain⟨d,z,ne,e,s,⟨m,i,j,J,c⟩,r⟩:=x;exact⟨I _ d,z,ne,k _ _ (.inl rfl) e,s,⟨m,i,j,k _ _ (.inr d) J,c⟩,r⟩
  |own y=>obtain⟨g,e⟩:=x;exact⟨g,k _ _ (.inl rfl) e⟩
  |xd fs=>obtain⟨s,⟨m,i,j,e,c⟩,r⟩:=x;exact⟨s,⟨m,i,j,k _ _ (.inl rfl) e,c⟩,r⟩
  |rng lo L=>obtain⟨t,u,v,e⟩:=x;exact⟨t,u,v,k _ _ (.inl rfl) e⟩
  |frz g u F=>obtain⟨e,q⟩:=x;exact⟨k _ _ (.inl rfl) e,F q⟩
  |tbl D=>
    have e:h.get? a=aa { cls:=.none,data:=.fields D }:=x;show h'.get? a=aa { cls:=.none,data:=.fields D };exact k a _ (.inl rfl) e
  |met f y=>
    have e:h.get? a=aa (W.methodObj (.ref f) (.ref y)):=x;show h'.get? a=aa (W.methodObj (.ref f) (.ref y));exact k a _ (.inl rfl) e
  |ext K=>obtain⟨p,⟨o,e⟩,B⟩:=x;exact⟨B _ _ p λo q=>k _ _ (.inl rfl) q,⟨o,k _ _ (.inl rfl) e⟩,B⟩
theorem HOk.lt(x:HOk P w H h)(e:H a=aa o):a < h.objs.size:=(x a o e).lt
def HOk.fresh(x:HOk P w H h)(e:h.objs.size<=a):H a=ab:=by
  cases q:H a with
  |none=>rfl
  |some u=>exact au (aS (x.lt q) e) (cJ _)
def HOk.kept(x:HOk P w H h)(k:∀ b u,h.get? b=aa u->h'.get? b=aa u):HOk P w H h':=λa o e=>
  (x a o e).stay (λb u _ q=>k b u q) (λ_ q=>q) λ_ _ q=>q
def HOk.laid(x:HOk P w H h)(k:∀ b u,h.get? b=aa u->h'.get? b=aa u)(g:h.objs.size<=a)(new:ObjOk P w (upd H a o) h' a o):HOk P w (upd H a o) h':=λb u e=>by
  have d:=x.fresh g;by_cases f:b=a
  . subst f;rw[upd_same]at e;cases e;exact new
  . rw[upd_ne f]at e
    exact(x b u e).stay (λc v _ q=>k c v q) (λc q=>by rw[upd_ne (ne_of_none q d)];exact q) λc xs q=>by rw[upd_ne (ne_of_none q d)];exact q
end
def Rd(H:Hp)(a:Ad)(u:HO):Prop:=H a=aa u\/∃ o,H a=aa (.frz o u)
variable{w:bq}{h:bp}
def Rd.ok{P:bf}{a:Ad}{u:HO}(r:Rd H a u)(x:HOk P w H h):ObjOk P w H h a u:=by
  rcases r with r|⟨o,r⟩
  . exact x a u r
  . obtain⟨_,q⟩:=x a _ r
    exact q
def Mut:Ot HO->Prop
  |some (.lst _)=>True
  |some (.dK _)=>True
  |some (.dT _)=>True
  |some (.set _ _)=>True
  |some (.ins _ _ _)=>True
  |some (.ext _)=>True
  |_=>False
variable{x:Ad}
section
variable{e:Ad}{o':HO}
def HOk.write(ok:HOk P w H h)(mu:Mut (H x))(l:e=x\/H e=aa (.own x))(k:∀ b u,b≠e->h.get? b=aa u->h'.get? b=aa u)(i:∃ u,h'.get? e=aa u)(new:ObjOk P w (upd H x o') h' x o'):HOk P w (upd H x o') h':=λb u q=>by
  have d:∀ c y,H c=aa (.own y)->c≠x:=λc y r z=>by subst z;rw[r]at mu;exact mu
  have f:∀ c xs,H c=aa (.tup xs)->c≠x:=λc xs r z=>by subst z;rw[r]at mu;exact mu
  by_cases g:b=x
  . subst g;rw[upd_same]at q;cases q;exact new
  . rw[upd_ne g]at q
    by_cases a:b=e
    . have j:H b=aa (.own x):=by
        rcases l with z|z
        . exact au (a.trans z) g
        . rw[a];exact z
      rw[q]at j;cases j
      obtain⟨v,m⟩:=i;exact⟨v,by rw[a];exact m⟩
    . refine(ok b u q).stay (λc v hc r=>k c v ?_ r) (λc r=>by rw[upd_ne (d c b r)];exact r) λc xs r=>by rw[upd_ne (f c xs r)];exact r
      rcases hc with rfl|hc
      . exact a
      . rintro rfl
        rcases l with z|z
        . exact d c b hc z
        . rw[hc]at z;cases z;exact g rfl
end
structure Un(fs ex:List Addr)(H H':Hp)(h h':bp):Prop where
  keep:∀ b o,h.get? b=aa o->H b=ab->b∉fs->b∉ex->h'.get? b=aa o
  slot:∀ b o,h.get? b=aa o->H b=ab->b∈fs->b∉ex->∃ sl,h'.get? b=aa { o with slots:=sl }
  free:∀ b o,h.get? b=aa o->H b=ab->b∉ex->H' b=ab
  there:∀ b o,h.get? b=aa o->b∉ex->∃ o',h'.get? b=aa o'
  tups:∀ b xs,H b=aa (.tup xs)->H' b=aa (.tup xs)
  frzs:∀ b o u,H b=aa (.frz o u)->H' b=aa (.frz o u)
  tbls:∀ b ps,H b=aa (.tbl ps)->∃ more,H' b=aa (.tbl (ps++more))
section
variable{fs fs' ex ex':Li Ad}{H1 H2:Hp}{h1 h2:bp}{e:Ad}{o:HO}
def Un.any(u:Un fs ex H H1 h h1){b:Ad}{a:Obj}(q:h.get? b=aa a)(n:H b=ab)(c:b∉ex):∃ sl,h1.get? b=aa { a with slots:=sl }:=by
  by_cases d:b∈fs
  . exact u.slot b a q n d c
  . exact⟨a.slots,u.keep b a q n d c⟩
def Un.kept(k:∀ b u,h.get? b=aa u->h'.get? b=aa u):Un fs ex H H h h':=
  ⟨λb a q _ _ _=>k b a q,λb a q _ _ _=>⟨a.slots,k b a q⟩,λ_ _ _ n _=>n,λb a q _=>⟨a,k b a q⟩,λ_ _ q=>q,λ_ _ _ q=>q,λ_ c q=>⟨#[],by rw[q];simp⟩⟩
def Un.refl:Un fs ex H H h h:=Un.kept λ_ _ q=>q
def Un.laid(k:∀ b u,h.get? b=aa u->h'.get? b=aa u)(d:h.objs.size<=a)(c:H a=ab):Un fs ex H (upd H a o) h h' where
  keep:=λb u q _ _ _=>k b u q
  slot:=λb u q _ _ _=>⟨u.slots,k b u q⟩
  free:=λb u q n _=>by rw[upd_ne (bC (aS (aL q) d))];exact n
  there:=λb u q _=>⟨u,k b u q⟩
  tups:=λb xs q=>by rw[upd_ne (ne_of_none q c)];exact q
  frzs:=λb u xs q=>by rw[upd_ne (ne_of_none q c)];exact q
  tbls:=λb e q=>⟨#[],by rw[upd_ne (ne_of_none q c),q];simp⟩
def Un.write(mu:Mut (H x))(i:e=x\/H e=aa (.own x))(k:∀ b u,b≠e->h.get? b=aa u->h'.get? b=aa u)(d:∃ u,h'.get? e=aa u):Un fs ex H (upd H x o) h h':=by
  have f:∀ b,H b=ab->b≠x:=λb n z=>by subst z;rw[n]at mu;exact mu
  have g:∀ b,H b=ab->b≠e:=λb n z=>by
    subst z;rcases i with r|r
    . exact f b n r
    . rw[n]at r;cases r
  have c:∀ b u,H b=aa u->¬Mut (aa u)->b≠x:=λb u q nm z=>by subst z;rw[q]at mu;exact nm mu
  refine⟨λb u q n _ _=>k b u (g b n) q,λb u q n _ _=>⟨u.slots,k b u (g b n) q⟩,λb u q n _=>by rw[upd_ne (f b n)];exact n,λb u q _=>?_,
    λb xs q=>by rw[upd_ne (c b _ q λz=>z)];exact q,λb u xs q=>by rw[upd_ne (c b _ q λz=>z)];exact q,λb j q=>⟨#[],by rw[upd_ne (c b _ q λz=>z),q];simp⟩⟩
  by_cases a:b=e
  . subst a;exact d
  . exact⟨u,k b u a q⟩
end
noncomputable def trk(h:bp)(H:Hp):Li Ad:=(aj h.objs.size).filter λa=>(H a).isSome
def hidT(h:bp)(H:Hp):bp:=W.hideAll h (trk h H)
def hidT_size(h:bp)(H:Hp):(hidT h H).objs.size=h.objs.size:=W.hideAll_size _ _
def hidT_get{b:Ad}{o:Obj}(e:h.get? b=aa o)(n:H b=ab):(hidT h H).get? b=aa o:=
  W.hideAll_get _ e λa=>by
    have q:(H b).isSome=ae:=(dR.mp a).2;rw[n]at q;simp at q
def of_hidT{b:Ad}{o:Obj}(e:(hidT h H).get? b=aa o):h.get? b=aa o/\H b=ab:=by
  have a:h.get? b=aa o:=W.of_hideAll (trk h H) e;refine⟨a,?_⟩;cases q:H b with
  |none=>rfl
  |some x=>
    have c:b∈trk h H:=dR.mpr ⟨bQ.mpr (aL a),by simp[q]⟩
    have z:(hidT h H).get? b=ab:=W.hideAll_none (trk h H) c;rw[z]at e;cases e
structure Mod(K:Fg)(mg:Str->Option Value)(base:bp):Prop where
  kin:K.In base
  glob:base.Ns a7 mg
  blt:∃ mb,base.Ns builtinsNs mb/\∀ x:Str,x ≠ "__name__"->mb x=bh x
  nolimit:base.NoLimit
structure Cx where
  prog:bf
  w:bq
  K:Fg
  mg:Str->Option Value
  base:bp
  A:bu
  N:List Str
  s₀:Shared
  H₀:Hp
  env:Env
  outer:List Env
  stack:List Env
  ex:List Addr
  fn:Str->Bool
  calm:Bool
  pn:List (Addr×Obj)
  xe:Value->Shared->Prop
noncomputable def frs(l:Li Env):Li Ad:=l.filterMap (·.frame)
abbrev Cx.fs(X:Cx):Li Ad:=frs X.outer
def Vis(sc:bj)(x:Str):Prop:=sc.names.lookup x=aa .local\/sc.names.lookup x=aa .cell\/sc.names.lookup x=aa .free
def Loc(sc:bj)(x:Str):Prop:=sc.names.lookup x=aa .local\/sc.names.lookup x=aa .cell
def Look(env:Env)(h:bp)(m:Str->Ot vL)(x:Str)(u:vL):Prop:=
  (env.kindOf x=aa .local/\m x=aa u)\/((env.kindOf x=aa .cell\/env.kindOf x=aa .free)/\∃ c,env.cells.lookup x=aa c/\h.IsCell c (aa u))
structure Cx.Ok(X:Cx):Prop where
  mod:Mod X.K X.mg X.base
  kind:X.env.scope.kind=.function
  glob:X.env.globals=a7
  blt:X.env.builtins=builtinsNs
  above:X.s₀.heap.objs.size<=X.env.locals
  inj:∀ x y c,X.env.cells.lookup x=aa c->X.env.cells.lookup y=aa c->x=y
  has:∀ x,(X.env.kindOf x=aa .cell\/X.env.kindOf x=aa .free)->∃ c,X.env.cells.lookup x=aa c
  cab:∀ x c,X.fn x=ae->X.env.cells.lookup x=aa c->X.s₀.heap.objs.size<=c
  hd:X.calm=ae->X.A.handled=ab
  frames:X.A.frames=aa X.stack
  stk:X.stack=X.outer\/(X.stack=X.env :: X.outer/\X.env.frame=aa X.env.locals)
  exf:∀ b∈X.ex,b≠X.env.locals/\∀ x c,X.env.cells.lookup x=aa c->c≠b
  bs:∀ b o,X.base.get? b=aa o->X.s₀.heap.get? b=aa o/\X.H₀ b=ab
  bsz:X.base.objs.size<=X.s₀.heap.objs.size
  noex:∀ b o,X.base.get? b=aa o->b∉X.ex
  exfs:∀ b∈X.ex,b∉X.fs
  funs:X.s₀.heap.FunFrames X.base X.outer
  frf:∀ b∈X.fs,X.H₀ b=ab
structure Inv(X:Cx)(pQ:List (Addr×Obj))(O:List (Option V))(H:Hp)(s:Shared):Prop where
  ok:X.Ok
  os:s.os=X.s₀.os
  bare:AllBare s.gens
  base:Un X.fs X.ex X.H₀ H X.s₀.heap s.heap
  loc:∃ m,s.heap.Ns X.env.locals m/\∀ (i:Nat) (x:Str) (v:V),X.N[i]?=aa x->O[i]?=aa (aa v)->Vis X.env.scope x->∃ u,RelV v u/\Look X.env s.heap m x u
  cell:∀ x c,X.env.cells.lookup x=aa c->∃ v,s.heap.IsCell c v
  free:H X.env.locals=ab
  freeC:∀ x c,X.env.cells.lookup x=aa c->H c=ab
  pin:∀ p∈X.pn++pQ,s.heap.get? p.1=aa p.2/\H p.1=ab/\p.1≠X.env.locals/\p.1∉X.fs/\∀ v,p.2.data≠.cell v
  hok:HOk X.prog X.w H s.heap
  len:O.length=X.N.length
variable{g':Array GenState}{t' i:Nat}{d':Drawn}{N:Li Str}
variable{X:Cx}{pQ:Li (Ad×Obj)}{s:Sd}
section
variable{O:Li (Ot V)}
def Cx.Ok.nofr(ok:X.Ok){b:Ad}{o:Obj}(e:X.base.get? b=aa o):b∉X.fs:=λa=>by
  have:=(ok.funs.mem a).1;rw[e]at this;cases this
theorem Inv.bs(I:Inv X pQ O H s):∀ b o,X.base.get? b=aa o->s.heap.get? b=aa o/\H b=ab:=λb o e=>
  ⟨I.base.keep b o (I.ok.bs b o e).1 (I.ok.bs b o e).2 (I.ok.nofr e) (I.ok.noex b o e),I.base.free b o (I.ok.bs b o e).1 (I.ok.bs b o e).2 (I.ok.noex b o e)⟩
def Inv.bk(I:Inv X pQ O H s):∀ b o,X.base.get? b=aa o->s.heap.get? b=aa o:=λb o e=>(I.bs b o e).1
theorem Inv.mod(I:Inv X pQ O H s):Mod X.K X.mg X.base:=I.ok.mod
def Inv.kIn(I:Inv X pQ O H s):X.K.In s.heap:=I.ok.mod.kin.keeps I.bk
theorem Inv.lt(I:Inv X pQ O H s):X.env.locals < s.heap.objs.size:=let ⟨_,hn,_⟩:=I.loc;hn.lt
def Inv.sz(I:Inv X pQ O H s):X.s₀.heap.objs.size<=s.heap.objs.size:=aP I.ok.above (dS I.lt)
def Inv.nofs(I:Inv X pQ O H s){a:Ad}(h:s.heap.objs.size<=a):a∉X.fs:=λc=>by
  obtain⟨_,o,b,_⟩:=I.ok.funs.mem c;exact au (aS (aL b) (aP I.sz h)) (cJ _)
def Inv.cne(I:Inv X pQ O H s):∀ x c,X.env.cells.lookup x=aa c->c≠X.env.locals:=λx c e z=>by
  obtain⟨v,o,d,f⟩:=I.cell x c e;obtain⟨m,⟨g,h,i,a,b,_⟩,_⟩:=I.loc;rw[z,a]at d;cases d;rw[b]at f;cases f
theorem Inv.funs(I:Inv X pQ O H s):s.heap.FunFrames X.base X.outer:=by
  have all:∀ (l:Li Env),(∀ b∈frs l,b∈X.fs)->X.s₀.heap.FunFrames X.base l->s.heap.FunFrames X.base l:=by
    intro l
    induction l with
    |nil=>intro _ _;trivial
    |cons p r g=>
      intro f k;obtain⟨m,⟨L,o,a,j,i,n⟩,h⟩:=k;have d:L∈X.fs:=f L (by unfold frs;rw[eX,a];exact Ls)
      obtain⟨sl,e⟩:=I.base.slot L o i (I.ok.frf L d) d λz=>I.ok.exfs L z d
      exact⟨m,⟨L,_,a,j,e,n⟩,g (λb c=>f b (by unfold frs;rw[eX,a];exact Lm _ c)) h⟩
  exact all X.outer (λ_ c=>c) I.ok.funs
theorem Inv.stack(I:Inv X pQ O H s):s.heap.FunFrames X.base X.stack:=by
  rcases I.ok.stk with e|⟨e,b⟩
  . rw[e];exact I.funs
  . rw[e]
    obtain⟨m,a,_⟩:=I.loc;refine .cons (by rw[I.ok.kind];decide) b a ?_ I.funs
    exact Heap.get?_none_of_le (aP I.ok.bsz I.ok.above)
def Inv.stkSub(I:Inv X pQ O H s):∀ b∈frs X.stack,b∈X.env.locals :: X.fs:=λb a=>by
  rcases I.ok.stk with e|⟨e,c⟩
  . rw[e]at a;exact Lm _ a
  . rw[e]at a
    unfold frs at a;rw[eX,c]at a;exact a
def Inv.stkFree(I:Inv X pQ O H s):∀ b∈frs X.stack,H b=ab:=λb hb=>by
  rcases aK.mp (I.stkSub b hb) with e|hb
  . rw[e];exact I.free
  . obtain⟨_,o,a,_⟩:=I.ok.funs.mem hb
    exact I.base.free b o a (I.ok.frf b hb) λz=>I.ok.exfs b z hb
def Inv.step{ch:Li Ad}(I:Inv X pQ O H s)(g:∀ b∈ch,(b∈X.ex\/X.s₀.heap.objs.size<=b)/\b≠X.env.locals/\(∀ x c,X.env.cells.lookup x=aa c->c≠b)/\∀ p∈X.pn++pQ,p.1≠b)(keep:∀ b o,b≠X.env.locals->b∉X.fs->b∉ch->s.heap.get? b=aa o->H b=ab->h'.get? b=aa o)(slot:∀ b o,b≠X.env.locals->b∈X.fs->b∉ch->s.heap.get? b=aa o->H b=ab->∃ sl,h'.get? b=aa { o with slots:=sl })(free:∀ b o,b∉ch->s.heap.get? b=aa o->H b=ab->H' b=ab)(there:∀ b o,b∉ch->s.heap.get? b=aa o->∃ B,h'.get? b=aa B)(tups:∀ b xs,H b=aa (.tup xs)->H' b=aa (.tup xs))(frzs:∀ b o u,H b=aa (.frz o u)->H' b=aa (.frz o u))(tbls:∀ b E,H b=aa (.tbl E)->∃ more,H' b=aa (.tbl (E++more)))(M:∀ m,s.heap.Ns X.env.locals m->h'.Ns X.env.locals m)(hok:HOk X.prog X.w H' h')(S:AllBare g') :
    Inv X pQ O H' { s with heap:=h',gens:=g',drawn:=d',toks:=t' }:=by
  have C:∀ b o,X.s₀.heap.get? b=aa o->b≠X.env.locals:=λb o e=>bC (aS (aL e) I.ok.above)
  have j:∀ b o,X.s₀.heap.get? b=aa o->b∉X.ex->b∉ch:=λb o e a y=>by
    rcases (g b y).1 with z|z
    . exact a z
    . exact au (aS (aL e) z) (cJ _)
  have h:∀ x c,X.env.cells.lookup x=aa c->∀ v,s.heap.IsCell c v->h'.IsCell c v:=λx c e v ⟨o,A,G⟩=>by
    have f:c∉ch:=λz=>(g c z).2.2.1 x c e rfl
    by_cases L:c∈X.fs
    . obtain⟨sl,q⟩:=slot c o (I.cne x c e) L f A (I.freeC x c e)
      exact⟨_,q,G⟩
    . exact⟨o,keep c o (I.cne x c e) L f A (I.freeC x c e),G⟩
  refine⟨I.ok,I.os,S,⟨λb o e n y a=>?_,λb o e n y a=>?_,λb o e n a=>?_,λb o e a=>?_,λb xs e=>tups b xs (I.base.tups b xs e),λb o xs e=>frzs b o xs (I.base.frzs b o xs e),λb E e=>?_⟩,?_,λx c e=>?_,?_,λx c e=>?_,λp K=>?_,hok,I.len⟩
  . exact keep b o (C b o e) y (j b o e a) (I.base.keep b o e n y a) (I.base.free b o e n a)
  . obtain⟨sl,t⟩:=I.base.slot b o e n y a
    obtain⟨F,D⟩:=slot b _ (C b o e) y (j b o e a) t (I.base.free b o e n a);exact⟨F,D⟩
  . obtain⟨B,t⟩:=I.base.there b o e a
    exact free b B (j b o e a) t (I.base.free b o e n a)
  . obtain⟨B,t⟩:=I.base.there b o e a
    exact there b B (j b o e a) t
  . obtain⟨P,t⟩:=I.base.tbls b E e
    obtain⟨N,D⟩:=tbls b _ t;exact⟨P++N,by rw[D,Array.append_assoc]⟩
  . obtain⟨m,Q,R⟩:=I.loc
    refine⟨m,M m Q,λi x v t D T=>?_⟩
    obtain⟨u,r,l⟩:=R i x v t D T;refine⟨u,r,?_⟩;rcases l with l|⟨k,c,e,z⟩
    . exact .inl l
    . exact .inr ⟨k,c,e,h x c e _ z⟩
  . obtain⟨v,z⟩:=I.cell x c e
    exact⟨v,h x c e v z⟩
  . obtain⟨m,⟨o,_,_,A,_⟩,_⟩:=I.loc
    exact free _ o (λz=>(g _ z).2.1 rfl) A I.free
  . obtain⟨v,o,A,G⟩:=I.cell x c e
    exact free c o (λz=>(g c z).2.2.1 x c e rfl) A (I.freeC x c e)
  . obtain⟨e,n,ne,J,d⟩:=I.pin p K
    have f:p.1∉ch:=λz=>(g p.1 z).2.2.2 p K rfl
    exact⟨keep p.1 p.2 ne J f e n,free p.1 p.2 f e n,ne,J,d⟩
def Inv.un(I:Inv X pQ O H s)(u:Un X.fs [] H H' s.heap h')(hok:HOk X.prog X.w H' h'):Inv X pQ O H' { s with heap:=h',toks:=t' }:=by
  obtain⟨m,⟨o,p,q,g,r⟩,_⟩:=id I.loc;obtain⟨sl,j⟩:=u.any g I.free (by simp)
  exact I.step (g':=s.gens) (d':=s.drawn) (ch:=[]) (λ_ z=>nomatch z) (λb o _ c _ e n=>u.keep b o e n c (by simp)) (λb o _ c _ e n=>u.slot b o e n c (by simp)) (λb o _ e n=>u.free b o e n (by simp)) (λb o _ e=>u.there b o e (by simp)) u.tups u.frzs u.tbls (λl i=>by
    obtain⟨k,d,f,a,h⟩:=i;rw[g]at a;cases a
    exact⟨_,d,f,j,h⟩) hok I.bare
def Inv.call{ch:Li Ad}(I:Inv X pQ O H s)(u:Un (frs X.stack) ch H H' s.heap h')(hok:HOk X.prog X.w H' h')(q:AllBare g')(f:∀ b∈ch,(b∈X.ex\/X.s₀.heap.objs.size<=b)/\b≠X.env.locals/\(∀ x c,X.env.cells.lookup x=aa c->c≠b)/\∀ p∈X.pn++pQ,p.1≠b) :
    Inv X pQ O H' { s with heap:=h',gens:=g',drawn:=d',toks:=t' }:=by
  obtain⟨m,⟨o,A,B,j,r⟩,_⟩:=id I.loc;obtain⟨sl,g⟩:=u.any j I.free λz=>(f _ z).2.1 rfl
  exact I.step (ch:=ch) f (λb o g t a e n=>u.keep b o e n (λz=>(aK.mp (I.stkSub b z)).elim g t) a) (λb o _ _ a e n=>u.any e n a) (λb o a e n=>u.free b o e n a) (λb o a e=>u.there b o e a) u.tups u.frzs u.tbls (λy l=>by
    obtain⟨v,h,i,d,k⟩:=l;rw[j]at d;cases d
    exact⟨_,h,i,g,k⟩) hok q
def Inv.turned{a:Ad}(I:Inv X pQ O H s)(k:∀ b o,b≠a->s.heap.get? b=aa o->h'.get? b=aa o)(i:H a=ab)(g:a≠X.env.locals)(y:a∈X.ex\/X.s₀.heap.objs.size<=a)(w:∀ x c,X.env.cells.lookup x=aa c->c≠a)(t:∀ p∈X.pn++pQ,p.1≠a):Inv X pQ O H { s with heap:=h',toks:=t' }:=by
  have f:∀ b u,H b=aa u->b≠a:=λb u e z=>by rw[z,i]at e;cases e
  refine I.step (g':=s.gens) (d':=s.drawn) (ch:=[a]) (λb l=>?_) (λb o _ _ d e _=>k b o (λz=>d (by simp[z])) e) (λb o _ _ d e _=>⟨o.slots,k b o (λz=>d (by simp[z])) e⟩) (λ_ _ _ _ n=>n)
    (λb o d e=>⟨o,k b o (λz=>d (by simp[z])) e⟩) (λ_ _ e=>e) (λ_ _ _ e=>e) (λb C e=>⟨#[],by rw[e];simp⟩) (λm j=>?_) (λb u e=>?_) I.bare
  . have e:b=a:=by simpa using l
    subst e;exact⟨y,g,w,t⟩
  . obtain⟨o,A,B,h,r⟩:=j
    exact⟨o,A,B,k _ o (Ne.symm g) h,r⟩
  . refine(I.hok b u e).stay (λc v d q=>k c v ?_ q) (λ_ q=>q) λ_ _ q=>q
    rcases d with z|z
    . rw[z];exact f b u e
    . exact f c _ z
def Inv.tok(I:Inv X pQ O H s)(t:Nat):Inv X pQ O H { s with toks:=t }:=I.un (h':=s.heap) (t':=t) Un.refl I.hok
theorem Inv.kept{t':Nat}(I:Inv X pQ O H s)(k:∀ b u,s.heap.get? b=aa u->h'.get? b=aa u):Inv X pQ O H { s with heap:=h',toks:=t' }:=I.un (Un.kept k) (I.hok.kept k)
theorem Inv.laid{a:Ad}{o:HO}{t':Nat}(I:Inv X pQ O H s)(k:∀ b u,s.heap.get? b=aa u->h'.get? b=aa u)(c:s.heap.objs.size<=a)(new:ObjOk X.prog X.w (upd H a o) h' a o) :
    Inv X pQ O (upd H a o) { s with heap:=h',toks:=t' }:=I.un (Un.laid k c (I.hok.fresh c)) (I.hok.laid k c new)
theorem Inv.write{x e:Ad}{o:HO}{t':Nat}(I:Inv X pQ O H s)(mu:Mut (H x))(c:e=x\/H e=aa (.own x))(k:∀ b u,b≠e->s.heap.get? b=aa u->h'.get? b=aa u)(a:∃ u,h'.get? e=aa u)(new:ObjOk X.prog X.w (upd H x o) h' x o):Inv X pQ O (upd H x o) { s with heap:=h',toks:=t' }:=I.un (Un.write mu c k a) (I.hok.write mu c k a new)
def Inv.pins_of{a:Li (Ad×Obj)}(I:Inv X pQ O H s)(h:∀ p∈a,s.heap.get? p.1=aa p.2/\H p.1=ab/\p.1≠X.env.locals/\p.1∉X.fs/\∀ v,p.2.data≠.cell v):Inv X a O H s:=
  ⟨I.ok,I.os,I.bare,I.base,I.loc,I.cell,I.free,I.freeC,λp b=>(bE.mp b).elim (λz=>I.pin p (dU _ z)) (h p),I.hok,I.len⟩
def nodup_ix(hN:N.Nodup){j:Nat}{x:Str}(a:N[i]?=aa x)(b:N[j]?=aa x):i=j:=by
  obtain⟨f,d⟩:=bF.mp a;obtain⟨e,c⟩:=bF.mp b;exact(List.getElem_inj hN).mp (d.trans c.symm)
def store_ok2{M:Model}{A:bu}{E:vL->Sd->Prop}{x:Str}{v:V}{u:vL}{Q:Unit->Sd->Prop}(I:Inv X pQ O H s)(hN:X.N.Nodup)(P:X.N[i]?=aa x)(t:Loc X.env.scope x)(r:RelV v u)(h:∀ s',Inv X pQ (O.set i (aa v)) H s'->(∃ a,Heap.SameBut a s.heap s'.heap/\(a=X.env.locals\/X.env.cells.lookup x=aa a))->Q () s')(hf:X.fn x=ae\/X.env.scope.names.lookup x=aa .local:=by first|exact .inl rfl|exact .inr rfl|assumption):a8 M A (storeName X.env x u) Q E s:=by
  obtain⟨m,hn,hl⟩:=id I.loc;have R:(X.env.scope.kind==.class||(X.env.scope.kind==.module&&X.env.locals != X.env.globals))=af:=by rw[I.ok.kind];rfl
  have D:i < O.length:=by rw[I.len];exact(bF.mp P).1
  have cne:=I.cne;have g:∀ {a:Ad}{h':bp},(∃ o,s.heap.get? a=aa o/\H a=ab)->Heap.SameBut a s.heap h'->HOk X.prog X.w H h':=λ{a h'} ha f b ob e=>by
    obtain⟨_,_,B⟩:=ha;refine(I.hok b ob e).stay (λc U hc q=>(f.2 c ?_).trans q) (λ_ q=>q) λ_ _ q=>q
    rintro rfl
    rcases hc with rfl|hc
    . rw[B]at e;cases e
    . rw[B]at hc;cases hc
  rcases t with hk|hk
  . refine wpAny_storeName_local hk hn (λh' hn' f=>?_) R
    obtain⟨oL,_,_,hoL,_⟩:=id hn;refine h _ ⟨I.ok,I.os,I.bare,⟨λb o e n J t=>?_,λb o e n J t=>?_,I.base.free,λb o e t=>?_,I.base.tups,I.base.frzs,I.base.tbls⟩,⟨_,hn',λj y Y l C e3=>?_⟩,λy c e=>?_,I.free,I.freeC,λp hp=>?_,g ⟨oL,hoL,I.free⟩ f,by simpa using I.len⟩ ⟨_,f,.inl rfl⟩
    . exact(f.2 b (bC (aS (aL e) I.ok.above))).trans (I.base.keep b o e n J t)
    . obtain⟨sl,l⟩:=I.base.slot b o e n J t
      exact⟨sl,(f.2 b (bC (aS (aL e) I.ok.above))).trans l⟩
    . obtain⟨o',l⟩:=I.base.there b o e t
      exact⟨o',(f.2 b (bC (aS (aL e) I.ok.above))).trans l⟩
    . by_cases F:j=i
      . subst F
        rw[P]at l;cases l
        rw[bR D]at C;cases C;exact⟨u,r,.inl ⟨hk,by simp⟩⟩
      . rw[bX (Ne.symm F)]at C
        obtain⟨Z,r',q⟩:=hl j y Y l C e3;refine⟨Z,r',?_⟩;rcases q with⟨k,e⟩|⟨k,c,e,z⟩
        . refine .inl ⟨k,?_⟩
          have:y≠x:=λe=>F (nodup_ix hN l (e ▸ P))
          simp[this,e]
        . exact .inr ⟨k,c,e,z.sameBut f (cne y c e)⟩
    . obtain⟨U,z⟩:=I.cell y c e
      exact⟨U,z.sameBut f (cne y c e)⟩
    . obtain⟨e,n,ne,nf,d⟩:=I.pin p hp
      exact⟨(f.2 p.1 ne).trans e,n,ne,nf,d⟩
  . have G:X.fn x=ae:=by
      rcases hf with z|z
      . exact z
      . rw[z]at hk;cases hk
    obtain⟨c,hc⟩:=I.ok.has x (.inl hk);obtain⟨U,z⟩:=I.cell x c hc;refine wpAny_storeName_cell I.ok.kind hk hc z (λh' T f=>?_)
    obtain⟨oc,L,K⟩:=id z;refine h { s with heap:=h' } ⟨I.ok,I.os,I.bare,⟨λb o e n J t=>?_,λb o e n J t=>?_,I.base.free,λb o e t=>?_,I.base.tups,I.base.frzs,I.base.tbls⟩,⟨m,hn.sameBut f (Ne.symm (cne x c hc)),λj y Y l C e3=>?_⟩,λy W e=>?_,I.free,I.freeC,λp hp=>?_,g ⟨oc,L,I.freeC x c hc⟩ f,by simpa using I.len⟩ ⟨c,f,.inr hc⟩
    . exact(f.2 b (bC (aS (aL e) (I.ok.cab x c G hc)))).trans (I.base.keep b o e n J t)
    . obtain⟨sl,l⟩:=I.base.slot b o e n J t
      exact⟨sl,(f.2 b (bC (aS (aL e) (I.ok.cab x c G hc)))).trans l⟩
    . obtain⟨o',l⟩:=I.base.there b o e t
      exact⟨o',(f.2 b (bC (aS (aL e) (I.ok.cab x c G hc)))).trans l⟩
    . by_cases F:j=i
      . subst F
        rw[P]at l;cases l
        rw[bR D]at C;cases C;exact⟨u,r,.inr ⟨.inl hk,c,hc,T⟩⟩
      . rw[bX (Ne.symm F)]at C
        obtain⟨Z,r',q⟩:=hl j y Y l C e3;refine⟨Z,r',?_⟩;rcases q with q|⟨k,W,e,z'⟩
        . exact .inl q
        . refine .inr ⟨k,W,e,z'.sameBut f ?_⟩
          rintro rfl
          exact F (nodup_ix hN l (I.ok.inj _ _ _ e hc ▸ P))
    . by_cases S:W=c
      . subst S;exact⟨_,T⟩
      . obtain⟨w2,z2⟩:=I.cell y W e
        exact⟨w2,z2.sameBut f S⟩
    . obtain⟨e,n,ne,nf,d⟩:=I.pin p hp
      refine⟨(f.2 p.1 ?_).trans e,n,ne,nf,d⟩;intro q;rw[q,L]at e;have q':oc=p.2:=aw e;exact d U (by rw[<-q'];exact K)
def store_ok{M:Model}{A:bu}{E:vL->Sd->Prop}{x:Str}{v:V}{u:vL}{Q:Unit->Sd->Prop}(I:Inv X pQ O H s)(hN:X.N.Nodup)(c:X.N[i]?=aa x)(b:Loc X.env.scope x)(r:RelV v u)(h:∀ a,Inv X pQ (O.set i (aa v)) H a->Q () a)(d:X.fn x=ae\/X.env.scope.names.lookup x=aa .local:=by first|exact .inl rfl|exact .inr rfl|assumption):a8 M A (storeName X.env x u) Q E s:=
  store_ok2 I hN c b r (λa e _=>h a e) d
def Inv.call'{s':Sd}{ch:Li Ad}(I:Inv X pQ O H s)(f:s'.os=s.os)(u:Un (frs X.stack) ch H H' s.heap s'.heap)(hok:HOk X.prog X.w H' s'.heap)(g:AllBare s'.gens)(a:∀ b∈ch,(b∈X.ex\/X.s₀.heap.objs.size<=b)/\b≠X.env.locals/\(∀ x c,X.env.cells.lookup x=aa c->c≠b)/\∀ p∈X.pn++pQ,p.1≠b):Inv X pQ O H' s':=by
  obtain⟨h',g',d',t',d⟩:=s';have e:d=s.os:=f;subst e;exact I.call (g':=g') (t':=t') (d':=d') u hok g a
end
abbrev XK:=vL->Ot Ad->Hp->Prop
abbrev St:=Li (Ot V)
abbrev VK:=V->Hp->Prop
abbrev TE:=St->Hp->VK->Prop
abbrev TT:=St->Hp->(Bool->Hp->Prop)->Prop
abbrev TA:=St->Hp->(Li V->Hp->Prop)->Prop
structure Ends where
  nx:St->Hp->Prop
  rt:VK
  bk:St->Hp->Prop:=λ_ _=>False
  ct:St->Hp->Prop:=λ_ _=>False
abbrev TS:=Ends->St->Hp->Prop
def EP(X:Cx)(c:Li (Ad×Obj))(O:St)(Q:VK)(u:vL)(b:Sd):Prop:=∃ v a,Inv X c O a b/\RelV v u/\Q v a
def TP(X:Cx)(d:Li (Ad×Obj))(O:St)(Q:Bool->Hp->Prop)(b:Bool)(c:Sd):Prop:=∃ a,Inv X d O a c/\Q b a
def AP(X:Cx)(d:Li (Ad×Obj))(O:St)(Q:Li V->Hp->Prop)(us:Li vL)(c:Sd):Prop:=∃ a b,Inv X d O b c/\Vals a us/\Q a b
def SP(X:Cx)(d:Li (Ad×Obj))(D:Ends)(f:Flow)(c:Sd):Prop:=
  match f with
  |.next=>∃ b a,Inv X d b a c/\D.nx b a
  |.brk=>∃ b a,Inv X d b a c/\D.bk b a
  |.cont=>∃ b a,Inv X d b a c/\D.ct b a
  |.ret u=>∃ v b a,Inv X d b a c/\RelV v u/\D.rt v a
def PE(X:Cx)(e:az)(t:TE):Prop:=
  ∀ (pQ:Li (Ad×Obj)) (s:Sd) (O:St) (H:Hp) (Q:VK),Inv X pQ O H s->t O H Q->a8 (a9 X.prog X.w) X.A (eval e X.env) (EP X pQ O Q) X.xe s
def PT(X:Cx)(e:az)(t:TT):Prop:=
  ∀ (pQ:Li (Ad×Obj)) (s:Sd) (O:St) (H:Hp) (Q:Bool->Hp->Prop),Inv X pQ O H s->t O H Q->a8 (a9 X.prog X.w) X.A (isTrue e X.env (eval e X.env)) (TP X pQ O Q) X.xe s
def PW(X:Cx)(e:az)(t:TT):Prop:=
  ∀ (whole:Sem vL) (pQ:Li (Ad×Obj)) (s:Sd) (O:St) (H:Hp) (Q:Bool->Hp->Prop),Inv X pQ O H s->t O H Q->a8 (a9 X.prog X.w) X.A (isTrue e X.env whole) (TP X pQ O Q) X.xe s
variable{X:Cx}
def PW.pt{e:az}{t:TT}(h:PW X e t):PT X e t:=h _
def PA(X:Cx)(a:Li az)(t:TA):Prop:=
  ∀ (pos:Pos) (pQ:Li (Ad×Obj)) (s:Sd) (O:St) (H:Hp) (Q:Li V->Hp->Prop),Inv X pQ O H s->t O H Q->a8 (a9 X.prog X.w) X.A (spliced (backTo pos (bg a X.env))) (AP X pQ O Q) X.xe s
def PS(X:Cx)(a:Stmt)(t:TS):Prop:=
  ∀ (pQ:Li (Ad×Obj)) (s:Sd) (O:St) (H:Hp) (D:Ends),Inv X pQ O H s->t D O H->a8 (a9 X.prog X.w) X.A (exec a X.env) (SP X pQ D) X.xe s
def PSs(X:Cx)(a:Li Stmt)(t:TS):Prop:=
  ∀ (pQ:Li (Ad×Obj)) (s:Sd) (O:St) (H:Hp) (D:Ends),Inv X pQ O H s->t D O H->a8 (a9 X.prog X.w) X.A (execs a X.env) (SP X pQ D) X.xe s
variable{M:Model}{A:bu}
def thn{b:Type}{t:Sem b}{Q c:b->Sd->Prop}{E:vL->Sd->Prop}{s:Sd}(h:a8 M A t Q E s)(d:∀ a s,Q a s->c a s):a8 M A t c E s:=bS h d λ_ _ x=>x
variable{pQ:Li (Ad×Obj)}{s:Sd}{Q:vL->Sd->Prop}
variable{b:az}{ta tb:TE}{pos:Pos}
section
def tVar(i:Nat):TE:=λO H Q=>∃ v,O[i]?=aa (aa v)/\Q v H
def tC(v:V):TE:=λ_ H Q=>Q v H
def pe_var{x:Str}{d:Pos}(hN:X.N[i]?=aa x)(j:Vis X.env.scope x)(hd:(x==("__debug__":Str))=af:=by decide)(f:(x==("__classdict__":Str))=af:=by decide):PE X (.Name x d) (tVar i):=by
  intro pQ s O H Q I h;obtain⟨v,e,h⟩:=h;obtain⟨m,k,o⟩:=I.loc;obtain⟨u,r,l⟩:=o i x v hN e j;have b:EP X pQ O Q u s:=⟨v,H,I,r,h⟩;rcases l with⟨hk,n⟩|⟨hk,c,g,a⟩
  . exact wpAny_Name (wpAny_loadName_local I.ok.kind hk k n b) hd
  . rcases hk with hk|hk
    . exact wpAny_Name (wpAny_loadName_cell I.ok.kind hk g a b) hd
    . exact wpAny_Name (wpAny_loadName_free I.ok.kind hk g a b f) hd
def pe_int{i j pos}:PE X (.Constant (.int i) j pos) (tC (.int i)):=λ_ _ _ H _ I h=>wpAny_Constant_int ⟨.int i,H,I.tok _,⟨_,rfl⟩,h⟩
def pe_bl{b j pos}:PE X (.Constant (.bool b) j pos) (tC (.bl b)):=λ_ _ _ H _ I h=>Constant_bool ⟨.bl b,H,I,rfl,h⟩
def pe_non{j pos}:PE X (.Constant .none j pos) (tC .non):=λ_ _ _ H _ I h=>Constant_none ⟨.non,H,I,rfl,h⟩
def pe_str{x j pos}:PE X (.Constant (.str x) j pos) (tC (.str x)):=λ_ _ _ H _ I h=>Calls.Constant_str ⟨.str x,H,I.tok _,⟨_,rfl⟩,h⟩
def Gl(X:Cx)(x:Str):Prop:=X.env.kindOf x=aa .globalImplicit
def ld_glob{E:vL->Sd->Prop}{O:St}{x:Str}{u:vL}{a:Pos}(I:Inv X pQ O H s)(c:Gl X x)(b:X.mg x=aa u)(h:Q u s)(hd:(x==("__debug__":Str))=af:=by decide):a8 (a9 X.prog X.w) X.A (eval (.Name x a) X.env) Q E s:=
  Calls.Name_function_global I.ok.kind c (Calls.loadGlobal_global (by rw[I.ok.glob];exact I.mod.glob.keeps I.bk) b h) hd
def ld_blt{E:vL->Sd->Prop}{O:St}{x:Str}{u:vL}{a:Pos}(I:Inv X pQ O H s)(e:Gl X x)(d:X.mg x=ab)(b:bh x=aa u)(h:Q u s)(c:x ≠ "__name__":=by decide)(hd:(x==("__debug__":Str))=af:=by decide):a8 (a9 X.prog X.w) X.A (eval (.Name x a) X.env) Q E s:=by
  obtain⟨i,g,f⟩:=I.mod.blt;exact Calls.Name_function_global I.ok.kind e (Calls.loadGlobal_builtin (by rw[I.ok.glob];exact I.mod.glob.keeps I.bk) d (by rw[I.ok.blt];exact g.keeps I.bk) ((f x c).trans b) h) hd
def pe_glob{x:Str}{v:V}{u:vL}{a:Pos}(c:Gl X x)(b:X.mg x=aa u)(r:RelV v u)(hd:(x==("__debug__":Str))=af:=by decide):PE X (.Name x a) (tC v):=
  λ_ _ _ H _ I h=>ld_glob I c b ⟨v,H,I,r,h⟩ hd
def pe_bltn{x:Str}{v:V}{u:vL}{a:Pos}(e:Gl X x)(d:X.mg x=ab)(b:bh x=aa u)(r:RelV v u)(c:x ≠ "__name__":=by decide)(hd:(x==("__debug__":Str))=af:=by decide):PE X (.Name x a) (tC v):=
  λ_ _ _ H _ I h=>ld_blt I e d b ⟨v,H,I,r,h⟩ c hd
variable{a:az}
def PC(X:Cx)(e:CmpOp)(a b:az)(t:TE):Prop:=
  ∀ (pQ:Li (Ad×Obj)) (s:Sd) (O:St) (H:Hp) (Q:VK),Inv X pQ O H s->t O H Q->
    a8 (a9 X.prog X.w) X.A (eval a X.env) (λv d=>a8 (a9 X.prog X.w) X.A (eval b X.env) (λu c=>a8 (a9 X.prog X.w) X.A (br e v u) (EP X pQ O Q) X.xe c) X.xe d) X.xe s
def tB(t:TE):TT:=λO H Q=>t O H λx a=>∃ c,x=.bl c/\Q c a
def pt_val{e:az}{t:TE}(h:PE X e t)(g:∀ a,isTrue e X.env a=(do let v <-a;standAt e.pos;holding [v] (truthy v)):=by intro _;rfl):PT X e (tB t):=by
  intro pQ s O H Q I f;refine isTrue_plain (thn (h pQ s O H _ I f) λv s1 ⟨x,j,i,b,c⟩=>?_) (g _)
  obtain⟨d,rfl,q⟩:=c;cases b;exact wpAny_truthy_bool ⟨j,i,q⟩
variable{tA tB':TT}{rest:Li az}
def tAnd(t u:TT):TT:=λO H Q=>t O H λc a=>if c=ae then u O a Q else Q af a
def tOr(t u:TT):TT:=λO H Q=>t O H λc a=>if c=ae then Q ae a else u O a Q
def tNot(t:TT):TT:=λO H Q=>t O H λc a=>Q (!c) a
def pw_and1(b:PT X a tA):PW X (.BoolOp .And [a] pos) tA:=by
  intro d pQ s O H Q I h;refine isTrue_and (thn (b pQ s O H Q I h) λc s1 e=>?_)
  cases c with
  |true=>exact isTrue_and_nil e
  |false=>exact e
def pw_or1(b:PT X a tA):PW X (.BoolOp .Or [a] pos) tA:=by
  intro d pQ s O H Q I h;refine isTrue_or (thn (b pQ s O H Q I h) λc s1 e=>?_)
  cases c with
  |false=>exact isTrue_or_nil e
  |true=>exact e
def pw_and(j:PT X a tA)(i:PW X (.BoolOp .And (b :: rest) pos) tB'):PW X (.BoolOp .And (a :: b :: rest) pos) (tAnd tA tB'):=by
  intro g pQ s O H Q I h;refine isTrue_and (thn (j pQ s O H _ I h) λc s1 ⟨f,e,d⟩=>?_)
  cases c with
  |true=>exact i g pQ s1 O f Q e d
  |false=>exact⟨f,e,d⟩
def pw_or(j:PT X a tA)(i:PW X (.BoolOp .Or (b :: rest) pos) tB'):PW X (.BoolOp .Or (a :: b :: rest) pos) (tOr tA tB'):=by
  intro g pQ s O H Q I h;refine isTrue_or (thn (j pQ s O H _ I h) λc s1 ⟨f,e,d⟩=>?_)
  cases c with
  |true=>exact⟨f,e,d⟩
  |false=>exact i g pQ s1 O f Q e d
def pt_not(b:PT X a tA):PT X (.UnaryOp .Not a pos) (tNot tA):=by
  intro pQ s O H Q I h;exact isTrue_not (b pQ s O H (λc d=>Q (!c) d) I h)
def tAndV(ta tb:TE):TE:=λO H Q=>ta O H λx a=>∃ c,x=.bl c/\if c=ae then tb O a Q else Q (.bl af) a
def tOrV(ta tb:TE):TE:=λO H Q=>ta O H λx a=>∃ c,x=.bl c/\if c=ae then Q (.bl ae) a else tb O a Q
def tNotV(ta:TE):TE:=λO H Q=>ta O H λx a=>∃ c,x=.bl c/\Q (.bl (!c)) a
def pe_one{op}{t:TE}(h:PE X a t):PE X (.BoolOp op [a] pos) t:=λpQ s O H Q I b=>BoolOp_one (h pQ s O H Q I b)
def pe_and(j:PE X a ta)(i:PE X (.BoolOp .And (b :: rest) pos) tb):PE X (.BoolOp .And (a :: b :: rest) pos) (tAndV ta tb):=by
  intro pQ s O H Q I h;refine BoolOp_and (thn (j pQ s O H _ I h) λv s1 ⟨x,f,e,g,d⟩=>?_)
  obtain⟨c,rfl,d⟩:=d;cases g;refine wpAny_truthy_bool ?_;cases c with
  |true=>exact i pQ s1 O f Q e d
  |false=>exact⟨.bl af,f,e,rfl,d⟩
def pe_or(j:PE X a ta)(i:PE X (.BoolOp .Or (b :: rest) pos) tb):PE X (.BoolOp .Or (a :: b :: rest) pos) (tOrV ta tb):=by
  intro pQ s O H Q I h;refine BoolOp_or (thn (j pQ s O H _ I h) λv s1 ⟨x,f,e,g,d⟩=>?_)
  obtain⟨c,rfl,d⟩:=d;cases g;refine wpAny_truthy_bool ?_;cases c with
  |false=>exact i pQ s1 O f Q e d
  |true=>exact⟨.bl ae,f,e,rfl,d⟩
def pe_not(e:PE X a ta):PE X (.UnaryOp .Not a pos) (tNotV ta):=by
  intro pQ s O H Q I h;refine UnaryOp_ (thn (e pQ s O H _ I h) λv s1 ⟨x,g,f,d,b⟩=>?_)
  obtain⟨c,rfl,b⟩:=b;cases d;exact not_of (wpAny_truthy_bool ⟨.bl (!c),g,f,rfl,b⟩)
def tIf(t:TT)(ta tb:TE):TE:=λO H Q=>t O H λc a=>if c=ae then ta O a Q else tb O a Q
def pe_ifExp{c:az}(i:PT X c tA)(k:PE X a ta)(j:PE X b tb):PE X (.IfExp c a b pos) (tIf tA ta tb):=by
  intro pQ s O H Q I h;refine wpAny_IfExp (thn (i pQ s O H _ I h) λd s1 ⟨g,f,e⟩=>?_)
  cases d with
  |true=>exact k pQ s1 O g Q f e
  |false=>exact j pQ s1 O g Q f e
end
def SqL(K:Fg)(H:Hp)(a:Ad)(xs:Li V):Prop:=
  Rd H a (.lst xs) \/
    ∃ (o:Obj) (its:Array vL) (n:Nat),K.lookup a=aa o/\o.cls=.type "list"/\o.dict=ab/\o.data=.seq its n/\its.size<=ay/\Vals xs its.toList
def SqT(K:Fg)(H:Hp)(a:Ad)(xs:Li V):Prop:=
  Rd H a (.tup xs) \/
    ∃ (o:Obj) (its:Array vL) (n:Nat),K.lookup a=aa o/\o.cls=.type "tuple"/\o.data=.seq its n/\its.size<=ay/\Vals xs its.toList
noncomputable def absV:vL->Ot V
  |.none=>aa .non
  |.bool b=>aa (.bl b)
  |.int i _=>aa (.int i)
  |.str x _=>aa (.str x)
  |.bytes b _=>aa (.byt b)
  |.float b _=>aa (.flt b)
  |.ref a=>aa (.ref a)
  |.type n=>aa (.ty n)
  |_=>ab
def RelV.abs{x:V}{u:vL}(r:RelV x u):absV u=aa x:=by
  cases x with
  |non=>cases r;rfl
  |bl _=>cases r;rfl
  |int _=>obtain⟨t,rfl⟩:=r;rfl
  |str _=>obtain⟨t,rfl⟩:=r;rfl
  |byt _=>obtain⟨t,rfl⟩:=r;rfl
  |flt _=>obtain⟨t,rfl⟩:=r;rfl
  |ref _=>cases r;rfl
  |ty _=>cases r;rfl
theorem RelV.inj{x y:V}{u:vL}(r:RelV x u)(q:RelV y u):x=y:=aw (r.abs.symm.trans q.abs)
theorem Vals.inj:∀ {xs ys:Li V}{us:Li vL},Vals xs us->Vals ys us->xs=ys
  |_,_,_,.nil,.nil=>rfl
  |_,_,_,.cons r t,.cons a t'=>by rw[r.inj a,Vals.inj t t']
variable{K:Fg}
variable{O:St}{xs:Li V}
section
variable{ys:Li V}
def SqT.of(h:H a=aa (.tup xs)):SqT K H a xs:=.inl (.inl h)
def Inv.list(I:Inv X pQ O H s)(h:SqL X.K H a xs):∃ b:Li vL,Vals xs b/\PlainL s.heap a b.toArray/\xs.length<=ay:=by
  rcases h with h|⟨o,b,n,d,g,f,c,i,r⟩
  . obtain⟨z,b,n,r,e⟩:=h.ok I.hok
    exact⟨b,r,⟨_,n,e,rfl,rfl,rfl⟩,z⟩
  . refine⟨b.toList,r,⟨o,n,I.kIn a o d,g,f,by simpa using c⟩,?_⟩
    have e:=r.length;simp only[eE]at e;omega
def Inv.tuple(I:Inv X pQ O H s)(h:SqT X.K H a xs):∃ b:Li vL,Vals xs b/\IsTup s.heap a b.toArray/\xs.length<=ay:=by
  rcases h with h|⟨o,b,n,d,f,c,g,r⟩
  . obtain⟨z,b,r,p⟩:=h.ok I.hok
    exact⟨b,r,p,z⟩
  . refine⟨b.toList,r,⟨o,I.kIn a o d,f,n,by simpa using c⟩,?_⟩
    have e:=r.length;simp only[eE]at e;omega
def Inv.list_inj(I:Inv X pQ O H s)(h:SqL X.K H a xs)(i:SqL X.K H a ys):xs=ys:=by
  obtain⟨c,r,⟨o,n,e,_,_,d⟩,_⟩:=I.list h;obtain⟨b,g,⟨k,l,f,_,_,d'⟩,_⟩:=I.list i;rw[e]at f;cases f
  rw[d]at d'
  injection d' with j _
  have:c=b:=by simpa using av Array.toList j
  subst this;exact r.inj g
def Inv.tuple_inj(I:Inv X pQ O H s)(h:SqT X.K H a xs)(i:SqT X.K H a ys):xs=ys:=by
  obtain⟨c,r,⟨o,e,_,n,d⟩,_⟩:=I.tuple h;obtain⟨b,g,⟨k,f,_,l,d'⟩,_⟩:=I.tuple i;rw[e]at f;cases f
  rw[d]at d'
  injection d' with j _
  have:c=b:=by simpa using av Array.toList j
  subst this;exact r.inj g
end
noncomputable abbrev Cx.wish(X:Cx)(E:vL->Sd->Prop):Cx:={ X with xe:=E }
noncomputable abbrev Cx.nox(X:Cx):Cx:=X.wish λ_ _=>False
theorem Cx.Ok.wish(ok:X.Ok)(E:vL->Sd->Prop):(X.wish E).Ok:=
  ⟨ok.mod,ok.kind,ok.glob,ok.blt,ok.above,ok.inj,ok.has,ok.cab,ok.hd,ok.frames,ok.stk,ok.exf,ok.bs,ok.bsz,ok.noex,ok.exfs,ok.funs,ok.frf⟩
def Cx.Ok.unwish{E:vL->Sd->Prop}(ok:(X.wish E).Ok):X.Ok:=
  ⟨ok.mod,ok.kind,ok.glob,ok.blt,ok.above,ok.inj,ok.has,ok.cab,ok.hd,ok.frames,ok.stk,ok.exf,ok.bs,ok.bsz,ok.noex,ok.exfs,ok.funs,ok.frf⟩
variable{E:vL->Sd->Prop}
theorem Inv.wish(I:Inv X pQ O H s)(E:vL->Sd->Prop):Inv (X.wish E) pQ O H s:=⟨I.ok.wish E,I.os,I.bare,I.base,I.loc,I.cell,I.free,I.freeC,I.pin,I.hok,I.len⟩
theorem Inv.unwish(I:Inv (X.wish E) pQ O H s):Inv X pQ O H s:=⟨I.ok.unwish,I.os,I.bare,I.base,I.loc,I.cell,I.free,I.freeC,I.pin,I.hok,I.len⟩
theorem SP.unwish{D:Ends}{f:Flow}{c:Sd}(h:SP (X.wish E) pQ D f c):SP X pQ D f c:=by
  cases f with
  |next=>obtain⟨a,b,I,q⟩:=h;exact⟨a,b,I.unwish,q⟩
  |brk=>obtain⟨a,b,I,q⟩:=h;exact⟨a,b,I.unwish,q⟩
  |cont=>obtain⟨a,b,I,q⟩:=h;exact⟨a,b,I.unwish,q⟩
  |ret u=>obtain⟨v,a,b,I,r,q⟩:=h;exact⟨v,a,b,I.unwish,r,q⟩
theorem PSs.nox{a:Li Stmt}{t:TS}(h:PSs X.nox a t):PSs X a t:=λpQ s O H D I b=>
  bS (h pQ s O H D (I.wish _) b) (λ_ _ q=>q.unwish) λ_ _ z=>False.elim z
variable{e:az}{te:TE}
section
variable{st:Stmt}{rest:Li Stmt}{t u:TS}
def tNext:TS:=λD O H=>D.nx O H
def tSeq(t u:TS):TS:=λD O H=>t { D with nx:=u D } O H
def pss_nil:PSs X [] tNext:=λ_ _ O H _ I h=>wpAny_execs_nil ⟨O,H,I,h⟩
def pss_cons(b:PS X st t)(a:PSs X rest u):PSs X (st :: rest) (tSeq t u):=by
  intro pQ s O H D I h;refine wpAny_execs_cons (thn (b pQ s O H { D with nx:=u D } I h) λf s1 q=>?_)
  cases f with
  |next=>
    obtain⟨c,e,d,q⟩:=q;exact a pQ s1 c e D d q
  |ret v=>exact q
  |brk=>exact q
  |cont=>exact q
def tBreak:TS:=λD O H=>D.bk O H
def tCont:TS:=λD O H=>D.ct O H
def ps_pass:PS X (.Pass pos) tNext:=λ_ _ O H _ I h=>wpAny_Pass ⟨O,H,I,h⟩
def ps_break:PS X (.Break pos) tBreak:=λ_ _ O H _ I h=>wpAny_Break ⟨O,H,I,h⟩
def ps_continue:PS X (.Continue pos) tCont:=λ_ _ O H _ I h=>wpAny_Continue ⟨O,H,I,h⟩
def Inv.quiet{O:St}(I:Inv X pQ O H s):interactive X.env=af:=by simp[interactive,I.ok.kind]
def tDrop(te:TE):TS:=λD O H=>te O H λ_ a=>D.nx O a
def ps_expr(c:PE X e te)(b:swapsWith e ab pos.line X.env=pure af:=by rfl):PS X (.Expr e pos) (tDrop te):=by
  intro pQ s O H D I h;exact wpAny_Expr_any (thn (c pQ s O H _ I h) λv s1 ⟨x,f,d,g,a⟩=>⟨O,f,d,a⟩) I.quiet b
def tRet(te:TE):TS:=λD O H=>te O H D.rt
def ps_ret(c:PE X e te):PS X (.Return (aa e) pos) (tRet te):=by
  intro pQ s O H D I h;exact wpAny_Return_some (thn (c pQ s O H _ I h) λv s1 ⟨x,f,d,a,b⟩=>⟨x,O,f,d,a,b⟩)
def tIfS(c:TT)(t u:TS):TS:=λD O H=>c O H λb a=>if b=ae then t D O a else u D O a
def ps_if{c:az}{a b:Li Stmt}{e:TT}(j:PT X c e)(l:PSs X a t)(k:PSs X b u):PS X (.If c a b pos) (tIfS e t u):=by
  intro pQ s O H D I h;refine wpAny_If (thn (j pQ s O H _ I h) λd s1 ⟨i,g,f⟩=>?_)
  cases d with
  |true=>exact l pQ s1 O i D g f
  |false=>exact k pQ s1 O i D g f
end
abbrev TG:=V->St->Hp->(St->Hp->Prop)->Prop
abbrev TGs:=Li V->St->Hp->(St->Hp->Prop)->Prop
def PG(X:Cx)(a:az)(t:TG):Prop:=
  ∀ (pQ:Li (Ad×Obj)) (s:Sd) (O:St) (H:Hp) (v:V) (u:vL) (Q:St->Hp->Prop),Inv X pQ O H s->RelV v u->t v O H Q->
    a8 (a9 X.prog X.w) X.A (assign a X.env u) (λ_ d=>∃ b c,Inv X pQ b c d/\Q b c) X.xe s
def PGs(X:Cx)(c:Li az)(t:TGs):Prop:=
  ∀ (pQ:Li (Ad×Obj)) (s:Sd) (O:St) (H:Hp) (vs:Li V) (us:Li vL) (Q:St->Hp->Prop),Inv X pQ O H s->Vals vs us->t vs O H Q->
    a8 (a9 X.prog X.w) X.A (assignInOrder ((assignEach c X.env).map (·.2)) us) (λ_ d=>∃ a b,Inv X pQ a b d/\Q a b) X.xe s
abbrev TSet:=V->V->V->Hp->(Hp->Prop)->Prop
def PSet(X:Cx)(t:TSet):Prop:=
  ∀ (pQ:Li (Ad×Obj)) (s:Sd) (O:St) (H:Hp) (o i v:V) (ov iv u:vL) (Q:Hp->Prop),Inv X pQ O H s->RelV o ov->RelV i iv->RelV v u->t o i v H Q->
    a8 (a9 X.prog X.w) X.A (setItem ov iv u) (λ_ b=>∃ a,Inv X pQ O a b/\Q a) X.xe s
variable{es:Li az}{n:Nat}{tg:az}
def gName(i:Nat):TG:=λv O H Q=>Q (O.set i (aa v)) H
def pg_name{x:Str}(hN:X.N.Nodup)(b:X.N[i]?=aa x)(a:Loc X.env.scope x)(c:X.fn x=ae\/X.env.scope.names.lookup x=aa .local:=by first|exact .inl rfl|exact .inr rfl|assumption):PG X (.Name x pos) (gName i):=by
  intro pQ s O H v u Q I r h;exact wpAny_assign_Name (store_ok I hN b a r (λe d=>⟨_,H,d,h⟩) c)
def gNil:TGs:=λa O H Q=>a=[]/\Q O H
def gCons(t:TG)(u:TGs):TGs:=λa O H Q=>∃ v r,a=v :: r/\t v O H λb c=>u r b c Q
def pgs_nil:PGs X [] gNil:=by
  intro pQ s O H a us Q I r h;obtain⟨e,h⟩:=h;subst e;cases r;exact assignInOrder_nil ⟨O,H,I,h⟩
def pgs_cons{e:az}{t:TG}{u:TGs}(g:PG X e t)(f:PGs X es u)(d:(assignEach (e :: es) X.env).map (·.2)=assign e X.env :: (assignEach es X.env).map (·.2):=by rfl):PGs X (e :: es) (gCons t u):=by
  intro pQ s O H l us Q I r h;obtain⟨v,m,i,h⟩:=h;subst i;cases r with
  |cons r b=>
    rw[d];refine assignInOrder_cons (thn (g pQ s O H _ _ _ I r h) λ_ s1 ⟨a,k,j,c⟩=>?_)
    exact f pQ s1 a k _ _ Q j b c
def gTup(K:Fg)(n:Nat)(t:TGs):TG:=λv O H Q=>∃ a xs,v=.ref a/\SqT K H a xs/\xs.length=n/\t xs O H Q
def pg_tup{k:Nat}{t:TGs}(p:X.calm=ae)(h:PGs X es t)(l:(assignEach es X.env).length=n:=by rfl)(d:(assignEach es X.env).findIdx? (·.1)=ab:=by rfl):PG X (.Tuple es k pos) (gTup X.K n t):=by
  intro pQ s O H v u Q I r c;obtain⟨a,xs,w,j,m,c⟩:=c;subst w;cases r;obtain⟨f,rv,i,y⟩:=I.tuple j;refine assign_Tuple_tuple (I.ok.hd p) i (by simp[l,<-m,rv.length]) d λq g=>?_
  have x:Inv X pQ O H { s with heap:=q }:=I.kept (t':=s.toks) λb o e=>g b o (bC (aL e)) e
  exact h pQ _ O H xs _ Q x (by simpa using rv) c
def gSub(a b:TE)(t:TSet):TG:=λv O H Q=>a O H λo e=>b O e λi d=>t o i v d λc=>Q O c
def pg_sub{o i:az}{c d:TE}{t:TSet}(n:PE X o c)(p:PE X i d)(m:PSet X t)(q:∀ v,assign (.Subscript o i pos) X.env v=(do
      let a <-holding [v] (eval o X.env)
      let b <-holding [v,a] (eval i X.env)
      standAt pos
      holding [v,a,b] (setItem a b v)
      release [v,a,b] []):=by intro _;rfl):PG X (.Subscript o i pos) (gSub c d t):=by
  intro pQ s O H v u Q I r h;rw[q];refine aA (wpAny_holding (thn (n pQ s O H _ I h) λa s1 ⟨x,D,A,g,l⟩=>?_))
  refine aA (wpAny_holding (thn (p pQ s1 O D _ A l) λb e ⟨y,C,z,f,k⟩=>?_))
  refine aA (wpAny_standAt (aA (wpAny_holding (thn (m pQ e O C x y v a b u _ z g f r k) λ_ E ⟨B,w,j⟩=>?_))))
  exact wpAny_release ⟨O,B,w,j⟩
def tAsg(a:TE)(g:TG):TS:=λD O H=>a O H λx b=>g x O b D.nx
def ps_asg{e:az}{a:TE}{g:TG}(j:PE X e a)(i:PG X tg g)(f:swapsWithSole [tg] e pos.line X.env=pure af:=by rfl)(d:swappedStores [tg] e X.env=pure ab:=by rfl)(k:(assignEach [tg] X.env).map (·.2)=[assign tg X.env]:=by rfl):PS X (.Assign [tg] e pos) (tAsg a g):=by
  intro pQ s O H D I h;refine wpAny_Assign_stores (thn (j pQ s O H _ I h) λv s1 ⟨x,m,l,b,c⟩=>?_) f d
  rw[k];exact thn (i pQ s1 O m x v _ l b c) λ_ n q=>q
def ps_set{x:Str}{e:az}{b:TE}{a:Pos}(hN:X.N.Nodup)(j:X.N[i]?=aa x)(f:Loc X.env.scope x)(l:PE X e b)(g:swapsWith e (aa (.Name x a)) pos.line X.env=pure af:=by rfl)(k:X.fn x=ae\/X.env.scope.names.lookup x=aa .local:=by first|exact .inl rfl|exact .inr rfl|assumption) :
    PS X (.Assign [.Name x a] e pos) (tAsg b (gName i)):=by
  intro pQ s O H D I h;refine wpAny_Assign_Name (thn (l pQ s O H _ I h) λv s1 ⟨y,o,n,c,d⟩=>?_) g
  exact store_ok n hN j f c (λp m=>⟨_,o,m,d⟩) k
variable{body:Li Stmt}
def tWhile(c:TT)(g:TS):TS:=λD O H=>∃ W:Nat->St->Hp->Prop,(∃ m,W m O H)/\∀ m O H,W m O H->
  c O H λb e=>if b=ae then ∃ N:St->Hp->Prop,(∀ d f,N d f->∃ a,a < m/\W a d f)/\g { D with nx:=N,ct:=N,bk:=D.nx } O e else D.nx O e
def ps_while{c:az}{p:TT}{q:TS}(r:PassesOwn (a9 X.prog X.w) X.A X.env X.xe)(K:PT X c p)(L:PSs X body q):PS X (.While c body [] pos) (tWhile p q):=by
  intro pQ s O H D I h;obtain⟨W,⟨J,E⟩,turn⟩:=h;refine wpAny_While (codeAny_whileLoop (λn G=>∃ u B,Inv X pQ u B G/\W n u B) ?_ J ⟨O,H,I,E⟩)
  rintro n s1 ⟨d,z,M,C⟩
  refine wpAny_passesOwn r (thn (K pQ s1 d z _ M (turn n d z C)) λb F ⟨y,x,i⟩=>?_)
  cases b with
  |true=>
    obtain⟨N,t,i⟩:=i;rw[aq rfl];refine wpAny_passesOwn r (thn (L pQ F d y _ x i) λf P g=>?_)
    cases f with
    |next=>
      obtain⟨a,e,o,k⟩:=g;obtain⟨l,m,j⟩:=t a e k;exact⟨l,m,a,e,o,j⟩
    |cont=>
      obtain⟨a,e,o,k⟩:=g;obtain⟨l,m,j⟩:=t a e k;exact⟨l,m,a,e,o,j⟩
    |brk=>exact g
    |ret v=>exact g
  |false=>
    rw[ar Bf];exact wpAny_execs_nil ⟨d,y,x,i⟩
structure It where
  go:Nat->Hp->Prop
  yld:Nat->Hp->V->Hp->Prop
  stop:Nat->Hp->Prop
def FpOk(X:Cx)(pQ:Li (Ad×Obj))(H:Hp)(b:Ad):Prop:=
  H b=ab/\b≠X.env.locals/\b∉X.fs/\(b∈X.ex\/X.s₀.heap.objs.size<=b)/\(∀ x c,X.env.cells.lookup x=aa c->c≠b)/\∀ p∈X.pn++pQ,p.1≠b
def Inv.fpOk{O:St}{d:Hp}{b:Ad}(I:Inv X pQ O H s)(a:s.heap.objs.size<=b)(g:d b=ab):FpOk X pQ d b:=by
  refine⟨g,Nat.ne_of_gt (aS I.lt a),I.nofs a,.inr (aP I.sz a),λx c e z=>?_,λp f z=>?_⟩
  . obtain⟨v,q⟩:=I.cell x c e
    exact au (aS q.lt (by rw[z];exact a)) (cJ _)
  . exact au (aS (aL (I.pin p f).1) (by rw[z];exact a)) (cJ _)
structure Turn(P:bf)(w:bq)(K:Fg)(tg:az)(J:It)(fp:List Addr)(it:Addr)(tn:Nat->bp->Prop):Prop where
  mem:it∈fp
  obj:∀ i h,tn i h->∀ b∈fp,∃ o,h.get? b=aa o/\∀ v,o.data≠.cell v
  keep:∀ i h h',tn i h->(∀ b∈fp,∀ o,h.get? b=aa o->h'.get? b=aa o)->tn i h'
  item:∀ (X:Cx),X.prog=P->X.w=w->X.K=K->X.calm=ae->∀ (i:Nat) (pQ:List (Addr×Obj)) (s:Shared) (O:St) (H:Hp) (E:Value->Shared->Prop),Inv X pQ O H s->(∀ b∈fp,FpOk X pQ H b)->tn i s.heap->J.go i H->
    a8 (a9 P w) X.A (pyNext (.ref it)) (λr s1=>∃ u,r=aa u /\
      a8 (a9 P w) X.A (letOwnedTupleGo tg (.ref it) u) (λ_ s2=>∃ x H',Inv X pQ O H' s2/\RelV x u/\J.yld i H x H'/\tn (i+1) s2.heap/\∀ b∈fp,H' b=ab) E s1) E s
  done:∀ (X:Cx),X.prog=P->X.w=w->X.K=K->X.calm=ae->∀ (i:Nat) (pQ:List (Addr×Obj)) (s:Shared) (O:St) (H:Hp) (E:Value->Shared->Prop),Inv X pQ O H s->(∀ b∈fp,FpOk X pQ H b)->tn i s.heap->J.stop i H->
    a8 (a9 P w) X.A (pyNext (.ref it)) (λr s1=>r=ab/\Inv X pQ O H s1) E s
  self:∀ (A:bu) (i:Nat) (s:Shared) (Q:Value->Shared->Prop) (E:Value->Shared->Prop),tn i s.heap->Q (.ref it) s->a8 (a9 P w) A (pyIter (.ref it)) Q E s
abbrev TI:=St->Hp->(It->Hp->Prop)->Prop
def PIE(X:Cx)(pQ:Li (Ad×Obj))(O:St)(tg:az)(R:It->Hp->Prop)(a:vL)(c:Sd):Prop:=
  ∃ (it:Ad) (fp:Li Ad) (tn:Nat->bp->Prop) (J:It) (H':Hp),a=.ref it/\Inv X pQ O H' c/\Turn X.prog X.w X.K tg J fp it tn/\tn 0 c.heap/\(∀ b∈fp,FpOk X pQ H' b)/\R J H'
def PI(X:Cx)(tg iter:az)(a:TI):Prop:=
  ∀ (pQ:Li (Ad×Obj)) (s:Sd) (O:St) (H:Hp) (R:It->Hp->Prop),Inv X pQ O H s->a O H R->
    a8 (a9 X.prog X.w) X.A (eval iter X.env) (λv s1=>a8 (a9 X.prog X.w) X.A (pyIter v) (PIE X pQ O tg R) X.xe s1) X.xe s
def go_of{E:vL->Sd->Prop}{c:Ad}{u:vL}{o:Obj}{n:String}{b:Array vL}{Q:Unit->Sd->Prop}(d:s.heap.get? c=aa o)(f:o.cls=.type n)(hd:o.data=.fields b)(e:["enumerate", "zip", "dict_itemiterator", "dict_reverseitemiterator", "odict_iterator", "itertools.zip_longest", "itertools.pairwise"].contains n=af)(a:Q () s):a8 M A (letOwnedTupleGo tg (.ref c) u) Q E s:=by
  unfold letOwnedTupleGo;cases tg<;>first
    |exact aF a
    | (cases u<;>first
        |exact aF a
        | (refine aA (wpAny_load d ?_)
           rw[f,hd];show a8 M A (if (["enumerate", "zip", "dict_itemiterator", "dict_reverseitemiterator", "odict_iterator", "itertools.zip_longest", "itertools.pairwise"].contains n&&b[0]?==aa (rawInt _))=ae then _ else _) Q E s
           rw[ar (by intro h;rw[e,Bool.false_and]at h;cases h)]
           exact aF a))
noncomputable def Itl(K:Fg)(a:Ad):It:=
  ⟨λi H=>∃ xs x,SqL K H a xs/\xs[i]?=aa x,λi H x b=>b=H/\∀ xs,SqL K H a xs->xs[i]?=aa x,λi H=>∃ xs,SqL K H a xs/\xs.length<=i⟩
noncomputable def Itt(K:Fg)(a:Ad):It:=
  ⟨λi H=>∃ xs x,SqT K H a xs/\xs[i]?=aa x,λi H x b=>b=H/\∀ xs,SqT K H a xs->xs[i]?=aa x,λi H=>∃ xs,SqT K H a xs/\xs.length<=i⟩
noncomputable def Itr(lo:Int)(n:Nat):It:=⟨λi _=>i < n,λi H x a=>a=H/\x=.int (lo+i),λi _=>n<=i⟩
def turn_list{P:bf}(a g:Ad):Turn P w K tg (Itl K a) [g] g (λi h=>h.IsListIter g a i) where
  mem:=by simp
  obj:=λi h f b j=>by
    have e:b=g:=by simpa using j
    subst e;obtain⟨o,e,c,d⟩:=f;exact⟨o,e,λv z=>by rw[d]at z;cases z⟩
  keep:=λi h q f k=>f.at λo e=>k g (by simp) o e
  item:=by
    intro X B y C M i pQ s O H E I n f A;subst B y C;obtain⟨xs,x,m,t⟩:=A;obtain⟨r,rv,p,Q⟩:=I.list m;obtain⟨u,S,N⟩:=rv.get t;obtain⟨L,J,T,G,F,D⟩:=n g (by simp)
    refine wpAny_pyNext_list_item f p.isList (x:=u) (by simpa using S) λq l sb=>?_
    have V:Inv X pQ O H { s with heap:=q }:=I.turned (t':=s.toks) (λb o j e=>(sb.2 b j).trans e) L J G F D
    obtain⟨o,e,c,d⟩:=id l;exact⟨u,rfl,go_of (s:={ s with heap:=q }) e c d (by decide) ⟨x,H,V,N,⟨rfl,λW R=>by rw[I.list_inj R m];exact t⟩,l,λb j=>(n b j).1⟩⟩
  done:=by
    intro X B y C M i pQ s O H E I n f A;subst B y C;obtain⟨xs,m,t⟩:=A;obtain⟨r,rv,p,Q⟩:=I.list m;obtain⟨L,J,T,G,F,D⟩:=n g (by simp)
    have Y:=rv.length;exact wpAny_pyNext_list_end (I.ok.hd M) f p.isList (by simp;omega) λq U=>⟨rfl,I.turned (t':=s.toks) (λb o j e=>U b o j e) L J G F D⟩
  self:=λ_ _ _ _ _ f h=>wpAny_pyIter_listiter f h
def turn_tuple{P:bf}(a j:Ad):Turn P w K tg (Itt K a) [j] j (λi h=>h.IsTupleIter j a i) where
  mem:=by simp
  obj:=λi h f b l=>by
    have e:b=j:=by simpa using l
    subst e;obtain⟨o,e,c,d⟩:=f;exact⟨o,e,λv z=>by rw[d]at z;cases z⟩
  keep:=λi h r f k=>f.at λo e=>k j (by simp) o e
  item:=by
    intro X B y C M i pQ s O H E I q f A;subst B y C;obtain⟨xs,x,n,t⟩:=A;obtain⟨g,rv,p,Q⟩:=I.tuple n;obtain⟨u,S,N⟩:=rv.get t;obtain⟨L,J,T,G,F,D⟩:=q j (by simp)
    refine wpAny_pyNext_tuple_item f (show s.heap.IsTuple a g.toArray from p) (x:=u) (by simpa using S) λr m sb=>?_
    have V:Inv X pQ O H { s with heap:=r }:=I.turned (t':=s.toks) (λb o l e=>(sb.2 b l).trans e) L J G F D
    obtain⟨o,e,c,d⟩:=id m;exact⟨u,rfl,go_of (s:={ s with heap:=r }) e c d (by decide) ⟨x,H,V,N,⟨rfl,λW R=>by rw[I.tuple_inj R n];exact t⟩,m,λb l=>(q b l).1⟩⟩
  done:=by
    intro X B y C M i pQ s O H E I q f A;subst B y C;obtain⟨xs,n,t⟩:=A;obtain⟨g,rv,p,Q⟩:=I.tuple n;obtain⟨L,J,T,G,F,D⟩:=q j (by simp)
    have Y:=rv.length;exact wpAny_pyNext_tuple_end (I.ok.hd M) f (show s.heap.IsTuple a g.toArray from p) (by simp;omega) λr U=>⟨rfl,I.turned (t':=s.toks) (λb o l e=>U b o l e) L J G F D⟩
  self:=λ_ _ _ _ _ f h=>wpAny_pyIter_tupleiter f h
def turn_range{P:bf}(c:Ad)(lo:Int)(n:Nat):Turn P w K tg (Itr lo n) [c] c (λi h=>IsRangeIter h c (lo+(i:Nat) * 1) ((n:Int) - (i:Nat)) 1) where
  mem:=by simp
  obj:=λi h a b d=>by
    have e:b=c:=by simpa using d
    subst e;exact⟨_,a,λv z=>by
      have D:Data.fields _=Data.cell v:=z;cases D⟩
  keep:=λi h j a k=>k c (by simp) _ a
  item:=by
    intro X q l r p i pQ s O H E I g a m;subst q l r;obtain⟨B,A,J,y,x,u⟩:=g c (by simp)
    have W:=Walks.range (prog:=X.prog) (w:=X.w) (I.ok.hd p) c lo 1 n;refine W.item i s _ _ m a λv j C G f F=>?_
    obtain⟨t,rfl⟩:=G;have M:Inv X pQ O H { s with heap:=j,toks:=C }:=I.turned (λb o d e=>F b o (by simpa using d) e) B A y x u
    refine⟨_,rfl,go_of (s:={ s with heap:=j,toks:=C }) (n := "range_iterator") f rfl rfl (by decide) ⟨.int (lo+i),H,M,⟨t,?_⟩,⟨rfl,rfl⟩,f,λb d=>(g b d).1⟩⟩
    rw[Int.mul_one]
  done:=by
    intro X q l r p i pQ s O H E I g a m;subst q l r;obtain⟨B,A,J,y,x,u⟩:=g c (by simp)
    exact wpAny_pyNext_range_end (I.ok.hd p) a (by have:n<=i:=m;omega) λj L=>⟨rfl,I.turned (t':=s.toks) (λb o d e=>L b o d e) B A y x u⟩
  self:=λ_ _ _ _ _ a h=>wpAny_pyIter_rangeiter a h
variable{l:az}{fp:Li Ad}
variable{tg:az}
def iList(K:Fg)(tl:TE):TI:=λO H R=>tl O H λx b=>∃ a,x=.ref a/\(∃ xs,SqL K b a xs)/\R (Itl K a) b
def iTup(K:Fg)(tl:TE):TI:=λO H R=>tl O H λx b=>∃ a,x=.ref a/\(∃ xs,SqT K b a xs)/\R (Itt K a) b
def pi_list{tl:TE}(j:PE X l tl):PI X tg l (iList X.K tl):=by
  intro pQ s O H R I h;refine thn (j pQ s O H _ I h) λv s1 ⟨x,m,c,d,f⟩=>?_
  obtain⟨a,e,⟨xs,i⟩,q⟩:=f;subst e;cases d;obtain⟨g,rv,p,n⟩:=c.list i;refine wpAny_pyIter_list p.isList ?_;refine⟨s1.heap.objs.size,[s1.heap.objs.size],_,_,m,rfl,c.kept (t':=s1.toks) λb o e=>aT _ e,turn_list a _,⟨_,bO _ rfl,rfl,rfl⟩,λb k=>?_,q⟩
  have e:b=s1.heap.objs.size:=by simpa using k
  subst e;exact c.fpOk (aB _) (c.hok.fresh (aB _))
def pi_tup{tl:TE}(j:PE X l tl):PI X tg l (iTup X.K tl):=by
  intro pQ s O H R I h;refine thn (j pQ s O H _ I h) λv s1 ⟨x,m,c,f,g⟩=>?_
  obtain⟨a,e,⟨xs,i⟩,q⟩:=g;subst e;cases f;obtain⟨d,rv,p,n⟩:=c.tuple i;refine wpAny_pyIter_tuple (show s1.heap.IsTuple a d.toArray from p) ?_;refine⟨s1.heap.objs.size,[s1.heap.objs.size],_,_,m,rfl,c.kept (t':=s1.toks) λb o e=>aT _ e,turn_tuple a _,⟨_,bO _ rfl,rfl,rfl⟩,λb k=>?_,q⟩
  have e:b=s1.heap.objs.size:=by simpa using k
  subst e;exact c.fpOk (aB _) (c.hok.fresh (aB _))
def range_it{O:St}{R:It->Hp->Prop}{E:vL->Sd->Prop}{lo a:Int}{t u v:Tok}{c:Nat}(I:Inv X pQ O H s)(j:-(2 ^ 62)<=lo)(i:lo < 2 ^ 62)(h:-(2 ^ 62)<=a)(g:a < 2 ^ 62)(q:R (Itr lo (a - lo).toNat) H):a8 (a9 X.prog X.w) X.A (pyIter (.ref s.heap.objs.size)) (PIE X pQ O tg R) E { s with heap:=s.heap.push { cls:=.type "range",data:=.fields #[.int lo t,.int a u,.int 1 v] },toks:=c }:=by
  refine wpAny_pyIter_range (IsRange.new ..) (small_one j i h g) ?_;have d:Inv X pQ O H { s with heap:=s.heap.push { cls:=.type "range",data:=.fields #[.int lo t,.int a u,.int 1 v] },toks:=c }:=I.kept λb o e=>aT _ e
  refine⟨(s.heap.push { cls:=.type "range",data:=.fields #[.int lo t,.int a u,.int 1 v] }).objs.size,[(s.heap.push { cls:=.type "range",data:=.fields #[.int lo t,.int a u,.int 1 v] }).objs.size],_,_,H,rfl,
    d.kept (t':=c) λb o e=>aT _ e,turn_range _ lo (a - lo).toNat,?_,λb f=>?_,q⟩
  . have l:lo+((0:Nat):Int) * 1=lo:=by simp
    have k:(((a - lo).toNat:Nat):Int) - ((0:Nat):Int)=Builtin.Range.rangeSize lo a 1:=by rw[rangeSize_one];split<;>omega
    show IsRangeIter _ _ (lo+((0:Nat):Int) * 1) ((((a - lo).toNat:Nat):Int) - ((0:Nat):Int)) 1;rw[l,k];exact bO _ rfl
  . have e:b=(s.heap.push { cls:=.type "range",data:=.fields #[.int lo t,.int a u,.int 1 v] }).objs.size:=by simpa using f
    subst e;exact d.fpOk (aB _) (d.hok.fresh (aB _))
def iRng1(b:TA):TI:=λO H R=>b O H λa c=>∃ j:Int,a=[.int j]/\-(2 ^ 62)<=j/\j < 2 ^ 62/\R (Itr 0 j.toNat) c
def pi_range1{a:az}{d:TA}{p b:Pos}(m:Gl X "range")(l:X.mg "range"=ab)(n:PA X [a] d)(k:bg [a] X.env=[(af,eval a X.env)]:=by rfl):PI X tg (.Call (.Name "range" p) [a] [] b) (iRng1 d):=by
  intro pQ s O H R I h;refine Call_ (ld_blt I m l boot_range (PyProof.Rows.callWith_type1 (thn (n b pQ s O H _ I h) λus s1 ⟨u,v,o,g,c⟩=>?_) k rfl))
  obtain⟨j,e,c,i,q⟩:=c;subst e;cases g with
  |cons r f=>
    cases f;obtain⟨t,rfl⟩:=r;exact call_range_1 (range_it o (by omega) (by omega) c i (by simpa using q))
def tFor(e:TI)(g:TG)(f:TS):TS:=λD O H=>e O H λJ j=>∃ W:Nat->Nat->St->Hp->Prop,(∃ m,W 0 m O j)/\∀ i m O H,W i m O H->
  (J.stop i H/\D.nx O H)\/(J.go i H/\∃ N:St->Hp->Prop,(∀ d a,N d a->∃ c,c < m/\W (i+1) c d a)/\∀ x a,J.yld i H x a->g x O a λb h=>f { D with nx:=N,ct:=N,bk:=D.nx } b h)
noncomputable def pinsAt(fp:Li Ad)(h:bp):Li (Ad×Obj):=fp.filterMap λb=>(h.get? b).map λo=>(b,o)
def mem_pinsAt{b:Ad}{o:Obj}(a:b∈fp)(e:h.get? b=aa o):(b,o)∈pinsAt fp h:=List.mem_filterMap.mpr ⟨b,a,by rw[e];rfl⟩
def of_pinsAt{p:Ad×Obj}(a:p∈pinsAt fp h):p.1∈fp/\h.get? p.1=aa p.2:=by
  obtain⟨b,c,e⟩:=List.mem_filterMap.mp a;cases q:h.get? b with
  |none=>rw[q]at e;cases e
  |some o=>
    rw[q]at e;have d:(b,o)=p:=aw e;subst d;exact⟨c,q⟩
def Inv.pinned{O:St}{fp:Li Ad}(I:Inv X pQ O H s)(h:∀ b∈fp,FpOk X pQ H b)(g:∀ b∈fp,∃ o,s.heap.get? b=aa o/\∀ v,o.data≠.cell v):Inv X (pQ++pinsAt fp s.heap) O H s:=
  I.pins_of λp f=>(bE.mp f).elim (λz=>I.pin p (bP _ z)) λz=>by
    obtain⟨a,e⟩:=of_pinsAt z;obtain⟨k,j,i,_⟩:=h p.1 a;obtain⟨o,c,d⟩:=g p.1 a;rw[e]at c;cases c
    exact⟨e,k,j,i,d⟩
def Inv.unpinned{a:Li (Ad×Obj)}{O:St}(I:Inv X (pQ++a) O H s):Inv X pQ O H s:=I.pins_of λp b=>I.pin p (bP _ (dU _ b))
def ps_for{iter:az}{V:TI}{g:TG}{Z:TS}{Q:Pos}(E:PassesOwn (a9 X.prog X.w) X.A X.env X.xe)(hc:X.calm=ae)(hi:PI X tg iter V)(hg:PG X tg g)(k:PSs X body Z)(hs:∀ x,foldedSetIterable iter X.env x=pure x:=by intro _;rfl):PS X (.For tg iter body [] Q) (tFor V g Z):=by
  intro pQ s O H D I h;refine wpAny_For (thn (hi pQ s O H _ I h) λv s1 h1=>thn h1 λitv s2 h2=>?_) hs
  obtain⟨it,fp,Y,J,H2,e,I2,T,M,f2,W,⟨m0,w0⟩,turn⟩:=h2;subst e
  -- what stays ae of the iterator's objects through the loop
  have j:∀ {t:Hp},(∀ b∈fp,t b=ab)->∀ b∈fp,FpOk X pQ t b:=λhn b k=>⟨hn b k,(f2 b k).2⟩
  refine codeAny_forLoop_any (λn s'=>∃ i G t,Inv X pQ G t s'/\Y i s'.heap/\(∀ b∈fp,t b=ab)/\W i n G t) ?_ m0 ⟨0,O,H2,I2,M,λb k=>(f2 b k).1,w0⟩
  rintro n s3 ⟨i,c,K,I3,B,F,w3⟩
  rcases turn i n c K w3 with⟨stop,qn⟩|⟨go,N,hN,step⟩
  . refine wpAny_passesOwn E (thn (T.done X rfl rfl rfl hc i pQ s3 c K X.xe I3 (j F) B stop) λr s4 ⟨R,I4⟩=>?_)
    subst R;exact wpAny_execs_nil ⟨c,K,I4,qn⟩
  . refine wpAny_passesOwn E (thn (T.item X rfl rfl rfl hc i pQ s3 c K X.xe I3 (j F) B go) λr s4 ⟨u,R,h4⟩=>?_)
    subst R;refine wpAny_passesOwn E (thn h4 λ_ s5 ⟨x,H5,I5,r5,y5,z,S⟩=>?_)
    have U:=I5.pinned (j S) (T.obj _ _ z);refine wpAny_passesOwn E (thn (hg _ s5 c H5 x u _ U r5 (step x H5 y5)) λ_ s6 ⟨L,H6,I6,q6⟩=>?_)
    refine wpAny_passesOwn E (thn (k _ s6 L H6 _ I6 q6) λf P y=>?_)
    have l:∀ {a:St}{q:Hp},Inv X (pQ++pinsAt fp s5.heap) a q P->N a q->∃ m,m < n/\∃ i G t,Inv X pQ G t P/\Y i P.heap/\(∀ b∈fp,t b=ab)/\W i m G t:=λ{a q} p C=>by
      obtain⟨m',hm,w7⟩:=hN a q C;refine⟨m',hm,i+1,a,q,p.unpinned,T.keep _ _ _ z λb k o e=>(p.pin (b,o) (bP _ (bP _ (mem_pinsAt k e)))).1,λb k=>?_,w7⟩
      obtain⟨o,e,d⟩:=T.obj _ _ z b k;exact(p.pin (b,o) (bP _ (bP _ (mem_pinsAt k e)))).2.1
    cases f with
    |next=>obtain⟨a,q,p,C⟩:=y;exact l p C
    |cont=>obtain⟨a,q,p,C⟩:=y;exact l p C
    |brk=>obtain⟨a,q,p,y⟩:=y;exact⟨a,q,p.unpinned,y⟩
    |ret v=>obtain⟨x7,a,q,p,r7,y⟩:=y;exact⟨x7,a,q,p.unpinned,r7,y⟩
def for_tup{a:Ad}{g:TG}{k:TS}{D:Ends}{O:St}{H:Hp}(b:Nat->St->Hp->Prop)(t:b 0 O H)(r:∀ i O H,i<=xs.length->b i O H->SqT K H a xs)(o:∀ i x O H,xs[i]?=aa x->b i O H->g x O H λc j=>k { D with nx:=b (i+1),ct:=b (i+1),bk:=D.nx } c j)(hd:∀ O H,b xs.length O H->D.nx O H) :
    ∃ W:Nat->Nat->St->Hp->Prop,(∃ m,W 0 m O H)/\∀ i m O H,W i m O H->
      ((Itt K a).stop i H/\D.nx O H)\/((Itt K a).go i H/\∃ N:St->Hp->Prop,(∀ h d,N h d->∃ l,l < m/\W (i+1) l h d)/\∀ x d,(Itt K a).yld i H x d->g x O d λc j=>k { D with nx:=N,ct:=N,bk:=D.nx } c j):=by
  refine⟨λi m O H=>m=xs.length - i/\i<=xs.length/\b i O H,⟨xs.length,by simp,aU _,t⟩,?_⟩
  rintro i m O H ⟨rfl,s,p⟩
  have q:=r i O H s p;by_cases f:i < xs.length
  . refine .inr ⟨⟨xs,xs[i],q,by simp[f]⟩,b (i+1),λh d n=>⟨xs.length - (i+1),by omega,rfl,f,n⟩,λx d y=>?_⟩
    obtain⟨e,y⟩:=y;subst e;exact o i x O _ (y xs q) p
  . have e:i=xs.length:=by omega
    subst e;exact .inl ⟨⟨xs,q,aB _⟩,hd O H p⟩
def for_range{lo:Int}{g:TG}{j:TS}{D:Ends}{O:St}{H:Hp}(c:Nat->St->Hp->Prop)(q:c 0 O H)(o:∀ i O H,i < n->c i O H->g (.int (lo+i)) O H λa h=>j { D with nx:=c (i+1),ct:=c (i+1),bk:=D.nx } a h)(hd:∀ O H,c n O H->D.nx O H) :
    ∃ W:Nat->Nat->St->Hp->Prop,(∃ m,W 0 m O H)/\∀ i m O H,W i m O H->
      ((Itr lo n).stop i H/\D.nx O H)\/((Itr lo n).go i H/\∃ N:St->Hp->Prop,(∀ f d,N f d->∃ k,k < m/\W (i+1) k f d)/\∀ x d,(Itr lo n).yld i H x d->g x O d λa h=>j { D with nx:=N,ct:=N,bk:=D.nx } a h):=by
  refine⟨λi m O H=>m=n - i/\i<=n/\c i O H,⟨n,by simp,aU _,q⟩,?_⟩
  rintro i m O H ⟨rfl,r,p⟩
  by_cases b:i < n
  . refine .inr ⟨b,c (i+1),λf d l=>⟨n - (i+1),by omega,rfl,b,l⟩,λx d y=>?_⟩
    obtain⟨e,y⟩:=y;subst e y;exact o i O _ b p
  . have e:i=n:=by omega
    subst e;exact .inl ⟨aB _,hd O H p⟩
abbrev R2:=V->V->Hp->VK->Prop
def OpR(X:Cx)(f:vL->vL->Sem vL)(r:R2):Prop:=
  ∀ (pQ:Li (Ad×Obj)) (s:Sd) (O:St) (H:Hp) (x y:V) (v u:vL) (Q:VK),Inv X pQ O H s->RelV x v->RelV y u->r x y H Q->
    a8 (a9 X.prog X.w) X.A (f v u) (EP X pQ O Q) X.xe s
def UnR(X:Cx)(f:vL->Sem vL)(r:V->Hp->VK->Prop):Prop:=
  ∀ (pQ:Li (Ad×Obj)) (s:Sd) (O:St) (H:Hp) (x:V) (v:vL) (Q:VK),Inv X pQ O H s->RelV x v->r x H Q->
    a8 (a9 X.prog X.w) X.A (f v) (EP X pQ O Q) X.xe s
def CallR(X:Cx)(f:vL)(r:Li V->Hp->VK->Prop):Prop:=
  ∀ (pQ:Li (Ad×Obj)) (s:Sd) (O:St) (H:Hp) (xs:Li V) (us:Li vL) (Q:VK),Inv X pQ O H s->Vals xs us->r xs H Q->
    a8 (a9 X.prog X.w) X.A (call f us) (EP X pQ O Q) X.xe s
def tOp(r:R2)(b a:TE):TE:=λO H Q=>b O H λx d=>a O d λy c=>r x y c Q
def tUn(r:V->Hp->VK->Prop)(a:TE):TE:=λO H Q=>a O H λx b=>r x b Q
def rI(C:Int->Int->Prop)(g:Int->Int->V):R2:=λx y H Q=>∃ i j,x=.int i/\y=.int j/\C i j/\Q (g i j) H
def rI0(g:Int->Int->V):R2:=λx y H Q=>∃ i j,x=.int i/\y=.int j/\Q (g i j) H
def rU(g:Int->V):V->Hp->VK->Prop:=λx H Q=>∃ i,x=.int i/\Q (g i) H
variable{c:az}{tc:TE}
section
variable{a:az}
def binT(p:PE X a ta)(o:PE X b tb){O:St}{R:V->V->Hp->Prop}(I:Inv X pQ O H s)(h:ta O H λx i=>tb O i λy c=>R x y c){f:vL->vL->Sem vL}(n:∀ v u g x y c,Inv X pQ O c g->RelV x v->RelV y u->R x y c->a8 (a9 X.prog X.w) X.A (f v u) Q X.xe g) :
    a8 (a9 X.prog X.w) X.A (eval a X.env) (λv e=>a8 (a9 X.prog X.w) X.A (eval b X.env) (λu d=>a8 (a9 X.prog X.w) X.A (f v u) Q X.xe d) X.xe e) X.xe s:=by
  refine thn (p pQ s O H _ I h) λv s1 ⟨x,i,r,k,m⟩=>?_
  refine thn (o pQ s1 O i _ r m) λu g ⟨y,c,q,j,l⟩=>?_
  exact n v u g x y c q k j l
def pe_op{c:Operator}{r:R2}(g:OpR X (bv c) r)(j:PE X a ta)(i:PE X b tb):PE X (.BinOp a c b pos) (tOp r ta tb):=by
  intro pQ s O H Q I h;exact wpAny_BinOp (binT j i I h λv u d x y l k f e q=>g pQ d O l x y v u Q k f e q)
def pe_un{b:UnaryOp}{r:V->Hp->VK->Prop}(e:UnR X (unaryOp b) r)(f:PE X a ta):PE X (.UnaryOp b a pos) (tUn r ta):=by
  intro pQ s O H Q I h;exact UnaryOp_ (thn (f pQ s O H _ I h) λv s1 ⟨x,i,g,c,d⟩=>e pQ s1 O i x v Q g c d)
def opI{f:vL->vL->Sem vL}{C:Int->Int->Prop}{g:Int->Int->Int}(a:∀ (i j:Int) (t u:Tok) (s:Sd) (Q:vL->Sd->Prop) (E:vL->Sd->Prop),C i j->Q (.int (g i j) s.toks) { s with toks:=s.toks+1 }->a8 (a9 X.prog X.w) X.A (f (.int i t) (.int j u)) Q E s) :
    OpR X f (rI C λi j=>.int (g i j)):=by
  intro pQ s O H x y v u Q I c b h;obtain⟨i,j,rfl,rfl,d,q⟩:=h;obtain⟨t,rfl⟩:=c;obtain⟨t',rfl⟩:=b;exact a i j t t' s _ _ d ⟨.int (g i j),H,I.tok _,⟨_,rfl⟩,q⟩
def opI0{f:vL->vL->Sem vL}{g:Int->Int->Int}(a:∀ (i j:Int) (t u:Tok) (s:Sd) (Q:vL->Sd->Prop) (E:vL->Sd->Prop),Q (.int (g i j) s.toks) { s with toks:=s.toks+1 }->a8 (a9 X.prog X.w) X.A (f (.int i t) (.int j u)) Q E s) :
    OpR X f (rI0 λi j=>.int (g i j)):=by
  intro pQ s O H x y v u Q I c b h;obtain⟨i,j,rfl,rfl,q⟩:=h;obtain⟨t,rfl⟩:=c;obtain⟨t',rfl⟩:=b;exact a i j t t' s _ _ ⟨.int (g i j),H,I.tok _,⟨_,rfl⟩,q⟩
def opB0{f:vL->vL->Sem vL}{g:Int->Int->Bool}(a:∀ (i j:Int) (t u:Tok) (s:Sd) (Q:vL->Sd->Prop) (E:vL->Sd->Prop),Q (.bool (g i j)) s->a8 (a9 X.prog X.w) X.A (f (.int i t) (.int j u)) Q E s) :
    OpR X f (rI0 λi j=>.bl (g i j)):=by
  intro pQ s O H x y v u Q I c b h;obtain⟨i,j,rfl,rfl,q⟩:=h;obtain⟨t,rfl⟩:=c;obtain⟨t',rfl⟩:=b;exact a i j t t' s _ _ ⟨.bl (g i j),H,I,rfl,q⟩
def CDiv(i j:Int):Prop:=0 < j/\j < 1073741824
def CDivN(i j:Int):Prop:=j≠0/\j.natAbs < 1073741824
def CPow(i j:Int):Prop:=0<=j/\j<=1000000/\i.natAbs < 2 ^ 64
def CMul(i j:Int):Prop:=(-(2 ^ 64) < i/\i < 2 ^ 64)\/(-(2 ^ 64) < j/\j < 2 ^ 64)
def CMul.ok{i j:Int}(h:CMul i j):IntMulOk i j:=by
  rcases h with⟨b,a⟩|⟨b,a⟩
  . exact .of_left (intBits_le_64 b a)
  . exact .of_right (intBits_le_64 b a)
def op_add:OpR X (bv .Add) (rI0 λi j=>.int (i+j)):=opI0 λ_ _ _ _ _ _ _ q=>add_int q
def op_sub:OpR X (bv .Sub) (rI0 λi j=>.int (i - j)):=opI0 λ_ _ _ _ _ _ _ q=>sub_int q
def op_mul:OpR X (bv .Mult) (rI CMul λi j=>.int (i * j)):=opI λ_ _ _ _ _ _ _ a q=>mul_int q a.ok
def op_fdiv:OpR X (bv .FloorDiv) (rI CDiv λi j=>.int (i / j)):=opI λi j _ _ _ _ _ a q=>by
  have c:(0:Int) < j:=a.1;have b:j < 1073741824:=a.2;exact floordiv_int (by omega) (by rw[Int.fdiv_eq_ediv_of_nonneg i (by omega)];exact q) (.inl (PyProof.noPylong_small (by omega)))
def op_fdivN:OpR X (bv .FloorDiv) (rI CDivN λi j=>.int (i.fdiv j)):=opI λ_ _ _ _ _ _ _ a q=>floordiv_int a.1 q (.inl (PyProof.noPylong_small a.2))
def op_mod:OpR X (bv .Mod) (rI (λ_ j=>0 < j) λi j=>.int (i % j)):=opI λi j _ _ _ _ _ a q=>by
  have b:(0:Int) < j:=a;exact mod_int' (by omega) (by rw[Int.fmod_eq_emod_of_nonneg i (by omega)];exact q)
def op_modN:OpR X (bv .Mod) (rI (λ_ j=>j≠0) λi j=>.int (i.fmod j)):=opI λ_ _ _ _ _ _ _ a q=>mod_int' a q
def op_shl:OpR X (bv .LShift) (rI CPow λi j=>.int (i * 2 ^ j.toNat)):=opI λ_ _ _ _ _ _ _ a q=>lshift_int_small a.1 a.2.1 a.2.2 q
def op_and:OpR X (bv .BitAnd) (rI0 λi j=>.int (Builtin.bitAnd i j)):=opI0 λ_ _ _ _ _ _ _ q=>and_int q
def op_or:OpR X (bv .BitOr) (rI0 λi j=>.int (Builtin.bitOr i j)):=opI0 λ_ _ _ _ _ _ _ q=>or_int q
def unI{f:vL->Sem vL}{g:Int->Int}(a:∀ (i:Int) (t:Tok) (s:Sd) (Q:vL->Sd->Prop) (E:vL->Sd->Prop),Q (.int (g i) s.toks) { s with toks:=s.toks+1 }->a8 (a9 X.prog X.w) X.A (f (.int i t)) Q E s) :
    UnR X f (rU λi=>.int (g i)):=by
  intro pQ s O H x v Q I b h;obtain⟨i,rfl,q⟩:=h;obtain⟨t,rfl⟩:=b;exact a i t s _ _ ⟨.int (g i),H,I.tok _,⟨_,rfl⟩,q⟩
def un_neg:UnR X (unaryOp .USub) (rU λi=>.int (-i)):=unI λ_ _ _ _ _ q=>neg_int q
def un_inv:UnR X (unaryOp .Invert) (rU λi=>.int (Builtin.bitNot i)):=unI λ_ _ _ _ _ q=>invert_int q
end
noncomputable def scal:V->V->Bool
  |.non,.non=>ae|.non,.int _=>ae|.int _,.non=>ae|.non,.bl _=>ae|.bl _,.non=>ae|.non,.str _=>ae|.str _,.non=>ae
  |.int _,.int _=>ae|.bl _,.bl _=>ae|.str _,.str _=>ae|.byt _,.byt _=>ae
  |.int _,.str _=>ae|.str _,.int _=>ae|.bl _,.str _=>ae|.str _,.bl _=>ae
  |_,_=>af
def rEq:R2:=λx y H Q=>scal x y=ae/\Q (.bl (ak (x=y))) H
def rNe:R2:=λx y H Q=>scal x y=ae/\Q (.bl (!decide (x=y))) H
def dec_int{i j:Int}:ak (V.int i=V.int j)=(i==j):=by
  rw[cK];simp
def dec_bl{i j:Bool}:ak (V.bl i=V.bl j)=(i==j):=by
  rw[cK];simp
def dec_str{i j:Str}:ak (V.str i=V.str j)=(i==j):=by
  rw[cK];simp
def dec_byt{i j:Array UInt8}:ak (V.byt i=V.byt j)=(i.toList==j.toList):=by
  rw[cK];cases i;cases j;simp
variable{op:CmpOp}
section
variable{a:az}
def fin_bl{O:St}{Q:VK}{k a:Bool}(I:Inv X pQ O H s)(q:Q (.bl k) H)(e:k=a):EP X pQ O Q (.bool a) s:=by
  subst e;exact⟨.bl k,H,I,rfl,q⟩
def op_eq:OpR X (br .Eq) rEq:=by
  intro pQ s O H x y v u Q I c a h;obtain⟨b,q⟩:=h;cases x with
  |non=>
    cases c;cases y with
    |non=>cases a;exact PySem.EqNone.eq_none_none (fin_bl I q (by simp))
    |bl j=>cases a;exact PySem.EqNone.eq_none_bool (fin_bl I q (by simp))
    |int j=>obtain⟨t',rfl⟩:=a;exact PySem.EqNone.eq_none_int (fin_bl I q (by simp))
    |str j=>obtain⟨t',rfl⟩:=a;exact PySem.EqNone.eq_none_str (fin_bl I q (by simp))
    |_=>exact au (show af=ae from b) Bf
  |bl i=>
    cases c;cases y with
    |non=>cases a;exact PySem.EqNone.eq_bool_none (fin_bl I q (by simp))
    |bl j=>cases a;exact eq_bool (fin_bl I q dec_bl)
    |str j=>obtain⟨t',rfl⟩:=a;exact PySem.EqMixed.eq_bool_str (fin_bl I q (by simp))
    |_=>exact au (show af=ae from b) Bf
  |int i=>
    obtain⟨t,rfl⟩:=c;cases y with
    |non=>cases a;exact PySem.EqNone.eq_int_none (fin_bl I q (by simp))
    |int j=>obtain⟨t',rfl⟩:=a;exact eq_int (fin_bl I q dec_int)
    |str j=>obtain⟨t',rfl⟩:=a;exact PySem.EqMixed.eq_int_str (fin_bl I q (by simp))
    |_=>exact au (show af=ae from b) Bf
  |str i=>
    obtain⟨t,rfl⟩:=c;cases y with
    |non=>cases a;exact PySem.EqNone.eq_str_none (fin_bl I q (by simp))
    |bl j=>cases a;exact PySem.EqMixed.eq_str_bool (fin_bl I q (by simp))
    |int j=>obtain⟨t',rfl⟩:=a;exact PySem.EqMixed.eq_str_int (fin_bl I q (by simp))
    |str j=>obtain⟨t',rfl⟩:=a;exact eq_str (fin_bl I q dec_str)
    |_=>exact au (show af=ae from b) Bf
  |byt i=>
    obtain⟨t,rfl⟩:=c;cases y with
    |byt j=>obtain⟨t',rfl⟩:=a;exact W.eq_bytes (fin_bl I q dec_byt)
    |_=>exact au (show af=ae from b) Bf
  |_=>cases y<;>exact au (show af=ae from b) Bf
def op_ne:OpR X (br .NotEq) rNe:=by
  intro pQ s O H x y v u Q I c a h;obtain⟨b,q⟩:=h;cases x with
  |non=>
    cases c;cases y with
    |non=>cases a;exact PySem.EqNone.ne_none_none (fin_bl I q (by simp))
    |bl j=>cases a;exact PySem.EqNone.ne_none_bool (fin_bl I q (by simp))
    |int j=>obtain⟨t',rfl⟩:=a;exact PySem.EqNone.ne_none_int (fin_bl I q (by simp))
    |str j=>obtain⟨t',rfl⟩:=a;exact PySem.EqNone.ne_none_str (fin_bl I q (by simp))
    |_=>exact au (show af=ae from b) Bf
  |bl i=>
    cases c;cases y with
    |non=>cases a;exact PySem.EqNone.ne_bool_none (fin_bl I q (by simp))
    |bl j=>cases a;exact ne_bool (fin_bl I q (av not dec_bl))
    |str j=>obtain⟨t',rfl⟩:=a;exact PySem.EqMixed.ne_bool_str (fin_bl I q (by simp))
    |_=>exact au (show af=ae from b) Bf
  |int i=>
    obtain⟨t,rfl⟩:=c;cases y with
    |non=>cases a;exact PySem.EqNone.ne_int_none (fin_bl I q (by simp))
    |int j=>obtain⟨t',rfl⟩:=a;exact ne_int (fin_bl I q (av not dec_int))
    |str j=>obtain⟨t',rfl⟩:=a;exact PySem.EqMixed.ne_int_str (fin_bl I q (by simp))
    |_=>exact au (show af=ae from b) Bf
  |str i=>
    obtain⟨t,rfl⟩:=c;cases y with
    |non=>cases a;exact PySem.EqNone.ne_str_none (fin_bl I q (by simp))
    |bl j=>cases a;exact PySem.EqMixed.ne_str_bool (fin_bl I q (by simp))
    |int j=>obtain⟨t',rfl⟩:=a;exact PySem.EqMixed.ne_str_int (fin_bl I q (by simp))
    |str j=>obtain⟨t',rfl⟩:=a;exact ne_str (fin_bl I q (av not dec_str))
    |_=>exact au (show af=ae from b) Bf
  |byt i=>
    obtain⟨t,rfl⟩:=c;cases y with
    |byt j=>obtain⟨t',rfl⟩:=a;exact W.ne_bytes (fin_bl I q (av not dec_byt))
    |_=>exact au (show af=ae from b) Bf
  |_=>cases y<;>exact au (show af=ae from b) Bf
def op_lt:OpR X (br .Lt) (rI0 λi j=>.bl (ak (i < j))):=opB0 λ_ _ _ _ _ _ _ q=>lt_int q
def op_le:OpR X (br .LtE) (rI0 λi j=>.bl (ak (i<=j))):=opB0 λ_ _ _ _ _ _ _ q=>le_int q
def op_gt:OpR X (br .Gt) (rI0 λi j=>.bl (ak (j < i))):=opB0 λ_ _ _ _ _ _ _ q=>gt_int q
def op_ge:OpR X (br .GtE) (rI0 λi j=>.bl (ak (j<=i))):=opB0 λ_ _ _ _ _ _ _ q=>ge_int q
def op_in_str:OpR X (br .In) (λx y H Q=>∃ i j,x=.str i/\y=.str j/\Q (.bl (!(Builtin.Str.occurrences j i 0 j.length 1).isEmpty)) H):=by
  intro pQ s O H x y v u Q I b a h;obtain⟨i,j,rfl,rfl,q⟩:=h;obtain⟨t,rfl⟩:=b;obtain⟨t',rfl⟩:=a;exact in_str (fin_bl I q rfl)
def op_isN:OpR X (br .Is) (λx y H Q=>y=.non/\Q (.bl (ak (x=.non))) H):=by
  intro pQ s O H x y v u Q I a b h;obtain⟨rfl,q⟩:=h;cases b;refine is_none_gen (fin_bl I q ?_);cases x<;>first
    | (cases a;rfl)
    | (obtain⟨t,rfl⟩:=a;rfl)
def op_notN:OpR X (br .IsNot) (λx y H Q=>y=.non/\Q (.bl (!decide (x=.non))) H):=by
  intro pQ s O H x y v u Q I a b h;obtain⟨rfl,q⟩:=h;cases b;refine isnot_none_gen (fin_bl I q ?_);cases x<;>first
    | (cases a;rfl)
    | (obtain⟨t,rfl⟩:=a;rfl)
def pe_cmpR{r:R2}(f:OpR X (br op) r)(j:PE X a ta)(i:PE X b tb)(g:behindInMarks op b=af):PE X (.Compare a [op] [b] pos) (tOp r ta tb):=by
  intro pQ s O H Q I h;exact wpAny_Compare1 (binT j i I h λv u c x y l k e d q=>f pQ c O l x y v u Q k e d q) g
def tTest(t:TE):TT:=λO H Q=>t O H λx a=>∃ k,x=.bl k/\Q k a
def pt_cmpR{r:R2}(n:OpR X (br op) r)(q:PE X a ta)(p:PE X b tb)(o:behindInMarks op b=af):PT X (.Compare a [op] [b] pos) (tTest (tOp r ta tb)):=by
  intro pQ s O H Q I h;refine wpAny_isTrue_Compare1 (thn (q pQ s O H _ I h) λv s1 ⟨x,D,A,i,m⟩=>thn (p pQ s1 O D _ A m) λu d ⟨y,C,w,g,l⟩=>
    thn (n pQ d O C x y v u _ w i g l) λc E ⟨z,B,t,f,k,e,j⟩=>?_) o
  subst e;cases f;exact wpAny_truthy_bool ⟨B,t,j⟩
def line63:(ay:Nat) < 2 ^ 63:=by rw[sizeLine_eq];decide
def op_add_str:OpR X (bv .Add) (λx y H Q=>∃ i j,x=.str i/\y=.str j/\i.length+j.length<=ay/\Q (.str (i++j)) H):=by
  intro pQ s O H x y v u Q I b a h;obtain⟨i,j,rfl,rfl,c,q⟩:=h;obtain⟨t,rfl⟩:=b;obtain⟨t',rfl⟩:=a;exact add_str (λt' d=>⟨.str (i++j),H,I.tok _,⟨_,rfl⟩,q⟩) c
def vals1{x:V}(r:Vals [x] us):∃ u,us=[u]/\RelV x u:=by
  cases r with
  |cons b a=>cases a;exact⟨_,rfl,b⟩
def LenV(K:Fg)(x:V)(H:Hp)(n:Nat):Prop:=
  match x with
  |.str y=>y.length<=ay/\n=y.length
  |.byt y=>y.size<=ay/\n=y.size
  |.ref p=>(∃ xs,SqL K H p xs/\n=xs.length)\/∃ xs,SqT K H p xs/\n=xs.length
  |_=>False
def call_len:CallR X (.builtin "len") (λxs H Q=>∃ x n,xs=[x]/\LenV X.K x H n/\Q (.int n) H):=by
  intro pQ s O H xs us Q I r h;obtain⟨x,n,rfl,e,q⟩:=h;obtain⟨u,rfl,c⟩:=vals1 r;have m:=line63;have l:ay=16777216:=sizeLine_eq;cases x with
  |str y=>
    obtain⟨t,rfl⟩:=c;obtain⟨k,b⟩:y.length<=ay/\n=y.length:=e;subst b;exact len_str (by omega) ⟨.int _,H,I.tok _,⟨_,rfl⟩,q⟩
  |byt y=>
    obtain⟨t,rfl⟩:=c;obtain⟨k,b⟩:y.size<=ay/\n=y.size:=e;subst b;exact W.len_bytes (by omega) ⟨.int _,H,I.tok _,⟨_,rfl⟩,q⟩
  |ref p=>
    cases c;have b:(∃ xs,SqL X.K H p xs/\n=xs.length)\/∃ xs,SqT X.K H p xs/\n=xs.length:=e;rcases b with⟨xs,i,b⟩|⟨xs,i,b⟩
    . subst b
      obtain⟨g,d,f,j⟩:=I.list i;have a:=d.length;exact Calls.call_len_list f.isList (by simp only[aJ];omega) ⟨.int xs.length,H,I.tok _,⟨_,by simp only[aJ];rw[a]⟩,q⟩
    . subst b
      obtain⟨g,d,f,j⟩:=I.tuple i;have a:=d.length;exact len_tuple f (by simp only[aJ];omega) ⟨.int xs.length,H,I.tok _,⟨_,by simp only[aJ];rw[a]⟩,q⟩
  |_=>exact(show False from e).elim
end
structure ObjM(h:bp)(x dx C:Addr)(mA:Str->Option Value):Prop where
  obj:h.get? x=aa (W.instObj C dx)
  ns:h.Ns1 dx mA
  ne:dx≠x
variable{mA:Str->Ot vL}
def lookIn_ns{f:Ad}(n:h.Ns1 f mA):∃ d,h.get? f=aa d/\∀ b,W.lookIn b d=aa (mA b):=by
  obtain⟨o,es,p,i,l,k,_,j⟩:=n;refine⟨o,i,λb=>?_⟩
  have e:=j b;unfold nsFind findBy at e;rw[<-Array.find?_toList]at e;unfold W.lookIn;rw[l];dsimp only;split
  . rename_i y q
    rw[q]at e;exact av aa e
  . rename_i q
    rw[q]at e;have a:es.toList.any (·.refKey)=af:=by
      rw[List.any_eq_false];intro y g;obtain⟨z,t,c⟩:=k y (Array.mem_toList_iff.mp g);simp[DictEntry.refKey,c]
    have m:¬es.toList.any (·.refKey)=ae:=by rw[a];exact Bf
    rw[ar m];exact av aa e
def ObjM.look{x c C:Ad}(I:ObjM h x c C mA):∃ b,W.InstAt h x (W.instObj C c) C (aa b)/\∀ a,W.lookIn a b=aa (mA a):=
  let ⟨b,ho,hl⟩:=lookIn_ns I.ns
  ⟨b,⟨I.obj,rfl,rfl,ho⟩,hl⟩
variable{A:bu}{K:Fg}{dx C f:Ad}{mA:Str->Ot vL}
section
variable{prog:bf}{name:Str}{v:vL}
end
def RelO.some_of{v:V}{o:Ot vL}(r:RelO (aa v) o):∃ u,o=aa u/\RelV v u:=by
  cases o with
  |none=>exact(show False from r).elim
  |some u=>exact⟨u,rfl,r⟩
def RelO.none_of{o:Ot vL}(r:RelO ab o):o=ab:=by
  cases o with
  |none=>rfl
  |some u=>exact(show False from r).elim
variable{fs:Li (Str×V)}
section
variable{fs':Li (Str×V)}
def ins_get(hok:HOk P w H h)(e:H a=aa (.ins C dx fs)):∃ mA,ObjM h a dx C mA/\(∀ f,RelO (fs.lookup f) (mA f))/\PySem.Within mA (fs.map (·.1))/\fs.length<=1000/\H dx=aa (.own a):=by
  obtain⟨d,z,ne,b,mA,n,r,q⟩:=(show ObjOk P w H h a (.ins C dx fs) from hok a _ e);exact⟨mA,⟨b,n,ne⟩,r,q,z,d⟩
end
structure Cls(K:Fg)(C:Addr):Prop where
  pg:W.plainGet K C Str.empty=ae
  hd:W.hasDictIn K C=ae
  po:W.plainOver K C=ae
  sa:W.findIn K (.ref C) "__setattr__"=aa (aa (.builtin "object.__setattr__"))
def Cls.get{C:Ad}(c:Cls K C)(f:Str):W.plainGet K C f=ae:=c.pg
structure Con(K:Fg)(C:Addr)(f:Str)(v:V)(u:Value):Prop where
  at_:W.findIn K (.ref C) f=aa (aa u)
  rel:RelV v u
  get:W.specialIn K u "__get__"=aa ab
  cp:W.copiedNames.contains f=af
structure Meth(K:Fg)(C:Addr)(m:Str)(f:Addr):Prop where
  at_:W.findIn K (.ref C) m=aa (aa (.ref f))
  fn:W.isFn K (.ref f)=ae
  kp:W.keepIn K (.ref f)=ae
section
variable{f:Str}{v:V}
def Inv.made(I:Inv X pQ O H s):Inv X pQ O (upd (upd H s.heap.objs.size (.own (s.heap.objs.size+1))) (s.heap.objs.size+1) (.ins C s.heap.objs.size []))
    { s with heap:=(s.heap.push W.emptyDict).push (W.instObj C s.heap.objs.size) }:=by
  have c:(s.heap.push W.emptyDict).get? s.heap.objs.size=aa W.emptyDict:=bO s.heap rfl;have h:((s.heap.push W.emptyDict).push (W.instObj C s.heap.objs.size)).get? (s.heap.objs.size+1)=aa (W.instObj C s.heap.objs.size):=by
    have:=bO (s.heap.push W.emptyDict) (o:=W.instObj C s.heap.objs.size) rfl
    rwa [Heap.size_push]at this
  have g:(s.heap.push W.emptyDict).Ns s.heap.objs.size (λ_=>ab):=⟨W.emptyDict,#[],_,c,rfl,(λe f=>au f (by simp)),λ_=>rfl⟩
  have i:=I.laid (a:=s.heap.objs.size) (o:=.own (s.heap.objs.size+1)) (h':=s.heap.push W.emptyDict) (t':=s.toks) (λb u q=>aT _ q) (aB _) ⟨_,c⟩
  refine i.laid (a:=s.heap.objs.size+1) (o:=.ins C s.heap.objs.size []) (t':=s.toks) (λb u q=>aT _ q) (cR (Heap.size_push _ _)) ?_
  have ne:s.heap.objs.size≠s.heap.objs.size+1:=bC (dW _);refine⟨by rw[upd_ne ne,upd_same],aU _,ne,h,λ_=>ab,(Heap.Ns1.of_empty g).at λo q=>aT _ q,λ_=>True.intro,λy d=>au rfl d⟩
end
variable{o:az}
section
variable{value:az}{f:Str}{pos' tpos:Pos}{tv:TE}
end
variable{Q:vL->Sd->Prop}
section
variable{c:vL}{b:Bool}
inductive TyOf(K:Fg)(H:Hp):V->Value->Prop where
  |non:TyOf K H .non (.type "NoneType")
  |bl (x:Bool):TyOf K H (.bl x) (.type "bool")
  |int (i:Int):TyOf K H (.int i) (.type "int")
  |str (x:Str):TyOf K H (.str x) (.type "str")
  |flt (x:UInt64):TyOf K H (.flt x) (.type "float")
  |lst {a:Addr}{xs:List V} (e:H a=aa (.lst xs)):TyOf K H (.ref a) (.type "list")
  |frz {a:Addr}{o:Obj}{xs:List V} (e:H a=aa (.frz o (.lst xs))):TyOf K H (.ref a) (.type "list")
  |tup {a:Addr}{xs:List V} (e:H a=aa (.tup xs)):TyOf K H (.ref a) (.type "tuple")
  |dK {a:Addr}{kvs:List (Key×V)} (e:H a=aa (.dK kvs)):TyOf K H (.ref a) (.type "dict")
  |dT {a:Addr}{kvs:List (List Key×V)} (e:H a=aa (.dT kvs)):TyOf K H (.ref a) (.type "dict")
  |ins {a C dx:Addr}{fs:List (Str×V)} (e:H a=aa (.ins C dx fs)) (cl:Cls K C) (ha:W.findIn K (.ref C) "__class__"=aa (aa (.builtin "object.__class__")))
      (hn:W.specialIn K (.builtin "object.__class__") "__get__"=aa (aa (.builtin "getset_descriptor.__get__"))) (htk:W.takesIn K (.builtin "object.__class__")=aa ae)
      (hm:W.mroIn K C (.type "object")=aa ae):TyOf K H (.ref a) (.ref C)
def isinst_ok{x:V}{u t:vL}(I:Inv X pQ O H s)(d:RelV x u)(ty:TyOf X.K H x t)(e:W.kitOne X.K t c=aa b)(h:∀ r,Q (.bool b) { s with toks:=r }) :
    a8 (a9 X.prog X.w) A (call (.builtin "isinstance") [u,c]) Q E s:=by
  cases ty with
  |non=>cases (show u=bz from d);exact W.kia_one W.kitx_none I.kIn True.intro e (λz=>nomatch z) h
  |bl y=>cases (show u=Value.bool y from d);exact W.kia_one W.kitx_bool I.kIn True.intro e (λz=>nomatch z) h
  |int i=>obtain⟨t,q⟩:=(show ∃ t,u=Value.int i t from d);cases q;exact W.kia_one W.kitx_int I.kIn True.intro e (λz=>nomatch z) h
  |str y=>obtain⟨t,q⟩:=(show ∃ t,u=Value.str y t from d);cases q;exact W.kia_one W.kitx_str I.kIn True.intro e (λz=>nomatch z) h
  |flt y=>obtain⟨t,q⟩:=(show ∃ t,u=Value.float y t from d);cases q;exact W.kia_one W.kitx_float I.kIn True.intro e (λz=>nomatch z) h
  |@lst a xs f=>
    cases (show u=bx a from d)
    obtain⟨_,_,n,_,g⟩:=(show ObjOk X.prog X.w H s.heap a (.lst xs) from I.hok a _ f);exact W.kia_one W.kitx_list I.kIn ⟨_,g,rfl⟩ e (λz=>nomatch z) h
  |@frz a v xs f=>
    cases (show u=bx a from d)
    obtain⟨_,_,_,n,_,g⟩:=(show ObjOk X.prog X.w H s.heap a (.frz v (.lst xs)) from I.hok a _ f);exact W.kia_one W.kitx_list I.kIn ⟨_,g,rfl⟩ e (λz=>nomatch z) h
  |@tup a xs f=>
    cases (show u=bx a from d)
    obtain⟨_,_,_,p⟩:=(show ObjOk X.prog X.w H s.heap a (.tup xs) from I.hok a _ f);obtain⟨o,g,k,_⟩:=p;exact W.kia_one W.kitx_tuple I.kIn ⟨o,g,k⟩ e (λz=>nomatch z) h
  |@dK a j f=>
    cases (show u=bx a from d)
    obtain⟨_,_,M,_,p⟩:=(show ObjOk X.prog X.w H s.heap a (.dK j) from I.hok a _ f);obtain⟨o,es,G,g,k,_⟩:=p;exact W.kia_one W.kitx_dict I.kIn ⟨o,g,k.1⟩ e (λz=>nomatch z) h
  |@dT a j f=>
    cases (show u=bx a from d)
    obtain⟨_,_,xs,_,o,es,G,g,k,_⟩:=(show ObjOk X.prog X.w H s.heap a (.dT j) from I.hok a _ f);exact W.kia_one W.kitx_dict I.kIn ⟨o,g,k.1⟩ e (λz=>nomatch z) h
  |@ins a C P fs f m F B l D=>
    cases (show u=bx a from d)
    obtain⟨mA,L,_⟩:=ins_get I.hok f;obtain⟨N,J,_⟩:=L.look;exact W.kia_one (W.kitx_own (m.get _) m.hd F B l D) I.kIn J e (λz=>nomatch z) h
end
structure Room(k:Nat)(A:bu):Prop where
  hd:A.handled=ab
  dp:A.depth+3 * k+5 < recursionLimit
  un:A.units+16 * k+200 < cLine
variable{k:Nat}
theorem Room.deeper(r:Room (k+1) A)(env:Env):Room k (A.deeper env):=
  ⟨r.hd,by have:=r.dp;show A.depth+1+3 * k+5 < _;omega,by have:=r.un;show A.units+3+16 * k+200 < _;omega⟩
theorem Room.depth(r:Room k A):A.depth < recursionLimit:=by have:=r.dp;omega
theorem Room.units(r:Room k A):A.units+64 < cLine:=by have:=r.un;omega
def tNil:TA:=λ_ H Q=>Q [] H
def tCons(a:TE)(tr:TA):TA:=λO H Q=>a O H λx c=>tr O c λxs b=>Q (x :: xs) b
variable{es:Li az}{t:TA}
def pa_nil:PA X [] tNil:=λ_ _ _ _ H Q I h=>Calls.spliced_nil ⟨[],H,I,.nil,h⟩
def pa_cons(i:PE X e te)(g:PA X es t)(f:bg (e :: es) X.env=(af,eval e X.env) :: bg es X.env:=by rfl):PA X (e :: es) (tCons te t):=by
  intro pos pQ s O H Q I h;rw[f];show a8 _ _ (spliced ((af,eval e X.env) :: backTo pos (bg es X.env))) _ _ s;refine Calls.spliced_cons (thn (i pQ s O H _ I h) λu s1 ⟨x,m,k,b,d⟩=>?_)
  exact thn (g pos pQ s1 O m _ k d) λus n ⟨xs,l,j,a,c⟩=>⟨x :: xs,l,j,.cons b a,c⟩
def tTup(t:TA):TE:=λO H Q=>t O H λxs a=>xs.length<=ay/\∀ p,a p=ab->Q (.ref p) (upd a p (.tup xs))
def tLst(t:TA):TE:=λO H Q=>t O H λxs a=>xs.length<=ay/\∀ p,a p=ab->Q (.ref p) (upd a p (.lst xs))
def pe_tup{x1}(h:PA X es t):PE X (.Tuple es x1 pos) (tTup t):=by
  intro pQ s O H Q I d;refine wpAny_Tuple_spliced (thn (h pos pQ s O H _ I d) λus s1 ⟨xs,c,a,r,z,q⟩=>⟨by rw[<-r.length];exact z,?_⟩)
  have f:c s1.heap.objs.size=ab:=a.hok.fresh (aB _);refine⟨.ref s1.heap.objs.size,upd c s1.heap.objs.size (.tup xs),a.laid (t':=s1.toks) (λb u e=>aT _ e) (aB _) ?_,rfl,q _ f⟩
  exact⟨z,us,r,⟨_,bO _ rfl,rfl,_,rfl⟩⟩
def pe_lst(h:PA X es t):PE X (.List es pos) (tLst t):=by
  intro pQ s O H Q I d;refine wpAny_List_spliced (thn (h pos pQ s O H _ I d) λus s1 ⟨xs,c,a,r,z,q⟩=>⟨by rw[<-r.length];exact z,?_⟩)
  have f:c s1.heap.objs.size=ab:=a.hok.fresh (aB _);refine⟨.ref s1.heap.objs.size,upd c s1.heap.objs.size (.lst xs),a.laid (t':=s1.toks) (λb u e=>aT _ e) (aB _) ?_,rfl,q _ f⟩
  exact⟨z,us,0,r,bO _ rfl⟩
abbrev Sp:=Li V->Hp->VK->XK->Prop
abbrev CXT:=Li Env->Hp->Sd->XK->vL->Sd->Prop
structure Env0(P:bf)(w:bq)(K:Fg)(mg:Str->Option Value)(base:bp)(A:bu)(outer:List Env)(s:Shared)(H:Hp):Prop where
  frames:A.frames=aa outer
  mod:Mod K mg base
  bs:∀ b o,base.get? b=aa o->s.heap.get? b=aa o/\H b=ab
  bsz:base.objs.size<=s.heap.objs.size
  funs:s.heap.FunFrames base outer
  frf:∀ b∈frs outer,H b=ab
  hok:HOk P w H s.heap
  bare:AllBare s.gens
def CE(outer:Li Env)(P:bf)(w:bq)(H:Hp)(s:Sd)(Q:VK)(u:vL)(a:Sd):Prop:=
  ∃ v b,a.os=s.os/\AllBare a.gens/\Un (frs outer) [] H b s.heap a.heap/\HOk P w b a.heap/\RelV v u/\Q v b
def CR(CX:CXT)(outer:Li Env)(P:bf)(w:bq)(H:Hp)(s:Sd)(Q:VK)(E:XK)(r:Result)(a:Sd):Prop:=
  match r with
  |.ok (.ret u)=>CE outer P w H s Q u a
  |.ok _=>False
  |.error e=>CX outer H s E e a
structure FnOk(P:bf)(w:bq)(K:Fg)(mg:Str->Option Value)(base:bp)(CX:CXT)(k:Nat)(f:Addr)(fd:bo)(ps:List Str)(sp:Sp):Prop where
  len:∀ vs H Q E,sp vs H Q E->vs.length=ps.length
  run:∀ (A:bu) (outer:List Env) (s:Shared) (H:Hp) (args:Args) (us:List Value) (vs:List V) (Q:VK) (E:XK),Room k A->Env0 P w K mg base A outer s H->BindsTo s fd args (ps.zip us)->Vals vs us->sp vs H Q E->
    codeAny (a9 P w) A (.call (.ref f) args) (CR CX outer P w H s Q E) s
section
variable{s':Sd}
def Inv.env0(I:Inv X pQ O H s):Env0 X.prog X.w X.K X.mg X.base X.A X.stack s H:=
  ⟨I.ok.frames,I.ok.mod,I.bs,aP I.ok.bsz I.sz,I.stack,I.stkFree,I.hok,I.bare⟩
def Inv.after{Q:VK}{u:vL}(I:Inv X pQ O H s)(h:CE X.stack X.prog X.w H s Q u s'):EP X pQ O Q u s':=by
  obtain⟨v,j,f,a,un,e,r,q⟩:=h;obtain⟨i,g,d,t,c⟩:=s';obtain rfl:c=s.os:=f;exact⟨v,j,I.call (h':=i) (g':=g) (d':=d) (t':=t) (ch:=[]) un e a (λb z=>au z (by simp)),r,q⟩
end
def tCall(c:Sp)(a:Li V)(E:XK)(t:TA):TE:=λO H Q=>t O H λb d=>c (b++a) d Q E
def Binds(K:Fg)(fd:bo)(a:Li Str)(b:Li vL):Prop:=
  ∀ (s:Sd) (us:Li vL),K.In s.heap->(us++b).length=a.length->BindsTo s fd ⟨us,[]⟩ (a.zip (us++b))
variable{ps:Li Str}
def Binds.all{fd:bo}(h:∀ us:Li vL,us.length=ps.length->bindArgs fd ⟨us,[]⟩=pure (ps.zip us)):Binds K fd ps []:=λs us _ a=>by
  rw[bD]at a ⊢;exact .of_eq (h us a)
def Passes(CX:CXT)(X:Cx)(E:XK):Prop:=∀ (pQ:Li (Ad×Obj)) (O:St) (H:Hp) (s:Sd) (e:vL) (s':Sd),Inv X pQ O H s->CX X.stack H s E e s'->X.xe e s'
variable{vs:Li V}
variable{CX:CXT}{k:Nat}{fd:bo}{ps:Li Str}{sp:Sp}{m:Str}{p apos:Pos}
section
variable{dvs:Li V}{ds:Li vL}{E:XK}{x:Str}
def run_fn{O:St}{Q:VK}(F:FnOk X.prog X.w X.K X.mg X.base CX k f fd ps sp)(g:Room k X.A)(j:Binds X.K fd ps ds)(hd:Vals dvs ds)(d:Passes CX X E)(I:Inv X pQ O H s)(r:Vals vs us)(h:sp (vs++dvs) H Q E):a8 (a9 X.prog X.w) X.A (call (.ref f) us) (EP X pQ O Q) X.xe s:=by
  have b:Vals (vs++dvs) (us++ds):=r.append hd;have i:(us++ds).length=ps.length:=by rw[<-b.length];exact F.len _ _ _ _ h
  refine wpAny_call (codeAny_mono (F.run X.A X.stack s H ⟨us,[]⟩ (us++ds) (vs++dvs) Q E g I.env0 (j s us I.kIn i) b h) λr c a=>?_)
  cases r with
  |error e=>exact d pQ O H s e c I a
  |ok l=>
    cases l with
    |ret u=>exact I.after a
    |next=>exact False.elim a
    |brk=>exact False.elim a
    |cont=>exact False.elim a
def pe_call(F:FnOk X.prog X.w X.K X.mg X.base CX k f fd ps sp)(g:Room k X.A)(l:Gl X x)(i:X.mg x=aa (.ref f))(j:W.keepIn X.K (.ref f)=ae)(n:Binds X.K fd ps ds)(hd:Vals dvs ds)(d:Passes CX X E)(o:PA X (e :: es) t)(b:(x==("__debug__":Str))=af:=by decide)(m:bg (e :: es) X.env=(af,eval e X.env) :: bg es X.env:=by rfl)(a:(backTo pos (bg es X.env)).any (·.1)=af:=by rfl) :
    PE X (.Call (.Name x p) (e :: es) [] pos) (tCall sp dvs E t):=by
  intro pQ s O H Q I h;refine wpAny_Call_Name_kw (ld_glob I l i ?_ b);refine W.callWith_K (h₀:=X.base) I.ok.mod.kin j (thn (o pos pQ s O H _ I h) λus s1 ⟨vs,u,c,r,q⟩=>⟨c.kIn,?_⟩) m a
  exact run_fn F g n hd d c r q
def pe_call0(F:FnOk X.prog X.w X.K X.mg X.base CX k f fd ps sp)(c:Room k X.A)(g:Gl X x)(d:X.mg x=aa (.ref f))(e:W.keepIn X.K (.ref f)=ae)(i:Binds X.K fd ps ds)(hd:Vals dvs ds)(b:Passes CX X E)(a:(x==("__debug__":Str))=af:=by decide):PE X (.Call (.Name x p) [] [] pos) (tCall sp dvs E tNil):=by
  intro pQ s O H Q I h;refine wpAny_Call_Name_kw (ld_glob I g d ?_ a);exact W.callWith_K0 I.kIn e (run_fn (us:=[]) F c i hd b I .nil h)
structure Mk(K:Fg)(C f:Addr):Prop where
  makes:W.makesIn K C=ae
  init:W.findIn K (.ref C) "__init__"=aa (aa (.ref f))
  fn:W.isFn K (.ref f)=ae
  kp:W.keepIn K (.ref C)=ae
end
section
variable{ks:Li Str}{E:XK}{x:Str}{kpos:Pos}{kws:Li Keyword}{tk:TA}{nm:Ot Str}
structure KBinds(K:Fg)(fd:bo)(ps ks:List Str)(g:List Value->List Value->List Value)(gV:List V->List V->List V):Prop where
  to:∀ (s:Shared) (us ws:List Value),K.In s.heap->(g us ws).length=ps.length->BindsTo s fd ⟨us,ks.zip ws⟩ (ps.zip (g us ws))
  rel:∀ {vs:List V}{us:List Value}{zs:List V}{ws:List Value},Vals vs us->Vals zs ws->Vals (gV vs zs) (g us ws)
variable{g:Li vL->Li vL->Li vL}{gV:Li V->Li V->Li V}
end
structure FnScope(N P:List Str)(sc:bj):Prop where
  kind:sc.kind=.function
  co:sc.isCoroutine=af
  gen:sc.isGenerator=af
  nd:N.Nodup
  pre:N.take P.length=P
  par:∀ x∈P,sc.names.lookup x=aa .local\/sc.names.lookup x=aa .cell
  nofree:∀ y∈sc.names,y.2≠.free
theorem bindL_out{a:Str->Ot NameKind}{x:Str}:∀ {binds:Li (Str×vL)}{m:Str->Ot vL},(∀ v,(x,v)∉binds)->bindL a binds m x=m x
  |[],_,_=>rfl
  | (n,v) :: r,m,h=>by
    unfold bindL;rw[bindL_out λw b=>h w (Lm _ b)]
    split
    . have:x≠n:=by rintro rfl;exact h v Ls
      simp[this]
    . rfl
theorem bindC_out{a:Str->Ot NameKind}{x:Str}:∀ {binds:Li (Str×vL)}{m:Str->Ot vL},(∀ v,(x,v)∉binds)->bindC a binds m x=m x
  |[],_,_=>rfl
  | (n,v) :: r,m,h=>by
    unfold bindC;rw[bindC_out λw b=>h w (Lm _ b)]
    split
    . rfl
    . have:x≠n:=by rintro rfl;exact h v Ls
      simp[this]
theorem bindL_get{a:Str->Ot NameKind}{x:Str}{v:vL}:∀ {P:Li Str}{vs:Li vL}{i:Nat}{m:Str->Ot vL},P.Nodup->P[i]?=aa x->vs[i]?=aa v->a x=aa .local->
    bindL a (P.zip vs) m x=aa v
  |[],_,_,_,_,h,_,_=>by simp at h
  |_ :: _,[],_,_,_,_,h,_=>by simp at h
  |p :: P,w :: vs,0,m,d,c,b,e=>by
    simp at c b;subst c;subst b;show bindL a ((p,w) :: P.zip vs) m p=_;unfold bindL;rw[bindL_out λv f=>(bY.mp d).1 (eY f).1,aq e]
    simp
  |p :: P,w :: vs,i+1,m,d,c,b,e=>by
    show bindL a ((p,w) :: P.zip vs) m x=_;unfold bindL;exact bindL_get (i:=i) (bY.mp d).2 (by simpa using c) (by simpa using b) e
theorem bindC_get{a:Str->Ot NameKind}{x:Str}{v:vL}:∀ {P:Li Str}{vs:Li vL}{i:Nat}{m:Str->Ot vL},P.Nodup->P[i]?=aa x->vs[i]?=aa v->a x≠aa .local->
    bindC a (P.zip vs) m x=aa v
  |[],_,_,_,_,h,_,_=>by simp at h
  |_ :: _,[],_,_,_,_,h,_=>by simp at h
  |p :: P,w :: vs,0,m,d,c,b,e=>by
    simp at c b;subst c;subst b;show bindC a ((p,w) :: P.zip vs) m p=_;unfold bindC;rw[bindC_out λv f=>(bY.mp d).1 (eY f).1,ar e]
    simp
  |p :: P,w :: vs,i+1,m,d,c,b,e=>by
    show bindC a ((p,w) :: P.zip vs) m x=_;unfold bindC;exact bindC_get (i:=i) (bY.mp d).2 (by simpa using c) (by simpa using b) e
noncomputable def start(N:Li Str)(vs:Li V):St:=vs.map aa++ag (N.length - vs.length) ab
noncomputable def cxOf(CX:CXT)(P:bf)(w:bq)(K:Fg)(mg:Str->Ot vL)(base:bp)(N:Li Str)(a:Str)(scope:bj)(f:Ad)(c:vL)(A:bu)(outer:Li Env)(s:Sd)(H:Hp)(E:XK):Cx where
  prog:=P
  w:=w
  K:=K
  mg:=mg
  base:=base
  A:=A.deeper (envOfC a scope s.heap.objs.size f c)
  N:=N
  s₀:=s
  H₀:=H
  env:=envOfC a scope s.heap.objs.size f c
  outer:=outer
  stack:=envOfC a scope s.heap.objs.size f c :: outer
  ex:=[]
  calm:=ae
  fn:=λ_=>ae
  pn:=[]
  xe:=λe d=>a8 (a9 P w) (A.deeper (envOfC a scope s.heap.objs.size f c)) (leaving (envOfC a scope s.heap.objs.size f c) e) (λ_ b=>CX outer H s E e b) (λg b=>CX outer H s E g b) d
def cell_has{sc:bj}{x:Str}(h:sc.names.lookup x=aa .cell):∃ c,(cellsFrom n sc.names []).lookup x=aa c:=by
  have q:=W.cellsFrom_some sc.names n [] (.inl h);exact Option.isSome_iff_exists.mp q
variable{mg:Str->Ot vL}{base:bp}
def inv_start{CX:CXT}{P:bf}{d:Str}{scope:bj}{f:Ad}{C:vL}{outer:Li Env}{s1:Sd}{E:XK}(S:FnScope N ps scope)(hd:A.handled=ab)(j:Env0 P w K mg base A outer s H)(L:vs.length=ps.length)(r:Vals vs us)(x:InCallC s s.heap.objs.size (bindL (envOfC d scope s.heap.objs.size f C).kindOf (ps.zip us) λ_=>ab) (cellsFrom (s.heap.objs.size+1) scope.names []) (bindC (envOfC d scope s.heap.objs.size f C).kindOf (ps.zip us) λ_=>ab) s1) :
    Inv (cxOf CX P w K mg base N d scope f C A outer s H E) [] (start N vs) H s1:=by
  have G:ps.length<=N.length:=by have:=av List.length S.pre;rw[aZ]at this;omega
  obtain⟨B,J,rfl,F⟩:=x.done;have l:∀ b:Ad,b∉(cxOf CX P w K mg base N d scope f C A outer s H E).ex:=λb z=>au (show b∈([]:Li Ad) from z) (by simp)
  refine⟨⟨j.mod,S.kind,rfl,rfl,aB _,λy z c B g=>?_,λy hy=>?_,λy c _ h=>?_,λ_=>hd,Around.frames_deeper j.frames,.inr ⟨rfl,rfl⟩,λb z=>au z (l b),j.bs,j.bsz,λb _ _=>l b,λb z=>au z (l b),j.funs,j.frf⟩,
    rfl,j.bare,Un.kept F,⟨_,x.toInCall.ns,λi y v B g M=>?_⟩,λy c h=>⟨_,x.cell y c h⟩,j.hok.fresh (aB _),λy c h=>?_,λp o=>au (show p∈([]:Li (Ad×Obj)) from o) (by simp),j.hok.kept F,?_⟩
  . exact name_of_addr x.apart (PySem.mem_of_lookup B) (PySem.mem_of_lookup g)
  . have hy:scope.names.lookup y=aa .cell\/scope.names.lookup y=aa .free:=hy
    rcases hy with hy|hy
    . exact cell_has hy
    . exact au rfl (S.nofree _ (PySem.mem_of_lookup hy))
  . exact dS (x.above y c (PySem.mem_of_lookup h))
  . have t:i < vs.length:=by
      unfold start at g;by_cases t:i < vs.length
      . exact t
      . rw[bA (by simpa using t)]at g
        rw[fR]at g;split at g<;>cases g
    have I:vs[i]?=aa v:=by
      unfold start at g;rw[bG (by simpa using t),aX]at g
      cases e:vs[i]? with
      |none=>rw[e]at g;cases g
      |some a=>rw[e]at g;cases g;rfl
    obtain⟨u,D,rv⟩:=r.get I;have o:ps[i]?=aa y:=by
      rw[<-S.pre,List.getElem?_take_of_lt (by omega)];exact B
    have m:ps.Nodup:=by rw[<-S.pre];exact S.nd.sublist (List.take_sublist _ _)
    refine⟨u,rv,?_⟩;rcases S.par y (aV o) with k|k
    . exact .inl ⟨k,bindL_get m o D k⟩
    . obtain⟨c,e⟩:=cell_has (n:=s.heap.objs.size+1) k
      refine .inr ⟨.inl k,c,e,?_⟩;have q:=x.cell y c e;rw[bindC_get m o D (by show scope.names.lookup y≠_;rw[k];decide)]at q
      exact q
  . exact j.hok.fresh (dS (x.above y c (PySem.mem_of_lookup h)))
  . unfold start
    show _=N.length;rw[aH,aD,dH];omega
def fn_of{CX:CXT}{P:bf}{f:Ad}{g a:Str}{d:Arguments}{body:Li Stmt}{scope:bj}{T kV B R c ct oc:vL}{X Z:Ot Ad}{G:Array (Ot vL)}{D:Sp}(lk:K.lookup f=aa ⟨oc,Z,.func (W.fnOf g a d body scope T kV B R X c ct),G⟩)(O:W.codeIn K c a=ae)(S:FnScope N ps scope)(len:∀ vs H Q E,D vs H Q E->vs.length=ps.length)(j:∀ (A:bu) (outer:Li Env) (s:Sd) (H:Hp) (vs:Li V) (Q:VK) (E:XK),Room k (A.deeper (envOfC a scope s.heap.objs.size f c))->D vs H Q E->
      ∃ t,PSs (cxOf CX P w K mg base N a scope f c A outer s H E) body t/\t { nx:=λ_ h=>Q .non h,rt:=Q } (start N vs) H) :
    FnOk P w K mg base CX (k+1) f (W.fnOf g a d body scope T kV B R X c ct) ps D:=by
  refine⟨len,λA outer s H U us vs Q E M z hb r m=>?_⟩
  have hl:=len _ _ _ _ m;have Y:K.In s.heap:=z.mod.kin.keeps λb o e=>(z.bs b o e).1
  have L:s.heap.NoLimit:=z.mod.nolimit.keeps λb o e=>(z.bs b o e).1
  have i:∀ y∈ps.zip us,scope.names.lookup y.1=aa .local\/(scope.names.lookup y.1=aa .cell/\((cellsFrom (s.heap.objs.size+1) scope.names []).lookup y.1).isSome=ae):=λ⟨n,v⟩ hy=>by
    rcases S.par n (eY hy).1 with q|q
    . exact .inl q
    . exact .inr ⟨q,W.cellsFrom_some _ _ _ (.inl q)⟩
  refine codeAny_call_function M.depth (Y _ _ lk) rfl S.co S.gen rfl (W.codeRec_of Y O) (hb _ _ _ _ ?_);refine wpAny_newFunctionEnv_cells S.kind i λenv he s1 x=>?_
  subst he;refine⟨L.keeps x.toInCall.keep,codeAny_func ?_⟩;obtain⟨t,ht,hq⟩:=j A outer s H vs Q E (M.deeper _) m;have I:Inv (cxOf CX P w K mg base N a scope f c A outer s H E) [] (start N vs) H s1:=inv_start S M.hd z hl r x;refine bS (ht [] s1 (start N vs) H _ I hq) (λfl F l=>?_) λe F l=>l
  have p:∀ {C:St}{h:Hp}{v:V}{u:vL},Inv (cxOf CX P w K mg base N a scope f c A outer s H E) [] C h F->RelV v u->Q v h->CE outer P w H s Q u F:=
    λ{C h v u} J rv q=>⟨v,h,J.os,J.bare,J.base,J.hok,rv,q⟩
  cases fl with
  |ret u=>
    obtain⟨v,C,h,J,rv,q⟩:=l;exact p J rv q
  |next=>
    obtain⟨C,h,J,q⟩:=l;exact p (v:=V.non) (u:=bz) J rfl q
  |brk=>
    obtain⟨_,_,_,q⟩:=l;exact False.elim q
  |cont=>
    obtain⟨_,_,_,q⟩:=l;exact False.elim q
section
variable{x:Str}{id T:String}{r:Li V->Hp->VK->Prop}
def tCB(r:Li V->Hp->VK->Prop)(t:TA):TE:=λO H Q=>t O H λvs a=>r vs a Q
def pe_callB(l:CallR X (.builtin id) r)(j:Gl X x)(i:X.mg x=ab)(f:bh x=aa (.builtin id))(m:PA X (e :: es) t)(g:x ≠ "__name__":=by decide)(b:(x==("__debug__":Str))=af:=by decide)(k:bg (e :: es) X.env=(af,eval e X.env) :: bg es X.env:=by rfl)(a:(backTo pos (bg es X.env)).any (·.1)=af:=by rfl):PE X (.Call (.Name x p) (e :: es) [] pos) (tCB r t):=by
  intro pQ s O H Q I h;refine wpAny_Call_Name_kw (ld_blt I j i f ?_ g b);exact PyProof.Rows.callWith_builtin1 (thn (m pos pQ s O H _ I h) λus s1 ⟨vs,o,n,c,d⟩=>l pQ s1 O o vs us Q n c d) k a
def pe_callTy(l:CallR X (.type T) r)(j:Gl X x)(i:X.mg x=ab)(f:bh x=aa (.type T))(m:PA X (e :: es) t)(g:x ≠ "__name__":=by decide)(b:(x==("__debug__":Str))=af:=by decide)(k:bg (e :: es) X.env=(af,eval e X.env) :: bg es X.env:=by rfl)(a:(backTo pos (bg es X.env)).any (·.1)=af:=by rfl):PE X (.Call (.Name x p) (e :: es) [] pos) (tCB r t):=by
  intro pQ s O H Q I h;refine wpAny_Call_Name_kw (ld_blt I j i f ?_ g b);exact PyProof.Rows.callWith_type1 (thn (m pos pQ s O H _ I h) λus s1 ⟨vs,o,n,c,d⟩=>l pQ s1 O o vs us Q n c d) k a
end
end L2
namespace HT
open PySem PyProof.Rows
section
open PySem.SeqAt
open PySem.AutoSeq1 (wpAny_loadPart')
open PySem.MeetsSeq PySem.MeetsSeq2 PySem.MeetsSeq3
end
variable{Q:vL->Sd->Prop}{hi:Ot Int}
section
variable{prog:bf}{w:bq}{A:bu}{E:vL->Sd->Prop}{s:Sd}
def cat_tup{t b:Ad}{d a:Li vL}(v:IsTup s.heap t d.toArray)(x:IsTup s.heap b a.toArray)(p:d≠[])(z:a=[]->Q (.ref t) s)(y:a≠[]->Q (.ref s.heap.objs.size) { s with heap:=s.heap.push { cls:=.type "tuple",data:=.seq (d++a).toArray } })(l:d.length+a.length<=ay):a8 (a9 prog w) A (bv .Add (.ref t) (.ref b)) Q E s:=by
  obtain⟨⟨cls,dd,data,sl⟩,k,r,n,q⟩:=id v;obtain⟨⟨u,i,m,f⟩,c,h,o,g⟩:=id x;simp only at r q h g;subst r q h g;have e:d.toArray++a.toArray=(d++a).toArray:=by simp
  by_cases j:a=[]
  . exact concat_meets ⟨_,k,rfl⟩ ⟨_,c,rfl⟩ noFill_tuple_add seq_tuple_add PySem.F.slot_tuple_add PySem.F.entry_tuple_add (PySem.F.args_tuple_add_2 _ _)
      (tuple_addW1 t b d.toArray a.toArray n o dd i sl f (by simpa using p) (by simp[j])) ⟨k,c,z j⟩
  . refine concat_meets ⟨_,k,rfl⟩ ⟨_,c,rfl⟩ noFill_tuple_add seq_tuple_add PySem.F.slot_tuple_add PySem.F.entry_tuple_add (PySem.F.args_tuple_add_2 _ _)
      (tuple_addW2 t b d.toArray a.toArray n o dd i sl f (by simpa using p) (by simpa using j) (by rw[aJ,aJ];exact l)) ⟨k,c,?_⟩
    rw[e];exact y j
noncomputable def sIx(n d:Nat):Ot Int->Nat
  |none=>d
  |some v=>if v < 0 then (v+(n:Int)).toNat else min v.toNat n
def sIx_le(n d:Nat)(hd:d<=n)(o:Ot Int):sIx n d o<=n:=by
  cases o with
  |none=>exact hd
  |some v=>
    show(if v < 0 then (v+(n:Int)).toNat else min v.toNat n)<=n
    by_cases a:v < 0
    . rw[aq a];omega
    . rw[ar a];exact Nat.min_le_right _ _
def clip_eq(v:Int)(n d:Nat):(if v < 0 then max (v+(n:Int)) 0 else min v (n:Int))=((sIx n d (aa v):Nat):Int):=by
  show(if v < 0 then max (v+(n:Int)) 0 else min v (n:Int))=(((if v < 0 then (v+(n:Int)).toNat else min v.toNat n):Nat):Int)
  by_cases a:v < 0
  . simp only[aq a];omega
  . simp only[ar a];omega
def adjust_gen(lo hi:Ot Int)(n:Nat):Builtin.Slice.sliceAdjust lo hi 1 (n:Int)=(((sIx n 0 lo:Nat):Int),((sIx n n hi:Nat):Int)):=by
  have a:¬((1:Int) < 0):=by omega
  unfold Builtin.Slice.sliceAdjust;simp only[a,if_false];refine Prod.ext ?_ ?_
  . cases lo with
    |none=>rfl
    |some v=>exact clip_eq v n 0
  . cases hi with
    |none=>rfl
    |some v=>exact clip_eq v n n
def places_gen(i j:Nat):Builtin.Slice.slicePlaces (i:Int) (j:Int) 1=j - i:=by
  unfold Builtin.Slice.slicePlaces;have a:(1:Int) > 0:=by omega
  simp only[a,if_true,Int.ediv_one];split<;>omega
def slicePart_{v:vL}{o:Ot Int}{Q:Ot Int->Sd->Prop}(p:IsPart v o)(h:Q o s):a8 (a9 prog w) A (Builtin.Slice.slicePartIndex v) Q E s:=by
  cases p with
  |none=>exact slicePart_none h
  |int i t=>exact slicePart_int h
def sliceApplied_gen{sl:Ad}{d c:vL}{lo:Ot Int}{n:Nat}{Q:Int×Int×Nat->Sd->Prop}(g:s.heap.IsSliceOf sl d c .none)(f:IsPart d lo)(e:IsPart c hi)(h:Q (((sIx n 0 lo:Nat):Int),1,sIx n n hi - sIx n 0 lo) s):a8 (a9 prog w) A (Builtin.Slice.sliceApplied (.ref sl) (pure (n:Int))) Q E s:=by
  obtain⟨j,a,i,b⟩:=id g;unfold Builtin.Slice.sliceApplied Builtin.Slice.sliceFields;refine aA (aA (wpAny_field a b (x:=d) rfl (aA (wpAny_field a b (x:=c) rfl (aA (wpAny_field a b (x:=.none) rfl (aF ?_)))))));refine aA (slicePart_none ?_);show a8 _ _ (if ((1:Int)==0)=ae then _ else _) _ _ s
  rw[ar (by decide)]
  refine aA (slicePart_ f (aA (slicePart_ e (aA (aF ?_)))));show a8 _ _ (match Builtin.Slice.sliceAdjust lo hi 1 (n:Int) with | (lo,hi)=>pure (lo,(1:Int),Builtin.Slice.slicePlaces lo hi 1)) _ _ s
  rw[adjust_gen lo hi n];show a8 _ _ (pure (((sIx n 0 lo:Nat):Int),(1:Int),Builtin.Slice.slicePlaces ((sIx n 0 lo:Nat):Int) ((sIx n n hi:Nat):Int) 1)) _ _ s;rw[places_gen];exact aF h
def pick_gen(a:Array vL)(i k:Nat):((aj k).filterMap λ(m:Nat)=>a[((i:Int)+(m:Int) * 1).toNat]?).toArray=((a.toList.drop i).take k).toArray:=by
  have e:(λ(m:Nat)=>a[((i:Int)+(m:Int) * 1).toNat]?)=λm=>a[i+m]?:=by
    funext m
    have:((i:Int)+(m:Int) * 1).toNat=i+m:=by omega
    rw[this]
  rw[e];have:=pick_run a i k;rw[List.filterMap_map]at this;have b:((λx=>a[x]?) ∘ λx=>i+x)=λm=>a[i+m]?:=rfl
  rw[b]at this;rw[this]
def getItem_tuple_cut{t sl:Ad}{a:Array vL}{j i:vL}{lo:Ot Int}(c:IsTup s.heap t a)(k:s.heap.IsSliceOf sl j i .none)(n:IsPart j lo)(l:IsPart i hi)(p:¬(sIx a.size 0 lo=0/\sIx a.size a.size hi=a.size))(h:Q (.ref s.heap.objs.size) { s with heap:=s.heap.push { cls:=.type "tuple",data:=.seq ((a.toList.drop (sIx a.size 0 lo)).take (sIx a.size a.size hi - sIx a.size 0 lo)).toArray } })(r:a.size<=ay):a8 (a9 prog w) A (getItem (.ref t) (.ref sl)) Q E s:=by
  have b:sizeOk (.seq ((a.toList.drop (sIx a.size 0 lo)).take (sIx a.size a.size hi - sIx a.size 0 lo)).toArray):=by
    show((a.toList.drop (sIx a.size 0 lo)).take (sIx a.size a.size hi - sIx a.size 0 lo)).toArray.size<=ay;rw[aJ,aZ,cF,eE];omega
  have y:sIx a.size a.size hi<=a.size:=sIx_le _ _ (aB _) hi;obtain⟨o,d,f,u⟩:=id k;have g:s.TypeIs (.ref sl) "slice":=⟨o,d,f⟩;unfold getItem
  try with_reducible refine wpAny_holding ?_
  first|refine aA (aF ?_)|skip
  refine aA (wpAny_sequenceKey c.typeIs (by decide) ?_)
  refine aA (wpAny_callSpecial?_slot (name:=Str.ofString "__getitem__") c.typeIs PyProof.Rows.slot_tuple_getitem
    (wpAny_call_entry PyProof.Rows.slot_tuple_getitem c.typeIs entry_tuple_getitem ?_ (args_tuple_getitem _ _)))
  show a8 _ _ (Builtin.Tuple.tupleItemsOf (.ref t) >>= _) _ _ s;refine aA (tupleItemsOf_ c ?_);refine aA (wpAny_typeOf g ?_);rw[aq (by decide)]
  refine aA (sliceApplied_gen k n l ?_);have e:¬((((sIx a.size 0 lo:Nat):Int)==0&&(1:Int)==1&&(sIx a.size a.size hi - sIx a.size 0 lo)==a.size)=ae):=by
    intro q;rw[Ba,Ba]at q;have x:((sIx a.size 0 lo:Nat):Int)=0:=eq_of_beq q.1.1;have v:sIx a.size a.size hi - sIx a.size 0 lo=a.size:=eq_of_beq q.2;exact p ⟨by omega,by omega⟩
  show a8 _ _ (if (((sIx a.size 0 lo:Nat):Int)==0&&(1:Int)==1&&(sIx a.size a.size hi - sIx a.size 0 lo)==a.size)=ae then _ else _) _ _ s
  rw[ar e,pick_gen]
  first
    |exact aA (m:=Builtin.Tuple.tupleExact _) (wpAny_newObj_type (aF ⟨_,rfl,aF h⟩) b)
    |exact aA (m:=Builtin.Tuple.tupleExact _) (wpAny_newObj_type (aA (aF (aF ⟨_,rfl,aF h⟩))) b)
    |exact aA (aA (m:=Builtin.Tuple.tupleExact _) (wpAny_newObj_type (aF (aF ⟨_,rfl,aF h⟩)) b))
    |exact aA (aA (m:=Builtin.Tuple.tupleExact _) (wpAny_newObj_type (aF ⟨_,rfl,aF h⟩) b))
end
end HT
namespace L2
open PySem PySem.Spec PyProof.Rows
abbrev TO:=St->Hp->(Ot Int->Hp->Prop)->Prop
def PO(X:Cx)(e:Ot az)(t:TO):Prop:=
  ∀ (pQ:Li (Ad×Obj)) (s:Sd) (O:St) (H:Hp) (Q:Ot Int->Hp->Prop),Inv X pQ O H s->t O H Q->
    a8 (a9 X.prog X.w) X.A (evalPart e X.env) (λu b=>∃ o a,Inv X pQ O a b/\IsPart u o/\Q o a) X.xe s
def tNoPart:TO:=λ_ H Q=>Q ab H
def tPart(t:TE):TO:=λO H Q=>t O H λx a=>∃ i,x=.int i/\Q (aa i) a
variable{xs:Li V}{us:Li vL}
variable{X:Cx}{e:az}{pos:Pos}
section
variable{te:TE}{lo hi:Ot az}{tl th:TO}{p2:Pos}
def po_none:PO X ab tNoPart:=by
  intro a s O H Q I h;rw[evalPart_none];exact aF ⟨ab,H,I,.none,h⟩
def po_some(h:PE X e te):PO X (aa e) (tPart te):=by
  intro c s O H Q I d;rw[evalPart_some];refine thn (h c s O H _ I d) λu s1 ⟨x,g,f,a,b⟩=>?_
  obtain⟨i,rfl,q⟩:=b;obtain⟨t,rfl⟩:=a;exact⟨aa i,g,f,.int i t,q⟩
def SlR(X:Cx)(r:V->Ot Int->Ot Int->Hp->VK->Prop):Prop:=
  ∀ (pQ:Li (Ad×Obj)) (s:Sd) (O:St) (H:Hp) (x:V) (v vl vu:vL) (lo hi:Ot Int) (sl:Ad) (Q:VK),Inv X pQ O H s->RelV x v->s.heap.IsSliceOf sl vl vu .none->IsPart vl lo->IsPart vu hi->r x lo hi H Q->
    ∃ T id,typeLookup (.type T) "__getitem__"=pure (aa (.builtin id))/\s.TypeIs v T/\a8 (a9 X.prog X.w) X.A (getItem v (.ref sl)) (EP X pQ O Q) X.xe s
def tSl(r:V->Ot Int->Ot Int->Hp->VK->Prop)(te:TE)(tl th:TO):TE:=λO H Q=>te O H λx c=>tl O c λl b=>th O b λu a=>r x l u a Q
def pe_slice{r:V->Ot Int->Ot Int->Hp->VK->Prop}(y:SlR X r)(C:PE X e te)(z:PO X lo tl)(hu:PO X hi th):PE X (.Subscript e (.Slice lo hi ab p2) pos) (tSl r te tl th):=by
  intro c s O H Q I h;refine Subscript_ (thn (C c s O H _ I h) λv s1 ⟨x,L,J,j,n⟩=>?_)
  refine wpAny_Slice (thn (z c s1 O L _ J n) λf i ⟨l,K,G,p,m⟩=>thn (hu c i O K _ G m) λd a ⟨u,g,F,o,k⟩=>?_)
  rw[evalPart_none];refine aF ?_;have E:Inv X c O g { a with heap:=a.heap.push { cls:=.type "slice",data:=.fields #[f,d,.none] } }:=F.kept (t':=a.toks) λb M q=>aT _ q
  obtain⟨T,id,D,t,B⟩:=y c { a with heap:=a.heap.push { cls:=.type "slice",data:=.fields #[f,d,.none] } } O g x v f d l u a.heap.objs.size Q E j (Heap.IsSliceOf.new ..) p o k
  show a8 (a9 X.prog X.w) X.A (subscriptTail e (.Slice lo hi ab p2) v (.ref a.heap.objs.size)) (EP X c O Q) X.xe { a with heap:=a.heap.push { cls:=.type "slice",data:=.fields #[f,d,.none] } }
  exact tail_any (ops:=[.ref a.heap.objs.size,v]) t D B (by with_unfolding_all rfl)
noncomputable def cutV(xs:Li V)(lo hi:Ot Int):Li V:=(xs.drop (HT.sIx xs.length 0 lo)).take (HT.sIx xs.length xs.length hi - HT.sIx xs.length 0 lo)
def cutV_length(xs:Li V)(lo hi:Ot Int):(cutV xs lo hi).length<=xs.length:=by
  unfold cutV;rw[aZ,cF];omega
def rSlT(K:Fg):V->Ot Int->Ot Int->Hp->VK->Prop:=λx lo hi H Q=>∃ a xs,x=.ref a/\SqT K H a xs /\
  ¬(HT.sIx xs.length 0 lo=0/\HT.sIx xs.length xs.length hi=xs.length)/\∀ p,H p=ab->Q (.ref p) (upd H p (.tup (cutV xs lo hi)))
def sl_tup:SlR X (rSlT X.K):=by
  intro t s O H x v p n lo hi sl Q I g m j i h;obtain⟨a,xs,rfl,k,l,q⟩:=h;cases g;obtain⟨d,r,f,e⟩:=I.tuple k;have c:d.toArray.size=xs.length:=by rw[aJ];exact r.length.symm
  refine⟨"tuple",_,PyProof.Rows.slot_tuple_getitem.lookup,f.typeIs,?_⟩;refine HT.getItem_tuple_cut f m j i (by rw[c];exact l) ?_ (by rw[c];exact e)
  rw[c];refine⟨.ref s.heap.objs.size,_,I.laid (t':=s.toks) (o:=.tup (cutV xs lo hi)) (λb u q=>aT _ q) (aB _) ?_,rfl,q _ (I.hok.fresh (aB _))⟩
  exact⟨aP (cutV_length xs lo hi) e,_,(r.drop (HT.sIx xs.length 0 lo)).take (HT.sIx xs.length xs.length hi - HT.sIx xs.length 0 lo),IsTup.new _ _⟩
def rCatT(K:Fg):R2:=λx y H Q=>∃ a b xs c,x=.ref a/\y=.ref b/\SqT K H a xs/\SqT K H b c/\xs≠[]/\xs.length+c.length<=ay /\
  (c=[]->Q (.ref a) H)/\(c≠[]->∀ p,H p=ab->Q (.ref p) (upd H p (.tup (xs++c))))
def Vals.nil_iff(r:Vals xs us):us=[]↔xs=[]:=by
  cases r with
  |nil=>simp
  |cons _ _=>simp
def op_catT:OpR X (bv .Add) (rCatT X.K):=by
  intro A s O H x y v u Q I j i h;obtain⟨a,b,xs,g,rfl,rfl,t,r,p,f,l,k⟩:=h;cases j;cases i;obtain⟨n,d,m,_⟩:=I.tuple t;obtain⟨e,c,p2,_⟩:=I.tuple r;refine HT.cat_tup m p2 (λz=>p (d.nil_iff.mp z)) (λz=>⟨.ref a,H,I,rfl,l (c.nil_iff.mp z)⟩) (λz=>?_) (by rw[<-d.length,<-c.length];exact f)
  refine⟨.ref s.heap.objs.size,_,I.laid (t':=s.toks) (o:=.tup (xs++g)) (λb B q=>aT _ q) (aB _) ?_,rfl,k (λw=>z (c.nil_iff.mpr w)) _ (I.hok.fresh (aB _))⟩
  exact⟨by rw[aH];exact f,_,d.append c,IsTup.new _ _⟩
end
noncomputable def ixN(n:Nat)(i:Int):Ot Nat:=if 0<=i then (if i < n then aa i.toNat else ab) else if -(n:Int)<=i then aa (i+n).toNat else ab
def atI{a:Type}(xs:Li a)(i:Int):Ot a:=(ixN xs.length i).bind λj=>xs[j]?
variable{n:Nat}
def ixN_seq{i:Int}{j:Nat}(h:ixN n i=aa j):seqIndex? i n=aa j/\j < n/\-(n:Int)<=i/\i < n:=by
  unfold ixN at h;by_cases b:0<=i
  . rw[aq b]at h
    by_cases a:i < n
    . rw[aq a]at h
      have e:i.toNat=j:=aw h;exact⟨by rw[seqIndex_of b a,e],by omega,by omega,a⟩
    . rw[ar a]at h;cases h
  . rw[ar b]at h
    by_cases a:-(n:Int)<=i
    . rw[aq a]at h
      have e:(i+n).toNat=j:=aw h;exact⟨by rw[seqIndex_neg (by omega) a,e],by omega,a,by omega⟩
    . rw[ar a]at h;cases h
variable{α:Type}
def atI_get{xs:Li α}{i:Int}{v:α}(h:atI xs i=aa v):∃ j,seqIndex? i xs.length=aa j/\xs[j]?=aa v/\j < xs.length/\-(xs.length:Int)<=i/\i < xs.length:=by
  unfold atI at h;cases e:ixN xs.length i with
  |none=>rw[e]at h;cases h
  |some j=>
    rw[e]at h;obtain⟨d,c,b,a⟩:=ixN_seq e;exact⟨j,d,h,c,b,a⟩
def PlainIx(b:az):Prop:=∀ o i,subscripted b af o i=operate [o,i] (getItem o i)
def IxR(X:Cx)(r:R2):Prop:=
  ∀ (value slice:az) (pQ:Li (Ad×Obj)) (s:Sd) (O:St) (H:Hp) (x y:V) (v u:vL) (Q:VK),Inv X pQ O H s->RelV x v->RelV y u->r x y H Q->
    subscripted slice af v u=operate [v,u] (getItem v u)->a8 (a9 X.prog X.w) X.A (subscriptTail value slice v u) (EP X pQ O Q) X.xe s
def MtR(X:Cx)(id:String)(r:V->Li V->Hp->VK->Prop):Prop:=
  ∀ (pQ:Li (Ad×Obj)) (s:Sd) (O:St) (H:Hp) (x:V) (xs:Li V) (v:vL) (us:Li vL) (Q:VK),Inv X pQ O H s->RelV x v->Vals xs us->r x xs H Q->
    a8 (a9 X.prog X.w) X.A (call (.builtin id) (v :: us)) (EP X pQ O Q) X.xe s
variable{pQ:Li (Ad×Obj)}{s:Sd}{its its':Li vL}{y x:V}
section
variable{a b:az}{ta tb:TE}
def pe_ix{r:R2}(g:IxR X r)(j:PE X a ta)(i:PE X b tb)(f:PlainIx b):PE X (.Subscript a b pos) (tOp r ta tb):=by
  intro pQ s O H Q I h;exact Subscript_ (binT j i I h λv u c x y l k e d q=>g a b pQ c O l x y v u Q k e d q (f _ _))
def rIxL(K:Fg):R2:=λx y H Q=>∃ p xs i v,x=.ref p/\y=.int i/\SqL K H p xs/\atI xs i=aa v/\Q v H
def rIxT(K:Fg):R2:=λx y H Q=>∃ p xs i v,x=.ref p/\y=.int i/\SqT K H p xs/\atI xs i=aa v/\Q v H
def rIxS:R2:=λx y H Q=>∃ z i c,x=.str z/\y=.int i/\z.length<=ay/\atI z.cps.toList i=aa c/\Q (.str ⟨#[c]⟩) H
def ix_list:IxR X (rIxL X.K):=by
  intro c slice pQ s O H x y v u Q I o n h g;obtain⟨p,xs,i,z,rfl,rfl,A,C,q⟩:=h;cases o;obtain⟨t,rfl⟩:=n;obtain⟨its,r,e,G⟩:=I.list A;obtain⟨j,b,F,L,E,D⟩:=atI_get C;obtain⟨w,l,d⟩:=r.get F;have B:=r.length;have J:=line63;have a:EP X pQ O Q w s:=⟨z,H,I,d,q⟩;by_cases k:0<=i
  . have f:i.toNat=j:=by
      rw[seqIndex_of k D]at b;exact aw b
    exact item_listR e.isList k (by omega) (by rw[f];simpa using l) a g
  . have f:(i+(its.toArray.size:Int)).toNat=j:=by
      rw[seqIndex_neg (by omega) E]at b
      rw[aJ,<-B];exact aw b
    exact subscriptTail_builtinR (x:=w) e.isList.typeIs slot_list_getitem.lookup
      (wpAny_getItem_list_neg (Q:=λr m=>r=w/\EP X pQ O Q r m) e.isList (by omega) (by rw[aJ]<;>omega) (by omega) (by rw[f];simpa using l) ⟨rfl,a⟩) g
def ix_tup:IxR X (rIxT X.K):=by
  intro a slice pQ s O H x y v u Q I g f h k;obtain⟨p,xs,i,z,rfl,rfl,l,n,q⟩:=h;cases g;obtain⟨t,rfl⟩:=f;obtain⟨its,r,d,C⟩:=I.tuple l;obtain⟨j,A,o,G,F,E⟩:=atI_get n;obtain⟨w,B,b⟩:=r.get o;have m:=r.length;have D:=line63;have c:EP X pQ O Q w s:=⟨z,H,I,b,q⟩;exact subscriptTail_builtinR (x:=w) d.typeIs slot_tuple_getitem.lookup
    (getItem_tuple (j:=j) (Q:=λr e=>r=w/\EP X pQ O Q r e) d (by omega) (by omega) (by rw[aJ,<-m];exact A) (by simpa using B) ⟨rfl,c⟩) k
def ix_str:IxR X rIxS:=by
  intro a slice pQ s O H x y v u Q I e d h f;obtain⟨z,i,c,rfl,rfl,w,k,q⟩:=h;obtain⟨t,rfl⟩:=e;obtain⟨r,rfl⟩:=d;obtain⟨j,b,n,B,m,l⟩:=atI_get k;have g:z.cps.toList.length=z.length:=by simp[Str.length]
  rw[g]at b m l;have A:=line63;exact tail_any (typeIs_str s z t) slot_str_getitem.lookup (getItem_str (c:=c) (by
    have p:ak (i < -(2 ^ 63:Int))=af:=aG (by omega)
    have o:ak (i>=2 ^ 63)=af:=aG (by omega)
    rw[p,o,cL]) (by rw[b];simpa using n) ⟨.str ⟨#[c]⟩,H,I.tok _,⟨_,rfl⟩,q⟩) f
def mapSeq_set(its:Li vL)(n j:Nat)(u:vL):Obj.mapSeq (·.setIfInBounds j u) { cls:=.type "list",data:=.seq its.toArray n }={ cls:=.type "list",data:=.seq (its.set j u).toArray n }:=by
  simp[Obj.mapSeq]
theorem Inv.lst{pQ:Li (Ad×Obj)}{O:St}{H:Hp}{s:Sd}{p:Ad}{xs:Li V}(I:Inv X pQ O H s)(h:H p=aa (.lst xs)) :
    ∃ (its:Li vL) (n:Nat),Vals xs its/\s.heap.get? p=aa { cls:=.type "list",data:=.seq its.toArray n }/\xs.length<=ay:=by
  obtain⟨z,its,n,r,e⟩:=I.hok p _ h;exact⟨its,n,r,e,z⟩
def Inv.lstUpd{O:St}{H:Hp}{p:Ad}{a:Li V}{c:Nat}{f:Obj->Obj}(I:Inv X pQ O H s)(h:H p=aa (.lst xs))(i:s.heap.get? p=aa { cls:=.type "list",data:=.seq its.toArray n })(d:f { cls:=.type "list",data:=.seq its.toArray n }={ cls:=.type "list",data:=.seq its'.toArray c })(r:Vals a its')(g:a.length<=ay)(t:Nat) :
    Inv X pQ O (upd H p (.lst a)) { s with heap:=s.heap.update p f,toks:=t }:=by
  have e:(s.heap.update p f).get? p=aa { cls:=.type "list",data:=.seq its'.toArray c }:=by
    rw[Heap.get?_update_self f i (by rw[d]<;>rfl),d]
  refine I.write (x:=p) (e:=p) (by rw[h];trivial) (.inl rfl) (λb u j q=>(Heap.get?_update_other _ _ (Ne.symm j)).trans q) ⟨_,e⟩ ?_
  exact⟨g,its',c,r,e⟩
def rSetL:V->V->V->Hp->(Hp->Prop)->Prop:=λo i v H Q=>∃ p xs k j,o=.ref p/\i=.int k/\H p=aa (.lst xs)/\ixN xs.length k=aa j/\Q (upd H p (.lst (xs.set j v)))
def set_list:PSet X rSetL:=by
  intro pQ s O H o i v A B u Q I w x rv h;obtain⟨p,xs,k,j,rfl,rfl,e,z,q⟩:=h;cases w;obtain⟨t,rfl⟩:=x;obtain⟨its,n,r,b,y⟩:=I.lst e;obtain⟨a,D,g,f⟩:=ixN_seq z;have c:=r.length;have C:=line63;have m:Inv X pQ O (upd H p (.lst (xs.set j v))) { s with heap:=s.heap.update p (Obj.mapSeq (·.setIfInBounds j u)) }:=
    I.lstUpd e b (mapSeq_set its n j u) (r.set rv j) (by rw[bK];exact y) s.toks
  by_cases l:0<=k
  . have d:k.toNat=j:=by
      rw[seqIndex_of l f]at a;exact aw a
    exact W.ki_setAt b l (by omega) (by rw[aJ,<-c];exact f) (by rw[d];exact⟨_,m,q⟩)
  . have d:(k+(its.toArray.size:Int)).toNat=j:=by
      rw[seqIndex_neg (by omega) g]at a
      rw[aJ,<-c];exact aw a
    exact W.ki_setBack b (by omega) (by rw[aJ,<-c];exact g) (by omega) (by rw[d];exact⟨_,m,q⟩)
def slice_bounds(lo a:Ot Int)(n:Nat):(sliceBounds lo a ab n).1=((HT.sIx n 0 lo:Nat):Int)/\(sliceBounds lo a ab n).2.1=((HT.sIx n n a:Nat):Int)/\(sliceBounds lo a ab n).2.2=1:=by
  refine⟨?_,?_,rfl⟩
  . cases lo with
    |none=>simp[sliceBounds,HT.sIx]
    |some i=>
      simp only[sliceBounds,HT.sIx,Option.getD_none,show(1:Int) > 0 by decide,if_true]
      by_cases h:i < 0
      . simp only[h,if_true]<;>omega
      . simp only[h,if_false]<;>omega
  . cases a with
    |none=>simp[sliceBounds,HT.sIx]
    |some i=>
      simp only[sliceBounds,HT.sIx,Option.getD_none,show(1:Int) > 0 by decide,if_true]
      by_cases h:i < 0
      . simp only[h,if_true]<;>omega
      . simp only[h,if_false]<;>omega
def slicePick_cut(its:Li vL)(lo a:Ot Int):slicePick its.toArray lo a ab=((its.drop (HT.sIx its.length 0 lo)).take (HT.sIx its.length its.length a - HT.sIx its.length 0 lo)).toArray:=by
  obtain⟨d,c,b⟩:=slice_bounds lo a its.toArray.size;unfold slicePick;rw[d,c,b];simp only[sliceRange_one,pick_run,aJ]<;>rfl
def rSlL(K:Fg):V->Ot Int->Ot Int->Hp->VK->Prop:=λx lo b H Q=>∃ a xs,x=.ref a/\SqL K H a xs/\∀ p,H p=ab->Q (.ref p) (upd H p (.lst (cutV xs lo b)))
def sl_list:SlR X (rSlL X.K):=by
  intro pQ s O H x v n m lo d sl Q I f l i g h;obtain⟨a,xs,rfl,k,q⟩:=h;cases f;obtain⟨its,r,e,j⟩:=I.list k;have c:=r.length;refine⟨"list",_,slot_list_getitem.lookup,e.isList.typeIs,?_⟩;refine wpAny_getItem_list_slice e.isList l i g .none (by simp) ?_ (by rw[aJ]<;>omega)
  rw[slicePick_cut,<-c];refine⟨.ref s.heap.objs.size,_,I.laid (t':=s.toks) (o:=.lst (cutV xs lo d)) (λb p q=>aT _ q) (aB _) ?_,rfl,q _ (I.hok.fresh (aB _))⟩
  exact⟨aP (cutV_length xs lo d) j,_,0,(r.drop (HT.sIx xs.length 0 lo)).take (HT.sIx xs.length xs.length d - HT.sIx xs.length 0 lo),bO _ rfl⟩
noncomputable def flatV:V->Bool
  |.non=>ae
  |.bl _=>ae
  |.int _=>ae
  |.str _=>ae
  |_=>af
noncomputable def eqV:V->V->Bool
  |.non,.non=>ae
  |.bl a,.bl b=>a==b
  |.bl a,.int b=>(if a then 1 else 0)==b
  |.int a,.bl b=>a==(if b then 1 else 0)
  |.int a,.int b=>a==b
  |.str a,.str b=>a==b
  |_,_=>af
def eqAt_V{A:bu}{u v:vL}(e:RelV y u)(c:RelV x v)(g:flatV y=ae)(f:flatV x=ae):SeqAt.EqAt A s u v (eqV y x):=by
  cases y with
  |non=>
    cases e;cases x with
    |non=>cases c;exact SeqAt.EqAt.same _
    |bl b=>cases c;exact SeqAt.EqAt.none_bool b
    |int b=>obtain⟨t,rfl⟩:=c;exact SeqAt.EqAt.none_int b t
    |str b=>obtain⟨t,rfl⟩:=c;exact SeqAt.EqAt.none_str b t
    |_=>exact au (show af=ae from f) Bf
  |bl a=>
    cases e;cases x with
    |non=>cases c;exact SeqAt.EqAt.bool_none a
    |bl b=>cases c;exact SeqAt.EqAt.bool_bool a b
    |int b=>obtain⟨t,rfl⟩:=c;exact SeqAt.EqAt.bool_int a b t
    |str b=>obtain⟨t,rfl⟩:=c;exact SeqAt.EqAt.bool_str a b t
    |_=>exact au (show af=ae from f) Bf
  |int a=>
    obtain⟨d,rfl⟩:=e;cases x with
    |non=>cases c;exact SeqAt.EqAt.int_none a d
    |bl b=>cases c;exact SeqAt.EqAt.int_bool a d b
    |int b=>obtain⟨t,rfl⟩:=c;exact SeqAt.EqAt.int_int a d b t
    |str b=>obtain⟨t,rfl⟩:=c;exact SeqAt.EqAt.int_str a d b t
    |_=>exact au (show af=ae from f) Bf
  |str a=>
    obtain⟨d,rfl⟩:=e;cases x with
    |non=>cases c;exact SeqAt.EqAt.str_none a d
    |bl b=>cases c;exact SeqAt.EqAt.str_bool a d b
    |int b=>obtain⟨t,rfl⟩:=c;exact SeqAt.EqAt.str_int a d b t
    |str b=>obtain⟨t,rfl⟩:=c;exact SeqAt.EqAt.str_str a d b t
    |_=>exact au (show af=ae from f) Bf
  |_=>exact au (show af=ae from g) Bf
def eqU(x:V)(u:vL):Bool:=match u with
  |.none=>eqV .non x
  |.bool b=>eqV (.bl b) x
  |.int i _=>eqV (.int i) x
  |.str z _=>eqV (.str z) x
  |_=>af
def eqU_of{u:vL}(r:RelV y u)(f:flatV y=ae):eqU x u=eqV y x:=by
  cases y with
  |non=>cases r;rfl
  |bl b=>cases r;rfl
  |int i=>obtain⟨t,rfl⟩:=r;rfl
  |str z=>obtain⟨t,rfl⟩:=r;rfl
  |_=>exact au (show af=ae from f) Bf
theorem any_eqU{x:V}:∀ {xs:Li V}{us:Li vL},Vals xs us->xs.all flatV=ae->us.any (eqU x)=xs.any λy=>eqV y x
  |_,_,.nil,_=>rfl
  |y :: xs,u :: us,.cons r t,f=>by
    rw[bT,Ba]at f;rw[cM,cM,eqU_of r f.1,any_eqU t f.2]
theorem mem_eqAt{A:bu}{s:Sd}{x:V}{v:vL}(a:RelV x v)(b:flatV x=ae):∀ {xs:Li V}{us:Li vL},Vals xs us->xs.all flatV=ae->∀ u∈us,SeqAt.EqAt A s u v (eqU x u)
  |_,_,.nil,_=>λu hu=>by cases hu
  |y :: xs,u :: us,.cons r t,f=>λc hu=>by
    rw[bT,Ba]at f;rcases aK.mp hu with rfl|hu
    . rw[eqU_of r f.1];exact eqAt_V r a f.1 b
    . exact mem_eqAt a b t f.2 c hu
def inV(x:V)(xs:Li V):Bool:=xs.any λy=>eqV y x
def rIn(K:Fg)(neg:Bool):R2:=λx y H Q=>∃ p xs,y=.ref p/\(SqL K H p xs\/SqT K H p xs)/\flatV x=ae/\xs.all flatV=ae/\Q (.bl (if neg then !inV x xs else inV x xs)) H
def op_in_seq:OpR X (br .In) (rIn X.K af):=by
  intro pQ s O H x y v u Q I c e h;obtain⟨p,xs,rfl,hq,d,fs,q⟩:=h;cases e;rcases hq with hq|hq
  . obtain⟨its,r,a,f⟩:=I.list hq
    refine SeqAt.in_listAt (eqU x) a.isList (λw b=>mem_eqAt c d r fs w (by simpa using b)) ⟨.bl _,H,I,rfl,?_⟩
    rw[show its.toArray.any (eqU x)=its.any (eqU x) by simp,any_eqU r fs]
    exact q
  . obtain⟨its,r,a,f⟩:=I.tuple hq
    refine SeqAt.in_tupleAt (eqU x) a (λw b=>mem_eqAt c d r fs w (by simpa using b)) ⟨.bl _,H,I,rfl,?_⟩
    rw[show its.toArray.any (eqU x)=its.any (eqU x) by simp,any_eqU r fs]
    exact q
def op_notIn_seq:OpR X (br .NotIn) (rIn X.K ae):=by
  intro pQ s O H x y v u Q I c e h;obtain⟨p,xs,rfl,hq,d,fs,q⟩:=h;cases e;rcases hq with hq|hq
  . obtain⟨its,r,a,f⟩:=I.list hq
    refine SeqAt.notIn_listAt (eqU x) a.isList (λw b=>mem_eqAt c d r fs w (by simpa using b)) ⟨.bl _,H,I,rfl,?_⟩
    rw[show its.toArray.any (eqU x)=its.any (eqU x) by simp,any_eqU r fs]
    exact q
  . obtain⟨its,r,a,f⟩:=I.tuple hq
    refine SeqAt.notIn_tupleAt (eqU x) a (λw b=>mem_eqAt c d r fs w (by simpa using b)) ⟨.bl _,H,I,rfl,?_⟩
    rw[show its.toArray.any (eqU x)=its.any (eqU x) by simp,any_eqU r fs]
    exact q
def op_notIn_str:OpR X (br .NotIn) (λx y H Q=>∃ i j,x=.str i/\y=.str j/\Q (.bl (!(!(Builtin.Str.occurrences j i 0 j.length 1).isEmpty))) H):=by
  intro pQ s O H x y v u Q I b a h;obtain⟨i,j,rfl,rfl,q⟩:=h;obtain⟨t,rfl⟩:=b;obtain⟨c,rfl⟩:=a;exact notIn_str ⟨.bl _,H,I,rfl,q⟩
def call_len_seq:CallR X (.builtin "len") (λxs H Q=>∃ p b,xs=[.ref p]/\(SqL X.K H p b\/SqT X.K H p b)/\Q (.int b.length) H):=by
  intro pQ s O H xs us Q I r h;obtain⟨p,b,rfl,hq,q⟩:=h;obtain⟨u,rfl,e⟩:=vals1 r;cases e;have g:=line63;rcases hq with hq|hq
  . obtain⟨its,c,d,f⟩:=I.list hq
    have a:=c.length;exact Calls.call_len_list d.isList (by simp only[aJ]<;>omega) ⟨.int b.length,H,I.tok _,⟨s.toks+1,by rw[aJ,a]⟩,q⟩
  . obtain⟨its,c,d,f⟩:=I.tuple hq
    have a:=c.length;exact len_tuple d (by simp only[aJ]<;>omega) ⟨.int b.length,H,I.tok _,⟨s.toks+1,by rw[aJ,a]⟩,q⟩
def call_list_of:CallR X (.type "list") (λxs H Q=>∃ p c,xs=[.ref p]/\(SqL X.K H p c\/SqT X.K H p c)/\∀ l,H l=ab->Q (.ref l) (upd H l (.lst c))):=by
  intro pQ s O H xs us Q I r h;obtain⟨p,c,rfl,hq,q⟩:=h;obtain⟨u,rfl,z⟩:=vals1 r;cases z;have k:∀ (its:Li vL),Vals c its->c.length<=ay->∀ (a:bp) (f:Nat),(∀ b y,s.heap.get? b=aa y->a.get? b=aa y)->
      a.get? s.heap.objs.size=aa { cls:=.type "list",dict:=ab,data:=.seq its.toArray f,slots:=#[] }->EP X pQ O Q (.ref s.heap.objs.size) { s with heap:=a }:=λits d i a f g e=>
    ⟨.ref s.heap.objs.size,_,I.laid (t':=s.toks) g (aB _) (show ObjOk X.prog X.w _ a _ (.lst c) from⟨i,its,f,d,e⟩),rfl,q _ (I.hok.fresh (aB _))⟩
  rcases hq with hq|hq
  . obtain⟨its,d,m,i⟩:=I.list hq
    have j:=d.length;obtain⟨o,t,x,n,v⟩:=m.isList;exact call_list_seq p (.inl rfl) t x v (λa f g e=>k its d i a f g e) (by simp only[aJ]<;>omega)
  . obtain⟨its,d,m,i⟩:=I.tuple hq
    have j:=d.length;obtain⟨o,t,x,n,v⟩:=m;exact call_list_seq p (.inr rfl) t x v (λa f g e=>k its d i a f g e) (by simp only[aJ]<;>omega)
def call_tuple_of:CallR X (.type "tuple") (λxs H Q=>∃ p a,xs=[.ref p]/\((SqL X.K H p a/\∀ l,H l=ab->Q (.ref l) (upd H l (.tup a)))\/(SqT X.K H p a/\Q (.ref p) H))):=by
  intro pQ s O H xs us Q I r h;obtain⟨p,a,rfl,h⟩:=h;obtain⟨u,rfl,m⟩:=vals1 r;cases m;rcases h with⟨g,q⟩|⟨g,q⟩
  . obtain⟨its,d,f,i⟩:=I.list g
    have j:=d.length;refine call_tuple_list f.isList (λc n=>?_) (by simp only[aJ]<;>omega)
    have k:Inv X pQ O H { s with heap:=c }:=I.kept (t':=s.toks) n
    have t:Inv X pQ O (upd H c.objs.size (.tup a)) { s with heap:=c.push { cls:=.type "tuple",data:=.seq its.toArray } }:=
      k.laid (t':=s.toks) (λb o e=>aT _ e) (aB _) (show ObjOk X.prog X.w _ _ _ (.tup a) from⟨i,its,d,IsTup.new _ _⟩)
    exact⟨.ref c.objs.size,_,t,rfl,q _ (k.hok.fresh (aB _))⟩
  . obtain⟨its,d,f,i⟩:=I.tuple g
    exact call_tuple_same f ⟨.ref p,H,I,rfl,q⟩
def tyV(K:Fg)(T:String)(x:V)(H:Hp):Prop:=match x with
  |.str _=>T = "str"
  |.int _=>T = "int"
  |.ref p=>(T = "list"/\∃ xs,SqL K H p xs)\/(T = "tuple"/\∃ o,K.lookup p=aa o/\o.cls=.type "tuple"/\o.dict=ab) \/
      (T = "dict"/\((∃ a,H p=aa (.dK a))\/∃ a,H p=aa (.dT a)))\/(T = "set"/\∃ S n,H p=aa (.set S n))
  |_=>False
def tyV_is{O:St}{H:Hp}{T:String}{v:vL}(I:Inv X pQ O H s)(r:RelV x v)(ty:tyV X.K T x H) :
    s.TypeIs v T/\∀ a,v=.ref a->∃ j,s.heap.get? a=aa j/\j.dict=ab:=by
  cases x with
  |str z=>
    obtain⟨t,rfl⟩:=r;cases (show T = "str" from ty)
    exact⟨typeIs_str s z t,λ_ e=>nomatch e⟩
  |int i=>
    obtain⟨t,rfl⟩:=r;cases (show T = "int" from ty)
    exact⟨typeIs_int s i t,λ_ e=>nomatch e⟩
  |ref p=>
    cases r;rcases ty with⟨rfl,xs,k⟩|⟨rfl,o,b,l,f⟩|⟨rfl,b⟩|⟨rfl,S,n,b⟩
    . obtain⟨its,_,h,_⟩:=I.list k
      refine⟨h.isList.typeIs,λa e=>?_⟩
      cases e;obtain⟨o,n,e,c,f,_⟩:=h;exact⟨o,e,f⟩
    . refine⟨⟨o,I.kIn p o b,l⟩,λa e=>?_⟩
      cases e;exact⟨o,I.kIn _ o b,f⟩
    . have z:∃ o,s.heap.get? p=aa o/\o.ExactDict:=by
        rcases b with⟨d,b⟩|⟨d,b⟩
        . obtain⟨_,_,_,_,o,_,_,e,ex,_⟩:=I.hok p _ b
          exact⟨o,e,ex⟩
        . obtain⟨_,_,_,_,o,_,_,e,ex,_⟩:=I.hok p _ b
          exact⟨o,e,ex⟩
      obtain⟨o,e,ex⟩:=z;refine⟨⟨o,e,ex.1⟩,λa g=>?_⟩
      cases g;exact⟨o,e,ex.2.1⟩
    . obtain⟨o,_,_,_,e,ex,_⟩:=I.hok p _ b
      refine⟨⟨o,e,ex.1⟩,λa g=>?_⟩
      cases g;exact⟨o,e,ex.2.1⟩
  |_=>exact False.elim ty
def tBM0(K:Fg)(T:String)(r:V->Li V->Hp->VK->Prop)(b:TE):TE:=λO H Q=>b O H λx a=>tyV K T x a/\r x [] a Q
def tBM(K:Fg)(T:String)(r:V->Li V->Hp->VK->Prop)(b:TE)(t:TA):TE:=λO H Q=>b O H λx a=>tyV K T x a/\t O a λxs c=>r x xs c Q
variable{o:az}{es:Li az}{to:TE}{t:TA}{name:Str}{apos cpos:Pos}{T id:String}{r:V->Li V->Hp->VK->Prop}
def pe_bm0(g:PlainAttrs T)(slot:Slot T name id)(c:typeOf (.builtin id)=pure (.type "method_descriptor"))(j:MtR X id r)(i:PE X o to)(b:attributeBase o name X.env (eval o X.env)=eval o X.env:=by rfl)(a:(apos.endLine==cpos.line)=ae:=by rfl):PE X (.Call (.Attribute o name apos) [] [] cpos) (tBM0 X.K T r to):=by
  intro pQ s O H Q I h;refine wpAny_Call_method0_late b a (thn (i pQ s O H _ I h) λv s1 ⟨x,m,e,d,ty,f⟩=>?_)
  obtain⟨l,k⟩:=tyV_is e d ty;exact⟨T,id,g,slot,c,l,k,Calls.callWith_builtin rfl (PySem.evalArgs_none (j pQ s1 O m x [] v [] Q e d .nil f))⟩
def pe_bm(q:PlainAttrs T)(slot:Slot T name id)(f:typeOf (.builtin id)=pure (.type "method_descriptor"))(y:MtR X id r)(w:PE X o to)(z:PA X (e :: es) t)(c:attributeBase o name X.env (eval o X.env)=eval o X.env:=by rfl)(d:((backTo cpos (bg (e :: es) X.env)).all (λx=>!x.1)&&(backToKw cpos (keywordEach [] X.env)).all (λx=>x.1.isSome)
     &&ak ((e :: es).length+([]:Li Keyword).length+(if ([]:Li Keyword).isEmpty then 0 else 1) < 30))=ae:=by rfl)(b:(apos.endLine==cpos.line)=ae:=by rfl)(u:bg (e :: es) X.env=(af,eval e X.env) :: bg es X.env:=by rfl)(a:(backTo cpos (bg es X.env)).any (·.1)=af:=by rfl) :
    PE X (.Call (.Attribute o name apos) (e :: es) [] cpos) (tBM X.K T r to t):=by
  intro pQ s O H Q I h;refine wpAny_Call_method_late c d b rfl (thn (w pQ s O H _ I h) λv s1 ⟨x,E,j,g,ty,p⟩=>?_)
  obtain⟨B,A⟩:=tyV_is j g ty;refine⟨T,id,q,slot,f,B,A,?_⟩;have i:=z cpos pQ s1 O E _ j p;rw[u]at i ⊢;refine Calls.callWith_builtin (by show(af||(backTo cpos (bg es X.env)).any (·.1))=af;rw[a]<;>rfl) (Calls.evalArgs_plain ?_)
  exact thn i λus l ⟨k,D,C,m,n⟩=>y pQ l O D x k v us Q C g m n
end
def MtM(X:Cx)(id:String)(r:V->Li V->Hp->VK->Prop):Prop:=
  ∀ (pQ:Li (Ad×Obj)) (s:Sd) (O:St) (H:Hp) (x:V) (xs:Li V) (v:vL) (us:Li vL) (Q:VK),Inv X pQ O H s->RelV x v->Vals xs us->r x xs H Q->
    a8 (a9 X.prog X.w) X.A (call (.builtin id) (v :: us)) (EP X pQ O Q) X.xe s
def Vals.one(h:Vals [x] us):∃ u,us=[u]/\RelV x u:=by
  cases h with
  |cons r h=>cases h;exact⟨_,rfl,r⟩
def Vals.two(h:Vals [x,y] us):∃ u v,us=[u,v]/\RelV x u/\RelV y v:=by
  cases h with
  |cons r h=>cases h with
    |cons q h=>cases h;exact⟨_,_,rfl,r,q⟩
def Vals.zero:∀ {us:Li vL},Vals [] us->us=[]
  |_,.nil=>rfl
theorem Vals.dropLast(h:Vals xs us):Vals xs.dropLast us.dropLast:=by
  induction h with
  |nil=>exact .nil
  |cons r t a=>
    cases t with
    |nil=>exact .nil
    |cons q b=>exact .cons r a
theorem Vals.rep(h:Vals xs us):∀ k:Nat,Vals (ag k xs).flatten (ag k us).flatten
  |0=>.nil
  |k+1=>by
    rw[cT,cT,cU,cU];exact Vals.append h (Vals.rep h k)
def erase_last(l:Li α):l.eraseIdx (l.length - 1)=l.dropLast:=by
  induction l with
  |nil=>rfl
  |cons a r c=>
    cases r with
    |nil=>rfl
    |cons b r=>
      have e:(a :: b :: r).length - 1=((b :: r).length - 1)+1:=by
        have f:(a :: b :: r).length=r.length+2:=rfl;have d:(b :: r).length=r.length+1:=rfl;omega
      rw[e,List.eraseIdx_cons_succ,c]
      all_goals rfl
theorem foldl_rep(its:Li vL):∀ (k:Nat) (a:Li vL),
    List.foldl (λc b=>c++b) a.toArray (ag k its.toArray)=(a++(ag k its).flatten).toArray
  |0,a=>by simp
  |k+1,a=>by
    have e:a.toArray++its.toArray=(a++its).toArray:=by simp
    have d:(a++its)++(ag k its).flatten=a++(ag (k+1) its).flatten:=by
      rw[cT,cU,aM]
    rw[<-d,<-foldl_rep its k (a++its),<-e,cT,List.foldl_cons]
variable{pQ:Li (Ad×Obj)}{s:Sd}{xs:Li V}
section
variable{O:St}{H:Hp}{l b:Ad}{ys zs:Li V}
def Inv.lset{f:Array vL->Array vL}{a:Nat}(I:Inv X pQ O H s)(i:H l=aa (.lst xs))(e:s.heap.get? l=aa { cls:=.type "list",data:=.seq its.toArray n })(g:f its.toArray=its'.toArray)(c:Vals ys its')(b:ys.length<=ay) :
    Inv X pQ O (upd H l (.lst ys)) { s with heap:=s.heap.update l (Obj.mapSeq f),toks:=a }:=by
  have q:=PySem.IsL.update e f;rw[g]at q;refine I.write (x:=l) (e:=l) (by rw[i];exact trivial) (.inl rfl) (λj u h d=>(Heap.get?_update_other s.heap (Obj.mapSeq f) (Ne.symm h)).trans d) ⟨_,q⟩ ?_
  exact⟨b,its',_,c,q⟩
def Inv.lnew{t':Nat}(I:Inv X pQ O H s)(b:Vals ys its)(a:ys.length<=ay) :
    Inv X pQ O (upd H s.heap.objs.size (.lst ys)) { s with heap:=s.heap.push { cls:=.type "list",data:=.seq its.toArray },toks:=t' }:=
  I.laid (λ_ _ q=>aT _ q) (aB _) ⟨a,its,0,b,bO _ rfl⟩
theorem Inv.fresh(I:Inv X pQ O H s):H s.heap.objs.size=ab:=I.hok.fresh (aB _)
def Inv.lstM(I:Inv X pQ O H s)(a:H l=aa (.lst xs)):xs.length<=ay/\∃ (its:Li vL) (n:Nat),Vals xs its/\xs.length=its.length/\s.heap.get? l=aa { cls:=.type "list",data:=.seq its.toArray n }:=by
  obtain⟨z,its,n,r,e⟩:=I.hok l _ a;exact⟨z,its,n,r,r.length,e⟩
def notLongL(h:n<=ay):Builtin.List.listTooLong n=af:=by
  unfold Builtin.List.listTooLong;exact aG (by omega)
end
def rAppend:V->Li V->Hp->VK->Prop:=λx a H Q=>∃ l xs y,x=.ref l/\a=[y]/\H l=aa (.lst xs)/\xs.length < ay/\Q .non (upd H l (.lst (xs++[y])))
theorem mt_append:MtM X "list.append" rAppend:=by
  intro pQ s O H x d v us Q I b rv h;obtain⟨l,xs,y,rfl,rfl,a,f,q⟩:=h;cases b;obtain⟨u,rfl,c⟩:=rv.one;obtain⟨z,its,n,r,g,e⟩:=I.lstM a;refine call_meets F.slot_list_append ⟨_,e,rfl⟩ F.entry_list_append (F.args_list_append_2 _ _) (PySem.list_append l its.toArray n u (by rw[aJ];omega)) ⟨e,?_⟩
  refine⟨.non,_,I.lset (its':=its++[u]) a e (by simp) (r.append (.cons c .nil)) ?_,rfl,q⟩
  rw[aH,fS];omega
def rExtend:V->Li V->Hp->VK->Prop:=λx c H Q=>∃ l b xs a,x=.ref l/\c=[.ref b]/\H l=aa (.lst xs)/\H b=aa (.lst a)/\xs.length+a.length<=ay/\Q .non (upd H l (.lst (xs++a)))
theorem mt_extend:MtM X "list.extend" rExtend:=by
  intro pQ s O H x y v us Q I g rv h;obtain⟨l,b,xs,t,rfl,rfl,f,o,A,q⟩:=h;cases g;obtain⟨u,rfl,i⟩:=rv.one;cases i;obtain⟨z,its,n,r,B,e⟩:=I.lstM f;obtain⟨w,a,k,j,m,p⟩:=I.lstM o;have d:its.toArray.size+a.toArray.size<=ay:=by rw[aJ,aJ];omega
  have c:¬(!its.toArray.isEmpty&&Builtin.List.listTooLong (its.toArray.size+a.toArray.size))=ae:=by
    rw[notLongL d,Bool.and_false];exact Bf
  refine call_meets F.slot_list_extend ⟨_,e,rfl⟩ F.entry_list_extend (F.args_list_extend_2 _ _)
    (AutoSeq1.list_extend_list_list_0 l its.toArray n b a.toArray k c (by rw[aJ];omega) (by omega)) ⟨e,p,?_⟩
  refine⟨.non,_,I.lset (its':=its++a) f e (by simp) (r.append j) ?_,rfl,q⟩
  rw[aH];omega
def rPop:V->Li V->Hp->VK->Prop:=λx a H Q=>∃ l xs y,x=.ref l/\a=[]/\H l=aa (.lst xs)/\xs[xs.length - 1]?=aa y/\Q y (upd H l (.lst xs.dropLast))
theorem mt_pop:MtM X "list.pop" rPop:=by
  intro pQ s O H x k v us Q I d rv h;obtain⟨l,xs,y,rfl,rfl,c,g,q⟩:=h;cases d;have b:=rv.zero;subst b;obtain⟨z,its,n,r,j,e⟩:=I.lstM c;obtain⟨u,i,f⟩:=r.get g;have a:its.toArray[its.toArray.size - 1]?=aa u:=by
    show its.toArray[its.length - 1]?=aa u;rw[<-eG,<-j];exact i
  refine call_meets F.slot_list_pop ⟨_,e,rfl⟩ F.entry_list_pop (F.args_list_pop_1 _) (MeetsSeq.list_pop_last l its.toArray n u a (by rw[aJ];omega)) ⟨e,?_⟩
  refine⟨y,_,I.lset (its':=its.dropLast) c e ?_ r.dropLast ?_,f,q⟩
  . show its.toArray.eraseIdxIfInBounds (its.toArray.size - 1)=its.dropLast.toArray
    rw[aJ,List.eraseIdxIfInBounds_toArray,erase_last]
  . rw[List.length_dropLast]
    omega
def rRep:R2:=λx y H Q=>∃ l k xs,x=.ref l/\y=.int k/\H l=aa (.lst xs)/\-(2 ^ 63)<=k/\k < 2 ^ 63/\xs.length * k.toNat<=ay /\
  ∀ p,H p=ab->Q (.ref p) (upd H p (.lst (ag k.toNat xs).flatten))
def len_rep(xs:Li α)(k:Nat):(ag k xs).flatten.length=k * xs.length:=by
  induction k with
  |zero=>simp
  |succ k a=>rw[cT,cU,aH,a,Nat.succ_mul,Nat.add_comm]
theorem op_rep:OpR X (bv .Mult) rRep:=by
  intro pQ s O H x y v u Q I A w h;obtain⟨l,k,xs,rfl,rfl,C,E,D,o,q⟩:=h;cases A;obtain⟨t,rfl⟩:=w;obtain⟨z,its,n,r,B,e⟩:=I.lstM C;have d:its.toArray.size * k.toNat<=ay:=by rw[aJ,<-B];exact o
  have g:¬its.toArray.size * k.toNat > (2 ^ 63 - 1) / 8:=by
    have:(ay:Nat)<=(2 ^ 63 - 1) / 8:=by decide
    omega
  have f:¬(!Builtin.List.listFitsIndex k)=ae:=by
    rw[fitsIndex_both E D];exact Bf
  have b:¬Builtin.List.listTooLong (its.toArray.size * k.toNat)=ae:=by
    rw[notLongL d];exact Bf
  have c:List.foldl (λj i=>j++i) #[] (ag (if its.toArray.isEmpty=ae then 0 else k.toNat) its.toArray)=(ag k.toNat its).flatten.toArray:=by
    have G:∀ m:Nat,List.foldl (λj i=>j++i) #[] (ag m its.toArray)=(ag m its).flatten.toArray:=λm=>by
      have:=foldl_rep its m [];rw[dZ]at this;exact this
    rw[G];cases its with
    |nil=>simp
    |cons a J=>rw[ar (by simp)]
  refine wpAny_binaryOp_repeat_ref (T := "list") (U := "int") (by decide) ⟨_,e,rfl⟩ (λp=>typeIs_int p k t) noFill_list_mul F.fills_int_mul F.slot_int_rmul repeat_list F.slot_int_index.lookup
    (call_meets F.slot_int_rmul (typeIs_int s k t) F.entry_int_rmul (F.args_int_rmul_2 _ _) (int___rmul___int_list k t l its.toArray n)
      ⟨e,rfl,⟨_,e,rfl⟩,call_meets F.slot_list_mul ⟨_,e,rfl⟩ F.entry_list_mul (F.args_list_mul_2 _ _) (AutoListH.list___mul___list_int_3 l its.toArray n k t f g b) ⟨e,?_⟩⟩)
  rw[c];exact⟨.ref _,_,I.lnew (t':=s.toks) (r.rep k.toNat) (by rw[len_rep,Nat.mul_comm];exact o),rfl,q _ I.fresh⟩
section
variable{prog:bf}{w:bq}{A:bu}{E:vL->Sd->Prop}
end
end L2
namespace Att
open PySem PySem.W PySem.Calls PyProof.Rows
variable{h:bp}
def ints_of_wellAll{P:Params}:∀ (c:Li Int) (d:Li vL),WellAll P h d (c.map WData.int)->IntsAre d c:=by
  intro c
  induction c with
  |nil=>
    intro d w;rw[List.map_nil]at w;cases w;exact .nil
  |cons n c e=>
    intro d w;rw[aW]at w;cases w with
    |cons a b=>
      cases a;exact .cons _ _ (e _ b)
variable{l:OpenLaw}
def script_of{n:Nat}(w:l.most=aa n){P:Params}{args:Li WData}{c:Li vL}(e:l.row.toRowW.claim.pre args=ae)(k:WellAll P h c args) :
    ∃ a o b,c=[bx a]/\args=[WData.list (b.map WData.int)]/\h.get? a=aa { cls:=.type "list",data:=.seq o.toArray }/\IntsAre o b/\b.length<=n:=by
  have m:WShape.hasAll [] args [.list .int]=ae:=(pre_splitW e).1;have p:l.pre.holds [] { args:=args }=ae:=(pre_splitW e).2;obtain⟨d,r,rfl,z,y⟩:=hasAllW_cons m;obtain rfl:=hasAllW_nil y;obtain⟨A,rfl,x⟩:=hasW_list z;obtain⟨b,rfl⟩:=items_int x;have f:b.length<=n:=by
    unfold OpenLaw.pre at p;have j:(WTm.not (.lt (.lit (.int (n:Int))) (.len (.arg 0)))).holds [] { args:=[.list (b.map .int)] }=ae:=by
      have j:=(holds_andW p).1;rw[w]at j;exact j
    have i:=condW_of j (w_not (w_lt w_lit (w_len_list (w_arg rfl))));rw[aD]at i;refine eZ λq=>?_
    have u:(n:Int) < ((b.length:Nat):Int):=by omega
    first
      | (rw[aE u]at i;exact au i (by decide))
      | (simp at i;omega)
  cases k with
  |cons t s=>
    cases s;cases t with
    |list v g=>exact⟨_,_,b,rfl,rfl,v,ints_of_wellAll b _ g,f⟩
def post_true(l:OpenLaw)(args:Li WData):l.row.toRowW.claim.post args (.bool ae) args=ae:=
  postW_of (r:=l.row.toRowW) (X:=(ae==ae))
    (show WShape.has [] (.bool ae) .bool=ae by first|rfl|decide|simp[WShape.has,WShape.arms,WShape.armsAll])
    (show(WTm.eq .res (.lit (.bool ae))).value [] { args:=args,res:=aa (.bool ae),after:=args }=aa (.bool (ae==ae)) from w_eq_bool (w_res rfl) w_lit) rfl
def attach_call{n:Nat}{q:bf}{c:Li Str}{H:(Str->Ot vL)->bp->Prop}{F:bq->bp->Prop}{d:DefRec}(L:l.most=aa n)(z:d.params.defaults=[])(call:∀ (w:bq) (s₀ b:Sd) (mg v:Str->Ot vL) (m:Ad) (o:Obj) (u t g:vL) (a:Ad) (h:Li vL) (s:Li Int),
      Ground q c [] H w s₀ mg v b.heap->F w b.heap->
      b.heap.get? m=aa o->o.data=.func (docDef d.name d.params d.body d.scope u t g)->b.heap.CodeRec t d.name->mg d.name=aa (.ref m)->
      b.heap.get? a=aa { cls:=.type "list",data:=.seq h.toArray }->IntsAre h s->s.length<=n->b.gens=#[]->
      codeAny (a9 l.prog w) callerA (.call (.ref m) ⟨[.ref a],[]⟩) (λr p=>r=.ok (.ret (.bool ae))/\OldK b.heap p.heap/\p.os=b.os/\AllBare p.gens) b) :
    WalkO q c H F l.row.toRowW d [] (λf h=>PySem.call f h):=by
  intro w s₀ b mg v G Y m o u t g T kV K P A D y O E B U i C I x N;obtain rfl:T=.none:=Dflts.none D z;obtain rfl:kV=.none:=Dflts.noKw D;obtain⟨a,h,s,rfl,rfl,j,e,k⟩:=script_of L i x;refine enter_call (codeAny_mono (call w s₀ b mg v m o u t g a h s G Y K (fd_plain P) A y j e k O) λr p J=>?_)
  obtain⟨rfl,S,R,Q⟩:=J;exact⟨.inl ⟨.bool ae,.bool ae,[],rfl,λ_=>rfl,.bool ae,post_true l _,λ_=>⟨List.Pairwise.nil,λ_ M=>(nomatch M)⟩⟩,S,R,Q⟩
section
variable{prog:bf}{w:bq}{A:bu}{E:vL->Sd->Prop}{s:Sd}{K:Frag}
end
end Att
namespace L2
open PySem PySem.Spec PyProof.Rows
theorem vals_ints:∀ {vs:Li vL}{ns:Li Int},IntsAre vs ns->Vals (ns.map V.int) vs
  |_,_,.nil=>.nil
  |_,_,.cons n t h=>.cons ⟨t,rfl⟩ (vals_ints h)
def Only(H:Hp):Prop:=∀ b,H b=ab\/∃ o a,H b=aa (.frz o (.lst a))
variable{w:bq}
def law_call{P:bf}{K:Fg}{mg Q:Str->Ot vL}{CX:CXT}{k:Nat}{W a:Ad}{fd:bo}{x:Str}{Y:Sp}{c:Sd}{p:Li vL}{A:Li Int}(KX:K.In c.heap)(E:c.heap.Ns a7 mg)(g:c.heap.Ns builtinsNs Q)(T:∀ x:Str,x ≠ "__name__"->Q x=bh x)(G:c.heap.NoLimit)(hg:c.gens=#[])(N:c.heap.get? a=aa { cls:=.type "list",data:=.seq p.toArray })(hi:IntsAre p A)(Z:A.length<=ay)(hr:Room k callerA)(F:∀ base:bp,K.In base->base.Ns a7 mg->FnOk P w K mg base CX k W fd [x] Y)(t:∀ (s:Sd) (u:vL),BindsTo s fd ⟨[u],[]⟩ [(x,u)])(R:∀ H:Hp,Only H->SqL K H a (A.map V.int)->Y [.ref a] H (λv _=>v=.bl ae) λ_ _ _=>False)(U:∀ H e i,CX [] H c (λ_ _ _=>False) e i->False) :
    codeAny (a9 P w) callerA (.call (.ref W) ⟨[.ref a],[]⟩) (λr i=>r=.ok (.ret (.bool ae))/\OldK c.heap i.heap/\i.os=c.os/\AllBare i.gens) c:=by
  have rv:=vals_ints hi;have B:=hi.length
  -- from an abstract heap in which nothing but the script may be tracked
  have l:∀ H:Hp,Only H->SqL K H a (A.map V.int)->HOk P w H c.heap->(∀ b,H b≠ab->b=a)->(H a≠ab->K.lookup a=ab)->
      codeAny (a9 P w) callerA (.call (.ref W) ⟨[.ref a],[]⟩) (λr i=>r=.ok (.ret (.bool ae))/\OldK c.heap i.heap/\i.os=c.os/\AllBare i.gens) c:=by
    intro H hO hS D hA hK;have f:∀ {b:Ad}{o:Obj},c.heap.get? b=aa o->H b=ab->(hidT c.heap H).get? b=aa o:=λe n=>hidT_get e n
    have O:∀ {b:Ad}{o:Obj}{J:Array DictEntry}{L:Nat},c.heap.get? b=aa o->o.data=.dict J L->H b=ab:=λ{b o J L} e d=>by
      cases q:H b with
      |none=>rfl
      |some u=>
        have X:b=a:=hA b (by rw[q];simp)
        subst X;rw[N]at e;cases e
        have d':Data.seq p.toArray _=Data.dict J L:=d;cases d'
    have j:∀ {b:Ad}{m:Str->Ot vL},c.heap.Ns b m->(hidT c.heap H).Ns b m:=λ{b m} ⟨o,J,L,e,d,r⟩=>⟨o,J,L,f e (O e d),d,r⟩
    have I:K.In (hidT c.heap H):=λb o e=>f (KX b o e) (by
      cases q:H b with
      |none=>rfl
      |some u=>
        have X:b=a:=hA b (by rw[q];simp)
        subst X;rw[hK (by rw[q];simp)]at e;cases e)
    have hM:Mod K mg (hidT c.heap H):=⟨I,j E,⟨Q,j g,T⟩,let ⟨mc,h1,h2⟩:=G;⟨mc,j h1,h2⟩⟩
    have e0:Env0 P w K mg (hidT c.heap H) callerA [] c H:=⟨rfl,hM,λb o e=>of_hidT e,cR (hidT_size _ _),trivial,λb g=>au (show b∈([]:Li Ad) from g) (by simp),D,.of_eq hg⟩
    refine codeAny_mono ((F _ I (j E)).run callerA [] c H ⟨[.ref a],[]⟩ [.ref a] [.ref a] _ _ hr e0 (t c (.ref a)) (.cons rfl .nil) (R H hO hS)) λr i h=>?_
    cases r with
    |error e=>exact(U H e i h).elim
    |ok fl=>
      cases fl with
      |next=>exact False.elim h
      |brk=>exact False.elim h
      |cont=>exact False.elim h
      |ret u=>
        obtain⟨v,H',os,M,un,C,r',q⟩:=h;have q':v=.bl ae:=q;subst q';obtain rfl:u=Value.bool ae:=r';refine⟨rfl,OldK.of_keep λb o e=>?_,os,M⟩
        cases q:H b with
        |none=>exact un.keep b o e q (by intro z;exact au (show b∈([]:Li Ad) from z) (by simp)) (by simp)
        |some u=>
          rcases hO b with z|⟨ob,xs,z⟩
          . rw[q]at z;cases z
          . have z2:=un.frzs b ob _ z
            obtain⟨e1,_⟩:=D b _ z;obtain⟨e2,_⟩:=C b _ z2;rw[e]at e1;cases e1
            exact e2
  cases S:K.lookup a with
  |some o=>
    -- the script is one of the module's own objects
    have e:=KX a o S;rw[N]at e;cases e;refine l (λ_=>ab) (λ_=>.inl rfl) (.inr ⟨_,p.toArray,_,S,rfl,rfl,rfl,by rw[aJ,B];exact Z,by simpa using rv⟩) (λb u z=>by have y:(ab:Ot HO)=aa u:=z;cases y) (λb z=>au rfl z) λz=>au rfl z
  |none=>
    refine l (λb=>if b=a then aa (.frz { cls:=.type "list",data:=.seq p.toArray } (.lst (A.map V.int))) else ab) (λb=>?_) (.inl (.inr ⟨{ cls:=.type "list",data:=.seq p.toArray },aq rfl⟩)) (λb u z=>?_) (λb z=>?_) λ_=>S
    . by_cases g:b=a
      . exact .inr ⟨_,_,aq g⟩
      . exact .inl (ar g)
    . by_cases g:b=a
      . have y:=(aq g).symm.trans z
        cases y;subst g;exact⟨N,by rw[aD];exact Z,p,_,rv,N⟩
      . have y:=(ar g).symm.trans z
        cases y
    . by_cases g:b=a
      . exact g
      . exact au (ar g) z
def walk_of{l:W.OpenLaw}{n k:Nat}{q:bf}{i:Li Str}{XP:(Str->Ot vL)->bp->Prop}{J:bq->bp->Prop}{d:DefRec}{K:Params->Fg}{CX:bq->CXT}{sp:bq->Sp}{x:Str}(N:l.most=aa n)(A:n<=ay)(C:d.params.defaults=[])(M:Room k callerA)(R:∀ (w:bq) (h:bp),J w h->(K w.params).In h)(F:∀ (w:bq) (mg:Str->Ot vL) (t:Ad) (h:bp),(K w.params).In h->h.Ns a7 mg->mg d.name=aa (.ref t)->
      ∃ fd:bo,(∀ (s:Sd) (u:vL),BindsTo s fd ⟨[u],[]⟩ [(x,u)]) /\
        ∀ base:bp,(K w.params).In base->base.Ns a7 mg->FnOk l.prog w (K w.params) mg base (CX w) k t fd [x] (sp w))(z:∀ (w:bq) (H:Hp) (a:Ad) (r:Li Int),r.length<=n->Only H->SqL (K w.params) H a (r.map V.int)->sp w [.ref a] H (λv _=>v=.bl ae) λ_ _ _=>False)(D:∀ (w:bq) (H:Hp) (s:Sd) (e:vL) (y:Sd),CX w [] H s (λ_ _ _=>False) e y->False) :
    W.WalkO q i XP J l.row.toRowW d [] (λf E=>PySem.call f E):=by
  refine Att.attach_call N C λw I m mg mb t o pm cd Z a E r G Y ho hd P B p j c O=>?_
  have L:=R w _ Y;obtain⟨fd,Q,X⟩:=F w mg t _ L G.T.g B;exact law_call L G.T.g G.T.b G.T.builtins G.T.nolimit O p j (aP c A) M X Q (λH U S=>z w H a r c U S) λH e y=>D w H m e y
noncomputable def defArgs(s:Stmt):Arguments:=match s with
  |.FunctionDef _ a _ _ _ _ _ _ _ _=>a
  |_=>{ posonlyargs:=[],args:=[],vararg:=ab,kwonlyargs:=[],kw_defaults:=[],kwarg:=ab,defaults:=[] }
noncomputable def defBody(s:Stmt):Li Stmt:=match s with
  |.FunctionDef _ _ b _ _ _ _ _ _ _=>b
  |_=>[]
noncomputable def defScope(s:Stmt):bj:=match s with
  |.FunctionDef _ _ _ _ _ _ sc _ _ _=>sc
  |_=>{ kind:=.function,names:=[],isGenerator:=af,isCoroutine:=af }
noncomputable abbrev CX0:CXT:=λ_ _ _ _ _ _=>False
abbrev E0:XK:=λ_ _ _=>False
variable{X:Cx}
def pass0:Passes CX0 X E0:=λ_ _ _ _ _ _ _ h=>h.elim
structure Fun(K:Fg)(x qual:Str)(st:Stmt)(f:Addr)(fd:bo):Prop where
  ex:∃ (oc:Value) (od:Option Addr) (kV doc pm:Value) (an:Option Addr) (cdv ct:Value) (osl:Array (Option Value)),
    fd=W.fnOf x qual (defArgs st) (defBody st) (defScope st) .none kV doc pm an cdv ct/\K.lookup f=aa ⟨oc,od,.func fd,osl⟩/\W.codeIn K cdv qual=ae
  kp:W.keepIn K (.ref f)=ae
variable{P:bf}{w:bq}
section
variable{K:Fg}{mg:Str->Ot vL}{base:bp}
end
variable{X:Cx}
variable{y:V}{u:vL}
section
variable {κ:Type} [DecidableEq κ]
noncomputable def valV(a:Li (κ×V))(k:κ):Ot V:=(a.find? λb=>ak (b.1=k)).map (·.2)
noncomputable def putK(a:Li (κ×V))(k:κ)(v:V):Li (κ×V):=
 if (a.any λb=>ak (b.1=k))=ae then a.map (λb=>if b.1=k then (b.1,v) else b) else a++[(k,v)]
def valV_pos{p:κ×V}{r:Li (κ×V)}{k:κ}(e:p.1=k):valV (p :: r) k=aa p.2:=by simp[valV,dI,e]
def valV_neg{p:κ×V}{r:Li (κ×V)}{k:κ}(e:¬p.1=k):valV (p :: r) k=valV r k:=by simp[valV,dI,e]
def length_putK(a:Li (κ×V))(k:κ)(v:V):(putK a k v).length<=a.length+1:=by
 unfold putK;split
 .rw[aD];omega
 .rw[aH,aY,dJ];omega
def RelO.isSome_eq{o:Ot V}{u:Ot vL}(r:RelO o u):o.isSome=u.isSome:=by
 cases o with
 |none=>cases u with
  |none=>rfl
  |some _=>exact(show False from r).elim
 |some _=>cases u with
  |none=>exact(show False from r).elim
  |some _=>rfl
def KV.val{a:Li (κ×V)}{f:Li (κ×vL)}(r:KV a f)(k:κ):RelO (valV a k) (valueAt f k):=by
 unfold KV at r
 induction r with
 |nil=>exact True.intro
 |@cons p q l c h t i=>
  obtain⟨g,j⟩:=h;by_cases e:p.1=k
  .have d:q.1=k:=g.symm.trans e
   have b:valueAt (q :: c) k=aa q.2:=by simp[valueAt,dI,d]
   rw[valV_pos e,b];exact j
  .have d:¬q.1=k:=λz=>e (g.trans z)
   have b:valueAt (q :: c) k=valueAt c k:=by simp[valueAt,dI,d]
   rw[valV_neg e,b];exact i
theorem KV.any{a:Li (κ×V)}{c:Li (κ×vL)}(r:KV a c)(k:κ):(a.any λb=>ak (b.1=k))=c.any λb=>ak (b.1=k):=by
 unfold KV at r
 induction r with
 |nil=>rfl
 |cons h t d=>rw[cM,cM,d,h.1]
def KV.repl{b:Li (κ×V)}{d:Li (κ×vL)}(r:KV b d)(k:κ)(f:RelV y u) :
  KV (b.map λa=>if a.1=k then (a.1,y) else a) (d.map λa=>if a.1=k then (a.1,u) else a):=by
 unfold KV at r ⊢
 induction r with
 |nil=>exact .nil
 |@cons p q l j h t g=>
  rw[aW,aW];refine .cons ?_ g;obtain⟨c,i⟩:=h;by_cases e:p.1=k
  .rw[aq e,aq (c.symm.trans e)];exact⟨c,f⟩
  .rw[ar e,ar (λz=>e (c.trans z))];exact⟨c,i⟩
def KV.put{a:Li (κ×V)}{b:Li (κ×vL)}(r:KV a b)(k:κ)(c:RelV y u):KV (putK a k y) (stored b k u):=by
 unfold putK stored;rw[r.any k];by_cases e:(b.any λd=>ak (d.1=k))=ae
 .rw[aq e,aq e];exact r.repl k c
 .rw[ar e,ar e];exact Paired.snoc r ⟨rfl,c⟩
end
def kV_is{P:bf}{k:Key}(r:RelV (kV k) u):(mixKind P w).is k u=ae:=by
 cases k with
 |inl i=>obtain⟨t,e⟩:=(show ∃ t,u=Value.int i t from r);subst e;exact mixKind_int P w i t
 |inr x=>obtain⟨t,e⟩:=(show ∃ t,u=Value.str x t from r);subst e;exact mixKind_str P w x t
variable{H:Hp}{h:bp}{a:Ad}
def rd_of{u:HO}(ok:HOk P w H h)(e:Rd H a u):ObjOk P w H h a u:=e.ok ok
def dk_rd{b:Li (Key×V)}(ok:HOk P w H h)(e:Rd H a (.dK b)):b.length<=ay/\(a==bt)=af/\∃ c,KV b c/\h.DictOf (mixKind P w) a c:=
 show ObjOk P w H h a (.dK b) from rd_of ok e
def dk_of{b:Li (Key×V)}(ok:HOk P w H h)(e:H a=aa (.dK b)):b.length<=ay/\(a==bt)=af/\∃ c,KV b c/\h.DictOf (mixKind P w) a c:=dk_rd ok (.inl e)
variable{h':bp}
variable{y:V}{u:vL}
section
variable{pQ:Li (Ad×Obj)}{O:St}{s:Sd}{v:V}{r:vL}{o:Ot V}{A:bu}{E:vL->Sd->Prop}
def Inv.big(I:Inv X pQ O H s):bt < s.heap.objs.size:=by
 have h:a7 < s.heap.objs.size:=(I.mod.glob.keeps I.bk).lt;exact eH (by decide) h
def d_write{d:Nat}{c:HO}(I:Inv X pQ O H s)(mu:Mut (H a))(f:Heap.SameBut a s.heap h')(g:∃ q,h'.get? a=aa q)(new:ObjOk X.prog X.w (upd H a c) h' a c) :
  Inv X pQ O (upd H a c) { s with heap:=h',toks:=d }:=
 I.write (x:=a) (e:=a) mu (.inl rfl) (λb q h z=>(f.2 b h).trans z) g new
def dk_new{P:bf}{e:Hp}{b:Li (Key×V)}{c:Li (Key×vL)}(z:b.length<=ay)(hd:(a==bt)=af)(d:KV b c)(dd:h'.DictOf (mixKind P w) a c) :
  ObjOk P w e h' a (.dK b):=⟨z,hd,c,d,dd⟩
end
variable{H:Hp}
def dk_empty{P:bf}(h:bp)(a:bt < h.objs.size):ObjOk P w H (h.push { cls:=.type "dict",data:=.dict #[] }) h.objs.size (.dK []):=
 ⟨aU _,dG.mpr (Ne.symm (bC a)),[],.nil,Heap.DictOf.new h⟩
def tPairs:Li (TE×TE)->St->Hp->(Li (V×V)->Hp->Prop)->Prop
 |[],_,H,Q=>Q [] H
 | (b,a) :: r,O,H,Q=>b O H λx f=>a O f λy e=>tPairs r O e λc d=>Q ((x,y) :: c) d
abbrev VV:Li (V×V)->Li (vL×vL)->Prop:=Paired λp q=>RelV p.1 q.1/\RelV p.2 q.2
def PPs(X:Cx)(d:Pos)(b:Li (Ot az))(a:Li az)(c:Li (TE×TE)):Prop:=
 ∀ (pQ:Li (Ad×Obj)) (s:Sd) (O:St) (H:Hp) (Q:Li (V×V)->Hp->Prop),Inv X pQ O H s->tPairs c O H Q->
  a8 (a9 X.prog X.w) X.A (evalPairs (pairTrees b a X.env d)) (λg h=>∃ e f,Inv X pQ O f h/\VV e g/\Q e f) X.xe s
variable{pos:Pos}
def pps_nil:PPs X pos [] [] []:=λa s O H Q I h=>pairTrees_nil_walk ⟨[],H,I,.nil,h⟩
variable{trs:Li (TE×TE)}
def pps_cons{k v:az}{f:Li (Ot az)}{c:Li az}{e d:TE}(r:PE X k e)(p:PE X v d)(q:PPs X pos f c trs) :
  PPs X pos (aa k :: f) (v :: c) ((e,d) :: trs):=λb s O H Q I h=>
 pairTrees_cons_walk (thn (r b s O H _ I h) λu s1 ⟨x,C,z,j,n⟩=>thn (p b s1 O C _ z n) λE g ⟨y,B,w,i,m⟩=>
  thn (q b g O B _ w m) λD F ⟨o,A,t,a,l⟩=>⟨(x,y) :: o,A,t,.cons ⟨j,i⟩ a,l⟩)
def mergeK(a more:Li (Key×V)):Li (Key×V):=more.foldl (λb c=>putK b c.1 c.2) a
def KV.merge:∀ {more:Li (Key×V)}{rs:Li (Key×vL)}{a:Li (Key×V)}{b:Li (Key×vL)},KV more rs->KV a b->KV (mergeK a more) (merged b rs):=by
 intro more rs a b r;unfold KV at r
 induction r generalizing a b with
 |nil=>intro q;exact q
 |@cons p q g f h t d=>
  intro c;have e:KV (putK a p.1 p.2) (stored b q.1 q.2):=by
   have:=c.put p.1 h.2;rw[<-h.1];exact this
  exact d e
theorem length_mergeK:∀ (more a:Li (Key×V)),(mergeK a more).length<=a.length+more.length
 |[],a=>by show a.length<=a.length+0;omega
 |p :: r,a=>by
  have c:=length_mergeK r (putK a p.1 p.2);have b:=length_putK a p.1 p.2;show(mergeK (putK a p.1 p.2) r).length<=_;rw[aY];omega
theorem carries_of{P:bf}{w:bq}:∀ {d:Li (Key×V)}{ws:Li (vL×vL)},VV (d.map λe=>(kV e.1,e.2)) ws->∃ rs,Carries (mixKind P w) ws rs/\KV d rs
 |[],_,r=>by rw[List.map_nil]at r;cases r;exact⟨[],True.intro,.nil⟩
 |p :: d,_,r=>by
  rw[aW]at r;cases r with
  |@cons a b i bs h t=>
   obtain⟨rs,c,q⟩:=carries_of (P:=P) (w:=w) t;obtain⟨g,f⟩:=b;exact⟨(p.1,f) :: rs,⟨kV_is h.1,rfl,c⟩,.cons ⟨rfl,h.2⟩ q⟩
def tDisp(K:Fg)(trs:Li (TE×TE)):TE:=λO H Q=>∀ p,H p=ab->(∀ o,K.lookup p≠aa o)->tPairs trs O (upd H p (.dK [])) λd c=>c p=aa (.dK [])/\∃ a:Li (Key×V),d=a.map (λb=>(kV b.1,b.2))/\a.length<=15/\Q (.ref p) (upd c p (.dK (mergeK [] a)))
def pe_disp{b:Li (Ot az)}{d:Li az}(h:PPs X pos b d trs)(g:b.all (·.isSome)=ae)(y:b.length=d.length)(D:b≠[])(k:b.length<=15):PE X (.Dict b d pos) (tDisp X.K trs):=by
 intro t s O H Q I q;have x:=I.hok.fresh (aB s.heap.objs.size);have F:=I.laid (a:=s.heap.objs.size) (o:=.dK []) (h':=s.heap.push { cls:=.type "dict",data:=.dict #[] }) (t':=s.toks) (λ_ _ q=>aT _ q) (aB _) (dk_empty s.heap I.big)
 refine wpAny_Dict_walk (knd:=mixKind X.prog X.w) g y D k (thn (h t _ O _ _ F (q _ x λo z=>au (aL (I.kIn _ o z)) (cJ _))) λG J ⟨L,M,l,j,e,f,E,lk,r⟩=>?_)
 subst E;obtain⟨rs,c,n⟩:=carries_of (P:=X.prog) (w:=X.w) j;obtain⟨z,B,m,p,dd⟩:=dk_of l.hok e;cases p;refine⟨rs,c,dd,λh' i v=>⟨.ref s.heap.objs.size,_,?_,rfl,r⟩⟩
 have u:(mergeK [] f).length<=ay:=by
  have C:=length_mergeK f [];rw[dJ]at C;rw[sizeLine_eq];omega
 have A:∃ q,h'.get? s.heap.objs.size=aa q:=let ⟨q,_,_,hq,_⟩:=i;⟨q,hq⟩
 exact d_write l (by rw[e];exact True.intro) v A (dk_new u B (n.merge .nil) i)
def rIxD:R2:=λx y H Q=>∃ p a k v,x=.ref p/\y=kV k/\H p=aa (.dK a)/\valV a k=aa v/\Q v H
def ix_dct:IxR X rIxD:=by
 intro a slice t s O H x y v u Q I f e h j;obtain⟨p,g,k,z,rfl,rfl,l,m,q⟩:=h;cases f;obtain⟨n,w,d,c,dd⟩:=dk_of I.hok l;obtain⟨r,i,b⟩:=RelO.some_of (v:=z) (o:=valueAt d k) (by rw[<-m];exact c.val k)
 exact tail_any dd.typeIs PySem.F.slot_dict_getitem.lookup (wpAny_getItem_of (kV_is e) dd.mapOf i ⟨z,H,I.tok _,b,q⟩) j
def rInD:R2:=λx y H Q=>∃ p a k,y=.ref p/\x=kV k/\H p=aa (.dK a)/\Q (.bl (valV a k).isSome) H
def op_in_dct:OpR X (br .In) rInD:=by
 intro j s O H x y v u Q I d c h;obtain⟨p,b,k,rfl,rfl,e,q⟩:=h;cases c;obtain⟨g,f,i,a,dd⟩:=dk_of I.hok e;refine wpAny_in_of (kV_is d) f dd.mapOf ?_;rw[<-(a.val k).isSome_eq];exact⟨.bl (valV b k).isSome,H,I.tok _,rfl,q⟩
section
variable {κ:Type} [DecidableEq κ]
theorem valV_any(k:κ):∀ a:Li (κ×V),(a.any λb=>ak (b.1=k))=(valV a k).isSome
 |[]=>rfl
 |p :: r=>by
  rw[cM];by_cases e:p.1=k
  .simp only[valV_pos e,aE e,Bool.true_or,Option.isSome_some]
  .rw[valV_neg e,aG e,Bool.false_or];exact valV_any k r
end
theorem items_are{P:bf}{w:bq}:∀ {a:Li Key}{us:Li vL},Vals (a.map kV) us->ItemsAre (mixKind P w) a us
 |[],_,r=>by rw[List.map_nil]at r;cases r;exact .nil
 |k :: a,_,r=>by
  rw[aW]at r;cases r with
  |cons h t=>exact .cons (kV_is h) (items_are t)
abbrev KTp(H:Hp):Li (Li Key×V)->Li (Li Key×Ad×vL)->Prop:=Paired λp q=>p.1=q.1/\H q.2.1=aa (.tup (p.1.map kV))/\RelV p.2 q.2.2
variable{kvs:Li (Li Key×V)}{xs:Li (Li Key×Ad×vL)}
def KTp.val(r:KTp H kvs xs)(k:Li Key):RelO (valV kvs k) ((atKey xs k).map (·.2)):=by
 induction r with
 |nil=>exact True.intro
 |@cons p q i a h t f=>
  obtain⟨d,_,g⟩:=h;by_cases e:p.1=k
  .have c:q.1=k:=d.symm.trans e
   have b:atKey (q :: a) k=aa q.2:=by simp[atKey,dI,c]
   rw[valV_pos e,b];exact g
  .have c:¬q.1=k:=λz=>e (d.trans z)
   have b:atKey (q :: a) k=atKey a k:=by simp[atKey,dI,c]
   rw[valV_neg e,b];exact f
def KTp.repl(r:KTp H kvs xs)(k:Li Key)(d:RelV y u) :
  KTp H (kvs.map λb=>if b.1=k then (b.1,y) else b) (xs.map (putAt k u)):=by
 induction r with
 |nil=>exact .nil
 |@cons p q j i h t f=>
  rw[aW,aW];refine .cons ?_ f;obtain⟨a,c,g⟩:=h;unfold putAt;by_cases e:p.1=k
  .rw[aq e,aq (a.symm.trans e)];exact⟨a,c,d⟩
  .rw[ar e,ar (λz=>e (a.trans z))];exact⟨a,c,g⟩
def KTp.put(r:KTp H kvs xs)(k:Li Key){b:Ad}(d:H b=aa (.tup (k.map kV)))(a:RelV y u) :
  KTp H (putK kvs k y) (storedH xs k b u):=by
 have e:(kvs.any λc=>ak (c.1=k))=(atKey xs k).isSome:=by
  rw[valV_any,(r.val k).isSome_eq,Option.isSome_map]
 unfold putK storedH;rw[e];by_cases q:(atKey xs k).isSome=ae
 .rw[aq q,aq q];exact r.repl k a
 .rw[ar q,ar q];exact Paired.snoc r ⟨rfl,d,a⟩
def KTp.keeps{c:Hp}(r:KTp H kvs xs)(d:∀ b a,H b=aa (.tup a)->c b=aa (.tup a)):KTp c kvs xs:=
 Paired.mapP r λ_ _ z=>⟨z.1,d _ _ z.2.1,z.2.2⟩
variable{ks:Li Key}
def key_at{b:Li vL}(r:Vals (ks.map kV) b)(t:IsTup h a b.toArray):(tupleKind (mixKind P w)).is h ks a:=by
 obtain⟨o,e,d,n,c⟩:=t;exact⟨o,b.toArray,n,e,d,c,by simpa using items_are r⟩
def key_of(ok:HOk P w H h)(e:H a=aa (.tup (ks.map kV))):(tupleKind (mixKind P w)).is h ks a:=by
 obtain⟨_,b,r,o,f,d,n,c⟩:=(show ObjOk P w H h a (.tup (ks.map kV)) from ok a _ e);exact⟨o,b.toArray,n,f,d,c,by simpa using items_are r⟩
def dt_rd(ok:HOk P w H h)(e:Rd H a (.dT kvs)):kvs.length<=ay/\(a==bt)=af /\
  ∃ xs,KTp H kvs xs/\h.DictOfH (tupleKind (mixKind P w)) a xs:=by
 obtain⟨z,y,xs,r,o,k,n,j,i,g,f,d⟩:=(show ObjOk P w H h a (.dT kvs) from rd_of ok e);refine⟨z,y,xs,r,o,k,n,j,i,g,f,λx hx=>?_,d⟩
 have all:∀ {l:Li (Li Key×V)}{m:Li (Li Key×Ad×vL)},KTp H l m->∀ x∈m,(tupleKind (mixKind P w)).is h x.1 x.2.1:=by
  intro l m q
  induction q with
  |nil=>intro x hx;exact nomatch hx
  |@cons p q u s b t c=>
   intro x hx;rcases aK.mp hx with e|hx
   .subst e
    exact key_of ok (by rw[<-b.1];exact b.2.1)
   .exact c x hx
 exact all r x hx
def dt_of(ok:HOk P w H h)(e:H a=aa (.dT kvs)):kvs.length<=ay/\(a==bt)=af /\
  ∃ xs,KTp H kvs xs/\h.DictOfH (tupleKind (mixKind P w)) a xs:=dt_rd ok (.inl e)
def dt_empty{P:bf}(h:bp)(a:bt < h.objs.size):ObjOk P w H (h.push { cls:=.type "dict",data:=.dict #[] }) h.objs.size (.dT []):=
 ⟨aU _,dG.mpr (Ne.symm (bC a)),[],.nil,_,#[],0,bO _ rfl,⟨rfl,rfl,rfl⟩,rfl,rfl,List.nodup_nil⟩
def tDNewT(K:Fg):TE:=λ_ H Q=>∀ p,H p=ab->(∀ o,K.lookup p≠aa o)->Q (.ref p) (upd H p (.dT []))
def pe_dnewT:PE X (.Dict [] [] pos) (tDNewT X.K):=λb s O H Q I h=>
 wpAny_Dict_empty ⟨.ref s.heap.objs.size,_,I.laid (a:=s.heap.objs.size) (o:=.dT []) (t':=s.toks) (λ_ _ q=>aT _ q) (aB _) (dt_empty s.heap I.big),rfl,h _ (I.hok.fresh (aB _)) λo z=>au (aL (I.kIn _ o z)) (cJ _)⟩
def rSetT:V->V->V->Hp->(Hp->Prop)->Prop:=λo i v H Q=>∃ p b kvs k,o=.ref p/\i=.ref b/\H p=aa (.dT kvs)/\H b=aa (.tup (k.map kV))/\kvs.length < ay/\Q (upd H p (.dT (putK kvs k v)))
def set_dT(hu:X.A.units+1 < cLine):PSet X rSetT:=by
 intro K s O H o i v L M u Q I p r rv h;obtain⟨a,b,kvs,k,rfl,rfl,e,n,l,q⟩:=h;cases p;cases r;obtain⟨z,y,xs,d,dd⟩:=dt_of I.hok e;have t:xs.length<=ay:=by rw[<-Paired.length d];exact z
 have x:(putK kvs k v).length<=ay:=by have:=length_putK kvs k v;omega
 refine wpAny_setItem_heap (hsz:=t) (tupleKind_room_in1 hu) (key_of I.hok n) dd λh' f w=>?_
 obtain⟨g,F,G,j,E,D,C,_,B⟩:=f;refine⟨upd H a (.dT (putK kvs k v)),d_write I (by rw[e];exact True.intro) w ⟨g,j⟩ ⟨x,y,_,(d.put k n rv).keeps λc J m=>?_,g,F,G,j,E,D,C,B⟩,q⟩
 rw[upd_ne (ne_of m e (λz=>nomatch z))]
 exact m
def rIxdT(K:Fg):R2:=λx y H Q=>∃ p b kvs k v,x=.ref p/\y=.ref b/\SqT K H b (k.map kV)/\H p=aa (.dT kvs)/\valV kvs k=aa v/\Q v H
def ix_dT(hu:X.A.units+1 < cLine):IxR X (rIxdT X.K):=by
 intro a slice E s O H x y v u Q I i g h n;obtain⟨p,b,kvs,k,z,rfl,rfl,B,r,w,q⟩:=h;cases i;cases g;obtain⟨C,J,xs,d,dd⟩:=dt_of I.hok r;obtain⟨l,j,f,_⟩:=I.tuple B;obtain⟨D,m,c⟩:=RelO.some_of (v:=z) (o:=(atKey xs k).map (·.2)) (by rw[<-w];exact d.val k)
 obtain⟨G,t,e⟩:=eI.mp m;refine tail_any dd.typeIs PySem.F.slot_dict_getitem.lookup (wpAny_getItem_heap (tupleKind_room_in1 hu) (key_at j f) dd t ?_) n;rw[e];exact⟨z,H,I.tok _,c,q⟩
def in_dT(hu:X.A.units+1 < cLine){c:Li (Ad×Obj)}{O:St}{s:Sd}{p b:Ad}{k:Li Key}{Q:VK}(I:Inv X c O H s)(i:H p=aa (.dT kvs))(j:SqT X.K H b (k.map kV)) :
  (Q (.bl (valV kvs k).isSome) H->a8 (a9 X.prog X.w) X.A (br .In (.ref b) (.ref p)) (EP X c O Q) X.xe s)/\(Q (.bl (!(valV kvs k).isSome)) H->a8 (a9 X.prog X.w) X.A (br .NotIn (.ref b) (.ref p)) (EP X c O Q) X.xe s):=by
 obtain⟨l,g,xs,a,dd⟩:=dt_of I.hok i;obtain⟨h,f,d,_⟩:=I.tuple j;have e:=(a.val k).isSome_eq;rw[Option.isSome_map]at e;rw[e];exact⟨λq=>wpAny_in_heap (tupleKind_room_in1 hu) (key_at f d) g dd ⟨.bl _,H,I.tok _,rfl,q⟩,λq=>wpAny_notIn_heap (tupleKind_room_in1 hu) (key_at f d) g dd ⟨.bl _,H,I.tok _,rfl,q⟩⟩
end L2
namespace LS
open PySem PyProof.Rows
noncomputable def gallop':Bool->Keyed->Array Keyed->Nat->Nat->Nat->StateT SortSt Sem (Ot Nat):=sortPriv% PySem.Builtin.gallop
noncomputable def mergeLo':Array Keyed->Array Keyed->StateT SortSt Sem (Array Keyed):=sortPriv% PySem.Builtin.mergeLo
noncomputable def mergeHi':Array Keyed->Array Keyed->StateT SortSt Sem (Array Keyed):=sortPriv% PySem.Builtin.mergeHi
noncomputable def setG':Nat->StateT SortSt Sem Unit:=sortPriv% PySem.Builtin.setMinGallop
variable{M:Model}{l arr:Li Nat}{i x j y key base m hint k:Nat}{Q:Ot Bool->SortSt->Prop}{left:Bool}
variable{prog:bf}{w:bq}{A:bu}{E:vL->Sd->Prop}{s:Sd}{κ:SortKind}{g:Nat->Keyed}{φ:Nat->Int}{n:Nat}
section
def wpS_set{O:Type}{b a:O}{Q:PUnit->O->Prop}(h:Q ⟨⟩ a):wpS M A E s (set a:StateT O Sem PUnit) Q b:=by
 unfold wpS;rw[StateT.run_set];exact aF ⟨rfl,h⟩
noncomputable def im(g:Nat->Keyed)(l:Li Nat):Array Keyed:=(l.map g).toArray
def im_get(h:l[i]?=aa x):(im g l)[i]?=aa (g x):=by
 unfold im;simp[h]
def im_size(l:Li Nat):(im g l).size=l.length:=by simp[im]
structure Or(prog:bf)(w:bq)(A:bu)(s:Shared)(κ:SortKind)(g:Nat->Keyed)(φ:Nat->Int)(n:Nat):Prop where
 ask:∀ i j,i < n->j < n->∀ C:Bool->Shared->Prop,C (ak (φ i < φ j)) s->a8 (a9 prog w) A (keyLt' κ (g i).1 (g j).1) C (λ_ _=>False) s
noncomputable def St(κ:SortKind)(a:Array Keyed)(b:Array (Nat×Nat×Nat))(m:Nat):SortSt:=SortSt.mk' κ a b m ab
variable (Oo:Or prog w A s κ g φ n) {a:Array Keyed}{pe:Array (Nat×Nat×Nat)}{mg:Nat}
include Oo
def w_lt(f:i < n)(e:j < n)(h:Q (aa (ak (φ i < φ j))) (St κ a pe mg)):wpS (a9 prog w) A E s (lt' (g i) (g j)) Q (St κ a pe mg):=by
 rw[lt'_eq];refine wpS_bind (wpS_get ?_);refine wpS_bind (wpS_lift (wpAny_attempt (bS (Oo.ask i j f e (λb c=>b=ak (φ i < φ j)/\c=s) ⟨rfl,rfl⟩) (λb c d=>?_) λ_ _ x=>x.elim)))
 obtain⟨rfl,rfl⟩:=d;exact⟨rfl,wpS_pure h⟩
omit Oo in
def w_el{M:Model}{a:SortSt}{arr:Array Keyed}{i:Nat}{x:Keyed}{Q:Keyed->SortSt->Prop}(b:arr[i]?=aa x)(h:Q x a):wpS M A E s (elem' arr i) Q a:=by
 rw[elem'_eq,b];exact wpS_pure h
def w_ltAt(d:l[i]?=aa x)(c:l[j]?=aa y)(b:x < n)(a:y < n)(h:Q (aa (ak (φ x < φ y))) (St κ (im g l) pe mg)):wpS (a9 prog w) A E s (ltAt' i j) Q (St κ (im g l) pe mg):=by
 rw[ltAt'_eq];exact wpS_bind (wpS_get (wpS_bind (w_el (im_get d) (wpS_bind (w_el (im_get c) (w_lt Oo b a h))))))
def w_bey{b:Bool}(c:key < n)(e:arr[i]?=aa x)(d:x < n)(f:(if left=ae then ak (φ x < φ key) else !decide (φ key < φ x))=b)(h:Q (aa b) (St κ a pe mg)) :
  wpS (a9 prog w) A E s (do let x <-elem' (im g arr) i;if left=ae then lt' x (g key) else do let r <-lt' (g key) x;pure (r.map (!·))) Q (St κ a pe mg):=by
 refine wpS_bind (w_el (im_get e) ?_);cases left with
 |true=>exact w_lt Oo d c (by rw[<-f]at h;exact h)
 |false=>exact wpS_bind (w_lt Oo c d (wpS_pure (by rw[<-f]at h;exact h)))
def gallop_ok{Q:Ot Nat->SortSt->Prop}(J:hint < m)(M:k<=m)(G:key < n)(L:∀ i,i < m->∃ x,arr[base+i]?=aa x/\x < n/\(if left=ae then ak (φ x < φ key) else !decide (φ key < φ x))=ak (i < k))(h:Q (aa k) (St κ a pe mg)) :
  wpS (a9 prog w) A E s (gallop' left (g key) (im g arr) base m hint) Q (St κ a pe mg):=by
 have v:∀ {i:Nat}{Q:Ot Bool->SortSt->Prop},i < m->Q (aa (ak (i < k))) (St κ a pe mg)->wpS (a9 prog w) A E s (do let x <-elem' (im g arr) (base+i);if left=ae then lt' x (g key) else do let r <-lt' (g key) x;pure (r.map (!·))) Q (St κ a pe mg):=λd H=>
  let ⟨x,e,hx,hb⟩:=L _ d
  w_bey Oo G e hx hb H
 refine wpS_bind ?_;dsimp only;refine v J ?_;have j:∀ {lo d:Nat},lo<=k->k<=d->d<=m->∀ (f:Nat->Ot (Ot Nat)×Nat×Nat->StateT SortSt Sem (ForInStep (Ot (Ot Nat)×Nat×Nat))),
   (∀ i lo d,f i (ab,lo,d)=if lo>=d then pure (.done (ab,lo,d)) else do
    let x <-(do let x <-elem' (im g arr) (base+(lo+(d - lo) / 2));if left=ae then lt' x (g key) else do let r <-lt' (g key) x;pure (r.map (!·)))
    match x with
    |some more=>if more=ae then pure (.yield (ab,lo+(d - lo) / 2+1,d)) else pure (.yield (ab,lo,lo+(d - lo) / 2))
    |_=>pure (.done (aa ab,lo,d)))->
   ∀ (c:Ot (Ot Nat)×Nat×Nat->StateT SortSt Sem (Ot Nat)),(c (ab,k,k)=pure (aa k))->
   wpS (a9 prog w) A E s (forIn [:m] ((ab,lo,d):Ot (Ot Nat)×Nat×Nat) f >>= c) Q (St κ a pe mg):=by
  intro lo d y u C f K c D;refine wpS_bind (wpS_forRange (I:=λi b p=>p=St κ a pe mg/\∃ lo d,b=(ab,lo,d)/\lo<=k/\k<=d/\d<=m/\(d - lo+i<=m)) (λi b p _ B t=>?_) (λb p t=>?_) ⟨rfl,lo,d,rfl,y,u,C,by omega⟩)
  .obtain⟨rfl,lo,d,rfl,y,u,C,F⟩:=t
   rw[K];by_cases q:lo>=d
   .rw[aq q]
    obtain⟨rfl,rfl⟩:lo=k/\d=k:=by omega
    exact wpS_pure (by show wpS _ _ _ _ (c _) _ _;rw[D];exact wpS_pure h)
   .rw[ar q]
    refine wpS_bind (v (by omega) ?_)
    by_cases r:lo+(d - lo) / 2 < k
    .rw[aE r]
     exact wpS_pure ⟨rfl,_,_,rfl,by omega,u,C,by omega⟩
    .rw[aG r]
     exact wpS_pure ⟨rfl,_,_,rfl,y,by omega,by omega,by omega⟩
  .obtain⟨rfl,lo,d,rfl,y,u,C,F⟩:=t
   rw[cG (aU m)]at F;obtain⟨rfl,rfl⟩:lo=k/\d=k:=by omega
   rw[D];exact wpS_pure h
 by_cases q:hint < k
 .rw[aE q]
  refine wpS_bind (wpS_forRange (I:=λi b p=>p=St κ a pe mg/\∃ l o,b=(ab,l,o)/\hint+l < k/\i < o) (λi b p _ B t=>?_) (λb p t=>?_) ⟨rfl,0,1,rfl,by omega,by omega⟩)
  .obtain⟨rfl,l,o,rfl,y,u⟩:=t
   by_cases r:o>=m - hint
   .rw[aq r]
    exact wpS_pure (j (by show hint+l+1<=k;omega) (by show k<=hint+min o (m - hint);omega) (by show hint+min o (m - hint)<=m;omega) _ (λ_ _ _=>rfl) _ rfl)
   .rw[ar r]
    refine wpS_bind (v (by show hint+o < m;omega) ?_)
    by_cases z:hint+o < k
    .rw[aE z]
     exact wpS_pure ⟨rfl,_,_,rfl,z,by show i+1 < 2 * o+1;omega⟩
    .rw[aG z]
     exact wpS_pure (j (by show hint+l+1<=k;omega) (by show k<=hint+min o (m - hint);omega) (by show hint+min o (m - hint)<=m;omega) _ (λ_ _ _=>rfl) _ rfl)
  .obtain⟨rfl,l,o,rfl,y,u⟩:=t
   rw[cG (aU m)]at u;exact j (by show hint+l+1<=k;omega) (by show k<=hint+min o (m - hint);omega) (by show hint+min o (m - hint)<=m;omega) _ (λ_ _ _=>rfl) _ rfl
 .rw[aG q]
  refine wpS_bind (wpS_forRange (I:=λi b p=>p=St κ a pe mg/\∃ l o,b=(ab,l,o)/\k+l<=hint/\i < o) (λi b p _ B t=>?_) (λb p t=>?_) ⟨rfl,0,1,rfl,by omega,by omega⟩)
  .obtain⟨rfl,l,o,rfl,y,u⟩:=t
   by_cases r:o>=hint+1
   .rw[aq r]
    exact wpS_pure (j (by show hint+1 - min o (hint+1)<=k;omega) (by show k<=hint - l;omega) (by show hint - l<=m;omega) _ (λ_ _ _=>rfl) _ rfl)
   .rw[ar r]
    refine wpS_bind (v (by show hint - o < m;omega) ?_)
    by_cases z:hint - o < k
    .rw[aE z]
     exact wpS_pure (j (by show hint+1 - min o (hint+1)<=k;omega) (by show k<=hint - l;omega) (by show hint - l<=m;omega) _ (λ_ _ _=>rfl) _ rfl)
    .rw[aG z]
     exact wpS_pure ⟨rfl,_,_,rfl,by show k+o<=hint;omega,by show i+1 < 2 * o+1;omega⟩
  .obtain⟨rfl,l,o,rfl,y,u⟩:=t
   rw[cG (aU m)]at u;exact j (by show hint+1 - min o (hint+1)<=k;omega) (by show k<=hint - l;omega) (by show hint - l<=m;omega) _ (λ_ _ _=>rfl) _ rfl
end
variable{W o L Z:Li Nat}
section
def Srt(φ:Nat->Int)(l:Li Nat):Prop:=l.Pairwise λi j=>φ i < φ j
def Srt.app{l m:Li Nat}(h:Srt φ (l++m)):Srt φ l/\Srt φ m/\∀ x∈l,∀ y∈m,φ x < φ y:=eJ.mp h
def Srt.mk{l m:Li Nat}(h:Srt φ l)(b:Srt φ m)(a:∀ x∈l,∀ y∈m,φ x < φ y):Srt φ (l++m):=eJ.mpr ⟨h,b,a⟩
theorem Srt.drop(h:Srt φ l)(k:Nat):Srt φ (l.drop k):=List.Pairwise.sublist (List.drop_sublist k l) h
theorem Srt.take(h:Srt φ l)(k:Nat):Srt φ (l.take k):=List.Pairwise.sublist (List.take_sublist k l) h
def Fr(φ:Nat->Int)(W o L:Li Nat):Prop:=∀ R,Srt φ R->R.Perm L->Srt φ (o++R)/\(o++R).Perm W
def Fb(φ:Nat->Int)(W o L:Li Nat):Prop:=∀ R,Srt φ R->R.Perm L->Srt φ (R++o)/\(R++o).Perm W
def Fr.step{c a:Li Nat}(h:Fr φ W o L)(p:L.Perm (c++a))(sc:Srt φ c)(lt:∀ x∈c,∀ y∈a,φ x < φ y):Fr φ W (o++c) a:=λR f b=>by
 rw[aM];exact h (c++R) (sc.mk f λx e y d=>lt x e y (b.mem_iff.mp d)) ((b.append_left c).trans p.symm)
def Fb.step{c a:Li Nat}(h:Fb φ W o L)(p:L.Perm (a++c))(sc:Srt φ c)(lt:∀ x∈c,∀ y∈a,φ y < φ x):Fb φ W (c++o) a:=λR f b=>by
 rw[<-aM];exact h (R++c) (f.mk sc λx e y d=>lt y d x (b.mem_iff.mp e)) ((b.append_right c).trans p.symm)
def Fr.a{X Y:Li Nat}(k:Nat)(h:Fr φ W o (X++Y))(b:Srt φ X)(lt:∀ x∈X.take k,∀ y∈Y,φ x < φ y):Fr φ W (o++X.take k) (X.drop k++Y):=by
 refine h.step ?_ (b.take k) λx c y hy=>?_
 .rw[<-aM,bB]
 .rcases bE.mp hy with hy|hy
  .rw[<-bB k X]at b;exact b.app.2.2 x c y hy
  .exact lt x c y hy
def Fr.b{X Y:Li Nat}(k:Nat)(h:Fr φ W o (X++Y))(a:Srt φ Y)(lt:∀ y∈Y.take k,∀ x∈X,φ y < φ x):Fr φ W (o++Y.take k) (X++Y.drop k):=by
 refine h.step ?_ (a.take k) λx c y hy=>?_
 .rw[<-aM]
  have p:=(fA (l₁:=X) (l₂:=Y.take k)).append_right (Y.drop k);rw[aM,bB]at p;exact p
 .rcases bE.mp hy with hy|hy
  .exact lt x c y hy
  .rw[<-bB k Y]at a;exact a.app.2.2 x c y hy
def Fb.a{X Y:Li Nat}(k:Nat)(h:Fb φ W o (X++Y))(b:Srt φ X)(lt:∀ x∈X.drop k,∀ y∈Y,φ y < φ x):Fb φ W (X.drop k++o) (X.take k++Y):=by
 refine h.step ?_ (b.drop k) λx c y hy=>?_
 .have p:=(fA (l₁:=X.drop k) (l₂:=Y)).append_left (X.take k)
  rw[<-aM,bB,<-aM]at p;exact p
 .rcases bE.mp hy with hy|hy
  .rw[<-bB k X]at b;exact b.app.2.2 y hy x c
  .exact lt x c y hy
def Fb.b{X Y:Li Nat}(k:Nat)(h:Fb φ W o (X++Y))(a:Srt φ Y)(lt:∀ y∈Y.drop k,∀ x∈X,φ x < φ y):Fb φ W (Y.drop k++o) (X++Y.take k):=by
 refine h.step ?_ (a.drop k) λx c y hy=>?_
 .rw[aM,bB]
 .rcases bE.mp hy with hy|hy
  .exact lt x c y hy
  .rw[<-bB k Y]at a;exact a.app.2.2 y hy x c
theorem cut{v:Int}:∀ {L:Li Nat},Srt φ L->∃ k,k<=L.length/\∀ i x,L[i]?=aa x->(φ x < v↔i < k)
 |[],_=>⟨0,aB 0,λi x h=>nomatch h⟩
 |y :: L,h=>by
  obtain⟨b,f⟩:=List.pairwise_cons.mp h;obtain⟨k,c,d⟩:=cut f;by_cases q:φ y < v
  .refine⟨k+1,Nat.succ_le_succ c,λi x e=>?_⟩
   cases i with
   |zero=>cases e;exact⟨λ_=>Nat.succ_pos k,λ_=>q⟩
   |succ i=>rw[d i x e];omega
  .refine⟨0,aU _,λi x e=>⟨λa=>?_,λa=>nomatch a⟩⟩
   cases i with
   |zero=>cases e;exact au a q
   |succ i=>have:=b x (aV e);omega
def mem_take(h:x∈L.take k):∃ i,i < k/\L[i]?=aa x:=by
 obtain⟨i,a⟩:=dC.mp h;rw[cH]at a;split at a
 .exact⟨i,by assumption,a⟩
 .exact nomatch a
def mem_drop(h:x∈L.drop k):∃ i,k<=i/\L[i]?=aa x:=by
 obtain⟨i,a⟩:=dC.mp h;rw[dL]at a;exact⟨k+i,bU _ _,a⟩
def im_app(l m:Li Nat):im g l++im g m=im g (l++m):=by simp[im]
def im_push(l:Li Nat)(x:Nat):(im g l).push (g x)=im g (l++[x]):=by simp[im]
def im_ext(l:Li Nat)(i j:Nat):(im g l).extract i j=im g ((l.take j).drop i):=by
 apply Array.toList_inj.mp
 simp[im,List.drop_take]
def im_cut(l:Li Nat)(i k:Nat):(im g l).extract i (i+k)=im g ((l.drop i).take k):=by
 rw[im_ext,List.drop_take,cN]
def im_rev(l:Li Nat):(im g l).reverse=im g l.reverse:=by simp[im]
def take_one(h:L[i]?=aa x):(L.drop i).take 1=[x]:=by
 obtain⟨a,rfl⟩:=bF.mp h;rw[bV a];rfl
variable (Oo:Or prog w A s κ g φ n) {a:Array Keyed}{pe:Array (Nat×Nat×Nat)}{mg:Nat}
include Oo
def gal{L:Li Nat}{Q:Ot Nat->SortSt->Prop}(u:hint < m)(j:L.length=m)(y:∀ i,i < m->Z[base+i]?=L[i]?)(t:key < n)(r:Srt φ L)(o:∀ x∈L,x < n/\φ x≠φ key)(h:∀ k,k<=m->(∀ x∈L.take k,φ x < φ key)->(∀ x∈L.drop k,φ key < φ x)->Q (aa k) (St κ a pe mg)) :
  wpS (a9 prog w) A E s (gallop' left (g key) (im g Z) base m hint) Q (St κ a pe mg):=by
 obtain⟨k,p,l⟩:=cut (v:=φ key) r;refine gallop_ok Oo u (j ▸ p) t (λi d=>?_) (h k (j ▸ p) (λx f=>?_) λx f=>?_)
 .have b:i < L.length:=j ▸ d
  have e:L[i]?=aa L[i]:=Lg b;refine⟨L[i],(y i d).trans e,(o _ (bH b)).1,?_⟩;have ne:=(o _ (bH b)).2;have c:=l i _ e;cases left with
  |true=>exact decide_eq_decide.mpr c
  |false=>
   show(!decide _)=_;rw[<-decide_not];exact decide_eq_decide.mpr ⟨λh=>c.mp (by omega),λh=>by have:=c.mpr h;omega⟩
 .obtain⟨i,d,e⟩:=mem_take f
  exact(l i x e).mpr d
 .obtain⟨i,d,e⟩:=mem_drop f
  have c:=l i x e;have ne:=(o x (aV e)).2;rcases Int.lt_or_gt_of_ne ne with q|q
  .have:=c.mp q;omega
  .exact q
end
section
variable (Oo:Or prog w A s κ g φ n) {a:Array Keyed}{pe:Array (Nat×Nat×Nat)}{mg:Nat}
omit Oo in
def w_set{M:Model}{m:Nat}{Q:Unit->SortSt->Prop}(h:Q () (St κ a pe m)):wpS M A E s (setG' m) Q (St κ a pe mg):=wpS_modify h
omit Oo in
def w_post{M:Model}{d:Type}{m:StateT SortSt Sem (ForInStep d)}{D Y:d->SortSt->Prop}{a:SortSt}(h:∀ P:ForInStep d->SortSt->Prop,(∀ b a,D b a->P (.done b) a)->(∀ b a,Y b a->P (.yield b) a)->wpS M A E s m P a) :
  wpS M A E s m (λr c=>match r with|.done b=>D b c|.yield b=>Y b c) a:=h _ (λ_ _=>id) λ_ _=>id
omit Oo in
def w_ite{M:Model}{a:Type}{c:Prop}[Decidable c]{jp:Unit->Nat->StateT SortSt Sem a}{x y:Nat}{P:a->SortSt->Prop}{b:SortSt}(h:∀ x,wpS M A E s (jp () x) P b):wpS M A E s (if c then jp () x else jp () y) P b:=by
 split
 .exact h x
 .exact h y
omit Oo in
def mn{Z:Li Nat}{u x:Nat}(a:Srt φ Z)(e:Z[u]?=aa x):∀ y∈Z.drop u,φ x<=φ y:=λy hy=>by
 have d:=a.drop u;obtain⟨b,rfl⟩:=bF.mp e;rw[bV b]at d hy;rcases aK.mp hy with rfl|hy
 .exact Int.le_refl _
 .exact Int.le_of_lt ((List.pairwise_cons.mp d).1 y hy)
inductive Mg1(κ:SortKind)(a:Array Keyed)(pe:Array (Nat×Nat×Nat))(g:Nat->Keyed)(P:List Nat->Nat->Nat->Prop):Nat->Option (Array Keyed)×Array Keyed×Nat×Nat×Nat->SortSt->Prop
 |mk (m:Nat) {i u v G:Nat}{z:Array Keyed}{o:List Nat} (e:z=im g o) (p:P o u v) (hc:i+1<=u+v):Mg1 κ a pe g P i (ab,z,u,v,G) (St κ a pe m)
inductive Mg2(κ:SortKind)(a:Array Keyed)(pe:Array (Nat×Nat×Nat))(g:Nat->Keyed)(P:List Nat->Nat->Nat->Prop)(N:Nat):Option (Array Keyed)×Array Keyed×Nat×Nat×Nat×Nat->SortSt->Prop
 |mk (m:Nat) {u v c d:Nat}{z:Array Keyed}{o:List Nat} (e:z=im g o) (p:P o u v) (hc:N<=u+v):Mg2 κ a pe g P N (ab,z,u,v,c,d) (St κ a pe m)
inductive Mg3(κ:SortKind)(a:Array Keyed)(pe:Array (Nat×Nat×Nat))(g:Nat->Keyed)(P:List Nat->Nat->Nat->Prop)(N:Nat):Option (Array Keyed)×Array Keyed×Nat×Nat×Nat×Nat×Nat->SortSt->Prop
 |mk (m:Nat) {u v G c d:Nat}{z:Array Keyed}{o:List Nat} (e:z=im g o) (p:P o u v) (hc:N<=u+v):Mg3 κ a pe g P N (ab,z,u,v,G,c,d) (St κ a pe m)
inductive Maf{β:Type}(κ:SortKind)(a:Array Keyed)(pe:Array (Nat×Nat×Nat))(Q:Array Keyed->SortSt->Prop)(I:Option (Array Keyed)×β->SortSt->Prop):Option (Array Keyed)×β->SortSt->Prop
 |ret {m:Nat}{R:Array Keyed}{c:β} (h:Q R (St κ a pe m)):Maf κ a pe Q I (aa R,c) (St κ a pe m)
 |go {b:Option (Array Keyed)×β}{st:SortSt} (h:I b st):Maf κ a pe Q I b st
structure Pl(φ:Nat->Int)(X Y:List Nat)(o:List Nat)(u v:Nat):Prop where
 f:Fr φ (X++Y) o (X.drop u++Y.drop v)
 hu:u+1 < X.length
 hv:v < Y.length
omit Oo in
def w_if{M:Model}{b:Type}{c:Prop}[Decidable c]{x y:StateT SortSt Sem b}{P:b->SortSt->Prop}{a:SortSt}(h:wpS M A E s x P a)(d:wpS M A E s y P a):wpS M A E s (if c then x else y) P a:=by
 split
 .exact h
 .exact d
omit Oo in
def w_beq{M:Model}{b:Type}{i j:Nat}{x y:StateT SortSt Sem b}{P:b->SortSt->Prop}{a:SortSt}(h:i=j->wpS M A E s x P a)(c:i≠j->wpS M A E s y P a):wpS M A E s (if (i==j)=ae then x else y) P a:=by
 split
 .exact h (beq_iff_eq.mp ‹_›)
 .rename_i q;exact c λe=>q (beq_iff_eq.mpr e)
omit Oo in
def w_gt{M:Model}{b:Type}{i j:Nat}{x y:StateT SortSt Sem b}{P:b->SortSt->Prop}{a:SortSt}(h:i > j->wpS M A E s x P a)(c:¬i > j->wpS M A E s y P a):wpS M A E s (if i > j then x else y) P a:=by
 split
 .exact h ‹_›
 .exact c ‹_›
omit Oo in
def gtE{L:Li Nat}{i:Nat}{P:Prop}(d:∀ x∈L,x < n)(a:i < L.length)(h:∀ x,L[i]?=aa x->x < n->x∈L->P):P:=h _ (Lg a) (d _ (bH a)) (bH a)
omit Oo in
def im_p{z:Array Keyed}{o:Li Nat}{x:Nat}(e:z=im g o):z.push (g x)=im g (o++[x]):=by rw[e,im_push]
omit Oo in
def im_c{z:Array Keyed}{o L:Li Nat}{i k:Nat}(e:z=im g o):z++(im g L).extract i (i+k)=im g (o++(L.drop i).take k):=by rw[e,im_cut,im_app]
include Oo
def mergeLo_ok{X Y:Li Nat}{Q:Array Keyed->SortSt->Prop}(hX:0 < X.length)(hY:0 < Y.length)(W:Srt φ X)(T:Srt φ Y)(dX:∀ x∈X,x < n)(dY:∀ y∈Y,y < n)(ne:∀ x∈X,∀ y∈Y,φ x≠φ y)(p1:∀ x∈X,∀ y∈Y.take 1,φ y < φ x)(p2:∀ x∈X.drop (X.length - 1),∀ y∈Y,φ y < φ x)(h:∀ R m,Srt φ R->R.Perm (X++Y)->Q (im g R) (St κ a pe m)) :
  wpS (a9 prog w) A E s (mergeLo' (im g X) (im g Y)) Q (St κ a pe mg):=by
 refine wpS_bind (wpS_lift (wpAny_rule ⟨rfl,?_⟩))
 extract_lets -underBinder total done lastA ia ib
 have F:(im g X).size=X.length:=im_size X;have K:(im g Y).size=Y.length:=im_size Y;have fd:∀ {o:Li Nat}{z:Array Keyed}{i j m:Nat},z=im g o->Fr φ (X++Y) o (X.drop i++Y.drop j)->j=(im g Y).size->Q (done z i j) (St κ a pe m):=λ{o z i j m} Z hf e=>by
  subst Z;rw[K]at e;subst e;have r:=hf _ ((W.drop i).mk (T.drop Y.length) (λx _ y H=>by rw[fB]at H;exact nomatch H)) (List.Perm.refl _)
  show Q (im g o++(im g X).extract i (im g X).size++(im g Y).extract Y.length (im g Y).size) _;rw[F,K,im_ext,im_ext,cP,cP,im_app,im_app,aM];exact h _ m r.1 r.2
 have fl:∀ {o:Li Nat}{z:Array Keyed}{i j m:Nat},z=im g o->Fr φ (X++Y) o (X.drop i++Y.drop j)->i+1=(im g X).size->Q (lastA z i j) (St κ a pe m):=λ{o z i j m} Z hf e=>by
  subst Z;rw[F]at e;have r:=hf _ ((T.drop j).mk (W.drop i) (λy H x hx=>p2 x (by rw[<-e];exact hx) y (cV H))) fA
  show Q (im g o++(im g Y).extract j (im g Y).size++(im g X).extract i (im g X).size) _;rw[F,K,im_ext,im_ext,cP,cP,im_app,im_app,aM];exact h _ m r.1 r.2
 clear_value done lastA
 have hT:total=X.length+Y.length:=by show(im g X).size+(im g Y).size=_;rw[F,K]
 refine gtE dY hY λy0 ey0 ny0 my0=>wpS_bind (w_el (im_get ey0) ?_)
 extract_lets -underBinder out
 have e0:out=im g [y0]:=im_push [] y0;have f0:Fr φ (X++Y) [y0] (X.drop 0++Y.drop 1):=by
  have i0:Fr φ (X++Y) [] (X++Y):=λR hR pR=>⟨hR,pR⟩
  have r:=i0.b 1 T (λy H x hx=>p1 x hx y H)
  rw[show Y.take 1=[y0] from take_one (i:=0) ey0]at r;exact r
 clear_value out
 refine w_beq (λq=>wpS_pure (fd e0 f0 q)) λq1=>w_beq (λq=>wpS_pure (fl e0 f0 q)) λq2=>?_
 have q1:1 < Y.length:=by omega
 have q2:1 < X.length:=by omega
 have tk:∀ {o:Li Nat}{u v x:Nat},Fr φ (X++Y) o (X.drop u++Y.drop v)->X[u]?=aa x->(∀ y∈Y.drop v,φ x < φ y)->Fr φ (X++Y) (o++[x]) (X.drop (u+1)++Y.drop v):=λ{o u v x} f e lt=>by
  have r:=f.a 1 (W.drop u) (by rw[take_one e];intro x' B y H;obtain rfl:=aI.mp B;exact lt y H)
  rw[take_one e,dM]at r;exact r
 have tl:∀ {o:Li Nat}{u v x:Nat},Fr φ (X++Y) o (X.drop u++Y.drop v)->Y[v]?=aa x->(∀ y∈X.drop u,φ x < φ y)->Fr φ (X++Y) (o++[x]) (X.drop u++Y.drop (v+1)):=λ{o u v x} f e lt=>by
  have r:=f.b 1 (T.drop v) (by rw[take_one e];intro x' B y H;obtain rfl:=aI.mp B;exact lt y H)
  rw[take_one e,dM]at r;exact r
 refine wpS_bind (wpS_get ?_)
 extract_lets -underBinder mg0
 refine wpS_bind (wpS_forRange (I:=Mg1 κ a pe g (Pl φ X Y)) (λi b V _ hi M=>?_) (λb V M=>?_) (.mk mg (o:=[y0]) e0 ⟨f0,q2,q1⟩ (aB 1)))
 .induction M with|@mk m _ u v G z o e p O=>?_
  dsimp (zeta:=af) only
  extract_lets -underBinder s1 o1 s2 u1 s3 v1 G1 G2
  dsimp (zeta:=af) only[s1,o1,s2,u1,s3,v1,G1]
  refine wpS_bind (wpS_mono (wpS_forRange (I:=λ_=>Mg2 κ a pe g (Pl φ X Y) (u+v))
   (Q:=Maf κ a pe Q (Mg2 κ a pe g (Pl φ X Y) (u+v))) (λi b V _ hi M=>?_) (λb V M=>.go M) (.mk m e p (aB _))) λb V hb=>?_)
  .induction M with|@mk m t J c d z o e p O=>?_
   have U:=p.hu;have N:=p.hv;refine gtE dX (Nat.lt_of_succ_lt U) λx ex nx mx=>gtE dY N λy S ny my=>?_
   dsimp only;refine wpS_bind (w_el (im_get S) (wpS_bind (w_el (im_get ex) (wpS_bind (w_lt Oo ny nx ?_)))));by_cases lt:φ y < φ x
   .rw[aE lt]
    have C:=tl p.f S λz F=>eA lt (mn W ex z F)
    exact wpS_bind (w_el (im_get S) (w_beq (λq=>wpS_pure (.ret (fd (im_p e) C q))) λq=>w_if (wpS_pure (.go (.mk m (im_p e) ⟨C,U,by omega⟩ (Nat.le_succ_of_le O)))) (wpS_pure (.mk m (im_p e) ⟨C,U,by omega⟩ (Nat.le_succ_of_le O)))))
   .rw[aG lt]
    have C:=tk p.f ex λz F=>by have:=mn T S z F;have:=ne x mx y my;omega
    exact wpS_bind (w_el (im_get ex) (w_beq (λq=>wpS_pure (.ret (fl (im_p e) C q))) λq=>w_if (wpS_pure (.go (.mk m (im_p e) ⟨C,by omega,N⟩ (by omega)))) (wpS_pure (.mk m (im_p e) ⟨C,by omega,N⟩ (by omega)))))
  .induction hb with
   |ret hq=>exact wpS_pure (wpS_pure hq)
   |go hb=>
   induction hb with|@mk m u0 v0 c d z o e p hc0=>?_
   dsimp (zeta:=af) only
   extract_lets -underBinder r1 t1 o2 t2 u2 t3 v2 t4 c2 d2
   dsimp (zeta:=af) only[r1,t1,o2,t2,u2,t3,v2,t4,c2,d2]
   refine wpS_bind (wpS_lift (wpAny_rule ⟨rfl,?_⟩));refine wpS_bind (wpS_mono (wpS_forRange (I:=λi=>Mg3 κ a pe g (Pl φ X Y) (u0+v0+i))
    (Q:=Maf κ a pe Q (Mg3 κ a pe g (Pl φ X Y) (u0+v0+1))) (λi b V _ hi M=>?_) (λb V M=>?_) (.mk m e p (aB _))) λb V hb=>?_)
   .induction M with|@mk m t J G c d z o e p O=>?_
    have U:=p.hu;have N:=p.hv;refine w_post λP pd py=>?_
    dsimp (zeta:=af) only
    extract_lets -underBinder s1 o1 s2 u1 s3 v1 s4 G1 s5 c1 d1 jp
    refine w_ite (jp:=jp) λG'=>?_
    dsimp (zeta:=af) only[jp]
    dsimp (zeta:=af) only[s1,o1,s2,u1,s3,v1,s4,G1,s5,c1,d1]
    refine gtE dY N λy S ny my=>wpS_bind (w_set (wpS_bind (w_el (im_get S) (wpS_bind (gal Oo (L:=X.drop t) (show 0 < (im g X).size - t by omega) (by rw[cF,F]) (λi _=>by rw[dL]) ny (W.drop t) (λx hx=>⟨dX x (cV hx),ne x (cV hx) y my⟩) λk hk h1 h2=>?_)))))
    dsimp (zeta:=af) only
    have hk':t+k < X.length:=by
     by_cases q:t+k < X.length
     .exact q
     refine gtE dX (show X.length - 1 < X.length by omega) λx ex nx mx=>?_
     have a1:=h1 x (dC.mpr ⟨X.length - 1 - t,by rw[cH,aq (by omega),dL,show t+(X.length - 1 - t)=X.length - 1 by omega,ex]⟩)
     have a2:=p2 x (dC.mpr ⟨0,by rw[dL];exact ex⟩) y my
     omega
    rw[dM]at h2
    extract_lets -underBinder ac jp2 o5 u5
    have hj:∀ z o l,z=im g o->Fr φ (X++Y) o (X.drop l++Y.drop J)->l+1 < X.length->t<=l->(∀ x∈X.drop l,φ y < φ x)->wpS (a9 prog w) A E s (jp2 () z l) P (St κ a pe G'):=by
     intro z o l e f U hle lt;dsimp (zeta:=af) only[jp2]
     refine wpS_bind (w_el (im_get S) ?_)
     extract_lets -underBinder o3 v3
     have eo:o3=im g (o++[y]):=im_p e;have C:=tl f S lt
     clear_value o3
     refine w_beq (λq=>wpS_pure (pd _ _ (.ret (fd eo C q)))) λq=>gtE dX (Nat.lt_of_succ_lt U) λx ex nx mx=>wpS_bind (w_el (im_get ex) (wpS_bind (gal Oo (L:=Y.drop (J+1)) (show 0 < (im g Y).size - v3 by show 0 < _ - (J+1);have q:J+1≠_:=q;omega) (by rw[cF,K]) (λi _=>by rw[dL]) nx (T.drop _) (λy H=>⟨dY y (cV H),(ne x mx y (cV H)).symm⟩) λk2 hk2 g1 g2=>?_)))
     rw[dM]at g2;have q:J+1≠(im g Y).size:=q;dsimp (zeta:=af) only
     extract_lets -underBinder bc jp3 o6 v6
     have hj3:∀ z o D,z=im g o->Fr φ (X++Y) o (X.drop l++Y.drop D)->D < Y.length->J < D->(∀ z∈Y.drop D,φ x < φ z)->wpS (a9 prog w) A E s (jp3 () z D) P (St κ a pe G'):=by
      intro z o D e f N hlt lt;dsimp (zeta:=af) only[jp3]
      refine wpS_bind (w_el (im_get ex) ?_)
      extract_lets -underBinder o3 u3
      have C:=tk f ex lt;exact w_beq (λq=>wpS_pure (pd _ _ (.ret (fl (im_p e) C q)))) λq=>w_if (wpS_pure (pd _ _ (.go (.mk G' (im_p e) ⟨C,by have q:l+1+1≠_:=q;omega,N⟩ (by omega))))) (wpS_pure (py _ _ (.mk G' (im_p e) ⟨C,by have q:l+1+1≠_:=q;omega,N⟩ (by omega))))
     refine w_gt (λ_=>?_) λ_=>?_
     .have f2:=C.b k2 (T.drop _) λz F x' B=>eA (g1 z F) (mn W ex x' B)
      rw[dM]at f2;have e6:o6=im g (o++[y]++(Y.drop (J+1)).take k2):=im_c eo;exact w_beq (λq=>wpS_pure (pd _ _ (.ret (fd e6 f2 q)))) λq=>hj3 _ _ _ e6 f2 (by have q:J+1+k2≠_:=q;omega) (by omega) g2
     .exact hj3 _ _ _ eo C (by omega) (dW J) (by rw[show k2=0 by omega]at g2;exact g2)
    refine w_gt (λ_=>?_) λ_=>?_
    .have f2:=p.f.a k (W.drop _) λz F x' B=>eA (h1 z F) (mn T S x' B)
     rw[dM]at f2;have e5:o5=im g (o++(X.drop t).take k):=im_c e;exact w_beq (λq=>wpS_pure (pd _ _ (.ret (fl e5 f2 q)))) λq=>w_beq (λq=>by have q:t+k=_:=q;omega) λ_=>hj _ _ _ e5 f2 (by have q:t+k+1≠_:=q;omega) (by omega) h2
    .exact hj _ _ _ e p.f U (aB _) (by rw[show k=0 by omega]at h2;exact h2)
   .cases M with|mk m e p O=>exact .go (.mk m e p (by rw[cG (aU _),hT]at O;omega))
   .induction hb with
    |ret hq=>exact wpS_pure (wpS_pure hq)
    |go hb=>induction hb with|@mk m t J G c d z o e p hc1=>exact wpS_bind (w_set (wpS_pure (.mk _ e p (by show _<=t+J;omega))))
 .cases M with|mk m e p O=>?_
  have U:=p.hu;have N:=p.hv;rw[cG (aU _)]at O;rw[hT]at O;omega
end
variable{z:Array Keyed}
section
variable (Oo:Or prog w A s κ g φ n) {a:Array Keyed}{pe:Array (Nat×Nat×Nat)}{mg:Nat}
def mt{Z:Li Nat}{u:Nat}(a:Srt φ Z)(hu:0 < u)(e:Z[u - 1]?=aa x):∀ y∈Z.take u,φ y<=φ x:=λy b=>by
 obtain⟨i,g,f⟩:=mem_take b;obtain⟨d,rfl⟩:=bF.mp e;obtain⟨c,rfl⟩:=bF.mp f;by_cases q:i=u - 1
 .subst q;exact Int.le_refl _
 .exact Int.le_of_lt (fC.mp a i (u - 1) c d (by omega))
def take_last{u:Nat}(hu:0 < u)(e:Z[u - 1]?=aa x):(Z.take u).drop (u - 1)=[x]/\(Z.take u).take (u - 1)=Z.take (u - 1):=by
 obtain⟨u,rfl⟩:∃ v,u=v+1:=⟨u - 1,by omega⟩
 exact⟨by rw[List.drop_take,eK,cN];exact take_one e,by rw[cX,eK,bZ (Nat.le_succ u)]⟩
structure Ph(φ:Nat->Int)(X Y:List Nat)(o:List Nat)(u v:Nat):Prop where
 f:Fb φ (X++Y) o (X.take u++Y.take v)
 u0:0 < u
 u1:u<=X.length
 v0:1 < v
 v1:v<=Y.length
inductive Mh1(κ:SortKind)(a:Array Keyed)(pe:Array (Nat×Nat×Nat))(g:Nat->Keyed)(P:List Nat->Nat->Nat->Prop)(N:Nat):Nat->Option (Array Keyed)×Nat×Nat×Array Keyed×Nat->SortSt->Prop
 |mk (m:Nat) {i u v G:Nat}{z:Array Keyed}{o:List Nat} (e:z=im g o.reverse) (p:P o u v) (hc:i+1+(u+v)<=N):Mh1 κ a pe g P N i (ab,u,v,z,G) (St κ a pe m)
inductive Mh2(κ:SortKind)(a:Array Keyed)(pe:Array (Nat×Nat×Nat))(g:Nat->Keyed)(P:List Nat->Nat->Nat->Prop)(N:Nat):Option (Array Keyed)×Nat×Nat×Array Keyed×Nat×Nat->SortSt->Prop
 |mk (m:Nat) {u v c d:Nat}{z:Array Keyed}{o:List Nat} (e:z=im g o.reverse) (p:P o u v) (hc:u+v<=N):Mh2 κ a pe g P N (ab,u,v,z,c,d) (St κ a pe m)
inductive Mh3(κ:SortKind)(a:Array Keyed)(pe:Array (Nat×Nat×Nat))(g:Nat->Keyed)(P:List Nat->Nat->Nat->Prop)(N k:Nat):Option (Array Keyed)×Nat×Nat×Array Keyed×Nat×Nat×Nat->SortSt->Prop
 |mk (m:Nat) {u v G c d:Nat}{z:Array Keyed}{o:List Nat} (e:z=im g o.reverse) (p:P o u v) (hc:u+v+k<=N):Mh3 κ a pe g P N k (ab,u,v,z,G,c,d) (St κ a pe m)
def im_pr(e:z=im g o.reverse):z.push (g x)=im g (x :: o).reverse:=by rw[e,im_push,eM]
def im_cr(e:z=im g o.reverse):z++((im g l).extract i j).reverse=im g (((l.take j).drop i)++o).reverse:=by rw[e,im_ext,im_rev,im_app,List.reverse_append]
include Oo
def mergeHi_ok{X Y:Li Nat}{Q:Array Keyed->SortSt->Prop}(hX:0 < X.length)(hY:0 < Y.length)(sX:Srt φ X)(Z:Srt φ Y)(dX:∀ x∈X,x < n)(dY:∀ y∈Y,y < n)(ne:∀ x∈X,∀ y∈Y,φ x≠φ y)(p1:∀ x∈X,∀ y∈Y.take 1,φ y < φ x)(p2:∀ x∈X.drop (X.length - 1),∀ y∈Y,φ y < φ x)(h:∀ R m,Srt φ R->R.Perm (X++Y)->Q (im g R) (St κ a pe m)) :
  wpS (a9 prog w) A E s (mergeHi' (im g X) (im g Y)) Q (St κ a pe mg):=by
 refine wpS_bind (wpS_lift (wpAny_rule ⟨rfl,?_⟩))
 extract_lets -underBinder total done first na nb
 have M:(im g X).size=X.length:=im_size X;have hzy:(im g Y).size=Y.length:=im_size Y;have fd:∀ {o:Li Nat}{z:Array Keyed}{i j m:Nat},z=im g o.reverse->Fb φ (X++Y) o (X.take i++Y.take j)->i=0->Q (done z i j) (St κ a pe m):=λ{o z i j m} hz' hf e=>by
  subst e hz';have r:=hf _ ((sX.take 0).mk (Z.take j) (λx hx=>nomatch hx)) (List.Perm.refl _)
  show Q ((im g X).extract 0 0++(im g Y).extract 0 j++(im g o.reverse).reverse) _;rw[im_ext,im_ext,im_rev,List.reverse_reverse,im_app,im_app,cI,cI];exact h _ m r.1 r.2
 have fl:∀ {o:Li Nat}{z:Array Keyed}{i j m:Nat},z=im g o.reverse->Fb φ (X++Y) o (X.take i++Y.take j)->j=1->Q (first z i j) (St κ a pe m):=λ{o z i j m} hz' hf e=>by
  subst e hz';have r:=hf _ ((Z.take 1).mk (sX.take i) (λy N x hx=>p1 x (cY hx) y N)) fA
  show Q ((im g Y).extract 0 1++(im g X).extract 0 i++(im g o.reverse).reverse) _;rw[im_ext,im_ext,im_rev,List.reverse_reverse,im_app,im_app,cI,cI];exact h _ m r.1 r.2
 clear_value done first
 have hT:total=X.length+Y.length:=by show(im g X).size+(im g Y).size=_;rw[M,hzy]
 have eu:na=X.length - 1:=by show(im g X).size - 1=_;rw[M]
 have ev:nb=Y.length:=hzy
 clear_value na nb
 have tk:∀ {o:Li Nat}{u v x:Nat},Fb φ (X++Y) o (X.take u++Y.take v)->0 < u->X[u - 1]?=aa x->(∀ y∈Y.take v,φ y < φ x)->Fb φ (X++Y) (x :: o) (X.take (u - 1)++Y.take v):=λ{o u v x} f B e lt=>by
  have r:=f.a (u - 1) (sX.take u) (by rw[(take_last B e).1];intro x' t y N;obtain rfl:=aI.mp t;exact lt y N)
  rw[(take_last B e).1,(take_last B e).2]at r;exact r
 have tl:∀ {o:Li Nat}{u v x:Nat},Fb φ (X++Y) o (X.take u++Y.take v)->0 < v->Y[v - 1]?=aa x->(∀ y∈X.take u,φ y < φ x)->Fb φ (X++Y) (x :: o) (X.take u++Y.take (v - 1)):=λ{o u v x} f B e lt=>by
  have r:=f.b (v - 1) (Z.take v) (by rw[(take_last B e).1];intro x' t y N;obtain rfl:=aI.mp t;exact lt y N)
  rw[(take_last B e).1,(take_last B e).2]at r;exact r
 refine gtE dX (i:=na) (by omega) λx0 T nx0 mx0=>wpS_bind (w_el (im_get T) ?_)
 extract_lets -underBinder out
 have e0:out=im g [x0].reverse:=im_push [] x0;have f0:Fb φ (X++Y) [x0] (X.take na++Y.take nb):=by
  have i0:Fb φ (X++Y) [] (X.take X.length++Y.take Y.length):=λR hR pR=>by rw[cP,cP]at pR;rw[bD];exact⟨hR,pR⟩
  rw[eu]at T;rw[eu,ev];exact tk i0 hX T λy N=>p2 x0 (dC.mpr ⟨0,by rw[dL];exact T⟩) y (cY N)
 clear_value out
 refine w_beq (λq=>wpS_pure (fd e0 f0 q)) λq1=>w_beq (λq=>wpS_pure (fl e0 f0 q)) λq2=>wpS_bind (wpS_get ?_)
 extract_lets -underBinder mg0
 refine wpS_bind (wpS_forRange (I:=Mh1 κ a pe g (Ph φ X Y) (X.length+Y.length)) (λi b W _ hi K=>?_) (λb W K=>?_) (.mk mg (o:=[x0]) e0 ⟨f0,by omega,by omega,by omega,by omega⟩ (by omega)))
 .induction K with|@mk m _ u v G z o e p hc=>?_
  dsimp (zeta:=af) only
  extract_lets -underBinder s1 u1 s2 v1 s3 o1 G1
  dsimp (zeta:=af) only[s1,u1,s2,v1,s3,o1,G1]
  refine wpS_bind (wpS_mono (wpS_forRange (I:=λ_=>Mh2 κ a pe g (Ph φ X Y) (u+v))
   (Q:=Maf κ a pe Q (Mh2 κ a pe g (Ph φ X Y) (u+v))) (λi b W _ hi K=>?_) (λb W K=>.go K) (.mk m e p (aB _))) λb W hb=>?_)
  .induction K with|@mk m J D c d z o e p hc=>?_
   have B:=p.u0;have V:=p.v0;have hu1:=p.u1;have H:=p.v1;refine gtE dX (show J - 1 < X.length by omega) λx ex nx mx=>gtE dY (show D - 1 < Y.length by omega) λy S ny my=>?_
   dsimp only;refine wpS_bind (w_el (im_get S) (wpS_bind (w_el (im_get ex) (wpS_bind (w_lt Oo ny nx ?_)))));by_cases lt:φ y < φ x
   .rw[aE lt]
    have C:=tk p.f B ex λz M=>eN (mt Z (eH eB V) S z M) lt
    exact wpS_bind (w_el (im_get ex) (w_beq (λq=>wpS_pure (.ret (fd (im_pr e) C q))) λq=>w_if (wpS_pure (.go (.mk m (im_pr e) ⟨C,by omega,by omega,V,H⟩ (by omega)))) (wpS_pure (.mk m (im_pr e) ⟨C,by omega,by omega,V,H⟩ (by omega)))))
   .rw[aG lt]
    have C:=tl p.f (eH eB V) S λz M=>by have:=mt sX B ex z M;have:=ne x mx y my;omega
    exact wpS_bind (w_el (im_get S) (w_beq (λq=>wpS_pure (.ret (fl (im_pr e) C q))) λq=>w_if (wpS_pure (.go (.mk m (im_pr e) ⟨C,B,hu1,by omega,by omega⟩ (by omega)))) (wpS_pure (.mk m (im_pr e) ⟨C,B,hu1,by omega,by omega⟩ (by omega)))))
  .induction hb with
   |ret hq=>exact wpS_pure (wpS_pure hq)
   |go hb=>
   induction hb with|@mk m u0 v0 c d z o e p hc0=>?_
   dsimp (zeta:=af) only
   extract_lets -underBinder r1 t1 u2 t2 v2 t3 o2 t4 c2 d2
   dsimp (zeta:=af) only[r1,t1,u2,t2,v2,t3,o2,t4,c2,d2]
   refine wpS_bind (wpS_lift (wpAny_rule ⟨rfl,?_⟩));refine wpS_bind (wpS_mono (wpS_forRange (I:=Mh3 κ a pe g (Ph φ X Y) (u0+v0))
    (Q:=Maf κ a pe Q (Mh3 κ a pe g (Ph φ X Y) (u0+v0) 1)) (λi b W _ hi K=>?_) (λb W K=>?_) (.mk m e p (aB _))) λb W hb=>?_)
   .induction K with|@mk m J D G c d z o e p hc=>?_
    have B:=p.u0;have V:=p.v0;have hu1:=p.u1;have H:=p.v1;refine w_post λP pd py=>?_
    dsimp (zeta:=af) only
    extract_lets -underBinder s1 u1 s2 v1 s3 o1 s4 G1 s5 c1 d1 jp
    refine w_ite (jp:=jp) λG'=>?_
    dsimp (zeta:=af) only[jp]
    dsimp (zeta:=af) only[s1,u1,s2,v1,s3,o1,s4,G1,s5,c1,d1]
    refine gtE dY (show D - 1 < Y.length by omega) λy S ny my=>wpS_bind (w_set (wpS_bind (w_el (im_get S) (wpS_bind (gal Oo (L:=X.take J) (show J - 1 < J by omega) (by rw[aZ];omega) (λi hi=>by rw[cH,aq hi,cC]) ny (sX.take J) (λx hx=>⟨dX x (cY hx),ne x (cY hx) y my⟩) λk hk h1 h2=>?_)))))
    dsimp (zeta:=af) only
    rw[cX,bZ hk]at h1
    extract_lets -underBinder k3 ac jp2 o5 u5
    have hj:∀ z o l,z=im g o.reverse->Fb φ (X++Y) o (X.take l++Y.take D)->0 < l->l<=J->(∀ x∈X.take l,φ x < φ y)->wpS (a9 prog w) A E s (jp2 () l z) P (St κ a pe G'):=by
     intro z o l e f hu0 hle lt;dsimp (zeta:=af) only[jp2]
     extract_lets -underBinder v3
     refine wpS_bind (w_el (im_get S) ?_)
     extract_lets -underBinder o3
     have eo:o3=im g (y :: o).reverse:=im_pr e;have C:=tl f (eH eB V) S lt
     clear_value o3
     refine w_beq (λq=>wpS_pure (pd _ _ (.ret (fl eo C q)))) λq=>gtE dX (show l - 1 < X.length by omega) λx ex nx mx=>wpS_bind (w_el (im_get ex) (wpS_bind (gal Oo (L:=Y.take (D - 1)) (show D - 1 - 1 < D - 1 by omega) (by rw[aZ];omega) (λi hi=>by rw[cH,aq hi,cC]) nx (Z.take _) (λy N=>⟨dY y (cY N),(ne x mx y (cY N)).symm⟩) λU hk2 g1 g2=>?_)))
     rw[cX,bZ hk2]at g1;have hk0:0 < U:=by
      rcases Nat.eq_zero_or_pos U with rfl|q0
      .refine gtE dY hY λy0 ey0 ny0 my0=>?_
       have m0:y0∈Y.take 1:=dC.mpr ⟨0,by rw[cH,aq eB];exact ey0⟩
       have a1:=p1 x mx y0 m0;have a2:=g2 y0 (dC.mpr ⟨0,by rw[dL,cH,aq (by omega)];exact ey0⟩)
       omega
      .exact q0
     dsimp (zeta:=af) only
     extract_lets -underBinder k4 bc jp3 o6 v6
     have hj3:∀ z o F,z=im g o.reverse->Fb φ (X++Y) o (X.take l++Y.take F)->1 < F->F < D->(∀ z∈Y.take F,φ z < φ x)->wpS (a9 prog w) A E s (jp3 () F z) P (St κ a pe G'):=by
      intro z o F e f H hlt lt;dsimp (zeta:=af) only[jp3]
      extract_lets -underBinder u3
      refine wpS_bind (w_el (im_get ex) ?_)
      extract_lets -underBinder o3
      have C:=tk f hu0 ex lt;exact w_beq (λq=>wpS_pure (pd _ _ (.ret (fd (im_pr e) C q)))) λq=>w_if (wpS_pure (pd _ _ (.go (.mk G' (im_pr e) ⟨C,by have q:l - 1≠0:=q;omega,by omega,H,by omega⟩ (by omega))))) (wpS_pure (py _ _ (.mk G' (im_pr e) ⟨C,by have q:l - 1≠0:=q;omega,by omega,H,by omega⟩ (by omega))))
     refine w_gt (λ_=>?_) λO=>?_
     .have f2:=C.b U (Z.take _) λz M x' t=>eN (mt sX hu0 ex x' t) (g2 z M)
      rw[cX,bZ hk2]at f2;have e6:o6=im g ((Y.take (D - 1)).drop U++(y :: o)).reverse:=im_cr eo;exact w_beq (λq=>wpS_pure (pd _ _ (.ret (fl e6 f2 q)))) λq=>w_beq (λq=>by have q:U=0:=q;omega) λ_=>hj3 _ _ _ e6 f2 (by have q:U≠1:=q;omega) (by omega) g1
     .have O:U=D - 1:=by have O:¬(D - 1 - U > 0):=O;omega
      have q:D - 1≠1:=q;exact hj3 _ _ _ eo C (by omega) (by omega) (by rw[O]at g1;exact g1)
    refine w_gt (λ_=>?_) λO=>?_
    .have f2:=p.f.a k (sX.take _) λz M x' t=>eN (mt Z (eH eB V) S x' t) (h2 z M)
     rw[cX,bZ hk]at f2;have e5:o5=im g ((X.take J).drop k++o).reverse:=im_cr e;exact w_beq (λq=>wpS_pure (pd _ _ (.ret (fd e5 f2 q)))) λq=>hj _ _ _ e5 f2 (Nat.pos_of_ne_zero q) hk h1
    .have O:k=J:=by have O:¬(J - k > 0):=O;omega
     exact hj _ _ _ e p.f B (aB _) (by rw[O]at h1;exact h1)
   .cases K with|mk m e p hc=>exact .go (.mk m e p (by rw[cG (aU _),hT]at hc;have:=hX;omega))
   .induction hb with
    |ret hq=>exact wpS_pure (wpS_pure hq)
    |go hb=>induction hb with|@mk m J D G c d z o e p hc1=>exact wpS_bind (w_set (wpS_pure (.mk _ e p (by show _+(J+D)<=_;omega))))
 .cases K with|mk m e p hc=>?_
  have B:=p.u0;have V:=p.v0;rw[cG (aU _)]at hc;rw[hT]at hc;omega
end
section
def back{c:Nat}(l:Li Keyed):∀ (k:Nat) (b M V:Li Keyed) (arr:Array Keyed),arr.toList=b++(M++V)->b.length=c+k->M.length=l.length->((l.zipIdx k).foldl (λa (p,j)=>a.setIfInBounds (c+j) p) arr).toList=b++(l++V):=by
 induction l with
 |nil=>
  intro k b M V arr h _ d;rw[eO.mp d]at h;exact h
 |cons p l g=>
  intro k b M V arr h f d;obtain⟨m,M,rfl⟩:=List.exists_cons_of_length_eq_add_one d;rw[List.zipIdx_cons,List.foldl_cons];have e:(arr.setIfInBounds (c+k) p).toList=(b++[p])++(M++V):=by
   rw[Array.toList_setIfInBounds,h,<-f,List.cons_append,List.set_append_right _ _ (aB _),eC,List.set_cons_zero,aM];rfl
  rw[g (k+1) (b++[p]) M V _ e (by rw[aH,f];rfl) (Nat.succ.inj d),aM]
  rfl
def back_im{c:Nat}{R b M V:Li Nat}(hu:b.length=c)(d:M.length=R.length):(im g R).toList.zipIdx.foldl (λa (p,j)=>a.setIfInBounds (c+j) p) (im g (b++(M++V)))=im g (b++(R++V)):=by
 apply Array.toList_inj.mp
 have r:=back (c:=c) (R.map g) 0 (b.map g) (M.map g) (V.map g) (im g (b++(M++V))) (by simp[im]) (by rw[aD,hu];rfl) (by rw[aD,aD,d])
 simp only[im]at r ⊢;rw[r];simp
def mid(P X Z:Li Nat)(a:i < X.length):(P++(X++Z))[P.length+i]?=X[i]?:=by
 rw[bA (bU _ _),cN,bG a]
def mid_ext(P X Z:Li Nat)(a:j<=X.length):((P++(X++Z)).take (P.length+j)).drop (P.length+i)=(X.take j).drop i:=by
 rw[List.take_append,cN,fD (bU _ _),List.drop_append,cN,eP (bU _ _),dZ,List.take_append_of_le_length a]
variable (Oo:Or prog w A s κ g φ n) {a:Array Keyed}{pe:Array (Nat×Nat×Nat)}{mg:Nat}
include Oo
def mergeAt_ok{P X Y S:Li Nat}{K J:Nat}{Q:Bool->SortSt->Prop}(e1:pe[i]?=aa (P.length,X.length,K))(e2:pe[i+1]?=aa (P.length+X.length,Y.length,J))(hX:0 < X.length)(hY:0 < Y.length)(t:Srt φ X)(o:Srt φ Y)(W:∀ x∈X,x < n)(V:∀ y∈Y,y < n)(ne:∀ x∈X,∀ y∈Y,φ x≠φ y)(h:∀ R m,Srt φ R->R.Perm (X++Y)->Q ae (St κ (im g (P++(R++S))) ((pe.setIfInBounds i (P.length,X.length+Y.length,K)).eraseIdxIfInBounds (i+1)) m)) :
  wpS (a9 prog w) A E s (mergeAt' i) Q (St κ (im g (P++(X++(Y++S)))) pe mg):=by
 refine wpS_bind (wpS_get ?_);show wpS _ _ _ _ (match (pe[i]?,pe[i+1]?) with | (aa (sa,na,M),aa (sb,nb,_))=>_|_=>_) _ _
 rw[e1,e2];refine wpS_bind (wpS_set ?_);obtain⟨u,d⟩:∃ y,Y[0]?=aa y:=⟨_,Lg hY⟩;have C:=aV d;have H:=V u C;have U:P++(X++(Y++S))=(P++X)++(Y++S):=by rw[aM]
 have N:(P++X).length=P.length+X.length:=aH;have a0:(P++(X++(Y++S)))[P.length+X.length]?=aa u:=by
  rw[U,<-N,<-d];exact mid (P++X) Y S (i:=0) hY
 refine wpS_bind (w_el (im_get a0) ?_);refine wpS_bind (gal Oo (L:=X) hX rfl (λi T=>mid P X _ T) H t (λx hx=>⟨W x hx,ne x hx u C⟩) λk hk F h2=>?_)
 show wpS _ _ _ _ (if (X.length - k==0)=ae then _ else _) _ _
 have c:∀ y∈Y,φ u<=φ y:=λy hy=>by have:=mn o d y (by rw[cI];exact hy);exact this
 split
 .rename_i q
  have q:X.length - k=0:=beq_iff_eq.mp q;obtain rfl:k=X.length:=by omega
  rw[cP]at F;have r:=h (X++Y) mg (t.mk o λx hx y hy=>eA (F x hx) (c y hy)) (List.Perm.refl _)
  rw[aM]at r;exact wpS_pure r
 rename_i q;have q:k < X.length:=by
  have:X.length - k≠0:=λe=>q (beq_iff_eq.mpr e)
  omega
 obtain⟨z,f⟩:∃ x,X[X.length - 1]?=aa x:=⟨_,Lg (by omega)⟩
 have D:=aV f;have a1:(P++(X++(Y++S)))[P.length+k+(X.length - k) - 1]?=aa z:=by
  rw[show P.length+k+(X.length - k) - 1=P.length+(X.length - 1) by omega,mid P X _ (by omega),f]
 refine wpS_bind (w_el (im_get a1) ?_);refine wpS_bind (gal Oo (L:=Y) (show Y.length - 1 < Y.length by omega) rfl (λi T=>by rw[U,<-N];exact mid (P++X) Y S T) (W z D) o (λy hy=>⟨V y hy,(ne z D y hy).symm⟩) λb O g1 g2=>?_)
 show wpS _ _ _ _ (if (b==0)=ae then _ else _) _ _
 have v:∀ x∈X,φ x<=φ z:=λx hx=>mt t hX f x (by rw[cP];exact hx)
 split
 .rename_i q
  obtain rfl:b=0:=beq_iff_eq.mp q;have r:=h (X++Y) mg (t.mk o λx hx y hy=>eN (v x hx) (g2 y hy)) (List.Perm.refl _)
  rw[aM]at r;exact wpS_pure r
 rename_i I;have I:0 < b:=by
  have:b≠0:=λe=>I (beq_iff_eq.mpr e)
  omega
 have ex:(im g (P++(X++(Y++S)))).extract (P.length+k) (P.length+X.length)=im g (X.drop k):=by
  rw[im_ext,mid_ext P X _ (aB _),cP]
 have ey:(im g (P++(X++(Y++S)))).extract (P.length+X.length) (P.length+X.length+b)=im g (Y.take b):=by
  rw[im_ext,U,<-N];have:=mid_ext (P++X) Y S (i:=0) O;rw[Nat.add_zero,cI]at this;rw[this]
 have G:∀ R m,Srt φ R->R.Perm (X.drop k++Y.take b)->wpS (a9 prog w) A E s (do
   modify λs=>setArr s ((im g R).toList.zipIdx.foldl (λa (p,j)=>a.setIfInBounds (P.length+k+j) p) (arrOf s))
   return (failedOf (<-get)).isNone) Q (St κ (im g (P++(X++(Y++S)))) ((pe.setIfInBounds i (P.length,X.length+Y.length,K)).eraseIdxIfInBounds (i+1)) m):=λR m B l=>by
  refine wpS_bind (wpS_modify (wpS_bind (wpS_get (wpS_pure ?_))));show Q ae (St κ ((im g R).toList.zipIdx.foldl (λa (p,j)=>a.setIfInBounds (P.length+k+j) p) (im g (P++(X++(Y++S))))) _ m)
  have e0:P++(X++(Y++S))=(P++X.take k)++((X.drop k++Y.take b)++(Y.drop b++S)):=by
   simp only[aM];rw[<-aM (X.take k),bB,<-aM (Y.take b),bB]
  rw[e0,back_im (by rw[aH,aZ];omega) l.length_eq.symm]
  have r:=h (X.take k++(R++Y.drop b)) m ?_ ?_
  .have e3:P++(X.take k++(R++Y.drop b)++S)=P++X.take k++(R++(Y.drop b++S)):=by simp only[aM]
   rw[e3]at r;exact r
  .refine(t.take k).mk (B.mk (o.drop b) λx hx y hy=>?_) λx hx y hy=>?_
   .rcases bE.mp (l.mem_iff.mp hx) with hx|hx
    .exact eN (v x (cV hx)) (g2 y hy)
    .exact Int.lt_trans (g1 x hx) (g2 y hy)
   .rcases bE.mp hy with hy|hy
    .rcases bE.mp (l.mem_iff.mp hy) with hy|hy
     .exact Int.lt_trans (F x hx) (h2 y hy)
     .exact eA (F x hx) (c y (cY hy))
    .exact eA (F x hx) (c y (cV hy))
  .have p:=(l.append_right (Y.drop b)).append_left (X.take k)
   rw[aM (X.drop k),bB,<-aM (X.take k) (X.drop k),bB]at p;exact p
 have p1:∀ x∈X.drop k,∀ y∈(Y.take b).take 1,φ y < φ x:=λx hx y hy=>by
  rw[cX,bZ I]at hy;have:Y.take 1=[u]:=take_one (i:=0) d;rw[this]at hy;obtain rfl:=aI.mp hy;exact h2 x hx
 have Z:∀ x∈(X.drop k).drop ((X.drop k).length - 1),∀ y∈Y.take b,φ y < φ x:=λx hx y hy=>by
  rw[dM,cF,show k+(X.length - k - 1)=X.length - 1 by omega]at hx
  have:X.drop (X.length - 1)=[z]:=by
   have:=take_one f
   rwa [fD (by rw[cF];omega)]at this
  rw[this]at hx;obtain rfl:=aI.mp hx;exact g1 y hy
 have l1:0 < (X.drop k).length:=by rw[cF];omega
 have l2:0 < (Y.take b).length:=by rw[aZ];omega
 have d1:∀ x∈X.drop k,x < n:=λx hx=>W x (cV hx)
 have d2:∀ x∈Y.take b,x < n:=λx hx=>V x (cY hx)
 have n1:∀ x∈X.drop k,∀ y∈Y.take b,φ x≠φ y:=λx hx y hy=>ne x (cV hx) y (cY hy)
 show wpS _ _ _ _ (if X.length - k<=b then mergeLo' ((im g (P++(X++(Y++S)))).extract (P.length+k) (P.length+X.length)) ((im g (P++(X++(Y++S)))).extract (P.length+X.length) (P.length+X.length+b)) >>= _ else _) _ _
 split
 .rw[ex,ey]
  exact wpS_bind (mergeLo_ok Oo l1 l2 (t.drop k) (o.take b) d1 d2 n1 p1 Z λR m B l=>G R m B l)
 .show wpS _ _ _ _ (mergeHi' ((im g (P++(X++(Y++S)))).extract (P.length+k) (P.length+X.length)) ((im g (P++(X++(Y++S)))).extract (P.length+X.length) (P.length+X.length+b)) >>= _) _ _
  rw[ex,ey];exact wpS_bind (mergeHi_ok Oo l1 l2 (t.drop k) (o.take b) d1 d2 n1 p1 Z λR m B l=>G R m B l)
end
section
structure Ok(φ:Nat->Int)(n:Nat)(T:List Nat):Prop where
 d:T.Pairwise λi j=>φ i≠φ j
 b:∀ x∈T,x < n
def Ok.perm{T a:Li Nat}(h:Ok φ n T)(p:a.Perm T):Ok φ n a:=⟨(p.pairwise_iff λh=>Ne.symm h).mpr h.d,λx c=>h.b x (p.mem_iff.mp c)⟩
def Ok.ne{T:Li Nat}(h:Ok φ n T){i j x y:Nat}(e:T[i]?=aa x)(c:T[j]?=aa y)(ne:i≠j):φ x≠φ y:=by
 obtain⟨b,rfl⟩:=bF.mp e;obtain⟨a,rfl⟩:=bF.mp c;rcases Nat.lt_or_gt_of_ne ne with q|q
 .exact fC.mp h.d i j b a q
 .exact(fC.mp h.d j i a b q).symm
def take_succ{T:Li Nat}(e:T[m]?=aa x):T.take (m+1)=T.take m++[x]:=by rw[List.take_succ,e];rfl
def Srt.snoc{T:Li Nat}(h:Srt φ (T.take m))(c:0 < m)(e:T[m - 1]?=aa x)(d:T[m]?=aa y)(lt:φ x < φ y):Srt φ (T.take (m+1)):=by
 rw[take_succ d];refine h.mk (fE _ _) λz a f b=>?_
 obtain rfl:=aI.mp b;have:=mt h c (by rw[cH,aq (by omega)];exact e) z (by rw[cX,Nat.min_self];exact a)
 omega
def Dsc.snoc{T:Li Nat}(h:Srt φ (T.take m).reverse)(g:0 < m)(e:T[m - 1]?=aa x)(f:T[m]?=aa y)(lt:φ y < φ x):Srt φ (T.take (m+1)).reverse:=by
 rw[take_succ f,List.reverse_append];refine Srt.mk (l:=[y].reverse) (fE _ _) h λz b a c=>?_
 obtain rfl:z=y:=aI.mp b;have d:(T.take m).reverse[0]?=aa x:=by
  have i:m - 1 < T.length:=(bF.mp e).1;rw[List.getElem?_reverse (by rw[aZ];omega),aZ,cH,aq (by omega),<-e]
  congr 1;omega
 have:=mn h d a (by rw[cI];exact c)
 omega
def imq(l:Li Nat)(k:Nat):(im g l)[k]?=(l[k]?).map g:=by simp[im]
def mirror_im(a M V:Li Nat):mirror (im g (a++(M++V))) a.length (a.length+M.length) ((a.length+M.length - a.length) / 2)=im g (a++(M.reverse++V)):=by
 apply Array.ext_getElem?
 intro k;rw[getElem?_mirror_all (by rw[im_size];simp only[aH];omega),imq,imq,imq]
 split
 .rename_i q
  obtain⟨j,rfl⟩:∃ j,k=a.length+j:=⟨k - a.length,by omega⟩
  rw[mid a M.reverse V (by rw[dD];omega),show a.length+(a.length+M.length) - 1 - (a.length+j)=a.length+(M.length - 1 - j) by omega,mid a M V (by omega),List.getElem?_reverse (by omega)]
 .rename_i q
  by_cases h:k < a.length
  .rw[bG h,bG h]
  .rw[bA (by omega),bA (by omega),bA (by omega),bA (by rw[dD];omega),dD]
def bubble_im(a M V:Li Nat)(x:Nat):bubble (im g (a++(M++x :: V))) (a.length+M.length) M.length=im g (a++(x :: (M++V))):=by
 apply Array.ext_getElem?
 intro k;rw[getElem?_bubble (by rw[im_size];simp only[aH,aY];omega) _ (Nat.le_add_left _ _),imq,imq,imq,imq,eK]
 split
 .rename_i q
  subst q;rw[bA (bU _ _),cN,bA (aB _),bA (aB _),eC,eC];rfl
 .split
  .obtain⟨j,rfl⟩:∃ j,k=a.length+(j+1):=⟨k - a.length - 1,by omega⟩
   rw[show a.length+(j+1) - 1=a.length+j by omega,mid a M _ (by omega),bA (bU _ _),cN,fU,bG (by omega)]
  .by_cases h:k < a.length
   .rw[bG h,bG h]
   .obtain⟨j,rfl⟩:∃ j,k=a.length+(M.length+(j+1)):=⟨k - a.length - M.length - 1,by omega⟩
    rw[bA (bU _ _),bA (bU _ _),cN,bA (bU _ _),cN,fU,<-Nat.add_assoc,fU,bA (bU _ _),cN]
variable (Oo:Or prog w A s κ g φ n) {a:Array Keyed}{pe:Array (Nat×Nat×Nat)}{mg:Nat}
def rev_ok{P T:Li Nat}{Q:Unit->SortSt->Prop}(a:m<=T.length)(h:Q () (St κ (im g (P++((T.take m).reverse++T.drop m))) pe mg)):wpS M A E s (reverseSlice' P.length (P.length+m)) Q (St κ (im g (P++T)) pe mg):=by
 rw[reverseSlice'_eq];refine wpS_modify ?_;show Q () (St κ (mirror (im g (P++T)) P.length (P.length+m) ((P.length+m - P.length) / 2)) pe mg);have e:=mirror_im (g:=g) P (T.take m) (T.drop m);rw[bB,aZ,bZ a]at e;rw[e];exact h
include Oo
def asc_ok{P T:Li Nat}{Q:Ot (Ot Nat)×Nat->SortSt->Prop}(J:1<=m)(D:m<=T.length)(l:Ok φ n T)(B:Srt φ (T.take m))(h:∀ d,1<=d->m<=d->d<=T.length->Srt φ (T.take d)->(d < T.length->∀ x y,T[d]?=aa x->T[d - 1]?=aa y->φ x < φ y)->Q (ab,d) (St κ (im g (P++T)) pe mg)) :
  wpS (a9 prog w) A E s (forIn [m:T.length] ((ab,m):Ot (Ot Nat)×Nat) λ_ c=>do
   let x <-ltAt' (P.length+c.snd) (P.length+c.snd - 1)
   match x with
   |some a=>if a=ae then pure (.done (ab,c.snd)) else pure (.yield (ab,c.snd+1))
   |_=>pure (.done (aa ab,c.snd))) Q (St κ (im g (P++T)) pe mg):=by
 refine wpS_forRange (I:=λi b j=>j=St κ (im g (P++T)) pe mg/\∃ k,b=(ab,k)/\i=k/\m<=k/\k<=T.length/\Srt φ (T.take k)) (λi b j _ F o=>?_) (λb j o=>?_) ⟨rfl,m,rfl,rfl,aB _,D,B⟩
 .obtain⟨rfl,k,rfl,G,r,p,e⟩:=o
  by_cases q:k < T.length
  .have ex:=Lg q
   have f:=Lg (show k - 1 < T.length by omega)
   have z:=mid P T [] q;have v:=mid P T [] (show k - 1 < T.length by omega)
   rw[bD,ex]at z;rw[bD,f]at v;have nx:=l.b _ (bH q);have C:=l.b _ (bH (show k - 1 < T.length by omega))
   have ne:=l.ne ex f (by omega)
   refine wpS_bind (w_ltAt Oo z (by show(P++T)[P.length+k - 1]?=_;rw[show P.length+k - 1=P.length+(k - 1) by omega];exact v) nx C ?_)
   by_cases lt:φ T[k] < φ T[k - 1]
   .rw[aE lt]
    exact wpS_pure (h k (by omega) r p e λ_ x y u t=>by rw[ex]at u;rw[f]at t;cases u;cases t;exact lt)
   .rw[aG lt]
    exact wpS_pure ⟨rfl,k+1,rfl,by omega,by omega,q,e.snoc (by omega) f ex (by omega)⟩
  .have H:i < T.length:=F
   omega
 .obtain⟨rfl,k,rfl,G,r,p,e⟩:=o
  exact h k (by omega) r p e λq=>by omega
def count_ok{P T:Li Nat}{Q:Ot Nat->SortSt->Prop}(t:0 < T.length)(o:Ok φ n T)(h:∀ R S,0 < R.length->Srt φ R->(R++S).Perm T->Q (aa R.length) (St κ (im g (P++(R++S))) pe mg)) :
  wpS (a9 prog w) A E s (countRun' P.length T.length) Q (St κ (im g (P++T)) pe mg):=by
 have s1:Srt φ (T.take 1):=by
  match T,t with
  |x :: T,_=>exact fE _ _
 refine wpS_bind (wpS_mono (asc_ok Oo (Q:=λb a=>a=St κ (im g (P++T)) pe mg/\∃ m,b=(ab,m)/\1<=m/\m<=T.length/\Srt φ (T.take m)/\(m < T.length->∀ x y,T[m]?=aa x->T[m - 1]?=aa y->φ x < φ y)) (aB 1) t o s1 λm D _ f d c=>⟨rfl,m,rfl,D,f,d,c⟩) λb a B=>?_)
 obtain⟨rfl,m,rfl,D,f,d,c⟩:=B;have C:Q (aa m) (St κ (im g (P++T)) pe mg):=by
  have r:=h (T.take m) (T.drop m) (by rw[aZ];omega) d (List.Perm.of_eq (bB m T))
  rw[bB,aZ,bZ f]at r;exact r
 dsimp (zeta:=af) only
 extract_lets -underBinder r1 m1
 dsimp (zeta:=af) only[r1,m1]
 split
 .exact wpS_pure C
 rename_i q;have q:m≠T.length:=λe=>q (beq_iff_eq.mpr e)
 extract_lets -underBinder jp
 split
 .rename_i z
  have z:m > 1:=z;have ex:=Lg t;have j:=Lg (show m - 1 < T.length by omega)
  have v:=mid P T [] t;have u:=mid P T [] (show m - 1 < T.length by omega)
  rw[bD,ex,Nat.add_zero]at v;rw[bD,j]at u;refine wpS_bind (w_ltAt Oo v (by show(P++T)[P.length+m - 1]?=_;rw[show P.length+m - 1=P.length+(m - 1) by omega];exact u) (o.b _ (bH _)) (o.b _ (bH _)) ?_)
  have lt:φ T[0] < φ T[m - 1]:=by
   have:=fC.mp d 0 (m - 1) (by rw[aZ];omega) (by rw[aZ];omega) (by omega)
   rw[List.getElem_take,List.getElem_take]at this;exact this
  rw[aE lt];exact wpS_pure C
 .rename_i z
  have z:¬m > 1:=z;obtain rfl:m=1:=by omega
  dsimp (zeta:=af) only[jp]
  refine wpS_bind (wpS_lift (wpAny_rule ⟨rfl,?_⟩));have ex:=Lg t;have j:=Lg (show 1 < T.length by omega)
  have N:Srt φ (T.take 2).reverse:=Dsc.snoc (m:=1) (by
   match T,t with
   |x :: T,_=>exact fE _ _) eB ex j (c (by omega) _ _ j ex)
  refine wpS_bind (wpS_mono (wpS_forRange (I:=λi b a=>a=St κ (im g (P++T)) pe mg/\∃ k,b=(ab,k,0)/\i=k/\2<=k/\k<=T.length/\Srt φ (T.take k).reverse)
   (Q:=λb a=>a=St κ (im g (P++T)) pe mg/\∃ k,b=(ab,k,0)/\2<=k/\k<=T.length/\Srt φ (T.take k).reverse) (λi b a _ K H=>?_) (λb a H=>?_) ⟨rfl,2,rfl,rfl,aB _,by omega,N⟩) λb a B=>?_)
  .obtain⟨rfl,k,rfl,D,f,d,c⟩:=H
   have K:i < T.length:=K;by_cases q:k < T.length
   .have ex:=Lg q
    have j:=Lg (show k - 1 < T.length by omega)
    have v:=mid P T [] q;have u:=mid P T [] (show k - 1 < T.length by omega)
    rw[bD,ex]at v;rw[bD,j,show P.length+(k - 1)=P.length+k - 1 by omega]at u
    have nx:=o.b _ (bH q);have J:=o.b _ (bH (show k - 1 < T.length by omega))
    have ne:=o.ne ex j (by omega)
    refine wpS_bind (w_ltAt Oo v u nx J ?_);by_cases lt:φ T[k] < φ T[k - 1]
    .rw[aE lt]
     exact wpS_pure ⟨rfl,k+1,rfl,by omega,by omega,q,Dsc.snoc c (by omega) j ex lt⟩
    .rw[aG lt]
     refine wpS_bind (w_ltAt Oo u v J nx ?_);rw[aE (show φ T[k - 1] < φ T[k] by omega)]
     exact wpS_pure ⟨rfl,k,rfl,f,d,c⟩
   .omega
  .obtain⟨rfl,k,rfl,D,f,d,c⟩:=H
   exact⟨rfl,k,rfl,f,d,c⟩
  .obtain⟨rfl,k,rfl,f,d,c⟩:=B
   refine wpS_bind (rev_ok d ?_);have p:((T.take k).reverse++T.drop k).Perm T:=((List.reverse_perm _).append_right _).trans (List.Perm.of_eq (bB k T));have l:((T.take k).reverse++T.drop k).length=T.length:=p.length_eq;have lk:(T.take k).reverse.length=k:=by rw[dD,aZ];omega
   have L:=asc_ok Oo (P:=P) (T:=(T.take k).reverse++T.drop k) (m:=k) (pe:=pe) (mg:=mg) (E:=E) (Q:=λb a=>∃ G,b=(ab,G)/\Q (aa G) a) (by omega) (by omega) (o.perm p) (by rw[List.take_append_of_le_length (by omega),fD (by omega)];exact c) λF W V U O _=>⟨F,rfl,by
    have r:=h (((T.take k).reverse++T.drop k).take F) (((T.take k).reverse++T.drop k).drop F) (by rw[aZ];omega) O (by rw[bB];exact p)
    rw[bB,aZ,bZ U]at r;exact r⟩
   rw[l]at L;refine wpS_bind (wpS_mono L λb a B=>?_)
   obtain⟨G,rfl,M⟩:=B;exact wpS_pure M
end
section
variable (Oo:Or prog w A s κ g φ n) {a:Array Keyed}{pe:Array (Nat×Nat×Nat)}{mg:Nat}
include Oo
def bin_ok{P T:Li Nat}{N ok:Nat}{Q:Bool->SortSt->Prop}(O:1<=ok)(hok:ok<=N)(hN:N<=T.length)(oT:Ok φ n T)(Y:Srt φ (T.take ok))(h:∀ R S,R.length=N->Srt φ R->(R++S).Perm T->Q ae (St κ (im g (P++(R++S))) pe mg)) :
  wpS (a9 prog w) A E s (binarySort' P.length N ok) Q (St κ (im g (P++T)) pe mg):=by
 refine wpS_bind (wpS_mono (wpS_forRange (I:=λk b d=>∃ a,b=(ab,())/\d=St κ (im g (P++a)) pe mg/\a.Perm T/\Srt φ (a.take k)) (Q:=λb d=>∃ a,b=(ab,())/\d=St κ (im g (P++a)) pe mg/\a.Perm T/\Srt φ (a.take N))
  (λk b d hk hkN t=>?_) (λb d t=>?_) ⟨T,rfl,rfl,List.Perm.refl _,by rw[Nat.max_eq_left O];exact Y⟩) λb d G=>?_)
 .obtain⟨a,rfl,rfl,p,f⟩:=t
  have j:=oT.perm p;have hl:=p.length_eq;have B:k < a.length:=by omega
  obtain⟨x,ex⟩:∃ x,a[k]?=aa x:=⟨_,Lg B⟩;have nx:=j.b x (aV ex);have X:=mid P a [] B;rw[bD,ex]at X;obtain⟨c,hc,o⟩:=cut (v:=φ x) f;have m:c<=k:=by rw[aZ]at hc;omega
  refine wpS_bind (wpS_mono (wpS_forRange (I:=λi b d=>d=St κ (im g (P++a)) pe mg/\∃ l r,b=(ab,l,r)/\l<=c/\c<=r/\r<=k/\r - l+i<=k) (Q:=λb d=>d=St κ (im g (P++a)) pe mg/\b=(ab,c,c))
   (λi b d _ F t=>?_) (λb d t=>?_) ⟨rfl,0,k,rfl,aU _,m,aB _,aB _⟩) λb d G=>?_)
  .obtain⟨rfl,l,r,rfl,C,M,L,K⟩:=t
   by_cases q:l>=r
   .obtain⟨rfl,rfl⟩:l=c/\r=c:=by omega
    show wpS _ _ _ _ (if r>=r then _ else _) _ _
    rw[aq (aB r)];exact wpS_pure ⟨rfl,rfl⟩
   .show wpS _ _ _ _ (if l>=r then _ else _) _ _
    rw[ar q];have hm:(l+r) / 2 < k:=by omega
    obtain⟨y,D⟩:∃ y,a[(l+r) / 2]?=aa y:=⟨_,Lg (by omega)⟩
    have W:=mid P a [] (show(l+r) / 2 < a.length by omega)
    rw[bD,D]at W;have V:=o ((l+r) / 2) y (by rw[cH,aq hm,D])
    have ne:=j.ne ex D (by omega)
    refine wpS_bind (w_ltAt Oo X W nx (j.b y (aV D)) ?_);by_cases lt:φ x < φ y
    .rw[aE lt]
     have:¬(l+r) / 2 < c:=λz=>by have:=V.mpr z;omega
     exact wpS_pure ⟨rfl,_,_,rfl,C,show c<=(l+r) / 2 by omega,show(l+r) / 2<=k by omega,show(l+r) / 2 - l+(i+1)<=k by omega⟩
    .rw[aG lt]
     have:(l+r) / 2 < c:=V.mp (by omega)
     exact wpS_pure ⟨rfl,_,_,rfl,show(l+r) / 2+1<=c by omega,M,L,show r - ((l+r) / 2+1)+(i+1)<=k by omega⟩
  .obtain⟨rfl,l,r,rfl,C,M,L,K⟩:=t
   rw[cG (aU _)]at K;obtain⟨rfl,rfl⟩:l=c/\r=c:=by omega
   exact⟨rfl,rfl⟩
  .obtain⟨rfl,rfl⟩:=G
   have U:P++a=(P++a.take c)++((a.take k).drop c++x :: a.drop (k+1)):=by
    have hd:a.drop k=x :: a.drop (k+1):=by
     obtain⟨h,rfl⟩:=bF.mp ex;exact bV h
    have C:a.take c=(a.take k).take c:=by rw[cX,bZ m]
    rw[aM,<-hd,C,<-aM ((a.take k).take c),bB,bB]
   have J:(a.take c).length=c:=by rw[aZ];omega
   have H:((a.take k).drop c).length=k - c:=by rw[cF,aZ];omega
   have bm:∀ {Q:Unit->SortSt->Prop},Q () (St κ (im g (P++(a.take c++(x :: ((a.take k).drop c++a.drop (k+1)))))) pe mg)->wpS (a9 prog w) A E s (moveDown' (P.length+k) (P.length+c)) Q (St κ (im g (P++a)) pe mg):=λ{Q} hq=>by
    rw[moveDown'_eq];refine wpS_modify ?_;show Q () (St κ (bubble (im g (P++a)) (P.length+k) (P.length+k - (P.length+c))) pe mg);have e:=bubble_im (g:=g) (P++a.take c) ((a.take k).drop c) (a.drop (k+1)) x;rw[aH,J,H,show P.length+c+(k - c)=P.length+k by omega,<-U]at e
    rw[show P.length+k - (P.length+c)=k - c by omega,e,aM]
    exact hq
   refine wpS_bind (bm (wpS_pure ⟨_,rfl,rfl,?_,?_⟩))
   .have q:(a.take c++(x :: ((a.take k).drop c++a.drop (k+1)))).Perm (a.take c++((a.take k).drop c++x :: a.drop (k+1))):=(List.perm_middle.symm).append_left _
    have e1:a.take c++((a.take k).drop c++x :: a.drop (k+1))=a:=List.append_cancel_left (as:=P) (by rw[<-aM];exact U.symm)
    rw[e1]at q;exact q.trans p
   .have e2:(a.take c++(x :: ((a.take k).drop c++a.drop (k+1)))).take (k+1)=a.take c++x :: (a.take k).drop c:=by
     rw[show a.take c++(x :: ((a.take k).drop c++a.drop (k+1)))=(a.take c++x :: (a.take k).drop c)++a.drop (k+1) by simp only[aM,List.cons_append]]
     have:(a.take c++x :: (a.take k).drop c).length=k+1:=by rw[aH,aY,J,H];omega
     rw[<-this,List.take_left]
    rw[e2];have d:=f;rw[<-bB c (a.take k),cX,bZ m]at d;obtain⟨s1,s2,Z⟩:=d.app;have l1:∀ z∈a.take c,φ z < φ x:=λz u=>by
     obtain⟨i,F,e⟩:=mem_take u;exact(o i z (by rw[cH,aq (by omega),e])).mpr F
    have l2:∀ z∈(a.take k).drop c,φ x < φ z:=λz u=>by
     obtain⟨i,F,e⟩:=mem_drop u;have c1:=o i z e;rw[cH]at e;split at e
     .have:=j.ne e ex (by omega)
      have:¬φ z < φ x:=λq=>by have:=c1.mp q;omega
      omega
     .exact nomatch e
    refine s1.mk (List.pairwise_cons.mpr ⟨l2,s2⟩) λz u y hy=>?_
    rcases aK.mp hy with rfl|hy
    .exact l1 z u
    .exact Z z u y hy
 .obtain⟨a,rfl,rfl,p,f⟩:=t
  rw[Nat.max_eq_left O,cG hok]at f;exact⟨a,rfl,rfl,p,f⟩
 .obtain⟨a,rfl,rfl,p,f⟩:=G
  have r:=h (a.take N) (a.drop N) (by rw[aZ,p.length_eq];omega) f (by rw[bB];exact p)
  rw[bB]at r;exact wpS_pure r
end
variable{rs:Li (Li Nat)}
section
noncomputable abbrev Pt:Type:=Nat×Nat×Nat
def Pn:Nat->Li (Li Nat)->Li Pt->Prop
 |_,[],[]=>True
 |i,r :: rs,p :: a=>p.1=i/\p.2.1=r.length/\Pn (i+r.length) rs a
 |_,_,_=>False
theorem Pn.len:∀ {i:Nat}{rs:Li (Li Nat)}{ps:Li Pt},Pn i rs ps->rs.length=ps.length
 |_,[],[],_=>rfl
 |_,_ :: _,_ :: _,h=>av (·+1) h.2.2.len
theorem Pn.push:∀ {i:Nat}{rs:Li (Li Nat)}{ps:Li Pt} (r:Li Nat) (q:Nat),Pn i rs ps->Pn i (rs++[r]) (ps++[(i+rs.flatten.length,r.length,q)])
 |_,[],[],_,_,_=>⟨rfl,rfl,trivial⟩
 |i,a :: rs,_ :: _,r,q,h=>⟨h.1,h.2.1,by
  have:=h.2.2.push r q;rw[Nat.add_assoc,<-aH]at this;exact this⟩
theorem Pn.mod{f:Pt->Pt}(a:∀ p,(f p).1=p.1/\(f p).2.1=p.2.1):∀ {i:Nat}{rs:Li (Li Nat)}{ps:Li Pt} (k:Nat),Pn i rs ps->Pn i rs (ps.modify k f)
 |_,[],[],0,h=>h
 |_,[],[],_+1,h=>h
 |_,_ :: _,p :: _,0,h=>⟨(a p).1.trans h.1,(a p).2.trans h.2.1,h.2.2⟩
 |_,_ :: _,_ :: _,k+1,h=>⟨h.1,h.2.1,h.2.2.mod a k⟩
theorem Pn.two:∀ {i:Nat}{rs:Li (Li Nat)}{c:Li Pt} (k:Nat),Pn i rs c->k+1 < rs.length->∃ B X Y D b a,rs=B++X :: Y :: D/\c[k]?=aa (i+B.flatten.length,X.length,b)/\c[k+1]?=aa (i+B.flatten.length+X.length,Y.length,a) /\
  ∀ R:Li Nat,R.length=X.length+Y.length->Pn i (B++R :: D) ((c.set k (i+B.flatten.length,X.length+Y.length,b)).eraseIdx (k+1))
 |i,X :: Y :: D,(_,_,b) :: (_,_,a) :: c,0,⟨n,m,f,l,j⟩,_=>by
  cases n;cases m;cases f;cases l
  exact⟨[],X,Y,D,b,a,rfl,rfl,rfl,λR d=>⟨rfl,d.symm,by rw[d,<-Nat.add_assoc];exact j⟩⟩
 |i,r :: rs,p :: c,k+1,h,g=>by
  obtain⟨B,X,Y,D,b,a,rfl,q,o,f⟩:=h.2.2.two k (Nat.lt_of_succ_lt_succ g);have e:i+(r :: B).flatten.length=i+r.length+B.flatten.length:=by rw[cU,aH,Nat.add_assoc]
  refine⟨r :: B,X,Y,D,b,a,rfl,by rw[e];exact q,by rw[e];exact o,λR d=>?_⟩
  rw[e];exact⟨h.1,h.2.1,f R d⟩
structure Sr(φ:Nat->Int)(T0:List Nat)(lo:Nat)(rs:List (List Nat))(T:List Nat)(pe:Array Pt):Prop where
 pn:Pn 0 rs pe.toList
 ok:∀ r∈rs,Srt φ r/\0 < r.length
 lo:rs.flatten.length=lo
 pm:(rs.flatten++T).Perm T0
def Sr.sz{b T:Li Nat}{lo:Nat}{a:Array Pt}(h:Sr φ b lo rs T a):a.size=rs.length:=h.pn.len.symm
variable (Oo:Or prog w A s κ g φ n) {pe:Array Pt}{mg:Nat}{T0:Li Nat} (o0:Ok φ n T0)
include Oo o0
def mrg_ok{lo:Nat}{T:Li Nat}{Q:Bool->SortSt->Prop}(h:Sr φ T0 lo rs T pe)(H:i+1 < rs.length)(G:∀ a c m,Sr φ T0 lo a T c->a.length+1=rs.length->Q ae (St κ (im g (a.flatten++T)) c m)):wpS (a9 prog w) A E s (mergeAt' i) Q (St κ (im g (rs.flatten++T)) pe mg):=by
 obtain⟨B,X,Y,D,L,z,rfl,t,p,I⟩:=h.pn.two i H;have n:=h.ok X (bP _ Ls);have l:=h.ok Y (bP _ (Lm _ Ls));have o:∀ R:Li Nat,(B++R :: D).flatten++T=B.flatten++(R++(D.flatten++T)):=λR=>by simp
 have u:(B++X :: Y :: D).flatten++T=B.flatten++(X++(Y++(D.flatten++T))):=by simp
 have f:=h.pm;rw[u]at f;have j:=o0.perm f;obtain⟨_,K,_⟩:=eJ.mp j.d;obtain⟨_,_,J⟩:=eJ.mp K;rw[cC]at t p;rw[u];refine mergeAt_ok Oo (by rw[<-t,eG]) (by rw[<-p,eG]) n.2 l.2 n.1 l.1 (λx e=>j.b x (by simp[e])) (λx e=>j.b x (by simp[e])) (λx e y F=>J x e y (dU _ F)) λR m v k=>?_
 have C:R.length=X.length+Y.length:=by rw[k.length_eq,aH]
 rw[<-o R];refine G (B++R :: D) _ m ⟨?_,λr hr=>?_,?_,?_⟩ (by simp only[aH,aY];omega)
 .have r:=I R C
  rw[cC]at r;rw[Array.toList_eraseIdxIfInBounds,Array.toList_setIfInBounds];exact r
 .rcases bE.mp hr with hr|hr
  .exact h.ok r (dU _ hr)
  .rcases aK.mp hr with rfl|hr
   .exact⟨v,by omega⟩
   .exact h.ok r (bP _ (Lm _ (Lm _ hr)))
 .have:=h.lo
  simp only[List.flatten_append,cU,aH]at this ⊢;omega
 .rw[o R]
  refine List.Perm.trans ?_ f;have q:=(k.append_right (D.flatten++T)).append_left B.flatten;rw[aM X]at q;exact q
def runs_ok{Q:Unit->SortSt->Prop}(h:∀ R pe m,Srt φ R->R.Perm T0->Q () (St κ (im g R) pe m)):wpS (a9 prog w) A E s sortRuns' Q (St κ (im g T0) #[] mg):=by
 refine wpS_bind (wpS_get ?_)
 extract_lets -underBinder size minrun lo
 have hs:size=T0.length:=im_size T0
 clear_value size
 subst hs
 clear_value minrun
 refine wpS_bind (wpS_mono (wpS_forRange (I:=λi b k=>∃ lo rs T pe m,b=(ab,lo)/\k=St κ (im g (rs.flatten++T)) pe m/\Sr φ T0 lo rs T pe/\i<=lo) (Q:=λb k=>∃ lo rs pe m,b=(ab,lo)/\k=St κ (im g (rs.flatten++[])) pe m/\Sr φ T0 T0.length rs [] pe)
  (λi b k _ U u=>?_) (λb k u=>?_) ⟨0,[],T0,#[],mg,rfl,rfl,⟨trivial,λ_ hr=>(nomatch hr),rfl,List.Perm.refl _⟩,aB 0⟩) λb k O=>?_)
 .obtain⟨lo,rs,T,pe,m,rfl,rfl,S,J⟩:=u
  refine w_post λP pd py=>?_
  dsimp (zeta:=af) only
  extract_lets -underBinder l1
  dsimp (zeta:=af) only[l1]
  have Z:lo+T.length=T0.length:=by rw[<-S.lo,<-aH,S.pm.length_eq]
  by_cases q:lo>=T0.length
  .rw[aq q]
   obtain rfl:T=[]:=List.eq_nil_of_length_eq_zero (by omega)
   obtain rfl:lo=T0.length:=by rw[dJ]at Z;omega
   exact wpS_pure (pd _ _ ⟨_,rs,pe,m,rfl,rfl,S⟩)
  rw[ar q];have oT:Ok φ n T:=⟨(eJ.mp (o0.perm S.pm).d).2.1,λx Y=>(o0.perm S.pm).b x (bP _ Y)⟩
  have C:=count_ok Oo (P:=rs.flatten) (T:=T) (pe:=pe) (mg:=m) (E:=E) (Q:=λr k=>∃ R S,r=aa R.length/\0 < R.length/\Srt φ R/\(R++S).Perm T/\k=St κ (im g (rs.flatten++(R++S))) pe m) (by omega) oT λR S H F v=>⟨R,S,rfl,H,F,v,rfl⟩
  rw[S.lo,show T.length=T0.length - lo by omega]at C
  refine wpS_bind (wpS_mono C λr k hr=>?_)
  obtain⟨R,l,rfl,H,F,v,rfl⟩:=hr;dsimp (zeta:=af) only
  extract_lets -underBinder N jp
  have hj:∀ R l,0 < R.length->Srt φ R->(R++l).Perm T->wpS (a9 prog w) A E s (jp () R.length) P (St κ (im g (rs.flatten++(R++l))) pe m):=by
   intro R l H F v;dsimp (zeta:=af) only[jp]
   refine wpS_bind (wpS_get ?_)
   extract_lets -underBinder jp2
   have S1:Sr φ T0 lo rs (R++l) pe:=⟨S.pn,S.ok,S.lo,(v.append_left _).trans S.pm⟩;have M:∀ j a t,Sr φ T0 lo j (R++l) a->wpS (a9 prog w) A E s (jp2 ()) P (St κ (im g (j.flatten++(R++l))) a t):=by
    intro j a t o;dsimp (zeta:=af) only[jp2]
    refine wpS_bind (wpS_modify (wpS_pure (py _ _ ⟨lo+R.length,j++[R],l,a.push (lo,R.length,0),t,rfl,?_,⟨?_,λr hr=>?_,?_,?_⟩,by omega⟩)))
    .show St κ (im g (j.flatten++(R++l))) (a.push (lo,R.length,0)) t=_
     simp
    .rw[Array.toList_push]
     have r:=o.pn.push R 0;rw[cC,o.lo]at r;exact r
    .rcases bE.mp hr with hr|hr
     .exact o.ok r hr
     .obtain rfl:=aI.mp hr
      exact⟨F,H⟩
    .have:=o.lo
     simp[this]
    .have:=o.pm
     simpa using this
   clear_value jp2
   show wpS _ _ _ _ (match pe.back? with|some (s1,n1,_)=>_|_=>_) _ _
   split
   .extract_lets -underBinder pw
    refine wpS_bind (wpS_mono (wpS_forRange (I:=λi b k=>∃ j a t,b=(ab,())/\k=St κ (im g (j.flatten++(R++l))) a t/\Sr φ T0 lo j (R++l) a) (Q:=λb k=>∃ j a t,b=(ab,())/\k=St κ (im g (j.flatten++(R++l))) a t/\Sr φ T0 lo j (R++l) a)
     (λi b k _ U u=>?_) (λb k u=>u) ⟨rs,pe,m,rfl,rfl,S1⟩) λb k O=>?_)
    .obtain⟨j,a,t,rfl,rfl,o⟩:=u
     refine wpS_bind (wpS_get ?_);show wpS _ _ _ _ (match (if a.size > 1 then a[a.size - 2]? else ab) with|some (_,_,W)=>_|_=>_) _ _
     split
     .rename_i e
      have F:a.size > 1:=by
       by_cases z:a.size > 1
       .exact z
       .rw[ar z]at e;exact nomatch e
      split
      .exact wpS_pure ⟨j,a,t,rfl,rfl,o⟩
      .have sz:=o.sz
       exact wpS_bind (mrg_ok Oo o0 o (show a.size - 2+1 < j.length by omega) λB D X S2 _=>wpS_pure ⟨B,D,X,rfl,rfl,S2⟩)
     .exact wpS_pure ⟨j,a,t,rfl,rfl,o⟩
    .obtain⟨j,a,t,rfl,rfl,o⟩:=O
     refine wpS_bind (wpS_modify ?_);refine M j _ t ⟨?_,o.ok,o.lo,o.pm⟩;show Pn 0 j (a.modify (a.size - 1) _).toList;rw[Array.toList_modify];exact o.pn.mod (f:=λx=>(x.1,x.2.1,pw)) (λp=>⟨rfl,rfl⟩) _
   .exact M rs pe m S1
  clear_value jp
  split
  .rename_i q5
   have q5:R.length < minrun:=q5;refine wpS_bind (wpS_lift (wpAny_rule ⟨rfl,?_⟩))
   extract_lets -underBinder force
   have hp:=v.length_eq;rw[aH]at hp;have hf:force=min (T0.length - lo) minrun:=rfl;have Bi:=bin_ok Oo (P:=rs.flatten) (T:=R++l) (N:=force) (ok:=R.length) (pe:=pe) (mg:=m) (E:=E) (Q:=λr k=>∃ y G,r=ae/\y.length=force/\Srt φ y/\(y++G).Perm T/\k=St κ (im g (rs.flatten++(y++G))) pe m) H (by omega) (by rw[aH];omega) (oT.perm v) (by rw[List.take_left];exact F) λy G a1 a2 a3=>⟨y,G,rfl,a1,a2,a3.trans v,rfl⟩
   rw[S.lo]at Bi;refine wpS_bind (wpS_mono Bi λr k hr=>?_)
   obtain⟨y,G,rfl,a1,a2,a3,rfl⟩:=hr;have r:=hj y G (by omega) a2 a3
   rw[a1]at r;exact r
  .exact hj R l H F v
 .obtain⟨lo,rs,T,pe,m,rfl,rfl,S,J⟩:=u
  rw[cG (aU _)]at J;have Z:lo+T.length=T0.length:=by rw[<-S.lo,<-aH,S.pm.length_eq]
  obtain rfl:T=[]:=List.eq_nil_of_length_eq_zero (by omega)
  obtain rfl:lo=T0.length:=by rw[dJ]at Z;omega
  exact⟨_,rs,pe,m,rfl,rfl,S⟩
 .obtain⟨lo,rs,pe,m,rfl,rfl,S⟩:=O
  have K:∀ {rs:Li (Li Nat)},(∀ r∈rs,Srt φ r/\0 < r.length)->rs.length<=rs.flatten.length:=by
   intro rs
   induction rs with
   |nil=>exact λ_=>aB 0
   |cons r rs ih=>
    intro h;have:=ih λx Y=>h x (Lm _ Y)
    have:=(h r Ls).2;rw[cU,aH,aY];omega
  have L:=K S.ok;rw[S.lo]at L;refine wpS_bind (wpS_mono (wpS_forRange (I:=λi b k=>∃ rs pe m,b=(ab,())/\k=St κ (im g (rs.flatten++[])) pe m/\Sr φ T0 T0.length rs [] pe/\rs.length+i<=T0.length) (Q:=λb k=>∃ rs pe m,b=(ab,())/\k=St κ (im g (rs.flatten++[])) pe m/\Sr φ T0 T0.length rs [] pe/\rs.length<=1)
   (λi b k _ U u=>?_) (λb k u=>?_) ⟨rs,pe,m,rfl,rfl,S,L⟩) λb k O=>?_)
  .obtain⟨rs,pe,m,rfl,rfl,S,V⟩:=u
   have sz:=S.sz;refine wpS_bind (wpS_get ?_);show wpS _ _ _ _ (if pe.size<=1 then _ else _) _ _
   split
   .exact wpS_pure ⟨rs,pe,m,rfl,rfl,S,by omega⟩
   .rename_i q
    have U:∀ (c:Prop) [Decidable c],(if c then pe.size - 2 - 1 else pe.size - 2)+1 < rs.length:=λc _=>by split<;>omega
    exact wpS_bind (mrg_ok Oo o0 S (U _) λB D X S2 e2=>wpS_pure ⟨B,D,X,rfl,rfl,S2,by omega⟩)
  .obtain⟨rs,pe,m,rfl,rfl,S,V⟩:=u
   rw[cG (aU _)]at V;exact⟨rs,pe,m,rfl,rfl,S,by omega⟩
  .obtain⟨rs,pe,m,rfl,rfl,S,V⟩:=O
   refine wpS_pure (h _ pe m ?_ S.pm)
   match rs,S,V with
   |[],_,_=>exact List.Pairwise.nil
   |[r],S,_=>rw[List.flatten_singleton,bD];exact(S.ok r Ls).1
end
end LS
namespace Dp
open PySem
variable{α:Type}
def Zb{x:α}{C:Prop}(h:(ab:Ot α)=aa x):C:=nomatch h
noncomputable abbrev S(x:String):Str:=Str.ofString x
set_option genInjectivity true in
inductive D where
 |non|bl (b:Bool)|int (i:Int)|str (x:Str)|tup (xs:List D)|lst (id:Nat)|dct (ks:List Str) (vs:List D)|obj (i:Nat)|kt (ks:List Str)|dic (id:Nat)
abbrev Env:=Li (Ot D)
abbrev Xl:=Bool×Li D
abbrev Za:=Li Xl
abbrev Res:=Ot (D×Za)
abbrev Fn:=Li D->Za->Res
noncomputable def o2{α b a:Type}(f:α->b->a):Ot α->Ot b->Ot a
 |some x,aa y=>aa (f x y)
 |_,_=>ab
noncomputable def og{α:Type}(p:Prop)[Decidable p](o:Ot α):Ot α:=if p then o else ab
mutual
noncomputable def Zv:D->D->Bool
 |.non,.non=>ae
 |.bl a,.bl b=>a==b
 |.int a,.int b=>ak (a=b)
 |.str a,.str b=>ak (a=b)
 |.tup a,.tup b=>Zq a b
 |_,_=>af
noncomputable def Zq:Li D->Li D->Bool
 |[],[]=>ae
 |x :: b,y :: a=>Zv x y&&Zq b a
 |_,_=>af
end
mutual
noncomputable def okD:Nat->D->Bool
 |_,.non=>ae
 |_,.int _=>ae
 |_,.str _=>ae
 |n+1,.tup a=>Yj n a
 |_,_=>af
noncomputable def Yj:Nat->Li D->Bool
 |_,[]=>ae
 |n,x :: a=>okD n x&&Yj n a
end
inductive Sc where
 |non|bl (b:Bool)|int (i:Int)|str (x:Str)
noncomputable def scD:D->Ot Sc
 |.non=>aa .non
 |.bl b=>aa (.bl b)
 |.int i=>aa (.int i)
 |.str x=>aa (.str x)
 |_=>ab
noncomputable def ZfY:Sc->Sc->Ot Bool
 |.non,.non=>aa ae
 |.non,.bl _=>aa af
 |.non,.int _=>aa af
 |.non,.str _=>aa af
 |.bl _,.non=>aa af
 |.bl a,.bl b=>aa (a==b)
 |.bl _,.int _=>ab
 |.bl _,.str _=>aa af
 |.int _,.non=>aa af
 |.int _,.bl _=>ab
 |.int a,.int b=>aa (ak (a=b))
 |.int _,.str _=>aa af
 |.str _,.non=>aa af
 |.str _,.bl _=>aa af
 |.str _,.int _=>aa af
 |.str a,.str b=>aa (ak (a=b))
def eqT(b:Li D):D->Ot Bool
 |.tup a=>if okD 8 (.tup b)&&okD 8 (.tup a) then aa (Zq b a) else ab
 |_=>ab
def eqD(x y:D):Ot Bool:=match x with
 |.tup a=>eqT a y
 |x=>(o2 ZfY (scD x) (scD y)).join
inductive Ty where
 |int|bool|str|tuple
 deriving DecidableEq
inductive CE where
 |v (i:Nat)|c (d:D)
 |bin (op:Operator) (a b:CE)|neg (a:CE)
 |cmp (op:CmpOp) (a b:CE)
 |not (a:CE)|and (a b:CE)|or (a b:CE)|ife (c a b:CE)
 |tupE (a:CE)|lstE (a:CE)|aN|aC (a r:CE)
 |ix (a b:CE)|slice (a lo hi:CE)|nop|part (a:CE)
 |call (f:Nat) (args:CE) (ds:List D)
 |len (a:CE)|tOf (a:CE)|listOf (a:CE)|intOf (a:CE)|min (a b:CE)|max (a b:CE)|isi (T:Ty) (a:CE)
 |comp (rng:Bool) (fr:List Nat) (it elt Y3:CE)|comp2 (fr:List Nat) (it elt Y3:CE)|compT (fr:List Nat) (it elt Y3:CE)|lstR (a b:CE)|new (i:Nat)|meth (tab:List (Nat×Nat)) (o a:CE)|isc (l:List Nat) (a:CE)|tix (o a:CE)
 |rs (k:Bool) (a:CE)
 |inv (a:CE)|tupR (a:CE)|look (ks:List Str) (ds:List D) (a:CE)|dget (a k d:CE)|all (a:CE)|any (a:CE)|inR (ng:Bool) (a b:CE)
 |dict (ks:List Str) (a:CE)|dnew|strOf (a:CE)|joinE (a b:CE)|starts (a b:CE)|rng2 (a b:CE)|srt (a:CE)
 |comp3 (fr:List Nat) (it elt Y3:CE)|dd (a b e:CE)|dgN (o k d:CE)|pop (o:CE)|ksrt (o:CE)
inductive CS where
 |skip|seq (a b:CS)|ret (e:CE)|set (i:Nat) (e:CE)|app (i:Nat) (e:CE)|ext (i:Nat) (e:CE)|put (i:Nat) (k e:CE)
 |ite (c:CE) (a b:CS)|for1 (i:Nat) (rng:Bool) (it:CE) (b:CS)|for3 (i:Nat) (it:CE) (b:CS)|forP (i j:Nat) (it:CE) (b:CS)|forE (i j:Nat) (it:CE) (b:CS)|set2 (i j:Nat) (e:CE)|for4 (i j l:Nat) (it:CE) (b:CS)|for2 (i j:Nat) (it:CE) (b:CS)|whl (c:CE) (b:CS)|brk|cont|stop|set3 (i j l:Nat) (e:CE)|act (e:CE)|dput (i:Nat) (a b e:CE)|app2 (o e:CE)
noncomputable def ZP(i:Int):Bool:=ak (-(2 ^ 64) < i)&&ak (i < 2 ^ 64)
noncomputable def Zp:Nat:=1000000
def Q4(a:Operator)(i j:Int):Ot Int:=
 match a with
 |.Add=>aa (i+j)
 |.Sub=>aa (i - j)
 |.Mult=>if ZP i||ZP j then aa (i * j) else ab
 |.FloorDiv=>if 0 < j/\j < 1073741824 then aa (i / j) else if j < 0/\-1073741824 < j then aa (i.fdiv j) else ab
 |.Mod=>if 0 < j then aa (i % j) else if j < 0 then aa (i.fmod j) else ab
 |.LShift=>if 0<=j/\j<=1000/\ZP i=ae then aa (i * 2 ^ j.toNat) else ab
 |.BitAnd=>if 0<=i/\0<=j then aa ((i.toNat &&& j.toNat:Nat):Int) else if 0<=i/\j < 0 then aa (i - ((i.toNat &&& (-j - 1).toNat:Nat):Int)) else ab
 |.BitOr=>if 0<=i/\0<=j then aa ((i.toNat ||| j.toNat:Nat):Int) else ab
 |_=>ab
noncomputable def V4:Operator->Bool
 |.Add=>ae
 |_=>af
noncomputable def Zat:Operator->Bool
 |.Mult=>ae
 |_=>af
def Q9(a b:Nat)(c:Za):Res:=match c[a]?,c[b]? with
 |some (_,e),aa (_,d)=>if e.length+d.length<=Zp then aa (.lst c.length,c++[(ae,e++d)]) else ab
 |_,_=>ab
noncomputable def Zgr(a:Nat)(j:Int)(b:Za):Res:=match b[a]? with
 |some (ae,[x])=>if j<=1000/\-1000<=j then aa (.lst b.length,b++[(ae,ag j.toNat x)]) else ab
 |_=>ab
noncomputable def repT(a:Li D)(j:Int)(b:Za):Res:=match a with
 |[x]=>if j<=1000/\-1000<=j then aa (.tup (ag j.toNat x),b) else ab
 |_=>ab
def Uz(d:Operator)(x y:D)(c:Za):Res:=
 match x,y with
 |.int i,.int j=>match Q4 d i j with
  |some k=>aa (.int k,c)
  |none=>ab
 |.tup e,.tup f=>if V4 d=ae/\e.length+f.length<=Zp then aa (.tup (e++f),c) else ab
 |.tup e,.int j=>if Zat d=ae then repT e j c else ab
 |.lst a,.lst b=>if V4 d=ae then Q9 a b c else ab
 |.lst a,.int j=>if Zat d=ae then Zgr a j c else ab
 |.str x,.str y=>if V4 d=ae/\x.length+y.length<=Zp then aa (.str (x++y),c) else ab
 |_,_=>ab
noncomputable def Zg6(x k:Str):Bool:=!(PySem.Builtin.Str.occurrences x k 0 x.length 1).isEmpty
noncomputable def chS(x:Str):Li Str:=x.cps.toList.map λc=>⟨#[c]⟩
noncomputable def QK(_:Za)(_ _:Li D):Ot Bool:=ab
def Zeq(a ys:Li D):Ot Bool:=if (a.isEmpty||ys.isEmpty)=ae then aa (a.isEmpty&&ys.isEmpty) else if Yj 7 a&&Yj 7 ys then aa (Zq a ys) else ab
def ZfZ(c:Za)(b:Li D):D->Ot Bool
 |.tup a=>(match eqT b (.tup a) with
  |some k=>aa k
  |none=>QK c b a)
 |_=>ab
def ZfX(e:Za)(a:Nat):D->Ot Bool
 |.lst b=>(o2 (λ(c d:Xl)=>Zeq c.2 d.2) e[a]? e[b]?).join
 |_=>ab
def eqS(b:Za)(x y:D):Ot Bool:=match x with
 |.lst a=>ZfX b a y
 |.tup c=>ZfZ b c y
 |x=>eqD x y
noncomputable def Z4:Int->Li D->Ot Bool
 |_,[]=>aa af
 |k,.int i :: r=>(Z4 k r).map λb=>ak (i=k)||b
 |_,_=>ab
noncomputable def Z5:Str->Li D->Ot Bool
 |_,[]=>aa af
 |k,.str i :: r=>(Z5 k r).map λb=>ak (i=k)||b
 |_,_=>ab
noncomputable def ZeB:D->Ot Int
 |.int i=>aa i
 |_=>ab
noncomputable def iB(i:Int):D->Bool
 |.int a=>ak (a=i)
 |_=>af
def isK(i j:Int):D->Bool
 |.tup [x,y,_]=>iB i x&&iB j y
 |_=>af
noncomputable def ZhP:D->Ot D
 |.tup [_,_,v]=>aa v
 |_=>ab
def Z8(a:Li D)(i j:Int):Ot D:=(a.find? (isK i j)).bind ZhP
def X2(a:Li D)(i j:Int)(v:D):Li D:=if a.any (isK i j)=ae then a.map (λe=>if isK i j e=ae then .tup [.int i,.int j,v] else e) else a++[.tup [.int i,.int j,v]]
def dAt(d:Li D)(a:Nat)(b:Za):Ot (Ot D):=match d with
 |[x,y]=>o2 (λ(p:Int×Int) (c:Xl)=>Z8 c.2 p.1 p.2) (o2 Prod.mk (ZeB x) (ZeB y)) b[a]?
 |_=>ab
noncomputable def Z0:Li Str->Li D->Str->Ot D
 |k :: b,v :: a,x=>if k=x then aa v else Z0 b a x
 |_,_,_=>ab
noncomputable def Jo(f:Int->Int->Bool):D->D->Ot Bool
 |.int i,.int j=>aa (f i j)
 |_,_=>ab
def geD:D->D->Ot Bool
 |.tup [.int a,.int b],.tup [.int c,.int d]=>aa (if a=c then ak (d<=b) else ak (c<=a))
 |x,y=>Jo (λi j=>ak (j<=i)) x y
def Vl:Li D->Li D->Ot Bool
 |x :: d,y :: c=>if Zv x y=ae then Vl d c else match x,y with
  |.int i,.int j=>aa (ak (i < j))
  |.str a,.str b=>aa (ak (a.cps.toList < b.cps.toList))
  |_,_=>ab
 |[],c=>aa (ak (0 < c.length))
 |_ :: _,[]=>aa af
def ltD(x y:D):Ot Bool:=match x,y with
 |.tup b,.tup a=>if okD 8 (.tup b)&&okD 8 (.tup a) then Vl b a else ab
 |x,y=>Jo (λi j=>ak (i < j)) x y
def ltS(_:Za)(x y:D):Ot Bool:=ltD x y
def inS(c:Za)(x y:D):Ot Bool:=match x,y with
 |.int k,.lst a=>match c[a]? with
  |some (_,b)=>Z4 k b
  |none=>ab
 |.str k,.lst a=>match c[a]? with
  |some (_,b)=>Z5 k b
  |none=>ab
 |.int k,.tup b=>Z4 k b
 |.str k,.tup b=>Z5 k b
 |.str k,.dct d e=>aa (Z0 d e k).isSome
 |.tup d,.dic a=>(dAt d a c).map Option.isSome
 |.str k,.str x=>aa (Zg6 x k)
 |_,_=>ab
def niS(a:Za)(x y:D):Ot Bool:=match y with
 |.dct _ _=>ab
 |y=>(inS a x y).map not
noncomputable def isN:D->Ot Bool
 |.non=>aa ae
 |.int _=>aa af
 |.str _=>aa af
 |.bl _=>aa af
 |.tup _=>aa af
 |.lst _=>aa af
 |.dct _ _=>ab
 |.obj _=>ab
 |.kt _=>ab
 |.dic _=>ab
noncomputable def isB(b:Bool):D->Ot Bool
 |.bl a=>aa (a==b)
 |_=>ab
def isD(x:D):D->Ot Bool
 |.non=>isN x
 |.bl b=>isB b x
 |_=>ab
def ZbY(b:CmpOp)(x y:D)(a:Za):Ot Bool:=
 match b with
 |.Lt=>ltS a x y
 |.LtE=>Jo (λi j=>ak (i<=j)) x y
 |.Gt=>Jo (λi j=>ak (j < i)) x y
 |.GtE=>geD x y
 |.Eq=>eqS a x y
 |.NotEq=>(eqS a x y).map not
 |.In=>inS a x y
 |.NotIn=>niS a x y
 |.Is=>isD x y
 |.IsNot=>(isD x y).map not
noncomputable def ixN(n:Nat)(i:Int):Ot Nat:=if 0<=i then (if i < n then aa i.toNat else ab) else if -(n:Int)<=i then aa (i+n).toNat else ab
def atD(a:Li D)(i:Int):Ot D:=(ixN a.length i).bind λj=>a[j]?
def ixD(x y:D)(d:Za):Ot D:=
 match x,y with
 |.tup c,.int i=>atD c i
 |.lst a,.int i=>match d[a]? with
  |some (_,c)=>atD c i
  |none=>ab
 |.dct b e,.str k=>Z0 b e k
 |.kt b,.int i=>atD (b.map .str) i
 |.dic a,.tup b=>(dAt b a d).join
 |.str x,.int i=>if x.length<=Zp then atD ((chS x).map .str) i else ab
 |_,_=>ab
noncomputable def sIx(n d:Nat):Ot Int->Nat
 |none=>d
 |some i=>if i < 0 then (i+n).toNat else Nat.min i.toNat n
def Xg(a:Li D)(lo b:Ot Int):Li D:=(a.drop (sIx a.length 0 lo)).take (sIx a.length a.length b - sIx a.length 0 lo)
def Z6(x:D)(lo d:Ot Int)(c:Za):Res:=
 match x with
 |.tup b=>if sIx b.length 0 lo=0/\sIx b.length b.length d=b.length then aa (.tup b,c) else aa (.tup (Xg b lo d),c)
 |.lst a=>match c[a]? with
  |some (_,b)=>aa (.lst c.length,c++[(ae,Xg b lo d)])
  |none=>ab
 |_=>ab
def ZeI(x:D)(c:Za):Ot Int:=
 match x with
 |.tup b=>aa b.length
 |.lst a=>match c[a]? with
  |some (_,b)=>aa b.length
  |none=>ab
 |.kt d=>aa d.length
 |.str x=>if x.length<=Zp then aa x.length else ab
 |.dic a=>match c[a]? with
  |some (_,b)=>aa b.length
  |none=>ab
 |_=>ab
noncomputable def ZeE(T:Ty):D->Ot Bool
 |.int _=>aa (ak (T=.int))
 |.bl _=>aa (ak (T=.int)||ak (T=.bool))
 |.str _=>aa (ak (T=.str))
 |.tup _=>aa (ak (T=.tuple))
 |.non=>aa af
 |_=>ab
noncomputable def Wv(rng:Bool)(x:D):Ot (Li D):=
 match rng,x with
 |true,.int n=>if n < 2 ^ 62/\-(2 ^ 62)<=n then aa ((aj n.toNat).map λ(k:Nat)=>D.int (k:Int)) else ab
 |false,.tup a=>aa a
 |_,_=>ab
noncomputable def ZeY(a b c:Int):Nat:=if 0 < c then (if a < b then ((b - a - 1) / c+1).toNat else 0) else (if b < a then ((a - b - 1) / (-c)+1).toNat else 0)
def ZeX(a b c:Int):Li Int:=(aj (ZeY a b c)).map λ(k:Nat)=>a+k * c
noncomputable def Yb(ok:Za->Prop)(f:D->Za->Res)(c:D->Za->Res):Li D->Za->Ot (Li D×Za)
 |[],b=>open Classical in if ok b then aa ([],b) else ab
 |x :: g,b=>open Classical in if ok b then (match c x b with
  |some (.bl ae,a)=>match f x a with
   |some (y,e)=>match Yb ok f c g e with
    |some (h,d)=>aa (y :: h,d)
    |none=>ab
   |none=>ab
  |some (.bl af,a)=>Yb ok f c g a
  |_=>ab) else ab
def Xb(rng:Bool)(x:D)(e:Za):Ot (Li D×(Za->Prop)):=match Wv rng x with
 |some d=>aa (d,λ_=>True)
 |none=>match rng,x with
  |false,.lst a=>match e[a]? with
   |some c=>aa (c.2,λs=>s[a]?=aa c)
   |none=>ab
  |false,.dct [] [.int a,.int b]=>aa ((ZeX a b 1).map .int,λ_=>True)
  |_,_=>ab
noncomputable def Jk:D->Bool
 |.tup [_,_]=>ae
 |_=>af
def Uq(x:D)(d:Za):Ot (Li D×(Za->Prop)):=match x with
 |.tup b=>if b.all Jk=ae then aa (b,λ_=>True) else ab
 |.lst a=>match d[a]? with
  |some c=>if c.2.all Jk=ae then aa (c.2,λs=>s[a]?=aa c) else ab
  |none=>ab
 |_=>ab
abbrev Ev:=Env->Za->Res
noncomputable def Zl(c:Ev)(g:D->Za->Res):Ev:=λU b=>match c U b with
 |some (x,a)=>g x a
 |none=>ab
noncomputable def ZE(e d:Ev)(g:D->D->Za->Res):Ev:=λU c=>match e U c with
 |some (x,b)=>match d U b with
  |some (y,a)=>g x y a
  |none=>ab
 |none=>ab
noncomputable def Yz(h f e:Ev)(g:D->D->D->Za->Res):Ev:=λU d=>match h U d with
 |some (x,c)=>match f U c with
  |some (y,b)=>match e U b with
   |some (z,a)=>g x y z a
   |none=>ab
  |none=>ab
 |none=>ab
noncomputable def Y3(e c d:Ev):Ev:=λU b=>match e U b with
 |some (.bl ae,a)=>c U a
 |some (.bl af,a)=>d U a
 |_=>ab
noncomputable def YT(i:Nat):Ev:=λU a=>match U[i]? with
 |some (aa d)=>aa (d,a)
 |_=>ab
noncomputable def evC(d:D):Ev:=λ_ a=>aa (d,a)
noncomputable def ZeO:D->Za->Res
 |.int i,a=>aa (.int (-i),a)
 |_,_=>ab
noncomputable def ZaO:D->Za->Res
 |.bl k,a=>aa (.bl (!k),a)
 |_,_=>ab
def VQ(b:CmpOp)(x y:D)(a:Za):Res:=match ZbY b x y a with
 |some k=>aa (.bl k,a)
 |none=>ab
noncomputable def ZaH:D->Za->Res
 |.tup b,a=>aa (.lst a.length,a++[(ae,b)])
 |_,_=>ab
noncomputable def VS:D->D->Za->Res
 |x,.tup a,b=>if a.length < 1000 then aa (.tup (x :: a),b) else ab
 |_,_,_=>ab
def ixR(x y:D)(a:Za):Res:=match ixD x y a with
 |some d=>aa (d,a)
 |none=>ab
def YR:D->D->D->Za->Res
 |x,.non,.non,a=>Z6 x ab ab a
 |x,.int i,.non,a=>Z6 x (aa i) ab a
 |x,.non,.int j,a=>Z6 x ab (aa j) a
 |x,.int i,.int j,a=>Z6 x (aa i) (aa j) a
 |_,_,_,_=>ab
noncomputable def Uc:D->Za->Res
 |.int i,a=>aa (.int i,a)
 |_,_=>ab
noncomputable def X1(g:Fn)(c:Li D):D->Za->Res
 |.tup a,b=>g (a++c) b
 |_,_=>ab
def ZaD(x:D)(a:Za):Res:=match ZeI x a with
 |some n=>aa (.int n,a)
 |none=>ab
noncomputable def VA:D->Za->Res
 |.tup b,a=>aa (.tup b,a)
 |.lst l,a=>match a[l]? with
  |some (_,b)=>aa (.tup b,a)
  |none=>ab
 |_,_=>ab
noncomputable def Qx:D->Za->Res
 |.tup b,a=>aa (.lst a.length,a++[(ae,b)])
 |.lst l,a=>match a[l]? with
  |some (_,b)=>aa (.lst a.length,a++[(ae,b)])
  |none=>ab
 |_,_=>ab
def Zau(T:Ty)(x:D)(a:Za):Res:=match ZeE T x with
 |some k=>aa (.bl k,a)
 |none=>ab
noncomputable def Zfm:Li D->Ot (Li D)
 |[.int i,.int j]=>aa (if j < i then [.int j,.int i] else [.int i,.int j])
 |_=>ab
def rsL(k:Bool)(a:Li D):Ot (Li D):=if k then Zfm a else aa a.reverse
def rsD(k:Bool):D->Za->Res
 |.lst a,b=>match b[a]? with
  |some (_,d)=>(match rsL k d with
   |some c=>aa (.lst b.length,b++[(ae,c)])
   |none=>ab)
  |none=>ab
 |_,_=>ab
noncomputable def ZeC:D->Za->Res
 |.int i,a=>aa (.int (-i - 1),a)
 |_,_=>ab
def ZaF(b:Li Str)(c:Li D):D->Za->Res
 |.str k,a=>match Z0 b c k with
  |some d=>aa (d,a)
  |none=>ab
 |_,_=>ab
def getD:D->D->D->Za->Res
 |.dct c a,.str k,d,b=>aa ((Z0 c a k).getD d,b)
 |_,_,_,_=>ab
noncomputable def ZgU(b:Bool):D->D->Za->Res
 |.int x,.int n,a=>if -(2 ^ 62)<=n/\n < 2 ^ 62 then aa (.bl (b != ak (0<=x/\x < n)),a) else ab
 |_,_,_=>ab
noncomputable def Zdo(a:Li Str):D->Za->Res
 |.tup b,c=>if a.length=b.length/\(a.Nodup/\a≠[])/\a.length<=15 then aa (.dct a b,c) else ab
 |_,_=>ab
noncomputable def one(d:D):Li (Ot D):=[aa d]
noncomputable def two:D->Li (Ot D)
 |.tup [a,b]=>[aa a,aa b]
 |_=>[]
noncomputable def ZhS:D->Li (Ot D)
 |.tup [a,b,c]=>[aa a,aa b,aa c]
 |_=>[]
def ddE(h g f:Env->Za->Res):Env->Za->Res:=λU b=>match h U (b++[(ae,[])]) with
 |some (.int i,d)=>match g U d with
  |some (.int j,c)=>match f U c with
   |some (v,a)=>match a[b.length]? with
    |some (ae,e)=>if e.length < Zp then aa (.dic b.length,a.set b.length (ae,X2 e i j v)) else ab
    |_=>ab
   |none=>ab
  |_=>ab
 |_=>ab
def gtD:D->D->D->Za->Res
 |.dic a,.tup c,d,b=>(dAt c a b).map λo=>(o.getD d,b)
 |_,_,_,_=>ab
noncomputable def ZcF:D->Za->Res
 |.lst a,c=>match c[a]? with
  |some (ae,b)=>(b[b.length - 1]?).map λd=>(d,c.set a (ae,b.dropLast))
  |_=>ab
 |_,_=>ab
noncomputable def kOf:D->Ot (Int×Int)
 |.tup [.int i,.int j,_]=>aa (i,j)
 |_=>ab
noncomputable def Vp(p:Int×Int):Int:=p.1 * 1000+p.2
def Zu(a:Li D):Li (Int×Int):=a.map λe=>(kOf e).getD (0,0)
noncomputable def prD(p:Int×Int):D:=.tup [.int p.1,.int p.2]
def okP(a:Li (Int×Int)):Bool:=a.all (λp=>ak (0<=p.1/\p.1 < 1000/\0<=p.2/\p.2 < 1000))&&ak ((a.map Vp).Nodup)
def atP(a:Li (Int×Int))(i:Nat):Int:=Vp (a.getD i (0,0))
def ZaZ(a:Li (Int×Int)):Li Nat:=(aj a.length).mergeSort λi j=>ak (atP a i<=atP a j)
def ZR{a:Type}(c:Li (Int×Int))(z:a)(b:Li a):Li a:=(ZaZ c).map λi=>b.getD i z
def Qu:D->Za->Res
 |.dic a,c=>match c[a]? with
  |some (_,b)=>if b.length<=400/\okP (Zu b)=ae then aa (.lst c.length,c++[(ae,ZR (Zu b) .non ((Zu b).map prD))]) else ab
  |none=>ab
 |_,_=>ab
noncomputable def Z9(b:D->Li (Ot D))(U:Env)(a:Li Nat)(d:D):Env:=b d++a.map λi=>(U[i]?).join
def Xj(b:D->Li (Ot D))(w:D->Za->Ot (Li D×(Za->Prop)))(f:Li Nat)(i j k:Ev):Ev:=λU h=>match i U h with
 |some (x,c)=>match w x c with
  |some (e,ok)=>if e.length<=1000 then
    match Yb ok (λd s=>j (Z9 b U f d) s) (λd s=>k (Z9 b U f d) s) e c with
    |some (g,a)=>aa (.lst a.length,a++[(ae,g)])
    |none=>ab
   else ab
  |none=>ab
 |none=>ab
noncomputable def Zdp:Ev:=λ_ a=>aa (.dic a.length,a++[(ae,[])])
def ev(F:Nat->Fn):CE->Ev
 |.v i=>YT i
 |.c d=>evC d
 |.bin j a b=>ZE (ev F a) (ev F b) (Uz j)
 |.neg a=>Zl (ev F a) ZeO
 |.cmp j a b=>ZE (ev F a) (ev F b) (VQ j)
 |.not a=>Zl (ev F a) ZaO
 |.and a b=>Y3 (ev F a) (ev F b) (evC (.bl af))
 |.or a b=>Y3 (ev F a) (evC (.bl ae)) (ev F b)
 |.ife c a b=>Y3 (ev F c) (ev F a) (ev F b)
 |.tupE a=>ev F a
 |.lstE a=>Zl (ev F a) ZaH
 |.aN=>evC (.tup [])
 |.aC a r=>ZE (ev F a) (ev F r) VS
 |.ix a b=>ZE (ev F a) (ev F b) ixR
 |.slice a lo s=>Yz (ev F a) (ev F lo) (ev F s) YR
 |.nop=>evC .non
 |.part a=>Zl (ev F a) Uc
 |.call f a p=>Zl (ev F a) (X1 (F f) p)
 |.len a=>Zl (ev F a) ZaD
 |.tOf a=>Zl (ev F a) VA
 |.listOf a=>Zl (ev F a) Qx
 |.intOf _=>λ_ _=>ab
 |.min _ _=>λ_ _=>ab
 |.max _ _=>λ_ _=>ab
 |.isi T a=>Zl (ev F a) (Zau T)
 |.rs k a=>Zl (ev F a) (rsD k)
 |.inv a=>Zl (ev F a) ZeC
 |.tupR _=>λ_ _=>ab
 |.look l p a=>Zl (ev F a) (ZaF l p)
 |.dget a k d=>Yz (ev F a) (ev F k) (ev F d) getD
 |.inR q a b=>ZE (ev F a) (ev F b) (ZgU q)
 |.all _=>λ_ _=>ab
 |.any _=>λ_ _=>ab
 |.comp rng n m g h=>Xj one (Xb rng) n (ev F m) (ev F g) (ev F h)
 |.comp2 _ _ _ _=>λ_ _=>ab
 |.compT n m g h=>Xj two Uq n (ev F m) (ev F g) (ev F h)
 |.lstR _ _=>λ_ _=>ab
 |.new _=>λ_ _=>ab
 |.meth _ _ _=>λ_ _=>ab
 |.isc _ _=>λ_ _=>ab
 |.tix _ _=>λ_ _=>ab
 |.dict l a=>Zl (ev F a) (Zdo l)
 |.dnew=>Zdp
 |.strOf _=>λ_ _=>ab
 |.joinE _ _=>λ_ _=>ab
 |.starts _ _=>λ_ _=>ab
 |.rng2 _ _=>λ_ _=>ab
 |.srt _=>λ_ _=>ab
 |.comp3 _ _ _ _=>λ_ _=>ab
 |.dd a b e=>ddE (ev F a) (ev F b) (ev F e)
 |.dgN o k d=>Yz (ev F o) (ev F k) (ev F d) gtD
 |.pop o=>Zl (ev F o) ZcF
 |.ksrt o=>Zl (ev F o) Qu
inductive Fl where
 |nx (U:Env)|rt (d:D)|bk (U:Env)|ct (U:Env)
noncomputable def Zh(U:Env)(i:Nat)(d:D):Env:=U.set i (aa d)
noncomputable def Zi(b:D->Env->Za->Ot (Fl×Za)):Li D->Env->Za->Ot (Fl×Za)
 |[],U,c=>aa (.nx U,c)
 |d :: e,U,c=>match b d U c with
  |some (.nx U',a)=>Zi b e U' a
  |some (.ct U',a)=>Zi b e U' a
  |some (.bk U',a)=>aa (.nx U',a)
  |some (.rt v,a)=>aa (.rt v,a)
  |none=>ab
noncomputable def YU(c:D->Env->Za->Ot (Fl×Za))(a:Nat):Nat->Nat->Env->Za->Ot (Fl×Za)
 |0,i,U,e=>match e[a]? with
  |some (_,f)=>if f.length<=i then aa (.nx U,e) else ab
  |none=>ab
 |n+1,i,U,e=>match e[a]? with
  |some (_,f)=>match f[i]? with
   |none=>aa (.nx U,e)
   |some d=>match c d U e with
    |some (.nx U',b)=>YU c a n (i+1) U' b
    |some (.ct U',b)=>YU c a n (i+1) U' b
    |some (.bk U',b)=>aa (.nx U',b)
    |some (.rt v,b)=>aa (.rt v,b)
    |none=>ab
  |none=>ab
abbrev Ex:=Env->Za->Ot (Fl×Za)
noncomputable def YQ(f g:Ex):Ex:=λU b=>match f U b with
 |some (.nx U',a)=>g U' a
 |r=>r
noncomputable def UZ(f:Ev):Ex:=λU b=>match f U b with
 |some (d,a)=>aa (.rt d,a)
 |none=>ab
def Vv(i:Nat)(f:Ev):Ex:=λU b=>match f U b with
 |some (d,a)=>aa (.nx (Zh U i d),a)
 |none=>ab
def Uk(i j:Nat)(f:Ev):Ex:=λU b=>match f U b with
 |some (.tup [x,y],a)=>aa (.nx (Zh (Zh U i x) j y),a)
 |_=>ab
def Zbm(i j l:Nat)(f:Ev):Ex:=λU b=>match f U b with
 |some (.tup [x,y,z],a)=>aa (.nx (Zh (Zh (Zh U i x) j y) l z),a)
 |_=>ab
noncomputable def Zd9(f:Ev):Ex:=λU b=>match f U b with
 |some (_,a)=>aa (.nx U,a)
 |none=>ab
def JB(a:Nat)(d:D)(c:Za):Ot Za:=match c[a]? with
 |some (ae,b)=>if b.length < Zp then aa (c.set a (ae,b++[d])) else ab
 |_=>ab
def Wf(a:Nat)(j:Int)(d:D)(c:Za):Ot Za:=match c[a]? with
 |some (ae,b)=>match ixN b.length j with
  |some p=>aa (c.set a (ae,b.set p d))
  |none=>ab
 |_=>ab
def JD(i:Nat)(f:Ev):Ex:=λU e=>match U[i]? with
 |some (aa (.lst a))=>match f U e with
  |some (d,c)=>match JB a d c with
   |some b=>aa (.nx U,b)
   |none=>ab
  |none=>ab
 |_=>ab
def JC(o f:Ev):Ex:=λU g=>match o U g with
 |some (.lst a,e)=>match f U e with
  |some (d,c)=>match JB a d c with
   |some b=>aa (.nx U,b)
   |none=>ab
  |none=>ab
 |_=>ab
def Zer(a b:Nat)(c:Za):Ot Za:=match c[a]?,c[b]? with
 |some (ae,e),aa (ae,d)=>if e.length+d.length<=Zp then aa (c.set a (ae,e++d)) else ab
 |_,_=>ab
def JY(i:Nat)(f:Ev):Ex:=λU e=>match U[i]? with
 |some (aa (.lst a))=>match f U e with
  |some (.lst b,d)=>match Zer a b d with
   |some c=>aa (.nx U,c)
   |none=>ab
  |_=>ab
 |_=>ab
def UW(i:Nat)(k f:Ev):Ex:=λU g=>match f U g with
 |some (d,e)=>match U[i]? with
  |some (aa (.lst a))=>match k U e with
   |some (.int j,c)=>match Wf a j d c with
    |some b=>aa (.nx U,b)
    |none=>ab
   |_=>ab
  |_=>ab
 |none=>ab
def JS(i:Nat)(k j f:Ev):Ex:=λU h=>match f U h with
 |some (d,e)=>match U[i]? with
  |some (aa (.dic a))=>match k U e with
   |some (.int x,c)=>match j U c with
    |some (.int y,b)=>match b[a]? with
     |some (ae,g)=>if g.length < Zp then aa (.nx U,b.set a (ae,X2 g x y d)) else ab
     |_=>ab
    |_=>ab
   |_=>ab
  |_=>ab
 |none=>ab
noncomputable def Yo(c:Ev)(f g:Ex):Ex:=λU b=>match c U b with
 |some (.bl ae,a)=>f U a
 |some (.bl af,a)=>g U a
 |_=>ab
def Vd(i:Nat)(rng:Bool)(g:Ev)(b:Ex):Ex:=λU f=>match g U f with
 |some (x,c)=>match Wv rng x with
  |some e=>Zi (λd U s=>b (Zh U i d) s) e U c
  |none=>match rng,x with
   |false,.lst a=>match c[a]? with
    |some (_,e)=>YU (λd U s=>b (Zh U i d) s) a e.length 0 U c
    |none=>ab
   |_,_=>ab
 |none=>ab
noncomputable def YE(ok:Za->Prop)(b:D->D->Env->Za->Ot (Fl×Za)):Li (D×D)->Env->Za->Ot (Fl×Za)
 |[],U,c=>open Classical in if ok c then aa (.nx U,c) else ab
 |p :: d,U,c=>open Classical in if ok c then (match b p.1 p.2 U c with
  |some (.nx U',a)=>YE ok b d U' a
  |some (.ct U',a)=>YE ok b d U' a
  |some (.bk U',a)=>aa (.nx U',a)
  |some (.rt v,a)=>aa (.rt v,a)
  |none=>ab) else ab
def VY(i j:Nat)(h:Ev)(b:Ex):Ex:=λU g=>match h U g with
 |some (.tup [.lst d,.lst c],a)=>match a[d]?,a[c]? with
  |some f,aa e=>YE (λs=>s[d]?=aa f/\s[c]?=aa e) (λx y U s=>b (Zh (Zh U i x) j y) s) (f.2.zip e.2) U a
  |_,_=>ab
 |_=>ab
noncomputable def Zdr:Nat->Li D->Li (D×D)
 |_,[]=>[]
 |k,x :: a=>(.int (k:Int),x) :: Zdr (k+1) a
noncomputable def ZgF(x:D)(d:Za):Ot (Li D×(Za->Prop)):=match x with
 |.tup b=>aa (b,λ_=>True)
 |.lst a=>match d[a]? with
  |some c=>aa (c.2,λs=>s[a]?=aa c)
  |none=>ab
 |_=>ab
def ZhQ(i j:Nat)(e:Ev)(b:Ex):Ex:=λU d=>match e U d with
 |some (x,a)=>match ZgF x a with
  |some (c,ok)=>YE ok (λx y U s=>b (Zh (Zh U i x) j y) s) (Zdr 0 c) U a
  |none=>ab
 |none=>ab
def Jr(i j l:Nat)(b:Ex)(d:D)(U:Env)(s:Za):Ot (Fl×Za):=match d with
 |.tup [x,y,z]=>b (Zh (Zh (Zh U i x) j y) l z) s
 |_=>ab
def J3(i j l:Nat)(e:Ev)(b:Ex):Ex:=λU d=>match e U d with
 |some (.tup c,a)=>Zi (Jr i j l b) c U a
 |_=>ab
noncomputable def Yt(f g:Ex):Ex:=λU b=>match f U b with
 |some (.nx U',a)=>g U' a
 |some (.ct U',a)=>g U' a
 |some (.bk U',a)=>aa (.nx U',a)
 |some (.rt v,a)=>aa (.rt v,a)
 |none=>ab
def Yn(c:Ev)(b:Ex):Nat->Ex
 |0=>λ_ _=>ab
 |n+1=>Yo c (Yt b (Yn c b n)) λU a=>aa (.nx U,a)
def ex(F:Nat->Fn):CS->Ex
 |.skip=>λU d=>aa (.nx U,d)
 |.seq a b=>YQ (ex F a) (ex F b)
 |.ret e=>UZ (ev F e)
 |.set i e=>Vv i (ev F e)
 |.app i e=>JD i (ev F e)
 |.ext i e=>JY i (ev F e)
 |.put i k e=>UW i (ev F k) (ev F e)
 |.ite c a b=>Yo (ev F c) (ex F a) (ex F b)
 |.for1 i rng f b=>Vd i rng (ev F f) (ex F b)
 |.forP i j f b=>VY i j (ev F f) (ex F b)
 |.forE _ _ _ _=>λ_ _=>ab
 |.for3 _ _ _=>λ_ _=>ab
 |.set2 i j e=>Uk i j (ev F e)
 |.for4 i j l f b=>J3 i j l (ev F f) (ex F b)
 |.for2 _ _ _ _=>λ_ _=>ab
 |.whl c b=>Yn (ev F c) (ex F b) 20000
 |.brk=>λU d=>aa (.bk U,d)
 |.cont=>λU d=>aa (.ct U,d)
 |.stop=>λ_ _=>ab
 |.set3 i j l e=>Zbm i j l (ev F e)
 |.act e=>Zd9 (ev F e)
 |.dput i a b e=>JS i (ev F a) (ev F b) (ev F e)
 |.app2 o e=>JC (ev F o) (ev F e)
structure FD where
 ps:Nat
 ns:Nat
 body:CS
def fnD(F:Nat->Fn)(f:FD):Fn:=λb c=>
 if b.length=f.ps then
  match ex F f.body (b.map aa++ag (f.ns - b.length) ab) c with
  |some (.rt d,a)=>aa (d,a)
  |some (.nx _,a)=>aa (.non,a)
  |_=>ab
 else ab
def run(T:Nat->Ot FD):Nat->Nat->Fn
 |0,_=>λ_ _=>ab
 |n+1,i=>match T i with
  |some f=>fnD (run T n) f
  |none=>λ_ _=>ab
inductive GV where
 |fn (i:Nat) (ps:Nat) (ds:List D)|c (d:D)|blt|dct (ks:List Str) (ds:List D)|cls (i:Nat) (ms:List (Str×Nat×Nat)) (subs:List Nat)
abbrev Gs:=Li (Str×GV)
noncomputable def CE.ofConst:Const->Ot CE
 |.none=>aa (.c .non)
 |.bool b=>aa (.c (.bl b))
 |.int i=>aa (.c (.int i))
 |.str x=>aa (.c (.str x))
 |_=>ab
noncomputable def XF(sc:bj)(x:Str):Bool:=!(x==("__debug__":Str))&&!(x==("__classdict__":Str))&&match sc.names.lookup x with
 |some .local=>ae
 |some .cell=>ae
 |some .free=>ae
 |_=>af
noncomputable def ZA(sc:bj)(x:Str):Bool:=!(x==("__debug__":Str))&&match sc.names.lookup x with
 |some .globalImplicit=>ae
 |_=>af
noncomputable def ZgD(x:Str):Ot Ty:=
 if x = "int" then aa .int else if x = "bool" then aa .bool else if x = "str" then aa .str else if x = "tuple" then aa .tuple else ab
noncomputable def ZG(sc:bj):Li Str:=(sc.names.filter λp=>ak (p.2=.free)).map (·.1)
noncomputable def Zef(f:Str)(x:CE):Ot CE:=
 if f = "len" then aa (.len x) else if f = "tuple" then aa (.tOf x) else if f = "list" then aa (.listOf x) else if f = "sorted" then aa (.ksrt x) else ab
noncomputable def ZfH(_:Str)(_ _:CE):Ot CE:=ab
noncomputable def Qt(G:Gs)(x:Str):Bool:=match G.lookup x with
 |some .blt=>ae
 |_=>af
def Zfp(G:Gs)(sc:bj)(t:Str):Ot Ty:=if ZA sc t&&Qt G t then ZgD t else ab
def QW(G:Gs)(sc:bj):az->Ot Ty
 |.Name t _=>Zfp G sc t
 |_=>ab
noncomputable def UC(_:Gs)(_:bj)(_:az):Ot (Li Nat):=ab
noncomputable def ZH:Li (Ot az)->Ot (Li Str)
 |[]=>aa []
 |some (.Constant (.str k) _ _) :: r=>(ZH r).map (k :: ·)
 |_=>ab
noncomputable def Zdm:az->Ot (Str×Li az)
 |.Call (.Name f _) a [] _=>aa (f,a)
 |_=>ab
def fnA(G:Gs)(sc:bj)(nm:Str)(e:az):Ot (Li az):=(Zdm e).bind λp=>og (p.1=nm/\ZA sc p.1=ae/\Qt G p.1=ae) (aa p.2)
noncomputable def ZeP:Li az->Ot az
 |[a]=>aa a
 |_=>ab
def ZJ(G:Gs)(sc:bj)(e:az):Ot az:=(fnA G sc "range" e).bind ZeP
noncomputable def U9(_:Gs)(_:bj)(_:Str)(_:az):Ot az:=ab
noncomputable def UP(_:Gs)(_:bj)(_:Str)(_:az):Ot (az×az):=ab
def o3{g e d a:Type}(f:g->e->d->a):Ot g->Ot e->Ot d->Ot a
 |some x,b,c=>o2 (f x) b c
 |none,_,_=>ab
variable{γ:Type}
def WA{P:γ->Prop}{f:α->γ}{a:Ot α}{c:γ}(h:a.map f=aa c)(k:∀ x,a=aa x->P (f x)):P c:=by
 cases a with
 |none=>exact Zb h
 |some x=>cases h;exact k x rfl
variable{β:Type}
def ZQ{P:γ->Prop}{f:α->β->γ}{a:Ot α}{b:Ot β}{c:γ}(h:o2 f a b=aa c)(k:∀ x y,a=aa x->b=aa y->P (f x y)):P c:=by
 cases a with
 |none=>exact Zb h
 |some x=>cases b with
  |none=>exact Zb h
  |some y=>cases h;exact k x y rfl rfl
def Xu{g:Type}{P:g->Prop}{f:α->β->γ->g}{a:Ot α}{b:Ot β}{d:Ot γ}{c:g}(h:o3 f a b d=aa c)(k:∀ x y z,a=aa x->b=aa y->d=aa z->P (f x y z)):P c:=by
 cases a with
 |none=>exact Zb h
 |some x=>exact ZQ (P:=P) h λy z e i=>k x y z rfl e i
def Xi{P:Prop}{p:Prop}[Decidable p]{o:Ot α}{c:α}(h:og p o=aa c)(k:p->o=aa c->P):P:=by
 unfold og at h;by_cases a:p
 .rw[aq a]at h;exact k a h
 .rw[ar a]at h;cases h
def j_e{P:Prop}{o:Ot (Ot α)}{c:α}(h:o.join=aa c)(k:o=aa (aa c)->P):P:=by
 cases o with
 |none=>exact Zb h
 |some x=>cases h;exact k rfl
def JI(G:Gs)(sc:bj)(f:Str)(a:az)(r:az->Ot CE):Ot CE:=match U9 G sc f a with
 |some e=>(r e).map .tupR
 |none=>match UP G sc f a with
  |some (u,v)=>o2 .lstR (r u) (r v)
  |none=>((r a).map (Zef f)).join
def JJ(G:Gs)(sc:bj)(f:Str)(a b:az)(r:az->Ot CE):Ot CE:=if f = "isinstance" then (match UC G sc b with
  |some l=>(r a).map (.isc l)
  |none=>o2 (λx T=>.isi T x) (r a) (QW G sc b)) else (o2 (ZfH f) (r a) (r b)).join
def JK(G:Gs)(sc:bj)(f:Str)(d:Li az)(h:Ot CE)(r:az->Ot CE):Ot CE:=
 if ZA sc f then (match G.lookup f with
   |some (.fn i e g)=>og (d.length<=e/\e<=d.length+g.length) (h.map λc=>.call i c (g.drop (d.length+g.length - e)))
   |some .blt=>match d with
    |[a]=>JI G sc f a r
    |[a,b]=>JJ G sc f a b r
    |_=>ab
   |_=>ab) else ab
def ZgT(o:Ot CE)(d:Li az)(r:az->Ot CE):Ot CE:=match d with
 |[a]=>o2 (λx y=>.dgN x y (.c .non)) o (r a)
 |[a,b]=>o3 .dgN o (r a) (r b)
 |_=>ab
def Zdk(G:Gs)(c:az)(m:Str)(f:Pos)(d:Li az)(e:Pos)(g:Ot CE)(r:az->Ot CE):Ot CE:=match c with
 |.Dict _ _ _=>(match d with
  |[a,b]=>og (m = "get"/\(f.endLine==e.line)=ae) (o3 .dget (r c) (r a) (r b))
  |_=>ab)
 |.Name _ _=>og ((f.endLine==e.line)=ae/\d.length < 20) (if m = "pop" then og (d.length=0) ((r c).map .pop) else if m = "get" then ZgT (r c) d r else ab)
 |_=>ab
def ZfI(G:Gs)(sc:bj)(f:az)(b:Li az)(d:Pos)(a:Ot CE)(r:az->Ot CE):Ot CE:=match f with
 |.Name f _=>JK G sc f b a r
 |.Attribute c m e=>Zdk G c m e b d a r
 |_=>ab
noncomputable def ZgV:az->Bool
 |.Slice ..=>ae
 |_=>af
noncomputable def cVs(f:az->Ot CE):Li az->Ot CE
 |[]=>aa .aN
 |e :: a=>match f e,cVs f a with
  |some x,aa r=>aa (.aC x r)
  |_,_=>ab
noncomputable def WZ:az->Ot (az×az)
 |.Tuple [a,b] _ _=>aa (a,b)
 |_=>ab
def QJ:Li (Ot az)->Ot (az×az)
 |[aa e]=>WZ e
 |_=>ab
noncomputable def ZcB:Li az->Ot az
 |[e]=>aa e
 |_=>ab
def ZgP(f:az->Ot CE)(a:Li (Ot az))(b:Li az):Ot CE:=match a with
 |[]=>og (b.length=0) (aa .dnew)
 |_=>match QJ a with
  |some p=>o3 .dd (f p.1) (f p.2) ((ZcB b).bind f)
  |none=>og (a.length=b.length/\a≠[]/\a.length<=15) (o2 .dict (ZH a) (cVs f b))
noncomputable def XZ(_:Gs)(_:bj)(_:az):Ot (Li az):=ab
def XL(G:Gs)(sc:bj)(e:az):Ot (Li az):=(fnA G sc "zip" e).bind λa=>og (a.length=2) (aa a)
def Vc(G:Gs)(sc:bj)(e:az):Ot az:=(fnA G sc "enumerate" e).bind ZeP
noncomputable def Wa(_:Gs)(_:bj)(_:az):Ot az:=ab
noncomputable def nmE:az->Ot Str
 |.Name x _=>aa x
 |_=>ab
def nmL:Li az->Ot (Li Str)
 |[a,b]=>o2 (λx y=>[x,y]) (nmE a) (nmE b)
 |_=>ab
def tgN:az->Ot (Li Str)
 |.Name x _=>aa [x]
 |.Tuple a _ _=>nmL a
 |_=>ab
noncomputable def mkC(n:Nat)(r:Ot (Ot Bool))(a:Li Nat)(c d e:CE):CE:=if n=3 then .comp3 a c d e else match r with
 |some (aa b)=>.comp b a c d e
 |some ab=>.comp2 a c d e
 |none=>.compT a c d e
noncomputable def Y9(N:Li Str):Li Str->Ot (Li Nat)
 |[]=>aa []
 |x :: r=>match N.idxOf? x,Y9 N r with
  |some i,aa a=>aa (i :: a)
  |_,_=>ab
def ZaM(G:Gs)(sc:bj)(N:Li Str)(x:Str):Ot CE:=
 if XF sc x then (N.idxOf? x).map .v else if ZA sc x then (match G.lookup x with
  |some (.c d)=>aa (.c d)
  |_=>ab) else ab
def QB(G:Gs)(sc:bj):az->Ot (Li Str×Li D)
 |.Name x _=>if ZA sc x then (match G.lookup x with
  |some (.dct a b)=>aa (a,b)
  |_=>ab) else ab
 |_=>ab
noncomputable def We:az->Ot (Ot az×Ot az)
 |.Slice lo a ab _=>aa (lo,a)
 |_=>ab
noncomputable def QP:az->Ot az
 |.Slice ab ab (aa s) _=>aa s
 |_=>ab
noncomputable def ZeD:CE->Bool
 |.neg (.c (.int 1))=>ae
 |_=>af
noncomputable def Wt(sc:bj)(x:Str):Bool:=match sc.names.lookup x with
 |some .cell=>ae
 |some .free=>ae
 |_=>af
def Y2(sc a:bj)(b:Li Str):Bool:=
 ak (a.kind=.function)&&(a.names.all λp=>ak (p.2≠.cell))&&(b.all λx=>ak (a.names.lookup x=aa .local))&&(a.names.all λp=>!decide (p.2=.local)||ak (a.names.lookup p.1=aa .local)) &&
 ak (b++ZG a).Nodup&&(ZG a).all (λy=>Wt sc y&&ak (a.names.lookup y=aa .free))
noncomputable def Zey(_:CmpOp):Ot Bool:=ab
noncomputable def unC(b:UnaryOp)(a:Ot CE):Ot CE:=match b with
 |.Not=>a.map .not
 |.USub=>a.map .neg
 |.Invert=>a.map .inv
 |_=>ab
def ZfK(G:Gs)(sc:bj)(f:az->Ot CE)(a:Ot CE):Li CmpOp->Li az->Ot CE
 |[c],[b]=>(match ZJ G sc b with
  |some e=>o3 .inR (Zey c) a (f e)
  |none=>o2 (.cmp c) a (f b))
 |_,_=>ab
def Zdl(f:az->Ot CE)(d:BoolOp)(c:Pos):Li az->Ot CE
 |[]=>ab
 |[a]=>f a
 |a :: b :: r=>match d with
  |.And=>o2 .and (f a) (f (.BoolOp .And (b :: r) c))
  |.Or=>o2 .or (f a) (f (.BoolOp .Or (b :: r) c))
def Zfo(G:Gs)(sc:bj)(f:az->Ot CE)(c:Ot az->Ot CE)(a b:az):Ot CE:=match We b with
 |some (lo,e)=>o3 .slice (f a) (c lo) (c e)
 |none=>match QP b with
  |some s=>(o2 (λx y=>og (ZeD y=ae) (aa (.rs af x))) (f a) (f s)).join
  |none=>match QB G sc a with
   |some (d,g)=>(f b).map (.look d g)
   |none=>o2 .ix (f a) (f b)
def itC(G:Gs)(sc:bj)(b:az)(f:az->Ot CE):Li Str->Ot (Ot (Ot Bool)×CE)
 |[_]=>(match ZJ G sc b with
  |some a=>(f a).map λc=>(aa (aa ae),c)
  |none=>(f b).map λc=>(aa (aa af),c))
 |[_,_]=>(match Vc G sc b with
  |some _=>ab
  |none=>(f b).map λc=>(ab,c))
 |_=>(match Vc G sc b with
  |some _=>ab
  |none=>(f b).map λc=>(ab,c))
noncomputable def ifC(f:az->Ot CE):Li az->Ot CE
 |[]=>aa (CE.c (.bl ae))
 |[c]=>f c
 |_=>ab
def Zdn(G:Gs)(sc a:bj)(N:Li Str)(f:az->Ot CE)(g:Li Str->az->Ot CE)(d:az):Li Comprehension->Ot CE
 |[⟨e,h,c,0⟩]=>(match tgN e with
  |none=>ab
  |some b=>og (Y2 sc a b=ae) (o3 (λi p (q:CE×CE)=>mkC b.length p.1 i p.2 q.1 q.2) (Y9 N (ZG a)) (itC G sc h f b) (o2 Prod.mk (g (b++ZG a) d) (ifC (g (b++ZG a)) c))))
 |_=>ab
mutual
def cE(G:Gs):Nat->bj->Li Str->az->Ot CE
 |0,_,_,_=>ab
 |n+1,sc,N,e=>match e with
  |.Constant c _ _=>CE.ofConst c
  |.Name x _=>ZaM G sc N x
  |.BinOp a h b _=>o2 (.bin h) (cE G n sc N a) (cE G n sc N b)
  |.UnaryOp h a _=>unC h (cE G n sc N a)
  |.Compare a l bs _=>ZfK G sc (cE G n sc N) (cE G n sc N a) l bs
  |.BoolOp h q k=>Zdl (cE G n sc N) h k q
  |.IfExp c a b _=>o3 .ife (cE G n sc N c) (cE G n sc N a) (cE G n sc N b)
  |.Tuple m _ _=>(cEs G n sc N m).map .tupE
  |.List m _=>(cEs G n sc N m).map .lstE
  |.Dict i d _=>ZgP (cE G n sc N) i d
  |.Subscript a b _=>Zfo G sc (cE G n sc N) (cO G n sc N) a b
  |.Call f p [] r=>ZfI G sc f p r (cEs G n sc N p) (cE G n sc N)
  |.ListComp o j g _=>Zdn G sc g N (cE G n sc N) (cE G n g) o j
  |_=>ab
def cEs(G:Gs):Nat->bj->Li Str->Li az->Ot CE
 |0,_,_,_=>ab
 |_+1,_,_,[]=>aa .aN
 |n+1,sc,N,e :: a=>o2 .aC (cE G n sc N e) (cEs G n sc N a)
def cO(G:Gs):Nat->bj->Li Str->Ot az->Ot CE
 |0,_,_,_=>ab
 |_+1,_,_,ab=>aa .nop
 |n+1,sc,N,aa e=>(cE G n sc N e).map .part
end
noncomputable def Y6:az->Bool
 |.ListComp ..=>ae
 |.SetComp ..=>ae
 |.DictComp ..=>ae
 |_=>af
noncomputable def V5:az->Bool
 |.Tuple ..=>ae
 |_=>af
def ZfG(N:Li Str)(a e:az)(c:Ot CE):Ot CS:=match a with
 |.Name x _=>o2 .set (N.idxOf? x) c
 |.Tuple [.Name x _,.Name y _] _ _=>og ((Y6 e||V5 e)=af) (o3 (λi j c=>og (i≠j) (aa (.set2 i j c))) (N.idxOf? x) (N.idxOf? y) c).join
 |.Tuple [.Name x _,.Name y _,.Name z _] _ _=>og ((Y6 e||V5 e)=af) (o3 (λi j (p:Nat×CE)=>.set3 i j p.1 p.2) (N.idxOf? x) (N.idxOf? y) (o2 Prod.mk (N.idxOf? z) c))
 |_=>ab
def Zgo(sc:bj)(N:Li Str)(x:Str)(k e:az)(f:az->Ot CE):Ot CS:=og (Y6 e=af/\ZgV k=af/\XF sc x=ae) (match WZ k with
 |some (a,b)=>o3 (λi (p:CE×CE) c=>.dput i p.1 p.2 c) (N.idxOf? x) (o2 Prod.mk (f a) (f b)) (f e)
 |none=>o3 .put (N.idxOf? x) (f k) (f e))
def Zev(G:Gs)(sc:bj)(N:Li Str)(f:az->Ot CE)(fs:Li az->Ot CE)(h d:az)(b:Ot CS):Ot CS:=match h with
 |.Name x _=>(match XZ G sc d with
  |some g=>o3 .for3 (N.idxOf? x) (fs g) b
  |none=>match ZJ G sc d with
   |some a=>o3 (λi c b=>.for1 i ae c b) (N.idxOf? x) (f a) b
   |none=>o3 (λi c b=>.for1 i af c b) (N.idxOf? x) (f d) b)
 |.Tuple [.Name x _,.Name y _] _ _=>(o2 (λi j=>og (i≠j) (aa (i,j))) (N.idxOf? x) (N.idxOf? y)).join.bind λp=>(match XL G sc d with
  |some g=>o2 (.forP p.1 p.2) (fs g) b
  |none=>match Wa G sc d with
   |some e=>o2 (.forE p.1 p.2) (f e) b
   |none=>o2 (.for2 p.1 p.2) (f d) b)
 |.Tuple [.Name x _,.Name y _,.Name z _] _ _=>o3 (λ(p:Nat×Nat) (q:Nat×CE) b=>.for4 p.1 p.2 q.1 q.2 b) (o2 Prod.mk (N.idxOf? x) (N.idxOf? y)) (o2 Prod.mk (N.idxOf? z) (f d)) b
 |_=>ab
def ZfF(sc:bj)(N:Li Str)(x m:Str)(b a:Pos)(c:Ot CE):Ot CS:=og (XF sc x=ae/\(b.endLine==a.line)=ae) (if m = "append" then o2 .app (N.idxOf? x) c else if m = "extend" then o2 .ext (N.idxOf? x) c else ab)
def ZfD(sc:bj)(N:Li Str)(f:az->Ot CE):az->Ot CS
 |.Call (.Name g d) h c a=>(f (.Call (.Name g d) h c a)).map .act
 |.Call (.Attribute (.Name x _) m b) [e] [] a=>ZfF sc N x m b a (f e)
 |.Call (.Attribute (.Subscript o k p) m b) [e] [] a=>og (m = "append"/\(b.endLine==a.line)=ae) (o2 .app2 (f (.Subscript o k p)) (f e))
 |_=>ab
mutual
def cS(G:Gs):Nat->bj->Li Str->Stmt->Ot CS
 |0,_,_,_=>ab
 |n+1,sc,N,s=>match s with
  |.Assign [.Subscript (.Name x _) k _] e _=>Zgo sc N x k e (cE G n sc N)
  |.Assign [d] e _=>ZfG N d e (cE G n sc N e)
  |.Expr e _=>ZfD sc N (cE G n sc N) e
  |.Return (aa e) _=>(cE G n sc N e).map .ret
  |.If c a b _=>o3 .ite (cE G n sc N c) (cSs G n sc N a) (cSs G n sc N b)
  |.For d f b [] _=>Zev G sc N (cE G n sc N) (cEs G n sc N) d f (cSs G n sc N b)
  |.While c b [] _=>o2 .whl (cE G n sc N c) (cSs G n sc N b)
  |.Pass _=>aa .skip
  |.Break _=>aa .brk
  |.Continue _=>aa .cont
  |.Raise _ _ _=>aa .stop
  |_=>ab
def cSs(G:Gs):Nat->bj->Li Str->Li Stmt->Ot CS
 |0,_,_,_=>ab
 |_+1,_,_,[]=>aa .skip
 |n+1,sc,N,s :: r=>o2 .seq (cS G n sc N s) (cSs G n sc N r)
end
end Dp
namespace Dp
open PySem PySem.Spec PyProof.Rows L2
class ClsTab where
 ca:Nat->Addr
variable [ClsTab]
variable{X:Cx}{e:az}
def Zk{t a:TE}(h:PE X e t)(i:∀ O H Q,a O H Q->t O H Q):PE X e a:=λb s O H Q I q=>h b s O H Q I (i O H Q q)
def WC{t a:TT}(h:PT X e t)(i:∀ O H Q,a O H Q->t O H Q):PT X e a:=λb s O H Q I q=>h b s O H Q I (i O H Q q)
def Za1{e:Li az}{t b:TA}(h:PA X e t)(i:∀ O H Q,b O H Q->t O H Q):PA X e b:=λa c s O H Q I q=>h a c s O H Q I (i O H Q q)
def Za7{e:Ot az}{t a:TO}(h:PO X e t)(i:∀ O H Q,a O H Q->t O H Q):PO X e a:=λb s O H Q I q=>h b s O H Q I (i O H Q q)
def Zz{e:Stmt}{t a:TS}(h:PS X e t)(i:∀ D O H,a D O H->t D O H):PS X e a:=λb s O H D I q=>h b s O H D I (i D O H q)
def QM{e:Li Stmt}{t a:TS}(h:PSs X e t)(i:∀ D O H,a D O H->t D O H):PSs X e a:=λb s O H D I q=>h b s O H D I (i D O H q)
def KT(K:Fg)(a:Ad)(b:Li V):Prop:=
 ∃ (o:Obj) (its:Array vL) (n:Nat),K.lookup a=aa o/\o.cls=.type "tuple"/\o.data=.seq its n/\its.size<=ay/\Vals b its.toList
def TupAt(K:Fg)(H:Hp)(a:Ad)(b:Li V):Prop:=H a=aa (.tup b)\/KT K a b
variable{K:Fg}{H:Hp}{xs:Li V}
def TupAt.sq{a:Ad}(h:TupAt K H a xs):SqT K H a xs:=by
 rcases h with h|h
 .exact .inl (.inl h)
 .exact .inr h
def Ya(H:Hp)(a:Ad):Prop:=∃ b,H a=aa (.dT b)
def LA(b:Li Ad)(H:Hp)(i:Nat)(a:Ad):Prop:=b[i]?=aa a/\¬Ya H a
variable{o:HO}
def Wz{a:Ad}(h:H a=aa o)(n:∀ b,o≠.dT b):¬Ya H a:=λ⟨b,z⟩=>n b (aw (h.symm.trans z))
mutual
inductive Den(K:Fg)(ad:List Addr)(H:Hp):V->D->Prop where
 |non:Den K ad H .non .non
 |bl (b:Bool):Den K ad H (.bl b) (.bl b)
 |int (i:Int):Den K ad H (.int i) (.int i)
 |str (x:Str):Den K ad H (.str x) (.str x)
 |tup {a:Addr}{xs:List V}{ds:List D} (h:TupAt K H a xs) (r:Dens K ad H xs ds):Den K ad H (.ref a) (.tup ds)
 |lst {a:Addr}{i:Nat} (h:LA ad H i a):Den K ad H (.ref a) (.lst i)
 |dic {a:Addr}{i:Nat} (h:ad[i]?=aa a) (n:Ya H a):Den K ad H (.ref a) (.dic i)
 |dct {a:Addr}{kvs:List (Key×V)}{ks:List Str}{vs:List V}{ds:List D} (h:H a=aa (.dK kvs)) (hk:kvs=(ks.zip vs).map λp=>(Sum.inr p.1,p.2)) (nd:ks.Nodup/\ks≠[]) (hl:ks.length=vs.length) (r:Dens K ad H vs ds):Den K ad H (.ref a) (.dct ks ds)
 |obj {a dx:Addr}{i:Nat} (h:H a=aa (.ins (ClsTab.ca i) dx [])) (n:a∉ad):Den K ad H (.ref a) (.obj i)
 |kt {a:Addr}{ks:List Str}{o:Obj}{its:Array Value}{n:Nat} (l:K.lookup a=aa o) (c:o.cls=.type "tuple") (g:o.dict=ab) (e:o.data=.seq its n) (z:its.size<=ay) (r:Vals (ks.map V.str) its.toList):Den K ad H (.ref a) (.kt ks)
inductive Dens(K:Fg)(ad:List Addr)(H:Hp):List V->List D->Prop where
 |nil:Dens K ad H [] []
 |cons {v:V}{d:D}{vs:List V}{ds:List D} (h:Den K ad H v d) (r:Dens K ad H vs ds):Dens K ad H (v :: vs) (d :: ds)
end
structure Ext(ad:List Addr)(H:Hp)(ad':List Addr)(H':Hp):Prop where
 pre:∀ (i:Nat) (a:Addr),ad[i]?=aa a->ad'[i]?=aa a
 tup:∀ b xs,H b=aa (.tup xs)->H' b=aa (.tup xs)
 dk:∀ b kvs,H b=aa (.dK kvs)->H' b=aa (.dK kvs)
 keep:∀ b o,H b=aa o->b∉ad->H' b=aa o
 new:∀ b,b∈ad'->b∈ad\/H b=ab
 kd:∀ (i:Nat) (a:Addr),ad[i]?=aa a->(Ya H a↔Ya H' a)
def Ext.refl(a:Li Ad)(H:Hp):Ext a H a H:=⟨λ_ _ h=>h,λ_ _ h=>h,λ_ _ h=>h,λ_ _ h _=>h,λ_ h=>.inl h,λ_ _ _=>Iff.rfl⟩
theorem Ext.trans{d j g:Li Ad}{f l k:Hp}(x:Ext d f j l)(y:Ext j l g k):Ext d f g k:=by
 refine⟨λi a h=>y.pre i a (x.pre i a h),λb c h=>y.tup b c (x.tup b c h),λb c h=>y.dk b c (x.dk b c h),λb o h n=>?_,λb h=>?_,λi a h=>(x.kd i a h).trans (y.kd i a (x.pre i a h))⟩
 .refine y.keep b o (x.keep b o h n) λz=>?_
  rcases x.new b z with z|z
  .exact n z
  .rw[h]at z;cases z
 .rcases y.new b h with z|z
  .exact x.new b z
  .cases e:f b with
   |none=>exact .inr rfl
   |some o=>
    by_cases q:b∈d
    .exact .inl q
    .rw[x.keep b o e q]at z;cases z
variable{ad ad':Li Ad}{H':Hp}
def TupAt.mono{a:Ad}(x:Ext ad H ad' H')(h:TupAt K H a xs):TupAt K H' a xs:=h.imp (x.tup _ _) id
def TupAt.upd{K:Fg}{H:Hp}{a p:Ad}{b:Li V}{o d:HO}(c:H p=aa o)(e:∀ b,o≠.tup b)(h:TupAt K H a b):TupAt K (upd H p d) a b:=by
 rcases h with h|h
 .refine .inl ?_
  have n:a≠p:=λz=>by subst z;rw[h]at c;cases c;exact e _ rfl
  rw[upd_ne n];exact h
 .exact .inr h
variable{ks:Li Str}{vs ys:Li V}{d:D}{ds es:Li D}{i:Nat}{kvs kvs':Li (Li Key×V)}{st:Za}{p:Ad}{α:Type}{O:L2.St}{U:Env}
variable{K:Fg}{ad ad':Li Ad}{H H':Hp}
def Zfs(h:ks≠[])(a:ks.length=vs.length):(ks.zip vs).map (λp=>((Sum.inr p.1:Key),p.2))≠[]:=by
 cases ks with
 |nil=>exact au rfl h
 |cons k ks=>cases vs with
  |nil=>cases a
  |cons v vs=>exact eQ _ _
structure Keeps(K:Fg)(ad ad':List Addr)(H H':Hp):Prop where
 t:∀ {a xs},TupAt K H a xs->TupAt K H' a xs
 l:∀ {i:Nat}{a:Addr},ad[i]?=aa a->ad'[i]?=aa a/\(Ya H a↔Ya H' a)
 k:∀ {a kvs},kvs≠[]->H a=aa (.dK kvs)->H' a=aa (.dK kvs)
 o:∀ {a C dx},H a=aa (.ins C dx [])->a∉ad->H' a=aa (.ins C dx [])/\a∉ad'
def Den.map(x:Keeps K ad ad' H H'){v:V}(h:Den K ad H v d):Den K ad' H' v d:=
 Den.rec (motive_1:=λv d _=>Den K ad' H' v d) (motive_2:=λvs ds _=>Dens K ad' H' vs ds) .non .bl .int .str (λh _ r=>.tup (x.t h) r) (λh=>.lst ⟨(x.l h.1).1,λz=>h.2 ((x.l h.1).2.mpr z)⟩) (λh n=>.dic (x.l h).1 ((x.l h).2.mp n)) (λh f c e _ r=>.dct (x.k (λz=>Zfs c.2 e (f.symm.trans z)) h) f c e r) (λh n=>.obj (x.o h n).1 (x.o h n).2) .kt .nil (λ_ _ a b=>.cons a b) h
theorem Dens.map(x:Keeps K ad ad' H H')(h:Dens K ad H vs ds):Dens K ad' H' vs ds:=
 Dens.rec (motive_1:=λ_ _ _=>True) (motive_2:=λvs ds _=>Dens K ad' H' vs ds) trivial (λ_=>trivial) (λ_=>trivial) (λ_=>trivial) (λ_ _ _=>trivial) (λ_=>trivial) (λ_ _=>trivial) (λ_ _ _ _ _ _=>trivial) (λ_ _=>trivial) (λ_ _ _ _ _ _=>trivial) .nil (λa _ _ b=>.cons (a.map x) b) h
def Ext.keeps(x:Ext ad H ad' H'):Keeps K ad ad' H H':=⟨λh=>h.mono x,λh=>⟨x.pre _ _ h,x.kd _ _ h⟩,λ_ h=>x.dk _ _ h,λh n=>⟨x.keep _ _ h n,λz=>(x.new _ z).elim n λq=>by rw[h]at q;cases q⟩⟩
def Den.mono(x:Ext ad H ad' H'){v:V}(h:Den K ad H v d):Den K ad' H' v d:=h.map x.keeps
def Dens.mono(x:Ext ad H ad' H')(h:Dens K ad H vs ds):Dens K ad' H' vs ds:=h.map x.keeps
def ZeF(x:∀ (i:Nat) (a:Ad),ad[i]?=aa a->ad'[i]?=aa a)(y:∀ b,b∈ad'->b∈ad\/∃ c,H b=aa (.lst c)):Keeps K ad ad' H H:=⟨id,λh=>⟨x _ _ h,Iff.rfl⟩,λ_ h=>h,λh n=>⟨h,λz=>(y _ z).elim n λ⟨c,q⟩=>by rw[h]at q;cases q⟩⟩
theorem Dens.length:∀ {vs:Li V}{ds:Li D},Dens K ad H vs ds->vs.length=ds.length
 |_,_,.nil=>rfl
 |_,_,.cons _ r=>av (·+1) (Dens.length r)
theorem Dens.get:∀ {vs:Li V}{ds:Li D}{i:Nat}{d:D},Dens K ad H vs ds->ds[i]?=aa d->∃ v,vs[i]?=aa v/\Den K ad H v d
 |_,_,_,_,.nil,e=>by simp at e
 |_,_,0,_,.cons h _,e=>by simp at e;subst e;exact⟨_,rfl,h⟩
 |_,_,i+1,d,.cons _ r,e=>by
  obtain⟨v,b,a⟩:=Dens.get (i:=i) (d:=d) r (by simpa using e)
  exact⟨v,by simpa using b,a⟩
theorem Dens.append:∀ {vs ws:Li V}{ds es:Li D},Dens K ad H vs ds->Dens K ad H ws es->Dens K ad H (vs++ws) (ds++es)
 |_,_,_,_,.nil,s=>s
 |_,_,_,_,.cons h r,s=>.cons h (Dens.append r s)
theorem Dens.take:∀ {vs:Li V}{ds:Li D} (n:Nat),Dens K ad H vs ds->Dens K ad H (vs.take n) (ds.take n)
 |_,_,0,_=>.nil
 |_,_,_+1,.nil=>.nil
 |_,_,n+1,.cons h r=>.cons h (Dens.take n r)
theorem Dens.drop:∀ {vs:Li V}{ds:Li D} (n:Nat),Dens K ad H vs ds->Dens K ad H (vs.drop n) (ds.drop n)
 |_,_,0,r=>r
 |_,_,_+1,.nil=>.nil
 |_,_,n+1,.cons _ r=>Dens.drop n r
theorem Dens.set{v:V}(h:Den K ad H v d):∀ {vs:Li V}{ds:Li D} (n:Nat),Dens K ad H vs ds->Dens K ad H (vs.set n v) (ds.set n d)
 |_,_,_,.nil=>.nil
 |_,_,0,.cons _ r=>.cons h r
 |_,_,n+1,.cons q r=>.cons q (Dens.set h n r)
theorem Dens.rep{v:V}(h:Den K ad H v d):∀ n:Nat,Dens K ad H (ag n v) (ag n d)
 |0=>.nil
 |n+1=>.cons h (Dens.rep h n)
def Den.ofInt{v:V}{i:Int}(h:Den K ad H v (.int i)):v=.int i:=by cases h;rfl
def Den.ofStr{v:V}{x:Str}(h:Den K ad H v (.str x)):v=.str x:=by cases h;rfl
def Den.ofBl{v:V}{b:Bool}(h:Den K ad H v (.bl b)):v=.bl b:=by cases h;rfl
def Den.ofDct{v:V}(h:Den K ad H v (.dct ks ds)):∃ a vs,v=.ref a/\H a=aa (.dK ((ks.zip vs).map λp=>(Sum.inr p.1,p.2)))/\ks.length=vs.length/\Dens K ad H vs ds:=by
 cases h with
 |dct h c d b r=>subst c;exact⟨_,_,rfl,h,b,r⟩
def Den.ofTup{v:V}(h:Den K ad H v (.tup ds)):∃ a b,v=.ref a/\TupAt K H a b/\Dens K ad H b ds:=by
 cases h with
 |tup h r=>exact⟨_,_,rfl,h,r⟩
def Den.ofLst{v:V}(h:Den K ad H v (.lst i)):∃ a,v=.ref a/\LA ad H i a:=by
 cases h with
 |lst h=>exact⟨_,rfl,h⟩
def Den.ofDic{v:V}(h:Den K ad H v (.dic i)):∃ a,v=.ref a/\ad[i]?=aa a/\Ya H a:=by
 cases h with
 |dic h n=>exact⟨_,rfl,h,n⟩
def Den.newL{a:Ad}(h:ad[i]?=aa a):Den K ad (upd H a (.lst xs)) (.ref a) (.lst i):=.lst ⟨h,Wz upd_same λ_ z=>nomatch z⟩
def LA.mono{a:Ad}(x:Ext ad H ad' H')(h:LA ad H i a):LA ad' H' i a:=⟨x.pre _ _ h.1,λz=>h.2 ((x.kd _ _ h.1).mpr z)⟩
def Den.ofKt{v:V}(h:Den K ad H v (.kt ks)):∃ a o b n,v=.ref a/\K.lookup a=aa o/\(o.cls=.type "tuple"/\o.dict=ab)/\o.data=.seq b n/\b.size<=ay/\Vals (ks.map V.str) b.toList:=by
 cases h with
 |kt l c g e z r=>exact⟨_,_,_,_,rfl,l,⟨c,g⟩,e,z,r⟩
theorem W2:∀ ks:Li Str,Dens K ad H (ks.map V.str) (ks.map D.str)
 |[]=>.nil
 |k :: ks=>.cons (.str k) (W2 ks)
def KL(K:Fg)(a:Ad)(b:Li V):Prop:=
 ∃ (o:Obj) (its:Array vL) (n:Nat),(K.lookup a=aa o/\o.cls=.type "list")/\(o.dict=ab/\o.data=.seq its n)/\its.size<=ay/\Vals b its.toList
inductive Ents(K:Fg)(ad:List Addr)(H:Hp):List (List Key×V)->List D->Prop where
 |nil:Ents K ad H [] []
 |cons {i j:Int}{v:V}{d:D}{kvs:List (List Key×V)}{ds:List D} (h:Den K ad H v d) (r:Ents K ad H kvs ds):Ents K ad H (([.inl i,.inl j],v) :: kvs) (.tup [.int i,.int j,d] :: ds)
theorem Ents.map(x:Keeps K ad ad' H H')(h:Ents K ad H kvs ds):Ents K ad' H' kvs ds:=by
 induction h with
 |nil=>exact .nil
 |cons h _ a=>exact .cons (h.map x) a
def Ents.mono(x:Ext ad H ad' H')(h:Ents K ad H kvs ds):Ents K ad' H' kvs ds:=h.map x.keeps
inductive CellOk(K:Fg)(ad:List Addr)(H:Hp)(a:Addr)(c:Xl):Prop where
 |l {xs:List V} (n:¬Ya H a) (r:Dens K ad H xs c.2) (h:(c.1=ae/\H a=aa (.lst xs))\/(c.1=af/\((∃ o,H a=aa (.frz o (.lst xs)))\/KL K a xs)))
 |d {kvs:List (List Key×V)} (r:Ents K ad H kvs c.2) (e:c.1=ae) (h:H a=aa (.dT kvs))
structure StOk(K:Fg)(ad:List Addr)(H:Hp)(st:Za):Prop where
 len:ad.length=st.length
 nd:∀ (i j:Nat) (a:Addr) (c d:List D),ad[i]?=aa a->ad[j]?=aa a->st[i]?=aa (ae,c)->st[j]?=aa (ae,d)->i=j
 cell:∀ (i:Nat) (c:Xl),st[i]?=aa c->∃ a,ad[i]?=aa a/\CellOk K ad H a c
def CellOk.sq{a:Ad}{c:Xl}(h:CellOk K ad H a c)(n:¬Ya H a):∃ f,Dens K ad H f c.2/\SqL K H a f:=by
 cases h with
 |l _ r h=>
  obtain⟨_,e⟩|⟨_,⟨o,e⟩|⟨o,b,n,⟨p,m⟩,⟨k,j⟩,i,g⟩⟩:=h
  .exact⟨_,r,.inl (.inl e)⟩
  .exact⟨_,r,.inl (.inr ⟨o,e⟩)⟩
  .exact⟨_,r,.inr ⟨o,b,n,p,m,k,j,i,g⟩⟩
 |d r e h=>exact au ⟨_,h⟩ n
def StOk.list{a:Ad}{b:Bool}(S:StOk K ad H st)(h:LA ad H i a)(e:st[i]?=aa (b,ds)):∃ d,Dens K ad H d ds/\SqL K H a d:=by
 obtain⟨g,f,c⟩:=S.cell i _ e;rw[h.1]at f;cases f
 exact c.sq h.2
def StOk.listM{a:Ad}(S:StOk K ad H st)(h:LA ad H i a)(e:st[i]?=aa (ae,ds)):∃ b,Dens K ad H b ds/\H a=aa (.lst b):=by
 obtain⟨g,f,c⟩:=S.cell i _ e;rw[h.1]at f;cases f
 cases c with
 |l _ r q=>
  obtain⟨_,q⟩|⟨q,_⟩:=q
  .exact⟨_,r,q⟩
  .cases q
 |d r _ q=>exact au ⟨_,q⟩ h.2
def StOk.dict{a:Ad}{b:Bool}(S:StOk K ad H st)(h:ad[i]?=aa a)(n:Ya H a)(e:st[i]?=aa (b,ds)):∃ kvs,Ents K ad H kvs ds/\H a=aa (.dT kvs)/\b=ae:=by
 obtain⟨g,f,c⟩:=S.cell i _ e;rw[h]at f;cases f
 cases c with
 |l z=>exact au n z
 |d r e q=>exact⟨_,r,q,e⟩
def WH{a:Ad}(b:¬Ya H p)(c:∀ kvs,o≠.dT kvs):Ya H a↔Ya (upd H p o) a:=by
 by_cases z:a=p
 .subst z
  exact⟨λq=>au q b,λq=>au q (Wz upd_same c)⟩
 .unfold Ya
  rw[upd_ne z]
def QG(a:H p=ab):¬Ya H p:=λ⟨_,z⟩=>by rw[a]at z;cases z
def Ext.laid(a:H p=ab)(d:∀ kvs,o≠.dT kvs:=by intro _ z;cases z):Ext ad H ad (upd H p o):=
 ⟨λ_ _ h=>h,λb c h=>by rw[upd_ne (ne_of_none h a)];exact h,λb c h=>by rw[upd_ne (ne_of_none h a)];exact h,λb o h _=>by rw[upd_ne (ne_of_none h a)];exact h,λ_ h=>.inl h,λ_ _ _=>WH (QG a) d⟩
def CellOk.laid{a:Ad}{c:Xl}(g:ad[i]?=aa a)(f:H p=ab)(x:Ext ad H ad' (upd H p o))(h:CellOk K ad H a c):CellOk K ad' (upd H p o) a c:=by
 cases h with
 |l n r h=>
  refine .l (λz=>n ((x.kd i a g).mpr z)) (r.mono x) ?_
  rcases h with⟨b,e⟩|⟨b,⟨o,e⟩|e⟩
  .exact .inl ⟨b,by rw[upd_ne (ne_of_none e f)];exact e⟩
  .exact .inr ⟨b,.inl ⟨o,by rw[upd_ne (ne_of_none e f)];exact e⟩⟩
  .exact .inr ⟨b,.inr e⟩
 |d r e h=>exact .d (r.mono x) e (by rw[upd_ne (ne_of_none h f)];exact h)
theorem StOk.laid(S:StOk K ad H st)(b:H p=ab)(d:∀ kvs,o≠.dT kvs:=by intro _ z;cases z):StOk K ad (upd H p o) st:=
 ⟨S.len,S.nd,λi c e=>let ⟨a,h,q⟩:=S.cell i c e;⟨a,h,q.laid h b (Ext.laid b d)⟩⟩
def XC{l:Li α}{x y:α}(h:(l++[x])[i]?=aa y):l[i]?=aa y\/(i=l.length/\y=x):=by
 by_cases a:i < l.length
 .rw[bG a]at h
  exact .inl h
 .rw[bA (by omega)]at h
  have:i - l.length=0:=by
   cases e:i - l.length with
   |zero=>rfl
   |succ k=>rw[e]at h;simp at h
  rw[this]at h;simp at h;exact .inr ⟨by omega,h.symm⟩
def Xa{l:Li α}{x y:α}(h:l[i]?=aa y):(l++[x])[i]?=aa y:=by
 rw[bG (bF.mp h).1];exact h
def Zt{l:Li α}{x:α}:(l++[x])[l.length]?=aa x:=by simp
def Ext.pushG(c:H p=ab)(e:∀ (i:Nat) (a:Ad),ad[i]?=aa a->(Ya H a↔Ya (upd H p o) a)):Ext ad H (ad++[p]) (upd H p o):=
 ⟨λ_ _ h=>Xa h,λb d h=>by rw[upd_ne (ne_of_none h c)];exact h,λb d h=>by rw[upd_ne (ne_of_none h c)];exact h,λb o h _=>by rw[upd_ne (ne_of_none h c)];exact h,λb h=>(bE.mp h).elim .inl λz=>.inr (by rw[aI.mp z];exact c),e⟩
def Ext.push(a:H p=ab):Ext ad H (ad++[p]) (upd H p (.lst xs)):=Ext.pushG a λ_ _ _=>WH (QG a) λ_ z=>nomatch z
def StOk.more(S:StOk K ad H st)(o:∀ (i:Nat) (c:Li D),ad[i]?=aa p->st[i]?=aa (ae,c)->False)(u:∀ (i:Nat) (c:Xl) (a:Ad),ad[i]?=aa a->CellOk K ad H a c->CellOk K (ad++[p]) H' a c)(t:CellOk K (ad++[p]) H' p (ae,ds)):StOk K (ad++[p]) H' (st++[(ae,ds)]):=by
 have b:∀ (i:Nat) (c:Li D) (a:Ad),(ad++[p])[i]?=aa a->st[i]?=aa (ae,c)->ad[i]?=aa a:=λi c a h e=>by
  obtain⟨z,k,_⟩:=S.cell i _ e;have n:=Xa (x:=p) k;rw[h]at n;cases n;exact k
 refine⟨by rw[aH,aH,S.len];rfl,λi j a c d m l g f=>?_,λi c e=>?_⟩
 .rcases XC g with g|⟨v,_⟩
  .rcases XC f with f|⟨r,_⟩
   .exact S.nd i j a c d (b i c a m g) (b j d a l f) g f
   .have k:=b i c a m g
    rw[r,<-S.len,Zt]at l;cases l;exact(o i c k g).elim
  .rcases XC f with f|⟨r,_⟩
   .have s:=b j d a l f
    rw[v,<-S.len,Zt]at m;cases m;exact(o j d s f).elim
   .omega
 .rcases XC e with e|⟨y,w⟩
  .obtain⟨a,h,q⟩:=S.cell i c e
   exact⟨a,Xa h,u i c a h q⟩
  .subst w
   exact⟨p,by rw[y,<-S.len];exact Zt,t⟩
def StOk.noNew(S:StOk K ad H st)(a:H p=ab)(i:Nat)(c:Li D)(h:ad[i]?=aa p)(e:st[i]?=aa (ae,c)):False:=by
 obtain⟨f,b,q⟩:=S.cell i _ e;rw[h]at b;cases b
 cases q with
 |l _ _ q=>
  obtain⟨_,q⟩|⟨q,_⟩:=q
  .rw[a]at q;cases q
  .cases q
 |d _ _ q=>rw[a]at q;cases q
theorem StOk.push(S:StOk K ad H st)(a:H p=ab)(r:Dens K ad H xs ds):StOk K (ad++[p]) (upd H p (.lst xs)) (st++[(ae,ds)]):=
 S.more (S.noNew a) (λ_ _ _ h q=>q.laid h a (Ext.push a)) (.l (Wz upd_same λ_ z=>nomatch z) (r.mono (Ext.push a)) (.inl ⟨rfl,upd_same⟩))
def StOk.wrG(S:StOk K ad H st)(f:Keeps K ad ad H (upd H p o))(g:p∉ad):StOk K ad (upd H p o) st:=
 ⟨S.len,S.nd,λi c e=>by
  obtain⟨a,h,q⟩:=S.cell i c e;have ne:a≠p:=λz=>g (by rw[<-z];exact aV h)
  refine⟨a,h,?_⟩;cases q with
  |l n r q=>
   refine .l (λz=>n ((f.l h).2.mpr z)) (r.map f) ?_
   rcases q with⟨b,q⟩|⟨b,⟨o,q⟩|q⟩
   .exact .inl ⟨b,by rw[upd_ne ne];exact q⟩
   .exact .inr ⟨b,.inl ⟨o,by rw[upd_ne ne];exact q⟩⟩
   .exact .inr ⟨b,.inr q⟩
  |d r t q=>exact .d (r.map f) t (by rw[upd_ne ne];exact q)⟩
def StOk.has{a:Ad}(S:StOk K ad H st)(b:ad[i]?=aa a):(∃ o,H a=aa o)\/∃ o,K.lookup a=aa o:=by
 obtain⟨h,c,q⟩:=S.cell i _ (Lg (show i < st.length by rw[<-S.len];exact(bF.mp b).1))
 rw[b]at c;cases c
 cases q with
 |l _ _ q=>
  obtain⟨_,q⟩|⟨_,⟨o,q⟩|⟨o,e,m,⟨f,g⟩,_⟩⟩:=q
  .exact .inl ⟨_,q⟩
  .exact .inl ⟨_,q⟩
  .exact .inr ⟨_,f⟩
 |d _ _ q=>exact .inl ⟨_,q⟩
def StOk.extD(S:StOk K ad H st)(b:H p=ab)(c:∀ o,K.lookup p≠aa o):Ext ad H (ad++[p]) (upd H p (.dT kvs)):=
 Ext.pushG b λi a h=>by
  have n:a≠p:=λz=>(S.has h).elim (λ⟨o,q⟩=>by rw[z,b]at q;cases q) λ⟨o,q⟩=>c o (z ▸ q)
  unfold Ya;rw[upd_ne n]
def StOk.pushD(S:StOk K ad H st)(a:H p=ab)(b:∀ o,K.lookup p≠aa o):StOk K (ad++[p]) (upd H p (.dT [])) (st++[(ae,[])]):=
 S.more (S.noNew a) (λ_ _ _ h q=>q.laid h a (S.extD a b)) (.d .nil rfl upd_same)
def StOk.adopt(S:StOk K ad H st)(c:H p=aa (.lst xs))(f:p∉ad)(r:Dens K ad H xs ds):StOk K (ad++[p]) H (st++[(ae,ds)]):=by
 have a:Keeps K ad (ad++[p]) H H:=ZeF (λ_ _ h=>Xa h) (λb g=>(bE.mp g).imp id λz=>⟨xs,by rw[aI.mp z];exact c⟩)
 exact S.more (λi _ h _=>f (aV h)) (λ_ _ _ _ q=>by
  cases q with
  |l n r h=>exact .l n (r.map a) h
  |d r e h=>exact .d (r.map a) e h) (.l (Wz c λ_ z=>nomatch z) (r.map a) (.inl ⟨rfl,c⟩))
def Ext.writeG{a:Ad}{d:HO}(h:H a=aa o)(i:a∈ad)(k:∀ c,o≠.tup c)(j:∀ c,o≠.dK c)(g:Ya H a↔Ya (upd H a d) a):Ext ad H ad (upd H a d):=
 ⟨λ_ _ h=>h,λb f e=>by rw[upd_ne (ne_of e h (λz=>k _ z.symm))];exact e,λb f e=>by rw[upd_ne (ne_of e h (λz=>j _ z.symm))];exact e,λb o e n=>by rw[upd_ne (show b≠a from λz=>n (by rw[z];exact i))];exact e,λ_ h=>.inl h,λ_ b _=>by
  by_cases z:b=a
  .rw[z];exact g
  .unfold Ya;rw[upd_ne z]⟩
def Ext.write{a:Ad}(h:H a=aa (.lst xs))(b:a∈ad):Ext ad H ad (upd H a (.lst ys)):=
 Ext.writeG h b (λ_ z=>nomatch z) (λ_ z=>nomatch z) ⟨λz=>au z (Wz h λ_ z=>nomatch z),λz=>au z (Wz upd_same λ_ z=>nomatch z)⟩
def StOk.writeG{a:Ad}{g:HO}(S:StOk K ad H st)(h:ad[i]?=aa a)(e:st[i]?=aa (ae,ds))(y:H a=aa o)(B:∀ q u,o≠.frz q u)(x:Ext ad H ad (upd H a g))(r:CellOk K ad (upd H a g) a (ae,es)) :
  StOk K ad (upd H a g) (st.set i (ae,es)):=by
 have A:i < st.length:=(bF.mp e).1;refine⟨by rw[bK];exact S.len,λj k b c d E C s p=>?_,λj c q=>?_⟩
 .have up:∀ (j:Nat) (c:Li D),(st.set i (ae,es))[j]?=aa (ae,c)->∃ v,st[j]?=aa (ae,v):=λj c q=>by
   by_cases z:i=j
   .subst z;exact⟨_,e⟩
   .rw[bX z]at q;exact⟨_,q⟩
  obtain⟨v,s⟩:=up j c s;obtain⟨F,p⟩:=up k d p;exact S.nd j k b v F E C s p
 .by_cases z:i=j
  .subst z
   rw[bR A]at q;cases q;exact⟨a,h,r⟩
  .rw[bX z]at q
   obtain⟨b,m,hz⟩:=S.cell j c q;refine⟨b,m,?_⟩;have ne:c.1=ae->b≠a:=λt w=>by
    obtain⟨I,G⟩:=c;cases (show I=ae from t)
    exact z (S.nd i j a ds G h (w ▸ m) e q)
   cases hz with
   |l n f hz=>
    refine .l (λz=>n ((x.kd j b m).mpr z)) (f.mono x) ?_
    rcases hz with⟨t,hz⟩|⟨t,⟨o,hz⟩|hz⟩
    .exact .inl ⟨t,by rw[upd_ne (ne t)];exact hz⟩
    .exact .inr ⟨t,.inl ⟨o,by rw[upd_ne (ne_of hz y (λz=>B _ _ z.symm))];exact hz⟩⟩
    .exact .inr ⟨t,.inr hz⟩
   |d f t hz=>exact .d (f.mono x) t (by rw[upd_ne (ne t)];exact hz)
theorem StOk.write{a:Ad}(S:StOk K ad H st)(h:LA ad H i a)(e:st[i]?=aa (ae,ds))(b:H a=aa (.lst xs))(r:Dens K ad H ys es) :
  StOk K ad (upd H a (.lst ys)) (st.set i (ae,es)):=
 S.writeG h.1 e b (λ_ _ z=>nomatch z) (Ext.write b (aV h.1)) (.l (Wz upd_same λ_ z=>nomatch z) (r.mono (Ext.write b (aV h.1))) (.inl ⟨rfl,upd_same⟩))
def Ext.writeD{a:Ad}(h:H a=aa (.dT kvs))(b:a∈ad):Ext ad H ad (upd H a (.dT kvs')):=
 Ext.writeG h b (λ_ z=>nomatch z) (λ_ z=>nomatch z) ⟨λ_=>⟨_,upd_same⟩,λ_=>⟨_,h⟩⟩
theorem StOk.writeD{a:Ad}(S:StOk K ad H st)(h:ad[i]?=aa a)(e:st[i]?=aa (ae,ds))(b:H a=aa (.dT kvs))(r:Ents K ad H kvs' es) :
  StOk K ad (upd H a (.dT kvs')) (st.set i (ae,es)):=
 S.writeG h e b (λ_ _ z=>nomatch z) (Ext.writeD b (aV h)) (.d (r.mono (Ext.writeD b (aV h))) rfl upd_same)
structure EnvOk(K:Fg)(ad:List Addr)(H:Hp)(O:L2.St)(U:Env):Prop where
 len:O.length=U.length
 at_:∀ (i:Nat) (d:D),U[i]?=aa (aa d)->∃ v,O[i]?=aa (aa v)/\Den K ad H v d
theorem EnvOk.mono(x:Ext ad H ad' H')(h:EnvOk K ad H O U):EnvOk K ad' H' O U:=⟨h.len,λi d e=>let ⟨v,e1,e2⟩:=h.at_ i d e;⟨v,e1,e2.mono x⟩⟩
theorem EnvOk.set{v:V}(h:EnvOk K ad H O U)(i:Nat)(r:Den K ad H v d):EnvOk K ad H (O.set i (aa v)) (Zh U i d):=by
 refine⟨by unfold Zh;rw[bK,bK];exact h.len,λj e q=>?_⟩
 unfold Zh at q;by_cases z:i=j
 .subst z
  by_cases a:i < U.length
  .rw[bR a]at q
   cases q;exact⟨v,by rw[bR (by rw[h.len];exact a)],r⟩
  .rw[cQ (by rw[bK];omega)]at q
   cases q
 .rw[bX z]at q
  obtain⟨w,c,b⟩:=h.at_ j e q;exact⟨w,by rw[bX z];exact c,b⟩
def Post(K:Fg)(ad:Li Ad)(H:Hp)(d:D)(a:Za)(Q:VK):Prop:=∀ v ad' H',Ext ad H ad' H'->StOk K ad' H' a->Den K ad' H' v d->Q v H'
def tE(K:Fg)(f:Env->Za->Res):TE:=λO H Q=>∃ ad U st d a,EnvOk K ad H O U/\StOk K ad H st/\f U st=aa (d,a)/\Post K ad H d a Q
def tT(K:Fg)(f:Env->Za->Res):TT:=λO H Q=>∃ ad U st k a,EnvOk K ad H O U/\StOk K ad H st/\f U st=aa (.bl k,a)/\∀ ad' H',Ext ad H ad' H'->StOk K ad' H' a->Q k H'
def tA(K:Fg)(f:Env->Za->Res):TA:=λO H Q=>∃ ad U st ds a,EnvOk K ad H O U/\StOk K ad H st/\f U st=aa (.tup ds,a)/\∀ vs ad' H',Ext ad H ad' H'->StOk K ad' H' a->Dens K ad' H' vs ds->Q vs H'
def rD(K:Fg)(f:D->D->Za->Res):R2:=λx y H Q=>∃ ad st c b d a,StOk K ad H st/\Den K ad H x c/\Den K ad H y b/\f c b st=aa (d,a)/\Post K ad H d a Q
noncomputable def spD(K:Fg)(g:Fn):Sp:=λvs H Q _=>∃ ad ds st d a,StOk K ad H st/\Dens K ad H vs ds/\g ds st=aa (d,a)/\Post K ad H d a Q
def tS(K:Fg)(f:Env->Za->Ot (Fl×Za)):TS:=λD O H=>∃ ad U st r a,EnvOk K ad H O U/\StOk K ad H st/\f U st=aa (r,a) /\
 match r with
 |.nx U'=>∀ b ad' H',Ext ad H ad' H'->StOk K ad' H' a->EnvOk K ad' H' b U'->D.nx b H'
 |.bk U'=>∀ b ad' H',Ext ad H ad' H'->StOk K ad' H' a->EnvOk K ad' H' b U'->D.bk b H'
 |.ct U'=>∀ b ad' H',Ext ad H ad' H'->StOk K ad' H' a->EnvOk K ad' H' b U'->D.ct b H'
 |.rt d=>Post K ad H d a D.rt
def Post.at{Q:VK}(p:Post K ad H d st Q)(S:StOk K ad H st){v:V}(h:Den K ad H v d):Q v H:=p v ad H (Ext.refl _ _) S h
def Post.later{Q:VK}(p:Post K ad H d st Q)(x:Ext ad H ad' H'):Post K ad' H' d st Q:=λv a b y S h=>p v a b (x.trans y) S h
variable [ClsTab]
variable{x:D}{st':Za}
variable{X:Cx}
section
variable{a b c:az}{fa fb fc:Ev}{pos:Pos}
def Zcq(O:L2.St)(H:Hp)(Q:VK)(h:tE K (YT i) O H Q):tVar i O H Q:=by
 obtain⟨ad,U,st,d,st',E,S,e,p⟩:=h;unfold YT at e;split at e
 .rename_i q
  obtain⟨v,b,a⟩:=E.at_ i _ q;cases e;exact⟨v,b,p.at S a⟩
 .exact Zb e
def V0{v:V}(hd:∀ ad H,Den K ad H v d)(O:L2.St)(H:Hp)(Q:VK)(h:tE K (evC d) O H Q):tC v O H Q:=by
 obtain⟨ad,U,st,a,st',E,S,e,p⟩:=h;cases e;exact p.at S (hd _ _)
def Vf{g:D->D->Za->Res}(O:L2.St)(H:Hp)(Q:VK)(h:tE K (ZE fa fb g) O H Q):tOp (rD K g) (tE K fa) (tE K fb) O H Q:=by
 obtain⟨ad,U,st,d,st',E,S,e,p⟩:=h;unfold ZE at e;split at e
 .rename_i x b l
  split at e
  .rename_i y a k
   refine⟨ad,U,st,x,b,E,S,l,λs f u j q n=>⟨f,U,b,y,a,E.mono j,q,k,λr c t i o m=>?_⟩⟩
   exact⟨c,a,x,y,d,st',o,n.mono i,m,e,p.later (j.trans i)⟩
  .exact Zb e
 .exact Zb e
def rU1(K:Fg)(g:D->Za->Res):V->Hp->VK->Prop:=λx H Q=>∃ ad st a d st',StOk K ad H st/\Den K ad H x a/\g a st=aa (d,st')/\Post K ad H d st' Q
def Zap{g:D->Za->Res}(O:L2.St)(H:Hp)(Q:VK)(h:tE K (Zl fa g) O H Q):tUn (rU1 K g) (tE K fa) O H Q:=by
 obtain⟨ad,U,st,d,st',E,S,e,p⟩:=h;unfold Zl at e;split at e
 .rename_i x a f
  exact⟨ad,U,st,x,a,E,S,f,λk b l c j i=>⟨b,a,x,d,st',j,i,e,p.later c⟩⟩
 .exact Zb e
def Zao(O:L2.St)(H:Hp)(Q:Bool->Hp->Prop)(h:tT K fa O H Q):tE K fa O H λx d=>∃ c,x=.bl c/\Q c d:=by
 obtain⟨ad,U,st,k,st',E,S,e,p⟩:=h;exact⟨ad,U,st,.bl k,st',E,S,e,λv ad' H' x b a=>⟨k,a.ofBl,p ad' H' x b⟩⟩
def Z3{a b:Ev}{r:D×Za}(h:Y3 fc a b U st=aa r):∃ k st1,fc U st=aa (.bl k,st1)/\(if k=ae then a U st1 else b U st1)=aa r:=by
 unfold Y3 at h;split at h
 .rename_i st1 q
  exact⟨ae,st1,q,by rw[aq rfl];exact h⟩
 .rename_i st1 q
  exact⟨af,st1,q,by rw[ar Bf];exact h⟩
 .exact Zb h
def Zex(O:L2.St)(H:Hp)(Q:VK)(h:tE K (Y3 fc fa fb) O H Q):tIf (tT K fc) (tE K fa) (tE K fb) O H Q:=by
 obtain⟨ad,U,st,d,st',E,S,e,p⟩:=h;obtain⟨k,a,q,e⟩:=Z3 e;refine⟨ad,U,st,k,a,E,S,q,λb g c f=>?_⟩
 cases k with
 |true=>
  rw[aq rfl]at e ⊢;exact⟨b,U,a,d,st',E.mono c,f,e,p.later c⟩
 |false=>
  rw[ar Bf]at e ⊢;exact⟨b,U,a,d,st',E.mono c,f,e,p.later c⟩
def J7(O:L2.St)(H:Hp)(Q:VK)(h:tE K (Y3 fa fb (evC (.bl af))) O H Q):tAndV (tE K fa) (tE K fb) O H Q:=by
 obtain⟨ad,U,st,d,st',E,S,e,p⟩:=h;obtain⟨k,a,q,e⟩:=Z3 e;refine⟨ad,U,st,.bl k,a,E,S,q,λi c j b f g=>⟨k,g.ofBl,?_⟩⟩
 cases k with
 |true=>
  rw[aq rfl]at e ⊢;exact⟨c,U,a,d,st',E.mono b,f,e,p.later b⟩
 |false=>
  rw[ar Bf]at e ⊢;cases e;exact(p.later b).at f (.bl af)
def Zcj(O:L2.St)(H:Hp)(Q:VK)(h:tE K (Y3 fa (evC (.bl ae)) fb) O H Q):tOrV (tE K fa) (tE K fb) O H Q:=by
 obtain⟨ad,U,st,d,st',E,S,e,p⟩:=h;obtain⟨k,a,q,e⟩:=Z3 e;refine⟨ad,U,st,.bl k,a,E,S,q,λi c j b f g=>⟨k,g.ofBl,?_⟩⟩
 cases k with
 |true=>
  rw[aq rfl]at e ⊢;cases e;exact(p.later b).at f (.bl ae)
 |false=>
  rw[ar Bf]at e ⊢;exact⟨c,U,a,d,st',E.mono b,f,e,p.later b⟩
def J6(O:L2.St)(H:Hp)(Q:Bool->Hp->Prop)(h:tT K (Y3 fa fb (evC (.bl af))) O H Q):tAnd (tT K fa) (tT K fb) O H Q:=by
 obtain⟨ad,U,st,d,st',E,S,e,p⟩:=h;obtain⟨k,a,q,e⟩:=Z3 e;refine⟨ad,U,st,k,a,E,S,q,λb m c g=>?_⟩
 cases k with
 |true=>
  rw[aq rfl]at e ⊢;exact⟨b,U,a,d,st',E.mono c,g,e,λf l i j=>p f l (c.trans i) j⟩
 |false=>
  rw[ar Bf]at e ⊢;cases e;exact p b m c g
def Zci(O:L2.St)(H:Hp)(Q:Bool->Hp->Prop)(h:tT K (Y3 fa (evC (.bl ae)) fb) O H Q):tOr (tT K fa) (tT K fb) O H Q:=by
 obtain⟨ad,U,st,d,st',E,S,e,p⟩:=h;obtain⟨k,a,q,e⟩:=Z3 e;refine⟨ad,U,st,k,a,E,S,q,λb m c g=>?_⟩
 cases k with
 |true=>
  rw[aq rfl]at e ⊢;cases e;exact p b m c g
 |false=>
  rw[ar Bf]at e ⊢;exact⟨b,U,a,d,st',E.mono c,g,e,λf l i j=>p f l (c.trans i) j⟩
def Zak(O:L2.St)(H:Hp)(Q:Bool->Hp->Prop)(h:tT K (Zl fa ZaO) O H Q):tNot (tT K fa) O H Q:=by
 obtain⟨ad,U,st,d,st',E,S,e,p⟩:=h;unfold Zl at e;split at e
 .rename_i x a f
  cases x with
  |bl k=>
   cases (show aa (D.bl (!k),a)=_ from e)
   exact⟨ad,U,st,k,_,E,S,f,λb i c g=>p b i c g⟩
  |_=>simp[ZaO]at e
 .exact Zb e
def Zal(O:L2.St)(H:Hp)(Q:VK)(h:tE K (Zl fa ZaO) O H Q):tNotV (tE K fa) O H Q:=by
 obtain⟨ad,U,st,d,st',E,S,e,p⟩:=h;unfold Zl at e;split at e
 .rename_i x a c
  cases x with
  |bl k=>
   cases (show aa (D.bl (!k),a)=_ from e)
   exact⟨ad,U,st,.bl k,_,E,S,c,λj g l b i f=>⟨k,f.ofBl,(p.later b).at i (.bl _)⟩⟩
  |_=>simp[ZaO]at e
 .exact Zb e
def Ws(O:L2.St)(H:Hp)(Q:Li V->Hp->Prop)(h:tA K (evC (.tup [])) O H Q):tNil O H Q:=by
 obtain⟨ad,U,st,d,st',E,S,e,p⟩:=h;cases e;exact p [] ad H (Ext.refl _ _) S .nil
def WW(O:L2.St)(H:Hp)(Q:Li V->Hp->Prop)(h:tA K (ZE fa fb VS) O H Q):tCons (tE K fa) (tA K fb) O H Q:=by
 obtain⟨ad,U,st,d,st',E,S,e,p⟩:=h;unfold ZE at e;split at e
 .rename_i x a l
  split at e
  .rename_i y c k
   cases y with
   |tup b=>
    have e:(if b.length < 1000 then aa (D.tup (x :: b),c) else ab)=aa (D.tup d,st'):=e
    split at e
    .cases e
     refine⟨ad,U,st,_,a,E,S,l,λt g u j q n=>⟨g,U,a,b,_,E.mono j,q,k,λs f r i o m=>?_⟩⟩
     exact p _ f r (j.trans i) o (.cons (n.mono i) m)
    .cases e
   |_=>simp[VS]at e
  .cases e
 .cases e
def Zcp(i:∀ U st ds st',fa U st=aa (.tup ds,st')->ds.length<=1000)(g:∀ U st d st',fa U st=aa (d,st')->∃ ds,d=.tup ds)(O:L2.St)(H:Hp)(Q:VK)(h:tE K fa O H Q):tTup (tA K fa) O H Q:=by
 obtain⟨ad,U,st,d,st',E,S,e,p⟩:=h;obtain⟨ds,rfl⟩:=g _ _ _ _ e;refine⟨ad,U,st,ds,st',E,S,e,λvs b k f j c=>⟨?_,λq a=>?_⟩⟩
 .rw[c.length]
  exact aP (i _ _ _ _ e) (by decide)
 .exact p _ b _ (f.trans (Ext.laid a)) (j.laid a) (.tup (.inl upd_same) (c.mono (Ext.laid a)))
def Zcg(k:∀ U st ds st',fa U st=aa (.tup ds,st')->ds.length<=1000)(O:L2.St)(H:Hp)(Q:VK)(h:tE K (Zl fa ZaH) O H Q):tLst (tA K fa) O H Q:=by
 obtain⟨ad,U,st,d,st',E,S,e,p⟩:=h;unfold Zl at e;split at e
 .rename_i x a c
  cases x with
  |tup ds=>
   cases (show aa (D.lst a.length,a++[(ae,ds)])=_ from e)
   refine⟨ad,U,st,ds,_,E,S,c,λvs b l j i g=>⟨?_,λq f=>?_⟩⟩
   .rw[g.length]
    exact aP (k _ _ _ _ c) (by decide)
   .refine p _ (b++[q]) _ (j.trans (Ext.push f)) (i.push f g) (.newL ?_)
    rw[<-i.len];exact Zt
  |_=>simp[ZaH]at e
 .exact Zb e
def V1{g:Fn}{a:Li V}{E:XK}(hd:∀ ad H,Dens K ad H a ds)(O:L2.St)(H:Hp)(Q:VK)(h:tE K (Zl fa (X1 g ds)) O H Q):tCall (spD K g) a E (tA K fa) O H Q:=by
 obtain⟨ad,U,st,d,st',E,S,e,p⟩:=h;unfold Zl at e;split at e
 .rename_i x i j
  cases x with
  |tup c=>exact⟨ad,U,st,c,_,E,S,j,λvs b m f l k=>⟨b,c++ds,_,d,st',l,k.append (hd _ _),e,p.later f⟩⟩
  |_=>simp[X1]at e
 .exact Zb e
def rC(K:Fg)(g:Li D->Za->Res):Li V->Hp->VK->Prop:=λvs H Q=>∃ ad st ds d st',StOk K ad H st/\Dens K ad H vs ds/\g ds st=aa (d,st')/\Post K ad H d st' Q
noncomputable def on1(g:D->Za->Res):Li D->Za->Res
 |[x],st=>g x st
 |_,_=>ab
def XE{g:D->Za->Res}(O:L2.St)(H:Hp)(Q:VK)(h:tE K (Zl fa g) O H Q):tCB (rC K (on1 g)) (tCons (tE K fa) tNil) O H Q:=by
 obtain⟨ad,U,st,d,st',E,S,e,p⟩:=h;unfold Zl at e;split at e
 .rename_i x a f
  exact⟨ad,U,st,x,a,E,S,f,λk b l c j i=>⟨b,a,[x],d,st',j,.cons i .nil,e,p.later c⟩⟩
 .exact Zb e
def tO(K:Fg)(f:Ev):TO:=λO H Q=>∃ ad U st d st',EnvOk K ad H O U/\StOk K ad H st/\f U st=aa (d,st') /\
 ((d=.non/\∀ ad' H',Ext ad H ad' H'->StOk K ad' H' st'->Q ab H')\/∃ i,d=.int i/\∀ ad' H',Ext ad H ad' H'->StOk K ad' H' st'->Q (aa i) H')
def rSl(K:Fg):V->Ot Int->Ot Int->Hp->VK->Prop:=λx lo b H Q=>∃ ad st a d st',StOk K ad H st/\Den K ad H x a/\Z6 a lo b st=aa (d,st')/\Post K ad H d st' Q
noncomputable def part:D->Ot (Ot Int)
 |.non=>aa ab
 |.int i=>aa (aa i)
 |_=>ab
def Vw{l h:D}{r:D×Za}(e:YR x l h st=aa r):∃ lo a,part l=aa lo/\part h=aa a/\Z6 x lo a st=aa r:=by
 unfold YR at e;split at e
 .exact⟨_,_,rfl,rfl,e⟩
 .exact⟨_,_,rfl,rfl,e⟩
 .exact⟨_,_,rfl,rfl,e⟩
 .exact⟨_,_,rfl,rfl,e⟩
 .exact Zb e
def ZdW{f:Ev}{Q:Ot Int->Hp->Prop}{o:Ot Int}(E:EnvOk K ad H O U)(S:StOk K ad H st)(e:f U st=aa (d,st'))(a:part d=aa o)(q:∀ ad' H',Ext ad H ad' H'->StOk K ad' H' st'->Q o H'):tO K f O H Q:=by
 refine⟨ad,U,st,d,st',E,S,e,?_⟩;cases d with
 |non=>cases a;exact .inl ⟨rfl,q⟩
 |int i=>cases a;exact .inr ⟨i,rfl,q⟩
 |_=>exact Zb a
def Ji(O:L2.St)(H:Hp)(Q:VK)(h:tE K (Yz fa fb fc YR) O H Q):tSl (rSl K) (tE K fa) (tO K fb) (tO K fc) O H Q:=by
 obtain⟨ad,U,st,d,st',E,S,e,p⟩:=h;unfold Yz at e;split at e
 .rename_i x f m
  split at e
  .rename_i y j l
   split at e
   .rename_i z c k
    obtain⟨lo,A,n,o,e⟩:=Vw e;refine⟨ad,U,st,x,f,E,S,m,λw s D b v q=>ZdW (E.mono b) v l n λr C a u=>ZdW (E.mono (b.trans a)) u k o λg B i t=>?_⟩
    exact⟨g,c,x,d,st',t,q.mono (a.trans i),e,p.later (b.trans (a.trans i))⟩
   .exact Zb e
  .exact Zb e
 .exact Zb e
def Zch(O:L2.St)(H:Hp)(Q:Ot Int->Hp->Prop)(h:tO K (evC .non) O H Q):tNoPart O H Q:=by
 obtain⟨ad,U,st,d,st',E,S,e,p⟩:=h;cases e;rcases p with⟨_,p⟩|⟨i,z,_⟩
 .exact p ad H (Ext.refl _ _) S
 .cases z
end
variable [ClsTab]
def PostS(K:Fg)(ad:Li Ad)(H:Hp)(r:Fl)(st':Za)(D:Ends):Prop:=match r with
 |.nx U'=>∀ a ad' H',Ext ad H ad' H'->StOk K ad' H' st'->EnvOk K ad' H' a U'->D.nx a H'
 |.bk U'=>∀ a ad' H',Ext ad H ad' H'->StOk K ad' H' st'->EnvOk K ad' H' a U'->D.bk a H'
 |.ct U'=>∀ a ad' H',Ext ad H ad' H'->StOk K ad' H' st'->EnvOk K ad' H' a U'->D.ct a H'
 |.rt d=>Post K ad H d st' D.rt
theorem PostS.later{r:Fl}{D:Ends}(x:Ext ad H ad' H')(p:PostS K ad H r st D):PostS K ad' H' r st D:=by
 cases r with
 |nx U=>exact λa b c y S E=>p a b c (x.trans y) S E
 |bk U=>exact λa b c y S E=>p a b c (x.trans y) S E
 |ct U=>exact λa b c y S E=>p a b c (x.trans y) S E
 |rt d=>exact Post.later p x
def ZM{f:Ex}{D:Ends}{r:Fl}(E:EnvOk K ad H O U)(S:StOk K ad H st)(e:f U st=aa (r,st'))(p:PostS K ad H r st' D):tS K f D O H:=by
 refine⟨ad,U,st,r,st',E,S,e,?_⟩;cases r<;>exact p
def ZL{f:Ex}{D:Ends}(h:tS K f D O H):∃ ad U st r st',EnvOk K ad H O U/\StOk K ad H st/\f U st=aa (r,st')/\PostS K ad H r st' D:=by
 obtain⟨ad,U,st,r,st',E,S,e,p⟩:=h;refine⟨ad,U,st,r,st',E,S,e,?_⟩;cases r<;>exact p
variable{j l m:Nat}{E:Ends}{B:D->Env->Za->Ot (Fl×Za)}
section
variable{f g:Ex}{fe fi fk:Ev}
def V2(D:Ends)(O:L2.St)(H:Hp)(h:tS K (λU st=>aa (.nx U,st)) D O H):tNext D O H:=by
 obtain⟨ad,U,st,r,st',E,S,e,p⟩:=ZL h;cases e;exact p O ad H (Ext.refl _ _) S E
def Zca(D:Ends)(O:L2.St)(H:Hp)(h:tS K (λU st=>aa (.bk U,st)) D O H):tBreak D O H:=by
 obtain⟨ad,U,st,r,st',E,S,e,p⟩:=ZL h;cases e;exact p O ad H (Ext.refl _ _) S E
def J9(D:Ends)(O:L2.St)(H:Hp)(h:tS K (λU st=>aa (.ct U,st)) D O H):tCont D O H:=by
 obtain⟨ad,U,st,r,st',E,S,e,p⟩:=ZL h;cases e;exact p O ad H (Ext.refl _ _) S E
def Zco(D:Ends)(O:L2.St)(H:Hp)(h:tS K (YQ f g) D O H):tSeq (tS K f) (tS K g) D O H:=by
 obtain⟨ad,U,st,r,st',E,S,e,p⟩:=ZL h;unfold YQ at e;split at e
 .rename_i a i q
  exact ZM E S q λb j m c k l=>ZM l k e (p.later c)
 .rename_i q
  refine ZM E S e ?_;cases r with
  |nx a=>exact au e (q a st')
  |bk a=>exact p
  |ct a=>exact p
  |rt d=>exact p
def Zcm(D:Ends)(O:L2.St)(H:Hp)(h:tS K (UZ fe) D O H):tRet (tE K fe) D O H:=by
 obtain⟨ad,U,st,r,st',E,S,e,p⟩:=ZL h;unfold UZ at e;split at e
 .rename_i d a q
  cases e;exact⟨ad,U,st,d,_,E,S,q,p⟩
 .exact Zb e
def Vg(D:Ends)(O:L2.St)(H:Hp)(h:tS K (Vv i fe) D O H):tAsg (tE K fe) (gName i) D O H:=by
 obtain⟨ad,U,st,r,st',E,S,e,p⟩:=ZL h;unfold Vv at e;split at e
 .rename_i d c q
  cases e;exact⟨ad,U,st,d,_,E,S,q,λv a j b g f=>p _ a j b g ((E.mono b).set i f)⟩
 .exact Zb e
def Zam(D:Ends)(O:L2.St)(H:Hp)(h:tS K (Uk i j fe) D O H):tAsg (tE K fe) (gTup K 2 (gCons (gName i) (gCons (gName j) gNil))) D O H:=by
 obtain⟨ad,U,st,r,st',E,S,e,p⟩:=ZL h;unfold Uk at e;split at e
 .rename_i x y f q
  cases e;refine⟨ad,U,st,_,_,E,S,q,λv c m d l b=>?_⟩
  obtain⟨a,vs,rfl,g,rv⟩:=b.ofTup;cases rv with
  |cons b rv=>
   cases rv with
   |cons k rv=>
    cases rv;exact⟨a,_,rfl,(g).sq,rfl,_,_,rfl,_,_,rfl,rfl,p _ c m d l (((E.mono d).set i b).set j k)⟩
 .exact Zb e
def Zan(D:Ends)(O:L2.St)(H:Hp)(h:tS K (Zbm i j l fe) D O H):tAsg (tE K fe) (gTup K 3 (gCons (gName i) (gCons (gName j) (gCons (gName l) gNil)))) D O H:=by
 obtain⟨ad,U,st,r,st',E,S,e,p⟩:=ZL h;unfold Zbm at e;split at e
 .rename_i x y z f q
  cases e;refine⟨ad,U,st,_,_,E,S,q,λv c o d n b=>?_⟩
  obtain⟨a,vs,rfl,g,rv⟩:=b.ofTup;cases rv with
  |cons b rv=>
   cases rv with
   |cons m rv=>
    cases rv with
    |cons k rv=>
     cases rv;exact⟨a,_,rfl,(g).sq,rfl,_,_,rfl,_,_,rfl,_,_,rfl,rfl,p _ c o d n ((((E.mono d).set i b).set j m).set l k)⟩
 .exact Zb e
def Zb8(D:Ends)(O:L2.St)(H:Hp)(h:tS K (Zd9 fe) D O H):tDrop (tE K fe) D O H:=by
 obtain⟨ad,U,st,r,st',E,S,e,p⟩:=ZL h;unfold Zd9 at e;split at e
 .rename_i d c q
  cases e;exact⟨ad,U,st,d,_,E,S,q,λv a g b f i=>p _ a g b f (E.mono b)⟩
 .exact Zb e
def Zcf(D:Ends)(O:L2.St)(H:Hp)(h:tS K (Yo fe f g) D O H):tIfS (tT K fe) (tS K f) (tS K g) D O H:=by
 obtain⟨ad,U,st,r,st',E,S,e,p⟩:=ZL h;unfold Yo at e;split at e
 .rename_i a q
  refine⟨ad,U,st,ae,a,E,S,q,λc i b d=>?_⟩
  dsimp only;rw[aq rfl];exact ZM (E.mono b) d e (p.later b)
 .rename_i a q
  refine⟨ad,U,st,af,a,E,S,q,λc i b d=>?_⟩
  dsimp only;rw[ar Bf];exact ZM (E.mono b) d e (p.later b)
 .exact Zb e
def Vy{a:Ad}(S:StOk K ad H st)(h:LA ad H i a):∃ b ds,st[i]?=aa (b,ds):=by
 have c:i < st.length:=by rw[<-S.len];exact(bF.mp h.1).1
 exact⟨st[i].1,st[i].2,by rw[Lg c]⟩
def Qj{c:Za}{a:Ad}{v:V}(S:StOk K ad H st)(h:LA ad H i a)(hd:Den K ad H v d)(e:JB i d st=aa c) :
  ∃ b,H a=aa (.lst b)/\b.length < ay/\Ext ad H ad (upd H a (.lst (b++[v])))/\StOk K ad (upd H a (.lst (b++[v]))) c:=by
 unfold JB at e;split at e
 .rename_i ds q
  split at e
  .rename_i g
   cases e;obtain⟨b,r,f⟩:=S.listM h q;refine⟨b,f,?_,Ext.write f (aV h.1),S.write h q f (r.append (.cons hd .nil))⟩;rw[r.length];exact aS g (by decide)
  .exact Zb e
 .exact Zb e
def Zb9(D:Ends)(O:L2.St)(H:Hp)(h:tS K (JD i fe) D O H):tDrop (tBM K "list" rAppend (tVar i) (tCons (tE K fe) tNil)) D O H:=by
 obtain⟨ad,U,st,r,st',E,S,e,p⟩:=ZL h;unfold JD at e;split at e
 .rename_i a s
  split at e
  .rename_i d f q
   split at e
   .rename_i n o
    cases e;obtain⟨v,z,y⟩:=E.at_ i _ s;obtain⟨l,rfl,g⟩:=y.ofLst;obtain⟨b,ds,x⟩:=Vy S g;obtain⟨m,_,sq⟩:=S.list g x;refine⟨_,z,.inl ⟨rfl,m,sq⟩,ad,U,st,d,f,E,S,q,λw j F c C A=>?_⟩
    obtain⟨ys,u,t,k,B⟩:=Qj C (g.mono c) A o;exact⟨l,ys,w,rfl,rfl,u,t,p _ j _ (c.trans k) B (E.mono (c.trans k))⟩
   .exact Zb e
  .exact Zb e
 .exact Zb e
def J8{o:Ev}(D:Ends)(O:L2.St)(H:Hp)(h:tS K (JC o fe) D O H):tDrop (tBM K "list" rAppend (tE K o) (tCons (tE K fe) tNil)) D O H:=by
 obtain⟨ad,U,st,r,st',E,S,e,p⟩:=ZL h;unfold JC at e;split at e
 .rename_i a c x
  split at e
  .rename_i d i u
   split at e
   .rename_i s t
    cases e;refine⟨ad,U,st,.lst a,c,E,S,x,λv m J g S0 C=>?_⟩
    obtain⟨l,rfl,j⟩:=C.ofLst;obtain⟨b,ds,A⟩:=Vy S0 j;obtain⟨q,_,sq⟩:=S0.list j A;refine⟨.inl ⟨rfl,q,sq⟩,m,U,c,d,i,E.mono g,S0,u,λw k I f G B=>?_⟩
    obtain⟨ys,z,y,n,F⟩:=Qj G (j.mono f) B t;exact⟨l,ys,w,rfl,rfl,z,y,p _ k _ ((g.trans f).trans n) F (E.mono ((g.trans f).trans n))⟩
   .exact Zb e
  .exact Zb e
 .exact Zb e
def Zcb(D:Ends)(O:L2.St)(H:Hp)(h:tS K (JY i fe) D O H):tDrop (tBM K "list" rExtend (tVar i) (tCons (tE K fe) tNil)) D O H:=by
 obtain⟨ad,U,st,r,st',E,S,e,p⟩:=ZL h;unfold JY at e;split at e
 .rename_i a C
  split at e
  .rename_i b g B
   split at e
   .rename_i A d
    cases e;obtain⟨v,M,L⟩:=E.at_ i _ C;obtain⟨l,rfl,n⟩:=L.ofLst;obtain⟨Q,ds,I⟩:=Vy S n;obtain⟨z,_,sq⟩:=S.list n I;refine⟨_,M,.inl ⟨rfl,z,sq⟩,ad,U,st,.lst b,g,E,S,B,λw o R f q N=>?_⟩
    obtain⟨m,rfl,G⟩:=N.ofLst;unfold Zer at d;split at d
    .rename_i P es y J
     split at d
     .rename_i F
      cases d;have c:=n.mono f;obtain⟨ys,x,k⟩:=q.listM c y;obtain⟨s,u,j⟩:=q.listM G J;have t:=Ext.write (ys:=ys++s) k (aV c.1);refine⟨l,m,ys,s,rfl,rfl,k,j,?_,p _ o _ (f.trans t) (q.write c y k (x.append u)) (E.mono (f.trans t))⟩;rw[x.length,u.length];exact aP F (by decide)
     .exact Zb d
    .exact Zb d
   .exact Zb e
  .exact Zb e
 .exact Zb e
def Zcl(D:Ends)(O:L2.St)(H:Hp)(h:tS K (UW i fk fe) D O H):tAsg (tE K fe) (gSub (tVar i) (tE K fk) rSetL) D O H:=by
 obtain⟨ad,U,st,r,st',E,S,e,p⟩:=ZL h;unfold UW at e;split at e
 .rename_i d g F
  split at e
  .rename_i a G
   split at e
   .rename_i j o C
    split at e
    .rename_i A f
     cases e;obtain⟨v,L,J⟩:=E.at_ i _ G;obtain⟨l,rfl,I⟩:=J.ofLst;refine⟨ad,U,st,d,g,E,S,F,λw s R n P N=>⟨_,L,s,U,g,.int j,o,E.mono n,P,C,λQ c z m y M=>?_⟩⟩
     cases M.ofInt;unfold Wf at f;split at f
     .rename_i ds x
      split at f
      .rename_i k B
       cases f;have b:=I.mono (n.trans m);obtain⟨t,r,q⟩:=y.listM b x;have u:Ext c z c (upd z l (.lst (t.set k w))):=Ext.write q (aV b.1);refine⟨l,t,j,k,rfl,rfl,q,?_,p _ c _ (n.trans (m.trans u)) (y.write b x q (r.set (N.mono m) k)) (E.mono (n.trans (m.trans u)))⟩;rw[r.length];exact B
      .exact Zb f
     .exact Zb f
    .exact Zb e
   .exact Zb e
  .exact Zb e
 .exact Zb e
def UK(a b i j:Int):ak (([.inl a,.inl b]:Li Key)=[.inl i,.inl j])=(ak (a=i)&&ak (b=j)):=by
 rw[cK];simp
def JW{i j:Int}(r:Ents K ad H kvs ds):(kvs.any λa=>ak (a.1=[.inl i,.inl j]))=ds.any (isK i j):=by
 induction r with
 |nil=>rfl
 |cons h _ b=>rw[cM,cM,b,UK];rfl
def VX{i j:Int}{v:V}(hd:Den K ad H v d)(r:Ents K ad H kvs ds):Ents K ad H (putK kvs [.inl i,.inl j] v) (X2 ds i j d):=by
 unfold putK X2;rw[JW r];by_cases e:ds.any (isK i j)=ae
 .rw[aq e,aq e]
  clear e
  induction r with
  |nil=>exact .nil
  |@cons a b w c _ _ h _ f=>
   rw[aW,aW];have z:=UK a b i j;by_cases q:(ak (a=i)&&ak (b=j))=ae
   .rw[aq (ao (z.trans q)),aq (show isK i j (.tup [.int a,.int b,c])=ae from q)]
    rw[Ba,aO,aO]at q;rw[q.1,q.2];exact .cons hd f
   .rw[ar (λt=>q (z.symm.trans (aE t))),ar (show ¬isK i j (.tup [.int a,.int b,c])=ae from q)]
    exact .cons h f
 .rw[ar e,ar e]
  clear e
  induction r with
  |nil=>exact .cons hd .nil
  |cons h _ f=>exact .cons h f
def Xd{i j:Int}(r:Ents K ad H kvs ds):(∃ v d,valV kvs [.inl i,.inl j]=aa v/\Z8 ds i j=aa d/\Den K ad H v d)\/(valV kvs [.inl i,.inl j]=ab/\Z8 ds i j=ab):=by
 induction r with
 |nil=>exact .inr ⟨rfl,rfl⟩
 |@cons a b w c kvs ds h _ e=>
  have z:=UK a b i j;by_cases q:(ak (a=i)&&ak (b=j))=ae
  .exact .inl ⟨w,c,valV_pos (ao (z.trans q)),by unfold Z8;rw[List.find?_cons_of_pos (show isK i j (.tup [.int a,.int b,c])=ae from q)];rfl,h⟩
  .have g:valV ((([.inl a,.inl b]:Li Key),w) :: kvs) [.inl i,.inl j]=valV kvs [.inl i,.inl j]:=valV_neg λt=>q (z.symm.trans (aE t))
   have f:Z8 (.tup [.int a,.int b,c] :: ds) i j=Z8 ds i j:=by unfold Z8;rw[List.find?_cons_of_neg (show ¬isK i j (.tup [.int a,.int b,c])=ae from q)]
   rw[g,f];exact e
def Jd{i j:Int}(r:Ents K ad H kvs ds):(valV kvs [.inl i,.inl j]).isSome=(Z8 ds i j).isSome:=by
 rcases Xd r with⟨w,d,b,a,c⟩|⟨b,a⟩
 .rw[b,a];rfl
 .rw[b,a];rfl
def Y5(r:Ents K ad H kvs ds):kvs.length=ds.length:=by
 induction r with
 |nil=>rfl
 |cons _ _ a=>rw[aY,aY,a]
def Zab(O:L2.St)(H:Hp)(Q:VK)(h:tE K Zdp O H Q):tDNewT K O H Q:=by
 obtain⟨ad,U,st,d,st',E,S,e,p⟩:=h;cases e;intro q a b;exact p _ (ad++[q]) _ (S.extD a b) (S.pushD a b) (.dic (by rw[<-S.len];exact Zt) ⟨_,upd_same⟩)
def Zac{I G:Ev}(D:Ends)(O:L2.St)(H:Hp)(h:tS K (JS i I G fe) D O H):tAsg (tE K fe) (gSub (tVar i) (tTup (tCons (tE K I) (tCons (tE K G) tNil))) rSetT) D O H:=by
 obtain⟨ad,U,st,r,st',E,S,e,p⟩:=ZL h;unfold JS at e;split at e
 .rename_i d g N
  split at e
  .rename_i a P
   split at e
   .rename_i x f M
    split at e
    .rename_i y c L
     split at e
     .rename_i ds C
      split at e
      .rename_i Q
       cases e;obtain⟨v,T,R⟩:=E.at_ i _ P;obtain⟨l,rfl,j,n⟩:=R.ofDic;refine⟨ad,U,st,d,g,E,S,N,λw u H1 o S1 Y=>⟨_,T,u,U,g,.int x,f,E.mono o,S1,M,λw2 s H2 m S2 W=>⟨s,U,f,.int y,c,E.mono (o.trans m),S2,L,λw3 b k B Z V=>⟨show 2<=ay by decide,λt F=>?_⟩⟩⟩⟩
       cases W.ofInt;cases V.ofInt;have A:Ext b k b (upd k t (.tup [.int x,.int y])):=Ext.laid F;have X:=o.trans (m.trans (B.trans A));have J:StOk K b (upd k t (.tup [.int x,.int y])) c:=Z.laid F;obtain⟨kvs,r,q,_⟩:=J.dict (X.pre _ _ j) ((X.kd _ _ j).mp n) C;have z:Ext b _ b (upd (upd k t (.tup [.int x,.int y])) l (.dT (putK kvs [.inl x,.inl y] w))):=Ext.writeD q (aV (X.pre _ _ j))
       exact⟨l,t,kvs,[.inl x,.inl y],rfl,rfl,q,upd_same,by rw[Y5 r];exact aS Q (by decide),p _ b _ (X.trans z) (J.writeD (X.pre _ _ j) C q (VX (Y.mono (m.trans (B.trans A))) r)) (E.mono (X.trans z))⟩
      .exact Zb e
     .exact Zb e
    .exact Zb e
   .exact Zb e
  .exact Zb e
 .exact Zb e
def Left(K:Fg)(b:D->Env->Za->Ot (Fl×Za))(E:Ends)(a:Li D)(O:L2.St)(H:Hp):Prop:=∃ ad U st r st',EnvOk K ad H O U/\StOk K ad H st/\Zi b a U st=aa (r,st')/\PostS K ad H r st' E
def Left.turn{b:Ex}{n:Li D}{H:Hp}{v:V}(t:∀ ad H,Den K ad H v x)(h:Left K (λd U s=>b (Zh U i d) s) E (x :: n) O H) :
  tS K b { E with nx:=Left K (λd U s=>b (Zh U i d) s) E n,ct:=Left K (λd U s=>b (Zh U i d) s) E n,bk:=E.nx } (O.set i (aa v)) H:=by
 obtain⟨ad,U,st,r,st',En,S,e,p⟩:=h;unfold Zi at e;have g:=En.set i (t ad H);split at e
 .rename_i f a q
  exact ZM g S q λj c o k l m=>⟨c,f,a,r,st',m,l,e,p.later k⟩
 .rename_i f a q
  exact ZM g S q λj c o k l m=>⟨c,f,a,r,st',m,l,e,p.later k⟩
 .rename_i f a q
  cases e;exact ZM g S q λj c o k l m=>p j c o k l m
 .rename_i d a q
  cases e;exact ZM g S q p
 .exact Zb e
def Left.turnD{b:Ex}{m:Li D}{U:Env}{r:Fl}{v:V}(En:EnvOk K ad H O U)(S:StOk K ad H st)(o:Den K ad H v x)(e:Zi (λd U s=>b (Zh U i d) s) (x :: m) U st=aa (r,st'))(p:PostS K ad H r st' E)(L:L2.St->Hp->Prop)(n:∀ c a g f st1,Ext ad H a g->StOk K a g st1->EnvOk K a g c f->Zi (λd U s=>b (Zh U i d) s) m f st1=aa (r,st')->L c g) :
  tS K b { E with nx:=L,ct:=L,bk:=E.nx } (O.set i (aa v)) H:=by
 unfold Zi at e;have h:=En.set i o;split at e
 .rename_i f st1 q
  exact ZM h S q λc a g j k l=>n c a g f st1 j k l e
 .rename_i f st1 q
  exact ZM h S q λc a g j k l=>n c a g f st1 j k l e
 .rename_i f st1 q
  cases e;exact ZM h S q λc a g j k l=>p c a g j k l
 .rename_i d st1 q
  cases e;exact ZM h S q p
 .exact Zb e
def Left.done{b:D->Env->Za->Ot (Fl×Za)}(h:Left K b E [] O H):E.nx O H:=by
 obtain⟨ad,U,st,r,st',En,S,e,p⟩:=h;cases e;exact p O ad H (Ext.refl _ _) S En
def UX(n k:Nat)(h:k < n):((aj n).map λ(j:Nat)=>D.int (j:Int)).drop k=D.int (k:Int) :: ((aj n).map λ(j:Nat)=>D.int (j:Int)).drop (k+1):=by
 rw[bV (by simpa using h)]
 simp
def Zah(E:Ends)(O:L2.St)(H:Hp)(h:tS K (Vd i ae fi f) E O H):tFor (iRng1 (tCons (tE K fi) tNil)) (gName i) (tS K f) E O H:=by
 obtain⟨ad,U,st,r,st',En,S,e,p⟩:=ZL h;unfold Vd at e;split at e
 .rename_i x a m
  cases x with
  |int n=>
   have e:(match (if n < 2 ^ 62/\-(2 ^ 62)<=n then aa ((aj n.toNat).map λ(k:Nat)=>D.int (k:Int)) else ab) with
    |some l=>Zi (λd U s=>f (Zh U i d) s) l U a
    |none=>ab)=aa (r,st'):=e
   by_cases b:n < 2 ^ 62/\-(2 ^ 62)<=n
   .rw[aq b]at e
    refine⟨ad,U,st,.int n,a,En,S,m,λv c u j t q=>⟨n,by rw[q.ofInt],b.2,b.1,?_⟩⟩
    refine for_range (λk g H'=>Left K (λd U s=>f (Zh U i d) s) E (((aj n.toNat).map λ(k:Nat)=>D.int (k:Int)).drop k) g H') ⟨c,U,a,r,st',En.mono j,t,e,p.later j⟩ (λk g H' o L=>?_) λg H' L=>?_
    .rw[UX _ _ o]at L
     have z:(0:Int)+(k:Int)=(k:Int):=Int.zero_add _;rw[z];exact L.turn λ_ _=>.int _
    .rw[List.drop_eq_nil_of_le (by simp)]at L
     exact L.done
   .rw[ar b]at e
    cases e
  |_=>simp[Wv]at e
 .exact Zb e
def Qs{i:Int}(h:ZeB d=aa i):d=.int i:=by cases d<;>first | (cases h;done) | (cases h;rfl)
def Zdi(K:Fg)(b:D->Env->Za->Ot (Fl×Za))(E:Ends)(a:Ad)(vs:Li V)(c:Li D)(k:Nat)(O:L2.St)(H:Hp):Prop:=
 ∃ ad U st r st',EnvOk K ad H O U/\StOk K ad H st/\(TupAt K H a vs/\Dens K ad H vs c)/\Zi b (c.drop k) U st=aa (r,st')/\PostS K ad H r st' E
def Zai(E:Ends)(O:L2.St)(H:Hp){U:Env}{st1:Za}{r:Fl}{xs:Li D}(En:EnvOk K ad H O U)(S:StOk K ad H st)(Q:fi U st=aa (.tup xs,st1))(e:Zi (λd U s=>f (Zh U i d) s) xs U st1=aa (r,st'))(p:PostS K ad H r st' E):tFor (iTup K (tE K fi)) (gName i) (tS K f) E O H:=by
 refine⟨ad,U,st,.tup xs,st1,En,S,Q,λv C H1 G Y W=>?_⟩
 obtain⟨a,vs,rfl,J,rv⟩:=W.ofTup;refine⟨a,rfl,⟨vs,(J).sq⟩,?_⟩;refine for_tup (xs:=vs) (λk t H'=>Zdi K (λd U s=>f (Zh U i d) s) E a vs xs k t H') ⟨C,U,st1,r,st',En.mono G,Y,⟨J,rv⟩,by rw[cI];exact e,p.later G⟩ (λk t H' _ L=>?_) (λk y t H' I L=>?_) λt H' L=>?_
 .obtain⟨_,_,_,_,_,_,_,⟨h,_⟩,_⟩:=L
  exact(h).sq
 .obtain⟨o,j,l,A,b,g,F,⟨M,c⟩,n,q⟩:=L
  have m:k < xs.length:=by rw[<-c.length];exact(bF.mp I).1
  have R:xs[k]?=aa xs[k]:=Lg m;obtain⟨w,N,V⟩:=c.get R;rw[I]at N;cases N
  rw[bV m]at n;exact Left.turnD g F V n q _ λP B H3 u z x X Z T=>⟨B,u,z,A,b,Z,X,⟨M.mono x,c.mono x⟩,T,q.later x⟩
 .obtain⟨o,j,l,A,b,g,F,⟨M,c⟩,n,q⟩:=L
  rw[c.length,fB]at n;exact Left.done ⟨o,j,l,A,b,g,F,n,q⟩
def Zae{G:TG}(E:Ends)(O:L2.St)(H:Hp){ad:Li Ad}{U:Env}{st st1:Za}{r:Fl}{bb:Bool}{W:Li D}(En:EnvOk K ad H O U)(S:StOk K ad H st)(q1:fi U st=aa (.lst l,st1))(q2:st1[l]?=aa (bb,W))(e:YU B l W.length 0 U st1=aa (r,st'))(p:PostS K ad H r st' E)(Q:∀ (x:D) (v:V) (O:L2.St) (H:Hp) (ad:Li Ad) (U:Env) (st st1:Za) (r1:Fl) (E':Ends),EnvOk K ad H O U->StOk K ad H st->Den K ad H v x->B x U st=aa (r1,st1)->PostS K ad H r1 st1 E'->G v O H λT H2=>tS K f E' T H2) :
  tFor (iList K (tE K fi)) G (tS K f) E O H:=by
 refine⟨ad,U,st,.lst l,st1,En,S,q1,λv ad1 H1 x1 S1 d1=>?_⟩
 obtain⟨a,rfl,ha⟩:=d1.ofLst;obtain⟨vs,rv,sq⟩:=S1.list ha q2;refine⟨a,rfl,⟨vs,sq⟩,?_⟩;refine⟨λk m O' H'=>∃ b c g,(EnvOk K b H' O' c/\StOk K b H' g/\LA b H' l a)/\YU B l m k c g=aa (r,st')/\PostS K b H' r st' E,⟨W.length,ad1,U,st1,⟨En.mono x1,S1,ha⟩,e,p.later x1⟩,?_⟩
 rintro k m O' H' ⟨b,c,g,⟨o,A,s⟩,j,L⟩
 obtain⟨b2,ys,M⟩:=Vy A s;obtain⟨X,J,z⟩:=A.list s M;have stop:ys.length<=k->YU B l m k c g=aa (.nx c,g):=λC=>by
  cases m with
  |zero=>unfold YU;simp only[M];rw[aq C]
  |succ m=>unfold YU;simp only[M,cQ C]
 by_cases C:ys.length<=k
 .refine .inl ⟨⟨X,z,by rw[J.length];exact C⟩,?_⟩
  rw[stop C]at j;cases j;exact L O' b H' (Ext.refl _ _) A o
 .have Z:k < ys.length:=by omega
  have hy:ys[k]?=aa ys[k]:=Lg Z;obtain⟨w,ew,R⟩:=J.get hy;cases m with
  |zero=>
   unfold YU at j;simp only[M]at j;rw[ar C]at j;cases j
  |succ m=>
   unfold YU at j;simp only[M,hy]at j;refine .inr ⟨⟨X,w,z,ew⟩,λI F=>∃ t i h,(EnvOk K t F I i/\StOk K t F h/\LA t F l a)/\YU B l m (k+1) i h=aa (r,st')/\PostS K t F r st' E,λI F h3=>⟨m,dW m,h3⟩,λx F Y=>?_⟩
   obtain⟨rfl,Y⟩:=Y;have ex:=Y X z;rw[ew]at ex;cases ex
   split at j
   .rename_i i h q
    exact Q _ _ _ _ b c g _ _ _ o A R q λu n H4 y N P=>⟨n,i,h,⟨P,N,s.mono y⟩,j,L.later y⟩
   .rename_i i h q
    exact Q _ _ _ _ b c g _ _ _ o A R q λu n H4 y N P=>⟨n,i,h,⟨P,N,s.mono y⟩,j,L.later y⟩
   .rename_i i h q
    cases j;exact Q _ _ _ _ b c g _ _ _ o A R q λu n H4 y N P=>L u n H4 y N P
   .rename_i d h q
    cases j;exact Q _ _ _ _ b c g _ _ _ o A R q L
   .exact Zb j
def Zaf(E:Ends)(O:L2.St)(H:Hp)(h:tS K (Vd i af fi f) E O H):tFor (iTup K (tE K fi)) (gName i) (tS K f) E O H\/tFor (iList K (tE K fi)) (gName i) (tS K f) E O H:=by
 obtain⟨ad,U,st,r,st',En,S,e,p⟩:=ZL h;unfold Vd at e;split at e
 .rename_i x a c
  cases x with
  |tup b=>exact .inl (Zai E O H En S c e p)
  |lst l=>
   have e:(match a[l]? with
    |some (_,b)=>YU (λd U s=>f (Zh U i d) s) l b.length 0 U a
    |none=>ab)=aa (r,st'):=e
   split at e
   .rename_i o b g
    refine .inr (Zae E O H En S c g e p λx v O H ad U st a n q En S m k j=>?_)
    exact ZM (En.set i m) S k j
   .exact Zb e
  |_=>simp[Wv]at e
 .exact Zb e
def Jh{G:TG}(E:Ends)(O:L2.St)(H:Hp){ad:Li Ad}{U:Env}{st st1:Za}{r:Fl}{xs:Li D}(En:EnvOk K ad H O U)(S:StOk K ad H st)(q1:fi U st=aa (.tup xs,st1))(e:Zi B xs U st1=aa (r,st'))(p:PostS K ad H r st' E)(M:∀ (x:D) (v:V) (O:L2.St) (H:Hp) (ad:Li Ad) (U:Env) (st st1:Za) (Y:Fl) (E':Ends),EnvOk K ad H O U->StOk K ad H st->Den K ad H v x->B x U st=aa (Y,st1)->PostS K ad H Y st1 E'->G v O H λQ H2=>tS K f E' Q H2) :
  tFor (iTup K (tE K fi)) G (tS K f) E O H:=by
 refine⟨ad,U,st,.tup xs,st1,En,S,q1,λv T H1 X S1 d1=>?_⟩
 obtain⟨a,vs,rfl,ha,rv⟩:=d1.ofTup;refine⟨a,rfl,⟨vs,(ha).sq⟩,?_⟩;refine for_tup (xs:=vs) (λk P H'=>Zdi K B E a vs xs k P H') ⟨T,U,st1,r,st',En.mono X,S1,⟨ha,rv⟩,by rw[cI];exact e,p.later X⟩ (λk P H' _ L=>?_) (λk y P H' Z L=>?_) λP H' L=>?_
 .obtain⟨_,_,_,_,_,_,_,⟨h,_⟩,_⟩:=L
  exact(h).sq
 .obtain⟨j,c,g,J,b,l,A,⟨R,i⟩,n,z⟩:=L
  have C:k < xs.length:=by rw[<-i.length];exact(bF.mp Z).1
  have hx:xs[k]?=aa xs[k]:=Lg C;obtain⟨w,ew,N⟩:=i.get hx;rw[Z]at ew;cases ew
  rw[bV C]at n;unfold Zi at n;split at n
  .rename_i s m q
   exact M _ _ _ _ j c g _ _ _ l A N q λu o W t F I=>⟨o,s,m,J,b,I,F,⟨R.mono t,i.mono t⟩,n,z.later t⟩
  .rename_i s m q
   exact M _ _ _ _ j c g _ _ _ l A N q λu o W t F I=>⟨o,s,m,J,b,I,F,⟨R.mono t,i.mono t⟩,n,z.later t⟩
  .rename_i s m q
   cases n;exact M _ _ _ _ j c g _ _ _ l A N q λu o W t F I=>z u o W t F I
  .rename_i d m q
   cases n;exact M _ _ _ _ j c g _ _ _ l A N q z
  .exact Zb n
 .obtain⟨j,c,g,J,b,l,A,⟨R,i⟩,n,z⟩:=L
  rw[i.length,fB]at n;exact Left.done ⟨j,c,g,J,b,l,A,n,z⟩
def Zad(E:Ends)(O:L2.St)(H:Hp)(h:tS K (J3 i j l fi f) E O H):tFor (iTup K (tE K fi)) (gTup K 3 (gCons (gName i) (gCons (gName j) (gCons (gName l) gNil)))) (tS K f) E O H:=by
 obtain⟨ad,U,st,r,st',En,S,e,p⟩:=ZL h;unfold J3 at e;split at e
 .rename_i s c d
  refine Jh E O H En S d e p λx v O H ad U st c t w En S m b g=>?_
  unfold Jr at b;split at b
  .rename_i y z u
   obtain⟨a,vs,rfl,k,rv⟩:=m.ofTup;cases rv with
   |cons q rv=>
    cases rv with
    |cons o rv=>
     cases rv with
     |cons n rv=>
      cases rv;exact⟨a,_,rfl,(k).sq,rfl,_,_,rfl,_,_,rfl,_,_,rfl,rfl,ZM (((En.set i q).set j o).set l n) S b g⟩
  .exact Zb b
 .exact Zb e
def Jj(E:Ends)(O:L2.St)(H:Hp)(h:tS K (Yn fe f m) E O H):tWhile (tT K fe) (tS K f) E O H:=by
 obtain⟨ad,U,st,r,st',En,S,e,p⟩:=ZL h;refine⟨λm O H=>∃ ad U st,(EnvOk K ad H O U/\StOk K ad H st)/\Yn fe f m U st=aa (r,st')/\PostS K ad H r st' E,⟨m,ad,U,st,⟨En,S⟩,e,p⟩,?_⟩
 rintro m O H ⟨ad,U,st,⟨En,S⟩,e,p⟩
 cases m with
 |zero=>exact Zb e
 |succ m=>
  have e:Yo fe (Yt f (Yn fe f m)) (λU st=>aa (.nx U,st)) U st=aa (r,st'):=e
  unfold Yo at e;split at e
  .rename_i i q
   refine⟨ad,U,st,ae,i,En,S,q,λn u a k=>?_⟩
   dsimp only;rw[aq rfl];refine⟨λO H=>∃ ad U st,(EnvOk K ad H O U/\StOk K ad H st)/\Yn fe f m U st=aa (r,st')/\PostS K ad H r st' E,λw H' h=>⟨m,dW m,h⟩,?_⟩
   have e:Yt f (Yn fe f m) U i=aa (r,st'):=e;unfold Yt at e;split at e
   .rename_i d b j
    exact ZM (En.mono a) k j λg c t l o s=>⟨c,d,b,⟨s,o⟩,e,p.later (a.trans l)⟩
   .rename_i d b j
    exact ZM (En.mono a) k j λg c t l o s=>⟨c,d,b,⟨s,o⟩,e,p.later (a.trans l)⟩
   .rename_i d b j
    cases e;exact ZM (En.mono a) k j λg c t l o s=>p g c t (a.trans l) o s
   .rename_i v b j
    cases e;exact ZM (En.mono a) k j (Post.later p a)
   .exact Zb e
  .rename_i i q
   cases e;refine⟨ad,U,st,af,_,En,S,q,λn u a k=>?_⟩
   dsimp only;rw[ar Bf];exact p O n u a k (En.mono a)
  .exact Zb e
def Itz(K:Fg)(a b:Ad):It:=
 ⟨λi H=>∃ c ys x y,SqL K H a c/\SqL K H b ys/\c[i]?=aa x/\ys[i]?=aa y,
  λi H v H'=>∃ p x y,v=.ref p/\H p=ab/\H'=upd H p (.tup [x,y])/\(∀ c,SqL K H a c->c[i]?=aa x)/\∀ ys,SqL K H b ys->ys[i]?=aa y,
  λi H=>∃ c ys,SqL K H a c/\SqL K H b ys/\min c.length ys.length<=i⟩
def Zf3(K:Fg)(e:TA):TI:=λO H R=>e O H λvs c=>∃ a b,vs=[.ref a,.ref b]/\(∃ d,SqL K c a d)/\(∃ ys,SqL K c b ys)/\R (Itz K a b) c
def ZaG{ok:Za->Prop}{B:D->D->Env->Za->Ot (Fl×Za)}{l:Li (D×D)}{z:Fl×Za}(e:YE ok B l U st=aa z):ok st:=by
 cases l with
 |nil=>
  unfold YE at e;by_cases h:ok st
  .exact h
  .rw[ar h]at e;cases e
 |cons _ _=>
  unfold YE at e;by_cases h:ok st
  .exact h
  .rw[ar h]at e;cases e
inductive LK(K:Fg)(ok:Za->Prop)(B:D->D->Env->Za->Option (Fl×Za))(qs:List (D×D))(Good:List Addr->Hp->Prop)(r:Fl)(st':Za)(E:Ends)(k m:Nat)(O:L2.St)(H:Hp):Prop
 |mk {ad:List Addr}{U:Env}{st:Za} (hk:k+m=qs.length) (En:EnvOk K ad H O U) (S:StOk K ad H st) (g:Good ad H) (e:YE ok B (qs.drop k) U st=aa (r,st')) (p:PostS K ad H r st' E):LK K ok B qs Good r st' E k m O H
def UO{ok:Za->Prop}{c:Li (D×D)}{a:Li Ad->Hp->Prop}{r:Fl}{J:It}(gm:∀ ad H ad' H',Ext ad H ad' H'->a ad H->a ad' H')(stop:∀ ad H st,a ad H->StOk K ad H st->ok st->J.stop c.length H)(go:∀ k ad H st q,a ad H->StOk K ad H st->ok st->c[k]?=aa q->∃ w v,J.go k H/\Den K ad H w q.1/\Den K ad H v q.2/\∀ x H',J.yld k H x H'->∃ pt,x=.ref pt/\H pt=ab/\H'=upd H pt (.tup [w,v]))(k m:Nat)(O:L2.St)(H:Hp)(h:LK K ok (λx y U s=>f (Zh (Zh U i x) j y) s) c a r st' E k m O H) :
  (J.stop k H/\E.nx O H)\/(J.go k H/\∃ N:L2.St->Hp->Prop,(∀ W H',N W H'->∃ R,R < m/\LK K ok (λx y U s=>f (Zh (Zh U i x) j y) s) c a r st' E (k+1) R W H')/\∀ x H',J.yld k H x H'->gTup K 2 (gCons (gName i) (gCons (gName j) gNil)) x O H' λt P=>tS K f { E with nx:=N,ct:=N,bk:=E.nx } t P):=by
 cases h with
 |@mk ad U st L En S g e p=>
  have n:=ZaG e;by_cases V:c.length<=k
  .have l:k=c.length:=by omega
   subst l;rw[fB]at e;unfold YE at e;rw[aq n]at e;cases e;exact .inl ⟨stop _ _ _ g S n,p O _ H (Ext.refl _ _) S En⟩
  .have l:k < c.length:=Nat.lt_of_not_le V
   obtain⟨w,v,C,G,F,T⟩:=go k _ _ _ c[k] g S n (Lg l);rw[bV l]at e;unfold YE at e;rw[aq n]at e;generalize c[k]=q at e G F;refine .inr ⟨C,LK K ok (λx y U s=>f (Zh (Zh U i x) j y) s) c a r st' E (k+1) (m - 1),λY X h3=>⟨m - 1,by omega,h3⟩,λx X hx=>?_⟩
   obtain⟨pt,rfl,B,rfl⟩:=T x X hx;have u:Ext ad H ad (upd H pt (.tup [w,v])):=Ext.laid B;have o:∀ {rr:Fl}{s3:Za}{E':Ends},f (Zh (Zh U i q.1) j q.2) st=aa (rr,s3)->PostS K ad (upd H pt (.tup [w,v])) rr s3 E'->gTup K 2 (gCons (gName i) (gCons (gName j) gNil)) (.ref pt) O (upd H pt (.tup [w,v])) λt P=>tS K f E' t P:=λq Z=>
    ⟨pt,_,rfl,SqT.of upd_same,rfl,_,_,rfl,_,_,rfl,rfl,ZM (((En.mono u).set i (G.mono u)).set j (F.mono u)) (S.laid B) q Z⟩
   have nxt:∀ {ρ3:Env}{st3:Za},YE ok (λx y U s=>f (Zh (Zh U i x) j y) s) (c.drop (k+1)) ρ3 st3=aa (r,st')->∀ (d:L2.St) (b:Li Ad) (A:Hp),Ext ad (upd H pt (.tup [w,v])) b A->StOk K b A st3->EnvOk K b A d ρ3->LK K ok (λx y U s=>f (Zh (Zh U i x) j y) s) c a r st' E (k+1) (m - 1) d A:=λe3 d b A I M Q=>
    .mk (by omega) Q M (gm _ _ _ _ (u.trans I) g) e3 (p.later (u.trans I))
   clear T go stop L V l C;split at e
   .rename_i z
    exact o z (nxt e)
   .rename_i z
    exact o z (nxt e)
   .rename_i z
    cases e;exact o z λd b A I M Q=>p d b A (u.trans I) M Q
   .rename_i z
    cases e;exact o z (p.later u)
   .exact Zb e
def Zag(E:Ends)(O:L2.St)(H:Hp)(h:tS K (VY i j fi f) E O H):tFor (Zf3 K (tA K fi)) (gTup K 2 (gCons (gName i) (gCons (gName j) gNil))) (tS K f) E O H:=by
 obtain⟨ad,U,st,r,st',En,S,e,p⟩:=ZL h;unfold VY at e;split at e
 .rename_i y w m q1
  split at e
  .rename_i v u J I
   refine⟨ad,U,st,_,m,En,S,q1,λvs A H1 R Q n=>?_⟩
   obtain⟨D,C,rfl,P,N⟩:∃ D C,vs=[D,C]/\Den K A H1 D (.lst y)/\Den K A H1 C (.lst w):=by
    cases n with
    |cons M n=>
     cases n with
     |cons L n=>cases n;exact⟨_,_,rfl,M,L⟩
   obtain⟨a,rfl,X⟩:=P.ofLst;obtain⟨b,rfl,W⟩:=N.ofLst;obtain⟨t,B,d⟩:=Q.list X (show m[y]?=aa (v.1,v.2) from J);obtain⟨s,l,c⟩:=Q.list W (show m[w]?=aa (u.1,u.2) from I);refine⟨a,b,rfl,⟨t,d⟩,⟨s,c⟩,_,⟨_,.mk (Good:=λad H=>LA ad H y a/\LA ad H w b) (cC _) (En.mono R) Q ⟨X,W⟩ e (p.later R)⟩,UO (λ_ _ _ _ x g=>⟨g.1.mono x,g.2.mono x⟩) (λad H st g S o=>?_) λk ad H st q g S o hq=>?_⟩
   .obtain⟨t,B,d⟩:=S.list g.1 (show st[y]?=aa (v.1,v.2) from o.1)
    obtain⟨s,l,c⟩:=S.list g.2 (show st[w]?=aa (u.1,u.2) from o.2);exact⟨t,s,d,c,by rw[B.length,l.length];exact cR (List.length_zip ..).symm⟩
   .obtain⟨t,B,d⟩:=S.list g.1 (show st[y]?=aa (v.1,v.2) from o.1)
    obtain⟨s,l,c⟩:=S.list g.2 (show st[w]?=aa (u.1,u.2) from o.2);obtain⟨M,L⟩:=List.getElem?_zip_eq_some.mp hq;obtain⟨V,Z,n⟩:=B.get M;obtain⟨T,Y,d2⟩:=l.get L;exact⟨V,T,⟨t,s,V,T,d,c,Z,Y⟩,n,d2,λx H' ⟨pt,y1,y2,z1,z2,z3,G,F⟩=>⟨pt,z1,z2,by have z:=G t d;rw[Z]at z;cases z;have z:=F s c;rw[Y]at z;cases z;exact z3⟩⟩
  .exact Zb e
 .exact Zb e
end
variable [ClsTab]
mutual
theorem ZbT:∀ {x y:D},Zv x y=ae->x=y
 |.non,y,h=>by cases y<;>simp[Zv]at h ⊢
 |.bl a,y,h=>by cases y<;>simp[Zv]at h ⊢;exact h
 |.int a,y,h=>by cases y<;>simp[Zv]at h ⊢;exact h
 |.str a,y,h=>by cases y<;>simp[Zv]at h ⊢;exact h
 |.tup a,y,h=>by
  cases y with
  |tup b=>rw[VG (x:=a) (y:=b) (by simpa[Zv] using h)]
  |_=>simp[Zv]at h
 |.lst a,y,h=>by cases y<;>simp[Zv]at h
 |.dct a b,y,h=>by cases y<;>simp[Zv]at h
 |.obj a,y,h=>by cases y<;>simp[Zv]at h
 |.kt a,y,h=>by cases y<;>simp[Zv]at h
 |.dic a,y,h=>by cases y<;>simp[Zv]at h
theorem VG:∀ {x y:Li D},Zq x y=ae->x=y
 |[],y,h=>by cases y<;>simp[Zq]at h ⊢
 |a :: x,y,h=>by
  cases y with
  |nil=>simp[Zq]at h
  |cons b y=>
   have h:(Zv a b&&Zq x y)=ae:=h;rw[Ba]at h;rw[ZbT h.1,VG h.2]
end
mutual
theorem WT:∀ {n:Nat}{x:D},okD n x=ae->Zv x x=ae
 |_,.non,_=>rfl
 |_,.bl a,_=>by simp[Zv]
 |_,.int a,_=>by simp[Zv]
 |_,.str a,_=>by simp[Zv]
 |0,.tup a,h=>by simp[okD]at h
 |n+1,.tup a,h=>Wl (n:=n) (x:=a) h
 |_,.lst a,h=>by simp[okD]at h
 |_,.dct a b,h=>by simp[okD]at h
 |_,.obj a,h=>by simp[okD]at h
 |_,.kt a,h=>by simp[okD]at h
 |_,.dic a,h=>by simp[okD]at h
theorem Wl:∀ {n:Nat}{x:Li D},Yj n x=ae->Zq x x=ae
 |_,[],_=>rfl
 |n,a :: x,h=>by
  have h:(okD n a&&Yj n x)=ae:=h;rw[Ba]at h;show(Zv a a&&Zq x x)=ae;rw[WT h.1,Wl h.2];rfl
end
theorem Y7:∀ {n:Nat}{a:Li D}{i:Nat}{d:D},Yj n a=ae->a[i]?=aa d->okD n d=ae
 |_,[],_,_,_,e=>by simp at e
 |n,x :: a,i,d,h,e=>by
  have h:(okD n x&&Yj n a)=ae:=h;rw[Ba]at h;cases i with
  |zero=>simp at e;subst e;exact h.1
  |succ i=>exact Y7 (i:=i) h.2 (by simpa using e)
theorem YC:∀ {a ys:Li D},Zq a ys=((aj (min a.length ys.length)).all (λi=>Zv ((a[i]?).getD .non) ((ys[i]?).getD .non))&&a.length==ys.length)
 |[],[]=>rfl
 |[],_ :: _=>by simp[Zq]
 |_ :: _,[]=>by simp[Zq]
 |x :: a,y :: ys=>by
  have b:=@YC a ys;show(Zv x y&&Zq a ys)=_;rw[b];have e:min (x :: a).length (y :: ys).length=min a.length ys.length+1:=by simp only[aY];omega
  rw[e,List.range_succ_eq_map,bT,List.all_map];simp only[aY];have z:(a.length+1==ys.length+1)=(a.length==ys.length):=by
   rw[cK];simp
  rw[z,Bool.and_assoc];rfl
variable{n:Nat}{pQ:Li (Ad×Obj)}{s:Sd}{A:bu}
def ZfC(X:Cx)(ad:Li Ad)(H:Hp)(v:V)(x:D):Prop:=∀ n m y,okD n x=ae->okD m y=ae->Den X.K ad H v y->x=y
def Xk{n:Nat}{P:Prop}(h:okD n x=ae)(a:∀ n,okD n x=af):P:=by rw[a]at h;cases h
def ZaT(i n:Nat):okD n (.lst i)=af:=by cases n<;>rfl
def ZaR(ks:Li Str)(vs:Li D)(n:Nat):okD n (.dct ks vs)=af:=by cases n<;>rfl
def ZaS(i n:Nat):okD n (.dic i)=af:=by cases n<;>rfl
def ZaU(i n:Nat):okD n (.obj i)=af:=by cases n<;>rfl
def ZdQ(ks:Li Str)(n:Nat):okD n (.kt ks)=af:=by cases n<;>rfl
def ZaV{a:Li D}(h:okD n (.tup a)=ae):∃ m,Yj m a=ae:=by
 cases n with
 |zero=>cases h
 |succ n=>exact⟨n,h⟩
def Den.injP(J:∀ (a:Ad) (d ys:Li V),TupAt X.K H a d->TupAt X.K H a ys->d=ys){v:V}(h:Den X.K ad H v x):ZfC X ad H v x:=
 Den.rec (motive_1:=λv x _=>ZfC X ad H v x) (motive_2:=λvs d _=>∀ n m ys,Yj n d=ae->Yj m ys=ae->Dens X.K ad H vs ys->d=ys)
  (λ_ _ _ _ _ h=>by cases h;rfl) (λ_ _ _ _ _ _ h=>by cases h;rfl) (λ_ _ _ _ _ _ h=>by cases h;rfl) (λ_ _ _ _ _ _ h=>by cases h;rfl)
  (λe _ j n m y b c h=>by
   obtain⟨g,b⟩:=ZaV b;cases h with
   |tup o f=>
    cases J _ _ _ e o
    obtain⟨i,c⟩:=ZaV c;rw[j g i _ b c f]
   |lst _=>exact Xk c (ZaT _)
   |dic _ _=>exact Xk c (ZaS _)
   |dct _ _ _ _ _=>exact Xk c (ZaR _ _)
   |obj _ _=>exact Xk c (ZaU _)
   |kt _ _ _ _ _ _=>exact Xk c (ZdQ _))
  (λ_ _ _ _ b _ _=>Xk b (ZaT _)) (λ_ _ _ _ _ b _ _=>Xk b (ZaS _)) (λ_ _ _ _ _ _ _ _ _ b _ _=>Xk b (ZaR _ _)) (λ_ _ _ _ _ b _ _=>Xk b (ZaU _)) (λ_ _ _ _ _ _ _ _ _ b _ _=>Xk b (ZdQ _))
  (λ_ _ _ _ _ h=>by cases h;rfl)
  (λ_ _ l k n m ys b c h=>by
   cases h with
   |cons p f=>
    have b:=fF.mp b;have c:=fF.mp c;rw[l n m _ b.1 c.1 p,k n m _ b.2 c.2 f]) h
def Den.inj(J:∀ (a:Ad) (b ys:Li V),TupAt X.K H a b->TupAt X.K H a ys->b=ys){v:V}{y:D}(d:okD n x=ae)(c:okD m y=ae)(h:Den X.K ad H v x)(e:Den X.K ad H v y):x=y:=h.injP J n m y d c e
theorem Dens.inj(J:∀ (a:Ad) (b ys:Li V),TupAt X.K H a b->TupAt X.K H a ys->b=ys){b ys:Li D}(d:Yj n b=ae)(c:Yj m ys=ae)(h:Dens X.K ad H vs b)(e:Dens X.K ad H vs ys):b=ys:=by
 induction vs generalizing b ys with
 |nil=>cases h;cases e;rfl
 |cons v vs g=>
  cases h with
  |cons a r=>cases e with
   |cons i f=>
    have d:=fF.mp d;have c:=fF.mp c;rw[a.inj J d.1 c.1 i,g d.2 c.2 r f]
open PySem.SeqAt in
def Zep(I:Inv X pQ O H s):∀ (n:Nat) (x y:D) (A:bu) (B w:V) (E C:vL),okD n x=ae->okD n y=ae->A.units+n < cLine->Den X.K ad H B x->Den X.K ad H w y->RelV B E->RelV w C->EqAt A s E C (Zv x y):=by
 intro n
 induction n with
 |zero=>
  intro x y A B w E C u h hu J l k d;cases J with
  |non=>
   cases k;cases l with
   |non=>cases d;exact EqAt.same _
   |int j=>obtain⟨c,rfl⟩:=d;exact EqAt.none_int j c
   |str j=>obtain⟨c,rfl⟩:=d;exact EqAt.none_str j c
   |_=>simp[okD]at h
  |int i=>
   obtain⟨t,rfl⟩:=k;cases l with
   |non=>cases d;exact EqAt.int_none i t
   |int j=>obtain⟨c,rfl⟩:=d;exact(show Zv (.int i) (.int j)=(i==j) from by rw[cK];simp[Zv]) ▸ EqAt.int_int i t j c
   |str j=>obtain⟨c,rfl⟩:=d;exact EqAt.int_str i t j c
   |_=>simp[okD]at h
  |str i=>
   obtain⟨t,rfl⟩:=k;cases l with
   |non=>cases d;exact EqAt.str_none i t
   |int j=>obtain⟨c,rfl⟩:=d;exact EqAt.str_int i t j c
   |str j=>obtain⟨c,rfl⟩:=d;exact(show Zv (.str i) (.str j)=(i==j) from by rw[cK];simp[Zv]) ▸ EqAt.str_str i t j c
   |_=>simp[okD]at h
  |_=>simp[okD]at u
 |succ n ih=>
  intro x y A B w E C u h hu J l k d;cases J with
  |non=>
   cases k;cases l with
   |non=>cases d;exact EqAt.same _
   |int j=>obtain⟨c,rfl⟩:=d;exact EqAt.none_int j c
   |str j=>obtain⟨c,rfl⟩:=d;exact EqAt.none_str j c
   |tup e r=>
    cases d;obtain⟨f,_,p,_⟩:=I.tuple ((e).sq);exact EqAt.none_tuple p (by omega)
   |_=>simp[okD]at h
  |int i=>
   obtain⟨t,rfl⟩:=k;cases l with
   |non=>cases d;exact EqAt.int_none i t
   |int j=>obtain⟨c,rfl⟩:=d;exact(show Zv (.int i) (.int j)=(i==j) from by rw[cK];simp[Zv]) ▸ EqAt.int_int i t j c
   |str j=>obtain⟨c,rfl⟩:=d;exact EqAt.int_str i t j c
   |tup e r=>
    cases d;obtain⟨f,_,p,_⟩:=I.tuple ((e).sq);exact EqAt.int_tuple i t p (by omega)
   |_=>simp[okD]at h
  |str i=>
   obtain⟨t,rfl⟩:=k;cases l with
   |non=>cases d;exact EqAt.str_none i t
   |int j=>obtain⟨c,rfl⟩:=d;exact EqAt.str_int i t j c
   |str j=>obtain⟨c,rfl⟩:=d;exact(show Zv (.str i) (.str j)=(i==j) from by rw[cK];simp[Zv]) ▸ EqAt.str_str i t j c
   |tup e r=>
    cases d;obtain⟨f,_,p,_⟩:=I.tuple ((e).sq);exact EqAt.str_tuple i t p (by omega)
   |_=>simp[okD]at h
  |@tup a xs ds e r=>
   cases k;obtain⟨f,rv,p,_⟩:=I.tuple ((e).sq);cases l with
   |non=>cases d;exact EqAt.tuple_none p (by omega)
   |int j=>obtain⟨c,rfl⟩:=d;exact EqAt.tuple_int j c p (by omega)
   |str j=>obtain⟨c,rfl⟩:=d;exact EqAt.tuple_str j c p (by omega)
   |@tup b ys es Q F=>
    cases d;by_cases v:a=b
    .subst v
     have z:=Den.inj (λ_ _ _ e G=>I.tuple_inj e.sq G.sq) (n:=n+1) (m:=n+1) u h (Den.tup e r) (Den.tup Q F)
     cases z;rw[WT u];exact EqAt.same _
    .obtain⟨g,o,p',_⟩:=I.tuple ((Q).sq)
     refine EqAt.of_refs v ?_;have q:=RcAt.tuples (A:=A) (s:=s) (e:=λi=>Zv ((ds[i]?).getD .non) ((es[i]?).getD .non)) p p' (by omega) λj P N=>?_
     .have e1:f.toArray.size=ds.length:=by rw[aJ,<-rv.length,r.length]
      have G:g.toArray.size=es.length:=by rw[aJ,<-o.length,F.length]
      rw[e1,G]at q;show RcAt A s (.ref a) (.ref b) (Zq ds es);rw[YC];exact q
     .have l1:j < ds.length:=by rw[<-r.length,rv.length];simpa using P
      have l2:j < es.length:=by rw[<-F.length,o.length];simpa using N
      have g1:ds[j]?=aa ds[j]:=Lg l1;have g2:es[j]?=aa es[j]:=Lg l2;obtain⟨U,q1,d1⟩:=r.get g1;obtain⟨T,Z,d2⟩:=F.get g2;obtain⟨M,S,Y⟩:=rv.get q1;obtain⟨L,R,W⟩:=o.get Z;have f1:f.toArray[j]=M:=by
       have:f[j]?=aa (f[j]'(by simpa using P)):=Lg _
       rw[S]at this;simpa using(aw this).symm
      have f2:g.toArray[j]=L:=by
       have:g[j]?=aa (g[j]'(by simpa using N)):=Lg _
       rw[R]at this;simpa using(aw this).symm
      rw[f1,f2,g1,g2];exact ih ds[j] es[j] A.in1 U T M L (Y7 u g1) (Y7 h g2) (by show A.units+1+n < cLine;omega) d1 d2 Y W
   |_=>simp[okD]at h
  |_=>simp[okD]at u
open PySem.SeqAt in
def Wu(I:Inv X pQ O H s){a b:Ad}{d c:Li vL}(z:Yj n ds=ae)(y:Yj n es=ae)(hu:A.units+n+1 < cLine)(r:Dens X.K ad H xs ds)(h:Dens X.K ad H ys es)(rv:Vals xs d)(e:Vals ys c)(j:Nat)(k:j < d.toArray.size)(i:j < c.toArray.size):EqAt A.in1 s d.toArray[j] c.toArray[j] (Zv ((ds[j]?).getD .non) ((es[j]?).getD .non)):=by
 have x:j < ds.length:=by rw[<-r.length,rv.length];simpa using k
 have w:j < es.length:=by rw[<-h.length,e.length];simpa using i
 have g1:ds[j]?=aa ds[j]:=Lg x;have g2:es[j]?=aa es[j]:=Lg w;obtain⟨p,v,E⟩:=r.get g1;obtain⟨o,u,D⟩:=h.get g2;obtain⟨g,m,t⟩:=rv.get v;obtain⟨f,l,q⟩:=e.get u;have C:d.toArray[j]=g:=by
  have:d[j]?=aa (d[j]'(by simpa using k)):=Lg _
  rw[m]at this;simpa using(aw this).symm
 have B:c.toArray[j]=f:=by
  have:c[j]?=aa (c[j]'(by simpa using i)):=Lg _
  rw[l]at this;simpa using(aw this).symm
 rw[C,B,g1,g2];exact Zep I n ds[j] es[j] A.in1 p o g f (Y7 z g1) (Y7 y g2) (by show A.units+1+n < cLine;omega) E D t q
open PySem.SeqAt in
def ZcH(I:Inv X pQ O H s){a b:Ad}(t:Yj n ds=ae)(o:Yj n es=ae)(hu:A.units+n+1 < cLine)(e:TupAt X.K H a xs)(r:Dens X.K ad H xs ds)(w:TupAt X.K H b ys)(f:Dens X.K ad H ys es):RcAt A s (.ref a) (.ref b) (Zq ds es)/\RcNeAt A s (.ref a) (.ref b) (!Zq ds es):=by
 obtain⟨g,rv,p,_⟩:=I.tuple (e.sq);obtain⟨d,c,m,_⟩:=I.tuple (w.sq);have v:g.toArray.size=ds.length:=by rw[aJ,<-rv.length,r.length]
 have u:d.toArray.size=es.length:=by rw[aJ,<-c.length,f.length]
 have q:=RcAt.tuples (A:=A) (s:=s) (e:=λi=>Zv ((ds[i]?).getD .non) ((es[i]?).getD .non)) p m (by omega) λj k h=>Wu (a:=a) (b:=b) I t o hu r f rv c j k h
 have l:=RcNeAt.tuples (A:=A) (s:=s) (e:=λi=>Zv ((ds[i]?).getD .non) ((es[i]?).getD .non)) p m (by omega) λj k h=>Wu (a:=a) (b:=b) I t o hu r f rv c j k h
 rw[v,u]at q l;rw[YC];exact⟨q,l⟩
end Dp
namespace Dp
open PySem PySem.Spec PyProof.Rows L2 PySem.SeqAt
section
variable{prog:bf}{w:bq}{A:bu}{E:vL->Sd->Prop}{s:Sd}{d:Ad}{es:Array DictEntry}{ep:Nat}
def Raw(h:bp)(d:Ad)(es:Array DictEntry)(ep:Nat):Prop:=∃ o,h.get? d=aa o/\o.ExactDict/\o.data=.dict es ep
def Raw.typeIs(x:Raw s.heap d es ep):s.TypeIs (.ref d) "dict":=let ⟨o,ho,hc,_⟩:=x;⟨o,ho,hc.1⟩
def UR(hd:(d==bt)=af) :
  MeetsIn prog w (Builtin.«dict.__len__» ⟨[.ref d],[]⟩) (λ_ R s=>Raw s.heap d es ep/\R (.ok (.ret (.int es.size s.toks))) { s with toks:=s.toks+1 }):=
 .of_wp λA R s ⟨⟨o,b,c,a⟩,h⟩=>by
  show a8 _ _ (dictSize d >>= _) _ _ s;unfold dictSize;refine aA (aA (wpAny_dictEntries b a (aF ?_)));show a8 _ _ (Builtin.Dict.pendingCount d >>= _) _ _ s;refine aA (wpAny_pendingCount_other hd (wpAny_ret_mkInt ?_));rw[Nat.add_zero];exact h
theorem Zcv{Q:vL->Sd->Prop}(hd:(d==bt)=af)(a:Raw s.heap d es ep)(b:(es.size:Int) < 2 ^ 63)(h:Q (.int es.size (s.toks+1)) { s with toks:=s.toks+1+1 }):a8 (a9 prog w) A (call (.builtin "len") [.ref d]) Q E s:=by
 refine Calls.call_function_entry kind_len plain_len entry_len (args_len1 _) ?_;unfold Builtin.«len»
 refine aA (m:=oneArg "len" _) (aF ?_);refine aA (m:=callSpecial? (.ref d) (Str.ofString "__len__")) (wpAny_callSpecial?_slot (name:=Str.ofString "__len__") a.typeIs F.slot_dict_len
  (call_meetsIn F.slot_dict_len a.typeIs F.entry_dict_len (F.args_dict_len_1 _) (UR (es:=es) (ep:=ep) hd) ⟨a,?_⟩))
 show a8 _ _ _ _ _ { s with toks:=s.toks+1 }
 refine aA (wpAny_holding (aF (aA (wpAny_letGo ?_))));show a8 _ _ (if ((es.size:Nat):Int) < 0 then _ else _) _ _ _
 rw[ar (by omega)]
 show a8 _ _ (if ((es.size:Nat):Int)>=2 ^ 63 then _ else _) _ _ _
 rw[ar (by omega)]
 exact aA (wpAny_mkInt (aF ⟨_,rfl,h⟩))
def VL{X:Cx}:CallR X (.builtin "len") (λc H Q=>∃ a kvs,c=[.ref a]/\H a=aa (.dT kvs)/\Q (.int kvs.length) H):=by
 intro pQ s O H c m Q I r h;obtain⟨a,kvs,rfl,e,q⟩:=h;obtain⟨u,rfl,f⟩:=vals1 r;cases f;have p:=line63;have t:ay=16777216:=sizeLine_eq;obtain⟨n,k,c,d,o,es,ep,i,l,b,j,_⟩:=(show ObjOk X.prog X.w H s.heap a (.dT kvs) from I.hok a _ e);have g:es.size=kvs.length:=by rw[<-eE,j,aD];exact(Paired.length d).symm
 exact Zcv k ⟨o,i,l,b⟩ (by omega) ⟨.int kvs.length,H,I.tok _,⟨s.toks+1,by rw[g]⟩,q⟩
end
end Dp
namespace Dp
open PySem PySem.Spec PyProof.Rows L2 Builtin Builtin.Str
variable [ClsTab]
section
variable{X:Cx}{tg:az}
end
end Dp
namespace Dp
open PySem PySem.Spec PyProof.Rows L2
variable [ClsTab]
variable{X:Cx}{pQ:Li (Ad×Obj)}{s:Sd}{O:L2.St}{H:Hp}{Q:VK}
section
open Builtin
open AutoSeq1 (wpAny_loadPart')
theorem XX:fillsNumberSlot (.type "tuple") "mul"=pure af:=
 PySem.fillsNumberSlot_seq (id := "tuple.__mul__") (r:=aa (.builtin "tuple.__rmul__")) F.slot_tuple_mul.lookup (by decide +kernel) F.slot_tuple_rmul.lookup (by decide +kernel)
theorem Vu:seqRepeat? (.type "tuple")=pure (aa (.builtin "tuple.__mul__")):=by
 unfold seqRepeat?
 rw[PySem.seqSlot_of (T := "tuple") (name := "__mul__") (id := "tuple.__mul__") F.slot_tuple_mul.lookup (by decide +kernel),PySem.seqSlot_of (T := "tuple") (name := "__rmul__") (id := "tuple.__rmul__") F.slot_tuple_rmul.lookup (by decide +kernel)]
 rfl
def U0(a:Int)(t:Tok)(l:Ad)(b:Array vL)(n:Nat)(dd:Ot Ad)(sl:Array (Ot vL)):Meets (Builtin.«int.__rmul__» ⟨[.int a t,.ref l],[]⟩) (λ_ R s=>s.heap.get? l=aa { cls:=.type "tuple",dict:=dd,data:=.seq b n,slots:=sl }/\R (.ok (.ret Value.notImplemented)) s):=
 .of_wp λc w A R s h=>by obtain⟨i,g,d,e,f⟩:=s;obtain⟨j,h⟩:=h;wp_walk;exact⟨_,rfl,h⟩
def Zbv(l:Ad)(a:Array vL)(n:Nat)(dd:Ot Ad)(sl:Array (Ot vL))(u:Tok) :
  Meets (Builtin.«tuple.__mul__» ⟨[.ref l,.int 1 u],[]⟩) (λ_ R s=>s.heap.get? l=aa { cls:=.type "tuple",dict:=dd,data:=.seq a n,slots:=sl }/\R (.ok (.ret (bx l))) s):=
 .of_wp λb w A R s h=>by
  obtain⟨i,g,d,e,f⟩:=s;obtain⟨c,h⟩:=h;have j:=AutoSeq1.idx_int;wp_walk using wpAny_loadPart' c;exact⟨_,rfl,h⟩
def Zbu(l:Ad)(items:Array vL)(n:Nat)(dd:Ot Ad)(sl:Array (Ot vL))(k:Int)(u:Tok)(e:¬items.isEmpty=ae)(c:k<=0)(p:-1000<=k) :
  Meets (Builtin.«tuple.__mul__» ⟨[.ref l,.int k u],[]⟩) (λ_ R s=>s.heap.get? l=aa { cls:=.type "tuple",dict:=dd,data:=.seq items n,slots:=sl }/\R (.ok (.ret (bx s.heap.objs.size))) { s with heap:=s.heap.push { cls:=.type "tuple",data:=.seq #[] } }):=
 .of_wp λb w A R s h=>by
  obtain⟨o,g,d,j,m⟩:=s;obtain⟨a,h⟩:=h;have q:=AutoSeq1.idx_int;have i:(ak (k < -(2 ^ 63))||ak (k>=2 ^ 63))=af:=by rw[aG (by omega),aG (by omega)];rfl
  have f:(items.isEmpty||k==1)=af:=by
   have:(k==1)=af:=by rw[dG];omega
   rw[this,cL];simpa using e
  have r:(ak (k<=0)||items.isEmpty)=ae:=by rw[aE c];rfl
  wp_walk using wpAny_loadPart' a
  refine wpAny_ite_false (by rw[i];rfl) ?_
  wp_walk using wpAny_loadPart' a
  refine wpAny_ite_false (by rw[f];rfl) ?_
  wp_walk using wpAny_loadPart' a
  exact⟨_,rfl,h⟩
def Zbw(l:Ad)(items:Array vL)(n:Nat)(dd:Ot Ad)(sl:Array (Ot vL))(k:Int)(u:Tok)(b:items.size=1)(y:2<=k)(x:k<=1000) :
  Meets (Builtin.«tuple.__mul__» ⟨[.ref l,.int k u],[]⟩) (λ_ R s=>s.heap.get? l=aa { cls:=.type "tuple",dict:=dd,data:=.seq items n,slots:=sl }/\R (.ok (.ret (bx s.heap.objs.size))) { s with heap:=s.heap.push { cls:=.type "tuple",data:=.seq ((ag k.toNat items).foldl (λe c=>e++c) #[]) } }):=
 .of_wp λf w A R s h=>by
  obtain⟨v,g,d,r,t⟩:=s;obtain⟨a,h⟩:=h;have B:=AutoSeq1.idx_int;have q:(ak (k < -(2 ^ 63))||ak (k>=2 ^ 63))=af:=by rw[aG (by omega),aG (by omega)];rfl
  have i:items.isEmpty=af:=by
   rw[Array.isEmpty_eq_false_iff];intro z;rw[z]at b;simp at b
  have p:(items.isEmpty||k==1)=af:=by
   have:(k==1)=af:=by rw[dG];omega
   rw[this,cL];exact i
  have o:(ak (k<=0)||items.isEmpty)=af:=by rw[aG (by omega),i];rfl
  have m:ak ((items.size:Int) * k > (2 ^ 63 - 1) / 8)=af:=by rw[b];exact aG (by omega)
  have j:Tuple.tupleTooMany ((items.size:Int) * k)=af:=by
   unfold Tuple.tupleTooMany;rw[b];exact aG (by have:(ay:Int)>=1000:=(by decide);omega)
  have C:ak (((ag k.toNat items).foldl (λe c=>e++c) #[]).size > ay)=af:=by
   rw[AutoListH.size_joined];refine aG ?_;have:ay>=1000:=by decide
   simp only[b,Array.size_empty];omega
  wp_walk using wpAny_loadPart' a
  refine wpAny_ite_false (by rw[q];rfl) ?_
  wp_walk using wpAny_loadPart' a
  refine wpAny_ite_false (by rw[p];rfl) ?_
  wp_walk using wpAny_loadPart' a
  refine wpAny_ite_false (by rw[o];rfl) ?_
  wp_walk using wpAny_loadPart' a
  refine wpAny_ite_false m ?_
  wp_walk using wpAny_loadPart' a
  refine wpAny_ite_false (by rw[j];rfl) ?_
  wp_walk using wpAny_loadPart' a
  exact⟨_,rfl,h⟩
theorem ZcI{a:Ad}{v:V}{k:Int}{t:Tok}(I:L2.Inv X pQ O H s)(L:TupAt X.K H a [v])(N:k<=1000)(M:-1000<=k)(E:k=1->Q (.ref a) H)(D:∀ p,H p=ab->Q (.ref p) (upd H p (.tup (ag k.toNat v)))):a8 (a9 X.prog X.w) X.A (bv .Mult (.ref a) (.int k t)) (EP X pQ O Q) X.xe s:=by
 obtain⟨J,r,G,_⟩:=I.tuple (L.sq);obtain⟨u,rfl,B⟩:=r.one;obtain⟨⟨Y,dd,W,sl⟩,d,l,n,i⟩:=id G;simp only at l i;subst l i;have f:∀ c:Li vL,Vals (ag k.toNat v) c->EP X pQ O Q (.ref s.heap.objs.size) { s with heap:=s.heap.push { cls:=.type "tuple",data:=.seq c.toArray } }:=λc C=>
  ⟨.ref s.heap.objs.size,_,I.laid (t':=s.toks) (o:=.tup (ag k.toNat v)) (λb S q=>aT _ q) (aB _) ⟨by rw[dH];exact aP (show k.toNat<=1000 by omega) (by decide),c,C,IsTup.new _ _⟩,rfl,D _ (I.hok.fresh (aB _))⟩
 refine wpAny_binaryOp_repeat_ref (T := "tuple") (U := "int") (by decide) ⟨_,d,rfl⟩ (λy=>typeIs_int y k t) XX F.fills_int_mul F.slot_int_rmul Vu F.slot_int_index.lookup
  (call_meets F.slot_int_rmul (typeIs_int s k t) F.entry_int_rmul (F.args_int_rmul_2 _ _) (U0 k t a _ n dd sl) ⟨d,rfl,⟨_,d,rfl⟩,?_⟩)
 by_cases P:k=1
 .subst P
  exact call_meets F.slot_tuple_mul ⟨_,d,rfl⟩ F.entry_tuple_mul (F.args_tuple_mul_2 _ _) (Zbv a _ n dd sl t) ⟨d,⟨.ref a,H,I,rfl,E rfl⟩⟩
 .by_cases R:k<=0
  .refine call_meets F.slot_tuple_mul ⟨_,d,rfl⟩ F.entry_tuple_mul (F.args_tuple_mul_2 _ _) (Zbu a _ n dd sl k t (by simp) R M) ⟨d,?_⟩
   have z:k.toNat=0:=by omega
   exact f [] (by rw[z];exact .nil)
  .refine call_meets F.slot_tuple_mul ⟨_,d,rfl⟩ F.entry_tuple_mul (F.args_tuple_mul_2 _ _) (Zbw a _ n dd sl k t (by simp) (by omega) N) ⟨d,?_⟩
   have e:List.foldl (λx m=>x++m) #[] (ag k.toNat [u].toArray)=(ag k.toNat u).toArray:=by
    have h:=foldl_rep [u] k.toNat [];rw[dZ]at h;rw[show([]:Li vL).toArray=#[] from rfl]at h;rw[h]
    congr 1
    generalize k.toNat=j
    induction j with
    |zero=>rfl
    |succ j g=>rw[cT,cU,g,cT];rfl
   rw[e];refine f _ ?_;generalize k.toNat=j
   induction j with
   |zero=>exact .nil
   |succ j g=>exact .cons B g
end
def Ym:Zp<=ay:=by decide
variable{i j:Int}{xs ys:Li V}{op:Operator}{ds:Li D}{ad:Li Ad}{d:D}{st:Za}{hi:Ot Int}{k:Bool}
variable{X:Cx}
def UM(h:ZP i=ae):-(2 ^ 64) < i/\i < 2 ^ 64:=by
 unfold ZP at h;rw[Ba]at h;exact⟨ao h.1,ao h.2⟩
def ZbX{a b:Ad}(I:Inv X pQ O H s)(q:TupAt X.K H a xs)(o:TupAt X.K H b ys)(B:xs.length+ys.length<=ay)(v:xs=[]->Q (.ref b) H)(u:ys=[]->Q (.ref a) H)(t:∀ p,H p=ab->Q (.ref p) (upd H p (.tup (xs++ys)))):a8 (a9 X.prog X.w) X.A (bv .Add (.ref a) (.ref b)) (EP X pQ O Q) X.xe s:=by
 by_cases i:xs=[]
 .obtain⟨h,r,y,_⟩:=I.tuple (q.sq)
  obtain⟨c,E,x,_⟩:=I.tuple (o.sq);have C:h=[]:=r.nil_iff.mpr i;subst C;obtain⟨⟨L,dd,G,sl⟩,k,m,n,l⟩:=id y;obtain⟨⟨J,j,D,g⟩,d,f,z,e⟩:=id x;simp only at m l f e;subst m l f e;exact concat_meets ⟨_,k,rfl⟩ ⟨_,d,rfl⟩ noFill_tuple_add seq_tuple_add PySem.F.slot_tuple_add PySem.F.entry_tuple_add (PySem.F.args_tuple_add_2 _ _)
   (tuple_addW0 a b #[] c.toArray n z dd j sl g rfl) ⟨k,d,⟨.ref b,H,I,rfl,v i⟩⟩
 .exact op_catT pQ s O H (.ref a) (.ref b) _ _ Q I rfl rfl ⟨a,b,xs,ys,rfl,rfl,(q).sq,(o).sq,i,B,u,λ_=>t⟩
def Q5(hi:0<=i)(a:0<=j):Builtin.bitAnd i j=((i.toNat &&& j.toNat:Nat):Int):=by
 unfold Builtin.bitAnd;simp[hi,a]
def Q6(hi:0<=i)(a:j < 0):Builtin.bitAnd i j=i - ((i.toNat &&& (-j - 1).toNat:Nat):Int):=by
 unfold Builtin.bitAnd;rw[aE hi,aG (by omega)]
 rfl
def JH(hi:0<=i)(b:0<=j):Builtin.bitOr i j=((i.toNat ||| j.toNat:Nat):Int):=by
 unfold Builtin.bitOr;have n:∀ {k:Int},0<=k->ak (0<=Builtin.bitNot k)=af:=λ{k} h=>by unfold Builtin.bitNot;exact aG (by omega)
 have a:∀ k:Int,Builtin.bitNot (Builtin.bitNot k)=k:=λk=>by unfold Builtin.bitNot;omega
 have e:Builtin.bitAnd (Builtin.bitNot i) (Builtin.bitNot j)=Builtin.bitNot ((Builtin.bitNot (Builtin.bitNot i)).toNat ||| (Builtin.bitNot (Builtin.bitNot j)).toNat:Nat):=by
  unfold Builtin.bitAnd;rw[n hi,n b]
 rw[e,a,a,a]
def ZcD{k:Int}{v u:vL}(I:L2.Inv X pQ O H s)(c:RelV (.int i) v)(b:RelV (.int j) u)(e:Q4 op i j=aa k)(p:Q (.int k) H) :
  a8 (a9 X.prog X.w) X.A (bv op v u) (EP X pQ O Q) X.xe s:=by
 unfold Q4 at e;split at e
 .cases e
  exact op_add pQ s O H _ _ v u Q I c b ⟨_,_,rfl,rfl,p⟩
 .cases e
  exact op_sub pQ s O H _ _ v u Q I c b ⟨_,_,rfl,rfl,p⟩
 .split at e
  .rename_i a
   cases e;refine op_mul pQ s O H _ _ v u Q I c b ⟨_,_,rfl,rfl,?_,p⟩;rw[bL]at a;exact a.elim (λz=>.inl (UM z)) λz=>.inr (UM z)
  .cases e
 .split at e
  .rename_i a
   cases e;exact op_fdiv pQ s O H _ _ v u Q I c b ⟨_,_,rfl,rfl,a,p⟩
  .split at e
   .rename_i a
    cases e;exact op_fdivN pQ s O H _ _ v u Q I c b ⟨_,_,rfl,rfl,⟨by omega,by omega⟩,p⟩
   .cases e
 .split at e
  .rename_i a
   cases e;exact op_mod pQ s O H _ _ v u Q I c b ⟨_,_,rfl,rfl,a,p⟩
  .split at e
   .rename_i a
    cases e;exact op_modN pQ s O H _ _ v u Q I c b ⟨_,_,rfl,rfl,(by omega),p⟩
   .cases e
 .split at e
  .rename_i a
   cases e;have:=UM a.2.2;exact op_shl pQ s O H _ _ v u Q I c b ⟨_,_,rfl,rfl,⟨a.1,by omega,by omega⟩,p⟩
  .cases e
 .split at e
  .rename_i a
   cases e;refine op_and pQ s O H _ _ v u Q I c b ⟨_,_,rfl,rfl,?_⟩;dsimp only;rw[Q5 a.1 a.2];exact p
  .split at e
   .rename_i a
    cases e;refine op_and pQ s O H _ _ v u Q I c b ⟨_,_,rfl,rfl,?_⟩;dsimp only;rw[Q6 a.1 a.2];exact p
   .cases e
 .split at e
  .rename_i a
   cases e;refine op_or pQ s O H _ _ v u Q I c b ⟨_,_,rfl,rfl,?_⟩;dsimp only;rw[JH a.1 a.2];exact p
  .cases e
 .cases e
def Ja{a b:Ad}(I:L2.Inv X pQ O H s)(C:SqL X.K H a xs)(B:SqL X.K H b ys)(G:xs.length+ys.length<=ay)(q:∀ p,H p=ab->Q (.ref p) (upd H p (.lst (xs++ys)))):a8 (a9 X.prog X.w) X.A (bv .Add (.ref a) (.ref b)) (EP X pQ O Q) X.xe s:=by
 obtain⟨d,r,y,_⟩:=I.list C;obtain⟨c,l,x,_⟩:=I.list B;obtain⟨⟨cls,dd,u,sl⟩,m,t,n,o⟩:=id y.isList;obtain⟨⟨v,j,k,i⟩,f,h,z,g⟩:=id x.isList;simp only at t o h g;subst t o h g;have e:d.toArray++c.toArray=(d++c).toArray:=by simp
 have E:=r.length;have D:=l.length;refine concat_meets ⟨_,m,rfl⟩ ⟨_,f,rfl⟩ noFill_list_add seq_list_add PySem.F.slot_list_add PySem.F.entry_list_add (PySem.F.args_list_add_2 _ _) (list_addW a b d.toArray c.toArray n z dd j sl i (by simp;omega)) ⟨m,f,?_⟩
 rw[e];exact⟨.ref _,_,I.lnew (t':=s.toks) (r.append l) (by rw[aH];omega),rfl,q _ I.fresh⟩
def Uu(h:V4 op=ae):op=.Add:=by cases op<;>first|rfl|cases h
def ZaL(h:Zat op=ae):op=.Mult:=by cases op<;>first|rfl|cases h
def ZcC:OpR X (bv op) (rD X.K (Uz op)):=by
 intro pQ s O H x y v u Q I r o h;obtain⟨ad,st,R,P,d,st',S,m,l,e,p⟩:=h;unfold Uz at e;split at e
 .split at e
  .rename_i k q
   cases e;cases m;cases l
   exact ZcD I r o q (p.at S (.int _))
  .exact Zb e
 .split at e
  .rename_i i
   cases Uu i.1
   have g:=i.2;cases e;obtain⟨a,xs,rfl,j,c⟩:=m.ofTup;obtain⟨b,ys,rfl,E,A⟩:=l.ofTup;cases r;cases o
   refine ZbX I j E (by rw[c.length,A.length];exact aP g Ym) (λz=>?_) (λz=>?_) λq f=>?_
   .subst z;cases c
    exact p.at S l
   .subst z;cases A
    rw[bD]at p;exact p.at S m
   .exact p _ ad _ (Ext.laid f) (S.laid f) (.tup (.inl upd_same) ((c.append A).mono (Ext.laid f)))
  .exact Zb e
 .split at e
  .rename_i i
   cases ZaL i
   obtain⟨a,xs,rfl,j,c⟩:=m.ofTup;cases l;cases r;obtain⟨t,rfl⟩:=o;cases c with
   |nil=>exact Zb e
   |cons B c=>cases c with
    |cons _ _=>exact Zb e
    |nil=>
     have e:(if _/\_ then aa (D.tup (ag _ _),st) else ab)=aa (d,st'):=e
     split at e
     .rename_i g
      cases e;refine ZcI I j g.1 g.2 (λz=>?_) λq f=>p _ ad _ (Ext.laid f) (S.laid f) (.tup (.inl upd_same) ((Dens.rep B _).mono (Ext.laid f)))
      subst z;exact p.at S (.tup j (.cons B .nil))
     .exact Zb e
  .exact Zb e
 .split at e
  .rename_i n
   cases Uu n
   unfold Q9 at e;split at e
   .rename_i xs ys C G
    split at e
    .rename_i g
     cases e;obtain⟨a,rfl,j⟩:=m.ofLst;obtain⟨b,rfl,E⟩:=l.ofLst;obtain⟨vs,c,F⟩:=S.list j C;obtain⟨N,A,L⟩:=S.list E G;cases r;cases o
     refine Ja I F L (by rw[c.length,A.length];exact aP g Ym) λq f=>?_
     refine p _ (ad++[q]) _ (Ext.push f) (S.push f (c.append A)) (.newL ?_);rw[<-S.len];exact Zt
    .exact Zb e
   .exact Zb e
  .exact Zb e
 .split at e
  .rename_i n
   cases ZaL n
   unfold Zgr at e;split at e
   .rename_i z C
    split at e
    .rename_i g
     cases e;obtain⟨a,rfl,j⟩:=m.ofLst;obtain⟨vs,c,F⟩:=S.listM j C;cases l;cases c with
     |cons B c=>
      cases c;rename_i w;refine op_rep pQ s O H _ _ v u Q I r o ⟨a,_,[w],rfl,rfl,F,by omega,by omega,?_,λq f=>?_⟩
      .rw[fS,Nat.one_mul]
       exact aP (show _<=1000 by omega) (by decide)
      .have M:∀ k:Nat,(ag k [w]).flatten=ag k w:=λk=>by
        induction k with
        |zero=>rfl
        |succ k J=>rw[cT,cU,J,cT];rfl
       rw[M];refine p _ (ad++[q]) _ (Ext.push f) (S.push f (Dens.rep B _)) (.newL ?_);rw[<-S.len];exact Zt
    .exact Zb e
   .exact Zb e
  .exact Zb e
 .split at e
  .rename_i g
   cases Uu g.1
   cases e;cases m;cases l
   exact op_add_str pQ s O H _ _ v u Q I r o ⟨_,_,rfl,rfl,aP g.2 Ym,p.at S (.str _)⟩
  .exact Zb e
 .exact Zb e
def Zde:UnR X (unaryOp .USub) (rU1 X.K ZeO):=by
 intro pQ s O H x v Q I a h;obtain⟨ad,st,c,d,st',S,b,e,p⟩:=h;unfold ZeO at e;split at e
 .cases e;cases b
  exact un_neg pQ s O H _ v Q I a ⟨_,rfl,p.at S (.int _)⟩
 .exact Zb e
def Zdd:UnR X (unaryOp .Invert) (rU1 X.K ZeC):=by
 intro pQ s O H x v Q I a h;obtain⟨ad,st,c,d,st',S,b,e,p⟩:=h;unfold ZeC at e;split at e
 .cases e;cases b
  exact un_inv pQ s O H _ v Q I a ⟨_,rfl,p.at S (.int _)⟩
 .exact Zb e
def Uw(r:Dens X.K ad H xs ds)(e:atD ds i=aa d):∃ v,atI xs i=aa v/\Den X.K ad H v d:=by
 unfold atD at e;have a:L2.ixN xs.length i=Dp.ixN ds.length i:=by rw[r.length];rfl
 cases q:Dp.ixN ds.length i with
 |none=>rw[q]at e;cases e
 |some j=>
  rw[q]at e;obtain⟨v,c,b⟩:=r.get (i:=j) e;refine⟨v,?_,b⟩;unfold atI;rw[a,q];exact c
theorem XH{ad:Li Ad}{H:Hp}{k:Str}:∀ {ks:Li Str}{vs:Li V}{ds:Li D},Dens X.K ad H vs ds->ks.length=vs.length->
  (∃ v d,valV ((ks.zip vs).map λp=>((Sum.inr p.1:Key),p.2)) (Sum.inr k)=aa v/\Z0 ks ds k=aa d/\Den X.K ad H v d)\/(valV ((ks.zip vs).map λp=>((Sum.inr p.1:Key),p.2)) (Sum.inr k)=ab/\Z0 ks ds k=ab)
 |[],_,_,.nil,_=>.inr ⟨rfl,rfl⟩
 |[],_,_,.cons _ _,h=>by simp at h
 |_ :: _,_,_,.nil,h=>by simp at h
 |x :: ks,v :: vs,d :: ds,.cons b r,h=>by
  by_cases e:x=k
  .subst e
   exact .inl ⟨v,d,valV_pos rfl,by simp[Z0],b⟩
  .have a:=XH (k:=k) r (by simpa using h)
   have f:valV (((x :: ks).zip (v :: vs)).map λp=>((Sum.inr p.1:Key),p.2)) (Sum.inr k)=valV ((ks.zip vs).map λp=>((Sum.inr p.1:Key),p.2)) (Sum.inr k):=valV_neg (p:=(Sum.inr x,v)) (by intro z;exact e (Sum.inr.inj z))
   have c:Z0 (x :: ks) (d :: ds) k=Z0 ks ds k:=by simp[Z0,e]
   rw[f,c];exact a
def UE{ks:Li D}{a:Nat}{o:Ot D}(h:dAt ks a st=aa o):∃ i j b xs,ks=[.int i,.int j]/\st[a]?=aa (b,xs)/\o=Z8 xs i j:=by
 cases ks with
 |nil=>exact Zb h
 |cons x ks=>cases ks with
  |nil=>exact Zb h
  |cons y ks=>cases ks with
   |cons _ _=>exact Zb h
   |nil=>
    refine ZQ (P:=λo=>∃ i j b xs,[x,y]=[D.int i,.int j]/\st[a]?=aa (b,xs)/\o=Z8 xs i j) h λp c d f=>?_
    refine ZQ (P:=λp:Int×Int=>∃ i j b xs,[x,y]=[D.int i,.int j]/\st[a]?=aa (b,xs)/\Z8 c.2 p.1 p.2=Z8 xs i j) d λi j hi e=>?_
    exact⟨i,j,c.1,c.2,by rw[Qs hi,Qs e],f,rfl⟩
def Xz{y:V}(a:Den X.K ad H y (.tup [.int i,.int j])):∃ b,y=.ref b/\SqT X.K H b (([.inl i,.inl j]:Li Key).map kV):=by
 obtain⟨b,xs,rfl,c,r⟩:=a.ofTup;cases r with
 |cons e r=>cases r with
  |cons d r=>cases r;cases e;cases d;exact⟨b,rfl,c.sq⟩
def ZfJ{x:Str}(q:atD ((chS x).map D.str) i=aa d):∃ c,atI x.cps.toList i=aa c/\d=.str ⟨#[c]⟩:=by
 unfold atD at q;unfold atI;have b:((chS x).map D.str).length=x.cps.toList.length:=by simp[chS]
 rw[b]at q;show ∃ c,(Dp.ixN x.cps.toList.length i).bind (λj=>x.cps.toList[j]?)=aa c/\_
 cases e:Dp.ixN x.cps.toList.length i with
 |none=>rw[e]at q;cases q
 |some j=>
  rw[e]at q;have q:((chS x).map D.str)[j]?=aa d:=q;unfold chS at q;rw[aX,aX]at q;show ∃ c,x.cps.toList[j]?=aa c/\_;cases a:x.cps.toList[j]? with
  |none=>rw[a]at q;cases q
  |some c=>rw[a]at q;cases q;exact⟨c,rfl,rfl⟩
def ZgW(hu:X.A.units+64 < cLine):IxR X (rD X.K ixR):=by
 intro f slice pQ s O H x y v u Q I t m h C;obtain⟨ad,st,Z,Y,d,st',S,B,z,e,p⟩:=h;unfold ixR at e;split at e
 .rename_i d' q
  cases e;unfold ixD at q;split at q
  .obtain⟨a,xs,rfl,l,r⟩:=B.ofTup
   cases z;obtain⟨w,k,g⟩:=Uw r q;exact ix_tup f slice pQ s O H _ _ v u Q I t m ⟨a,xs,_,w,rfl,rfl,(l).sq,k,p.at S g⟩ C
  .split at q
   .rename_i D
    obtain⟨a,rfl,l⟩:=B.ofLst;cases z;obtain⟨xs,r,sq⟩:=S.list l D;obtain⟨w,k,g⟩:=Uw r q;exact ix_list f slice pQ s O H _ _ v u Q I t m ⟨a,xs,_,w,rfl,rfl,sq,k,p.at S g⟩ C
   .exact Zb q
  .obtain⟨a,vs,rfl,l,L,r⟩:=B.ofDct
   cases z;rcases XH r L with⟨w,W,k,g,F⟩|⟨_,g⟩
   .rw[g]at q
    cases q;exact ix_dct f slice pQ s O H _ _ v u Q I t m ⟨a,_,Sum.inr _,w,rfl,rfl,l,k,p.at S F⟩ C
   .rw[g]at q;cases q
  .obtain⟨a,o,E,n,rfl,V,U,T,R,P⟩:=B.ofKt
   cases z;obtain⟨w,k,g⟩:=Uw (W2 _) q;exact ix_tup f slice pQ s O H _ _ v u Q I t m ⟨a,_,_,w,rfl,rfl,.inr ⟨o,E,n,V,U.1,T,R,P⟩,k,p.at S g⟩ C
  .refine j_e q λq=>?_
   obtain⟨i,j,bb,es,rfl,D,q⟩:=UE q;obtain⟨a,rfl,l,J⟩:=B.ofDic;obtain⟨kvs,r,M,_⟩:=S.dict l J D;obtain⟨b,rfl,N⟩:=Xz z;rcases Xd r with⟨w,W,k,g,F⟩|⟨_,g⟩
   .rw[g]at q
    cases q;exact ix_dT (by omega) f slice pQ s O H _ _ v u Q I t m ⟨a,b,kvs,_,w,rfl,rfl,N,M,k,p.at S F⟩ C
   .rw[g]at q;cases q
  .split at q
   .rename_i G
    cases B;cases z
    obtain⟨c,k,rfl⟩:=ZfJ q;exact ix_str f slice pQ s O H _ _ v u Q I t m ⟨_,_,c,rfl,rfl,aP G Ym,k,p.at S (.str _)⟩ C
   .exact Zb q
  .exact Zb q
 .exact Zb e
def YH(n d:Nat)(o:Ot Int):Dp.sIx n d o=HT.sIx n d o:=by cases o<;>rfl
def JP{lo:Ot Int}(r:Dens X.K ad H xs ds):Dens X.K ad H (cutV xs lo hi) (Xg ds lo hi):=by
 unfold cutV Xg;rw[<-r.length,YH,YH];exact(r.drop _).take _
def WN{prog:bf}{w:bq}{A:bu}{E:vL->Sd->Prop}{t sl:Ad}{a:Array vL}{i g:vL}{lo:Ot Int}{Q:vL->Sd->Prop}(c:IsTup s.heap t a)(k:s.heap.IsSliceOf sl i g .none)(m:IsPart i lo)(l:IsPart g hi)(j:HT.sIx a.size 0 lo=0/\HT.sIx a.size a.size hi=a.size)(h:Q (.ref t) s):a8 (a9 prog w) A (getItem (.ref t) (.ref sl)) Q E s:=by
 obtain⟨n,d,e,o⟩:=id k;have f:s.TypeIs (.ref sl) "slice":=⟨n,d,e⟩;unfold getItem
 try with_reducible refine wpAny_holding ?_
 first|refine aA (aF ?_)|skip
 refine aA (wpAny_sequenceKey c.typeIs (by decide) ?_)
 refine aA (wpAny_callSpecial?_slot (name:=Str.ofString "__getitem__") c.typeIs PyProof.Rows.slot_tuple_getitem
  (wpAny_call_entry PyProof.Rows.slot_tuple_getitem c.typeIs PyProof.Rows.entry_tuple_getitem ?_ (PyProof.Rows.args_tuple_getitem _ _)))
 show a8 _ _ (Builtin.Tuple.tupleItemsOf (.ref t) >>= _) _ _ s;refine aA (tupleItemsOf_ c ?_);refine aA (wpAny_typeOf f ?_);rw[aq (by decide)]
 refine aA (HT.sliceApplied_gen k m l ?_);rw[j.1,j.2];have b:(((0:Nat):Int)==0&&(1:Int)==1&&(a.size - 0)==a.size)=ae:=by simp
 show a8 _ _ (if (((0:Nat):Int)==0&&(1:Int)==1&&(a.size - 0)==a.size)=ae then _ else _) _ _ s
 rw[aq b];unfold Builtin.Tuple.tupleIsExact
 wp_walk using wpAny_typeOf c.typeIs
 exact⟨_,rfl,aF h⟩
def Zbo:SlR X (λx lo hi H Q=>∃ a xs,x=.ref a/\SqT X.K H a xs/\(HT.sIx xs.length 0 lo=0/\HT.sIx xs.length xs.length hi=xs.length)/\Q (.ref a) H):=by
 intro pQ s O H x v m l lo hi sl Q I e k g f h;obtain⟨a,xs,rfl,i,j,q⟩:=h;cases e;obtain⟨c,r,d,n⟩:=I.tuple i;have b:c.toArray.size=xs.length:=by rw[aJ];exact r.length.symm
 refine⟨"tuple",_,PyProof.Rows.slot_tuple_getitem.lookup,d.typeIs,?_⟩;exact WN d k g f (by rw[b];exact j) ⟨.ref a,H,I,rfl,q⟩
def ZhO:SlR X (rSl X.K):=by
 intro pQ s O H x v i g lo hi sl Q I j n l k h;obtain⟨ad,st,t,d,st',S,f,e,p⟩:=h;unfold Z6 at e;split at e
 .rename_i ds
  split at e
  .rename_i m
   cases e;obtain⟨a,xs,rfl,c,r⟩:=f.ofTup;refine Zbo pQ s O H _ v i g lo hi sl Q I j n l k ⟨a,xs,rfl,c.sq,?_,p.at S f⟩;rw[r.length,<-YH,<-YH];exact m
  .rename_i m
   cases e;obtain⟨a,xs,rfl,c,r⟩:=f.ofTup;refine sl_tup pQ s O H _ v i g lo hi sl Q I j n l k ⟨a,xs,rfl,(c).sq,?_,λq b=>p _ ad _ (Ext.laid b) (S.laid b) (.tup (.inl upd_same) ((JP r).mono (Ext.laid b)))⟩
   rw[r.length,<-YH,<-YH];exact m
 .split at e
  .rename_i o
   cases e;obtain⟨a,rfl,c⟩:=f.ofLst;obtain⟨xs,r,sq⟩:=S.list c o;refine sl_list pQ s O H _ v i g lo hi sl Q I j n l k ⟨a,xs,rfl,sq,λq b=>p _ (ad++[q]) _ (Ext.push b) (S.push b (JP r)) (.newL ?_)⟩
   rw[<-S.len];exact Zt
  .exact Zb e
 .exact Zb e
def VT{vs:Li V}(h:Dens X.K ad H vs [d]):∃ v,vs=[v]/\Den X.K ad H v d:=by
 cases h with
 |cons h r=>cases r;exact⟨_,rfl,h⟩
def YF{g:D->Za->Res}{r:D×Za}(h:on1 g ds st=aa r):∃ d,ds=[d]/\g d st=aa r:=by
 unfold on1 at h;split at h
 .exact⟨_,rfl,h⟩
 .exact Zb h
def Q8:CallR X (.builtin "len") (rC X.K (on1 ZaD)):=by
 intro pQ s O H xs b Q I r h;obtain⟨ad,st,ds,d,st',S,u,e,p⟩:=h;obtain⟨x,rfl,C⟩:=YF e;have e:=C;obtain⟨v,rfl,f⟩:=VT u;unfold ZaD at e;split at e
 .rename_i n q
  cases e;unfold ZeI at q;split at q
  .cases q
   obtain⟨a,ys,rfl,j,c⟩:=f.ofTup;refine call_len_seq pQ s O H _ b Q I r ⟨a,ys,rfl,.inr ((j).sq),?_⟩;rw[c.length];exact p.at S (.int _)
  .split at q
   .rename_i g
    cases q;obtain⟨a,rfl,j⟩:=f.ofLst;obtain⟨ys,c,sq⟩:=S.list j g;refine call_len_seq pQ s O H _ b Q I r ⟨a,ys,rfl,.inl sq,?_⟩;rw[c.length];exact p.at S (.int _)
   .cases q
  .cases q
   obtain⟨a,o,i,n,rfl,B,A,z,y,w⟩:=f.ofKt;refine call_len_seq pQ s O H _ b Q I r ⟨a,_,rfl,.inr (.inr ⟨o,i,n,B,A.1,z,y,w⟩),?_⟩;rw[aD];exact p.at S (.int _)
  .split at q
   .rename_i k
    cases q;cases f
    exact call_len pQ s O H _ b Q I r ⟨_,_,rfl,⟨aP k Ym,rfl⟩,p.at S (.int _)⟩
   .cases q
  .split at q
   .rename_i g
    cases q;obtain⟨l,rfl,t,n⟩:=f.ofDic;obtain⟨kvs,c,m,_⟩:=S.dict t n g;refine VL pQ s O H _ b Q I r ⟨l,kvs,rfl,m,?_⟩;rw[Y5 c];exact p.at S (.int _)
   .cases q
  .cases q
 .exact Zb e
def VM:CallR X (.type "tuple") (rC X.K (on1 VA)):=by
 intro pQ s O H xs g Q I r h;obtain⟨ad,st,ds,d,st',S,k,e,p⟩:=h;obtain⟨x,rfl,m⟩:=YF e;have e:=m;obtain⟨v,rfl,b⟩:=VT k;unfold VA at e;split at e
 .cases e
  obtain⟨a,ys,rfl,f,i⟩:=b.ofTup;exact call_tuple_of pQ s O H _ g Q I r ⟨a,ys,rfl,.inr ⟨(f).sq,p.at S b⟩⟩
 .split at e
  .rename_i j
   cases e;obtain⟨a,rfl,f⟩:=b.ofLst;obtain⟨ys,i,sq⟩:=S.list f j;exact call_tuple_of pQ s O H _ g Q I r ⟨a,ys,rfl,.inl ⟨sq,λl c=>p _ ad _ (Ext.laid c) (S.laid c) (.tup (.inl upd_same) (i.mono (Ext.laid c)))⟩⟩
  .cases e
 .cases e
def UB:CallR X (.type "list") (rC X.K (on1 Qx)):=by
 intro pQ s O H xs g Q I r h;obtain⟨ad,st,ds,d,st',S,k,e,p⟩:=h;obtain⟨x,rfl,m⟩:=YF e;have e:=m;obtain⟨v,rfl,i⟩:=VT k;unfold Qx at e;split at e
 .cases e
  obtain⟨a,ys,rfl,f,c⟩:=i.ofTup;refine call_list_of pQ s O H _ g Q I r ⟨a,ys,rfl,.inr ((f).sq),λl b=>p _ (ad++[l]) _ (Ext.push b) (S.push b c) (.newL ?_)⟩
  rw[<-S.len];exact Zt
 .split at e
  .rename_i j
   cases e;obtain⟨a,rfl,f⟩:=i.ofLst;obtain⟨ys,c,sq⟩:=S.list f j;refine call_list_of pQ s O H _ g Q I r ⟨a,ys,rfl,.inl sq,λl b=>p _ (ad++[l]) _ (Ext.push b) (S.push b c) (.newL ?_)⟩
   rw[<-S.len];exact Zt
  .cases e
 .cases e
noncomputable def tyN:Ty->String
 |.int => "int"
 |.bool => "bool"
 |.str => "str"
 |.tuple => "tuple"
noncomputable def Zax:D->String
 |.int _ => "int"
 |.bl _ => "bool"
 |.str _ => "str"
 |.tup _ => "tuple"
 |.non => "NoneType"
 |_ => "list"
def Zay(K:Fg){T:Ty}(h:ZeE T d=aa k):W.kitOne K (.type (Zax d)) (.type (tyN T))=aa k:=by
 cases d<;>first | (cases h;done) | (cases T<;>(cases h;rfl))
def ZgE{K:Fg}{v:V}{T:Ty}(h:ZeE T d=aa k)(c:Den K ad H v d):TyOf K H v (.type (Zax d))\/∃ a xs,v=.ref a/\SqT K H a xs/\Zax d = "tuple":=by
 cases c with
 |non=>exact .inl .non
 |bl b=>exact .inl (.bl b)
 |int i=>exact .inl (.int i)
 |str x=>exact .inl (.str x)
 |tup e r=>exact .inr ⟨_,_,rfl,e.sq,rfl⟩
 |lst e=>exact Zb h
 |dic _ _=>exact Zb h
 |dct _ _ _ _ _=>exact Zb h
 |obj _ _=>exact Zb h
 |kt _ _ _ _ _ _=>exact Zb h
def JL{T:Ty}:CallR X (.builtin "isinstance") (λvs H Q=>∃ v,vs=[v,.ty (tyN T)]/\rC X.K (on1 (Zau T)) [v] H Q):=by
 intro pQ s O H xs D Q I r h;obtain⟨v,rfl,ad,st,ds,d,st',S,u,e,p⟩:=h;obtain⟨x,rfl,B⟩:=YF e;have e:=B;obtain⟨w,n,t⟩:=VT u;cases n;unfold Zau at e;split at e
 .rename_i k q
  cases e;cases r with
  |cons b i=>
   cases i with
   |cons g f=>
    cases f;cases g;rcases ZgE q t with ty|⟨a,C,rfl,sq,l⟩
    .exact isinst_ok I b ty (Zay X.K q) λc=>⟨.bl k,H,I.tok _,rfl,p.at S (.bl k)⟩
    .have kt:=Zay X.K q
     rw[l]at kt;cases b;obtain⟨m,_,j,_⟩:=I.tuple sq;obtain⟨o,A,y,_⟩:=j;exact W.kia_one W.kitx_tuple I.kIn ⟨o,A,y⟩ kt (λz=>nomatch z) λc=>⟨.bl k,H,I.tok _,rfl,p.at S (.bl k)⟩
 .exact Zb e
variable{e:az}{pos:Pos}
def Ug(n:Nat):sliceRange ((n:Int) - 1) (-1) (-1)=(aj n).map λk=>n - 1 - k:=by
 unfold sliceRange;rw[ar (by omega)]
 have e:(if (n:Int) - 1 > -1 then ((n:Int) - 1 - -1 - -1 - 1) / (- -1) else 0).toNat=n:=by
  split
  .have:((n:Int) - 1 - -1 - -1 - 1) / (- -1)=(n:Int):=by
    rw[show(- -1:Int)=1 by omega,Int.ediv_one];omega
   rw[this];simp
  .have:n=0:=by omega
   subst this;rfl
 show List.map (λ(k:Nat)=>((n:Int) - 1+-1 * (k:Int)).toNat) (aj (if (n:Int) - 1 > -1 then ((n:Int) - 1 - -1 - -1 - 1) / (- -1) else 0).toNat)=_
 rw[e];apply List.map_congr_left
 intro k a;omega
theorem J0(a:Li vL):∀ (L:Li Nat),(∀ k∈L,k < a.length)->L.filterMap (a.toArray[·]?)=L.map λk=>a.getD k .none
 |[],_=>rfl
 |k :: L,h=>by
  have c:=h k (Ls ..);have e:a.toArray[k]?=aa (a.getD k .none):=by
   rw[fG,aQ,Lg c];rfl
  rw[eX,e,aW,J0 a L λb d=>h b (Lm _ d)]
def Za6(a:Li vL):slicePick a.toArray ab ab (aa (-1))=a.reverse.toArray:=by
 unfold slicePick;have b:sliceBounds ab ab (aa (-1)) a.toArray.size=((a.length:Int) - 1,-1,-1):=by
  simp[sliceBounds]
 rw[b];show((sliceRange ((a.length:Int) - 1) (-1) (-1)).filterMap (a.toArray[·]?)).toArray=_;rw[Ug,J0 a _ (λk c=>by
  obtain⟨j,d,rfl⟩:=aR.mp c;have:=bQ.mp d;omega)]
 congr 1
 apply List.ext_getElem
 .simp
 .intro k e f
  have c:k < a.length:=by simpa using e
  simp only[List.getElem_map,List.getElem_range,List.getElem_reverse];rw[aQ,Lg (by omega)]
  rfl
def ZhM(K:Fg):V->Hp->VK->Prop:=λx H Q=>∃ a xs,x=.ref a/\SqL K H a xs/\∀ p,H p=ab->Q (.ref p) (upd H p (.lst xs.reverse))
def ZgB(K:Fg)(b a:TE):TE:=λO H Q=>b O H λx d=>a O d λy c=>y=.int (-1)/\ZhM K x c Q
theorem Up:∀ {xs:Li V}{its:Li vL},Vals xs its->Vals xs.reverse its.reverse
 |_,_,.nil=>.nil
 |_,_,.cons a r=>by
  rw[eM,eM];exact(Up r).append (.cons a .nil)
theorem VU{K:Fg}{ad:Li Ad}{H:Hp}:∀ {xs:Li V}{ds:Li D},Dens K ad H xs ds->Dens K ad H xs.reverse ds.reverse
 |_,_,.nil=>.nil
 |_,_,.cons a r=>by
  rw[eM,eM];exact(VU r).append (.cons a .nil)
def ZeU{es:az}{g f:TE}{i:Pos}(D:PE X e g)(C:PE X es f):PE X (.Subscript e (.Slice ab ab (aa es) i) pos) (ZgB X.K g f):=by
 intro pQ s O H Q I h;refine Subscript_ (thn (D pQ s O H _ I h) λv s1 ⟨x,J,F,m,p⟩=>?_)
 refine wpAny_Slice ?_;rw[evalPart_none];refine aF ?_;refine aF ?_;rw[evalPart_some];refine thn (C pQ s1 O J _ F p) λvs c ⟨y,G,E,l,n⟩=>?_
 obtain⟨rfl,a,xs,rfl,sq,q⟩:=n;obtain⟨t,rfl⟩:=l;cases m;have d:Inv X pQ O G { c with heap:=c.heap.push { cls:=.type "slice",data:=.fields #[.none,.none,.int (-1) t] } }:=E.kept (t':=c.toks) λb u q=>aT _ q
 obtain⟨z,r,j,B⟩:=d.list sq;have k:=r.length;show a8 (a9 X.prog X.w) X.A (subscriptTail e (.Slice ab ab (aa es) i) (.ref a) (.ref c.heap.objs.size)) (EP X pQ O Q) X.xe { c with heap:=c.heap.push { cls:=.type "slice",data:=.fields #[.none,.none,.int (-1) t] } }
 refine tail_any (ops:=[.ref a,.ref c.heap.objs.size]) j.isList.typeIs slot_list_getitem.lookup ?_ (by with_unfolding_all rfl)
 refine wpAny_getItem_list_slice j.isList (Heap.IsSliceOf.new ..) .none .none (.int (-1) t) (by simp) ?_ (by rw[aJ]<;>omega)
 rw[Za6];refine⟨.ref _,_,d.laid (t':=c.toks) (o:=.lst xs.reverse) (λb u q=>aT _ q) (aB _) ?_,rfl,q _ (d.hok.fresh (aB _))⟩
 exact⟨by rw[dD];exact B,_,0,Up r,bO _ rfl⟩
variable [ClsTab]
def tDd(K:Fg)(c d:TE):TE:=λO H Q=>∀ p,H p=ab->(∀ o,K.lookup p≠aa o)->c O (upd H p (.dT [])) λx e=>d O e λv a=>∃ kvs b k,a p=aa (.dT kvs)/\kvs.length < ay/\x=.ref b/\a b=aa (.tup (k.map kV))/\Q (.ref p) (upd a p (.dT (putK kvs k v)))
def Zgk(hu:X.A.units+1 < cLine){a:az}{i j:TE}(J:PE X a i)(F:PE X e j):PE X (.Dict [aa a] [e] pos) (tDd X.K i j):=by
 intro pQ s O H Q I q;have E:=I.hok.fresh (aB s.heap.objs.size);have T:=I.laid (a:=s.heap.objs.size) (o:=.dT []) (h':=s.heap.push { cls:=.type "dict",data:=.dict #[] }) (t':=s.toks) (λ_ _ q=>aT _ q) (aB _) (dt_empty s.heap I.big)
 refine wpAny_Dict_any rfl rfl (by simp) (by show 1<=15;decide) (pairTrees_cons_walk (thn (J pQ _ O _ _ T (q _ E λo z=>au (aL (I.kIn _ o z)) (cJ _))) λt s1 ⟨x,V,S,u,B⟩=>thn (F pQ s1 O V _ S B) λW Y ⟨v,U,h,rv,kvs,b,k,f,n,ex,r,y⟩=>pairTrees_nil_walk ?_))
 subst ex;cases (show t=bx b from u)
 obtain⟨z,G,xs,d,dd⟩:=dt_of h.hok f;have C:xs.length<=ay:=by rw[<-Paired.length d];exact z
 have n:(putK kvs k v).length<=ay:=by have:=length_putK kvs k v;omega
 unfold storeAll;rw[List.forIn_cons];refine aA (aA (wpAny_dictSet_heap (hsz:=C) (show(tupleKind (mixKind X.prog X.w)).room X.A from Nat.lt_of_succ_lt hu) (key_of h.hok r) dd λh' g D=>aF ?_))
 dsimp only;rw[List.forIn_nil];refine aF ?_;obtain⟨l,es,R,m,P,N,M,_,L⟩:=g;refine⟨.ref _,upd U _ (.dT (putK kvs k v)),d_write h (by rw[f];exact True.intro) D ⟨l,m⟩ ⟨n,G,_,(d.put k r rv).keeps λc ys p=>?_,l,es,R,m,P,N,M,L⟩,rfl,y⟩
 rw[upd_ne (ne_of p f (λz=>nomatch z))]
 exact p
variable{fa:Ev}
def Zew{D C:Ev}(O:L2.St)(H:Hp)(Q:VK)(h:tE X.K (ddE fa D C) O H Q):tDd X.K (tTup (tCons (tE X.K fa) (tCons (tE X.K D) tNil))) (tE X.K C) O H Q:=by
 obtain⟨ad,U,st,d,st',E,S,e,p⟩:=h;unfold ddE at e;split at e
 .rename_i i g P
  split at e
  .rename_i j f N
   split at e
   .rename_i z m M
    split at e
    .rename_i xs w
     split at e
     .rename_i R
      cases e;intro q y B;have k:=S.extD (kvs:=[]) y B;refine⟨ad++[q],U,st++[(ae,[])],.int i,g,E.mono k,S.pushD y B,P,λw1 o H1 l Z W=>⟨o,U,g,.int j,f,E.mono (k.trans l),Z,N,λw2 c I v Y V=>⟨show 2<=ay by decide,λt x=>?_⟩⟩⟩
      cases W.ofInt;cases V.ofInt;have u:Ext c I c (upd I t (.tup [.int i,.int j])):=Ext.laid x;refine⟨c,U,f,z,m,E.mono (k.trans (l.trans (v.trans u))),Y.laid x,M,λL b G s F T=>?_⟩
      have X:=l.trans (v.trans (u.trans s));have A:(ad++[q])[st.length]?=aa q:=by rw[<-S.len];exact Zt
      have a:=X.pre _ _ A;obtain⟨kvs,r,n,_⟩:=F.dict a ((X.kd _ _ A).mp ⟨_,upd_same⟩) w;have J:Ext b G b (upd G q (.dT (putK kvs [.inl i,.inl j] L))):=Ext.writeD n (aV a);exact⟨kvs,t,[.inl i,.inl j],n,by rw[Y5 r];exact aS R (by decide),rfl,s.tup t _ upd_same,p _ b _ (k.trans (X.trans J)) (F.writeD a w n (VX T r)) (.dic a ⟨_,upd_same⟩)⟩
     .exact Zb e
    .exact Zb e
   .exact Zb e
  .exact Zb e
 .exact Zb e
def Zck{K:Fg}(O:L2.St)(H:Hp)(Q:VK)(h:tE K (Zl fa ZcF) O H Q):tBM0 K "list" rPop (tE K fa) O H Q:=by
 obtain⟨ad,U,st,d,st',E,S,e,p⟩:=h;unfold Zl at e;split at e
 .rename_i x c q
  unfold ZcF at e;split at e
  .rename_i i
   split at e
   .rename_i ds j
    obtain⟨w,o,e⟩:=eI.mp e;cases e;refine⟨ad,U,st,.lst i,c,E,S,q,λv a m n k u=>?_⟩
    obtain⟨l,rfl,f⟩:=u.ofLst;obtain⟨xs,r,b⟩:=k.listM f j;obtain⟨y,s,t⟩:=r.get o;have g:Ext a m a (upd m l (.lst xs.dropLast)):=Ext.write b (aV f.1);refine⟨.inl ⟨rfl,xs,.inl (.inl b)⟩,l,xs,y,rfl,rfl,b,by rw[r.length];exact s,p _ a _ (n.trans g) (k.write f j b ?_) (t.mono g)⟩
    rw[fV,fV,r.length];exact r.take _
   .exact Zb e
  .exact Zb e
 .exact Zb e
def Zbb(K:Fg):V->Li V->Hp->VK->Prop:=λx vs H Q=>∃ p kvs b k,x=.ref p/\H p=aa (.dT kvs)/\SqT K H b (k.map kV)/\((vs=[.ref b]/\Q ((valV kvs k).getD .non) H)\/∃ a,vs=[.ref b,a]/\Q ((valV kvs k).getD a) H)
def W0{a:Ot V}{b:Ot vL}{x:V}{u:vL}(h:L2.RelO a b)(r:L2.RelV x u):L2.RelV (a.getD x) (b.getD u):=by
 cases a with
 |none=>cases b with
  |none=>exact r
  |some _=>exact h.elim
 |some _=>cases b with
  |none=>exact h.elim
  |some _=>exact h
def QF(hu:X.A.units+1 < cLine):MtM X "dict.get" (Zbb X.K):=by
 intro pQ s O H x vs v u Q I j rv h;obtain⟨p,kvs,b,k,rfl,o,r,h⟩:=h;cases j;obtain⟨t,e,xs,a,dd⟩:=dt_of I.hok o;obtain⟨n,l,i,_⟩:=I.tuple r;have d:=key_at (P:=X.prog) (w:=X.w) l i;rcases h with⟨rfl,q⟩|⟨y,rfl,q⟩
 .obtain⟨g,rfl,c⟩:=rv.one
  cases c;exact call_meetsIn PySem.F.slot_dict_get dd.typeIs PySem.F.entry_dict_get (PySem.F.args_dict_get_2 _ _) (meetsH_dict_get (tupleKind (mixKind X.prog X.w)) p b e) ⟨tupleKind_room_in1 hu,k,xs,d,dd,⟨_,H,I.tok _,W0 (x:=V.non) (a.val k) (show L2.RelV .non .none from rfl),q⟩⟩
 .obtain⟨g,f,rfl,c,m⟩:=rv.two
  cases c;exact call_meetsIn PySem.F.slot_dict_get dd.typeIs PySem.F.entry_dict_get (PySem.F.args_dict_get_3 _ _ _) (meetsH_dict_get_default (tupleKind (mixKind X.prog X.w)) p b e f) ⟨tupleKind_room_in1 hu,k,xs,d,dd,⟨_,H,I.tok _,W0 (a.val k) m,q⟩⟩
def Zdz{x y z:D}{st':Za}(h:gtD x y z st=aa (d,st')):∃ a i j b ds,x=.dic a/\y=.tup [.int i,.int j]/\st[a]?=aa (b,ds)/\d=(Z8 ds i j).getD z/\st'=st:=by
 unfold gtD at h;split at h
 .obtain⟨o,f,c⟩:=eI.mp h
  cases c;obtain⟨i,j,b,ds,rfl,e,rfl⟩:=UE f;exact⟨_,i,j,b,ds,rfl,rfl,e,rfl,rfl⟩
 .exact Zb h
def Zcd{C fd:Ev}(O:L2.St)(H:Hp)(Q:VK)(h:tE X.K (Yz fa C fd gtD) O H Q):tBM X.K "dict" (Zbb X.K) (tE X.K fa) (tCons (tE X.K C) (tCons (tE X.K fd) tNil)) O H Q:=by
 obtain⟨ad,U,st,d,st',E,S,e,p⟩:=h;unfold Yz at e;split at e
 .rename_i x g M
  split at e
  .rename_i y f L
   split at e
   .rename_i z G J
    obtain⟨a,i,j,bb,ds,rfl,rfl,I,rfl,rfl⟩:=Zdz e;refine⟨ad,U,st,_,g,E,S,M,λv1 t H1 m Z W=>?_⟩
    obtain⟨l,rfl,B,n⟩:=W.ofDic;refine⟨.inr (.inr (.inl ⟨rfl,.inr n⟩)),t,U,g,_,f,E.mono m,Z,L,λv2 s H2 A Y V=>⟨s,U,f,_,_,E.mono (m.trans A),Y,J,λF k D v u T=>?_⟩⟩
    have c:=A.trans v;obtain⟨kvs,r,N,_⟩:=u.dict (c.pre _ _ B) ((c.kd _ _ B).mp n) I;obtain⟨b,rfl,P⟩:=Xz (V.mono v);refine⟨l,kvs,b,_,rfl,N,P,.inr ⟨F,rfl,?_⟩⟩;rcases Xd r with⟨w,d0,q,o,R⟩|⟨q,o⟩
    .rw[q];rw[o]at p
     exact p _ k D (m.trans c) u R
    .rw[q];rw[o]at p
     exact p _ k D (m.trans c) u T
   .exact Zb e
  .exact Zb e
 .exact Zb e
def Zcc{v:Ev}(O:L2.St)(H:Hp)(Q:VK)(h:tE X.K (Yz fa v (evC .non) gtD) O H Q):tBM X.K "dict" (Zbb X.K) (tE X.K fa) (tCons (tE X.K v) tNil) O H Q:=by
 obtain⟨ad,U,st,d,st',E,S,e,p⟩:=h;unfold Yz at e;split at e
 .rename_i x c C
  split at e
  .rename_i y m B
   obtain⟨a,i,j,R,ds,rfl,rfl,A,rfl,rfl⟩:=Zdz (show gtD x y .non m=aa (d,st') from e);refine⟨ad,U,st,_,c,E,S,C,λN s T k L J=>?_⟩
   obtain⟨l,rfl,u,n⟩:=J.ofDic;refine⟨.inr (.inr (.inl ⟨rfl,.inr n⟩)),s,U,c,_,_,E.mono k,L,B,λM f z g t I=>?_⟩
   obtain⟨kvs,r,D,_⟩:=t.dict (g.pre _ _ u) ((g.kd _ _ u).mp n) A;obtain⟨b,rfl,F⟩:=Xz I;refine⟨l,kvs,b,_,rfl,D,F,.inl ⟨rfl,?_⟩⟩;rcases Xd r with⟨w,P,q,o,G⟩|⟨q,o⟩
   .rw[q];rw[o]at p
    exact p _ f z (k.trans g) t G
   .rw[q];rw[o]at p
    exact p _ f z (k.trans g) t .non
  .exact Zb e
 .exact Zb e
end Dp
namespace Dp
open PySem PySem.Spec PyProof.Rows L2 PySem.W
variable [ClsTab]
variable{prog:bf}{w:bq}{A:bu}{E:vL->Sd->Prop}{s:Sd}
omit [ClsTab] in
def Zc7{a:Ad}{vs f:Li vL}{n:Nat}{P:PySem.Fin->Sd->Prop}{κ:SortKind}{φ:Nat->Int}(v:s.heap.get? a=aa (seqObj "list" vs.toArray n))(hN:vs.length<=400)(U:∀ l,(∀ b o,b≠a->s.heap.get? b=aa o->l.get? b=aa o)->2<=vs.length->∀ (Q:SortKind->Sd->Prop),Q κ { s with heap:=l }->a8 (a9 prog w) A (keyKind' vs.toArray) Q (λ_ _=>False) { s with heap:=l })(Y:∀ l,(∀ b o,b≠a->s.heap.get? b=aa o->l.get? b=aa o)->∀ i j C,i < vs.length->j < vs.length->C (ak (φ i < φ j)) { s with heap:=l }->kas_ask prog w A κ vs i j C { s with heap:=l })(hd:(aj vs.length).Pairwise λi j=>φ i≠φ j)(F:vs.length < 2->f=vs)(t:∀ R,LS.Srt φ R->R.Perm (aj vs.length)->f=R.map λi=>vs.getD i bz)(h:P (.done (.ret .none)) { s with heap:=sortedHeap s.heap a vs f.toArray }) :
  a8 (a9 prog w) A (Builtin.«list.sort» ⟨[.ref a],[]⟩) P E s:=by
 have J:f.length=vs.length:=by
  by_cases q:vs.length < 2
  .rw[F q]
  .have D:=List.mergeSort_perm (aj vs.length) λi j=>ak (φ i<=φ j)
   have z:LS.Srt φ ((aj vs.length).mergeSort λi j=>ak (φ i<=φ j)):=by
    have K:=List.pairwise_mergeSort (le:=λi j=>ak (φ i<=φ j)) (λa b c F k=>by rw[aO]at *;omega) (λa b=>by rw[bL,aO,aO];omega) (aj vs.length)
    exact(K.and ((D.pairwise_iff λh=>Ne.symm h).mpr hd)).imp λh=>by have:=ao h.1;have:=h.2;omega
   rw[t _ z D,aD,D.length_eq,bN]
 rw[list_sort_plain];have T:a < s.heap.objs.size:=aL v;refine aA (listItems_at v rfl ?_);refine aA (listUpdate_at v rfl ?_ (by rw[aJ,sizeLine_eq];omega) (aU _))
 obtain⟨H,u⟩:∃ H,(s.heap.update a (Obj.mapSeq λ_=>#[])).get? a=aa (seqObj "list" #[] H):=⟨_,get?_update_seq v (λ_=>#[])⟩
 refine aA (seqEpoch_at u rfl ?_);refine aA (wpAny_newTuple ?_ (by show vs.length<=_;rw[sizeLine_eq];omega))
 refine aA (wpAny_newList ?_ (aU _));refine wpAny_holding ?_;have g:(((s.heap.update a (Obj.mapSeq λ_=>#[])).push (seqObj "tuple" vs.toArray 0)).push (seqObj "list" #[] 0)).get? a=aa (seqObj "list" #[] H):=aT _ (aT _ u)
 have I:∀ b o,b≠a->s.heap.get? b=aa o->(((s.heap.update a (Obj.mapSeq λ_=>#[])).push (seqObj "tuple" vs.toArray 0)).push (seqObj "list" #[] 0)).get? b=aa o:=λb o L q=>
  aT _ (aT _ (by rw[Heap.get?_update_ne _ _ _ _ L];exact q))
 show a8 (a9 prog w) A _ P E { s with heap:=((s.heap.update a (Obj.mapSeq λ_=>#[])).push (seqObj "tuple" vs.toArray 0)).push (seqObj "list" #[] 0) }
 dsimp only;by_cases k:vs.toArray.size < 2
 .rw[aq k,aq k]
  refine aA (aF ?_);rw[StateT.run_pure];refine aA (aF ?_);dsimp only;have G:(arrOf (SortSt.mk' general' (vs.toArray.zip vs.toArray) #[] 7 ab)).map (·.2)=f.toArray:=by
   rw[F (by simpa using k)]
   show(vs.toArray.zip vs.toArray).map (·.2)=_;apply Array.toList_inj.mp
   simp only[Array.toList_map,Array.toList_zip,List.toList_toArray];exact List.map_snd_zip (aB _)
  rw[G];refine aA (seqEpoch_at g rfl ?_);refine aA (listUpdate_at g rfl ?_ (aU _) (by rw[aJ,sizeLine_eq];omega))
  simp only[bne_self_eq_false,eR,if_false];exact aF h
 .rw[ar k,ar k]
  have B:2<=vs.length:=by rw[aJ]at k;omega
  refine aA (bS (U _ I B (λd y=>d=κ/\y=_) ⟨rfl,rfl⟩) (λd y O=>?_) λ_ _ x=>x.elim)
  obtain⟨rfl,rfl⟩:=O;have e0:SortSt.mk' d (vs.toArray.zip vs.toArray) #[] 7 ab=LS.St d (LS.im (kas_item (vs.toArray.zip vs.toArray)) (aj vs.length)) #[] 7:=by
   have e:=kas_range (vs.toArray.zip vs.toArray);rw[show(vs.toArray.zip vs.toArray).size=vs.length by simp]at e
   rw[List.map_toArray]at e;unfold LS.St LS.im;rw[e]
  rw[e0];have Oo:LS.Or prog w A { s with heap:=((s.heap.update a (Obj.mapSeq λ_=>#[])).push (seqObj "tuple" vs.toArray 0)).push (seqObj "list" #[] 0) } d (kas_item (vs.toArray.zip vs.toArray)) φ vs.length:=⟨λi j W V C Z=>by
   have q:=Y _ I i j C W V Z;rw[kat_ask_eq rfl]at q;exact q⟩
  refine aA (bS (LS.runs_ok (E:=E) Oo ⟨hd,λx N=>bQ.mp N⟩ (Q:=λ_ st'=>∃ R r m,LS.Srt φ R/\R.Perm (aj vs.length)/\st'=LS.St d (LS.im (kas_item (vs.toArray.zip vs.toArray)) R) r m) λR r m a1 a2=>⟨R,r,m,a1,a2,rfl⟩) ?_ λ_ _ e=>e)
  rintro⟨⟨⟩,st'⟩ y ⟨rfl,R,r,m,z,S,rfl⟩
  dsimp only;have G:(arrOf (LS.St d (LS.im (kas_item (vs.toArray.zip vs.toArray)) R) r m)).map (·.2)=f.toArray:=by
   rw[kat_snds (ks:=vs) (vs:=vs) rfl (p:=R.toArray) (by show LS.im _ R=_;unfold LS.im;rw[List.map_toArray]),t R z S]
  rw[G];have X:failedOf (LS.St d (LS.im (kas_item (vs.toArray.zip vs.toArray)) R) r m)=ab:=rfl;have M:f.toArray.size<=ay:=by
   rw[aJ,sizeLine_eq];omega
  refine aA (seqEpoch_at g rfl ?_);refine aA (listUpdate_at g rfl ?_ (aU _) (Nat.le_succ_of_le M));rw[X];simp only[bne_self_eq_false,eR,if_false];exact aF h
section
variable{d:Ad}{es:Array DictEntry}{ep:Nat}
omit [ClsTab] in
def Za0:Builtin.Dict_items.ownsTuple "dict_keyiterator"=af:=by decide
omit [ClsTab] in
theorem ZaN{b:Ad}{i:Nat}{Q:Ot vL->Sd->Prop}(a:s.heap.IsKeyIter b d i es.size ep)(l:Raw s.heap d es ep)(j:i < es.size)(p:∀ k,k.IsKeyIter b d (i+1) es.size ep->Heap.SameBut b s.heap k->Q (aa es[i].key) { s with heap:=k }):a8 (a9 prog w) A (pyNext (.ref b)) Q E s:=by
 obtain⟨o,h,n,g⟩:=id a;obtain⟨q,e,m,f⟩:=id l;unfold pyNext;refine aA (wpAny_attempt (wpAny_callSpecial?_slot (name:=Str.ofString "__next__") a.typeIs F.slot_dict_keyiterator_next (wpAny_call_entry F.slot_dict_keyiterator_next a.typeIs F.entry_dict_keyiterator_next ?_ (F.args_dict_keyiterator_next_1 _))));refine aA (aF (aA (aA ?_)))
 refine aA (wpAny_typeNameOfWhole_keyiter a.typeIs (aF (aA (wpAny_fieldsOf h g ?_))));simp only[Za0,eR,if_false];show a8 _ _ (if (bx d==bz)=ae then _ else _) _ _ s
 rw[ar (show ¬((bx d==bz)=ae) from Bf)];refine aA (aF (aA (wpAny_dictEntries e f ?_)));rw[ar (by simp)]
 refine aA (aF (aA (wpAny_dictEpoch e f ?_)));rw[ar (by simp)]
 refine aF ?_;simp only[show ¬((i:Int) < 0) from by omega,if_false,bJ,Array.getElem?_eq_getElem j]
 refine aA (aA (wpAny_typeNameOfWhole_keyiter a.typeIs (aF (aA (wpAny_isOneOf_keyiter a.typeIs ?_)))));show a8 _ _ (setField (.ref b) 1 (rawInt ((i:Int)+1)) >>= _) _ _ s;refine aA (wpAny_setField h g (by simp) ?_)
 have c:(s.heap.update b (Obj.mapFields (·.setIfInBounds 1 (rawInt ((i:Int)+1))))).IsKeyIter b d (i+1) es.size ep:=
  ⟨_,Heap.get?_update_self _ h (Obj.isFreed_of_fields (Obj.data_mapFields g _)),(Obj.cls_mapFields ..).trans n,by rw[Obj.data_mapFields g];simp[rawInt]⟩
 refine aA (wpAny_holding (aA (wpAny_isOneOf_keyiter (s:={ s with heap:=s.heap.update b (Obj.mapFields (·.setIfInBounds 1 (rawInt ((i:Int)+1)))) }) c.typeIs ?_)))
 show a8 _ _ (pure es[i].key) _ _ _;exact aF (aF ⟨_,rfl,aF (p _ c (Heap.SameBut.update ..))⟩)
omit [ClsTab] in
theorem Zb3{g:Ad}{Q:Ot vL->Sd->Prop}(l:A.handled=ab)(c:s.heap.IsKeyIter g d es.size es.size ep)(k:Raw s.heap d es ep)(p:∀ j,Heap.ExtBut g s.heap j->Q ab { s with heap:=j }):a8 (a9 prog w) A (pyNext (.ref g)) Q E s:=by
 obtain⟨o,h,r,i⟩:=id c;obtain⟨q,e,n,f⟩:=id k;unfold pyNext;refine aA (wpAny_attempt (wpAny_callSpecial?_slot (name:=Str.ofString "__next__") c.typeIs F.slot_dict_keyiterator_next (wpAny_call_entry F.slot_dict_keyiterator_next c.typeIs F.entry_dict_keyiterator_next ?_ (F.args_dict_keyiterator_next_1 _))));refine aA (aF (aA (aA ?_)))
 refine aA (wpAny_typeNameOfWhole_keyiter c.typeIs (aF (aA (wpAny_fieldsOf h i ?_))));simp only[Za0,eR,if_false];show a8 _ _ (if (bx d==bz)=ae then _ else _) _ _ s
 rw[ar (show ¬((bx d==bz)=ae) from Bf)];refine aA (aF (aA (wpAny_dictEntries e f ?_)));rw[ar (by simp)]
 refine aA (aF (aA (wpAny_dictEpoch e f ?_)));rw[ar (by simp)]
 refine aF ?_;simp only[show ¬((es.size:Int) < 0) from by omega,if_false,bJ,Array.getElem?_eq_none (aB es.size)]
 refine aA (aA (wpAny_typeNameOfWhole_keyiter c.typeIs (aF ?_)));show a8 _ _ (setField (.ref g) 0 .none >>= _) _ _ s;refine aA (wpAny_setField h i (by simp) ?_)
 show a8 _ _ (newExc (.type "StopIteration") [] >>= _) _ _ _;refine aA ?_;simp only[newExc,newTuple];refine aA (wpAny_newObj_type ?_ (by size_fits))
 refine aA (m:=firstArgMember _ _) (wpAny_of_eq (a:=bz) (by first|rfl | (simp only[firstArgMember];rfl)) (wpAny_newObj_type ?_ (by size_fits)))
 simp only[raiseNew];refine aA (wpAny_handled ?_);rw[show A.in1.handled=ab from l];refine aA (aF (wpAny_throw ?_));exact aA (wpAny_isInstance (T := "StopIteration") (b:=ae) ⟨_,bO _ rfl,rfl⟩ isSubtype_stop (aF (p _ (((Heap.SameBut.update ..).extBut.push _).push _))))
omit [ClsTab] in
def Raw.at{h a:bp}(x:Raw h d es ep)(e:∀ o,h.get? d=aa o->a.get? d=aa o):Raw a d es ep:=let ⟨o,ho,r⟩:=x;⟨o,e _ ho,r⟩
omit [ClsTab] in
def Raw.lt{h:bp}(x:Raw h d es ep):d < h.objs.size:=let ⟨_,ho,_⟩:=x;aL ho
omit [ClsTab] in
def Jt(p:A.handled=ab)(I:Ad)(j:d≠I):Walks prog w A I [I,d] [I] es.size (λi v=>∃ e,es[i]?=aa e/\v=e.key) (λi h=>h.IsKeyIter I d i es.size ep/\Raw h d es ep) where
 sub:=λb a=>by simp at a;simp[a]
 frame:=λ_ _ _ st m=>⟨st.1.at λo e=>m I (by simp) o e,st.2.at λo e=>m d (by simp) o e⟩
 item:=λi s Q E n st g=>ZaN st.1 st.2 n λl f c=>g _ l s.toks ⟨_,Array.getElem?_eq_getElem n,rfl⟩ ⟨f,st.2.at λo e=>c.extBut d o j e⟩ λb o a e=>c.extBut b o (λh=>a (by simp[h])) e
 done:=λs Q E st g=>Zb3 p st.1 st.2 λl k=>g l s.toks λb o a e=>k b o (λh=>a (by simp[h])) e
 self:=λ_ _ _ _ st g=>wpAny_pyIter_keyiter st.1 g
omit [ClsTab] in
theorem Jl{Q:vL->Sd->Prop}(hd:(d==bt)=af)(e:Raw s.heap d es ep)(f:Q (.ref s.heap.objs.size) { s with heap:=s.heap.push { cls:=.type "dict_keyiterator",data:=.fields #[.ref d,.int 0 0,.int es.size 0,.int ep 0] } }) :
  a8 (a9 prog w) A (pyIter (.ref d)) Q E s:=by
 obtain⟨o,c,g,a⟩:=id e;have b:s.TypeIs (.ref d) "dict":=e.typeIs;refine wpAny_pyIter_slot b F.slot_dict_iter (wpAny_call_entry F.slot_dict_iter b F.entry_dict_iter ?_ (F.args_dict_iter_1 _));unfold Builtin.«dict.__iter__»
 refine aA ?_;unfold Builtin.Dict.dictSlotNone;refine aA (wpAny_notOrdered_dict b ?_);show a8 _ _ (pure (bx d)) _ _ s;refine aF ?_;show a8 _ _ (Builtin.Dict.showsAll d >>= _) _ _ s;unfold Builtin.Dict.showsAll;rw[ar (by rw[hd];exact Bf)]
 refine aA (aF ?_);refine aA (wpAny_dictEntries c a ?_);refine aA (wpAny_dictEpoch c a ?_);refine aA (wpAny_newObj_type (aF ⟨_,rfl, "dict_keyiterator",_,⟨_,bO _ rfl,rfl⟩,F.slot_dict_keyiterator_next.lookup,?_⟩));simpa[rawInt] using f
omit [ClsTab] in
def Zbr(hd:(d==bt)=af):KdlSrc prog w "dict" d d es.size (λi v=>∃ e,es[i]?=aa e/\v=e.key) (λh=>Raw h d es ep) where
 type:=λ_ a=>a.typeIs
 there:=λ_ a=>⟨a.lt,a.lt⟩
 keep:=λ_ _ a c=>a.at λo e=>c d (.inl rfl) o e
 notList:=by decide
 notTuple:=by decide
 hint:=λ_ _ _ _ a b=>kdl_hint_dict a.typeIs b
 iter:=λ_ _ f a=>⟨_,_,(λ_ _ b=>Jl hd a b),Jt f _ (bC a.lt),⟨⟨_,bO _ rfl,rfl,rfl⟩,a.at λo e=>aT _ e⟩⟩
omit [ClsTab] in
def U5{vs out:Li vL}{κ:SortKind}{φ:Nat->Int}{Q:vL->Sd->Prop}(I:A.handled=ab)(hd:(d==bt)=af)(G:Raw s.heap d es ep)(D:es.toList.map (·.key)=vs)(hN:vs.length<=400)(H:∀ a f,(∀ b o,s.heap.get? b=aa o->a.get? b=aa o)->2<=vs.length->∀ (Q:SortKind->Sd->Prop),Q κ { s with heap:=a,toks:=f }->a8 (a9 prog w) A.in1.in1 (keyKind' vs.toArray) Q (λ_ _=>False) { s with heap:=a,toks:=f })(K:∀ a f,(∀ b o,s.heap.get? b=aa o->a.get? b=aa o)->∀ i j C,i < vs.length->j < vs.length->C (ak (φ i < φ j)) { s with heap:=a,toks:=f }->kas_ask prog w A.in1.in1 κ vs i j C { s with heap:=a,toks:=f })(y:(aj vs.length).Pairwise λi j=>φ i≠φ j)(u:vs.length < 2->out=vs)(t:∀ R,LS.Srt φ R->R.Perm (aj vs.length)->out=R.map λi=>vs.getD i bz)(h:∀ (q a:bp) (f c:Nat),(∀ b o,s.heap.get? b=aa o->q.get? b=aa o)->(∀ b o,q.get? b=aa o->a.get? b=aa o)->a.get? q.objs.size=aa (seqObj "list" out.toArray c)->Q (.ref q.objs.size) { s with heap:=a,toks:=f }) :
  a8 (a9 prog w) A (call (.builtin "sorted") [.ref d]) Q E s:=by
 refine Calls.call_function_entry kind_sorted plain_sorted entry_sorted (args_sorted1 _) ?_;unfold Builtin.«sorted»
 refine aA (m:=checkCount "sorted" 1 1 _) (aF ?_);have r:es.size=vs.length:=by rw[<-D,aD,eE]
 refine aA (kdu_collect (A:=A.in1) (Zbr (es:=es) (ep:=ep) hd) I G (by rw[r,sizeLine_eq];omega) λa f p n l=>?_)
 have N:p.toList=vs:=by
  rw[<-D];apply List.ext_getElem?
  intro i;rw[eG,aX,eG];cases e:p[i]? with
  |none=>
   have:p.size<=i:=Array.getElem?_eq_none_iff.mp e;rw[l.1]at this;rw[Array.getElem?_eq_none this];rfl
  |some v=>
   obtain⟨P,O,rfl⟩:=l.2 i v e;rw[O];rfl
 rw[N];refine aA (wpAny_newList ?_ (by rw[sizeLine_eq];omega))
 have x:(a.push { cls:=.type "list",data:=.seq vs.toArray }).get? a.objs.size=aa (seqObj "list" vs.toArray 0):=bO _ rfl;have B:∀ (g:bp),(∀ b o,b≠a.objs.size->(a.push { cls:=.type "list",data:=.seq vs.toArray }).get? b=aa o->g.get? b=aa o)->∀ b o,s.heap.get? b=aa o->g.get? b=aa o:=λg k b o e=>
  k b o (bC (aL (n b o e))) (aT _ (n b o e))
 refine aA (wpAny_holding (wpAny_call_entry slot_list_sort ⟨_,x,rfl⟩ entry_list_sort ?_ (args_list_sort _)));refine Zc7 (s:={ s with heap:=a.push { cls:=.type "list",data:=.seq vs.toArray },toks:=f }) (κ:=κ) (φ:=φ) x hN (λg k F Q L=>H g f (B g k) F Q L) (λg k i j C q z M=>K g f (B g k) i j C q z M) y u t ?_
 refine⟨_,rfl,aF ⟨_,rfl,?_⟩⟩;obtain⟨c,J⟩:=sortedHeap_at (out:=out.toArray) x;refine h a _ f c n (λb o e=>?_) J
 rw[sortedHeap_old (bC (aL e)) (by rw[size_push'];exact Nat.lt_succ_of_lt (aL e))]
 exact aT _ e
end
def Xm(h:bp)(p:Int×Int)(v:vL):Prop:=∃ a o n t u,v=.ref a/\h.get? a=aa o/\o.cls=.type "tuple"/\o.data=.seq #[.int p.1 t,.int p.2 u] n
omit [ClsTab] in
def ZcE{h:bp}{i j:Int}{a:Ad}(x:(tupleKind (mixKind prog w)).is h [.inl i,.inl j] a):Xm h (i,j) (.ref a):=by
 obtain⟨o,c,n,p,m,g,f⟩:=(show IsTupleKey (mixKind prog w) h [.inl i,.inl j] a from x);have b:∀ {k:Int}{v:vL},(mixKind prog w).is (.inl k) v=ae->∃ t,v=.int k t:=λ{k v} z=>by
  rcases keyIs_shape (show keyIs (.inl k) v=ae from z) with⟨i,t,e,rfl⟩|⟨x,t,e,_⟩
  .cases e;exact⟨t,rfl⟩
  .exact nomatch e
 obtain⟨l,d⟩:∃ l,c.toList=l:=⟨_,rfl⟩;rw[d]at f;cases f with
 |cons s r=>cases r with
  |cons q r=>
   cases r;obtain⟨t,rfl⟩:=b s;obtain⟨u,rfl⟩:=b q;refine⟨a,o,n,t,u,rfl,p,m,?_⟩;rw[g,<-d]
omit [ClsTab] in
def JE{p q:Int×Int}{v u:vL}{C:Bool->Sd->Prop}(f:Xm s.heap p v)(d:Xm s.heap q u)(B:0<=p.2/\p.2 < 1000)(z:0<=q.2/\q.2 < 1000)(h:C (ak (Vp p < Vp q)) s):a8 (a9 prog w) A (keyLt' (tuples' ae) v u) C E s:=by
 obtain⟨a,o,n,t,k,rfl,i,y,g⟩:=f;obtain⟨b,x,m,r,l,rfl,g1,g2,j⟩:=d;refine kat_lt i g g1 j ?_;unfold Vp at h;refine kat_cons (wpAny_eqBool_int ?_);by_cases e:p.1=q.1
 .rw[show(p.1==q.1)=ae from beq_iff_eq.mpr e]
  refine kat_yes (kat_cons (wpAny_eqBool_int ?_));by_cases c:p.2=q.2
  .rw[show(p.2==q.2)=ae from beq_iff_eq.mpr c]
   refine kat_yes (kat_nil ?_);rw[aG (by omega)]at h
   exact h
  .rw[show(p.2==q.2)=af from dG.mpr c]
   rw[show ak (p.1 * 1000+p.2 < q.1 * 1000+q.2)=ak (p.2 < q.2) from decide_eq_decide.mpr (by omega)]at h
   exact kat_no (kat_one _ _ (wpAny_lt_int h))
 .rw[show(p.1==q.1)=af from dG.mpr e]
  rw[show ak (p.1 * 1000+p.2 < q.1 * 1000+q.2)=ak (p.1 < q.1) from decide_eq_decide.mpr (by omega)]at h
  exact kat_no (oneLt_int h)
omit [ClsTab] in
def UL{vs:Li vL}{Q:SortKind->Sd->Prop}(b:∀ v∈vs,∃ p,Xm s.heap p v)(f:2<=vs.length)(h:Q (tuples' ae) s):a8 (a9 prog w) A (keyKind' vs.toArray) Q E s:=by
 have all:∀ {l:Li vL},(∀ v∈l,∃ p,Xm s.heap p v)->∃ fs,KatTups s.heap l fs/\fs.length=l.length/\∀ v∈fs,∃ i t,v=Value.int i t:=by
  intro l
  induction l with
  |nil=>intro _;exact⟨[],.nil,rfl,λ_ z=>nomatch z⟩
  |cons v l j=>
   intro e;obtain⟨fs,d,g,c⟩:=j λv b=>e v (Lm _ b)
   obtain⟨p,a,o,n,t,u,rfl,m,f,k⟩:=e v Ls;refine⟨.int p.1 t :: fs,.cons m f k rfl d,by rw[aY,aY,g],λx hx=>?_⟩
   rcases aK.mp hx with rfl|hx
   .exact⟨_,_,rfl⟩
   .exact c x hx
 obtain⟨fs,d,g,c⟩:=all b;refine kat_kind (T:=.type "int") d (by omega) (λv b=>?_) (by decide) h
 obtain⟨i,t,rfl⟩:=c v b;exact Looks.now
section
variable{K:Fg}{ad:Li Ad}{H:Hp}
def Zcu{kvs:Li (Li Key×V)}{ds:Li D}{ys:Li (Li Key×Ad×vL)}(e:Ents K ad H kvs ds)(r:KTp H kvs ys):Dens K ad H (ys.map λy=>V.ref y.2.1) ((Zu ds).map prD)/\∀ (i:Nat) (y:Li Key×Ad×vL),ys[i]?=aa y->y.1=[.inl ((Zu ds).getD i (0,0)).1,.inl ((Zu ds).getD i (0,0)).2]:=by
 induction e generalizing ys with
 |nil=>cases r;exact⟨.nil,λi y h=>nomatch h⟩
 |cons _ _ c=>cases r with
  |cons h r=>
   obtain⟨a,b⟩:=c r;refine⟨.cons (.tup (.inl h.2.1) (.cons (.int _) (.cons (.int _) .nil))) a,λi y e=>?_⟩
   cases i with
   |zero=>cases e;exact h.1.symm
   |succ i=>exact b i y e
theorem WU{vs:Li V}{ds:Li D}(r:Dens K ad H vs ds):∀ (l:Li Nat),(∀ i∈l,i < ds.length)->Dens K ad H (l.map λi=>vs.getD i .non) (l.map λi=>ds.getD i .non)
 |[],_=>.nil
 |i :: l,h=>by
  refine .cons ?_ (WU r l λj d=>h j (Lm _ d))
  have a:=h i Ls;obtain⟨v,f,e⟩:=r.get (Lg a);have c:vs.getD i .non=v:=by rw[aQ,f];rfl
  have b:ds.getD i .non=ds[i]:=by rw[aQ,Lg a];rfl
  show Den K ad H (vs.getD i .non) (ds.getD i .non);rw[c,b];exact e
omit [ClsTab] in
theorem W3{vs:Li V}{a:Li vL}(r:Vals vs a):∀ (l:Li Nat),(∀ i∈l,i < vs.length)->Vals (l.map λi=>vs.getD i .non) (l.map λi=>a.getD i .none)
 |[],_=>.nil
 |i :: l,h=>by
  refine .cons ?_ (W3 r l λj e=>h j (Lm _ e))
  have b:=h i Ls;obtain⟨u,g,f⟩:=r.get (Lg b);have d:a.getD i .none=u:=by rw[aQ,g];rfl
  have c:vs.getD i .non=vs[i]:=by rw[aQ,Lg b];rfl
  show L2.RelV (vs.getD i .non) (a.getD i .none);rw[d,c];exact f
omit [ClsTab] in
def Yk(a:Li (Int×Int)):(ZaZ a).Perm (aj a.length):=List.mergeSort_perm _ _
omit [ClsTab] in
def Zee(a:Li (Int×Int)):a.map Vp=(aj a.length).map (atP a):=by
 apply List.ext_getElem?
 intro i;rw[aX,aX];by_cases h:i < a.length
 .rw[Lg h,List.getElem?_range h]
  show aa (Vp a[i])=aa (Vp (a.getD i (0,0)));rw[aQ,Lg h];rfl
 .rw[cQ (by omega),cQ (by rw[bN];omega)];rfl
omit [ClsTab] in
def ZdP{a:Li (Int×Int)}(h:okP a=ae):(aj a.length).Pairwise λi j=>atP a i≠atP a j:=by
 unfold okP at h;rw[Ba,aO,Zee]at h;exact fH.mp h.2
omit [ClsTab] in
def ZdO{a:Li (Int×Int)}(h:okP a=ae){i:Nat}(b:i < a.length):0<=(a.getD i (0,0)).2/\(a.getD i (0,0)).2 < 1000:=by
 unfold okP at h;rw[Ba]at h;have:=ao (cZ.mp h.1 a[i] (bH b));rw[aQ,Lg b];exact this.2.2
omit [ClsTab] in
def QI{d:Li (Int×Int)}(h:okP d=ae):LS.Srt (atP d) (ZaZ d):=by
 have e:=List.pairwise_mergeSort (le:=λi j=>ak (atP d i<=atP d j)) (λa b c g f=>by rw[aO]at *;omega) (λa b=>by rw[bL,aO,aO];omega) (aj d.length)
 exact(e.and (((Yk d).pairwise_iff λh=>Ne.symm h).mpr (ZdP h))).imp λh=>by have:=ao h.1;have:=h.2;omega
omit [ClsTab] in
def ZeT{c:Li (Int×Int)}(h:okP c=ae){R:Li Nat}(d:LS.Srt (atP c) R)(e:R.Perm (aj c.length)):ZaZ c=R:=
 List.Perm.eq_of_pairwise (le:=λi j=>atP c i < atP c j) (λa b _ _ f g=>au f (by omega)) (QI h) d ((Yk c).trans e.symm)
omit [ClsTab] in
def XJ{a:Li (Int×Int)}:∀ i∈ZaZ a,i < a.length:=λi b=>bQ.mp ((Yk a).mem_iff.mp b)
omit [ClsTab] in
def Za5{α:Type}{a:Li (Int×Int)}{z:α}{b:Li α}:(ZR a z b).length=a.length:=by
 unfold ZR;rw[aD,(Yk a).length_eq,bN]
omit [ClsTab] in
def UU{α:Type}{z:α}:∀ {ps:Li (Int×Int)}{xs:Li α},xs.length=ps.length->ps.length < 2->ZR ps z xs=xs
 |[],[],_,_=>by
  have:=Yk [];unfold ZR;rw[List.Perm.eq_nil this];rfl
 |[p],[x],_,_=>by
  have:=Yk [p];unfold ZR;rw[List.perm_singleton.mp this];rfl
end
omit [ClsTab] in
theorem Ui:∀ {ys:Li (Li Key×Ad×vL)},Vals (ys.map λy=>V.ref y.2.1) (ys.map λy=>bx y.2.1)
 |[]=>.nil
 |_ :: _=>.cons rfl Ui
def UA{X:Cx}(hc:X.calm=ae):CallR X (.builtin "sorted") (rC X.K (on1 Qu)):=by
 intro pQ s O H xs us Q I r h;obtain⟨ad,st,ds,d,st',S,hd,e,p⟩:=h;obtain⟨x,rfl,B⟩:=YF e;obtain⟨v,rfl,N⟩:=VT hd;unfold Qu at B;split at B
 .rename_i a
  split at B
  .rename_i b f q0
   split at B
   .rename_i L
    cases B;obtain⟨l,rfl,hl,n⟩:=N.ofDic;obtain⟨kvs,Y,hx,_⟩:=S.dict hl n q0;obtain⟨u1,rfl,r1⟩:=r.one;cases r1;obtain⟨_,G,ys,M,o,es,ep,h1,W,h3,h4,U,_⟩:=dt_of I.hok hx;obtain⟨Z,kk⟩:=Zcu Y M;have J:ys.length=(Zu f).length:=by have:=Z.length;rwa [aD,aD]at this
    have hl0:(Zu f).length=f.length:=by unfold Zu;rw[aD]
    have P:∀ (m:bp),(∀ b o,s.heap.get? b=aa o->m.get? b=aa o)->∀ (i:Nat),i < ys.length->Xm m ((Zu f).getD i (0,0)) ((ys.map λy=>bx y.2.1).getD i .none):=λm k i A=>by
     have z:(ys.map λy=>bx y.2.1).getD i .none=.ref ys[i].2.1:=by rw[aQ,aX,Lg A];rfl
     have w:=U ys[i] (bH A);rw[kk i _ (Lg A)]at w;obtain⟨a,o,n,t,u,B,e2,e3,e4⟩:=ZcE w;rw[z];exact⟨a,o,n,t,u,B,k _ _ e2,e3,e4⟩
    have hm:∀ (m:bp),(∀ b o,s.heap.get? b=aa o->m.get? b=aa o)->∀ v∈(ys.map λy=>bx y.2.1),∃ p,Xm m p v:=λm k v N=>by
     obtain⟨i,A,rfl⟩:=List.mem_iff_getElem.mp N;have T:i < ys.length:=by rwa [aD]at A
     have zz:(ys.map λy=>bx y.2.1).getD i .none=(ys.map λy=>bx y.2.1)[i]:=by rw[aQ,Lg A];rfl
     rw[<-zz];exact⟨_,P m k i T⟩
    have F:(ys.map λy=>bx y.2.1).length=(Zu f).length:=by rw[aD,J]
    refine U5 (vs:=ys.map λy=>bx y.2.1) (out:=ZR (Zu f) bz (ys.map λy=>bx y.2.1)) (κ:=tuples' ae) (φ:=atP (Zu f)) (I.ok.hd hc) G ⟨o,h1,W,h3⟩ (by rw[h4,bM];rfl) (by rw[aD];omega)
     (λm E k W Q hQ=>UL (s:={ s with heap:=m,toks:=E }) (hm m k) W hQ)
     (λm E k i j C A hj hC=>JE (s:={ s with heap:=m,toks:=E }) (P m k i (by rwa [aD]at A)) (P m k j (by rwa [aD]at hj)) (ZdO L.2 (by omega)) (ZdO L.2 (by omega)) hC)
     (by rw[F];exact ZdP L.2) (λq=>UU F (by omega)) (λR hs hR=>by rw[F]at hR;unfold ZR;rw[ZeT L.2 hs hR])
     λg g' E c k k' hg=>?_
    have I2:L2.Inv X pQ O H { s with heap:=g,toks:=E }:=I.kept (t':=E) k
    have hf:=I2.hok.fresh (aB _);have hV:Vals (ZR (Zu f) V.non (ys.map λy=>V.ref y.2.1)) (ZR (Zu f) bz (ys.map λy=>bx y.2.1)):=
     W3 Ui _ (λi A=>by have:=XJ i A;rw[aD];omega)
    have hD:Dens X.K ad H (ZR (Zu f) V.non (ys.map λy=>V.ref y.2.1)) (ZR (Zu f) D.non ((Zu f).map prD)):=
     WU Z _ (λi A=>by have:=XJ i A;rw[aD];omega)
    refine⟨.ref g.objs.size,upd H g.objs.size (.lst (ZR (Zu f) V.non (ys.map λy=>V.ref y.2.1))),I2.laid (t':=E) k' (aB _) (show ObjOk X.prog X.w _ _ _ (.lst _) from⟨?_,_,c,hV,hg⟩),rfl,p _ (ad++[_]) _ (Ext.push hf) (S.push hf hD) (.newL ?_)⟩
    .rw[Za5,sizeLine_eq];omega
    .rw[<-S.len];exact Zt
   .exact Zb B
  .exact Zb B
 .exact Zb B
end Dp
namespace Dp
open PySem PySem.Spec PyProof.Rows L2
variable [ClsTab]
variable{A:bu}
section
open PySem.SeqAt PySem.MeetsSeq PySem.MeetsSeq2 PySem.MeetsSeq3 PySem.SeqRoads2
open AutoSeq1 (wpAny_loadPart')
def LtAt(A:bu)(s:Sd)(y x:vL)(b:Bool):Prop:=
 ∀ (prog:bf) (w:bq) (E:vL->Sd->Prop) (Q:vL->Sd->Prop),Q (.bool b) s->a8 (a9 prog w) A (richCompare .Lt y x) Q E s
noncomputable def ltR(e lt:Nat->Bool)(f:Bool):Li Nat->Bool
 |[]=>f
 |j :: r=>if e j=ae then ltR e lt f r else lt j
def Qb(l b:Ad)(items items2:Array vL)(n n2:Nat)(dd dd2:Ot Ad)(sl sl2:Array (Ot vL))(e lt:Nat->Bool) :
  Meets (Builtin.«tuple.__lt__» ⟨[.ref l,.ref b],[]⟩)
   (λA R s=>s.heap.get? l=aa { cls:=.type "tuple",dict:=dd,data:=.seq items n,slots:=sl }/\s.heap.get? b=aa { cls:=.type "tuple",dict:=dd2,data:=.seq items2 n2,slots:=sl2 } /\
    (∀ j (h1:j < items.size) (h2:j < items2.size),EqAt A.in1 s items[j] items2[j] (e j))/\(∀ j (h1:j < items.size) (h2:j < items2.size),(∀ i,i < j->e i=ae)->e j=af->LtAt A.in1 s items[j] items2[j] (lt j)) /\
    R (.ok (.ret (.bool (ltR e lt (ak (items.size < items2.size)) (aj (min items.size items2.size)))))) s):=
 .of_wp λprog w A R s h=>by
  obtain⟨hp,g,d,tk,os⟩:=s;obtain⟨hl,hb,he,hq,h⟩:=h;have f2:=AutoSeq1.sub_tuple_tuple;have hZ:(items.toList.zip items2.toList).length=min items.size items2.size:=by simp
  wp_walk using wpAny_loadPart' hl,wpAny_loadPart' hb,wpAny_forIn_list _ (λrest b s'=>b.1=ab/\s'=⟨hp,g,d,tk,os⟩/\∃ i,rest=(items.toList.zip items2.toList).drop i/\(∀ k,k < i->e k=ae) /\
   R (.ok (.ret (.bool (ltR e lt (ak (items.size < items2.size)) ((aj (min items.size items2.size)).drop i))))) ⟨hp,g,d,tk,os⟩) _
  case turn=>
   rintro⟨y,x⟩ rest b s' ⟨hb',rfl,i,hz,hk,hR⟩
   have hlt:i < (items.toList.zip items2.toList).length:=by
    rcases dN i (items.toList.zip items2.toList).length with h'|h'
    .exact h'
    .rw[eP h']at hz;cases hz
   have hm:i < min items.size items2.size:=hZ ▸ hlt;have h1:i < items.size:=aS hm (Nat.min_le_left _ _);have h2:i < items2.size:=aS hm (Nat.min_le_right _ _);rw[bV hlt]at hz
   injection hz with hyx hrest
   have hy:y=items[i]:=by have:=av Prod.fst hyx;simpa using this
   have hx:x=items2[i]:=by have:=av Prod.snd hyx;simpa using this
   subst hy hx;have hd:(aj (min items.size items2.size)).drop i=i :: (aj (min items.size items2.size)).drop (i+1):=by simp[bV,hm]
   rw[hd]at hR;have hR:R (.ok (.ret (.bool (if e i=ae then ltR e lt (ak (items.size < items2.size)) ((aj (min items.size items2.size)).drop (i+1)) else lt i)))) ⟨hp,g,d,tk,os⟩:=hR
   refine aA (he i h1 h2 prog w _ _ ?_);cases hy:e i with
   |true=>
    rw[hy]at hR
    wp_walk
    refine⟨rfl,rfl,i+1,hrest,λk hk'=>?_,by simpa using hR⟩
    rcases dN k i with h|h
    .exact hk k h
    .rw[show k=i by omega];exact hy
   |false=>
    rw[hy]at hR;have hz:∀ (E:vL->Sd->Prop) (Q:vL->Sd->Prop),Q (.bool (lt i)) ⟨hp,g,d,tk,os⟩->a8 (a9 prog w) A.in1 (richCompare .Lt items[i] items2[i]) Q E ⟨hp,g,d,tk,os⟩:=λE Q=>hq i h1 h2 hk hy prog w E Q
    generalize richCompare .Lt items[i] items2[i]=rc at hz ⊢
    wp_walk using hz _ _
    exact⟨_,rfl,by simpa using hR⟩
  case fin=>
   rintro⟨b1,b2⟩ s' ⟨hb',rfl,i,hz,_,hR⟩
   simp only at hb';subst hb';have hge:min items.size items2.size<=i:=by
    rcases dN i (items.toList.zip items2.toList).length with h'|h'
    .rw[bV h']at hz;cases hz
    .exact hZ ▸ h'
   rw[eP (by simpa using hge)]at hR
   wp_walk
   exact⟨_,rfl,by simpa[Builtin.Tuple.tupleCompareSizes,ltR] using hR⟩
  case h=>
   exact⟨rfl,rfl,0,rfl,λk hk=>au hk (by omega),by simpa using h⟩
theorem LtAt.tuples{s:Sd}{l b:Ad}{c a:Array vL}{e lt:Nat->Bool}(B:s.heap.IsTuple l c)(D:s.heap.IsTuple b a)(hu:A.units < cLine)(C:∀ j (H:j < c.size) (G:j < a.size),EqAt A.in1 s c[j] a[j] (e j))(z:∀ j (H:j < c.size) (G:j < a.size),(∀ i,i < j->e i=ae)->e j=af->LtAt A.in1 s c[j] a[j] (lt j)):LtAt A s (.ref l) (.ref b) (ltR e lt (ak (c.size < a.size)) (aj (min c.size a.size))):=λp w E Q h=>by
 obtain⟨⟨cls,dd,u,sl⟩,q,t,n,r⟩:=id B;obtain⟨⟨v,m,o,k⟩,d,g,y,f⟩:=id D;simp only at t r g f;subst t r g f;exact richCompare_meets_room (op:=.Lt) ⟨_,q,rfl⟩ ⟨_,d,rfl⟩ F.slot_tuple_lt F.entry_tuple_lt (F.args_tuple_lt_2 _ _) (Qb l b c a n y dd m sl k e lt)
  ⟨q,d,C,z,show Value.bool (ltR e lt (ak (c.size < a.size)) (aj (min c.size a.size)))≠Value.notImplemented/\Q (.bool (ltR e lt (ak (c.size < a.size)) (aj (min c.size a.size)))) s from⟨(λx=>nomatch x),h⟩⟩ hu
def GeAt(A:bu)(s:Sd)(y x:vL)(b:Bool):Prop:=
 ∀ (prog:bf) (w:bq) (E:vL->Sd->Prop) (Q:vL->Sd->Prop),Q (.bool b) s->a8 (a9 prog w) A (richCompare .GtE y x) Q E s
def Qa(l b:Ad)(items items2:Array vL)(n n2:Nat)(dd dd2:Ot Ad)(sl sl2:Array (Ot vL))(e lt:Nat->Bool) :
  Meets (Builtin.«tuple.__ge__» ⟨[.ref l,.ref b],[]⟩)
   (λA R s=>s.heap.get? l=aa { cls:=.type "tuple",dict:=dd,data:=.seq items n,slots:=sl }/\s.heap.get? b=aa { cls:=.type "tuple",dict:=dd2,data:=.seq items2 n2,slots:=sl2 } /\
    (∀ j (h1:j < items.size) (h2:j < items2.size),EqAt A.in1 s items[j] items2[j] (e j))/\(∀ j (h1:j < items.size) (h2:j < items2.size),(∀ i,i < j->e i=ae)->e j=af->GeAt A.in1 s items[j] items2[j] (lt j)) /\
    R (.ok (.ret (.bool (ltR e lt (ak (items2.size<=items.size)) (aj (min items.size items2.size)))))) s):=
 .of_wp λprog w A R s h=>by
  obtain⟨hp,g,d,tk,os⟩:=s;obtain⟨hl,hb,he,hq,h⟩:=h;have f2:=AutoSeq1.sub_tuple_tuple;have hZ:(items.toList.zip items2.toList).length=min items.size items2.size:=by simp
  wp_walk using wpAny_loadPart' hl,wpAny_loadPart' hb,wpAny_forIn_list _ (λrest b s'=>b.1=ab/\s'=⟨hp,g,d,tk,os⟩/\∃ i,rest=(items.toList.zip items2.toList).drop i/\(∀ k,k < i->e k=ae) /\
   R (.ok (.ret (.bool (ltR e lt (ak (items2.size<=items.size)) ((aj (min items.size items2.size)).drop i))))) ⟨hp,g,d,tk,os⟩) _
  case turn=>
   rintro⟨y,x⟩ rest b s' ⟨hb',rfl,i,hz,hk,hR⟩
   have hlt:i < (items.toList.zip items2.toList).length:=by
    rcases dN i (items.toList.zip items2.toList).length with h'|h'
    .exact h'
    .rw[eP h']at hz;cases hz
   have hm:i < min items.size items2.size:=hZ ▸ hlt;have h1:i < items.size:=aS hm (Nat.min_le_left _ _);have h2:i < items2.size:=aS hm (Nat.min_le_right _ _);rw[bV hlt]at hz
   injection hz with hyx hrest
   have hy:y=items[i]:=by have:=av Prod.fst hyx;simpa using this
   have hx:x=items2[i]:=by have:=av Prod.snd hyx;simpa using this
   subst hy hx;have hd:(aj (min items.size items2.size)).drop i=i :: (aj (min items.size items2.size)).drop (i+1):=by simp[bV,hm]
   rw[hd]at hR;have hR:R (.ok (.ret (.bool (if e i=ae then ltR e lt (ak (items2.size<=items.size)) ((aj (min items.size items2.size)).drop (i+1)) else lt i)))) ⟨hp,g,d,tk,os⟩:=hR
   refine aA (he i h1 h2 prog w _ _ ?_);cases hy:e i with
   |true=>
    rw[hy]at hR
    wp_walk
    refine⟨rfl,rfl,i+1,hrest,λk hk'=>?_,by simpa using hR⟩
    rcases dN k i with h|h
    .exact hk k h
    .rw[show k=i by omega];exact hy
   |false=>
    rw[hy]at hR;have hz:∀ (E:vL->Sd->Prop) (Q:vL->Sd->Prop),Q (.bool (lt i)) ⟨hp,g,d,tk,os⟩->a8 (a9 prog w) A.in1 (richCompare .GtE items[i] items2[i]) Q E ⟨hp,g,d,tk,os⟩:=λE Q=>hq i h1 h2 hk hy prog w E Q
    generalize richCompare .GtE items[i] items2[i]=rc at hz ⊢
    wp_walk using hz _ _
    exact⟨_,rfl,by simpa using hR⟩
  case fin=>
   rintro⟨b1,b2⟩ s' ⟨hb',rfl,i,hz,_,hR⟩
   simp only at hb';subst hb';have hge:min items.size items2.size<=i:=by
    rcases dN i (items.toList.zip items2.toList).length with h'|h'
    .rw[bV h']at hz;cases hz
    .exact hZ ▸ h'
   rw[eP (by simpa using hge)]at hR
   wp_walk
   exact⟨_,rfl,by simpa[Builtin.Tuple.tupleCompareSizes,ltR] using hR⟩
  case h=>
   exact⟨rfl,rfl,0,rfl,λk hk=>au hk (by omega),by simpa using h⟩
theorem GeAt.tuples{s:Sd}{l b:Ad}{c a:Array vL}{e lt:Nat->Bool}(B:s.heap.IsTuple l c)(D:s.heap.IsTuple b a)(hu:A.units < cLine)(C:∀ j (H:j < c.size) (G:j < a.size),EqAt A.in1 s c[j] a[j] (e j))(z:∀ j (H:j < c.size) (G:j < a.size),(∀ i,i < j->e i=ae)->e j=af->GeAt A.in1 s c[j] a[j] (lt j)):GeAt A s (.ref l) (.ref b) (ltR e lt (ak (a.size<=c.size)) (aj (min c.size a.size))):=λp w E Q h=>by
 obtain⟨⟨cls,dd,u,sl⟩,q,t,n,r⟩:=id B;obtain⟨⟨v,m,o,k⟩,d,g,y,f⟩:=id D;simp only at t r g f;subst t r g f;exact richCompare_meets_room (op:=.GtE) ⟨_,q,rfl⟩ ⟨_,d,rfl⟩ F.slot_tuple_ge F.entry_tuple_ge (F.args_tuple_ge_2 _ _) (Qa l b c a n y dd m sl k e lt)
  ⟨q,d,C,z,show Value.bool (ltR e lt (ak (a.size<=c.size)) (aj (min c.size a.size)))≠Value.notImplemented/\Q (.bool (ltR e lt (ak (a.size<=c.size)) (aj (min c.size a.size)))) s from⟨(λx=>nomatch x),h⟩⟩ hu
end
def eF(ds es:Li D)(i:Nat):Bool:=Zv ((ds[i]?).getD .non) ((es[i]?).getD .non)
noncomputable def lF(ds es:Li D)(i:Nat):Bool:=match ds[i]?,es[i]? with
 |some (.int a),aa (.int b)=>ak (a < b)
 |some (.str a),aa (.str b)=>ak (a.cps.toList < b.cps.toList)
 |_,_=>af
theorem QC{e lt:Nat->Bool}{f:Bool}:∀ {l:Li Nat},ltR e lt f (l.map Nat.succ)=ltR (λi=>e (i+1)) (λi=>lt (i+1)) f l
 |[]=>rfl
 |i :: l=>by
  show(if e (i+1)=ae then ltR e lt f (l.map Nat.succ) else lt (i+1))=_
  rw[QC];rfl
theorem ZaI:∀ {ds es:Li D}{k:Bool},Vl ds es=aa k->ltR (eF ds es) (lF ds es) (ak (ds.length < es.length)) (aj (min ds.length es.length))=k
 |[],[],k,h=>by cases h;rfl
 |[],y :: ys,k,h=>by
  have h:aa (ak (0 < ys.length+1))=aa k:=h;cases h;simp[ltR]
 |x :: a,[],k,h=>by cases h;simp[ltR]
 |x :: a,y :: ys,k,h=>by
  have e:min (x :: a).length (y :: ys).length=min a.length ys.length+1:=by simp only[aY];omega
  rw[e,List.range_succ_eq_map];show(if Zv x y=ae then ltR (eF (x :: a) (y :: ys)) (lF (x :: a) (y :: ys)) _ ((aj (min a.length ys.length)).map Nat.succ) else lF (x :: a) (y :: ys) 0)=k
  unfold Vl at h;by_cases c:Zv x y=ae
  .rw[aq c]at h ⊢
   rw[QC,show ak ((x :: a).length < (y :: ys).length)=ak (a.length < ys.length) by simp]
   exact ZaI h
  .rw[ar c]at h ⊢
   split at h
   .cases h;rfl
   .cases h;rfl
   .exact Zb h
theorem QD:∀ {ds es:Li D}{k:Bool}{j:Nat},Vl ds es=aa k->j < ds.length->j < es.length->(∀ i,i < j->eF ds es i=ae)->eF ds es j=af->(∃ a b,ds[j]?=aa (.int a)/\es[j]?=aa (.int b))\/(∃ a b,ds[j]?=aa (.str a)/\es[j]?=aa (.str b))
 |[],_,_,_,_,f,_,_,_=>au f (by simp)
 |_ :: _,[],_,_,_,_,d,_,_=>au d (by simp)
 |x :: l,y :: ys,k,0,h,_,_,_,e=>by
  have e:Zv x y=af:=e;unfold Vl at h;rw[ar (by rw[e];simp)]at h
  split at h
  .exact .inl ⟨_,_,rfl,rfl⟩
  .exact .inr ⟨_,_,rfl,rfl⟩
  .exact Zb h
 |x :: l,y :: ys,k,j+1,h,f,d,g,e=>by
  have c:Zv x y=ae:=g 0 (by omega)
  unfold Vl at h;rw[aq c]at h;exact QD (j:=j) h (by simpa using f) (by simpa using d) (λi m=>g (i+1) (by omega)) e
variable{X:Cx}{H:Hp}{ad:Li Ad}{ys:Li V}{ds es:Li D}{k:Bool}
open PySem.SeqAt in
def Zcw{s:Sd}{f:Li V}{a b:Li vL}(r:Dens X.K ad H f ds)(x:Dens X.K ad H ys es)(rv:Vals f a)(e:Vals ys b)(h:Vl ds es=aa k) :
  ∀ j (l:j < a.toArray.size) (y:j < b.toArray.size),(∀ i,i < j->eF ds es i=ae)->eF ds es j=af->LtAt A s a.toArray[j] b.toArray[j] (lF ds es j):=λj l y M N=>by
 have R:a.toArray.size=ds.length:=by rw[aJ,<-rv.length,r.length]
 have P:b.toArray.size=es.length:=by rw[aJ,<-e.length,x.length]
 have get:∀ {f:Li V}{ds:Li D}{a:Li vL}{d:D} (l:j < a.toArray.size),Dens X.K ad H f ds->Vals f a->ds[j]?=aa d->∃ v,Den X.K ad H v d/\RelV v a.toArray[j]:=λ{f ds a d} l r rv g=>by
  obtain⟨v,J,o⟩:=r.get g;obtain⟨u,B,m⟩:=rv.get J;have O:a.toArray[j]=u:=by
   have:a[j]?=aa (a[j]'(by simpa using l)):=Lg _
   rw[B]at this;simpa using(aw this).symm
  exact⟨v,o,by rw[O];exact m⟩
 rcases QD h (by omega) (by omega) M N with⟨i,L,g1,g2⟩|⟨i,L,g1,g2⟩
 .obtain⟨F,o,m⟩:=get l r rv g1
  obtain⟨C,z,t⟩:=get y x e g2;cases o;cases z
  obtain⟨I,q⟩:=m;obtain⟨G,p⟩:=t;rw[q,p];intro n w E Q c;have c:Q (.bool (lF ds es j)) s:=c;unfold lF at c;rw[g1,g2]at c;exact lt_int c
 .obtain⟨F,o,m⟩:=get l r rv g1
  obtain⟨C,z,t⟩:=get y x e g2;cases o;cases z
  obtain⟨I,q⟩:=m;obtain⟨G,p⟩:=t;rw[q,p];intro n w E Q c;have c:Q (.bool (lF ds es j)) s:=c;unfold lF at c;rw[g1,g2]at c;exact lt_str c
variable{pQ:Li (Ad×Obj)}{O:L2.St}{n:Nat}
open PySem.SeqAt in
def Zcy{s:Sd}(I:Inv X pQ O H s){a b:Ad}{i:Li V}(o:Yj n ds=ae)(m:Yj n es=ae)(hu:A.units+n+1 < cLine)(e:TupAt X.K H a i)(r:Dens X.K ad H i ds)(x:TupAt X.K H b ys)(f:Dens X.K ad H ys es)(h:Vl ds es=aa k):LtAt A s (.ref a) (.ref b) k:=by
 obtain⟨g,rv,p,_⟩:=I.tuple (e.sq);obtain⟨d,c,l,_⟩:=I.tuple (x.sq);have w:g.toArray.size=ds.length:=by rw[aJ,<-rv.length,r.length]
 have v:d.toArray.size=es.length:=by rw[aJ,<-c.length,f.length]
 have q:=LtAt.tuples (A:=A) (s:=s) (e:=eF ds es) (lt:=lF ds es) p l (by omega) (λj u t=>Wu (a:=a) (b:=b) I o m hu r f rv c j u t) (Zcw r f rv c h)
 rw[w,v,ZaI h]at q;exact q
open PySem.SeqAt in
def Zb7{s:Sd}(I:Inv X pQ O H s){a b:Ad}{o:Li V}{g k f i:Int}(hu:A.units+8 < cLine)(e:TupAt X.K H a o)(r:Dens X.K ad H o [.int g,.int k])(R:TupAt X.K H b ys)(D:Dens X.K ad H ys [.int f,.int i]):GeAt A s (.ref a) (.ref b) (if g=f then ak (i<=k) else ak (f<=g)):=by
 obtain⟨h,rv,p,_⟩:=I.tuple (e.sq);obtain⟨v,l,J,_⟩:=I.tuple (R.sq);have P:h.toArray.size=2:=by rw[aJ,<-rv.length,r.length];rfl
 have N:v.toArray.size=2:=by rw[aJ,<-l.length,D.length];rfl
 have y:∀ {o:Li V}{B z:Int}{h:Li vL},Dens X.K ad H o [.int B,.int z]->Vals o h->∃ t C,h=[.int B t,.int z C]:=λ{o B z h} r rv=>by
  cases r with
  |cons m r=>cases r with
   |cons x r=>
    cases r;cases m;cases x
    cases rv with
    |cons g1 rv=>cases rv with
     |cons g2 rv=>
      cases rv;obtain⟨t,rfl⟩:=g1;obtain⟨C,rfl⟩:=g2;exact⟨t,C,rfl⟩
 have F:A.units+1+1 < cLine:=by omega
 obtain⟨W,U,M⟩:=y r rv;obtain⟨T,S,L⟩:=y D l;have q:=GeAt.tuples (A:=A) (s:=s) (e:=eF [.int g,.int k] [.int f,.int i]) (lt:=λj=>if j=0 then ak (f<=g) else ak (i<=k)) p J (by omega) (λj m x=>Wu (n:=1) (a:=a) (b:=b) I rfl rfl F r D rv l j m x) (λj m x _ _=>by
  subst M;subst L
  match j,m,x with
  |0,_,_=>exact λu w E Q G=>ge_int G
  |1,_,_=>exact λu w E Q G=>ge_int G
  |j+2,m,_=>exact au m (by show ¬j+2 < 2;omega))
 rw[P,N]at q;have ev:ltR (eF [.int g,.int k] [.int f,.int i]) (λj=>if j=0 then ak (f<=g) else ak (i<=k)) (ak (2<=2)) (aj (min 2 2))=(if g=f then ak (i<=k) else ak (f<=g)):=by
  show(if ak (g=f)=ae then (if ak (k=i)=ae then ae else ak (i<=k)) else ak (f<=g))=_
  by_cases c:g=f
  .rw[aq (aE c),aq c]
   by_cases d:k=i
   .rw[aq (aE d),aE (by omega)]
   .rw[ar (by rw[aO];exact d)]
  .rw[ar (by rw[aO];exact c),ar c]
 rw[ev]at q;exact q
variable{dx dy:D}{u:vL}{Q:VK}{st:Za}{op:CmpOp}
variable{X:Cx}
section
theorem Zaq{ad:Li Ad}{H:Hp}{k:Int}:∀ {xs:Li V}{ds:Li D}{b:Bool},Dens X.K ad H xs ds->Z4 k ds=aa b->xs.all flatV=ae/\inV (.int k) xs=b
 |_,_,_,.nil,e=>by cases e;exact⟨rfl,rfl⟩
 |_,_,b,.cons (d:=d) h r,e=>by
  cases d with
  |int i=>
   cases h;unfold Z4 at e;cases q:Z4 k _ with
   |none=>rw[q]at e;cases e
   |some b'=>
    rw[q]at e;cases e;obtain⟨c,a⟩:=Zaq r q;refine⟨by rw[bT,c];rfl,?_⟩
    show((i==k)||inV (.int k) _)=(ak (i=k)||b');rw[a];rfl
  |_=>simp[Z4]at e
theorem UI{ad:Li Ad}{H:Hp}{k:Str}:∀ {xs:Li V}{ds:Li D}{b:Bool},Dens X.K ad H xs ds->Z5 k ds=aa b->xs.all flatV=ae/\inV (.str k) xs=b
 |_,_,_,.nil,e=>by cases e;exact⟨rfl,rfl⟩
 |_,_,b,.cons (d:=d) h r,e=>by
  cases d with
  |str i=>
   cases h;unfold Z5 at e;cases q:Z5 k _ with
   |none=>rw[q]at e;cases e
   |some b'=>
    rw[q]at e;cases e;obtain⟨c,a⟩:=UI r q;refine⟨by rw[bT,c];rfl,?_⟩
    show((i==k)||inV (.str k) _)=(ak (i=k)||b');rw[a]
    congr 1
  |_=>simp[Z5]at e
def CW(X:Cx)(pQ:Li (Ad×Obj))(O:L2.St)(Q:VK)(s:Sd)(op:CmpOp)(v u:vL):Prop:=a8 (a9 X.prog X.w) X.A (br op v u) (EP X pQ O Q) X.xe s
def CW2(X:Cx)(pQ:Li (Ad×Obj))(O:L2.St)(Q:VK)(s:Sd)(H:Hp)(op a:CmpOp)(v u:vL)(k:Bool):Prop:=(Q (.bl k) H->CW X pQ O Q s op v u)/\(Q (.bl (!k)) H->CW X pQ O Q s a v u)
noncomputable def vSc:Sc->V
 |.non=>.non
 |.bl b=>.bl b
 |.int i=>.int i
 |.str x=>.str x
def Den.vSc{K:Fg}{ad:Li Ad}{H:Hp}{x:V}{d:D}{a:Sc}(h:Den K ad H x d)(e:scD d=aa a):x=vSc a:=by
 cases h<;>cases e<;>rfl
def Zb5{a b:Sc}(h:ZfY a b=aa k):scal (vSc a) (vSc b)=ae/\ak (vSc a=vSc b)=k:=by
 cases a<;>cases b<;>first
  | (cases h;done)
  | (cases h;exact⟨rfl,rfl⟩)
  | (cases h;exact⟨rfl,dec_bl⟩)
  | (cases h;exact⟨rfl,by simp[vSc]⟩)
inductive EqD(x y:V):D->D->Bool->Prop
 |sc {dx dy:D}{k:Bool} (h3:scal x y=ae) (h4:ak (x=y)=k):EqD x y dx dy k
 |tup {xs ys:List D} (h:(okD 8 (.tup xs)&&okD 8 (.tup ys))=ae):EqD x y (.tup xs) (.tup ys) (Zq xs ys)
def Zb4{K:Fg}{x y:V}(i:Den K ad H x dx)(g:Den K ad H y dy)(e:eqD dx dy=aa k):EqD x y dx dy k:=by
 unfold eqD at e;split at e
 .unfold eqT at e
  split at e
  .split at e
   .rename_i c
    cases e;exact .tup c
   .exact Zb e
  .exact Zb e
 .refine j_e e λe=>ZQ (P:=λo=>o=aa k->EqD x y dx dy k) e (λa b l j h=>?_) rfl
  obtain⟨f,d⟩:=Zb5 h;rw[<-i.vSc l,<-g.vSc j]at f d;exact .sc f d
def Zf0(hu:X.A.units+64 < cLine){s:Sd}{x y:V}{v:vL}(I:Inv X pQ O H s)(f:RelV x v)(d:RelV y u)(S:StOk X.K ad H st)(h:Den X.K ad H x dx)(g:Den X.K ad H y dy)(e:eqD dx dy=aa k):CW2 X pQ O Q s H .Eq .NotEq v u k:=by
 cases Zb4 h g e with
 |sc i p=>
  subst p;exact⟨λq=>op_eq pQ s O H x y v u Q I f d ⟨i,q⟩,λq=>op_ne pQ s O H x y v u Q I f d ⟨i,q⟩⟩
 |tup c=>
  rw[Ba]at c;obtain⟨a,r,rfl,o,l⟩:=h.ofTup;obtain⟨b,ys,rfl,m,j⟩:=g.ofTup;cases f;cases d
  obtain⟨g1,g2⟩:=ZcH (ad:=ad) (A:=X.A) I (n:=7) c.1 c.2 (by omega) o l m j
  exact⟨λq=>g1 X.prog X.w X.xe _ ⟨.bl _,H,I,rfl,q⟩,λq=>g2 X.prog X.w X.xe _ ⟨.bl _,H,I,rfl,q⟩⟩
open PySem.SeqAt in
def ZcG{s:Sd}(I:Inv X pQ O H s){a b:Ad}{m:Li V}{d c:Li vL}(w:Yj n ds=ae)(v:Yj n es=ae)(hu:A.units+n+1 < cLine)(r:Dens X.K ad H m ds)(o:Dens X.K ad H ys es)(rv:Vals m d)(f:Vals ys c)(p:s.heap.IsList a d.toArray)(h:s.heap.IsList b c.toArray):RcAt A s (.ref a) (.ref b) (Zq ds es)/\RcNeAt A s (.ref a) (.ref b) (!Zq ds es):=by
 have l:d.toArray.size=ds.length:=by rw[aJ,<-rv.length,r.length]
 have u:c.toArray.size=es.length:=by rw[aJ,<-f.length,o.length]
 by_cases k:ds.length=es.length
 .have t:=λj y x=>Wu (a:=a) (b:=b) I w v hu r o rv f j y x
  have q:=RcAt.lists (A:=A) (s:=s) (e:=λi=>Zv ((ds[i]?).getD .non) ((es[i]?).getD .non)) p h (by omega) (by omega) t
  have g:=RcNeAt.lists (A:=A) (s:=s) (e:=λi=>Zv ((ds[i]?).getD .non) ((es[i]?).getD .non)) p h (by omega) (by omega) t
  rw[l]at q g;rw[YC,show min ds.length es.length=ds.length by omega,show(ds.length==es.length)=ae by simpa using k,dO]
  exact⟨q,g⟩
 .have q:=RcAt.lists_lengths (A:=A) (s:=s) p h (by rw[l,u];simpa using k) (by omega)
  have g:=RcNeAt.lists_lengths (A:=A) (s:=s) p h (by rw[l,u];simpa using k) (by omega)
  rw[YC,show(ds.length==es.length)=af by simpa using k,Bool.and_false]
  exact⟨q,g⟩
open PySem.SeqAt in
def ZgR(hu:X.A.units+64 < cLine){s:Sd}{x y:V}{v:vL}(I:Inv X pQ O H s)(b:RelV x v)(a:RelV y u)(S:StOk X.K ad H st)(d:Den X.K ad H x (.tup ds))(c:Den X.K ad H y (.tup es))(e:QK st ds es=aa k):CW2 X pQ O Q s H .Eq .NotEq v u k:=by cases e
def Zf1(hu:X.A.units+64 < cLine){s:Sd}{x y:V}{v:vL}(I:Inv X pQ O H s)(r:RelV x v)(p:RelV y u)(S:StOk X.K ad H st)(M:Den X.K ad H x dx)(L:Den X.K ad H y dy)(e:eqS st dx dy=aa k):CW2 X pQ O Q s H .Eq .NotEq v u k:=by
 have sc:scal x y=ae->(ak (x=y))=k->CW2 X pQ O Q s H .Eq .NotEq v u k:=λC h2=>by
  subst h2;exact⟨λq=>op_eq pQ s O H x y v u Q I r p ⟨C,q⟩,λq=>op_ne pQ s O H x y v u Q I r p ⟨C,q⟩⟩
 unfold eqS at e;split at e
 .unfold ZfX at e
  split at e
  case h_2=>exact Zb e
  obtain⟨a,rfl,ha⟩:=M.ofLst;obtain⟨b,rfl,hb⟩:=L.ofLst;cases r;cases p
  have two:∀ {ba bb:Bool}{i ys:Li D},st[_]?=aa (ba,i)->st[_]?=aa (bb,ys)->(i=[]\/ys=[])->(i.isEmpty&&ys.isEmpty)=k->CW2 X pQ O Q s H .Eq .NotEq (.ref a) (.ref b) k:=λ{ba bb i ys} J G E hk=>by
   obtain⟨vs,T,s1⟩:=S.list ha J;obtain⟨ws,R,N⟩:=S.list hb G;obtain⟨h,rv,B,_⟩:=I.list s1;obtain⟨g,l,t,_⟩:=I.list N;have Z:h.toArray.size=i.length:=by rw[aJ,<-rv.length,T.length]
   have Y:g.toArray.size=ys.length:=by rw[aJ,<-l.length,R.length]
   by_cases n:i.length=ys.length
   .have W:i=[]:=by
     rcases E with z|z
     .exact z
     .rw[z]at n;exact eO.mp n
    have z2:ys=[]:=by rw[W]at n;exact eO.mp n.symm
    subst W z2;cases hk;have f:h=[]:=eO.mp (by simpa using Z)
    have f':g=[]:=eO.mp (by simpa using Y)
    subst f f';refine⟨λq=>SeqAt.RcAt.lists (e:=λ_=>ae) B.isList t.isList rfl (by omega) (λj C _=>au C (by simp)) X.prog X.w X.xe _ ⟨.bl ae,H,I,rfl,q⟩,λq=>SeqAt.RcNeAt.lists (e:=λ_=>ae) B.isList t.isList rfl (by omega) (λj C _=>au C (by simp)) X.prog X.w X.xe _ ⟨.bl af,H,I,rfl,q⟩⟩
   .have U:k=af:=by
     rw[<-hk];rcases E with z|z
     .subst z
      cases ys with
      |nil=>exact au rfl n
      |cons _ _=>rfl
     .subst z
      cases i with
      |nil=>exact au rfl n
      |cons _ _=>rfl
    subst U;have F:(h.toArray.size != g.toArray.size)=ae:=by rw[Z,Y];simpa using n
    exact⟨λq=>SeqAt.RcAt.lists_lengths B.isList t.isList F (by omega) X.prog X.w X.xe _ ⟨.bl af,H,I,rfl,q⟩,λq=>SeqAt.RcNeAt.lists_lengths B.isList t.isList F (by omega) X.prog X.w X.xe _ ⟨.bl ae,H,I,rfl,q⟩⟩
  refine j_e e λe=>ZQ (P:=λo=>o=aa k->CW2 X pQ O Q s H .Eq .NotEq (.ref a) (.ref b) k) e (λc d J G e=>?_) rfl
  obtain⟨c1,c2⟩:=c;obtain⟨d1,d2⟩:=d;unfold Zeq at e;split at e
  .rename_i E
   cases e;rw[bL]at E;exact two J G (E.imp List.isEmpty_iff.mp List.isEmpty_iff.mp) rfl
  .split at e
   .rename_i m
    cases e;rw[Ba]at m;obtain⟨vs,T,s1⟩:=S.list ha J;obtain⟨ws,R,N⟩:=S.list hb G;obtain⟨h,rv,B,_⟩:=I.list s1;obtain⟨g,l,t,_⟩:=I.list N;obtain⟨g1,g2⟩:=ZcG (ad:=ad) (A:=X.A) I m.1 m.2 (by omega) T R rv l B.isList t.isList
    exact⟨λq=>g1 X.prog X.w X.xe _ ⟨.bl _,H,I,rfl,q⟩,λq=>g2 X.prog X.w X.xe _ ⟨.bl _,H,I,rfl,q⟩⟩
   .exact Zb e
 .unfold ZfZ at e
  split at e
  .split at e
   .rename_i k' q
    cases e;exact Zf0 hu I r p S M L (show eqD (.tup _) (.tup _)=aa _ from q)
   .exact ZgR hu I r p S M L e
  .exact Zb e
 .exact Zf0 hu I r p S M L e
open Classical in
def ZhR(K:Fg)(ad:Li Ad)(H:Hp)(d:D)(u:vL):Bool:=ak (∃ y e,RelV y u/\Den K ad H y e/\okD 8 e=ae/\Zv e d=ae)
section
variable{pQ:Li (Ad×Obj)}{s:Sd}{O:L2.St}{H:Hp}{x y:V}{v u:vL}{Q:VK}{ad:Li Ad}{st:Za}{dx dy:D}{k:Bool}
def Vi{a:Ad}{b:Li V}(I:Inv X pQ O H s)(e:RelV x v)(d:RelV y u)(i:y=.ref a)(sq:SqL X.K H a b\/SqT X.K H a b)(g:flatV x=ae)(h:b.all flatV=ae/\inV x b=k):CW2 X pQ O Q s H .In .NotIn v u k:=by
 obtain⟨f,j⟩:=h;subst j;exact⟨λc=>op_in_seq pQ s O H _ _ v u Q I e d ⟨a,b,i,sq,g,f,c⟩,λc=>op_notIn_seq pQ s O H _ _ v u Q I e d ⟨a,b,i,sq,g,f,c⟩⟩
def InW(X:Cx)(pQ:Li (Ad×Obj))(O:L2.St)(Q:VK)(s:Sd)(H:Hp)(v u:vL)(dy:D)(k:Bool):Prop:=(Q (.bl k) H->CW X pQ O Q s .In v u)/\((∀ ks vs,dy≠.dct ks vs)->Q (.bl (!k)) H->CW X pQ O Q s .NotIn v u)
def CW2.inW(h:CW2 X pQ O Q s H .In .NotIn v u k):InW X pQ O Q s H v u dy k:=⟨h.1,λ_=>h.2⟩
def Zf4(hu:X.A.units+64 < cLine)(I:Inv X pQ O H s)(f:RelV x v)(d:RelV y u)(S:StOk X.K ad H st)(l:Den X.K ad H x dx)(h:Den X.K ad H y dy)(q:inS st dx dy=aa k):InW X pQ O Q s H v u dy k:=by
 unfold inS at q;split at q
 .split at q
  .rename_i m
   obtain⟨a,e,c⟩:=h.ofLst;obtain⟨n,r,sq⟩:=S.list c m;cases l;exact(Vi I f d e (.inl sq) rfl (Zaq r q)).inW
  .exact Zb q
 .split at q
  .rename_i m
   obtain⟨a,e,c⟩:=h.ofLst;obtain⟨n,r,sq⟩:=S.list c m;cases l;exact(Vi I f d e (.inl sq) rfl (UI r q)).inW
  .exact Zb q
 .obtain⟨a,n,e,c,r⟩:=h.ofTup
  cases l;exact(Vi I f d e (.inr c.sq) rfl (Zaq r q)).inW
 .obtain⟨a,n,e,c,r⟩:=h.ofTup
  cases l;exact(Vi I f d e (.inr c.sq) rfl (UI r q)).inW
 .obtain⟨a,vs,rfl,c,D,r⟩:=h.ofDct
  cases l;cases q;refine⟨λg=>op_in_dct pQ s O H _ _ v u Q I f d ⟨a,_,Sum.inr _,rfl,rfl,c,?_⟩,λz=>au rfl (z _ _)⟩
  rcases XH r D with⟨w,J,t,p,G⟩|⟨t,p⟩
  .rw[t];rw[p]at g;exact g
  .rw[t];rw[p]at g;exact g
 .obtain⟨o,B,rfl⟩:=eI.mp q
  obtain⟨i,j,L,es,rfl,m,rfl⟩:=UE B;obtain⟨a,rfl,c,C⟩:=h.ofDic;obtain⟨kvs,r,E,_⟩:=S.dict c C m;obtain⟨b,rfl,F⟩:=Xz l;cases f;cases d
  have z:=in_dT (X:=X) (Q:=Q) (by omega) I E F
  rw[Jd r]at z;exact⟨z.1,λ_=>z.2⟩
 .cases l;cases h;cases q
  exact⟨λg=>op_in_str pQ s O H _ _ v u Q I f d ⟨_,_,rfl,rfl,g⟩,λ_ g=>op_notIn_str pQ s O H _ _ v u Q I f d ⟨_,_,rfl,rfl,g⟩⟩
 .exact Zb q
def Zct(a:Den X.K ad H x dx)(q:isN dx=aa k):ak (x=V.non)=k:=by
 cases a<;>cases q<;>rfl
def Zf5(I:Inv X pQ O H s)(f:RelV x v)(d:RelV y u)(h:Den X.K ad H x dx)(g:Den X.K ad H y dy)(q:isD dx dy=aa k):CW2 X pQ O Q s H .Is .IsNot v u k:=by
 unfold isD at q;split at q
 .cases g
  have z:=Zct h q;subst z;exact⟨λc=>op_isN pQ s O H _ _ v u Q I f d ⟨rfl,c⟩,λc=>op_notN pQ s O H _ _ v u Q I f d ⟨rfl,c⟩⟩
 .unfold isB at q
  split at q
  .cases q
   cases h;cases g
   cases f;cases d
   have e:∀ a b:Bool,(Value.bool a==Value.bool b)=(a==b):=λa b=>by cases a<;>cases b<;>rfl
   exact⟨λc=>wpAny_is_plain rfl (by rw[e];exact⟨.bl _,H,I,rfl,c⟩),λc=>wpAny_isNot_plain rfl (by rw[e];exact⟨.bl _,H,I,rfl,c⟩)⟩
  .cases q
 .cases q
def Wd{f:Int->Int->Bool}(b:Den X.K ad H x dx)(a:Den X.K ad H y dy)(q:Jo f dx dy=aa k):∃ i j,x=.int i/\y=.int j/\f i j=k:=by
 unfold Jo at q;split at q
 .cases q;cases b;cases a;exact⟨_,_,rfl,rfl,rfl⟩
 .exact Zb q
def Zg3(hu:X.A.units+64 < cLine)(I:Inv X pQ O H s)(e:RelV x v)(d:RelV y u)(S:StOk X.K ad H st)(h:Den X.K ad H x dx)(g:Den X.K ad H y dy)(q:ltS st dx dy=aa k)(f:Q (.bl k) H):CW X pQ O Q s .Lt v u:=by
   have q:ltD dx dy=aa k:=q;unfold ltD at q;split at q
   .split at q
    .rename_i ds es c
     rw[Ba]at c;obtain⟨a,r,rfl,p,m⟩:=h.ofTup;obtain⟨b,ys,rfl,o,l⟩:=g.ofTup;cases e;cases d
     exact Zcy (ad:=ad) (A:=X.A) I (n:=7) c.1 c.2 (by omega) p m o l q X.prog X.w X.xe _ ⟨.bl _,H,I,rfl,f⟩
    .exact Zb q
   obtain⟨i,j,rfl,rfl,z⟩:=Wd h g q;exact op_lt pQ s O H _ _ v u Q I e d ⟨_,_,rfl,rfl,by cases z;exact f⟩
def Vn{o:Ot Bool}(q:o.map not=aa k):o=aa (!k):=by
 cases o with
 |none=>exact Zb q
 |some a=>cases q;rw[Bool.not_not]
def ZaP{a:CmpOp}(h:CW2 X pQ O Q s H op a v u (!k))(b:Q (.bl k) H):CW X pQ O Q s a v u:=h.2 (by rw[Bool.not_not];exact b)
end
def QH(hu:X.A.units+64 < cLine):OpR X (br op) (rD X.K (VQ op)):=by
 intro pQ s O H x y v u Q I f c h;obtain⟨ad,st,dx,dy,d,st',S,m,l,e,p⟩:=h
 change CW X pQ O Q s op v u;unfold VQ at e;cases q:ZbY op dx dy st with
 |none=>rw[q]at e;cases e
 |some k=>
  rw[q]at e;cases e;have g:=p.at S (.bl k);clear p;cases op with
  |Lt=>exact Zg3 hu I f c S m l q g
  |LtE=>
   obtain⟨i,j,rfl,rfl,z⟩:=Wd m l q;exact op_le pQ s O H _ _ v u Q I f c ⟨_,_,rfl,rfl,by cases z;exact g⟩
  |Gt=>
   obtain⟨i,j,rfl,rfl,z⟩:=Wd m l q;exact op_gt pQ s O H _ _ v u Q I f c ⟨_,_,rfl,rfl,by cases z;exact g⟩
  |GtE=>
   have q:geD dx dy=aa k:=q;unfold geD at q;split at q
   .cases q
    obtain⟨a,C,rfl,B,o⟩:=m.ofTup;obtain⟨b,ys,rfl,t,n⟩:=l.ofTup;cases f;cases c
    exact Zb7 (ad:=ad) (A:=X.A) I (by omega) B o t n X.prog X.w X.xe _ ⟨.bl _,H,I,rfl,g⟩
   obtain⟨i,j,rfl,rfl,z⟩:=Wd m l q;exact op_ge pQ s O H _ _ v u Q I f c ⟨_,_,rfl,rfl,by cases z;exact g⟩
  |Eq=>exact(Zf1 hu I f c S m l q).1 g
  |NotEq=>exact ZaP (Zf1 hu I f c S m l (Vn q)) g
  |In=>exact(Zf4 hu I f c S m l q).1 g
  |NotIn=>
   have q:niS st dx dy=aa k:=q;unfold niS at q;split at q
   .cases q
   .rename_i r
    exact(Zf4 hu I f c S m l (Vn q)).2 r (by rw[Bool.not_not];exact g)
  |Is=>exact(Zf5 I f c m l q).1 g
  |IsNot=>exact ZaP (Zf5 I f c m l (Vn q)) g
end
variable [ClsTab]
noncomputable def Zf:az->Bool
 |.Starred ..=>af
 |.Set ..=>af
 |.Slice ..=>af
 |_=>ae
variable{sc:bj}{N:Li Str}{e:az}
def Zd{G:Gs}{c:CE}(h:cE G n sc N e=aa c):Zf e=ae:=by
 cases n with
 |zero=>exact nomatch (show(ab:Ot CE)=aa c from h)
 |succ n=>cases e<;>first|rfl|exact nomatch (show(ab:Ot CE)=aa c from h)
variable{env:PySem.Env}
def Ze{es:Li az}(h:Zf e=ae):bg (e :: es) env=(af,eval e env) :: bg es env:=by
 cases e<;>first|rfl|cases h
def X4{b:az}(h:Zf b=ae):behindInMarks op b=af:=by
 cases b<;>first|rfl|cases h
def V6{b:az}(h:Zf b=ae):PlainIx b:=by
 cases b<;>first | (intro o i;rfl)|cases h
theorem XO{a:Pos}{env:PySem.Env}:∀ {es:Li az},es.all Zf=ae->(backTo a (bg es env)).any (·.1)=af
 |[],_=>rfl
 |e :: es,h=>by
  rw[bT,Ba]at h;rw[Ze h.1];show(af||(backTo a (bg es env)).any (·.1))=af;rw[XO h.2];rfl
inductive EsOk(Pm:Params)(K:Fg):List DictEntry->List Str->List D->Prop where
 |nil:EsOk Pm K [] [] []
 |cons {e:DictEntry}{es:List DictEntry}{k:Str}{ks:List Str}{d:D}{ds:List D}{v:V}{t:Tok} (h1:e.hash=bw Pm k) (h2:e.key=.str k t) (h3:RelV v e.val) (h4:∀ ad H,Den K ad H v d) (r:EsOk Pm K es ks ds):EsOk Pm K (e :: es) (k :: ks) (d :: ds)
def Qg(b:Params)(K:Fg)(mg:Str->Ot vL)(x:Str)(ks:Li Str)(ds:Li D):Prop:=
 ∃ A o es a,mg x=aa (.ref A)/\K.lookup A=aa o/\o.ExactDict/\o.data=.dict es a/\(A==bt)=af/\ks.Nodup/\EsOk b K es.toList ks ds
variable{w:bq}
theorem EsOk.open{P:bf}{K:Fg}:∀ {es:Li DictEntry}{ks:Li Str}{ds:Li D},EsOk w.params K es ks ds->∃ kvs:Li (Key×vL),Pairs (mixKind P w) es kvs/\kvs.map (·.1)=ks.map Sum.inr/\(∀ e∈es,∃ k,(mixKind P w).is k e.key=ae/\e.hash=(mixKind P w).hash k) /\
  ∀ k d,Z0 ks ds k=aa d->∃ u v,valueAt kvs (Sum.inr k)=aa u/\RelV v u/\∀ ad H,Den K ad H v d
 |_,_,_,.nil=>⟨[],.nil,rfl,(λ_ h=>nomatch h),λk d h=>by simp[Z0]at h⟩
 |e :: es,a :: ks,n :: ds,.cons (v:=v) (t:=t) m l j i r=>by
  obtain⟨kvs,B,A,y,s⟩:=EsOk.open (P:=P) r;have b:(mixKind P w).is (Sum.inr a) e.key=ae:=by rw[l];exact mixKind_str P w a t
  refine⟨(Sum.inr a,e.val) :: kvs,.cons b rfl B,by rw[aW,aW,A],λx hx=>?_,λk d h=>?_⟩
  .rcases aK.mp hx with rfl|hx
   .exact⟨Sum.inr a,b,m⟩
   .exact y x hx
  .unfold valueAt
   by_cases c:a=k
   .subst c
    have h:Z0 (a :: ks) (n :: ds) a=aa d:=h;simp only[Z0,aq]at h;cases h;exact⟨e.val,v,by simp,j,i⟩
   .have h:Z0 ks ds k=aa d:=by
     simp only[Z0,ar c]at h;exact h
    obtain⟨u,f,q,p,o⟩:=s k d h;refine⟨u,f,?_,p,o⟩;have g:¬(Sum.inr a:Key)=Sum.inr k:=λz=>c (Sum.inr.inj z)
    rw[List.find?_cons_of_neg (by simpa using g)]
    exact q
structure SubOk(K:Fg)(C B:Addr):Prop where
 cl:Cls K C
 ha:W.findIn K (.ref C) "__class__"=aa (aa (.builtin "object.__class__"))
 hn:W.specialIn K (.builtin "object.__class__") "__get__"=aa (aa (.builtin "getset_descriptor.__get__"))
 ht:W.takesIn K (.builtin "object.__class__")=aa ae
 hm:W.mroIn K C (.type "object")=aa ae
 kit:W.kitOne K (.ref C) (.ref B)=aa ae
structure NewOk(K:Fg)(C:Addr):Prop where
 makes:W.makesIn K C=ae
 init:W.findIn K (.ref C) "__init__"=aa (aa (.builtin "object.__init__"))
 kp:W.keepIn K (.ref C)=ae
 cl:Cls K C
def GOk(P:bf)(w:bq)(K:Fg)(mg:Str->Ot vL)(base:bp)(A:bu)(F:Nat->Fn)(x:Str):GV->Prop
 |.c d=>∃ v u,mg x=aa u/\RelV v u/\∀ ad H,Den K ad H v d
 |.blt=>mg x=ab
 |.dct ks ds=>Qg w.params K mg x ks ds
 |.cls i l a=>mg x=aa (.ref (ClsTab.ca i))/\NewOk K (ClsTab.ca i)/\(∀ h,a.contains h=ae->SubOk K (ClsTab.ca h) (ClsTab.ca i)) /\
   ∀ m j g,l.lookup m=aa (j,g)->∃ (k:Nat) (f:Ad) (fd:bo) (pn:Li Str),FnOk P w K mg base CX0 k f fd pn (spD K (F j))/\Room k A/\Meth K (ClsTab.ca i) m f/\Binds K fd pn []
 |.fn i g ds=>∃ (k:Nat) (f:Ad) (fd:bo) (pn:Li Str),FnOk P w K mg base CX0 k f fd pn (spD K (F i))/\Room k A/\mg x=aa (.ref f)/\W.keepIn K (.ref f)=ae /\
   ∀ m,m<=ds.length->∃ b e,(∀ ad H,Dens K ad H b (ds.drop m))/\Vals b e/\Binds K fd pn e
structure Cxt(X:Cx)(G:Gs)(F:Nat->Fn)(sc:bj)(N:List Str):Prop where
 hN:X.N=N
 vis:∀ x,XF sc x=ae->Vis X.env.scope x
 glb:∀ x,ZA sc x=ae->Gl X x
 calm:X.calm=ae
 hu:X.A.units+64 < cLine
 gl:∀ x g,G.lookup x=aa g->GOk X.prog X.w X.K X.mg X.base X.A F x g
 cel:∀ x,Wt sc x=ae->X.env.scope.names.lookup x=aa .cell\/X.env.scope.names.lookup x=aa .free
 nx:X.xe=λ_ _=>False
variable{i:Nat}
def Xt{x:Str}(h:N.idxOf? x=aa i):N[i]?=aa x:=by
 unfold List.idxOf? at h
 rw[List.findIdx?_eq_some_iff_getElem]at h;obtain⟨a,b,_⟩:=h;rw[Lg a];rw[beq_iff_eq.mp b]
def Vk{x:Str}(h:XF sc x=ae):(x==("__debug__":Str))=af/\(x==("__classdict__":Str))=af:=by
 unfold XF at h;rw[Ba,Ba,fI,fI]at h;exact h.1
def XD{x:Str}(h:ZA sc x=ae):(x==("__debug__":Str))=af:=by
 unfold ZA at h;rw[Ba,fI]at h;exact h.1
variable{fa:Ev}{pos:Pos}{U:Env}{st':Za}{d:D}
variable{F:Nat->Fn}
def Zgn{f:Ev}(h:PE X e (tE X.K f))(b:∀ a,isTrue e X.env a=(do let v <-a;standAt e.pos;holding [v] (truthy v)):=by intro _;rfl):PT X e (tT X.K f):=WC (pt_val h b) Zao
def ZeW{c a b:az}{u v:Ev}(y:PT X c (tT X.K u))(A:PT X a (tT X.K fa))(z:PT X b (tT X.K v)):PT X (.IfExp c a b pos) (tT X.K (Y3 u fa v)):=by
 intro pQ s O H Q I h;obtain⟨ad,U,st,d,st',E,S,e,p⟩:=h;obtain⟨k,g,q,e⟩:=Z3 e;show a8 _ _ (isTrue c X.env (eval c X.env) >>= λt=>if t then isTrue a X.env (eval a X.env) else isTrue b X.env (eval b X.env)) _ _ s
 refine aA (thn (y pQ s O H (λx l=>x=k/\∃ f,Ext ad H f l/\StOk X.K f l g) I ⟨ad,U,st,k,g,E,S,q,λf l j m=>⟨rfl,f,j,m⟩⟩) λt s1 ⟨l,w,B,f,j,m⟩=>?_)
 subst B;cases t with
 |true=>
  rw[aq rfl]at e ⊢;exact A pQ s1 O l Q w ⟨f,U,g,d,st',E.mono j,m,e,λi r n o=>p i r (j.trans n) o⟩
 |false=>
  rw[ar Bf]at e ⊢;exact z pQ s1 O l Q w ⟨f,U,g,d,st',E.mono j,m,e,λi r n o=>p i r (j.trans n) o⟩
def Ju:CE->Prop
 |.aN=>True
 |.aC _ _=>True
 |_=>False
def X7{c:CE}(h:Ju c)(e:ev F c U st=aa (d,st')):∃ ds,d=.tup ds/\ds.length<=1000:=by
 cases c with
 |aN=>cases e;exact⟨[],rfl,by decide⟩
 |aC a r=>
  have e:ZE (ev F a) (ev F r) VS U st=aa (d,st'):=e;unfold ZE at e;split at e
  .split at e
   .rename_i y b _
    cases y with
    |tup f=>
     have e:(if f.length < 1000 then aa (D.tup (_ :: f),b) else ab)=aa (d,st'):=e
     split at e
     .rename_i g
      cases e;exact⟨_,rfl,g⟩
     .exact Zb e
    |_=>simp[VS]at e
   .exact Zb e
  .exact Zb e
 |_=>exact False.elim h
structure SE(X:Cx)(F:Nat->Fn)(e:az)(c:CE):Prop where
 pe:PE X e (tE X.K (ev F c))
 pt:PT X e (tT X.K (ev F c))
def SE.of{c:CE}(h:PE X e (tE X.K (ev F c)))(b:∀ a,isTrue e X.env a=(do let v <-a;standAt e.pos;holding [v] (truthy v)):=by intro _;rfl):SE X F e c:=⟨h,Zgn h b⟩
def Ue{op:BoolOp}{es:Li az}{t:TT}(h:PT X (.BoolOp op es pos) t):PW X (.BoolOp op es pos) t:=λ_ pQ s O H Q I q=>h pQ s O H Q I q
variable{vs:Li V}{ad0:Li Ad}
variable{ad:Li Ad}{H:Hp}{p:Ad}
section
variable{o:HO}
variable (ho:∀ kvs,o≠.dT kvs)
include ho
def Zaw{K:Fg}(a:H p=aa (.dK [])):Keeps K ad ad H (upd H p o):=⟨λh=>h.upd a (by intro b z;cases z),λh=>⟨h,WH (Wz a λ_ z=>nomatch z) ho⟩,λn h=>by rw[upd_ne (ne_of h a (by intro z;injection z with z;exact n z))];exact h,λh n=>⟨by rw[upd_ne (ne_of h a (by intro z;cases z))];exact h,n⟩⟩
def Dens.wrK{K:Fg}(a:H p=aa (.dK []))(h:Dens K ad H vs ds):Dens K ad (upd H p o) vs ds:=h.map (Zaw ho a)
def StOk.wrK{K:Fg}(S:StOk K ad H st)(a:H p=aa (.dK []))(b:p∉ad):StOk K ad (upd H p o) st:=
 S.wrG (Zaw ho a) b
def Ext.wrK{e:Hp}(x:Ext ad0 e ad H)(f:H p=aa (.dK []))(d:e p=ab):Ext ad0 e ad (upd H p o):=by
 refine⟨x.pre,λb c h=>?_,λb c h=>?_,λb o h n=>?_,x.new,λi a h=>(x.kd i a h).trans (WH (Wz f λ_ z=>nomatch z) ho)⟩
 .rw[upd_ne (ne_of_none h d)];exact x.tup b c h
 .rw[upd_ne (ne_of_none h d)];exact x.dk b c h
 .rw[upd_ne (ne_of_none h d)];exact x.keep b o h n
end
theorem WY:∀ (kvs a:Li (Key×V)),(∀ p∈kvs,∀ q∈a,q.1≠p.1)->(kvs.map (·.1)).Nodup->mergeK a kvs=a++kvs
 |[],a,_,_=>by show a=a++[];rw[bD]
 |p :: r,a,h,n=>by
  rw[aW,bY]at n;have e:putK a p.1 p.2=a++[p]:=by
   unfold putK;rw[ar];intro z;rw[List.any_eq_true]at z;obtain⟨q,hq,z⟩:=z;exact h p (Ls ..) q hq (ao z)
  show mergeK (putK a p.1 p.2) r=_;rw[e,WY r (a++[p]) (λx b q hq=>?_) n.2,aM];rfl
  rcases bE.mp hq with hq|hq
  .exact h x (Lm _ b) q hq
  .rw[aI]at hq
   subst hq;intro z;exact n.1 (by rw[z];exact List.mem_map_of_mem b)
theorem Ww:∀ {ks:Li Str}{vs:Li V},ks.Nodup->(((ks.zip vs).map λp=>((Sum.inr p.1:Key),p.2)).map (·.1)).Nodup
 |[],_,_=>by simp
 |_ :: _,[],_=>by simp
 |k :: ks,v :: vs,h=>by
  rw[bY]at h;show((Sum.inr k:Key) :: ((ks.zip vs).map λp=>((Sum.inr p.1:Key),p.2)).map (·.1)).Nodup
  rw[bY];refine⟨λz=>h.1 ?_,Ww h.2⟩
  rw[bM,aR]at z;obtain⟨q,a,e⟩:=z;have e:(Sum.inr q.1:Key)=Sum.inr k:=e;rw[<-Sum.inr.inj e];exact(eY a).1
theorem XG:∀ {keys:Li (Ot az)}{ks:Li Str},ZH keys=aa ks->keys.length=ks.length/\keys.all (·.isSome)=ae
 |[],_,h=>by cases h;exact⟨rfl,rfl⟩
 |some (.Constant (.str k) a b) :: r,ks,h=>by
  have h:(ZH r).map (k :: ·)=aa ks:=h;cases q:ZH r with
  |none=>rw[q]at h;cases h
  |some c=>
   rw[q]at h;cases h;obtain⟨f,d⟩:=XG q;exact⟨by rw[aY,aY,f],by rw[bT,d];rfl⟩
 |none :: _,_,h=>by simp[ZH]at h
 |some e :: r,ks,h=>by
  cases e with
  |Constant v a b=>cases v with
   |str k=>
    have h:(ZH r).map (k :: ·)=aa ks:=h;cases q:ZH r with
    |none=>rw[q]at h;cases h
    |some c=>
     rw[q]at h;cases h;obtain⟨f,d⟩:=XG q;exact⟨by rw[aY,aY,f],by rw[bT,d];rfl⟩
   |_=>simp[ZH]at h
  |_=>simp[ZH]at h
variable{vals:Li az}{keys:Li (Ot az)}{ks:Li Str}
variable{pos:Pos}
section
variable{f:az->Ot CE}
theorem Za8(n:∀ e c,f e=aa c->PE X e (tE X.K (ev F c))):∀ {vals:Li az}{keys:Li (Ot az)}{ks:Li Str}{c:CE},ZH keys=aa ks->cVs f vals=aa c->ks.length=vals.length->
  Ju c/\∃ i,PPs X pos keys vals i/\∀ O H (Q:Li (V×V)->Hp->Prop),tA X.K (ev F c) O H (λvs H'=>Q ((ks.zip vs).map λp=>(V.str p.1,p.2)) H')->tPairs i O H Q
 |[],keys,ks,c,g,j,l=>by
  cases j;cases ks with
  |cons _ _=>simp at l
  |nil=>
   have A:=(XG g).1;cases keys with
   |cons _ _=>simp at A
   |nil=>exact⟨trivial,[],pps_nil,λO H Q h=>Ws O H _ h⟩
 |v :: vals,keys,ks,c,g,j,l=>by
  cases ks with
  |nil=>simp at l
  |cons k ks=>
   have j:(match f v,cVs f vals with
    |some x,aa r=>aa (CE.aC x r)
    |_,_=>ab)=aa c:=j
   split at j
   .rename_i x r u w
    cases j;cases keys with
    |nil=>cases g
    |cons m keys=>
     cases m with
     |none=>simp[ZH]at g
     |some e=>
      cases e with
      |Constant C a b=>
       cases C with
       |str t=>
        have g:(ZH keys).map (t :: ·)=aa (k :: ks):=g;cases q:ZH keys with
        |none=>rw[q]at g;cases g
        |some s=>
         rw[q]at g;cases g;obtain⟨_,i,z,y⟩:=Za8 n q w (by simpa using l)
         refine⟨trivial,(tC (.str k),tE X.K (ev F x)) :: i,pps_cons pe_str (n v x u) z,λO H Q h=>?_⟩
         have h:=WW O H _ h;obtain⟨ad,U,st,d,st',E,S,e,p⟩:=h;exact⟨ad,U,st,d,st',E,S,e,λv ad' H' o D B=>y O H' _ (p v ad' H' o D B)⟩
       |_=>simp[ZH]at g
      |_=>simp[ZH]at g
   .exact Zb j
def Za4(L:∀ e c,f e=aa c->PE X e (tE X.K (ev F c))){c:CE}(x:ZH keys=aa ks)(M:cVs f vals=aa c)(I:keys.length=vals.length)(T:keys≠[])(u:keys.length<=15) :
  PE X (.Dict keys vals pos) (tE X.K (ev F (.dict ks c))):=by
 obtain⟨Z,C⟩:=XG x;obtain⟨N,B,R,P⟩:=Za8 (pos:=pos) L x M (by omega)
 refine Zk (pe_disp R C I T u) λO H Q h=>?_
 obtain⟨ad,U,st,d,st',E,S,e,p⟩:=h;have e:Zl (ev F c) (Zdo ks) U st=aa (d,st'):=e;unfold Zl at e;split at e
 .rename_i y m w
  obtain⟨ds,rfl,_⟩:=X7 N w;have e:(if ks.length=ds.length/\(ks.Nodup/\ks≠[])/\ks.length<=15 then aa (D.dct ks ds,m) else ab)=aa (d,st'):=e
  split at e
  .rename_i v
   cases e;intro a b t;refine P O _ _ ⟨ad,U,st,ds,_,E.mono (Ext.laid b),S.laid b,w,λvs g Y k W A=>?_⟩
   have j:Y a=aa (.dK []):=k.dk a [] upd_same;have n:∀ {l:Li (Key×V)} (kvs:Li (Li Key×V)),HO.dK l≠.dT kvs:=λ_ z=>nomatch z
   have s:ks.length=vs.length:=by rw[A.length];exact v.1
   have r:a∉g:=λz=>by
    rcases k.new a z with z|z
    .obtain⟨i,J⟩:=dC.mp z
     rcases S.has J with⟨o,q⟩|⟨o,q⟩
     .rw[b]at q;cases q
     .exact t o q
    .rw[upd_same]at z;cases z
   refine⟨j,(ks.zip vs).map λp=>((Sum.inr p.1:Key),p.2),by rw[bM];rfl,by rw[aD,List.length_zip];omega,?_⟩
   rw[WY _ [] (λ_ _ q G=>nomatch G) (Ww v.2.1.1),dZ]
   exact p _ g _ ((((Ext.laid b).trans k)).wrK n j b) (W.wrK n j r) (.dct upd_same rfl v.2.1 s (A.wrK n j))
  .exact Zb e
 .exact Zb e
end
variable [ClsTab]
def VJ:bh "tuple"=aa (.type "tuple"):=by decide +kernel
def ZbV:bh "list"=aa (.type "list"):=by decide +kernel
def Zeg:bh "int"=aa (.type "int"):=by decide +kernel
def ZbU:bh "bool"=aa (.type "bool"):=by decide +kernel
def Zei:bh "str"=aa (.type "str"):=by decide +kernel
def WK:bh "isinstance"=aa (.builtin "isinstance"):=by decide +kernel
def Q7:bh "sorted"=aa (.builtin "sorted"):=by decide +kernel
def Zeh:bh "len"=aa (.builtin "len"):=by decide +kernel
variable{as:Li az}{ap cp:Pos}{m:Str}
variable{G:Gs}
section
def Zo(G:Gs)(F:Nat->Fn)(n:Nat):Prop:=∀ X sc N,Cxt X G F sc N->∀ e c,cE G n sc N e=aa c->SE X F e c
def Ys(G:Gs)(F:Nat->Fn)(n:Nat):Prop:=∀ X sc N,Cxt X G F sc N->∀ es c,cEs G n sc N es=aa c->PA X es (tA X.K (ev F c))/\Ju c/\es.all Zf=ae/\(es=[]->c=.aN)
def W8(G:Gs)(F:Nat->Fn)(n:Nat):Prop:=∀ X sc N,Cxt X G F sc N->∀ e c,cO G n sc N e=aa c->PO X e (tO X.K (ev F c))
def Zbk{v:Const}{k:Nat}{c:CE}(h:CE.ofConst v=aa c):SE X F (.Constant v k pos) c:=by
 cases v with
 |none=>cases h;exact .of (Zk pe_non (V0 λ_ _=>.non))
 |bool b=>cases h;exact .of (Zk pe_bl (V0 λ_ _=>.bl b))
 |int i=>cases h;exact .of (Zk pe_int (V0 λ_ _=>.int i))
 |str x=>cases h;exact .of (Zk pe_str (V0 λ_ _=>.str x))
 |_=>exact Zb h
def ZcS{x:Str}{c:CE}(K:Cxt X G F sc N)(h:ZaM G sc N x=aa c):SE X F (.Name x pos) c:=by
 unfold ZaM at h;split at h
 .rename_i a
  cases q:N.idxOf? x with
  |none=>rw[q]at h;cases h
  |some i=>
   rw[q]at h;cases h;obtain⟨j,g⟩:=Vk a;exact .of (Zk (pe_var (i:=i) (by rw[K.hN];exact Xt q) (K.vis x a) j g) Zcq)
 .split at h
  .rename_i b
   split at h
   .rename_i d q
    cases h;obtain⟨v,u,e,r,f⟩:=K.gl x _ q;exact .of (Zk (pe_glob (K.glb x b) e r (XD b)) (V0 f))
   .exact Zb h
  .exact Zb h
def pa1{a:az}{t:TE}(b:Zf a=ae)(c:PE X a t):PA X [a] (tCons t tNil):=pa_cons c pa_nil (Ze b)
def pa2{a b:az}{t u:TE}(d:Zf a=ae)(c:Zf b=ae)(f:PE X a t)(e:PE X b u):PA X [a,b] (tCons t (tCons u tNil)):=pa_cons f (pa1 c e) (Ze d)
def ZcL{f:Str}{a:az}{x c:CE}{p:Pos}(K:Cxt X G F sc N)(i:ZA sc f=ae)(d:X.mg f=ab)(b:Zf a=ae)(A:PE X a (tE X.K (ev F x)))(h:Zef f x=aa c) :
  PE X (.Call (.Name f p) [a] [] pos) (tE X.K (ev F c)):=by 
 have g:=K.glb f i;unfold Zef at h;split at h
 .rename_i e;subst e;cases h
  exact Zk (pe_callB Q8 g d Zeh (pa1 b A) (by decide) (by decide) (Ze b) rfl) XE
 .split at h
  .rename_i e;subst e;cases h
   exact Zk (pe_callTy VM g d VJ (pa1 b A) (by decide) (by decide) (Ze b) rfl) XE
  .split at h
   .rename_i e;subst e;cases h
    exact Zk (pe_callTy UB g d ZbV (pa1 b A) (by decide) (by decide) (Ze b) rfl) XE
   .split at h
    .rename_i e;subst e;cases h
     exact Zk (pe_callB (UA K.calm) g d Q7 (pa1 b A) (by decide) (by decide) (Ze b) rfl) XE
    .exact Zb h
def Zcn{K:Fg}(O:L2.St)(H:Hp)(Q:VK)(h:tE K (Zl fa (rsD af)) O H Q):ZgB K (tE K fa) (tE K (ev F (.neg (.c (.int 1))))) O H Q:=by
 obtain⟨ad,U,st,d,st',E,S,e,p⟩:=h;unfold Zl at e;split at e
 .rename_i x b o
  refine⟨ad,U,st,x,b,E,S,o,λy g A k u t=>⟨g,U,b,.int (-1),b,E.mono k,u,rfl,λw f z j i s=>⟨s.ofInt,?_⟩⟩⟩
  unfold rsD at e;split at e
  .split at e
   .rename_i c v q
    cases e;obtain⟨a,rfl,r⟩:=(t.mono j).ofLst;obtain⟨ys,n,sq⟩:=i.list r q;refine⟨a,ys,rfl,sq,λl m=>p.later (k.trans j) _ (f++[l]) _ (Ext.push m) (i.push m (VU n)) (.newL ?_)⟩
    rw[<-i.len];exact Zt
   .exact Zb e
  .exact Zb e
 .exact Zb e
def Zec{b:az}(a:Zf b=ae):(backTo pos (bg [b] X.env)).any (·.1)=af:=XO (by rw[bT,a];rfl)
def ZcM{f:Str}{a b:az}{x y c:CE}{p:Pos}(K:Cxt X G F sc N)(i:ZA sc f=ae)(g:X.mg f=ab)(e:Zf a=ae)(d:Zf b=ae)(A:PE X a (tE X.K (ev F x)))(B:PE X b (tE X.K (ev F y)))(h:ZfH f x y=aa c):PE X (.Call (.Name f p) [a,b] [] pos) (tE X.K (ev F c)):=by cases h
def Zce{K:Fg}{T:Ty}(O:L2.St)(H:Hp)(Q:VK)(h:tE K (Zl fa (Zau T)) O H Q) :
  tCB (λvs H Q=>∃ v,vs=[v,.ty (tyN T)]/\rC K (on1 (Zau T)) [v] H Q) (tCons (tE K fa) (tCons (tC (.ty (tyN T))) tNil)) O H Q:=by
 obtain⟨ad,U,st,d,st',E,S,e,p⟩:=h;unfold Zl at e;split at e
 .rename_i x a g
  exact⟨ad,U,st,x,a,E,S,g,λf b k c j i=>⟨f,rfl,b,a,[x],d,st',j,.cons i .nil,e,p.later c⟩⟩
 .exact Zb e
def Zbz{b:az}{T:Ty}(K:Cxt X G F sc N)(h:QW G sc b=aa T):Zf b=ae/\PE X b (tC (.ty (tyN T))):=by
 cases b with
 |Name t p=>
  have a:Zfp G sc t=aa T:=h;clear h;unfold Zfp at a;split at a
  .rename_i f
   rw[Ba]at f;have c:X.mg t=ab:=by
    have z:=f.2;unfold Qt at z;split at z
    .rename_i q;exact K.gl t _ q
    .cases z
   have d:=K.glb t f.1;refine⟨rfl,?_⟩;unfold ZgD at a;split at a
   .rename_i e;subst e;cases a
    exact pe_bltn d c Zeg rfl
   .split at a
    .rename_i e;subst e;cases a
     exact pe_bltn d c ZbU rfl
    .split at a
     .rename_i e;subst e;cases a
      exact pe_bltn d c Zei rfl
     .split at a
      .rename_i e;subst e;cases a
       exact pe_bltn d c VJ rfl
      .exact Zb a
  .exact Zb a
 |_=>simp[QW]at h
def Ze8{a b:az}{x:CE}{T:Ty}{p:Pos}(K:Cxt X G F sc N)(f:ZA sc "isinstance"=ae)(e:X.mg "isinstance"=ab)(d:Zf a=ae)(A:PE X a (tE X.K (ev F x)))(g:QW G sc b=aa T) :
  PE X (.Call (.Name "isinstance" p) [a,b] [] pos) (tE X.K (ev F (.isi T x))):=by
 obtain⟨c,B⟩:=Zbz K g;exact Zk (pe_callB (JL (T:=T)) (K.glb _ f) e WK (pa2 d c A B) (by decide) (by decide) (Ze d) (Zec c)) Zce
def ZcO{f:Str}{d:CE}{a:Nat}{p:Pos}(K:Cxt X G F sc N)(c:ZA sc f=ae)(u:G.lookup f=aa (.fn i a ds))(y:as.length<=a/\a<=as.length+ds.length)(A:PA X as (tA X.K (ev F d))/\Ju d/\as.all Zf=ae/\(as=[]->d=.aN)):PE X (.Call (.Name f p) as [] pos) (tE X.K (ev F (.call i d (ds.drop (as.length+ds.length - a))))):=by
 obtain⟨k,fa,fd,x,r,m,n,o,t⟩:=K.gl f _ u;obtain⟨v,w,q,l,b⟩:=t (as.length+ds.length - a) (by omega)
 obtain⟨j,_,g,s⟩:=A;cases as with
 |nil=>
  refine Zk (pe_call0 (E:=E0) r m (K.glb f c) n o b l pass0 (XD c)) λO H Q h=>?_
  rw[s rfl]at h;exact Ws O H _ (V1 (E:=E0) q O H Q h)
 |cons e es=>
  rw[bT,Ba]at g;exact Zk (pe_call (E:=E0) r m (K.glb f c) n o b l pass0 j (XD c) (Ze g.1) (XO g.2)) (V1 q)
def J2{nm:Str}{b:az}(K:Cxt X G F sc N)(h:fnA G sc nm b=aa as):∃ p pos,b=.Call (.Name nm p) as [] pos/\Gl X nm/\X.mg nm=ab:=by
 obtain⟨q,a,g⟩:=fJ.mp h;refine Xi g λe f=>?_
 obtain⟨rfl,d,c⟩:=e;cases f;unfold Zdm at a;split at a
 .cases a
  refine⟨_,_,rfl,K.glb _ d,?_⟩;unfold Qt at c;split at c
  .rename_i q;exact K.gl _ _ q
  .cases c
 .cases a
def ZcA{a:az}(h:ZeP as=aa a):as=[a]:=by
 cases as with
 |nil=>exact Zb h
 |cons x as=>cases as with
  |nil=>cases h;rfl
  |cons _ _=>exact Zb h
def WP{b:az}(K:Cxt X G F sc N)(h:ZJ G sc b=aa e):∃ p pos,b=.Call (.Name "range" p) [e] [] pos/\Gl X "range"/\X.mg "range"=ab:=by
 obtain⟨as,a,c⟩:=fJ.mp h;rw[ZcA c]at a;exact J2 K a
def Ze6{a b:az}{x y:CE}{c:Bool}(K:Cxt X G F sc N)(g:ZJ G sc b=aa e)(d:Zey op=aa c)(f:Zf e=ae)(A:PE X a (tE X.K (ev F x)))(B:PE X e (tE X.K (ev F y))):SE X F (.Compare a [op] [b] pos) (.inR c x y):=by cases d
def Zfa{f:Str}{a:az}{o:Ot CE}{c:CE}{p:Pos}(K:Cxt X G F sc N)(g:ZA sc f=ae)(d:X.mg f=ab)(b:U9 G sc f a=aa e)(B:∀ c,o=aa c->Zf e=ae/\PE X e (tE X.K (ev F c)))(h:o.map CE.tupR=aa c):SE X F (.Call (.Name f p) [a] [] pos) c:=by cases b
def rLk(K:Fg)(A:Ad)(ks:Li Str)(ds:Li D):R2:=λx y H Q=>x=.ref A/\∃ k d,y=.str k/\Z0 ks ds k=aa d/\∀ v,(∀ ad H,Den K ad H v d)->Q v H
def Zf6{A:Ad}{o:Obj}{es:Array DictEntry}{f:Nat}(lk:X.K.lookup A=aa o)(ex:o.ExactDict)(hd:o.data=.dict es f)(B:(A==bt)=af)(nd:ks.Nodup)(r:EsOk X.w.params X.K es.toList ks ds):IxR X (rLk X.K A ks ds):=by
 intro a slice pQ s O H x y v u Q I i g h p;obtain⟨rfl,k,d,rfl,c,q⟩:=h;cases i;obtain⟨kvs,j,l,m,val⟩:=r.open (P:=X.prog);have dd:s.heap.DictOf (mixKind X.prog X.w) A kvs:=by
  refine⟨o,es,f,I.kIn A o lk,ex,hd,λe c=>m e (by simpa using c),j,?_⟩
  rw[l];exact fH.mpr (nd.imp λh z=>h (Sum.inr.inj z))
 obtain⟨w,z,n,b,t⟩:=val k d c;exact tail_any dd.typeIs PySem.F.slot_dict_getitem.lookup (wpAny_getItem_of (kV_is (k:=Sum.inr k) g) dd.mapOf n ⟨z,H,I.tok _,b,q z t⟩) p
def Zaj{K:Fg}{A:Ad}(O:L2.St)(H:Hp)(Q:VK)(h:tE K (Zl fa (ZaF ks ds)) O H Q):tOp (rLk K A ks ds) (tC (.ref A)) (tE K fa) O H Q:=by
 obtain⟨ad,U,st,d,st',E,S,e,p⟩:=h;unfold Zl at e;split at e
 .rename_i x f g
  unfold ZaF at e;split at e
  .rename_i k
   split at e
   .rename_i n i
    cases e;exact⟨ad,U,st,.str k,_,E,S,g,λv a b c m l=>⟨rfl,k,d,l.ofStr,i,λw j=>p w a b c m (j a b)⟩⟩
   .exact Zb e
  .exact Zb e
 .exact Zb e
def ZcR{f:Str}{a u v:az}{x y:CE}{p:Pos}(K:Cxt X G F sc N)(e:ZA sc f=ae)(d:X.mg f=ab)(b:UP G sc f a=aa (u,v))(hu:Zf u=ae)(c:Zf v=ae)(A:PE X u (tE X.K (ev F x)))(B:PE X v (tE X.K (ev F y))):PE X (.Call (.Name f p) [a] [] pos) (tE X.K (ev F (.lstR x y))):=by cases b
def ZcQ{a b:az}{y:CE}(K:Cxt X G F sc N)(c:QB G sc a=aa (ks,ds))(g:Zf b=ae)(B:PE X b (tE X.K (ev F y))):PE X (.Subscript a b pos) (tE X.K (ev F (.look ks ds y))):=by
 unfold QB at c;split at c
 .split at c
  .rename_i d
   split at c
   .rename_i q
    cases c;obtain⟨A,o,es,k,h,lk,ex,i,f,e,j⟩:=K.gl _ _ q;exact Zk (pe_ix (Zf6 lk ex i f e j) (pe_glob (K.glb _ d) h (show RelV (.ref A) (.ref A) from rfl) (XD d)) B (V6 g)) Zaj
   .exact Zb c
  .exact Zb c
 .exact Zb c
def Zgq:V->Li V->Hp->VK->Prop:=λx vs H Q=>∃ p kvs k a,x=.ref p/\vs=[kV k,a]/\H p=aa (.dK kvs)/\Q ((valV kvs k).getD a) H
def ZeM:MtM X "dict.get" Zgq:=by
 intro pQ s O H x vs v r Q I g rv h;obtain⟨p,kvs,k,n,rfl,rfl,l,q⟩:=h;cases g;obtain⟨t,f,rfl,j,i⟩:=rv.two;obtain⟨o,m,e,d,dd⟩:=dk_of I.hok l;refine call_meetsIn PySem.F.slot_dict_get dd.typeIs PySem.F.entry_dict_get (PySem.F.args_dict_get_3 _ _ _) (meets_dict_get_default (mixKind X.prog X.w) p (kV_is j) m f) ⟨_,dd.mapOf,?_⟩;have a:=d.val k;cases b:valV kvs k with
 |none=>
  cases c:valueAt e k with
  |none=>rw[b]at q;exact⟨n,H,I.tok _,i,q⟩
  |some w=>rw[b,c]at a;exact a.elim
 |some z=>
  cases c:valueAt e k with
  |none=>rw[b,c]at a;exact a.elim
  |some w=>rw[b]at q;rw[b,c]at a;exact⟨z,H,I.tok _,a,q⟩
def Zaa{t fd:Ev}(O:L2.St)(H:Hp)(Q:VK)(h:tE X.K (Yz fa t fd getD) O H Q):tBM X.K "dict" Zgq (tE X.K fa) (tCons (tE X.K t) (tCons (tE X.K fd) tNil)) O H Q:=by
 obtain⟨ad,U,st,d,st',E,S,e,p⟩:=h;unfold Yz at e;split at e
 .rename_i x c J
  split at e
  .rename_i y b I
   split at e
   .rename_i z D G
    unfold getD at e;split at e
    .rename_i ks vs k
     cases e;refine⟨ad,U,st,_,c,E,S,J,λv1 s H1 j W v=>?_⟩
     obtain⟨a,Y,rfl,L,hl,F⟩:=v.ofDct;refine⟨.inr (.inr (.inl ⟨rfl,.inl ⟨_,L⟩⟩)),s,U,c,_,b,E.mono j,W,I,λZ r H2 i V T=>⟨r,U,b,_,_,E.mono (j.trans i),V,G,λC f A g w R=>?_⟩⟩
     obtain⟨a',B,N,n,m,l⟩:=(v.mono (i.trans g)).ofDct;cases N;have M:=(T.mono g).ofStr;refine⟨a,_,Sum.inr k,C,rfl,by rw[M];rfl,n,?_⟩
     rcases XH (k:=k) l m with⟨u,d0,q,o,P⟩|⟨q,o⟩
     .rw[q]
      rw[o]at p;exact p _ f A (j.trans (i.trans g)) w P
     .rw[q]
      rw[o]at p;exact p _ f A (j.trans (i.trans g)) w R
    .exact Zb e
   .exact Zb e
  .exact Zb e
 .exact Zb e
def ZcP{ks:Li (Ot az)}{vs:Li az}{a b:az}{x y z:CE}{f:Pos}(K:Cxt X G F sc N)(c:(ap.endLine==cp.line)=ae)(e:Zf a=ae)(d:Zf b=ae)(D:PE X (.Dict ks vs f) (tE X.K (ev F x)))(A:PE X a (tE X.K (ev F y)))(B:PE X b (tE X.K (ev F z))) :
  PE X (.Call (.Attribute (.Dict ks vs f) "get" ap) [a,b] [] cp) (tE X.K (ev F (.dget x y z))):=by
 refine Zk (pe_bm PySem.F.plainAttrs_dict PySem.F.slot_dict_get PySem.F.type_dict_get ZeM D (pa2 e d A B) rfl ?_ c (Ze e) (Zec d)) Zaa;rw[Ze e,Ze d];rfl
def Ze5{u:Str}{a b:az}{x y z:CE}{up:Pos}(K:Cxt X G F sc N)(c:(ap.endLine==cp.line)=ae)(e:Zf a=ae)(d:Zf b=ae)(D:PE X (.Name u up) (tE X.K (ev F x)))(A:PE X a (tE X.K (ev F y)))(B:PE X b (tE X.K (ev F z))) :
  PE X (.Call (.Attribute (.Name u up) "get" ap) [a,b] [] cp) (tE X.K (ev F (.dgN x y z))):=by
 refine Zk (pe_bm PySem.F.plainAttrs_dict PySem.F.slot_dict_get PySem.F.type_dict_get (QF (by have:=K.hu;omega)) D (pa2 e d A B) rfl ?_ c (Ze e) (Zec d)) Zcd
 rw[Ze e,Ze d];rfl
def Ze4{u:Str}{a:az}{x y:CE}{up:Pos}(K:Cxt X G F sc N)(b:(ap.endLine==cp.line)=ae)(d:Zf a=ae)(D:PE X (.Name u up) (tE X.K (ev F x)))(A:PE X a (tE X.K (ev F y))) :
  PE X (.Call (.Attribute (.Name u up) "get" ap) [a] [] cp) (tE X.K (ev F (.dgN x y (.c .non)))):=
 Zk (pe_bm PySem.F.plainAttrs_dict PySem.F.slot_dict_get PySem.F.type_dict_get (QF (by have:=K.hu;omega)) D (pa1 d A) rfl (by rw[Ze d];rfl) b (Ze d) rfl) Zcc
def Zgt{p:az×az}{x y z:CE}(K:Cxt X G F sc N)(d:∀ e c,cE G n sc N e=aa c->PE X e (tE X.K (ev F c)))(a:QJ keys=aa p)(h:cE G n sc N p.1=aa x)(g:cE G n sc N p.2=aa y)(f:(ZcB vals).bind (cE G n sc N)=aa z)(j:Zf p.1=ae)(i:Zf p.2=ae) :
  PE X (.Dict keys vals pos) (tE X.K (ev F (.dd x y z))):=by
 obtain⟨e,b,k⟩:=fJ.mp f;obtain rfl:vals=[e]:=by
  unfold ZcB at b;split at b
  .cases b;rfl
  .exact Zb b
 unfold QJ at a;split at a
 .unfold WZ at a
  split at a
  .obtain rfl:=aw a
   exact Zk (Zgk (by have:=K.hu;omega) (pe_tup (pa2 j i (d _ x h) (d _ y g))) (d e z k)) Zew
  .exact Zb a
 .exact Zb a
def Ze7{a b:az}{x:CE}{l:Li Nat}{p:Pos}(K:Cxt X G F sc N)(f:ZA sc "isinstance"=ae)(e:X.mg "isinstance"=ab)(d:Zf a=ae)(A:PE X a (tE X.K (ev F x)))(c:UC G sc b=aa l) :
  PE X (.Call (.Name "isinstance" p) [a,b] [] pos) (tE X.K (ev F (.isc l x))):=by cases c
section
open PySem.SeqAt PySem.MeetsSeq PySem.MeetsSeq2 PySem.MeetsSeq3 PySem.SeqRoads2
end
def Zcs{y:CE}(h:ZeD y=ae):y=.neg (.c (.int 1)):=by
 unfold ZeD at h;split at h
 .rfl
 .cases h
def U3{b:az}{p:Ot az×Ot az}(q:We b=aa p):∃ a,b=.Slice p.1 p.2 ab a:=by
 unfold We at q;split at q
 .cases q;exact⟨_,rfl⟩
 .exact Zb q
def Zbd{b s:az}(q:QP b=aa s):∃ a,b=.Slice ab ab (aa s) a:=by
 unfold QP at q;split at q
 .cases q;exact⟨_,rfl⟩
 .exact Zb q
def Zgu{op:UnaryOp}{a:az}{o:Ot CE}{c:CE}(A:∀ x,o=aa x->SE X F a x)(h:unC op o=aa c):SE X F (.UnaryOp op a pos) c:=by
 cases op with
 |Not=>exact WA (P:=SE X F _) (show o.map CE.not=aa c from h) λx b=>⟨Zk (pe_not (A x b).pe) Zal,WC (pt_not (A x b).pt) Zak⟩
 |USub=>exact WA (P:=SE X F _) (show o.map CE.neg=aa c from h) λx b=>.of (Zk (pe_un Zde (A x b).pe) Zap)
 |Invert=>exact WA (P:=SE X F _) (show o.map CE.inv=aa c from h) λx b=>.of (Zk (pe_un Zdd (A x b).pe) Zap)
 |_=>exact Zb h
section
variable {X:Cx}{sc:bj}{N:Li Str}{n:Nat}{c:CE} (K:Cxt X G F sc N) (hf:∀ e c,cE G n sc N e=aa c->SE X F e c)
include K hf
def Ze3{a:az}{d:Li CmpOp}{bs:Li az}(h:ZfK G sc (cE G n sc N) (cE G n sc N a) d bs=aa c):SE X F (.Compare a d bs pos) c:=by
 cases d with
 |nil=>exact Zb h
 |cons op d=>cases bs with
  |nil=>cases d with
   |nil=>exact Zb h
   |cons _ r=>cases r<;>cases h
  |cons b bs=>cases d with
   |nil=>cases bs with
    |cons _ _=>exact Zb h
    |nil=>
     replace h:(match ZJ G sc b with
      |some e=>o3 CE.inR (Zey op) (cE G n sc N a) (cE G n sc N e)
      |none=>o2 (CE.cmp op) (cE G n sc N a) (cE G n sc N b))=aa c:=h
     cases i:ZJ G sc b with
     |some e=>
      rw[i]at h;exact Xu (P:=SE X F _) h λl x y k g f=>Ze6 K i k (Zd f) (hf a x g).pe (hf e y f).pe
     |none=>
      rw[i]at h;exact ZQ (P:=SE X F _) h λx y g f=>⟨Zk (pe_cmpR (QH K.hu) (hf a x g).pe (hf b y f).pe (X4 (Zd f))) Vf,WC (pt_cmpR (QH K.hu) (hf a x g).pe (hf b y f).pe (X4 (Zd f))) λO H Q q=>Vf O H _ (Zao O H Q q)⟩
   |cons j d=>exact Zb h
omit K in
def ZcN{op:BoolOp}{vs:Li az}{pos:Pos}(h:Zdl (cE G n sc N) op pos vs=aa c):SE X F (.BoolOp op vs pos) c:=by
 cases vs with
 |nil=>exact Zb h
 |cons a r=>cases r with
  |nil=>
   have A:=hf a c h;refine⟨pe_one A.pe,?_⟩;cases op with
   |And=>exact(pw_and1 A.pt).pt
   |Or=>exact(pw_or1 A.pt).pt
  |cons b r=>cases op with
   |And=>exact ZQ (P:=SE X F _) (show o2 CE.and (cE G n sc N a) (cE G n sc N (.BoolOp .And (b :: r) pos))=aa c from h) λx y e d=>⟨Zk (pe_and (hf a x e).pe (hf _ y d).pe) J7,WC (pw_and (hf a x e).pt (Ue (hf _ y d).pt)).pt J6⟩
   |Or=>exact ZQ (P:=SE X F _) (show o2 CE.or (cE G n sc N a) (cE G n sc N (.BoolOp .Or (b :: r) pos))=aa c from h) λx y e d=>⟨Zk (pe_or (hf a x e).pe (hf _ y d).pe) Zcj,WC (pw_or (hf a x e).pt (Ue (hf _ y d).pt)).pt Zci⟩
def Ze9(e:W8 G F n){a b:az}(h:Zfo G sc (cE G n sc N) (cO G n sc N) a b=aa c):SE X F (.Subscript a b pos) c:=by
 unfold Zfo at h;cases q:We b with
 |some p=>
  obtain⟨lo,t⟩:=p;rw[q]at h;obtain⟨j,rfl⟩:=U3 q;exact Xu (P:=SE X F _) h λx l u f r m=>.of (Zk (pe_slice ZhO (hf a x f).pe (e X sc N K lo l r) (e X sc N K t u m)) Ji)
 |none=>
  rw[q]at h;dsimp only at h;cases g:QP b with
  |some s=>
   rw[g]at h;obtain⟨j,rfl⟩:=Zbd g;exact j_e h λh=>ZQ (P:=λo=>o=aa c->SE X F _ c) h (λx y f d h=>Xi h λk h=>by
    cases h;rw[Zcs k]at d;exact .of (Zk (ZeU (hf a x f).pe (hf s _ d).pe) Zcn)) rfl
  |none=>
   rw[g]at h;dsimp only at h;cases i:QB G sc a with
   |some p=>
    obtain⟨ks,ds⟩:=p;rw[i]at h;exact WA (P:=SE X F _) h λy d=>.of (ZcQ K i (Zd d) (hf b y d).pe)
   |none=>
    rw[i]at h;exact ZQ (P:=SE X F _) h λx y f d=>.of (Zk (pe_ix (ZgW K.hu) (hf a x f).pe (hf b y d).pe (V6 (Zd d))) Vf)
def Zbh{f:Str}{a:az}{p:Pos}(i:ZA sc f=ae)(d:X.mg f=ab)(h:JI G sc f a (cE G n sc N)=aa c):SE X F (.Call (.Name f p) [a] [] pos) c:=by
 unfold JI at h;cases j:U9 G sc f a with
 |some e=>
  rw[j]at h;exact Zfa K i d j (λc l=>⟨Zd l,(hf e c l).pe⟩) h
 |none=>
  rw[j]at h;dsimp only at h;cases g:UP G sc f a with
  |some q=>
   obtain⟨u,v⟩:=q;rw[g]at h;exact ZQ (P:=SE X F _) h λx y b k=>.of (ZcR K i d g (Zd b) (Zd k) (hf u x b).pe (hf v y k).pe)
  |none=>
   rw[g]at h;exact j_e h λh=>WA (P:=λo=>o=aa c->SE X F _ c) h (λx b h=>.of (ZcL K i d (Zd b) (hf a x b).pe h)) rfl
def Zbi{f:Str}{a b:az}{p:Pos}(i:ZA sc f=ae)(e:X.mg f=ab)(h:JJ G sc f a b (cE G n sc N)=aa c):SE X F (.Call (.Name f p) [a,b] [] pos) c:=by
 unfold JJ at h;by_cases k:f = "isinstance"
 .subst k
  rw[aq rfl]at h;cases g:UC G sc b with
  |some l=>
   rw[g]at h;exact WA (P:=SE X F _) h λx q=>.of (Ze7 K i e (Zd q) (hf a x q).pe g)
  |none=>
   rw[g]at h;exact ZQ (P:=SE X F _) h λx T d m=>.of (Ze8 K i e (Zd d) (hf a x d).pe m)
 .rw[ar k]at h
  exact j_e h λh=>ZQ (P:=λo=>o=aa c->SE X F _ c) h (λx y d j h=>.of (ZcM K i e (Zd d) (Zd j) (hf a x d).pe (hf b y j).pe h)) rfl
def Zbj(j:Ys G F n){f:Str}{p:Pos}(h:JK G sc f as (cEs G n sc N as) (cE G n sc N)=aa c):SE X F (.Call (.Name f p) as [] pos) c:=by
 unfold JK at h;cases d:ZA sc f with
 |false=>rw[d]at h;cases h
 |true=>
 rw[d,aq rfl]at h;cases e:G.lookup f with
 |none=>rw[e]at h;cases h
 |some g=>
  rw[e]at h;cases g with
  |fn i q ds=>exact Xi h λm h=>WA (P:=SE X F _) h λo k=>.of (ZcO K d e m (j X sc N K as o k))
  |blt=>
   have l:X.mg f=ab:=K.gl f _ e;cases as with
   |nil=>exact Zb h
   |cons a as=>cases as with
    |nil=>exact Zbh K hf d l h
    |cons b as=>cases as with
     |nil=>exact Zbi K hf d l h
     |cons _ _=>exact Zb h
  |_=>exact Zb h
def ZcK(p:Ys G F n){k:az}(h:Zdk G k m ap as pos (cEs G n sc N as) (cE G n sc N)=aa c):SE X F (.Call (.Attribute k m ap) as [] pos) c:=by
 cases k with
 |Dict ks vs s=>cases as with
  |nil=>exact Zb h
  |cons a as=>cases as with
   |nil=>exact Zb h
   |cons b as=>cases as with
    |cons _ _=>exact Zb h
    |nil=>
     refine Xi h λj h=>Xu (P:=SE X F _) h λx y z e l d=>?_
     obtain⟨rfl,f⟩:=j;exact .of (ZcP K f (Zd l) (Zd d) (hf _ x e).pe (hf a y l).pe (hf b z d).pe)
 |Name y r=>
  refine Xi h λj h=>?_
  by_cases g:m = "pop"
  .subst g
   rw[aq rfl]at h;refine Xi h λq h=>WA (P:=SE X F _) h λx e=>?_
   cases as with
   |cons _ _=>exact nomatch q
   |nil=>exact .of (Zk (pe_bm0 PySem.F.plainAttrs_list PySem.F.slot_list_pop PySem.F.type_list_pop mt_pop (hf _ x e).pe rfl j.1) Zck)
  .rw[ar g]at h
   by_cases i:m = "get"
   .subst i
    rw[aq rfl]at h;cases as with
    |nil=>exact Zb h
    |cons a as=>cases as with
     |nil=>exact ZQ (P:=SE X F _) h λx z e d=>.of (Ze4 K j.1 (Zd d) (hf _ x e).pe (hf a z d).pe)
     |cons b as=>cases as with
      |cons _ _=>exact Zb h
      |nil=>exact Xu (P:=SE X F _) h λx u z e o d=>.of (Ze5 K j.1 (Zd o) (Zd d) (hf _ x e).pe (hf a u o).pe (hf b z d).pe)
   .rw[ar i]at h
    exact nomatch h
 |_=>exact Zb h
end
def U6(H:Zo G F n)(j:Ys G F n)(E:W8 G F n)(u:∀ X sc N,Cxt X G F sc N->∀ o gens i pos c,cE G (n+1) sc N (.ListComp o gens i pos)=aa c->SE X F (.ListComp o gens i pos) c):Zo G F (n+1):=by
 intro X sc N K e c h;have g:=H X sc N K;have no:∀ {P:Prop},(ab:Ot CE)=aa c->P:=λz=>nomatch z
 cases e with
 |Constant v k pos=>exact Zbk h
 |Name x pos=>exact ZcS K h
 |BinOp a op b pos=>exact ZQ (P:=SE X F _) (show o2 (CE.bin op) (cE G n sc N a) (cE G n sc N b)=aa c from h) λx y s r=>.of (Zk (pe_op ZcC (g a x s).pe (g b y r).pe) Vf)
 |UnaryOp op a pos=>exact Zgu (g a) h
 |Compare a L bs pos=>exact Ze3 K g h
 |BoolOp op vs pos=>exact ZcN g h
 |IfExp t a b pos=>exact Xu (P:=SE X F _) (show o3 CE.ife (cE G n sc N t) (cE G n sc N a) (cE G n sc N b)=aa c from h) λz x y l s r=>⟨Zk (pe_ifExp (g t z l).pt (g a x s).pe (g b y r).pe) Zex,ZeW (g t z l).pt (g a x s).pt (g b y r).pt⟩
 |Tuple es k pos=>
  refine WA (P:=SE X F _) (show(cEs G n sc N es).map CE.tupE=aa c from h) λx q=>?_
  obtain⟨A,C,_,_⟩:=j X sc N K es x q;exact .of (Zk (pe_tup A) (Zcp (λU st ds st' e=>by obtain⟨w,z,l⟩:=X7 C e;cases z;exact l) λU st d st' e=>by obtain⟨w,z,l⟩:=X7 C e;exact⟨w,z⟩))
 |List es pos=>
  refine WA (P:=SE X F _) (show(cEs G n sc N es).map CE.lstE=aa c from h) λx q=>?_
  obtain⟨A,C,_,_⟩:=j X sc N K es x q;exact .of (Zk (pe_lst A) (Zcg λU st ds st' e=>by obtain⟨w,z,l⟩:=X7 C e;cases z;exact l))
 |Dict keys vals pos=>cases keys with
  |nil=>cases vals with
   |nil=>cases h;exact .of (Zk pe_dnewT Zab)
   |cons _ _=>exact Zb h
  |cons B keys=>
   have h:(match QJ (B :: keys) with
    |some p=>o3 .dd (cE G n sc N p.1) (cE G n sc N p.2) ((ZcB vals).bind (cE G n sc N))
    |none=>og ((B :: keys).length=vals.length/\(B :: keys)≠[]/\(B :: keys).length<=15) (o2 CE.dict (ZH (B :: keys)) (cVs (cE G n sc N) vals)))=aa c:=h
   split at h
   .rename_i p I
    exact Xu (P:=SE X F _) h λx y z s r l=>.of (Zgt K (λe c h=>(g e c h).pe) I s r l (Zd s) (Zd r))
   .exact Xi h λJ h=>ZQ (P:=SE X F _) h λks Q I M=>.of (Za4 (λe c h=>(g e c h).pe) I M J.1 J.2.1 J.2.2)
 |Subscript a b pos=>exact Ze9 K g E h
 |Call f as D pos=>cases D with
  |cons _ _=>exact no h
  |nil=>cases f with
   |Attribute O m ap=>exact ZcK K g j h
   |Name f p=>exact Zbj K g j h
   |_=>exact no h
 |ListComp o gens i pos=>exact u X sc N K o gens i pos c h
 |_=>exact no h
def Ul(a:Zo G F n)(b:Ys G F n):Ys G F (n+1):=by
 intro X sc N K es c h;cases es with
 |nil=>
  simp only[cEs]at h;cases h;exact⟨Za1 pa_nil Ws,trivial,rfl,λ_=>rfl⟩
 |cons e es=>
  refine ZQ (P:=λc=>PA X _ (tA X.K (ev F c))/\Ju c/\_/\(_->c=.aN)) (show o2 CE.aC (cE G n sc N e) (cEs G n sc N es)=aa c from h) λx r d f=>?_
  obtain⟨A,i,g,_⟩:=b X sc N K es r f;exact⟨Za1 (pa_cons (a X sc N K e x d).pe A (Ze (Zd d))) WW,trivial,by rw[bT,g,Zd d];rfl,λz=>nomatch z⟩
def Um(b:Zo G F n):W8 G F (n+1):=by
 intro X sc N K e c h;cases e with
 |none=>
  simp only[cO]at h;cases h;exact Za7 po_none Zch
 |some e=>
  simp only[cO]at h;cases q:cE G n sc N e with
  |none=>rw[q]at h;cases h
  |some x=>
   rw[q]at h;cases h;refine Za7 (po_some (b X sc N K e x q).pe) λO H Q k=>?_
   obtain⟨ad,U,st,d,st',E,S,a,p⟩:=k;have a:Zl (ev F x) Uc U st=aa (d,st'):=a;unfold Zl at a;split at a
   .rename_i y f g
    cases y with
    |int i=>
     cases a;rcases p with⟨z,_⟩|⟨j,z,p⟩
     .cases z
     .cases z
      exact⟨ad,U,st,.int i,_,E,S,g,λv ad' H' x m l=>⟨i,l.ofInt,p ad' H' x m⟩⟩
    |_=>simp[Uc]at a
   .exact Zb a
end
variable [ClsTab]
variable{α β:Type}
def b_e{P:Prop}{o:Ot α}{f:α->Ot β}{c:β}(h:o.bind f=aa c)(k:∀ x,o=aa x->f x=aa c->P):P:=by
 cases o with
 |none=>exact Zb h
 |some x=>exact k x rfl h
def Zgm{s:Stmt}{t u:TS}(b:PS X s t)(a:PS X s u):PS X s (λD O H=>t D O H\/u D O H):=λpQ s O H D I q=>q.elim (b pQ s O H D I) (a pQ s O H D I)
variable{l:Nat}
def X6{a:Ot az}(h:Y6 e=af):swapsWith e a l env=pure af:=by
 cases e<;>first|rfl|cases h
variable{tg:az}
def YS(h:Y6 e=af):swapsWithSole [tg] e l env=pure af:=X6 h
def Wi{o k:az}{p:Pos}(h:Zf k=ae):∀ v,assign (.Subscript o k p) env v=(do
   let a <-holding [v] (eval o env)
   let b <-holding [v,a] (eval k env)
   standAt p
   holding [v,a,b] (setItem a b v)
   release [v,a,b] []):=by
 cases k<;>first | (intro _;rfl)|cases h
def WF{o k:az}{p:Pos}:swappedStores [.Subscript o k p] e env=pure ab:=by
 cases e<;>rfl
def ZY(h:Zf e=ae):∀ x,foldedSetIterable e env x=pure x:=by
 cases e<;>first | (intro _;rfl)|cases h
structure CxtS(X:Cx)(G:Gs)(F:Nat->Fn)(sc:bj)(N:List Str):Prop extends Cxt X G F sc N where
 nd:N.Nodup
 loc:∀ x∈N,Loc X.env.scope x
 fn:∀ x,X.fn x=ae
variable{it elt:az}{gens:Li Comprehension}{sc2:bj}{tp p2 p3:Pos}{ctx t' kk j:Nat}{h' h:bp}{z i1 i2:Ad}{its:Array vL}{elts:Li az}{E:vL->Sd->Prop}
section
def Ut(G:Gs)(F:Nat->Fn)(n:Nat):Prop:=∀ X sc N,CxtS X G F sc N->∀ s c,cS G n sc N s=aa c->PS X s (tS X.K (ex F c))
def ZK(G:Gs)(F:Nat->Fn)(n:Nat):Prop:=∀ X sc N,CxtS X G F sc N->∀ s c,cSs G n sc N s=aa c->PSs X s (tS X.K (ex F c))
def Ve{x:Str}(h:N.idxOf? x=aa i):x∈N:=aV (Xt h)
def YG{x:Str}{p:Pos}(K:CxtS X G F sc N)(h:N.idxOf? x=aa i):PG X (.Name x p) (gName i):=
 pg_name (by rw[K.hN];exact K.nd) (by rw[K.hN];exact Xt h) (K.loc x (Ve h)) (.inl (K.fn x))
def XY(K:CxtS X G F sc N):PassesOwn (a9 X.prog X.w) X.A X.env X.xe:=by
 rw[K.nx];exact PassesOwn.never
def QL{x:Str}{p:Pos}(K:Cxt X G F sc N)(a:XF sc x=ae)(b:N.idxOf? x=aa i):PE X (.Name x p) (tVar i):=
 pe_var (by rw[K.hN];exact Xt b) (K.vis _ a) (Vk a).1 (Vk a).2
def X5{a:az}{x:CE}(K:Cxt X G F sc N)(h:ZJ G sc it=aa a)(b:Zf a=ae)(A:PE X a (tE X.K (ev F x))):Zf it=ae/\PI X tg it (iRng1 (tCons (tE X.K (ev F x)) tNil)):=by
 obtain⟨_,_,rfl,d,c⟩:=WP K h;exact⟨rfl,pi_range1 d c (pa1 b A) (Ze b)⟩
def Wh(G:Gs)(F:Nat->Fn)(n:Nat):Prop:=∀ X sc N,CxtS X G F sc N->∀ (x:Str) (i:Nat) (p:Pos) elt gens sc2 epos (pos:Pos) c,N.idxOf? x=aa i->cE G n sc N (.ListComp elt gens sc2 epos)=aa c->
 swapsWith (.ListComp elt gens sc2 epos) (aa (.Name x p)) pos.line X.env=pure ae->PS X (.Assign [.Name x p] (.ListComp elt gens sc2 epos) pos) (tAsg (tE X.K (ev F c)) (gName i))
def U7{epos p:Pos}{x:Str}:∃ b:Bool,swapsWith (.ListComp elt gens sc2 epos) (aa (.Name x p)) l env=pure b:=⟨_,rfl⟩
def ZaQ{c:CE}(h:cE G n sc N e=aa c):Y6 e=af\/∃ elt gens sc2 a,e=.ListComp elt gens sc2 a:=by
 cases n with
 |zero=>exact nomatch (show(ab:Ot CE)=aa c from h)
 |succ n=>cases e<;>first|exact .inl rfl|exact .inr ⟨_,_,_,_,rfl⟩|exact nomatch (show(ab:Ot CE)=aa c from h)
def Zfd(a:Zo G F n)(o:Wh G F n)(K:CxtS X G F sc N){c:CS}{x:Str}{p:Pos}(h:o2 CS.set (N.idxOf? x) (cE G n sc N e)=aa c):PS X (.Assign [.Name x p] e pos) (tS X.K (ex F c)):=by
 refine ZQ (P:=λc=>PS X _ (tS X.K (ex F c))) h λi y f d=>?_
 have g:∀ j,PS X (.Assign [.Name x p] e pos) (tAsg (tE X.K (ev F y)) (gName i)):=λj=>ps_set (by rw[K.hN];exact K.nd) (by rw[K.hN];exact Xt f) (K.loc _ (Ve f)) (a X sc N K.toCxt _ y d).pe j (.inl (K.fn _))
 rcases ZaQ d with m|⟨elt,gens,sc2,epos,rfl⟩
 .exact Zz (g (X6 m)) Vg
 .obtain⟨b,k⟩:=U7 (elt:=elt) (gens:=gens) (sc2:=sc2) (epos:=epos) (p:=p) (x:=x) (l:=pos.line) (env:=X.env)
  cases b with
  |false=>exact Zz (g k) Vg
  |true=>exact Zz (o X sc N K _ i p elt gens sc2 epos pos y f d k) Vg
def WG{a:Li az}{k:Nat}(h:V5 e=af):swappedStores [.Tuple a k tp] e env=pure ab:=by
 cases e with
 |Tuple=>cases h
 |_=>rfl
def Zc3(a:Zo G F n)(K:CxtS X G F sc N){c:CS}{x y:Str}{p:Pos}(h:og ((Y6 e||V5 e)=af) (o3 (λi j c=>og (i≠j) (aa (CS.set2 i j c))) (N.idxOf? x) (N.idxOf? y) (cE G n sc N e)).join=aa c):PS X (.Assign [.Tuple [.Name x p,.Name y p2] ctx tp] e pos) (tS X.K (ex F c)):=by
 refine Xi h λb h=>j_e h λh=>Xu (P:=λo=>o=aa c->PS X _ (tS X.K (ex F c))) h (λi j k g f d h=>Xi h λ_ h=>?_) rfl
 cases h;rw[fK]at b;exact Zz (ps_asg (a X sc N K.toCxt _ k d).pe (pg_tup K.calm (pgs_cons (YG K g) (pgs_cons (YG K f) pgs_nil))) (YS b.1) (WG b.2)) Zam
def Zc4(a:Zo G F n)(K:CxtS X G F sc N){c:CS}{x y z:Str}{p:Pos}(h:og ((Y6 e||V5 e)=af) (o3 (λi j (p:Nat×CE)=>CS.set3 i j p.1 p.2) (N.idxOf? x) (N.idxOf? y) (o2 Prod.mk (N.idxOf? z) (cE G n sc N e)))=aa c):PS X (.Assign [.Tuple [.Name x p,.Name y p2,.Name z p3] ctx tp] e pos) (tS X.K (ex F c)):=by
 refine Xi h λb h=>Xu (P:=λc=>PS X _ (tS X.K (ex F c))) h λi j q m k f=>ZQ (P:=λq=>PS X _ (tS X.K (ex F (.set3 i j q.1 q.2)))) f λl o g d=>?_
 rw[fK]at b;exact Zz (ps_asg (a X sc N K.toCxt _ o d).pe (pg_tup K.calm (pgs_cons (YG K m) (pgs_cons (YG K k) (pgs_cons (YG K g) pgs_nil)))) (YS b.1) (WG b.2)) Zan
def Zfb(a:Zo G F n)(K:CxtS X G F sc N){c:CS}{f:Str}{d:Pos}{b:Li Keyword}(h:(cE G n sc N (.Call (.Name f d) as b cp)).map CS.act=aa c):PS X (.Expr (.Call (.Name f d) as b cp) pos) (tS X.K (ex F c)):=by
 obtain⟨g,e,rfl⟩:=eI.mp h;exact Zz (ps_expr (a X sc N K.toCxt _ g e).pe rfl) Zb8
def Za2{k a b:az}(h:WZ k=aa (a,b)):∃ c p,k=.Tuple [a,b] c p:=by
 unfold WZ at h;split at h
 .cases h;exact⟨_,_,rfl⟩
 .exact Zb h
def Zfe(d:Zo G F n)(K:CxtS X G F sc N){c:CS}{x:Str}{k:az}{p q:Pos}(h:Zgo sc N x k e (cE G n sc N)=aa c):PS X (.Assign [.Subscript (.Name x p) k q] e pos) (tS X.K (ex F c)):=
 Xi h λl h=>by
 cases o:WZ k with
 |some u=>
  rw[o]at h;obtain⟨a,b⟩:=u;obtain⟨_,_,rfl⟩:=Za2 o;refine Xu (P:=λc=>PS X _ (tS X.K (ex F c))) h λ_ j y r f m=>?_
  exact ZQ (P:=λj:CE×CE=>PS X _ (tS X.K (ex F (.dput _ j.1 j.2 y)))) f λt s i g=>Zz (ps_asg (d X sc N K.toCxt _ y m).pe (pg_sub (QL K.toCxt l.2.2 r) (pe_tup (pa_cons (d X sc N K.toCxt _ t i).pe (pa_cons (d X sc N K.toCxt _ s g).pe pa_nil (Ze (Zd g))) (Ze (Zd i)))) (set_dT (by have:=K.toCxt.hu;omega)) (Wi rfl)) (YS l.1) WF) Zac
 |none=>
 rw[o]at h;exact Xu (P:=λc=>PS X _ (tS X.K (ex F c))) h λ_ j y r f m=>Zz (ps_asg (d X sc N K.toCxt _ y m).pe (pg_sub (QL K.toCxt l.2.2 r) (d X sc N K.toCxt _ j f).pe set_list (Wi (Zd f))) (YS l.1) WF) Zcl
def Zff(a:Zo G F n)(K:CxtS X G F sc N){c:CS}(h:(cE G n sc N e).map CS.ret=aa c):PS X (.Return (aa e) pos) (tS X.K (ex F c)):=
 WA (P:=λc=>PS X _ (tS X.K (ex F c))) h λx q=>Zz (ps_ret (a X sc N K.toCxt _ x q).pe) Zcm
def Zgv(f:Zo G F n)(d:ZK G F n)(K:CxtS X G F sc N){c:CS}{a b:Li Stmt}(h:o3 CS.ite (cE G n sc N e) (cSs G n sc N a) (cSs G n sc N b)=aa c):PS X (.If e a b pos) (tS X.K (ex F c)):=
 Xu (P:=λc=>PS X _ (tS X.K (ex F c))) h λk m l g j i=>Zz (ps_if (f X sc N K.toCxt _ k g).pt (d X sc N K _ m j) (d X sc N K _ l i)) Zcf
def ZcY(d:Ys G F n)(a:ZK G F n)(K:CxtS X G F sc N){c:CS}{x:Str}{b:Li Stmt}{p:Pos}(e:XZ G sc it=aa as)(h:o3 CS.for3 (N.idxOf? x) (cEs G n sc N as) (cSs G n sc N b)=aa c):PS X (.For (.Name x p) it b [] pos) (tS X.K (ex F c)):=by cases e
def ZcW(e:Zo G F n)(d:ZK G F n)(K:CxtS X G F sc N){c:CS}{x:Str}{b:Li Stmt}{p:Pos}(h:(match ZJ G sc it with
   |some a=>o3 (λi c b=>CS.for1 i ae c b) (N.idxOf? x) (cE G n sc N a) (cSs G n sc N b)
   |none=>o3 (λi c b=>CS.for1 i af c b) (N.idxOf? x) (cE G n sc N it) (cSs G n sc N b))=aa c):PS X (.For (.Name x p) it b [] pos) (tS X.K (ex F c)):=by
 cases k:ZJ G sc it with
 |some a=>
  rw[k]at h;refine Xu (P:=λc=>PS X _ (tS X.K (ex F c))) h λi r j f q g=>?_
  obtain⟨o,m⟩:=X5 K.toCxt k (Zd q) (e X sc N K.toCxt a _ q).pe;exact Zz (ps_for (XY K) K.calm m (YG K f) (d X sc N K _ j g) (ZY o)) Zah
 |none=>
  rw[k]at h;refine Xu (P:=λc=>PS X _ (tS X.K (ex F c))) h λi r j f q g=>?_
  have A:=(e X sc N K.toCxt _ _ q).pe;have l:=ZY (env:=X.env) (Zd q);exact Zz (Zgm (ps_for (XY K) K.calm (pi_tup A) (YG K f) (d X sc N K _ j g) l) (ps_for (XY K) K.calm (pi_list A) (YG K f) (d X sc N K _ j g) l)) Zaf
def V3{s:Sd}{wr:Li Ad}(I:L2.Inv X pQ O H s)(d:∀ b∈wr,FpOk X pQ H b)(k:∀ b o,b∉wr->s.heap.get? b=aa o->h'.get? b=aa o):L2.Inv X pQ O H { s with heap:=h',toks:=t' }:=by
 have g:∀ b u,H b=aa u->b∉wr:=λb u e f=>by have:=(d b f).1;rw[e]at this;cases this
 refine I.step (g':=s.gens) (d':=s.drawn) (ch:=wr) (λb f=>⟨(d b f).2.2.2.1,(d b f).2.1,(d b f).2.2.2.2.1,(d b f).2.2.2.2.2⟩) (λb o _ _ a e _=>k b o a e) (λb o _ _ a e _=>⟨o.slots,k b o a e⟩)
  (λb o _ e n=>n) (λb o a e=>⟨o,k b o a e⟩) (λb ys e=>e) (λb o u e=>e) (λb l e=>⟨#[],by rw[e];simp⟩) (λm i=>?_) (λb u e=>?_) I.bare
 .obtain⟨o,es,j,h,r⟩:=i
  exact⟨o,es,j,k _ o (λz=>(d _ z).2.1 rfl) h,r⟩
 .refine(I.hok b u e).stay (λc v a q=>k c v ?_ q) (λc q=>q) λc ys q=>q
  rcases a with z|z
  .rw[z];exact g b u e
  .exact g c _ z
def WO{s:Sd}{wr:Li Ad}{T:Ad}{h:Li V}(I:L2.Inv X pQ O H s)(f:∀ b∈wr,FpOk X pQ H b)(k:∀ b o,b∉wr->s.heap.get? b=aa o->h'.get? b=aa o)(j:s.heap.objs.size<=T)(new:ObjOk X.prog X.w (upd H T (.tup h)) h' T (.tup h)):L2.Inv X pQ O (upd H T (.tup h)) { s with heap:=h',toks:=t' }:=by
 have g:H T=ab:=I.hok.fresh j;have l:∀ b u,s.heap.get? b=aa u->b≠T:=λb u e=>bC (aS (aL e) j)
 have i:∀ b u,H b=aa u->b∉wr:=λb u e a=>by have:=(f b a).1;rw[e]at this;cases this
 refine I.step (g':=s.gens) (d':=s.drawn) (ch:=wr) (λb a=>⟨(f b a).2.2.2.1,(f b a).2.1,(f b a).2.2.2.2.1,(f b a).2.2.2.2.2⟩) (λb o _ _ d e _=>k b o d e) (λb o _ _ d e _=>⟨o.slots,k b o d e⟩)
  (λb o _ e n=>by rw[upd_ne (l b o e)];exact n) (λb o d e=>⟨o,k b o d e⟩) (λb ys e=>by rw[upd_ne (ne_of_none e g)];exact e) (λb o u e=>by rw[upd_ne (ne_of_none e g)];exact e) (λb y e=>⟨#[],by rw[upd_ne (ne_of_none e g),e];simp⟩) (λm t=>?_) (λb u e=>?_) I.bare
 .obtain⟨o,es,x,p,r⟩:=t
  exact⟨o,es,x,k _ o (λz=>(f _ z).2.1 rfl) p,r⟩
 .by_cases a:b=T
  .subst a;rw[upd_same]at e;cases e;exact new
  .rw[upd_ne a]at e
   refine(I.hok b u e).stay (λc v d q=>k c v ?_ q) (λc q=>by rw[upd_ne (ne_of_none q g)];exact q) λc ys q=>by rw[upd_ne (ne_of_none q g)];exact q
   rcases d with z|z
   .rw[z];exact i b u e
   .exact i c _ z
def QT{s:Sd}{a:Ad}{b:Li V}(I:L2.Inv X pQ O H s)(h:SqL X.K H a b)(g:SqL X.K H a ys):ys=b:=by
 obtain⟨i1,f,⟨j,l,g1,_,_,i⟩,_⟩:=I.list h;obtain⟨i2,d,⟨o2,k,g2,_,_,c⟩,_⟩:=I.list g;rw[g1]at g2;cases g2;rw[i]at c;have e:i1.toArray=i2.toArray:=by injection c
 have e:i1=i2:=by simpa using e
 subst e;exact Vals.inj d f
def Vo{a b:String}{p:Prop}(h:Value.type a=Value.type b)(n:¬a=b):p:=by
 injection h with h
 exact au h n
section
variable{prog:bf}{w:bq}{A:bu}{E:vL->Sd->Prop}{s:Sd}
open Sem (wp)
open AutoSeq1 (wpAny_loadPart')
end
structure ZD(z TI TO i1 i2:Addr):Prop where
 a:TI≠z
 b:TO≠z
 c:i1≠z
 d:i2≠z
 e:TI≠TO
 f:TI≠i1
 g:TI≠i2
 h:TO≠i1
 i:TO≠i2
 j:i1≠i2
structure ZSt(z TI TO i1 i2 a b:Addr)(i:Nat)(h:bp):Prop where
 hz:IsZip h z TI TO .none
 hI:IsPair h TI (.ref i1) (.ref i2)
 hO:∃ u v,IsPair h TO u v
 h1:h.IsListIter i1 a i
 h2:h.IsListIter i2 b i
def Yr{TI TO a b l c:Ad}(st:ZSt z TI TO i1 i2 a b i h)(n:h.IsList l its)(k:c∈[z,TO,i1,i2]):l≠c:=by
 rintro rfl
 obtain⟨o,g,f,_⟩:=n;simp only[aK,cA,or_false]at k;rcases k with rfl|rfl|rfl|rfl
 .have j:h.get? l=aa _:=st.hz
  rw[g]at j;cases j;exact Vo f (by decide)
 .obtain⟨u,v,e⟩:=st.hO
  have e:h.get? l=aa _:=e;rw[g]at e;cases e;exact Vo f (by decide)
 .obtain⟨m,g1,d,_⟩:=st.h1
  rw[g]at g1;cases g1;rw[f]at d;exact Vo d (by decide)
 .obtain⟨m,g1,d,_⟩:=st.h2
  rw[g]at g1;cases g1;rw[f]at d;exact Vo d (by decide)
def W4{TI TO a b:Ad}{k:Array vL}(d:ZD z TI TO i1 i2)(st:ZSt z TI TO i1 i2 a b i h)(l:h.IsList a its)(p2:h.IsList b k):ZipApart z TI TO i1 i2 a b:=
 have m:z∈[z,TO,i1,i2]/\TO∈[z,TO,i1,i2]/\i1∈[z,TO,i1,i2]/\i2∈[z,TO,i1,i2]:=⟨.head _,.tail _ (.head _),.tail _ (.tail _ (.head _)),.tail _ (.tail _ (.tail _ (.head _)))⟩
 ⟨d.a,d.b,d.c,d.d,d.e,d.f,d.g,d.h,d.i,d.j,Yr st l m.1,Yr st l m.2.1,Yr st l m.2.2.1,Yr st l m.2.2.2,Yr st p2 m.1,Yr st p2 m.2.1,Yr st p2 m.2.2.1,Yr st p2 m.2.2.2⟩
def QY{TI TO c:Ad}(h:c∈[z,TO,i1,i2]):c∈[z,TI,TO,i1,i2]:=by
 rcases aK.mp h with rfl|h
 .exact .head _
 .exact .tail _ (.tail _ h)
def QZ{TI TO a b c:Ad}(st:ZSt z TI TO i1 i2 a b i h)(d:c∈[z,TI,TO,i1,i2]):∃ o,h.get? c=aa o/\∀ v,o.data≠.cell v:=by
 obtain⟨e,g,⟨u,v,f⟩,⟨l,g1,_,k⟩,⟨o2,g2,_,j⟩⟩:=st;simp only[aK,cA,or_false]at d;rcases d with rfl|rfl|rfl|rfl|rfl
 .exact⟨_,e,λv q=>by cases (show Data.fields _=Data.cell v from q)⟩
 .exact⟨_,g,λv q=>by cases (show Data.seq _ _=Data.cell v from q)⟩
 .exact⟨_,f,λv q=>by cases (show Data.seq _ _=Data.cell v from q)⟩
 .exact⟨_,g1,λv q=>by rw[k]at q;cases q⟩
 .exact⟨_,g2,λv q=>by rw[j]at q;cases q⟩
def Zbc{a:Li V}{its:Li vL}{x:V}(r:Vals a its)(ex:a[i]?=aa x)(b:its.toArray[i]?=aa u):RelV x u:=by
 obtain⟨e,d,c⟩:=r.get ex;rw[fG,d]at b;cases b;exact c
def ZbF{z TI TO a b:Ad}(d:ZD z TI TO i1 i2)(U:X.calm=ae){s:Sd}(I:L2.Inv X pQ O H s)(J:∀ c∈[z,TI,TO,i1,i2],FpOk X pQ H c)(st:ZSt z TI TO i1 i2 a b i s.heap)(S:(Itz X.K a b).go i H) :
  a8 (a9 X.prog X.w) X.A (pyNext (.ref z)) (λr s1=>∃ u,r=aa u/\a8 (a9 X.prog X.w) X.A (letOwnedTupleGo (.Tuple elts kk pos) (.ref z) u) (λ_ B=>∃ x H',L2.Inv X pQ O H' B/\RelV x u/\(Itz X.K a b).yld i H x H'/\ZSt z TI TO i1 i2 a b (i+1) B.heap/\∀ c∈[z,TI,TO,i1,i2],H' c=ab) E s1) E s:=by
 obtain⟨N,ys,x,y,j,h,ex,t⟩:=S;obtain⟨l,D,F,_⟩:=I.list j;obtain⟨k,C,p2,_⟩:=I.list h;have W:=WalksT.zip2 (prog:=X.prog) (w:=X.w) (A:=X.A) (I.ok.hd U) z TI TO i1 i2 a b (W4 d st F.isList p2.isList) l.toArray k.toArray;have l1:=D.length;have Z:=C.length;have ix:i < N.length:=(bF.mp ex).1;have iy:i < ys.length:=(bF.mp t).1
 refine W.item i s _ _ (by rw[aJ,aJ];omega) ⟨st.hz,st.hI,st.hO,st.h1,st.h2,F.isList,p2.isList⟩ λT vals h' P R n tup mid Q=>?_
 obtain⟨u,v,V,ev,rfl⟩:=R;refine⟨.ref T,rfl,W.go elts kk pos i T _ _ _ mid λp f G=>?_⟩
 have Y:L2.Inv X pQ O (upd H T (.tup [x,y])) { s with heap:=p,toks:=P }:=WO (wr:=[z,TO,i1,i2]) I (λc g=>J c (QY g)) (λc o m e=>G c o m (Q c o m e)) n ⟨show 2<=ay by decide,[u,v],.cons (Zbc D ex V) (.cons (Zbc C t ev) .nil),tup.at λo e=>G T o (W.apart i T h' mid) e⟩
 refine⟨.ref T,upd H T (.tup [x,y]),Y,rfl,⟨T,x,y,rfl,I.hok.fresh n,rfl,λM q=>by rw[QT I j q];exact ex,λL q=>by rw[QT I h q];exact t⟩,⟨f.1,f.2.1,f.2.2.1,f.2.2.2.1,f.2.2.2.2.1⟩,λc g=>?_⟩
 obtain⟨o,e,_⟩:=QZ st g;rw[upd_ne λq=>au (aL e) (Nat.not_lt.mpr (by rw[q];exact n))]
 exact(J c g).1
def ZbE{z TI TO a b:Ad}(d:ZD z TI TO i1 i2)(D:X.calm=ae){s:Sd}(I:L2.Inv X pQ O H s)(C:∀ c∈[z,TI,TO,i1,i2],FpOk X pQ H c)(st:ZSt z TI TO i1 i2 a b i s.heap)(B:(Itz X.K a b).stop i H) :
  a8 (a9 X.prog X.w) X.A (pyNext (.ref z)) (λr s1=>r=ab/\L2.Inv X pQ O H s1) E s:=by
 obtain⟨G,ys,m,l,y⟩:=B;obtain⟨h,x,p,_⟩:=I.list m;obtain⟨g,t,p2,_⟩:=I.list l;obtain⟨u,v,F⟩:=st.hO;have L:=x.length;have J:=t.length;have j:h.toArray[i]?=ab\/g.toArray[i]?=ab:=by
  rw[fG,fG,eD,eD];omega
 refine wpAny_pyNext_zip_end (I.ok.hd D) (W4 d st p.isList p2.isList) st.hz st.hI F st.h1 st.h2 p.isList p2.isList j λh' k=>⟨rfl,V3 (wr:=[z,TO,i1,i2]) I (λc n=>C c (QY n)) λc o f e=>?_⟩
 exact k c o (λq=>f (by rw[q];exact .head _)) (λq=>f (by rw[q];exact .tail _ (.head _))) (λq=>f (by rw[q];exact .tail _ (.tail _ (.head _)))) (λq=>f (by rw[q];exact .tail _ (.tail _ (.tail _ (.head _))))) e
def Zbx{P:bf}{K:Fg}(z TI TO i1 i2 a b:Ad)(d:ZD z TI TO i1 i2):Turn P w K (.Tuple elts kk pos) (Itz K a b) [z,TI,TO,i1,i2] z (ZSt z TI TO i1 i2 a b) where
 mem:=.head _
 obj:=λi h st c f=>QZ st f
 keep:=λi h h' st k=>by
  obtain⟨p,r,⟨u,v,q⟩,x,t⟩:=st;exact⟨k z (.head _) _ p,k TI (.tail _ (.head _)) _ r,⟨u,v,k TO (.tail _ (.tail _ (.head _))) _ q⟩,x.at λo e=>k i1 (.tail _ (.tail _ (.tail _ (.head _)))) o e,t.at λo e=>k i2 (.tail _ (.tail _ (.tail _ (.tail _ (.head _))))) o e⟩
 item:=λX m g n f i pQ s O H E I l st j=>by
  subst m g n;exact ZbF d f I l st j
 done:=λX m g n f i pQ s O H E I l st j=>by
  subst m g n;exact ZbE d f I l st j
 self:=λ_ _ _ _ _ st h=>wpAny_pyIter_zip st.hz h
def Zej:bh "zip"=aa (.type "zip"):=by decide +kernel
def ZeV{x y:az}{o:TA}{p:Pos}(J:Gl X "zip")(G:X.mg "zip"=ab)(L:PA X [x,y] o)(n:[x,y].all Zf=ae):PI X (.Tuple elts kk tp) (.Call (.Name "zip" p) [x,y] [] pos) (Zf3 X.K o):=by
 intro pQ s O H R I h;rw[bT,bT,Ba,Ba]at n;have d:bg [y] X.env=[(af,eval y X.env)]:=Ze n.2.1;have F:bg [x,y] X.env=[(af,eval x X.env),(af,eval y X.env)]:=by rw[Ze n.1,d]
 refine Call_ (ld_blt I J G Zej (PyProof.Rows.callWith_type1 (thn (L pos pQ s O H _ I h) λU s1 ⟨vs,S,f,A,C⟩=>?_) (by rw[F,d]) (by rw[d];rfl)))
 obtain⟨a,b,rfl,⟨T,l⟩,⟨ys,g⟩,q⟩:=C;cases A with
 |cons r m=>
  cases m with
  |cons B m=>
   cases m;cases r;cases B;obtain⟨u,_,D,_⟩:=f.list l;obtain⟨t,_,p2,_⟩:=f.list g;have ne:∀ {i j:Nat},i≠j->(s1.heap.objs.size+i:Nat)≠s1.heap.objs.size+j:=λh z=>h (Nat.add_left_cancel z)
   refine call_zip_2 D.isList p2.isList λh' v N M Q P E k=>wpAny_pyIter_zip v ?_
   refine⟨s1.heap.objs.size+4,[s1.heap.objs.size+4,s1.heap.objs.size+2,s1.heap.objs.size+3,s1.heap.objs.size,s1.heap.objs.size+1],_,_,S,rfl,f.kept (t':=s1.toks) k,Zbx _ _ _ _ _ a b ⟨ne (i:=2) (j:=4) (by decide),ne (i:=3) (j:=4) (by decide),ne (i:=0) (j:=4) (by decide),ne (i:=1) (j:=4) (by decide),ne (i:=2) (j:=3) (by decide),ne (i:=2) (j:=0) (by decide),ne (i:=2) (j:=1) (by decide),ne (i:=3) (j:=0) (by decide),ne (i:=3) (j:=1) (by decide),ne (i:=0) (j:=1) (by decide)⟩,⟨v,N,⟨_,_,M⟩,Q,P⟩,λc e=>?_,q⟩
   have w:s1.heap.objs.size<=c:=by
    simp only[aK,cA,or_false]at e;rcases e with rfl|rfl|rfl|rfl|rfl
    .exact bU _ _
    .exact bU _ _
    .exact bU _ _
    .exact aB _
    .exact bU _ _
   exact f.fpOk w (f.hok.fresh w)
section
variable{prog:bf}{w:bq}{A:bu}{E:vL->Sd->Prop}{s:Sd}
open Sem (wp)
open AutoSeq1 (wpAny_loadPart')
end
def WQ(K:Cxt X G F sc N)(h:XL G sc it=aa as):∃ p pos a b,it=.Call (.Name "zip" p) [a,b] [] pos/\as=[a,b]/\Gl X "zip"/\X.mg "zip"=ab:=by
 obtain⟨bs,i,g⟩:=fJ.mp h;obtain⟨p,pos,rfl,e,d⟩:=J2 K i;refine Xi g λc f=>?_
 cases f;cases as with
 |nil=>cases c
 |cons a as=>cases as with
  |nil=>cases c
  |cons b as=>cases as with
   |nil=>exact⟨p,pos,_,_,rfl,rfl,e,d⟩
   |cons _ _=>cases c
def Zbl(d:Zo G F n)(a:ZK G F n)(K:CxtS X G F sc N){c:CS}{b:Li Stmt}(h:o2 CS.whl (cE G n sc N e) (cSs G n sc N b)=aa c):PS X (.While e b [] pos) (tS X.K (ex F c)):=
 ZQ (P:=λc=>PS X _ (tS X.K (ex F c))) h λi j f g=>Zz (ps_while (XY K) (d X sc N K.toCxt _ i f).pt (a X sc N K _ j g)) Jj
def Zc2(e:Ys G F n)(d:ZK G F n)(K:CxtS X G F sc N){c:CS}{x y:Str}{b:Li Stmt}{p:Pos}(m:N.idxOf? x=aa i)(l:N.idxOf? y=aa j)(g:XL G sc it=aa as)(h:o2 (CS.forP i j) (cEs G n sc N as) (cSs G n sc N b)=aa c):PS X (.For (.Tuple [.Name x p,.Name y p2] ctx tp) it b [] pos) (tS X.K (ex F c)):=by
 refine ZQ (P:=λc=>PS X _ (tS X.K (ex F c))) h λs t q r=>?_
 obtain⟨u,p3,a,v,rfl,rfl,o,k⟩:=WQ K.toCxt g;obtain⟨A,_,f,_⟩:=e X sc N K.toCxt _ s q;exact Zz (ps_for (XY K) K.calm (ZeV o k A f) (pg_tup K.calm (pgs_cons (YG K m) (pgs_cons (YG K l) pgs_nil))) (d X sc N K _ t r) (ZY rfl)) Zag
def Zc1(d:Zo G F n)(a:ZK G F n)(K:CxtS X G F sc N){c:CS}{x y:Str}{b:Li Stmt}{p:Pos}(k:N.idxOf? x=aa i)(g:N.idxOf? y=aa j)(f:Wa G sc it=aa e)(h:o2 (CS.forE i j) (cE G n sc N e) (cSs G n sc N b)=aa c):PS X (.For (.Tuple [.Name x p,.Name y p2] ctx tp) it b [] pos) (tS X.K (ex F c)):=by cases f
def ZcZ(d:Zo G F n)(a:ZK G F n)(K:CxtS X G F sc N){c:CS}{x y z:Str}{b:Li Stmt}{p:Pos}(h:o3 (λ(p:Nat×Nat) (q:Nat×CE) b=>CS.for4 p.1 p.2 q.1 q.2 b) (o2 Prod.mk (N.idxOf? x) (N.idxOf? y)) (o2 Prod.mk (N.idxOf? z) (cE G n sc N it)) (cSs G n sc N b)=aa c):PS X (.For (.Tuple [.Name x p,.Name y p2,.Name z p3] ctx tp) it b [] pos) (tS X.K (ex F c)):=
 Xu (P:=λc=>PS X _ (tS X.K (ex F c))) h λu v e k g s=>ZQ (P:=λu:Nat×Nat=>PS X _ (tS X.K (ex F (.for4 u.1 u.2 v.1 v.2 e)))) k λi j r o=>ZQ (P:=λv:Nat×CE=>PS X _ (tS X.K (ex F (.for4 i j v.1 v.2 e)))) g λl t m f=>
  Zz (ps_for (XY K) K.calm (pi_tup (d X sc N K.toCxt _ t f).pe) (pg_tup K.calm (pgs_cons (YG K r) (pgs_cons (YG K o) (pgs_cons (YG K m) pgs_nil)))) (a X sc N K _ e s) (ZY (Zd f))) Zad
def ZcX(d:Zo G F n)(a:ZK G F n)(K:CxtS X G F sc N){c:CS}{x y:Str}{b:Li Stmt}{p:Pos}(g:N.idxOf? x=aa i)(f:N.idxOf? y=aa j)(h:o2 (CS.for2 i j) (cE G n sc N it) (cSs G n sc N b)=aa c):PS X (.For (.Tuple [.Name x p,.Name y p2] ctx tp) it b [] pos) (tS X.K (ex F c)):=by
 refine ZQ (P:=λc=>PS X _ (tS X.K (ex F c))) h λm o k l=>?_
 exact λpQ s O H D I q=>by
  obtain⟨_,_,_,_,_,_,_,e,_⟩:=ZL q;cases e
def Zfc(b:Zo G F n)(K:CxtS X G F sc N){c:CS}{x:Str}{p:Pos}(h:ZfF sc N x m ap cp (cE G n sc N e)=aa c):PS X (.Expr (.Call (.Attribute (.Name x p) m ap) [e] [] cp) pos) (tS X.K (ex F c)):=by
 refine Xi h λd h=>?_
 by_cases j:m = "append"
 .subst j
  rw[aq rfl]at h;exact ZQ (P:=λc=>PS X _ (tS X.K (ex F c))) h λi y f a=>Zz (ps_expr (pe_bm PySem.F.plainAttrs_list PySem.F.slot_list_append PySem.F.type_list_append mt_append (QL K.toCxt d.1 f) (pa1 (Zd a) (b X sc N K.toCxt _ y a).pe) rfl (by rw[Ze (Zd a)];rfl) d.2 (Ze (Zd a)) rfl) rfl) Zb9
 .rw[ar j]at h
  by_cases g:m = "extend"
  .subst g
   rw[aq rfl]at h;exact ZQ (P:=λc=>PS X _ (tS X.K (ex F c))) h λi y f a=>Zz (ps_expr (pe_bm PySem.F.plainAttrs_list PySem.F.slot_list_extend PySem.F.type_list_extend mt_extend (QL K.toCxt d.1 f) (pa1 (Zd a) (b X sc N K.toCxt _ y a).pe) rfl (by rw[Ze (Zd a)];rfl) d.2 (Ze (Zd a)) rfl) rfl) Zcb
  .rw[ar g]at h;cases h
def ZcV(d:Zo G F n)(f:Wh G F n)(K:CxtS X G F sc N){c:CS}(h:ZfG N tg e (cE G n sc N e)=aa c):PS X (.Assign [tg] e pos) (tS X.K (ex F c)):=by
 have no:∀ {P:Prop},(ab:Ot CS)=aa c->P:=λz=>nomatch z
 cases tg with
 |Name x p=>exact Zfd d f K h
 |Tuple es ctx tp=>cases es with
  |nil=>exact no h
  |cons a es=>cases a with
   |Name _ _=>cases es with
    |nil=>exact no h
    |cons b es=>cases b with
     |Name _ _=>cases es with
      |nil=>exact Zc3 d K h
      |cons g es=>cases g with
       |Name _ _=>cases es with
        |nil=>exact Zc4 d K h
        |cons _ _=>exact no h
       |_=>exact no h
     |_=>exact no h
   |_=>exact no h
 |_=>exact no h
def Zc0(f:Zo G F n)(g:Ys G F n)(d:ZK G F n)(K:CxtS X G F sc N){c:CS}{b:Li Stmt}(h:Zev G sc N (cE G n sc N) (cEs G n sc N) tg it (cSs G n sc N b)=aa c):PS X (.For tg it b [] pos) (tS X.K (ex F c)):=by
 have no:∀ {P:Prop},(ab:Ot CS)=aa c->P:=λz=>nomatch z
 cases tg with
 |Name x p=>
  unfold Zev at h;cases l:XZ G sc it with
  |some as=>
   rw[l]at h;exact ZcY g d K l h
  |none=>
   rw[l]at h;exact ZcW f d K h
 |Tuple es ctx tp=>cases es with
  |nil=>exact no h
  |cons a es=>cases a with
   |Name x p=>cases es with
    |nil=>exact no h
    |cons v es=>cases v with
     |Name y p2=>cases es with
      |nil=>
       replace h:((o2 (λi j=>og (i≠j) (aa (i,j))) (N.idxOf? x) (N.idxOf? y)).join.bind λp=>(match XL G sc it with
        |some as=>o2 (CS.forP p.1 p.2) (cEs G n sc N as) (cSs G n sc N b)
        |none=>match Wa G sc it with
         |some e=>o2 (CS.forE p.1 p.2) (cE G n sc N e) (cSs G n sc N b)
         |none=>o2 (CS.for2 p.1 p.2) (cE G n sc N it) (cSs G n sc N b)))=aa c:=h
       refine b_e h λq m h=>j_e m λm=>ZQ (P:=λo=>o=aa q->PS X _ (tS X.K (ex F c))) m (λi j s r e=>Xi e λ_ e=>?_) rfl
       cases e;cases k:XL G sc it with
       |some as=>
        rw[k]at h;exact Zc2 g d K s r k h
       |none=>
        rw[k]at h;dsimp only at h;cases t:Wa G sc it with
        |some e=>
         rw[t]at h;exact Zc1 f d K s r t h
        |none=>
         rw[t]at h;exact ZcX f d K s r h
      |cons u es=>cases u with
       |Name _ _=>cases es with
        |nil=>exact ZcZ f d K h
        |cons _ _=>exact no h
       |_=>exact no h
     |_=>exact no h
   |_=>exact no h
 |_=>exact no h
def ZcU(a:Zo G F n)(K:CxtS X G F sc N){c:CS}{o k:az}{p:Pos}(h:og (m = "append"/\(ap.endLine==cp.line)=ae) (o2 CS.app2 (cE G n sc N (.Subscript o k p)) (cE G n sc N e))=aa c):PS X (.Expr (.Call (.Attribute (.Subscript o k p) m ap) [e] [] cp) pos) (tS X.K (ex F c)):=by
 refine Xi h λg h'=>?_
 obtain⟨i,f⟩:=g;subst i;exact ZQ (P:=λc=>PS X _ (tS X.K (ex F c))) h' λz y d b=>Zz (ps_expr (pe_bm PySem.F.plainAttrs_list PySem.F.slot_list_append PySem.F.type_list_append mt_append (a X sc N K.toCxt _ z d).pe (pa1 (Zd b) (a X sc N K.toCxt _ y b).pe) rfl (by rw[Ze (Zd b)];rfl) f (Ze (Zd b)) rfl) rfl) J8
def ZcT(a:Zo G F n)(K:CxtS X G F sc N){c:CS}{v:az}(h:ZfD sc N (cE G n sc N) v=aa c):PS X (.Expr v pos) (tS X.K (ex F c)):=by
 have no:∀ {P:Prop},(ab:Ot CS)=aa c->P:=λz=>nomatch z
 cases v with
 |Call f as b cp=>cases f with
  |Attribute o m ap=>cases o with
   |Name x p=>cases as with
    |nil=>exact no h
    |cons e es=>cases es with
     |nil=>cases b with
      |nil=>exact Zfc a K h
      |cons _ _=>exact no h
     |cons _ _=>exact no h
   |Subscript o k p=>cases as with
    |nil=>exact no h
    |cons e es=>cases es with
     |nil=>cases b with
      |nil=>exact ZcU a K h
      |cons _ _=>exact no h
     |cons _ _=>exact no h
   |_=>exact no h
  |Name f d=>exact Zfb a K h
  |_=>exact no h
 |_=>exact no h
def Uo(d:Zo G F n)(j:Ys G F n)(f:ZK G F n)(m:Wh G F n):Ut G F (n+1):=by
 intro X sc N K s c h;have no:∀ {P:Prop},(ab:Ot CS)=aa c->P:=λz=>nomatch z
 cases s with
 |Assign g e pos=>cases g with
  |nil=>exact no h
  |cons t l=>cases l with
   |cons _ _=>cases t with
    |Subscript o k p=>cases o<;>exact no h
    |_=>exact no h
   |nil=>cases t with
    |Subscript o k p=>cases o with
     |Name x q=>exact Zfe d K h
     |_=>exact no h
    |_=>exact ZcV d m K h
 |Return e pos=>cases e with
  |none=>exact no h
  |some e=>exact Zff d K h
 |If e a b pos=>exact Zgv d f K h
 |While e b i pos=>cases i with
  |cons _ _=>exact no h
  |nil=>exact Zbl d f K h
 |For t it b i pos=>cases i with
  |cons _ _=>exact no h
  |nil=>exact Zc0 d j f K h
 |Expr v pos=>exact ZcT d K h
 |Pass pos=>
  cases (show aa CS.skip=aa c from h)
  exact Zz ps_pass V2
 |Break pos=>
  cases (show aa CS.brk=aa c from h)
  exact Zz ps_break Zca
 |Raise a b pos=>
  cases (show aa CS.stop=aa c from h)
  exact λpQ s O H D I q=>by
   obtain⟨_,_,_,_,_,_,_,e,_⟩:=ZL q;cases e
 |Continue pos=>
  cases (show aa CS.cont=aa c from h)
  exact Zz ps_continue J9
 |_=>exact no h
def Vx(e:Ut G F n)(d:ZK G F n):ZK G F (n+1):=by
 intro X sc N K s c h;cases s with
 |nil=>
  simp only[cSs]at h;cases h;exact QM pss_nil V2
 |cons s r=>
  exact ZQ (P:=λc=>PSs X _ (tS X.K (ex F c))) (show o2 CS.seq (cS G n sc N s) (cSs G n sc N r)=aa c from h) λa b g f=>QM (pss_cons (e X sc N K s a g) (d X sc N K r b f)) Zco
end
variable [ClsTab]
def YV(G:Gs)(F:Nat->Fn):Prop:=∀ n,Zo G F n->(∀ X sc N,Cxt X G F sc N->∀ elt gens sc2 pos c,cE G (n+1) sc N (.ListComp elt gens sc2 pos)=aa c->SE X F (.ListComp elt gens sc2 pos) c)/\Wh G F (n+1)
theorem W1{G:Gs}{F:Nat->Fn}(d:YV G F):∀ n,(Zo G F n/\Ys G F n/\W8 G F n)/\Ut G F n/\ZK G F n/\Wh G F n
 |0=>⟨⟨λX sc N K e c h=>(nomatch (show(ab:Ot CE)=aa c from h)),λX sc N K e c h=>(nomatch (show(ab:Ot CE)=aa c from h)),λX sc N K e c h=>(nomatch (show(ab:Ot CE)=aa c from h))⟩,λX sc N K e c h=>(nomatch (show(ab:Ot CS)=aa c from h)),λX sc N K e c h=>(nomatch (show(ab:Ot CS)=aa c from h)),λX sc N K x i p elt gens sc2 j pos c _ h=>(nomatch (show(ab:Ot CE)=aa c from h))⟩
 |n+1=>by
  obtain⟨⟨a,g,l⟩,k,b,f⟩:=W1 d n;exact⟨⟨U6 a g l (d n a).1,Ul a g,Um a⟩,Uo a g b f,Vx k b,(d n a).2⟩
def Q3(K:Fg)(G:Gs)(T:Nat->Ot FD)(x y:Str)(i:Nat)(f:Ad)(fd:bo)(pn N:Li Str):Prop:=∃ (st:Stmt) (oc:vL) (od:Ot Ad) (dV kV doc pm:vL) (an:Ot Ad) (cdv ct:vL) (osl:Array (Ot vL)) (code:CS),
  fd=W.fnOf x y (defArgs st) (defBody st) (defScope st) dV kV doc pm an cdv ct/\K.lookup f=aa ⟨oc,od,.func fd,osl⟩/\W.codeIn K cdv y=ae/\FnScope N pn (defScope st)/\(∀ y∈N,Loc (defScope st) y) /\
  cSs G 60 (defScope st) N (defBody st)=aa code/\T i=aa ⟨pn.length,N.length,code⟩
def ZbN(K:Fg)(mg:Str->Ot vL)(G:Gs)(T:Nat->Ot FD)(i:Nat)(f:Ad)(fd:bo)(pn:Li Str):Prop:=∀ (P:bf) (w:bq) (base:bp) (n:Nat),(∀ m,m<=n->∀ A,Room m A->∀ y g,G.lookup y=aa g->GOk P w K mg base A (run T m) y g)->FnOk P w K mg base CX0 (n+1) f fd pn (spD K (run T (n+1) i))
structure DefOk(K:Fg)(mg:Str->Option Value)(G:Gs)(T:Nat->Option FD)(x:Str)(i:Nat)(ds:List D)(f:Addr)(fd:bo)(pn N:List Str):Prop where
 ob:Q3 K G T x x i f fd pn N\/ZbN K mg G T i f fd pn
 kp:W.keepIn K (.ref f)=ae
 at_:mg x=aa (.ref f)
 bn:∀ m,m<=ds.length->∃ dvs us,(∀ ad H,Dens K ad H dvs (ds.drop m))/\Vals dvs us/\Binds K fd pn us
structure MethOk(K:Fg)(G:Gs)(T:Nat->Option FD)(C:Addr)(x y:Str)(i:Nat)(f:Addr)(fd:bo)(pn N:List Str):Prop where
 ob:Q3 K G T x y i f fd pn N
 mt:Meth K C x f
 bn:Binds K fd pn []
structure Text(Pm:Params)(K:Fg)(mg:Str->Option Value)(G:Gs)(T:Nat->Option FD):Prop where
 cst:∀ x d,G.lookup x=aa (.c d)->∃ v u,mg x=aa u/\RelV v u/\∀ ad H,Den K ad H v d
 blt:∀ x,G.lookup x=aa .blt->mg x=ab
 dct:∀ x ks ds,G.lookup x=aa (.dct ks ds)->Qg Pm K mg x ks ds
 fn:∀ x i ps ds,G.lookup x=aa (.fn i ps ds)->∃ f fd pn N,DefOk K mg G T x i ds f fd pn N
 cls:∀ x i ms subs,G.lookup x=aa (.cls i ms subs)->(mg x=aa (.ref (ClsTab.ca i))/\NewOk K (ClsTab.ca i)/\∀ i',subs.contains i'=ae->SubOk K (ClsTab.ca i') (ClsTab.ca i)) /\
  ∀ m j ps,ms.lookup m=aa (j,ps)->∃ y f fd pn N,MethOk K G T (ClsTab.ca i) m y j f fd pn N
variable{pn:Li Str}
variable{P:bf}{w:bq}{K:Fg}{mg:Str->Ot vL}{base:bp}{T:Nat->Ot FD}
def ZbA{x:Str}(h:XF sc x=ae):Vis sc x:=by
 unfold XF at h;rw[Ba]at h;have h:=h.2;split at h
 .rename_i q;exact .inl q
 .rename_i q;exact .inr (.inl q)
 .rename_i q;exact .inr (.inr q)
 .cases h
def Qq{x:Str}(h:ZA sc x=ae):sc.names.lookup x=aa .globalImplicit:=by
 unfold ZA at h;rw[Ba]at h;have h:=h.2;split at h
 .rename_i q;exact q
 .cases h
def Qk{x:Str}(h:Wt sc x=ae):sc.names.lookup x=aa .cell\/sc.names.lookup x=aa .free:=by
 unfold Wt at h;split at h
 .rename_i q;exact .inl q
 .rename_i q;exact .inr q
 .cases h
def Je(h:Dens K ad H vs ds)(j:ds.length<=N.length):EnvOk K ad H (L2.start N vs) (ds.map aa++ag (N.length - ds.length) ab):=by
 have e:=h.length;refine⟨by unfold L2.start;simp[e],λi d q=>?_⟩
 by_cases a:i < ds.length
 .rw[bG (by simpa using a),aX,Lg a]at q
  have b:ds[i]=d:=by simpa using q
  have g:ds[i]?=aa d:=by rw[Lg a,b]
  obtain⟨v,f,c⟩:=h.get g;refine⟨v,?_,c⟩;unfold L2.start;rw[bG (by simpa[e] using a),aX,f]
  rfl
 .rw[bA (by simpa using a),fR]at q
  split at q<;>cases q
def ZeQ{n:Nat}(M:∀ n,YV G (run T n))(gl:∀ A,Room n A->∀ y g,G.lookup y=aa g->GOk P w K mg base A (run T n) y g){x y:Str}{f:Ad}{fd:bo}(L:Q3 K G T x y i f fd pn N):FnOk P w K mg base CX0 (n+1) f fd pn (spD K (run T (n+1) i)):=by
 obtain⟨st,oc,Z,dV,kV,R,Y,an,z,ct,J,l,rfl,lk,v,S,k,c,O⟩:=L;have a:run T (n+1) i=fnD (run T n) ⟨pn.length,N.length,l⟩:=by
  show(match T i with|some f=>fnD (run T n) f|none=>λ_ _=>ab)=_
  rw[O]
 refine fn_of lk v S (λvs H Q E h=>?_) (λA b s H vs Q E D h=>?_)
 .obtain⟨ad,es,st,d,st',_,u,e,_⟩:=h
  rw[a]at e;unfold fnD at e;split at e
  .rename_i t
   rw[u.length];exact t
  .exact Zb e
 .obtain⟨ad,es,X,d,st',S0,u,e,p⟩:=h
  rw[a]at e;unfold fnD at e;split at e
  .rename_i t
   have C:CxtS (cxOf CX0 P w K mg base N y (defScope st) f z A b s H E).nox G (run T n) (defScope st) N:={
    hN:=rfl
    vis:=λy j=>ZbA j
    glb:=λy j=>Qq j
    calm:=rfl
    hu:=D.units
    gl:=gl _ D
    cel:=λy j=>Qk j
    nx:=rfl
    nd:=S.nd
    loc:=k
    fn:=λ_=>rfl }
   have B:=(W1 (M n) 60).2.2.1 _ _ _ C _ _ c;have r:pn.length<=N.length:=by have:=av List.length S.pre;rw[aZ]at this;omega
   have m:=Je (N:=N) u (by rw[show es.length=pn.length from t];exact r)
   refine⟨_,B.nox,?_⟩;split at e
   .rename_i d' o q
    cases e;exact ZM m S0 q p
   .rename_i U o q
    cases e;exact ZM m S0 q λF V H1 I W E1=>(p.later I).at W .non
   .exact Zb e
  .exact Zb e
def Zdf{f:Ad}{fd:bo}:FnOk P w K mg base CX0 0 f fd pn (spD K (run T 0 i)):=by
 refine⟨λvs H Q E h=>?_,λA a s H b c vs Q E _ _ _ _ h=>?_⟩
 .obtain⟨_,_,_,_,_,_,_,e,_⟩:=h;cases e
 .obtain⟨_,_,_,_,_,_,_,e,_⟩:=h;cases e
def Zdy(X:Text w.params K mg G T)(k:∀ {x y:Str}{i:Nat}{f:Ad}{fd:bo}{pn N:Li Str},Q3 K G T x y i f fd pn N\/ZbN K mg G T i f fd pn->FnOk P w K mg base CX0 n f fd pn (spD K (run T n i)))(A:bu)(h:Room n A):∀ y g,G.lookup y=aa g->GOk P w K mg base A (run T n) y g:=λy g b=>by
 cases g with
 |c d=>exact X.cst y d b
 |blt=>exact X.blt y b
 |dct ks ds=>exact X.dct y ks ds b
 |fn j l es=>
  obtain⟨f,fd,pn,N,e⟩:=X.fn y j l es b;exact⟨n,f,fd,pn,k e.ob,h,e.at_,e.kp,e.bn⟩
 |cls i p a=>
  obtain⟨⟨u,t,s⟩,r⟩:=X.cls y i p a b;refine⟨u,t,s,λm j o q=>?_⟩
  obtain⟨z,f,fd,pn,N,Mk⟩:=r m j o q;exact⟨n,f,fd,pn,k (.inl Mk.ob),h,Mk.mt,Mk.bn⟩
theorem Uv(c:∀ n,YV G (run T n))(X:Text w.params K mg G T):∀ (n m:Nat),m<=n->∀ {x y:Str}{i:Nat}{f:Ad}{fd:bo}{pn N:Li Str},Q3 K G T x y i f fd pn N\/ZbN K mg G T i f fd pn->FnOk P w K mg base CX0 m f fd pn (spD K (run T m i))
 |n,0,_,_,_,_,_,_,_,_,_=>Zdf
 |n+1,m+1,h,_,_,_,_,_,_,_,.inl a=>ZeQ c (λA b=>Zdy X (λa=>Uv c X n m (Nat.le_of_succ_le_succ h) a) A b) a
 |n+1,m+1,h,_,_,_,_,_,_,_,.inr e=>e P w base m λl d A b=>Zdy X (λa=>Uv c X n l (aP d (Nat.le_of_succ_le_succ h)) a) A b
def Zeb(a:∀ n,YV G (run T n))(X:Text w.params K mg G T)(n:Nat){x y:Str}{f:Ad}{fd:bo}(h:Q3 K G T x y i f fd pn N\/ZbN K mg G T i f fd pn):FnOk P w K mg base CX0 n f fd pn (spD K (run T n i)):=Uv a X n n (aB _) h
variable [ClsTab]
variable{ys:Li V}
section
variable{xs:Li V}
def UQ(b:H p=aa (.lst xs)){a:Ad}:Ya H a↔Ya (upd H p (.lst ys)) a:=WH (Wz b λ_ z=>nomatch z) λ_ z=>nomatch z
def UJ{K:Fg}(a:H p=aa (.lst xs)):Keeps K ad ad H (upd H p (.lst ys)):=⟨λh=>h.upd a (by intro xs z;cases z),λh=>⟨h,UQ a⟩,λ_ h=>by rw[upd_ne (ne_of h a (by intro z;cases z))];exact h,λh n=>⟨by rw[upd_ne (ne_of h a (by intro z;cases z))];exact h,n⟩⟩
def Den.wr{K:Fg}(a:H p=aa (.lst xs)){v:V}(h:Den K ad H v d):Den K ad (upd H p (.lst ys)) v d:=h.map (UJ a)
def Dens.wr{K:Fg}(a:H p=aa (.lst xs))(h:Dens K ad H vs ds):Dens K ad (upd H p (.lst ys)) vs ds:=h.map (UJ a)
theorem EnvOk.wr{K:Fg}(a:H p=aa (.lst xs))(h:EnvOk K ad H O U):EnvOk K ad (upd H p (.lst ys)) O U:=⟨h.len,λi d e=>let ⟨v,e1,e2⟩:=h.at_ i d e;⟨v,e1,e2.wr a⟩⟩
def StOk.wr{K:Fg}(S:StOk K ad H st)(a:H p=aa (.lst xs))(b:p∉ad):StOk K ad (upd H p (.lst ys)) st:=
 S.wrG (UJ a) b
def Ext.wr{e:Hp}(x:Ext ad0 e ad H)(f:H p=aa (.lst xs))(d:e p=ab):Ext ad0 e ad (upd H p (.lst ys)):=by
 refine⟨x.pre,λb c h=>?_,λb c h=>?_,λb o h n=>?_,x.new,λi a h=>(x.kd i a h).trans (UQ f)⟩
 .rw[upd_ne (ne_of_none h d)];exact x.tup b c h
 .rw[upd_ne (ne_of_none h d)];exact x.dk b c h
 .rw[upd_ne (ne_of_none h d)];exact x.keep b o h n
end
theorem Wy{c:Str->NameKind->Bool}:∀ {l:Li (Str×NameKind)}{y:Str},(l.map λ(n,k)=>if c n k=ae then (n,NameKind.cell) else (n,k)).lookup y=(l.lookup y).map λk=>if c y k=ae then NameKind.cell else k
 |[],_=>rfl
 | (n,k) :: r,y=>by
  have a:=@Wy c r y;rw[aW];have e:(if c n k=ae then (n,NameKind.cell) else (n,k))=(n,if c n k=ae then NameKind.cell else k):=by split<;>rfl
  show List.lookup y ((if c n k=ae then (n,NameKind.cell) else (n,k)) :: _)=_
  rw[e,dA,dA];cases q:y==n with
  |true=>rw[beq_iff_eq.mp q];rfl
  |false=>exact a
def Yl{env:PySem.Env}{y:Str}:(relabel sc env).names.lookup y=(sc.names.lookup y).map λk=>if (k==NameKind.free&&env.scope.kind==.function&&env.kindOf y==aa .cell)=ae then NameKind.cell else k:=
 Wy (c:=λn k=>k==NameKind.free&&env.scope.kind==.function&&env.kindOf n==aa .cell)
def Yx{y:Str}{k:NameKind}(h:sc.names.lookup y=aa k)(a:k≠.free):(relabel sc env).names.lookup y=aa k:=by
 rw[Yl,h];have:(k==NameKind.free)=af:=by simpa using a
 show aa (if (k==NameKind.free&&_&&_)=ae then NameKind.cell else k)=aa k
 rw[this,Bool.false_and,Bool.false_and,ar Bf]
def YO{y:Str}(h:sc.names.lookup y=aa .free):(relabel sc env).names.lookup y=aa .cell\/(relabel sc env).names.lookup y=aa .free:=by
 rw[Yl,h];show(aa (if _ then NameKind.cell else NameKind.free))=_\/(aa (if _ then NameKind.cell else NameKind.free))=_
 split
 .exact .inl rfl
 .exact .inr rfl
def Vt{sc:bj}{y:Str}(d:∀ p∈sc.names,p.2≠.cell)(h:(relabel sc env).names.lookup y=aa .cell\/(relabel sc env).names.lookup y=aa .free):sc.names.lookup y=aa .free:=by
 rw[Yl]at h;cases q:sc.names.lookup y with
 |none=>rw[q]at h;rcases h with h|h<;>cases h
 |some k=>
  rw[q]at h;cases k with
  |free=>rfl
  |cell=>
   have:∀ {l:Li (Str×NameKind)},l.lookup y=aa .cell->∃ p∈l,p.2=.cell:=λ{l} e=>by
    induction l with
    |nil=>exact Zb e
    |cons a l c=>
     obtain⟨n,k⟩:=a;rw[dA]at e;split at e
     .cases e;exact⟨_,Ls,rfl⟩
     .obtain⟨p,b,f⟩:=c e;exact⟨p,Lm _ b,f⟩
   obtain⟨p,b,e⟩:=this q;exact au e (d p b)
  |_=>rcases h with h|h<;>simp at h
theorem Xs{env:PySem.Env}:∀ (l:Li (Str×NameKind)) (b:Li (Str×Ad)),(∀ p∈l,p.2=.free->∃ c,env.cells.lookup p.1=aa c)->
  ∃ d,(forIn l b λ(x:Str×NameKind) (r:Li (Str×Ad))=>(do
   if (x.2==NameKind.free)=ae then
    let a <-cellOf env x.1
    pure (ForInStep.yield ((x.1,a) :: r))
   else pure (ForInStep.yield r):Sem (ForInStep (Li (Str×Ad)))))=pure d /\
   (∀ y c,d.lookup y=aa c->b.lookup y=aa c\/((y,NameKind.free)∈l/\env.cells.lookup y=aa c))/\(∀ y,(y,NameKind.free)∈l\/(b.lookup y).isSome->(d.lookup y).isSome)
 |[],b,_=>⟨b,by simp only[List.forIn_nil],λy c h=>.inl h,λy h=>by simpa using h⟩
 | (n,k) :: l,b,h=>by
  by_cases m:k=.free
  .subst m
   obtain⟨t,f⟩:=h (n,.free) Ls rfl;obtain⟨d,e,s,o⟩:=Xs (env:=env) l ((n,t) :: b) λp j=>h p (Lm _ j)
   refine⟨d,?_,λy c q=>?_,λy q=>?_⟩
   .rw[List.forIn_cons]
    simp only[beq_self_eq_true,if_true];have:cellOf env n=pure t:=by unfold cellOf;rw[f]
    simp only[this,pure_bind];exact e
   .rcases s y c q with z|⟨i,g⟩
    .rw[dA]at z
     split at z
     .rename_i u
      cases z;rw[beq_iff_eq.mp u];exact .inr ⟨Ls,f⟩
     .exact .inl z
    .exact .inr ⟨Lm _ i,g⟩
   .refine o y ?_
    rcases q with q|q
    .rcases aK.mp q with z|z
     .cases z
      exact .inr (by rw[dA];simp)
     .exact .inl z
    .refine .inr ?_
     rw[dA];split
     .rfl
     .exact q
  .obtain⟨d,e,s,o⟩:=Xs (env:=env) l b λp j=>h p (Lm _ j)
   refine⟨d,?_,λy c q=>?_,λy q=>?_⟩
   .rw[List.forIn_cons]
    have:(k==NameKind.free)=af:=by simpa using m
    simp only[this,eR,if_false,pure_bind];exact e
   .rcases s y c q with z|⟨i,g⟩
    .exact .inl z
    .exact .inr ⟨Lm _ i,g⟩
   .refine o y ?_
    rcases q with q|q
    .rcases aK.mp q with z|z
     .cases z;exact au rfl m
     .exact .inl z
    .exact .inr q
def VP{sc:bj}(h:∀ p∈sc.names,p.2=.free->∃ c,env.cells.lookup p.1=aa c):∃ a,closureFor sc env=pure a/\(∀ y c,a.lookup y=aa c->env.cells.lookup y=aa c)/\∀ y,(y,NameKind.free)∈sc.names->(a.lookup y).isSome:=by
 obtain⟨a,e,d,b⟩:=Xs (env:=env) sc.names [] h;refine⟨a,?_,λy c q=>?_,λy q=>b y (.inl q)⟩
 .unfold closureFor
  rw[show(λ(x:Str×NameKind) (r:Li (Str×Ad))=>_)=_ from rfl]at e
  first|exact(by simp only[e,pure_bind]) | (simp only[bind_pure]at *;exact e)|exact e
 .rcases d y c q with z|⟨_,z⟩
  .exact Zb z
  .exact z
variable [ClsTab]
variable{iter:az}{ifs:Li az}
def VR{prog:bf}{R:Result->Sd->Prop}{s:Sd}{a:az}{scope:bj}{it p:vL}(I:Nat->Sd->Prop)(turn:∀ n s,I n s->a8 (a9 prog w) A (pyNext it) (λr g=>match r with
   |none=>R (.ok .next) g
   |some v=>a8 (a9 prog w) A (letOwnedTupleGo a it v) (λ_ f=>a8 (a9 prog w) A (assign a env v) (λ_ l=>
     a8 (a9 prog w) A (forIn ifs ae λc r=>if r=ae then do let ok <-isTrue c env (eval c env);pure (ForInStep.yield ok) else pure (ForInStep.yield r)) (λok d=>
      if ok=ae then a8 (a9 prog w) A (eval elt env) (λx k=>
       a8 (a9 prog w) A (call (.builtin "list.append") [p,x]) (λ_ j=>∃ m,m < n/\I m j) (notedBy (a9 prog w) A env λe i=>R (.error e) i) k) (notedBy (a9 prog w) A env λe i=>R (.error e) i) d
      else ∃ m,m < n/\I m d) (notedBy (a9 prog w) A env λe i=>R (.error e) i) l) (notedBy (a9 prog w) A env λe i=>R (.error e) i) f) (notedBy (a9 prog w) A env λe i=>R (.error e) i) g) (notedBy (a9 prog w) A env λe i=>R (.error e) i) s)(n:Nat)(h:I n s):codeAny (a9 prog w) A (.compLoop (.ListComp elt [⟨a,iter,ifs,0⟩] scope pos) 0 it p env) R s:=by
 refine codeAny_loop rfl I (λn s y=>?_) n h
 show a8 _ A ((compTurn (.ListComp elt [⟨a,iter,ifs,0⟩] scope pos) 0 it p env).onRaise (λx=>do noteFrame x env;theTreesLotGoes x)) _ _ s
 refine wpAny_noted ?_;rw[compTurn_list];refine aA (wpAny_standAt (aA (bS (turn n s y) (λr g b=>?_) λ_ _ h'=>h')))
 cases r with
 |none=>exact aF b
 |some v=>
  refine aA (bS b (λ_ f b=>?_) λ_ _ h'=>h')
  refine aA (bS b (λ_ l u=>aA (bS u (λok d o=>?_) λ_ _ h'=>h')) λ_ _ h'=>h')
  cases ok with
  |false=>exact aF ⟨rfl,o⟩
  |true=>
   exact aA (aA (bS o (λx k t=>aA (bS t (λ_ j q=>aF (aF ⟨rfl,q⟩)) λ_ _ h'=>h')) λ_ _ h'=>h'))
def cxC(X:Cx)(N:Li Str)(env:PySem.Env)(a:Sd)(c:Hp)(b:Li Ad)(pQ:Li (Ad×Obj)):Cx:=
 { X with N:=N,s₀:=a,H₀:=c,env:=env,outer:=X.stack,ex:=b,fn:=λ_=>af,pn:=X.pn++pQ,xe:=λ_ _=>False }
variable{m0:Str->Ot vL}{tk:Nat}{O':L2.St}
variable{pQ:Li (Ad×Obj)}{O:L2.St}{sc2:bj}{cl:Li (Str×Ad)}{N:Li Str}
section
variable{H3:Hp}{s3:Sd}{fp:Li Ad}
def Zas(a:L2.Inv X pQ O H3 s3){G:bp}(Q:sc2.kind=.function)(f:∀ p∈sc2.names,p.2≠.cell)(E:G.Ns s3.heap.objs.size m0)(up:∀ b u,s3.heap.get? b=aa u->G.get? b=aa u)(k:∀ y c,cl.lookup y=aa c->X.env.cells.lookup y=aa c)(J:∀ y,sc2.names.lookup y=aa .free->(cl.lookup y).isSome)(s:∀ b∈fp,FpOk X pQ H3 b)(R:∀ b∈fp,b < s3.heap.objs.size)(A:∀ (i:Nat) (y:Str) (v:V),N[i]?=aa y->O'[i]?=aa (aa v)->∃ j:Nat,X.N[j]?=aa y/\O[j]?=aa (aa v)/\sc2.names.lookup y=aa .free/\(X.env.scope.names.lookup y=aa .cell\/X.env.scope.names.lookup y=aa .free))(P:O'.length=N.length) :
  L2.Inv (cxC X N (compEnvC sc2 cl s3.heap.objs.size X.env) s3 H3 fp pQ) [] O' H3 { s3 with heap:=G,toks:=tk } where
 ok:={
  mod:=a.ok.mod
  kind:=Q
  glob:=a.ok.glob
  blt:=a.ok.blt
  above:=aB _
  inj:=λx y c e U=>a.ok.inj x y c (k _ _ e) (k _ _ U)
  has:=λx h=>by
   have e:=Vt (env:=X.env) f h;have:=J x e;cases q:cl.lookup x with
   |none=>rw[q]at this;cases this
   |some c=>exact⟨c,q⟩
  cab:=λx c h=>nomatch h
  hd:=a.ok.hd
  frames:=a.ok.frames
  stk:=.inl rfl
  exf:=λb g=>⟨bC (R b g),λx c e=>(s b g).2.2.2.2.1 x c (k _ _ e)⟩
  bs:=a.bs
  bsz:=aP a.ok.bsz a.sz
  noex:=λb o e g=>by
   rcases (s b g).2.2.2.1 with z|z
   .exact a.ok.noex b o e z
   .exact au (aS (aL e) (aP a.ok.bsz z)) (cJ _)
  exfs:=λb g B=>by
   rcases aK.mp (a.stkSub b B) with z|z
   .exact(s b g).2.1 z
   .exact(s b g).2.2.1 z
  funs:=a.stack
  frf:=a.stkFree }
 os:=rfl
 bare:=a.bare
 base:=Un.kept up
 loc:=⟨m0,E,λi y v T S Y=>by
  obtain⟨j,g1,g2,I,H⟩:=A i y v T S;obtain⟨m,W,F⟩:=a.loc;obtain⟨u,r,l⟩:=F j y v g1 g2 (.inr H);refine⟨u,r,.inr ⟨YO I,?_⟩⟩;rcases l with⟨z,_⟩|⟨_,c,e,z⟩
  .have K:X.env.scope.names.lookup y=aa .local:=z
   rcases H with w|w<;>(rw[K]at w;cases w)
  .have q:=J y I
   cases t:cl.lookup y with
   |none=>rw[t]at q;cases q
   |some Z=>
    have:=k _ _ t;rw[e]at this;cases this
    obtain⟨o,D,hd⟩:=z;exact⟨c,t,o,up c o D,hd⟩⟩
 cell:=λy c e=>by
  obtain⟨v,o,D,hd⟩:=a.cell y c (k _ _ e);exact⟨v,o,up c o D,hd⟩
 free:=a.hok.fresh (aB _)
 freeC:=λy c e=>a.freeC y c (k _ _ e)
 pin:=λp M=>by
  have C:p∈X.pn++pQ:=by simpa[cxC] using M
  obtain⟨e,n,ne,L,d⟩:=a.pin p C;refine⟨up _ _ e,n,bC (aL e),λB=>?_,d⟩
  rcases aK.mp (a.stkSub _ B) with z|z
  .exact ne z
  .exact L z
 hok:=a.hok.kept up
 len:=P
def Zar(p:L2.Inv X pQ O H3 s3){d:Li (Ad×Obj)}{H':Hp}{s':Sd}(m:env.locals=s3.heap.objs.size)(g:L2.Inv (cxC X N env s3 H3 fp pQ) d O' H' s')(sb:Heap.SameBut s3.heap.objs.size s'.heap h')(h:∀ b∈fp,FpOk X pQ H3 b):L2.Inv X pQ O H' { s' with heap:=h' }:=by
 have u:Un (frs X.stack) fp H3 H' s3.heap s'.heap:=g.base;have ne:∀ b o,s3.heap.get? b=aa o->b≠s3.heap.objs.size:=λb o e=>bC (aL e)
 have j:H' s3.heap.objs.size=ab:=by have:=g.free;rw[show(cxC X N env s3 H3 fp pQ).env.locals=s3.heap.objs.size from m]at this;exact this
 refine p.call' (s':={ s' with heap:=h' }) (ch:=fp) g.os ⟨λb o e n a f=>?_,λb o e n a f=>?_,u.free,λb o e f=>?_,u.tups,u.frzs,u.tbls⟩ (λb k e=>?_) g.bare (λb a=>?_)
 .exact(sb.2 b (ne b o e)).trans (u.keep b o e n a f)
 .obtain⟨sl,i⟩:=u.slot b o e n a f
  exact⟨sl,(sb.2 b (ne b o e)).trans i⟩
 .obtain⟨l,i⟩:=u.there b o e f
  exact⟨l,(sb.2 b (ne b o e)).trans i⟩
 .refine(g.hok b k e).stay (λc r hc q=>(sb.2 c ?_).trans q) (λ_ q=>q) λ_ _ q=>q
  rintro rfl
  rcases hc with rfl|hc
  .rw[j]at e;cases e
  .rw[j]at hc;cases hc
 .exact⟨(h b a).2.2.2.1,(h b a).2.1,(h b a).2.2.2.2.1,(h b a).2.2.2.2.2⟩
end
variable [ClsTab]
theorem WB{N:Li Str}:∀ {l:Li Str}{b:Li Nat},Y9 N l=aa b->b.length=l.length/\∀ (i:Nat) (k:Nat),b[i]?=aa k->∃ y,l[i]?=aa y/\N[k]?=aa y
 |[],b,h=>by cases h;exact⟨rfl,λi k e=>by simp at e⟩
 |x :: r,b,h=>by
  unfold Y9 at h;split at h
  .rename_i a as g f
   cases h;obtain⟨d,c⟩:=WB f;refine⟨by simp[d],λi k e=>?_⟩
   cases i with
   |zero=>simp at e;subst e;exact⟨x,rfl,Xt g⟩
   |succ i=>exact c i k (by simpa using e)
  .exact Zb h
theorem StOk.lt{s:Sd}{a:Ad}(I:L2.Inv X pQ O H s)(S:StOk X.K ad H st)(h:a∈ad):a < s.heap.objs.size:=by
 obtain⟨i,b,e⟩:=List.getElem_of_mem h;rcases S.has (show ad[i]?=aa a by rw[Lg b,e]) with⟨o,q⟩|⟨o,q⟩
 .exact I.hok.lt q
 .exact aL (I.kIn a o q)
variable{fr:Li Nat}
def JX{K:Fg}{bs:L2.St}{b:D->Li (Ot D)}(E:EnvOk K ad H O U)(hd:EnvOk K ad H bs (b d)):EnvOk K ad H (bs++fr.map λi=>(O[i]?).join) (Z9 b U fr d):=by
 refine⟨by simp[Z9,hd.len],λi e h=>?_⟩
 unfold Z9 at h;by_cases a:i < (b d).length
 .rw[bG a]at h
  rw[bG (by rw[hd.len];exact a)]
  exact hd.at_ i e h
 .have a:(b d).length<=i:=eZ a
  rw[bA a,aX]at h;rw[bA (by rw[hd.len];exact a),aX,hd.len]
  cases q:fr[i - (b d).length]? with
  |none=>rw[q]at h;cases h
  |some k=>
   rw[q]at h;have h:(U[k]?).join=aa e:=by simpa using h
   have c:U[k]?=aa (aa e):=by
    cases z:U[k]? with
    |none=>rw[z]at h;cases h
    |some o=>rw[z]at h;rw[show o=aa e from h]
   obtain⟨w,g,f⟩:=E.at_ k e c;exact⟨w,by simp[g],f⟩
def XM(K:Fg)(tg:az)(a:Li Str)(b:D->Li (Ot D))(ds:Li D):Prop:=
 ∀ X:Cx,X.K=K->X.calm=ae->X.N.Nodup->(∀ (i:Nat) x,a[i]?=aa x->X.N[i]?=aa x)->(∀ y∈a,X.env.scope.names.lookup y=aa .local)->∀ (pQ:Li (Ad×Obj)) (s:Sd) (os fv:L2.St) (H:Hp) (ad:Li Ad) (v:V) (u:vL) (d:D),os.length=a.length->L2.Inv X pQ (os++fv) H s->RelV v u->Den K ad H v d->d∈ds->
  a8 (a9 X.prog X.w) X.A (assign tg X.env u) (λ_ c=>∃ bs,bs.length=a.length/\EnvOk K ad H bs (b d)/\L2.Inv X pQ (bs++fv) H c) X.xe s
variable{px:Pos}
def VH{K:Fg}{x:Str}:XM K (.Name x px) [x] one ds:=by
 intro X w t k f j pQ s a l H ad v u d g I r n _;obtain⟨o,rfl⟩:∃ o,a=[o]:=by match a,g with|[o],_=>exact⟨o,rfl⟩
 have b:=j x Ls;have c:PG X (.Name x px) (gName 0):=pg_name k (f 0 x rfl) (.inl b) (.inr b);refine thn (c pQ s _ H v u (λO' H'=>O'=[aa v]++l/\H'=H) I r ⟨rfl,rfl⟩) λ_ q ⟨O',H',p,e,m⟩=>?_
 subst e;subst m
 exact⟨[aa v],rfl,⟨rfl,λi e h=>by
  cases i with
  |zero=>cases h;exact⟨v,rfl,n⟩
  |succ i=>exact nomatch (show(ab:Ot (Ot D))=aa (aa e) from h)⟩,p⟩
def VI{K:Fg}{x y:Str}{j:Pos}{k:Nat}{ds:Li D}(l:∀ d∈ds,∃ a b,d=.tup [a,b]):XM K (.Tuple [.Name x px,.Name y j] k tp) [x,y] two ds:=by
 intro X G E z t w pQ s m J H ad v u d B I r M C;obtain⟨o,g,rfl⟩:∃ o g,m=[o,g]:=by match m,B with|[o,g],_=>exact⟨o,g,rfl⟩
 obtain⟨a,b,rfl⟩:=l d C;have q:=w x Ls;have n:=w y (Lm _ Ls);have g1:PG X (.Name x px) (gName 0):=pg_name z (t 0 x rfl) (.inl q) (.inr q);have g2:PG X (.Name y j) (gName 1):=pg_name z (t 1 y rfl) (.inl n) (.inr n);have A:PG X (.Tuple [.Name x px,.Name y j] k tp) _:=pg_tup E (pgs_cons g1 (pgs_cons g2 pgs_nil))
 obtain⟨p,vs,rfl,F,rv⟩:=M.ofTup;cases rv with
 |cons O rv=>cases rv with
  |cons N rv=>
   cases rv;rename_i f c;refine thn (A pQ s _ H _ u (λO' H'=>O'=[aa f,aa c]++J/\H'=H) I r ⟨p,[f,c],rfl,by rw[G];exact F.sq,rfl,f,[c],rfl,c,[],rfl,rfl,rfl,rfl⟩) λ_ Q ⟨O',H',P,e,L⟩=>?_
   subst e;subst L
   exact⟨[aa f,aa c],rfl,⟨rfl,λi e h=>by
    cases i with
    |zero=>cases h;exact⟨f,rfl,O⟩
    |succ i=>cases i with
     |zero=>cases h;exact⟨c,rfl,N⟩
     |succ i=>exact nomatch (show(ab:Ot (Ot D))=aa (aa e) from h)⟩,P⟩
variable{cl:Li (Str×Ad)}{ce cc:CE}{bd:D->Li (Ot D)}{J:It}{tn:Nat->bp->Prop}{Good:Li Ad->Hp->Prop}{ad2:Li Ad}{H2:Hp}{use:Ot (vL->Sem Unit)}{R0:vL->Sd->Prop}{st1:Za}
variable{sc:bj}
section
variable{xs:Li Str}
def Yd(h:Y2 sc sc2 xs=ae):sc2.kind=.function/\(∀ p∈sc2.names,p.2≠.cell)/\(∀ x∈xs,sc2.names.lookup x=aa .local)/\(∀ p∈sc2.names,p.2=.local->sc2.names.lookup p.1=aa .local)/\(xs++ZG sc2).Nodup/\∀ y∈ZG sc2,Wt sc y=ae/\sc2.names.lookup y=aa .free:=by
 unfold Y2 at h;simp only[Ba,aO,cZ,bL,fI,decide_eq_false_iff_not]at h;obtain⟨⟨⟨⟨⟨i,g⟩,f⟩,d⟩,c⟩,b⟩:=h;exact⟨i,g,f,λp a e=>(d p a).elim (λz=>au e z) id,c,b⟩
def mem_frees{y:Str}:y∈ZG sc2↔(y,NameKind.free)∈sc2.names:=by
 unfold ZG;rw[aR];constructor
 .rintro⟨⟨n,k⟩,h,rfl⟩
  rw[dR]at h;have:k=.free:=ao h.2;rw[<-this];exact h.1
 .intro h
  exact⟨(y,.free),dR.mpr ⟨h,by simp⟩,rfl⟩
theorem mem_of_lookup{y:Str}{k:NameKind}:∀ {l:Li (Str×NameKind)},l.lookup y=aa k->(y,k)∈l
 |[],h=>by cases h
 | (n,q) :: l,h=>by
  rw[dA]at h;split at h
  .rename_i e
   cases h;rw[beq_iff_eq.mp e];exact Ls
  .exact Lm _ (mem_of_lookup h)
def JQ(c:Cxt X G F sc N)(b:Y2 sc sc2 xs=ae){C:Ad}{s3:Sd}{H3:Hp}{fp:Li Ad}:Cxt (cxC X (xs++ZG sc2) (compEnvC sc2 cl C X.env) s3 H3 fp pQ) G F sc2 (xs++ZG sc2):=by
 obtain⟨i,d,h,g,f,e⟩:=Yd b;exact {
  hN:=rfl
  vis:=λy a=>by
   rcases ZbA a with z|z|z
   .exact .inl (Yx z (by intro q;cases q))
   .exact au rfl (d _ (mem_of_lookup z))
   .rcases YO (env:=X.env) z with w|w
    .exact .inr (.inl w)
    .exact .inr (.inr w)
  glb:=λy a=>Yx (Qq a) (by intro q;cases q)
  calm:=c.calm
  hu:=c.hu
  gl:=c.gl
  cel:=λy a=>by
   rcases Qk a with z|z
   .exact au rfl (d _ (mem_of_lookup z))
   .exact YO z
  nx:=rfl }
def JN{ok:Za->Prop}{f c:D->Za->Res}{xs:Li D}{r:Li D×Za}(h:Yb ok f c xs st=aa r):ok st:=by
 unfold Yb at h;split at h
 .split at h
  .assumption
  .exact Zb h
 .split at h
  .assumption
  .exact Zb h
def evB(F:Nat->Fn)(c:CE)(b:D->Li (Ot D))(U:Env)(fr:Li Nat):D->Za->Res:=λd s=>ev F c (Z9 b U fr d) s
inductive CI(X:Cx)(tn:Nat->bp->Prop)(fp:List Addr)(fv O:L2.St)(U:Env)(w:Nat)(ds:List D)(go:List D->Za->Option (List D×Za))(Good:List Addr->Hp->Prop)(dd:Addr)(ad2:List Addr)(H2:Hp)(st':Za)(ys:List D)(m:Nat)(s:Shared):Prop
 |mk (i:Nat) (o0:L2.St) (H:Hp) (ad:List Addr) (st:Za) (vs:List V) (es zs:List D) (him:i+m=ds.length) (hol:o0.length=w) (I:L2.Inv X [] (o0++fv) H s) (ti:tn i s.heap) (fi:∀ b∈fp,H b=ab) (En:EnvOk X.K ad H O U) (S:StOk X.K ad H st) (Gd:Good ad H) (nd:dd∉ad) (hv:H dd=aa (.lst vs)) (rv:Dens X.K ad H vs es) (hel:es.length<=i)
  (hcp:go (ds.drop i) st=aa (zs,st')) (hys:es++zs=ys) (ex:Ext ad2 H2 ad H):CI X tn fp fv O U w ds go Good dd ad2 H2 st' ys m s
def Jc(Kx:Cxt X G F sc2 N)(ihE:Zo G F n)(hce:cE G n sc2 N elt=aa ce)(hcc:(ifs=[]/\cc=.c (.bl ae))\/∃ e,ifs=[e]/\cE G n sc2 N e=aa cc){fp:Li Ad}{it:Ad}{ok:Za->Prop}(gm:∀ ad H ad' H',Ext ad H ad' H'->Good ad H->Good ad' H')(gw:∀ ad H p xs ys,H p=aa (.lst xs)->Good ad H->Good ad (upd H p (.lst ys)))(go:∀ i ad H st,Good ad H->StOk X.K ad H st->ok st->i < ds.length->J.go i H)(stop:∀ i ad H st,Good ad H->StOk X.K ad H st->ok st->ds.length=i->J.stop i H)(yl:∀ i ad H st v H',Good ad H->StOk X.K ad H st->ok st->J.yld i H v H'->i < ds.length->Ext ad H ad H'/\StOk X.K ad H' st/\∃ d,ds[i]?=aa d/\Den X.K ad H' v d)(T:Turn X.prog X.w X.K tg J fp it tn)(B:XM X.K tg xs bd ds)(hN:X.N.Nodup)(hx:∀ (i:Nat) x,xs[i]?=aa x->X.N[i]?=aa x)(hl:∀ y∈xs,X.env.scope.names.lookup y=aa .local)(exx:X.xe=λ_ _=>False)(fpk:∀ {H:Hp},(∀ b∈fp,H b=ab)->∀ b∈fp,FpOk X [] H b){fv:L2.St}(ec:∀ {ad H bs d},EnvOk X.K ad H O U->EnvOk X.K ad H bs (bd d)->EnvOk X.K ad H (bs++fv) (Z9 bd U fr d)){dd:Ad}{ys:Li D}(D0:H2 dd=ab)(hz:ds.length<=1000){R:Result->Sd->Prop}(done:∀ s5 σ5 H ad vs,L2.Inv X [] σ5 H s5->StOk X.K ad H st'->dd∉ad->H dd=aa (.lst vs)->Dens X.K ad H vs ys->Ext ad2 H2 ad H->R (.ok .next) s5){s:Sd}{m:Nat}(h0:CI X tn fp fv O U xs.length ds (Yb ok (evB F ce bd U fr) (evB F cc bd U fr)) Good dd ad2 H2 st' ys m s) :
  codeAny (a9 X.prog X.w) X.A (.compLoop (.ListComp elt [⟨tg,iter,ifs,0⟩] sc2 pos) 0 (.ref it) (.ref dd) X.env) R s:=by
 refine VR _ (λm s h=>?_) m h0
 cases h with
 |mk i o0 H ad st vs es zs him hol I ti fi En S Gd nd hv rv hel a Z ex=>
 have W:=JN a;have none_of:∀ {E:vL->Sd->Prop}{α:Type}{t:Sem α}{R:α->Sd->Prop}{s0:Sd},a8 (a9 X.prog X.w) X.A t R X.xe s0->a8 (a9 X.prog X.w) X.A t R E s0:=λh=>by
  rw[exx]at h;exact bS h (λ_ _ q=>q) λ_ _ q=>q.elim
 by_cases hi:i < ds.length
 .refine thn (T.item X rfl rfl rfl Kx.calm i [] s _ H _ I (fpk fi) ti (go i ad H st Gd S W hi)) λr s5 ⟨u,hr,h5'⟩=>?_
  subst hr;refine thn h5' λ_ s6 ⟨v,H',I6,r6,y6,t6,f6⟩=>?_
  obtain⟨x6,S6,d,ed,dv⟩:=yl i ad H st v H' Gd S W y6 hi;have hd:ds.drop i=d :: ds.drop (i+1):=by
   rw[bV hi];rw[Lg hi]at ed;cases ed;rfl
  refine thn (none_of (B X rfl Kx.calm hN hx hl _ s6 o0 _ H' ad v u _ hol (I6.pinned (fpk f6) (T.obj _ _ t6)) r6 dv (aV ed))) λ_ s7 ⟨bs,lb,Eb,I7⟩=>?_
  have En6:=En.mono x6;have En7:=ec En6 Eb
  -- behind the item's turn
  have Y:∀ {M:Hp}{s9:Sd}{g:Li Ad}{st9:Za}{vs9:Li V}{es9 zs9:Li D},L2.Inv X ([]++pinsAt fp s6.heap) (bs++fv) M s9->StOk X.K g M st9->Good g M->dd∉g->M dd=aa (.lst vs9)->Dens X.K g M vs9 es9->es9.length<=i+1->
    Yb ok (evB F ce bd U fr) (evB F cc bd U fr) (ds.drop (i+1)) st9=aa (zs9,st')->es9++zs9=ys->Ext ad2 H2 g M->EnvOk X.K g M O U->
    ∃ m',m' < m/\CI X tn fp fv O U xs.length ds (Yb ok (evB F ce bd U fr) (evB F cc bd U fr)) Good dd ad2 H2 st' ys m' s9:=
   λI9 S9 G9 n9 v9 r9 l9 c9 y9 x9 e9=>
    have pk:=λb hb o e=>I9.pin (b,o) (bP _ (bP _ (mem_pinsAt hb e)))
    ⟨m - 1,by omega,.mk (i+1) bs _ _ _ _ _ _ (by omega) lb I9.unpinned (T.keep _ _ _ t6 λb hb o e=>(pk b hb o e).1) (λb hb=>let ⟨o,e,_⟩:=T.obj _ _ t6 b hb;(pk b hb o e).2.1) e9 S9 G9 n9 v9 r9 l9 c9 y9 x9⟩
  -- the L
  have L:∀ {k:Bool}{j:Za},evB F cc bd U fr d st=aa (.bl k,j)->∀ {R:Bool->Sd->Prop}{E:vL->Sd->Prop},(∀ s8 l f,L2.Inv X ([]++pinsAt fp s6.heap) (bs++fv) l s8->Ext ad H' f l->StOk X.K f l j->R k s8)->
    a8 (a9 X.prog X.w) X.A (forIn ifs ae λc r=>if r=ae then do let ok <-isTrue c X.env (eval c X.env);pure (ForInStep.yield ok) else pure (ForInStep.yield r)) R E s7:=λ{k j} q {R E} hR=>by
   rcases hcc with⟨rfl,rfl⟩|⟨e,rfl,he⟩
   .cases q
    exact wpAny_tests_nil (hR s7 H' ad I7 (Ext.refl _ _) S6)
   .refine wpAny_tests_one (thn (none_of ((ihE X sc2 _ Kx e cc he).pt _ s7 _ H' (λk' l=>k'=k/\∃ f,Ext ad H' f l/\StOk X.K f l j) I7 ⟨ad,Z9 bd U fr d,st,k,j,En7,S6,q,λad' H' x S'=>⟨rfl,ad',x,S'⟩⟩)) λk' s8 ⟨l,I8,e8,f,C,S8⟩=>?_)
    subst e8;exact hR s8 l f I8 C S8
  have n8:∀ {f l},Ext ad H' f l->dd∉f:=λC z=>((x6.trans C).new dd z).elim nd λw=>by rw[hv]at w;cases w
  have v8:∀ {f l},Ext ad H' f l->l dd=aa (.lst vs):=λC=>(x6.trans C).keep dd _ hv nd
  have rv6:=rv.mono x6;have ex6:=ex.trans x6;have G6:=gm _ _ _ _ x6 Gd;clear x6 En Eb ex Gd S I hv rv;rw[hd]at a;unfold Yb at a;rw[aq W]at a;split at a
  .rename_i j q1
   split at a
   .rename_i y st3 q2
    split at a
    .rename_i zs' st4 q3
     cases a;refine L q1 λs8 l f I8 C S8=>?_
     rw[aq rfl];refine thn (none_of ((ihE X sc2 _ Kx elt ce hce).pe _ s8 _ l (λv8 M=>∃ g,Ext f l g M/\StOk X.K g M st3/\Den X.K g M v8 y) I8 ⟨f,Z9 bd U fr d,j,y,st3,En7.mono C,S8,q2,λv8 ad' H' x S' dn=>⟨ad',x,S',dn⟩⟩)) λu9 s9 ⟨v9,M,I9,r9,g,x9,S9,d9⟩=>?_
     have P:=C.trans x9;have Q:=v8 P;have hlen:vs.length=es.length:=rv6.length;refine thn (none_of (mt_append (X:=X) _ s9 _ M (.ref dd) [v9] (.ref dd) [u9] (λ_ H10=>H10=upd M dd (.lst (vs++[v9]))) I9 rfl (.cons r9 .nil) ⟨dd,vs,v9,rfl,rfl,Q,Nat.lt_of_le_of_lt (show vs.length<=1000 by omega) (by decide),rfl⟩)) λu10 s10 ⟨v10,H10,I10,r10,e10⟩=>?_
     subst e10;have nd9:=n8 P;exact Y (vs9:=vs++[v9]) (es9:=es++[y]) (zs9:=zs') I10 (S9.wr Q nd9) (gw _ _ _ _ _ Q (gm _ _ _ _ P G6)) nd9 upd_same (((rv6.mono P).append (.cons d9 .nil)).wr Q) (by rw[aH,fS];omega) q3 (by rw[<-Z,aM];rfl) ((ex6.trans P).wr Q D0) ((En6.mono P).wr Q)
    .exact Zb a
   .exact Zb a
  .rename_i j q1
   refine L q1 λs8 l f I8 C S8=>?_
   rw[ar Bf];exact Y I8 S8 (gm _ _ _ _ C G6) (n8 C) (v8 C) (rv6.mono C) (by omega) a Z (ex6.trans C) (En6.mono C)
  .exact Zb a
 .refine thn (T.done X rfl rfl rfl Kx.calm i [] s _ H _ I (fpk fi) ti (stop i ad H st Gd S W (by omega))) λr s5 ⟨hr,I5⟩=>?_
  subst hr;rw[List.drop_eq_nil_of_le (eZ hi)]at a;unfold Yb at a;rw[aq W]at a;cases a;rw[bD]at Z;subst Z;exact done s5 _ H ad vs I5 S nd hv rv ex
def UD(Kx:Cxt X G F sc N)(ihE:Zo G F n)(P:Y2 sc sc2 xs=ae)(hfr:Y9 N (ZG sc2)=aa fr)(hce:cE G n sc2 (xs++ZG sc2) elt=aa ce)(hcc:(ifs=[]/\cc=.c (.bl ae))\/∃ e,ifs=[e]/\cE G n sc2 (xs++ZG sc2) e=aa cc)(c1:∀ y c,cl.lookup y=aa c->X.env.cells.lookup y=aa c)(c2:∀ y,(y,NameKind.free)∈sc2.names->(cl.lookup y).isSome){fp:Li Ad}{it:Ad}{ok:Za->Prop}(gm:∀ ad H ad' H',Ext ad H ad' H'->Good ad H->Good ad' H')(gw:∀ ad H p xs ys,H p=aa (.lst xs)->Good ad H->Good ad (upd H p (.lst ys)))(go:∀ i ad H st,Good ad H->StOk X.K ad H st->ok st->i < ds.length->J.go i H)(stop:∀ i ad H st,Good ad H->StOk X.K ad H st->ok st->ds.length=i->J.stop i H)(yl:∀ i ad H st v H',Good ad H->StOk X.K ad H st->ok st->J.yld i H v H'->i < ds.length->Ext ad H ad H'/\StOk X.K ad H' st/\∃ d,ds[i]?=aa d/\Den X.K ad H' v d){s2 s3:Sd}{dd:Ad}{h:bp}{ys:Li D}(B:XM X.K tg xs bd ds)(T:Turn X.prog X.w X.K tg J fp it tn)(t2:tn 0 s2.heap)(I:∀ b∈fp,FpOk X pQ H2 b)(fb:∀ b∈fp,b < dd)(E2:EnvOk X.K ad2 H2 O U)(S2:StOk X.K ad2 H2 st1)(g2:Good ad2 H2)(r:Yb ok (λd s=>ev F ce (Z9 bd U fr d) s) (λd s=>ev F cc (Z9 bd U fr d) s) ds st1=aa (ys,st'))(hz:ds.length<=1000)(hp:Post X.K ad2 H2 (.lst st'.length) (st'++[(ae,ys)]) Q)(V:∀ C dd t H5 Z,t.heap.Ns C Z->(∀ h',Heap.SameBut C t.heap h'->L2.Inv X pQ O H5 { t with heap:=h' })->FpOk X pQ H5 C->Q (.ref dd) H5->compPost (a9 X.prog X.w) X.A X.xe use R0 (.ref dd) C (.ok .next) t)  (L:H2 dd=ab) (W:L2.Inv X pQ O (upd H2 dd (.lst [])) s3) (z3:s3.heap.objs.size=dd+1) (Y:dd∉ad2) (l:h.Ns s3.heap.objs.size m0) (up:∀ b u,s3.heap.get? b=aa u->h.get? b=aa u) (M:∀ b u,s2.heap.get? b=aa u->s3.heap.get? b=aa u) :
  codeAny (a9 X.prog X.w) X.A (.compStart (.ListComp elt [⟨tg,iter,ifs,0⟩] sc2 pos) 0 (.ref it) (.ref dd) (compEnvC sc2 cl s3.heap.objs.size X.env)) (compPost (a9 X.prog X.w) X.A X.xe use R0 (.ref dd) s3.heap.objs.size) { s3 with heap:=h,toks:=tk }:=by
 obtain⟨h1,h2,h3,h4,h5,h6⟩:=Yd P;have f3:∀ b∈fp,FpOk X pQ (upd H2 dd (.lst [])) b:=λb f=>⟨by rw[upd_ne (bC (fb b f))];exact(I b f).1,(I b f).2⟩
 obtain⟨fl,fg⟩:=WB hfr;have I4:=Zas (N:=xs++ZG sc2) (cl:=cl) (fp:=fp) (tk:=tk) (O':=ag xs.length ab++fr.map λi=>(O[i]?).join) W h1 h2 l up c1 (λy e=>c2 y (mem_of_lookup e)) f3 (λb f=>by rw[z3];exact Nat.lt_succ_of_lt (fb b f)) (λi y v e1 g=>by
  by_cases E:i < xs.length
  .rw[bG (by simpa using E),fR,aq E]at g;cases g
  .have E:xs.length<=i:=eZ E
   rw[bA (by simpa using E),aX,dH]at g
   rw[bA E]at e1;cases q:fr[i - xs.length]? with
   |none=>rw[q]at g;cases g
   |some k=>
    rw[q]at g;have g:(O[k]?).join=aa v:=by simpa using g
    have e3:O[k]?=aa (aa v):=by
     cases w:O[k]? with
     |none=>rw[w]at g;cases g
     |some o=>rw[w]at g;rw[show o=aa v from g]
    obtain⟨y',g1,g2⟩:=fg _ k q;rw[e1]at g1;cases g1
    obtain⟨k1,k2⟩:=h6 y (aV e1);exact⟨k,by rw[Kx.hN];exact g2,e3,k2,Kx.cel y k1⟩) (by simp[fl])
 have K':=JQ (cl:=cl) (C:=s3.heap.objs.size) (s3:=s3) (H3:=upd H2 dd (.lst [])) (fp:=fp) (pQ:=pQ) Kx P;have m:=Jc (R:=compPost (a9 X.prog X.w) X.A X.xe use R0 (.ref dd) s3.heap.objs.size) (pos:=pos) (iter:=iter) K' ihE hce hcc gm gw go stop yl T B h5 (λi x e=>by show(xs++ZG sc2)[i]?=aa x;rw[bG (bF.mp e).1];exact e) (λy hy=>Yx (h3 y hy) (by intro q;cases q)) rfl (λ{H} hn b f=>⟨hn b f,by
  show b≠s3.heap.objs.size;rw[z3];exact bC (Nat.lt_succ_of_lt (fb b f)),λhs=>(aK.mp (W.stkSub b hs)).elim (I b f).2.1 (I b f).2.2.1,.inl f,λy c e=>(I b f).2.2.2.2.1 y c (c1 _ _ e),λp hp=>(I b f).2.2.2.2.2 p (by simpa[cxC] using hp)⟩) (O:=O) (U:=U) (fr:=fr) (λa b=>JX a b) (dd:=dd) (ad2:=ad2) (H2:=H2) (st':=st') (ys:=ys) L hz (λt σ5 H ad vs I5 S nd hv rv ex=>by
   obtain⟨Z,hn,_⟩:=I5.loc;refine V s3.heap.objs.size dd t H Z hn (λh' sb=>Zar W rfl I5 sb f3) (W.fpOk (aB _) I5.free) (hp (.ref dd) (ad++[dd]) H ⟨λj a e=>Xa (ex.pre j a e),ex.tup,ex.dk,ex.keep,λb f=>?_,ex.kd⟩ (S.adopt hv nd rv) (.lst ⟨by rw[<-S.len];exact Zt,Wz hv λ_ z=>nomatch z⟩))
   rcases bE.mp f with z|z
   .exact ex.new b z
   .rw[aI.mp z];exact .inr L)
  (.mk 0 (ag xs.length ab) (upd H2 dd (.lst [])) ad2 st1 [] [] ys (cC _) (dH ..) I4 (T.keep _ _ _ t2 λb _ o e=>up b o (M b o e)) (λb f=>(f3 b f).1) (E2.mono (Ext.laid L)) (S2.laid L) (gm _ _ _ _ (Ext.laid L) g2) Y upd_same .nil (aB _) r rfl (Ext.laid L))
 exact codeAny_compStart_list m (T.self X.A 0 _ _ _ (T.keep _ _ _ t2 λb _ o e=>up b o (M b o e)) m)
def Jb(Kx:Cxt X G F sc N)(x:Zo G F n)(m:Y2 sc sc2 xs=ae)(E:Y9 N (ZG sc2)=aa fr)(I:cE G n sc2 (xs++ZG sc2) elt=aa ce)(L:(ifs=[]/\cc=.c (.bl ae))\/∃ e,ifs=[e]/\cE G n sc2 (xs++ZG sc2) e=aa cc)(c1:∀ y c,cl.lookup y=aa c->X.env.cells.lookup y=aa c)(c2:∀ y,(y,NameKind.free)∈sc2.names->(cl.lookup y).isSome){M:Li Ad}{it:Ad}{ok:Za->Prop}(Good:Li Ad->Hp->Prop)(gm:∀ ad H ad' H',Ext ad H ad' H'->Good ad H->Good ad' H')(gw:∀ ad H p xs ys,H p=aa (.lst xs)->Good ad H->Good ad (upd H p (.lst ys)))(go:∀ i ad H st,Good ad H->StOk X.K ad H st->ok st->i < ds.length->J.go i H)(stop:∀ i ad H st,Good ad H->StOk X.K ad H st->ok st->ds.length=i->J.stop i H)(Y:∀ i ad H st v H',Good ad H->StOk X.K ad H st->ok st->J.yld i H v H'->i < ds.length->Ext ad H ad H'/\StOk X.K ad H' st/\∃ d,ds[i]?=aa d/\Den X.K ad H' v d){g:Sd}{ys:Li D}(P:L2.Inv X pQ O H2 g)(B:XM X.K tg xs bd ds)(T:Turn X.prog X.w X.K tg J M it tn)(S:tn 0 g.heap)(f2:∀ b∈M,FpOk X pQ H2 b)(E2:EnvOk X.K ad2 H2 O U)(W:StOk X.K ad2 H2 st1)(g2:Good ad2 H2)(j:Yb ok (λd s=>ev F ce (Z9 bd U fr d) s) (λd s=>ev F cc (Z9 bd U fr d) s) ds st1=aa (ys,st'))(hz:ds.length<=1000)(hp:Post X.K ad2 H2 (.lst st'.length) (st'++[(ae,ys)]) Q)(q:∀ C dd t R Z,t.heap.Ns C Z->(∀ h',Heap.SameBut C t.heap h'->L2.Inv X pQ O R { t with heap:=h' })->FpOk X pQ R C->Q (.ref dd) R->compPost (a9 X.prog X.w) X.A X.xe use R0 (.ref dd) C (.ok .next) t) :
  a8 (a9 X.prog X.w) X.A (newList []) (λr l=>a8 (a9 X.prog X.w) X.A (newFunctionEnv sc2 X.env.globals cl [] X.env.qual ab .none (aa X.env)) (λh k=>
   codeAny (a9 X.prog X.w) X.A (.compStart (.ListComp elt [⟨tg,iter,ifs,0⟩] sc2 pos) 0 (.ref it) r { h with scope:=relabel sc2 X.env }) (compPost (a9 X.prog X.w) X.A X.xe use R0 r h.locals) k) X.xe l) X.xe g:=by
 obtain⟨h1,h2,h3,h4,h5,h6⟩:=Yd m;have fb:∀ b∈M,b < g.heap.objs.size:=λb hb=>let ⟨o,e,_⟩:=T.obj 0 _ S b hb;aL e
 refine wpAny_newObj_type (wpAny_newFunctionEnv h2 (by intro y hy;simp at hy) (λV f a=>?_) h1)
 dsimp only at f a ⊢;have I3:L2.Inv X pQ O (upd H2 g.heap.objs.size (.lst [])) { g with heap:=g.heap.push { cls:=.type "list",dict:=ab,data:=.seq ([]:Li vL).toArray } }:=P.lnew (its:=[]) (t':=g.toks) .nil (aU _)
 have e3:g.heap.push { cls:=.type "list",dict:=ab,data:=.seq ([]:Li vL).toArray }=({ g with heap:=g.heap.push { cls:=.type "list",dict:=ab,data:=.seq ([]:Li vL).toArray } }:Sd).heap:=rfl
 exact UD Kx x m E I L c1 c2 gm gw go stop Y B T S f2 fb E2 W g2 j hz hp q (P.hok.fresh (aB _)) I3 (Heap.size_push ..) (λz=>au (W.lt P z) (cJ _)) f (λb u e=>a.extBut b u (bC (aL e)) (aT _ e)) (λb u e=>aT _ e)
end
variable [ClsTab]
def ZbG(X:Cx)(O:L2.St)(U:Env)(ds:Li D)(ok:Za->Prop)(st1 a:Za)(ys:Li D)(Q:VK)(J:It)(b:Hp):Prop:=
 ∃ (ad1:Li Ad) (Good:Li Ad->Hp->Prop),(∀ ad H ad' H',Ext ad H ad' H'->Good ad H->Good ad' H')/\(∀ ad H p c ys,H p=aa (.lst c)->Good ad H->Good ad (upd H p (.lst ys))) /\
  (∀ i ad H st,Good ad H->StOk X.K ad H st->ok st->i < ds.length->J.go i H)/\(∀ i ad H st,Good ad H->StOk X.K ad H st->ok st->ds.length=i->J.stop i H)/\(∀ i ad H st v H',Good ad H->StOk X.K ad H st->ok st->J.yld i H v H'->i < ds.length->Ext ad H ad H'/\StOk X.K ad H' st/\∃ d,ds[i]?=aa d/\Den X.K ad H' v d) /\
  EnvOk X.K ad1 b O U/\StOk X.K ad1 b st1/\Good ad1 b/\Post X.K ad1 b (.lst a.length) (a++[(ae,ys)]) Q
variable{st2:Za}
def VO{ys:Li D}{f:Ev}(E:EnvOk X.K ad H O U)(S:StOk X.K ad H st)(q:f U st=aa (.tup ds,st1))(p:Post X.K ad H (.lst st2.length) (st2++[(ae,ys)]) Q) :
  iTup X.K (tE X.K f) O H (ZbG X O U ds (λ_=>True) st1 st2 ys Q):=by
 refine⟨ad,U,st,.tup ds,st1,E,S,q,λv c o d n m=>?_⟩
 obtain⟨a,vs,rfl,j,rv⟩:=m.ofTup;refine⟨a,rfl,⟨vs,(j).sq⟩,c,λad H=>TupAt X.K H a vs/\Dens X.K ad H vs ds,λ_ _ _ _ x g=>⟨g.1.mono x,g.2.mono x⟩,λ_ H p k ys h g=>⟨g.1.upd h (by intro k z;cases z),g.2.wr h⟩,λi ad H st g _ _ b=>?_,λi ad H st g _ _ b=>⟨vs,(g.1).sq,by rw[g.2.length];exact cR b⟩,
  λi ad H st v H' g S _ y b=>?_,E.mono d,n,⟨j,rv⟩,p.later d⟩
 .obtain⟨v,e,_⟩:=g.2.get (Lg b)
  exact⟨vs,v,(g.1).sq,e⟩
 .obtain⟨w,e,l⟩:=g.2.get (Lg b)
  have:=y.2 vs ((g.1).sq);rw[e]at this;cases this
  cases y.1;exact⟨Ext.refl _ _,S,_,Lg b,l⟩
def JM{n:Int}{ys:Li D}{f:Ev}(e:n < 2 ^ 62/\-(2 ^ 62)<=n)(E:EnvOk X.K ad H O U)(S:StOk X.K ad H st)(q:f U st=aa (.int n,st1))(p:Post X.K ad H (.lst st2.length) (st2++[(ae,ys)]) Q) :
  iRng1 (tCons (tE X.K f) tNil) O H (ZbG X O U ((aj n.toNat).map λ(k:Nat)=>D.int (k:Int)) (λ_=>True) st1 st2 ys Q):=by
 refine⟨ad,U,st,.int n,st1,E,S,q,λv c j d h g=>?_⟩
 cases g.ofInt;refine⟨n,rfl,e.2,e.1,c,λ_ _=>True,λ_ _ _ _ _ _=>trivial,λ_ _ _ _ _ _ _=>trivial,λi ad H st _ _ _ a=>(show i < n.toNat by simpa using a),λi ad H st _ _ _ a=>(show n.toNat<=i by simpa using cR a),λi ad H st v H' _ S _ y a=>?_,E.mono d,h,trivial,p.later d⟩
 cases y.1;have b:i < n.toNat:=by simpa using a
 refine⟨Ext.refl _ _,S,.int (i:Int),?_,?_⟩
 .rw[aX,List.getElem?_range b];rfl
 .rw[y.2,Int.zero_add];exact .int _
def VN{c:Xl}{ys:Li D}{f:Ev}(E:EnvOk X.K ad H O U)(S:StOk X.K ad H st)(q:f U st=aa (.lst l,st1))(m:st1[l]?=aa c)(p:Post X.K ad H (.lst st2.length) (st2++[(ae,ys)]) Q) :
  iList X.K (tE X.K f) O H (ZbG X O U c.2 (λs=>s[l]?=aa c) st1 st2 ys Q):=by
 refine⟨ad,U,st,.lst l,st1,E,S,q,λv d r h k o=>?_⟩
 obtain⟨a,rfl,j⟩:=o.ofLst;obtain⟨vs,rv,sq⟩:=k.list j (show st1[l]?=aa (c.1,c.2) from m);refine⟨a,rfl,⟨vs,sq⟩,d,λad H=>LA ad H l a,λ_ _ _ _ x g=>g.mono x,λ_ _ _ _ _ e g=>⟨g.1,λz=>g.2 ((UQ e).mpr z)⟩,λi ad H st g S e b=>?_,λi ad H st g S e b=>?_,λi ad H st v H' g S e y b=>?_,E.mono h,k,j,p.later h⟩
 .obtain⟨vs,rv,sq⟩:=S.list g (show st[l]?=aa (c.1,c.2) from e)
  obtain⟨v,e,_⟩:=rv.get (Lg b);exact⟨vs,v,sq,e⟩
 .obtain⟨vs,rv,sq⟩:=S.list g (show st[l]?=aa (c.1,c.2) from e)
  exact⟨vs,sq,by rw[rv.length];exact cR b⟩
 .obtain⟨vs,rv,sq⟩:=S.list g (show st[l]?=aa (c.1,c.2) from e)
  obtain⟨w,e,n⟩:=rv.get (Lg b);have:=y.2 vs sq;rw[e]at this;cases this
  cases y.1;exact⟨Ext.refl _ _,S,_,Lg b,n⟩
def Za9{ds:Li D}(e:ds.all Jk=ae):∀ d∈ds,∃ a b,d=.tup [a,b]:=λd c=>by
 have:=cZ.mp e d c;unfold Jk at this;split at this
 .exact⟨_,_,rfl⟩
 .cases this
def Js{x:D}{ds:Li D}{ok:Za->Prop}(h:Uq x st=aa (ds,ok)):((x=.tup ds/\ok=λ_=>True)\/∃ l c,x=.lst l/\st[l]?=aa c/\ds=c.2/\ok=λs=>s[l]?=aa c)/\∀ d∈ds,∃ a b,d=.tup [a,b]:=by
 unfold Uq at h;split at h
 .split at h
  .rename_i e
   cases h;exact⟨.inl ⟨rfl,rfl⟩,Za9 e⟩
  .exact Zb h
 .split at h
  .rename_i c f
   split at h
   .rename_i e
    cases h;exact⟨.inr ⟨_,c,rfl,f,rfl,rfl⟩,Za9 e⟩
   .exact Zb h
  .exact Zb h
 .exact Zb h
def Jq{d:Li Str}(h:tgN tg=aa d):(∃ x px,tg=.Name x px/\d=[x])\/∃ x y px f k tp,tg=.Tuple [.Name x px,.Name y f] k tp/\d=[x,y]:=by
 unfold tgN at h;split at h
 .cases h;exact .inl ⟨_,_,rfl,rfl⟩
 .rename_i es k tp
  have nm:∀ {e:az}{x:Str},nmE e=aa x->∃ p,e=.Name x p:=λ{e x} h=>by
   unfold nmE at h;split at h
   .cases h;exact⟨_,rfl⟩
   .exact Zb h
  cases es with
  |nil=>exact Zb h
  |cons a es=>cases es with
   |nil=>exact Zb h
   |cons b es=>cases es with
    |cons c es=>exact Zb h
    |nil=>
     refine ZQ (P:=λd=>_\/∃ x y px f i g,Expr.Tuple [a,b] k tp=.Tuple [.Name x px,.Name y f] i g/\d=[x,y]) h λx y l j=>?_
     obtain⟨px,rfl⟩:=nm l;obtain⟨f,rfl⟩:=nm j;exact .inr ⟨x,y,px,f,k,tp,rfl,rfl⟩
 .exact Zb h
inductive CSh(G:Gs)(n:Nat)(sc:bj)(N:List Str)(elt:az)(sc2:bj):List Comprehension->CE->Prop
 |mk {tg it:az}{ifs:List az}{xs:List Str}{fr:List Nat}{r:Option (Option Bool)}{ci ce cc:CE} (htg:tgN tg=aa xs) (hsc:Y2 sc sc2 xs=ae) (hfr:Y9 N (ZG sc2)=aa fr) (hi:itC G sc it (cE G n sc N) xs=aa (r,ci)) (hce:cE G n sc2 (xs++ZG sc2) elt=aa ce) (hcc:(ifs=[]/\cc=.c (.bl ae))\/∃ e,ifs=[e]/\cE G n sc2 (xs++ZG sc2) e=aa cc):CSh G n sc N elt sc2 [⟨tg,it,ifs,0⟩] (mkC xs.length r fr ci ce cc)
def Zb1{G:Gs}{c:CE}(h:cE G (n+1) sc N (.ListComp elt gens sc2 pos)=aa c):CSh G n sc N elt sc2 gens c:=by
 replace h:Zdn G sc sc2 N (cE G n sc N) (cE G n sc2) elt gens=aa c:=h;have no:∀ {P:Prop},(ab:Ot CE)=aa c->P:=λz=>nomatch z
 cases gens with
 |nil=>exact no h
 |cons g gs=>
  obtain⟨tg,it,ifs,k⟩:=g;cases k with
  |negSucc _=>cases gs<;>exact no h
  |ofNat m=>cases m with
   |succ _=>cases gs<;>exact no h
   |zero=>cases gs with
    |cons _ _=>exact no h
    |nil=>
     replace h:(match tgN tg with
      |none=>ab
      |some b=>og (Y2 sc sc2 b=ae) (o3 (λfr p (q:CE×CE)=>mkC b.length p.1 fr p.2 q.1 q.2) (Y9 N (ZG sc2)) (itC G sc it (cE G n sc N) b) (o2 Prod.mk (cE G n sc2 (b++ZG sc2) elt) (ifC (cE G n sc2 (b++ZG sc2)) ifs))))=aa c:=h
     cases d:tgN tg with
     |none=>rw[d]at h;cases h
     |some b=>
      rw[d]at h;refine Xi h λf h=>Xu (P:=CSh G n sc N elt sc2 _) h λfr p q i r o=>ZQ (P:=λq:CE×CE=>CSh G n sc N elt sc2 _ (mkC b.length p.1 fr p.2 q.1 q.2)) o λce cc j e=>.mk d f i r j ?_
      cases ifs with
      |nil=>cases e;exact .inl ⟨rfl,rfl⟩
      |cons a l=>cases l with
       |nil=>exact .inr ⟨a,rfl,e⟩
       |cons _ _=>exact Zb e
inductive CR(b:D->List (Option D))(w:D->Za->Option (List D×(Za->Prop)))(fr:List Nat)(fi fe fc:Ev)(U:Env)(st:Za):D->Za->Prop
 |mk {x:D}{st1 st2:Za}{ds ys:List D}{ok:Za->Prop} (q1:fi U st=aa (x,st1)) (q2:w x st1=aa (ds,ok)) (hz:ds.length<=1000) (q3:Yb ok (λd s=>fe (Z9 b U fr d) s) (λd s=>fc (Z9 b U fr d) s) ds st1=aa (ys,st2)):CR b w fr fi fe fc U st (.lst st2.length) (st2++[(ae,ys)])
def XU{b:D->Li (Ot D)}{w:D->Za->Ot (Li D×(Za->Prop))}{a c f:Ev}(e:Xj b w fr a c f U st=aa (d,st')):CR b w fr a c f U st d st':=by
 unfold Xj at e;split at e
 .split at e
  .split at e
   .split at e
    .cases e;exact .mk ‹_› ‹_› ‹_› ‹_›
    .exact Zb e
   .exact Zb e
  .exact Zb e
 .exact Zb e
inductive CIt(X:Cx)(pQ:List (Addr×Obj))(s:Shared)(O:L2.St)(U:Env)(tg it:az)(xs:List Str)(F:Nat->Fn)(fr:List Nat)(ce cc:CE)(Q:VK):Prop
 |mk {bd:D->List (Option D)}{ds:List D}{ok:Za->Prop}{st1 st2:Za}{ys:List D} (B:XM X.K tg xs bd ds) (hz:ds.length<=1000) (q3:Yb ok (λd s=>ev F ce (Z9 bd U fr d) s) (λd s=>ev F cc (Z9 bd U fr d) s) ds st1=aa (ys,st2)) (hp:Zf it=ae) (pi:a8 (a9 X.prog X.w) X.A (eval it X.env) (λv s1=>a8 (a9 X.prog X.w) X.A (pyIter v) (PIE X pQ O tg (ZbG X O U ds ok st1 st2 ys Q)) X.xe s1) X.xe s):CIt X pQ s O U tg it xs F fr ce cc Q
def Vm{f:α->β}{o:Ot α}{b:β}(h:o.map f=aa b):∃ a,o=aa a/\f a=b:=by
 cases o with
 |none=>exact Zb h
 |some a=>exact⟨a,rfl,by cases h;rfl⟩
variable{F:Nat->Fn}
def ZbZ{G:Gs}(g:Zo G F n)(m:Cxt X G F sc N){i:Li Str}{r:Ot (Ot Bool)}{w:CE}(C:tgN tg=aa i)(f:itC G sc it (cE G n sc N) i=aa (r,w)){s:Sd}(I:L2.Inv X pQ O H s)(E:EnvOk X.K ad H O U)(S:StOk X.K ad H st)(e:ev F (mkC i.length r fr w ce cc) U st=aa (d,st'))(p:Post X.K ad H d st' Q):CIt X pQ s O U tg it i F fr ce cc Q:=by
 rcases Jq C with⟨x,px,rfl,rfl⟩|⟨x,y,px,py,k,tp,rfl,rfl⟩
 .replace f:(match ZJ G sc it with
   |some a=>(cE G n sc N a).map λc=>(aa (aa ae),c)
   |none=>(cE G n sc N it).map λc=>(aa (aa af),c))=aa (r,w):=f
  split at f
  .rename_i a ha
   obtain⟨P,q,f⟩:=Vm f;cases f;obtain⟨Y,T⟩:=X5 (tg:=.Name x px) m ha (Zd q) (g X sc N m a _ q).pe;cases XU e with
   |@mk B st1 st2 ds ys ok h b t o=>
    refine .mk VH t o Y (T pQ s O H _ I ?_);cases B with
    |int k=>
     have b:(match (if k < 2 ^ 62/\-(2 ^ 62)<=k then aa ((aj k.toNat).map λ(k:Nat)=>D.int (k:Int)) else ab) with
      |some i=>aa (i,λ_=>True)
      |none=>ab)=aa (ds,ok):=b
     by_cases J:k < 2 ^ 62/\-(2 ^ 62)<=k
     .rw[aq J]at b
      cases b;exact JM J E S h p
     .rw[ar J]at b
      cases b
    |_=>exact Zb b
  .obtain⟨P,q,f⟩:=Vm f
   cases f;cases XU e with
   |@mk B st1 st2 ds ys ok h b t o=>
    refine .mk VH t o (Zd q) ?_;cases B with
    |tup i=>cases b;exact pi_tup (g X sc N m it _ q).pe pQ s O H _ I (VO E S h p)
    |lst l=>
     have b:(match st1[l]? with
      |some c=>aa (c.2,λs=>s[l]?=aa c)
      |none=>ab)=aa (ds,ok):=b
     cases u:st1[l]? with
     |none=>rw[u]at b;cases b
     |some c0=>
      rw[u]at b;cases b;exact pi_list (g X sc N m it _ q).pe pQ s O H _ I (VN E S h u p)
    |str z=>exact Zb b
    |dct ks vs=>
     have no:∀ {v:V}{j:Li Ad}{A:Hp},Den X.K j A v (.dct ks vs)->False:=λ{v j A} L=>by
      obtain⟨a,R,_,_,Z,r⟩:=L.ofDct;cases ks with
      |cons _ _=>exact Zb b
      |nil=>
       cases R with
       |cons _ _=>cases Z
       |nil=>cases r;cases b
     exact thn ((g X sc N m it _ q).pe pQ s O H (λ_ _=>False) I ⟨ad,U,st,_,st1,E,S,h,λv j A x1 S1 L=>no L⟩) λv s1 ⟨x,A,I1,r1,z⟩=>z.elim
    |_=>exact Zb b
 .replace f:(match Vc G sc it with
   |some _=>ab
   |none=>(cE G n sc N it).map λc=>(ab,c))=aa (r,w):=f
  split at f
  .exact Zb f
  .obtain⟨P,q,f⟩:=Vm f
   cases f;cases XU e with
   |mk h b t o=>
    obtain⟨W,M⟩:=Js b;rcases W with⟨rfl,rfl⟩|⟨l,c0,rfl,u,rfl,rfl⟩
    .exact .mk (VI M) t o (Zd q) (pi_tup (g X sc N m it _ q).pe pQ s O H _ I (VO E S h p))
    .exact .mk (VI M) t o (Zd q) (pi_list (g X sc N m it _ q).pe pQ s O H _ I (VN E S h u p))
def Ql{G:Gs}(b:Zo G F n)(t:Cxt X G F sc N){c:CE}(h:cE G (n+1) sc N (.ListComp elt gens sc2 pos)=aa c){s:Sd}(I:L2.Inv X pQ O H s)(Y:tE X.K (ev F c) O H Q)(g:∀ C dd i u M,i.heap.Ns C M->(∀ h',Heap.SameBut C i.heap h'->L2.Inv X pQ O u { i with heap:=h' })->FpOk X pQ u C->Q (.ref dd) u->compPost (a9 X.prog X.w) X.A X.xe use R0 (.ref dd) C (.ok .next) i) :
  ∃ tg it ifs,gens=[⟨tg,it,ifs,0⟩]/\∀ a,a8 (a9 X.prog X.w) X.A (comprehension (.ListComp elt [⟨tg,it,ifs,0⟩] sc2 pos) sc2 X.env a (newList []) af (eval it X.env) use) R0 X.xe s:=by
 cases Zb1 h with
 |@mk tg it ifs xs fr r ci ce cc j f k hi l m=>
  obtain⟨h1,h2,h3,h4,h5,h6⟩:=Yd f;obtain⟨ad,U,st,d,st',E,S,e,p⟩:=Y;obtain⟨cl,ec,c1,c2⟩:=VP (env:=X.env) (sc:=sc2) (λy W hf=>by
   have hm:(y.1,NameKind.free)∈sc2.names:=by rw[<-hf];exact W
   exact I.ok.has y.1 (t.cel y.1 (h6 y.1 (mem_frees.mpr hm)).1))
  refine⟨tg,it,ifs,rfl,λa=>?_⟩
  cases ZbZ b t j hi I E S e p with
  |mk B V D Z L=>
   refine wpAny_comprehension_free (use:=use) rfl (ZY Z) ec h1 h4 (thn L λv s1 q=>thn q λP s2 o=>?_)
   obtain⟨R,fp,tn,J,H2,rfl,I2,T,z,f2,ad1,Good,gm,gw,go,stop,x,E2,S2,g2,p2⟩:=o;exact Jb t b f k l m c1 c2 Good gm gw go stop x I2 B T z f2 E2 S2 g2 D V p2 g
def Zb0{G:Gs}:YV G F:=by
 intro n f;refine⟨λX sc N P elt gens sc2 pos c h=>SE.of ?_,λX sc N K y i p elt gens sc2 j pos c E h r=>?_⟩
 .intro pQ s O H Q I g
  obtain⟨tg,it,ifs,rfl,go⟩:=Ql f P h I g (use:=ab) (R0:=EP X pQ O Q) λC dd l x m t u _ q=>⟨m,t,λh' sb=>⟨.ref dd,x,u h' sb,rfl,q⟩⟩
  rw[eval_ListComp];exact go _
 .intro pQ s O H D I g
  obtain⟨tg,it,ifs,rfl,go⟩:=Ql f K.toCxt h I g (use:=aa (assign (.Name y p) X.env)) (R0:=λ_ B=>SP X pQ D .next B) λC dd l x m t u d q=>by
   have S:=u l.heap (Heap.SameBut.refl _ _);show a8 _ X.A (assign (.Name y p) X.env (.ref dd)) _ _ l;refine wpAny_assign_Name (store_ok2 (v:=.ref dd) S (by rw[K.hN];exact K.nd) (by rw[K.hN];exact Xt E) (K.loc _ (Ve E)) rfl (λJ R ⟨a,sb,M⟩=>?_) (.inl (K.fn _)))
   have ne:C≠a:=by
    rcases M with z|z
    .rw[z];exact d.2.1
    .exact λw=>d.2.2.2.2.1 _ _ z w.symm
   exact⟨m,t.sameBut sb ne,λT k=>⟨_,x,R.turned (t':=J.toks) (λb o L e=>k.extBut b o L e) d.1 d.2.1 d.2.2.2.1 d.2.2.2.2.1 d.2.2.2.2.2,q⟩⟩
  rw[exec_Assign_Name_used _ _ _ _ r];refine aA (wpAny_standAt (aA ?_));show a8 _ X.A (do let _ <-comprehension (.ListComp elt [⟨tg,it,ifs,0⟩] sc2 j) sc2 X.env _ (newList []) af (eval it X.env) (aa (assign (.Name y p) X.env))) _ _ s
  exact aA (bS (go _) (λ_ B g=>aF (aF g)) λ_ _ e=>e)
variable [ClsTab]
def ZgX{α:Type}:∀ {us:Li α},us.length=0->us=[]
 |[],_=>rfl
def Zgb{α:Type}:∀ {us:Li α},us.length=1->∃ a,us=[a]
 |[a],_=>⟨a,rfl⟩
def ZgY{α:Type}:∀ {us:Li α},us.length=2->∃ a b,us=[a,b]
 |[a,b],_=>⟨a,b,rfl⟩
def ZgZ{α:Type}:∀ {us:Li α},us.length=3->∃ a b c,us=[a,b,c]
 |[a,b,c],_=>⟨a,b,c,rfl⟩
def Zg0{α:Type}:∀ {us:Li α},us.length=4->∃ a b c d,us=[a,b,c,d]
 |[a,b,c,d],_=>⟨a,b,c,d,rfl⟩
def Zg1{α:Type}:∀ {us:Li α},us.length=5->∃ a b c d e,us=[a,b,c,d,e]
 |[a,b,c,d,e],_=>⟨a,b,c,d,e,rfl⟩
def Zg2{α:Type}:∀ {us:Li α},us.length=6->∃ a b c d e f,us=[a,b,c,d,e,f]
 |[a,b,c,d,e,f],_=>⟨a,b,c,d,e,f,rfl⟩
def W5(K:Fg)(G:Gs)(T:Nat->Ot FD)(C:Ad):Li (Str×Nat×Nat)->Prop
 |[]=>True
 | (m,j,_) :: r=>(∃ y f fd pn N,MethOk K G T C m y j f fd pn N)/\W5 K G T C r
def XN(K:Fg)(B:Ad):Li Nat->Prop
 |[]=>True
 |i :: r=>SubOk K (ClsTab.ca i) B/\XN K B r
def Xv(a:Params)(K:Fg)(mg:Str->Ot vL)(G:Gs)(T:Nat->Ot FD):Gs->Prop
 |[]=>True
 | (x,.c d) :: r=>(∃ v u,mg x=aa u/\RelV v u/\∀ ad H,Den K ad H v d)/\Xv a K mg G T r
 | (x,.blt) :: r=>mg x=ab/\Xv a K mg G T r
 | (x,.dct ks ds) :: r=>Qg a K mg x ks ds/\Xv a K mg G T r
 | (x,.fn i _ ds) :: r=>(∃ f fd pn N,DefOk K mg G T x i ds f fd pn N)/\Xv a K mg G T r
 | (x,.cls i e b) :: r=>((mg x=aa (.ref (ClsTab.ca i))/\NewOk K (ClsTab.ca i)/\XN K (ClsTab.ca i) b)/\W5 K G T (ClsTab.ca i) e)/\Xv a K mg G T r
def Zd8(e:Params)(K:Fg)(mg:Str->Ot vL)(G:Gs)(T:Nat->Ot FD)(x:Str):GV->Prop
 |.c d=>∃ v u,mg x=aa u/\RelV v u/\∀ ad H,Den K ad H v d
 |.blt=>mg x=ab
 |.dct ks ds=>Qg e K mg x ks ds
 |.fn i _ ds=>∃ f fd pn N,DefOk K mg G T x i ds f fd pn N
 |.cls i b a=>(mg x=aa (.ref (ClsTab.ca i))/\NewOk K (ClsTab.ca i)/\XN K (ClsTab.ca i) a)/\W5 K G T (ClsTab.ca i) b
theorem YD{b:Params}:∀ {l:Gs}{x:Str}{g:GV},Xv b K mg G T l->l.lookup x=aa g->Zd8 b K mg G T x g
 |[],_,_,_,h=>by cases h
 | (y,v) :: r,x,g,a,h=>by
  have tl:Xv b K mg G T r/\Zd8 b K mg G T y v:=by
   cases v with
   |c d=>exact⟨a.2,a.1⟩
   |blt=>exact⟨a.2,a.1⟩
   |dct ks ds=>exact⟨a.2,a.1⟩
   |fn i j ds=>exact⟨a.2,a.1⟩
   |cls i k f=>exact⟨a.2,a.1⟩
  rw[dA]at h;cases e:x==y with
  |true=>
   rw[e]at h;cases h;rw[beq_iff_eq.mp e];exact tl.2
  |false=>
   rw[e]at h;exact YD tl.1 h
theorem QV{B:Ad}:∀ {l:Li Nat},XN K B l->∀ i,l.contains i=ae->SubOk K (ClsTab.ca i) B
 |[],_,_,h=>by cases h
 |j :: r,a,i,h=>by
  rw[List.contains_cons,bL]at h;rcases h with h|h
  .rw[beq_iff_eq.mp h];exact a.1
  .exact QV a.2 i h
theorem V9{C:Ad}:∀ {l:Li (Str×Nat×Nat)},W5 K G T C l->∀ m j b,l.lookup m=aa (j,b)->∃ y f fd pn N,MethOk K G T C m y j f fd pn N
 |[],_,_,_,_,h=>by cases h
 | (d,g,c) :: r,a,m,j,b,h=>by
  rw[dA]at h;cases e:m==d with
  |true=>
   rw[e]at h;cases h;rw[beq_iff_eq.mp e];exact a.1
  |false=>
   rw[e]at h;exact V9 a.2 m j b h
def Zda{b:Params}(h:Xv b K mg G T G):Text b K mg G T:=
 ⟨λ_ _ e=>YD h e,λ_ e=>YD h e,λ_ _ _ e=>YD h e,λ_ _ _ _ e=>YD h e,λx i c a e=>by
  have g:Zd8 b K mg G T x (.cls i c a):=YD h e;exact⟨⟨g.1.1,g.1.2.1,QV g.1.2.2⟩,V9 g.2⟩⟩
def Zem(a:∀ n,YV G (run T n))(X:Text w.params K mg G T)(n:Nat){x:Str}{f:Ad}{fd:bo}(b:DefOk K mg G T x i ds f fd pn N):FnOk P w K mg base CX0 n f fd pn (spD K (run T n i)):=Zeb a X n b.ob
def Zfn{a:Ad}{f:Li Int}(p:Only H)(t:SqL K H a (f.map V.int))(h:∃ st',run T n i [.lst 0] [(af,f.map .int)]=aa (.bl ae,st')):spD K (run T n i) [.ref a] H (λv _=>v=.bl ae) λ_ _ _=>False:=by
 obtain⟨st',e⟩:=h;have ds:∀ f:Li Int,Dens K [a] H (f.map V.int) (f.map D.int):=λf=>by
  induction f with
  |nil=>exact .nil
  |cons n l s=>exact .cons (.int n) s
 have m:¬Ya H a:=λ⟨kvs,q⟩=>by
  rcases p a with z|⟨o,r,z⟩<;>(rw[q]at z;cases z)
 refine⟨[a],[.lst 0],[(af,f.map .int)],.bl ae,st',⟨rfl,λi j b c d _ _ k _=>?_,λi c g=>?_⟩,.cons (.lst ⟨rfl,m⟩) .nil,e,λv ad' H' x S h=>h.ofBl⟩
 .cases i with
  |zero=>simp at k
  |succ i=>simp at k
 .cases i with
  |succ i=>simp at g
  |zero=>
   have g:(af,f.map D.int)=c:=by simpa using g
   subst g;refine⟨a,rfl,.l m (ds f) (.inr ⟨rfl,?_⟩)⟩;rcases t with(h|⟨o,h⟩)|⟨o,its,n,B,A,k,y,w,u⟩
   .rcases p a with z|⟨o,r,z⟩
    .rw[h]at z;cases z
    .rw[h]at z;cases z
   .exact .inl ⟨o,h⟩
   .exact .inr ⟨o,its,n,⟨B,A⟩,⟨k,y⟩,w,u⟩
abbrev fnS(x y:Str)(s:Stmt)(c kV b a:vL)(e:Ot Ad)(d ct:vL):bo:=W.fnOf x y (defArgs s) (defBody s) (defScope s) c kV b a e d ct
inductive FnAt(K:Fg)(x:Str)(s:Stmt):Prop
 |mk {f:Addr}{oc kV dc pm cd ct:Value}{od an:Option Addr}{sl:Array (Option Value)} (a:W.nsIn K a7 x=aa (aa (.ref f))) (l:K.lookup f=aa ⟨oc,od,.func (W.fnOf x x (defArgs s) (defBody s) (defScope s) .none kV dc pm an cd ct),sl⟩) (e:W.codeIn K cd x=ae) (k:W.keepIn K (.ref f)=ae):FnAt K x s
inductive FnAtE(K:Fg)(x:Str)(s:Stmt)(v:Int):Prop
 |mk {f E:Addr}{eo:Obj}{en:Nat}{et:Tok}{oc kV dc pm cd ct:Value}{od an:Option Addr}{sl:Array (Option Value)} (a:W.nsIn K a7 x=aa (aa (.ref f))) (l:K.lookup f=aa ⟨oc,od,.func (W.fnOf x x (defArgs s) (defBody s) (defScope s) (.ref E) kV dc pm an cd ct),sl⟩) (e:W.codeIn K cd x=ae) (k:W.keepIn K (.ref f)=ae) (d:K.lookup E=aa eo) (g:eo.data=.seq #[.int v et] en):FnAtE K x s v
inductive MtAt(K:Fg)(C:Addr)(x y:Str)(s:Stmt):Prop
 |mk {f:Addr}{oc kV dc pm cd ct:Value}{od an:Option Addr}{sl:Array (Option Value)} (m:W.findIn K (.ref C) x=aa (aa (.ref f))) (l:K.lookup f=aa ⟨oc,od,.func (W.fnOf x y (defArgs s) (defBody s) (defScope s) .none kV dc pm an cd ct),sl⟩) (e:W.codeIn K cd y=ae) (k:W.keepIn K (.ref f)=ae) (i:W.isFn K (.ref f)=ae):MtAt K C x y s
structure ClsAt(K:Fg)(x:Str)(C:Addr):Prop where
 ya:W.nsIn K a7 x=aa (aa (.ref C))
 yb:W.makesIn K C=ae
 yc:W.findIn K (.ref C) "__init__"=aa (aa (.builtin "object.__init__"))
 yd:W.keepIn K (.ref C)=ae
 ye:W.plainGet K C Str.empty=ae
 yf:W.hasDictIn K C=ae
 yg:W.plainOver K C=ae
 yh:W.findIn K (.ref C) "__setattr__"=aa (aa (.builtin "object.__setattr__"))
 yi:W.findIn K (.ref C) "__class__"=aa (aa (.builtin "object.__class__"))
 yj:W.mroIn K C (.type "object")=aa ae
 yk:W.specialIn K (.builtin "object.__class__") "__get__"=aa (aa (.builtin "getset_descriptor.__get__"))
 yl:W.takesIn K (.builtin "object.__class__")=aa ae
abbrev ZbH(G:Gs)(s:Stmt)(N a:Li Str)(c:CS):Prop:=FnScope N a (defScope s)/\(∀ y∈N,L2.Loc (defScope s) y)/\cSs G 60 (defScope s) N (defBody s)=aa c
variable{ps:Li Str}
section
variable{fd:bo}
def bd1(b:ps.length=1)(h:∀ a,bindArgs fd ⟨[a],[]⟩=pure (ps.zip [a])):Binds K fd ps []:=.all λc e=>by obtain⟨_,rfl⟩:=Zgb (e.trans b);exact h _
def bd2(c:ps.length=2)(h:∀ a b,bindArgs fd ⟨[a,b],[]⟩=pure (ps.zip [a,b])):Binds K fd ps []:=.all λd e=>by obtain⟨_,_,rfl⟩:=ZgY (e.trans c);exact h _ _
def bd3(d:ps.length=3)(h:∀ a b c,bindArgs fd ⟨[a,b,c],[]⟩=pure (ps.zip [a,b,c])):Binds K fd ps []:=.all λf e=>by obtain⟨_,_,_,rfl⟩:=ZgZ (e.trans d);exact h _ _ _
def bd4(f:ps.length=4)(h:∀ a b c d,bindArgs fd ⟨[a,b,c,d],[]⟩=pure (ps.zip [a,b,c,d])):Binds K fd ps []:=.all λg e=>by obtain⟨_,_,_,_,rfl⟩:=Zg0 (e.trans f);exact h _ _ _ _
def bd5(f:ps.length=5)(h:∀ a b c d k,bindArgs fd ⟨[a,b,c,d,k],[]⟩=pure (ps.zip [a,b,c,d,k])):Binds K fd ps []:=.all λg e=>by obtain⟨_,_,_,_,_,rfl⟩:=Zg1 (e.trans f);exact h _ _ _ _ _
def bd6(f:ps.length=6)(h:∀ a b c d k l,bindArgs fd ⟨[a,b,c,d,k,l],[]⟩=pure (ps.zip [a,b,c,d,k,l])):Binds K fd ps []:=.all λg e=>by obtain⟨_,_,_,_,_,_,rfl⟩:=Zg2 (e.trans f);exact h _ _ _ _ _ _
def bd0(a:ps.length=0)(h:bindArgs fd ⟨[],[]⟩=pure []):Binds K fd ps []:=.all λb e=>by rw[ZgX (e.trans a),List.zip_nil_right];exact h
end
variable{h:bp}{i:Nat}
section
variable{Pm:Params}{x y:Str}{p:Nat}{s:Stmt}{c:CS}{r:Gs}
def gD(X:K.In h)(o:h.Ns a7 mg)(F:FnAt K x s)(q:ZbH G s N ps c)(f:T i=aa ⟨ps.length,N.length,c⟩)(t:Xv Pm K mg G T r)(d:∀ kV g b n j ct,Binds K (fnS x x s .none kV g b n j ct) ps []:=by intros;(first|refine bd0 rfl ?_|refine bd1 rfl ?_|refine bd2 rfl ?_|refine bd3 rfl ?_|refine bd4 rfl ?_|refine bd5 rfl ?_|refine bd6 rfl ?_);intros;rfl):Xv Pm K mg G T ((x,.fn i p []) :: r):=by
 cases F with
 |mk a l e k=>exact⟨⟨_,_,ps,N,.inl ⟨s,_,_,_,_,_,_,_,_,_,_,c,rfl,l,e,q.1,q.2.1,q.2.2,f⟩,k,W.mg_of X o a,λm u=>⟨[],[],λ_ _=>by rw[List.drop_nil];exact .nil,.nil,d _ _ _ _ _ _⟩⟩,t⟩
def gS{C B:Ad}{l:Li Nat}(a:ClsTab.ca i=C)(F:ClsAt K x C)(m:W.kitOne K (.ref C) (.ref B)=aa ae)(t:XN K B l):XN K B (i :: l):=by
 subst a;exact⟨⟨⟨F.ye,F.yf,F.yg,F.yh⟩,F.yi,F.yk,F.yl,F.yj,m⟩,t⟩
def gB(X:K.In h)(a:h.Ns a7 mg)(z:W.nsIn K a7 x=aa ab)(t:Xv Pm K mg G T r):Xv Pm K mg G T ((x,.blt) :: r):=⟨W.mg_none_of X a z,t⟩
def gI{v:Int}{k:Tok}(X:K.In h)(a:h.Ns a7 mg)(g:W.nsIn K a7 x=aa (aa (.int v k)))(t:Xv Pm K mg G T r):Xv Pm K mg G T ((x,.c (.int v)) :: r):=⟨⟨.int v,_,W.mg_of X a g,⟨_,rfl⟩,λ_ _=>.int _⟩,t⟩
def gL{fa:Ad}{z:Str}(X:K.In h)(j:h.Ns a7 mg)(b:mg x=aa (.ref fa))(F:FnAt K x s)(q:ZbH G s N [z] c)(p:T i=aa ⟨1,N.length,c⟩)(g:∀ kV r n v t ct u,bindArgs (fnS x x s .none kV r n v t ct) ⟨[u],[]⟩=pure [(z,u)]):∃ (fd:bo) (N:Li Str),(∀ (s:Sd) (u:vL),BindsTo s fd ⟨[u],[]⟩ [(z,u)])/\DefOk K mg G T x i [] fa fd [z] N:=by
 cases F with
 |@mk f _ _ _ _ _ _ _ _ _ a l e k=>
  have d:=b.symm.trans (W.mg_of X j a);have d:fa=f:=by cases d;rfl
  rw[d];exact⟨_,N,λ_ u=>.of_eq (g _ _ _ _ _ _ u),.inl ⟨s,_,_,_,_,_,_,_,_,_,_,c,rfl,l,e,q.1,q.2.1,q.2.2,p⟩,k,W.mg_of X j a,λm y=>⟨[],[],λ_ _=>by rw[List.drop_nil];exact .nil,.nil,.all λw o=>by obtain⟨u,rfl⟩:=Zgb o;exact g _ _ _ _ _ _ u⟩⟩
end
omit [ClsTab] in
def Jn{l:W.OpenLaw}{q:bf}{e:Li Str}{V:(Str->Ot vL)->bp->Prop}{r:bq->bp->Prop}{d:DefRec}{K:Params->Fg}{G:Gs}{T:Nat->Ot FD}{n i:Nat}{x:Str}(y:l.most=aa 63)(o:d.params.defaults=[])(v:Room n callerA)(I:∀ (w:bq) (h:bp),r w h->(K w.params).In h)(C:∀ [ClsTab] n,YV G (run T n))(F:∀ (w:bq) (mg:Str->Ot vL) (fa:Ad) (h:bp),(K w.params).In h->h.Ns a7 mg->mg d.name=aa (.ref fa)->
   ∃ _:ClsTab,Text w.params (K w.params) mg G T/\∃ (fd:bo) (N:Li Str),(∀ (s:Sd) (u:vL),BindsTo s fd ⟨[u],[]⟩ [(x,u)])/\DefOk (K w.params) mg G T d.name i [] fa fd [x] N)(L:∀ j:Li Int,j.length<=63->∃ st',run T n i [.lst 0] [(af,j.map .int)]=aa (.bl ae,st')) :
  W.WalkO q e V r l.row.toRowW d [] (λf vs=>PySem.call f vs):=
 L2.walk_of (n:=63) (k:=n) (x:=x) (CX:=λ_=>CX0) (sp:=λw vs H Q E=>∀ c:ClsTab,@spD c (K w.params) (run T n i) vs H Q E) y (by decide) o v I
  (λw mg fa h Y Z m=>by
   obtain⟨c,X,fd,N,D,Dk⟩:=F w mg fa h Y Z m;refine⟨fd,D,λbase _ _=>?_⟩
   have p:=Zem (P:=l.prog) (w:=w) (base:=base) (λn=>C n) X n Dk
   exact⟨λvs H Q E z=>p.len vs H Q E (z c),λA b s H g t vs Q E U S R O z=>p.run A b s H g t vs Q E U S R O (z c)⟩)
  (λw H a j B M J c=>Zfn M J (L j B)) λ_ _ _ _ _ z=>z
end Dp
namespace Dp
open PySem
noncomputable def Xr:FD:=⟨3,3,(.seq (.ret (.bin .Add (.bin .Add (.slice (.v 0) .nop (.part (.v 1))) (.tupE (.aC (.v 2) .aN))) (.slice (.v 0) (.part (.bin .Add (.v 1) (.c (.int 1)))) .nop)))
 .skip)⟩
def Z2:FD:=⟨1,1,(.seq (.ret (.look [(S "put"),(S "if"),(S "tell"),(S "go"),(S "skip")] [(.tup [(.int 2),(.int 4)]),(.tup [(.int 1),(.int 3)]),(.tup [(.int 1)]),(.tup []),(.tup [])] (.ix (.v 0) (.c (.int 0)))))
 .skip)⟩
noncomputable def Xn:CS:=(.seq (.set 1 (.bin .Mult (.v 1) (.c (.int 2))))
 .skip)
def Wo:FD:=⟨1,3,(.seq (.set 1 (.c (.int 1)))
 (.seq (.for1 2 ae (.v 0) Xn)
 (.seq (.ret (.v 1))
 .skip)))⟩
noncomputable def Xp:FD:=⟨1,1,(.seq (.ret (.bin .Sub (.call 43 (.aC (.v 0) .aN) []) (.c (.int 1))))
 .skip)⟩
noncomputable def XQ:FD:=⟨2,2,(.seq (.ret (.cmp .NotEq (.bin .BitAnd (.v 0) (.call 43 (.aC (.v 1) .aN) [])) (.c (.int 0))))
 .skip)⟩
noncomputable def Yv:FD:=⟨2,2,(.seq (.ret (.bin .BitAnd (.v 0) (.inv (.call 43 (.aC (.v 1) .aN) []))))
 .skip)⟩
noncomputable def Wn:FD:=⟨1,1,(.seq (.ret (.bin .Sub (.bin .Mod (.bin .Add (.v 0) (.c (.int 1000000000))) (.c (.int 2000000000))) (.c (.int 1000000000))))
 .skip)⟩
noncomputable def Xc:FD:=⟨2,2,(.seq (.ite (.cmp .Eq (.v 1) (.c (.int 0))) (.seq (.ret (.c (.int 0)))
 .skip) .skip)
 (.seq (.ret (.call 0 (.aC (.bin .FloorDiv (.v 0) (.v 1)) .aN) []))
 .skip))⟩
noncomputable def Yq:FD:=⟨2,2,(.seq (.ite (.cmp .Eq (.v 1) (.c (.int 0))) (.seq (.ret (.v 0))
 .skip) .skip)
 (.seq (.ret (.bin .Sub (.v 0) (.bin .Mult (.v 1) (.bin .FloorDiv (.v 0) (.v 1)))))
 .skip))⟩
def Wq:FD:=⟨3,3,(.seq (.ite (.cmp .Eq (.v 1) (.c (.str (S "+")))) (.seq (.ret (.call 0 (.aC (.bin .Add (.v 0) (.v 2)) .aN) []))
 .skip) .skip)
 (.seq (.ite (.cmp .Eq (.v 1) (.c (.str (S "-")))) (.seq (.ret (.call 0 (.aC (.bin .Sub (.v 0) (.v 2)) .aN) []))
 .skip) .skip)
 (.seq (.ite (.cmp .Eq (.v 1) (.c (.str (S "*")))) (.seq (.ret (.call 0 (.aC (.bin .Mult (.v 0) (.v 2)) .aN) []))
 .skip) .skip)
 (.seq (.ite (.cmp .Eq (.v 1) (.c (.str (S "/")))) (.seq (.ret (.call 1 (.aC (.v 0) (.aC (.v 2) .aN)) []))
 .skip) .skip)
 (.seq (.ret (.call 2 (.aC (.v 0) (.aC (.v 2) .aN)) []))
 .skip)))))⟩
def W9:FD:=⟨3,3,(.seq (.ite (.cmp .Eq (.v 1) (.c (.str (S "<")))) (.seq (.ret (.cmp .Lt (.v 0) (.v 2)))
 .skip) .skip)
 (.seq (.ite (.cmp .Eq (.v 1) (.c (.str (S "<=")))) (.seq (.ret (.cmp .LtE (.v 0) (.v 2)))
 .skip) .skip)
 (.seq (.ite (.cmp .Eq (.v 1) (.c (.str (S "=")))) (.seq (.ret (.cmp .Eq (.v 0) (.v 2)))
 .skip) .skip)
 (.seq (.ite (.cmp .Eq (.v 1) (.c (.str (S ">=")))) (.seq (.ret (.cmp .GtE (.v 0) (.v 2)))
 .skip) .skip)
 (.seq (.ite (.cmp .Eq (.v 1) (.c (.str (S ">")))) (.seq (.ret (.cmp .Gt (.v 0) (.v 2)))
 .skip) .skip)
 (.seq (.ret (.cmp .NotEq (.v 0) (.v 2)))
 .skip))))))⟩
def Yu:FD:=⟨2,2,(.seq (.ret (.and (.cmp .Eq (.ix (.v 0) (.c (.int 0))) (.c (.str (S "number")))) (.cmp .Eq (.ix (.v 1) (.c (.int 0))) (.c (.str (S "number"))))))
 .skip)⟩
noncomputable def ZX:FD:=⟨3,3,(.seq (.ite (.cmp .Lt (.ix (.v 0) (.v 2)) (.ix (.v 0) (.v 1))) (.seq (.ret (.call 42 (.aC (.call 42 (.aC (.v 0) (.aC (.v 1) (.aC (.ix (.v 0) (.v 2)) .aN))) []) (.aC (.v 2) (.aC (.ix (.v 0) (.v 1)) .aN))) []))
 .skip) .skip)
 (.seq (.ret (.v 0))
 .skip))⟩
def ZW:FD:=⟨1,1,(.seq (.ite (.and (.cmp .Eq (.ix (.v 0) (.c (.int 3))) (.c (.str (S "-")))) (.cmp .Eq (.ix (.ix (.v 0) (.c (.int 4))) (.c (.int 0))) (.c (.str (S "number"))))) (.seq (.ret (.bin .Add (.slice (.v 0) .nop (.part (.c (.int 3)))) (.tupE (.aC (.c (.str (S "+"))) (.aC (.tupE (.aC (.c (.str (S "number"))) (.aC (.call 0 (.aC (.neg (.ix (.ix (.v 0) (.c (.int 4))) (.c (.int 1)))) .aN) []) .aN))) .aN)))))
 .skip) .skip)
 (.seq (.ret (.v 0))
 .skip))⟩
def ZO:FD:=⟨1,4,(.seq (.set 1 (.ix (.v 0) (.c (.int 2))))
 (.seq (.set 2 (.ix (.v 0) (.c (.int 3))))
 (.seq (.set 3 (.ix (.v 0) (.c (.int 4))))
 (.seq (.ite (.or (.and (.cmp .Eq (.v 2) (.c (.str (S "*")))) (.cmp .Eq (.v 3) (.c (.tup [(.str (S "number")),(.int 0)])))) (.or (.and (.cmp .Eq (.v 2) (.c (.str (S "mod")))) (.cmp .Eq (.v 3) (.c (.tup [(.str (S "number")),(.int 1)])))) (.and (.cmp .Eq (.v 2) (.c (.str (S "-")))) (.cmp .Eq (.v 1) (.v 3))))) (.seq (.ret (.tupE (.aC (.c (.str (S "put"))) (.aC (.ix (.v 0) (.c (.int 1))) (.aC (.c (.tup [(.str (S "number")),(.int 0)])) (.aC (.c (.str (S "+"))) (.aC (.c (.tup [(.str (S "number")),(.int 0)])) .aN)))))))
 .skip) .skip)
 (.seq (.ite (.and (.cmp .In (.v 2) (.tupE (.aC (.c (.str (S "*"))) (.aC (.c (.str (S "/"))) .aN)))) (.cmp .Eq (.v 3) (.c (.tup [(.str (S "number")),(.int 1)])))) (.seq (.ret (.tupE (.aC (.c (.str (S "put"))) (.aC (.ix (.v 0) (.c (.int 1))) (.aC (.v 1) (.aC (.c (.str (S "+"))) (.aC (.c (.tup [(.str (S "number")),(.int 0)])) .aN)))))))
 .skip) .skip)
 (.seq (.ret (.v 0))
 .skip))))))⟩
def Xq:FD:=⟨1,1,(.seq (.ite (.call 73 (.aC (.ix (.v 0) (.c (.int 2))) (.aC (.ix (.v 0) (.c (.int 4))) .aN)) []) (.seq (.ret (.tupE (.aC (.c (.str (S "put"))) (.aC (.ix (.v 0) (.c (.int 1))) (.aC (.tupE (.aC (.c (.str (S "number"))) (.aC (.call 3 (.aC (.ix (.ix (.v 0) (.c (.int 2))) (.c (.int 1))) (.aC (.ix (.v 0) (.c (.int 3))) (.aC (.ix (.ix (.v 0) (.c (.int 4))) (.c (.int 1))) .aN))) []) .aN))) (.aC (.c (.str (S "+"))) (.aC (.c (.tup [(.str (S "number")),(.int 0)])) .aN)))))))
 .skip) .skip)
 (.seq (.set 0 (.call 75 (.aC (.v 0) .aN) []))
 (.seq (.ite (.cmp .In (.ix (.v 0) (.c (.int 3))) (.tupE (.aC (.c (.str (S "+"))) (.aC (.c (.str (S "*"))) .aN)))) (.seq (.set 0 (.call 74 (.aC (.v 0) (.aC (.c (.int 2)) (.aC (.c (.int 4)) .aN))) []))
 .skip) .skip)
 (.seq (.set 0 (.call 76 (.aC (.v 0) .aN) []))
 (.seq (.ite (.cmp .Eq (.v 0) (.tupE (.aC (.c (.str (S "put"))) (.aC (.ix (.v 0) (.c (.int 1))) (.aC (.tupE (.aC (.c (.str (S "name"))) (.aC (.ix (.v 0) (.c (.int 1))) .aN))) (.aC (.c (.str (S "+"))) (.aC (.c (.tup [(.str (S "number")),(.int 0)])) .aN))))))) (.seq (.ret (.c (.tup [(.str (S "skip"))])))
 .skip) .skip)
 (.seq (.ret (.v 0))
 .skip))))))⟩
def ZV:FD:=⟨1,1,(.seq (.ite (.cmp .Eq (.ix (.v 0) (.c (.int 2))) (.c (.str (S ">")))) (.seq (.ret (.tupE (.aC (.c (.str (S "if"))) (.aC (.ix (.v 0) (.c (.int 3))) (.aC (.c (.str (S "<"))) (.aC (.ix (.v 0) (.c (.int 1))) (.aC (.ix (.v 0) (.c (.int 4))) .aN)))))))
 .skip) .skip)
 (.seq (.ite (.cmp .Eq (.ix (.v 0) (.c (.int 2))) (.c (.str (S ">=")))) (.seq (.ret (.tupE (.aC (.c (.str (S "if"))) (.aC (.ix (.v 0) (.c (.int 3))) (.aC (.c (.str (S "<="))) (.aC (.ix (.v 0) (.c (.int 1))) (.aC (.ix (.v 0) (.c (.int 4))) .aN)))))))
 .skip) .skip)
 (.seq (.ret (.v 0))
 .skip)))⟩
noncomputable def YL:FD:=⟨1,1,(.seq (.ret (.or (.call 73 (.aC (.ix (.v 0) (.c (.int 1))) (.aC (.ix (.v 0) (.c (.int 3))) .aN)) []) (.cmp .Eq (.ix (.v 0) (.c (.int 1))) (.ix (.v 0) (.c (.int 3))))))
 .skip)⟩
def XS:FD:=⟨1,2,(.seq (.set 1 (.call 4 (.aC (.ix (.ix (.v 0) (.c (.int 1))) (.c (.int 1))) (.aC (.ix (.v 0) (.c (.int 2))) (.aC (.ix (.ix (.v 0) (.c (.int 3))) (.c (.int 1))) .aN))) []))
 (.seq (.ret (.ife (.v 1) (.tupE (.aC (.c (.str (S "go"))) (.aC (.ix (.v 0) (.c (.int 4))) .aN))) (.c (.tup [(.str (S "skip"))]))))
 .skip))⟩
def Yi:FD:=⟨1,3,(.seq (.set 1 (.ix (.v 0) (.c (.int 1))))
 (.seq (.set 2 (.ix (.v 0) (.c (.int 3))))
 (.seq (.ite (.cmp .NotEq (.ix (.v 0) (.c (.int 2))) (.c (.str (S "<=")))) (.seq (.ret (.v 0))
 .skip) .skip)
 (.seq (.ite (.and (.cmp .Eq (.ix (.v 2) (.c (.int 0))) (.c (.str (S "number")))) (.cmp .Lt (.ix (.v 2) (.c (.int 1))) (.c (.int 999999999)))) (.seq (.ret (.tupE (.aC (.c (.str (S "if"))) (.aC (.v 1) (.aC (.c (.str (S "<"))) (.aC (.tupE (.aC (.c (.str (S "number"))) (.aC (.bin .Add (.ix (.v 2) (.c (.int 1))) (.c (.int 1))) .aN))) (.aC (.ix (.v 0) (.c (.int 4))) .aN)))))))
 .skip) .skip)
 (.seq (.ite (.and (.cmp .Eq (.ix (.v 1) (.c (.int 0))) (.c (.str (S "number")))) (.cmp .Gt (.ix (.v 1) (.c (.int 1))) (.c (.int (-1000000000))))) (.seq (.ret (.tupE (.aC (.c (.str (S "if"))) (.aC (.tupE (.aC (.c (.str (S "number"))) (.aC (.bin .Sub (.ix (.v 1) (.c (.int 1))) (.c (.int 1))) .aN))) (.aC (.c (.str (S "<"))) (.aC (.v 2) (.aC (.ix (.v 0) (.c (.int 4))) .aN)))))))
 .skip) .skip)
 (.seq (.ret (.v 0))
 .skip))))))⟩
def XR:FD:=⟨2,2,(.seq (.ite (.cmp .Eq (.ix (.v 0) (.c (.int 4))) (.bin .Add (.v 1) (.c (.int 1)))) (.seq (.ret (.c (.tup [(.str (S "skip"))])))
 .skip) .skip)
 (.seq (.set 0 (.call 78 (.aC (.v 0) .aN) []))
 (.seq (.ite (.call 79 (.aC (.v 0) .aN) []) (.seq (.ret (.call 80 (.aC (.v 0) .aN) []))
 .skip) .skip)
 (.seq (.ite (.cmp .In (.ix (.v 0) (.c (.int 2))) (.tupE (.aC (.c (.str (S "="))) (.aC (.c (.str (S "!="))) .aN)))) (.seq (.set 0 (.call 74 (.aC (.v 0) (.aC (.c (.int 1)) (.aC (.c (.int 3)) .aN))) []))
 .skip) .skip)
 (.seq (.ret (.call 81 (.aC (.v 0) .aN) []))
 .skip)))))⟩
def ZS:FD:=⟨2,2,(.seq (.ite (.cmp .Eq (.ix (.v 0) (.c (.int 0))) (.c (.str (S "put")))) (.seq (.ret (.call 77 (.aC (.v 0) .aN) []))
 .skip) .skip)
 (.seq (.ite (.cmp .Eq (.ix (.v 0) (.c (.int 0))) (.c (.str (S "if")))) (.seq (.ret (.call 82 (.aC (.v 0) (.aC (.v 1) .aN)) []))
 .skip) .skip)
 (.seq (.ite (.cmp .Eq (.v 0) (.tupE (.aC (.c (.str (S "go"))) (.aC (.bin .Add (.v 1) (.c (.int 1))) .aN)))) (.seq (.ret (.c (.tup [(.str (S "skip"))])))
 .skip) .skip)
 (.seq (.ret (.v 0))
 .skip))))⟩
def Xy:FD:=⟨2,2,(.seq (.ite (.cmp .GtE (.v 1) (.len (.ix (.v 0) (.c (.int 2))))) (.seq (.ret (.c (.tup [(.str (S "end"))])))
 .skip) .skip)
 (.seq (.ret (.call 83 (.aC (.ix (.ix (.v 0) (.c (.int 2))) (.v 1)) (.aC (.v 1) .aN)) []))
 .skip))⟩
def YK:FD:=⟨1,1,(.seq (.ret (.or (.cmp .Eq (.v 0) (.c (.tup [(.str (S "end"))]))) (.cmp .Eq (.ix (.v 0) (.c (.int 0))) (.c (.str (S "tell"))))))
 .skip)⟩
def Wj:CS:=(.seq (.ite (.and (.cmp .Eq (.ix (.ix (.v 0) (.v 2)) (.c (.int 0))) (.c (.str (S "name")))) (.not (.call 114 (.aC (.v 1) (.aC (.ix (.ix (.v 0) (.v 2)) (.c (.int 1))) .aN)) []))) (.seq (.ret (.c (.bl af)))
 .skip) .skip)
 .skip)
def YM:FD:=⟨2,3,(.seq (.for1 2 af (.call 113 (.aC (.v 0) .aN) []) Wj)
 (.seq (.ret (.c (.bl ae)))
 .skip))⟩
def Y0:FD:=⟨3,3,(.seq (.ret (.and (.cmp .Eq (.v 0) (.v 1)) (.or (.cmp .Eq (.v 0) (.c (.tup [(.str (S "end"))]))) (.call 117 (.aC (.v 0) (.aC (.v 2) .aN)) []))))
 .skip)⟩
def ZI:FD:=⟨3,3,(.seq (.ret (.and (.cmp .Eq (.ix (.v 0) (.c (.int 0))) (.c (.str (S "if")))) (.and (.cmp .Eq (.ix (.v 1) (.c (.int 0))) (.c (.str (S "if")))) (.and (.cmp .Eq (.slice (.v 0) (.part (.c (.int 1))) (.part (.c (.int 4)))) (.slice (.v 1) (.part (.c (.int 1))) (.part (.c (.int 4))))) (.call 117 (.aC (.v 0) (.aC (.v 2) .aN)) [])))))
 .skip)⟩
def Zy:CS:=(.seq (.ite (.cmp .Eq (.ix (.v 3) (.c (.int 0))) (.c (.str (S "put")))) (.seq (.set 2 (.call 57 (.aC (.v 2) (.aC (.ix (.v 3) (.c (.int 1))) .aN)) []))
 .skip) .skip)
 .skip)
def XT:FD:=⟨3,4,(.seq (.ite (.and (.cmp .Eq (.ix (.v 0) (.c (.int 0))) (.c (.str (S "put")))) (.and (.cmp .Eq (.v 0) (.v 1)) (.call 117 (.aC (.v 0) (.aC (.v 2) .aN)) []))) (.seq (.ret (.bin .BitOr (.v 2) (.call 43 (.aC (.ix (.v 0) (.c (.int 1))) .aN) [])))
 .skip) .skip)
 (.seq (.for1 3 af (.tupE (.aC (.v 0) (.aC (.v 1) .aN))) Zy)
 (.seq (.ret (.v 2))
 .skip)))⟩
def ZF:FD:=⟨2,2,(.seq (.ite (.cmp .Eq (.ix (.v 0) (.c (.int 0))) (.c (.str (S "go")))) (.seq (.ret (.tupE (.aC (.ix (.v 0) (.c (.int 1))) .aN)))
 .skip) .skip)
 (.seq (.ite (.cmp .Eq (.ix (.v 0) (.c (.int 0))) (.c (.str (S "if")))) (.seq (.ret (.tupE (.aC (.ix (.v 0) (.c (.int 4))) (.aC (.bin .Add (.v 1) (.c (.int 1))) .aN))))
 .skip) .skip)
 (.seq (.ret (.tupE (.aC (.bin .Add (.v 1) (.c (.int 1))) .aN)))
 .skip)))⟩
noncomputable def UH:CE:=(.comp af [9,7] (.call 121 (.aC (.v 6) (.aC (.v 3) .aN)) []) (.tupE (.aC (.v 1) (.aC (.v 0) (.aC (.v 2) .aN)))) (.c (.bl ae)))
def Uy:CS:=(.seq (.ext 8 UH)
 .skip)
def Wp:FD:=⟨5,10,(.seq (.set 5 (.call 115 (.aC (.v 0) (.aC (.v 2) .aN)) []))
 (.seq (.set 6 (.call 115 (.aC (.v 1) (.aC (.v 3) .aN)) []))
 (.seq (.ite (.or (.call 116 (.aC (.v 5) .aN) []) (.call 116 (.aC (.v 6) .aN) [])) (.seq (.ret (.ife (.call 118 (.aC (.v 5) (.aC (.v 6) (.aC (.v 4) .aN))) []) (.tupE .aN) (.c .non)))
 .skip) .skip)
 (.seq (.ite (.call 119 (.aC (.v 5) (.aC (.v 6) (.aC (.v 4) .aN))) []) (.seq (.ret (.tupE (.aC (.tupE (.aC (.ix (.v 5) (.c (.int 4))) (.aC (.ix (.v 6) (.c (.int 4))) (.aC (.v 4) .aN)))) (.aC (.tupE (.aC (.bin .Add (.v 2) (.c (.int 1))) (.aC (.bin .Add (.v 3) (.c (.int 1))) (.aC (.v 4) .aN)))) .aN))))
 .skip) .skip)
 (.seq (.set 7 (.call 120 (.aC (.v 5) (.aC (.v 6) (.aC (.v 4) .aN))) []))
 (.seq (.set 8 (.lstE .aN))
 (.seq (.for1 9 af (.call 121 (.aC (.v 5) (.aC (.v 2) .aN)) []) Uy)
 (.seq (.ret (.tOf (.v 8)))
 .skip))))))))⟩
noncomputable def Z7:FD:=⟨2,10,(.seq (.set 2 (.dd (.c (.int 0)) (.c (.int 0)) (.call 56 (.aC (.ix (.v 0) (.c (.int 1))) .aN) [])))
 (.seq (.set 3 (.lstE (.aC (.tupE (.aC (.c (.int 0)) (.aC (.c (.int 0)) .aN))) .aN)))
 (.seq (.whl (.cmp .Gt (.len (.v 3)) (.c (.int 0))) (.seq (.set 4 (.pop (.v 3)))
 (.seq (.set 5 (.call 122 (.aC (.v 0) (.aC (.v 1) (.aC (.ix (.v 4) (.c (.int 0))) (.aC (.ix (.v 4) (.c (.int 1))) (.aC (.ix (.v 2) (.v 4)) .aN))))) []))
 (.seq (.ite (.cmp .Is (.v 5) (.c .non)) (.seq (.ret (.c .non))
 .skip) .skip)
 (.seq (.for4 6 7 8 (.v 5) (.seq (.set 9 (.bin .BitAnd (.v 8) (.dgN (.v 2) (.tupE (.aC (.v 6) (.aC (.v 7) .aN))) (.v 8))))
 (.seq (.ite (.cmp .NotEq (.dgN (.v 2) (.tupE (.aC (.v 6) (.aC (.v 7) .aN))) (.c .non)) (.v 9)) (.seq (.dput 2 (.v 6) (.v 7) (.v 9))
 (.seq (.app 3 (.tupE (.aC (.v 6) (.aC (.v 7) .aN))))
 .skip)) .skip)
 .skip)))
 .skip)))))
 (.seq (.ret (.tOf (.compT [2] (.ksrt (.v 2)) (.tupE (.aC (.v 0) (.aC (.v 1) (.aC (.ix (.v 2) (.tupE (.aC (.v 0) (.aC (.v 1) .aN)))) .aN)))) (.c (.bl ae)))))
 .skip))))⟩
noncomputable def Yf:FD:=⟨2,2,(.seq (.ite (.cmp .Lt (.v 1) (.len (.v 0))) (.seq (.ret (.ix (.v 0) (.v 1)))
 .skip) .skip)
 (.seq (.ite (.cmp .Eq (.v 0) (.lstE .aN)) (.seq (.ret (.bin .Mod (.bin .Mult (.bin .Add (.bin .Add (.bin .Mult (.v 1) (.v 1)) (.bin .Mult (.c (.int 3)) (.v 1))) (.c (.int 1))) (.c (.int 16807))) (.c (.int 2147483629))))
 .skip) .skip)
 (.seq (.ret (.bin .Mod (.bin .Mult (.bin .Add (.bin .Mod (.ix (.v 0) (.neg (.c (.int 1)))) (.c (.int 1000003))) (.c (.int 2))) (.bin .Add (.bin .Mult (.v 1) (.v 1)) (.c (.int 16807)))) (.c (.int 2147483629))))
 .skip)))⟩
noncomputable def YJ:FD:=⟨1,1,(.seq (.ite (.cmp .Eq (.bin .Mod (.v 0) (.c (.int 4))) (.c (.int 0))) (.seq (.ret (.bin .Sub (.bin .Mod (.bin .FloorDiv (.v 0) (.c (.int 4))) (.c (.int 9))) (.c (.int 4))))
 .skip) .skip)
 (.seq (.ite (.cmp .Eq (.bin .Mod (.v 0) (.c (.int 4))) (.c (.int 1))) (.seq (.ret (.ix (.lstE (.aC (.neg (.c (.int 1000000000))) (.aC (.neg (.c (.int 999999999))) (.aC (.neg (.c (.int 1))) (.aC (.c (.int 0)) (.aC (.c (.int 1)) (.aC (.c (.int 999999998)) (.aC (.c (.int 999999999)) .aN)))))))) (.bin .Mod (.bin .FloorDiv (.v 0) (.c (.int 4))) (.c (.int 7)))))
 .skip) .skip)
 (.seq (.ret (.bin .Sub (.bin .Mod (.bin .Mult (.bin .FloorDiv (.v 0) (.c (.int 4))) (.c (.int 69621))) (.c (.int 2000000000))) (.c (.int 1000000000))))
 .skip)))⟩
def Yh:FD:=⟨2,2,(.seq (.ite (.and (.cmp .Gt (.v 1) (.c (.int 0))) (.cmp .Gt (.bin .Mod (.v 0) (.c (.int 3))) (.c (.int 0)))) (.seq (.ret (.tupE (.aC (.c (.str (S "name"))) (.aC (.bin .Mod (.bin .FloorDiv (.v 0) (.c (.int 3))) (.v 1)) .aN))))
 .skip) .skip)
 (.seq (.ret (.tupE (.aC (.c (.str (S "number"))) (.aC (.call 20 (.aC (.bin .FloorDiv (.v 0) (.c (.int 3))) .aN) []) .aN))))
 .skip))⟩
def Xo:FD:=⟨3,5,(.seq (.set 3 (.call 28 (.aC (.ix (.v 0) (.c (.int 1))) (.aC (.v 1) .aN)) []))
 (.seq (.set 4 (.call 28 (.aC (.ix (.v 0) (.c (.int 2))) (.aC (.v 1) .aN)) []))
 (.seq (.ite (.and (.cmp .Lt (.bin .Mod (.ix (.v 0) (.c (.int 0))) (.c (.int 8))) (.c (.int 4))) (.cmp .Gt (.v 1) (.c (.int 0)))) (.seq (.ret (.tupE (.aC (.c (.str (S "put"))) (.aC (.bin .Mod (.ix (.v 0) (.c (.int 3))) (.v 1)) (.aC (.v 3) (.aC (.ix (.lstE (.aC (.c (.str (S "+"))) (.aC (.c (.str (S "-"))) (.aC (.c (.str (S "*"))) (.aC (.c (.str (S "/"))) (.aC (.c (.str (S "mod"))) .aN)))))) (.bin .Mod (.bin .FloorDiv (.ix (.v 0) (.c (.int 0))) (.c (.int 8))) (.c (.int 5)))) (.aC (.v 4) .aN)))))))
 .skip) .skip)
 (.seq (.ite (.cmp .Lt (.bin .Mod (.ix (.v 0) (.c (.int 0))) (.c (.int 8))) (.c (.int 6))) (.seq (.ret (.tupE (.aC (.c (.str (S "if"))) (.aC (.v 3) (.aC (.ix (.lstE (.aC (.c (.str (S "<"))) (.aC (.c (.str (S "<="))) (.aC (.c (.str (S "="))) (.aC (.c (.str (S ">="))) (.aC (.c (.str (S ">"))) (.aC (.c (.str (S "!="))) .aN))))))) (.bin .Mod (.bin .FloorDiv (.ix (.v 0) (.c (.int 0))) (.c (.int 8))) (.c (.int 6)))) (.aC (.v 4) (.aC (.bin .Mod (.ix (.v 0) (.c (.int 3))) (.bin .Add (.v 2) (.c (.int 1)))) .aN)))))))
 .skip) .skip)
 (.seq (.ite (.cmp .Eq (.bin .Mod (.ix (.v 0) (.c (.int 0))) (.c (.int 8))) (.c (.int 6))) (.seq (.ret (.tupE (.aC (.c (.str (S "tell"))) (.aC (.v 3) .aN))))
 .skip) .skip)
 (.seq (.ret (.ix (.lstE (.aC (.tupE (.aC (.c (.str (S "go"))) (.aC (.bin .Mod (.ix (.v 0) (.c (.int 3))) (.bin .Add (.v 2) (.c (.int 1)))) .aN))) (.aC (.tupE (.aC (.c (.str (S "skip"))) .aN)) .aN))) (.bin .Mod (.bin .FloorDiv (.ix (.v 0) (.c (.int 0))) (.c (.int 8))) (.c (.int 2)))))
 .skip))))))⟩
def ZC:FD:=⟨2,2,(.seq (.ite (.cmp .Eq (.ix (.v 0) (.c (.int 0))) (.c (.str (S "if")))) (.seq (.ret (.bin .Add (.slice (.v 0) .nop (.part (.c (.int 4)))) (.tupE (.aC (.ix (.v 1) (.ix (.v 0) (.c (.int 4)))) .aN))))
 .skip) .skip)
 (.seq (.ite (.cmp .Eq (.ix (.v 0) (.c (.int 0))) (.c (.str (S "go")))) (.seq (.ret (.tupE (.aC (.c (.str (S "go"))) (.aC (.ix (.v 1) (.ix (.v 0) (.c (.int 1)))) .aN))))
 .skip) .skip)
 (.seq (.ret (.v 0))
 .skip)))⟩
def Zr:FD:=⟨1,2,(.seq (.ite (.and (.cmp .Eq (.ix (.v 0) (.c (.int 0))) (.c (.str (S "put")))) (.cmp .In (.ix (.v 0) (.c (.int 3))) (.lstE (.aC (.c (.str (S "+"))) (.aC (.c (.str (S "*"))) .aN))))) (.seq (.ret (.tupE (.aC (.c (.str (S "put"))) (.aC (.ix (.v 0) (.c (.int 1))) (.aC (.ix (.v 0) (.c (.int 4))) (.aC (.ix (.v 0) (.c (.int 3))) (.aC (.ix (.v 0) (.c (.int 2))) .aN)))))))
 .skip) .skip)
 (.seq (.ite (.cmp .Eq (.ix (.v 0) (.c (.int 0))) (.c (.str (S "if")))) (.seq (.set 1 (.dget (.dict [(S "<"),(S "<="),(S ">"),(S ">=")] (.aC (.c (.str (S ">"))) (.aC (.c (.str (S ">="))) (.aC (.c (.str (S "<"))) (.aC (.c (.str (S "<="))) .aN))))) (.ix (.v 0) (.c (.int 2))) (.ix (.v 0) (.c (.int 2)))))
 (.seq (.ret (.tupE (.aC (.c (.str (S "if"))) (.aC (.ix (.v 0) (.c (.int 3))) (.aC (.v 1) (.aC (.ix (.v 0) (.c (.int 1))) (.aC (.ix (.v 0) (.c (.int 4))) .aN)))))))
 .skip)) .skip)
 (.seq (.ret (.v 0))
 .skip)))⟩
noncomputable def XV:CE:=(.comp ae [6] (.v 2) (.bin .Add (.v 0) (.v 1)) (.c (.bl ae)))
def YB:CS:=(.seq (.set 6 (.bin .Mult (.bin .Mod (.bin .Mod (.bin .Mult (.bin .Add (.bin .Mod (.v 1) (.c (.int 1000003))) (.c (.int 1))) (.bin .Add (.bin .Add (.bin .Mult (.v 5) (.v 5)) (.bin .Mult (.c (.int 13)) (.v 4))) (.c (.int 5)))) (.c (.int 10007))) (.c (.int 2))) (.v 2)))
 (.seq (.app 3 (.call 123 (.aC (.ix (.v 0) (.v 5)) (.aC (.bin .Add XV (.lstE (.aC (.bin .Mult (.c (.int 2)) (.v 2)) .aN))) .aN)) []))
 .skip))
def Z1:CS:=(.seq (.for1 5 ae (.v 2) YB)
 .skip)
def Yg:FD:=⟨2,7,(.seq (.set 2 (.len (.v 0)))
 (.seq (.set 3 (.lstE .aN))
 (.seq (.for1 4 ae (.c (.int 2)) Z1)
 (.seq (.ret (.v 3))
 .skip))))⟩
noncomputable def WL:CE:=(.comp ae [5,0] (.c (.int 4)) (.call 27 (.aC (.v 2) (.aC (.bin .Add (.bin .Add (.c (.int 10)) (.bin .Mult (.c (.int 4)) (.v 1))) (.v 0)) .aN)) []) (.c (.bl ae)))
def WJ:CS:=(.seq (.app 4 (.call 29 (.aC WL (.aC (.v 1) (.aC (.v 3) .aN))) []))
 .skip)
def YZ:FD:=⟨3,6,(.seq (.set 3 (.bin .Mod (.call 27 (.aC (.v 0) (.aC (.c (.int 6)) .aN)) []) (.c (.int 13))))
 (.seq (.ite (.or (.cmp .Eq (.v 2) (.c (.int 5))) (.cmp .Eq (.v 2) (.c (.int 6)))) (.seq (.set 3 (.bin .Mod (.v 3) (.c (.int 7))))
 .skip) .skip)
 (.seq (.set 4 (.lstE .aN))
 (.seq (.for1 5 ae (.v 3) WJ)
 (.seq (.ite (.and (.cmp .In (.v 2) (.lstE (.aC (.c (.int 5)) (.aC (.c (.int 6)) .aN)))) (.and (.cmp .Gt (.v 3) (.c (.int 0))) (.cmp .NotIn (.ix (.ix (.v 4) (.neg (.c (.int 1)))) (.c (.int 0))) (.lstE (.aC (.c (.str (S "go"))) (.aC (.c (.str (S "tell"))) .aN)))))) (.seq (.put 4 (.neg (.c (.int 1))) (.tupE (.aC (.c (.str (S "go"))) (.aC (.bin .Mod (.call 27 (.aC (.v 0) (.aC (.bin .Add (.c (.int 9)) (.bin .Mult (.c (.int 4)) (.v 3))) .aN)) []) (.bin .Add (.v 3) (.c (.int 1)))) .aN))))
 .skip) .skip)
 (.seq (.ret (.v 4))
 .skip))))))⟩
noncomputable def XA:CE:=(.comp af [] (.v 5) (.call 124 (.aC (.v 0) .aN) []) (.c (.bl ae)))
noncomputable def XB:CE:=(.comp ae [0] (.c (.int 4)) (.call 27 (.aC (.v 1) (.aC (.bin .Add (.c (.int 2)) (.v 0)) .aN)) []) (.c (.bl ae)))
abbrev jN(n:Nat):Option D:=aa (.int n)
abbrev jI(n:Int):Option D:=aa (.int n)
abbrev jL(n:Nat):Option D:=aa (.lst n)
noncomputable abbrev CE.i(n:Int):CE:=.c (.int n)
noncomputable abbrev CE.t(s:String):CE:=.c (.str (S s))
noncomputable abbrev CE.u(a:CE):CE:=.aC a .aN
noncomputable abbrev CS.z(a:CS):CS:=.seq a .skip
noncomputable abbrev CS.w(c:CE)(a:CS):CS:=.ite c a .skip
abbrev CE.f(n:Nat)(a:CE):CE:=.call n a []
abbrev CE.x(n:Nat)(i:Int):CE:=.ix (.v n) (.i i)
abbrev CE.a(n:Nat)(b:CE):CE:=.aC (.v n) b
abbrev CE.s(n:Nat):CE:=.u (.v n)
abbrev CE.e(a b:CE):CE:=.cmp .Eq a b
abbrev CE.p(a b:CE):CE:=.bin .Add a b
abbrev CE.m(a b:CE):CE:=.bin .Mod a b
abbrev CE.h(a b:CE):CE:=.bin .Mult a b
abbrev CE.k(a b:CE):CE:=.bin .FloorDiv a b
abbrev CE.l(a b:CE):CE:=.bin .Sub a b
abbrev CE.g(a:CE):CE:=.tupE a
abbrev CS.y(n:Nat)(a:CE)(b:CS):CS:=.seq (.set n a) b
abbrev CS.k(a:CE)(b c:CS):CS:=.seq (.w a b) c
abbrev CS.q(a:CE):CS:=.z (.ret a)
def c__law_two:FD:=⟨1,12,(.y 1 (.f 27 (.a 0 (.u (.i 0))))
 (.y 2 (.m (.v 1) (.i 4))
 (.y 3 (.p (.v 2) (.m (.k (.v 1) (.i 4)) (.l (.i 6) (.v 2))))
 (.y 4 (.m (.f 27 (.a 0 (.u (.i 1)))) (.i 8))
 (.y 5 (.f 126 (.a 0 (.a 3 (.s 4))))
 (.y 6 (.len (.v 5))
 (.y 7 (.listOf (.v 5))
 (.k (.or (.e (.v 4) (.i 1)) (.e (.v 4) (.i 4))) (.z (.set 7 XA))
 (.k (.or (.e (.v 4) (.i 5)) (.e (.v 4) (.i 6))) (.z (.set 7 (.f 125 (.a 5 (.u (.f 27 (.a 0 (.u (.i 2)))))))))
 (.k (.e (.v 4) (.i 7)) (.z (.set 7 (.rs af (.v 5))))
 (.k (.and (.cmp .In (.v 4) (.lstE (.aC (.i 2) (.aC (.i 3) (.aC (.i 4) (.u (.i 6))))))) (.cmp .Gt (.v 6) (.i 0))) (.y 8 (.l (.l (.len (.v 7)) (.i 1)) (.m (.k (.f 27 (.a 0 (.u (.i 1)))) (.i 8)) (.v 6)))
 (.y 9 (.f 29 (.aC XB (.a 3 (.s 6))))
 (.k (.and (.e (.x 9 0) (.t "put")) (.e (.ix (.ix (.v 7) (.v 8)) (.i 0)) (.t "put"))) (.z (.set 9 (.p (.p (.slice (.v 9) .nop (.part (.i 1))) (.slice (.ix (.v 7) (.v 8)) (.part (.i 1)) (.part (.i 2)))) (.slice (.v 9) (.part (.i 2)) .nop))))
 (.z (.put 7 (.v 8) (.v 9))))))
 (.y 10 (.g (.aC (.h (.g (.u (.g (.aC (.i 0) (.u (.i 4)))))) (.v 2)) (.a 3 (.u (.tOf (.v 5))))))
 (.y 11 (.g (.aC (.h (.g (.u (.g (.aC (.neg (.i 9)) (.u (.i 9)))))) (.v 2)) (.a 3 (.u (.tOf (.v 7))))))
 (.k (.e (.m (.k (.f 27 (.a 0 (.u (.i 1)))) (.i 104)) (.i 2)) (.i 1)) (.q (.g (.a 11 (.s 10))))
 (.q (.g (.a 10 (.s 11))))))))))))))))))⟩
def Zs:FD:=⟨3,4,(.y 3 (.v 0)
 (.k (.e (.v 1) (.t "+")) (.z (.set 3 (.p (.v 0) (.v 2))))
 (.k (.e (.v 1) (.t "-")) (.z (.set 3 (.l (.v 0) (.v 2))))
 (.k (.e (.v 1) (.t "*")) (.z (.set 3 (.h (.v 0) (.v 2))))
 (.k (.e (.v 1) (.t "/")) (.z (.set 3 (.i 0)))
 (.k (.and (.cmp .NotEq (.v 2) (.i 0)) (.e (.v 1) (.t "/"))) (.z (.set 3 (.k (.v 0) (.v 2))))
 (.k (.and (.cmp .NotEq (.v 2) (.i 0)) (.e (.v 1) (.t "mod"))) (.z (.set 3 (.m (.v 0) (.v 2))))
 (.q (.l (.m (.p (.v 3) (.i 1000000000)) (.i 2000000000)) (.i 1000000000))))))))))⟩
def ZT:FD:=⟨3,3,(.k (.or (.e (.v 1) (.t "<")) (.e (.v 1) (.t ">="))) (.q (.e (.cmp .Lt (.v 0) (.v 2)) (.e (.v 1) (.t "<"))))
 (.k (.or (.e (.v 1) (.t ">")) (.e (.v 1) (.t "<="))) (.q (.e (.cmp .Gt (.v 0) (.v 2)) (.e (.v 1) (.t ">"))))
 (.q (.e (.e (.v 0) (.v 2)) (.e (.v 1) (.t "="))))))⟩
def Yc:FD:=⟨2,2,(.k (.e (.x 0 0) (.t "number")) (.q (.x 0 1))
 (.q (.ix (.v 1) (.x 0 1))))⟩
def c__law_moved:FD:=⟨2,8,(.seq (.set2 2 3 (.v 1))
 (.k (.e (.v 2) (.len (.x 0 2))) (.q (.g (.u (.t "none"))))
 (.y 4 (.ix (.x 0 2) (.v 2))
 (.k (.e (.x 4 0) (.t "tell")) (.q (.g (.aC (.t "told") (.u (.f 34 (.aC (.x 4 1) (.s 3)))))))
 (.k (.e (.x 4 0) (.t "put")) (.y 5 (.f 32 (.aC (.f 34 (.aC (.x 4 2) (.s 3))) (.aC (.x 4 3) (.u (.f 34 (.aC (.x 4 4) (.s 3)))))))
 (.q (.g (.aC (.p (.v 2) (.i 1)) (.u (.p (.p (.slice (.v 3) .nop (.part (.x 4 1))) (.g (.s 5))) (.slice (.v 3) (.part (.p (.x 4 1) (.i 1))) .nop)))))))
 (.k (.e (.x 4 0) (.t "go")) (.q (.g (.aC (.x 4 1) (.s 3))))
 (.k (.e (.x 4 0) (.t "if")) (.y 6 (.f 34 (.aC (.x 4 1) (.s 3)))
 (.y 7 (.f 34 (.aC (.x 4 3) (.s 3)))
 (.z (.w (.f 33 (.a 6 (.aC (.x 4 2) (.s 7)))) (.q (.g (.aC (.x 4 4) (.s 3))))))))
 (.q (.g (.aC (.p (.v 2) (.i 1)) (.s 3)))))))))))⟩
def Ye:CS:=(.k (.and (.e (.v 4) (.v 2)) (.cmp .Lt (.ix (.ix (.v 3) (.neg (.i 1))) (.i 0)) (.len (.x 0 2)))) (.q (.p (.v 3) (.lstE (.u (.g (.u (.t "late")))))))
 (.seq (.app 3 (.f 103 (.a 0 (.u (.ix (.v 3) (.neg (.i 1)))))))
 (.z (.w (.isi .str (.ix (.ix (.v 3) (.neg (.i 1))) (.i 0))) (.q (.v 3))))))
def c__law_trail:FD:=⟨3,5,(.y 3 (.lstE (.u (.g (.aC (.i 0) (.u (.p (.v 1) (.h (.g (.u (.i 0))) (.l (.x 0 1) (.len (.v 1))))))))))
 (.seq (.for1 4 ae (.p (.v 2) (.i 1)) Ye)
 (.q (.v 3))))⟩
def YX:CS:=(.z (.w (.and (.e (.m (.k (.v 2) (.bin .LShift (.i 1) (.v 3))) (.i 2)) (.i 1)) (.cmp .NotEq (.ix (.v 0) (.v 3)) (.ix (.v 1) (.v 3)))) (.q (.c (.bl af)))))
def YI:FD:=⟨3,4,(.seq (.for1 3 ae (.len (.v 0)) YX)
 (.q (.c (.bl ae))))⟩
def YY:CS:=(.y 5 (.dgN (.v 0) (.g (.aC (.x 3 0) (.u (.x 4 0)))) (.c .non))
 (.z (.w (.or (.cmp .Is (.v 5) (.c .non)) (.not (.f 36 (.aC (.x 3 1) (.aC (.x 4 1) (.s 5)))))) (.q (.c (.bl af))))))
def c__law_along:FD:=⟨3,6,(.k (.or (.cmp .NotEq (.len (.v 1)) (.len (.v 2))) (.cmp .NotEq (.ix (.v 1) (.neg (.i 1))) (.ix (.v 2) (.neg (.i 1))))) (.q (.c (.bl af)))
 (.seq (.forP 3 4 (.aC (.slice (.v 1) .nop (.part (.neg (.i 1)))) (.u (.slice (.v 2) .nop (.part (.neg (.i 1)))))) YY)
 (.q (.c (.bl ae)))))⟩
def X3:CE:=(.comp ae [0,9] (.len (.x 1 0)) (.p (.k (.f 27 (.a 1 (.u (.p (.i 58) (.v 0))))) (.p (.i 1) (.h (.i 5) (.v 2)))) (.v 2)) (.c (.bl ae)))
noncomputable def Y4:CE:=(.comp af [] (.v 10) (.f 20 (.s 0)) (.c (.bl ae)))
def Yp:CS:=(.y 10 X3
 (.y 11 (.tOf Y4)
 (.z (.w (.not (.f 296 (.a 4 (.aC (.f 26 (.a 1 (.a 11 (.s 8)))) (.u (.f 26 (.a 2 (.a 11 (.s 8))))))))) (.q (.c (.bl af)))))))
def c_law_k43:FD:=⟨1,12,(.seq (.set2 1 2 (.f 47 (.s 0)))
 (.y 3 (.f 201 (.a 1 (.s 2)))
 (.k (.cmp .Is (.v 3) (.c .non)) (.q (.cmp .NotIn (.m (.f 27 (.a 0 (.u (.i 1)))) (.i 8)) (.lstE (.aC (.i 0) (.aC (.i 1) (.u (.i 5)))))))
 (.y 4 .dnew
 (.seq (.for4 5 6 7 (.v 3) (.z (.dput 4 (.v 5) (.v 6) (.v 7))))
 (.y 8 (.m (.k (.f 27 (.a 0 (.u (.i 9)))) (.i 8)) (.i 25))
 (.k (.e (.m (.f 27 (.a 0 (.u (.i 9)))) (.i 8)) (.i 3)) (.z (.set 8 (.m (.k (.f 27 (.a 0 (.u (.i 9)))) (.i 8)) (.i 201))))
 (.seq (.for1 9 ae (.i 3) Yp)
 (.q (.c (.bl ae)))))))))))⟩
end Dp
noncomputable section
namespace Dp
open PySem
def T:Nat->Ot FD
 |42=>aa Xr
 |113=>aa Z2
 |43=>aa Wo
 |56=>aa Xp
 |114=>aa XQ
 |57=>aa Yv
 |0=>aa Wn
 |1=>aa Xc
 |2=>aa Yq
 |3=>aa Wq
 |4=>aa W9
 |73=>aa Yu
 |74=>aa ZX
 |75=>aa ZW
 |76=>aa ZO
 |77=>aa Xq
 |78=>aa ZV
 |79=>aa YL
 |80=>aa XS
 |81=>aa Yi
 |82=>aa XR
 |83=>aa ZS
 |115=>aa Xy
 |116=>aa YK
 |117=>aa YM
 |118=>aa Y0
 |119=>aa ZI
 |120=>aa XT
 |121=>aa ZF
 |122=>aa Wp
 |201=>aa Z7
 |27=>aa Yf
 |20=>aa YJ
 |28=>aa Yh
 |29=>aa Xo
 |123=>aa ZC
 |124=>aa Zr
 |125=>aa Yg
 |126=>aa YZ
 |47=>aa c__law_two
 |32=>aa Zs
 |33=>aa ZT
 |34=>aa Yc
 |103=>aa c__law_moved
 |26=>aa c__law_trail
 |36=>aa YI
 |296=>aa c__law_along
 |16=>aa c_law_k43
 |_=>ab
abbrev rT:=run T
structure Grw(s s':Za):Prop where
 old:∀ i,i < s.length->s'[i]?=s[i]?
 len:s.length<=s'.length
variable{α:Type}{U':Env}{wk:D->Za->Ot (Li D×(Za->Prop))}{fr:Li Nat}{it elt:CE}{hi:Ot Int}
variable{F:Nat->Fn}{s st:Za}{e a b:CE}{U:Env}{d x y:D}{q p:CS}{n f i j w:Nat}{xs ds:Li D}
section
variable{s' s1 s2:Za}{c:CE}{z:D}{k m:Bool}{t:Xl}
def Zx{l:Li α}{x:α}(h:l[i]?=aa x):i < l.length:=(bF.mp h).1
def Grw.refl:Grw s s:=⟨λ_ _=>rfl,aB _⟩
theorem Grw.trans(a:Grw s s1)(b:Grw s1 s2):Grw s s2:=⟨λi h=>(b.old i (aS h a.len)).trans (a.old i h),aP a.len b.len⟩
def Grw.get(g:Grw s s')(h:s[i]?=aa t):s'[i]?=aa t:=(g.old i (Zx h)).trans h
def Grw.push:Grw s (s++[t]):=⟨λi h=>bG h,by rw[aH];omega⟩
def Grw.nil:Grw [] s:=⟨λ_ h=>au h (Nat.not_lt_zero _),aU _⟩
def Gv(s:Za)(f:Za->Res)(d:D):Prop:=∀ st,Grw s st->∃ st',f st=aa (d,st')/\Grw st st'
def Y(F:Nat->Fn)(s:Za)(e:CE)(U:Env)(d:D):Prop:=Gv s (ev F e U) d
def C(F:Nat->Fn)(s:Za)(f:Nat)(ds:Li D)(d:D):Prop:=Gv s (F f ds) d
def R(F:Nat->Fn)(s:Za)(q:CS)(U:Env)(d:D):Prop:=∀ st,Grw s st->∃ st',ex F q U st=aa (.rt d,st')/\Grw st st'
def rf{f:Za->Res}(x:Za):f x=f x:=rfl
def Y.r(h:∀ st,ev F e U st=aa (d,st)):Y F s e U d:=λst _=>⟨st,h st,.refl⟩
def Y.at(h:∀ st,Grw s st->ev F e U st=aa (d,st)):Y F s e U d:=λst g=>⟨st,h st g,.refl⟩
def Gv.mono{f:Za->Res}(h:Gv s f d)(g:Grw s s'):Gv s' f d:=λst k=>h st (g.trans k)
def C.up(h:C F [] f ds d):C F s f ds d:=Gv.mono h .nil
def g1{g:D->Za->Res}(e:Y F s a U x)(h:Gv s (g x) d):Gv s (Zl (ev F a) g U) d:=λst k=>by
 obtain⟨s1,i,b⟩:=e st k;obtain⟨s2,f,c⟩:=h s1 (k.trans b);exact⟨s2,by unfold Zl;rw[i];exact f,b.trans c⟩
def g2{g:D->D->Za->Res}(l:Y F s a U x)(j:Y F s b U y)(h:Gv s (g x y) d):Gv s (ZE (ev F a) (ev F b) g U) d:=λst k=>by
 obtain⟨s1,o,c⟩:=l st k;obtain⟨s2,n,e⟩:=j s1 (k.trans c);obtain⟨f,m,i⟩:=h s2 (k.trans (c.trans e));exact⟨f,by unfold ZE;rw[o];simp only[n];exact m,c.trans (e.trans i)⟩
def gp{f:Za->Res}(h:∀ st,f st=aa (d,st)):Gv s f d:=λst _=>⟨st,h st,.refl⟩
def gs{f:Za->Res}(h:∀ st,Grw s st->f st=aa (d,st)):Gv s f d:=λst k=>⟨st,h st k,.refl⟩
theorem Y.cmp{op:CmpOp}(d:Y F s a U x)(c:Y F s b U y)(h:∀ st,ZbY op x y st=aa k):Y F s (.cmp op a b) U (.bl k):=g2 d c (gp λst=>by unfold VQ;rw[h])
def gc{e b c:Ev}(i:Gv s (e U) (.bl k))(h:Gv s ((if k then b else c) U) d):Gv s (Y3 e b c U) d:=λst g=>by
 obtain⟨s1,l,a⟩:=i st g;obtain⟨s2,j,f⟩:=h s1 (g.trans a);exact⟨s2,by unfold Y3;rw[l];cases k<;>exact j,a.trans f⟩
theorem Y.and(c:Y F s a U (.bl k))(d:k=ae->Y F s b U (.bl m)):Y F s (.and a b) U (.bl (k&&m)):=by
 cases k
 .exact gc c (gp λ_=>rfl)
 .exact gc c (d rfl)
theorem Y.or(c:Y F s a U (.bl k))(d:k=af->Y F s b U (.bl m)):Y F s (.or a b) U (.bl (k||m)):=by
 cases k
 .exact gc c (d rfl)
 .exact gc c (gp λ_=>rfl)
theorem Y.not(b:Y F s a U (.bl k)):Y F s (.not a) U (.bl (!k)):=g1 b (gp λ_=>rfl)
theorem Y.ife(e:Y F s c U (.bl k))(h:Y F s (if k then a else b) U d):Y F s (.ife c a b) U d:=by
 cases k<;>exact gc e h
theorem Y.call(b:Y F s a U (.tup xs))(h:C F s f (xs++ds) d):Y F s (.call f a ds) U d:=g1 b h
def Y.cons(e:Y F s a U x)(d:Y F s b U (.tup xs))(c:xs.length < 1000:=by first|decide | (simp only[aY,dJ];decide)):Y F s (.aC a b) U (.tup (x :: xs)):=g2 e d (gp λst=>aq c)
def Y.nil:Y F s .aN U (.tup []):=.r rf
def Y.call1(b:Y F s a U x)(h:C F s f [x] d):Y F s (.f f (.u a)) U d:=.call (.cons b .nil) h
theorem R.ret(h:Y F s e U d):R F s (.seq (.ret e) q) U d:=λst g=>by
 obtain⟨s1,b,a⟩:=h st g;exact⟨s1,by show YQ (UZ (ev F e)) (ex F q) U st=_;unfold YQ UZ;rw[b],a⟩
def R.set(h:Y F s e U x)(c:R F s q (Zh U i x) d):R F s (.y i e q) U d:=λst g=>by
 obtain⟨s1,j,a⟩:=h st g;obtain⟨s2,f,b⟩:=c s1 (g.trans a);exact⟨s2,by show YQ (Vv i (ev F e)) (ex F q) U st=_;unfold YQ Vv;rw[j];exact f,a.trans b⟩
def R.no(h:Y F s e U (.bl af))(c:R F s q U d):R F s (.seq (.ite e p .skip) q) U d:=λst g=>by
 obtain⟨s1,i,a⟩:=h st g;obtain⟨s2,f,b⟩:=c s1 (g.trans a);exact⟨s2,by show YQ (Yo (ev F e) (ex F p) (ex F .skip)) (ex F q) U st=_;unfold YQ Yo;rw[i];exact f,a.trans b⟩
def R.yB(h:Y F s e U (.bl ae))(c:R F s p U d):R F s (.seq (.ite e p .skip) q) U d:=λst g=>by
 obtain⟨s1,i,a⟩:=h st g;obtain⟨s2,f,b⟩:=c s1 (g.trans a);exact⟨s2,by show YQ (Yo (ev F e) (ex F p) (ex F .skip)) (ex F q) U st=_;unfold YQ Yo;rw[i];simp only[f],a.trans b⟩
def R.yes(h:Y F s e U (.bl ae))(b:Y F s a U d):R F s (.seq (.ite e (.q a) .skip) q) U d:=.yB h (.ret b)
def ZhN{v:FD}(h:T f=aa v)(a:ds.length=v.ps):rT (n+1) f ds st=match ex (rT n) v.body (ds.map aa++ag (v.ns - ds.length) ab) st with
  |some (.rt d,st')=>aa (d,st')
  |some (.nx _,st')=>aa (.non,st')
  |_=>ab:=by
 show(match T f with|some f=>fnD (rT n) f|none=>λ_ _=>ab) ds st=_
 rw[h];exact aq a
def Uf{v:FD}(h:T f=aa v)(b:ds.length=v.ps)(a:ex (rT n) v.body (ds.map aa++ag (v.ns - ds.length) ab) st=aa (.rt d,s')):rT (n+1) f ds st=aa (d,s'):=by rw[ZhN h b,a]
def C.of{v:FD}(h:T f=aa v)(c:ds.length=v.ps)(b:R (rT n) s v.body (ds.map aa++ag (v.ns - ds.length) ab) d):C (rT (n+1)) s f ds d:=λst g=>by
 obtain⟨s1,e,a⟩:=b st g;exact⟨s1,Uf h c e,a⟩
def Zc(h:ex F p U st=aa (.nx U',s')):ex F (.seq p q) U st=ex F q U' s':=by
 show YQ (ex F p) (ex F q) U st=_;unfold YQ;rw[h]
def Zj(h:ex F p U st=aa (.rt d,s')):ex F (.seq p q) U st=aa (.rt d,s'):=by
 show YQ (ex F p) (ex F q) U st=_;unfold YQ;rw[h]
theorem X9{α:Type}{f g:α->D}{ok:Za->Prop}{fe fc:D->Za->Res}(e:∀ d st,fc d st=aa (.bl ae,st))(b:∀ st,Grw s st->ok st):∀ {l:Li α},(∀ a∈l,Gv s (fe (f a)) (g a))->∀ st,Grw s st->∃ st',Yb ok fe fc (l.map f) st=aa (l.map g,st')/\Grw st st'
 |[],_,st,k=>⟨st,aq (b st k),.refl⟩
 |x :: xs,h,st,k=>by
  obtain⟨s1,n,c⟩:=h x Ls st k;obtain⟨s2,m,i⟩:=X9 e b (λd j=>h d (Lm _ j)) s1 (k.trans c)
  refine⟨s2,?_,c.trans i⟩;rw[aW,Yb,aq (b st k),e];simp only[n,m,aW]
def Lv(s:Za)(f:Za->Res)(xs:Li D):Prop:=∀ st,Grw s st->∃ st' j b,f st=aa (.lst j,st')/\st'[j]?=aa (b,xs)/\Grw st st'
def ZB:(s++[t])[s.length]?=aa t:=by rw[bA (aB _),eC];rfl
def Wk(F:Nat->Fn)(s:Za)(it:CE)(U:Env)(wk:D->Za->Ot (Li D×(Za->Prop)))(xs:Li D):Prop:=∀ st,Grw s st->∃ x a ok,ev F it U st=aa (x,a)/\Grw st a/\wk x a=aa (xs,ok)/\∀ st',Grw a st'->ok st'
def Wk.of(hi:Y F s e U x)(h:∀ st,wk x st=aa (xs,λ_=>True)):Wk F s e U wk xs:=λst k=>by
 obtain⟨s1,b,a⟩:=hi st k;exact⟨x,s1,_,b,a,h s1,λ_ _=>trivial⟩
def WX{b:D->Li (Ot D)}{en g:α->D}{l:Li α}(hi:Wk F s it U wk (l.map en))(j:l.length<=1000)(h:∀ a∈l,Y F s elt (Z9 b U fr (en a)) (g a)):Lv s (Xj b wk fr (ev F it) (ev F elt) (ev F (.c (.bl ae))) U) (l.map g):=λst k=>by
 obtain⟨x,s1,ok,p,e,o,i⟩:=hi st k;obtain⟨s2,n,f⟩:=X9 (s:=s1) (ok:=ok) (fe:=λd=>ev F elt (Z9 b U fr d)) (fc:=λd=>ev F (.c (.bl ae)) (Z9 b U fr d)) (λ_ _=>rfl) i (λa m=>Gv.mono (h a m) (k.trans e)) s1 .refl
 refine⟨s2++[(ae,l.map g)],_,_,?_,ZB,(e.trans f).trans .push⟩;unfold Xj;simp only[p,o,aD,aq j,n]
def Ux(h:xs[j]?=aa d):atD xs (j:Int)=aa d:=by
 have:=Zx h;unfold atD ixN;rw[aq (by omega),aq (by omega),Ob,bJ,h]
def Y.ixl(c:s[w]?=aa t)(f:Y F s a U (.lst w))(e:Y F s b U (.int (j:Int)))(h:t.2[j]?=aa d):Y F s (.ix a b) U d:=g2 f e (gs λst k=>by
 show ixR (.lst w) (.int (j:Int)) st=_;unfold ixR ixD;simp only[k.get c,Ux h])
def Y.ixt(e:Y F s a U (.tup xs))(c:Y F s b U (.int (j:Int)))(h:xs[j]?=aa d):Y F s (.ix a b) U d:=g2 e c (gp λst=>by
 show ixR (.tup xs) (.int (j:Int)) st=_;unfold ixR ixD;simp only[Ux h])
def Y.lenl(b:s[w]?=aa t)(c:Y F s a U (.lst w)):Y F s (.len a) U (.int (t.2.length:Int)):=g1 c (gs λst k=>by
 show ZaD (.lst w) st=_;unfold ZaD ZeI;simp only[k.get b])
def Lv.sl{lo:Ot Int}(i:s[w]?=aa t)(m:Y F s a U (.lst w))(l:Y F s b U x)(j:Y F s c U y)(h:∀ st,YR (.lst w) x y st=Z6 (.lst w) lo hi st):Lv s (ev F (.slice a b c) U) (Xg t.2 lo hi):=λst k=>by
 obtain⟨s1,p,d⟩:=m st k;obtain⟨s2,o,e⟩:=l s1 (k.trans d);obtain⟨g,n,f⟩:=j s2 (k.trans (d.trans e));refine⟨g++[(ae,Xg t.2 lo hi)],_,_,?_,ZB,(d.trans (e.trans f)).trans .push⟩;show Yz (ev F a) (ev F b) (ev F c) YR U st=_;unfold Yz;simp only[p,o,n,h];unfold Z6;simp only[(k.trans (d.trans (e.trans f))).get i]
def Lv.mk(h:Y F s e U (.tup xs)):Lv s (ev F (.lstE e) U) xs:=λst k=>by
 obtain⟨s1,b,a⟩:=h st k;exact⟨_,_,_,by show Zl (ev F e) ZaH U st=_;unfold Zl;rw[b];rfl,ZB,a.trans .push⟩
def Vb{c:Xl}(h:ev F e U st=aa (.lst j,s'))(a:s'[j]?=aa c):ev F (.tOf e) U st=aa (.tup c.2,s'):=by
 show Zl (ev F e) VA U st=_;unfold Zl;rw[h];show(match s'[j]? with
  |some (_,xs)=>aa (D.tup xs,s')
  |none=>ab)=_
 rw[a]
def ZU(h:ev F e U st=aa (d,s')):ex F (.ret e) U st=aa (.rt d,s'):=by
 show UZ (ev F e) U st=_;unfold UZ;rw[h]
def Zm(h:ev F e U st=aa (v,st')):ex F (.set i e) U st=aa (.nx (Zh U i v),st'):=by
 show Vv i (ev F e) U st=_;unfold Vv;rw[h]
def YA(h:ev F e U st=aa (.bl af,st')):ex F (.ite e p q) U st=ex F q U st':=by
 show Yo (ev F e) (ex F p) (ex F q) U st=_;unfold Yo;rw[h]
def ZN(h:ev F e U st=aa (.bl ae,st')):ex F (.ite e p q) U st=ex F p U st':=by
 show Yo (ev F e) (ex F p) (ex F q) U st=_;unfold Yo;rw[h]
def Zg:ex F .skip U st=aa (.nx U,st):=rfl
end
section
local macro_rules|`(())=>`(.r rf)
local macro_rules|`(∅)=>`(by omega)
local macro_rules|`(#[])=>`(by decide)
variable{st' st1:Za}{U':Env}{ys:Li D}
section
variable{U'':Env}{k:Bool}
structure Kj(j:Nat)(st st':Za):Prop where
 old:∀ i,i < st.length->i≠j->st'[i]?=st[i]?
 len:st.length<=st'.length
def Grw.kj(g:Grw st st'):Kj j st st':=⟨λi h _=>g.old i h,g.len⟩
theorem Kj.trans(a:Kj j st st1)(b:Kj j st1 st'):Kj j st st':=⟨λi h c=>(b.old i (aS h a.len) c).trans (a.old i h c),aP a.len b.len⟩
def Kj.grw(k:Kj j st st')(a:s.length<=j)(g:Grw s st):Grw s st':=⟨λi h=>(k.old i (aS h g.len) ∅).trans (g.old i h),aP g.len k.len⟩
def Wb{c:Xl}(h:i < st.length):(st.set i c)[j]?=if i=j then aa c else st[j]?:=by
 rw[List.getElem?_set];split
 .rename_i e;subst e
  first|rfl|rw[aq h]
 .rfl
def Ap(F:Nat->Fn)(s:Za)(j:Nat)(q:CS)(U U':Env)(xs:Li D):Prop:=∀ st a,Grw s st->st[j]?=aa (ae,a)->a.length+xs.length<=90000->∃ st',ex F q U st=aa (.nx U',st')/\Kj j st st'/\st'[j]?=aa (ae,a++xs)
theorem Ap.skip:Ap F s j .skip U U []:=λst a g h _=>⟨st,rfl,Grw.refl.kj,by rw[bD];exact h⟩
theorem Ap.seq(f:s.length<=j)(k:Ap F s j q U U' xs)(i:Ap F s j p U' U'' ys):Ap F s j (.seq q p) U U'' (xs++ys):=λst a g h e=>by
 rw[aH]at e;obtain⟨s1,m,g1,d⟩:=k st a g h ∅
 obtain⟨b,l,g2,c⟩:=i s1 _ (g1.grw f g) d (by rw[aH];omega)
 exact⟨b,by show YQ (ex F q) (ex F p) U st=_;unfold YQ;rw[m];exact l,g1.trans g2,by rw[<-aM];exact c⟩
def Ap.one(h:Ap F s j q U U' xs):Ap F s j (.z q) U U' xs:=λst a g d c=>by
 obtain⟨s1,e,g1,b⟩:=h st a g d c;exact⟨s1,by show YQ (ex F q) (ex F .skip) U st=_;unfold YQ;rw[e];rfl,g1,b⟩
theorem Ap.app(hi:U[i]?=aa (jL j))(h:Y F s e U d):Ap F s j (.app i e) U U [d]:=λst a g n f=>by
 obtain⟨s1,o,b⟩:=h st g;have c:=b.get n;have f:a.length+1<=90000:=f;refine⟨s1.set j (ae,a++[d]),?_,⟨λm l k=>?_,by rw[bK];exact b.len⟩,by rw[Wb (Zx c),aq rfl]⟩
 .show JD i (ev F e) U st=_
  unfold JD JB;simp only[hi,o,c];rw[aq (by unfold Zp;omega)]
 .rw[Wb (Zx c),ar (Ne.symm k)]
  exact b.old m l
theorem Ap.ite(h:Y F s e U (.bl k))(f:Ap F s j (if k then q else p) U U' xs):Ap F s j (.ite e q p) U U' xs:=λst b g l i=>by
 obtain⟨s1,n,a⟩:=h st g;obtain⟨c,m,g2,d⟩:=f s1 b (g.trans a) (a.get l) i;exact⟨c,by show Yo (ev F e) (ex F q) (ex F p) U st=_;unfold Yo;rw[n];cases k<;>exact m,a.kj.trans g2,d⟩
theorem Ap.set(h:Y F s e U d):Ap F s j (.set i e) U (Zh U i d) []:=λst f g b k=>by
 obtain⟨s1,c,a⟩:=h st g;exact⟨s1,by show Vv i (ev F e) U st=_;unfold Vv;rw[c],a.kj,by rw[bD];exact a.get b⟩
end
variable{c:Nat}{q':CS}
variable{Q:D->Za->Prop}
section
variable{st2:Za}{m:Bool}{tx:Str}
def Lv.v(b:s[j]?=aa (m,xs))(h:Y F s e U (.lst j)):Lv s (ev F e U) xs:=λst g=>by
 obtain⟨s1,c,a⟩:=h st g;exact⟨s1,j,m,c,(g.trans a).get b,a⟩
def Lv.mono{f:Za->Res}(h:Lv s f xs)(g:Grw s st):Lv st f xs:=λst1 k=>h st1 (g.trans k)
def Lv.cat(k:Lv s (ev F a U) xs)(j:Lv s (ev F b U) ys)(i:xs.length+ys.length<=Zp):Lv s (ev F (.p a b) U) (xs++ys):=λst g=>by
 obtain⟨s1,h,r,o,m,e⟩:=k st g;obtain⟨c,f,q,n,l,d⟩:=j s1 (g.trans e);refine⟨c++[(ae,xs++ys)],_,_,?_,ZB,(e.trans d).trans .push⟩;show ZE (ev F a) (ev F b) (Uz .Add) U st=_;unfold ZE;simp only[o,n];show Q9 h f c=_;unfold Q9;simp only[d.get m,l];exact aq i
def RP(F:Nat->Fn)(q:CS)(U:Env)(st:Za)(Q:D->Za->Prop):Prop:=∃ d st',ex F q U st=aa (.rt d,st')/\Grw st st'/\Q d st'
def RP.pre(h:ex F q U st=ex F q' U' st1)(g:Grw st st1)(a:RP F q' U' st1 Q):RP F q U st Q:=by
 obtain⟨d,st',e,b,k⟩:=a;exact⟨d,st',h.trans e,g.trans b,k⟩
def RP.setY(h:Y F s e U d)(g:Grw s st)(c:∀ a,Grw st a->RP F q (Zh U i d) a Q):RP F (.y i e q) U st Q:=by
 obtain⟨s1,f,b⟩:=h st g;exact .pre (Zc (Zm f)) b (c s1 b)
def RP.no{p:CS}(h:Y F s e U (.bl af))(g:Grw s st)(c:∀ a,Grw st a->RP F q U a Q):RP F (.seq (.ite e p .skip) q) U st Q:=by
 obtain⟨s1,d,b⟩:=h st g;exact .pre (Zc ((YA d).trans Zg)) b (c s1 b)
theorem RP.ret(h:Y F s e U d)(g:Grw s st)(c:∀ a,Grw st a->Q d a):RP F (.seq (.ret e) q) U st Q:=by
 obtain⟨s1,f,b⟩:=h st g;exact⟨d,s1,Zj (ZU f),b,c s1 b⟩
def RP.yes{p:CS}(h:Y F s e U (.bl ae))(g:Grw s st)(i:∀ a,Grw st a->RP F p U a Q):RP F (.seq (.ite e p .skip) q) U st Q:=by
 obtain⟨s1,l,b⟩:=h st g;obtain⟨d,c,k,f,j⟩:=i s1 b;exact⟨d,c,Zj ((ZN l).trans k),b.trans f,j⟩
def CP(F:Nat->Fn)(f:Nat)(ds:Li D)(st:Za)(Q:D->Za->Prop):Prop:=∃ d st',F f ds st=aa (d,st')/\Grw st st'/\Q d st'
def CP.of{v:FD}{f:Nat}{ds:Li D}(h:T f=aa v)(c:ds.length=v.ps)(b:RP (rT n) v.body (ds.map aa++ag (v.ns - ds.length) ab) st Q):CP (rT (n+1)) f ds st Q:=by
 obtain⟨d,s1,g,a,e⟩:=b;exact⟨d,s1,Uf h c g,a,e⟩
end
def Sm(a:Int):Prop:=-1000000000<=a/\a<=999999999
variable{m sz:Nat}{ns:Li Int}
section
variable{i j k c:Int}{op:Operator}
def Y.bi(d:Y F s a U (.int i))(c:Y F s b U (.int j))(h:Q4 op i j=aa k):Y F s (.bin op a b) U (.int k):=g2 d c (gp λst=>by
 show Uz op (.int i) (.int j) st=_;unfold Uz;simp only[h])
def Y.add(d:Y F s a U (.int i))(c:Y F s b U (.int j)):Y F s (.p a b) U (.int (i+j)):=.bi d c rfl
def Y.sub(d:Y F s a U (.int i))(c:Y F s b U (.int j)):Y F s (.l a b) U (.int (i - j)):=.bi d c rfl
def Y.mul(d:Y F s a U (.int i))(c:Y F s b U (.int j))(h:ZP j=ae):Y F s (.h a b) U (.int (i * j)):=.bi d c (by show(if ZP i||ZP j then aa (i * j) else ab)=_;rw[h,Bool.or_true];rfl)
def Y.md(d:Y F s a U (.int i))(c:Y F s b U (.int j))(h:0 < j):Y F s (.m a b) U (.int (i % j)):=.bi d c (aq h)
def Y.fd(d:Y F s a U (.int i))(c:Y F s b U (.int j))(h:0 < j/\j < 1073741824):Y F s (.k a b) U (.int (i / j)):=.bi d c (aq h)
def Y.ixL{j:Nat}(k:Lv s (ev F a U) xs)(i:Y F s b U (.int (j:Int)))(h:xs[j]?=aa d):Y F s (.ix a b) U d:=λst g=>by
 obtain⟨s1,q,t,n,l,f⟩:=k st g;obtain⟨c,m,e⟩:=i s1 (g.trans f);refine⟨c,?_,f.trans e⟩;show ZE (ev F a) (ev F b) ixR U st=_;unfold ZE;simp only[n,m];show ixR (.lst q) (.int (j:Int)) c=_;unfold ixR ixD;simp only[e.get l,Ux h]
def Zn(i:Int)(h:0 < j):0<=i % j/\i % j < j:=⟨eS _ ∅,fL _ h⟩
def Wx(h:-(2 ^ 64) < i/\i < 2 ^ 64):ZP i=ae:=by unfold ZP;rw[aE h.1,aE h.2];rfl
end
variable{N:Nat}
theorem WE{I:Env->Prop}{P:Nat->D->Prop}(o:s.length<=j)(p:∀ k,k < N->∀ U,I U->∃ d U',P k d/\I U'/\Ap F s j q (Zh U i (.int (k:Int))) U' [d]):∀ (M a:Nat),a+M=N->∀ U,I U->∃ xs U',xs.length=M/\(∀ t d,xs[t]?=aa d->P (a+t) d)/\I U'/\∀ st b,Grw s st->st[j]?=aa (ae,b)->b.length+M<=90000->∃ st',Zi (λd U s=>ex F q (Zh U i d) s) ((List.range' a M).map λ(k:Nat)=>D.int (k:Int)) U st=aa (.nx U',st')/\Kj j st st'/\st'[j]?=aa (ae,b++xs)
 |0,a,_,U,m=>⟨[],U,rfl,λt d h=>(nomatch h),m,λst b g h _=>⟨st,rfl,Grw.refl.kj,by rw[bD];exact h⟩⟩
 |M+1,a,K,U,m=>by
  obtain⟨d,e,z,l,A⟩:=p a ∅ U m
  obtain⟨xs,c,y,w,f,x⟩:=WE o p M (a+1) ∅ e l
  refine⟨d :: xs,c,by rw[aY,y],λt H h=>?_,f,λst b g h J=>?_⟩
  .cases t with
   |zero=>cases h;exact z
   |succ t=>have:=w t H h;rw[show a+1+t=a+(t+1) by omega]at this;exact this
  .obtain⟨s1,G,n,C⟩:=A st b g h (by show _+1<=90000;omega)
   obtain⟨r,E,u,B⟩:=x s1 _ (n.grw o g) C (by rw[aH];show _+1+M<=90000;omega)
   refine⟨r,?_,n.trans u,by rw[B,aM];rfl⟩
   rw[List.range'_succ,aW];show(match ex F q (Zh U i (.int (a:Int))) st with
    |some (.nx U',st')=>Zi _ _ U' st'
    |some (.ct U',st')=>Zi _ _ U' st'
    |some (.bk U',st')=>aa (.nx U',st')
    |some (.rt v,st')=>aa (.rt v,st')
    |none=>ab)=_
   rw[G];exact E
def Zav{v:Int}(b:v < 2 ^ 62)(a:-(2 ^ 62)<=v):Wv ae (.int v)=aa ((aj v.toNat).map λ(k:Nat)=>D.int (k:Int)):=by
 show(if v < 2 ^ 62/\-(2 ^ 62)<=v then aa ((aj v.toNat).map λ(k:Nat)=>D.int (k:Int)) else ab)=_
 rw[aq ⟨b,a⟩]
def YN{v:Int}{st1:Za}(b:v < 2 ^ 62)(a:-(2 ^ 62)<=v)(c:ev F e U st=aa (.int v,st1)):ex F (.for1 i ae e q) U st=Zi (λd U s=>ex F q (Zh U i d) s) ((aj v.toNat).map λ(k:Nat)=>D.int (k:Int)) U st1:=by
 show Vd i ae (ev F e) (ex F q) U st=_;unfold Vd;rw[c];simp only[Zav b a]
noncomputable def arI(x:Int):Int:=(x+1000000000) % 2000000000 - 1000000000
noncomputable def fdI(i j:Int):Int:=if 0 < j then i / j else i.fdiv j
def rkI(a:Int)(g:Str)(b:Int):Int:=if g=S "+" then arI (a+b) else if g=S "-" then arI (a - b) else if g=S "*" then arI (a * b) else if g=S "/" then (if b=0 then 0 else arI (fdI a b)) else if b=0 then a else a - b * fdI a b
def soI(a:Int)(g:Str)(b:Int):Bool:=if g=S "<" then ak (a < b) else if g=S "<=" then ak (a<=b) else if g=S "=" then ak (a=b) else if g=S ">=" then ak (b<=a) else if g=S ">" then ak (b < a) else !decide (a=b)
def psL:Li Str:=[S "+",S "-",S "*",S "/",S "mod"]
def isL:Li Str:=[S "<",S "<=",S "=",S ">=",S ">",S "!="]
inductive Op where
 |nm (i:Nat)|nu (v:Int)
 deriving DecidableEq
noncomputable def opE:Op->D
 |.nm i=>.tup [.str "name",.int (i:Int)]
 |.nu v=>.tup [.str "number",.int v]
def WI(m:Nat):Op->Prop
 |.nm i=>i < m
 |.nu v=>Sm v
inductive Rw where
 |put (x:Nat) (y:Op) (g:Str) (z:Op)|ifr (y:Op) (g:Str) (z:Op) (t:Nat)|go (t:Nat)|tell (y:Op)|skip
 deriving DecidableEq
def rwE:Rw->D
 |.put x y g z=>.tup [.str "put",.int (x:Int),opE y,.str g,opE z]
 |.ifr y g z t=>.tup [.str "if",opE y,.str g,opE z,.int (t:Int)]
 |.go t=>.tup [.str "go",.int (t:Int)]
 |.tell y=>.tup [.str "tell",opE y]
 |.skip=>.tup [.str "skip"]
def RwOk(m sz:Nat):Rw->Prop
 |.put x y g z=>x < m/\WI m y/\g∈psL/\WI m z
 |.ifr y g z t=>WI m y/\g∈isL/\WI m z/\t<=sz
 |.go t=>t<=sz
 |.tell y=>WI m y
 |.skip=>True
noncomputable def woI(vs:Li Int):Op->Int
 |.nm i=>vs.getD i 0
 |.nu v=>v
structure Vs(m:Nat)(vs:List Int):Prop where
 l:vs.length=m
 s:∀ v∈vs,Sm v
noncomputable def inZ(vs:Li Int):Li D:=vs.map D.int
variable{vs:Li Int}{g:Str}{o:Op}{r:Rw}
section
variable{i j:Int}
def VF:Sm (arI i):=by
 have:=Zn (i+1000000000) (j:=2000000000) #[]
 unfold Sm arI;omega
def ZgS(h:j≠0):(0 < j/\j * fdI i j<=i/\i < j * fdI i j+j)\/(j < 0/\i<=j * fdI i j/\j * fdI i j+j < i):=by
 unfold fdI;by_cases a:0 < j
 .rw[aq a]
  have b:=Int.mul_ediv_add_emod i j;have d:=eS i h;have e:=fL i a;exact .inl ⟨a,∅,∅⟩
 .rw[ar a]
  have b:=Int.fmod_def i j;have d:j < 0:=by omega
  have e:=eS i h;have g:i % j < -j:=by have:=Int.emod_lt i h;omega
  rw[Int.fmod_eq_emod]at b;by_cases c:j ∣ i
  .rw[aq (.inr c),Int.emod_eq_zero_of_dvd c]at b
   exact .inr ⟨d,∅,∅⟩
  .have f:i % j≠0:=λz=>c (Int.dvd_of_emod_eq_zero z)
   rw[ar ∅]at b
   exact .inr ⟨d,∅,∅⟩
def ZdU(a:Sm i)(e:Sm j):Sm (rkI i g j):=by
 unfold rkI;split
 .exact VF
 .split
  .exact VF
  .split
   .exact VF
   .split
    .split
     .exact⟨#[],#[]⟩
     .exact VF
    .split
     .exact a
     .rename_i h
      have:=ZgS (i:=i) h;unfold Sm at *
      rcases this with⟨d,c,b⟩|⟨d,c,b⟩
      .generalize j * fdI i j=q at *
       omega
      .generalize j * fdI i j=q at *
       omega
theorem Y.v{i:Nat}(h:U[i]?=aa (aa d)):Y F s (.v i) U d:=.r λst=>by show YT i U st=_;unfold YT;rw[h]
def Y.fdv(f:Y F s a U (.int i))(e:Y F s b U (.int j))(h:j≠0)(d:Sm j):Y F s (.k a b) U (.int (fdI i j)):=.bi f e (by
 unfold Sm at d;show(if 0 < j/\j < 1073741824 then aa (i / j) else if j < 0/\-1073741824 < j then aa (i.fdiv j) else ab)=_
 unfold fdI;by_cases c:0 < j
 .rw[aq c,aq ⟨c,∅⟩]
 .rw[ar c,ar ∅,aq ⟨∅,∅⟩])
def UN(h:Sm j):ZP j=ae:=Wx (by unfold Sm at h;omega)
def Y.arx(b:Y F s a U (.int i)):Y F s (.l (.m (.p a (.i 1000000000)) (.i 2000000000)) (.i 1000000000)) U (.int (arI i)):=.sub (.md (.add b ()) () #[]) ()
def YW:C (rT (n+1)) s 0 [.int i] (.int (arI i)):=.of (v:=Wn) rfl rfl (.ret (.arx ()))
def Zft(a:Sm j):C (rT (n+2)) s 1 [.int i,.int j] (.int (if j=0 then 0 else arI (fdI i j))):=by
 by_cases h:j=0
 .subst h;exact .of (v:=Xc) rfl rfl (.yes () ())
 .rw[ar h]
  exact .of (v:=Xc) rfl rfl (.no (.cmp () () λ_=>av aa (aG h)) (.ret (.call1 (.fdv () () h a) YW)))
def Zd3(a:Sm j):C (rT (n+1)) s 2 [.int i,.int j] (.int (if j=0 then i else i - j * fdI i j)):=by
 by_cases h:j=0
 .subst h;exact .of (v:=Yq) rfl rfl (.yes () ())
 .rw[ar h]
  refine .of (v:=Yq) rfl rfl (.no (.cmp () () λ_=>av aa (aG h)) (.ret (.sub () (.bi (i:=j) (j:=fdI i j) () (.fdv () () h a) ?_))))
  show(if ZP j||ZP (fdI i j) then aa (j * fdI i j) else ab)=_
  rw[UN a];rfl
def Y.eqs{x y:Str}(d:Y F s a U (.str x))(c:Y F s b U (.str y)):Y F s (.e a b) U (.bl (ak (x=y))):=.cmp d c λ_=>rfl
def R.pick{k:Bool}{q p:CS}(h:Y F s e U (.bl k))(b:k=ae->R F s p U d)(a:k=af->R F s q U d):R F s (.seq (.ite e p .skip) q) U d:=by
 cases k
 .exact .no h (a rfl)
 .exact .yB h (b rfl)
def ZgK(hi:Sm i)(c:Sm j):C (rT (n+3)) s 3 [.int i,.str g,.int j] (.int (rkI i g j)):=by
 unfold rkI;refine .of (v:=Wq) rfl rfl (.pick (.eqs () ()) (λh=>?_) λh=>.pick (.eqs () ()) (λa=>?_) λa=>.pick (.eqs () ()) (λb=>?_) λb=>.pick (.eqs () ()) (λd=>?_) λd=>?_)
 .rw[aq (ao h)];exact .ret (.call1 (.add () ()) YW)
 .rw[ar (am h),aq (ao a)];exact .ret (.call1 (.sub () ()) YW)
 .rw[ar (am h),ar (am a),aq (ao b)];exact .ret (.call1 (.mul () () (UN c)) YW)
 .rw[ar (am h),ar (am a),ar (am b),aq (ao d)];exact .ret (.call (xs:=[.int i,.int j]) () (Zft c))
 .rw[ar (am h),ar (am a),ar (am b),ar (am d)];exact .ret (.call (xs:=[.int i,.int j]) () (Zd3 c))
def ZgL:C (rT (n+1)) s 4 [.int i,.str g,.int j] (.bl (soI i g j)):=by
 unfold soI;refine .of (v:=W9) rfl rfl (.pick (.eqs () ()) (λh=>?_) λh=>.pick (.eqs () ()) (λa=>?_) λa=>.pick (.eqs () ()) (λb=>?_) λb=>.pick (.eqs () ()) (λc=>?_) λc=>.pick (.eqs () ()) (λd=>?_) λd=>?_)
 .rw[aq (ao h)];exact .ret ()
 .rw[ar (am h),aq (ao a)];exact .ret ()
 .rw[ar (am h),ar (am a),aq (ao b)];exact .ret ()
 .rw[ar (am h),ar (am a),ar (am b),aq (ao c)];exact .ret ()
 .rw[ar (am h),ar (am a),ar (am b),ar (am c),aq (ao d)];exact .ret ()
 .rw[ar (am h),ar (am a),ar (am b),ar (am c),ar (am d)];exact .ret ()
def ZgH{i:Nat}(a:Vs m vs)(h:i < m):(inZ vs)[i]?=aa (.int (woI vs (.nm i))):=by
 have b:=a.l;unfold inZ;rw[aX,Lg ∅]
 show aa (D.int vs[i])=aa (D.int (vs.getD i 0));rw[aQ,Lg ∅];rfl
def Ur(a:Vs m vs)(h:WI m o):Sm (woI vs o):=by
 cases o with
 |nm i=>
  have b:=a.l;have hi:i < m:=h;show Sm (vs.getD i 0);rw[aQ,Lg ∅]
  exact a.s _ (bH _)
 |nu v=>exact h
end
def pgD(a:D)(m:Nat)(rs:Li Rw):D:=.tup [a,.int (m:Int),.tup (rs.map rwE)]
def stD(k:Nat)(vs:Li Int):D:=.tup [.int (k:Int),.tup (inZ vs)]
noncomputable def noD:D:=.tup [.str "none"]
noncomputable def laD:D:=.tup [.str "late"]
noncomputable def teD(v:Int):D:=.tup [.str "told",.int v]
def vsN(vs:Li Int):Rw->Li Int
 |.put x y g z=>vs.set x (rkI (woI vs y) g (woI vs z))
 |_=>vs
def pkN(k:Nat)(vs:Li Int):Rw->Nat
 |.go t=>t
 |.ifr y g z t=>if soI (woI vs y) g (woI vs z)=ae then t else k+1
 |_=>k+1
def mv(rs:Li Rw)(k:Nat)(vs:Li Int):Sum D (Nat×Li Int):=match rs[k]? with
 |none=>.inl noD
 |some (.tell y)=>.inl (teD (woI vs y))
 |some r=>.inr (pkN k vs r,vsN vs r)
def oc(rs:Li Rw):Nat->Nat->Li Int->D
 |0,k,_=>if rs.length<=k then noD else laD
 |n+1,k,vs=>match mv rs k vs with
  |.inl o=>o
  |.inr p=>oc rs n p.1 p.2
def tl(rs:Li Rw):Nat->Nat->Li Int->Li D
 |0,k,_=>[if rs.length<=k then noD else laD]
 |n+1,k,vs=>match mv rs k vs with
  |.inl o=>[o]
  |.inr p=>stD p.1 p.2 :: tl rs n p.1 p.2
structure Rs(m:Nat)(rs:List Rw):Prop where
 l:rs.length<=50
 ok:∀ r∈rs,RwOk m rs.length r
noncomputable def v0(m:Nat)(ins:Li Int):Li Int:=ins++ag (m - ins.length) 0
variable{tk:D}{k:Nat}{ins:Li Int}{rs:Li Rw}
section
variable{c:CE}
def JO{j:Nat}:sIx w j (aa (i:Int))=Nat.min i w:=by
 show(if (i:Int) < 0 then ((i:Int)+(w:Int)).toNat else Nat.min (i:Int).toNat w)=_
 rw[ar ∅,bJ]
def Zel(h:i<=xs.length):Xg xs ab (aa (i:Int))=xs.take i:=by
 unfold Xg;rw[JO,show Nat.min i xs.length=i from bZ h];rfl
def Zek(h:i<=xs.length):Xg xs (aa (i:Int)) ab=xs.drop i:=by
 unfold Xg;rw[JO,show Nat.min i xs.length=i from bZ h];exact fD (by rw[cF];exact aB _)
def sl_tup{lo:Ot Int}:Z6 (.tup xs) lo hi st=aa (.tup (Xg xs lo hi),st):=by
 show(if sIx xs.length 0 lo=0/\sIx xs.length xs.length hi=xs.length then aa (D.tup xs,st) else aa (.tup (Xg xs lo hi),st))=_
 split
 .rename_i h
  unfold Xg;rw[h.1,h.2,cI,Nat.sub_zero,cP]
 .rfl
def Y.tkT(j:Y F s a U (.tup xs))(f:Y F s b U (.int (i:Int)))(h:i<=xs.length):Y F s (.slice a .nop (.part b)) U (.tup (xs.take i)):=λst g=>by
 obtain⟨s1,l,d⟩:=j st g;obtain⟨c,k,e⟩:=f s1 (g.trans d);refine⟨c,?_,d.trans e⟩;show Yz (ev F a) (evC .non) (Zl (ev F b) Uc) YR U st=_;unfold Yz Zl evC;simp only[l,k];show Z6 (.tup xs) ab (aa (i:Int)) c=_;rw[sl_tup,Zel h]
def Y.dpT(j:Y F s a U (.tup xs))(f:Y F s b U (.int (i:Int)))(h:i<=xs.length):Y F s (.slice a (.part b) .nop) U (.tup (xs.drop i)):=λst g=>by
 obtain⟨s1,l,d⟩:=j st g;obtain⟨c,k,e⟩:=f s1 (g.trans d);refine⟨c,?_,d.trans e⟩;show Yz (ev F a) (Zl (ev F b) Uc) (evC .non) YR U st=_;unfold Yz Zl evC;simp only[l,k];show Z6 (.tup xs) (aa (i:Int)) ab c=_;rw[sl_tup,Zek h]
def Y.adT(d:Y F s a U (.tup xs))(c:Y F s b U (.tup ys))(h:xs.length+ys.length<=100000):Y F s (.p a b) U (.tup (xs++ys)):=g2 d c (gp λst=>by
 show(if V4 .Add=ae/\xs.length+ys.length<=Zp then aa (D.tup (xs++ys),st) else ab)=_
 exact aq ⟨rfl,by unfold Zp;omega⟩)
def Y.rep(e:Y F s a U d)(c:Y F s b U (.int (i:Int)))(h:i<=1000):Y F s (.h (.g (.u a)) b) U (.tup (ag i d)):=g2 (x:=.tup [d]) (.cons e .nil) c (gp λst=>by
 show(if (i:Int)<=1000/\-1000<=(i:Int) then aa (D.tup (ag (i:Int).toNat d),st) else ab)=_
 rw[aq ⟨∅,∅⟩,bJ])
def Y.lnT(b:Y F s a U (.tup xs)):Y F s (.len a) U (.int (xs.length:Int)):=g1 b (gp λst=>rfl)
def W7(h:i < xs.length)(a:xs.length<=1000):C (rT (n+1)) s 42 [.tup xs,.int (i:Int),d] (.tup (xs.set i d)):=by
 rw[show xs.set i d=(xs.take i++[d])++xs.drop (i+1) by rw[aM];exact List.set_eq_take_append_cons_drop.trans (aq h)]
 refine .of (v:=Xr) rfl rfl (.ret (.adT (.adT (.tkT () () ∅) (.cons () .nil) ?_) (.dpT (i:=i+1) () (by rw[cD];exact .add () ()) ∅) ?_))
 .rw[aZ];show _+1<=_;omega
 .rw[aH,aZ,cF];show _+1+_<=_;omega
def ZdZ(a:ins.length<=m)(h:∀ v∈ins,Sm v):Vs m (v0 m ins):=by
 unfold v0;refine⟨by rw[aH,dH];omega,λv hv=>?_⟩
 rcases bE.mp hv with hv|hv
 .exact h v hv
 .rw[(List.mem_replicate.mp hv).2];exact⟨#[],#[]⟩
def mvD(rs:Li Rw)(k:Nat)(vs:Li Int):D:=match mv rs k vs with
 |.inl o=>o
 |.inr p=>stD p.1 p.2
end
variable{L:Nat}{acc:Li D}
section
variable{c:CE}
noncomputable def isO:D->Bool
 |.tup (.str _ :: _)=>ae
 |_=>af
def Ua(a:Vs m vs)(d:Rs m rs){p:Nat×Li Int}(h:mv rs k vs=.inr p):Vs m p.2:=by
 unfold mv at h;cases q:rs[k]? with
 |none=>rw[q]at h;cases h
 |some r=>
  rw[q]at h;have ok:=d.ok r (aV q);cases r with
  |tell y=>cases h
  |put x y g z=>
   cases h;obtain⟨e,c,f,b⟩:=ok;refine⟨by show(vs.set x _).length=m;rw[bK];exact a.l,λv h=>?_⟩
   rcases fW h with h|h
   .exact a.s v h
   .rw[h];exact ZdU (Ur a c) (Ur a b)
  |ifr y g z t=>cases h;exact a
  |go t=>cases h;exact a
  |skip=>cases h;exact a
def Zg5{o:D}(h:mv rs k vs=.inl o):isO o=ae/\∃ a,o=.tup (.str (if rs.length<=k then S "none" else S "told") :: a):=by
 unfold mv at h;cases q:rs[k]? with
 |none=>rw[q]at h;cases h;exact⟨rfl,[],by rw[aq (eD.mp q)];rfl⟩
 |some r=>
  rw[q]at h;have:=Zx q;cases r with
  |tell y=>cases h;exact⟨rfl,[.int (woI vs y)],by rw[ar ∅];rfl⟩
  |_=>cases h
end
variable{l:Li Nat}
section
variable{c:CE}
def ZbS(h:xs≠[])(a:xs.length<=100000):atD xs (-1)=aa (xs.getLastD .non):=by
 have b:0 < xs.length:=List.length_pos_iff.mpr h;unfold atD ixN;rw[ar #[],aq ∅,Ob,show(-1+(xs.length:Int)).toNat=xs.length - 1 by omega,<-List.getLast?_eq_getElem?,List.getLastD_eq_getLast?]
 cases q:xs.getLast? with
 |none=>exact au (List.getLast?_eq_none_iff.mp q) h
 |some z=>rfl
end
section
variable{c:CE}
theorem V8{I:Nat->Env->Prop}{body:D->Env->Za->Ot (Fl×Za)}:∀ {xs:Li D} (a:Nat) (U:Env) (st1:Za),(∀ i d U b,xs[i]?=aa d->I (a+i) U->Grw st1 b->∃ U' c,body d U b=aa (.nx U',c)/\Grw b c/\I (a+i+1) U')->I a U->∃ U' b,Zi body xs U st1=aa (.nx U',b)/\Grw st1 b/\I (a+xs.length) U'
 |[],a,U,st1,_,h=>⟨U,st1,rfl,.refl,h⟩
 |x :: xs,a,U,st1,k,h=>by
  obtain⟨f,m,r,j,t⟩:=k 0 x U st1 rfl h .refl;obtain⟨e,l,q,n,s⟩:=V8 (xs:=xs) (a+1) f m (λi d U b p o g=>by
   have:=k (i+1) d U b p (by rw[show a+(i+1)=a+1+i by omega];exact o) (j.trans g)
   rw[show a+(i+1)+1=a+1+i+1 by omega]at this
   exact this) t
  refine⟨e,l,?_,j.trans n,by rw[aY,show a+(xs.length+1)=a+1+xs.length by omega];exact s⟩
  show(match body x U st1 with
   |some (.nx U',st')=>Zi body xs U' st'
   |some (.ct U',st')=>Zi body xs U' st'
   |some (.bk U',st')=>aa (.nx U',st')
   |some (.rt v,st')=>aa (.rt v,st')
   |none=>ab)=_
  rw[r];exact q
def for_tup(a:ev F e U st=aa (.tup xs,st1)):ex F (.for1 i af e q) U st=Zi (λd U s=>ex F q (Zh U i d) s) xs U st1:=by
 show Vd i af (ev F e) (ex F q) U st=_;unfold Vd;rw[a];rfl
def Qc(t:k<=60):C (rT (n+1)) s 43 [.int (k:Int)] (.int ((2 ^ k:Nat):Int)):=λst g=>by
 obtain⟨U',j,f,m,y,rfl⟩:=V8 (st1:=st) (I:=λi U=>∃ y,U=[jN k,aa (.int ((2 ^ i:Nat):Int)),y]) (body:=λd U s=>ex (rT n) Xn (Zh U 2 d) s) (xs:=(aj k).map λ(k:Nat)=>D.int (k:Int)) 0 [jN k,aa (.int ((2 ^ 0:Nat):Int)),ab] (λi d U c u o g2=>by
  obtain⟨y,rfl⟩:=o;obtain⟨h,p,l⟩:=Y.mul (F:=rT n) (s:=c) (a:=.v 1) (b:=.i 2) (U:=[jN k,aa (.int ((2 ^ (0+i):Nat):Int)),aa d]) () () rfl c .refl;refine⟨_,h,(Zc (Zm p)).trans Zg,l,aa d,?_⟩;rw[show((2 ^ (0+i+1):Nat):Int)=((2 ^ (0+i):Nat):Int) * 2 by rw[Nat.pow_succ,fM];rfl]
  rfl) ⟨ab,rfl⟩
 have fr:=YN (F:=rT n) (i:=2) (e:=.v 0) (q:=Xn) (U:=[jN k,aa (.int ((2 ^ 0:Nat):Int)),ab]) (st:=st) (v:=(k:Int)) ∅ ∅ rfl
 rw[bJ]at fr;rw[aD,bN,cC]at f;exact⟨j,Uf (v:=Wo) rfl rfl ((Zc (Zm rfl)).trans ((Zc (fr.trans f)).trans (Zj (ZU rfl)))),m⟩
end
def nxt(l:Li Str)(g:Str):Str:=l.getD ((l.idxOf g+1) % l.length) (S "")
variable{z:Op}{obj:D}
section
variable{c:CE}
def op_eq:eqS st (opE o) (opE z)=aa (ak (o=z)):=by
 cases o with
 |nm i=>cases z with
  |nm j=>
   show aa (ak (S "name"=S "name")&&(ak ((i:Int)=(j:Int))&&ae))=_;rw[aE rfl,eT,dO];exact av aa (decide_eq_decide.mpr ⟨λh=>by rw[Int.ofNat_inj.mp h],λh=>by cases h;rfl⟩)
  |nu v=>
   show aa (ak (S "name"=S "number")&&(ak ((i:Int)=v)&&ae))=_;rw[show ak (S "name"=S "number")=af by decide +kernel]
   exact av aa (aG λh=>nomatch h).symm
 |nu u=>cases z with
  |nm j=>
   show aa (ak (S "number"=S "name")&&(ak (u=(j:Int))&&ae))=_;rw[show ak (S "number"=S "name")=af by decide +kernel]
   exact av aa (aG λh=>nomatch h).symm
  |nu v=>
   show aa (ak (S "number"=S "number")&&(ak (u=v)&&ae))=_;rw[aE rfl,eT,dO];exact av aa (decide_eq_decide.mpr ⟨λh=>by rw[h],λh=>by cases h;rfl⟩)
end
variable{i0:Nat}
section
variable{c:CE}{g0:Str}
theorem ZfE{α:Type}{b:α->D}{g:α->Li D}{E:Ot D->Env}(n:∀ y d,Zh (E y) i d=E (aa d))(m:s.length<=j):∀ {l:Li α},(∀ a∈l,Ap F s j q (E (aa (b a))) (E (aa (b a))) (g a))->∀ {y:Ot D}{st:Za}{acc:Li D},Grw s st->st[j]?=aa (ae,acc)->acc.length+(l.flatMap g).length<=90000->∃ e st',Zi (λd U s=>ex F q (Zh U i d) s) (l.map b) (E y) st=aa (.nx (E e),st')/\Kj j st st'/\st'[j]?=aa (ae,acc++l.flatMap g)
 |[],_,y,st,acc,k,f,_=>⟨y,st,rfl,Grw.refl.kj,by rw[List.flatMap_nil,bD];exact f⟩
 |a :: l,h,y,st,acc,k,f,t=>by
  rw[fN,aH]at t;obtain⟨s1,x,g1,r⟩:=h a Ls st acc k f ∅
  obtain⟨e,o,w,g2,p⟩:=ZfE n m (λc u=>h c (Lm _ u)) (y:=aa (b a)) (g1.grw m k) r (by rw[aH];omega)
  refine⟨e,o,?_,g1.trans g2,by rw[fN,<-aM];exact p⟩
  rw[aW];show(match ex F q (Zh (E y) i (b a)) st with
   |some (.nx U',st')=>Zi _ (l.map b) U' st'
   |some (.ct U',st')=>Zi _ (l.map b) U' st'
   |some (.bk U',st')=>aa (.nx U',st')
   |some (.rt v,st')=>aa (.rt v,st')
   |none=>ab)=_
  rw[n,x];exact w
def Lf(s:Za)(f:Za->Res)(xs:Li D):Prop:=∀ st,Grw s st->∃ st' j,f st=aa (.lst j,st')/\st'[j]?=aa (ae,xs)/\Grw st st'
def ZeH{b:D->Li (Ot D)}{en g:α->D}{l:Li α}(hi:Wk F s it U wk (l.map en))(m:l.length<=1000)(h:∀ a∈l,Y F s elt (Z9 b U fr (en a)) (g a)):Lf s (Xj b wk fr (ev F it) (ev F elt) (ev F (.c (.bl ae))) U) (l.map g):=λst k=>by
 obtain⟨x,s1,ok,q,e,p,j⟩:=hi st k;obtain⟨f,o,i⟩:=X9 (s:=s1) (ok:=ok) (fe:=λd=>ev F elt (Z9 b U fr d)) (fc:=λd=>ev F (.c (.bl ae)) (Z9 b U fr d)) (λ_ _=>rfl) j (λa n=>Gv.mono (h a n) (k.trans e)) s1 .refl
 refine⟨f++[(ae,l.map g)],_,?_,ZB,(e.trans i).trans .push⟩;unfold Xj;simp only[q,p,aD,aq m,o]
theorem Ap.ext(hi:U[i]?=aa (jL j))(h:Lf s (ev F e U) xs):Ap F s j (.ext i e) U U xs:=λst acc g f n=>by
 obtain⟨s1,q,l,k,a⟩:=h st g;have b:=a.get f;refine⟨s1.set j (ae,acc++xs),?_,⟨λm d c=>?_,by rw[bK];exact a.len⟩,by rw[Wb (Zx b),aq rfl]⟩
 .show JY i (ev F e) U st=_
  unfold JY Zer;simp only[hi,l,b,k];rw[aq (by unfold Zp;omega)]
 .rw[Wb (Zx b),ar (Ne.symm c)]
  exact a.old m d
def R.gather{l:Li α}{en:α->D}{g:α->Li D}{E:Ot D->Nat->Env}(w:∀ j,Zh U i0 (.lst j)=E ab j)(t:∀ y j d,Zh (E y j) i d=E (aa d) j)(n:∀ y j,(E y j)[i0]?=aa (jL j))(p:∀ j,Y F s e (E ab j) (.tup (l.map en)))(r:∀ j,s.length<=j->∀ a∈l,Ap F s j q (E (aa (en a)) j) (E (aa (en a)) j) (g a))(o:(l.flatMap g).length<=90000):R F s (.y i0 (.lstE .aN) (.seq (.for1 i af e q) (.q (.tOf (.v i0))))) U (.tup (l.flatMap g)):=λst b=>by
 obtain⟨s1,z,f⟩:=p st.length (st++[(ae,[])]) (b.trans .push);obtain⟨A,h,x,m,u⟩:=ZfE (i:=i) (E:=λy=>E y st.length) (λy d=>t y st.length d) b.len (r st.length b.len) (y:=ab) ((b.trans .push).trans f) (f.get ZB) (by rw[dJ,cC];exact o)
 refine⟨h,?_,(f.kj.trans m).grw (aB _) .push⟩;have k:ex F (.set i0 (.lstE .aN)) U st=aa (.nx (E ab st.length),st++[(ae,[])]):=by rw[<-w];exact Zm rfl
 exact(Zc k).trans ((Zc ((for_tup z).trans x)).trans (Zj (ZU (Vb (c:=(ae,[]++l.flatMap g)) (by show YT i0 _ _=_;unfold YT;rw[n]) u))))
end
structure Stp where
 c:Nat
 t:Nat
 v:Nat
 w:Str
 f:Rw->List Rw
section
variable{c:CE}
end
mutual
theorem JF:∀ {x y:D},Zv x y=ae->x=y
 |.non,.non,_=>rfl
 |.bl a,.bl b,h=>by have h:(a==b)=ae:=h;rw[eq_of_beq h]
 |.int a,.int b,h=>by rw[ao (p:=a=b) h]
 |.str a,.str b,h=>by rw[ao (p:=a=b) h]
 |.tup a,.tup b,h=>by rw[X8 (xs:=a) (ys:=b) h]
theorem X8:∀ {xs ys:Li D},Zq xs ys=ae->xs=ys
 |[],[],_=>rfl
 |x :: xs,y :: ys,h=>by
  have h:(Zv x y&&Zq xs ys)=ae:=h;rw[Ba]at h;rw[JF h.1,X8 h.2]
end
variable{xs:Li D}
def Zw{a b:Str}{ys:Li D}(h:D.tup (.str a :: xs)=.tup (.str b :: ys)):a=b:=by injection h with h;injection h with h _;injection h
def Y8{o z:Op}(h:opE o=opE z):o=z:=by
 cases o with
 |nm i=>cases z with
  |nm j=>
   have h:D.tup [.str "name",.int (i:Int)]=.tup [.str "name",.int (j:Int)]:=h
   injection h with h;injection h with _ h;injection h with h _;injection h with h;rw[Int.ofNat.inj h]
  |nu v=>exact au (Zw h) (by decide +kernel)
 |nu u=>cases z with
  |nm j=>exact au (Zw h) (by decide +kernel)
  |nu v=>
   have h:D.tup [.str "number",.int u]=.tup [.str "number",.int v]:=h
   injection h with h;injection h with _ h;injection h with h _;injection h with h;rw[h]
def U1{r q:Rw}(h:rwE r=rwE q):r=q:=by
 have B:S "put"≠S "if"/\S "put"≠S "go"/\S "put"≠S "tell"/\S "put"≠S "skip"/\S "if"≠S "go"/\S "if"≠S "tell"/\S "if"≠S "skip"/\S "go"≠S "tell"/\S "go"≠S "skip"/\S "tell"≠S "skip":=by decide +kernel
 obtain⟨w,v,u,s,p,o,n,m,l,f⟩:=B;cases r with
 |put x y g z=>cases q with
  |put A a k i=>
   have h:D.tup [.str "put",.int (x:Int),opE y,.str g,opE z]=.tup [.str "put",.int (A:Int),opE a,.str k,opE i]:=h
   injection h with h;injection h with _ h;injection h with e h;injection h with d h;injection h with c h;injection h with b _;injection e with e;injection c with c
   rw[Int.ofNat.inj e,Y8 d,c,Y8 b]
  |ifr _ _ _ _=>exact au (Zw h) w
  |go _=>exact au (Zw h) v
  |tell _=>exact au (Zw h) u
  |skip=>exact au (Zw h) s
 |ifr y g z t=>cases q with
  |put _ _ _ _=>exact au (Zw h) w.symm
  |ifr a k i j=>
   have h:D.tup [.str "if",opE y,.str g,opE z,.int (t:Int)]=.tup [.str "if",opE a,.str k,opE i,.int (j:Int)]:=h
   injection h with h;injection h with _ h;injection h with e h;injection h with d h;injection h with c h;injection h with b _;injection b with b;injection d with d
   rw[Y8 e,d,Y8 c,Int.ofNat.inj b]
  |go _=>exact au (Zw h) p
  |tell _=>exact au (Zw h) o
  |skip=>exact au (Zw h) n
 |go t=>cases q with
  |put _ _ _ _=>exact au (Zw h) v.symm
  |ifr _ _ _ _=>exact au (Zw h) p.symm
  |go j=>
   have h:D.tup [.str "go",.int (t:Int)]=.tup [.str "go",.int (j:Int)]:=h
   injection h with h;injection h with _ h;injection h with h _;injection h with h;rw[Int.ofNat.inj h]
  |tell _=>exact au (Zw h) m
  |skip=>exact au (Zw h) l
 |tell y=>cases q with
  |put _ _ _ _=>exact au (Zw h) u.symm
  |ifr _ _ _ _=>exact au (Zw h) o.symm
  |go _=>exact au (Zw h) m.symm
  |tell a=>
   have h:D.tup [.str "tell",opE y]=.tup [.str "tell",opE a]:=h
   injection h with h;injection h with _ h;injection h with h _;rw[Y8 h]
  |skip=>exact au (Zw h) f
 |skip=>cases q with
  |put _ _ _ _=>exact au (Zw h) s.symm
  |ifr _ _ _ _=>exact au (Zw h) n.symm
  |go _=>exact au (Zw h) l.symm
  |tell _=>exact au (Zw h) f.symm
  |skip=>rfl
mutual
theorem JG:∀ {n:Nat}{x:D},okD n x=ae->Zv x x=ae
 |_,.non,_=>rfl
 |_,.int i,_=>aE rfl
 |_,.str i,_=>aE rfl
 |n+1,.tup xs,h=>Xx (n:=n) (xs:=xs) h
 |0,.tup xs,h=>nomatch h
 |0,.bl _,h=>nomatch h
 |_+1,.bl _,h=>nomatch h
 |0,.lst _,h=>nomatch h
 |_+1,.lst _,h=>nomatch h
 |0,.dic _,h=>nomatch h
 |_+1,.dic _,h=>nomatch h
 |0,.dct _ _,h=>nomatch h
 |_+1,.dct _ _,h=>nomatch h
 |0,.obj _,h=>nomatch h
 |_+1,.obj _,h=>nomatch h
 |0,.kt _,h=>nomatch h
 |_+1,.kt _,h=>nomatch h
theorem Xx:∀ {n:Nat}{xs:Li D},Yj n xs=ae->Zq xs xs=ae
 |_,[],_=>rfl
 |n,x :: xs,h=>by
  have h:(okD n x&&Yj n xs)=ae:=h;rw[Ba]at h;show(Zv x x&&Zq xs xs)=ae;rw[JG h.1,Xx h.2];rfl
end
def ZaX(o:Op):∃ a,opE o=.tup a/\okD 8 (.tup a)=ae:=by cases o<;>exact⟨_,rfl,rfl⟩
def U2(r:Rw):∃ a,rwE r=.tup a/\okD 8 (.tup a)=ae:=by
 cases r with
 |put x y g z=>exact⟨_,rfl,by cases y<;>cases z<;>rfl⟩
 |ifr y g z t=>exact⟨_,rfl,by cases y<;>cases z<;>rfl⟩
 |go t=>exact⟨_,rfl,rfl⟩
 |tell y=>exact⟨_,rfl,by cases y<;>rfl⟩
 |skip=>exact⟨_,rfl,rfl⟩
def Y.eqd(d:Y F s a U (.tup xs))(c:Y F s b U (.tup ys))(g:okD 8 (.tup xs)=ae)(f:okD 8 (.tup ys)=ae):Y F s (.e a b) U (.bl (Zq xs ys)):=.cmp d c λst=>by
 have e:eqT xs (.tup ys)=aa (Zq xs ys):=aq (by rw[g,f];rfl)
 show(match eqT xs (.tup ys) with
  |some k=>aa k
  |none=>QK st xs ys)=_
 rw[e]
open Classical in
def Wm(a:okD 8 (.tup xs)=ae):Zq xs ys=ak (xs=ys):=by
 by_cases c:xs=ys
 .subst c;rw[aE rfl];exact Xx (n:=7) a
 .rw[aG c]
  cases q:Zq xs ys with
  |false=>rfl
  |true=>exact au (X8 q) c
def Y.ned(d:Y F s a U (.tup xs))(c:Y F s b U (.tup ys))(g:okD 8 (.tup xs)=ae)(f:okD 8 (.tup ys)=ae):Y F s (.cmp .NotEq a b) U (.bl (!Zq xs ys)):=.cmp d c λst=>by
 have e:eqT xs (.tup ys)=aa (Zq xs ys):=aq (by rw[g,f];rfl)
 show Option.map Bool.not (match eqT xs (.tup ys) with
  |some k=>aa k
  |none=>QK st xs ys)=_
 rw[e];rfl
def rv(k:Nat)(vs:Li Int):Rw->Sum D (Nat×Li Int)
 |.tell y=>.inl (teD (woI vs y))
 |r=>.inr (pkN k vs r,vsN vs r)
def ZdL(h:rs[k]?=aa r):mv rs k vs=rv k vs r:=by unfold mv;rw[h];cases r<;>rfl
def Als(m j:Nat)(r a:Rw):Prop:=∀ vs,Vs m vs->rv j vs a=rv j vs r
variable{v:Int}
section
variable{a b:Int}{x:Nat}
def VE(h:Sm a):arI a=a:=by unfold Sm at h;unfold arI;omega
def Zed:arI (a+arI (-b))=arI (a - b):=by unfold arI;omega
def Yy:rkI a (S "+") b=arI (a+b):=aq rfl
def Zbe:rkI a (S "-") b=arI (a - b):=by
 unfold rkI;rw[ar (by decide +kernel),aq rfl]
def X0:rkI a (S "*") b=arI (a * b):=by
 unfold rkI;rw[ar (by decide +kernel),ar (by decide +kernel),aq rfl]
def ZeZ:rkI a (S "/") b=if b=0 then 0 else arI (fdI a b):=by
 unfold rkI;rw[ar (by decide +kernel),ar (by decide +kernel),ar (by decide +kernel),aq rfl]
def Ze0:rkI a (S "mod") b=if b=0 then a else a - b * fdI a b:=by
 unfold rkI;rw[ar (by decide +kernel),ar (by decide +kernel),ar (by decide +kernel),ar (by decide +kernel)]
def JZ:fdI a 1=a:=by unfold fdI;rw[aq #[],Int.ediv_one]
def Zfh(a:Vs m vs)(b:x < m)(h:v=woI vs (.nm x)):vs.set x v=vs:=by
 have c:=a.l;subst h;show vs.set x (vs.getD x 0)=vs;rw[aQ,Lg ∅,Option.getD_some,List.set_getElem_self]
def Zbq:soI a (S "<") b=ak (a < b):=aq rfl
def Zbp:soI a (S "<=") b=ak (a<=b):=by
 unfold soI;rw[ar (by decide +kernel),aq rfl]
def QR:soI a (S "=") b=ak (a=b):=by
 unfold soI;rw[ar (by decide +kernel),ar (by decide +kernel),aq rfl]
def Zgw:soI a (S ">=") b=ak (b<=a):=by
 unfold soI;rw[ar (by decide +kernel),ar (by decide +kernel),ar (by decide +kernel),aq rfl]
def Zgx:soI a (S ">") b=ak (b < a):=by
 unfold soI;rw[ar (by decide +kernel),ar (by decide +kernel),ar (by decide +kernel),ar (by decide +kernel),aq rfl]
def QS:soI a (S "!=") b=!decide (a=b):=by
 unfold soI;rw[ar (by decide +kernel),ar (by decide +kernel),ar (by decide +kernel),ar (by decide +kernel),ar (by decide +kernel)]
def Zc6:soI a g a=soI b g b:=by
 unfold soI;rw[aG (Int.lt_irrefl a),aG (Int.lt_irrefl b),aE (Int.le_refl a),aE (Int.le_refl b),aE (rfl:a=a),aE (rfl:b=b)]
end
def RX(c:Nat)(q:CS)(U:Env)(P:D->Prop):Prop:=∃ d,(∀ n s,R (rT (n+c)) s q U d)/\P d
def CX(c f:Nat)(ds:Li D)(P:D->Prop):Prop:=∃ d,(∀ n s,C (rT (n+c)) s f ds d)/\P d
variable{P:D->Prop}
section
variable{c':Nat}{k:Bool}{Q:D->Prop}
theorem CX.of{v:FD}(h:T f=aa v)(b:ds.length=v.ps)(a:RX c v.body (ds.map aa++ag (v.ns - ds.length) ab) P):CX (c+1) f ds P:=by
 obtain⟨d,g,e⟩:=a;exact⟨d,λn s=>.of h b (g n s),e⟩
def RX.pick(h:∀ n s,Y (rT (n+c)) s e U (.bl k))(g:k=ae->RX c p U P)(f:k=af->RX c q U P):RX c (.seq (.ite e p .skip) q) U P:=by
 cases k with
 |true=>obtain⟨d,a,b⟩:=g rfl;exact⟨d,λn s=>.yB (h n s) (a n s),b⟩
 |false=>obtain⟨d,a,b⟩:=f rfl;exact⟨d,λn s=>.no (h n s) (a n s),b⟩
theorem RX.ret(h:∀ n s,Y (rT (n+c)) s e U d)(a:P d):RX c (.seq (.ret e) q) U P:=⟨d,λn s=>.ret (h n s),a⟩
theorem RX.set(h:∀ n s,Y (rT (n+c)) s e U d)(f:RX c q (Zh U i d) P):RX c (.y i e q) U P:=by
 obtain⟨d,a,b⟩:=f;exact⟨d,λn s=>.set (h n s) (a n s),b⟩
def CX.mono(h:CX c f ds P)(e:∀ d,P d->Q d):CX c f ds Q:=let ⟨d,a,b⟩:=h;⟨d,a,e d b⟩
def CX.up(h:CX c' f ds P)(e:c'<=c):CX c f ds P:=let ⟨d,a,b⟩:=h;⟨d,λn s=>by have:=a (n+(c - c')) s;rwa [show n+(c - c')+c'=n+c by omega]at this,b⟩
def RX.iset{l:CE}(h:∀ n s,Y (rT (n+c)) s e U (.bl k))(u:k=ae->∃ d,(∀ n s,Y (rT (n+c)) s l U d)/\RX c q (Zh U i d) P)(t:k=af->RX c q U P):RX c (.seq (.ite e (.z (.set i l)) .skip) q) U P:=by
 cases k with
 |true=>
  obtain⟨y,r,d,a,b⟩:=u rfl;refine⟨d,λn s st g=>?_,b⟩
  obtain⟨s1,x,f⟩:=h n s st g;obtain⟨o,w,j⟩:=r n s s1 (g.trans f);obtain⟨m,v,p⟩:=a n s o (g.trans (f.trans j));exact⟨m,(Zc ((ZN x).trans ((Zc (Zm w)).trans Zg))).trans v,f.trans (j.trans p)⟩
 |false=>obtain⟨d,a,b⟩:=t rfl;exact⟨d,λn s=>.no (h n s) (a n s),b⟩
end
noncomputable def Xh:Op->Bool
 |.nm _=>af
 |.nu _=>ae
variable{g:Str}
section
variable{k:Bool}{Q:D->Prop}
def Y.eqo{u:Op}(f:∀ s,Y F s a U (opE o))(d:∀ s,Y F s b U (opE u)):∀ s,Y F s (.e a b) U (.bl (ak (o=u))):=λs=>by
 obtain⟨xs,c,i⟩:=ZaX o;obtain⟨ys,g,j⟩:=ZaX u;have e:ak (o=u)=Zq xs ys:=by
  rw[Wm i];refine decide_eq_decide.mpr ⟨λh=>?_,λh=>Y8 (by rw[c,g,h])⟩
  rw[h,g]at c;injection c with c;exact c.symm
 have f:=f s;have d:=d s;rw[c]at f;rw[g]at d;rw[e];exact .eqd f d i j
def Y.eqr{o u:Rw}(f:∀ s,Y F s a U (rwE o))(d:∀ s,Y F s b U (rwE u)):∀ s,Y F s (.e a b) U (.bl (ak (o=u))):=λs=>by
 obtain⟨xs,c,i⟩:=U2 o;obtain⟨ys,g,j⟩:=U2 u;have e:ak (o=u)=Zq xs ys:=by
  rw[Wm i];refine decide_eq_decide.mpr ⟨λh=>?_,λh=>U1 (by rw[c,g,h])⟩
  rw[h,g]at c;injection c with c;exact c.symm
 have f:=f s;have d:=d s;rw[c]at f;rw[g]at d;rw[e];exact .eqd f d i j
noncomputable def opV:Op->Int
 |.nm i=>i
 |.nu v=>v
noncomputable def ltO:Op->Op->Bool
 |.nm i,.nm j=>ak ((i:Int) < j)
 |.nm _,.nu _=>ae
 |.nu _,.nm _=>af
 |.nu a,.nu b=>ak (a < b)
noncomputable def inG(g a b:Str):Bool:=ak (a=g)||(ak (b=g)||false)
def Zfi:Rw->Str
 |.put _ _ g _=>g
 |.ifr _ g _ _=>g
 |_=>S ""
def lmR:Rw->Rw
 |.put x y g (.nu v)=>if g=S "-" then .put x y (S "+") (.nu (arI (-v))) else .put x y g (.nu v)
 |r=>r
def lfR:Rw->Rw
 |.put x y g z=>if ltO z y=ae then .put x z g y else .put x y g z
 |.ifr y g z t=>if ltO z y=ae then .ifr z g y t else .ifr y g z t
 |r=>r
def lcR(a b:Str)(r:Rw):Rw:=if inG (Zfi r) a b=ae then lfR r else r
def noK(y:Op)(g:Str)(z:Op):Bool:=(ak (g=S "*")&&ak (z=.nu 0))||((ak (g=S "mod")&&ak (z=.nu 1))||(ak (g=S "-")&&ak (y=z)))
def ZaW(g:Str)(z:Op):Bool:=(ak (S "*"=g)||(ak (S "/"=g)||false))&&ak (z=.nu 1)
def wrR:Rw->Rw
 |.put x y g z=>if noK y g z=ae then .put x (.nu 0) (S "+") (.nu 0) else if ZaW g z=ae then .put x y (S "+") (.nu 0) else .put x y g z
 |r=>r
def snR:Rw->Rw
 |.put x y g z=>if Rw.put x y g z=.put x (.nm x) (S "+") (.nu 0) then .skip else .put x y g z
 |r=>r
def mpR:Rw->Rw
 |.put x y g z=>if (Xh y&&Xh z)=ae then .put x (.nu (rkI (opV y) g (opV z))) (S "+") (.nu 0) else snR (wrR (lcR (S "+") (S "*") (lmR (.put x y g z))))
 |r=>r
def R.iset{n:CE}(h:Y F s e U (.bl k))(r:k=ae->Y F s n U x)(p:k=af->Zh U i x=U)(l:R F s q (Zh U i x) d):R F s (.seq (.ite e (.z (.set i n)) .skip) q) U d:=λst g=>by
 obtain⟨s1,m,a⟩:=h st g;cases k with
 |true=>
  obtain⟨o,t,j⟩:=r rfl s1 (g.trans a);obtain⟨c,b,f⟩:=l o (g.trans (a.trans j));exact⟨c,(Zc ((ZN m).trans ((Zc (Zm t)).trans Zg))).trans b,a.trans (j.trans f)⟩
 |false=>
  obtain⟨c,b,f⟩:=l s1 (g.trans a);rw[p rfl]at b;exact⟨c,(Zc ((YA m).trans Zg)).trans b,a.trans f⟩
def Jx(y z:Op):C (rT (n+1)) s 73 [opE y,opE z] (.bl (Xh y&&Xh z)):=by
 cases y<;>cases z<;>exact .of (v:=Yu) rfl rfl (.ret ())
def ZdJ(o u:Op):∀ st,ZbY .Lt (opE o) (opE u) st=aa (ltO o u):=by
 have c:∀ (i j:Int),(if Zv (.int i) (.int j)=ae then aa (ak (0 < ([]:Li D).length)) else aa (ak (i < j)))=aa (ak (i < j)):=λi j=>by
  by_cases h:i=j
  .subst h
   rw[aq (JG (n:=1) rfl),aG (Int.lt_irrefl i)];rfl
  .rw[ar λq=>h (by injection JF q)]
 intro st;cases o with
 |nm i=>cases u with
  |nm j=>exact c i j
  |nu _=>rfl
 |nu a=>cases u with
  |nm _=>rfl
  |nu b=>exact c a b
def ZbL{x:Nat}{y z:Op}:C (rT (n+2)) s 75 [rwE (.put x y g z)] (rwE (lmR (.put x y g z))):=by
 cases z with
 |nm j=>exact .of (v:=ZW) rfl rfl (.pick (k:=ak (g=S "-")&&af) (.and (.eqs () ()) λ_=>.r rf) (λq=>by rw[Bool.and_false]at q;cases q) λ_=>.ret ())
 |nu v=>
  refine .of (v:=ZW) rfl rfl (.pick (k:=ak (g=S "-")&&ae) (.and (.eqs () ()) λ_=>.r rf) (λq=>?_) λq=>?_)<;>rw[dO]at q
  .rw[show lmR (.put x y g (.nu v))=_ from aq (ao q)]
   exact .ret (.adT (xs:=[.str "put",.int (x:Int),opE y]) (.tkT (i:=3) (xs:=[.str "put",.int (x:Int),opE y,.str g,opE (.nu v)]) () () (show 3<=5 by decide)) (.cons () (.cons (.cons () (.cons (.call1 (g1 (.ixt (j:=1) (xs:=[.str "number",.int v]) () () rfl) (d:=.int (-v)) (gp λ_=>rfl)) YW) .nil)) .nil)) (show 3+2<=100000 by decide))
  .rw[show lmR (.put x y g (.nu v))=_ from ar (am q)]
   exact .ret ()
def Zfw{x:Nat}{y z:Op}:C (rT (n+2)) s 74 [rwE (.put x y g z),.int 2,.int 4] (rwE (lfR (.put x y g z))):=by
 refine .of (v:=ZX) rfl rfl (.pick (.cmp (x:=opE z) (y:=opE y) () () (ZdJ z y)) (λq=>?_) λq=>?_)
 .rw[show lfR (.put x y g z)=_ from aq q]
  exact .ret (.call (xs:=[.tup [.str "put",.int (x:Int),opE z,.str g,opE z],.int 4,opE y]) (.cons (.call (xs:=[rwE (.put x y g z),.int 2,opE z]) () (W7 (xs:=[.str "put",.int (x:Int),opE y,.str g,opE z]) (i:=2) (show 2 < 5 by decide) (show 5<=1000 by decide))) (.cons () (.cons () .nil))) (W7 (xs:=[.str "put",.int (x:Int),opE z,.str g,opE z]) (i:=4) (show 4 < 5 by decide) (show 5<=1000 by decide)))
 .rw[show lfR (.put x y g z)=_ from ar (by rw[q];decide)]
  exact .ret ()
def Zfv{t:Nat}{y z:Op}:C (rT (n+2)) s 74 [rwE (.ifr y g z t),.int 1,.int 3] (rwE (lfR (.ifr y g z t))):=by
 refine .of (v:=ZX) rfl rfl (.pick (.cmp (x:=opE z) (y:=opE y) () () (ZdJ z y)) (λq=>?_) λq=>?_)
 .rw[show lfR (.ifr y g z t)=_ from aq q]
  exact .ret (.call (xs:=[.tup [.str "if",opE z,.str g,opE z,.int (t:Int)],.int 3,opE y]) (.cons (.call (xs:=[rwE (.ifr y g z t),.int 1,opE z]) () (W7 (xs:=[.str "if",opE y,.str g,opE z,.int (t:Int)]) (i:=1) (show 1 < 5 by decide) (show 5<=1000 by decide))) (.cons () (.cons () .nil))) (W7 (xs:=[.str "if",opE z,.str g,opE z,.int (t:Int)]) (i:=3) (show 3 < 5 by decide) (show 5<=1000 by decide)))
 .rw[show lfR (.ifr y g z t)=_ from ar (by rw[q];decide)]
  exact .ret ()
def ZfB{x:Nat}{y z:Op}:C (rT (n+2)) s 76 [rwE (.put x y g z)] (rwE (wrR (.put x y g z))):=by
 refine .of (v:=ZO) rfl rfl (.set (x:=opE y) () (.set (x:=.str g) () (.set (x:=opE z) () (.pick (k:=noK y g z) (.or (.and (.eqs () ()) λ_=>Y.eqo (o:=z) (u:=.nu 0) (λs=>.r rf) (λs=>.r rf) s) λ_=>.or (.and (.eqs () ()) λ_=>Y.eqo (o:=z) (u:=.nu 1) (λs=>.r rf) (λs=>.r rf) s) λ_=>.and (.eqs () ()) λ_=>Y.eqo (o:=y) (u:=z) (λs=>.r rf) (λs=>.r rf) s) (λq=>?_) λq=>.pick (k:=ZaW g z) (.and (.cmp (x:=.str g) () () λst=>rfl) λ_=>Y.eqo (o:=z) (u:=.nu 1) (λs=>.r rf) (λs=>.r rf) s) (λa=>?_) λa=>?_))))
 .rw[show wrR (.put x y g z)=_ from aq q];exact .ret ()
 .rw[show wrR (.put x y g z)=_ from(ar (by rw[q];decide)).trans (aq a)];exact .ret ()
 .rw[show wrR (.put x y g z)=_ from(ar (by rw[q];decide)).trans (ar (by rw[a];decide))];exact .ret ()
def ZaE{x:Nat}{y z:Op}:∃ b d a,lmR (.put x y g z)=.put x b d a:=by
 cases z with
 |nm j=>exact⟨_,_,_,rfl⟩
 |nu v=>
  by_cases c:g=S "-"
  .exact⟨_,_,_,aq c⟩
  .exact⟨_,_,_,ar c⟩
def ZaB{x:Nat}{y z:Op}{a b:Str}:∃ f h e,lcR a b (.put x y g z)=.put x f h e:=by
 by_cases c:inG g a b=ae
 .by_cases d:ltO z y=ae
  .exact⟨_,_,_,(aq c).trans (aq d)⟩
  .exact⟨_,_,_,(aq c).trans (ar d)⟩
 .exact⟨_,_,_,ar c⟩
def ZbD{x:Nat}{y z:Op}:∃ d e b,wrR (.put x y g z)=.put x d e b:=by
 by_cases c:noK y g z=ae
 .exact⟨_,_,_,aq c⟩
 .by_cases a:ZaW g z=ae
  .exact⟨_,_,_,(ar c).trans (aq a)⟩
  .exact⟨_,_,_,(ar c).trans (ar a)⟩
def Zd4{x:Nat}{y z:Op}(w:Xh y=ae->Sm (opV y))(p:Xh z=ae->Sm (opV z)):C (rT (n+4)) s 77 [rwE (.put x y g z)] (rwE (mpR (.put x y g z))):=by
 refine .of (v:=Xq) rfl rfl (.pick (k:=Xh y&&Xh z) (.call (xs:=[opE y,opE z]) () (Jx y z)) (λq=>?_) λq=>?_)
 .rw[show mpR (.put x y g z)=_ from aq q]
  rw[Ba]at q;have d:Y (rT (n+3)) s (.f 3 (.aC (.ix (.x 0 2) (.i 1)) (.aC (.x 0 3) (.u (.ix (.x 0 4) (.i 1)))))) [aa (rwE (.put x y g z))] (.int (rkI (opV y) g (opV z))):=by
   cases y<;>cases z<;>exact .call () (ZgK (w q.1) (p q.2))
  exact .ret (.cons () (.cons () (.cons (.cons () (.cons d .nil)) (.cons () (.cons () .nil)))))
 .rw[show mpR (.put x y g z)=_ from ar (by rw[q];decide)]
  have m:∀ {y z:Op}{g:Str},R (rT (n+3)) s (.y 0 (.f 76 (.s 0))
 (.seq (.ite (.e (.v 0) (.g (.aC (.t "put") (.aC (.x 0 1) (.aC (.g (.aC (.t "name") (.u (.x 0 1)))) (.aC (.t "+") (.u (.c (.tup [(.str "number"),(.int 0)]))))))))) (.q (.c (.tup [(.str "skip")]))) .skip)
 (.q (.v 0)))) [aa (rwE (.put x y g z))] (rwE (snR (wrR (.put x y g z)))):=λ{y z g}=>by
   refine .set (.call1 () ZfB) ?_;obtain⟨l,g2,j,B⟩:=ZbD (x:=x) (y:=y) (g:=g) (z:=z);rw[B];refine .pick (Y.eqr (o:=.put x l g2 j) (u:=.put x (.nm x) (S "+") (.nu 0)) (λs=>.r rf) (λs=>.r rf) s) (λq=>?_) λq=>?_
   .rw[show snR (.put x l g2 j)=_ from aq (ao q)];exact .ret ()
   .rw[show snR (.put x l g2 j)=_ from ar (am q)];exact .ret ()
  refine .set (.call1 () ZbL) ?_;obtain⟨d,g1,h,D⟩:=ZaE (x:=x) (y:=y) (g:=g) (z:=z);rw[D];obtain⟨F,G,E,A⟩:=ZaB (x:=x) (y:=d) (g:=g1) (z:=h) (a:=S "+") (b:=S "*");refine .iset (k:=inG g1 (S "+") (S "*")) (x:=rwE (lcR (S "+") (S "*") (.put x d g1 h))) (.cmp (x:=.str g1) (y:=.tup [.str "+",.str "*"]) () () λst=>rfl) (λq=>?_) (λq=>?_) (by rw[A];exact m)
  .rw[show lcR (S "+") (S "*") (.put x d g1 h)=_ from aq q]
   exact .call (xs:=[rwE (.put x d g1 h),.int 2,.int 4]) () Zfw
  .rw[show lcR (S "+") (S "*") (.put x d g1 h)=_ from ar (by rw[show inG (Zfi (.put x d g1 h)) (S "+") (S "*")=af from q];decide)]
   rfl
end
def glR:Rw->Rw
 |.ifr y g z t=>if g=S ">" then .ifr z (S "<") y t else if g=S ">=" then .ifr z (S "<=") y t else .ifr y g z t
 |r=>r
def stK(y z:Op):Bool:=(Xh y&&Xh z)||ak (y=z)
def seR(y:Op)(g:Str)(z:Op)(t:Nat):Rw:=if soI (opV y) g (opV z)=ae then .go t else .skip
def maY(y z:Op)(t:Nat):Rw:=match y with
 |.nu v=>if -1000000000 < v then .ifr (.nu (v - 1)) (S "<") z t else .ifr y (S "<=") z t
 |.nm _=>.ifr y (S "<=") z t
def maZ(y z:Op)(t:Nat):Rw:=match z with
 |.nu v=>if v < 999999999 then .ifr y (S "<") (.nu (v+1)) t else maY y z t
 |.nm _=>maY y z t
def maR:Rw->Rw
 |.ifr y g z t=>if g=S "<=" then maZ y z t else .ifr y g z t
 |r=>r
def m2R:Rw->Rw
 |.ifr y g z t=>if stK y z=ae then seR y g z t else maR (lcR (S "=") (S "!=") (.ifr y g z t))
 |r=>r
def miR(j:Nat):Rw->Rw
 |.ifr y g z t=>if t=j+1 then .skip else m2R (glR (.ifr y g z t))
 |r=>r
def mdR(j:Nat):Rw->Rw
 |.put x y g z=>mpR (.put x y g z)
 |.ifr y g z t=>miR j (.ifr y g z t)
 |.go t=>if t=j+1 then .skip else .go t
 |r=>r
variable{t:Nat}
section
variable{k:Bool}{y:Op}
def Zfu:C (rT (n+1)) s 78 [rwE (.ifr y g z t)] (rwE (glR (.ifr y g z t))):=by
 refine .of (v:=ZV) rfl rfl (.pick (.eqs () ()) (λq=>?_) λq=>.pick (.eqs () ()) (λa=>?_) λa=>?_)
 .rw[show glR (.ifr y g z t)=_ from aq (ao q)];exact .ret ()
 .rw[show glR (.ifr y g z t)=_ from(ar (am q)).trans (aq (ao a))];exact .ret ()
 .rw[show glR (.ifr y g z t)=_ from(ar (am q)).trans (ar (am a))];exact .ret ()
def ZbJ:C (rT (n+2)) s 79 [rwE (.ifr y g z t)] (.bl (stK y z)):=
 .of (v:=YL) rfl rfl (.ret (.or (.call (xs:=[opE y,opE z]) () (Jx y z)) λ_=>Y.eqo (o:=y) (u:=z) (λs=>.r rf) (λs=>.r rf) s))
def Q2:C (rT (n+2)) s 80 [rwE (.ifr y g z t)] (rwE (seR y g z t)):=by
 have c:Y (rT (n+1)) s (.f 4 (.aC (.ix (.x 0 1) (.i 1)) (.aC (.x 0 2) (.u (.ix (.x 0 3) (.i 1)))))) [aa (rwE (.ifr y g z t)),ab] (.bl (soI (opV y) g (opV z))):=by
  cases y<;>cases z<;>exact .call () ZgL
 refine .of (v:=XS) rfl rfl (.set c ?_);unfold seR;cases q:soI (opV y) g (opV z) with
 |true=>exact .ret (.ife (k:=ae) () ())
 |false=>exact .ret (.ife (k:=af) () ())
def Zfx:C (rT (n+1)) s 81 [rwE (.ifr y g z t)] (rwE (maR (.ifr y g z t))):=by
 refine .of (v:=Yi) rfl rfl (.set (x:=opE y) () (.set (x:=opE z) () (.pick (k:=!decide (g=S "<=")) (.cmp (x:=.str g) (y:=.str "<=") () () λ_=>rfl) (λq=>?_) λq=>?_)))
 .rw[show maR (.ifr y g z t)=_ from ar (am (by cases c:ak (g=S "<=") with|false=>rfl|true=>rw[c]at q;cases q))]
  exact .ret ()
 have d:g=S "<=":=ao (by cases c:ak (g=S "<=") with|true=>rfl|false=>rw[c]at q;cases q)
 rw[show maR (.ifr y g z t)=_ from aq d];subst d;have b:R (rT n) s (.seq (.ite (.and (.e (.x 1 0) (.t "number")) (.cmp .Gt (.x 1 1) (.i (-1000000000)))) (.q (.g (.aC (.t "if") (.aC (.g (.aC (.t "number") (.u (.l (.x 1 1) (.i 1))))) (.aC (.t "<") (.a 2 (.u (.x 0 4)))))))) .skip)
 (.q (.v 0))) [aa (rwE (.ifr y (S "<=") z t)),aa (opE y),aa (opE z)] (rwE (maY y z t)):=by
  cases y with
  |nm i=>exact .pick (k:=af) (.and (k:=af) (m:=af) () λq=>nomatch q) (λq=>nomatch q) λ_=>.ret ()
  |nu v=>
   refine .pick (k:=ae&&ak (-1000000000 < v)) (.and () λ_=>.cmp (x:=.int v) (y:=.int (-1000000000)) () () λ_=>rfl) (λq=>?_) λq=>?_<;>rw[eT]at q
   .rw[show maY (.nu v) z t=_ from aq (ao q)];exact .ret ()
   .rw[show maY (.nu v) z t=_ from ar (am q)];exact .ret ()
 cases z with
 |nm i=>exact .pick (k:=af) (.and (k:=af) (m:=af) () λq=>nomatch q) (λq=>nomatch q) λ_=>b
 |nu v=>
  refine .pick (k:=ae&&ak (v < 999999999)) (.and () λ_=>.cmp (x:=.int v) (y:=.int 999999999) () () λ_=>rfl) (λq=>?_) λq=>?_<;>rw[eT]at q
  .rw[show maZ y (.nu v) t=_ from aq (ao q)];exact .ret ()
  .rw[show maZ y (.nu v) t=_ from ar (am q)];exact b
def J5:∃ d e b,∀ t,glR (.ifr y g z t)=.ifr d e b t:=by
 unfold glR;by_cases c:g=S ">"
 .exact⟨_,_,_,λt=>aq c⟩
 .by_cases a:g=S ">="
  .exact⟨_,_,_,λt=>(ar c).trans (aq a)⟩
  .exact⟨_,_,_,λt=>(ar c).trans (ar a)⟩
def ZaA{a b:Str}:∃ f h e,∀ t,lcR a b (.ifr y g z t)=.ifr f h e t:=by
 by_cases c:inG g a b=ae
 .by_cases d:ltO z y=ae
  .exact⟨_,_,_,λt=>(aq c).trans (aq d)⟩
  .exact⟨_,_,_,λt=>(aq c).trans (ar d)⟩
 .exact⟨_,_,_,λt=>ar c⟩
def Zfy:C (rT (n+3)) s 82 [rwE (.ifr y g z t),.int (j:Int)] (rwE (miR j (.ifr y g z t))):=by
 refine .of (v:=XR) rfl rfl (.pick (k:=ak ((t:Int)=(j:Int)+1)) (.cmp (x:=.int (t:Int)) (y:=.int ((j:Int)+1)) () (.add () ()) λ_=>rfl) (λq=>?_) λq=>?_)
 .rw[show miR j (.ifr y g z t)=_ from aq (by have:=ao q;omega)];exact .ret ()
 .rw[show miR j (.ifr y g z t)=_ from ar (by have:=am q;omega)]
  refine .set (.call1 () Zfu) ?_;obtain⟨d,g1,c,f⟩:=J5 (y:=y) (g:=g) (z:=z);rw[f];refine .pick (.call1 () ZbJ) (λq=>?_) λq=>?_
  .rw[show m2R (.ifr d g1 c t)=_ from aq q];exact .ret (.call1 () Q2)
  .rw[show m2R (.ifr d g1 c t)=_ from ar (by rw[q];decide)]
   obtain⟨i,l,h,e⟩:=ZaA (y:=d) (g:=g1) (z:=c) (a:=S "=") (b:=S "!=");refine .iset (k:=inG g1 (S "=") (S "!=")) (x:=rwE (lcR (S "=") (S "!=") (.ifr d g1 c t))) (.cmp (x:=.str g1) (y:=.tup [.str "=",.str "!="]) () () λst=>rfl) (λq=>?_) (λq=>?_) (by rw[e];exact .ret (.call1 () Zfx))
   .rw[show lcR (S "=") (S "!=") (.ifr d g1 c t)=_ from aq q]
    exact .call (xs:=[rwE (.ifr d g1 c t),.int 1,.int 3]) () Zfv
   .rw[show lcR (S "=") (S "!=") (.ifr d g1 c t)=_ from ar (by rw[show inG (Zfi (.ifr d g1 c t)) (S "=") (S "!=")=af from q];decide)]
    rfl
def Zd5(h:RwOk m sz r):C (rT (n+5)) s 83 [rwE r,.int (j:Int)] (rwE (mdR j r)):=by
 have go:R (rT (n+4)) s (.seq (.ite (.e (.v 0) (.g (.aC (.t "go") (.u (.p (.v 1) (.i 1)))))) (.q (.c (.tup [(.str "skip")]))) .skip)
 (.q (.v 0))) [aa (rwE r),jN j] (rwE (if r=.go (j+1) then .skip else r)):=by
  refine .pick (k:=ak (r=.go (j+1))) (Y.eqr (o:=r) (u:=.go (j+1)) (λs=>.r rf) (λs=>by
   show Y _ _ _ _ (.tup [.str "go",.int ((j+1:Nat):Int)]);rw[cD];exact .cons () (.cons (.add () ()) .nil)) s) (λq=>?_) λq=>?_
  .rw[aq (ao q)];exact .ret ()
  .rw[ar (am q)];exact .ret ()
 cases r with
 |put x y g z=>exact .of (v:=ZS) rfl rfl (.yes () (.call1 () (Zd4 (λq=>by cases y with|nm _=>cases q|nu v=>exact h.2.1) λq=>by cases z with|nm _=>cases q|nu v=>exact h.2.2.2)))
 |ifr y g z t=>exact .of (v:=ZS) rfl rfl (.no () (.yes () (.call (xs:=[rwE (.ifr y g z t),.int (j:Int)]) () Zfy)))
 |go t=>
  have e:(if Rw.go t=.go (j+1) then Rw.skip else .go t)=mdR j (.go t):=by
   show _=if t=j+1 then Rw.skip else .go t
   by_cases c:t=j+1
   .rw[aq c,aq (by rw[c])]
   .rw[ar c,ar λh=>c (by injection h)]
  rw[<-e];exact .of (v:=ZS) rfl rfl (.no () (.no () go))
 |tell y=>exact .of (v:=ZS) rfl rfl (.no () (.no () go))
 |skip=>exact .of (v:=ZS) rfl rfl (.no () (.no () go))
end
def Dz(m sz j:Nat)(r a:Rw):Prop:=RwOk m sz a/\Als m j r a
variable{g':Str}
variable{r':Rw}
section
variable{x:Nat}{r'':Rw}{y:Op}
def Dz.id(h:RwOk m sz r):Dz m sz j r r:=⟨h,λ_ _=>rfl⟩
def Dz.tr(h:Dz m sz j r r')(g:RwOk m sz r'->Dz m sz j r' r''):Dz m sz j r r'':=⟨(g h.1).1,λvs a=>((g h.1).2 vs a).trans (h.2 vs a)⟩
def JV{c:Nat}{b a:Op}(ok:RwOk m sz (.put c b g' a))(h:∀ vs,Vs m vs->vs.set c (rkI (woI vs b) g' (woI vs a))=vs.set x (rkI (woI vs y) g (woI vs z))):Dz m sz j (.put x y g z) (.put c b g' a):=⟨ok,λvs d=>av (λw=>Sum.inr (j+1,w)) (h vs d)⟩
def JT{c:Nat}{b a:Op}(ok:RwOk m sz (.ifr b g' a c))(h:∀ vs,Vs m vs->(if soI (woI vs b) g' (woI vs a)=ae then c else j+1)=if soI (woI vs y) g (woI vs z)=ae then t else j+1):Dz m sz j (.ifr y g z t) (.ifr b g' a c):=⟨ok,λvs d=>av (λw=>Sum.inr (w,vs)) (h vs d)⟩
def ZfO(h:RwOk m sz (.put x y g z)):Dz m sz j (.put x y g z) (lmR (.put x y g z)):=by
 cases z with
 |nm j=>exact .id h
 |nu v=>
  by_cases c:g=S "-"
  .rw[show lmR (.put x y g (.nu v))=_ from aq c]
   refine JV ⟨h.1,h.2.1,#[],VF⟩ λvs _=>?_
   subst c;show vs.set x (rkI (woI vs y) (S "+") (arI (-v)))=vs.set x (rkI (woI vs y) (S "-") v);rw[Yy,Zbe,Zed]
  .rw[show lmR (.put x y g (.nu v))=_ from ar c];exact .id h
def ZdA{a b:Str}(h:inG g a b=ae):g=a\/g=b:=by
 unfold inG at h;rw[bL,aO,cL,aO]at h;exact h.imp ax ax
def Zeo(h:RwOk m sz (.put x y g z)):Dz m sz j (.put x y g z) (lcR (S "+") (S "*") (.put x y g z)):=by
 by_cases c:inG g (S "+") (S "*")=ae
 .rw[show lcR (S "+") (S "*") (.put x y g z)=_ from aq c]
  by_cases a:ltO z y=ae
  .rw[show lfR (.put x y g z)=_ from aq a]
   refine JV ⟨h.1,h.2.2.2,h.2.2.1,h.2.1⟩ λvs _=>?_
   rcases ZdA c with rfl|rfl
   .rw[Yy,Yy,Int.add_comm]
   .rw[X0,X0,Int.mul_comm]
  .rw[show lfR (.put x y g z)=_ from ar a];exact .id h
 .rw[show lcR (S "+") (S "*") (.put x y g z)=_ from ar c];exact .id h
def Zen(h:RwOk m sz (.ifr y g z t)):Dz m sz j (.ifr y g z t) (lcR (S "=") (S "!=") (.ifr y g z t)):=by
 by_cases c:inG g (S "=") (S "!=")=ae
 .rw[show lcR (S "=") (S "!=") (.ifr y g z t)=_ from aq c]
  by_cases a:ltO z y=ae
  .rw[show lfR (.ifr y g z t)=_ from aq a]
   refine JT ⟨h.2.2.1,h.2.1,h.1,h.2.2.2⟩ λvs _=>?_
   rcases ZdA c with rfl|rfl
   .rw[QR,QR,decide_eq_decide.mpr ⟨ax,ax⟩]
   .rw[QS,QS,decide_eq_decide.mpr ⟨ax,ax⟩]
  .rw[show lfR (.ifr y g z t)=_ from ar a];exact .id h
 .rw[show lcR (S "=") (S "!=") (.ifr y g z t)=_ from ar c];exact .id h
def ZfU(h:RwOk m sz (.put x y g z)):Dz m sz j (.put x y g z) (wrR (.put x y g z)):=by
 by_cases q:noK y g z=ae
 .rw[show wrR (.put x y g z)=_ from aq q]
  refine JV ⟨h.1,⟨#[],#[]⟩,#[],⟨#[],#[]⟩⟩ λvs _=>?_
  show vs.set x (rkI 0 (S "+") 0)=vs.set x (rkI (woI vs y) g (woI vs z));have b:rkI 0 (S "+") 0=0:=Yy;unfold noK at q;rw[bL,bL,Ba,Ba,Ba,aO,aO,aO,aO,aO,aO]at q;rcases q with⟨rfl,rfl⟩|⟨rfl,rfl⟩|⟨rfl,rfl⟩
  .rw[b,X0]
   show vs.set x 0=vs.set x (arI (_ * 0));rw[Int.mul_zero];rfl
  .rw[b,Ze0]
   show vs.set x 0=vs.set x (if (1:Int)=0 then _ else _ - 1 * fdI _ 1);rw[ar #[],JZ,Int.one_mul,Int.sub_self]
  .rw[b,Zbe,Int.sub_self];rfl
 .by_cases a:ZaW g z=ae
  .rw[show wrR (.put x y g z)=_ from(ar q).trans (aq a)]
   refine JV ⟨h.1,h.2.1,#[],⟨#[],#[]⟩⟩ λvs _=>?_
   show vs.set x (rkI (woI vs y) (S "+") 0)=vs.set x (rkI (woI vs y) g (woI vs z));unfold ZaW at a;rw[cL,Ba,bL,aO,aO,aO]at a;rcases a with⟨rfl|rfl,rfl⟩
   .rw[Yy,X0,Int.add_zero]
    show _=vs.set x (arI (_ * 1));rw[Int.mul_one]
   .rw[Yy,ZeZ,Int.add_zero]
    show _=vs.set x (if (1:Int)=0 then 0 else arI (fdI _ 1));rw[ar #[],JZ]
  .rw[show wrR (.put x y g z)=_ from(ar q).trans (ar a)];exact .id h
def ZfT(h:RwOk m sz (.put x y g z)):Dz m sz j (.put x y g z) (snR (.put x y g z)):=by
 by_cases q:Rw.put x y g z=.put x (.nm x) (S "+") (.nu 0)
 .rw[show snR (.put x y g z)=_ from aq q]
  injection q with _ d c b
  subst d;subst c;subst b
  refine⟨trivial,λvs a=>?_⟩
  show Sum.inr (j+1,vs)=Sum.inr (j+1,vs.set x (rkI (woI vs (.nm x)) (S "+") 0));rw[Yy,Int.add_zero,VE (Ur (o:=.nm x) a h.1),Zfh a h.1 rfl]
 .rw[show snR (.put x y g z)=_ from ar q];exact .id h
def ZfR(h:RwOk m sz (.put x y g z)):Dz m sz j (.put x y g z) (mpR (.put x y g z)):=by
 by_cases q:(Xh y&&Xh z)=ae
 .rw[show mpR (.put x y g z)=_ from aq q]
  rw[Ba]at q;cases y with
  |nm _=>exact nomatch q.1
  |nu a=>cases z with
   |nm _=>exact nomatch q.2
   |nu b=>
    have s:=ZdU (g:=g) h.2.1 h.2.2.2;refine JV ⟨h.1,s,#[],⟨#[],#[]⟩⟩ λvs _=>?_
    show vs.set x (rkI (rkI a g b) (S "+") 0)=vs.set x (rkI a g b);rw[Yy,Int.add_zero,VE s]
 .rw[show mpR (.put x y g z)=_ from ar q]
  refine .tr (ZfO h) λe=>?_
  obtain⟨l,g1,i,p⟩:=ZaE (x:=x) (y:=y) (g:=g) (z:=z);rw[p]at e ⊢;refine .tr (Zeo e) λd=>?_
  obtain⟨k,g2,f,o⟩:=ZaB (x:=x) (y:=l) (g:=g1) (z:=i) (a:=S "+") (b:=S "*");rw[o]at d ⊢;refine .tr (ZfU d) λc=>?_
  obtain⟨t,u,r,n⟩:=ZbD (x:=x) (y:=k) (g:=g2) (z:=f);rw[n]at c ⊢;exact ZfT c
def ZfN(h:RwOk m sz (.ifr y g z t)):Dz m sz j (.ifr y g z t) (glR (.ifr y g z t)):=by
 by_cases c:g=S ">"
 .rw[show glR (.ifr y g z t)=_ from aq c]
  refine JT ⟨h.2.2.1,#[],h.1,h.2.2.2⟩ λvs _=>?_
  subst c;rw[Zbq,Zgx]
 .by_cases a:g=S ">="
  .rw[show glR (.ifr y g z t)=_ from(ar c).trans (aq a)]
   refine JT ⟨h.2.2.1,#[],h.1,h.2.2.2⟩ λvs _=>?_
   subst a;rw[Zbp,Zgw]
  .rw[show glR (.ifr y g z t)=_ from(ar c).trans (ar a)];exact .id h
def ZgA(h:stK y z=ae)(vs:Li Int):soI (woI vs y) g (woI vs z)=soI (opV y) g (opV z):=by
 unfold stK at h;rw[bL,Ba,aO]at h;rcases h with h|rfl
 .cases y with
  |nm _=>exact nomatch h.1
  |nu a=>cases z with
   |nm _=>exact nomatch h.2
   |nu b=>rfl
 .exact Zc6
def ZfS(h:RwOk m sz (.ifr y g z t))(q:stK y z=ae):Dz m sz j (.ifr y g z t) (seR y g z t):=by
 have e:=ZgA (g:=g) q;unfold seR;cases c:soI (opV y) g (opV z) with
 |true=>exact⟨h.2.2.2,λvs _=>by show Sum.inr (t,vs)=Sum.inr (if soI (woI vs y) g (woI vs z)=ae then t else j+1,vs);rw[e,c];rfl⟩
 |false=>exact⟨trivial,λvs _=>by show Sum.inr (j+1,vs)=Sum.inr (if soI (woI vs y) g (woI vs z)=ae then t else j+1,vs);rw[e,c];rfl⟩
def ZfL{a b:Int}:ak (a - 1 < b)=ak (a<=b):=decide_eq_decide.mpr ⟨λh=>by omega,λh=>by omega⟩
def ZfM{a b:Int}:ak (a < b+1)=ak (a<=b):=decide_eq_decide.mpr ⟨λh=>by omega,λh=>by omega⟩
def JU(h:RwOk m sz (.ifr y (S "<=") z t)):Dz m sz j (.ifr y (S "<=") z t) (maY y z t):=by
 cases y with
 |nm i=>exact .id h
 |nu v=>
  by_cases c:-1000000000 < v
  .rw[show maY (.nu v) z t=_ from aq c]
   have a:Sm v:=h.1;refine JT ⟨(show Sm (v - 1) by unfold Sm at *;omega),#[],h.2.2.1,h.2.2.2⟩ λvs _=>?_
   show(if soI (v - 1) (S "<") (woI vs z)=ae then t else j+1)=if soI v (S "<=") (woI vs z)=ae then t else j+1
   rw[Zbq,Zbp,ZfL]
  .rw[show maY (.nu v) z t=_ from ar c];exact .id h
def ZfP(h:RwOk m sz (.ifr y g z t)):Dz m sz j (.ifr y g z t) (maR (.ifr y g z t)):=by
 by_cases c:g=S "<="
 .rw[show maR (.ifr y g z t)=_ from aq c]
  subst c;cases z with
  |nm i=>exact JU h
  |nu v=>
   by_cases c:v < 999999999
   .rw[show maZ y (.nu v) t=_ from aq c]
    have a:Sm v:=h.2.2.1;refine JT ⟨h.1,#[],(show Sm (v+1) by unfold Sm at *;omega),h.2.2.2⟩ λvs _=>?_
    show(if soI (woI vs y) (S "<") (v+1)=ae then t else j+1)=if soI (woI vs y) (S "<=") v=ae then t else j+1
    rw[Zbq,Zbp,ZfM]
   .rw[show maZ y (.nu v) t=_ from ar c];exact JU h
 .rw[show maR (.ifr y g z t)=_ from ar c];exact .id h
def ZfQ(h:RwOk m sz (.ifr y g z t)):Dz m sz j (.ifr y g z t) (miR j (.ifr y g z t)):=by
 by_cases c:t=j+1
 .rw[show miR j (.ifr y g z t)=_ from aq c]
  exact⟨trivial,λvs _=>by
   show Sum.inr (j+1,vs)=Sum.inr (if soI (woI vs y) g (woI vs z)=ae then t else j+1,vs)
   rw[c];split<;>rfl⟩
 .rw[show miR j (.ifr y g z t)=_ from ar c]
  refine .tr (ZfN h) λf=>?_
  obtain⟨e,g1,d,l⟩:=J5 (y:=y) (g:=g) (z:=z);rw[l]at f ⊢;by_cases q:stK e d=ae
  .rw[show m2R (.ifr e g1 d t)=_ from aq q];exact ZfS f q
  .rw[show m2R (.ifr e g1 d t)=_ from ar q]
   refine .tr (Zen f) λi=>?_
   obtain⟨o,g2,n,k⟩:=ZaA (y:=e) (g:=g1) (z:=d) (a:=S "=") (b:=S "!=");rw[k]at i ⊢;exact ZfP i
def Zdq(h:RwOk m sz r):Dz m sz j r (mdR j r):=by
 cases r with
 |put x y g z=>exact ZfR h
 |ifr y g z t=>exact ZfQ h
 |go t=>
  by_cases c:t=j+1
  .rw[show mdR j (.go t)=_ from aq c,c];exact⟨trivial,λ_ _=>rfl⟩
  .rw[show mdR j (.go t)=_ from ar c];exact .id h
 |tell y=>exact .id h
 |skip=>exact .id h
end
section
variable{c:CE}{k t:Bool}{Q:D->Prop}
def Y.tof(b:s[j]?=aa (t,xs))(h:Y F s e U (.lst j)):Y F s (.tOf e) U (.tup xs):=λst g=>by
 obtain⟨s1,c,a⟩:=h st g;exact⟨s1,Vb c ((g.trans a).get b),a⟩
def Lv.tof(h:Lv s (ev F e U) xs):Y F s (.tOf e) U (.tup xs):=λst g=>by
 obtain⟨s1,j,b,d,c,a⟩:=h st g;exact⟨s1,Vb d c,a⟩
end
def VD(a b:Nat):a+b=(a ^^^ b)+2 * (a &&& b):=by
 induction a using Nat.strongRecOn generalizing b with
 |_ a c=>
  by_cases h:a=0
  .subst h;simp
  .have i:=c (a / 2) ∅ (b / 2)
   rw[<-Nat.xor_div_two,<-Nat.and_div_two]at i;have x:=@Nat.xor_mod_two_eq_one a b;have n:=@Nat.and_mod_two_eq_one a b;generalize a ^^^ b=q at *
   generalize a &&& b=r at *
   rcases dP a with ha|ha<;>rcases dP b with hb|hb<;>rw[ha,hb]at x n
   .have:=(dP q).resolve_right λz=>(by simp at x;omega)
    have:=(dP r).resolve_right λz=>(by simp at n;omega)
    omega
   .have:=x.mpr (by simp)
    have:=(dP r).resolve_right λz=>(by simp at n;omega)
    omega
   .have:=x.mpr (by simp)
    have:=(dP r).resolve_right λz=>(by simp at n;omega)
    omega
   .have:=(dP q).resolve_right λz=>(by simp at x;omega)
    have:=n.mpr ⟨rfl,rfl⟩;omega
def Zc9{c i:Nat}(h:c.testBit i=ae):c - 2 ^ i=c ^^^ 2 ^ i:=by
 have a:=VD (c ^^^ 2 ^ i) (2 ^ i);have d:(c ^^^ 2 ^ i) ^^^ 2 ^ i=c:=by rw[Nat.xor_assoc,Nat.xor_self,Nat.xor_zero]
 have b:(c ^^^ 2 ^ i) &&& 2 ^ i=0:=by
  apply eU
  intro j;rw[dE,Nat.testBit_xor,dQ,fO];by_cases e:i=j
  .subst e;simp[h]
  .simp[e]
 rw[d,b]at a;omega
noncomputable def woN(c i:Nat):Nat:=c - (c &&& 2 ^ i)
def ZbC{c i j:Nat}:(woN c i).testBit j=(c.testBit j&&!decide (j=i)):=by
 unfold woN;cases h:c.testBit i with
 |false=>
  have e:c &&& 2 ^ i=0:=by
   apply eU
   intro k;rw[dE,dQ,fO];by_cases e:i=k
   .subst e;simp[h]
   .simp[e]
  rw[e,Nat.sub_zero];by_cases e:j=i
  .subst e;simp[h]
  .simp[e]
 |true=>
  have e:c &&& 2 ^ i=2 ^ i:=by
   apply eU
   intro k;rw[dE,dQ];by_cases e:i=k
   .subst e;simp[h]
   .simp[e]
  rw[e,Zc9 h,Nat.testBit_xor,dQ];by_cases e:j=i
  .subst e;simp[h]
  .have:¬i=j:=λz=>e z.symm
   simp[e,this]
def ZbR{a k:Nat}:ak (((a &&& 2 ^ k:Nat):Int)=0)=!a.testBit k:=by
 have:(a &&& 2 ^ k=0)↔a.testBit k=af:=by
  constructor
  .intro h
   have:=av (λz=>z.testBit k) h
   simp only[dE,Nat.testBit_two_pow_self,dO,fO]at this;exact this
  .intro h
   refine eU λi=>?_
   rw[dE,dQ,fO];by_cases c:k=i
   .rw[<-c,h];rfl
   .rw[aG c,Bool.and_false]
 cases q:a.testBit k with
 |false=>rw[aE (by rw[this.mpr q];rfl)];rfl
 |true=>rw[aG (λh=>by have:=this.mp (Int.ofNat.inj h);rw[q]at this;cases this)];rfl
variable{E:Ot D->Env}
variable{it:CE}{u:Ot Rw}
section
variable{i':Nat}{t:Bool}{o:Ot Rw}
def Y.band(e:Y F s a U (.int (c:Int)))(d:Y F s b U (.int (k:Int))):Y F s (.bin .BitAnd a b) U (.int ((c &&& k:Nat):Int)):=.bi e d (by
 show(if 0<=(c:Int)/\0<=(k:Int) then aa (((c:Int).toNat &&& (k:Int).toNat:Nat):Int) else if 0<=(c:Int)/\(k:Int) < 0 then aa ((c:Int) - (((c:Int).toNat &&& (-(k:Int) - 1).toNat:Nat):Int)) else ab)=_
 rw[aq ⟨eV _,eV _⟩,bJ,bJ])
def Y.bor(e:Y F s a U (.int (c:Int)))(d:Y F s b U (.int (k:Int))):Y F s (.bin .BitOr a b) U (.int ((c ||| k:Nat):Int)):=.bi e d (by
 show(if 0<=(c:Int)/\0<=(k:Int) then aa (((c:Int).toNat ||| (k:Int).toNat:Nat):Int) else ab)=_
 rw[aq ⟨eV _,eV _⟩,bJ,bJ])
def Zd2(a:k<=60):C (rT (n+2)) s 114 [.int (c:Int),.int (k:Int)] (.bl (c.testBit k)):=
 .of (v:=XQ) rfl rfl (.ret (.cmp (.band () (.call1 () (Qc a))) () λst=>by
  show(aa (ak (((c &&& 2 ^ k:Nat):Int)=0))).map Bool.not=_;rw[ZbR];show aa (!!c.testBit k)=_;rw[Bool.not_not]))
def ZgI{v:Nat}:Q4 .BitAnd (c:Int) (-(v:Int) - 1)=aa ((c - (c &&& v):Nat):Int):=by
 have a:c &&& v<=c:=Nat.and_le_left;show(if 0<=(c:Int)/\0<=-(v:Int) - 1 then aa (((c:Int).toNat &&& (-(v:Int) - 1).toNat:Nat):Int) else if 0<=(c:Int)/\-(v:Int) - 1 < 0 then aa ((c:Int) - (((c:Int).toNat &&& (-(-(v:Int) - 1) - 1).toNat:Nat):Int)) else ab)=_
 rw[ar ∅,aq ∅,bJ,show(-(-(v:Int) - 1) - 1).toNat=v by omega,Int.ofNat_sub a]
def ZfA(a:k<=60):C (rT (n+2)) s 57 [.int (c:Int),.int (k:Int)] (.int ((woN c k:Nat):Int)):=
 .of (v:=Yv) rfl rfl (.ret (.bi (i:=(c:Int)) (j:=-((2 ^ k:Nat):Int) - 1) () (g1 (.call1 () (Qc a)) (gp λ_=>rfl)) ZgI))
def Zd1(a:k<=60):C (rT (n+2)) s 56 [.int (k:Int)] (.int ((2 ^ k - 1:Nat):Int)):=by
 refine .of (v:=Xp) rfl rfl (.ret ?_);rw[Int.ofNat_sub (Nat.one_le_two_pow)];exact .sub (.call1 () (Qc a)) ()
def Bs(F:Nat->Fn)(s:Za)(q:CS)(U:Env)(o:Ot D):Prop:=∀ st,Grw s st->∃ st',ex F q U st=aa (match o with|some d=>.rt d|none=>.nx U,st')/\Grw st st'
theorem Bs.skip:Bs F s .skip U ab:=λst _=>⟨st,rfl,.refl⟩
theorem Bs.ite{o:Ot D}(h:Y F s e U (.bl t))(l:t=ae->Y F s a U d)(k:t=af->Bs F s q U o):Bs F s (.seq (.ite e (.q a) .skip) q) U (if t=ae then aa d else o):=λst g=>by
 obtain⟨s1,j,b⟩:=h st g;cases t with
 |true=>
  obtain⟨c,i,f⟩:=l rfl s1 (g.trans b);exact⟨c,Zj ((ZN j).trans (Zj (ZU i))),b.trans f⟩
 |false=>
  obtain⟨c,i,f⟩:=k rfl s1 (g.trans b);exact⟨c,(Zc ((YA j).trans Zg)).trans i,b.trans f⟩
noncomputable def skR{α:Type}(f:α->Ot D):Li α->Ot D
 |[]=>ab
 |x :: l=>match f x with
  |some d=>aa d
  |none=>skR f l
theorem Zfj{α:Type}{en:α->D}{f:α->Ot D}{E:Ot D->Env}(c:∀ y d,Zh (E y) i d=E (aa d)):∀ {l:Li α},(∀ x∈l,Bs F s q (E (aa (en x))) (f x))->∀ {y:Ot D}{st:Za},Grw s st->∃ a st',Zi (λd U s=>ex F q (Zh U i d) s) (l.map en) (E y) st=aa (match skR f l with|some d=>.rt d|none=>.nx (E a),st')/\Grw st st'
 |[],_,y,st,_=>⟨y,st,rfl,.refl⟩
 |x :: l,h,y,st,g=>by
  obtain⟨s1,n,b⟩:=h x Ls st g;obtain⟨a,e,m,j⟩:=Zfj c (λz k=>h z (Lm _ k)) (y:=aa (en x)) (g.trans b)
  show ∃ a st',(match ex F q (Zh (E y) i (en x)) st with
   |some (.nx U',st')=>Zi (λd U s=>ex F q (Zh U i d) s) (l.map en) U' st'
   |some (.ct U',st')=>Zi (λd U s=>ex F q (Zh U i d) s) (l.map en) U' st'
   |some (.bk U',st')=>aa (.nx U',st')
   |some (.rt v,st')=>aa (.rt v,st')
   |none=>ab)=_/\_
  rw[c,n];unfold skR;cases f x with
  |some d=>exact⟨y,s1,rfl,b⟩
  |none=>exact⟨a,e,m,b.trans j⟩
def R.seekD{l:Li α}{en:α->D}{f:α->Ot D}{y:Ot D}(u:∀ y d,Zh (E y) i d=E (aa d))(r:Y F s it (E y) (.tup (l.map en)))(t:∀ x∈l,Bs F s q (E (aa (en x))) (f x))(o:∀ y,R F s p (E y) d):R F s (.seq (.for1 i af it q) p) (E y) ((skR f l).getD d):=λst g=>by
 obtain⟨s1,j,a⟩:=r st g;obtain⟨k,h,b,e⟩:=Zfj u t (y:=y) (g.trans a);cases c:skR f l with
 |some v=>rw[c]at b;exact⟨h,Zj ((for_tup j).trans b),a.trans e⟩
 |none=>
  rw[c]at b;obtain⟨m,w,n⟩:=o k h (g.trans (a.trans e));exact⟨m,(Zc ((for_tup j).trans b)).trans w,a.trans (e.trans n)⟩
def R.seekR{N:Nat}{f:Nat->Ot D}{y:Ot D}(A:∀ y d,Zh (E y) i d=E (aa d))(w:Y F s it (E y) (.int (N:Int)))(hN:N<=1000000)(z:∀ x,x < N->Bs F s q (E (jN x)) (f x))(u:∀ y,R F s p (E y) d):R F s (.seq (.for1 i ae it q) p) (E y) ((skR f (aj N)).getD d):=λst g=>by
 obtain⟨s1,C,a⟩:=w st g;obtain⟨n,m,b,h⟩:=Zfj (en:=λ(k:Nat)=>D.int (k:Int)) (l:=aj N) A (λx t=>z x (bQ.mp t)) (y:=y) (g.trans a)
 have j:=YN (F:=F) (i:=i) (e:=it) (q:=q) (v:=(N:Int)) ∅ ∅ C
 rw[bJ]at j;cases c:skR f (aj N) with
 |some v=>rw[c]at b;exact⟨m,Zj (j.trans b),a.trans h⟩
 |none=>
  rw[c]at b;obtain⟨o,B,r⟩:=u n m (g.trans (a.trans h));exact⟨o,(Zc (j.trans b)).trans B,a.trans (h.trans r)⟩
end
noncomputable def ZfW:D:=.tup [.str "end"]
def roD:Ot Rw->D
 |none=>ZfW
 |some r=>rwE r
noncomputable def isE:Ot Rw->Bool
 |none=>ae
 |some (.tell _)=>ae
 |_=>af
noncomputable def XI:Rw->Li (Nat×Op)
 |.put _ y _ z=>[(2,y),(4,z)]
 |.ifr y _ z _=>[(1,y),(3,z)]
 |.tell y=>[(1,y)]
 |_=>[]
noncomputable def inB(b:Nat):Op->Bool
 |.nm i=>b.testBit i
 |.nu _=>ae
def rdO(b:Nat)(r:Rw):Bool:=(XI r).all λp=>inB b p.2
def eaB(b:Nat)(o u:Ot Rw):Bool:=ak (o=u)&&(match o with|none=>ae|some r=>rdO b r)
def caB(b:Nat):Rw->Rw->Bool
 |.ifr y g z t,.ifr c g' a _=>Zq [opE y,.str g,opE z] [opE c,.str g',opE a]&&rdO b (.ifr y g z t)
 |_,_=>af
def woX(b:Nat):Rw->Nat
 |.put x _ _ _=>woN b x
 |_=>b
noncomputable def isP:Rw->Bool
 |.put _ _ _ _=>ae
 |_=>af
noncomputable def tgR:Rw->Nat
 |.put x _ _ _=>x
 |_=>0
def stN(b:Nat)(r q:Rw):Nat:=if (isP r&&(ak (aa r=aa q)&&rdO b r))=ae then b ||| 2 ^ tgR r else woX (woX b r) q
noncomputable def pbN(k:Nat):Rw->Li Nat
 |.go t=>[t]
 |.ifr _ _ _ t=>[t,k+1]
 |_=>[k+1]
section
variable{q:Rw}{o:Ot Rw}
def Zf8:S "put"≠S "end"/\S "if"≠S "end"/\S "go"≠S "end"/\S "tell"≠S "end"/\S "skip"≠S "end":=by decide +kernel
def Zbf(o:Ot Rw):∃ a,roD o=.tup a/\okD 8 (.tup a)=ae:=by
 cases o with
 |none=>exact⟨_,rfl,rfl⟩
 |some r=>exact U2 r
def Ze2(h:roD o=roD u):o=u:=by
 obtain⟨e,d,c,b,a⟩:=Zf8;have ne:∀ r:Rw,rwE r≠ZfW:=λr h=>by
  cases r with
  |put _ _ _ _=>exact au (Zw h) e
  |ifr _ _ _ _=>exact au (Zw h) d
  |go _=>exact au (Zw h) c
  |tell _=>exact au (Zw h) b
  |skip=>exact au (Zw h) a
 cases o with
 |none=>cases u with
  |none=>rfl
  |some r=>exact au h.symm (ne r)
 |some r=>cases u with
  |none=>exact au h (ne r)
  |some q=>rw[U1 h]
def Y.eqro(g:Y F s a U (roD o))(f:Y F s b U (roD u)):Y F s (.e a b) U (.bl (ak (o=u))):=by
 obtain⟨j,c,i⟩:=Zbf o;obtain⟨ys,d,k⟩:=Zbf u;have e:ak (o=u)=Zq j ys:=by
  rw[Wm i];refine decide_eq_decide.mpr ⟨λh=>?_,λh=>Ze2 (by rw[c,d,h])⟩
  rw[h,d]at c;injection c with c;exact c.symm
 rw[c]at g;rw[d]at f;rw[e];exact .eqd g f i k
inductive RoP(m:Nat)(rs:List Rw)(k:Nat):Option Rw->Prop where
 |e (h:rs.length<=k):RoP m rs k ab
 |r {r r':Rw} (h:rs[k]?=aa r) (ok:RwOk m rs.length r') (al:Als m k r r'):RoP m rs k (aa r')
def rm(rs:Li Rw)(k:Nat):Ot Rw:=(rs[k]?).map (mdR k)
def Ze1(a:Rs m rs):RoP m rs k (rm rs k):=by
 unfold rm;cases q:rs[k]? with
 |none=>exact .e (eD.mp q)
 |some r=>
  have d:=Zdq (j:=k) (a.ok _ (aV q));exact .r q d.1 d.2
def Qe(e:Rs m rs):C (rT (n+6)) s 115 [pgD tk m rs,.int (k:Int)] (roD (rm rs k)):=by
 have d:Y (rT (n+5)) s (.cmp .GtE (.v 1) (.len (.x 0 2))) [aa (pgD tk m rs),jN k] (.bl (ak ((rs.length:Int)<=(k:Int)))):=by
  have:=Y.cmp (F:=rT (n+5)) (s:=s) (op:=.GtE) (a:=.v 1) (b:=.len (.x 0 2)) (U:=[aa (pgD tk m rs),jN k]) (x:=.int (k:Int)) (y:=.int ((rs.map rwE).length:Int)) () (.lnT ()) λ_=>rfl
  rw[aD]at this;exact this
 unfold rm;cases c:rs[k]? with
 |none=>
  have:=eD.mp c;exact .of (v:=Xy) rfl rfl (.pick d (λ_=>.ret ()) λq=>au (am q) ∅)
 |some r=>
  have:=Zx c;exact .of (v:=Xy) rfl rfl (.pick d (λq=>au (ao q) ∅) λ_=>.ret (.call (xs:=[rwE r,.int (k:Int)]) (.cons (.ixt (j:=k) (xs:=rs.map rwE) () () (by rw[aX,c];rfl)) ()) (Zd5 (e.ok _ (aV c)))))
def Jw:C (rT (n+1)) s 116 [roD o] (.bl (isE o)):=by
 have a:Y (rT n) s (.e (.v 0) (.c (.tup [.str "end"]))) [aa (roD o)] (.bl (ak (o=ab))):=.eqro (u:=ab) () ();cases o with
 |none=>exact .of (v:=YK) rfl rfl (.ret (.or (k:=ae) (m:=af) a λq=>nomatch q))
 |some r=>cases r<;>exact .of (v:=YK) rfl rfl (.ret (.or (k:=af) a λ_=>.r rf))
def ZeR:∀ p∈XI r,∃ b,rwE r=.tup b/\b[p.1]?=aa (opE p.2):=λp a=>by
 cases r with
 |put x y g z=>
  simp only[XI,aK,cA,or_false]at a;rcases a with rfl|rfl<;>exact⟨_,rfl,rfl⟩
 |ifr y g z t=>
  simp only[XI,aK,cA,or_false]at a;rcases a with rfl|rfl<;>exact⟨_,rfl,rfl⟩
 |tell y=>
  simp only[XI,aK,cA,or_false]at a;subst a;exact⟨_,rfl,rfl⟩
 |go t=>cases a
 |skip=>cases a
def ZaY(h:RwOk m sz r):∀ p∈XI r,WI m p.2:=λp a=>by
 cases r with
 |put x y g z=>
  simp only[XI,aK,cA,or_false]at a;rcases a with rfl|rfl
  .exact h.2.1
  .exact h.2.2.2
 |ifr y g z t=>
  simp only[XI,aK,cA,or_false]at a;rcases a with rfl|rfl
  .exact h.1
  .exact h.2.2.1
 |tell y=>
  simp only[XI,aK,cA,or_false]at a;subst a;exact h
 |go t=>cases a
 |skip=>cases a
def Jy:C (rT (n+1)) s 113 [rwE r] (.tup ((XI r).map λp=>.int (p.1:Int))):=by
 cases r<;>exact .of (v:=Z2) rfl rfl (.ret ())
def W6(f:m<=60)(h:RwOk m sz r):C (rT (n+3)) s 117 [rwE r,.int (c:Int)] (.bl (rdO c r)):=by
 have e:D.bl (rdO c r)=(skR (λp:Nat×Op=>if (!inB c p.2)=ae then aa (.bl af) else ab) (XI r)).getD (.bl ae):=by
  unfold rdO
  induction XI r with
  |nil=>rfl
  |cons p l d=>
   unfold skR;rw[bT];cases inB c p.2 with
   |true=>exact d
   |false=>rfl
 rw[e];refine .of (v:=YM) rfl rfl (.seekD (i:=2) (l:=XI r) (en:=λp=>.int (p.1:Int)) (E:=λy=>[aa (rwE r),jN c,y]) (λ_ _=>rfl) (.call (xs:=[rwE r]) () Jy) (λp b=>?_) λy=>.ret ())
 obtain⟨xs,o,g⟩:=ZeR p b;have a:Y (rT (n+2)) s (.ix (.v 0) (.v 2)) [aa (rwE r),jN c,jN p.1] (opE p.2):=by
  rw[o];exact .ixt (j:=p.1) (xs:=xs) () () g
 have ok:=ZaY h p b;refine .ite (t:=!inB c p.2) ?_ (λ_=>.r rf) λ_=>.skip
 cases q:p.2 with
 |nm x=>
  rw[q]at a ok;exact .and (k:=ae) (.cmp (x:=.str "name") (.ixt (j:=0) a () rfl) () λ_=>rfl) λ_=>.not (.call (xs:=[.int (c:Int),.int (x:Int)]) (.cons () (.cons (.ixt (j:=1) a () rfl) .nil)) (Zd2 (dS (aS ok f))))
 |nu v=>
  rw[q]at a;exact .and (k:=af) (m:=af) (.cmp (x:=.str "number") (.ixt (j:=0) a () rfl) () λ_=>rfl) λq=>nomatch q
def Qd(b:m<=60)(h:∀ r,o=aa r->RwOk m sz r):C (rT (n+4)) s 118 [roD o,roD u,.int (c:Int)] (.bl (eaB c o u)):=by
 refine .of (v:=Y0) rfl rfl (.ret (.and (.eqro () ()) λ_=>?_))
 have a:Y (rT (n+3)) s (.e (.v 0) (.c (.tup [.str "end"]))) [aa (roD o),aa (roD u),jN c] (.bl (ak (o=ab))):=.eqro (u:=ab) () ();cases o with
 |none=>exact .or (k:=ae) (m:=af) a λq=>nomatch q
 |some r=>exact .or (k:=af) a λ_=>.call (xs:=[rwE r,.int (c:Int)]) () (W6 b (h r rfl))
def ZbI(d:m<=60)(h:RwOk m sz r):C (rT (n+4)) s 119 [rwE r,rwE q,.int (c:Int)] (.bl (caB c r q)):=by
 cases r with
 |ifr y g z t=>cases q with
  |ifr b g' a e=>
   refine .of (v:=ZI) rfl rfl (.ret (.and (k:=ae) () λ_=>.and (k:=ae) () λ_=>.and (.eqd (xs:=[opE y,.str g,opE z]) (ys:=[opE b,.str g',opE a]) () () ?_ ?_) λ_=>.call (xs:=[rwE (.ifr y g z t),.int (c:Int)]) () (W6 d h)))
   .cases y<;>cases z<;>rfl
   .cases b<;>cases a<;>rfl
  |_=>exact .of (v:=ZI) rfl rfl (.ret (.and (k:=ae) () λ_=>.and (k:=af) (m:=af) () λq=>nomatch q))
 |_=>exact .of (v:=ZI) rfl rfl (.ret (.and (k:=af) (m:=af) () λq=>nomatch q))
def QU{A B y:Ot D}(d:m<=60)(h:RwOk m sz r):∀ st,Grw s st->∃ st',ex (rT (n+3)) Zy [A,B,jN c,aa (rwE r)] st=aa (.nx [A,B,aa (.int ((woX c r:Nat):Int)),aa (rwE r)],st')/\Grw st st':=λst g=>by
 cases r with
 |put x y g z=>
  obtain⟨s1,e,b⟩:=Y.call (F:=rT (n+3)) (s:=st) (f:=57) (a:=.a 2 (.u (.x 3 1))) (U:=[A,B,jN c,aa (rwE (.put x y g z))]) (xs:=[.int (c:Int),.int (x:Int)]) (ds:=[]) () (ZfA (n:=n+1) (dS (aS h.1 d))) st .refl;exact⟨s1,(Zc ((ZN rfl).trans ((Zc (Zm e)).trans Zg))).trans Zg,b⟩
 |_=>exact⟨st,(Zc ((YA rfl).trans Zg)).trans Zg,.refl⟩
def Zd7(b:m<=60)(h:RwOk m sz r)(D:RwOk m sz q):C (rT (n+4)) s 120 [rwE r,rwE q,.int (c:Int)] (.int ((stN c r q:Nat):Int)):=by
 have f:R (rT (n+3)) s (.seq (.for1 3 af (.g (.a 0 (.s 1))) Zy) (.q (.v 2))) [aa (rwE r),aa (rwE q),jN c,ab] (.int ((woX (woX c r) q:Nat):Int)):=λst g=>by
  obtain⟨s1,F,p⟩:=QU (n:=n) (s:=st) (c:=c) (A:=aa (rwE r)) (B:=aa (rwE q)) (y:=ab) b h st .refl;obtain⟨i,E,l⟩:=QU (n:=n) (s:=s1) (c:=woX c r) (A:=aa (rwE r)) (B:=aa (rwE q)) (y:=ab) b D s1 .refl;refine⟨i,(Zc (U':=[aa (rwE r),aa (rwE q),aa (.int ((woX (woX c r) q:Nat):Int)),aa (rwE q)]) (s':=i) ((for_tup (xs:=[rwE r,rwE q]) rfl).trans ?_)).trans (Zj (ZU rfl)),p.trans l⟩
  show(match ex (rT (n+3)) Zy [aa (rwE r),aa (rwE q),jN c,aa (rwE r)] st with
   |some (.nx U',st')=>Zi (λd U s=>ex (rT (n+3)) Zy (Zh U 3 d) s) [rwE q] U' st'
   |some (.ct U',st')=>Zi (λd U s=>ex (rT (n+3)) Zy (Zh U 3 d) s) [rwE q] U' st'
   |some (.bk U',st')=>aa (.nx U',st')
   |some (.rt v,st')=>aa (.rt v,st')
   |none=>ab)=_
  rw[F];show(match ex (rT (n+3)) Zy [aa (rwE r),aa (rwE q),aa (.int ((woX c r:Nat):Int)),aa (rwE q)] s1 with
   |some (.nx U',st')=>Zi (λd U s=>ex (rT (n+3)) Zy (Zh U 3 d) s) [] U' st'
   |some (.ct U',st')=>Zi (λd U s=>ex (rT (n+3)) Zy (Zh U 3 d) s) [] U' st'
   |some (.bk U',st')=>aa (.nx U',st')
   |some (.rt v,st')=>aa (.rt v,st')
   |none=>ab)=_
  rw[E];rfl
 have j:Y (rT (n+3)) s (.e (.x 0 0) (.t "put")) [aa (rwE r),aa (rwE q),jN c,ab] (.bl (isP r)):=by cases r<;>exact .r rf
 refine .of (v:=XT) rfl rfl (.pick (k:=isP r&&(ak (aa r=aa q)&&rdO c r)) (.and j λ_=>.and (.eqro (o:=aa r) (u:=aa q) () ()) λ_=>.call (xs:=[rwE r,.int (c:Int)]) () (W6 b h)) (λz=>?_) λz=>?_)
 .unfold stN
  rw[aq z];cases r with
  |put x y g w=>exact .ret (.bor () (.call1 (x:=.int (x:Int)) () (Qc (dS (aS h.1 b)))))
  |_=>cases z
 .unfold stN
  rw[ar (by rw[z];decide)]
  exact f
def VC:C (rT (n+1)) s 121 [rwE r,.int (k:Int)] (.tup ((pbN k r).map λ(x:Nat)=>D.int (x:Int))):=by
 have one:∀ {U:Env},U[1]?=aa (jN k)->Y (rT n) s (.p (.v 1) (.i 1)) U (.int ((k+1:Nat):Int)):=λ{U} h=>by
  rw[cD];exact .add (.v h) ()
 cases r with
 |go t=>exact .of (v:=ZF) rfl rfl (.yes () ())
 |ifr y g z t=>
  show C _ _ _ _ (.tup [.int (t:Int),.int ((k+1:Nat):Int)]);exact .of (v:=ZF) rfl rfl (.no () (.yes () (.cons () (.cons (one rfl) .nil))))
 |_=>
  show C _ _ _ _ (.tup [.int ((k+1:Nat):Int)]);exact .of (v:=ZF) rfl rfl (.no () (.no () (.ret (.cons (one rfl) .nil))))
end
noncomputable def trD(t:Nat×Nat×Nat):D:=.tup [.int (t.1:Int),.int (t.2.1:Int),.int (t.2.2:Int)]
def Ag(c:Nat)(vs a:Li Int):Prop:=∀ i,c.testBit i=ae->vs.getD i 0=a.getD i 0
def Mt(a:Li (Nat×Nat×Nat)):Sum D (Nat×Li Int)->Sum D (Nat×Li Int)->Prop
 |.inl o,.inl b=>o=b
 |.inr p,.inr q=>∃ t∈a,t.1=p.1/\t.2.1=q.1/\Ag t.2.2 p.2 q.2
 |_,_=>False
def roM(k:Nat)(vs:Li Int):Ot Rw->Sum D (Nat×Li Int)
 |none=>.inl noD
 |some r=>rv k vs r
structure FolT(m:Nat)(rs rs':List Rw)(k j c:Nat)(ts:List (Nat×Nat×Nat)):Prop where
 l:ts.length<=4
 b:∀ t∈ts,t.1<=rs.length/\t.2.1<=rs'.length/\t.2.2 < 2 ^ m
 s:∀ vs ws,Vs m vs->Vs m ws->Ag c vs ws->Mt ts (mv rs k vs) (mv rs' j ws)
variable{tk':D}{rs':Li Rw}{ws:Li Int}
section
variable{q:Rw}{o:Ot Rw}{y:Op}
theorem RoP.mv(h:RoP m rs k o)(a:Vs m vs):mv rs k vs=roM k vs o:=by
 cases h with
 |e h=>unfold Dp.mv;rw[cQ h];rfl
 |r h ok b=>rw[ZdL h];exact(b vs a).symm
def ZgG(h:inB c y=ae)(a:Ag c vs ws):woI vs y=woI ws y:=by
 cases y with
 |nm i=>exact a i h
 |nu v=>rfl
def Uh(h:rdO c r=ae)(a:Ag c vs ws):∀ p∈XI r,woI vs p.2=woI ws p.2:=λp b=>ZgG (cZ.mp h p b) a
def Zfk(h:eaB c o u=ae)(b:(isE o||isE u)=ae)(a:Ag c vs ws):Mt [] (roM k vs o) (roM j ws u):=by
 unfold eaB at h;rw[Ba,aO]at h;obtain⟨rfl,h⟩:=h;rw[Bool.or_self]at b;cases o with
 |none=>rfl
 |some r=>cases r with
  |tell y=>show teD _=teD _;rw[Uh h a (1,y) Ls]
  |_=>cases b
def U4(h:caB c r q=ae)(a:Ag c vs ws):∃ y g z t b,r=.ifr y g z t/\q=.ifr y g z b/\Mt [(t,b,c),(k+1,j+1,c)] (rv k vs r) (rv j ws q):=by
 cases r with
 |ifr y g z t=>cases q with
  |ifr i g' f b=>
   have h:(Zq [opE y,.str g,opE z] [opE i,.str g',opE f]&&rdO c (.ifr y g z t))=ae:=h;rw[Ba]at h;have e:=X8 h.1
   injection e with m e;injection e with d e;injection e with l _;injection d with d
   cases Y8 m;cases d;cases Y8 l
   refine⟨y,g,z,t,b,rfl,rfl,?_⟩;show ∃ p∈[(t,b,c),(k+1,j+1,c)],p.1=(if soI (woI vs y) g (woI vs z)=ae then t else k+1)/\p.2.1=(if soI (woI ws y) g (woI ws z)=ae then b else j+1)/\Ag p.2.2 vs ws
   rw[Uh h.2 a (1,y) Ls,Uh h.2 a (3,z) (Lm _ Ls)];split
   .exact⟨_,Ls,rfl,rfl,a⟩
   .exact⟨_,Lm _ Ls,rfl,rfl,a⟩
  |_=>cases h
 |_=>cases h
def ZbB(h:(woX c r).testBit i=ae):c.testBit i=ae/\(isP r=ae->i≠tgR r):=by
 cases r with
 |put x y g z=>
  have h:(woN c x).testBit i=ae:=h;rw[ZbC,Ba]at h;refine⟨h.1,λ_ e=>?_⟩
  have e:i=x:=e;rw[aE e]at h;cases h.2
 |_=>exact⟨h,λq=>nomatch q⟩
def QX(h:isP r=ae->i≠tgR r):(vsN vs r).getD i 0=vs.getD i 0:=by
 cases r with
 |put x y g z=>
  have h:i≠x:=h rfl;show(vs.set x _).getD i 0=_;rw[aQ,aQ,bX (Ne.symm h)]
 |_=>rfl
def Zgy(p:Vs m vs)(o:Vs m ws)(ok:RwOk m sz r)(a:Ag c vs ws):Ag (stN c r q) (vsN vs r) (vsN ws q):=λi h=>by
 unfold stN at h;split at h
 .rename_i z
  rw[Ba,Ba,aO]at z;obtain⟨j,f,d⟩:=z;cases f;cases r with
  |put x y g z=>
   have e:rkI (woI vs y) g (woI vs z)=rkI (woI ws y) g (woI ws z):=by
    rw[Uh d a (2,y) Ls,Uh d a (4,z) (Lm _ Ls)]
   have v:=p.l;have u:=o.l;have w:x < m:=ok.1;show(vs.set x _).getD i 0=(ws.set x _).getD i 0;rw[aQ,aQ];by_cases b:x=i
   .subst b
    rw[bR ∅,bR ∅,e]
   .rw[bX b,bX b,<-aQ,<-aQ]
    have h:(c ||| 2 ^ x).testBit i=ae:=h;rw[Nat.testBit_or,dQ,aG b,cL]at h;exact a i h
  |_=>cases j
 .obtain⟨t,n⟩:=ZbB h
  obtain⟨s,k⟩:=ZbB t;rw[QX k,QX n];exact a i s
def Zd0:woX c r<=c:=by
 cases r with
 |put x y g z=>exact Nat.sub_le _ _
 |_=>exact aB _
def Zgz(a:c < 2 ^ m)(ok:RwOk m sz r):stN c r q < 2 ^ m:=by
 unfold stN;split
 .rename_i z
  rw[Ba]at z;cases r with
  |put x y g w=>exact Nat.or_lt_two_pow a (Nat.pow_lt_pow_right #[] ok.1)
  |_=>cases z.1
 .exact Nat.lt_of_le_of_lt (aP Zd0 Zd0) a
def Za3(a:∀ y,r≠.tell y):∃ x∈pbN k r,rv k vs r=.inr (x,vsN vs r):=by
 cases r with
 |tell y=>exact au rfl (a y)
 |ifr y g z t=>
  show ∃ x∈[t,k+1],Sum.inr (if soI (woI vs y) g (woI vs z)=ae then t else k+1,vs)=Sum.inr (x,vs)
  split
  .exact⟨_,Ls,rfl⟩
  .exact⟨_,Lm _ Ls,rfl⟩
 |_=>exact⟨_,Ls,rfl⟩
def ZdR(a:k < sz)(ok:RwOk m sz r):∀ x∈pbN k r,x<=sz:=λx hx=>by
 cases r with
 |go t=>rw[aI.mp hx];exact ok
 |ifr y g z t=>
  rcases aK.mp hx with rfl|hx
  .exact ok.2.2.2
  .rw[aI.mp hx];exact a
 |_=>rw[aI.mp hx];exact a
def UT:(pbN k r).length<=2:=by cases r<;>first|exact aB _|exact Nat.le_succ _
noncomputable def tgI:Rw->Nat
 |.ifr _ _ _ t=>t
 |_=>0
def WM(k j c:Nat)(r q:Rw):Li (Nat×Nat×Nat):=(pbN k r).flatMap λp=>(pbN j q).map λa=>(p,a,stN c r q)
def Qo:(WM k j c r q).length<=4:=by
 have d:=UT (k:=j) (r:=q);have h:∀ l:Li Nat,(l.flatMap λp=>(pbN j q).map λa=>(p,a,stN c r q)).length<=2 * l.length:=λl=>by
  induction l with
  |nil=>exact aB _
  |cons x l b=>rw[fN,aH,aD,aY];omega
 have:=h (pbN k r);have:=UT (k:=k) (r:=r);unfold WM;omega
def Zfl(f:Vs m vs)(e:Vs m ws)(ok:RwOk m sz r)(h:∀ y,r≠.tell y)(g:∀ y,q≠.tell y)(a:Ag c vs ws):Mt (WM k j c r q) (rv k vs r) (rv j ws q):=by
 obtain⟨x,d,l⟩:=Za3 (k:=k) (vs:=vs) h;obtain⟨z,b,i⟩:=Za3 (k:=j) (vs:=ws) g;rw[l,i];exact⟨(x,z,stN c r q),dB.mpr ⟨x,d,aR.mpr ⟨z,b,rfl⟩⟩,rfl,rfl,Zgy f e ok a⟩
def foD:Ot (Li (Nat×Nat×Nat))->D
 |none=>.non
 |some a=>.tup (a.map trD)
def fvO(o u:Ot Rw)(k j c:Nat):Ot (Li (Nat×Nat×Nat)):=
 if (isE o||isE u)=ae then (if eaB c o u=ae then aa [] else ab)
 else match o,u with
  |some r,aa q=>aa (if caB c r q=ae then [(tgI r,tgI q,c),(k+1,j+1,c)] else WM k j c r q)
  |_,_=>ab
def WR(W:Rs m rs)(I:Rs m rs')(K:m<=60)(P:c < 2 ^ m):CX 7 122 [pgD tk m rs,pgD tk' m rs',.int (k:Int),.int (j:Int),.int (c:Int)] (λd=>d=foD (fvO (rm rs k) (rm rs' j) k j c)/\∀ B,fvO (rm rs k) (rm rs' j) k j c=aa B->FolT m rs rs' k j c B):=by
 have H:=Ze1 (k:=k) W;have G:=Ze1 (k:=j) I;have O:=λn s=>Qe (n:=n) (s:=s) (tk:=tk) (k:=k) W
 have N:=λn s=>Qe (n:=n) (s:=s) (tk:=tk') (k:=j) I
 generalize rm rs k=o at *
 generalize rm rs' j=u at *
 refine .of (v:=Wp) rfl rfl (.set (d:=roD o) (λn s=>.call (xs:=[pgD tk m rs,.int (k:Int)]) () (O n s)) (.set (d:=roD u) (λn s=>.call (xs:=[pgD tk' m rs',.int (j:Int)]) () (N n s)) ?_))
 have A:∀ r,o=aa r->RwOk m rs.length r:=λr e=>by
  subst e;cases H with|r h ok R=>exact ok
 have L:∀ r,u=aa r->RwOk m rs'.length r:=λr e=>by
  subst e;cases G with|r h ok R=>exact ok
 refine .pick (k:=isE o||isE u) (λn s=>.or (.call1 () Jw) λ_=>.call1 () Jw) (λw=>?_) λw=>?_
 .cases q:eaB c o u with
  |true=>
   refine .ret (d:=.tup []) (λn s=>.ife (k:=ae) (by rw[<-q];exact .call (xs:=[roD o,roD u,.int (c:Int)]) () (Qd K A)) ()) (by
    unfold fvO;rw[aq w,aq q];exact⟨rfl,λB e=>by cases e;exact⟨aU _,λt h=>(nomatch h),λvs ws F C a=>by
     rw[H.mv F,G.mv C];exact Zfk q w a⟩⟩)
  |false=>exact .ret (d:=.non) (λn s=>.ife (k:=af) (by rw[<-q];exact .call (xs:=[roD o,roD u,.int (c:Int)]) () (Qd K A)) ()) (by
    unfold fvO;rw[aq w,q];exact⟨rfl,λB e=>nomatch e⟩)
 .have M:=w
  rw[fK]at w;cases o with
  |none=>cases w.1
  |some r=>cases u with
   |none=>cases w.2
   |some q=>
    have b:=A r rfl;have o2:=L q rfl;have V:k < rs.length:=by cases H with|r h ok R=>exact Zx h
    have T:j < rs'.length:=by cases G with|r h ok R=>exact Zx h
    have ef:fvO (aa r) (aa q) k j c=aa (if caB c r q=ae then [(tgI r,tgI q,c),(k+1,j+1,c)] else WM k j c r q):=by
     unfold fvO;rw[M,ar #[]]
    rw[ef];refine .pick (k:=caB c r q) (λn s=>.call (xs:=[rwE r,rwE q,.int (c:Int)]) () (ZbI K b)) (λJ=>?_) λJ=>?_
    .obtain⟨y,g,z,t,S,rfl,rfl,_⟩:=U4 (vs:=[]) (ws:=[]) (k:=k) (j:=j) J λ_ _=>rfl
     have Q:FolT m rs rs' k j c [(t,S,c),(k+1,j+1,c)]:=⟨(show 2<=4 by decide),λp hp=>by
      rcases aK.mp hp with rfl|hp
      .exact⟨b.2.2.2,o2.2.2.2,P⟩
      .rw[aI.mp hp];exact⟨V,T,P⟩,λvs ws F C a=>by
      rw[H.mv F,G.mv C];obtain⟨_,_,_,_,_,e1,e2,e3⟩:=U4 (k:=k) (j:=j) J a;cases e1;cases e2
      exact e3⟩
     refine .ret (d:=.tup [trD (t,S,c),trD (k+1,j+1,c)]) (λn s=>?_) (by
      rw[aq J];exact⟨rfl,λB e=>by cases e;exact Q⟩)
     have one:∀ {i v:Nat}{U:Env},U[i]?=aa (jN v)->Y (rT (n+6)) s (.p (.v i) (.i 1)) U (.int ((v+1:Nat):Int)):=λ{i v U} h=>by
      rw[cD];exact .add (.v h) ()
     exact .cons (.cons () (.cons () (.cons () .nil))) (.cons (.cons (one (i:=2) rfl) (.cons (one (i:=3) rfl) (.cons () .nil))) .nil)
    .have Q:FolT m rs rs' k j c (WM k j c r q):=⟨Qo,λp hp=>by
      obtain⟨x,Z,hp⟩:=dB.mp hp;obtain⟨z,X,rfl⟩:=aR.mp hp;exact⟨ZdR V b x Z,ZdR T o2 z X,Zgz P b⟩,λvs ws F C a=>by
      rw[H.mv F,G.mv C];exact Zfl F C b (λy e=>by subst e;cases w.1) (λy e=>by subst e;cases w.2) a⟩
     refine .set (λn s=>.call (xs:=[rwE r,rwE q,.int (c:Int)]) () (Zd7 (sz:=max rs.length rs'.length) K ?_ ?_)) ⟨.tup ((WM k j c r q).map trD),λn s=>?_,by
      rw[J,ar #[]]
      exact⟨rfl,λB e=>by cases e;exact Q⟩⟩
     .cases r<;>first|exact b|exact aP b (Nat.le_max_left _ _)|exact⟨b.1,b.2.1,b.2.2.1,aP b.2.2.2 (Nat.le_max_left _ _)⟩
     .cases q<;>first|exact o2|exact aP o2 (Nat.le_max_right _ _)|exact⟨o2.1,o2.2.1,o2.2.2.1,aP o2.2.2.2 (Nat.le_max_right _ _)⟩
     .have e:(WM k j c r q).map trD=(pbN k r).flatMap λp=>(pbN j q).map λa=>trD (p,a,stN c r q):=by
       unfold WM;rw[List.map_flatMap];exact av (λf=>(pbN k r).flatMap f) (funext λp=>bM)
      rw[e];refine .gather (i0:=8) (i:=9) (E:=λy l=>[aa (pgD tk m rs),aa (pgD tk' m rs'),jN k,jN j,jN c,aa (rwE r),aa (rwE q),jI (stN c r q:Nat),jL l,y]) (en:=λ(p:Nat)=>D.int (p:Int)) (λ_=>rfl) (λ_ _ _=>rfl) (λ_ _=>rfl) (λl=>.call (xs:=[rwE r,.int (k:Int)]) () VC) (λl hl p hp=>.one (.ext rfl (ZeH (l:=pbN j q) (en:=λ(p:Nat)=>D.int (p:Int)) (g:=λa=>trD (p,a,stN c r q)) (.of (x:=.tup ((pbN j q).map λ(x:Nat)=>D.int (x:Int))) (.call (xs:=[rwE q,.int (j:Int)]) () VC) λst=>rfl) (by have:=UT (k:=j) (r:=q);omega) λa ha=>.cons () (.cons () (.cons () .nil))))) ?_
      rw[<-e,aD];have:=Qo (k:=k) (j:=j) (c:=c) (r:=r) (q:=q);omega
def Vr{b:Nat}(h:∀ i,b.testBit i=ae->c.testBit i=ae)(d:rdO b r=ae):rdO c r=ae:=cZ.mpr λp a=>by
 have:=cZ.mp d p a;cases e:p.2 with
 |nm i=>rw[e]at this;exact h i this
 |nu v=>rfl
def Zb2{b:Nat}(h:∀ i,b.testBit i=ae->c.testBit i=ae)(a:eaB b o u=ae):eaB c o u=ae:=by
 unfold eaB at a ⊢
 rw[Ba]at a ⊢;refine⟨a.1,?_⟩;cases o with
 |none=>rfl
 |some r=>exact Vr h a.2
def ZbW{b:Nat}(h:∀ i,b.testBit i=ae->c.testBit i=ae)(a:caB b r q=ae):caB c r q=ae:=by
 cases r with
 |ifr y g z t=>cases q with
  |ifr e g' d f=>
   have a:(Zq [opE y,.str g,opE z] [opE e,.str g',opE d]&&rdO b (.ifr y g z t))=ae:=a;show(Zq [opE y,.str g,opE z] [opE e,.str g',opE d]&&rdO c (.ifr y g z t))=ae;rw[Ba]at a ⊢;exact⟨a.1,Vr h a.2⟩
  |_=>cases a
 |_=>cases a
def Wg(i:Nat):(woX c r).testBit i=(c.testBit i&&!(isP r&&ak (i=tgR r))):=by
 cases r with
 |put x y g z=>exact ZbC
 |_=>exact(dO _).symm
def Zc8{b:Nat}(h:∀ i,b.testBit i=ae->c.testBit i=ae)(i:Nat)(a:(stN b r q).testBit i=ae):(stN c r q).testBit i=ae:=by
 unfold stN at a ⊢
 have w:∀ i,(woX (woX b r) q).testBit i=ae->(woX (woX c r) q).testBit i=ae/\c.testBit i=ae:=λi a=>by
  rw[Wg,Wg,Ba,Ba]at a;rw[Wg,Wg,h i a.1.1,a.1.2,a.2];exact⟨rfl,rfl⟩
 by_cases d:(isP r&&(ak (aa r=aa q)&&rdO b r))=ae
 .rw[aq d]at a
  rw[Ba,Ba]at d;rw[aq (by rw[Ba,Ba];exact⟨d.1,d.2.1,Vr h d.2.2⟩)]
  rw[Nat.testBit_or,bL]at a ⊢;exact a.imp (h i) id
 .rw[ar d]at a
  split
  .rw[Nat.testBit_or,(w i a).2];rfl
  .exact(w i a).1
def Qp{b:Nat}(h:∀ i,b.testBit i=ae->c.testBit i=ae):(fvO o u k j c=ab->fvO o u k j b=ab)/\∀ l a,fvO o u k j b=aa l->fvO o u k j c=aa a->∀ p∈a,∃ v∈l,v.1=p.1/\v.2.1=p.2.1/\∀ i,v.2.2.testBit i=ae->p.2.2.testBit i=ae:=by
 unfold fvO;cases n:isE o||isE u with
 |true=>
  rw[aq rfl,aq rfl];refine⟨λe=>?_,λl a _ f p hp=>?_⟩
  .split at e
   .exact nomatch e
   .rename_i q
    exact ar λz=>q (Zb2 h z)
  .split at f
   .cases f;exact nomatch hp
   .exact nomatch f
 |false=>
  rw[ar #[],ar #[]]
  rw[fK]at n;cases o with
  |none=>cases n.1
  |some r=>cases u with
   |none=>cases n.2
   |some q=>
    refine⟨λe=>(nomatch e),λl a B f p hp=>?_⟩
    cases B;cases f
    by_cases m:caB c r q=ae
    .rw[aq m]at hp
     by_cases s:caB b r q=ae
     .rw[aq s]
      rcases aK.mp hp with rfl|hp
      .exact⟨_,Ls,rfl,rfl,h⟩
      .rw[aI.mp hp];exact⟨_,Lm _ Ls,rfl,rfl,h⟩
     .rw[ar s]
      obtain⟨y,g,z,t,d,rfl,rfl,_⟩:=U4 (vs:=[]) (ws:=[]) (k:=k) (j:=j) m λ_ _=>rfl
      have C:stN b (.ifr y g z t) (.ifr y g z d)=b:=rfl;rcases aK.mp hp with rfl|hp
      .exact⟨(t,d,stN b (.ifr y g z t) (.ifr y g z d)),dB.mpr ⟨t,Ls,aR.mpr ⟨d,Ls,rfl⟩⟩,rfl,rfl,h⟩
      .rw[aI.mp hp]
       exact⟨(k+1,j+1,stN b (.ifr y g z t) (.ifr y g z d)),dB.mpr ⟨k+1,Lm _ Ls,aR.mpr ⟨j+1,Lm _ Ls,rfl⟩⟩,rfl,rfl,h⟩
    .rw[ar m]at hp
     rw[ar λz=>m (ZbW h z)]
     obtain⟨x,A,hp⟩:=dB.mp hp;obtain⟨z,w,rfl⟩:=aR.mp hp;exact⟨(x,z,stN b r q),dB.mpr ⟨x,A,aR.mpr ⟨z,w,rfl⟩⟩,rfl,rfl,Zc8 h⟩
end
noncomputable abbrev Tr:=Nat×Nat×Nat
def lk:Li Tr->Nat->Nat->Ot Nat
 |[],_,_=>ab
 |t :: a,k,j=>if t.1=k/\t.2.1=j then aa t.2.2 else lk a k j
def pt:Li Tr->Nat->Nat->Nat->Li Tr
 |[],k,j,b=>[(k,j,b)]
 |t :: a,k,j,b=>if t.1=k/\t.2.1=j then (k,j,b) :: a else t :: pt a k j b
def ky(t:Tr):Nat×Nat:=(t.1,t.2.1)
def sb(a:Li Tr):Nat:=(a.map λt=>t.2.2).sum
def Sb(b c:Nat):Prop:=∀ i,b.testBit i=ae->c.testBit i=ae
variable{M:Nat}
variable{sz':Nat}{ts us:Li Tr}{ah:Li (Nat×Nat)}
section
variable{b k' j':Nat}{t u:Tr}
theorem ZZ:∀ {ts:Li Tr},lk ts k j=aa b->(k,j,b)∈ts
 |t :: ts,h=>by
  unfold lk at h;split at h
  .rename_i e;cases h;rw[<-e.1,<-e.2];exact Ls
  .exact Lm _ (ZZ h)
theorem Yw:∀ {ts:Li Tr},(k,j)∈ts.map ky->∃ b,lk ts k j=aa b
 |t :: ts,h=>by
  unfold lk;split
  .exact⟨_,rfl⟩
  .rename_i n
   rcases aK.mp h with h|h
   .exact au ⟨(av Prod.fst h).symm,(av Prod.snd h).symm⟩ n
   .exact Yw h
theorem Qz:∀ {ts:Li Tr},lk ts k j=ab->∀ t∈ts,¬(t.1=k/\t.2.1=j)
 |t :: ts,h,u,hu=>by
  unfold lk at h;split at h
  .cases h
  .rename_i n
   rcases aK.mp hu with rfl|hu
   .exact n
   .exact Qz h u hu
theorem QA:∀ {ts:Li Tr},lk (pt ts k j b) k' j'=if k'=k/\j'=j then aa b else lk ts k' j'
 |[]=>by
  show(if k=k'/\j=j' then aa b else ab)=if k'=k/\j'=j then aa b else ab
  by_cases e:k'=k/\j'=j
  .rw[aq e,aq ⟨e.1.symm,e.2.symm⟩]
  .rw[ar e,ar λh=>e ⟨h.1.symm,h.2.symm⟩]
 |t :: ts=>by
  unfold pt;split
  .rename_i e
   show(if k=k'/\j=j' then aa b else lk ts k' j')=if k'=k/\j'=j then aa b else if t.1=k'/\t.2.1=j' then aa t.2.2 else lk ts k' j'
   rw[e.1,e.2];by_cases c:k'=k/\j'=j
   .rw[aq c,aq ⟨c.1.symm,c.2.symm⟩]
   .have a:¬(k=k'/\j=j'):=λh=>c ⟨h.1.symm,h.2.symm⟩
    rw[ar c,ar a,ar a]
  .rename_i n
   show(if t.1=k'/\t.2.1=j' then aa t.2.2 else lk (pt ts k j b) k' j')=if k'=k/\j'=j then aa b else if t.1=k'/\t.2.1=j' then aa t.2.2 else lk ts k' j'
   rw[QA];by_cases c:t.1=k'/\t.2.1=j'
   .rw[aq c,aq c,ar λh=>n ⟨c.1.trans h.1,c.2.trans h.2⟩]
   .rw[ar c,ar c]
theorem Vq:∀ {ts:Li Tr},u∈pt ts k j b->u=(k,j,b)\/u∈ts
 |[],h=>.inl (aI.mp h)
 |t :: ts,h=>by
  unfold pt at h;split at h
  .rcases aK.mp h with h|h
   .exact .inl h
   .exact .inr (Lm _ h)
  .rcases aK.mp h with rfl|h
   .exact .inr Ls
   .exact(Vq h).imp_right (Lm _)
theorem ZdT:∀ {ts:Li Tr},(ts.map ky).Nodup->((pt ts k j b).map ky).Nodup
 |[],_=>bY.mpr ⟨λh=>(nomatch h),List.nodup_nil⟩
 |t :: ts,h=>by
  have h:(ky t :: ts.map ky).Nodup:=h;unfold pt;split
  .rename_i e
   have e:ky t=(k,j):=by show(t.1,t.2.1)=_;rw[e.1,e.2]
   rw[e]at h;exact h
  .rename_i n
   rw[bY]at h;refine bY.mpr ⟨λq=>?_,ZdT h.2⟩
   obtain⟨u,hu,a⟩:=aR.mp q;rcases Vq hu with rfl|hu
   .exact n ⟨(av Prod.fst a).symm,(av Prod.snd a).symm⟩
   .exact h.1 (aR.mpr ⟨u,hu,a⟩)
theorem WD:∀ {ts:Li Tr}{x:Nat×Nat},x=(k,j)\/x∈ts.map ky->x∈(pt ts k j b).map ky
 |[],x,h=>h.elim (λe=>by rw[e];exact Ls) λh=>nomatch h
 |t :: ts,x,h=>by
  unfold pt;split
  .rename_i e
   have e:ky t=(k,j):=by show(t.1,t.2.1)=_;rw[e.1,e.2]
   rcases h with h|h
   .rw[h];exact Ls
   .rcases aK.mp h with h|h
    .rw[h,e];exact Ls
    .exact Lm _ h
  .rcases h with h|h
   .exact Lm _ (WD (.inl h))
   .rcases aK.mp h with h|h
    .rw[h];exact Ls
    .exact Lm _ (WD (.inr h))
theorem QO:∀ {ts:Li Tr},lk ts k j=aa c->(pt ts k j b).length=ts.length/\sb (pt ts k j b)+c=sb ts+b
 |t :: ts,h=>by
  unfold lk at h;unfold pt;split at h
  .rename_i e
   cases h;rw[aq e];refine⟨rfl,?_⟩;show b+sb ts+t.2.2=t.2.2+sb ts+b;omega
  .rename_i n
   rw[ar n];obtain⟨a,d⟩:=QO h;refine⟨av (·+1) a,?_⟩;show t.2.2+sb (pt ts k j b)+c=t.2.2+sb ts+b;omega
theorem QN:∀ {ts:Li Tr},lk ts k j=ab->(pt ts k j b).length=ts.length+1/\sb (pt ts k j b)=sb ts+b
 |[],_=>⟨rfl,by show b+0=0+b;omega⟩
 |t :: ts,h=>by
  unfold lk at h;unfold pt;split at h
  .cases h
  .rename_i n
   rw[ar n];obtain⟨a,c⟩:=QN h;refine⟨av (·+1) a,?_⟩;show t.2.2+sb (pt ts k j b)=t.2.2+sb ts+b;omega
theorem ZdM{α:Type}[DecidableEq α]:∀ {l l':Li α},l.Nodup->(∀ x∈l,x∈l')->l.length<=l'.length
 |[],_,_,_=>aU _
 |x :: l,l',h,c=>by
  rw[bY]at h;have b:=c x Ls;have:=ZdM (l':=l'.erase x) h.2 λz a=>(List.mem_erase_of_ne λe=>h.1 (by rw[<-e];exact a)).mpr (c z (Lm _ a))
  rw[List.length_erase_of_mem b]at this;have:=List.length_pos_of_mem b;rw[aY];omega
noncomputable def ZbQ(sz sz':Nat):Li (Nat×Nat):=(aj (sz+1)).flatMap λk=>(aj (sz'+1)).map λj=>(k,j)
def JA:(ZbQ sz sz').length=(sz+1) * (sz'+1):=by
 have h:∀ l:Li Nat,(l.flatMap λk=>(aj (sz'+1)).map λj=>(k,j)).length=l.length * (sz'+1):=λl=>by
  induction l with
  |nil=>exact(Nat.zero_mul _).symm
  |cons x l a=>rw[fN,aH,a,aD,bN,aY,Nat.add_mul,Nat.one_mul,Nat.add_comm]
 unfold ZbQ;rw[h,bN]
def Vz(c:(ts.map ky).Nodup)(d:∀ t∈ts,t.1<=sz/\t.2.1<=sz'/\t.2.2 < 2 ^ m):ts.length<=(sz+1) * (sz'+1):=by
 have:=ZdM (l':=ZbQ sz sz') c λx a=>by
  obtain⟨t,b,rfl⟩:=aR.mp a;obtain⟨f,e,_⟩:=d t b;exact dB.mpr ⟨t.1,bQ.mpr ∅,aR.mpr ⟨t.2.1,bQ.mpr ∅,rfl⟩⟩
 rwa [JA,aD]at this
def Cu(ts:Li Tr)(u:Tr):Prop:=∃ b,lk ts u.1 u.2.1=aa b/\Sb b u.2.2
def ZgM(tk tk':D)(m:Nat)(rs rs':Li Rw)(k j b:Nat)(us:Li Tr):Prop:=FolT m rs rs' k j b us/\∀ n s,C (rT (n+7)) s 122 [pgD tk m rs,pgD tk' m rs',.int (k:Int),.int (j:Int),.int (b:Int)] (.tup (us.map trD))
def Cv(tk tk':D)(m:Nat)(rs rs':Li Rw)(ts:Li Tr)(k j b:Nat):Prop:=∃ us,ZgM tk tk' m rs rs' k j b us/\∀ u∈us,Cu ts u
structure Kp(tk tk':D)(m:Nat)(rs rs':List Rw)(K:List Tr):Prop where
 rt:(0,0)∈K.map ky
 bd:∀ t∈K,t.2.2 < 2 ^ m
 cl:∀ k j b,lk K k j=aa b->Cv tk tk' m rs rs' K k j b
def Lw(tk tk':D)(m:Nat)(rs rs':Li Rw)(u:Tr):Prop:=∀ K,Kp tk tk' m rs rs' K->Cu K u
def C.eq{F:Nat->Fn}{s:Za}{f:Nat}{d b:D}(h:C F s f xs d)(c:C F s f xs b):d=b:=by
 obtain⟨_,e,_⟩:=h s .refl;obtain⟨_,a,_⟩:=c s .refl;rw[e]at a;cases a;rfl
theorem Zbt:∀ {us vs:Li Tr},us.map trD=vs.map trD->us=vs
 |[],[],_=>rfl
 | (a,b,c) :: us,(k,j,i) :: vs,h=>by
  injection h with d l
  injection d with d
  injection d with g d;injection d with f d;injection d with e _
  injection g with g;injection f with f;injection e with e
  have g:(a:Int)=k:=g;have f:(b:Int)=j:=f;have e:(c:Int)=i:=e;rw[Zbt l,show a=k by omega,show b=j by omega,show c=i by omega]
def ZeJ(z:Rs m rs)(t:Rs m rs')(B:m<=60)(F:c < 2 ^ m)(H:Lw tk tk' m rs rs' (k,j,c)):∃ d,(∀ n s,C (rT (n+7)) s 122 [pgD tk m rs,pgD tk' m rs',.int (k:Int),.int (j:Int),.int (c:Int)] d)/\((d=.non/\∀ K,¬Kp tk tk' m rs rs' K)\/∃ us,d=.tup (us.map trD)/\FolT m rs rs' k j c us/\∀ u∈us,Lw tk tk' m rs rs' u):=by
 have h:=λb h=>WR (tk:=tk) (tk':=tk') (k:=k) (j:=j) (c:=b) z t B h
 generalize rm rs k=o at h;generalize rm rs' j=u at h;obtain⟨d,E,e,G⟩:=h c F;have g:∀ K,Kp tk tk' m rs rs' K->∃ b us,Sb b c/\fvO o u k j b=aa us/\∀ v∈us,Cu K v:=λK f=>by
  obtain⟨b,y,sb⟩:=H K f;obtain⟨us,⟨_,I⟩,a⟩:=f.cl k j b y;obtain⟨P,w,x,_⟩:=h b (f.bd _ (ZZ y));have:=C.eq (w 0 []) (I 0 []);rw[x]at this;cases q:fvO o u k j b with
  |none=>rw[q]at this;exact nomatch this
  |some vs=>
   rw[q]at this
   injection this with this
   exact⟨b,vs,sb,q,λv r=>a v (by rw[<-Zbt this];exact r)⟩
 refine⟨d,E,?_⟩;cases q:fvO o u k j c with
 |none=>
  refine .inl ⟨by rw[e,q];rfl,λK f=>?_⟩
  obtain⟨b,us,sb,l,_⟩:=g K f;rw[(Qp sb).1 q]at l;exact nomatch l
 |some us=>
  refine .inr ⟨us,by rw[e,q];rfl,G us q,λp A K f=>?_⟩
  obtain⟨b,vs,sb,l,a⟩:=g K f;obtain⟨v,r,N,x,M⟩:=(Qp sb).2 vs us l q p A;obtain⟨O,L,J⟩:=a v r;exact⟨O,by rw[<-N,<-x];exact L,λi D=>M i (J i D)⟩
def mu(m sz sz':Nat)(ts:Li Tr)(ah:Li (Nat×Nat)):Nat:=2 * (sb ts+2 ^ m * ((sz+1) * (sz'+1) - ts.length))+ah.length
structure In(tk tk':D)(m sz sz':Nat)(rs rs':List Rw)(p:Tr)(M:Nat)(ts:List Tr)(ah:List (Nat×Nat))(dn:List Tr):Prop where
 nd:(ts.map ky).Nodup
 bd:∀ t∈ts,t.1<=sz/\t.2.1<=sz'/\t.2.2 < 2 ^ m
 ai:∀ x∈ah,x∈ts.map ky
 rt:(0,0)∈ts.map ky
 cv:∀ k j b,lk ts k j=aa b->(k,j)∈ah\/Cv tk tk' m rs rs' ts k j b\/(k,j,b)=p
 dn:∀ u∈dn,Cu ts u
 mu:mu m sz sz' ts ah<=M
 lo:∀ t∈ts,Lw tk tk' m rs rs' t
def s1(x:Li Tr×Li (Nat×Nat))(u:Tr):Li Tr×Li (Nat×Nat):=
 if lk x.1 u.1 u.2.1=aa (u.2.2 &&& (lk x.1 u.1 u.2.1).getD u.2.2) then x else (pt x.1 u.1 u.2.1 (u.2.2 &&& (lk x.1 u.1 u.2.1).getD u.2.2),x.2++[(u.1,u.2.1)])
def Zfg:Sb (b &&& c) b:=λi h=>by rw[dE,Ba]at h;exact h.1
def Zc5:Sb (b &&& c) c:=λi h=>by rw[dE,Ba]at h;exact h.2
def In.step{p:Tr}{C:Li Tr}(h:In tk tk' m sz sz' rs rs' p M ts ah C)(hu:(u.1<=sz/\u.2.1<=sz'/\u.2.2 < 2 ^ m)/\Lw tk tk' m rs rs' u):In tk tk' m sz sz' rs rs' p M (s1 (ts,ah) u).1 (s1 (ts,ah) u).2 (C++[u]):=by
 have I:=hu.2;replace hu:=hu.1;unfold s1;generalize g:u.2.2 &&& (lk ts u.1 u.2.1).getD u.2.2=b;have F:Sb b u.2.2:=g ▸ Zfg;have bl:b < 2 ^ m:=by
  rw[<-g];exact Nat.lt_of_le_of_lt Nat.and_le_left hu.2.2
 dsimp only;split
 .rename_i e
  exact⟨h.nd,h.bd,h.ai,h.rt,h.cv,λv hv=>(bE.mp hv).elim (h.dn v) λq=>by rw[aI.mp q];exact⟨b,e,F⟩,h.mu,h.lo⟩
 .rename_i e
  have r:∀ c,lk ts u.1 u.2.1=aa c->Sb b c:=λc q=>by rw[<-g,q];exact Zc5
  have D:∀ v,Cu ts v->Cu (pt ts u.1 u.2.1 b) v:=λv ⟨c,a,l⟩=>by
   unfold Cu;rw[QA];by_cases q:v.1=u.1/\v.2.1=u.2.1
   .rw[aq q]
    rw[q.1,q.2]at a;exact⟨b,rfl,λi d=>l i (r c a i d)⟩
   .rw[ar q];exact⟨c,a,l⟩
  have s:=ZdT (k:=u.1) (j:=u.2.1) (b:=b) h.nd;have E:∀ t∈pt ts u.1 u.2.1 b,t.1<=sz/\t.2.1<=sz'/\t.2.2 < 2 ^ m:=λt ht=>by
   rcases Vq ht with rfl|ht
   .exact⟨hu.1,hu.2.1,bl⟩
   .exact h.bd t ht
  have G:=Vz s E;have lo:∀ t∈pt ts u.1 u.2.1 b,Lw tk tk' m rs rs' t:=λt ht=>by
   rcases Vq ht with rfl|ht
   .intro K B
    obtain⟨N,a,l⟩:=I K B;refine⟨N,a,λi d=>?_⟩
    show b.testBit i=ae;rw[<-g,dE,l i d];cases q:lk ts u.1 u.2.1 with
    |none=>exact l i d
    |some c=>
     obtain⟨L,o,J⟩:=h.lo _ (ZZ q) K B;have o:lk K u.1 u.2.1=aa L:=o;rw[a]at o;cases o;exact J i d
   .exact h.lo t ht
  refine⟨s,E,λx hx=>?_,WD (.inr h.rt),λk j c q=>?_,λv hv=>?_,?_,lo⟩
  .rcases bE.mp hx with hx|hx
   .exact WD (.inr (h.ai x hx))
   .exact WD (.inl (aI.mp hx))
  .rw[QA]at q
   split at q
   .rename_i z
    exact .inl (bP _ (by rw[z.1,z.2];exact Ls))
   .rcases h.cv k j c q with z|⟨us,f,z⟩|z
    .exact .inl (dU _ z)
    .exact .inr (.inl ⟨us,f,λv hv=>D v (z v hv)⟩)
    .exact .inr (.inr z)
  .rcases bE.mp hv with hv|hv
   .exact D v (h.dn v hv)
   .rw[aI.mp hv]
    exact⟨b,by rw[QA,aq ⟨rfl,rfl⟩],F⟩
  .have A:=h.mu
   unfold Dp.mu at A ⊢
   rw[aH];show 2 * (sb (pt ts u.1 u.2.1 b)+2 ^ m * ((sz+1) * (sz'+1) - (pt ts u.1 u.2.1 b).length))+(ah.length+1)<=M;cases q:lk ts u.1 u.2.1 with
   |some c=>
    obtain⟨n,y⟩:=QO (b:=b) q;rw[n];have:b<=c:=by rw[<-g,q];exact Nat.and_le_right
    have:b≠c:=λz=>e (by rw[q,z])
    omega
   |none=>
    obtain⟨n,y⟩:=QN (b:=b) q;rw[n,y];rw[n]at G;obtain⟨w,H⟩:∃ w,(sz+1) * (sz'+1) - ts.length=w+1:=⟨(sz+1) * (sz'+1) - ts.length - 1,∅⟩
    rw[show(sz+1) * (sz'+1) - (ts.length+1)=w by omega]
    rw[H,Nat.mul_succ]at A;omega
structure Cl(tk tk':D)(m sz sz':Nat)(rs rs':List Rw)(ts:List Tr):Prop where
 nd:(ts.map ky).Nodup
 bd:∀ t∈ts,t.1<=sz/\t.2.1<=sz'/\t.2.2 < 2 ^ m
 rt:(0,0)∈ts.map ky
 cv:∀ k j b,lk ts k j=aa b->Cv tk tk' m rs rs' ts k j b
 lo:∀ t∈ts,Lw tk tk' m rs rs' t
def ZdK(h:mv rs k vs=.inl noD):rs.length<=k:=by
 unfold mv at h;cases q:rs[k]? with
 |none=>exact eD.mp q
 |some r=>
  rw[q]at h;cases r with
  |tell y=>
   have h:Sum.inl (teD (woI vs y))=(Sum.inl noD:Sum D (Nat×Li Int)):=h
   injection h with h
   exact au (Zw h) (by decide +kernel)
  |_=>cases h
def US(h:rs.length<=k):mv rs k vs=.inl noD:=by unfold mv;rw[cQ h]
theorem Cl.oc(h:Cl tk tk' m sz sz' rs rs' ts)(t:Rs m rs)(e:Rs m rs'):∀ (L k j b:Nat) (vs ws:Li Int),lk ts k j=aa b->Vs m vs->Vs m ws->Ag b vs ws->oc rs L k vs=oc rs' L j ws
 |0,k,j,b,vs,ws,n,l,g,a=>by
  obtain⟨us,f,_⟩:=h.cv k j b n;have:=f.1.s vs ws l g a;unfold Dp.oc;by_cases c:rs.length<=k
  .rw[aq c]
   rw[US c]at this;cases q:mv rs' j ws with
   |inl o=>rw[q]at this;rw[aq (ZdK (q.trans (av Sum.inl (show noD=o from this).symm)))]
   |inr p=>rw[q]at this;exact this.elim
  .rw[ar c]
   by_cases w:rs'.length<=j
   .rw[US w]at this
    cases q:mv rs k vs with
    |inl o=>rw[q]at this;exact au (ZdK (q.trans (av Sum.inl (show o=noD from this)))) c
    |inr p=>rw[q]at this;exact this.elim
   .rw[ar w]
 |L+1,k,j,b,vs,ws,n,l,g,a=>by
  obtain⟨us,f,D⟩:=h.cv k j b n;have:=f.1.s vs ws l g a;unfold Dp.oc;cases q:mv rs k vs with
  |inl o=>cases d:mv rs' j ws with
   |inl x=>rw[q,d]at this;exact this
   |inr p=>rw[q,d]at this;exact this.elim
  |inr p=>cases d:mv rs' j ws with
   |inl x=>rw[q,d]at this;exact this.elim
   |inr r=>
    rw[q,d]at this;obtain⟨u,y,C,B,E⟩:=this;obtain⟨c,v,A⟩:=D u y;rw[C,B]at v;exact h.oc t e L p.1 r.1 c p.2 r.2 v (Ua l t q) (Ua g e d) λi z=>E i (A i z)
def Cl.same(h:Cl tk tk' m sz sz' rs rs' ts)(d:Rs m rs)(a:Rs m rs')(c:Vs m vs)(L:Nat):Dp.oc rs L 0 vs=Dp.oc rs' L 0 vs:=by
 obtain⟨b,e⟩:=Yw h.rt;exact h.oc d a L 0 0 b vs vs e c c λ_ _=>rfl
end
noncomputable def prN(p:Nat×Nat):D:=.tup [.int (p.1:Int),.int (p.2:Int)]
noncomputable def iN(b:Nat):D:=.int (b:Int)
def bI:CS:=.y 9 (.bin .BitAnd (.v 8) (.dgN (.v 2) (.g (.a 6 (.s 7))) (.v 8)))
 (.z (.ite (.cmp .NotEq (.dgN (.v 2) (.g (.a 6 (.s 7))) (.c .non)) (.v 9)) (.seq (.dput 2 (.v 6) (.v 7) (.v 9))
 (.z (.app 3 (.g (.a 6 (.s 7)))))) .skip))
def cW:CE:=.cmp .Gt (.len (.v 3)) (.i 0)
def bW:CS:=.y 4 (.pop (.v 3))
 (.y 5 (.f 122 (.a 0 (.a 1 (.aC (.x 4 0) (.aC (.x 4 1) (.u (.ix (.v 2) (.v 4))))))))
 (.seq (.ite (.cmp .Is (.v 5) (.c .non)) (.q (.c .non)) .skip)
 (.z (.for4 6 7 8 (.v 5) bI))))
variable{A B:D}{M:Nat}{x4 x5 x6 x7 x8 x9:Ot D}
section
variable{b q:Nat}{dn:Li Tr}{u p:Tr}
noncomputable def En(A B:D)(q w:Nat)(x4 x5 x6 x7 x8 x9:Ot D):Env:=[aa A,aa B,aa (.dic q),jL w,x4,x5,x6,x7,x8,x9]
def isk:isK (k:Int) (j:Int) (trD u)=ak (u.1=k/\u.2.1=j):=by
 show(ak ((u.1:Int)=(k:Int))&&ak ((u.2.1:Int)=(j:Int)))=_;rw[<-Bool.decide_and];exact decide_eq_decide.mpr ⟨λh=>⟨Int.ofNat.inj h.1,Int.ofNat.inj h.2⟩,λh=>⟨av Int.ofNat h.1,av Int.ofNat h.2⟩⟩
theorem VW:∀ {ts:Li Tr},Z8 (ts.map trD) (k:Int) (j:Int)=(lk ts k j).map iN
 |[]=>rfl
 |t :: ts=>by
  unfold Z8 lk;rw[aW,dI,isk];by_cases h:t.1=k/\t.2.1=j
  .rw[aq h,aE h];rfl
  .rw[ar h,aG h];exact VW
theorem UV:∀ {ts:Li Tr},lk ts k j=ab->pt ts k j b=ts++[(k,j,b)]
 |[],_=>rfl
 |t :: ts,h=>by
  unfold lk at h;split at h
  .cases h
  .rename_i n
   unfold pt;rw[ar n,UV h];rfl
theorem Zba:∀ {ts:Li Tr},(ts.map ky).Nodup->lk ts k j=aa c->(ts.map trD).map (λe=>if isK (k:Int) (j:Int) e=ae then D.tup [.int (k:Int),.int (j:Int),.int (b:Int)] else e)=(pt ts k j b).map trD
 |t :: ts,a,h=>by
  have a:(ky t :: ts.map ky).Nodup:=a;rw[bY]at a;unfold lk at h;unfold pt;rw[aW,aW,isk];split at h
  .rename_i e
   rw[aq e,aq (aE e),aW];refine av (D.tup [.int (k:Int),.int (j:Int),.int (b:Int)] :: ·) ?_;rw[bM];refine List.map_congr_left λu d=>?_
   show(if isK (k:Int) (j:Int) (trD u)=ae then _ else trD u)=trD u
   rw[isk,ar λz=>a.1 ?_]
   have z:=ao z;exact aR.mpr ⟨u,d,by show(u.1,u.2.1)=(t.1,t.2.1);rw[z.1,z.2,e.1,e.2]⟩
  .rename_i n
   rw[ar n,ar (λz=>n (ao z)),aW,Zba a.2 h]
def Qm(nd:(ts.map ky).Nodup):X2 (ts.map trD) (k:Int) (j:Int) (.int (b:Int))=(pt ts k j b).map trD:=by
 unfold X2;cases h:lk ts k j with
 |none=>
  rw[ar λz=>?_,UV h,dF];rfl
  obtain⟨e,d,z⟩:=List.any_eq_true.mp z;obtain⟨u,a,rfl⟩:=aR.mp d;rw[isk]at z;exact Qz h u a (ao z)
 |some c=>
  rw[aq (List.any_eq_true.mpr ⟨trD (k,j,c),aR.mpr ⟨_,ZZ h,rfl⟩,by rw[isk];exact aE ⟨rfl,rfl⟩⟩)]
  exact Zba nd h
def UF(a:st[q]?=aa (ae,ts.map trD)):dAt [.int (k:Int),.int (j:Int)] q st=aa ((lk ts k j).map iN):=by
 show o2 (λ(p:Int×Int) (c:Xl)=>Z8 c.2 p.1 p.2) (aa ((k:Int),(j:Int))) st[q]?=_
 rw[a];show aa (Z8 (ts.map trD) (k:Int) (j:Int))=_;rw[VW]
def Y.dg{a:CE}(l:s[q]?=aa (ae,ts.map trD))(p:Y F s a U (.dic q)){kk:CE}(n:Y F s kk U (.tup [.int (k:Int),.int (j:Int)]))(m:Y F s e U d):Y F s (.dgN a kk e) U (((lk ts k j).map iN).getD d):=λst g=>by
 obtain⟨s1,u,b⟩:=p st g;obtain⟨i,t,f⟩:=n s1 (g.trans b);obtain⟨c,r,h⟩:=m i (g.trans (b.trans f));refine⟨c,?_,b.trans (f.trans h)⟩;show Yz (ev F a) (ev F kk) (ev F e) gtD U st=_;unfold Yz;simp only[u,t,r];show(dAt [.int (k:Int),.int (j:Int)] q c).map (λo=>(o.getD d,c))=_
 rw[UF ((g.trans (b.trans (f.trans h))).get l)];rfl
def Xe{b:Xl}(g:Grw s st)(h:s.length<=q):Grw s (st.set q b):=⟨λi a=>by rw[bX ∅];exact g.old i a,by rw[bK];exact g.len⟩
def Zcr(nd:(ts.map ky).Nodup)(S:ts.length<=400)(T:ah.length<=19000)(ne:q≠w)(x:st[q]?=aa (ae,ts.map trD))(O:st[w]?=aa (ae,ah.map prN))(L:s.length<=q)(K:s.length<=w)(g:Grw s st) :
  ∃ p st',ex F bI (En A B q w x4 x5 (jN u.1) (jN u.2.1) (jN u.2.2) x9) st=aa (.nx (En A B q w x4 x5 (jN u.1) (jN u.2.1) (jN u.2.2) p),st')/\Grw s st'/\st'[q]?=aa (ae,(s1 (ts,ah) u).1.map trD)/\st'[w]?=aa (ae,(s1 (ts,ah) u).2.map prN):=by
 have N:((lk ts u.1 u.2.1).map iN).getD (.int (u.2.2:Int))=.int (((lk ts u.1 u.2.1).getD u.2.2:Nat):Int):=by cases lk ts u.1 u.2.1<;>rfl
 have C:=Y.dg (F:=F) (s:=st) (a:=.v 2) (kk:=.g (.a 6 (.s 7))) (e:=.v 8) (U:=En A B q w x4 x5 (jN u.1) (jN u.2.1) (jN u.2.2) x9) (k:=u.1) (j:=u.2.1) (d:=.int (u.2.2:Int)) x () () ();rw[N]at C;obtain⟨t,z,l⟩:=Y.band (c:=u.2.2) (a:=.v 8) () C st .refl;generalize M:u.2.2 &&& (lk ts u.1 u.2.1).getD u.2.2=v at z
 have I:=Y.dg (F:=F) (s:=t) (a:=.v 2) (kk:=.g (.a 6 (.s 7))) (e:=.c .non) (U:=En A B q w x4 x5 (jN u.1) (jN u.2.1) (jN u.2.2) (jN v)) (k:=u.1) (j:=u.2.1) (d:=.non) (l.get x) () () ();have H:Y F t (.cmp .NotEq (.dgN (.v 2) (.g (.a 6 (.s 7))) (.c .non)) (.v 9)) (En A B q w x4 x5 (jN u.1) (jN u.2.1) (jN u.2.2) (jN v)) (.bl (!decide (lk ts u.1 u.2.1=aa v))):=.cmp (y:=.int (v:Int)) I () λst=>by
  cases lk ts u.1 u.2.1 with
  |none=>rfl
  |some c=>
   show aa (!decide ((c:Int)=(v:Int)))=aa (!decide (aa c=aa v));have e:ak ((c:Int)=(v:Int))=ak (aa c=aa v):=decide_eq_decide.mpr ⟨λh=>av aa ∅,λh=>by injection h with h;omega⟩
   rw[e]
 obtain⟨b,o,n⟩:=H t .refl;unfold s1;dsimp only;rw[M];have f:=(l.trans n).get x;have m:=(l.trans n).get O;by_cases c:lk ts u.1 u.2.1=aa v
 .rw[aE c]at o
  rw[aq c];exact⟨_,b,(Zc (Zm z)).trans ((Zc ((YA o).trans Zg)).trans Zg),g.trans (l.trans n),f,m⟩
 .rw[aG c]at o
  rw[ar c];have R:ex F (.dput 2 (.v 6) (.v 7) (.v 9)) (En A B q w x4 x5 (jN u.1) (jN u.2.1) (jN u.2.2) (jN v)) b=aa (.nx (En A B q w x4 x5 (jN u.1) (jN u.2.1) (jN u.2.2) (jN v)),b.set q (ae,(pt ts u.1 u.2.1 v).map trD)):=by
   show(match b[q]? with
    |some (ae,D)=>if D.length < Zp then aa (Fl.nx _,b.set q (ae,X2 D (u.1:Int) (u.2.1:Int) (.int (v:Int)))) else ab
    |_=>ab)=_
   rw[f];show(if (ts.map trD).length < Zp then _ else _)=_
   rw[aq (by rw[aD];unfold Zp;omega),Qm nd]
  have G:q < b.length:=Zx f;obtain⟨J,Q,E,P⟩:=Ap.app (F:=F) (s:=b.set q (ae,(pt ts u.1 u.2.1 v).map trD)) (j:=w) (i:=3) (e:=.g (.a 6 (.s 7))) (U:=En A B q w x4 x5 (jN u.1) (jN u.2.1) (jN u.2.2) (jN v)) (d:=prN (u.1,u.2.1)) rfl () _ (ah.map prN) .refl (by rw[bX ne];exact m) (by rw[aD];show _+1<=90000;omega)
  refine⟨_,J,(Zc (Zm z)).trans ((Zc ((ZN o).trans ((Zc R).trans ((Zc Q).trans Zg)))).trans Zg),E.grw K (Xe (g.trans (l.trans n)) L),?_,by rw[P,dF];rfl⟩
  rw[E.old q (by rw[bK];exact G) ne,bR G]
theorem Qr(z:(sz+1) * (sz'+1)<=400)(E:M<=19000)(ne:q≠w)(j:s.length<=q)(i:s.length<=w):∀ (us dn ts:Li Tr) (ah:Li (Nat×Nat)) (st:Za) (x6 x7 x8 x9:Ot D),(∀ u∈us,(u.1<=sz/\u.2.1<=sz'/\u.2.2 < 2 ^ m)/\Lw tk tk' m rs rs' u)->In tk tk' m sz sz' rs rs' p M ts ah dn->st[q]?=aa (ae,ts.map trD)->st[w]?=aa (ae,ah.map prN)->Grw s st->
  ∃ e d c a st',Zi (Jr 6 7 8 (ex F bI)) (us.map trD) (En A B q w x4 x5 x6 x7 x8 x9) st=aa (.nx (En A B q w x4 x5 e d c a),st')/\Grw s st'/\st'[q]?=aa (ae,(us.foldl s1 (ts,ah)).1.map trD)/\st'[w]?=aa (ae,(us.foldl s1 (ts,ah)).2.map prN)
 |[],dn,ts,ah,st,x6,x7,x8,x9,_,_,h,f,g=>⟨x6,x7,x8,x9,st,rfl,g,h,f⟩
 |u :: us,dn,ts,ah,st,x6,x7,x8,x9,k,b,h,f,g=>by
  have N:=Vz b.nd b.bd;have y:=b.mu;unfold mu at y;obtain⟨a,x,H,g1,L,J⟩:=Zcr (F:=F) (A:=A) (B:=B) (x4:=x4) (x5:=x5) (u:=u) (x9:=x9) b.nd ∅ ∅ ne h f j i g
  obtain⟨r,o,n,l,t,G,g2,K,I⟩:=Qr z E ne j i us (dn++[u]) _ _ x (jN u.1) (jN u.2.1) (jN u.2.2) a (λv C=>k v (Lm _ C)) (b.step (k u Ls)) L J g1
  refine⟨r,o,n,l,t,?_,g2,K,I⟩;show(match ex F bI (En A B q w x4 x5 (jN u.1) (jN u.2.1) (jN u.2.2) x9) st with
   |some (.nx U',st')=>Zi (Jr 6 7 8 (ex F bI)) (us.map trD) U' st'
   |some (.ct U',st')=>Zi (Jr 6 7 8 (ex F bI)) (us.map trD) U' st'
   |some (.bk U',st')=>aa (.nx U',st')
   |some (.rt v,st')=>aa (.rt v,st')
   |none=>ab)=_
  rw[H];exact G
theorem In.all:∀ {us dn ts:Li Tr}{ah:Li (Nat×Nat)},(∀ u∈us,(u.1<=sz/\u.2.1<=sz'/\u.2.2 < 2 ^ m)/\Lw tk tk' m rs rs' u)->In tk tk' m sz sz' rs rs' p M ts ah dn->In tk tk' m sz sz' rs rs' p M (us.foldl s1 (ts,ah)).1 (us.foldl s1 (ts,ah)).2 (dn++us)
 |[],dn,ts,ah,_,h=>by rw[bD];exact h
 |u :: us,dn,ts,ah,a,h=>by
  have:=In.all (us:=us) (λv b=>a v (Lm _ b)) (h.step (a u Ls))
  rw[aM]at this;exact this
structure Ou(tk tk':D)(m sz sz':Nat)(rs rs':List Rw)(M:Nat)(ts:List Tr)(ah:List (Nat×Nat)):Prop where
 nd:(ts.map ky).Nodup
 bd:∀ t∈ts,t.1<=sz/\t.2.1<=sz'/\t.2.2 < 2 ^ m
 ai:∀ x∈ah,x∈ts.map ky
 rt:(0,0)∈ts.map ky
 cv:∀ k j b,lk ts k j=aa b->(k,j)∈ah\/Cv tk tk' m rs rs' ts k j b
 mu:mu m sz sz' ts ah<=M
 lo:∀ t∈ts,Lw tk tk' m rs rs' t
def wl(hz:(sz+1) * (sz'+1)<=400)(hr:Rs m rs)(hr':Rs m rs')(h1:rs.length=sz)(h2:rs'.length=sz')(hm:m<=60):∀ (M:Nat) (ts:Li Tr) (ah:Li (Nat×Nat)),M<=19000->Ou tk tk' m sz sz' rs rs' M ts ah->∃ r:Ot (Li Tr),(∀ E,r=aa E->Cl tk tk' m sz sz' rs rs' E)/\(r=ab->∀ K,¬Kp tk tk' m rs rs' K)/\∀ (n l:Nat),M < l->∀ (s st:Za) (q w:Nat) (x4 x5 x6 x7 x8 x9:Ot D),q≠w->s.length<=q->s.length<=w->st[q]?=aa (ae,ts.map trD)->st[w]?=aa (ae,ah.map prN)->Grw s st->
  ∃ st',Grw s st'/\match r with
   |none=>Yn (ev (rT (n+7)) cW) (ex (rT (n+7)) bW) l (En (pgD tk m rs) (pgD tk' m rs') q w x4 x5 x6 x7 x8 x9) st=aa (.rt .non,st')
   |some E=>(∃ y4 y5 W V T S,Yn (ev (rT (n+7)) cW) (ex (rT (n+7)) bW) l (En (pgD tk m rs) (pgD tk' m rs') q w x4 x5 x6 x7 x8 x9) st=aa (.nx (En (pgD tk m rs) (pgD tk' m rs') q w y4 y5 W V T S),st'))/\st'[q]?=aa (ae,E.map trD):=λM=>by
 induction M using Nat.strongRecOn with
 |_ M ih=>
  intro ts ah hM h;rcases List.eq_nil_or_concat ah with rfl|⟨t,p,O⟩
  .refine⟨aa ts,λE e=>by cases e;exact⟨h.nd,h.bd,h.rt,λk j b q=>(h.cv k j b q).resolve_left λz=>(nomatch z),h.lo⟩,λe=>(nomatch e),λn l hf s st q w x4 x5 x6 x7 x8 x9 ne Q J R L g=>?_⟩
   obtain⟨f,rfl⟩:∃ f,l=f+1:=⟨l - 1,∅⟩
   obtain⟨t1,e1,k1⟩:=Y.cmp (F:=rT (n+7)) (s:=st) (op:=.Gt) (a:=.len (.v 3)) (b:=.i 0) (U:=En (pgD tk m rs) (pgD tk' m rs') q w x4 x5 x6 x7 x8 x9) (x:=.int 0) (y:=.int 0) (k:=af) (.lenl L ()) () (λ_=>rfl) st .refl
   refine⟨t1,g.trans k1,⟨x4,x5,x6,x7,x8,x9,?_⟩,k1.get R⟩;show Yo (ev _ cW) _ _ _ st=_;unfold Yo;rw[show ev (rT (n+7)) cW _ st=_ from e1]
  .rw[List.concat_eq_append]at O
   subst O;obtain⟨M,rfl⟩:∃ N,M=N+1:=⟨M - 1,by
    have hm:=h.mu;unfold mu at hm;rw[aH]at hm;show M=M - 1+1;have:[p].length=1:=rfl;omega⟩
   replace ih:=ih M (dW M);obtain⟨c,H⟩:=Yw (h.ai p (bP _ Ls));have hcb:=(h.bd _ (ZZ H)).2.2;obtain⟨d,hd,hP⟩:=ZeJ hr hr' hm hcb (h.lo _ (ZZ H));have X:=h.mu
   -- a turn up to the triples
   have turn:∀ (n:Nat) (s st:Za) (q w:Nat) (x4 x5 x6 x7 x8 x9:Ot D),q≠w->s.length<=q->s.length<=w->st[q]?=aa (ae,ts.map trD)->st[w]?=aa (ae,(t++[p]).map prN)->Grw s st->∃ o G,ev (rT (n+7)) cW (En (pgD tk m rs) (pgD tk' m rs') q w x4 x5 x6 x7 x8 x9) st=aa (.bl ae,o)/\Grw s G/\G[q]?=aa (ae,ts.map trD)/\G[w]?=aa (ae,t.map prN)/\∀ P,ex (rT (n+7)) (.y 4 (.pop (.v 3)) (.y 5 (.f 122 (.a 0 (.a 1 (.aC (.x 4 0) (.aC (.x 4 1) (.u (.ix (.v 2) (.v 4)))))))) P)) (En (pgD tk m rs) (pgD tk' m rs') q w x4 x5 x6 x7 x8 x9) o=ex (rT (n+7)) P (En (pgD tk m rs) (pgD tk' m rs') q w (aa (prN p)) (aa d) x6 x7 x8 x9) G:=λn s st q w x4 x5 x6 x7 x8 x9 ne Q J R L g=>by
    have hl:((t++[p]).map prN).length=t.length+1:=by rw[aD,aH];rfl
    obtain⟨o,O,k0⟩:=Y.cmp (F:=rT (n+7)) (s:=st) (op:=.Gt) (a:=.len (.v 3)) (b:=.i 0) (U:=En (pgD tk m rs) (pgD tk' m rs') q w x4 x5 x6 x7 x8 x9) (x:=.int (((t++[p]).map prN).length:Int)) (y:=.int 0) (k:=ae) (.lenl L ()) () (λ_=>by
     show aa (ak ((0:Int) < (((t++[p]).map prN).length:Int)))=_;rw[hl,aE ∅]) st .refl
    have b0:=k0.get L;have hw:w < o.length:=Zx b0;have e1:ev (rT (n+7)) (.pop (.v 3)) (En (pgD tk m rs) (pgD tk' m rs') q w x4 x5 x6 x7 x8 x9) o=aa (prN p,o.set w (ae,t.map prN)):=by
     show ZcF (.lst w) o=_;show(match o[w]? with
      |some (ae,xs)=>(xs[xs.length - 1]?).map λd=>(d,o.set w (ae,xs.dropLast))
      |_=>ab)=_
     rw[b0];show(((t++[p]).map prN)[((t++[p]).map prN).length - 1]?).map (λd=>(d,o.set w (ae,((t++[p]).map prN).dropLast)))=_
     rw[hl,dF,List.map_singleton,List.dropLast_concat,bA (by rw[aD];omega),aD,eK,eC];rfl
    have g2:Grw s (o.set w (ae,t.map prN)):=Xe (g.trans k0) J;have a2:(o.set w (ae,t.map prN))[q]?=aa (ae,ts.map trD):=by rw[bX (Ne.symm ne)];exact k0.get R
    have b2:(o.set w (ae,t.map prN))[w]?=aa (ae,t.map prN):=bR hw;generalize o.set w (ae,t.map prN)=t2 at *
    have yi:Y (rT (n+7)) t2 (.ix (.v 2) (.v 4)) (En (pgD tk m rs) (pgD tk' m rs') q w (aa (prN p)) x5 x6 x7 x8 x9) (.int (c:Int)):=Dp.g2 (a:=.v 2) (b:=.v 4) (x:=.dic q) (y:=prN p) () () (gs λst k=>by
     show ixR (.dic q) (prN p) st=_;unfold ixR;show(match ((dAt [.int (p.1:Int),.int (p.2:Int)] q st).join) with|some d=>aa (d,st)|none=>ab)=_
     rw[UF (k.get a2),H];rfl)
    obtain⟨G,Z,k3⟩:=Y.call (F:=rT (n+7)) (s:=t2) (f:=122) (a:=.a 0 (.a 1 (.aC (.x 4 0) (.aC (.x 4 1) (.u (.ix (.v 2) (.v 4))))))) (U:=En (pgD tk m rs) (pgD tk' m rs') q w (aa (prN p)) x5 x6 x7 x8 x9) (xs:=[pgD tk m rs,pgD tk' m rs',.int (p.1:Int),.int (p.2:Int),.int (c:Int)]) (ds:=[]) (.cons () (.cons () (.cons () (.cons () (.cons yi .nil))))) (hd n t2) t2 .refl
    exact⟨o,G,O,g2.trans k3,k3.get a2,k3.get b2,λP=>(Zc (Zm e1)).trans (Zc (Zm Z))⟩
   rcases hP with⟨rfl,noK⟩|⟨us,rfl,fT,lw⟩
   .refine⟨ab,λE e=>(nomatch e),λ_=>noK,λn l hf s st q w x4 x5 x6 x7 x8 x9 ne Q J R L g=>?_⟩
    obtain⟨f,rfl⟩:∃ f,l=f+1:=⟨l - 1,∅⟩
    obtain⟨o,G,O,g3,a3,b3,Z⟩:=turn n s st q w x4 x5 x6 x7 x8 x9 ne Q J R L g;refine⟨G,g3,?_⟩;show Yo (ev _ cW) (Yt (ex _ bW) _) _ _ st=_;unfold Yo;rw[O];show Yt (ex _ bW) _ _ o=_;unfold Yt;rw[show ex (rT (n+7)) bW _ o=aa (.rt .non,G) from(Z _).trans (Zj ((ZN rfl).trans (Zj (ZU rfl))))]
   .have hI:In tk tk' m sz sz' rs rs' (p.1,p.2,c) M ts t []:=⟨h.nd,h.bd,λx hx=>h.ai x (dU _ hx),h.rt,λk j b z=>by
     rcases h.cv k j b z with z2|z2
     .rcases bE.mp z2 with z2|z2
      .exact .inl z2
      .have z2:=aI.mp z2
       rw[<-z2]at H;have H:lk ts k j=aa c:=H;rw[z]at H
       injection H with H
       exact .inr (.inr (by rw[<-z2,H]))
     .exact .inr (.inl z2),λu I=>(nomatch I),by
     unfold mu at X ⊢
     rw[aH]at X;have:([p]:Li (Nat×Nat)).length=1:=rfl;omega,h.lo⟩
    have I:∀ u∈us,(u.1<=sz/\u.2.1<=sz'/\u.2.2 < 2 ^ m)/\Lw tk tk' m rs rs' u:=λu I=>by
     have:=fT.b u I;rw[h1,h2]at this;exact⟨this,lw u I⟩
    have C:=In.all I hI;have hO:Ou tk tk' m sz sz' rs rs' M (us.foldl s1 (ts,t)).1 (us.foldl s1 (ts,t)).2:=⟨C.nd,C.bd,C.ai,C.rt,λk j b z=>by
     rcases C.cv k j b z with z2|z2|z2
     .exact .inl z2
     .exact .inr z2
     .cases z2
      exact .inr ⟨us,⟨fT,hd⟩,λu I=>C.dn u (bP _ I)⟩,C.mu,C.lo⟩
    obtain⟨r,hr1,hr0,hr2⟩:=ih _ _ ∅ hO
    refine⟨r,hr1,hr0,λn l hf s st q w x4 x5 x6 x7 x8 x9 ne Q J R L g=>?_⟩
    obtain⟨f,rfl⟩:∃ f,l=f+1:=⟨l - 1,∅⟩
    obtain⟨o,G,O,g3,a3,b3,Z⟩:=turn n s st q w x4 x5 x6 x7 x8 x9 ne Q J R L g;obtain⟨W,V,T,S,t4,e4,g4,a4,b4⟩:=Qr (F:=rT (n+7)) (A:=pgD tk m rs) (B:=pgD tk' m rs') (x4:=aa (prN p)) (x5:=aa (.tup (us.map trD))) hz (show M<=19000 by omega) ne Q J us [] ts t G x6 x7 x8 x9 I hI a3 b3 g3
    obtain⟨t5,g5,h5⟩:=hr2 n f ∅ s t4 q w (aa (prN p)) (aa (.tup (us.map trD))) W V T S ne Q J a4 b4 g4
    have e5:ex (rT (n+7)) (.for4 6 7 8 (.v 5) bI) (En (pgD tk m rs) (pgD tk' m rs') q w (aa (prN p)) (aa (.tup (us.map trD))) x6 x7 x8 x9) G=aa (.nx (En (pgD tk m rs) (pgD tk' m rs') q w (aa (prN p)) (aa (.tup (us.map trD))) W V T S),t4):=e4;have eb:ex (rT (n+7)) bW (En (pgD tk m rs) (pgD tk' m rs') q w x4 x5 x6 x7 x8 x9) o=aa (.nx (En (pgD tk m rs) (pgD tk' m rs') q w (aa (prN p)) (aa (.tup (us.map trD))) W V T S),t4):=(Z _).trans ((Zc ((YA rfl).trans Zg)).trans ((Zc e5).trans Zg))
    have ew:Yn (ev (rT (n+7)) cW) (ex (rT (n+7)) bW) (f+1) (En (pgD tk m rs) (pgD tk' m rs') q w x4 x5 x6 x7 x8 x9) st=Yn (ev (rT (n+7)) cW) (ex (rT (n+7)) bW) f (En (pgD tk m rs) (pgD tk' m rs') q w (aa (prN p)) (aa (.tup (us.map trD))) W V T S) t4:=by
     show Yo (ev _ cW) (Yt (ex _ bW) _) _ _ st=_;unfold Yo;rw[O];show Yt (ex _ bW) _ _ o=_;unfold Yt;rw[eb]
    refine⟨t5,g5,?_⟩;cases r with
    |none=>rw[ew];exact h5
    |some E=>rw[ew];exact h5
end
def Ud{β:Type}{b:Li (Int×Int)}{g:α->β}{z:α}{z':β}{a:Li α}(h:a.length=b.length):ZR b z' (a.map g)=(ZR b z a).map g:=by
 unfold ZR;rw[bM];refine List.map_congr_left λi c=>?_
 have:=XJ i c;show(a.map g).getD i z'=g (a.getD i z);rw[aQ,aQ,aX,Lg ∅];rfl
def Jp{b:Li (Int×Int)}{z:α}{a:Li α}(h:a.length=b.length):(ZR b z a).Perm a:=by
 have p:=(Yk b).map λi=>a.getD i z
 have e:(aj b.length).map (λi=>a.getD i z)=a:=List.ext_getElem (by rw[aD,bN,h]) λi d c=>by rw[List.getElem_map,List.getElem_range,aQ,Lg c];rfl
 exact p.trans (.of_eq e)
def Ris(ks:Li (Nat×Nat)):Prop:=ks.Pairwise λa b=>a.1 * 1000+a.2 < b.1 * 1000+b.2
theorem Qy{α:Type}{a:α->D}{P:α->Prop}:∀ {ys:Li D},(∀ d∈ys,∃ r,d=a r/\P r)->∃ rs:Li α,ys=rs.map a/\∀ r∈rs,P r
 |[],_=>⟨[],rfl,λ_ h=>nomatch h⟩
 |y :: ys,h=>by
  obtain⟨r,rfl,c⟩:=h y Ls;obtain⟨rs,rfl,b⟩:=Qy λd e=>h d (Lm _ e)
  exact⟨r :: rs,rfl,λx hx=>by
   rcases aK.mp hx with rfl|hx
   .exact c
   .exact b x hx⟩
def ZgO(f a:D)(m sz e:Nat)(rs b:Li Rw)(d:D):Prop:=(d=.non/\∀ K,¬Kp f a m rs b K)\/∃ c:Li Tr,d=.tup (c.map trD)/\Cl f a m sz e rs b c/\Ris (c.map ky)
section
variable{q a b:Nat}{ks:Li (Nat×Nat)}
theorem ZdH:∀ {ks:Li (Nat×Nat)},lk (ks.map λk=>(k.1,k.2,(lk ts k.1 k.2).getD 0)) a b=if (a,b)∈ks then aa ((lk ts a b).getD 0) else ab
 |[]=>rfl
 |k :: ks=>by
  show(if k.1=a/\k.2=b then aa ((lk ts k.1 k.2).getD 0) else lk (ks.map λk=>(k.1,k.2,(lk ts k.1 k.2).getD 0)) a b)=_
  by_cases c:k.1=a/\k.2=b
  .have e:k=(a,b):=Prod.ext c.1 c.2
   rw[aq c,aq (by rw[e];exact Ls),c.1,c.2]
  .rw[ar c,ZdH]
   by_cases z:(a,b)∈ks
   .rw[aq z,aq (Lm _ z)]
   .rw[ar z,ar λh=>(aK.mp h).elim (λe=>c ⟨(av Prod.fst e).symm,(av Prod.snd e).symm⟩) z]
def Cl.of(h:Cl tk tk' m sz sz' rs rs' ts)(p:ks.Perm (ts.map ky)):Cl tk tk' m sz sz' rs rs' (ks.map λk=>(k.1,k.2,(lk ts k.1 k.2).getD 0)):=by
 have n:∀ a b,lk (ks.map λk=>(k.1,k.2,(lk ts k.1 k.2).getD 0)) a b=lk ts a b:=λa b=>by
  rw[ZdH];cases q:lk ts a b with
  |none=>exact ar λz=>by obtain⟨c,i⟩:=Yw (p.mem_iff.mp z);rw[q]at i;cases i
  |some c=>exact aq (p.mem_iff.mpr (aR.mpr ⟨_,ZZ q,rfl⟩))
 have l:(ks.map λk=>((k.1,k.2,(lk ts k.1 k.2).getD 0):Tr)).map ky=ks:=by rw[bM];exact List.map_id _
 refine⟨by rw[l];exact p.nodup_iff.mpr h.nd,λt e=>?_,by rw[l];exact p.mem_iff.mpr h.rt,λk j b q=>?_,λt e=>?_⟩
 .obtain⟨k,g,rfl⟩:=aR.mp e
  obtain⟨b,d⟩:=Yw (p.mem_iff.mp g);show k.1<=sz/\k.2<=sz'/\(lk ts k.1 k.2).getD 0 < 2 ^ m;rw[d];exact h.bd _ (ZZ d)
 .rw[n]at q
  obtain⟨o,f,z⟩:=h.cv k j b q;exact⟨o,f,λu r=>by obtain⟨c,v,s⟩:=z u r;exact⟨c,by rw[n];exact v,s⟩⟩
 .obtain⟨k,g,rfl⟩:=aR.mp e
  obtain⟨b,d⟩:=Yw (p.mem_iff.mp g);rw[d];exact h.lo _ (ZZ d)
def Wc:Zu (ts.map trD)=(ts.map ky).map λk=>((k.1:Int),(k.2:Int)):=by
 unfold Zu;rw[bM,bM];rfl
def ZeG(nd:(ts.map ky).Nodup)(c:∀ k∈ts.map ky,k.1 < 1000/\k.2 < 1000):okP (Zu (ts.map trD))=ae:=by
 rw[Wc];generalize ts.map ky=ks at *
 unfold okP;rw[Ba];refine⟨cZ.mpr λp d=>?_,aE ?_⟩
 .obtain⟨k,f,rfl⟩:=aR.mp d
  have:=c k f;exact aE ⟨∅,by show(k.1:Int) < 1000;omega,by show 0<=(k.2:Int);omega,by show(k.2:Int) < 1000;omega⟩
 .rw[bM]
  refine fH.mpr ((List.Pairwise.and_mem.mp nd).imp λ{a b} h e=>?_)
  have i:=c a h.1;have g:=c b h.2.1;refine h.2.2 (Prod.ext ?_ ?_)
  all_goals
   simp only[Function.comp,Vp]at e;omega
def Zbs(nd:(ts.map ky).Nodup)(w:∀ k∈ts.map ky,k.1 < 1000/\k.2 < 1000)(r:ts.length<=400):∃ ks:Li (Nat×Nat),ks.Perm (ts.map ky)/\Ris ks/\∀ F s q (U:Env),U[2]?=aa (aa (.dic q))->s[q]?=aa (ae,ts.map trD)->Wk F s (.ksrt (.v 2)) U Uq (ks.map prN):=by
 have o:(Zu (ts.map trD)).map prD=(ts.map ky).map prN:=by
  rw[Wc,bM];rfl
 have m:(ts.map ky).length=(Zu (ts.map trD)).length:=by rw[Wc,aD (as:=ts.map ky)]
 have ok:=ZeG nd w;refine⟨ZR (Zu (ts.map trD)) (0,0) (ts.map ky),Jp m,?_,λF s q U n p st g=>?_⟩
 .unfold Ris ZR
  refine fH.mpr ((List.Pairwise.and_mem.mp (QI ok)).imp λ{a b} h=>?_)
  have x:=XJ a h.1;have n:=XJ b h.2.1;have u:=h.2.2;have f:∀ i,i < (ts.map ky).length->atP (Zu (ts.map trD)) i=(((ts.map ky).getD i (0,0)).1:Int) * 1000+(((ts.map ky).getD i (0,0)).2:Int):=λi t=>by
   unfold atP;rw[Wc,aQ,aQ,aX,Lg t];rfl
  rw[f a ∅,f b ∅]at u
  omega
 rw[<-Ud (z':=.non) m,<-o];generalize e:ZR (Zu (ts.map trD)) .non ((Zu (ts.map trD)).map prD)=ds;have l:∀ d∈ds,Jk d=ae:=λd l=>by
  rw[<-e,o,Ud (z:=(0,0)) m]at l;obtain⟨k,_,rfl⟩:=aR.mp l;rfl
 refine⟨.lst st.length,st++[(ae,ds)],λs=>s[st.length]?=aa (ae,ds),?_,.push,?_,λst' g'=>g'.get ZB⟩
 .show Zl (YT 2) Qu U st=_
  unfold Zl YT;rw[n];show(match st[q]? with
   |some (_,j)=>if j.length<=400/\okP (Zu j)=ae then aa (D.lst st.length,st++[(ae,ZR (Zu j) D.non ((Zu j).map prD))]) else ab
   |none=>ab)=_
  rw[g.get p];show(if (ts.map trD).length<=400/\okP (Zu (ts.map trD))=ae then _ else ab)=_
  rw[aq ⟨by rw[aD];exact r,ok⟩,e]
 .show(match (st++[(ae,ds)])[st.length]? with
   |some c=>if c.2.all Jk=ae then aa (c.2,λs=>s[st.length]?=aa c) else ab
   |none=>ab)=_
  rw[ZB];exact aq (cZ.mpr l)
def U8(h:Cl tk tk' m sz sz' rs rs' ts)(z:ts.length<=400)(f:sz < 1000/\sz' < 1000):∃ e:Li Tr,(Cl tk tk' m sz sz' rs rs' e/\Ris (e.map ky))/\∀ F s A B q w x4 x5 x6 x7 x8 x9,s[q]?=aa (ae,ts.map trD)->Y F s (.tOf (.compT [2] (.ksrt (.v 2)) (.g (.a 0 (.a 1 (.u (.ix (.v 2) (.g (.a 0 (.s 1)))))))) (.c (.bl ae)))) (En A B q w x4 x5 x6 x7 x8 x9) (.tup (e.map trD)):=by
 obtain⟨ks,i,p,D⟩:=Zbs h.nd (λk C=>by obtain⟨t,o,rfl⟩:=aR.mp C;have:=h.bd t o;exact⟨by show t.1 < _;omega,by show t.2.1 < _;omega⟩) z
 have n:=i.length_eq;rw[aD]at n;refine⟨_,⟨h.of i,by rw[bM];exact(List.Pairwise.map _ (λ_ _=>id) p)⟩,λF s A B q w x4 x5 x6 x7 x8 x9 f=>?_⟩
 rw[bM];refine Lv.tof (WX (U:=En A B q w x4 x5 x6 x7 x8 x9) (b:=two) (wk:=Uq) (fr:=[2]) (en:=prN) (D F s q _ rfl f) ∅ λk j=>?_)
 obtain⟨b,l⟩:=Yw (i.mem_iff.mp j);show Y F s _ [jN k.1,jN k.2,aa (.dic q)] (trD (k.1,k.2,(lk ts k.1 k.2).getD 0));rw[l];exact .cons () (.cons () (.cons (Dp.g2 (a:=.v 2) (b:=.g (.a 0 (.s 1))) (x:=.dic q) (y:=prN k) () () (gs λst g=>by
  show(match ((dAt [.int (k.1:Int),.int (k.2:Int)] q st).join) with|some d=>aa (d,st)|none=>ab)=_
  rw[UF (g.get f),l];rfl)) .nil))
def ZgQ{e:CE}{v:D}{a:Za}(h:ev F e U (st++[(ae,[])])=aa (v,a))(c:a[st.length]?=aa (ae,[])):ev F (.dd (.i 0) (.i 0) e) U st=aa (.dic st.length,a.set st.length (ae,[.tup [.int 0,.int 0,v]])):=by
 have b:∀ s,ev F (.i 0) U s=aa (.int 0,s):=λ_=>rfl
 show ddE (ev F (.i 0)) (ev F (.i 0)) (ev F e) U st=_;unfold ddE;simp only[b,h,c];rw[aq (by unfold Zp;decide)]
 rfl
def ZeN{b:Nat}:mu m sz sz' [(0,0,b)] [(0,0)]=2 * (b+2 ^ m * ((sz+1) * (sz'+1) - 1))+1:=by
 exact rfl
def Zgi{a:Nat}(h:a * ((sz+1) * (sz'+1))<=9000)(c:1<=a):2 * (a - 1+a * ((sz+1) * (sz'+1) - 1))+1<=19000:=by
 obtain⟨v,b⟩:∃ v,(sz+1) * (sz'+1)=v+1:=⟨(sz+1) * (sz'+1) - 1,by have:1<=(sz+1) * (sz'+1):=eW (Nat.le_add_left 1 sz) (Nat.le_add_left 1 sz');omega⟩
 rw[b,Nat.mul_succ]at h;rw[b,eK];omega
def ZbM(hr:Rs m rs)(H:Rs m rs')(h1:rs.length=sz)(h2:rs'.length=sz')(X:m<=60)(hz:(sz+1) * (sz'+1)<=400)(hs:sz < 1000/\sz' < 1000)(hB:2 ^ m * ((sz+1) * (sz'+1))<=9000):CX 8 201 [pgD tk m rs,pgD tk' m rs'] (ZgO tk tk' m sz sz' rs rs'):=by
 have p2:1<=2 ^ m:=Nat.one_le_two_pow;obtain⟨M,A⟩:∃ M,M=19000:=⟨_,rfl⟩;have hO:Ou tk tk' m sz sz' rs rs' M [(0,0,2 ^ m - 1)] [(0,0)]:=by
  refine⟨bY.mpr ⟨λh=>(nomatch h),List.nodup_nil⟩,λt D=>?_,λx hx=>hx,Ls,λk j b q=>?_,?_,λt D=>?_⟩
  .rw[aI.mp D];exact⟨aU _,aU _,by show 2 ^ m - 1 < 2 ^ m;omega⟩
  .have:=ZZ q
   have:=aI.mp this;cases this;exact .inl Ls
  .exact aP (cR ZeN) (A ▸ Zgi hB p2)
  .rw[aI.mp D]
   intro K hK;obtain⟨c,z⟩:=Yw hK.rt;refine⟨c,z,λi Z=>?_⟩
   have hb:=hK.bd _ (ZZ z);show(2 ^ m - 1).testBit i=ae;rw[fX];refine aE ?_;rcases dN i m with q|q
   .exact q
   .rw[Nat.testBit_lt_two_pow (aS hb (Nat.pow_le_pow_right ∅ q))]at Z
    exact nomatch Z
 obtain⟨r,E,G,o⟩:=wl (tk:=tk) (show(sz+1) * (sz'+1)<=400 by omega) hr H h1 h2 X M _ _ (cR A) hO
 -- up to the loop
 have pre:∀ (n:Nat) (st:Za),∃ t q w,st.length<=q/\st.length<=w/\q≠w/\Grw st t/\t[q]?=aa (ae,[(0,0,2 ^ m - 1)].map trD)/\t[w]?=aa (ae,[(0,0)].map prN)/\∀ P,ex (rT (n+7)) (.y 2 (.dd (.i 0) (.i 0) (.f 56 (.u (.x 0 1)))) (.y 3 (.lstE (.u (.g (.aC (.i 0) (.u (.i 0)))))) P)) [aa (pgD tk m rs),aa (pgD tk' m rs'),ab,ab,ab,ab,ab,ab,ab,ab] st=ex (rT (n+7)) P (En (pgD tk m rs) (pgD tk' m rs') q w ab ab ab ab ab ab) t:=λn st=>by
  obtain⟨d,J,p⟩:=Y.call1 (F:=rT (n+7)) (s:=st++[(ae,[])]) (f:=56) (a:=.x 0 1) (x:=.int (m:Int)) (U:=[aa (pgD tk m rs),aa (pgD tk' m rs'),ab,ab,ab,ab,ab,ab,ab,ab]) () (Zd1 (n:=n+5) X) _ .refl;have c3:d[st.length]?=aa (ae,[]):=p.get ZB;have ed:ev (rT (n+7)) (.dd (.i 0) (.i 0) (.f 56 (.u (.x 0 1)))) [aa (pgD tk m rs),aa (pgD tk' m rs'),ab,ab,ab,ab,ab,ab,ab,ab] st=aa (.dic st.length,d.set st.length (ae,[(0,0,2 ^ m - 1)].map trD)):=by
   exact ZgQ J c3
  have hl:st.length < d.length:=Zx c3;have ll:(d.set st.length (ae,[(0,0,2 ^ m - 1)].map trD)).length=d.length:=bK;have gg:Grw st (d.set st.length (ae,[(0,0,2 ^ m - 1)].map trD)):=Xe (Grw.push.trans p) (aB _);have c4:(d.set st.length (ae,[(0,0,2 ^ m - 1)].map trD))[st.length]?=aa (ae,[(0,0,2 ^ m - 1)].map trD):=bR hl
  generalize d.set st.length (ae,[(0,0,2 ^ m - 1)].map trD)=t4 at *
  refine⟨t4++[(ae,[(0,0)].map prN)],st.length,t4.length,aB _,∅,∅,gg.trans .push,Grw.push.get c4,ZB,λP=>?_⟩
  exact(Zc (Zm ed)).trans (Zc (Zm rfl))
 cases r with
 |none=>
  refine⟨.non,λn s=>.of (v:=Z7) rfl rfl λst g=>?_,.inl ⟨rfl,G rfl⟩⟩
  obtain⟨t,q,w,C,B,ne,I,a,b,e⟩:=pre n st;obtain⟨l,g2,L⟩:=o n 20000 (by rw[A];decide) st t q w ab ab ab ab ab ab ne C B a b I
  exact⟨l,(e _).trans (Zj L),g2⟩
 |some ts=>
  have N:=E ts rfl;have tl:=Vz N.nd N.bd;obtain⟨W,z,hu⟩:=U8 N ∅ hs
  refine⟨.tup (W.map trD),λn s=>.of (v:=Z7) rfl rfl λst g=>?_,.inr ⟨W,rfl,z⟩⟩
  obtain⟨t,q,w,C,B,ne,I,a,b,e⟩:=pre n st;obtain⟨l,g2,⟨V,T,S,R,Q,O,L⟩,c2⟩:=o n 20000 (by rw[A];decide) st t q w ab ab ab ab ab ab ne C B a b I
  obtain⟨d,J,p⟩:=hu (rT (n+7)) l (pgD tk m rs) (pgD tk' m rs') q w V T S R Q O c2 l .refl;have e4:ex (rT (n+7)) (.whl cW bW) (En (pgD tk m rs) (pgD tk' m rs') q w ab ab ab ab ab ab) t=aa (.nx (En (pgD tk m rs) (pgD tk' m rs') q w V T S R Q O),l):=L;exact⟨d,(e _).trans ((Zc e4).trans (Zj (ZU J))),g2.trans p⟩
end
noncomputable def nP:Rw->Bool
 |.put _ _ _ _=>af
 |.tell _=>af
 |_=>ae
inductive Fit(P:Nat->Nat->Prop)(k j:Nat):Option Rw->Option Rw->Prop where
 |e:Fit P k j ab ab
 |t (y:Op):Fit P k j (aa (.tell y)) (aa (.tell y))
 |p (x:Nat) (y:Op) (g:Str) (z:Op) (h:P (k+1) (j+1)):Fit P k j (aa (.put x y g z)) (aa (.put x y g z))
 |i (y:Op) (g:Str) (z:Op) (t t':Nat) (h:P t t') (h':P (k+1) (j+1)):Fit P k j (aa (.ifr y g z t)) (aa (.ifr y g z t'))
 |g (r q:Rw) (hr:nP r=ae) (hq:nP q=ae) (h:∀ p∈pbN k r,∀ a∈pbN j q,P p a):Fit P k j (aa r) (aa q)
structure Fo(m:Nat)(rs rs':List Rw):Prop where
 ex:∃ P:Nat->Nat->Prop,P 0 0/\∀ k j,P k j->k<=rs.length/\j<=rs'.length/\Fit P k j (rm rs k) (rm rs' j)
section
variable{q:Rw}{o:Ot Rw}{P:Nat->Nat->Prop}{y:Op}
def Fit.sym(h:Fit P k j o u):Fit (λa b=>P b a) j k u o:=by
 cases h with
 |e=>exact .e
 |t y=>exact .t y
 |p x y g z h=>exact .p x y g z h
 |i y g z t c h n=>exact .i y g z c t h n
 |g r q d f h=>exact .g q r f d λa m p l=>h p l a m
theorem Fo.sym(h:Fo m rs rs'):Fo m rs' rs:=by
 obtain⟨P,c,h⟩:=h.ex;exact⟨λa b=>P b a,c,λj k q=>⟨(h k j q).2.1,(h k j q).1,(h k j q).2.2.sym⟩⟩
def Zez(h:WI m y):inB (2 ^ m - 1) y=ae:=by
 cases y with
 |nm i=>show(2 ^ m - 1).testBit i=ae;rw[fX];exact aE h
 |nu _=>rfl
def UY(h:RwOk m sz r):rdO (2 ^ m - 1) r=ae:=cZ.mpr λp a=>Zez (ZaY h p a)
def ZeS{x:Nat}(h:x < m):(2 ^ m - 1) ||| 2 ^ x=2 ^ m - 1:=by
 apply eU
 intro i;rw[Nat.testBit_or,fX,dQ];by_cases c:x=i
 .subst c;rw[aE h];rfl
 .rw[aG c,cL]
def J4(b:isE (aa r)=af)(a:isE (aa q)=af){c:Nat}:fvO (aa r) (aa q) k j c=aa (if caB c r q=ae then [(tgI r,tgI q,c),(k+1,j+1,c)] else WM k j c r q):=by
 unfold fvO;rw[b,a];rfl
def Zes(h:Fit P k j o u)(ok:∀ r,o=aa r->RwOk m sz r):∃ b,fvO o u k j (2 ^ m - 1)=aa b/\∀ v∈b,P v.1 v.2.1/\v.2.2=2 ^ m - 1:=by
 cases h with
 |e=>exact⟨[],rfl,λv h=>nomatch h⟩
 |t y=>
  refine⟨[],?_,λv h=>nomatch h⟩
  have e:eaB (2 ^ m - 1) (aa (.tell y)) (aa (.tell y))=ae:=by
   show(decide _&&rdO _ _)=ae;rw[aE rfl,UY (ok _ rfl)];rfl
  show(if eaB (2 ^ m - 1) (aa (.tell y)) (aa (.tell y))=ae then aa [] else ab)=_
  rw[aq e]
 |p x y g z h=>
  refine⟨_,J4 rfl rfl,λv hv=>?_⟩
  have hv:v∈[(k+1,j+1,stN (2 ^ m - 1) (.put x y g z) (.put x y g z))]:=hv;have o:=ok _ rfl;rw[aI.mp hv];refine⟨h,?_⟩;show(if (ae&&(ak (aa (Rw.put x y g z)=aa (.put x y g z))&&rdO _ _))=ae then (2 ^ m - 1) ||| 2 ^ x else _)=_
  rw[aE rfl,UY o];exact(aq rfl).trans (ZeS o.1)
 |i y g z t d h B=>
  refine⟨_,J4 rfl rfl,λv hv=>?_⟩
  have e:caB (2 ^ m - 1) (.ifr y g z t) (.ifr y g z d)=ae:=by
   show(Zq [opE y,.str g,opE z] [opE y,.str g,opE z]&&rdO _ _)=ae;rw[UY (ok _ rfl),dO];refine Xx (n:=8) ?_;have f:∀ o:Op,okD 8 (opE o)=ae:=λo=>by cases o<;>rfl
   show(okD 8 (opE y)&&(ae&&(okD 8 (opE z)&&ae)))=ae;rw[f,f];rfl
  rw[aq e]at hv;rcases aK.mp hv with rfl|hv
  .exact⟨h,rfl⟩
  .rw[aI.mp hv];exact⟨B,rfl⟩
 |g r q l s h=>
  have D:isE (aa r)=af:=by cases r<;>first|rfl|cases l
  have C:isE (aa q)=af:=by cases q<;>first|rfl|cases s
  refine⟨_,J4 D C,λv hv=>?_⟩
  by_cases c:caB (2 ^ m - 1) r q=ae
  .rw[aq c]at hv
   cases r with
   |ifr y g z t=>cases q with
    |ifr F g' E d=>
     rcases aK.mp hv with rfl|hv
     .exact⟨h _ Ls _ Ls,rfl⟩
     .rw[aI.mp hv];exact⟨h _ (Lm _ Ls) _ (Lm _ Ls),rfl⟩
    |_=>cases c
   |_=>cases c
  .rw[ar c]at hv
   obtain⟨p,w,hv⟩:=dB.mp hv;obtain⟨a,A,rfl⟩:=aR.mp hv;refine⟨h p w a A,?_⟩;cases r<;>first | (cases l;done) | (cases q<;>first | (cases s;done)|rfl)
def Zf9(p:Rs m rs)(l:Rs m rs')(D:m<=60)(h:Fo m rs rs'):∃ K,Kp tk tk' m rs rs' K:=by
 classical
 obtain⟨P,J,w⟩:=h.ex;have M:=Nat.two_pow_pos m
 let K:Li Tr:=((ZbQ rs.length rs'.length).filter λx=>ak (P x.1 x.2)).map λx=>(x.1,x.2,2 ^ m - 1)
 have a:∀ t∈K,P t.1 t.2.1/\t.2.2=2 ^ m - 1:=λt i=>by
  obtain⟨x,A,rfl⟩:=aR.mp i;exact⟨ao (dR.mp A).2,rfl⟩
 have f:∀ k j,P k j->(k,j)∈K.map ky:=λk j q=>by
  refine aR.mpr ⟨(k,j,2 ^ m - 1),aR.mpr ⟨(k,j),dR.mpr ⟨?_,aE q⟩,rfl⟩,rfl⟩;have:=w k j q;exact dB.mpr ⟨k,bQ.mpr ∅,aR.mpr ⟨j,bQ.mpr ∅,rfl⟩⟩
 refine⟨K,f 0 0 J,λt i=>by rw[(a t i).2];omega,λk j b q=>?_⟩
 obtain⟨z,g⟩:=a _ (ZZ q);have g:b=2 ^ m - 1:=g;subst g;obtain⟨_,_,G⟩:=w k j z;obtain⟨o,e,C⟩:=Zes G λr e=>by
  have:=Ze1 (k:=k) p;rw[e]at this;cases this with|r _ ok _=>exact ok
 obtain⟨d,E,y,F⟩:=WR (tk:=tk) (tk':=tk') (k:=k) (j:=j) (c:=2 ^ m - 1) p l D ∅
 rw[e]at y;refine⟨o,⟨F o e,λn s=>by have:=E n s;rw[y]at this;exact this⟩,λv B=>?_⟩
 obtain⟨I,H⟩:=C v B;obtain⟨b,u⟩:=Yw (f _ _ I);have L:b=2 ^ m - 1:=(a _ (ZZ u)).2;exact⟨b,u,by rw[H,L];exact λ_ h=>h⟩
def ZdS(b:Rs m rs)(a:k < rs.length):∃ r,rs[k]?=aa r/\RwOk m rs.length r/\rm rs k=aa (mdR k r):=⟨rs[k],Lg a,b.ok _ (bH a),by unfold rm;rw[Lg a];rfl⟩
def Qn(l:Rs m rs)(s:rs'.length=rs.length)(h:∀ k,rm rs' k=rm rs k):Fo m rs rs':=by
 refine⟨λk j=>k=j/\k<=rs.length,⟨rfl,aU _⟩,λk j q=>?_⟩
 obtain⟨rfl,n⟩:=q;refine⟨n,∅,?_⟩
 rw[h];by_cases c:k < rs.length
 .obtain⟨r,e,ok,o⟩:=ZdS l c
  have d:=(Zdq (j:=k) ok).1;rw[o];cases q:mdR k r with
  |put x y g z=>exact .p x y g z ⟨rfl,c⟩
  |ifr y g z t=>rw[q]at d;exact .i y g z t t ⟨rfl,d.2.2.2⟩ ⟨rfl,c⟩
  |tell y=>exact .t y
  |go t=>rw[q]at d;exact .g _ _ rfl rfl λp b a f=>by rw[aI.mp b,aI.mp f];exact⟨rfl,d⟩
  |skip=>exact .g _ _ rfl rfl λp b a f=>by rw[aI.mp b,aI.mp f];exact⟨rfl,c⟩
 .rw[show rm rs k=ab by unfold rm;rw[cQ ∅];rfl]
  exact .e
end
def mrG(g:Str):Str:=if g=S "<" then S ">" else if g=S "<=" then S ">=" else if g=S ">" then S "<" else if g=S ">=" then S "<=" else g
def mrK(g:Str):Bool:=[S "+",S "*"].any λi=>ak (i=g)
def XW:Rw->Rw
 |.put x y g z=>if mrK g=ae then .put x z g y else .put x y g z
 |.ifr y g z t=>.ifr z (mrG g) y t
 |r=>r
noncomputable def jmR(a:Li Nat):Rw->Rw
 |.ifr y g z t=>.ifr y g z (a.getD t 0)
 |.go t=>.go (a.getD t 0)
 |r=>r
noncomputable def psN(sz v:Nat):Li Nat:=(aj sz).map (λt=>t+v * sz)++[2 * sz]
noncomputable def gT:Rw->Bool
 |.go _=>ae
 |.tell _=>ae
 |_=>af
def Qv(rs:Li Rw):Prop:=∀ r,rs[rs.length - 1]?=aa r->gT r=ae
def Zdh(rs ds:Li Rw):Prop:=ds.length=2 * rs.length/\∀ c k r,c < 2->rs[k]?=aa r->∃ v,v < 2/\ds[c * rs.length+k]?=aa (jmR (psN rs.length v) r)
section
variable{t' v x:Nat}{ds:Li Rw}{y:Op}
def ZaJ:(ltO z y=ae->ltO y z=af)/\(ltO z y=af->ltO y z=af->y=z):=by
 cases y<;>cases z<;>unfold ltO<;>refine⟨λh=>?_,λh a=>?_⟩<;>first | (cases h;done) | (cases a;done)|rfl|skip
 .have:=ao h;exact aG ∅
 .have:=am h;have:=am a;congr 1;omega
 .have:=ao h;exact aG ∅
 .have:=am h;have:=am a;congr 1;omega
def Qw:lfR (.put x z g y)=lfR (.put x y g z)/\lfR (.ifr z g y t)=lfR (.ifr y g z t):=by
 unfold lfR;by_cases c:ltO z y=ae
 .have a:¬ltO y z=ae:=by rw[ZaJ.1 c];decide
  exact⟨(ar a).trans (aq c).symm,(ar a).trans (aq c).symm⟩
 .by_cases a:ltO y z=ae
  .exact⟨(aq a).trans (ar c).symm,(aq a).trans (ar c).symm⟩
  .rw[ZaJ.2 (fP.mpr c) (fP.mpr a)];exact⟨rfl,rfl⟩
def ZdI(h:g≠S "-"):lmR (.put x y g z)=.put x y g z:=by
 cases z with
 |nm _=>rfl
 |nu v=>exact ar h
def st_comm:stK z y=stK y z:=by
 unfold stK;rw[Bool.and_comm,decide_eq_decide.mpr ⟨ax,ax⟩]
def QE(h:g=S "="\/g=S "!="):m2R (.ifr z g y t)=m2R (.ifr y g z t):=by
 have a:inG g (S "=") (S "!=")=ae:=by rcases h with rfl|rfl<;>rfl
 by_cases q:stK y z=ae
 .rw[show m2R (.ifr y g z t)=_ from aq q,show m2R (.ifr z g y t)=_ from aq (st_comm.trans q)]
  unfold seR;rcases h with rfl|rfl
  .rw[QR,QR,decide_eq_decide.mpr ⟨ax,ax⟩]
  .rw[QS,QS,decide_eq_decide.mpr ⟨ax,ax⟩]
 .rw[show m2R (.ifr y g z t)=_ from ar q,show m2R (.ifr z g y t)=_ from ar λw=>q (st_comm.symm.trans w)]
  rw[show lcR (S "=") (S "!=") (.ifr z g y t)=_ from aq a,show lcR (S "=") (S "!=") (.ifr y g z t)=_ from aq a,(Qw (x:=0)).2]
def Jg:glR (.ifr y g z t)=if g=S ">" then .ifr z (S "<") y t else if g=S ">=" then .ifr z (S "<=") y t else .ifr y g z t:=rfl
def Zdw:glR (.ifr y (S "<") z t)=.ifr y (S "<") z t:=by rw[Jg,ar (by decide +kernel),ar (by decide +kernel)]
def Zdv:glR (.ifr y (S "<=") z t)=.ifr y (S "<=") z t:=by rw[Jg,ar (by decide +kernel),ar (by decide +kernel)]
def Zdu:glR (.ifr y (S ">") z t)=.ifr z (S "<") y t:=by rw[Jg,aq rfl]
def Zdt:glR (.ifr y (S ">=") z t)=.ifr z (S "<=") y t:=by rw[Jg,ar (by decide +kernel),aq rfl]
def Zds:glR (.ifr y (S "=") z t)=.ifr y (S "=") z t:=by rw[Jg,ar (by decide +kernel),ar (by decide +kernel)]
def Zdx:glR (.ifr y (S "!=") z t)=.ifr y (S "!=") z t:=by rw[Jg,ar (by decide +kernel),ar (by decide +kernel)]
def Zgh:mrG (S "<")=S ">"/\mrG (S "<=")=S ">="/\mrG (S "=")=S "="/\mrG (S ">=")=S "<="/\mrG (S ">")=S "<"/\mrG (S "!=")=S "!=":=by decide +kernel
def ZeL(h:RwOk m sz r):RwOk m sz (XW r):=by
 cases r with
 |put x y g z=>
  by_cases c:mrK g=ae
  .rw[show XW (.put x y g z)=_ from aq c];exact⟨h.1,h.2.2.2,h.2.2.1,h.2.1⟩
  .rw[show XW (.put x y g z)=_ from ar c];exact h
 |ifr y g z t=>exact⟨h.2.2.1,(by decide +kernel:∀ g∈isL,mrG g∈isL) g h.2.1,h.1,h.2.2.2⟩
 |_=>exact h
def ZeK(h:RwOk m sz r):mdR k (XW r)=mdR k r:=by
 cases r with
 |put x y g z=>
  by_cases c:mrK g=ae
  .rw[show XW (.put x y g z)=_ from aq c]
   have a:g=S "+"\/g=S "*":=by
    unfold mrK at c;simp only[cM,List.any_nil,cL,bL,aO]at c;exact c.imp ax ax
   have b:g≠S "-"/\inG g (S "+") (S "*")=ae:=by rcases a with rfl|rfl<;>exact⟨by decide +kernel,by decide +kernel⟩
   show mpR (.put x z g y)=mpR (.put x y g z);by_cases q:(Xh y&&Xh z)=ae
   .rw[show mpR (.put x y g z)=_ from aq q,show mpR (.put x z g y)=_ from aq (by rw[Bool.and_comm];exact q)]
    rcases a with rfl|rfl
    .rw[Yy,Yy,Int.add_comm]
    .rw[X0,X0,Int.mul_comm]
   .rw[show mpR (.put x y g z)=_ from ar q,show mpR (.put x z g y)=_ from ar (by rw[Bool.and_comm];exact q)]
    rw[ZdI b.1,ZdI b.1];rw[show lcR (S "+") (S "*") (.put x z g y)=_ from aq b.2,show lcR (S "+") (S "*") (.put x y g z)=_ from aq b.2,(Qw (t:=0)).1]
  .rw[show XW (.put x y g z)=_ from ar c]
 |ifr y g z t=>
  show(if t=k+1 then Rw.skip else m2R (glR (.ifr z (mrG g) y t)))=if t=k+1 then Rw.skip else m2R (glR (.ifr y g z t))
  congr 1
  have a:=h.2.1;unfold isL at a;simp only[aK,cA,or_false]at a;obtain⟨l,j,i,f,e,d⟩:=Zgh;rcases a with rfl|rfl|rfl|rfl|rfl|rfl
  .rw[l,Zdu,Zdw]
  .rw[j,Zdt,Zdv]
  .rw[i,Zds,Zds,QE (.inl rfl)]
  .rw[f,Zdv,Zdt]
  .rw[e,Zdw,Zdu]
  .rw[d,Zdx,Zdx,QE (.inr rfl)]
 |_=>rfl
def Zeu(a:Rs m rs):Fo m rs (rs.map XW):=Qn a (aD ..) λk=>by
 unfold rm;rw[aX];cases q:rs[k]? with
 |none=>rfl
 |some r=>show aa (mdR k (XW r))=aa (mdR k r);rw[ZeK (a.ok r (aV q))]
def Zf2(a:Rs m rs):Fo m rs rs:=Qn a rfl λ_=>rfl
def Zgg:(∃ k g' f,mpR (.put x y g z)=.put x k g' f)\/mpR (.put x y g z)=.skip:=by
 by_cases q:(Xh y&&Xh z)=ae
 .exact .inl ⟨_,_,_,aq q⟩
 .rw[show mpR (.put x y g z)=_ from ar q]
  obtain⟨j,g1,e,o⟩:=ZaE (x:=x) (y:=y) (g:=g) (z:=z);obtain⟨i,g2,d,n⟩:=ZaB (x:=x) (y:=j) (g:=g1) (z:=e) (a:=S "+") (b:=S "*");obtain⟨h,l,c,m⟩:=ZbD (x:=x) (y:=i) (g:=g2) (z:=d);rw[o,n,m];by_cases q:Rw.put x h l c=.put x (.nm x) (S "+") (.nu 0)
  .exact .inr (aq q)
  .exact .inl ⟨_,_,_,ar q⟩
def ZaK:∃ b g' a,∀ t,maY y z t=.ifr b g' a t:=by
 cases y with
 |nm i=>exact⟨_,_,_,λt=>rfl⟩
 |nu v=>
  by_cases c:-1000000000 < v
  .exact⟨_,_,_,λt=>aq c⟩
  .exact⟨_,_,_,λt=>ar c⟩
def Zgd:∃ b g' a,∀ t,maR (.ifr y g z t)=.ifr b g' a t:=by
 by_cases c:g=S "<="
 .obtain⟨b,g',a,e⟩:∃ b g' a,∀ t,maZ y z t=.ifr b g' a t:=by
   cases z with
   |nm i=>exact ZaK
   |nu v=>
    by_cases c:v < 999999999
    .exact⟨_,_,_,λt=>aq c⟩
    .obtain⟨b,g',a,e⟩:=ZaK (y:=y) (z:=.nu v)
     exact⟨_,_,_,λt=>(ar c).trans (e t)⟩
  exact⟨_,_,_,λt=>(aq c).trans (e t)⟩
 .exact⟨_,_,_,λt=>ar c⟩
def Zgf:∃ f:Nat->Rw,(∀ k t,t≠k+1->miR k (.ifr y g z t)=f t)/\((∀ t,f t=.skip)\/(∀ t,f t=.go t)\/∃ o g' l,∀ t,f t=.ifr o g' l t):=by
 obtain⟨e,g1,d,u⟩:=J5 (y:=y) (g:=g) (z:=z);refine⟨λt=>m2R (.ifr e g1 d t),λk t h=>(ar h).trans (av m2R (u t)),?_⟩
 by_cases q:stK e d=ae
 .by_cases c:soI (opV e) g1 (opV d)=ae
  .exact .inr (.inl λt=>(aq q).trans (aq c))
  .exact .inl λt=>(aq q).trans (ar c)
 .obtain⟨n,g2,j,s⟩:=ZaA (y:=e) (g:=g1) (z:=d) (a:=S "=") (b:=S "!=")
  obtain⟨m,p,i,r⟩:=Zgd (y:=n) (g:=g2) (z:=j);exact .inr (.inr ⟨m,p,i,λt=>(ar q).trans ((av maR (s t)).trans (r t))⟩)
def Zgl(h:t<=sz):(psN sz v).getD t 0=if t=sz then 2 * sz else t+v * sz:=by
 unfold psN;rw[aQ];by_cases c:t=sz
 .rw[aq c,bA (by rw[aD,bN];omega),aD,bN,c,eC];rfl
 .rw[ar c,bG (by rw[aD,bN];omega),aX,List.getElem?_range ∅];rfl
def Zet(I:Rs m rs)(J:Qv rs)(hd:Zdh rs ds):Fo m rs ds:=by
 obtain⟨N,hd⟩:=hd;generalize w:rs.length=n at *
 have go:∀ k c,k < n->c < 2->k<=n/\c * n+k<=ds.length/\Fit (λk j=>(k=n/\j=2 * n)\/(k < n/\∃ c,c < 2/\j=c * n+k)) k (c * n+k) (rm rs k) (rm ds (c * n+k)):=λk c E s=>by
  have O:c * n<=n:=by
   have:c=0\/c=1:=by omega
   rcases this with rfl|rfl<;>omega
  obtain⟨r,e,ok,L⟩:=ZdS I (k:=k) ∅
  obtain⟨v,G,M⟩:=hd c k r s e;refine⟨∅,∅,?_⟩
  have B:rm ds (c * n+k)=aa (mdR (c * n+k) (jmR (psN n v) r)):=by unfold rm;rw[M];rfl
  rw[L,B];rw[w]at ok;have pt:∀ t,t<=n->(t=n/\(psN n v).getD t 0=2 * n)\/(t < n/\∃ c,c < 2/\(psN n v).getD t 0=c * n+t):=λt H=>by
   rw[Zgl H];by_cases q:t=n
   .exact .inl ⟨q,aq q⟩
   .exact .inr ⟨∅,v,G,by rw[ar q,Nat.add_comm]⟩
  have nx:gT r=af->(k+1=n/\c * n+k+1=2 * n)\/(k+1 < n/\∃ F,F < 2/\c * n+k+1=F * n+(k+1)):=λK=>by
   by_cases q:k+1=n
   .have:=J r (by rw[w,show n - 1=k by omega];exact e)
    rw[K]at this;cases this
   .exact .inr ⟨∅,c,s,∅⟩
  cases r with
  |put x y g z=>
   show Fit _ _ _ (aa (mpR (.put x y g z))) (aa (mpR (.put x y g z)));rcases Zgg (x:=x) (y:=y) (g:=g) (z:=z) with⟨D,g',C,e⟩|e
   .rw[e];exact .p _ _ _ _ (nx rfl)
   .rw[e];exact .g _ _ rfl rfl λp d a b=>by rw[aI.mp d,aI.mp b];exact nx rfl
  |tell y=>exact .t y
  |skip=>exact .g _ _ rfl rfl λp d a b=>by rw[aI.mp d,aI.mp b];exact nx rfl
  |go t=>
   have l:∀ j t,nP (mdR j (.go t))=ae/\pbN j (mdR j (.go t))=[t]:=λj t=>by
    by_cases q:t=j+1
    .rw[show mdR j (.go t)=_ from aq q,q];exact⟨rfl,rfl⟩
    .rw[show mdR j (.go t)=_ from ar q];exact⟨rfl,rfl⟩
   refine .g _ _ (l _ _).1 (l _ _).1 λp d a b=>?_
   rw[(l _ _).2]at d;rw[show jmR (psN n v) (.go t)=.go ((psN n v).getD t 0) from rfl,(l _ _).2]at b;rw[aI.mp d,aI.mp b];exact pt t ok
  |ifr y g z t=>
   obtain⟨f,A,l⟩:=Zgf (y:=y) (g:=g) (z:=z);have pt:=pt t ok.2.2.2;have nx:=nx rfl;show Fit _ _ _ (aa (miR k (.ifr y g z t))) (aa (miR (c * n+k) (.ifr y g z ((psN n v).getD t 0))));generalize (psN n v).getD t 0=t' at *
   generalize c * n+k=j at *
   have s1:∀ {j t},t=j+1->miR j (.ifr y g z t)=.skip:=λh=>aq h
   have u:∀ t,nP (f t)=ae/\∀ j,∀ a∈pbN j (f t),a=t\/a=j+1:=λt=>by
    rcases l with h|h|⟨D,g',C,h⟩
    .rw[h];exact⟨rfl,λj a b=>.inr (aI.mp b)⟩
    .rw[h];exact⟨rfl,λj a b=>.inl (aI.mp b)⟩
    .rw[h];refine⟨rfl,λj a b=>?_⟩
     rcases aK.mp b with h|h
     .exact .inl h
     .exact .inr (aI.mp h)
   by_cases q:t=k+1
   .rw[s1 q]
    by_cases o:t'=j+1
    .rw[s1 o]
     exact .g _ _ rfl rfl λp d a b=>by rw[aI.mp d,aI.mp b];exact nx
    .rw[A j t' o]
     refine .g _ _ rfl (u t').1 λp d a b=>?_
     rw[aI.mp d];rcases (u t').2 j a b with rfl|rfl
     .rw[<-q];exact pt
     .exact nx
   .rw[A k t q]
    by_cases o:t'=j+1
    .rw[s1 o]
     refine .g _ _ (u t).1 rfl λp d a b=>?_
     rw[aI.mp b];rcases (u t).2 k p d with rfl|rfl
     .rw[<-o];exact pt
     .exact nx
    .rw[A j t' o]
     rcases l with h|h|⟨D,g',C,h⟩
     .rw[h,h];exact .g _ _ rfl rfl λp d a b=>by rw[aI.mp d,aI.mp b];exact nx
     .rw[h,h];exact .g _ _ rfl rfl λp d a b=>by rw[aI.mp d,aI.mp b];exact pt
     .rw[h,h];exact .i _ _ _ _ _ pt nx
 refine⟨λk j=>(k=n/\j=2 * n)\/(k < n/\∃ c,c < 2/\j=c * n+k),?_,λk j q=>?_⟩
 .by_cases q:n=0
  .exact .inl ⟨∅,∅⟩
  .exact .inr ⟨∅,0,#[],∅⟩
 .rcases q with⟨rfl,rfl⟩|⟨E,c,s,rfl⟩
  .refine⟨∅,∅,?_⟩
   rw[show rm rs k=ab by unfold rm;rw[cQ ∅];rfl,show rm ds (2 * k)=ab by unfold rm;rw[cQ ∅];rfl]
   exact .e
  .have:=go k c E s
   rw[w];exact this
end
noncomputable def S0(a:Li Int):Za:=[(af,a.map D.int)]
noncomputable def ceI(a:Li Int)(k:Nat):Int:=if k < a.length then a.getD k 0 else if a=[] then ((k:Int) * k+3 * k+1) * 16807 % 2147483629 else (a.getLastD 0 % 1000003+2) * ((k:Int) * k+16807) % 2147483629
noncomputable def smL:Li Int:=[-1000000000,-999999999,-1,0,1,999999998,999999999]
def smI(c:Int):Int:=if c % 4=0 then c / 4 % 9 - 4 else if c % 4=1 then smL.getD (c / 4 % 7).toNat 0 else c / 4 * 69621 % 2000000000 - 1000000000
def opI(c:Int)(m:Nat):Op:=if 0 < m/\0 < c % 3 then .nm (c / 3 % m).toNat else .nu (smI (c / 3))
def Uj(a c d b:Int)(m sz:Nat):Rw:=
 if a % 8 < 4/\0 < m then .put (b % m).toNat (opI c m) (psL.getD (a / 8 % 5).toNat (S "")) (opI d m)
 else if a % 8 < 6 then .ifr (opI c m) (isL.getD (a / 8 % 6).toNat (S "")) (opI d m) (b % (sz+1)).toNat
 else if a % 8=6 then .tell (opI c m)
 else if a / 8 % 2=0 then .go (b % (sz+1)).toNat else .skip
variable{bb:Bool}
section
variable{c c0 c1 c2 c3:Int}{Q:D->Prop}
def Zgs(g:Grw (S0 ns) s):s[0]?=aa (af,ns.map D.int):=g.get rfl
def Y.lts{i j:Int}(d:Y F s a U (.int i))(c:Y F s b U (.int j)):Y F s (.cmp .Lt a b) U (.bl (ak (i < j))):=.cmp d c λ_=>rfl
def Y.gts{i j:Int}(d:Y F s a U (.int i))(c:Y F s b U (.int j)):Y F s (.cmp .Gt a b) U (.bl (ak (j < i))):=.cmp d c λ_=>rfl
def Y.eqi{i j:Int}(d:Y F s a U (.int i))(c:Y F s b U (.int j)):Y F s (.e a b) U (.bl (ak (i=j))):=.cmp d c λ_=>rfl
def Y.lastL(h:Lv s (ev F a U) xs)(e:xs≠[])(f:xs.length<=100000):Y F s (.ix a (.neg (.i 1))) U (xs.getLastD .non):=λst g=>by
 obtain⟨s1,j,b,l,k,c⟩:=h st g;refine⟨s1,?_,c⟩;show ZE (ev F a) (ev F (.neg (.i 1))) ixR U st=_;unfold ZE;simp only[l];show(match (match s1[j]? with
  |some (_,xs)=>atD xs (-1)
  |none=>ab) with|some d=>aa (d,s1)|none=>ab)=_
 rw[k];show(match atD xs (-1) with|some d=>aa (d,s1)|none=>ab)=_
 rw[ZbS e f]
def Jv(l:k<=1000)(u:ns.length<=63):C (rT (n+1)) (S0 ns) 27 [.lst 0,.int (k:Int)] (.int (ceI ns k)):=by
 have h:(S0 ns)[0]?=aa (af,ns.map D.int):=rfl;have f:(ns.map D.int).length=ns.length:=aD ..;have b:ZP (k:Int)=ae:=Wx ∅
 have t:(k:Int) * k<=1000000:=by
  have:k * k<=1000 * 1000:=eW l l;omega
 have p:0<=(k:Int) * k:=Int.mul_nonneg ∅ ∅
 unfold ceI;refine .of (v:=Yf) rfl rfl (.pick (k:=ak ((k:Int) < ((ns.map D.int).length:Int))) (.lts () (.lenl h ())) (λq=>?_) λq=>?_)
 .have q:=ao q
  rw[f]at q;rw[aq ∅]
  refine .ret (.ixl (j:=k) h () () ?_);show(ns.map D.int)[k]?=_;rw[aX,aQ,Lg ∅];rfl
 .have q:=am q
  rw[f]at q;rw[ar ∅]
  have o:Y (rT n) (S0 ns) (.e (.v 0) (.lstE .aN)) [jL 0,jN k] (.bl (ak (ns=[]))):=λst g=>by
   refine⟨st++[(ae,[])],?_,.push⟩;show(match (o2 (λ(c d:Xl)=>Zeq c.2 d.2) (st++[(ae,[])])[0]? (st++[(ae,[])])[st.length]?).join with|some k=>aa (D.bl k,st++[(ae,[])])|none=>ab)=_
   rw[Zgs (g.trans .push),ZB];cases ns with
   |nil=>rfl
   |cons v ns=>rw[aG (eQ _ _)];rfl
  refine .pick o (λz=>?_) λz=>?_
  .rw[aq (ao z)]
   exact .ret (.md (.mul (.add (.add (.mul () () b) (.mul () () b)) ()) () rfl) () #[])
  .have z:=am z
   rw[ar z];have m:Y (rT n) (S0 ns) (.ix (.v 0) (.neg (.i 1))) [jL 0,jN k] (.int (ns.getLastD 0)):=by
    have y:=Y.lastL (F:=rT n) (s:=S0 ns) (a:=.v 0) (U:=[jL 0,jN k]) (xs:=ns.map D.int) (.v h ()) (by cases ns with
     |nil=>exact au rfl z
     |cons v ns=>exact eQ _ _) (by rw[f];omega)
    have e:(ns.map D.int).getLastD .non=.int (ns.getLastD 0):=by
     cases ns with
     |nil=>exact au rfl z
     |cons v ns=>rw[aW,fQ,fQ,List.getLastD_map]
    rw[e]at y;exact y
   exact .ret (.md (.mul (.add (.md m () #[]) ()) (.add (.mul () () b) ()) (Wx ∅)) () #[])
def ZdV:Sm (smI c):=by
 unfold smI;split
 .have h:=Zn (c / 4) (j:=9) #[]
  unfold Sm;omega
 .split
  .have h:=Zn (c / 4) (j:=7) #[]
   have:(c / 4 % 7).toNat < 7:=by omega
   generalize (c / 4 % 7).toNat=i at *
   exact(by unfold Sm smL;decide:∀ i:Nat,i < 7->Sm (smL.getD i 0)) i this
  .have h:=Zn (c / 4 * 69621) (j:=2000000000) #[]
   unfold Sm;omega
def Qf:C (rT (n+1)) s 20 [.int c] (.int (smI c)):=by
 unfold smI;refine .of (v:=YJ) rfl rfl (.pick (.eqi (.md () () #[]) ()) (λq=>?_) λq=>.pick (.eqi (.md () () #[]) ()) (λz=>?_) λz=>?_)
 .rw[aq (ao q)]
  exact .ret (.sub (.md (.fd () () #[]) () #[]) ())
 .rw[ar (am q),aq (ao z)]
  have h:=Zn (c / 4) (j:=7) #[]
  have a:(c / 4 % 7).toNat < smL.length:=by show _ < 7;omega
  refine .ret (.ixL (xs:=smL.map D.int) (j:=(c / 4 % 7).toNat) (.mk ()) (by rw[cB h.1];exact .md (.fd () () #[]) () #[]) ?_)
  rw[aX,aQ,Lg a];rfl
 .rw[ar (am q),ar (am z)]
  exact .ret (.sub (.md (.mul (.fd () () #[]) () rfl) () #[]) ())
def Ub:WI m (opI c m):=by
 unfold opI;split
 .rename_i h
  have h:=Zn (c / 3) (j:=(m:Int)) ∅
  show(c / 3 % (m:Int)).toNat < m;omega
 .exact ZdV
def WS(a:m<=1000):C (rT (n+2)) s 28 [.int c,.int (m:Int)] (opE (opI c m)):=by
 unfold opI;refine .of (v:=Yh) rfl rfl (.pick (.and (.gts () ()) λ_=>.gts (.md () () #[]) ()) (λq=>?_) λq=>?_)
 .rw[Ba,aO,aO]at q
  rw[aq ⟨∅,q.2⟩]
  have h:=Zn (c / 3) (j:=(m:Int)) q.1;show R _ _ _ _ (.tup [.str "name",.int ((c / 3 % (m:Int)).toNat:Int)]);rw[cB h.1];exact .ret (.cons () (.cons (.md (.fd () () #[]) () q.1) .nil))
 .rw[Bool.and_eq_false_iff,decide_eq_false_iff_not,decide_eq_false_iff_not]at q
  rw[ar ∅]
  exact .ret (.cons () (.cons (.call1 (.fd () () #[]) Qf) .nil))
def VZ{l:Li Str}{i:Nat}(h:i < l.length):l.getD i (S "")∈l:=by
 rw[aQ,Lg h];exact bH h
def Zbg:RwOk m sz (Uj c0 c1 c2 c3 m sz):=by
 have c:=Zn c3 (j:=(sz:Int)+1) ∅
 unfold Uj;split
 .rename_i h
  have b:=Zn c3 (j:=(m:Int)) ∅
  have a:=Zn (c0 / 8) (j:=5) #[]
  exact⟨∅,Ub,VZ (by show _ < 5;omega),Ub⟩
 .split
  .have a:=Zn (c0 / 8) (j:=6) #[]
   exact⟨Ub,VZ (by show _ < 6;omega),Ub,∅⟩
  .split
   .exact Ub
   .split
    .show(c3 % ((sz:Int)+1)).toNat<=sz;omega
    .trivial
def Y.sgn{l:Li Str}{i:Int}(d:Lv s (ev F a U) (l.map D.str))(c:Y F s b U (.int i))(e:0<=i)(f:i < l.length):Y F s (.ix a b) U (.str (l.getD i.toNat (S ""))):=by
 refine .ixL d (j:=i.toNat) (by rw[cB e];exact c) ?_
 rw[aX,aQ,Lg ∅];rfl
def Zdg(a:s[j]?=aa (bb,[.int c0,.int c1,.int c2,.int c3]))(o:m<=1000)(y:sz<=1000):C (rT (n+3)) s 29 [.lst j,.int (m:Int),.int (sz:Int)] (rwE (Uj c0 c1 c2 c3 m sz)):=by
 have l:=Zn c3 (j:=(sz:Int)+1) ∅
 refine .of (v:=Xo) rfl rfl (.set (.call (xs:=[.int c1,.int (m:Int)]) (.cons (.ixl (j:=1) a () () rfl) (.cons () .nil)) (WS (n:=n) o)) (.set (.call (xs:=[.int c2,.int (m:Int)]) (.cons (.ixl (j:=2) a () () rfl) (.cons () .nil)) (WS (n:=n) o)) (.pick (.and (.lts (.md (.ixl (j:=0) a () () rfl) () #[]) ()) λ_=>.gts () ()) (λq=>?_) λq=>.pick (.lts (.md (.ixl (j:=0) a () () rfl) () #[]) ()) (λb=>?_) λb=>.pick (.eqi (.md (.ixl (j:=0) a () () rfl) () #[]) ()) (λe=>?_) λe=>?_)))
 .rw[Ba,aO,aO]at q
  unfold Uj;rw[aq ⟨q.1,∅⟩]
  have w:=Zn c3 (j:=(m:Int)) q.2;have d:=Zn (c0 / 8) (j:=5) #[]
  show R _ _ _ _ (.tup [.str "put",.int ((c3 % (m:Int)).toNat:Int),opE (opI c1 m),.str (psL.getD (c0 / 8 % 5).toNat (S "")),opE (opI c2 m)]);rw[cB w.1];exact .ret (.cons () (.cons (.md (.ixl (j:=3) a () () rfl) () q.2) (.cons () (.cons (.sgn (.mk ()) (.md (.fd (.ixl (j:=0) a () () rfl) () #[]) () #[]) d.1 (by show _ < (5:Int);omega)) (.cons () .nil)))))
 .have q:¬(c0 % 8 < 4/\0 < m):=λh=>by rw[aE h.1,aE (by omega:(0:Int) < (m:Int))]at q;exact nomatch q
  have b:=ao b;unfold Uj;rw[ar q,aq b];have d:=Zn (c0 / 8) (j:=6) #[]
  show R _ _ _ _ (.tup [.str "if",opE (opI c1 m),.str (isL.getD (c0 / 8 % 6).toNat (S "")),opE (opI c2 m),.int ((c3 % ((sz:Int)+1)).toNat:Int)])
  rw[cB l.1];exact .ret (.cons () (.cons () (.cons (.sgn (.mk ()) (.md (.fd (.ixl (j:=0) a () () rfl) () #[]) () #[]) d.1 (by show _ < (6:Int);omega)) (.cons () (.cons (.md (.ixl (j:=3) a () () rfl) (.add () ()) ∅) .nil)))))
 .have q:¬(c0 % 8 < 4/\0 < m):=λh=>by rw[aE h.1,aE (by omega:(0:Int) < (m:Int))]at q;exact nomatch q
  unfold Uj;rw[ar q,ar (am b),aq (ao e)];exact .ret (.cons () (.cons () .nil))
 .have q:¬(c0 % 8 < 4/\0 < m):=λh=>by rw[aE h.1,aE (by omega:(0:Int) < (m:Int))]at q;exact nomatch q
  unfold Uj;rw[ar q,ar (am b),ar (am e)];have d:=Zn (c0 / 8) (j:=2) #[]
  have c:Y (rT (n+2)) s (.m (.k (.x 0 0) (.i 8)) (.i 2)) [jL j,jN m,jN sz,aa (opE (opI c1 m)),aa (opE (opI c2 m))] (.int (c0 / 8 % 2)):=.md (.fd (.ixl (j:=0) a () () rfl) () #[]) () #[]
  have f:Y (rT (n+2)) s (.aC (.g (.aC (.t "go") (.u (.m (.x 0 3) (.p (.v 2) (.i 1)))))) (.u (.g (.u (.t "skip"))))) [jL j,jN m,jN sz,aa (opE (opI c1 m)),aa (opE (opI c2 m))] (.tup [.tup [.str "go",.int (c3 % ((sz:Int)+1))],.tup [.str "skip"]]):=.cons (.cons () (.cons (.md (.ixl (j:=3) a () () rfl) (.add () ()) ∅) .nil)) (.cons () .nil)
  split
  .rename_i z
   rw[z]at c;show R _ _ _ _ (.tup [.str "go",.int ((c3 % ((sz:Int)+1)).toNat:Int)]);rw[cB l.1];exact .ret (.ixL (j:=0) (.mk f) c rfl)
  .rw[show c0 / 8 % 2=1 by omega]at c
   exact .ret (.ixL (j:=1) (.mk f) c rfl)
end
variable{kb:Bool}
section
variable{c w:Int}
def Zfq{v:Int}(b:v < 2 ^ 62)(a:-(2 ^ 62)<=v)(h:Y F s e U (.int v)):Wk F s e U (Xb ae) ((aj v.toNat).map λ(k:Nat)=>D.int (k:Int)):=.of h λst=>by
 unfold Xb;rw[Zav b a]
def n62{v:Int}(a:0<=v)(h:v<=700):v < 2 ^ 62/\-(2 ^ 62)<=v:=⟨∅,∅⟩
def VB(a:N<=700)(h:Y F s e U (.int (N:Int))):Wk F s e U (Xb ae) ((aj N).map λ(k:Nat)=>D.int (k:Int)):=by
 have b:=n62 (v:=(N:Int)) ∅ ∅
 have:=Zfq b.1 b.2 h;rw[bJ]at this;exact this
def Y.callL(p:Lv s (ev F a U) xs)(o:∀ st,Grw s st->Y F st b U (.tup ys))(m:ys.length < 1000)(n:∀ st j bb,Grw s st->st[j]?=aa (bb,xs)->C F st f (.lst j :: ys++ds) d):Y F s (.call f (.aC a b) ds) U d:=λst g=>by
 obtain⟨s1,j,v,u,q,i⟩:=p st g;obtain⟨e,t,h⟩:=o s1 (g.trans i) s1 .refl;obtain⟨k,r,l⟩:=n e j v (g.trans (i.trans h)) (h.get q) e .refl;refine⟨k,?_,i.trans (h.trans l)⟩;show Zl (ZE (ev F a) (ev F b) _) (X1 (F f) ds) U st=_;unfold Zl ZE;simp only[u,t];show(match (if ys.length < 1000 then aa (D.tup (.lst j :: ys),e) else ab) with|some (x,c)=>X1 (F f) ds x c|none=>ab)=_
 rw[aq m];exact r
theorem Vj:∀ {l:Li Str},Z5 g (l.map D.str)=aa (l.any λi=>ak (i=g))
 |[]=>rfl
 |i :: l=>by
  show(Z5 g (l.map D.str)).map _=_;rw[Vj];rfl
def Y.inL{l:Li Str}(h:Y F s a U (.str g))(f:∀ st,Grw s st->Lv st (ev F b U) (l.map D.str)):Y F s (.cmp .In a b) U (.bl (l.any λi=>ak (i=g))):=λst k=>by
 obtain⟨s1,o,d⟩:=h st k;obtain⟨c,j,p,n,m,e⟩:=f s1 (k.trans d) s1 .refl;refine⟨c,?_,d.trans e⟩;show ZE (ev F a) (ev F b) (VQ .In) U st=_;unfold ZE;simp only[o,n];show(match (match c[j]? with|some (_,xs)=>Z5 g xs|none=>ab) with|some k=>aa (D.bl k,c)|none=>ab)=_
 rw[m];show(match Z5 g (l.map D.str) with|some k=>aa (D.bl k,c)|none=>ab)=_
 rw[Vj]
def Y.noL{l:Li Str}(h:Y F s a U (.str g))(f:∀ st,Grw s st->Lv st (ev F b U) (l.map D.str)):Y F s (.cmp .NotIn a b) U (.bl (!l.any λi=>ak (i=g))):=λst k=>by
 obtain⟨s1,o,d⟩:=h st k;obtain⟨c,j,p,n,m,e⟩:=f s1 (k.trans d) s1 .refl;refine⟨c,?_,d.trans e⟩;show ZE (ev F a) (ev F b) (VQ .NotIn) U st=_;unfold ZE;simp only[o,n];show(match (match c[j]? with|some (_,xs)=>Z5 g xs|none=>ab).map Bool.not with|some k=>aa (D.bl k,c)|none=>ab)=_
 rw[m];show(match (Z5 g (l.map D.str)).map Bool.not with|some k=>aa (D.bl k,c)|none=>ab)=_
 rw[Vj];rfl
theorem Vh:∀ {l:Li Int},Z4 c (l.map D.int)=aa (l.any λi=>ak (i=c))
 |[]=>rfl
 |i :: l=>by
  show(Z4 c (l.map D.int)).map _=_;rw[Vh];rfl
def Y.inI{l:Li Int}(h:Y F s a U (.int c))(g:∀ st,Grw s st->Lv st (ev F b U) (l.map D.int)):Y F s (.cmp .In a b) U (.bl (l.any λi=>ak (i=c))):=λst k=>by
 obtain⟨s1,o,e⟩:=h st k;obtain⟨d,j,p,n,m,f⟩:=g s1 (k.trans e) s1 .refl;refine⟨d,?_,e.trans f⟩;show ZE (ev F a) (ev F b) (VQ .In) U st=_;unfold ZE;simp only[o,n];show(match (match d[j]? with|some (_,xs)=>Z4 c xs|none=>ab) with|some k=>aa (D.bl k,d)|none=>ab)=_
 rw[m];show(match Z4 c (l.map D.int) with|some k=>aa (D.bl k,d)|none=>ab)=_
 rw[Vh]
def RP.iset(h:Y F s e U (.bl kb))(g:Grw s st)(n:kb=ae->Y F s a U d)(f:kb=af->U=Zh U i d)(c:∀ j,Grw st j->RP F q (Zh U i d) j Q):RP F (.seq (.ite e (.z (.set i a)) .skip) q) U st Q:=by
 obtain⟨s1,l,b⟩:=h st g;cases kb with
 |true=>
  obtain⟨m,o,k⟩:=n rfl s1 (g.trans b);exact .pre (Zc ((ZN l).trans ((Zc (Zm o)).trans Zg))) (b.trans k) (c m (b.trans k))
 |false=>
  have c:=c s1 b;rw[<-f rfl]at c;exact .pre (Zc ((YA l).trans Zg)) b c
def ZgJ{t:Za}(h:ev F e U st=aa (d,t))(c:U[i]?=aa (jL j))(b:t[j]?=aa (ae,xs))(a:xs≠[])(f:xs.length<=1000):ex F (.put i (.neg (.i 1)) e) U st=aa (.nx U,t.set j (ae,xs.set (xs.length - 1) d)):=by
 have g:0 < xs.length:=List.length_pos_iff.mpr a;show UW i (λ_ s=>aa (.int (-1),s)) (ev F e) U st=_
 unfold UW;simp only[h,c];unfold Wf;simp only[b];unfold ixN;rw[ar #[],aq ∅,show(-1+(xs.length:Int)).toNat=xs.length - 1 by omega]
def ZcJ(r:Rw):∃ h xs,rwE r=.tup (.str h :: xs):=by cases r<;>exact⟨_,_,rfl⟩
def QQ(h:∀ (t:Nat) d,xs[t]?=aa d->∃ r,d=rwE r/\RwOk m sz r):∃ rs:Li Rw,xs=rs.map rwE/\∀ r∈rs,RwOk m sz r:=Qy λd b=>by
 obtain⟨t,a⟩:=List.getElem?_of_mem b;exact h t d a
def RP.fillj{I:Nat->Env->Prop}{P:Nat->D->Prop}{v:Int}{i0:Nat}(B:∀ j,Y F s e (Zh U i0 (.lst j)) (.int v))(u:v=(N:Int))(hN:N<=700)(E:∀ j,I j (Zh U i0 (.lst j)))(g:Grw s st)(A:∀ j,s.length<=j->∀ k,k < N->∀ U,I j U->∃ d a,P k d/\I j a/\Ap F s j q (Zh U i (.int (k:Int))) a [d])(x:∀ j xs a st',xs.length=N->(∀ t d,xs[t]?=aa d->P t d)->I j a->st.length<=j->Grw st st'->st'[j]?=aa (ae,xs)->∃ d t,ex F q' a st'=aa (.rt d,t)/\Grw st t/\Q d t):RP F (.y i0 (.lstE .aN) (.seq (.for1 i ae e q) q')) U st Q:=by
 have m:Grw s (st++[(ae,[])]):=g.trans .push;obtain⟨s1,L,c⟩:=B st.length (st++[(ae,[])]) m;obtain⟨xs,a,z,r,f,w⟩:=WE (I:=I st.length) g.len (A st.length g.len) N 0 ∅ _ (E st.length)
 obtain⟨l,K,o,G⟩:=w s1 [] (m.trans c) (c.get ZB) (by show 0+N<=90000;omega)
 have n:Grw st l:=(c.kj.trans o).grw (aB _) .push;obtain⟨d,t,J,H,C⟩:=x st.length xs a l z (λt d h=>by have:=r t d h;rw[cC]at this;exact this) f (aB _) n G
 refine⟨d,t,(Zc (p:=.set i0 (.lstE .aN)) (s':=st++[(ae,[])]) rfl).trans ((Zc ?_).trans J),H,C⟩;have b:=n62 (v:=v) ∅ ∅
 rw[YN (v:=v) b.1 b.2 L,u,bJ,List.range_eq_range'];exact K
def Zdj(m:Nat)(X:Li Rw->Prop)(st:Za)(a:Nat)(d:D)(st':Za):Prop:=∃ (j:Nat) (rs:Li Rw),d=.lst j/\st.length<=j/\st'[j]?=aa (ae,rs.map rwE)/\(∀ r∈rs,RwOk m rs.length r)/\X rs/\rs.length<=a
def Va(b:s=S0 ns)(d:k<=1000)(c:ns.length<=63)(e:Y (rT (n+1)) s a U (.tup [.lst 0,.int (k:Int)])):Y (rT (n+1)) s (.f 27 a) U (.int (ceI ns k)):=by
 subst b;exact .call e (Jv d c)
def Zd6(R:ns.length<=63)(hm:m<=5)(g:Grw (S0 ns) st):CP (rT (n+5)) 126 [.lst 0,.int (m:Int),.int w] st (λd st'=>Zdj m (λrs=>w=5->Qv rs) st (if w=5\/w=6 then 6 else 12) d st'):=by
 have h6:=Zn (ceI ns 6) (j:=13) #[]
 have h7:=Zn (ceI ns 6 % 13) (j:=7) #[]
 obtain⟨sz,c⟩:∃ t:Nat,(if (ak (w=5)||ak (w=6))=ae then ceI ns 6 % 13 % 7 else ceI ns 6 % 13)=(t:Int):=⟨_,(cB (by split<;>omega)).symm⟩
 have O:sz<=(if w=5\/w=6 then 6 else 12):=by
  by_cases q:w=5\/w=6
  .rw[aq q]
   rw[aq (by rw[bL,aO,aO];exact q)]at c
   omega
  .rw[ar q]
   split at c<;>omega
 have hz12:sz<=12:=by split at O<;>omega
 refine .of (v:=YZ) rfl rfl (.setY (s:=S0 ns) (.md (Va (k:=6) (n:=n+3) rfl ∅ R ()) () #[]) g λs1 L=>.iset (s:=S0 ns) (kb:=ak (w=5)||ak (w=6)) (d:=.int (sz:Int)) (.or (.eqi () ()) λ_=>.eqi () ()) (g.trans L) (λq=>?_) (λq=>?_) λs2 M=>?_)
 .rw[aq q]at c
  rw[<-c];exact .md () () #[]
 .rw[q,ar #[]]at c
  rw[<-c];rfl
 refine .fillj (s:=S0 ns) (N:=sz) (i0:=4) (i:=5) (I:=λj U=>∃ y,U=[jL 0,jN m,jI w,jN sz,jL j,y]) (P:=λ_ d=>∃ r,d=rwE r/\RwOk m sz r) (λj=>.r rf) rfl ∅ (λj=>⟨ab,rfl⟩) (g.trans (L.trans M)) (λj hj k hk U T=>?_) λj xs U t G hP T A V Q=>?_
 .obtain⟨y,rfl⟩:=T
  refine⟨_,_,⟨_,rfl,Zbg⟩,⟨_,rfl⟩,.one (.app rfl (.callL (xs:=[.int (ceI ns (10+4 * k+0)),.int (ceI ns (10+4 * k+1)),.int (ceI ns (10+4 * k+2)),.int (ceI ns (10+4 * k+3))]) (ys:=[.int (m:Int),.int (sz:Int)]) ?_ (λst g=>.r rf) (by show 2 < 1000;decide) λst j bb g hs=>Zdg (n:=n+1) hs ∅ ∅))⟩
  have lk:ZP (k:Int)=ae:=Wx ∅
  exact WX (b:=one) (wk:=Xb ae) (fr:=[5,0]) (it:=.i 4) (l:=aj 4) (en:=λ(k:Nat)=>D.int (k:Int)) (g:=λi=>.int (ceI ns (10+4 * k+i))) (VB (N:=4) #[] ()) #[] λi hi=>by
   have:=bQ.mp hi;refine Va (k:=10+4 * k+i) (n:=n+3) rfl ∅ R (.cons () (.cons ?_ .nil))
   rw[cD,cD,fM];exact .add (.add () (.mul () () lk)) ()
 .obtain⟨y,rfl⟩:=T
  obtain⟨rs,rfl,C⟩:=QQ hP;rw[aD]at G;subst G;have k3:Grw st t:=L.trans (M.trans V);have jl:st.length<=j:=aP (L.trans M).len A;obtain⟨kb,Z,H⟩:∃ kb,Y (rT (n+4)) t (.and (.cmp .In (.v 2) (.lstE (.aC (.i 5) (.u (.i 6))))) (.and (.cmp .Gt (.v 3) (.i 0)) (.cmp .NotIn (.ix (.ix (.v 4) (.neg (.i 1))) (.i 0)) (.lstE (.aC (.t "go") (.u (.t "tell"))))))) [jL 0,jN m,jI w,jN rs.length,jL j,y] (.bl kb)/\(kb=ae->rs≠[])/\(kb=af->w=5->Qv rs):=by
   cases rs with
   |nil=>exact⟨_,.and (.inI (l:=[5,6]) () λ_ _=>.mk ()) λ_=>.and (m:=af) (.gts () ()) λh=>(nomatch h),(λh=>by rw[Ba,Ba]at h;exact nomatch h.2.2),λ_ _ r h=>nomatch h⟩
   |cons z rs=>
    obtain⟨h,xs,J⟩:=ZcJ (rs.getLastD z);have X:=Y.lastL (F:=rT (n+4)) (s:=t) (a:=.v 4) (U:=[jL 0,jN m,jI w,aa (.int (((z :: rs).length:Nat):Int)),jL j,y]) (.v Q ()) (eQ _ _) (by rw[aD];omega)
    rw[aW,fQ,List.getLastD_map,J]at X;exact⟨_,.and (.inI (l:=[5,6]) () λ_ _=>.mk ()) λ_=>.and (.gts () ()) λ_=>.noL (l:=[S "go",S "tell"]) (.ixt (j:=0) X () rfl) λ_ _=>.mk (),(λ_=>eQ _ _),λo h5 r e=>by
     subst h5;have G:(z :: rs).getLastD z=r:=by rw[List.getLastD_eq_getLast?,List.getLast?_eq_getElem?,e];rfl
     rw[fQ]at G;rw[G]at J;rw[aE (show(0:Int) < (((z :: rs).length:Nat):Int) by rw[aY];omega)]at o
     have o:(!([S "go",S "tell"].any λi=>ak (i=h)))=af:=o
     rw[Bool.not_eq_false']at o;simp only[cM,List.any_nil,cL,bL,aO]at o;cases r with
     |go _=>rfl
     |tell _=>rfl
     |put _ _ _ _=>exact au (Zw J) (by rcases o with h|h<;>rw[<-h]<;>decide +kernel)
     |ifr _ _ _ _=>exact au (Zw J) (by rcases o with h|h<;>rw[<-h]<;>decide +kernel)
     |skip=>exact au (Zw J) (by rcases o with h|h<;>rw[<-h]<;>decide +kernel)⟩
  cases kb with
  |false=>
   obtain⟨K,W,x⟩:=Z t .refl;exact⟨_,K,(Zc ((YA W).trans Zg)).trans (Zj (ZU rfl)),V.trans x,j,rs,rfl,jl,x.get Q,C,H.2 rfl,O⟩
  |true=>
   have E:=H.1 rfl;have h0:0 < rs.length:=List.length_pos_iff.mpr E;have hv:=Zn (ceI ns (9+4 * rs.length)) (j:=(rs.length:Int)+1) ∅
   obtain⟨v,ev⟩:∃ v:Nat,ceI ns (9+4 * rs.length) % ((rs.length:Int)+1)=(v:Int):=⟨_,(cB hv.1).symm⟩;rw[ev]at hv;obtain⟨K,W,x⟩:=Z t .refl;have gS:Grw (S0 ns) K:=g.trans (k3.trans x);have lk:ZP (rs.length:Int)=ae:=Wx ∅
   have yt:Y (rT (n+4)) (S0 ns) (.g (.aC (.t "go") (.u (.m (.f 27 (.a 0 (.u (.p (.i 9) (.h (.i 4) (.v 3)))))) (.p (.v 3) (.i 1)))))) [jL 0,jN m,jI w,jN rs.length,jL j,y] (rwE (.go v)):=by
    show Y _ _ _ _ (.tup [.str "go",.int (v:Int)]);rw[<-ev];refine .cons () (.cons (.md (Va (k:=9+4 * rs.length) (n:=n+3) rfl ∅ R (.cons () (.cons ?_ .nil))) (.add () ()) ∅) .nil)
    rw[cD,fM];exact .add () (.mul () () lk)
   obtain⟨t2,e2,j2⟩:=yt K gS;have B:=(x.trans j2).get Q;have ep:=ZgJ (i:=4) e2 rfl B (λh=>E (List.map_eq_nil_iff.mp h)) (by rw[aD];omega)
   rw[aD,<-List.map_set]at ep;refine⟨_,t2.set j (ae,(rs.set (rs.length - 1) (.go v)).map rwE),(Zc ((ZN W).trans ((Zc ep).trans Zg))).trans (Zj (ZU rfl)),Xe (V.trans (x.trans j2)) A,j,rs.set (rs.length - 1) (.go v),rfl,jl,bR (Zx B),λr e=>?_,(λ_ r e=>by rw[bK,bR ∅]at e;cases e;rfl),by rw[bK];exact O⟩
   rw[bK];rcases fW e with e|rfl
   .exact C r e
   .show v<=rs.length;omega
end
noncomputable def inN(a:Li Nat):Li D:=a.map λ(p:Nat)=>D.int (p:Int)
section
variable{c:Int}{ps:Li Nat}
def Y.calT(n:Y F s a U x)(m:∀ st,Grw s st->Lv st (ev F b U) xs)(l:∀ st j bb,Grw s st->st[j]?=aa (bb,xs)->C F st f ([x,.lst j]++ds) d):Y F s (.call f (.aC a (.u b)) ds) U d:=λst g=>by
 obtain⟨s1,r,c⟩:=n st g;obtain⟨e,j,t,q,o,h⟩:=m s1 (g.trans c) s1 .refl;obtain⟨i,p,k⟩:=l e j t (g.trans (c.trans h)) o e .refl;refine⟨i,?_,c.trans (h.trans k)⟩;show Zl (ZE (ev F a) (ZE (ev F b) (ev F .aN) _) _) (X1 (F f) ds) U st=_;unfold Zl ZE;simp only[r,q];exact p
def ZdB{t:Nat}(h:t < ps.length):(inN ps)[t]?=aa (.int ((ps.getD t 0:Nat):Int)):=by
 unfold inN;rw[aX,aQ,Lg h];rfl
def ZbK(a:s[w]?=aa (bb,inN ps))(h:RwOk m sz r)(b:sz < ps.length):C (rT (n+1)) s 123 [rwE r,.lst w] (rwE (jmR ps r)):=by
 cases r with
 |ifr y g z t=>exact .of (v:=ZC) rfl rfl (.yes () (.adT (xs:=[.str "if",opE y,.str g,opE z]) (.tkT (i:=4) (xs:=[.str "if",opE y,.str g,opE z,.int (t:Int)]) () () (show 4<=5 by decide)) (.cons (.ixl (j:=t) a () () (ZdB (by have:=h.2.2.2;omega))) .nil) (by show 4+1<=100000;decide)))
 |go t=>exact .of (v:=ZC) rfl rfl (.no () (.yes () (.cons () (.cons (.ixl (j:=t) a () () (ZdB (by have:t<=sz:=h;omega))) .nil))))
 |put x y g z=>exact .of (v:=ZC) rfl rfl (.no () (.no () (.ret ())))
 |tell y=>exact .of (v:=ZC) rfl rfl (.no () (.no () (.ret ())))
 |skip=>exact .of (v:=ZC) rfl rfl (.no () (.no () (.ret ())))
def Zf7(h:RwOk m sz r)(c:sz < ps.length)(a:∀ p∈ps,p<=sz'):RwOk m sz' (jmR ps r):=by
 have ok:∀ t,t<=sz->ps.getD t 0<=sz':=λt b=>by
  rw[aQ,Lg ∅]
  exact a _ (bH _)
 cases r with
 |ifr y g z t=>exact⟨h.1,h.2.1,h.2.2.1,ok t h.2.2.2⟩
 |go t=>exact ok t h
 |put x y g z=>exact h
 |tell y=>exact h
 |skip=>exact h
def Us(h:RwOk m sz r):C (rT (n+1)) s 124 [rwE r] (rwE (XW r)):=by
 cases r with
 |put x y g z=>
  have a:Y (rT n) s (.and (.e (.x 0 0) (.t "put")) (.cmp .In (.x 0 3) (.lstE (.aC (.t "+") (.u (.t "*")))))) [aa (rwE (.put x y g z)),ab] (.bl (ae&&mrK g)):=.and (k:=ae) () λ_=>Y.inL (l:=[S "+",S "*"]) (g:=g) () λ_ _=>.mk ()
  by_cases b:mrK g=ae
  .rw[show XW (.put x y g z)=_ from aq b]
   rw[b]at a;exact .of (v:=Zr) rfl rfl (.yes a ())
  .rw[show XW (.put x y g z)=_ from ar b]
   rw[fP.mpr b]at a;exact .of (v:=Zr) rfl rfl (.no a (.no () (.ret ())))
 |ifr y g z t=>
  have go:Y (rT n) s (.dget (.dict [(S "<"),(S "<="),(S ">"),(S ">=")] (.aC (.t ">") (.aC (.t ">=") (.aC (.t "<") (.u (.t "<=")))))) (.x 0 2) (.x 0 2)) [aa (rwE (.ifr y g z t)),ab] (.str (mrG g)):=by
   have c:=h.2.1;unfold isL at c;simp only[aK,cA,or_false]at c;obtain⟨p,o,j,i,f,d⟩:=Zgh;rcases c with rfl|rfl|rfl|rfl|rfl|rfl
   .rw[p];exact .r rf
   .rw[o];exact .r rf
   .rw[j];exact .r rf
   .rw[i];exact .r rf
   .rw[f];exact .r rf
   .rw[d];exact .r rf
  exact .of (v:=Zr) rfl rfl (.no (.and (k:=af) (m:=af) () λh=>(nomatch h)) (.yB () (.set go (.ret ()))))
 |go t=>exact .of (v:=Zr) rfl rfl (.no (.and (k:=af) (m:=af) () λh=>(nomatch h)) (.no () (.ret ())))
 |tell y=>exact .of (v:=Zr) rfl rfl (.no (.and (k:=af) (m:=af) () λh=>(nomatch h)) (.no () (.ret ())))
 |skip=>exact .of (v:=Zr) rfl rfl (.no (.and (k:=af) (m:=af) () λh=>(nomatch h)) (.no () (.ret ())))
def ZdY:(2:Int) < 2 ^ 62/\-(2 ^ 62)<=(2:Int):=n62 #[] #[]
def Zb6{a b:Env}{s1 c:Za}(f:ex F q (Zh U i (.int 0)) st=aa (.nx a,s1))(e:ex F q (Zh a i (.int 1)) s1=aa (.nx b,c)):ex F (.for1 i ae (.i 2) q) U st=aa (.nx b,c):=by
 rw[YN (v:=2) ZdY.1 ZdY.2 (st1:=st) rfl];show(match ex F q (Zh U i (.int 0)) st with
   |some (.nx U',st')=>Zi (λd U s=>ex F q (Zh U i d) s) [.int 1] U' st'
   |some (.ct U',st')=>Zi (λd U s=>ex F q (Zh U i d) s) [.int 1] U' st'
   |some (.bk U',st')=>aa (.nx U',st')
   |some (.rt v,st')=>aa (.rt v,st')
   |none=>ab)=_
 rw[f];show(match ex F q (Zh a i (.int 1)) s1 with
   |some (.nx U',st')=>Zi (λd U s=>ex F q (Zh U i d) s) [] U' st'
   |some (.ct U',st')=>Zi (λd U s=>ex F q (Zh U i d) s) [] U' st'
   |some (.bk U',st')=>aa (.nx U',st')
   |some (.rt v,st')=>aa (.rt v,st')
   |none=>ab)=_
 rw[e];rfl
def JR(J:s[w]?=aa (bb,rs.map rwE))(L:rs.length=sz)(Z:sz<=12)(y:∀ r∈rs,RwOk m sz r)(C:s.length<=j){cp:Int}(Q:0<=cp/\cp < 2){y5 y6:Ot D}:∃ xs u o,xs.length=sz/\(∀ (t:Nat) d,xs[t]?=aa d->∃ v,v < 2/\∃ r,rs[t]?=aa r/\d=rwE (jmR (psN sz v) r)) /\
  ∀ st a,Grw s st->st[j]?=aa (ae,a)->a.length+sz<=90000->∃ st',ex (rT (n+1)) Z1 [jL w,jI c,jN sz,jL j,jI cp,y5,y6] st=aa (.nx [jL w,jI c,jN sz,jL j,jI cp,u,o],st')/\Kj j st st'/\st'[j]?=aa (ae,a++xs):=by
 obtain⟨xs,U',O,H,A,z⟩:=WE (F:=rT (n+1)) (s:=s) (i:=5) (q:=YB) (N:=sz) (I:=λU=>∃ u o,U=[jL w,jI c,jN sz,jL j,jI cp,u,o]) (P:=λt d=>∃ v,v < 2/\∃ r,rs[t]?=aa r/\d=rwE (jmR (psN sz v) r)) C (λk hk U A=>by
  obtain⟨u,o,rfl⟩:=A;have B:=Zn ((c % 1000003+1) * ((k:Int) * k+13 * cp+5) % 10007) (j:=2) #[]
  obtain⟨v,ev⟩:∃ v:Nat,(c % 1000003+1) * ((k:Int) * k+13 * cp+5) % 10007 % 2=(v:Int):=⟨_,(cB B.1).symm⟩;rw[ev]at B;have lk:ZP (k:Int)=ae:=Wx ∅
  have G:ZP cp=ae:=Wx ∅
  have E:ZP (sz:Int)=ae:=Wx ∅
  have W:(k:Int) * k<=144:=by
   have:k * k<=12 * 12:=eW ∅ ∅
   omega
  have V:0<=(k:Int) * k:=Int.mul_nonneg ∅ ∅
  have f:k < rs.length:=by omega
  have z:=y rs[k] (bH f);have M:((aj sz).map (λt=>t+v * sz)++[2 * sz]).length=sz+1:=by rw[aH,aD,bN];rfl
  have K:v * sz<=sz:=by
   have:v=0\/v=1:=by omega
   rcases this with rfl|rfl<;>omega
  refine⟨rwE (jmR ((aj sz).map (λt=>t+v * sz)++[2 * sz]) rs[k]),[jL w,jI c,jN sz,jL j,jI cp,jN k,aa (.int ((v * sz:Nat):Int))],⟨v,∅,_,Lg f,rfl⟩,⟨_,_,rfl⟩,.seq C (xs:=[]) (.set ?_) (.one (.app rfl (.calT (x:=rwE rs[k]) (xs:=inN ((aj sz).map (λt=>t+v * sz)++[2 * sz])) (.ixl (j:=k) J () () (by show(rs.map rwE)[k]?=_;rw[aX,Lg f];rfl)) (λst g=>?_) λst X T g h=>ZbK (n:=n) h z ∅)))⟩
  .rw[fM,<-ev]
   exact .mul (.md (.md (.mul (.add (.md () () #[]) ()) (.add (.add (.mul () () lk) (.mul () () G)) ()) (Wx ∅)) () #[]) () #[]) () (Wx ∅)
  .unfold inN
   rw[dF,bM];refine .cat (WX (b:=one) (wk:=Xb ae) (fr:=[6]) (it:=.v 2) (l:=aj sz) (en:=λ(k:Nat)=>D.int (k:Int)) (g:=(λ(p:Nat)=>D.int (p:Int)) ∘ λt=>t+v * sz) (VB ∅ ()) (by rw[bN];omega) λt ht=>?_) ?_ ?_
   .show Y _ _ _ _ (.int ((t+v * sz:Nat):Int))
    rw[cD];exact .add () ()
   .show Lv _ _ [.int ((2 * sz:Nat):Int)]
    rw[show((2 * sz:Nat):Int)=2 * (sz:Int) by omega]
    exact .mk (.cons (.mul () () E) .nil)
   .rw[aD,aD,bN]
    show sz+1<=1000000;omega) sz 0 ∅ [jL w,jI c,jN sz,jL j,jI cp,y5,y6] ⟨_,_,rfl⟩
 obtain⟨u,o,rfl⟩:=A;refine⟨xs,u,o,O,λt d h=>by have:=H t d h;rwa [cC]at this,λst a g h R=>?_⟩
 obtain⟨st',e,k,S⟩:=z st a g h R;refine⟨st',?_,k,S⟩;refine(Zc ?_).trans Zg;have b:=n62 (v:=(sz:Int)) ∅ ∅
 rw[YN (v:=(sz:Int)) b.1 b.2 (st1:=st) rfl,bJ,List.range_eq_range'];exact e
def Q0(z:rs.length=sz)(Q:sz<=12)(g:∀ r∈rs,RwOk m sz r)(R:st[w]?=aa (bb,rs.map rwE)):CP (rT (n+2)) 125 [.lst w,.int c] st (λd st'=>Zdj m (Zdh rs) st (2 * sz) d st'):=by
 have J:((rs.map rwE).length:Int)=(sz:Int):=by rw[aD,z]
 refine .of (v:=Yg) rfl rfl (.setY (s:=st) (d:=.int (sz:Int)) (by have y:=Y.lenl (F:=rT (n+1)) (a:=.v 0) (U:=[jL w,jI c,ab,ab,ab,ab,ab]) R ();rw[J]at y;exact y) .refl λs1 P=>?_)
 have x:=P.get R;have jl:st.length<=s1.length:=P.len;obtain⟨xs,y5,y6,u,I,H⟩:=JR (n:=n) (c:=c) (cp:=0) (s:=s1) (j:=s1.length) (y5:=ab) (y6:=ab) x z Q g (aB _) ∅
 obtain⟨ys,X,W,G,E,D⟩:=JR (n:=n) (c:=c) (cp:=1) (s:=s1) (j:=s1.length) (y5:=y5) (y6:=y6) x z Q g (aB _) ∅
 obtain⟨Z,e,O,h2⟩:=H (s1++[(ae,[])]) [] .push ZB (by show 0+sz<=90000;omega)
 obtain⟨C,e3,k3,h3⟩:=D Z _ (O.grw (aB _) .push) h2 (by rw[dZ,u];omega)
 have e4:ex (rT (n+1)) (.for1 4 ae (.i 2) Z1) [jL w,jI c,jN sz,jL s1.length,ab,ab,ab] (s1++[(ae,[])])=aa (.nx [jL w,jI c,jN sz,jL s1.length,jI 1,X,W],C):=Zb6 e e3;have g3:Grw s1 C:=(O.trans k3).grw (aB _) .push;have A:(xs++ys).length=2 * sz:=by rw[aH,u,G];omega
 have B:∀ (t:Nat) d,(xs++ys)[t]?=aa d->∃ c k v r,c < 2/\v < 2/\t=c * sz+k/\rs[k]?=aa r/\d=rwE (jmR (psN sz v) r):=λt d h=>by
  by_cases q:t < xs.length
  .rw[bG q]at h
   obtain⟨v,o,r,f,e⟩:=I t d h;exact⟨0,t,v,r,#[],o,∅,f,e⟩
  .rw[bA ∅]at h
   obtain⟨v,o,r,f,e⟩:=E _ d h;exact⟨1,t - xs.length,v,r,#[],o,∅,f,e⟩
 obtain⟨b,N,ok⟩:=QQ (m:=m) (sz:=2 * sz) (xs:=xs++ys) (λt d h=>by
  obtain⟨_,_,v,r,_,o,_,f,e⟩:=B t d h;refine⟨_,e,Zf7 (g r (aV f)) (by unfold psN;rw[aH,aD,bN];exact dW _) λp hp=>?_⟩
  have:v * sz<=sz:=by
   have:v=0\/v=1:=by omega
   rcases this with rfl|rfl<;>omega
  rcases bE.mp hp with hp|hp
  .obtain⟨t,ht,rfl⟩:=aR.mp hp
   have:=bQ.mp ht;omega
  .rw[aI.mp hp];exact aB _)
 have l:b.length=2 * sz:=by rw[<-A,N,aD]
 have M:C[s1.length]?=aa (ae,b.map rwE):=by rw[h3,dZ,N]
 refine⟨.lst s1.length,C,(Zc (Zm (v:=.lst s1.length) (st':=s1++[(ae,[])]) rfl)).trans ((Zc e4).trans (Zj (ZU rfl))),g3,⟨s1.length,b,rfl,jl,M,λr hr=>by rw[l];exact ok r hr,⟨by rw[l,z],λc k r hc S=>?_⟩,cR l⟩⟩
 have K:=Zx S;rw[z]at K ⊢;have L:c * sz<=sz/\(c=0\/c=1):=by
  have:c=0\/c=1:=by omega
  rcases this with rfl|rfl<;>exact⟨∅,∅⟩
 have T:b[c * sz+k]?=aa b[c * sz+k]:=Lg ∅
 obtain⟨V,k',v,r',hc',o,et,f,e⟩:=B (c * sz+k) (rwE b[c * sz+k]) (by rw[N,aX,T];rfl)
 have hk2:=Zx f;have:k'=k:=by
  have:V=0\/V=1:=by omega
  rcases this with rfl|rfl<;>rcases L.2 with rfl|rfl<;>omega
 subst this;rw[S]at f;cases f;exact⟨v,o,by rw[T,U1 e]⟩
end
variable{j5 j7:Nat}{hd wy:Int}
variable{os:Li Rw}{V:Prop}
section
variable{c:Int}
theorem Wk.lst(b:s[w]?=aa (bb,xs))(h:Y F s e U (.lst w)):Wk F s e U (Xb af) xs:=λst g=>by
 obtain⟨s1,d,a⟩:=h st g;refine⟨.lst w,s1,λs=>s[w]?=aa (bb,xs),d,a,?_,λst' k=>k.get ((g.trans a).get b)⟩
 show(match s1[w]? with|some c=>aa (c.2,λs=>s[w]?=aa c)|none=>ab)=_
 rw[(g.trans a).get b]
def Ln(s:Za)(f:Za->Res)(xs:Li D):Prop:=∀ st,Grw s st->∃ st' j,f st=aa (.lst j,st')/\st.length<=j/\st'[j]?=aa (ae,xs)/\Grw st st'
def Ln.rev(b:s[w]?=aa (bb,xs))(h:Y F s e U (.lst w)):Ln s (ev F (.rs af e) U) xs.reverse:=λst g=>by
 obtain⟨s1,c,a⟩:=h st g;refine⟨s1++[(ae,xs.reverse)],s1.length,?_,a.len,ZB,a.trans .push⟩;show Zl (ev F e) (rsD af) U st=_;unfold Zl;simp only[c];show(match s1[w]? with|some (_,xs)=>(match rsL af xs with|some ys=>aa (D.lst s1.length,s1++[(ae,ys)])|none=>ab)|none=>ab)=_
 rw[(g.trans a).get b];rfl
def Ln.lo(b:s[w]?=aa (bb,xs))(h:Y F s e U (.lst w)):Ln s (ev F (.listOf e) U) xs:=λst g=>by
 obtain⟨s1,c,a⟩:=h st g;refine⟨s1++[(ae,xs)],s1.length,?_,a.len,ZB,a.trans .push⟩;show Zl (ev F e) Qx U st=_;unfold Zl;simp only[c];show(match s1[w]? with|some (_,xs)=>aa (D.lst s1.length,s1++[(ae,xs)])|none=>ab)=_
 rw[(g.trans a).get b]
def Ln.comp{b:D->Li (Ot D)}{en g:α->D}{l:Li α}(n:Wk F s it U wk (l.map en))(m:l.length<=1000)(h:∀ a∈l,Y F s elt (Z9 b U fr (en a)) (g a)):Ln s (Xj b wk fr (ev F it) (ev F elt) (ev F (.c (.bl ae))) U) (l.map g):=λst k=>by
 obtain⟨x,s1,ok,r,e,q,j⟩:=n st k;obtain⟨f,p,i⟩:=X9 (s:=s1) (ok:=ok) (fe:=λd=>ev F elt (Z9 b U fr d)) (fc:=λd=>ev F (.c (.bl ae)) (Z9 b U fr d)) (λ_ _=>rfl) j (λa o=>Gv.mono (h a o) (k.trans e)) s1 .refl
 refine⟨f++[(ae,l.map g)],f.length,?_,(e.trans i).len,ZB,(e.trans i).trans .push⟩;unfold Xj;simp only[r,q,aD,aq m,p]
structure Ow(V:Prop)(m:Nat)(ns:List Int)(rs os:List Rw)(j5 j7:Nat)(st:Za):Prop where
 g:Grw (S0 ns) st
 h5:st[j5]?=aa (ae,rs.map rwE)
 h7:st[j7]?=aa (ae,os.map rwE)
 ne:j5≠j7
 lo:1<=j7
 ok:∀ r∈os,RwOk m os.length r
 len:os.length<=12
 le:rs.length<=os.length
 fo:V->Fo m rs os
def Ow.up{t:Za}(h:Ow V m ns rs os j5 j7 st)(g:Grw st t):Ow V m ns rs os j5 j7 t:=⟨h.g.trans g,g.get h.h5,g.get h.h7,h.ne,h.lo,h.ok,h.len,h.le,h.fo⟩
def Ow.new{t:Za}{a:Li Rw}(h:Ow V m ns rs os j5 j7 st)(g:Grw st t)(e:st.length<=j)(c:t[j]?=aa (ae,a.map rwE))(ok:∀ r∈a,RwOk m a.length r)(len:a.length<=12)(b:rs.length<=a.length)(d:V->Fo m rs a):Ow V m ns rs a j5 j t:=
 ⟨h.g.trans g,g.get h.h5,c,by have:=Zx h.h5;omega,by have:=Zx h.h7;omega,ok,len,b,d⟩
noncomputable abbrev E2(hd:Int)(c m:Nat)(wy:Int)(j5 sz j7:Nat)(b a:Ot D):Env:=[jL 0,jI hd,jN c,jN m,jI wy,jL j5,jN sz,jL j7,b,a,ab,ab]
def Zby{tk:Nat}{e7:CE}(h:Ow V m ns rs os j5 j7 st)(o:Y F st e (E2 hd tk m wy j5 rs.length j7 ab ab) (.bl kb))(p:kb=ae->∀ t,Grw st t->∃ (j:Nat) (c:Za) (a:Li Rw),ev F e7 (E2 hd tk m wy j5 rs.length j7 ab ab) t=aa (.lst j,c)/\t.length<=j/\Grw t c/\c[j]?=aa (ae,a.map rwE)/\(∀ r∈a,RwOk m a.length r)/\a.length<=12/\rs.length<=a.length/\(V->Fo m rs a)):∃ (j:Nat) (t:Za) (a:Li Rw),ex F (.ite e (.z (.set 7 e7)) .skip) (E2 hd tk m wy j5 rs.length j7 ab ab) st=aa (.nx (E2 hd tk m wy j5 rs.length j ab ab),t)/\Grw st t/\Ow V m ns rs a j5 j t:=by
 obtain⟨d,g,b⟩:=o st .refl;cases kb with
 |false=>exact⟨j7,d,os,(YA g).trans Zg,b,h.up b⟩
 |true=>
  obtain⟨j,i,a,s,n,f,l,ok,len,k,q⟩:=p rfl d b;exact⟨j,i,a,(ZN g).trans ((Zc (Zm s)).trans Zg),b.trans f,(h.up b).new f n l ok len k q⟩
def Zfr{t:Za}{v y:Nat}(b:U[v]?=aa (jN k))(a:U[y]?=aa (aa d))(f:U[i]?=aa (jL j))(e:t[j]?=aa (ae,xs))(c:k < xs.length):ex F (.put i (.v v) (.v y)) U t=aa (.nx U,t.set j (ae,xs.set k d)):=by
 show UW i (YT v) (YT y) U t=_;unfold UW YT;simp only[b,a,f];unfold Wf;simp only[e];unfold ixN;rw[aq (eV k),bJ,aq (Int.ofNat_lt.mpr c)]
theorem Ow.set(h:Ow V m ns rs os j5 j7 st)(d:¬V)(c:RwOk m os.length r):Ow V m ns rs (os.set k r) j5 j7 (st.set j7 (ae,(os.map rwE).set k (rwE r))):=
 ⟨Xe h.g (by show 1<=j7;exact h.lo),by rw[bX (Ne.symm h.ne)];exact h.h5,by rw[bR (Zx h.h7),List.map_set],h.ne,h.lo,λb a=>by
  rw[bK];rcases fW a with q|rfl
  .exact h.ok b q
  .exact c,by rw[bK];exact h.len,by rw[bK];exact h.le,λv=>au v d⟩
end
inductive TwP(V:Prop)(d:D):Prop where
 |mk (tk tk':D) (m:Nat) (rs rs':List Rw) (e:d=.tup [pgD tk m rs,pgD tk' m rs']) (m5:m<=5) (r:Rs m rs) (r':Rs m rs') (l:rs.length<=12) (l':rs'.length<=12) (fo:V->Fo m rs rs') (A:Nat) (x x':D) (et:tk=.tup (ag A x)) (et':tk'=.tup (ag A x')) (ha:A<=m/\A<=3)
variable{Q1:D->Za->Prop}
section
variable{c:Int}
def Y.cutT{c b:D}(e:Y F s a U (.tup (c :: b :: xs))):Y F s (.slice a (.part (.i 1)) (.part (.i 2))) U (.tup [b]):=λst g=>by
 obtain⟨s1,f,d⟩:=e st g;refine⟨s1,?_,d⟩;show Yz (ev F a) (λ_ st=>aa (.int 1,st)) (λ_ st=>aa (.int 2,st)) YR U st=_
 unfold Yz;simp only[f];show Z6 (.tup (c :: b :: xs)) (aa 1) (aa 2) s1=_;rw[sl_tup]
 congr 3
def RwOk.mono(h:RwOk m sz r)(a:sz<=k):RwOk m k r:=by
 cases r with
 |put x y g z=>exact h
 |ifr y g z t=>exact⟨h.1,h.2.1,h.2.2.1,aP h.2.2.2 a⟩
 |go t=>exact aP (show t<=sz from h) a
 |tell y=>exact h
 |skip=>exact h
noncomputable def tlC:Nat->CS->CS
 |0,q=>q
 |n+1,.seq _ q=>tlC n q
 |_,q=>q
noncomputable def hdC:CS->CS
 |.seq p _=>p
 |q=>q
noncomputable def bdC:CS->CS
 |.ite _ p _=>p
 |q=>q
def Y1(g:Grw (S0 ns) st)(c:k<=1000)(b:ns.length<=63)(d:Y (rT (n+1)) st a U (.tup [.lst 0,.int (k:Int)])):Y (rT (n+1)) st (.f 27 a) U (.int (ceI ns k)):=.call d ((Jv c b).mono g)
def Jf{tk:Nat}{f:Rw}(q:RwOk m os.length r)(C:os[k]?=aa f)(B:RwOk m os.length f):∃ r',RwOk m os.length r'/\∀ t,t[j7]?=aa (ae,os.map rwE)->∃ d,ex F (hdC (tlC 2 (bdC (hdC (tlC 10 c__law_two.body))))) (E2 hd tk m wy j5 sz j7 (jN k) (aa (rwE r))) t=aa (.nx (E2 hd tk m wy j5 sz j7 (jN k) (aa (rwE r'))),d)/\Grw t d:=by
 have no:(∀ t,t[j7]?=aa (ae,os.map rwE)->Y F t (.and (.e (.x 9 0) (.t "put")) (.e (.ix (.ix (.v 7) (.v 8)) (.i 0)) (.t "put"))) (E2 hd tk m wy j5 sz j7 (jN k) (aa (rwE r))) (.bl af))->∃ r',RwOk m os.length r'/\∀ t,t[j7]?=aa (ae,os.map rwE)->∃ d,ex F (hdC (tlC 2 (bdC (hdC (tlC 10 c__law_two.body))))) (E2 hd tk m wy j5 sz j7 (jN k) (aa (rwE r))) t=aa (.nx (E2 hd tk m wy j5 sz j7 (jN k) (aa (rwE r'))),d)/\Grw t d:=λA=>⟨r,q,λt a=>by
  obtain⟨c,n,l⟩:=A t a t .refl;exact⟨c,(YA n).trans Zg,l⟩⟩
 have b:∀ {r},∀ t,t[j7]?=aa (ae,os.map rwE)->Y F t (.ix (.v 7) (.v 8)) (E2 hd tk m wy j5 sz j7 (jN k) (aa (rwE r))) (rwE f):=λ{r} t a=>.ixl (j:=k) a () () (by show(os.map rwE)[k]?=_;rw[aX,C];rfl)
 cases r with
 |put x y g z=>
  cases f with
  |put o G g' E=>exact⟨.put o y g z,⟨B.1,q.2⟩,λt a=>by
    have s:Y F t (.and (.e (.x 9 0) (.t "put")) (.e (.ix (.ix (.v 7) (.v 8)) (.i 0)) (.t "put"))) (E2 hd tk m wy j5 sz j7 (jN k) (aa (rwE (.put x y g z)))) (.bl ae):=.and (k:=ae) (m:=ae) () λ_=>.cmp (x:=.str "put") (.ixt (j:=0) (b t a) () rfl) () λ_=>rfl
    obtain⟨c,n,l⟩:=s t .refl;have ys:Y F c (.p (.p (.slice (.v 9) .nop (.part (.i 1))) (.slice (.ix (.v 7) (.v 8)) (.part (.i 1)) (.part (.i 2)))) (.slice (.v 9) (.part (.i 2)) .nop)) (E2 hd tk m wy j5 sz j7 (jN k) (aa (rwE (.put x y g z)))) (rwE (.put o y g z)):=.adT (.adT (.tkT (i:=1) (xs:=[.str "put",.int (x:Int),opE y,.str g,opE z]) () () (show 1<=5 by decide)) (.cutT (b c (l.get a))) (by show 1+1<=100000;decide)) (.dpT (i:=2) (xs:=[.str "put",.int (x:Int),opE y,.str g,opE z]) () () (show 2<=5 by decide)) (by show 2+3<=100000;decide)
    obtain⟨u,D,w⟩:=ys c .refl;exact⟨u,(ZN n).trans ((Zc (Zm D)).trans Zg),l.trans w⟩⟩
  |ifr _ _ _ _=>exact no λt a=>.and (k:=ae) (m:=af) () λ_=>.cmp (x:=.str "if") (.ixt (j:=0) (b t a) () rfl) () λ_=>rfl
  |go _=>exact no λt a=>.and (k:=ae) (m:=af) () λ_=>.cmp (x:=.str "go") (.ixt (j:=0) (b t a) () rfl) () λ_=>rfl
  |tell _=>exact no λt a=>.and (k:=ae) (m:=af) () λ_=>.cmp (x:=.str "tell") (.ixt (j:=0) (b t a) () rfl) () λ_=>rfl
  |skip=>exact no λt a=>.and (k:=ae) (m:=af) () λ_=>.cmp (x:=.str "skip") (.ixt (j:=0) (b t a) () rfl) () λ_=>rfl
 |ifr _ _ _ _=>exact no λt a=>.and (k:=af) (m:=af) () λh=>(nomatch h)
 |go _=>exact no λt a=>.and (k:=af) (m:=af) () λh=>(nomatch h)
 |tell _=>exact no λt a=>.and (k:=af) (m:=af) () λh=>(nomatch h)
 |skip=>exact no λt a=>.and (k:=af) (m:=af) () λh=>(nomatch h)
def ZgC{tk:Nat}(h:Ow V m ns rs os j5 j7 st)(W:V->wy=0\/wy=1\/wy=5)(hm:m<=5)(C:ns.length<=63):∃ (os':Li Rw) (x8 x9:Ot D) (t:Za),ex (rT (n+5)) (hdC (tlC 10 c__law_two.body)) (E2 hd tk m wy j5 rs.length j7 ab ab) st=aa (.nx (E2 hd tk m wy j5 rs.length j7 x8 x9),t)/\Ow V m ns rs os' j5 j7 t:=by
 have I:Y (rT (n+5)) st (.and (.cmp .In (.v 4) (.lstE (.aC (.i 2) (.aC (.i 3) (.aC (.i 4) (.u (.i 6))))))) (.cmp .Gt (.v 6) (.i 0))) (E2 hd tk m wy j5 rs.length j7 ab ab) (.bl (([2,3,4,6]:Li Int).any (λi=>ak (i=wy))&&ak ((0:Int) < (rs.length:Int)))):=.and (.inI (l:=[2,3,4,6]) () λ_ _=>.mk ()) λ_=>.gts () ()
 obtain⟨p,o,B⟩:=I st .refl;cases e:(([2,3,4,6]:Li Int).any (λi=>ak (i=wy))&&ak ((0:Int) < (rs.length:Int))) with
 |false=>rw[e]at o;exact⟨os,ab,ab,p,(YA o).trans Zg,h.up B⟩
 |true=>
  rw[e]at o;rw[Ba,aO]at e;have M:¬V:=λv=>by
   have:=e.1;rcases W v with rfl|rfl|rfl<;>cases this
  have x:=h.up B;have w:=h.le;have hv:=Zn (ceI ns 1 / 8) (j:=(rs.length:Int)) e.2;obtain⟨v,ev⟩:∃ v:Nat,(os.length:Int) - 1 - ceI ns 1 / 8 % (rs.length:Int)=(v:Int):=⟨_,(cB ∅).symm⟩
  have K:Y (rT (n+5)) p (.l (.l (.len (.v 7)) (.i 1)) (.m (.k (.f 27 (.a 0 (.u (.i 1)))) (.i 8)) (.v 6))) (E2 hd tk m wy j5 rs.length j7 ab ab) (.int (v:Int)):=by
   rw[<-ev];have z:=Y.lenl (F:=rT (n+5)) (a:=.v 7) (U:=E2 hd tk m wy j5 rs.length j7 ab ab) x.h7 ();rw[aD]at z;exact .sub (.sub z ()) (.md (.fd (Y1 (k:=1) (n:=n+4) x.g ∅ C ()) () #[]) () e.2)
  obtain⟨A,e2,Q⟩:=K p .refl;have H:=x.up Q;have J:Y (rT (n+5)) A (.f 29 (.aC XB (.a 3 (.s 6)))) (E2 hd tk m wy j5 rs.length j7 (jN v) ab) (rwE (Uj (ceI ns (2+0)) (ceI ns (2+1)) (ceI ns (2+2)) (ceI ns (2+3)) m rs.length)):=
   .callL (xs:=[.int (ceI ns (2+0)),.int (ceI ns (2+1)),.int (ceI ns (2+2)),.int (ceI ns (2+3))]) (ys:=[.int (m:Int),.int (rs.length:Int)]) (WX (b:=one) (wk:=Xb ae) (fr:=[0]) (it:=.i 4) (l:=aj 4) (en:=λ(k:Nat)=>D.int (k:Int)) (g:=λi=>.int (ceI ns (2+i))) (VB (N:=4) #[] ()) #[] λi T=>by
    have:=bQ.mp T;refine Y1 (k:=2+i) (n:=n+4) H.g ∅ C (.cons () (.cons ?_ .nil))
    rw[cD];exact .add () ()) (λst g=>.r rf) (by show 2 < 1000;decide) λst j bb g S=>Zdg (n:=n+2) S ∅ (by have:=h.len;omega)
  obtain⟨L,e3,P⟩:=J A .refl;have G:=H.up P;have c:v < os.length:=by omega
  have X:os[v]?=aa os[v]:=Lg c;obtain⟨r',q,R⟩:=Jf (F:=rT (n+5)) (m:=m) (hd:=hd) (wy:=wy) (tk:=tk) (j5:=j5) (j7:=j7) (sz:=rs.length) (RwOk.mono (Zbg (c0:=ceI ns (2+0)) (c1:=ceI ns (2+1)) (c2:=ceI ns (2+2)) (c3:=ceI ns (2+3)) (m:=m) (sz:=rs.length)) w) X (h.ok _ (bH c));obtain⟨t4,e4,O⟩:=R L G.h7
  have E:=G.up O;have Z:=Zfr (F:=rT (n+5)) (i:=7) (v:=8) (y:=9) (U:=E2 hd tk m wy j5 rs.length j7 (jN v) (aa (rwE r'))) (k:=v) (d:=rwE r') rfl rfl rfl E.h7 (by rw[aD];exact c)
  exact⟨os.set v r',_,_,_,(ZN o).trans ((Zc (Zm e2)).trans ((Zc (Zm e3)).trans ((Zc e4).trans ((Zc Z).trans Zg)))),E.set M q⟩
end
section
variable{c:Int}
def Y.repT{c:Nat}(e:Y F s a U (.tup [x]))(d:Y F s b U (.int (c:Int)))(h:c<=3):Y F s (.h a b) U (.tup (ag c x)):=g2 e d (gp λst=>by
 show(if (c:Int)<=1000/\-1000<=(c:Int) then aa (D.tup (ag (c:Int).toNat x),st) else ab)=_
 rw[aq ∅,bJ])
def Zdb{tk:Nat}{x8 x9:Ot D}(h:Ow V m ns rs os j5 j7 st)(z:Rs m rs)(J:ns.length<=63)(c:tk<=m/\tk<=3)(A:m<=5):∃ d t,ex (rT (n+5)) (tlC 11 c__law_two.body) (E2 hd tk m wy j5 rs.length j7 x8 x9) st=aa (.rt d,t)/\Grw st t/\TwP V d:=by
 have b:Rs m os:=⟨by have:=h.len;omega,h.ok⟩
 have B:=h.len;have K:=h.le;have o:Y (rT (n+5)) st (.g (.aC (.h (.g (.u (.g (.aC (.i 0) (.u (.i 4)))))) (.v 2)) (.a 3 (.u (.tOf (.v 5)))))) (E2 hd tk m wy j5 rs.length j7 x8 x9) (pgD (.tup (ag tk (.tup [.int 0,.int 4]))) m rs):=.cons (.repT () () c.2) (.cons () (.cons (.tof h.h5 ()) .nil))
 obtain⟨s,G,y⟩:=o st .refl;have E:=h.up y;have l:Y (rT (n+5)) s (.g (.aC (.h (.g (.u (.g (.aC (.neg (.i 9)) (.u (.i 9)))))) (.v 2)) (.a 3 (.u (.tOf (.v 7)))))) [jL 0,jI hd,jN tk,jN m,jI wy,jL j5,jN rs.length,jL j7,x8,x9,aa (pgD (.tup (ag tk (.tup [.int 0,.int 4]))) m rs),ab] (pgD (.tup (ag tk (.tup [.int (-9),.int 9]))) m os):=.cons (.repT () () c.2) (.cons () (.cons (.tof E.h7 ()) .nil))
 obtain⟨q,F,x⟩:=l s .refl;have L:=E.up x;have H:Y (rT (n+5)) q (.e (.m (.k (.f 27 (.a 0 (.u (.i 1)))) (.i 104)) (.i 2)) (.i 1)) [jL 0,jI hd,jN tk,jN m,jI wy,jL j5,jN rs.length,jL j7,x8,x9,aa (pgD (.tup (ag tk (.tup [.int 0,.int 4]))) m rs),aa (pgD (.tup (ag tk (.tup [.int (-9),.int 9]))) m os)] (.bl (ak (ceI ns 1 / 104 % 2=1))):=.eqi (.md (.fd (Y1 (k:=1) (n:=n+4) L.g ∅ J ()) () #[]) () #[]) ()
 obtain⟨p,j,I⟩:=H q .refl;have w:Grw st p:=y.trans (x.trans I);cases C:ak (ceI ns 1 / 104 % 2=1) with
 |true=>
  rw[C]at j;exact⟨_,p,(Zc (Zm G)).trans ((Zc (Zm F)).trans (Zj ((ZN j).trans (Zj (ZU rfl))))),w,_,_,m,os,rs,rfl,A,b,z,B,∅,(λv=>(h.fo v).sym),tk,_,_,rfl,rfl,c⟩
 |false=>
  rw[C]at j;exact⟨_,p,(Zc (Zm G)).trans ((Zc (Zm F)).trans ((Zc ((YA j).trans Zg)).trans (Zj (ZU rfl)))),w,_,_,m,rs,os,rfl,A,z,b,∅,B,h.fo,tk,_,_,rfl,rfl,c⟩
def Zdc{tk:Nat}(h:Ow V m ns rs os j5 j7 st)(p:Rs m rs)(G:ns.length<=63)(Z:tk<=m/\tk<=3)(K:m<=5)(M:wy=5\/wy=6->rs.length<=6)(I:V->wy=0\/wy=1\/wy=5)(X:wy=5->Qv rs):∃ d t,ex (rT (n+5)) (tlC 7 c__law_two.body) (E2 hd tk m wy j5 rs.length j7 ab ab) st=aa (.rt d,t)/\Grw (S0 ns) t/\TwP V d:=by
 have hl:=h.len;have S:=h.le;obtain⟨R,ta,oa,ea,ka,H⟩:=Zby (F:=rT (n+5)) (hd:=hd) (wy:=wy) (tk:=tk) (e7:=XA) (e:=.or (.e (.v 4) (.i 1)) (.e (.v 4) (.i 4))) h (.or (.eqi () ()) λ_=>.eqi () ()) λ_ t g=>by
  obtain⟨C,j,B,z,x,k⟩:=Ln.comp (F:=rT (n+5)) (s:=t) (U:=E2 hd tk m wy j5 rs.length j7 ab ab) (b:=one) (wk:=Xb af) (fr:=[]) (it:=.v 5) (elt:=.call 124 (.s 0) []) (l:=rs) (en:=rwE) (g:=λr=>rwE (XW r)) (.lst (g.get h.h5) ()) ∅ (λr o=>.call1 () (Us (n:=n+4) (p.ok r o))) t .refl
  exact⟨j,C,rs.map XW,B,z,k,by rw[x,bM];rfl,λr o=>by
   rw[aD];obtain⟨O,h0,rfl⟩:=aR.mp o;exact ZeL (p.ok O h0),by rw[aD];omega,by rw[aD];exact aB _,λ_=>Zeu p⟩
 obtain⟨Q,tb,ob,eb,kb,L⟩:=Zby (F:=rT (n+5)) (hd:=hd) (wy:=wy) (tk:=tk) (kb:=ak (wy=5)||ak (wy=6)) (e7:=.call 125 (.a 5 (.u (.f 27 (.a 0 (.u (.i 2)))))) []) (e:=.or (.e (.v 4) (.i 5)) (.e (.v 4) (.i 6))) H (.or (.eqi () ()) λ_=>.eqi () ()) λy t g=>by
  rw[bL,aO,aO]at y;have M:=M y;have gt:Grw (S0 ns) t:=H.g.trans g;have w:Y (rT (n+5)) t (.a 5 (.u (.f 27 (.a 0 (.u (.i 2)))))) (E2 hd tk m wy j5 rs.length R ab ab) (.tup [.lst j5,.int (ceI ns 2)]):=.cons () (.cons (Y1 (k:=2) (n:=n+4) gt ∅ G ()) .nil)
  obtain⟨C,B,E⟩:=w t .refl;obtain⟨d,N,e2,P,j,D,rfl,z,x,ok,J,len⟩:=Q0 (n:=n+3) (m:=m) (c:=ceI ns 2) (rs:=rs) (sz:=rs.length) rfl ∅ p.ok ((g.trans E).get H.h5)
  have:=J.1;exact⟨j,N,D,by show Zl (ev (rT (n+5)) _) (X1 (rT (n+5) 125) []) _ t=_;unfold Zl;rw[B];exact e2,aP E.len z,E.trans P,x,ok,∅,∅,λv=>Zet p (X (by rcases y with q|q<;>rcases I v with q'|q'|q'<;>omega)) J⟩
 obtain⟨jc,tc,oc,ec,kc,T⟩:=Zby (F:=rT (n+5)) (hd:=hd) (wy:=wy) (tk:=tk) (e7:=.rs af (.v 5)) (e:=.e (.v 4) (.i 7)) L (.eqi () ()) λy t g=>by
  obtain⟨C,j,B,z,x,k⟩:=Ln.rev (F:=rT (n+5)) (s:=t) (e:=.v 5) (U:=E2 hd tk m wy j5 rs.length Q ab ab) (g.get L.h5) () t .refl;exact⟨j,C,rs.reverse,B,z,k,by rw[x,List.map_reverse],λr o=>by rw[dD];exact p.ok r (List.mem_reverse.mp o),by rw[dD];omega,by rw[dD];exact aB _,λv=>by have:=ao y;rcases I v with q|q|q<;>omega⟩
 obtain⟨od,x8,x9,td,ed,A⟩:=ZgC (n:=n) (hd:=hd) (wy:=wy) (tk:=tk) T I K G;obtain⟨d,t,e,k,W⟩:=Zdb (n:=n) (hd:=hd) (wy:=wy) (tk:=tk) (x8:=x8) (x9:=x9) A p G Z K;exact⟨d,t,(Zc ea).trans ((Zc eb).trans ((Zc ec).trans ((Zc ed).trans e))),A.g.trans k,W⟩
def Zfz(z:ns.length<=63):∃ d t,rT (n+6) 47 [.lst 0] (S0 ns)=aa (d,t)/\Grw (S0 ns) t/\TwP (ceI ns 1 % 8=0\/ceI ns 1 % 8=1\/ceI ns 1 % 8=5) d:=by
 have I:=Zn (ceI ns 0) (j:=4) #[]
 obtain⟨tk,o⟩:∃ t:Nat,ceI ns 0 % 4=(t:Int):=⟨_,(cB I.1).symm⟩;rw[o]at I;have hv2:=Zn (ceI ns 0 / 4) (j:=6 - (tk:Int)) ∅
 obtain⟨m,em⟩:∃ t:Nat,(tk:Int)+ceI ns 0 / 4 % (6 - (tk:Int))=(t:Int):=⟨_,(cB ∅).symm⟩
 have J:m<=5:=by omega
 generalize hw:ceI ns 1 % 8=wy;have S:Y (rT (n+5)) (S0 ns) (.f 27 (.a 0 (.u (.i 0)))) [jL 0,ab,ab,ab,ab,ab,ab,ab,ab,ab,ab,ab] (.int (ceI ns 0)):=Va (k:=0) (n:=n+4) rfl ∅ z ()
 obtain⟨s1,e1,k1⟩:=S _ .refl;have R:Y (rT (n+5)) s1 (.m (.v 1) (.i 4)) [jL 0,jI (ceI ns 0),ab,ab,ab,ab,ab,ab,ab,ab,ab,ab] (.int (tk:Int)):=by rw[<-o];exact .md () () #[]
 obtain⟨X,e2,k2⟩:=R _ .refl;have Q:Y (rT (n+5)) X (.p (.v 2) (.m (.k (.v 1) (.i 4)) (.l (.i 6) (.v 2)))) [jL 0,jI (ceI ns 0),jN tk,ab,ab,ab,ab,ab,ab,ab,ab,ab] (.int (m:Int)):=by rw[<-em];exact .add () (.md (.fd () () #[]) (.sub () ()) ∅)
 obtain⟨G,e3,k3⟩:=Q _ .refl;have N:Grw (S0 ns) G:=k1.trans (k2.trans k3);have P:Y (rT (n+5)) G (.m (.f 27 (.a 0 (.u (.i 1)))) (.i 8)) [jL 0,jI (ceI ns 0),jN tk,jN m,ab,ab,ab,ab,ab,ab,ab,ab] (.int wy):=by rw[<-hw];exact .md (Y1 (k:=1) (n:=n+4) N ∅ z ()) () #[]
 obtain⟨W,e4,k4⟩:=P _ .refl;have M:=N.trans k4;obtain⟨d5,E,e5,Z,j5,rs,rfl,hj5,C,c,B,b⟩:=Zd6 (n:=n) (m:=m) (w:=wy) z J M;have g:rs.length<=12:=by split at b<;>omega
 have D:ex (rT (n+5)) (.set 5 (.f 126 (.a 0 (.a 3 (.s 4))))) [jL 0,jI (ceI ns 0),jN tk,jN m,jI wy,ab,ab,ab,ab,ab,ab,ab] W=aa (.nx [jL 0,jI (ceI ns 0),jN tk,jN m,jI wy,jL j5,ab,ab,ab,ab,ab,ab],E):=Zm e5
 have O:Y (rT (n+5)) E (.len (.v 5)) [jL 0,jI (ceI ns 0),jN tk,jN m,jI wy,jL j5,ab,ab,ab,ab,ab,ab] (.int (rs.length:Int)):=by
  have y:=Y.lenl (F:=rT (n+5)) (a:=.v 5) (U:=[jL 0,jI (ceI ns 0),jN tk,jN m,jI wy,jL j5,ab,ab,ab,ab,ab,ab]) C ();rw[aD]at y;exact y
 obtain⟨x,e6,A⟩:=O _ .refl;obtain⟨T,j7,e7,hj7,h7,H⟩:=Ln.lo (F:=rT (n+5)) (s:=x) (e:=.v 5) (U:=[jL 0,jI (ceI ns 0),jN tk,jN m,jI wy,jL j5,jN rs.length,ab,ab,ab,ab,ab]) (A.get C) () x .refl;have L:Grw (S0 ns) x:=M.trans (Z.trans A);have h:=A.get C
 have K:Rs m rs:=⟨∅,c⟩
 obtain⟨d,t,e8,gt,hP⟩:=Zdc (n:=n) (hd:=ceI ns 0) (wy:=wy) (tk:=tk) (st:=T) (j5:=j5) (j7:=j7) (rs:=rs) (os:=rs) (m:=m) (ns:=ns) ⟨L.trans H,H.get h,h7,by have:=Zx h;omega,by have:=L.len;have:1<=x.length:=this;omega,c,g,aB _,λ_=>Zf2 K⟩ K z ⟨∅,∅⟩ J (λq=>by rw[aq q]at b;exact b) (V:=wy=0\/wy=1\/wy=5) (λv=>v) B
 refine⟨d,t,Uf (v:=c__law_two) rfl rfl ((Zc (Zm e1)).trans ((Zc (Zm e2)).trans ((Zc (Zm e3)).trans ((Zc (Zm e4)).trans ((Zc D).trans ((Zc (Zm e6)).trans ((Zc (Zm e7)).trans e8))))))),gt,hP⟩
end
section
variable{d0:D}{u:Int}
def Y.shl(a:Y F s b U (.int (m:Int)))(c:m<=60):Y F s (.bin .LShift (.i 1) b) U (.int ((2 ^ m:Nat):Int)):=.bi () a (by
 show(if 0<=(m:Int)/\(m:Int)<=1000/\ZP 1=ae then aa ((1:Int) * 2 ^ (m:Int).toNat) else ab)=_
 rw[aq ⟨∅,∅,rfl⟩,bJ,Int.one_mul,Int.natCast_pow];rfl)
def Zgc(h:U[i]?=aa (aa (pgD tk m rs))):Y F s (.len (.ix (.v i) (.i 2))) U (.int (rs.length:Int)):=by
 have y:=Y.lnT (F:=F) (s:=s) (a:=.ix (.v i) (.i 2)) (U:=U) (xs:=rs.map rwE) (.ixt (j:=2) (xs:=[tk,.int (m:Int),.tup (rs.map rwE)]) (.v h) () rfl);rw[aD]at y;exact y
def Y.mdN(d:Y F s a U (.int (N:Int)))(c:Y F s b U (.int (M:Int)))(h:0 < M):Y F s (.m a b) U (.int ((N % M:Nat):Int)):=by
 rw[Int.natCast_emod];exact .md d c ∅
def Y.fdN(d:Y F s a U (.int (N:Int)))(c:Y F s b U (.int (M:Int)))(h:0 < M/\M < 1073741824):Y F s (.k a b) U (.int ((N / M:Nat):Int)):=by
 rw[Int.natCast_ediv];exact .fd d c ∅
def R.yset(h:Y F s a U (.bl ae))(m:Y F s e U d0)(l:R F s q (Zh U i d0) d):R F s (.seq (.ite a (.z (.set i e)) .skip) q) U d:=λst g=>by
 obtain⟨s1,p,b⟩:=h st g;obtain⟨j,o,c⟩:=m s1 (g.trans b);obtain⟨f,n,k⟩:=l j (g.trans (b.trans c));exact⟨f,(Zc ((ZN p).trans ((Zc (Zm o)).trans Zg))).trans n,b.trans (c.trans k)⟩
def Zge(a:v≠0)(h:Sm v):∃ w,Q4 .Mod u v=aa w/\w=u - v * fdI u v/\Sm w:=by
 unfold Sm at *
 unfold fdI;by_cases c:0 < v
 .refine⟨u % v,?_,?_,?_⟩
  .show(if 0 < v then aa (u % v) else _)=_
   rw[aq c]
  .rw[aq c,Int.emod_def]
  .have:=eS u a
   have:=fL u c;omega
 .refine⟨u.fmod v,?_,?_,?_⟩
  .show(if 0 < v then aa (u % v) else if v < 0 then aa (u.fmod v) else ab)=_
   rw[ar c,aq ∅]
  .rw[ar c,Int.fmod_def]
  .have b:=Int.neg_fmod_neg u v
   rw[Int.fmod_eq_emod_of_nonneg _ (show 0<=-v by omega)]at b
   have e:=eS (-u) (show -v≠0 by omega)
   have d:=fL (-u) (show 0 < -v by omega)
   omega
def Y.anf{k:Bool}(c:Y F s a U (.bl k))(d:Y F s b U (.bl af)):Y F s (.and a b) U (.bl af):=by
 cases k with
 |true=>exact .and (k:=ae) (m:=af) c λ_=>d
 |false=>exact .and (k:=af) (m:=af) c λh=>nomatch h
def Jz(d:g∈psL)(hu:Sm u)(c:Sm v):C (rT (n+1)) s 32 [.int u,.str g,.int v] (.int (rkI u g v)):=by
 unfold psL at d;simp only[aK,cA,or_false]at d;have a:∀ {U:Env}{s:Za},U[2]?=aa (jI v)->Y (rT n) s (.cmp .NotEq (.v 2) (.i 0)) U (.bl (!decide (v=0))):=λh=>.cmp (.v h) () λ_=>rfl
 rcases d with rfl|rfl|rfl|rfl|rfl
 .show C _ _ _ _ (.int (arI (u+v)))
  refine .of (v:=Zs) rfl rfl ?_;exact(.set () (.yset () (.add () ()) (.no () (.no () (.no () (.no (.anf (a rfl) ()) (.no (.anf (a rfl) ()) (.ret (.arx ())))))))))
 .show C _ _ _ _ (.int (arI (u - v)))
  refine .of (v:=Zs) rfl rfl ?_;exact(.set () (.no () (.yset () (.sub () ()) (.no () (.no () (.no (.anf (a rfl) ()) (.no (.anf (a rfl) ()) (.ret (.arx ())))))))))
 .show C _ _ _ _ (.int (arI (u * v)))
  refine .of (v:=Zs) rfl rfl ?_;exact(.set () (.no () (.no () (.yset () (.mul () () (UN c)) (.no () (.no (.anf (a rfl) ()) (.no (.anf (a rfl) ()) (.ret (.arx ())))))))))
 .show C _ _ _ _ (.int (if v=0 then 0 else arI (fdI u v)))
  by_cases h:v=0
  .rw[aq h]
   have a:=@a;rw[aE h]at a;have z:∀ {b:CE}{U:Env}{s:Za},U[2]?=aa (jI v)->Y (rT n) s (.and (.cmp .NotEq (.v 2) (.i 0)) b) U (.bl af):=λh=>.and (k:=af) (m:=af) (a h) λh=>nomatch h
   refine .of (v:=Zs) rfl rfl ?_;exact(.set () (.no () (.no () (.no () (.yset () () (.no (z rfl) (.no (z rfl) (.ret (.arx (i:=0) ())))))))))
  .rw[ar h]
   have a:=@a;rw[aG h]at a;refine .of (v:=Zs) rfl rfl ?_;exact(.set () (.no () (.no () (.no () (.yset () () (.yset (.and (k:=ae) (m:=ae) (a rfl) λ_=>.r rf) (.fdv () () h c) (.no (.and (k:=ae) (m:=af) (a rfl) λ_=>.r rf) (.ret (.arx ())))))))))
 .show C _ _ _ _ (.int (if v=0 then u else u - v * fdI u v))
  by_cases h:v=0
  .rw[aq h]
   have a:=@a;rw[aE h]at a;have z:∀ {b:CE}{U:Env}{s:Za},U[2]?=aa (jI v)->Y (rT n) s (.and (.cmp .NotEq (.v 2) (.i 0)) b) U (.bl af):=λh=>.and (k:=af) (m:=af) (a h) λh=>nomatch h
   rw[<-VE hu];refine .of (v:=Zs) rfl rfl ?_;exact(.set (x:=.int u) (by rw[VE hu];exact .r rf) (.no () (.no () (.no () (.no () (.no (z rfl) (.no (z rfl) (.ret (.arx ())))))))))
  .rw[ar h]
   have a:=@a;rw[aG h]at a;obtain⟨w,j,f,e⟩:=Zge (u:=u) h c;rw[<-f,<-VE e];refine .of (v:=Zs) rfl rfl ?_;exact(.set () (.no () (.no () (.no () (.no () (.no (.and (k:=ae) (m:=af) (a rfl) λ_=>.r rf) (.yset (.and (k:=ae) (m:=ae) (a rfl) λ_=>.r rf) (.bi () () j) (.ret (.arx ())))))))))
def WV{k l:Bool}(d:Y F s a U (.bl k))(c:Y F s b U (.bl l)):Y F s (.e a b) U (.bl (k==l)):=.cmp (x:=.bl k) (y:=.bl l) d c λ_=>rfl
def ZgN(d:g∈isL):C (rT (n+1)) s 33 [.int u,.str g,.int v] (.bl (soI u g v)):=by
 unfold isL at d;simp only[aK,cA,or_false]at d;have lt:∀ {U:Env}{s:Za},U[0]?=aa (jI u)->U[2]?=aa (jI v)->Y (rT n) s (.cmp .Lt (.v 0) (.v 2)) U (.bl (ak (u < v))):=λa b=>.cmp (.v a) (.v b) λ_=>rfl
 have h:∀ {U:Env}{s:Za},U[0]?=aa (jI u)->U[2]?=aa (jI v)->Y (rT n) s (.cmp .Gt (.v 0) (.v 2)) U (.bl (ak (v < u))):=λa b=>.cmp (.v a) (.v b) λ_=>rfl
 have eq:∀ {U:Env}{s:Za},U[0]?=aa (jI u)->U[2]?=aa (jI v)->Y (rT n) s (.e (.v 0) (.v 2)) U (.bl (ak (u=v))):=λa b=>.cmp (.v a) (.v b) λ_=>rfl
 have j:(ak (u < v)==af)=ak (v<=u):=by
  by_cases c:u < v
  .rw[aE c,aG ∅];rfl
  .rw[aG c,aE ∅];rfl
 have i:(ak (v < u)==af)=ak (u<=v):=by
  by_cases c:v < u
  .rw[aE c,aG ∅];rfl
  .rw[aG c,aE ∅];rfl
 have f:∀ b:Bool,(b==ae)=b:=by decide
 have k:∀ b:Bool,(b==af)=!b:=by decide
 rcases d with rfl|rfl|rfl|rfl|rfl|rfl
 .show C _ _ _ _ (.bl (ak (u < v)))
  rw[<-f (ak (u < v))];exact .of (v:=ZT) rfl rfl (.yes () (WV (l:=ae) (lt rfl rfl) ()))
 .show C _ _ _ _ (.bl (ak (u<=v)))
  rw[<-i];exact .of (v:=ZT) rfl rfl (.no () (.yes () (WV (l:=af) (h rfl rfl) ())))
 .show C _ _ _ _ (.bl (ak (u=v)))
  rw[<-f (ak (u=v))];exact .of (v:=ZT) rfl rfl (.no () (.no () (.ret (WV (l:=ae) (eq rfl rfl) ()))))
 .show C _ _ _ _ (.bl (ak (v<=u)))
  rw[<-j];exact .of (v:=ZT) rfl rfl (.yes () (WV (l:=af) (lt rfl rfl) ()))
 .show C _ _ _ _ (.bl (ak (v < u)))
  rw[<-f (ak (v < u))];exact .of (v:=ZT) rfl rfl (.no () (.yes () (WV (l:=ae) (h rfl rfl) ())))
 .show C _ _ _ _ (.bl (!decide (u=v)))
  rw[<-k (ak (u=v))];exact .of (v:=ZT) rfl rfl (.no () (.no () (.ret (WV (l:=af) (eq rfl rfl) ()))))
def Xw(a:Vs m vs)(h:WI m o):C (rT (n+1)) s 34 [opE o,.tup (inZ vs)] (.int (woI vs o)):=by
 cases o with
 |nm i=>exact .of (v:=Yc) rfl rfl (.no () (.ret (.ixt (j:=i) () () (ZgH a h))))
 |nu v=>exact .of (v:=Yc) rfl rfl (.yes () ())
end
section
variable{x:Nat}
def Qh(Z:Rs m rs)(hm:m<=1000)(u:Vs m vs)(hk:k<=rs.length):C (rT (n+3)) s 103 [pgD tk m rs,stD k vs] (mvD rs k vs):=by
 suffices h:∀ A d w o:Ot D,R (rT (n+2)) s (tlC 1 c__law_moved.body) [aa (pgD tk m rs),aa (stD k vs),jN k,aa (.tup (inZ vs)),A,d,w,o] (mvD rs k vs) by
  refine .of (v:=c__law_moved) rfl rfl λst g=>?_
  obtain⟨t,e,B⟩:=h ab ab ab ab st g;have e0:ex (rT (n+2)) (hdC c__law_moved.body) [aa (pgD tk m rs),aa (stD k vs),ab,ab,ab,ab,ab,ab] st=aa (.nx [aa (pgD tk m rs),aa (stD k vs),jN k,aa (.tup (inZ vs)),ab,ab,ab,ab],st):=rfl;exact⟨t,(Zc e0).trans e,B⟩
 intro A d w o;have E:Y (rT (n+2)) s (.e (.v 2) (.len (.x 0 2))) [aa (pgD tk m rs),aa (stD k vs),jN k,aa (.tup (inZ vs)),A,d,w,o] (.bl (ak ((k:Int)=(rs.length:Int)))):=.eqi () (Zgc rfl);by_cases hK:k=rs.length
 .rw[aE (by rw[hK])]at E
  have e:mvD rs k vs=noD:=by unfold mvD mv;rw[cQ ∅]
  rw[e];exact .yes E ()
 rw[aG ∅]at E
 have q:=Lg (show k < rs.length by omega)
 generalize rs[k]'∅=r at q
 have ok:=Z.ok r (aV q);have T:Y (rT (n+2)) s (.ix (.x 0 2) (.v 2)) [aa (pgD tk m rs),aa (stD k vs),jN k,aa (.tup (inZ vs)),A,d,w,o] (rwE r):=.ixt (j:=k) (xs:=rs.map rwE) () () (by rw[aX,q];rfl)
 have one:∀ {A d w o:Ot D},Y (rT (n+2)) s (.p (.v 2) (.i 1)) [aa (pgD tk m rs),aa (stD k vs),jN k,aa (.tup (inZ vs)),A,d,w,o] (.int ((k+1:Nat):Int)):=λ{A d w o}=>by
  rw[cD];exact .add () ()
 have hlz:(inZ vs).length=m:=by unfold inZ;rw[aD,u.l]
 unfold mvD;rw[ZdL q];refine .no E (.set T ?_);cases r with
 |tell y=>exact .yes () (.cons () (.cons (.call (xs:=[opE y,.tup (inZ vs)]) () (Xw u ok)) .nil))
 |put x y g z=>
  obtain⟨X,H,L,G⟩:=ok;refine .no () (.yB () (.set (x:=.int (rkI (woI vs y) g (woI vs z))) (.call (xs:=[.int (woI vs y),.str g,.int (woI vs z)]) (.cons (.call (xs:=[opE y,.tup (inZ vs)]) () (Xw (n:=n+1) u H)) (.cons () (.cons (.call (xs:=[opE z,.tup (inZ vs)]) () (Xw (n:=n+1) u G)) .nil))) (Jz (n:=n+1) L (Ur u H) (Ur u G))) (.ret (.cons one (.cons ?_ .nil)))))
  show Y _ _ _ _ (.tup (inZ (vs.set x (rkI (woI vs y) g (woI vs z)))));have ez:inZ (vs.set x (rkI (woI vs y) g (woI vs z)))=(inZ vs).take x++[.int (rkI (woI vs y) g (woI vs z))]++(inZ vs).drop (x+1):=by
   unfold inZ;rw[List.map_set,List.set_eq_take_append_cons_drop,aq (by rw[aD,u.l];exact X),aM];rfl
  rw[ez];exact .adT (.adT (.tkT () () ∅) () (by rw[aZ];show _+1<=_;omega)) (.dpT () (by rw[cD];exact .add () ()) ∅) (by rw[aH,aZ,cF];show _+1+_<=_;omega)
 |go t=>exact .no () (.no () (.yes () ()))
 |skip=>exact .no () (.no () (.no () (.no () (.ret (.cons one (.cons () .nil))))))
 |ifr y g z t=>
  obtain⟨H,L,G,ht⟩:=ok;refine .no () (.no () (.no () λst gt=>?_))
  obtain⟨O,Q,B⟩:=Y.call (F:=rT (n+2)) (s:=st) (f:=34) (a:=.aC (.x 4 1) (.s 3)) (U:=[aa (pgD tk m rs),aa (stD k vs),jN k,aa (.tup (inZ vs)),aa (rwE (.ifr y g z t)),d,w,o]) (xs:=[opE y,.tup (inZ vs)]) (ds:=[]) () (Xw (n:=n+1) u H) st .refl;obtain⟨N,P,K⟩:=Y.call (F:=rT (n+2)) (s:=O) (f:=34) (a:=.aC (.x 4 3) (.s 3)) (U:=[aa (pgD tk m rs),aa (stD k vs),jN k,aa (.tup (inZ vs)),aa (rwE (.ifr y g z t)),d,jI (woI vs y),o]) (xs:=[opE z,.tup (inZ vs)]) (ds:=[]) () (Xw (n:=n+1) u G) O .refl
  have ys:Y (rT (n+2)) N (.f 33 (.a 6 (.aC (.x 4 2) (.s 7)))) [aa (pgD tk m rs),aa (stD k vs),jN k,aa (.tup (inZ vs)),aa (rwE (.ifr y g z t)),d,jI (woI vs y),jI (woI vs z)] (.bl (soI (woI vs y) g (woI vs z))):=.call (xs:=[.int (woI vs y),.str g,.int (woI vs z)]) () (ZgN (n:=n+1) L)
  obtain⟨M,I,J⟩:=ys N .refl;show ∃ st',_=aa (Fl.rt (stD (if soI (woI vs y) g (woI vs z)=ae then t else k+1) vs),st')/\Grw st st'
  cases c:soI (woI vs y) g (woI vs z) with
  |true=>
   rw[c]at I;exact⟨M,Zj ((ZN rfl).trans ((Zc (Zm Q)).trans ((Zc (Zm P)).trans (Zj ((ZN I).trans (Zj (ZU rfl))))))),B.trans (K.trans J)⟩
  |false=>
   rw[c]at I;have S:=Y.cons (F:=rT (n+2)) (s:=s) (a:=.p (.v 2) (.i 1)) (b:=.a 3 .aN) (U:=[aa (pgD tk m rs),aa (stD k vs),jN k,aa (.tup (inZ vs)),aa (rwE (.ifr y g z t)),d,jI (woI vs y),jI (woI vs z)]) one (.cons (x:=.tup (inZ vs)) () .nil);obtain⟨V,e4,W⟩:=S M (gt.trans (B.trans (K.trans J)))
   exact⟨V,(Zc ((ZN rfl).trans ((Zc (Zm Q)).trans ((Zc (Zm P)).trans ((Zc ((YA I).trans Zg)).trans Zg))))).trans (Zj (ZU e4)),B.trans (K.trans (J.trans W))⟩
end
variable{K:Li Tr}
section
variable{x q:Nat}{t:Tr}{B:D->Env->Za->Ot (Fl×Za)}
theorem Zbn{α:Type}:∀ {l:Li α},skR (λ_=>ab) l=ab
 |[]=>rfl
 |x :: l=>Zbn (l:=l)
def ZdC{v:Int}(h:x < vs.length):(inZ vs)[x]?=jI (vs.getD x 0):=by
 unfold inZ;rw[aX,Lg h,aQ,Lg h];rfl
def ZbO(u:Vs m vs)(D:Vs m ws)(J:m<=5)(H:Ag c vs ws):C (rT (n+1)) s 36 [.tup (inZ vs),.tup (inZ ws),.int (c:Int)] (.bl ae):=by
 have h:=R.seekR (F:=rT n) (s:=s) (i:=3) (it:=.len (.v 0)) (q:=YX) (p:=.seq (.ret (.c (.bl ae))) .skip) (N:=m) (f:=λ_=>ab) (E:=λy=>[aa (.tup (inZ vs)),aa (.tup (inZ ws)),jN c,y]) (y:=ab) (d:=.bl ae) (λ_ _=>rfl) (by
  have y:=Y.lnT (F:=rT n) (s:=s) (a:=.v 0) (U:=[aa (.tup (inZ vs)),aa (.tup (inZ ws)),jN c,ab]) (xs:=inZ vs) ();have e:(inZ vs).length=m:=by unfold inZ;rw[aD,u.l]
  rw[e]at y;exact y) ∅ (λx o=>by
   have G:2 ^ x<=16:=Nat.pow_le_pow_right #[] (show x<=4 by omega)
   have I:=Nat.two_pow_pos x;have b:Y (rT n) s (.e (.m (.k (.v 2) (.bin .LShift (.i 1) (.v 3))) (.i 2)) (.i 1)) [aa (.tup (inZ vs)),aa (.tup (inZ ws)),jN c,jN x] (.bl (ak (((c / 2 ^ x % 2:Nat):Int)=1))):=.eqi (.mdN (.fdN () (.shl () ∅) ∅) () #[]) ()
   have g:Y (rT n) s (.cmp .NotEq (.ix (.v 0) (.v 3)) (.ix (.v 1) (.v 3))) [aa (.tup (inZ vs)),aa (.tup (inZ ws)),jN c,jN x] (.bl (!decide (vs.getD x 0=ws.getD x 0))):=.cmp (x:=.int (vs.getD x 0)) (y:=.int (ws.getD x 0)) (.ixt (j:=x) () () (ZdC (v:=0) (by rw[u.l];exact o))) (.ixt (j:=x) () () (ZdC (v:=0) (by rw[D.l];exact o))) λ_=>rfl
   have A:Y (rT n) s (.and (.e (.m (.k (.v 2) (.bin .LShift (.i 1) (.v 3))) (.i 2)) (.i 1)) (.cmp .NotEq (.ix (.v 0) (.v 3)) (.ix (.v 1) (.v 3)))) [aa (.tup (inZ vs)),aa (.tup (inZ ws)),jN c,jN x] (.bl af):=by
    by_cases z:c / 2 ^ x % 2=1
    .have B:c.testBit x=ae:=by rw[Nat.testBit_eq_decide_div_mod_eq];exact aE z
     rw[aE (H x B)]at g;exact .anf b g
    .rw[aG (λw=>z ∅)]at b
     exact .and (k:=af) (m:=af) b λh=>nomatch h
   exact .ite (d:=.bl af) (t:=af) A (λh=>nomatch h) λ_=>.skip) λy=>.ret ()
 rw[Zbn]at h;exact .of (v:=YI) rfl rfl h
theorem Zga{α:Type}{en:α->D}{I:Env->Prop}:∀ {l:Li α},(∀ x∈l,∀ U,I U->∀ st,Grw s st->(∃ b st',B (en x) U st=aa (.nx b,st')/\I b/\Grw st st')\/∃ st',B (en x) U st=aa (.rt (.bl ae),st')/\Grw st st')->
  ∀ U st,I U->Grw s st->(∃ b st',Zi B (l.map en) U st=aa (.nx b,st')/\I b/\Grw st st')\/∃ st',Zi B (l.map en) U st=aa (.rt (.bl ae),st')/\Grw st st'
 |[],_,U,st,g,_=>.inl ⟨U,st,rfl,g,.refl⟩
 |x :: l,h,U,st,g,k=>by
  rw[aW,Zi];rcases h x Ls U g st k with⟨d,s1,j,o,a⟩|⟨s1,j,a⟩
  .simp only[j]
   rcases Zga (λz m=>h z (Lm _ m)) d s1 o (k.trans a) with⟨c,e,i,n,f⟩|⟨e,i,f⟩
   .exact .inl ⟨c,e,i,n,a.trans f⟩
   .exact .inr ⟨e,i,a.trans f⟩
  .simp only[j]
   exact .inr ⟨s1,rfl,a⟩
end
abbrev Et(a:D)(m:Nat)(rs:Li Rw)(ins:Li Int)(L:Nat)(j:Nat)(y:Ot D):Env:=[aa (pgD a m rs),aa (.tup (inZ ins)),jN L,jL j,y]
def Zgj(b:Rs m rs){p:Nat×Li Int}(h:mv rs k vs=.inr p):p.1<=rs.length:=by
 unfold mv at h;cases q:rs[k]? with
 |none=>rw[q]at h;cases h
 |some r=>
  rw[q]at h;have a:=Zx q;have ok:=b.ok r (aV q);cases r with
  |tell y=>cases h
  |put x y g z=>cases h;exact a
  |skip=>cases h;exact a
  |go t=>cases h;exact ok
  |ifr y g z t=>
   cases h;show(if soI (woI vs y) g (woI vs z)=ae then t else k+1)<=rs.length
   split
   .exact ok.2.2.2
   .exact a
def ZfV{b1 b2:Bool}{t t2:Za}(d:ev F a U st=aa (.lst i,t))(c:ev F b U t=aa (.lst j,t2))(f:t2[i]?=aa (b1,xs))(e:t2[j]?=aa (b2,ys))(g:xs.length+ys.length<=1000):ev F (.p a b) U st=aa (.lst t2.length,t2++[(ae,xs++ys)]):=by
 show ZE (ev F a) (ev F b) (Uz .Add) U st=_;unfold ZE;simp only[d,c];show Q9 i j t2=_;unfold Q9;simp only[f,e];exact aq (by unfold Zp;omega)
def ZdD{x:D}(h:isO x=ae)(b:Y F s a U x):Y F s (.isi .str (.ix a (.i 0))) U (.bl ae):=by
 unfold isO at h;split at h
 .rename_i z _
  exact Dp.g1 (x:=.str z) (.ixt (j:=0) b () rfl) (gp λ_=>rfl)
 .cases h
def Xf(h:st[j]?=aa (bb,acc++[d]))(b:acc.length < 900){y:Ot D}:Y F st (.ix (.v 3) (.neg (.i 1))) (Et tk m rs ins L j y) d:=by
 have:=Y.lastL (F:=F) (s:=st) (a:=.v 3) (U:=Et tk m rs ins L j y) (.v h ()) (by simp) (by rw[aH];show _+1<=_;omega)
 rw[List.getLastD_concat]at this;exact this
def ZaC{B:D->Env->Za->Ot (Fl×Za)}{x:D}(e:B x U st=aa (.rt d,st')):Zi B (x :: xs) U st=aa (.rt d,st'):=by
 rw[Zi];simp only[e]
def ZdG{B:D->Env->Za->Ot (Fl×Za)}{x:D}(e:B x U st=aa (.nx U',st')):Zi B (x :: xs) U st=Zi B xs U' st':=by
 rw[Zi];simp only[e]
def Zcx(N:Rs m rs)(S:m<=1000)(Z:s.length<=j)(hL:L<=800):∀ (R a k:Nat) (vs:Li Int) (acc:Li D) (st:Za) (y:Ot D),a+R=L->Vs m vs->k<=rs.length->Grw s st->st[j]?=aa (ae,acc++[stD k vs])->acc.length+R<=880->
  ∃ st' w b,Zi (λd U s=>ex (rT (n+3)) Ye (Zh U 4 d) s) ((List.range' a (R+1)).map λ(k:Nat)=>D.int (k:Int)) (Et tk m rs ins L j y) st=aa (.rt (.lst w),st')/\Kj j st st'/\st'[w]?=aa (b,(acc++[stD k vs])++tl rs R k vs):=by
 intro R
 induction R with
 |zero=>
  intro a k vs acc st y ha M P g h X;have O:Y (rT (n+3)) st (.and (.e (.v 4) (.v 2)) (.cmp .Lt (.ix (.ix (.v 3) (.neg (.i 1))) (.i 0)) (.len (.x 0 2)))) (Et tk m rs ins L j (jN a)) (.bl (ae&&ak ((k:Int) < (rs.length:Int)))):=.and (by have y:=Y.eqi (F:=rT (n+3)) (s:=st) (a:=.v 4) (b:=.v 2) (U:=Et tk m rs ins L j (jN a)) (i:=(a:Int)) (j:=(L:Int)) () ();rw[aE ∅]at y;exact y) λ_=>.lts (.ixt (j:=0) (Xf h ∅) () rfl) (Zgc rfl)
  obtain⟨l,A,B⟩:=O st .refl;rw[eT]at A;have E:=B.get h;by_cases c:rs.length<=k
  .rw[aG ∅]at A
   have I:mvD rs k vs=noD:=by unfold mvD;rw[US c]
   obtain⟨t2,G,K,f⟩:=Ap.app (F:=rT (n+3)) (s:=l) (j:=j) (i:=3) (e:=.call 103 (.a 0 (.u (.ix (.v 3) (.neg (.i 1))))) []) (U:=Et tk m rs ins L j (jN a)) (d:=mvD rs k vs) rfl (.call (xs:=[pgD tk m rs,stD k vs]) (.cons () (.cons (Xf E ∅) .nil)) (Qh (n:=n) N S M P)) l _ .refl E (by rw[aH];show _+1+1<=90000;omega)
   rw[I]at f;obtain⟨C,J,z⟩:=ZdD (F:=rT (n+3)) (x:=noD) rfl (Xf (tk:=tk) (m:=m) (rs:=rs) (ins:=ins) (L:=L) (y:=jN a) f (by rw[aH];show _+1 < 900;omega)) t2 .refl
   refine⟨C,j,ae,ZaC ((Zc ((YA A).trans Zg)).trans ((Zc G).trans (Zj ((ZN J).trans (Zj (ZU rfl)))))),(B.kj.trans K).trans z.kj,?_⟩;rw[show tl rs 0 k vs=[noD] by unfold tl;rw[aq c]]
   exact z.get f
  .rw[aE ∅]at A
   have G:=ZfV (F:=rT (n+3)) (a:=.v 3) (b:=.lstE (.u (.g (.u (.t "late"))))) (U:=Et tk m rs ins L j (jN a)) (st:=l) (t:=l) (t2:=l++[(ae,[laD])]) (i:=j) (j:=l.length) (b1:=ae) (b2:=ae) (xs:=acc++[stD k vs]) (ys:=[laD]) rfl rfl (Grw.push.get E) ZB (by rw[aH];show _+1+1<=1000;omega)
   refine⟨_,_,ae,ZaC (Zj ((ZN A).trans (Zj (ZU G)))),(B.trans (Grw.push.trans .push)).kj,?_⟩;rw[show tl rs 0 k vs=[laD] by unfold tl;rw[ar c]]
   exact ZB
 |succ R W=>
  intro a k vs acc st y ha M P g h X;have O:Y (rT (n+3)) st (.and (.e (.v 4) (.v 2)) (.cmp .Lt (.ix (.ix (.v 3) (.neg (.i 1))) (.i 0)) (.len (.x 0 2)))) (Et tk m rs ins L j (jN a)) (.bl (af&&af)):=.and (by have y:=Y.eqi (F:=rT (n+3)) (s:=st) (a:=.v 4) (b:=.v 2) (U:=Et tk m rs ins L j (jN a)) (i:=(a:Int)) (j:=(L:Int)) () ();rw[aG ∅]at y;exact y) λh=>nomatch h
  obtain⟨l,A,B⟩:=O st .refl;have E:=B.get h;obtain⟨t2,G,K,f⟩:=Ap.app (F:=rT (n+3)) (s:=l) (j:=j) (i:=3) (e:=.call 103 (.a 0 (.u (.ix (.v 3) (.neg (.i 1))))) []) (U:=Et tk m rs ins L j (jN a)) (d:=mvD rs k vs) rfl (.call (xs:=[pgD tk m rs,stD k vs]) (.cons () (.cons (Xf E ∅) .nil)) (Qh (n:=n) N S M P)) l _ .refl E (by rw[aH];show _+1+1<=90000;omega)
  have H:(acc++[stD k vs]).length < 900:=by rw[aH];show _+1 < 900;omega
  rw[List.range'_succ,aW];unfold tl;cases q:mv rs k vs with
  |inl o=>
   have I:mvD rs k vs=o:=by unfold mvD;rw[q]
   rw[I]at f;obtain⟨C,J,z⟩:=ZdD (F:=rT (n+3)) (Zg5 q).1 (Xf (tk:=tk) (m:=m) (rs:=rs) (ins:=ins) (L:=L) (y:=jN a) f H) t2 .refl;exact⟨C,j,ae,ZaC ((Zc ((YA A).trans Zg)).trans ((Zc G).trans (Zj ((ZN J).trans (Zj (ZU rfl)))))),(B.kj.trans K).trans z.kj,z.get f⟩
  |inr p=>
   have I:mvD rs k vs=stD p.1 p.2:=by unfold mvD;rw[q]
   rw[I]at f;have T:Y (rT (n+3)) t2 (.isi .str (.ix (.ix (.v 3) (.neg (.i 1))) (.i 0))) (Et tk m rs ins L j (jN a)) (.bl af):=Dp.g1 (x:=.int (p.1:Int)) (.ixt (j:=0) (Xf f H) () rfl) (gp λ_=>rfl)
   obtain⟨C,J,z⟩:=T t2 .refl;have Q:Kj j st C:=(B.kj.trans K).trans z.kj;obtain⟨st',w,b,e,V,h4⟩:=W (a+1) p.1 p.2 (acc++[stD k vs]) C (jN a) ∅ (Ua M N q) (Zgj N q) (Q.grw Z g) (z.get f) (by rw[aH];show _+1+_<=_;omega)
   refine⟨st',w,b,(ZdG ((Zc ((YA A).trans Zg)).trans ((Zc G).trans ((Zc ((YA J).trans Zg)).trans Zg)))).trans e,Q.trans V,?_⟩;rw[h4,aM];rfl
def Qi(A:Rs m rs)(B:m<=1000)(c:ins.length<=m)(z:∀ v∈ins,Sm v)(C:L<=800):Lv s (rT (n+4) 26 [pgD tk m rs,.tup (inZ ins),.int (L:Int)]) (stD 0 (v0 m ins) :: tl rs L 0 (v0 m ins)):=λst g=>by
 have y:=ZdZ c z;have f:Y (rT (n+3)) st (.u (.g (.aC (.i 0) (.u (.p (.v 1) (.h (.g (.u (.i 0))) (.l (.x 0 1) (.len (.v 1))))))))) [aa (pgD tk m rs),aa (.tup (inZ ins)),jN L,ab,ab] (.tup [stD 0 (v0 m ins)]):=by
  have a:(inZ ins).length=ins.length:=aD ..;have E:stD 0 (v0 m ins)=.tup [.int 0,.tup (inZ ins++ag (m - ins.length) (.int 0))]:=by
   unfold stD v0 inZ;rw[dF,List.map_replicate];rfl
  rw[E];refine .cons (.cons () (.cons (.adT (xs:=inZ ins) () (.rep () ?_ ∅) (by rw[a,dH];omega)) .nil)) .nil
  rw[Int.ofNat_sub c,<-a];exact .sub () (.lnT ())
 obtain⟨s1,G,t⟩:=f st .refl;have k:ex (rT (n+3)) (hdC c__law_trail.body) [aa (pgD tk m rs),aa (.tup (inZ ins)),jN L,ab,ab] st=aa (.nx (Et tk m rs ins L s1.length ab),s1++[(ae,[stD 0 (v0 m ins)])]):=Zm (by show Zl (ev (rT (n+3)) _) ZaH _ st=_;unfold Zl;rw[G];rfl)
 have d:=YN (F:=rT (n+3)) (i:=4) (e:=.p (.v 2) (.i 1)) (q:=Ye) (U:=Et tk m rs ins L s1.length ab) (st:=s1++[(ae,[stD 0 (v0 m ins)])]) (v:=(L:Int)+1) ∅ ∅ rfl
 rw[show((L:Int)+1).toNat=L+1 by omega,List.range_eq_range']at d
 obtain⟨st',w,b,e,o,D⟩:=Zcx (n:=n) (tk:=tk) (ins:=ins) (s:=s1) (j:=s1.length) A B (aB _) C L 0 0 (v0 m ins) [] (s1++[(ae,[stD 0 (v0 m ins)])]) ab (cC _) y (aU _) .push ZB (by show 0+L<=880;omega)
 exact⟨st',w,b,Uf (v:=c__law_trail) rfl rfl ((Zc k).trans (Zj (d.trans e))),D,t.trans (o.grw (aB _) .push)⟩
noncomputable abbrev Ps:=(Nat×Li Int)×(Nat×Li Int)
def uS(p:Ps):D:=stD p.1.1 p.1.2
def wS(p:Ps):D:=stD p.2.1 p.2.2
structure Gd(m:Nat)(K:List Tr)(p:Ps):Prop where
 ex:∃ c,lk K p.1.1 p.2.1=aa c/\Ag c p.1.2 p.2.2
 v:Vs m p.1.2
 w:Vs m p.2.2
section
variable{w1 w2 r:Nat}{b1 b2:Bool}
theorem ZdN:∀ {L k:Nat}{vs:Li Int},∃ xs,oc rs L k vs=.tup xs/\okD 8 (.tup xs)=ae
 |0,k,vs=>by unfold oc;split<;>exact⟨_,rfl,rfl⟩
 |L+1,k,vs=>by
  unfold oc;cases q:mv rs k vs with
  |inl o=>
   unfold mv at q;cases z:rs[k]? with
   |none=>rw[z]at q;cases q;exact⟨_,rfl,rfl⟩
   |some r=>
    rw[z]at q;cases r with
    |tell y=>cases q;exact⟨_,rfl,rfl⟩
    |_=>cases q
  |inr p=>exact ZdN
theorem ZdX(h:Cl tk tk' m sz sz' rs rs' K)(v:Rs m rs)(d:Rs m rs'):∀ (L k j c:Nat) (vs ws:Li Int),lk K k j=aa c->Vs m vs->Vs m ws->Ag c vs ws->∃ l:Li Ps,(∀ p∈l,Gd m K p)/\l.length<=L+1/\stD k vs :: tl rs L k vs=l.map uS++[oc rs L k vs]/\stD j ws :: tl rs' L j ws=l.map wS++[oc rs L k vs]
 |0,k,j,c,vs,ws,r,q,n,t=>⟨[((k,vs),(j,ws))],λp w=>by rw[aI.mp w];exact⟨⟨c,r,t⟩,q,n⟩,aB _,rfl,by rw[h.oc v d 0 k j c vs ws r q n t];rfl⟩
 |L+1,k,j,c,vs,ws,r,q,n,t=>by
  have C:Gd m K ((k,vs),(j,ws)):=⟨⟨c,r,t⟩,q,n⟩;obtain⟨O,f,M⟩:=h.cv k j c r;have a:=f.1.s vs ws q n t;unfold tl oc;cases z:mv rs k vs with
  |inl o=>cases e:mv rs' j ws with
   |inr p=>rw[z,e]at a;exact a.elim
   |inl A=>
    rw[z,e]at a;have a:o=A:=a;subst a;exact⟨[((k,vs),(j,ws))],λp w=>by rw[aI.mp w];exact C,by show 1<=_;omega,rfl,rfl⟩
  |inr p=>cases e:mv rs' j ws with
   |inl A=>rw[z,e]at a;exact a.elim
   |inr y=>
    rw[z,e]at a;obtain⟨u,F,J,I,N⟩:=a;obtain⟨b,B,H⟩:=M u F;rw[J,I]at B;obtain⟨l,g,P,E,D⟩:=ZdX h v d L p.1 y.1 b p.2 y.2 B (Ua q v z) (Ua n d e) λi G=>N i (H i G)
    exact⟨((k,vs),(j,ws)) :: l,λx hx=>by
     rcases aK.mp hx with rfl|hx
     .exact C
     .exact g x hx,by rw[aY];omega,av (stD k vs :: ·) E,av (stD j ws :: ·) D⟩
theorem ZdF{α:Type}{ok:Za->Prop}{B:D->D->Env->Za->Ot (Fl×Za)}{u v:α->D}{I:Env->Prop}(d:∀ st,Grw s st->ok st):∀ {l:Li α},(∀ x∈l,∀ U,I U->∀ st,Grw s st->∃ a st',B (u x) (v x) U st=aa (.nx a,st')/\I a/\Grw st st')->∀ U st,I U->Grw s st->∃ a st',YE ok B (l.map λx=>(u x,v x)) U st=aa (.nx a,st')/\I a/\Grw st st'
 |[],_,U,st,e,g=>⟨U,st,aq (d st g),e,.refl⟩
 |x :: l,h,U,st,e,g=>by
  obtain⟨c,s1,n,p,f⟩:=h x Ls U e st g;obtain⟨b,i,m,o,j⟩:=ZdF d (λz k=>h z (Lm _ k)) c s1 p (g.trans f)
  refine⟨b,i,?_,o,f.trans j⟩;rw[aW,YE,aq (d st g)];simp only[n];exact m
def Y.dlL(d:s[w]?=aa (b1,xs))(f:Y F s a U (.lst w)):Lv s (ev F (.slice a .nop (.part (.neg (.i 1)))) U) xs.dropLast:=by
 have:=Lv.sl (F:=F) (s:=s) (a:=a) (b:=.nop) (c:=.part (.neg (.i 1))) (U:=U) (x:=.non) (y:=.int (-1)) (lo:=ab) (hi:=aa (-1)) d f () () λ_=>rfl
 have e:Xg (b1,xs).2 ab (aa (-1))=xs.dropLast:=by
  show Xg xs ab (aa (-1))=_;unfold Xg;rw[show sIx xs.length 0 ab=0 from rfl,cI,Nat.sub_zero];have:sIx xs.length xs.length (aa (-1))=xs.length - 1:=by
   show(if (-1:Int) < 0 then (-1+(xs.length:Int)).toNat else Nat.min (-1:Int).toNat xs.length)=_
   rw[aq #[]];omega
  rw[this,fV]
 rw[e]at this;exact this
def ZbP{l:Li Ps}{o:Li D}(hq:s[r]?=aa (ae,K.map trD))(O:s[w1]?=aa (b1,l.map uS++[.tup o]))(N:s[w2]?=aa (b2,l.map wS++[.tup o]))(L:okD 8 (.tup o)=ae)(hg:∀ p∈l,Gd m K p)(hl:l.length<=900)(hm:m<=5):C (rT (n+2)) s 296 [.dic r,.lst w1,.lst w2] (.bl ae):=by
 have q:∀ {i w:Nat}{b:Bool}{xs:Li D}{U:Env},s[w]?=aa (b,xs++[.tup o])->xs.length=l.length->U[i]?=aa (jL w)->Y (rT (n+1)) s (.ix (.v i) (.neg (.i 1))) U (.tup o):=λ{i w b xs U} h hx M=>by
  have:=Y.lastL (F:=rT (n+1)) (s:=s) (a:=.v i) (U:=U) (.v h (.v M)) (by simp) (by rw[aH];show _+1<=_;omega)
  rw[List.getLastD_concat]at this;exact this
 have Z:∀ {i w:Nat}{b:Bool}{xs:Li D}{U:Env},s[w]?=aa (b,xs++[.tup o])->xs.length=l.length->U[i]?=aa (jL w)->Y (rT (n+1)) s (.len (.v i)) U (.int ((l.length+1:Nat):Int)):=λ{i w b xs U} h hx M=>by
  have:=Y.lenl (F:=rT (n+1)) (a:=.v i) (U:=U) h (.v M);rw[show(b,xs++[D.tup o]).2.length=l.length+1 by show(xs++[D.tup o]).length=_;rw[aH,hx];rfl]at this
  exact this
 have X:(l.map uS).length=l.length:=aD ..;have W:(l.map wS).length=l.length:=aD ..;have H:Y (rT (n+1)) s (.or (.cmp .NotEq (.len (.v 1)) (.len (.v 2))) (.cmp .NotEq (.ix (.v 1) (.neg (.i 1))) (.ix (.v 2) (.neg (.i 1))))) [aa (.dic r),jL w1,jL w2,ab,ab,ab] (.bl (af||false)):=.or (.cmp (x:=.int ((l.length+1:Nat):Int)) (y:=.int ((l.length+1:Nat):Int)) (Z O X rfl) (Z N W rfl) λ_=>by show(aa (ak (((l.length+1:Nat):Int)=((l.length+1:Nat):Int)))).map Bool.not=_;rw[aE rfl];rfl) λ_=>by
  have y:=Y.ned (q O X (U:=[aa (.dic r),jL w1,jL w2,ab,ab,ab]) (i:=1) rfl) (q N W (i:=2) rfl) L L;rw[Xx (n:=7) L]at y;exact y
 refine .of (v:=c__law_along) rfl rfl (.no H λst g=>?_)
 obtain⟨s1,i1,c1,R,g1,A⟩:=Y.dlL (F:=rT (n+1)) (s:=s) (a:=.v 1) (U:=[aa (.dic r),jL w1,jL w2,ab,ab,ab]) O () st g;obtain⟨J,i2,c2,Q,g2,z⟩:=Y.dlL (F:=rT (n+1)) (s:=s) (a:=.v 2) (U:=[aa (.dic r),jL w1,jL w2,ab,ab,ab]) N () s1 (g.trans A);have g1:=z.get g1;rw[List.dropLast_concat]at g1 g2
 have P:=g.trans (A.trans z);obtain⟨U',V,e3,⟨G,E,t,rfl⟩,k3⟩:=ZdF (s:=J) (ok:=λs=>s[i1]?=aa (c1,l.map uS)/\s[i2]?=aa (c2,l.map wS)) (B:=λx y U s=>ex (rT (n+1)) YY (Zh (Zh U 3 x) 4 y) s) (u:=uS) (v:=wS) (l:=l) (I:=λU=>∃ G E t,U=[aa (.dic r),jL w1,jL w2,G,E,t]) (λst k=>⟨k.get g1,k.get g2⟩) (λp hp U hI st k=>by
  obtain⟨G,E,t,rfl⟩:=hI;obtain⟨⟨c,hc,ha⟩,hv,hw⟩:=hg p hp;have hs:=(P.trans k).get hq;have S:=Y.dg (F:=rT (n+1)) (s:=st) (a:=.v 0) (kk:=.g (.aC (.x 3 0) (.u (.x 4 0)))) (e:=.c .non) (U:=[aa (.dic r),jL w1,jL w2,aa (uS p),aa (wS p),t]) (k:=p.1.1) (j:=p.2.1) (d:=.non) hs () () ()
  rw[hc]at S;obtain⟨T,R,A⟩:=S st .refl;have H:Y (rT (n+1)) T (.or (.cmp .Is (.v 5) (.c .non)) (.not (.f 36 (.aC (.x 3 1) (.aC (.x 4 1) (.s 5)))))) [aa (.dic r),jL w1,jL w2,aa (uS p),aa (wS p),jN c] (.bl af):=.or (k:=af) (m:=af) () λ_=>.not (k:=ae) (.call (xs:=[.tup (inZ p.1.2),.tup (inZ p.2.2),.int (c:Int)]) () (ZbO (n:=n) hv hw hm ha))
  obtain⟨t2,Q,z⟩:=H T .refl;exact⟨_,t2,(Zc (Zm R)).trans ((Zc ((YA Q).trans Zg)).trans Zg),⟨_,_,_,rfl⟩,A.trans z⟩) [aa (.dic r),jL w1,jL w2,ab,ab,ab] J ⟨_,_,_,rfl⟩ .refl
 have e4:ex (rT (n+1)) (hdC (tlC 1 c__law_along.body)) [aa (.dic r),jL w1,jL w2,ab,ab,ab] st=aa (.nx [aa (.dic r),jL w1,jL w2,G,E,t],V):=by
  show VY 3 4 (ev (rT (n+1)) _) (ex (rT (n+1)) _) _ st=_;unfold VY;have e:ev (rT (n+1)) (.aC (.slice (.v 1) .nop (.part (.neg (.i 1)))) (.u (.slice (.v 2) .nop (.part (.neg (.i 1)))))) [aa (.dic r),jL w1,jL w2,ab,ab,ab] st=aa (.tup [.lst i1,.lst i2],J):=by
   show ZE _ (ZE _ _ _) _ _ st=_;unfold ZE;simp only[R,Q];rfl
  rw[e];simp only[g1,g2];rw[List.zip_map'];exact e3
 exact⟨V,(Zc e4).trans (Zj (ZU rfl)),A.trans (z.trans k3)⟩
end
section
variable{A:Nat}{x10 x11:Ot D}
def Y.noI{l:Li Int}{c:Int}(h:Y F s a U (.int c))(g:∀ st,Grw s st->Lv st (ev F b U) (l.map D.int)):Y F s (.cmp .NotIn a b) U (.bl (!l.any λi=>ak (i=c))):=λst k=>by
 obtain⟨s1,o,e⟩:=h st k;obtain⟨d,j,p,n,m,f⟩:=g s1 (k.trans e) s1 .refl;refine⟨d,?_,e.trans f⟩;show ZE (ev F a) (ev F b) (VQ .NotIn) U st=_;unfold ZE;simp only[o,n];show(match ((match d[j]? with|some (_,xs)=>Z4 c xs|none=>ab).map Bool.not) with|some k=>aa (D.bl k,d)|none=>ab)=_
 rw[m];show(match (Z4 c (l.map D.int)).map Bool.not with|some k=>aa (D.bl k,d)|none=>ab)=_
 rw[Vh];rfl
def UG{x:D}{s1 c:Za}(f:ev F a U st=aa (x,s1))(e:ev F b U s1=aa (.tup xs,c))(d:xs.length < 1000:=by first|decide | (simp only[aY,dJ];decide)):ev F (.aC a b) U st=aa (.tup (x :: xs),c):=by
 show ZE _ _ _ U st=_;unfold ZE;simp only[f,e];exact aq d
def Wr{s1:Za}{r:Res}(b:ev F a U st=aa (.tup xs,s1))(h:F f xs s1=r):ev F (.f f a) U st=r:=by
 show Zl (ev F a) (X1 (F f) []) U st=_;unfold Zl;rw[b];show F f (xs++[]) s1=_;rw[bD];exact h
abbrev El(tk tk':D)(m:Nat)(rs rs':Li Rw)(a x4 x5 x6 x7 x8 x9 x10 x11:Ot D):Env:=[jL 0,aa (pgD tk m rs),aa (pgD tk' m rs'),a,x4,x5,x6,x7,x8,x9,x10,x11]
def knT(us:Li Tr)(ws:Li Tr):Li Tr:=us.foldl (λK t=>pt K t.1 t.2.1 t.2.2) ws
theorem ZdE:∀ {vs ws:Li Tr},((ws++vs).map ky).Nodup->knT vs ws=ws++vs
 |[],ws,_=>(bD ws).symm
 |v :: vs,ws,h=>by
  have b:lk ws v.1 v.2.1=ab:=by
   cases z:lk ws v.1 v.2.1 with
   |none=>rfl
   |some c=>
    rw[dF,List.nodup_append]at h;exact au rfl (h.2.2 (ky (v.1,v.2.1,c)) (aR.mpr ⟨_,ZZ z,rfl⟩) (ky v) Ls)
  have a:(ws++[v])++vs=ws++v :: vs:=by rw[aM];rfl
  show knT vs (pt ws v.1 v.2.1 v.2.2)=_;rw[UV b,ZdE (by rw[a];exact h),a]
theorem V7{x3:Ot D}(j:s.length<=c):∀ {us ws:Li Tr}{x5 x6 x7:Ot D}{st:Za},((ws++us).map ky).Nodup->ws.length+us.length<=1000->Grw s st->st[c]?=aa (ae,ws.map trD)->∃ f d b st',Zi (Jr 5 6 7 (ex F (.z (.dput 4 (.v 5) (.v 6) (.v 7))))) (us.map trD) (El tk tk' m rs rs' x3 (aa (.dic c)) x5 x6 x7 x8 x9 x10 x11) st=aa (.nx (El tk tk' m rs rs' x3 (aa (.dic c)) f d b x8 x9 x10 x11),st')/\Grw s st'/\st'[c]?=aa (ae,(ws++us).map trD)
 |[],ws,x5,x6,x7,st,_,_,g,h=>⟨x5,x6,x7,st,rfl,g,by rw[bD];exact h⟩
 |v :: vs,ws,x5,x6,x7,st,a,n,g,h=>by
  have i:(ws.map ky).Nodup:=by rw[dF,List.nodup_append]at a;exact a.1
  have p:knT [v] ws=ws++[v]:=ZdE (by
   rw[show ws++v :: vs=(ws++[v])++vs by rw[aM];rfl,dF,List.nodup_append]at a
   exact a.1)
  have e:ex F (.dput 4 (.v 5) (.v 6) (.v 7)) (El tk tk' m rs rs' x3 (aa (.dic c)) (jN v.1) (jN v.2.1) (jN v.2.2) x8 x9 x10 x11) st=aa (.nx (El tk tk' m rs rs' x3 (aa (.dic c)) (jN v.1) (jN v.2.1) (jN v.2.2) x8 x9 x10 x11),st.set c (ae,(ws++[v]).map trD)):=by
   show(match st[c]? with
    |some (ae,xs)=>if xs.length < Zp then aa (Fl.nx _,st.set c (ae,X2 xs (v.1:Int) (v.2.1:Int) (.int (v.2.2:Int)))) else ab
    |_=>ab)=_
   rw[h];show(if (ws.map trD).length < Zp then _ else _)=_
   rw[aq (by rw[aD];rw[aY]at n;unfold Zp;omega),Qm i]
   have:pt ws v.1 v.2.1 v.2.2=ws++[v]:=p;rw[this]
  have l:(ws++[v])++vs=ws++v :: vs:=by rw[aM];rfl
  obtain⟨f,d,b,st',o,g2,k⟩:=V7 j (us:=vs) (ws:=ws++[v]) (x3:=x3) (x5:=jN v.1) (x6:=jN v.2.1) (x7:=jN v.2.2) (by rw[l];exact a) (by rw[aH,aY]at *;show _+1+_<=_;omega) (Xe g j) (by rw[bR (Zx h)])
  refine⟨f,d,b,st',?_,g2,by rw[l]at k;exact k⟩
  rw[aW];exact(ZdG ((Zc e).trans Zg)).trans o
def ZeA(b:tk=.tup (ag A d)):Y F s (.len (.x 1 0)) (El tk tk' m rs rs' (aa (.tup (us.map trD))) x4 x5 x6 x7 x8 x9 x10 x11) (.int (A:Int)):=by
 have y:=Y.lnT (F:=F) (s:=s) (a:=.x 1 0) (U:=El tk tk' m rs rs' (aa (.tup (us.map trD))) x4 x5 x6 x7 x8 x9 x10 x11) (xs:=ag A d) (by rw[<-b];exact .ixt (j:=0) (xs:=[tk,.int (m:Int),.tup (rs.map rwE)]) () () rfl)
 rw[dH]at y;exact y
def Zaz{t:Nat}(h3:t < 3)(hn:ns.length<=63)(hm:m<=5)(g:Grw (S0 ns) st)(T:Rs m rs)(z:Rs m rs')(V:Cl tk tk' m rs.length rs'.length rs rs' K)(hs:st[c]?=aa (ae,K.map trD))(ht:tk=.tup (ag A d))(hA:A<=m/\A<=3)(hL:L<=200):∃ H G st',ex (rT (n+8)) Yp (El tk tk' m rs rs' (aa (.tup (us.map trD))) (aa (.dic c)) x5 x6 x7 (jN L) (jN t) x10 x11) st=aa (.nx (El tk tk' m rs rs' (aa (.tup (us.map trD))) (aa (.dic c)) x5 x6 x7 (jN L) (jN t) H G),st')/\Grw st st':=by
 have lt:ZP (t:Int)=ae:=Wx ∅
 have Z:Lv st (ev (rT (n+8)) X3 (El tk tk' m rs rs' (aa (.tup (us.map trD))) (aa (.dic c)) x5 x6 x7 (jN L) (jN t) x10 x11)) ((aj A).map λk=>.int (ceI ns (58+k) / (1+5 * (t:Int))+t)):=WX (F:=rT (n+8)) (s:=st) (U:=El tk tk' m rs rs' (aa (.tup (us.map trD))) (aa (.dic c)) x5 x6 x7 (jN L) (jN t) x10 x11) (b:=one) (wk:=Xb ae) (fr:=[0,9]) (it:=.len (.x 1 0)) (elt:=.p (.k (.f 27 (.a 1 (.u (.p (.i 58) (.v 0))))) (.p (.i 1) (.h (.i 5) (.v 2)))) (.v 2)) (l:=aj A) (en:=λ(k:Nat)=>D.int (k:Int)) (g:=λk=>.int (ceI ns (58+k) / (1+5 * (t:Int))+t)) (VB ∅ (ZeA ht)) (by rw[bN];omega) (λk hk=>by
  have:=bQ.mp hk;refine .add (.fd (Y1 (k:=58+k) (n:=n+7) g ∅ hn (.cons () (.cons ?_ .nil))) (.add () (.mul () () lt)) ∅) ()
  rw[cD];exact .add () ())
 obtain⟨s1,w,b1,e1,h1,k1⟩:=Z st .refl;have C:s1[w]?=aa (b1,((aj A).map λ(k:Nat)=>ceI ns (58+k) / (1+5 * (t:Int))+t).map D.int):=by rw[h1,bM];rfl
 generalize hz:((aj A).map λ(k:Nat)=>ceI ns (58+k) / (1+5 * (t:Int))+t)=q at C
 have lc:q.length=A:=by rw[<-hz,aD,bN]
 have W:Y (rT (n+8)) s1 (.tOf Y4) (El tk tk' m rs rs' (aa (.tup (us.map trD))) (aa (.dic c)) x5 x6 x7 (jN L) (jN t) (jL w) x11) (.tup (inZ (q.map smI))):=by
  have X:Lv s1 (ev (rT (n+8)) Y4 (El tk tk' m rs rs' (aa (.tup (us.map trD))) (aa (.dic c)) x5 x6 x7 (jN L) (jN t) (jL w) x11)) (q.map λc=>.int (smI c)):=(WX (F:=rT (n+8)) (s:=s1) (U:=El tk tk' m rs rs' (aa (.tup (us.map trD))) (aa (.dic c)) x5 x6 x7 (jN L) (jN t) (jL w) x11) (b:=one) (wk:=Xb af) (fr:=[]) (it:=.v 10) (elt:=.call 20 (.s 0) []) (l:=q) (en:=D.int) (g:=λc=>.int (smI c)) (.lst C ()) ∅ (λc hc=>.call1 () Qf))
  unfold inZ;rw[bM];exact X.tof
 obtain⟨y,e2,k2⟩:=W s1 .refl;have M:(q.map smI).length<=m:=by rw[aD];omega
 have j:∀ v∈q.map smI,Sm v:=λv E=>by
  obtain⟨c,_,rfl⟩:=aR.mp E;exact ZdV
 have E:=ZdZ M j;generalize q.map smI=ins at *
 obtain⟨b,hb⟩:=Yw V.rt;obtain⟨l,hg,gl,O,N⟩:=ZdX V T z L 0 0 b (v0 m ins) (v0 m ins) hb E E λ_ _=>rfl
 obtain⟨o,eo,ho⟩:=ZdN (rs:=rs) (L:=L) (k:=0) (vs:=v0 m ins);rw[eo]at O N;have J:=k1.trans k2;obtain⟨Q,w1,c1,e3,e,k3⟩:=Qi (n:=n+4) (tk:=tk) (L:=L) (s:=y) T ∅ M j ∅ y .refl
 obtain⟨P,w2,c2,e4,B,S⟩:=Qi (n:=n+4) (tk:=tk') (L:=L) (s:=Q) z ∅ M j ∅ Q .refl
 rw[O]at e;rw[N]at B;have e:=S.get e;have R:=J.trans (k3.trans S);obtain⟨I,e5,k5⟩:=ZbP (n:=n+6) (s:=P) (R.get hs) e B ho hg ∅ hm P .refl
 have e6:ev (rT (n+8)) (.not (.f 296 (.a 4 (.aC (.f 26 (.a 1 (.a 11 (.s 8)))) (.u (.f 26 (.a 2 (.a 11 (.s 8))))))))) (El tk tk' m rs rs' (aa (.tup (us.map trD))) (aa (.dic c)) x5 x6 x7 (jN L) (jN t) (jL w) (aa (.tup (inZ ins)))) y=aa (.bl af,I):=by
  have ec:ev (rT (n+8)) (.f 296 (.a 4 (.aC (.f 26 (.a 1 (.a 11 (.s 8)))) (.u (.f 26 (.a 2 (.a 11 (.s 8)))))))) (El tk tk' m rs rs' (aa (.tup (us.map trD))) (aa (.dic c)) x5 x6 x7 (jN L) (jN t) (jL w) (aa (.tup (inZ ins)))) y=aa (.bl ae,I):=Wr (UG (x:=.dic c) rfl (UG (Wr (xs:=[pgD tk m rs,.tup (inZ ins),.int (L:Int)]) rfl e3) (UG (Wr (xs:=[pgD tk' m rs',.tup (inZ ins),.int (L:Int)]) rfl e4) rfl))) e5
  show Zl (ev (rT (n+8)) _) _ _ y=_;unfold Zl;rw[ec];rfl
 exact⟨_,_,I,(Zc (Zm e1)).trans ((Zc (Zm e2)).trans ((Zc ((YA e6).trans Zg)).trans Zg)),R.trans k5⟩
def Jm(n:Nat)(O:ns.length<=63):∃ st',rT (n+9) 16 [.lst 0] [(af,ns.map .int)]=aa (.bl ae,st'):=by
 obtain⟨d0,J,e0,g0,tk,tk',m,rs,rs',rfl,hm,S,C,hl,hl',fo,A,x,x',et,et',hA⟩:=Zfz (n:=n+2) O;have e1:ex (rT (n+8)) (hdC c_law_k43.body) [jL 0,ab,ab,ab,ab,ab,ab,ab,ab,ab,ab,ab] (S0 ns)=aa (.nx (El tk tk' m rs rs' ab ab ab ab ab ab ab ab ab),J):=by
  have e:ev (rT (n+8)) (.f 47 (.s 0)) [jL 0,ab,ab,ab,ab,ab,ab,ab,ab,ab,ab,ab] (S0 ns)=aa (.tup [pgD tk m rs,pgD tk' m rs'],J):=Wr (xs:=[.lst 0]) rfl e0;show Uk 1 2 (ev (rT (n+8)) _) _ (S0 ns)=_;unfold Uk;rw[e];rfl
 have hz:(rs.length+1) * (rs'.length+1)<=13 * 13:=eW ∅ ∅
 have hp:2 ^ m<=32:=Nat.pow_le_pow_right #[] (show m<=5 by omega)
 obtain⟨dp,hd,hP⟩:=ZbM (tk:=tk) (tk':=tk') S C rfl rfl ∅ ∅ ⟨∅,∅⟩ (aP (eW hp hz) #[])
 obtain⟨b,P,k1⟩:=hd n J J .refl;have P:ev (rT (n+8)) (.f 201 (.a 1 (.s 2))) (El tk tk' m rs rs' ab ab ab ab ab ab ab ab ab) J=aa (dp,b):=Wr (xs:=[pgD tk m rs,pgD tk' m rs']) rfl P;have g1:=g0.trans k1;rcases hP with⟨rfl,T⟩|⟨us,rfl,E,_⟩
 .have hw:([0,1,5]:Li Int).any (λi=>ak (i=ceI ns 1 % 8))=af:=by
   refine fP.mpr λh=>?_
   simp only[cM,List.any_nil,cL,bL,aO]at h;obtain⟨K,E⟩:=Zf9 (tk:=tk) (tk':=tk') S C ∅ (fo (by rcases h with h|h|h<;>omega))
   exact T K E
  have Z:Y (rT (n+8)) b (.cmp .NotIn (.m (.f 27 (.a 0 (.u (.i 1)))) (.i 8)) (.lstE (.aC (.i 0) (.aC (.i 1) (.u (.i 5)))))) (El tk tk' m rs rs' (aa .non) ab ab ab ab ab ab ab ab) (.bl (!([0,1,5]:Li Int).any (λi=>ak (i=ceI ns 1 % 8)))):=.noI (.md (Y1 (k:=1) (n:=n+7) g1 ∅ O ()) () #[]) λ_ _=>.mk ()
  rw[hw]at Z;obtain⟨t2,X,_⟩:=Z b .refl;exact⟨t2,Uf (v:=c_law_k43) rfl rfl ((Zc e1).trans ((Zc (Zm P)).trans (Zj ((ZN rfl).trans (Zj (ZU X))))))⟩
 .have hln:us.length<=169:=aP (Vz E.nd E.bd) hz
  obtain⟨w,p,o,H,X,k3,V⟩:=V7 (F:=rT (n+8)) (tk:=tk) (tk':=tk') (m:=m) (rs:=rs) (rs':=rs') (x8:=ab) (x9:=ab) (x10:=ab) (x11:=ab) (x3:=aa (.tup (us.map trD))) (s:=b) (c:=b.length) (aB _) (us:=us) (ws:=[]) (x5:=ab) (x6:=ab) (x7:=ab) (st:=b++[(ae,[])]) E.nd (by show 0+_<=_;omega) .push ZB
  have V:H[b.length]?=aa (ae,us.map trD):=V;have g3:=g1.trans k3;have e4:ex (rT (n+8)) (hdC (tlC 4 c_law_k43.body)) (El tk tk' m rs rs' (aa (.tup (us.map trD))) (aa (.dic b.length)) ab ab ab ab ab ab ab) (b++[(ae,[])])=aa (.nx (El tk tk' m rs rs' (aa (.tup (us.map trD))) (aa (.dic b.length)) w p o ab ab ab ab),H):=X;have v25:=Zn (ceI ns 9 / 8) (j:=25) #[]
  have v201:=Zn (ceI ns 9 / 8) (j:=201) #[]
  obtain⟨L,hL,z⟩:∃ L:Nat,L<=200/\(if ak (ceI ns 9 % 8=3)=ae then ceI ns 9 / 8 % 201 else ceI ns 9 / 8 % 25)=(L:Int):=by
   refine⟨_,?_,(cB ?_).symm⟩<;>split<;>omega
  have y:∀ {s:Za}{x3 x4 x5 x6 x7 x8 x9 x10 x11:Ot D},Grw H s->Y (rT (n+8)) s (.f 27 (.a 0 (.u (.i 9)))) (El tk tk' m rs rs' x3 x4 x5 x6 x7 x8 x9 x10 x11) (.int (ceI ns 9)):=λk=>Y1 (k:=9) (n:=n+7) (g3.trans k) ∅ O ()
  have y8:Y (rT (n+8)) H (.m (.k (.f 27 (.a 0 (.u (.i 9)))) (.i 8)) (.i 25)) (El tk tk' m rs rs' (aa (.tup (us.map trD))) (aa (.dic b.length)) w p o ab ab ab ab) (.int (ceI ns 9 / 8 % 25)):=.md (.fd (y .refl) () #[]) () #[]
  obtain⟨N,e5,Q⟩:=y8 H .refl;have W:∃ (v:Int) (g:Za),v=(L:Int)/\ex (rT (n+8)) (hdC (tlC 6 c_law_k43.body)) (El tk tk' m rs rs' (aa (.tup (us.map trD))) (aa (.dic b.length)) w p o (jI (ceI ns 9 / 8 % 25)) ab ab ab) N=aa (.nx (El tk tk' m rs rs' (aa (.tup (us.map trD))) (aa (.dic b.length)) w p o (jI v) ab ab ab),g)/\Grw N g:=by
   have yc:Y (rT (n+8)) N (.e (.m (.f 27 (.a 0 (.u (.i 9)))) (.i 8)) (.i 3)) (El tk tk' m rs rs' (aa (.tup (us.map trD))) (aa (.dic b.length)) w p o (jI (ceI ns 9 / 8 % 25)) ab ab ab) (.bl (ak (ceI ns 9 % 8=3))):=.eqi (.md (y Q) () #[]) ()
   obtain⟨g,e,k⟩:=yc N .refl;cases q:ak (ceI ns 9 % 8=3) with
   |false=>
    rw[q]at e z;have z:ceI ns 9 / 8 % 25=(L:Int):=z;exact⟨_,g,z,(YA e).trans Zg,k⟩
   |true=>
    rw[q]at e z;have z:ceI ns 9 / 8 % 201=(L:Int):=z;have y9:Y (rT (n+8)) g (.m (.k (.f 27 (.a 0 (.u (.i 9)))) (.i 8)) (.i 201)) (El tk tk' m rs rs' (aa (.tup (us.map trD))) (aa (.dic b.length)) w p o (jI (ceI ns 9 / 8 % 25)) ab ab ab) (.int (ceI ns 9 / 8 % 201)):=.md (.fd (y (Q.trans k)) () #[]) () #[]
    obtain⟨G,e',R⟩:=y9 g .refl;exact⟨_,G,z,(ZN e).trans ((Zc (Zm e')).trans Zg),k.trans R⟩
  obtain⟨v,g,ev,W,k5⟩:=W;subst ev;have M:=Q.trans k5;have fr:=YN (F:=rT (n+8)) (i:=9) (e:=.i 3) (q:=Yp) (v:=3) (U:=El tk tk' m rs rs' (aa (.tup (us.map trD))) (aa (.dic b.length)) w p o (jN L) ab ab ab) (st:=g) (st1:=g) #[] #[] rfl
  have r:=Zga (s:=g) (l:=aj 3) (en:=λ(k:Nat)=>D.int (k:Int)) (B:=λd U s=>ex (rT (n+8)) Yp (Zh U 9 d) s) (I:=λU=>∃ x9 x10 x11,U=El tk tk' m rs rs' (aa (.tup (us.map trD))) (aa (.dic b.length)) w p o (jN L) x9 x10 x11) (λt ht U hI s k=>by
   obtain⟨x9,x10,x11,rfl⟩:=hI;obtain⟨y10,y11,s',e,R⟩:=Zaz (n:=n) (us:=us) (x5:=w) (x6:=p) (x7:=o) (x10:=x10) (x11:=x11) (bQ.mp ht) O hm (g3.trans (M.trans k)) S C E ((M.trans k).get V) et hA hL;exact .inl ⟨_,s',e,⟨_,_,_,rfl⟩,R⟩) (El tk tk' m rs rs' (aa (.tup (us.map trD))) (aa (.dic b.length)) w p o (jN L) ab ab ab) g ⟨_,_,_,rfl⟩ .refl
  have pre:∀ {r},ex (rT (n+8)) (tlC 7 c_law_k43.body) (El tk tk' m rs rs' (aa (.tup (us.map trD))) (aa (.dic b.length)) w p o (jN L) ab ab ab) g=r->ex (rT (n+8)) c_law_k43.body [jL 0,ab,ab,ab,ab,ab,ab,ab,ab,ab,ab,ab] (S0 ns)=r:=λh=>(Zc e1).trans ((Zc (Zm P)).trans ((Zc ((YA rfl).trans Zg)).trans ((Zc (Zm (v:=.dic b.length) (st':=b++[(ae,[])]) rfl)).trans ((Zc e4).trans ((Zc (Zm e5)).trans ((Zc W).trans h))))))
  rcases r with⟨U',G,e,_,_⟩|⟨G,e,_⟩
  .exact⟨G,Uf (v:=c_law_k43) rfl rfl (pre ((Zc (fr.trans e)).trans (Zj (ZU rfl))))⟩
  .exact⟨G,Uf (v:=c_law_k43) rfl rfl (pre (Zj (fr.trans e)))⟩
end
end
end Dp
namespace PySem.W.Fast
local macro_rules|`(command|universe $xs*)=>do return Lean.mkNullNode (← xs.mapM fun x=>`(def $x :=gE))
universe tw4355587662276785047 tw12275905124413174207 tw13596840795422626192 tw11142112732464684314 tw16249908246115430647 tw8690589591118780719 tw17386268105580040844 tw6221882539822578004 tw6039924581459409295 tw9422839192889032376 tw15518471964829338426 tw10780179110419838846 tw8527680345697261627 tw3213631274793402749 tw8320213958793581567 tw17616683301580651831 tw13532264464327031411 tw11376552347943629767 tw16236654300383562680 tw13751318649836889608 tw17211959190550176153 tw5097308939945999942 tw10807408765179624495 tw15363160427745494741 tw17281856269009296772 tw9412838485757646206 tw16662676595430029258 tw2290587517306555582 tw1255704648588865834 tw3962389427941375275 tw15678456137059008340 tw16059724053768594291 tw965796108775314354 tw2607165471016351177 tw14530230939955506882 tw11630347208331094595 tw16607982998098365155 tw12134814363183906934 tw13137477464693170717 tw4796902259635991556 tw7531407208968346586 tw14275739048721187813 tw13431562464457856617 tw4251108144340614476 tw5777027998208418753 tw16263432298803234442 tw13532151737201499779 tw6140316211436001723 tw9511201386231158422 tw18020308806774277088 tw11461307853773734009 tw12889496960456104595 tw13530986404713400498 tw17634135335481309836 tw4935584185071393526 tw613391446517482196 tw13262607226710843057 tw13618131522349110825 tw17744080719109882921 tw16878924026400647651 tw13061551486025119754 tw7374170260753045679 tw6942556867120277453 tw6246052282791468842 tw10199309614072441340 tw16061781958246368043 tw6633096187364335967 tw13134607209331866774 tw10258681850727384266 tw9939201304866925328 tw3216392220792565879 tw16552888674318293883 tw14613739504403392893 tw10378515854745509101 tw18356315909830589551 tw14975475195989370754 tw9992703759518989851 tw17960007092045275817 tw13460491089438836444 tw11581122776524235764 tw9332067833192536389 tw2678785265900885941 tw16424967819362761747 tw14015194643067433482 tw11544973853349378892 tw10987999927337556171 tw10846012831167734564 tw10547396238193310361 tw15674498217429034619 tw15040490513458753663 tw3679949128453658792 tw6037677020534816396 tw13074819146109145816 tw2735426556986520997 tw9162535934128597530 tw17522330249703483620 tw13475084205000750268 tw287310013338709719 tw12796750176607498865 tw3459801987370005793 tw17032083968184377380 tw11462532299156868143 tw11961157735767320819 tw11212136757298564459 tw4981276357848022091 tw5094749990315676724 tw13287086890131611899 tw9463791333947851892 tw5395620295138533798 tw3359667698991208675 tw3426430864987914880 tw10270361719348831434 tw10922764295120167207 tw14842313650652042123 tw695221079605481662 tw9606174585024572167 tw14116621649508776692 tw7003855329861593787 tw10593501247717360228 tw5609534313233047801 tw16776812255661631505 tw9492361070554111323 tw3801661301442883814 tw4517690662262040347 tw12169701058240640272 tw2650233513895035440 tw13102484006813375021 tw13931541244722757204 tw17181415776580245928 tw13105165909252053546 tw5845674490484526597 tw16410960663316275959 tw17924213796822604203 tw2064716091282515216 tw12897512395240888785 tw17838670653264694587 tw188540549792027672 tw11677070461235877032 tw5338344014816841086 tw7570730742087321695 tw17432881861048703706 tw9625674358630849843 tw6991915163670208557 tw4079705632514327325 tw8040990928840374818 tw12126667941738031019 tw8880629237453747602 tw1837669966032233956 tw15592146969295811128 tw14519386321861986091 tw7175379222565794449 tw11937586883569612238 tw15879509818222661130 tw5711083118470366077 tw3493047657361962561 tw14682351310518157089 tw13686412821486658108 tw10470083981195365639 tw13999665418106064202 tw950981099436893593 tw1688982942508714759 tw4195108171113961072 tw11524025586041341860 tw3013369405760265965 tw7571714987345544237 tw6990670070880163392 tw2061919677411969415 tw5114387698018883552 tw515417422241105086 tw5841773079303644946 tw8581858088381326995 tw7908937779283753265 tw17670682016208742274 tw13728646552383115845 tw12472946532419035342 tw1194816445900637193 tw8126673808685226980 tw11491679036215798885 tw12450869914468088650 tw4167308926060995986 tw484945447014903926 tw285939794202193250 tw3332000097785709078 tw5662279761118211338 tw3584317311826635945 tw2525251543199876618 tw3159798714990873613 tw6684566420746639829 tw6750313731989545100 tw16553353727683999302 tw9778185172954828618 tw15723707984052946514 tw13556080950959720514 tw17429697661721366130 tw4705931864466859493 tw8711162584188444508 tw188115746639415250 tw7382348939656080041 tw17000238968024853162 tw13358701160647495075 tw3849840479836911792 tw7450212258707424501 tw15093565952586643391 tw487316998807920687 tw13192357587771328818 tw84988750993309496 tw214197320396761467 tw7110157590809058854 tw2290164616187765204 tw3334393562790228346 tw14690079116876849835 tw3084563807882588369 tw4868525905309462189 tw16392576859139008566 tw9718032351613453085 tw15083073621502100588 tw11810073129817967972 tw153473165067709244 tw16939016869398373267 tw2667872217949834234
end PySem.W.Fast
namespace Dp
open PySem L2
noncomputable def top(i:Nat):Stmt:=PySem.Challenge.pw_fakehunt_k43_whole_papers_hold.main.body.getD i (.Pass ⟨0,0,0,0⟩)
def G:Gs:=[(S "OPERAND_PLACES",GV.dct [(S "put"),(S "if"),(S "tell"),(S "go"),(S "skip")] [(.tup [(.int 2),(.int 4)]),(.tup [(.int 1),(.int 3)]),(.tup [(.int 1)]),(.tup []),(.tup [])]),(S "replaced",GV.fn 42 3 []),(S "operand_places",GV.fn 113 1 []),(S "bit_of",GV.fn 43 1 []),(S "all_bits",GV.fn 56 1 []),(S "has_bit",GV.fn 114 2 []),(S "without_bit",GV.fn 57 2 []),(S "LOWEST",GV.c (.int (-1000000000))),(S "HIGHEST",GV.c (.int 999999999)),(S "HALF",GV.c (.int 1000000000)),(S "RING",GV.c (.int 2000000000)),(S "around",GV.fn 0 1 []),(S "divided",GV.fn 1 2 []),(S "left_over",GV.fn 2 2 []),(S "reckon",GV.fn 3 3 []),(S "is_so",GV.fn 4 3 []),(S "NOUGHT",GV.c (.tup [(.str (S "number")),(.int 0)])),(S "ONE",GV.c (.tup [(.str (S "number")),(.int 1)])),(S "SKIP",GV.c (.tup [(.str (S "skip"))])),(S "are_numbers",GV.fn 73 2 []),(S "lesser_first",GV.fn 74 3 []),(S "less_as_more",GV.fn 75 1 []),(S "without_reckoning",GV.fn 76 1 []),(S "made_put",GV.fn 77 1 []),(S "greater_as_less",GV.fn 78 1 []),(S "is_settled",GV.fn 79 1 []),(S "settled",GV.fn 80 1 []),(S "most_as_less",GV.fn 81 1 []),(S "made_if",GV.fn 82 2 []),(S "made_row",GV.fn 83 2 []),(S "END",GV.c (.tup [(.str (S "end"))])),(S "row_at",GV.fn 115 2 []),(S "ends_run",GV.fn 116 1 []),(S "reads_only",GV.fn 117 2 []),(S "end_alike",GV.fn 118 3 []),(S "choose_alike",GV.fn 119 3 []),(S "staying",GV.fn 120 3 []),(S "places_behind",GV.fn 121 2 []),(S "follow",GV.fn 122 5 []),(S "found_paper",GV.fn 201 2 []),(S "_law_cell_at",GV.fn 27 2 []),(S "_law_small",GV.fn 20 1 []),(S "_law_operand",GV.fn 28 2 []),(S "_law_row",GV.fn 29 3 []),(S "_law_jumps",GV.fn 123 2 []),(S "_law_mirrored",GV.fn 124 1 []),(S "_law_doubled",GV.fn 125 2 []),(S "_law_rows",GV.fn 126 3 []),(S "_law_two",GV.fn 47 1 []),(S "_law_reckon",GV.fn 32 3 []),(S "_law_so",GV.fn 33 3 []),(S "_law_worth",GV.fn 34 2 []),(S "_law_moved",GV.fn 103 2 []),(S "_law_trail",GV.fn 26 3 []),(S "_law_alike",GV.fn 36 3 []),(S "_law_along",GV.fn 296 3 []),(S "law",GV.fn 16 1 []),(S "len",GV.blt),(S "range",GV.blt),(S "tuple",GV.blt),(S "list",GV.blt),(S "int",GV.blt),(S "bool",GV.blt),(S "str",GV.blt),(S "min",GV.blt),(S "max",GV.blt),(S "isinstance",GV.blt),(S "all",GV.blt),(S "any",GV.blt),(S "zip",GV.blt),(S "sorted",GV.blt),(S "enumerate",GV.blt),(S "set",GV.blt)]
def Zg4(i k:Nat):Stmt:=match top i with
 |.ClassDef _ _ _ b _ _ _ _ _ _ _=>b.getD k (.Pass ⟨0,0,0,0⟩)
 |s=>s
abbrev Cmp(i:Nat)(N:Li Str)(k:Nat)(c:FD):Prop:=ZbH G (top i) N (N.take k) c.body
abbrev Cmt(i j:Nat)(N:Li Str)(k:Nat)(c:FD):Prop:=ZbH G (Zg4 i j) N (N.take k) c.body
abbrev fA9(K:Fg)(x:Str)(i:Nat):Prop:=FnAt K x (top i)
abbrev kO9(K:Fg)(a b:Ad):Prop:=W.kitOne K (.ref a) (.ref b)=aa ae
abbrev nN9(K:Fg)(x:Str):Prop:=W.nsIn K a7 x=aa ab
abbrev nV9(K:Fg)(x:Str)(v:vL):Prop:=W.nsIn K a7 x=aa (aa v)
local macro_rules
 |`(tactic| trivial)=>`(tactic| exact⟨⟨rfl,rfl,rfl,by decide +kernel,rfl,by decide +kernel,by decide +kernel⟩,by unfold L2.Loc;decide +kernel,by kernel_rfl⟩)
def q_2:Cmp 2 ["things","i","thing"] 3 Xr:=by trivial
def q_3:Cmp 3 ["row"] 1 Z2:=by trivial
def q_4:Cmp 4 ["i","bit","times"] 1 Wo:=by trivial
def q_5:Cmp 5 ["many"] 1 Xp:=by trivial
def q_6:Cmp 6 ["bits","i"] 2 XQ:=by trivial
def q_7:Cmp 7 ["bits","i"] 2 Yv:=by trivial
def Zg7:Cmp 13 ["number"] 1 Wn:=by trivial
def Zg8:Cmp 14 ["one","other"] 2 Xc:=by trivial
def Zg9:Cmp 15 ["one","other"] 2 Yq:=by trivial
def Zha:Cmp 16 ["one","sign","other"] 3 Wq:=by trivial
def Zhb:Cmp 17 ["one","sign","other"] 3 W9:=by trivial
def Zhc:Cmp 22 ["y","z"] 2 Yu:=by trivial
def Zhd:Cmp 23 ["row","i","j"] 3 ZX:=by trivial
def Zhe:Cmp 24 ["row"] 1 ZW:=by trivial
def Zhf:Cmp 25 ["row","y","sign","z"] 1 ZO:=by trivial
def Zhg:Cmp 26 ["row"] 1 Xq:=by trivial
def Zhh:Cmp 27 ["row"] 1 ZV:=by trivial
def Zhi:Cmp 28 ["row"] 1 YL:=by trivial
def Zhj:Cmp 29 ["row","so"] 1 XS:=by trivial
def Zhk:Cmp 30 ["row","y","z"] 1 Yi:=by trivial
def Zhl:Cmp 31 ["row","k"] 2 XR:=by trivial
def Zhm:Cmp 32 ["row","k"] 2 ZS:=by trivial
def Zhn:Cmp 35 ["program","k"] 2 Xy:=by trivial
def Zho:Cmp 36 ["row"] 1 YK:=by trivial
def Zhp:Cmp 37 ["row","bits","i"] 2 YM:=by trivial
def Zhq:Cmp 38 ["row","beside","bits"] 3 Y0:=by trivial
def Zhr:Cmp 39 ["row","beside","bits"] 3 ZI:=by trivial
def Zhs:Cmp 40 ["row","beside","bits","each"] 3 XT:=by trivial
def Zht:Cmp 41 ["row","k"] 2 ZF:=by trivial
def Zhu:Cmp 42 ["one","other","k","j","bits","row","beside","stay","triples","place"] 5 Wp:=by trivial
def Zhv:Cmp 44 ["one","other","paper","ahead","pair","triples","k","j","stay","bits"] 2 Z7:=by trivial
def Zhw:Cmp 46 ["_law_script","_law_k"] 2 Yf:=by trivial
def Zhx:Cmp 47 ["_law_cell"] 1 YJ:=by trivial
def Zhy:Cmp 48 ["_law_cell","_law_many"] 2 Yh:=by trivial
def Zhz:Cmp 49 ["_law_cells","_law_many","_law_size","_law_one","_law_other"] 3 Xo:=by trivial
def ZhA:Cmp 50 ["_law_row_here","_law_places"] 2 ZC:=by trivial
def ZhB:Cmp 51 ["_law_row_here","_law_sign"] 1 Zr:=by trivial
def ZhC:Cmp 52 ["_law_rows_here","_law_cell","_law_size","_law_found","_law_copy","_law_k","_law_far"] 2 Yg:=by trivial
def ZhD:Cmp 53 ["_law_script","_law_many","_law_way","_law_size","_law_rows_here","_law_k"] 3 YZ:=by trivial
def ZhE:Cmp 54 ["_law_script","_law_head","_law_taken","_law_many","_law_way","_law_rows_here","_law_size","_law_others","_law_at","_law_fresh","_law_one","_law_other"] 1 c__law_two:=by trivial
def ZhF:Cmp 55 ["_law_one","_law_sign","_law_other","_law_found"] 3 Zs:=by trivial
def ZhG:Cmp 56 ["_law_one","_law_sign","_law_other"] 3 ZT:=by trivial
def ZhH:Cmp 57 ["_law_operand_here","_law_values"] 2 Yc:=by trivial
def ZhI:Cmp 58 ["_law_program","_law_state","_law_k","_law_values","_law_row_here","_law_number","_law_here","_law_there"] 2 c__law_moved:=by trivial
def ZhJ:Cmp 59 ["_law_program","_law_inputs","_law_limit","_law_found","_law_done"] 3 c__law_trail:=by trivial
def ZhK:Cmp 60 ["_law_here","_law_there","_law_bits","_law_i"] 3 YI:=by trivial
def ZhL:Cmp 61 ["_law_agreed","_law_here","_law_there","_law_mine","_law_theirs","_law_bits"] 3 c__law_along:=by trivial
def Zgp:Cmp 62 ["_law_script","_law_one","_law_other","_law_found","_law_agreed","_law_k","_law_j","_law_bits","_law_limit","_law_turn","_law_cells","_law_inputs"] 1 c_law_k43:=by trivial
@[reducible] noncomputable def tab (l:Li (Nat×Ad)):ClsTab:=⟨λi=>(l.lookup i).getD 0⟩
section
variable [ct:ClsTab]
def Zea{Pm:Params}{K:Fg}{h:bp}{mg:Str->Ot vL}{fa:Ad}(X:K.In h)(a:h.Ns a7 mg)(hfa:mg "law"=aa (.ref fa)){A0 f e d c b A16 Z Y V:Ad}{E l k j i g D C B A:Obj}{ep0 U R Q P O on16 on17 on18 on30:Nat}{z q p y o n x m w r t7 t8 t9 t10 M L J I H F:Tok}(g0:nV9 K "OPERAND_PLACES" (.ref A0))(d0:K.lookup A0=aa E)(f0c:E.cls=.type "dict")(f0d:E.dict=ab)(f0s:E.slots=#[])(e0:E.data=.dict #[⟨bw Pm "put",.str "put" z,.ref f⟩,⟨bw Pm "if",.str "if" y,.ref e⟩,⟨bw Pm "tell",.str "tell" x,.ref d⟩,⟨bw Pm "go",.str "go" w,.ref c⟩,⟨bw Pm "skip",.str "skip" r,.ref b⟩] ep0)(s0:(A0==bt)=af)(h0_0:K.lookup f=aa l)(i0_0:l.cls=.type "tuple")(j0_0:l.data=.seq #[.int (2) q,.int (4) p] U)(h0_1:K.lookup e=aa k)(i0_1:k.cls=.type "tuple")(j0_1:k.data=.seq #[.int (1) o,.int (3) n] R)(h0_2:K.lookup d=aa j)(i0_2:j.cls=.type "tuple")(j0_2:j.data=.seq #[.int (1) m] Q)(h0_3:K.lookup c=aa i)(i0_3:i.cls=.type "tuple")(j0_3:i.data=.seq #[] P)(h0_4:K.lookup b=aa g)(i0_4:g.cls=.type "tuple")(j0_4:g.data=.seq #[] O)(a1:fA9 K "replaced" 2)(a2:fA9 K "operand_places" 3)(a3:fA9 K "bit_of" 4)(a4:fA9 K "all_bits" 5)(a5:fA9 K "has_bit" 6)(a6:fA9 K "without_bit" 7)(g7:nV9 K "LOWEST" (.int (-1000000000) t7))(g8:nV9 K "HIGHEST" (.int (999999999) t8))(g9:nV9 K "HALF" (.int (1000000000) t9))(g10:nV9 K "RING" (.int (2000000000) t10))(a11:fA9 K "around" 13)(a12:fA9 K "divided" 14)(a13:fA9 K "left_over" 15)(a14:fA9 K "reckon" 16)(a15:fA9 K "is_so" 17)(g16:nV9 K "NOUGHT" (.ref A16))(d16:K.lookup A16=aa D)(f16c:D.cls=.type "tuple")(e16:D.data=.seq #[.str ("number") M,.int (0) L] on16)(g17:nV9 K "ONE" (.ref Z))(d17:K.lookup Z=aa C)(f17c:C.cls=.type "tuple")(e17:C.data=.seq #[.str ("number") J,.int (1) I] on17)(g18:nV9 K "SKIP" (.ref Y))(d18:K.lookup Y=aa B)(f18c:B.cls=.type "tuple")(e18:B.data=.seq #[.str ("skip") H] on18)(a19:fA9 K "are_numbers" 22)(a20:fA9 K "lesser_first" 23)(a21:fA9 K "less_as_more" 24)(a22:fA9 K "without_reckoning" 25)(a23:fA9 K "made_put" 26)(a24:fA9 K "greater_as_less" 27)(a25:fA9 K "is_settled" 28)(a26:fA9 K "settled" 29)(a27:fA9 K "most_as_less" 30)(a28:fA9 K "made_if" 31)(a29:fA9 K "made_row" 32)(g30:nV9 K "END" (.ref V))(d30:K.lookup V=aa A)(f30c:A.cls=.type "tuple")(e30:A.data=.seq #[.str ("end") F] on30)(a31:fA9 K "row_at" 35)(a32:fA9 K "ends_run" 36)(a33:fA9 K "reads_only" 37)(a34:fA9 K "end_alike" 38)(a35:fA9 K "choose_alike" 39)(a36:fA9 K "staying" 40)(a37:fA9 K "places_behind" 41)(a38:fA9 K "follow" 42)(a39:fA9 K "found_paper" 44)(a40:fA9 K "_law_cell_at" 46)(a41:fA9 K "_law_small" 47)(a42:fA9 K "_law_operand" 48)(a43:fA9 K "_law_row" 49)(a44:fA9 K "_law_jumps" 50)(a45:fA9 K "_law_mirrored" 51)(a46:fA9 K "_law_doubled" 52)(a47:fA9 K "_law_rows" 53)(a48:fA9 K "_law_two" 54)(a49:fA9 K "_law_reckon" 55)(a50:fA9 K "_law_so" 56)(a51:fA9 K "_law_worth" 57)(a52:fA9 K "_law_moved" 58)(a53:fA9 K "_law_trail" 59)(a54:fA9 K "_law_alike" 60)(a55:fA9 K "_law_along" 61)(a56:fA9 K "law" 62)(z57:nN9 K "len")(z58:nN9 K "range")(z59:nN9 K "tuple")(z60:nN9 K "list")(z61:nN9 K "int")(z62:nN9 K "bool")(z63:nN9 K "str")(z64:nN9 K "min")(z65:nN9 K "max")(z66:nN9 K "isinstance")(z67:nN9 K "all")(z68:nN9 K "any")(z69:nN9 K "zip")(z70:nN9 K "sorted")(z71:nN9 K "enumerate")(z72:nN9 K "set") :
  Text Pm K mg G T/\∃ (fd:bo) (N:Li Str),(∀ (s:Sd) (u:vL),BindsTo s fd ⟨[u],[]⟩ [(S "_law_script",u)])/\DefOk K mg G T "law" 16 [] fa fd [S "_law_script"] N:=by
 exact⟨Zda (⟨⟨A0,E,#[⟨bw Pm "put",.str "put" z,.ref f⟩,⟨bw Pm "if",.str "if" y,.ref e⟩,⟨bw Pm "tell",.str "tell" x,.ref d⟩,⟨bw Pm "go",.str "go" w,.ref c⟩,⟨bw Pm "skip",.str "skip" r,.ref b⟩],ep0,W.mg_of X a g0,d0,⟨f0c,f0d,f0s⟩,e0,s0,(by decide),(show EsOk Pm K [⟨bw Pm "put",.str "put" z,.ref f⟩,⟨bw Pm "if",.str "if" y,.ref e⟩,⟨bw Pm "tell",.str "tell" x,.ref d⟩,⟨bw Pm "go",.str "go" w,.ref c⟩,⟨bw Pm "skip",.str "skip" r,.ref b⟩] _ _ from .cons (v:=.ref f) (t:=z) rfl rfl (show RelV (.ref f) (.ref f) from rfl) (λ_ _=>.tup (xs:=[.int (2),.int (4)]) (.inr ⟨l,#[.int (2) q,.int (4) p],U,h0_0,i0_0,j0_0,(show(2:Nat)<=ay by decide),.cons ⟨_,rfl⟩ (.cons ⟨_,rfl⟩ (.nil))⟩) (.cons (.int _) (.cons (.int _) (.nil)))) (.cons (v:=.ref e) (t:=y) rfl rfl (show RelV (.ref e) (.ref e) from rfl) (λ_ _=>.tup (xs:=[.int (1),.int (3)]) (.inr ⟨k,#[.int (1) o,.int (3) n],R,h0_1,i0_1,j0_1,(show(2:Nat)<=ay by decide),.cons ⟨_,rfl⟩ (.cons ⟨_,rfl⟩ (.nil))⟩) (.cons (.int _) (.cons (.int _) (.nil)))) (.cons (v:=.ref d) (t:=x) rfl rfl (show RelV (.ref d) (.ref d) from rfl) (λ_ _=>.tup (xs:=[.int (1)]) (.inr ⟨j,#[.int (1) m],Q,h0_2,i0_2,j0_2,(show(1:Nat)<=ay by decide),.cons ⟨_,rfl⟩ (.nil)⟩) (.cons (.int _) (.nil))) (.cons (v:=.ref c) (t:=w) rfl rfl (show RelV (.ref c) (.ref c) from rfl) (λ_ _=>.tup (xs:=[]) (.inr ⟨i,#[],P,h0_3,i0_3,j0_3,(show(0:Nat)<=ay by decide),.nil⟩) (.nil)) (.cons (v:=.ref b) (t:=r) rfl rfl (show RelV (.ref b) (.ref b) from rfl) (λ_ _=>.tup (xs:=[]) (.inr ⟨g,#[],O,h0_4,i0_4,j0_4,(show(0:Nat)<=ay by decide),.nil⟩) (.nil)) (.nil))))))⟩,gD X a a1 q_2 rfl (gD X a a2 q_3 rfl (gD X a a3 q_4 rfl (gD X a a4 q_5 rfl (gD X a a5 q_6 rfl (gD X a a6 q_7 rfl (gI X a g7 (gI X a g8 (gI X a g9 (gI X a g10 (gD X a a11 Zg7 rfl (gD X a a12 Zg8 rfl (gD X a a13 Zg9 rfl (gD X a a14 Zha rfl (gD X a a15 Zhb rfl (⟨⟨.ref A16,.ref A16,W.mg_of X a g16,rfl,λ_ _=>.tup (xs:=[.str ("number"),.int (0)]) (.inr ⟨D,#[.str ("number") M,.int (0) L],on16,d16,f16c,e16,(show(2:Nat)<=ay by decide),.cons ⟨_,rfl⟩ (.cons ⟨_,rfl⟩ (.nil))⟩) (.cons (.str _) (.cons (.int _) (.nil)))⟩,⟨⟨.ref Z,.ref Z,W.mg_of X a g17,rfl,λ_ _=>.tup (xs:=[.str ("number"),.int (1)]) (.inr ⟨C,#[.str ("number") J,.int (1) I],on17,d17,f17c,e17,(show(2:Nat)<=ay by decide),.cons ⟨_,rfl⟩ (.cons ⟨_,rfl⟩ (.nil))⟩) (.cons (.str _) (.cons (.int _) (.nil)))⟩,⟨⟨.ref Y,.ref Y,W.mg_of X a g18,rfl,λ_ _=>.tup (xs:=[.str ("skip")]) (.inr ⟨B,#[.str ("skip") H],on18,d18,f18c,e18,(show(1:Nat)<=ay by decide),.cons ⟨_,rfl⟩ (.nil)⟩) (.cons (.str _) (.nil))⟩,gD X a a19 Zhc rfl (gD X a a20 Zhd rfl (gD X a a21 Zhe rfl (gD X a a22 Zhf rfl (gD X a a23 Zhg rfl (gD X a a24 Zhh rfl (gD X a a25 Zhi rfl (gD X a a26 Zhj rfl (gD X a a27 Zhk rfl (gD X a a28 Zhl rfl (gD X a a29 Zhm rfl (⟨⟨.ref V,.ref V,W.mg_of X a g30,rfl,λ_ _=>.tup (xs:=[.str ("end")]) (.inr ⟨A,#[.str ("end") F],on30,d30,f30c,e30,(show(1:Nat)<=ay by decide),.cons ⟨_,rfl⟩ (.nil)⟩) (.cons (.str _) (.nil))⟩,gD X a a31 Zhn rfl (gD X a a32 Zho rfl (gD X a a33 Zhp rfl (gD X a a34 Zhq rfl (gD X a a35 Zhr rfl (gD X a a36 Zhs rfl (gD X a a37 Zht rfl (gD X a a38 Zhu rfl (gD X a a39 Zhv rfl (gD X a a40 Zhw rfl (gD X a a41 Zhx rfl (gD X a a42 Zhy rfl (gD X a a43 Zhz rfl (gD X a a44 ZhA rfl (gD X a a45 ZhB rfl (gD X a a46 ZhC rfl (gD X a a47 ZhD rfl (gD X a a48 ZhE rfl (gD X a a49 ZhF rfl (gD X a a50 ZhG rfl (gD X a a51 ZhH rfl (gD X a a52 ZhI rfl (gD X a a53 ZhJ rfl (gD X a a54 ZhK rfl (gD X a a55 ZhL rfl (gD X a a56 Zgp rfl (gB X a z57 (gB X a z58 (gB X a z59 (gB X a z60 (gB X a z61 (gB X a z62 (gB X a z63 (gB X a z64 (gB X a z65 (gB X a z66 (gB X a z67 (gB X a z68 (gB X a z69 (gB X a z70 (gB X a z71 (gB X a z72 (trivial))))))))))))))))))))))))))))))))))))))))))⟩)))))))))))⟩⟩⟩)))))))))))))))⟩),gL X a hfa a56 Zgp rfl λ_ _ _ _ _ _ _=>rfl⟩
def Zcz:∀ n,YV G (run T n):=λ_=>Zb0
end
end Dp
open PySem PySem.W PyProof.Rows
local macro_rules
 |`(∅)=>`(.mk ?_ ?_ ?_ ?_)
set_option maxRecDepth 100000 in
set_option maxHeartbeats 0 in
theorem PySem.Challenge.cw_fakehunt_k43_whole_papers_hold_holds : PySem.Challenge.rw_fakehunt_k43_whole_papers_hold.Holds := by
 w_on;o_law;k_head;(case hw=>w_witness2)
 k_fill
 refine Dp.Jn (l:=PySem.Challenge.rw_fakehunt_k43_whole_papers_hold) (G:=Dp.G) (T:=Dp.T) (n:=9) (i:=16) (x := "_law_script") rfl rfl ⟨rfl,by decide,by decide⟩ (λw h Y=>PySem.W.kIn_of Y) Dp.Zcz ?F (λns hn=>Dp.Jm 0 hn)
 case F=>
  intro w mg fa h KX G0 hmg;refine' ⟨Dp.tab [],Dp.Zea (ct:=Dp.tab []) (Pm:=w.params)  KX G0 hmg  ?_ ?_ ?_ ?_ ?_ ?_ ?_ ?_ ?_ ?_ ?_ ?_ ?_ ?_ ?_ ?_ ?_ ?_ ?_ ?_ ?_ ?_ ∅ ∅ ∅ ∅ ∅ ∅ ?_ ?_ ?_ ?_ ∅ ∅ ∅ ∅ ∅ ?_ ?_ ?_ ?_ ?_ ?_ ?_ ?_ ?_ ?_ ?_ ?_ ∅ ∅ ∅ ∅ ∅ ∅ ∅ ∅ ∅ ∅ ∅ ?_ ?_ ?_ ?_ ∅ ∅ ∅ ∅ ∅ ∅ ∅ ∅ ∅ ∅ ∅ ∅ ∅ ∅ ∅ ∅ ∅ ∅ ∅ ∅ ∅ ∅ ∅ ∅ ∅ ∅ ?_ ?_ ?_ ?_ ?_ ?_ ?_ ?_ ?_ ?_ ?_ ?_ ?_ ?_ ?_ ?_⟩
  all_goals (first|k_is|exact rfl|skip)
  all_goals (first|k_is|exact rfl|skip)

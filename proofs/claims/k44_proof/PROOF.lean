import PyProof.Rows.All
import Wide.All
import OpenK.AllK
import Wide.FinOn
import Lean
import PyProof.EqAt
import PyProof.EqKinds
import PyProof.TupleCall
import PyProof.TupleKey
import PyProof.DictWalks
import PyProof.DictItems
import KE.KPairComp
import KE.KUnpack
import KE.KSortAsk
import KE.KSortTup
import KE.KDictSum
import PySem.Challenge.RW_fakehunt_k44_whole_any_kept_paper
set_option Elab.async false
set_option linter.all false
set_option maxRecDepth 100000
set_option maxHeartbeats 4000000
set_option genSizeOf false
set_option genInjectivity false
set_option compiler.extract_closed false
set_option bootstrap.genMatcherCode false
def hE:=@Nat.le_refl
open PySem renaming sizeLine → ay,Expr → az,mainGlobals → a9,wpAny → bf,model → bg,Program → bh,starEach → bj,bootBuiltins → bo,Scope → bp,FuncData → bq,Heap → br,World → bt,compareOp → bu,sysModules → bv,Around → bw,binaryOp → bx
open PySem.PyData renaming keyHash → bz
open PySem.Value renaming ref → b5,none → b6
open Option renaming some → aa,none → ab
open Bool renaming true → ae,false → af
open List renaming replicate → ag,range → aj
open Decidable renaming decide → ak
def am:=@of_decide_eq_false
def ao:=@of_decide_eq_true
def aq:=@if_pos
def ar:=@if_neg
def au:=@absurd
def av:=@congrArg
def aw:=@Option.some.inj
def ax:=@Eq.symm
noncomputable section
def aB:=@Nat.le_refl
def aD:=@List.length_map
def aF:=@decide_eq_true
def aG:=@List.length_append
def aH:=@List.size_toArray
def aI:=@decide_eq_false
def aK:=@Nat.le_trans
def aL:=@List.mem_cons
def aM:=@List.append_assoc
def aO:=@decide_eq_true_eq
def aP:=@List.getD_eq_getElem?_getD
def aQ:=@List.mem_singleton
def aR:=@List.mem_map
def aS:=@Nat.zero_le
def aU:=@List.length_take
def aV:=@List.getElem?_map
def aW:=@Nat.lt_of_lt_of_le
def aX:=@List.mem_of_getElem?
def aY:=@List.length_cons
def aZ:=@List.map_cons
def bC:=@List.mem_append
def bD:=@List.append_nil
def bE:=@List.getElem?_append_right
def bF:=@List.take_append_drop
def bG:=@Nat.ne_of_lt
def bH:=@Int.toNat_natCast
def bL:=@List.getElem?_eq_some_iff
def bM:=@List.getElem?_set_self
def bN:=@List.getElem_mem
def bO:=@List.length_set
def bP:=@List.length_range
def bQ:=@List.map_map
def bR:=@List.getElem?_set_ne
def bS:=@List.getElem?_append_left
def bU:=@List.mem_append_right
def bV:=@List.drop_eq_getElem_cons
def bY:=@Nat.zero_add
def bZ:=@List.all_eq_true
def cA:=@List.nodup_cons
def cB:=@Bool.or_eq_true
def cD:=@List.length_drop
def cF:=@Int.toNat_of_nonneg
def cG:=@List.mem_range
def cH:=@List.all_cons
def cI:=@Nat.min_eq_left
def cJ:=@List.drop_zero
def cK:=@Int.natCast_add
def cL:=@List.map_append
def cM:=@Nat.lt_irrefl
def cN:=@Bool.eq_iff_iff
def cP:=@Nat.max_eq_right
def cQ:=@List.getElem?_take
def cR:=@List.take_length
def cT:=@List.mem_of_mem_take
def cU:=@Nat.le_of_eq
def cV:=@Nat.le_add_right
def cY:=@Nat.add_sub_cancel_left
def cZ:=@List.mem_of_mem_drop
def dA:=@Nat.testBit_and
def dB:=@List.replicate_succ
def dC:=@List.flatten_cons
def dD:=@List.length_nil
def dE:=@List.take_take
def dF:=@List.getElem?_eq_none
def dG:=@List.lookup_cons
def dH:=@List.not_mem_nil
def dI:=@List.nodup_nil
def dJ:=@List.mem_iff_getElem?
def dL:=@List.length_reverse
def dM:=@Int.natCast_nonneg
def dN:=@beq_eq_false_iff_ne
def dO:=@Bool.or_false
def dP:=@List.any_cons
def dQ:=@List.find?_cons
def dR:=@List.getElem?_drop
def dS:=@List.drop_drop
def dU:=@List.drop_of_length_le
def dW:=@Nat.lt_or_ge
def dZ:=@Bool.and_true
def eC:=@Nat.mod_two_eq_zero_or_one
def eD:=@List.mem_flatMap
def eE:=@Nat.mul_le_mul
def eG:=@Nat.le_of_lt
def eH:=@List.mem_append_left
def eI:=@Nat.lt_succ_self
def eJ:=@Array.getElem?_toList
def eK:=@List.nil_append
def eM:=@Int.lt_of_lt_of_le
def eO:=@Nat.one_pos
def eP:=@Nat.sub_self
def eQ:=@Int.natCast_mul
def eR:=@Nat.testBit_two_pow
def eS:=@Nat.mod_lt
def eT:=@Array.length_toList
def eU:=@Nat.succ_le_succ
def eV:=@Nat.lt_trans
def eW:=@Option.map_eq_some_iff
def eX:=@List.pairwise_append
def eY:=@Nat.succ_pos
def eZ:=@Nat.add_sub_cancel
def fA:=@List.reverse_cons
def fB:=@Int.lt_of_le_of_lt
def fC:=@List.length_eq_zero_iff
def fD:=@List.cons_ne_nil
def fE:=@Option.getD_some
def fF:=@Bool.false_eq_true
def fG:=@Int.emod_nonneg
def fH:=@Bool.true_and
def fI:=@Nat.eq_of_testBit_eq
def fJ:=@List.mem_filter
def fK:=@List.filterMap_cons
def fL:=@List.of_mem_zip
def fM:=@List.length_replicate
def fN:=@List.length_singleton
def fO:=@Nat.le_of_not_lt
def fP:=@List.perm_append_comm
def fQ:=@List.drop_length
def fR:=@Nat.le_succ_of_le
def fS:=@List.pairwise_iff_getElem
def fU:=@List.take_of_length_le
def fV:=@List.pairwise_singleton
def fW:=@Bool.and_eq_true_iff
def fX:=@List.pairwise_map
def fY:=@Bool.not_eq_true'
def fZ:=@Bool.or_eq_false_iff
def gA:=@Nat.lt_of_le_of_lt
def gC:=@Int.emod_lt_of_pos
def gE:=@List.flatMap_cons
def gF:=@Nat.zero_testBit
def gG:=@Nat.pow_le_pow_right
def gH:=@Nat.two_pow_pos
def gJ:=@Option.isSome_iff_exists
def gK:=@List.getElem?_replicate
def gM:=@List.getElem?_cons_succ
def gN:=@Option.bind_eq_some_iff
def gO:=@List.mem_or_eq_of_mem_set
section
open PySem PySem.Spec PyProof.Rows
def aA:=@wpAny_bind
def aE:=@wpAny_pure
def aJ:=@Heap.lt_size
def aT:=@Heap.get?_push_of_some
def bT:=@Heap.get?_push_size
def cC:=@wpAny_mono
end
abbrev Li.{u}(α:Type u):Type u:=List α
abbrev Ot.{u}(α:Type u):Type u:=Option α
abbrev vL:=PySem.Value
abbrev Ad:=PySem.Addr
abbrev Sd:=PySem.Shared
def Ob{α β:Type}{a:α}{f:α->Ot β}:(aa a).bind f=f a:=rfl
abbrev Fg:=PySem.W.Frag
def Ba(a b:Bool):((a&&b)=ae)=(a=ae/\b=ae):=Bool.and_eq_true a b
def Lg{α:Type _}{l:Li α}{i:Nat}(h:i<l.length):l[i]?=aa l[i]:=List.getElem?_eq_getElem h
def Lm{α:Type _}(y:α){a:α}{l:Li α}(h:a∈l):a∈y::l:=List.mem_cons_of_mem y h
def Ls{α:Type _}{a:α}{l:Li α}:a∈a::l:=List.mem_cons_self
def Bf:¬af=ae:=Bool.false_ne_true
namespace L2
open PySem PySem.Spec PyProof.Rows
abbrev Key:=Sum Int Str
noncomputable def keyIs:Key->vL->Bool
  |.inl k,v=>Value.isInt k v
  |.inr x,v=>Value.isStrOf x v
noncomputable def keyH(w:bt):Key->Int
  |.inl k=>hashInt k
  |.inr x=>hashStr w x
def keyIs_shape:∀ {k:Key}{v:vL},keyIs k v=ae->(∃ i t,k=Sum.inl i/\v=Value.int i t)\/(∃ x t,k=Sum.inr x/\v=Value.str x t)
  |.inl i,v,h=>by
    obtain⟨t,e⟩:=Value.isInt_shape (k:=i) (v:=v) h;exact .inl ⟨i,t,rfl,e⟩
  |.inr x,v,h=>by
    obtain⟨t,e⟩:=Value.isStrOf_shape (x:=x) (v:=v) h;exact .inr ⟨x,t,rfl,e⟩
def keyIs_int(i:Int)(t:Tok):keyIs (.inl i) (.int i t)=ae:=by simp[keyIs,Value.isInt]
def keyIs_str(x:Str)(t:Tok):keyIs (.inr x) (.str x t)=ae:=by simp[keyIs,Value.isStrOf]
def key_ll(a b:Int):ak ((Sum.inl a:Key)=Sum.inl b)=(a==b):=by
  by_cases e:a=b
  . subst e;simp
  . have h:¬(Sum.inl a:Key)=Sum.inl b:=λq=>e (Sum.inl.inj q)
    rw[aI h];exact(dN.mpr e).symm
def key_rr(a b:Str):ak ((Sum.inr a:Key)=Sum.inr b)=ak (a=b):=by
  by_cases e:a=b
  . subst e;simp
  . have h:¬(Sum.inr a:Key)=Sum.inr b:=λq=>e (Sum.inr.inj q)
    rw[aI h,aI e]
def key_lr(a:Int)(b:Str):ak ((Sum.inl a:Key)=Sum.inr b)=af:=aI (λq=>nomatch q)
def key_rl(a:Str)(b:Int):ak ((Sum.inr a:Key)=Sum.inl b)=af:=aI (λq=>nomatch q)
def mixKind(prog:bh)(w:bt):PySem.KeyKind prog w Key where
  is:=keyIs
  hash:=keyH w
  inj:=λv a b l f=>by
    rcases keyIs_shape l with⟨i,t,rfl,rfl⟩|⟨x,t,rfl,rfl⟩
    . rcases keyIs_shape f with⟨j,u,rfl,e⟩|⟨y,u,rfl,e⟩
      . injection e with c _;rw[c]
      . exact nomatch e
    . rcases keyIs_shape f with⟨j,u,rfl,e⟩|⟨y,u,rfl,e⟩
      . exact nomatch e
      . injection e with c _;rw[c]
  byValue:=λk v h=>by
    rcases keyIs_shape h with⟨i,t,rfl,rfl⟩|⟨x,t,rfl,rfl⟩<;>rfl
  pyHash:=λd h=>by
    rcases keyIs_shape d with⟨i,t,rfl,rfl⟩|⟨x,t,rfl,rfl⟩
    . exact wpAny_pyHash_int h
    . exact wpAny_pyHash_str h
  eqBool:=λg d h=>by
    rcases keyIs_shape g with⟨i,t,rfl,rfl⟩|⟨x,t,rfl,rfl⟩
    . rcases keyIs_shape d with⟨j,u,rfl,rfl⟩|⟨y,u,rfl,rfl⟩
      . rw[key_ll]at h;exact wpAny_eqBool_int h
      . rw[key_lr]at h;exact SeqAt.EqAt.int_str i t y u _ _ _ _ h
    . rcases keyIs_shape d with⟨j,u,rfl,rfl⟩|⟨y,u,rfl,rfl⟩
      . rw[key_rl]at h;exact SeqAt.EqAt.str_int x t j u _ _ _ _ h
      . rw[key_rr]at h;exact wpAny_eqBool_str h
  «strs»:=λk x t v h=>by
    rcases keyIs_shape h with⟨i,u,rfl,e⟩|⟨y,u,rfl,e⟩
    . exact nomatch e
    . injection e with c _
      subst c;cases v<;>rfl
def mixKind_int(prog:bh)(w:bt)(i:Int)(t:Tok):(mixKind prog w).is (.inl i) (.int i t)=ae:=keyIs_int i t
def mixKind_str(prog:bh)(w:bt)(x:Str)(t:Tok):(mixKind prog w).is (.inr x) (.str x t)=ae:=keyIs_str x t
set_option genInjectivity true in
inductive V where
  |non|bl (b:Bool)|int (i:Int)|str (x:Str)|byt (b:Array UInt8)|flt (b:UInt64)|ref (a:Addr)|ty (n:String)
  deriving DecidableEq
def RelV:V->vL->Prop
  |.non,u=>u=b6
  |.bl b,u=>u=Value.bool b
  |.int i,u=>∃ t,u=Value.int i t
  |.str x,u=>∃ t,u=Value.str x t
  |.byt b,u=>∃ t,u=Value.bytes b t
  |.flt b,u=>∃ t,u=Value.float b t
  |.ref a,u=>u=b5 a
  |.ty n,u=>u=Value.type n
abbrev Vals:Li V->Li vL->Prop:=Paired RelV
variable{xs:Li V}{us:Li vL}
theorem Vals.length(r:Vals xs us):xs.length=us.length:=Paired.length r
theorem Vals.get:∀ {xs:Li V}{us:Li vL}{i:Nat}{x:V},Vals xs us->xs[i]?=aa x->∃ u,us[i]?=aa u/\RelV x u
  |_,_,_,_,.nil,e=>by simp at e
  |_,_,0,_,.cons r _,e=>by simp at e;subst e;exact⟨_,rfl,r⟩
  |_,_,i+1,x,.cons _ t,e=>by
    obtain⟨u,b,a⟩:=Vals.get (i:=i) (x:=x) t (by simpa using e)
    exact⟨u,by simpa using b,a⟩
theorem Vals.set{x:V}{u:vL}(r:RelV x u):∀ {xs:Li V}{us:Li vL} (i:Nat),Vals xs us->Vals (xs.set i x) (us.set i u)
  |_,_,_,.nil=>.nil
  |_,_,0,.cons _ t=>.cons r t
  |_,_,i+1,.cons q t=>.cons q (Vals.set r i t)
theorem Vals.append:∀ {xs ys:Li V}{us ws:Li vL},Vals xs us->Vals ys ws->Vals (xs++ys) (us++ws)
  |_,_,_,_,.nil,s=>s
  |_,_,_,_,.cons r t,s=>.cons r (Vals.append t s)
theorem Vals.take:∀ {xs:Li V}{us:Li vL} (n:Nat),Vals xs us->Vals (xs.take n) (us.take n)
  |_,_,0,_=>.nil
  |_,_,_+1,.nil=>.nil
  |_,_,n+1,.cons r t=>.cons r (Vals.take n t)
theorem Vals.drop:∀ {xs:Li V}{us:Li vL} (n:Nat),Vals xs us->Vals (xs.drop n) (us.drop n)
  |_,_,0,r=>r
  |_,_,_+1,.nil=>.nil
  |_,_,n+1,.cons _ t=>Vals.drop n t
def RelO:Ot V->Ot vL->Prop
  |some v,aa u=>RelV v u
  |none,ab=>True
  |_,_=>False
def KV{a:Type}:Li (a×V)->Li (a×vL)->Prop:=Paired λ(p:a×V) (q:a×vL)=>p.1=q.1/\RelV p.2 q.2
noncomputable def kV:Key->V
  |.inl i=>.int i
  |.inr x=>.str x
inductive HO where
    |lst (xs:List V)
    |tup (xs:List V)
    |dK (kvs:List (Key×V))|dT (kvs:List (List Key×V))
    |set (S:Int->Bool) (n:Nat)
    |ins (C dx:Addr) (fs:List (Str×V))
    |own (x:Addr)
    |xd (fs:List (Str×V))
    |met (f x:Addr)
    |rng (lo hi:Int)
    |frz (o:Obj) (u:HO)
    |tbl (ps:Array Value)
    |ext (φ:br->Prop)
abbrev Hp:=Ad->Ot HO
noncomputable def upd(H:Hp)(a:Ad)(o:HO):Hp:=λb=>if b=a then aa o else H b
variable{H:Hp}
def upd_same{a:Ad}{o:HO}:upd H a o a=aa o:=by unfold upd;rw[aq rfl]
def upd_ne{a b:Ad}{o:HO}(h:b≠a):upd H a o b=H b:=by unfold upd;rw[ar h]
def ne_of{a b:Ad}{o u:HO}(h:H a=aa o)(c:H b=aa u)(d:o≠u):a≠b:=by
  intro e;subst e;rw[h]at c;exact d (aw c)
def ne_of_none{a b:Ad}{o:HO}(h:H a=aa o)(c:H b=ab):a≠b:=by
  intro e;subst e;rw[h]at c;cases c
section
variable (P:bh) (w:bt)
def ObjOk(H:Hp)(h:br)(a:Ad):HO->Prop
  |.lst xs=>xs.length<=ay/\∃ (c:Li vL) (n:Nat),Vals xs c/\h.get? a=aa { cls:=.type "list",data:=.seq c.toArray n }
  |.tup xs=>xs.length<=ay/\∃ c:Li vL,Vals xs c/\IsTup h a c.toArray
  |.dK b=>b.length<=ay/\(a==bv)=af/\∃ i,KV b i/\h.DictOf (mixKind P w) a i
  |.dT b=>b.length<=ay/\(a==bv)=af/\∃ xs:Li (Li Key×Ad×vL),
      Paired (λ(p:Li Key×V) (q:Li Key×Ad×vL)=>p.1=q.1/\H q.2.1=aa (.tup (p.1.map kV))/\RelV p.2 q.2.2) b xs /\
      ∃ o l s,h.get? a=aa o/\o.ExactDict/\o.data=.dict l s/\l.toList=xs.map (entryOfKey (tupleKind (mixKind P w)))/\(xs.map (·.1)).Nodup
  |.set S n=>h.SetOf (intKind P w) a S n
  |.ins C e fs=>H e=aa (.own a)/\fs.length<=1000/\e≠a/\h.get? a=aa (W.instObj C e) /\
      ∃ d,h.Ns1 e d/\(∀ f,RelO (fs.lookup f) (d f))/\PySem.Within d (fs.map (·.1))
  |.own _=>∃ o,h.get? a=aa o
  |.xd fs=>∃ d,h.Ns1 a d/\∀ f,RelO (fs.lookup f) (d f)
  |.rng lo r=>∃ t u v,h.get? a=aa { cls:=.type "range",data:=.fields #[.int lo t,.int r u,.int 1 v] }
  |.frz o u=>h.get? a=aa o/\ObjOk H h a u
  |.tbl m=>h.get? a=aa { cls:=.none,data:=.fields m }
  |.met f x=>h.get? a=aa (W.methodObj (.ref f) (.ref x))
  |.ext g=>g h/\(∃ o,h.get? a=aa o)/\∀ k j:br,g k->(∀ o,k.get? a=aa o->j.get? a=aa o)->g j
def HOk(H:Hp)(h:br):Prop:=∀ a o,H a=aa o->ObjOk P w H h a o
end
variable{P:bh}{w:bt}{H H':Hp}{h h':br}{a:Ad}
section
variable{o:HO}
theorem ObjOk.lt(x:ObjOk P w H h a o):a < h.objs.size:=by
  cases o with
  |lst xs=>obtain⟨_,_,_,_,e⟩:=x;exact aJ e
  |tup xs=>obtain⟨_,_,_,p⟩:=x;exact p.lt
  |dK b=>obtain⟨_,_,_,_,o,_,_,e,_⟩:=x;exact aJ e
  |dT b=>obtain⟨_,_,_,_,o,_,_,e,_⟩:=x;exact aJ e
  |set S n=>obtain⟨o,_,_,_,e,_⟩:=x;exact aJ e
  |ins C j fs=>obtain⟨_,_,_,e,_⟩:=x;exact aJ e
  |own y=>obtain⟨_,e⟩:=x;exact aJ e
  |xd fs=>obtain⟨_,⟨_,_,_,e,_⟩,_⟩:=x;exact aJ e
  |rng lo i=>obtain⟨_,_,_,e⟩:=x;exact aJ e
  |frz g u=>obtain⟨e,_⟩:=x;exact aJ e
  |tbl d=>exact aJ (show h.get? a=aa _ from x)
  |met f y=>exact aJ (show h.get? a=aa _ from x)
  |ext c=>obtain⟨_,⟨_,e⟩,_⟩:=x;exact aJ e
theorem Paired.mapP{d c:Type}{F G:d->c->Prop}:∀ {l₁:Li d}{l₂:Li c},Paired F l₁ l₂->(∀ a b,F a b->G a b)->Paired G l₁ l₂
  |_,_,.nil,_=>.nil
  |_,_,.cons r t,f=>.cons (f _ _ r) (Paired.mapP t f)
def ObjOk.stay(x:ObjOk P w H h a o)(k:∀ b u,(b=a\/H b=aa (.own a))->h.get? b=aa u->h'.get? b=aa u)(I:∀ b,H b=aa (.own a)->H' b=aa (.own a))(G:∀ b xs,H b=aa (.tup xs)->H' b=aa (.tup xs)):ObjOk P w H' h' a o:=by
  induction o with
  |lst xs=>obtain⟨z,l,n,r,e⟩:=x;exact⟨z,l,n,r,k _ _ (.inl rfl) e⟩
  |tup xs=>obtain⟨z,l,r,g,e,c⟩:=x;exact⟨z,l,r,g,k _ _ (.inl rfl) e,c⟩
  |dK A=>obtain⟨z,y,E,r,g,i,j,e,c⟩:=x;exact⟨z,y,E,r,g,i,j,k _ _ (.inl rfl) e,c⟩
  |dT A=>
    obtain⟨z,y,xs,r,g,i,j,e,c⟩:=x;exact⟨z,y,xs,Paired.mapP r λp q z=>⟨z.1,G _ _ z.2.1,z.2.2⟩,g,i,j,k _ _ (.inl rfl) e,c⟩
  |set S n=>obtain⟨g,i,j,t,e,c⟩:=x;exact⟨g,i,j,t,k _ _ (.inl rfl) e,c⟩
  |ins C M fs=>
    obtain⟨d,z,ne,e,s,⟨m,i,j,J,c⟩,r⟩:=x;exact⟨I _ d,z,ne,k _ _ (.inl rfl) e,s,⟨m,i,j,k _ _ (.inr d) J,c⟩,r⟩
  |own y=>obtain⟨g,e⟩:=x;exact⟨g,k _ _ (.inl rfl) e⟩
  |xd fs=>obtain⟨s,⟨m,i,j,e,c⟩,r⟩:=x;exact⟨s,⟨m,i,j,k _ _ (.inl rfl) e,c⟩,r⟩
  |rng lo L=>obtain⟨t,u,v,e⟩:=x;exact⟨t,u,v,k _ _ (.inl rfl) e⟩
  |frz g u F=>obtain⟨e,q⟩:=x;exact⟨k _ _ (.inl rfl) e,F q⟩
  |tbl D=>
    have e:h.get? a=aa { cls:=.none,data:=.fields D }:=x;show h'.get? a=aa { cls:=.none,data:=.fields D };exact k a _ (.inl rfl) e
  |met f y=>
    have e:h.get? a=aa (W.methodObj (.ref f) (.ref y)):=x;show h'.get? a=aa (W.methodObj (.ref f) (.ref y));exact k a _ (.inl rfl) e
  |ext K=>obtain⟨p,⟨o,e⟩,B⟩:=x;exact⟨B _ _ p λo q=>k _ _ (.inl rfl) q,⟨o,k _ _ (.inl rfl) e⟩,B⟩
theorem HOk.lt(x:HOk P w H h)(e:H a=aa o):a < h.objs.size:=(x a o e).lt
def HOk.fresh(x:HOk P w H h)(e:h.objs.size<=a):H a=ab:=by
  cases q:H a with
  |none=>rfl
  |some u=>exact au (aW (x.lt q) e) (cM _)
def HOk.kept(x:HOk P w H h)(k:∀ b u,h.get? b=aa u->h'.get? b=aa u):HOk P w H h':=λa o e=>
  (x a o e).stay (λb u _ q=>k b u q) (λ_ q=>q) λ_ _ q=>q
def HOk.laid(x:HOk P w H h)(k:∀ b u,h.get? b=aa u->h'.get? b=aa u)(g:h.objs.size<=a)(new:ObjOk P w (upd H a o) h' a o):HOk P w (upd H a o) h':=λb u e=>by
  have d:=x.fresh g;by_cases f:b=a
  . subst f;rw[upd_same]at e;cases e;exact new
  . rw[upd_ne f]at e
    exact(x b u e).stay (λc v _ q=>k c v q) (λc q=>by rw[upd_ne (ne_of_none q d)];exact q) λc xs q=>by rw[upd_ne (ne_of_none q d)];exact q
end
def Rd(H:Hp)(a:Ad)(u:HO):Prop:=H a=aa u\/∃ o,H a=aa (.frz o u)
variable{w:bt}{h:br}
def Rd.ok{P:bh}{a:Ad}{u:HO}(r:Rd H a u)(x:HOk P w H h):ObjOk P w H h a u:=by
  rcases r with r|⟨o,r⟩
  . exact x a u r
  . obtain⟨_,q⟩:=x a _ r
    exact q
def Mut:Ot HO->Prop
  |some (.lst _)=>True
  |some (.dK _)=>True
  |some (.dT _)=>True
  |some (.set _ _)=>True
  |some (.ins _ _ _)=>True
  |some (.ext _)=>True
  |_=>False
variable{x:Ad}
section
variable{e:Ad}{o':HO}
def HOk.write(ok:HOk P w H h)(mu:Mut (H x))(l:e=x\/H e=aa (.own x))(k:∀ b u,b≠e->h.get? b=aa u->h'.get? b=aa u)(i:∃ u,h'.get? e=aa u)(new:ObjOk P w (upd H x o') h' x o'):HOk P w (upd H x o') h':=λb u q=>by
  have d:∀ c y,H c=aa (.own y)->c≠x:=λc y r z=>by subst z;rw[r]at mu;exact mu
  have f:∀ c xs,H c=aa (.tup xs)->c≠x:=λc xs r z=>by subst z;rw[r]at mu;exact mu
  by_cases g:b=x
  . subst g;rw[upd_same]at q;cases q;exact new
  . rw[upd_ne g]at q
    by_cases a:b=e
    . have j:H b=aa (.own x):=by
        rcases l with z|z
        . exact au (a.trans z) g
        . rw[a];exact z
      rw[q]at j;cases j
      obtain⟨v,m⟩:=i;exact⟨v,by rw[a];exact m⟩
    . refine(ok b u q).stay (λc v hc r=>k c v ?_ r) (λc r=>by rw[upd_ne (d c b r)];exact r) λc xs r=>by rw[upd_ne (f c xs r)];exact r
      rcases hc with rfl|hc
      . exact a
      . rintro rfl
        rcases l with z|z
        . exact d c b hc z
        . rw[hc]at z;cases z;exact g rfl
end
structure Un(fs ex:List Addr)(H H':Hp)(h h':br):Prop where
  keep:∀ b o,h.get? b=aa o->H b=ab->b∉fs->b∉ex->h'.get? b=aa o
  slot:∀ b o,h.get? b=aa o->H b=ab->b∈fs->b∉ex->∃ sl,h'.get? b=aa { o with slots:=sl }
  free:∀ b o,h.get? b=aa o->H b=ab->b∉ex->H' b=ab
  there:∀ b o,h.get? b=aa o->b∉ex->∃ o',h'.get? b=aa o'
  tups:∀ b xs,H b=aa (.tup xs)->H' b=aa (.tup xs)
  frzs:∀ b o u,H b=aa (.frz o u)->H' b=aa (.frz o u)
  tbls:∀ b ps,H b=aa (.tbl ps)->∃ more,H' b=aa (.tbl (ps++more))
section
variable{fs fs' ex ex':Li Ad}{H1 H2:Hp}{h1 h2:br}{e:Ad}{o:HO}
def Un.any(u:Un fs ex H H1 h h1){b:Ad}{a:Obj}(q:h.get? b=aa a)(n:H b=ab)(c:b∉ex):∃ sl,h1.get? b=aa { a with slots:=sl }:=by
  by_cases d:b∈fs
  . exact u.slot b a q n d c
  . exact⟨a.slots,u.keep b a q n d c⟩
def Un.kept(k:∀ b u,h.get? b=aa u->h'.get? b=aa u):Un fs ex H H h h':=
  ⟨λb a q _ _ _=>k b a q,λb a q _ _ _=>⟨a.slots,k b a q⟩,λ_ _ _ n _=>n,λb a q _=>⟨a,k b a q⟩,λ_ _ q=>q,λ_ _ _ q=>q,λ_ c q=>⟨#[],by rw[q];simp⟩⟩
def Un.refl:Un fs ex H H h h:=Un.kept λ_ _ q=>q
def Un.laid(k:∀ b u,h.get? b=aa u->h'.get? b=aa u)(d:h.objs.size<=a)(c:H a=ab):Un fs ex H (upd H a o) h h' where
  keep:=λb u q _ _ _=>k b u q
  slot:=λb u q _ _ _=>⟨u.slots,k b u q⟩
  free:=λb u q n _=>by rw[upd_ne (bG (aW (aJ q) d))];exact n
  there:=λb u q _=>⟨u,k b u q⟩
  tups:=λb xs q=>by rw[upd_ne (ne_of_none q c)];exact q
  frzs:=λb u xs q=>by rw[upd_ne (ne_of_none q c)];exact q
  tbls:=λb e q=>⟨#[],by rw[upd_ne (ne_of_none q c),q];simp⟩
def Un.write(mu:Mut (H x))(i:e=x\/H e=aa (.own x))(k:∀ b u,b≠e->h.get? b=aa u->h'.get? b=aa u)(d:∃ u,h'.get? e=aa u):Un fs ex H (upd H x o) h h':=by
  have f:∀ b,H b=ab->b≠x:=λb n z=>by subst z;rw[n]at mu;exact mu
  have g:∀ b,H b=ab->b≠e:=λb n z=>by
    subst z;rcases i with r|r
    . exact f b n r
    . rw[n]at r;cases r
  have c:∀ b u,H b=aa u->¬Mut (aa u)->b≠x:=λb u q nm z=>by subst z;rw[q]at mu;exact nm mu
  refine⟨λb u q n _ _=>k b u (g b n) q,λb u q n _ _=>⟨u.slots,k b u (g b n) q⟩,λb u q n _=>by rw[upd_ne (f b n)];exact n,λb u q _=>?_,
    λb xs q=>by rw[upd_ne (c b _ q λz=>z)];exact q,λb u xs q=>by rw[upd_ne (c b _ q λz=>z)];exact q,λb j q=>⟨#[],by rw[upd_ne (c b _ q λz=>z),q];simp⟩⟩
  by_cases a:b=e
  . subst a;exact d
  . exact⟨u,k b u a q⟩
end
noncomputable def trk(h:br)(H:Hp):Li Ad:=(aj h.objs.size).filter λa=>(H a).isSome
def hidT(h:br)(H:Hp):br:=W.hideAll h (trk h H)
def hidT_size(h:br)(H:Hp):(hidT h H).objs.size=h.objs.size:=W.hideAll_size _ _
def hidT_get{b:Ad}{o:Obj}(e:h.get? b=aa o)(n:H b=ab):(hidT h H).get? b=aa o:=
  W.hideAll_get _ e λa=>by
    have q:(H b).isSome=ae:=(fJ.mp a).2;rw[n]at q;simp at q
def of_hidT{b:Ad}{o:Obj}(e:(hidT h H).get? b=aa o):h.get? b=aa o/\H b=ab:=by
  have a:h.get? b=aa o:=W.of_hideAll (trk h H) e;refine⟨a,?_⟩;cases q:H b with
  |none=>rfl
  |some x=>
    have c:b∈trk h H:=fJ.mpr ⟨cG.mpr (aJ a),by simp[q]⟩
    have z:(hidT h H).get? b=ab:=W.hideAll_none (trk h H) c;rw[z]at e;cases e
structure Mod(K:Fg)(mg:Str->Option Value)(base:br):Prop where
  kin:K.In base
  glob:base.Ns a9 mg
  blt:∃ mb,base.Ns builtinsNs mb/\∀ x:Str,x ≠ "__name__"->mb x=bo x
  nolimit:base.NoLimit
structure Cx where
  prog:bh
  w:bt
  K:Fg
  mg:Str->Option Value
  base:br
  A:bw
  N:List Str
  s₀:Shared
  H₀:Hp
  env:Env
  outer:List Env
  stack:List Env
  ex:List Addr
  fn:Str->Bool
  calm:Bool
  pn:List (Addr×Obj)
  xe:Value->Shared->Prop
noncomputable def frs(l:Li Env):Li Ad:=l.filterMap (·.frame)
abbrev Cx.fs(X:Cx):Li Ad:=frs X.outer
def Vis(sc:bp)(x:Str):Prop:=sc.names.lookup x=aa .local\/sc.names.lookup x=aa .cell\/sc.names.lookup x=aa .free
def Loc(sc:bp)(x:Str):Prop:=sc.names.lookup x=aa .local\/sc.names.lookup x=aa .cell
def Look(env:Env)(h:br)(m:Str->Ot vL)(x:Str)(u:vL):Prop:=
  (env.kindOf x=aa .local/\m x=aa u)\/((env.kindOf x=aa .cell\/env.kindOf x=aa .free)/\∃ c,env.cells.lookup x=aa c/\h.IsCell c (aa u))
structure Cx.Ok(X:Cx):Prop where
  mod:Mod X.K X.mg X.base
  kind:X.env.scope.kind=.function
  glob:X.env.globals=a9
  blt:X.env.builtins=builtinsNs
  above:X.s₀.heap.objs.size<=X.env.locals
  inj:∀ x y c,X.env.cells.lookup x=aa c->X.env.cells.lookup y=aa c->x=y
  has:∀ x,(X.env.kindOf x=aa .cell\/X.env.kindOf x=aa .free)->∃ c,X.env.cells.lookup x=aa c
  cab:∀ x c,X.fn x=ae->X.env.cells.lookup x=aa c->X.s₀.heap.objs.size<=c
  hd:X.calm=ae->X.A.handled=ab
  frames:X.A.frames=aa X.stack
  stk:X.stack=X.outer\/(X.stack=X.env :: X.outer/\X.env.frame=aa X.env.locals)
  exf:∀ b∈X.ex,b≠X.env.locals/\∀ x c,X.env.cells.lookup x=aa c->c≠b
  bs:∀ b o,X.base.get? b=aa o->X.s₀.heap.get? b=aa o/\X.H₀ b=ab
  bsz:X.base.objs.size<=X.s₀.heap.objs.size
  noex:∀ b o,X.base.get? b=aa o->b∉X.ex
  exfs:∀ b∈X.ex,b∉X.fs
  funs:X.s₀.heap.FunFrames X.base X.outer
  frf:∀ b∈X.fs,X.H₀ b=ab
structure Inv(X:Cx)(pQ:List (Addr×Obj))(O:List (Option V))(H:Hp)(s:Shared):Prop where
  ok:X.Ok
  os:s.os=X.s₀.os
  bare:AllBare s.gens
  base:Un X.fs X.ex X.H₀ H X.s₀.heap s.heap
  loc:∃ m,s.heap.Ns X.env.locals m/\∀ (i:Nat) (x:Str) (v:V),X.N[i]?=aa x->O[i]?=aa (aa v)->Vis X.env.scope x->∃ u,RelV v u/\Look X.env s.heap m x u
  cell:∀ x c,X.env.cells.lookup x=aa c->∃ v,s.heap.IsCell c v
  free:H X.env.locals=ab
  freeC:∀ x c,X.env.cells.lookup x=aa c->H c=ab
  pin:∀ p∈X.pn++pQ,s.heap.get? p.1=aa p.2/\H p.1=ab/\p.1≠X.env.locals/\p.1∉X.fs/\∀ v,p.2.data≠.cell v
  hok:HOk X.prog X.w H s.heap
  len:O.length=X.N.length
variable{g':Array GenState}{t' i:Nat}{d':Drawn}{N:Li Str}
variable{X:Cx}{pQ:Li (Ad×Obj)}{s:Sd}
section
variable{O:Li (Ot V)}
def Cx.Ok.nofr(ok:X.Ok){b:Ad}{o:Obj}(e:X.base.get? b=aa o):b∉X.fs:=λa=>by
  have:=(ok.funs.mem a).1;rw[e]at this;cases this
theorem Inv.bs(I:Inv X pQ O H s):∀ b o,X.base.get? b=aa o->s.heap.get? b=aa o/\H b=ab:=λb o e=>
  ⟨I.base.keep b o (I.ok.bs b o e).1 (I.ok.bs b o e).2 (I.ok.nofr e) (I.ok.noex b o e),I.base.free b o (I.ok.bs b o e).1 (I.ok.bs b o e).2 (I.ok.noex b o e)⟩
def Inv.bk(I:Inv X pQ O H s):∀ b o,X.base.get? b=aa o->s.heap.get? b=aa o:=λb o e=>(I.bs b o e).1
theorem Inv.mod(I:Inv X pQ O H s):Mod X.K X.mg X.base:=I.ok.mod
def Inv.kIn(I:Inv X pQ O H s):X.K.In s.heap:=I.ok.mod.kin.keeps I.bk
theorem Inv.lt(I:Inv X pQ O H s):X.env.locals < s.heap.objs.size:=let ⟨_,hn,_⟩:=I.loc;hn.lt
def Inv.sz(I:Inv X pQ O H s):X.s₀.heap.objs.size<=s.heap.objs.size:=aK I.ok.above (eG I.lt)
def Inv.nofs(I:Inv X pQ O H s){a:Ad}(h:s.heap.objs.size<=a):a∉X.fs:=λc=>by
  obtain⟨_,o,b,_⟩:=I.ok.funs.mem c;exact au (aW (aJ b) (aK I.sz h)) (cM _)
def Inv.cne(I:Inv X pQ O H s):∀ x c,X.env.cells.lookup x=aa c->c≠X.env.locals:=λx c e z=>by
  obtain⟨v,o,d,f⟩:=I.cell x c e;obtain⟨m,⟨g,h,i,a,b,_⟩,_⟩:=I.loc;rw[z,a]at d;cases d;rw[b]at f;cases f
theorem Inv.funs(I:Inv X pQ O H s):s.heap.FunFrames X.base X.outer:=by
  have all:∀ (l:Li Env),(∀ b∈frs l,b∈X.fs)->X.s₀.heap.FunFrames X.base l->s.heap.FunFrames X.base l:=by
    intro l
    induction l with
    |nil=>intro _ _;trivial
    |cons p r g=>
      intro f k;obtain⟨m,⟨L,o,a,j,i,n⟩,h⟩:=k;have d:L∈X.fs:=f L (by unfold frs;rw[fK,a];exact Ls)
      obtain⟨sl,e⟩:=I.base.slot L o i (I.ok.frf L d) d λz=>I.ok.exfs L z d
      exact⟨m,⟨L,_,a,j,e,n⟩,g (λb c=>f b (by unfold frs;rw[fK,a];exact Lm _ c)) h⟩
  exact all X.outer (λ_ c=>c) I.ok.funs
theorem Inv.stack(I:Inv X pQ O H s):s.heap.FunFrames X.base X.stack:=by
  rcases I.ok.stk with e|⟨e,b⟩
  . rw[e];exact I.funs
  . rw[e]
    obtain⟨m,a,_⟩:=I.loc;refine .cons (by rw[I.ok.kind];decide) b a ?_ I.funs
    exact Heap.get?_none_of_le (aK I.ok.bsz I.ok.above)
def Inv.stkSub(I:Inv X pQ O H s):∀ b∈frs X.stack,b∈X.env.locals :: X.fs:=λb a=>by
  rcases I.ok.stk with e|⟨e,c⟩
  . rw[e]at a;exact Lm _ a
  . rw[e]at a
    unfold frs at a;rw[fK,c]at a;exact a
def Inv.stkFree(I:Inv X pQ O H s):∀ b∈frs X.stack,H b=ab:=λb hb=>by
  rcases aL.mp (I.stkSub b hb) with e|hb
  . rw[e];exact I.free
  . obtain⟨_,o,a,_⟩:=I.ok.funs.mem hb
    exact I.base.free b o a (I.ok.frf b hb) λz=>I.ok.exfs b z hb
def Inv.step{ch:Li Ad}(I:Inv X pQ O H s)(g:∀ b∈ch,(b∈X.ex\/X.s₀.heap.objs.size<=b)/\b≠X.env.locals/\(∀ x c,X.env.cells.lookup x=aa c->c≠b)/\∀ p∈X.pn++pQ,p.1≠b)(keep:∀ b o,b≠X.env.locals->b∉X.fs->b∉ch->s.heap.get? b=aa o->H b=ab->h'.get? b=aa o)(slot:∀ b o,b≠X.env.locals->b∈X.fs->b∉ch->s.heap.get? b=aa o->H b=ab->∃ sl,h'.get? b=aa { o with slots:=sl })(free:∀ b o,b∉ch->s.heap.get? b=aa o->H b=ab->H' b=ab)(there:∀ b o,b∉ch->s.heap.get? b=aa o->∃ B,h'.get? b=aa B)(tups:∀ b xs,H b=aa (.tup xs)->H' b=aa (.tup xs))(frzs:∀ b o u,H b=aa (.frz o u)->H' b=aa (.frz o u))(tbls:∀ b E,H b=aa (.tbl E)->∃ more,H' b=aa (.tbl (E++more)))(M:∀ m,s.heap.Ns X.env.locals m->h'.Ns X.env.locals m)(hok:HOk X.prog X.w H' h')(S:AllBare g') :
    Inv X pQ O H' { s with heap:=h',gens:=g',drawn:=d',toks:=t' }:=by
  have C:∀ b o,X.s₀.heap.get? b=aa o->b≠X.env.locals:=λb o e=>bG (aW (aJ e) I.ok.above)
  have j:∀ b o,X.s₀.heap.get? b=aa o->b∉X.ex->b∉ch:=λb o e a y=>by
    rcases (g b y).1 with z|z
    . exact a z
    . exact au (aW (aJ e) z) (cM _)
  have h:∀ x c,X.env.cells.lookup x=aa c->∀ v,s.heap.IsCell c v->h'.IsCell c v:=λx c e v ⟨o,A,G⟩=>by
    have f:c∉ch:=λz=>(g c z).2.2.1 x c e rfl
    by_cases L:c∈X.fs
    . obtain⟨sl,q⟩:=slot c o (I.cne x c e) L f A (I.freeC x c e)
      exact⟨_,q,G⟩
    . exact⟨o,keep c o (I.cne x c e) L f A (I.freeC x c e),G⟩
  refine⟨I.ok,I.os,S,⟨λb o e n y a=>?_,λb o e n y a=>?_,λb o e n a=>?_,λb o e a=>?_,λb xs e=>tups b xs (I.base.tups b xs e),λb o xs e=>frzs b o xs (I.base.frzs b o xs e),λb E e=>?_⟩,?_,λx c e=>?_,?_,λx c e=>?_,λp K=>?_,hok,I.len⟩
  . exact keep b o (C b o e) y (j b o e a) (I.base.keep b o e n y a) (I.base.free b o e n a)
  . obtain⟨sl,t⟩:=I.base.slot b o e n y a
    obtain⟨F,D⟩:=slot b _ (C b o e) y (j b o e a) t (I.base.free b o e n a);exact⟨F,D⟩
  . obtain⟨B,t⟩:=I.base.there b o e a
    exact free b B (j b o e a) t (I.base.free b o e n a)
  . obtain⟨B,t⟩:=I.base.there b o e a
    exact there b B (j b o e a) t
  . obtain⟨P,t⟩:=I.base.tbls b E e
    obtain⟨N,D⟩:=tbls b _ t;exact⟨P++N,by rw[D,Array.append_assoc]⟩
  . obtain⟨m,Q,R⟩:=I.loc
    refine⟨m,M m Q,λi x v t D T=>?_⟩
    obtain⟨u,r,l⟩:=R i x v t D T;refine⟨u,r,?_⟩;rcases l with l|⟨k,c,e,z⟩
    . exact .inl l
    . exact .inr ⟨k,c,e,h x c e _ z⟩
  . obtain⟨v,z⟩:=I.cell x c e
    exact⟨v,h x c e v z⟩
  . obtain⟨m,⟨o,_,_,A,_⟩,_⟩:=I.loc
    exact free _ o (λz=>(g _ z).2.1 rfl) A I.free
  . obtain⟨v,o,A,G⟩:=I.cell x c e
    exact free c o (λz=>(g c z).2.2.1 x c e rfl) A (I.freeC x c e)
  . obtain⟨e,n,ne,J,d⟩:=I.pin p K
    have f:p.1∉ch:=λz=>(g p.1 z).2.2.2 p K rfl
    exact⟨keep p.1 p.2 ne J f e n,free p.1 p.2 f e n,ne,J,d⟩
def Inv.un(I:Inv X pQ O H s)(u:Un X.fs [] H H' s.heap h')(hok:HOk X.prog X.w H' h'):Inv X pQ O H' { s with heap:=h',toks:=t' }:=by
  obtain⟨m,⟨o,p,q,g,r⟩,_⟩:=id I.loc;obtain⟨sl,j⟩:=u.any g I.free (by simp)
  exact I.step (g':=s.gens) (d':=s.drawn) (ch:=[]) (λ_ z=>nomatch z) (λb o _ c _ e n=>u.keep b o e n c (by simp)) (λb o _ c _ e n=>u.slot b o e n c (by simp)) (λb o _ e n=>u.free b o e n (by simp)) (λb o _ e=>u.there b o e (by simp)) u.tups u.frzs u.tbls (λl i=>by
    obtain⟨k,d,f,a,h⟩:=i;rw[g]at a;cases a
    exact⟨_,d,f,j,h⟩) hok I.bare
def Inv.call{ch:Li Ad}(I:Inv X pQ O H s)(u:Un (frs X.stack) ch H H' s.heap h')(hok:HOk X.prog X.w H' h')(q:AllBare g')(f:∀ b∈ch,(b∈X.ex\/X.s₀.heap.objs.size<=b)/\b≠X.env.locals/\(∀ x c,X.env.cells.lookup x=aa c->c≠b)/\∀ p∈X.pn++pQ,p.1≠b) :
    Inv X pQ O H' { s with heap:=h',gens:=g',drawn:=d',toks:=t' }:=by
  obtain⟨m,⟨o,A,B,j,r⟩,_⟩:=id I.loc;obtain⟨sl,g⟩:=u.any j I.free λz=>(f _ z).2.1 rfl
  exact I.step (ch:=ch) f (λb o g t a e n=>u.keep b o e n (λz=>(aL.mp (I.stkSub b z)).elim g t) a) (λb o _ _ a e n=>u.any e n a) (λb o a e n=>u.free b o e n a) (λb o a e=>u.there b o e a) u.tups u.frzs u.tbls (λy l=>by
    obtain⟨v,h,i,d,k⟩:=l;rw[j]at d;cases d
    exact⟨_,h,i,g,k⟩) hok q
def Inv.turned{a:Ad}(I:Inv X pQ O H s)(k:∀ b o,b≠a->s.heap.get? b=aa o->h'.get? b=aa o)(i:H a=ab)(g:a≠X.env.locals)(y:a∈X.ex\/X.s₀.heap.objs.size<=a)(w:∀ x c,X.env.cells.lookup x=aa c->c≠a)(t:∀ p∈X.pn++pQ,p.1≠a):Inv X pQ O H { s with heap:=h',toks:=t' }:=by
  have f:∀ b u,H b=aa u->b≠a:=λb u e z=>by rw[z,i]at e;cases e
  refine I.step (g':=s.gens) (d':=s.drawn) (ch:=[a]) (λb l=>?_) (λb o _ _ d e _=>k b o (λz=>d (by simp[z])) e) (λb o _ _ d e _=>⟨o.slots,k b o (λz=>d (by simp[z])) e⟩) (λ_ _ _ _ n=>n)
    (λb o d e=>⟨o,k b o (λz=>d (by simp[z])) e⟩) (λ_ _ e=>e) (λ_ _ _ e=>e) (λb C e=>⟨#[],by rw[e];simp⟩) (λm j=>?_) (λb u e=>?_) I.bare
  . have e:b=a:=by simpa using l
    subst e;exact⟨y,g,w,t⟩
  . obtain⟨o,A,B,h,r⟩:=j
    exact⟨o,A,B,k _ o (Ne.symm g) h,r⟩
  . refine(I.hok b u e).stay (λc v d q=>k c v ?_ q) (λ_ q=>q) λ_ _ q=>q
    rcases d with z|z
    . rw[z];exact f b u e
    . exact f c _ z
def Inv.tok(I:Inv X pQ O H s)(t:Nat):Inv X pQ O H { s with toks:=t }:=I.un (h':=s.heap) (t':=t) Un.refl I.hok
theorem Inv.kept{t':Nat}(I:Inv X pQ O H s)(k:∀ b u,s.heap.get? b=aa u->h'.get? b=aa u):Inv X pQ O H { s with heap:=h',toks:=t' }:=I.un (Un.kept k) (I.hok.kept k)
theorem Inv.laid{a:Ad}{o:HO}{t':Nat}(I:Inv X pQ O H s)(k:∀ b u,s.heap.get? b=aa u->h'.get? b=aa u)(c:s.heap.objs.size<=a)(new:ObjOk X.prog X.w (upd H a o) h' a o) :
    Inv X pQ O (upd H a o) { s with heap:=h',toks:=t' }:=I.un (Un.laid k c (I.hok.fresh c)) (I.hok.laid k c new)
theorem Inv.write{x e:Ad}{o:HO}{t':Nat}(I:Inv X pQ O H s)(mu:Mut (H x))(c:e=x\/H e=aa (.own x))(k:∀ b u,b≠e->s.heap.get? b=aa u->h'.get? b=aa u)(a:∃ u,h'.get? e=aa u)(new:ObjOk X.prog X.w (upd H x o) h' x o):Inv X pQ O (upd H x o) { s with heap:=h',toks:=t' }:=I.un (Un.write mu c k a) (I.hok.write mu c k a new)
def Inv.pins_of{a:Li (Ad×Obj)}(I:Inv X pQ O H s)(h:∀ p∈a,s.heap.get? p.1=aa p.2/\H p.1=ab/\p.1≠X.env.locals/\p.1∉X.fs/\∀ v,p.2.data≠.cell v):Inv X a O H s:=
  ⟨I.ok,I.os,I.bare,I.base,I.loc,I.cell,I.free,I.freeC,λp b=>(bC.mp b).elim (λz=>I.pin p (eH _ z)) (h p),I.hok,I.len⟩
def nodup_ix(hN:N.Nodup){j:Nat}{x:Str}(a:N[i]?=aa x)(b:N[j]?=aa x):i=j:=by
  obtain⟨f,d⟩:=bL.mp a;obtain⟨e,c⟩:=bL.mp b;exact(List.getElem_inj hN).mp (d.trans c.symm)
def store_ok2{M:Model}{A:bw}{E:vL->Sd->Prop}{x:Str}{v:V}{u:vL}{Q:Unit->Sd->Prop}(I:Inv X pQ O H s)(hN:X.N.Nodup)(P:X.N[i]?=aa x)(t:Loc X.env.scope x)(r:RelV v u)(h:∀ s',Inv X pQ (O.set i (aa v)) H s'->(∃ a,Heap.SameBut a s.heap s'.heap/\(a=X.env.locals\/X.env.cells.lookup x=aa a))->Q () s')(hf:X.fn x=ae\/X.env.scope.names.lookup x=aa .local:=by first|exact .inl rfl|exact .inr rfl|assumption):bf M A (storeName X.env x u) Q E s:=by
  obtain⟨m,hn,hl⟩:=id I.loc;have R:(X.env.scope.kind==.class||(X.env.scope.kind==.module&&X.env.locals != X.env.globals))=af:=by rw[I.ok.kind];rfl
  have D:i < O.length:=by rw[I.len];exact(bL.mp P).1
  have cne:=I.cne;have g:∀ {a:Ad}{h':br},(∃ o,s.heap.get? a=aa o/\H a=ab)->Heap.SameBut a s.heap h'->HOk X.prog X.w H h':=λ{a h'} ha f b ob e=>by
    obtain⟨_,_,B⟩:=ha;refine(I.hok b ob e).stay (λc U hc q=>(f.2 c ?_).trans q) (λ_ q=>q) λ_ _ q=>q
    rintro rfl
    rcases hc with rfl|hc
    . rw[B]at e;cases e
    . rw[B]at hc;cases hc
  rcases t with hk|hk
  . refine wpAny_storeName_local hk hn (λh' hn' f=>?_) R
    obtain⟨oL,_,_,hoL,_⟩:=id hn;refine h _ ⟨I.ok,I.os,I.bare,⟨λb o e n J t=>?_,λb o e n J t=>?_,I.base.free,λb o e t=>?_,I.base.tups,I.base.frzs,I.base.tbls⟩,⟨_,hn',λj y Y l C e3=>?_⟩,λy c e=>?_,I.free,I.freeC,λp hp=>?_,g ⟨oL,hoL,I.free⟩ f,by simpa using I.len⟩ ⟨_,f,.inl rfl⟩
    . exact(f.2 b (bG (aW (aJ e) I.ok.above))).trans (I.base.keep b o e n J t)
    . obtain⟨sl,l⟩:=I.base.slot b o e n J t
      exact⟨sl,(f.2 b (bG (aW (aJ e) I.ok.above))).trans l⟩
    . obtain⟨o',l⟩:=I.base.there b o e t
      exact⟨o',(f.2 b (bG (aW (aJ e) I.ok.above))).trans l⟩
    . by_cases F:j=i
      . subst F
        rw[P]at l;cases l
        rw[bM D]at C;cases C;exact⟨u,r,.inl ⟨hk,by simp⟩⟩
      . rw[bR (Ne.symm F)]at C
        obtain⟨Z,r',q⟩:=hl j y Y l C e3;refine⟨Z,r',?_⟩;rcases q with⟨k,e⟩|⟨k,c,e,z⟩
        . refine .inl ⟨k,?_⟩
          have:y≠x:=λe=>F (nodup_ix hN l (e ▸ P))
          simp[this,e]
        . exact .inr ⟨k,c,e,z.sameBut f (cne y c e)⟩
    . obtain⟨U,z⟩:=I.cell y c e
      exact⟨U,z.sameBut f (cne y c e)⟩
    . obtain⟨e,n,ne,nf,d⟩:=I.pin p hp
      exact⟨(f.2 p.1 ne).trans e,n,ne,nf,d⟩
  . have G:X.fn x=ae:=by
      rcases hf with z|z
      . exact z
      . rw[z]at hk;cases hk
    obtain⟨c,hc⟩:=I.ok.has x (.inl hk);obtain⟨U,z⟩:=I.cell x c hc;refine wpAny_storeName_cell I.ok.kind hk hc z (λh' T f=>?_)
    obtain⟨oc,L,K⟩:=id z;refine h { s with heap:=h' } ⟨I.ok,I.os,I.bare,⟨λb o e n J t=>?_,λb o e n J t=>?_,I.base.free,λb o e t=>?_,I.base.tups,I.base.frzs,I.base.tbls⟩,⟨m,hn.sameBut f (Ne.symm (cne x c hc)),λj y Y l C e3=>?_⟩,λy W e=>?_,I.free,I.freeC,λp hp=>?_,g ⟨oc,L,I.freeC x c hc⟩ f,by simpa using I.len⟩ ⟨c,f,.inr hc⟩
    . exact(f.2 b (bG (aW (aJ e) (I.ok.cab x c G hc)))).trans (I.base.keep b o e n J t)
    . obtain⟨sl,l⟩:=I.base.slot b o e n J t
      exact⟨sl,(f.2 b (bG (aW (aJ e) (I.ok.cab x c G hc)))).trans l⟩
    . obtain⟨o',l⟩:=I.base.there b o e t
      exact⟨o',(f.2 b (bG (aW (aJ e) (I.ok.cab x c G hc)))).trans l⟩
    . by_cases F:j=i
      . subst F
        rw[P]at l;cases l
        rw[bM D]at C;cases C;exact⟨u,r,.inr ⟨.inl hk,c,hc,T⟩⟩
      . rw[bR (Ne.symm F)]at C
        obtain⟨Z,r',q⟩:=hl j y Y l C e3;refine⟨Z,r',?_⟩;rcases q with q|⟨k,W,e,z'⟩
        . exact .inl q
        . refine .inr ⟨k,W,e,z'.sameBut f ?_⟩
          rintro rfl
          exact F (nodup_ix hN l (I.ok.inj _ _ _ e hc ▸ P))
    . by_cases S:W=c
      . subst S;exact⟨_,T⟩
      . obtain⟨w2,z2⟩:=I.cell y W e
        exact⟨w2,z2.sameBut f S⟩
    . obtain⟨e,n,ne,nf,d⟩:=I.pin p hp
      refine⟨(f.2 p.1 ?_).trans e,n,ne,nf,d⟩;intro q;rw[q,L]at e;have q':oc=p.2:=aw e;exact d U (by rw[<-q'];exact K)
def store_ok{M:Model}{A:bw}{E:vL->Sd->Prop}{x:Str}{v:V}{u:vL}{Q:Unit->Sd->Prop}(I:Inv X pQ O H s)(hN:X.N.Nodup)(c:X.N[i]?=aa x)(b:Loc X.env.scope x)(r:RelV v u)(h:∀ a,Inv X pQ (O.set i (aa v)) H a->Q () a)(d:X.fn x=ae\/X.env.scope.names.lookup x=aa .local:=by first|exact .inl rfl|exact .inr rfl|assumption):bf M A (storeName X.env x u) Q E s:=
  store_ok2 I hN c b r (λa e _=>h a e) d
def Inv.call'{s':Sd}{ch:Li Ad}(I:Inv X pQ O H s)(f:s'.os=s.os)(u:Un (frs X.stack) ch H H' s.heap s'.heap)(hok:HOk X.prog X.w H' s'.heap)(g:AllBare s'.gens)(a:∀ b∈ch,(b∈X.ex\/X.s₀.heap.objs.size<=b)/\b≠X.env.locals/\(∀ x c,X.env.cells.lookup x=aa c->c≠b)/\∀ p∈X.pn++pQ,p.1≠b):Inv X pQ O H' s':=by
  obtain⟨h',g',d',t',d⟩:=s';have e:d=s.os:=f;subst e;exact I.call (g':=g') (t':=t') (d':=d') u hok g a
end
abbrev XK:=vL->Ot Ad->Hp->Prop
abbrev St:=Li (Ot V)
abbrev VK:=V->Hp->Prop
abbrev TE:=St->Hp->VK->Prop
abbrev TT:=St->Hp->(Bool->Hp->Prop)->Prop
abbrev TA:=St->Hp->(Li V->Hp->Prop)->Prop
structure Ends where
  nx:St->Hp->Prop
  rt:VK
  bk:St->Hp->Prop:=λ_ _=>False
  ct:St->Hp->Prop:=λ_ _=>False
abbrev TS:=Ends->St->Hp->Prop
def EP(X:Cx)(c:Li (Ad×Obj))(O:St)(Q:VK)(u:vL)(b:Sd):Prop:=∃ v a,Inv X c O a b/\RelV v u/\Q v a
def TP(X:Cx)(d:Li (Ad×Obj))(O:St)(Q:Bool->Hp->Prop)(b:Bool)(c:Sd):Prop:=∃ a,Inv X d O a c/\Q b a
def AP(X:Cx)(d:Li (Ad×Obj))(O:St)(Q:Li V->Hp->Prop)(us:Li vL)(c:Sd):Prop:=∃ a b,Inv X d O b c/\Vals a us/\Q a b
def SP(X:Cx)(d:Li (Ad×Obj))(D:Ends)(f:Flow)(c:Sd):Prop:=
  match f with
  |.next=>∃ b a,Inv X d b a c/\D.nx b a
  |.brk=>∃ b a,Inv X d b a c/\D.bk b a
  |.cont=>∃ b a,Inv X d b a c/\D.ct b a
  |.ret u=>∃ v b a,Inv X d b a c/\RelV v u/\D.rt v a
def PE(X:Cx)(e:az)(t:TE):Prop:=
  ∀ (pQ:Li (Ad×Obj)) (s:Sd) (O:St) (H:Hp) (Q:VK),Inv X pQ O H s->t O H Q->bf (bg X.prog X.w) X.A (eval e X.env) (EP X pQ O Q) X.xe s
def PT(X:Cx)(e:az)(t:TT):Prop:=
  ∀ (pQ:Li (Ad×Obj)) (s:Sd) (O:St) (H:Hp) (Q:Bool->Hp->Prop),Inv X pQ O H s->t O H Q->bf (bg X.prog X.w) X.A (isTrue e X.env (eval e X.env)) (TP X pQ O Q) X.xe s
def PW(X:Cx)(e:az)(t:TT):Prop:=
  ∀ (whole:Sem vL) (pQ:Li (Ad×Obj)) (s:Sd) (O:St) (H:Hp) (Q:Bool->Hp->Prop),Inv X pQ O H s->t O H Q->bf (bg X.prog X.w) X.A (isTrue e X.env whole) (TP X pQ O Q) X.xe s
variable{X:Cx}
def PW.pt{e:az}{t:TT}(h:PW X e t):PT X e t:=h _
def PA(X:Cx)(a:Li az)(t:TA):Prop:=
  ∀ (pos:Pos) (pQ:Li (Ad×Obj)) (s:Sd) (O:St) (H:Hp) (Q:Li V->Hp->Prop),Inv X pQ O H s->t O H Q->bf (bg X.prog X.w) X.A (spliced (backTo pos (bj a X.env))) (AP X pQ O Q) X.xe s
def PS(X:Cx)(a:Stmt)(t:TS):Prop:=
  ∀ (pQ:Li (Ad×Obj)) (s:Sd) (O:St) (H:Hp) (D:Ends),Inv X pQ O H s->t D O H->bf (bg X.prog X.w) X.A (exec a X.env) (SP X pQ D) X.xe s
def PSs(X:Cx)(a:Li Stmt)(t:TS):Prop:=
  ∀ (pQ:Li (Ad×Obj)) (s:Sd) (O:St) (H:Hp) (D:Ends),Inv X pQ O H s->t D O H->bf (bg X.prog X.w) X.A (execs a X.env) (SP X pQ D) X.xe s
variable{M:Model}{A:bw}
def thn{b:Type}{t:Sem b}{Q c:b->Sd->Prop}{E:vL->Sd->Prop}{s:Sd}(h:bf M A t Q E s)(d:∀ a s,Q a s->c a s):bf M A t c E s:=cC h d λ_ _ x=>x
variable{pQ:Li (Ad×Obj)}{s:Sd}{Q:vL->Sd->Prop}
variable{b:az}{ta tb:TE}{pos:Pos}
section
def tVar(i:Nat):TE:=λO H Q=>∃ v,O[i]?=aa (aa v)/\Q v H
def tC(v:V):TE:=λ_ H Q=>Q v H
def pe_var{x:Str}{d:Pos}(hN:X.N[i]?=aa x)(j:Vis X.env.scope x)(hd:(x==("__debug__":Str))=af:=by decide)(f:(x==("__classdict__":Str))=af:=by decide):PE X (.Name x d) (tVar i):=by
  intro pQ s O H Q I h;obtain⟨v,e,h⟩:=h;obtain⟨m,k,o⟩:=I.loc;obtain⟨u,r,l⟩:=o i x v hN e j;have b:EP X pQ O Q u s:=⟨v,H,I,r,h⟩;rcases l with⟨hk,n⟩|⟨hk,c,g,a⟩
  . exact wpAny_Name (wpAny_loadName_local I.ok.kind hk k n b) hd
  . rcases hk with hk|hk
    . exact wpAny_Name (wpAny_loadName_cell I.ok.kind hk g a b) hd
    . exact wpAny_Name (wpAny_loadName_free I.ok.kind hk g a b f) hd
def pe_int{i j pos}:PE X (.Constant (.int i) j pos) (tC (.int i)):=λ_ _ _ H _ I h=>wpAny_Constant_int ⟨.int i,H,I.tok _,⟨_,rfl⟩,h⟩
def pe_bl{b j pos}:PE X (.Constant (.bool b) j pos) (tC (.bl b)):=λ_ _ _ H _ I h=>Constant_bool ⟨.bl b,H,I,rfl,h⟩
def pe_non{j pos}:PE X (.Constant .none j pos) (tC .non):=λ_ _ _ H _ I h=>Constant_none ⟨.non,H,I,rfl,h⟩
def pe_str{x j pos}:PE X (.Constant (.str x) j pos) (tC (.str x)):=λ_ _ _ H _ I h=>Calls.Constant_str ⟨.str x,H,I.tok _,⟨_,rfl⟩,h⟩
def Gl(X:Cx)(x:Str):Prop:=X.env.kindOf x=aa .globalImplicit
def ld_glob{E:vL->Sd->Prop}{O:St}{x:Str}{u:vL}{a:Pos}(I:Inv X pQ O H s)(c:Gl X x)(b:X.mg x=aa u)(h:Q u s)(hd:(x==("__debug__":Str))=af:=by decide):bf (bg X.prog X.w) X.A (eval (.Name x a) X.env) Q E s:=
  Calls.Name_function_global I.ok.kind c (Calls.loadGlobal_global (by rw[I.ok.glob];exact I.mod.glob.keeps I.bk) b h) hd
def ld_blt{E:vL->Sd->Prop}{O:St}{x:Str}{u:vL}{a:Pos}(I:Inv X pQ O H s)(e:Gl X x)(d:X.mg x=ab)(b:bo x=aa u)(h:Q u s)(c:x ≠ "__name__":=by decide)(hd:(x==("__debug__":Str))=af:=by decide):bf (bg X.prog X.w) X.A (eval (.Name x a) X.env) Q E s:=by
  obtain⟨i,g,f⟩:=I.mod.blt;exact Calls.Name_function_global I.ok.kind e (Calls.loadGlobal_builtin (by rw[I.ok.glob];exact I.mod.glob.keeps I.bk) d (by rw[I.ok.blt];exact g.keeps I.bk) ((f x c).trans b) h) hd
def pe_glob{x:Str}{v:V}{u:vL}{a:Pos}(c:Gl X x)(b:X.mg x=aa u)(r:RelV v u)(hd:(x==("__debug__":Str))=af:=by decide):PE X (.Name x a) (tC v):=
  λ_ _ _ H _ I h=>ld_glob I c b ⟨v,H,I,r,h⟩ hd
def pe_bltn{x:Str}{v:V}{u:vL}{a:Pos}(e:Gl X x)(d:X.mg x=ab)(b:bo x=aa u)(r:RelV v u)(c:x ≠ "__name__":=by decide)(hd:(x==("__debug__":Str))=af:=by decide):PE X (.Name x a) (tC v):=
  λ_ _ _ H _ I h=>ld_blt I e d b ⟨v,H,I,r,h⟩ c hd
variable{a:az}
def PC(X:Cx)(e:CmpOp)(a b:az)(t:TE):Prop:=
  ∀ (pQ:Li (Ad×Obj)) (s:Sd) (O:St) (H:Hp) (Q:VK),Inv X pQ O H s->t O H Q->
    bf (bg X.prog X.w) X.A (eval a X.env) (λv d=>bf (bg X.prog X.w) X.A (eval b X.env) (λu c=>bf (bg X.prog X.w) X.A (bu e v u) (EP X pQ O Q) X.xe c) X.xe d) X.xe s
def tB(t:TE):TT:=λO H Q=>t O H λx a=>∃ c,x=.bl c/\Q c a
def pt_val{e:az}{t:TE}(h:PE X e t)(g:∀ a,isTrue e X.env a=(do let v <-a;standAt e.pos;holding [v] (truthy v)):=by intro _;rfl):PT X e (tB t):=by
  intro pQ s O H Q I f;refine isTrue_plain (thn (h pQ s O H _ I f) λv s1 ⟨x,j,i,b,c⟩=>?_) (g _)
  obtain⟨d,rfl,q⟩:=c;cases b;exact wpAny_truthy_bool ⟨j,i,q⟩
variable{tA tB':TT}{rest:Li az}
def tAnd(t u:TT):TT:=λO H Q=>t O H λc a=>if c=ae then u O a Q else Q af a
def tOr(t u:TT):TT:=λO H Q=>t O H λc a=>if c=ae then Q ae a else u O a Q
def tNot(t:TT):TT:=λO H Q=>t O H λc a=>Q (!c) a
def pw_and1(b:PT X a tA):PW X (.BoolOp .And [a] pos) tA:=by
  intro d pQ s O H Q I h;refine isTrue_and (thn (b pQ s O H Q I h) λc s1 e=>?_)
  cases c with
  |true=>exact isTrue_and_nil e
  |false=>exact e
def pw_or1(b:PT X a tA):PW X (.BoolOp .Or [a] pos) tA:=by
  intro d pQ s O H Q I h;refine isTrue_or (thn (b pQ s O H Q I h) λc s1 e=>?_)
  cases c with
  |false=>exact isTrue_or_nil e
  |true=>exact e
def pw_and(j:PT X a tA)(i:PW X (.BoolOp .And (b :: rest) pos) tB'):PW X (.BoolOp .And (a :: b :: rest) pos) (tAnd tA tB'):=by
  intro g pQ s O H Q I h;refine isTrue_and (thn (j pQ s O H _ I h) λc s1 ⟨f,e,d⟩=>?_)
  cases c with
  |true=>exact i g pQ s1 O f Q e d
  |false=>exact⟨f,e,d⟩
def pw_or(j:PT X a tA)(i:PW X (.BoolOp .Or (b :: rest) pos) tB'):PW X (.BoolOp .Or (a :: b :: rest) pos) (tOr tA tB'):=by
  intro g pQ s O H Q I h;refine isTrue_or (thn (j pQ s O H _ I h) λc s1 ⟨f,e,d⟩=>?_)
  cases c with
  |true=>exact⟨f,e,d⟩
  |false=>exact i g pQ s1 O f Q e d
def pt_not(b:PT X a tA):PT X (.UnaryOp .Not a pos) (tNot tA):=by
  intro pQ s O H Q I h;exact isTrue_not (b pQ s O H (λc d=>Q (!c) d) I h)
def tAndV(ta tb:TE):TE:=λO H Q=>ta O H λx a=>∃ c,x=.bl c/\if c=ae then tb O a Q else Q (.bl af) a
def tOrV(ta tb:TE):TE:=λO H Q=>ta O H λx a=>∃ c,x=.bl c/\if c=ae then Q (.bl ae) a else tb O a Q
def tNotV(ta:TE):TE:=λO H Q=>ta O H λx a=>∃ c,x=.bl c/\Q (.bl (!c)) a
def pe_one{op}{t:TE}(h:PE X a t):PE X (.BoolOp op [a] pos) t:=λpQ s O H Q I b=>BoolOp_one (h pQ s O H Q I b)
def pe_and(j:PE X a ta)(i:PE X (.BoolOp .And (b :: rest) pos) tb):PE X (.BoolOp .And (a :: b :: rest) pos) (tAndV ta tb):=by
  intro pQ s O H Q I h;refine BoolOp_and (thn (j pQ s O H _ I h) λv s1 ⟨x,f,e,g,d⟩=>?_)
  obtain⟨c,rfl,d⟩:=d;cases g;refine wpAny_truthy_bool ?_;cases c with
  |true=>exact i pQ s1 O f Q e d
  |false=>exact⟨.bl af,f,e,rfl,d⟩
def pe_or(j:PE X a ta)(i:PE X (.BoolOp .Or (b :: rest) pos) tb):PE X (.BoolOp .Or (a :: b :: rest) pos) (tOrV ta tb):=by
  intro pQ s O H Q I h;refine BoolOp_or (thn (j pQ s O H _ I h) λv s1 ⟨x,f,e,g,d⟩=>?_)
  obtain⟨c,rfl,d⟩:=d;cases g;refine wpAny_truthy_bool ?_;cases c with
  |false=>exact i pQ s1 O f Q e d
  |true=>exact⟨.bl ae,f,e,rfl,d⟩
def pe_not(e:PE X a ta):PE X (.UnaryOp .Not a pos) (tNotV ta):=by
  intro pQ s O H Q I h;refine UnaryOp_ (thn (e pQ s O H _ I h) λv s1 ⟨x,g,f,d,b⟩=>?_)
  obtain⟨c,rfl,b⟩:=b;cases d;exact not_of (wpAny_truthy_bool ⟨.bl (!c),g,f,rfl,b⟩)
def tIf(t:TT)(ta tb:TE):TE:=λO H Q=>t O H λc a=>if c=ae then ta O a Q else tb O a Q
def pe_ifExp{c:az}(i:PT X c tA)(k:PE X a ta)(j:PE X b tb):PE X (.IfExp c a b pos) (tIf tA ta tb):=by
  intro pQ s O H Q I h;refine wpAny_IfExp (thn (i pQ s O H _ I h) λd s1 ⟨g,f,e⟩=>?_)
  cases d with
  |true=>exact k pQ s1 O g Q f e
  |false=>exact j pQ s1 O g Q f e
end
def SqL(K:Fg)(H:Hp)(a:Ad)(xs:Li V):Prop:=
  Rd H a (.lst xs) \/
    ∃ (o:Obj) (its:Array vL) (n:Nat),K.lookup a=aa o/\o.cls=.type "list"/\o.dict=ab/\o.data=.seq its n/\its.size<=ay/\Vals xs its.toList
def SqT(K:Fg)(H:Hp)(a:Ad)(xs:Li V):Prop:=
  Rd H a (.tup xs) \/
    ∃ (o:Obj) (its:Array vL) (n:Nat),K.lookup a=aa o/\o.cls=.type "tuple"/\o.data=.seq its n/\its.size<=ay/\Vals xs its.toList
noncomputable def absV:vL->Ot V
  |.none=>aa .non
  |.bool b=>aa (.bl b)
  |.int i _=>aa (.int i)
  |.str x _=>aa (.str x)
  |.bytes b _=>aa (.byt b)
  |.float b _=>aa (.flt b)
  |.ref a=>aa (.ref a)
  |.type n=>aa (.ty n)
  |_=>ab
def RelV.abs{x:V}{u:vL}(r:RelV x u):absV u=aa x:=by
  cases x with
  |non=>cases r;rfl
  |bl _=>cases r;rfl
  |int _=>obtain⟨t,rfl⟩:=r;rfl
  |str _=>obtain⟨t,rfl⟩:=r;rfl
  |byt _=>obtain⟨t,rfl⟩:=r;rfl
  |flt _=>obtain⟨t,rfl⟩:=r;rfl
  |ref _=>cases r;rfl
  |ty _=>cases r;rfl
theorem RelV.inj{x y:V}{u:vL}(r:RelV x u)(q:RelV y u):x=y:=aw (r.abs.symm.trans q.abs)
theorem Vals.inj:∀ {xs ys:Li V}{us:Li vL},Vals xs us->Vals ys us->xs=ys
  |_,_,_,.nil,.nil=>rfl
  |_,_,_,.cons r t,.cons a t'=>by rw[r.inj a,Vals.inj t t']
variable{K:Fg}
variable{O:St}{xs:Li V}
section
variable{ys:Li V}
def SqT.of(h:H a=aa (.tup xs)):SqT K H a xs:=.inl (.inl h)
def Inv.list(I:Inv X pQ O H s)(h:SqL X.K H a xs):∃ b:Li vL,Vals xs b/\PlainL s.heap a b.toArray/\xs.length<=ay:=by
  rcases h with h|⟨o,b,n,d,g,f,c,i,r⟩
  . obtain⟨z,b,n,r,e⟩:=h.ok I.hok
    exact⟨b,r,⟨_,n,e,rfl,rfl,rfl⟩,z⟩
  . refine⟨b.toList,r,⟨o,n,I.kIn a o d,g,f,by simpa using c⟩,?_⟩
    have e:=r.length;simp only[eT]at e;omega
def Inv.tuple(I:Inv X pQ O H s)(h:SqT X.K H a xs):∃ b:Li vL,Vals xs b/\IsTup s.heap a b.toArray/\xs.length<=ay:=by
  rcases h with h|⟨o,b,n,d,f,c,g,r⟩
  . obtain⟨z,b,r,p⟩:=h.ok I.hok
    exact⟨b,r,p,z⟩
  . refine⟨b.toList,r,⟨o,I.kIn a o d,f,n,by simpa using c⟩,?_⟩
    have e:=r.length;simp only[eT]at e;omega
def Inv.list_inj(I:Inv X pQ O H s)(h:SqL X.K H a xs)(i:SqL X.K H a ys):xs=ys:=by
  obtain⟨c,r,⟨o,n,e,_,_,d⟩,_⟩:=I.list h;obtain⟨b,g,⟨k,l,f,_,_,d'⟩,_⟩:=I.list i;rw[e]at f;cases f
  rw[d]at d'
  injection d' with j _
  have:c=b:=by simpa using av Array.toList j
  subst this;exact r.inj g
def Inv.tuple_inj(I:Inv X pQ O H s)(h:SqT X.K H a xs)(i:SqT X.K H a ys):xs=ys:=by
  obtain⟨c,r,⟨o,e,_,n,d⟩,_⟩:=I.tuple h;obtain⟨b,g,⟨k,f,_,l,d'⟩,_⟩:=I.tuple i;rw[e]at f;cases f
  rw[d]at d'
  injection d' with j _
  have:c=b:=by simpa using av Array.toList j
  subst this;exact r.inj g
end
noncomputable abbrev Cx.wish(X:Cx)(E:vL->Sd->Prop):Cx:={ X with xe:=E }
noncomputable abbrev Cx.nox(X:Cx):Cx:=X.wish λ_ _=>False
theorem Cx.Ok.wish(ok:X.Ok)(E:vL->Sd->Prop):(X.wish E).Ok:=
  ⟨ok.mod,ok.kind,ok.glob,ok.blt,ok.above,ok.inj,ok.has,ok.cab,ok.hd,ok.frames,ok.stk,ok.exf,ok.bs,ok.bsz,ok.noex,ok.exfs,ok.funs,ok.frf⟩
def Cx.Ok.unwish{E:vL->Sd->Prop}(ok:(X.wish E).Ok):X.Ok:=
  ⟨ok.mod,ok.kind,ok.glob,ok.blt,ok.above,ok.inj,ok.has,ok.cab,ok.hd,ok.frames,ok.stk,ok.exf,ok.bs,ok.bsz,ok.noex,ok.exfs,ok.funs,ok.frf⟩
variable{E:vL->Sd->Prop}
theorem Inv.wish(I:Inv X pQ O H s)(E:vL->Sd->Prop):Inv (X.wish E) pQ O H s:=⟨I.ok.wish E,I.os,I.bare,I.base,I.loc,I.cell,I.free,I.freeC,I.pin,I.hok,I.len⟩
theorem Inv.unwish(I:Inv (X.wish E) pQ O H s):Inv X pQ O H s:=⟨I.ok.unwish,I.os,I.bare,I.base,I.loc,I.cell,I.free,I.freeC,I.pin,I.hok,I.len⟩
theorem SP.unwish{D:Ends}{f:Flow}{c:Sd}(h:SP (X.wish E) pQ D f c):SP X pQ D f c:=by
  cases f with
  |next=>obtain⟨a,b,I,q⟩:=h;exact⟨a,b,I.unwish,q⟩
  |brk=>obtain⟨a,b,I,q⟩:=h;exact⟨a,b,I.unwish,q⟩
  |cont=>obtain⟨a,b,I,q⟩:=h;exact⟨a,b,I.unwish,q⟩
  |ret u=>obtain⟨v,a,b,I,r,q⟩:=h;exact⟨v,a,b,I.unwish,r,q⟩
theorem PSs.nox{a:Li Stmt}{t:TS}(h:PSs X.nox a t):PSs X a t:=λpQ s O H D I b=>
  cC (h pQ s O H D (I.wish _) b) (λ_ _ q=>q.unwish) λ_ _ z=>False.elim z
variable{e:az}{te:TE}
section
variable{st:Stmt}{rest:Li Stmt}{t u:TS}
def tNext:TS:=λD O H=>D.nx O H
def tSeq(t u:TS):TS:=λD O H=>t { D with nx:=u D } O H
def pss_nil:PSs X [] tNext:=λ_ _ O H _ I h=>wpAny_execs_nil ⟨O,H,I,h⟩
def pss_cons(b:PS X st t)(a:PSs X rest u):PSs X (st :: rest) (tSeq t u):=by
  intro pQ s O H D I h;refine wpAny_execs_cons (thn (b pQ s O H { D with nx:=u D } I h) λf s1 q=>?_)
  cases f with
  |next=>
    obtain⟨c,e,d,q⟩:=q;exact a pQ s1 c e D d q
  |ret v=>exact q
  |brk=>exact q
  |cont=>exact q
def tBreak:TS:=λD O H=>D.bk O H
def tCont:TS:=λD O H=>D.ct O H
def ps_pass:PS X (.Pass pos) tNext:=λ_ _ O H _ I h=>wpAny_Pass ⟨O,H,I,h⟩
def ps_break:PS X (.Break pos) tBreak:=λ_ _ O H _ I h=>wpAny_Break ⟨O,H,I,h⟩
def ps_continue:PS X (.Continue pos) tCont:=λ_ _ O H _ I h=>wpAny_Continue ⟨O,H,I,h⟩
def Inv.quiet{O:St}(I:Inv X pQ O H s):interactive X.env=af:=by simp[interactive,I.ok.kind]
def tDrop(te:TE):TS:=λD O H=>te O H λ_ a=>D.nx O a
def ps_expr(c:PE X e te)(b:swapsWith e ab pos.line X.env=pure af:=by rfl):PS X (.Expr e pos) (tDrop te):=by
  intro pQ s O H D I h;exact wpAny_Expr_any (thn (c pQ s O H _ I h) λv s1 ⟨x,f,d,g,a⟩=>⟨O,f,d,a⟩) I.quiet b
def tRet(te:TE):TS:=λD O H=>te O H D.rt
def ps_ret(c:PE X e te):PS X (.Return (aa e) pos) (tRet te):=by
  intro pQ s O H D I h;exact wpAny_Return_some (thn (c pQ s O H _ I h) λv s1 ⟨x,f,d,a,b⟩=>⟨x,O,f,d,a,b⟩)
def tIfS(c:TT)(t u:TS):TS:=λD O H=>c O H λb a=>if b=ae then t D O a else u D O a
def ps_if{c:az}{a b:Li Stmt}{e:TT}(j:PT X c e)(l:PSs X a t)(k:PSs X b u):PS X (.If c a b pos) (tIfS e t u):=by
  intro pQ s O H D I h;refine wpAny_If (thn (j pQ s O H _ I h) λd s1 ⟨i,g,f⟩=>?_)
  cases d with
  |true=>exact l pQ s1 O i D g f
  |false=>exact k pQ s1 O i D g f
end
abbrev TG:=V->St->Hp->(St->Hp->Prop)->Prop
abbrev TGs:=Li V->St->Hp->(St->Hp->Prop)->Prop
def PG(X:Cx)(a:az)(t:TG):Prop:=
  ∀ (pQ:Li (Ad×Obj)) (s:Sd) (O:St) (H:Hp) (v:V) (u:vL) (Q:St->Hp->Prop),Inv X pQ O H s->RelV v u->t v O H Q->
    bf (bg X.prog X.w) X.A (assign a X.env u) (λ_ d=>∃ b c,Inv X pQ b c d/\Q b c) X.xe s
def PGs(X:Cx)(c:Li az)(t:TGs):Prop:=
  ∀ (pQ:Li (Ad×Obj)) (s:Sd) (O:St) (H:Hp) (vs:Li V) (us:Li vL) (Q:St->Hp->Prop),Inv X pQ O H s->Vals vs us->t vs O H Q->
    bf (bg X.prog X.w) X.A (assignInOrder ((assignEach c X.env).map (·.2)) us) (λ_ d=>∃ a b,Inv X pQ a b d/\Q a b) X.xe s
abbrev TSet:=V->V->V->Hp->(Hp->Prop)->Prop
def PSet(X:Cx)(t:TSet):Prop:=
  ∀ (pQ:Li (Ad×Obj)) (s:Sd) (O:St) (H:Hp) (o i v:V) (ov iv u:vL) (Q:Hp->Prop),Inv X pQ O H s->RelV o ov->RelV i iv->RelV v u->t o i v H Q->
    bf (bg X.prog X.w) X.A (setItem ov iv u) (λ_ b=>∃ a,Inv X pQ O a b/\Q a) X.xe s
variable{es:Li az}{n:Nat}{tg:az}
def gName(i:Nat):TG:=λv O H Q=>Q (O.set i (aa v)) H
def pg_name{x:Str}(hN:X.N.Nodup)(b:X.N[i]?=aa x)(a:Loc X.env.scope x)(c:X.fn x=ae\/X.env.scope.names.lookup x=aa .local:=by first|exact .inl rfl|exact .inr rfl|assumption):PG X (.Name x pos) (gName i):=by
  intro pQ s O H v u Q I r h;exact wpAny_assign_Name (store_ok I hN b a r (λe d=>⟨_,H,d,h⟩) c)
def gNil:TGs:=λa O H Q=>a=[]/\Q O H
def gCons(t:TG)(u:TGs):TGs:=λa O H Q=>∃ v r,a=v :: r/\t v O H λb c=>u r b c Q
def pgs_nil:PGs X [] gNil:=by
  intro pQ s O H a us Q I r h;obtain⟨e,h⟩:=h;subst e;cases r;exact assignInOrder_nil ⟨O,H,I,h⟩
def pgs_cons{e:az}{t:TG}{u:TGs}(g:PG X e t)(f:PGs X es u)(d:(assignEach (e :: es) X.env).map (·.2)=assign e X.env :: (assignEach es X.env).map (·.2):=by rfl):PGs X (e :: es) (gCons t u):=by
  intro pQ s O H l us Q I r h;obtain⟨v,m,i,h⟩:=h;subst i;cases r with
  |cons r b=>
    rw[d];refine assignInOrder_cons (thn (g pQ s O H _ _ _ I r h) λ_ s1 ⟨a,k,j,c⟩=>?_)
    exact f pQ s1 a k _ _ Q j b c
def gTup(K:Fg)(n:Nat)(t:TGs):TG:=λv O H Q=>∃ a xs,v=.ref a/\SqT K H a xs/\xs.length=n/\t xs O H Q
def pg_tup{k:Nat}{t:TGs}(p:X.calm=ae)(h:PGs X es t)(l:(assignEach es X.env).length=n:=by rfl)(d:(assignEach es X.env).findIdx? (·.1)=ab:=by rfl):PG X (.Tuple es k pos) (gTup X.K n t):=by
  intro pQ s O H v u Q I r c;obtain⟨a,xs,w,j,m,c⟩:=c;subst w;cases r;obtain⟨f,rv,i,y⟩:=I.tuple j;refine assign_Tuple_tuple (I.ok.hd p) i (by simp[l,<-m,rv.length]) d λq g=>?_
  have x:Inv X pQ O H { s with heap:=q }:=I.kept (t':=s.toks) λb o e=>g b o (bG (aJ e)) e
  exact h pQ _ O H xs _ Q x (by simpa using rv) c
def gSub(a b:TE)(t:TSet):TG:=λv O H Q=>a O H λo e=>b O e λi d=>t o i v d λc=>Q O c
def pg_sub{o i:az}{c d:TE}{t:TSet}(n:PE X o c)(p:PE X i d)(m:PSet X t)(q:∀ v,assign (.Subscript o i pos) X.env v=(do
      let a <-holding [v] (eval o X.env)
      let b <-holding [v,a] (eval i X.env)
      standAt pos
      holding [v,a,b] (setItem a b v)
      release [v,a,b] []):=by intro _;rfl):PG X (.Subscript o i pos) (gSub c d t):=by
  intro pQ s O H v u Q I r h;rw[q];refine aA (wpAny_holding (thn (n pQ s O H _ I h) λa s1 ⟨x,D,A,g,l⟩=>?_))
  refine aA (wpAny_holding (thn (p pQ s1 O D _ A l) λb e ⟨y,C,z,f,k⟩=>?_))
  refine aA (wpAny_standAt (aA (wpAny_holding (thn (m pQ e O C x y v a b u _ z g f r k) λ_ E ⟨B,w,j⟩=>?_))))
  exact wpAny_release ⟨O,B,w,j⟩
def tAsg(a:TE)(g:TG):TS:=λD O H=>a O H λx b=>g x O b D.nx
def ps_asg{e:az}{a:TE}{g:TG}(j:PE X e a)(i:PG X tg g)(f:swapsWithSole [tg] e pos.line X.env=pure af:=by rfl)(d:swappedStores [tg] e X.env=pure ab:=by rfl)(k:(assignEach [tg] X.env).map (·.2)=[assign tg X.env]:=by rfl):PS X (.Assign [tg] e pos) (tAsg a g):=by
  intro pQ s O H D I h;refine wpAny_Assign_stores (thn (j pQ s O H _ I h) λv s1 ⟨x,m,l,b,c⟩=>?_) f d
  rw[k];exact thn (i pQ s1 O m x v _ l b c) λ_ n q=>q
def ps_set{x:Str}{e:az}{b:TE}{a:Pos}(hN:X.N.Nodup)(j:X.N[i]?=aa x)(f:Loc X.env.scope x)(l:PE X e b)(g:swapsWith e (aa (.Name x a)) pos.line X.env=pure af:=by rfl)(k:X.fn x=ae\/X.env.scope.names.lookup x=aa .local:=by first|exact .inl rfl|exact .inr rfl|assumption) :
    PS X (.Assign [.Name x a] e pos) (tAsg b (gName i)):=by
  intro pQ s O H D I h;refine wpAny_Assign_Name (thn (l pQ s O H _ I h) λv s1 ⟨y,o,n,c,d⟩=>?_) g
  exact store_ok n hN j f c (λp m=>⟨_,o,m,d⟩) k
variable{body:Li Stmt}
def tWhile(c:TT)(g:TS):TS:=λD O H=>∃ W:Nat->St->Hp->Prop,(∃ m,W m O H)/\∀ m O H,W m O H->
  c O H λb e=>if b=ae then ∃ N:St->Hp->Prop,(∀ d f,N d f->∃ a,a < m/\W a d f)/\g { D with nx:=N,ct:=N,bk:=D.nx } O e else D.nx O e
def ps_while{c:az}{p:TT}{q:TS}(r:PassesOwn (bg X.prog X.w) X.A X.env X.xe)(K:PT X c p)(L:PSs X body q):PS X (.While c body [] pos) (tWhile p q):=by
  intro pQ s O H D I h;obtain⟨W,⟨J,E⟩,turn⟩:=h;refine wpAny_While (codeAny_whileLoop (λn G=>∃ u B,Inv X pQ u B G/\W n u B) ?_ J ⟨O,H,I,E⟩)
  rintro n s1 ⟨d,z,M,C⟩
  refine wpAny_passesOwn r (thn (K pQ s1 d z _ M (turn n d z C)) λb F ⟨y,x,i⟩=>?_)
  cases b with
  |true=>
    obtain⟨N,t,i⟩:=i;rw[aq rfl];refine wpAny_passesOwn r (thn (L pQ F d y _ x i) λf P g=>?_)
    cases f with
    |next=>
      obtain⟨a,e,o,k⟩:=g;obtain⟨l,m,j⟩:=t a e k;exact⟨l,m,a,e,o,j⟩
    |cont=>
      obtain⟨a,e,o,k⟩:=g;obtain⟨l,m,j⟩:=t a e k;exact⟨l,m,a,e,o,j⟩
    |brk=>exact g
    |ret v=>exact g
  |false=>
    rw[ar Bf];exact wpAny_execs_nil ⟨d,y,x,i⟩
structure It where
  go:Nat->Hp->Prop
  yld:Nat->Hp->V->Hp->Prop
  stop:Nat->Hp->Prop
def FpOk(X:Cx)(pQ:Li (Ad×Obj))(H:Hp)(b:Ad):Prop:=
  H b=ab/\b≠X.env.locals/\b∉X.fs/\(b∈X.ex\/X.s₀.heap.objs.size<=b)/\(∀ x c,X.env.cells.lookup x=aa c->c≠b)/\∀ p∈X.pn++pQ,p.1≠b
def Inv.fpOk{O:St}{d:Hp}{b:Ad}(I:Inv X pQ O H s)(a:s.heap.objs.size<=b)(g:d b=ab):FpOk X pQ d b:=by
  refine⟨g,Nat.ne_of_gt (aW I.lt a),I.nofs a,.inr (aK I.sz a),λx c e z=>?_,λp f z=>?_⟩
  . obtain⟨v,q⟩:=I.cell x c e
    exact au (aW q.lt (by rw[z];exact a)) (cM _)
  . exact au (aW (aJ (I.pin p f).1) (by rw[z];exact a)) (cM _)
structure Turn(P:bh)(w:bt)(K:Fg)(tg:az)(J:It)(fp:List Addr)(it:Addr)(tn:Nat->br->Prop):Prop where
  mem:it∈fp
  obj:∀ i h,tn i h->∀ b∈fp,∃ o,h.get? b=aa o/\∀ v,o.data≠.cell v
  keep:∀ i h h',tn i h->(∀ b∈fp,∀ o,h.get? b=aa o->h'.get? b=aa o)->tn i h'
  item:∀ (X:Cx),X.prog=P->X.w=w->X.K=K->X.calm=ae->∀ (i:Nat) (pQ:List (Addr×Obj)) (s:Shared) (O:St) (H:Hp) (E:Value->Shared->Prop),Inv X pQ O H s->(∀ b∈fp,FpOk X pQ H b)->tn i s.heap->J.go i H->
    bf (bg P w) X.A (pyNext (.ref it)) (λr s1=>∃ u,r=aa u /\
      bf (bg P w) X.A (letOwnedTupleGo tg (.ref it) u) (λ_ s2=>∃ x H',Inv X pQ O H' s2/\RelV x u/\J.yld i H x H'/\tn (i+1) s2.heap/\∀ b∈fp,H' b=ab) E s1) E s
  done:∀ (X:Cx),X.prog=P->X.w=w->X.K=K->X.calm=ae->∀ (i:Nat) (pQ:List (Addr×Obj)) (s:Shared) (O:St) (H:Hp) (E:Value->Shared->Prop),Inv X pQ O H s->(∀ b∈fp,FpOk X pQ H b)->tn i s.heap->J.stop i H->
    bf (bg P w) X.A (pyNext (.ref it)) (λr s1=>r=ab/\Inv X pQ O H s1) E s
  self:∀ (A:bw) (i:Nat) (s:Shared) (Q:Value->Shared->Prop) (E:Value->Shared->Prop),tn i s.heap->Q (.ref it) s->bf (bg P w) A (pyIter (.ref it)) Q E s
abbrev TI:=St->Hp->(It->Hp->Prop)->Prop
def PIE(X:Cx)(pQ:Li (Ad×Obj))(O:St)(tg:az)(R:It->Hp->Prop)(a:vL)(c:Sd):Prop:=
  ∃ (it:Ad) (fp:Li Ad) (tn:Nat->br->Prop) (J:It) (H':Hp),a=.ref it/\Inv X pQ O H' c/\Turn X.prog X.w X.K tg J fp it tn/\tn 0 c.heap/\(∀ b∈fp,FpOk X pQ H' b)/\R J H'
def PI(X:Cx)(tg iter:az)(a:TI):Prop:=
  ∀ (pQ:Li (Ad×Obj)) (s:Sd) (O:St) (H:Hp) (R:It->Hp->Prop),Inv X pQ O H s->a O H R->
    bf (bg X.prog X.w) X.A (eval iter X.env) (λv s1=>bf (bg X.prog X.w) X.A (pyIter v) (PIE X pQ O tg R) X.xe s1) X.xe s
def go_of{E:vL->Sd->Prop}{c:Ad}{u:vL}{o:Obj}{n:String}{b:Array vL}{Q:Unit->Sd->Prop}(d:s.heap.get? c=aa o)(f:o.cls=.type n)(hd:o.data=.fields b)(e:["enumerate", "zip", "dict_itemiterator", "dict_reverseitemiterator", "odict_iterator", "itertools.zip_longest", "itertools.pairwise"].contains n=af)(a:Q () s):bf M A (letOwnedTupleGo tg (.ref c) u) Q E s:=by
  unfold letOwnedTupleGo;cases tg<;>first
    |exact aE a
    | (cases u<;>first
        |exact aE a
        | (refine aA (wpAny_load d ?_)
           rw[f,hd];show bf M A (if (["enumerate", "zip", "dict_itemiterator", "dict_reverseitemiterator", "odict_iterator", "itertools.zip_longest", "itertools.pairwise"].contains n&&b[0]?==aa (rawInt _))=ae then _ else _) Q E s
           rw[ar (by intro h;rw[e,Bool.false_and]at h;cases h)]
           exact aE a))
noncomputable def Itl(K:Fg)(a:Ad):It:=
  ⟨λi H=>∃ xs x,SqL K H a xs/\xs[i]?=aa x,λi H x b=>b=H/\∀ xs,SqL K H a xs->xs[i]?=aa x,λi H=>∃ xs,SqL K H a xs/\xs.length<=i⟩
noncomputable def Itt(K:Fg)(a:Ad):It:=
  ⟨λi H=>∃ xs x,SqT K H a xs/\xs[i]?=aa x,λi H x b=>b=H/\∀ xs,SqT K H a xs->xs[i]?=aa x,λi H=>∃ xs,SqT K H a xs/\xs.length<=i⟩
noncomputable def Itr(lo:Int)(n:Nat):It:=⟨λi _=>i < n,λi H x a=>a=H/\x=.int (lo+i),λi _=>n<=i⟩
def turn_list{P:bh}(a g:Ad):Turn P w K tg (Itl K a) [g] g (λi h=>h.IsListIter g a i) where
  mem:=by simp
  obj:=λi h f b j=>by
    have e:b=g:=by simpa using j
    subst e;obtain⟨o,e,c,d⟩:=f;exact⟨o,e,λv z=>by rw[d]at z;cases z⟩
  keep:=λi h q f k=>f.at λo e=>k g (by simp) o e
  item:=by
    intro X B y C M i pQ s O H E I n f A;subst B y C;obtain⟨xs,x,m,t⟩:=A;obtain⟨r,rv,p,Q⟩:=I.list m;obtain⟨u,S,N⟩:=rv.get t;obtain⟨L,J,T,G,F,D⟩:=n g (by simp)
    refine wpAny_pyNext_list_item f p.isList (x:=u) (by simpa using S) λq l sb=>?_
    have V:Inv X pQ O H { s with heap:=q }:=I.turned (t':=s.toks) (λb o j e=>(sb.2 b j).trans e) L J G F D
    obtain⟨o,e,c,d⟩:=id l;exact⟨u,rfl,go_of (s:={ s with heap:=q }) e c d (by decide) ⟨x,H,V,N,⟨rfl,λW R=>by rw[I.list_inj R m];exact t⟩,l,λb j=>(n b j).1⟩⟩
  done:=by
    intro X B y C M i pQ s O H E I n f A;subst B y C;obtain⟨xs,m,t⟩:=A;obtain⟨r,rv,p,Q⟩:=I.list m;obtain⟨L,J,T,G,F,D⟩:=n g (by simp)
    have Y:=rv.length;exact wpAny_pyNext_list_end (I.ok.hd M) f p.isList (by simp;omega) λq U=>⟨rfl,I.turned (t':=s.toks) (λb o j e=>U b o j e) L J G F D⟩
  self:=λ_ _ _ _ _ f h=>wpAny_pyIter_listiter f h
def turn_tuple{P:bh}(a j:Ad):Turn P w K tg (Itt K a) [j] j (λi h=>h.IsTupleIter j a i) where
  mem:=by simp
  obj:=λi h f b l=>by
    have e:b=j:=by simpa using l
    subst e;obtain⟨o,e,c,d⟩:=f;exact⟨o,e,λv z=>by rw[d]at z;cases z⟩
  keep:=λi h r f k=>f.at λo e=>k j (by simp) o e
  item:=by
    intro X B y C M i pQ s O H E I q f A;subst B y C;obtain⟨xs,x,n,t⟩:=A;obtain⟨g,rv,p,Q⟩:=I.tuple n;obtain⟨u,S,N⟩:=rv.get t;obtain⟨L,J,T,G,F,D⟩:=q j (by simp)
    refine wpAny_pyNext_tuple_item f (show s.heap.IsTuple a g.toArray from p) (x:=u) (by simpa using S) λr m sb=>?_
    have V:Inv X pQ O H { s with heap:=r }:=I.turned (t':=s.toks) (λb o l e=>(sb.2 b l).trans e) L J G F D
    obtain⟨o,e,c,d⟩:=id m;exact⟨u,rfl,go_of (s:={ s with heap:=r }) e c d (by decide) ⟨x,H,V,N,⟨rfl,λW R=>by rw[I.tuple_inj R n];exact t⟩,m,λb l=>(q b l).1⟩⟩
  done:=by
    intro X B y C M i pQ s O H E I q f A;subst B y C;obtain⟨xs,n,t⟩:=A;obtain⟨g,rv,p,Q⟩:=I.tuple n;obtain⟨L,J,T,G,F,D⟩:=q j (by simp)
    have Y:=rv.length;exact wpAny_pyNext_tuple_end (I.ok.hd M) f (show s.heap.IsTuple a g.toArray from p) (by simp;omega) λr U=>⟨rfl,I.turned (t':=s.toks) (λb o l e=>U b o l e) L J G F D⟩
  self:=λ_ _ _ _ _ f h=>wpAny_pyIter_tupleiter f h
def turn_range{P:bh}(c:Ad)(lo:Int)(n:Nat):Turn P w K tg (Itr lo n) [c] c (λi h=>IsRangeIter h c (lo+(i:Nat) * 1) ((n:Int) - (i:Nat)) 1) where
  mem:=by simp
  obj:=λi h a b d=>by
    have e:b=c:=by simpa using d
    subst e;exact⟨_,a,λv z=>by
      have D:Data.fields _=Data.cell v:=z;cases D⟩
  keep:=λi h j a k=>k c (by simp) _ a
  item:=by
    intro X q l r p i pQ s O H E I g a m;subst q l r;obtain⟨B,A,J,y,x,u⟩:=g c (by simp)
    have W:=Walks.range (prog:=X.prog) (w:=X.w) (I.ok.hd p) c lo 1 n;refine W.item i s _ _ m a λv j C G f F=>?_
    obtain⟨t,rfl⟩:=G;have M:Inv X pQ O H { s with heap:=j,toks:=C }:=I.turned (λb o d e=>F b o (by simpa using d) e) B A y x u
    refine⟨_,rfl,go_of (s:={ s with heap:=j,toks:=C }) (n := "range_iterator") f rfl rfl (by decide) ⟨.int (lo+i),H,M,⟨t,?_⟩,⟨rfl,rfl⟩,f,λb d=>(g b d).1⟩⟩
    rw[Int.mul_one]
  done:=by
    intro X q l r p i pQ s O H E I g a m;subst q l r;obtain⟨B,A,J,y,x,u⟩:=g c (by simp)
    exact wpAny_pyNext_range_end (I.ok.hd p) a (by have:n<=i:=m;omega) λj L=>⟨rfl,I.turned (t':=s.toks) (λb o d e=>L b o d e) B A y x u⟩
  self:=λ_ _ _ _ _ a h=>wpAny_pyIter_rangeiter a h
variable{l:az}{fp:Li Ad}
variable{tg:az}
def iList(K:Fg)(tl:TE):TI:=λO H R=>tl O H λx b=>∃ a,x=.ref a/\(∃ xs,SqL K b a xs)/\R (Itl K a) b
def iTup(K:Fg)(tl:TE):TI:=λO H R=>tl O H λx b=>∃ a,x=.ref a/\(∃ xs,SqT K b a xs)/\R (Itt K a) b
def pi_list{tl:TE}(j:PE X l tl):PI X tg l (iList X.K tl):=by
  intro pQ s O H R I h;refine thn (j pQ s O H _ I h) λv s1 ⟨x,m,c,d,f⟩=>?_
  obtain⟨a,e,⟨xs,i⟩,q⟩:=f;subst e;cases d;obtain⟨g,rv,p,n⟩:=c.list i;refine wpAny_pyIter_list p.isList ?_;refine⟨s1.heap.objs.size,[s1.heap.objs.size],_,_,m,rfl,c.kept (t':=s1.toks) λb o e=>aT _ e,turn_list a _,⟨_,bT _ rfl,rfl,rfl⟩,λb k=>?_,q⟩
  have e:b=s1.heap.objs.size:=by simpa using k
  subst e;exact c.fpOk (aB _) (c.hok.fresh (aB _))
def pi_tup{tl:TE}(j:PE X l tl):PI X tg l (iTup X.K tl):=by
  intro pQ s O H R I h;refine thn (j pQ s O H _ I h) λv s1 ⟨x,m,c,f,g⟩=>?_
  obtain⟨a,e,⟨xs,i⟩,q⟩:=g;subst e;cases f;obtain⟨d,rv,p,n⟩:=c.tuple i;refine wpAny_pyIter_tuple (show s1.heap.IsTuple a d.toArray from p) ?_;refine⟨s1.heap.objs.size,[s1.heap.objs.size],_,_,m,rfl,c.kept (t':=s1.toks) λb o e=>aT _ e,turn_tuple a _,⟨_,bT _ rfl,rfl,rfl⟩,λb k=>?_,q⟩
  have e:b=s1.heap.objs.size:=by simpa using k
  subst e;exact c.fpOk (aB _) (c.hok.fresh (aB _))
def range_it{O:St}{R:It->Hp->Prop}{E:vL->Sd->Prop}{lo a:Int}{t u v:Tok}{c:Nat}(I:Inv X pQ O H s)(j:-(2 ^ 62)<=lo)(i:lo < 2 ^ 62)(h:-(2 ^ 62)<=a)(g:a < 2 ^ 62)(q:R (Itr lo (a - lo).toNat) H):bf (bg X.prog X.w) X.A (pyIter (.ref s.heap.objs.size)) (PIE X pQ O tg R) E { s with heap:=s.heap.push { cls:=.type "range",data:=.fields #[.int lo t,.int a u,.int 1 v] },toks:=c }:=by
  refine wpAny_pyIter_range (IsRange.new ..) (small_one j i h g) ?_;have d:Inv X pQ O H { s with heap:=s.heap.push { cls:=.type "range",data:=.fields #[.int lo t,.int a u,.int 1 v] },toks:=c }:=I.kept λb o e=>aT _ e
  refine⟨(s.heap.push { cls:=.type "range",data:=.fields #[.int lo t,.int a u,.int 1 v] }).objs.size,[(s.heap.push { cls:=.type "range",data:=.fields #[.int lo t,.int a u,.int 1 v] }).objs.size],_,_,H,rfl,
    d.kept (t':=c) λb o e=>aT _ e,turn_range _ lo (a - lo).toNat,?_,λb f=>?_,q⟩
  . have l:lo+((0:Nat):Int) * 1=lo:=by simp
    have k:(((a - lo).toNat:Nat):Int) - ((0:Nat):Int)=Builtin.Range.rangeSize lo a 1:=by rw[rangeSize_one];split<;>omega
    show IsRangeIter _ _ (lo+((0:Nat):Int) * 1) ((((a - lo).toNat:Nat):Int) - ((0:Nat):Int)) 1;rw[l,k];exact bT _ rfl
  . have e:b=(s.heap.push { cls:=.type "range",data:=.fields #[.int lo t,.int a u,.int 1 v] }).objs.size:=by simpa using f
    subst e;exact d.fpOk (aB _) (d.hok.fresh (aB _))
def iRng1(b:TA):TI:=λO H R=>b O H λa c=>∃ j:Int,a=[.int j]/\-(2 ^ 62)<=j/\j < 2 ^ 62/\R (Itr 0 j.toNat) c
def pi_range1{a:az}{d:TA}{p b:Pos}(m:Gl X "range")(l:X.mg "range"=ab)(n:PA X [a] d)(k:bj [a] X.env=[(af,eval a X.env)]:=by rfl):PI X tg (.Call (.Name "range" p) [a] [] b) (iRng1 d):=by
  intro pQ s O H R I h;refine Call_ (ld_blt I m l boot_range (PyProof.Rows.callWith_type1 (thn (n b pQ s O H _ I h) λus s1 ⟨u,v,o,g,c⟩=>?_) k rfl))
  obtain⟨j,e,c,i,q⟩:=c;subst e;cases g with
  |cons r f=>
    cases f;obtain⟨t,rfl⟩:=r;exact call_range_1 (range_it o (by omega) (by omega) c i (by simpa using q))
def tFor(e:TI)(g:TG)(f:TS):TS:=λD O H=>e O H λJ j=>∃ W:Nat->Nat->St->Hp->Prop,(∃ m,W 0 m O j)/\∀ i m O H,W i m O H->
  (J.stop i H/\D.nx O H)\/(J.go i H/\∃ N:St->Hp->Prop,(∀ d a,N d a->∃ c,c < m/\W (i+1) c d a)/\∀ x a,J.yld i H x a->g x O a λb h=>f { D with nx:=N,ct:=N,bk:=D.nx } b h)
noncomputable def pinsAt(fp:Li Ad)(h:br):Li (Ad×Obj):=fp.filterMap λb=>(h.get? b).map λo=>(b,o)
def mem_pinsAt{b:Ad}{o:Obj}(a:b∈fp)(e:h.get? b=aa o):(b,o)∈pinsAt fp h:=List.mem_filterMap.mpr ⟨b,a,by rw[e];rfl⟩
def of_pinsAt{p:Ad×Obj}(a:p∈pinsAt fp h):p.1∈fp/\h.get? p.1=aa p.2:=by
  obtain⟨b,c,e⟩:=List.mem_filterMap.mp a;cases q:h.get? b with
  |none=>rw[q]at e;cases e
  |some o=>
    rw[q]at e;have d:(b,o)=p:=aw e;subst d;exact⟨c,q⟩
def Inv.pinned{O:St}{fp:Li Ad}(I:Inv X pQ O H s)(h:∀ b∈fp,FpOk X pQ H b)(g:∀ b∈fp,∃ o,s.heap.get? b=aa o/\∀ v,o.data≠.cell v):Inv X (pQ++pinsAt fp s.heap) O H s:=
  I.pins_of λp f=>(bC.mp f).elim (λz=>I.pin p (bU _ z)) λz=>by
    obtain⟨a,e⟩:=of_pinsAt z;obtain⟨k,j,i,_⟩:=h p.1 a;obtain⟨o,c,d⟩:=g p.1 a;rw[e]at c;cases c
    exact⟨e,k,j,i,d⟩
def Inv.unpinned{a:Li (Ad×Obj)}{O:St}(I:Inv X (pQ++a) O H s):Inv X pQ O H s:=I.pins_of λp b=>I.pin p (bU _ (eH _ b))
def ps_for{iter:az}{V:TI}{g:TG}{Z:TS}{Q:Pos}(E:PassesOwn (bg X.prog X.w) X.A X.env X.xe)(hc:X.calm=ae)(hi:PI X tg iter V)(hg:PG X tg g)(k:PSs X body Z)(hs:∀ x,foldedSetIterable iter X.env x=pure x:=by intro _;rfl):PS X (.For tg iter body [] Q) (tFor V g Z):=by
  intro pQ s O H D I h;refine wpAny_For (thn (hi pQ s O H _ I h) λv s1 h1=>thn h1 λitv s2 h2=>?_) hs
  obtain⟨it,fp,Y,J,H2,e,I2,T,M,f2,W,⟨m0,w0⟩,turn⟩:=h2;subst e
  -- what stays ae of the iterator's objects through the loop
  have j:∀ {t:Hp},(∀ b∈fp,t b=ab)->∀ b∈fp,FpOk X pQ t b:=λhn b k=>⟨hn b k,(f2 b k).2⟩
  refine codeAny_forLoop_any (λn s'=>∃ i G t,Inv X pQ G t s'/\Y i s'.heap/\(∀ b∈fp,t b=ab)/\W i n G t) ?_ m0 ⟨0,O,H2,I2,M,λb k=>(f2 b k).1,w0⟩
  rintro n s3 ⟨i,c,K,I3,B,F,w3⟩
  rcases turn i n c K w3 with⟨stop,qn⟩|⟨go,N,hN,step⟩
  . refine wpAny_passesOwn E (thn (T.done X rfl rfl rfl hc i pQ s3 c K X.xe I3 (j F) B stop) λr s4 ⟨R,I4⟩=>?_)
    subst R;exact wpAny_execs_nil ⟨c,K,I4,qn⟩
  . refine wpAny_passesOwn E (thn (T.item X rfl rfl rfl hc i pQ s3 c K X.xe I3 (j F) B go) λr s4 ⟨u,R,h4⟩=>?_)
    subst R;refine wpAny_passesOwn E (thn h4 λ_ s5 ⟨x,H5,I5,r5,y5,z,S⟩=>?_)
    have U:=I5.pinned (j S) (T.obj _ _ z);refine wpAny_passesOwn E (thn (hg _ s5 c H5 x u _ U r5 (step x H5 y5)) λ_ s6 ⟨L,H6,I6,q6⟩=>?_)
    refine wpAny_passesOwn E (thn (k _ s6 L H6 _ I6 q6) λf P y=>?_)
    have l:∀ {a:St}{q:Hp},Inv X (pQ++pinsAt fp s5.heap) a q P->N a q->∃ m,m < n/\∃ i G t,Inv X pQ G t P/\Y i P.heap/\(∀ b∈fp,t b=ab)/\W i m G t:=λ{a q} p C=>by
      obtain⟨m',hm,w7⟩:=hN a q C;refine⟨m',hm,i+1,a,q,p.unpinned,T.keep _ _ _ z λb k o e=>(p.pin (b,o) (bU _ (bU _ (mem_pinsAt k e)))).1,λb k=>?_,w7⟩
      obtain⟨o,e,d⟩:=T.obj _ _ z b k;exact(p.pin (b,o) (bU _ (bU _ (mem_pinsAt k e)))).2.1
    cases f with
    |next=>obtain⟨a,q,p,C⟩:=y;exact l p C
    |cont=>obtain⟨a,q,p,C⟩:=y;exact l p C
    |brk=>obtain⟨a,q,p,y⟩:=y;exact⟨a,q,p.unpinned,y⟩
    |ret v=>obtain⟨x7,a,q,p,r7,y⟩:=y;exact⟨x7,a,q,p.unpinned,r7,y⟩
def for_tup{a:Ad}{g:TG}{k:TS}{D:Ends}{O:St}{H:Hp}(b:Nat->St->Hp->Prop)(t:b 0 O H)(r:∀ i O H,i<=xs.length->b i O H->SqT K H a xs)(o:∀ i x O H,xs[i]?=aa x->b i O H->g x O H λc j=>k { D with nx:=b (i+1),ct:=b (i+1),bk:=D.nx } c j)(hd:∀ O H,b xs.length O H->D.nx O H) :
    ∃ W:Nat->Nat->St->Hp->Prop,(∃ m,W 0 m O H)/\∀ i m O H,W i m O H->
      ((Itt K a).stop i H/\D.nx O H)\/((Itt K a).go i H/\∃ N:St->Hp->Prop,(∀ h d,N h d->∃ l,l < m/\W (i+1) l h d)/\∀ x d,(Itt K a).yld i H x d->g x O d λc j=>k { D with nx:=N,ct:=N,bk:=D.nx } c j):=by
  refine⟨λi m O H=>m=xs.length - i/\i<=xs.length/\b i O H,⟨xs.length,by simp,aS _,t⟩,?_⟩
  rintro i m O H ⟨rfl,s,p⟩
  have q:=r i O H s p;by_cases f:i < xs.length
  . refine .inr ⟨⟨xs,xs[i],q,by simp[f]⟩,b (i+1),λh d n=>⟨xs.length - (i+1),by omega,rfl,f,n⟩,λx d y=>?_⟩
    obtain⟨e,y⟩:=y;subst e;exact o i x O _ (y xs q) p
  . have e:i=xs.length:=by omega
    subst e;exact .inl ⟨⟨xs,q,aB _⟩,hd O H p⟩
def for_range{lo:Int}{g:TG}{j:TS}{D:Ends}{O:St}{H:Hp}(c:Nat->St->Hp->Prop)(q:c 0 O H)(o:∀ i O H,i < n->c i O H->g (.int (lo+i)) O H λa h=>j { D with nx:=c (i+1),ct:=c (i+1),bk:=D.nx } a h)(hd:∀ O H,c n O H->D.nx O H) :
    ∃ W:Nat->Nat->St->Hp->Prop,(∃ m,W 0 m O H)/\∀ i m O H,W i m O H->
      ((Itr lo n).stop i H/\D.nx O H)\/((Itr lo n).go i H/\∃ N:St->Hp->Prop,(∀ f d,N f d->∃ k,k < m/\W (i+1) k f d)/\∀ x d,(Itr lo n).yld i H x d->g x O d λa h=>j { D with nx:=N,ct:=N,bk:=D.nx } a h):=by
  refine⟨λi m O H=>m=n - i/\i<=n/\c i O H,⟨n,by simp,aS _,q⟩,?_⟩
  rintro i m O H ⟨rfl,r,p⟩
  by_cases b:i < n
  . refine .inr ⟨b,c (i+1),λf d l=>⟨n - (i+1),by omega,rfl,b,l⟩,λx d y=>?_⟩
    obtain⟨e,y⟩:=y;subst e y;exact o i O _ b p
  . have e:i=n:=by omega
    subst e;exact .inl ⟨aB _,hd O H p⟩
abbrev R2:=V->V->Hp->VK->Prop
def OpR(X:Cx)(f:vL->vL->Sem vL)(r:R2):Prop:=
  ∀ (pQ:Li (Ad×Obj)) (s:Sd) (O:St) (H:Hp) (x y:V) (v u:vL) (Q:VK),Inv X pQ O H s->RelV x v->RelV y u->r x y H Q->
    bf (bg X.prog X.w) X.A (f v u) (EP X pQ O Q) X.xe s
def UnR(X:Cx)(f:vL->Sem vL)(r:V->Hp->VK->Prop):Prop:=
  ∀ (pQ:Li (Ad×Obj)) (s:Sd) (O:St) (H:Hp) (x:V) (v:vL) (Q:VK),Inv X pQ O H s->RelV x v->r x H Q->
    bf (bg X.prog X.w) X.A (f v) (EP X pQ O Q) X.xe s
def CallR(X:Cx)(f:vL)(r:Li V->Hp->VK->Prop):Prop:=
  ∀ (pQ:Li (Ad×Obj)) (s:Sd) (O:St) (H:Hp) (xs:Li V) (us:Li vL) (Q:VK),Inv X pQ O H s->Vals xs us->r xs H Q->
    bf (bg X.prog X.w) X.A (call f us) (EP X pQ O Q) X.xe s
def tOp(r:R2)(b a:TE):TE:=λO H Q=>b O H λx d=>a O d λy c=>r x y c Q
def tUn(r:V->Hp->VK->Prop)(a:TE):TE:=λO H Q=>a O H λx b=>r x b Q
def rI(C:Int->Int->Prop)(g:Int->Int->V):R2:=λx y H Q=>∃ i j,x=.int i/\y=.int j/\C i j/\Q (g i j) H
def rI0(g:Int->Int->V):R2:=λx y H Q=>∃ i j,x=.int i/\y=.int j/\Q (g i j) H
def rU(g:Int->V):V->Hp->VK->Prop:=λx H Q=>∃ i,x=.int i/\Q (g i) H
variable{c:az}{tc:TE}
section
variable{a:az}
def binT(p:PE X a ta)(o:PE X b tb){O:St}{R:V->V->Hp->Prop}(I:Inv X pQ O H s)(h:ta O H λx i=>tb O i λy c=>R x y c){f:vL->vL->Sem vL}(n:∀ v u g x y c,Inv X pQ O c g->RelV x v->RelV y u->R x y c->bf (bg X.prog X.w) X.A (f v u) Q X.xe g) :
    bf (bg X.prog X.w) X.A (eval a X.env) (λv e=>bf (bg X.prog X.w) X.A (eval b X.env) (λu d=>bf (bg X.prog X.w) X.A (f v u) Q X.xe d) X.xe e) X.xe s:=by
  refine thn (p pQ s O H _ I h) λv s1 ⟨x,i,r,k,m⟩=>?_
  refine thn (o pQ s1 O i _ r m) λu g ⟨y,c,q,j,l⟩=>?_
  exact n v u g x y c q k j l
def pe_op{c:Operator}{r:R2}(g:OpR X (bx c) r)(j:PE X a ta)(i:PE X b tb):PE X (.BinOp a c b pos) (tOp r ta tb):=by
  intro pQ s O H Q I h;exact wpAny_BinOp (binT j i I h λv u d x y l k f e q=>g pQ d O l x y v u Q k f e q)
def pe_un{b:UnaryOp}{r:V->Hp->VK->Prop}(e:UnR X (unaryOp b) r)(f:PE X a ta):PE X (.UnaryOp b a pos) (tUn r ta):=by
  intro pQ s O H Q I h;exact UnaryOp_ (thn (f pQ s O H _ I h) λv s1 ⟨x,i,g,c,d⟩=>e pQ s1 O i x v Q g c d)
def opI{f:vL->vL->Sem vL}{C:Int->Int->Prop}{g:Int->Int->Int}(a:∀ (i j:Int) (t u:Tok) (s:Sd) (Q:vL->Sd->Prop) (E:vL->Sd->Prop),C i j->Q (.int (g i j) s.toks) { s with toks:=s.toks+1 }->bf (bg X.prog X.w) X.A (f (.int i t) (.int j u)) Q E s) :
    OpR X f (rI C λi j=>.int (g i j)):=by
  intro pQ s O H x y v u Q I c b h;obtain⟨i,j,rfl,rfl,d,q⟩:=h;obtain⟨t,rfl⟩:=c;obtain⟨t',rfl⟩:=b;exact a i j t t' s _ _ d ⟨.int (g i j),H,I.tok _,⟨_,rfl⟩,q⟩
def opI0{f:vL->vL->Sem vL}{g:Int->Int->Int}(a:∀ (i j:Int) (t u:Tok) (s:Sd) (Q:vL->Sd->Prop) (E:vL->Sd->Prop),Q (.int (g i j) s.toks) { s with toks:=s.toks+1 }->bf (bg X.prog X.w) X.A (f (.int i t) (.int j u)) Q E s) :
    OpR X f (rI0 λi j=>.int (g i j)):=by
  intro pQ s O H x y v u Q I c b h;obtain⟨i,j,rfl,rfl,q⟩:=h;obtain⟨t,rfl⟩:=c;obtain⟨t',rfl⟩:=b;exact a i j t t' s _ _ ⟨.int (g i j),H,I.tok _,⟨_,rfl⟩,q⟩
def opB0{f:vL->vL->Sem vL}{g:Int->Int->Bool}(a:∀ (i j:Int) (t u:Tok) (s:Sd) (Q:vL->Sd->Prop) (E:vL->Sd->Prop),Q (.bool (g i j)) s->bf (bg X.prog X.w) X.A (f (.int i t) (.int j u)) Q E s) :
    OpR X f (rI0 λi j=>.bl (g i j)):=by
  intro pQ s O H x y v u Q I c b h;obtain⟨i,j,rfl,rfl,q⟩:=h;obtain⟨t,rfl⟩:=c;obtain⟨t',rfl⟩:=b;exact a i j t t' s _ _ ⟨.bl (g i j),H,I,rfl,q⟩
def CDiv(i j:Int):Prop:=0 < j/\j < 1073741824
def CDivN(i j:Int):Prop:=j≠0/\j.natAbs < 1073741824
def CPow(i j:Int):Prop:=0<=j/\j<=1000000/\i.natAbs < 2 ^ 64
def CMul(i j:Int):Prop:=(-(2 ^ 64) < i/\i < 2 ^ 64)\/(-(2 ^ 64) < j/\j < 2 ^ 64)
def CMul.ok{i j:Int}(h:CMul i j):IntMulOk i j:=by
  rcases h with⟨b,a⟩|⟨b,a⟩
  . exact .of_left (intBits_le_64 b a)
  . exact .of_right (intBits_le_64 b a)
def op_add:OpR X (bx .Add) (rI0 λi j=>.int (i+j)):=opI0 λ_ _ _ _ _ _ _ q=>add_int q
def op_sub:OpR X (bx .Sub) (rI0 λi j=>.int (i - j)):=opI0 λ_ _ _ _ _ _ _ q=>sub_int q
def op_mul:OpR X (bx .Mult) (rI CMul λi j=>.int (i * j)):=opI λ_ _ _ _ _ _ _ a q=>mul_int q a.ok
def op_fdiv:OpR X (bx .FloorDiv) (rI CDiv λi j=>.int (i / j)):=opI λi j _ _ _ _ _ a q=>by
  have c:(0:Int) < j:=a.1;have b:j < 1073741824:=a.2;exact floordiv_int (by omega) (by rw[Int.fdiv_eq_ediv_of_nonneg i (by omega)];exact q) (.inl (PyProof.noPylong_small (by omega)))
def op_fdivN:OpR X (bx .FloorDiv) (rI CDivN λi j=>.int (i.fdiv j)):=opI λ_ _ _ _ _ _ _ a q=>floordiv_int a.1 q (.inl (PyProof.noPylong_small a.2))
def op_mod:OpR X (bx .Mod) (rI (λ_ j=>0 < j) λi j=>.int (i % j)):=opI λi j _ _ _ _ _ a q=>by
  have b:(0:Int) < j:=a;exact mod_int' (by omega) (by rw[Int.fmod_eq_emod_of_nonneg i (by omega)];exact q)
def op_modN:OpR X (bx .Mod) (rI (λ_ j=>j≠0) λi j=>.int (i.fmod j)):=opI λ_ _ _ _ _ _ _ a q=>mod_int' a q
def op_shl:OpR X (bx .LShift) (rI CPow λi j=>.int (i * 2 ^ j.toNat)):=opI λ_ _ _ _ _ _ _ a q=>lshift_int_small a.1 a.2.1 a.2.2 q
def op_and:OpR X (bx .BitAnd) (rI0 λi j=>.int (Builtin.bitAnd i j)):=opI0 λ_ _ _ _ _ _ _ q=>and_int q
def op_or:OpR X (bx .BitOr) (rI0 λi j=>.int (Builtin.bitOr i j)):=opI0 λ_ _ _ _ _ _ _ q=>or_int q
def unI{f:vL->Sem vL}{g:Int->Int}(a:∀ (i:Int) (t:Tok) (s:Sd) (Q:vL->Sd->Prop) (E:vL->Sd->Prop),Q (.int (g i) s.toks) { s with toks:=s.toks+1 }->bf (bg X.prog X.w) X.A (f (.int i t)) Q E s) :
    UnR X f (rU λi=>.int (g i)):=by
  intro pQ s O H x v Q I b h;obtain⟨i,rfl,q⟩:=h;obtain⟨t,rfl⟩:=b;exact a i t s _ _ ⟨.int (g i),H,I.tok _,⟨_,rfl⟩,q⟩
def un_neg:UnR X (unaryOp .USub) (rU λi=>.int (-i)):=unI λ_ _ _ _ _ q=>neg_int q
def un_inv:UnR X (unaryOp .Invert) (rU λi=>.int (Builtin.bitNot i)):=unI λ_ _ _ _ _ q=>invert_int q
end
noncomputable def scal:V->V->Bool
  |.non,.non=>ae|.non,.int _=>ae|.int _,.non=>ae|.non,.bl _=>ae|.bl _,.non=>ae|.non,.str _=>ae|.str _,.non=>ae
  |.int _,.int _=>ae|.bl _,.bl _=>ae|.str _,.str _=>ae|.byt _,.byt _=>ae
  |.int _,.str _=>ae|.str _,.int _=>ae|.bl _,.str _=>ae|.str _,.bl _=>ae
  |_,_=>af
def rEq:R2:=λx y H Q=>scal x y=ae/\Q (.bl (ak (x=y))) H
def rNe:R2:=λx y H Q=>scal x y=ae/\Q (.bl (!decide (x=y))) H
def dec_int{i j:Int}:ak (V.int i=V.int j)=(i==j):=by
  rw[cN];simp
def dec_bl{i j:Bool}:ak (V.bl i=V.bl j)=(i==j):=by
  rw[cN];simp
def dec_str{i j:Str}:ak (V.str i=V.str j)=(i==j):=by
  rw[cN];simp
def dec_byt{i j:Array UInt8}:ak (V.byt i=V.byt j)=(i.toList==j.toList):=by
  rw[cN];cases i;cases j;simp
variable{op:CmpOp}
section
variable{a:az}
def fin_bl{O:St}{Q:VK}{k a:Bool}(I:Inv X pQ O H s)(q:Q (.bl k) H)(e:k=a):EP X pQ O Q (.bool a) s:=by
  subst e;exact⟨.bl k,H,I,rfl,q⟩
def op_eq:OpR X (bu .Eq) rEq:=by
  intro pQ s O H x y v u Q I c a h;obtain⟨b,q⟩:=h;cases x with
  |non=>
    cases c;cases y with
    |non=>cases a;exact PySem.EqNone.eq_none_none (fin_bl I q (by simp))
    |bl j=>cases a;exact PySem.EqNone.eq_none_bool (fin_bl I q (by simp))
    |int j=>obtain⟨t',rfl⟩:=a;exact PySem.EqNone.eq_none_int (fin_bl I q (by simp))
    |str j=>obtain⟨t',rfl⟩:=a;exact PySem.EqNone.eq_none_str (fin_bl I q (by simp))
    |_=>exact au (show af=ae from b) Bf
  |bl i=>
    cases c;cases y with
    |non=>cases a;exact PySem.EqNone.eq_bool_none (fin_bl I q (by simp))
    |bl j=>cases a;exact eq_bool (fin_bl I q dec_bl)
    |str j=>obtain⟨t',rfl⟩:=a;exact PySem.EqMixed.eq_bool_str (fin_bl I q (by simp))
    |_=>exact au (show af=ae from b) Bf
  |int i=>
    obtain⟨t,rfl⟩:=c;cases y with
    |non=>cases a;exact PySem.EqNone.eq_int_none (fin_bl I q (by simp))
    |int j=>obtain⟨t',rfl⟩:=a;exact eq_int (fin_bl I q dec_int)
    |str j=>obtain⟨t',rfl⟩:=a;exact PySem.EqMixed.eq_int_str (fin_bl I q (by simp))
    |_=>exact au (show af=ae from b) Bf
  |str i=>
    obtain⟨t,rfl⟩:=c;cases y with
    |non=>cases a;exact PySem.EqNone.eq_str_none (fin_bl I q (by simp))
    |bl j=>cases a;exact PySem.EqMixed.eq_str_bool (fin_bl I q (by simp))
    |int j=>obtain⟨t',rfl⟩:=a;exact PySem.EqMixed.eq_str_int (fin_bl I q (by simp))
    |str j=>obtain⟨t',rfl⟩:=a;exact eq_str (fin_bl I q dec_str)
    |_=>exact au (show af=ae from b) Bf
  |byt i=>
    obtain⟨t,rfl⟩:=c;cases y with
    |byt j=>obtain⟨t',rfl⟩:=a;exact W.eq_bytes (fin_bl I q dec_byt)
    |_=>exact au (show af=ae from b) Bf
  |_=>cases y<;>exact au (show af=ae from b) Bf
def op_ne:OpR X (bu .NotEq) rNe:=by
  intro pQ s O H x y v u Q I c a h;obtain⟨b,q⟩:=h;cases x with
  |non=>
    cases c;cases y with
    |non=>cases a;exact PySem.EqNone.ne_none_none (fin_bl I q (by simp))
    |bl j=>cases a;exact PySem.EqNone.ne_none_bool (fin_bl I q (by simp))
    |int j=>obtain⟨t',rfl⟩:=a;exact PySem.EqNone.ne_none_int (fin_bl I q (by simp))
    |str j=>obtain⟨t',rfl⟩:=a;exact PySem.EqNone.ne_none_str (fin_bl I q (by simp))
    |_=>exact au (show af=ae from b) Bf
  |bl i=>
    cases c;cases y with
    |non=>cases a;exact PySem.EqNone.ne_bool_none (fin_bl I q (by simp))
    |bl j=>cases a;exact ne_bool (fin_bl I q (av not dec_bl))
    |str j=>obtain⟨t',rfl⟩:=a;exact PySem.EqMixed.ne_bool_str (fin_bl I q (by simp))
    |_=>exact au (show af=ae from b) Bf
  |int i=>
    obtain⟨t,rfl⟩:=c;cases y with
    |non=>cases a;exact PySem.EqNone.ne_int_none (fin_bl I q (by simp))
    |int j=>obtain⟨t',rfl⟩:=a;exact ne_int (fin_bl I q (av not dec_int))
    |str j=>obtain⟨t',rfl⟩:=a;exact PySem.EqMixed.ne_int_str (fin_bl I q (by simp))
    |_=>exact au (show af=ae from b) Bf
  |str i=>
    obtain⟨t,rfl⟩:=c;cases y with
    |non=>cases a;exact PySem.EqNone.ne_str_none (fin_bl I q (by simp))
    |bl j=>cases a;exact PySem.EqMixed.ne_str_bool (fin_bl I q (by simp))
    |int j=>obtain⟨t',rfl⟩:=a;exact PySem.EqMixed.ne_str_int (fin_bl I q (by simp))
    |str j=>obtain⟨t',rfl⟩:=a;exact ne_str (fin_bl I q (av not dec_str))
    |_=>exact au (show af=ae from b) Bf
  |byt i=>
    obtain⟨t,rfl⟩:=c;cases y with
    |byt j=>obtain⟨t',rfl⟩:=a;exact W.ne_bytes (fin_bl I q (av not dec_byt))
    |_=>exact au (show af=ae from b) Bf
  |_=>cases y<;>exact au (show af=ae from b) Bf
def op_lt:OpR X (bu .Lt) (rI0 λi j=>.bl (ak (i < j))):=opB0 λ_ _ _ _ _ _ _ q=>lt_int q
def op_le:OpR X (bu .LtE) (rI0 λi j=>.bl (ak (i<=j))):=opB0 λ_ _ _ _ _ _ _ q=>le_int q
def op_gt:OpR X (bu .Gt) (rI0 λi j=>.bl (ak (j < i))):=opB0 λ_ _ _ _ _ _ _ q=>gt_int q
def op_ge:OpR X (bu .GtE) (rI0 λi j=>.bl (ak (j<=i))):=opB0 λ_ _ _ _ _ _ _ q=>ge_int q
def op_in_str:OpR X (bu .In) (λx y H Q=>∃ i j,x=.str i/\y=.str j/\Q (.bl (!(Builtin.Str.occurrences j i 0 j.length 1).isEmpty)) H):=by
  intro pQ s O H x y v u Q I b a h;obtain⟨i,j,rfl,rfl,q⟩:=h;obtain⟨t,rfl⟩:=b;obtain⟨t',rfl⟩:=a;exact in_str (fin_bl I q rfl)
def op_isN:OpR X (bu .Is) (λx y H Q=>y=.non/\Q (.bl (ak (x=.non))) H):=by
  intro pQ s O H x y v u Q I a b h;obtain⟨rfl,q⟩:=h;cases b;refine is_none_gen (fin_bl I q ?_);cases x<;>first
    | (cases a;rfl)
    | (obtain⟨t,rfl⟩:=a;rfl)
def op_notN:OpR X (bu .IsNot) (λx y H Q=>y=.non/\Q (.bl (!decide (x=.non))) H):=by
  intro pQ s O H x y v u Q I a b h;obtain⟨rfl,q⟩:=h;cases b;refine isnot_none_gen (fin_bl I q ?_);cases x<;>first
    | (cases a;rfl)
    | (obtain⟨t,rfl⟩:=a;rfl)
def pe_cmpR{r:R2}(f:OpR X (bu op) r)(j:PE X a ta)(i:PE X b tb)(g:behindInMarks op b=af):PE X (.Compare a [op] [b] pos) (tOp r ta tb):=by
  intro pQ s O H Q I h;exact wpAny_Compare1 (binT j i I h λv u c x y l k e d q=>f pQ c O l x y v u Q k e d q) g
def tTest(t:TE):TT:=λO H Q=>t O H λx a=>∃ k,x=.bl k/\Q k a
def pt_cmpR{r:R2}(n:OpR X (bu op) r)(q:PE X a ta)(p:PE X b tb)(o:behindInMarks op b=af):PT X (.Compare a [op] [b] pos) (tTest (tOp r ta tb)):=by
  intro pQ s O H Q I h;refine wpAny_isTrue_Compare1 (thn (q pQ s O H _ I h) λv s1 ⟨x,D,A,i,m⟩=>thn (p pQ s1 O D _ A m) λu d ⟨y,C,w,g,l⟩=>
    thn (n pQ d O C x y v u _ w i g l) λc E ⟨z,B,t,f,k,e,j⟩=>?_) o
  subst e;cases f;exact wpAny_truthy_bool ⟨B,t,j⟩
def line63:(ay:Nat) < 2 ^ 63:=by rw[sizeLine_eq];decide
def op_add_str:OpR X (bx .Add) (λx y H Q=>∃ i j,x=.str i/\y=.str j/\i.length+j.length<=ay/\Q (.str (i++j)) H):=by
  intro pQ s O H x y v u Q I b a h;obtain⟨i,j,rfl,rfl,c,q⟩:=h;obtain⟨t,rfl⟩:=b;obtain⟨t',rfl⟩:=a;exact add_str (λt' d=>⟨.str (i++j),H,I.tok _,⟨_,rfl⟩,q⟩) c
def vals1{x:V}(r:Vals [x] us):∃ u,us=[u]/\RelV x u:=by
  cases r with
  |cons b a=>cases a;exact⟨_,rfl,b⟩
def LenV(K:Fg)(x:V)(H:Hp)(n:Nat):Prop:=
  match x with
  |.str y=>y.length<=ay/\n=y.length
  |.byt y=>y.size<=ay/\n=y.size
  |.ref p=>(∃ xs,SqL K H p xs/\n=xs.length)\/∃ xs,SqT K H p xs/\n=xs.length
  |_=>False
def call_len:CallR X (.builtin "len") (λxs H Q=>∃ x n,xs=[x]/\LenV X.K x H n/\Q (.int n) H):=by
  intro pQ s O H xs us Q I r h;obtain⟨x,n,rfl,e,q⟩:=h;obtain⟨u,rfl,c⟩:=vals1 r;have m:=line63;have l:ay=16777216:=sizeLine_eq;cases x with
  |str y=>
    obtain⟨t,rfl⟩:=c;obtain⟨k,b⟩:y.length<=ay/\n=y.length:=e;subst b;exact len_str (by omega) ⟨.int _,H,I.tok _,⟨_,rfl⟩,q⟩
  |byt y=>
    obtain⟨t,rfl⟩:=c;obtain⟨k,b⟩:y.size<=ay/\n=y.size:=e;subst b;exact W.len_bytes (by omega) ⟨.int _,H,I.tok _,⟨_,rfl⟩,q⟩
  |ref p=>
    cases c;have b:(∃ xs,SqL X.K H p xs/\n=xs.length)\/∃ xs,SqT X.K H p xs/\n=xs.length:=e;rcases b with⟨xs,i,b⟩|⟨xs,i,b⟩
    . subst b
      obtain⟨g,d,f,j⟩:=I.list i;have a:=d.length;exact Calls.call_len_list f.isList (by simp only[aH];omega) ⟨.int xs.length,H,I.tok _,⟨_,by simp only[aH];rw[a]⟩,q⟩
    . subst b
      obtain⟨g,d,f,j⟩:=I.tuple i;have a:=d.length;exact len_tuple f (by simp only[aH];omega) ⟨.int xs.length,H,I.tok _,⟨_,by simp only[aH];rw[a]⟩,q⟩
  |_=>exact(show False from e).elim
end
structure ObjM(h:br)(x dx C:Addr)(mA:Str->Option Value):Prop where
  obj:h.get? x=aa (W.instObj C dx)
  ns:h.Ns1 dx mA
  ne:dx≠x
variable{mA:Str->Ot vL}
def lookIn_ns{f:Ad}(n:h.Ns1 f mA):∃ d,h.get? f=aa d/\∀ b,W.lookIn b d=aa (mA b):=by
  obtain⟨o,es,p,i,l,k,_,j⟩:=n;refine⟨o,i,λb=>?_⟩
  have e:=j b;unfold nsFind findBy at e;rw[<-Array.find?_toList]at e;unfold W.lookIn;rw[l];dsimp only;split
  . rename_i y q
    rw[q]at e;exact av aa e
  . rename_i q
    rw[q]at e;have a:es.toList.any (·.refKey)=af:=by
      rw[List.any_eq_false];intro y g;obtain⟨z,t,c⟩:=k y (Array.mem_toList_iff.mp g);simp[DictEntry.refKey,c]
    have m:¬es.toList.any (·.refKey)=ae:=by rw[a];exact Bf
    rw[ar m];exact av aa e
def ObjM.look{x c C:Ad}(I:ObjM h x c C mA):∃ b,W.InstAt h x (W.instObj C c) C (aa b)/\∀ a,W.lookIn a b=aa (mA a):=
  let ⟨b,ho,hl⟩:=lookIn_ns I.ns
  ⟨b,⟨I.obj,rfl,rfl,ho⟩,hl⟩
variable{A:bw}{K:Fg}{dx C f:Ad}{mA:Str->Ot vL}
section
variable{prog:bh}{name:Str}{v:vL}
end
def RelO.some_of{v:V}{o:Ot vL}(r:RelO (aa v) o):∃ u,o=aa u/\RelV v u:=by
  cases o with
  |none=>exact(show False from r).elim
  |some u=>exact⟨u,rfl,r⟩
def RelO.none_of{o:Ot vL}(r:RelO ab o):o=ab:=by
  cases o with
  |none=>rfl
  |some u=>exact(show False from r).elim
variable{fs:Li (Str×V)}
section
variable{fs':Li (Str×V)}
def ins_get(hok:HOk P w H h)(e:H a=aa (.ins C dx fs)):∃ mA,ObjM h a dx C mA/\(∀ f,RelO (fs.lookup f) (mA f))/\PySem.Within mA (fs.map (·.1))/\fs.length<=1000/\H dx=aa (.own a):=by
  obtain⟨d,z,ne,b,mA,n,r,q⟩:=(show ObjOk P w H h a (.ins C dx fs) from hok a _ e);exact⟨mA,⟨b,n,ne⟩,r,q,z,d⟩
end
structure Cls(K:Fg)(C:Addr):Prop where
  pg:W.plainGet K C Str.empty=ae
  hd:W.hasDictIn K C=ae
  po:W.plainOver K C=ae
  sa:W.findIn K (.ref C) "__setattr__"=aa (aa (.builtin "object.__setattr__"))
def Cls.get{C:Ad}(c:Cls K C)(f:Str):W.plainGet K C f=ae:=c.pg
structure Con(K:Fg)(C:Addr)(f:Str)(v:V)(u:Value):Prop where
  at_:W.findIn K (.ref C) f=aa (aa u)
  rel:RelV v u
  get:W.specialIn K u "__get__"=aa ab
  cp:W.copiedNames.contains f=af
structure Meth(K:Fg)(C:Addr)(m:Str)(f:Addr):Prop where
  at_:W.findIn K (.ref C) m=aa (aa (.ref f))
  fn:W.isFn K (.ref f)=ae
  kp:W.keepIn K (.ref f)=ae
section
variable{f:Str}{v:V}
def Inv.made(I:Inv X pQ O H s):Inv X pQ O (upd (upd H s.heap.objs.size (.own (s.heap.objs.size+1))) (s.heap.objs.size+1) (.ins C s.heap.objs.size []))
    { s with heap:=(s.heap.push W.emptyDict).push (W.instObj C s.heap.objs.size) }:=by
  have c:(s.heap.push W.emptyDict).get? s.heap.objs.size=aa W.emptyDict:=bT s.heap rfl;have h:((s.heap.push W.emptyDict).push (W.instObj C s.heap.objs.size)).get? (s.heap.objs.size+1)=aa (W.instObj C s.heap.objs.size):=by
    have:=bT (s.heap.push W.emptyDict) (o:=W.instObj C s.heap.objs.size) rfl
    rwa [Heap.size_push]at this
  have g:(s.heap.push W.emptyDict).Ns s.heap.objs.size (λ_=>ab):=⟨W.emptyDict,#[],_,c,rfl,(λe f=>au f (by simp)),λ_=>rfl⟩
  have i:=I.laid (a:=s.heap.objs.size) (o:=.own (s.heap.objs.size+1)) (h':=s.heap.push W.emptyDict) (t':=s.toks) (λb u q=>aT _ q) (aB _) ⟨_,c⟩
  refine i.laid (a:=s.heap.objs.size+1) (o:=.ins C s.heap.objs.size []) (t':=s.toks) (λb u q=>aT _ q) (cU (Heap.size_push _ _)) ?_
  have ne:s.heap.objs.size≠s.heap.objs.size+1:=bG (eI _);refine⟨by rw[upd_ne ne,upd_same],aS _,ne,h,λ_=>ab,(Heap.Ns1.of_empty g).at λo q=>aT _ q,λ_=>True.intro,λy d=>au rfl d⟩
end
variable{o:az}
section
variable{value:az}{f:Str}{pos' tpos:Pos}{tv:TE}
end
variable{Q:vL->Sd->Prop}
section
variable{c:vL}{b:Bool}
inductive TyOf(K:Fg)(H:Hp):V->Value->Prop where
  |non:TyOf K H .non (.type "NoneType")
  |bl (x:Bool):TyOf K H (.bl x) (.type "bool")
  |int (i:Int):TyOf K H (.int i) (.type "int")
  |str (x:Str):TyOf K H (.str x) (.type "str")
  |flt (x:UInt64):TyOf K H (.flt x) (.type "float")
  |lst {a:Addr}{xs:List V} (e:H a=aa (.lst xs)):TyOf K H (.ref a) (.type "list")
  |frz {a:Addr}{o:Obj}{xs:List V} (e:H a=aa (.frz o (.lst xs))):TyOf K H (.ref a) (.type "list")
  |tup {a:Addr}{xs:List V} (e:H a=aa (.tup xs)):TyOf K H (.ref a) (.type "tuple")
  |dK {a:Addr}{kvs:List (Key×V)} (e:H a=aa (.dK kvs)):TyOf K H (.ref a) (.type "dict")
  |dT {a:Addr}{kvs:List (List Key×V)} (e:H a=aa (.dT kvs)):TyOf K H (.ref a) (.type "dict")
  |ins {a C dx:Addr}{fs:List (Str×V)} (e:H a=aa (.ins C dx fs)) (cl:Cls K C) (ha:W.findIn K (.ref C) "__class__"=aa (aa (.builtin "object.__class__")))
      (hn:W.specialIn K (.builtin "object.__class__") "__get__"=aa (aa (.builtin "getset_descriptor.__get__"))) (htk:W.takesIn K (.builtin "object.__class__")=aa ae)
      (hm:W.mroIn K C (.type "object")=aa ae):TyOf K H (.ref a) (.ref C)
def isinst_ok{x:V}{u t:vL}(I:Inv X pQ O H s)(d:RelV x u)(ty:TyOf X.K H x t)(e:W.kitOne X.K t c=aa b)(h:∀ r,Q (.bool b) { s with toks:=r }) :
    bf (bg X.prog X.w) A (call (.builtin "isinstance") [u,c]) Q E s:=by
  cases ty with
  |non=>cases (show u=b6 from d);exact W.kia_one W.kitx_none I.kIn True.intro e (λz=>nomatch z) h
  |bl y=>cases (show u=Value.bool y from d);exact W.kia_one W.kitx_bool I.kIn True.intro e (λz=>nomatch z) h
  |int i=>obtain⟨t,q⟩:=(show ∃ t,u=Value.int i t from d);cases q;exact W.kia_one W.kitx_int I.kIn True.intro e (λz=>nomatch z) h
  |str y=>obtain⟨t,q⟩:=(show ∃ t,u=Value.str y t from d);cases q;exact W.kia_one W.kitx_str I.kIn True.intro e (λz=>nomatch z) h
  |flt y=>obtain⟨t,q⟩:=(show ∃ t,u=Value.float y t from d);cases q;exact W.kia_one W.kitx_float I.kIn True.intro e (λz=>nomatch z) h
  |@lst a xs f=>
    cases (show u=b5 a from d)
    obtain⟨_,_,n,_,g⟩:=(show ObjOk X.prog X.w H s.heap a (.lst xs) from I.hok a _ f);exact W.kia_one W.kitx_list I.kIn ⟨_,g,rfl⟩ e (λz=>nomatch z) h
  |@frz a v xs f=>
    cases (show u=b5 a from d)
    obtain⟨_,_,_,n,_,g⟩:=(show ObjOk X.prog X.w H s.heap a (.frz v (.lst xs)) from I.hok a _ f);exact W.kia_one W.kitx_list I.kIn ⟨_,g,rfl⟩ e (λz=>nomatch z) h
  |@tup a xs f=>
    cases (show u=b5 a from d)
    obtain⟨_,_,_,p⟩:=(show ObjOk X.prog X.w H s.heap a (.tup xs) from I.hok a _ f);obtain⟨o,g,k,_⟩:=p;exact W.kia_one W.kitx_tuple I.kIn ⟨o,g,k⟩ e (λz=>nomatch z) h
  |@dK a j f=>
    cases (show u=b5 a from d)
    obtain⟨_,_,M,_,p⟩:=(show ObjOk X.prog X.w H s.heap a (.dK j) from I.hok a _ f);obtain⟨o,es,G,g,k,_⟩:=p;exact W.kia_one W.kitx_dict I.kIn ⟨o,g,k.1⟩ e (λz=>nomatch z) h
  |@dT a j f=>
    cases (show u=b5 a from d)
    obtain⟨_,_,xs,_,o,es,G,g,k,_⟩:=(show ObjOk X.prog X.w H s.heap a (.dT j) from I.hok a _ f);exact W.kia_one W.kitx_dict I.kIn ⟨o,g,k.1⟩ e (λz=>nomatch z) h
  |@ins a C P fs f m F B l D=>
    cases (show u=b5 a from d)
    obtain⟨mA,L,_⟩:=ins_get I.hok f;obtain⟨N,J,_⟩:=L.look;exact W.kia_one (W.kitx_own (m.get _) m.hd F B l D) I.kIn J e (λz=>nomatch z) h
end
structure Room(k:Nat)(A:bw):Prop where
  hd:A.handled=ab
  dp:A.depth+3 * k+5 < recursionLimit
  un:A.units+16 * k+200 < cLine
variable{k:Nat}
theorem Room.deeper(r:Room (k+1) A)(env:Env):Room k (A.deeper env):=
  ⟨r.hd,by have:=r.dp;show A.depth+1+3 * k+5 < _;omega,by have:=r.un;show A.units+3+16 * k+200 < _;omega⟩
theorem Room.depth(r:Room k A):A.depth < recursionLimit:=by have:=r.dp;omega
theorem Room.units(r:Room k A):A.units+64 < cLine:=by have:=r.un;omega
def tNil:TA:=λ_ H Q=>Q [] H
def tCons(a:TE)(tr:TA):TA:=λO H Q=>a O H λx c=>tr O c λxs b=>Q (x :: xs) b
variable{es:Li az}{t:TA}
def pa_nil:PA X [] tNil:=λ_ _ _ _ H Q I h=>Calls.spliced_nil ⟨[],H,I,.nil,h⟩
def pa_cons(i:PE X e te)(g:PA X es t)(f:bj (e :: es) X.env=(af,eval e X.env) :: bj es X.env:=by rfl):PA X (e :: es) (tCons te t):=by
  intro pos pQ s O H Q I h;rw[f];show bf _ _ (spliced ((af,eval e X.env) :: backTo pos (bj es X.env))) _ _ s;refine Calls.spliced_cons (thn (i pQ s O H _ I h) λu s1 ⟨x,m,k,b,d⟩=>?_)
  exact thn (g pos pQ s1 O m _ k d) λus n ⟨xs,l,j,a,c⟩=>⟨x :: xs,l,j,.cons b a,c⟩
def tTup(t:TA):TE:=λO H Q=>t O H λxs a=>xs.length<=ay/\∀ p,a p=ab->Q (.ref p) (upd a p (.tup xs))
def tLst(t:TA):TE:=λO H Q=>t O H λxs a=>xs.length<=ay/\∀ p,a p=ab->Q (.ref p) (upd a p (.lst xs))
def pe_tup{x1}(h:PA X es t):PE X (.Tuple es x1 pos) (tTup t):=by
  intro pQ s O H Q I d;refine wpAny_Tuple_spliced (thn (h pos pQ s O H _ I d) λus s1 ⟨xs,c,a,r,z,q⟩=>⟨by rw[<-r.length];exact z,?_⟩)
  have f:c s1.heap.objs.size=ab:=a.hok.fresh (aB _);refine⟨.ref s1.heap.objs.size,upd c s1.heap.objs.size (.tup xs),a.laid (t':=s1.toks) (λb u e=>aT _ e) (aB _) ?_,rfl,q _ f⟩
  exact⟨z,us,r,⟨_,bT _ rfl,rfl,_,rfl⟩⟩
def pe_lst(h:PA X es t):PE X (.List es pos) (tLst t):=by
  intro pQ s O H Q I d;refine wpAny_List_spliced (thn (h pos pQ s O H _ I d) λus s1 ⟨xs,c,a,r,z,q⟩=>⟨by rw[<-r.length];exact z,?_⟩)
  have f:c s1.heap.objs.size=ab:=a.hok.fresh (aB _);refine⟨.ref s1.heap.objs.size,upd c s1.heap.objs.size (.lst xs),a.laid (t':=s1.toks) (λb u e=>aT _ e) (aB _) ?_,rfl,q _ f⟩
  exact⟨z,us,0,r,bT _ rfl⟩
abbrev Sp:=Li V->Hp->VK->XK->Prop
abbrev CXT:=Li Env->Hp->Sd->XK->vL->Sd->Prop
structure Env0(P:bh)(w:bt)(K:Fg)(mg:Str->Option Value)(base:br)(A:bw)(outer:List Env)(s:Shared)(H:Hp):Prop where
  frames:A.frames=aa outer
  mod:Mod K mg base
  bs:∀ b o,base.get? b=aa o->s.heap.get? b=aa o/\H b=ab
  bsz:base.objs.size<=s.heap.objs.size
  funs:s.heap.FunFrames base outer
  frf:∀ b∈frs outer,H b=ab
  hok:HOk P w H s.heap
  bare:AllBare s.gens
def CE(outer:Li Env)(P:bh)(w:bt)(H:Hp)(s:Sd)(Q:VK)(u:vL)(a:Sd):Prop:=
  ∃ v b,a.os=s.os/\AllBare a.gens/\Un (frs outer) [] H b s.heap a.heap/\HOk P w b a.heap/\RelV v u/\Q v b
def CR(CX:CXT)(outer:Li Env)(P:bh)(w:bt)(H:Hp)(s:Sd)(Q:VK)(E:XK)(r:Result)(a:Sd):Prop:=
  match r with
  |.ok (.ret u)=>CE outer P w H s Q u a
  |.ok _=>False
  |.error e=>CX outer H s E e a
structure FnOk(P:bh)(w:bt)(K:Fg)(mg:Str->Option Value)(base:br)(CX:CXT)(k:Nat)(f:Addr)(fd:bq)(ps:List Str)(sp:Sp):Prop where
  len:∀ vs H Q E,sp vs H Q E->vs.length=ps.length
  run:∀ (A:bw) (outer:List Env) (s:Shared) (H:Hp) (args:Args) (us:List Value) (vs:List V) (Q:VK) (E:XK),Room k A->Env0 P w K mg base A outer s H->BindsTo s fd args (ps.zip us)->Vals vs us->sp vs H Q E->
    codeAny (bg P w) A (.call (.ref f) args) (CR CX outer P w H s Q E) s
section
variable{s':Sd}
def Inv.env0(I:Inv X pQ O H s):Env0 X.prog X.w X.K X.mg X.base X.A X.stack s H:=
  ⟨I.ok.frames,I.ok.mod,I.bs,aK I.ok.bsz I.sz,I.stack,I.stkFree,I.hok,I.bare⟩
def Inv.after{Q:VK}{u:vL}(I:Inv X pQ O H s)(h:CE X.stack X.prog X.w H s Q u s'):EP X pQ O Q u s':=by
  obtain⟨v,j,f,a,un,e,r,q⟩:=h;obtain⟨i,g,d,t,c⟩:=s';obtain rfl:c=s.os:=f;exact⟨v,j,I.call (h':=i) (g':=g) (d':=d) (t':=t) (ch:=[]) un e a (λb z=>au z (by simp)),r,q⟩
end
def tCall(c:Sp)(a:Li V)(E:XK)(t:TA):TE:=λO H Q=>t O H λb d=>c (b++a) d Q E
def Binds(K:Fg)(fd:bq)(a:Li Str)(b:Li vL):Prop:=
  ∀ (s:Sd) (us:Li vL),K.In s.heap->(us++b).length=a.length->BindsTo s fd ⟨us,[]⟩ (a.zip (us++b))
variable{ps:Li Str}
def Binds.all{fd:bq}(h:∀ us:Li vL,us.length=ps.length->bindArgs fd ⟨us,[]⟩=pure (ps.zip us)):Binds K fd ps []:=λs us _ a=>by
  rw[bD]at a ⊢;exact .of_eq (h us a)
def Passes(CX:CXT)(X:Cx)(E:XK):Prop:=∀ (pQ:Li (Ad×Obj)) (O:St) (H:Hp) (s:Sd) (e:vL) (s':Sd),Inv X pQ O H s->CX X.stack H s E e s'->X.xe e s'
variable{vs:Li V}
variable{CX:CXT}{k:Nat}{fd:bq}{ps:Li Str}{sp:Sp}{m:Str}{p apos:Pos}
section
variable{dvs:Li V}{ds:Li vL}{E:XK}{x:Str}
def run_fn{O:St}{Q:VK}(F:FnOk X.prog X.w X.K X.mg X.base CX k f fd ps sp)(g:Room k X.A)(j:Binds X.K fd ps ds)(hd:Vals dvs ds)(d:Passes CX X E)(I:Inv X pQ O H s)(r:Vals vs us)(h:sp (vs++dvs) H Q E):bf (bg X.prog X.w) X.A (call (.ref f) us) (EP X pQ O Q) X.xe s:=by
  have b:Vals (vs++dvs) (us++ds):=r.append hd;have i:(us++ds).length=ps.length:=by rw[<-b.length];exact F.len _ _ _ _ h
  refine wpAny_call (codeAny_mono (F.run X.A X.stack s H ⟨us,[]⟩ (us++ds) (vs++dvs) Q E g I.env0 (j s us I.kIn i) b h) λr c a=>?_)
  cases r with
  |error e=>exact d pQ O H s e c I a
  |ok l=>
    cases l with
    |ret u=>exact I.after a
    |next=>exact False.elim a
    |brk=>exact False.elim a
    |cont=>exact False.elim a
def pe_call(F:FnOk X.prog X.w X.K X.mg X.base CX k f fd ps sp)(g:Room k X.A)(l:Gl X x)(i:X.mg x=aa (.ref f))(j:W.keepIn X.K (.ref f)=ae)(n:Binds X.K fd ps ds)(hd:Vals dvs ds)(d:Passes CX X E)(o:PA X (e :: es) t)(b:(x==("__debug__":Str))=af:=by decide)(m:bj (e :: es) X.env=(af,eval e X.env) :: bj es X.env:=by rfl)(a:(backTo pos (bj es X.env)).any (·.1)=af:=by rfl) :
    PE X (.Call (.Name x p) (e :: es) [] pos) (tCall sp dvs E t):=by
  intro pQ s O H Q I h;refine wpAny_Call_Name_kw (ld_glob I l i ?_ b);refine W.callWith_K (h₀:=X.base) I.ok.mod.kin j (thn (o pos pQ s O H _ I h) λus s1 ⟨vs,u,c,r,q⟩=>⟨c.kIn,?_⟩) m a
  exact run_fn F g n hd d c r q
def pe_call0(F:FnOk X.prog X.w X.K X.mg X.base CX k f fd ps sp)(c:Room k X.A)(g:Gl X x)(d:X.mg x=aa (.ref f))(e:W.keepIn X.K (.ref f)=ae)(i:Binds X.K fd ps ds)(hd:Vals dvs ds)(b:Passes CX X E)(a:(x==("__debug__":Str))=af:=by decide):PE X (.Call (.Name x p) [] [] pos) (tCall sp dvs E tNil):=by
  intro pQ s O H Q I h;refine wpAny_Call_Name_kw (ld_glob I g d ?_ a);exact W.callWith_K0 I.kIn e (run_fn (us:=[]) F c i hd b I .nil h)
structure Mk(K:Fg)(C f:Addr):Prop where
  makes:W.makesIn K C=ae
  init:W.findIn K (.ref C) "__init__"=aa (aa (.ref f))
  fn:W.isFn K (.ref f)=ae
  kp:W.keepIn K (.ref C)=ae
end
section
variable{ks:Li Str}{E:XK}{x:Str}{kpos:Pos}{kws:Li Keyword}{tk:TA}{nm:Ot Str}
structure KBinds(K:Fg)(fd:bq)(ps ks:List Str)(g:List Value->List Value->List Value)(gV:List V->List V->List V):Prop where
  to:∀ (s:Shared) (us ws:List Value),K.In s.heap->(g us ws).length=ps.length->BindsTo s fd ⟨us,ks.zip ws⟩ (ps.zip (g us ws))
  rel:∀ {vs:List V}{us:List Value}{zs:List V}{ws:List Value},Vals vs us->Vals zs ws->Vals (gV vs zs) (g us ws)
variable{g:Li vL->Li vL->Li vL}{gV:Li V->Li V->Li V}
end
structure FnScope(N P:List Str)(sc:bp):Prop where
  kind:sc.kind=.function
  co:sc.isCoroutine=af
  gen:sc.isGenerator=af
  nd:N.Nodup
  pre:N.take P.length=P
  par:∀ x∈P,sc.names.lookup x=aa .local\/sc.names.lookup x=aa .cell
  nofree:∀ y∈sc.names,y.2≠.free
theorem bindL_out{a:Str->Ot NameKind}{x:Str}:∀ {binds:Li (Str×vL)}{m:Str->Ot vL},(∀ v,(x,v)∉binds)->bindL a binds m x=m x
  |[],_,_=>rfl
  | (n,v) :: r,m,h=>by
    unfold bindL;rw[bindL_out λw b=>h w (Lm _ b)]
    split
    . have:x≠n:=by rintro rfl;exact h v Ls
      simp[this]
    . rfl
theorem bindC_out{a:Str->Ot NameKind}{x:Str}:∀ {binds:Li (Str×vL)}{m:Str->Ot vL},(∀ v,(x,v)∉binds)->bindC a binds m x=m x
  |[],_,_=>rfl
  | (n,v) :: r,m,h=>by
    unfold bindC;rw[bindC_out λw b=>h w (Lm _ b)]
    split
    . rfl
    . have:x≠n:=by rintro rfl;exact h v Ls
      simp[this]
theorem bindL_get{a:Str->Ot NameKind}{x:Str}{v:vL}:∀ {P:Li Str}{vs:Li vL}{i:Nat}{m:Str->Ot vL},P.Nodup->P[i]?=aa x->vs[i]?=aa v->a x=aa .local->
    bindL a (P.zip vs) m x=aa v
  |[],_,_,_,_,h,_,_=>by simp at h
  |_ :: _,[],_,_,_,_,h,_=>by simp at h
  |p :: P,w :: vs,0,m,d,c,b,e=>by
    simp at c b;subst c;subst b;show bindL a ((p,w) :: P.zip vs) m p=_;unfold bindL;rw[bindL_out λv f=>(cA.mp d).1 (fL f).1,aq e]
    simp
  |p :: P,w :: vs,i+1,m,d,c,b,e=>by
    show bindL a ((p,w) :: P.zip vs) m x=_;unfold bindL;exact bindL_get (i:=i) (cA.mp d).2 (by simpa using c) (by simpa using b) e
theorem bindC_get{a:Str->Ot NameKind}{x:Str}{v:vL}:∀ {P:Li Str}{vs:Li vL}{i:Nat}{m:Str->Ot vL},P.Nodup->P[i]?=aa x->vs[i]?=aa v->a x≠aa .local->
    bindC a (P.zip vs) m x=aa v
  |[],_,_,_,_,h,_,_=>by simp at h
  |_ :: _,[],_,_,_,_,h,_=>by simp at h
  |p :: P,w :: vs,0,m,d,c,b,e=>by
    simp at c b;subst c;subst b;show bindC a ((p,w) :: P.zip vs) m p=_;unfold bindC;rw[bindC_out λv f=>(cA.mp d).1 (fL f).1,ar e]
    simp
  |p :: P,w :: vs,i+1,m,d,c,b,e=>by
    show bindC a ((p,w) :: P.zip vs) m x=_;unfold bindC;exact bindC_get (i:=i) (cA.mp d).2 (by simpa using c) (by simpa using b) e
noncomputable def start(N:Li Str)(vs:Li V):St:=vs.map aa++ag (N.length - vs.length) ab
noncomputable def cxOf(CX:CXT)(P:bh)(w:bt)(K:Fg)(mg:Str->Ot vL)(base:br)(N:Li Str)(a:Str)(scope:bp)(f:Ad)(c:vL)(A:bw)(outer:Li Env)(s:Sd)(H:Hp)(E:XK):Cx where
  prog:=P
  w:=w
  K:=K
  mg:=mg
  base:=base
  A:=A.deeper (envOfC a scope s.heap.objs.size f c)
  N:=N
  s₀:=s
  H₀:=H
  env:=envOfC a scope s.heap.objs.size f c
  outer:=outer
  stack:=envOfC a scope s.heap.objs.size f c :: outer
  ex:=[]
  calm:=ae
  fn:=λ_=>ae
  pn:=[]
  xe:=λe d=>bf (bg P w) (A.deeper (envOfC a scope s.heap.objs.size f c)) (leaving (envOfC a scope s.heap.objs.size f c) e) (λ_ b=>CX outer H s E e b) (λg b=>CX outer H s E g b) d
def cell_has{sc:bp}{x:Str}(h:sc.names.lookup x=aa .cell):∃ c,(cellsFrom n sc.names []).lookup x=aa c:=by
  have q:=W.cellsFrom_some sc.names n [] (.inl h);exact gJ.mp q
variable{mg:Str->Ot vL}{base:br}
def inv_start{CX:CXT}{P:bh}{d:Str}{scope:bp}{f:Ad}{C:vL}{outer:Li Env}{s1:Sd}{E:XK}(S:FnScope N ps scope)(hd:A.handled=ab)(j:Env0 P w K mg base A outer s H)(L:vs.length=ps.length)(r:Vals vs us)(x:InCallC s s.heap.objs.size (bindL (envOfC d scope s.heap.objs.size f C).kindOf (ps.zip us) λ_=>ab) (cellsFrom (s.heap.objs.size+1) scope.names []) (bindC (envOfC d scope s.heap.objs.size f C).kindOf (ps.zip us) λ_=>ab) s1) :
    Inv (cxOf CX P w K mg base N d scope f C A outer s H E) [] (start N vs) H s1:=by
  have G:ps.length<=N.length:=by have:=av List.length S.pre;rw[aU]at this;omega
  obtain⟨B,J,rfl,F⟩:=x.done;have l:∀ b:Ad,b∉(cxOf CX P w K mg base N d scope f C A outer s H E).ex:=λb z=>au (show b∈([]:Li Ad) from z) (by simp)
  refine⟨⟨j.mod,S.kind,rfl,rfl,aB _,λy z c B g=>?_,λy hy=>?_,λy c _ h=>?_,λ_=>hd,Around.frames_deeper j.frames,.inr ⟨rfl,rfl⟩,λb z=>au z (l b),j.bs,j.bsz,λb _ _=>l b,λb z=>au z (l b),j.funs,j.frf⟩,
    rfl,j.bare,Un.kept F,⟨_,x.toInCall.ns,λi y v B g M=>?_⟩,λy c h=>⟨_,x.cell y c h⟩,j.hok.fresh (aB _),λy c h=>?_,λp o=>au (show p∈([]:Li (Ad×Obj)) from o) (by simp),j.hok.kept F,?_⟩
  . exact name_of_addr x.apart (PySem.mem_of_lookup B) (PySem.mem_of_lookup g)
  . have hy:scope.names.lookup y=aa .cell\/scope.names.lookup y=aa .free:=hy
    rcases hy with hy|hy
    . exact cell_has hy
    . exact au rfl (S.nofree _ (PySem.mem_of_lookup hy))
  . exact eG (x.above y c (PySem.mem_of_lookup h))
  . have t:i < vs.length:=by
      unfold start at g;by_cases t:i < vs.length
      . exact t
      . rw[bE (by simpa using t)]at g
        rw[gK]at g;split at g<;>cases g
    have I:vs[i]?=aa v:=by
      unfold start at g;rw[bS (by simpa using t),aV]at g
      cases e:vs[i]? with
      |none=>rw[e]at g;cases g
      |some a=>rw[e]at g;cases g;rfl
    obtain⟨u,D,rv⟩:=r.get I;have o:ps[i]?=aa y:=by
      rw[<-S.pre,List.getElem?_take_of_lt (by omega)];exact B
    have m:ps.Nodup:=by rw[<-S.pre];exact S.nd.sublist (List.take_sublist _ _)
    refine⟨u,rv,?_⟩;rcases S.par y (aX o) with k|k
    . exact .inl ⟨k,bindL_get m o D k⟩
    . obtain⟨c,e⟩:=cell_has (n:=s.heap.objs.size+1) k
      refine .inr ⟨.inl k,c,e,?_⟩;have q:=x.cell y c e;rw[bindC_get m o D (by show scope.names.lookup y≠_;rw[k];decide)]at q
      exact q
  . exact j.hok.fresh (eG (x.above y c (PySem.mem_of_lookup h)))
  . unfold start
    show _=N.length;rw[aG,aD,fM];omega
def fn_of{CX:CXT}{P:bh}{f:Ad}{g a:Str}{d:Arguments}{body:Li Stmt}{scope:bp}{T kV B R c ct oc:vL}{X Z:Ot Ad}{G:Array (Ot vL)}{D:Sp}(lk:K.lookup f=aa ⟨oc,Z,.func (W.fnOf g a d body scope T kV B R X c ct),G⟩)(O:W.codeIn K c a=ae)(S:FnScope N ps scope)(len:∀ vs H Q E,D vs H Q E->vs.length=ps.length)(j:∀ (A:bw) (outer:Li Env) (s:Sd) (H:Hp) (vs:Li V) (Q:VK) (E:XK),Room k (A.deeper (envOfC a scope s.heap.objs.size f c))->D vs H Q E->
      ∃ t,PSs (cxOf CX P w K mg base N a scope f c A outer s H E) body t/\t { nx:=λ_ h=>Q .non h,rt:=Q } (start N vs) H) :
    FnOk P w K mg base CX (k+1) f (W.fnOf g a d body scope T kV B R X c ct) ps D:=by
  refine⟨len,λA outer s H U us vs Q E M z hb r m=>?_⟩
  have hl:=len _ _ _ _ m;have Y:K.In s.heap:=z.mod.kin.keeps λb o e=>(z.bs b o e).1
  have L:s.heap.NoLimit:=z.mod.nolimit.keeps λb o e=>(z.bs b o e).1
  have i:∀ y∈ps.zip us,scope.names.lookup y.1=aa .local\/(scope.names.lookup y.1=aa .cell/\((cellsFrom (s.heap.objs.size+1) scope.names []).lookup y.1).isSome=ae):=λ⟨n,v⟩ hy=>by
    rcases S.par n (fL hy).1 with q|q
    . exact .inl q
    . exact .inr ⟨q,W.cellsFrom_some _ _ _ (.inl q)⟩
  refine codeAny_call_function M.depth (Y _ _ lk) rfl S.co S.gen rfl (W.codeRec_of Y O) (hb _ _ _ _ ?_);refine wpAny_newFunctionEnv_cells S.kind i λenv he s1 x=>?_
  subst he;refine⟨L.keeps x.toInCall.keep,codeAny_func ?_⟩;obtain⟨t,ht,hq⟩:=j A outer s H vs Q E (M.deeper _) m;have I:Inv (cxOf CX P w K mg base N a scope f c A outer s H E) [] (start N vs) H s1:=inv_start S M.hd z hl r x;refine cC (ht [] s1 (start N vs) H _ I hq) (λfl F l=>?_) λe F l=>l
  have p:∀ {C:St}{h:Hp}{v:V}{u:vL},Inv (cxOf CX P w K mg base N a scope f c A outer s H E) [] C h F->RelV v u->Q v h->CE outer P w H s Q u F:=
    λ{C h v u} J rv q=>⟨v,h,J.os,J.bare,J.base,J.hok,rv,q⟩
  cases fl with
  |ret u=>
    obtain⟨v,C,h,J,rv,q⟩:=l;exact p J rv q
  |next=>
    obtain⟨C,h,J,q⟩:=l;exact p (v:=V.non) (u:=b6) J rfl q
  |brk=>
    obtain⟨_,_,_,q⟩:=l;exact False.elim q
  |cont=>
    obtain⟨_,_,_,q⟩:=l;exact False.elim q
section
variable{x:Str}{id T:String}{r:Li V->Hp->VK->Prop}
def tCB(r:Li V->Hp->VK->Prop)(t:TA):TE:=λO H Q=>t O H λvs a=>r vs a Q
def pe_callB(l:CallR X (.builtin id) r)(j:Gl X x)(i:X.mg x=ab)(f:bo x=aa (.builtin id))(m:PA X (e :: es) t)(g:x ≠ "__name__":=by decide)(b:(x==("__debug__":Str))=af:=by decide)(k:bj (e :: es) X.env=(af,eval e X.env) :: bj es X.env:=by rfl)(a:(backTo pos (bj es X.env)).any (·.1)=af:=by rfl):PE X (.Call (.Name x p) (e :: es) [] pos) (tCB r t):=by
  intro pQ s O H Q I h;refine wpAny_Call_Name_kw (ld_blt I j i f ?_ g b);exact PyProof.Rows.callWith_builtin1 (thn (m pos pQ s O H _ I h) λus s1 ⟨vs,o,n,c,d⟩=>l pQ s1 O o vs us Q n c d) k a
def pe_callTy(l:CallR X (.type T) r)(j:Gl X x)(i:X.mg x=ab)(f:bo x=aa (.type T))(m:PA X (e :: es) t)(g:x ≠ "__name__":=by decide)(b:(x==("__debug__":Str))=af:=by decide)(k:bj (e :: es) X.env=(af,eval e X.env) :: bj es X.env:=by rfl)(a:(backTo pos (bj es X.env)).any (·.1)=af:=by rfl):PE X (.Call (.Name x p) (e :: es) [] pos) (tCB r t):=by
  intro pQ s O H Q I h;refine wpAny_Call_Name_kw (ld_blt I j i f ?_ g b);exact PyProof.Rows.callWith_type1 (thn (m pos pQ s O H _ I h) λus s1 ⟨vs,o,n,c,d⟩=>l pQ s1 O o vs us Q n c d) k a
end
end L2
namespace HT
open PySem PyProof.Rows
section
open PySem.SeqAt
open PySem.AutoSeq1 (wpAny_loadPart')
open PySem.MeetsSeq PySem.MeetsSeq2 PySem.MeetsSeq3
end
variable{Q:vL->Sd->Prop}{hi:Ot Int}
section
variable{prog:bh}{w:bt}{A:bw}{E:vL->Sd->Prop}{s:Sd}
def cat_tup{t b:Ad}{d a:Li vL}(v:IsTup s.heap t d.toArray)(x:IsTup s.heap b a.toArray)(p:d≠[])(z:a=[]->Q (.ref t) s)(y:a≠[]->Q (.ref s.heap.objs.size) { s with heap:=s.heap.push { cls:=.type "tuple",data:=.seq (d++a).toArray } })(l:d.length+a.length<=ay):bf (bg prog w) A (bx .Add (.ref t) (.ref b)) Q E s:=by
  obtain⟨⟨cls,dd,data,sl⟩,k,r,n,q⟩:=id v;obtain⟨⟨u,i,m,f⟩,c,h,o,g⟩:=id x;simp only at r q h g;subst r q h g;have e:d.toArray++a.toArray=(d++a).toArray:=by simp
  by_cases j:a=[]
  . exact concat_meets ⟨_,k,rfl⟩ ⟨_,c,rfl⟩ noFill_tuple_add seq_tuple_add PySem.F.slot_tuple_add PySem.F.entry_tuple_add (PySem.F.args_tuple_add_2 _ _)
      (tuple_addW1 t b d.toArray a.toArray n o dd i sl f (by simpa using p) (by simp[j])) ⟨k,c,z j⟩
  . refine concat_meets ⟨_,k,rfl⟩ ⟨_,c,rfl⟩ noFill_tuple_add seq_tuple_add PySem.F.slot_tuple_add PySem.F.entry_tuple_add (PySem.F.args_tuple_add_2 _ _)
      (tuple_addW2 t b d.toArray a.toArray n o dd i sl f (by simpa using p) (by simpa using j) (by rw[aH,aH];exact l)) ⟨k,c,?_⟩
    rw[e];exact y j
noncomputable def sIx(n d:Nat):Ot Int->Nat
  |none=>d
  |some v=>if v < 0 then (v+(n:Int)).toNat else min v.toNat n
def sIx_le(n d:Nat)(hd:d<=n)(o:Ot Int):sIx n d o<=n:=by
  cases o with
  |none=>exact hd
  |some v=>
    show(if v < 0 then (v+(n:Int)).toNat else min v.toNat n)<=n
    by_cases a:v < 0
    . rw[aq a];omega
    . rw[ar a];exact Nat.min_le_right _ _
def clip_eq(v:Int)(n d:Nat):(if v < 0 then max (v+(n:Int)) 0 else min v (n:Int))=((sIx n d (aa v):Nat):Int):=by
  show(if v < 0 then max (v+(n:Int)) 0 else min v (n:Int))=(((if v < 0 then (v+(n:Int)).toNat else min v.toNat n):Nat):Int)
  by_cases a:v < 0
  . simp only[aq a];omega
  . simp only[ar a];omega
def adjust_gen(lo hi:Ot Int)(n:Nat):Builtin.Slice.sliceAdjust lo hi 1 (n:Int)=(((sIx n 0 lo:Nat):Int),((sIx n n hi:Nat):Int)):=by
  have a:¬((1:Int) < 0):=by omega
  unfold Builtin.Slice.sliceAdjust;simp only[a,if_false];refine Prod.ext ?_ ?_
  . cases lo with
    |none=>rfl
    |some v=>exact clip_eq v n 0
  . cases hi with
    |none=>rfl
    |some v=>exact clip_eq v n n
def places_gen(i j:Nat):Builtin.Slice.slicePlaces (i:Int) (j:Int) 1=j - i:=by
  unfold Builtin.Slice.slicePlaces;have a:(1:Int) > 0:=by omega
  simp only[a,if_true,Int.ediv_one];split<;>omega
def slicePart_{v:vL}{o:Ot Int}{Q:Ot Int->Sd->Prop}(p:IsPart v o)(h:Q o s):bf (bg prog w) A (Builtin.Slice.slicePartIndex v) Q E s:=by
  cases p with
  |none=>exact slicePart_none h
  |int i t=>exact slicePart_int h
def sliceApplied_gen{sl:Ad}{d c:vL}{lo:Ot Int}{n:Nat}{Q:Int×Int×Nat->Sd->Prop}(g:s.heap.IsSliceOf sl d c .none)(f:IsPart d lo)(e:IsPart c hi)(h:Q (((sIx n 0 lo:Nat):Int),1,sIx n n hi - sIx n 0 lo) s):bf (bg prog w) A (Builtin.Slice.sliceApplied (.ref sl) (pure (n:Int))) Q E s:=by
  obtain⟨j,a,i,b⟩:=id g;unfold Builtin.Slice.sliceApplied Builtin.Slice.sliceFields;refine aA (aA (wpAny_field a b (x:=d) rfl (aA (wpAny_field a b (x:=c) rfl (aA (wpAny_field a b (x:=.none) rfl (aE ?_)))))));refine aA (slicePart_none ?_);show bf _ _ (if ((1:Int)==0)=ae then _ else _) _ _ s
  rw[ar (by decide)]
  refine aA (slicePart_ f (aA (slicePart_ e (aA (aE ?_)))));show bf _ _ (match Builtin.Slice.sliceAdjust lo hi 1 (n:Int) with | (lo,hi)=>pure (lo,(1:Int),Builtin.Slice.slicePlaces lo hi 1)) _ _ s
  rw[adjust_gen lo hi n];show bf _ _ (pure (((sIx n 0 lo:Nat):Int),(1:Int),Builtin.Slice.slicePlaces ((sIx n 0 lo:Nat):Int) ((sIx n n hi:Nat):Int) 1)) _ _ s;rw[places_gen];exact aE h
def pick_gen(a:Array vL)(i k:Nat):((aj k).filterMap λ(m:Nat)=>a[((i:Int)+(m:Int) * 1).toNat]?).toArray=((a.toList.drop i).take k).toArray:=by
  have e:(λ(m:Nat)=>a[((i:Int)+(m:Int) * 1).toNat]?)=λm=>a[i+m]?:=by
    funext m
    have:((i:Int)+(m:Int) * 1).toNat=i+m:=by omega
    rw[this]
  rw[e];have:=pick_run a i k;rw[List.filterMap_map]at this;have b:((λx=>a[x]?) ∘ λx=>i+x)=λm=>a[i+m]?:=rfl
  rw[b]at this;rw[this]
def getItem_tuple_cut{t sl:Ad}{a:Array vL}{j i:vL}{lo:Ot Int}(c:IsTup s.heap t a)(k:s.heap.IsSliceOf sl j i .none)(n:IsPart j lo)(l:IsPart i hi)(p:¬(sIx a.size 0 lo=0/\sIx a.size a.size hi=a.size))(h:Q (.ref s.heap.objs.size) { s with heap:=s.heap.push { cls:=.type "tuple",data:=.seq ((a.toList.drop (sIx a.size 0 lo)).take (sIx a.size a.size hi - sIx a.size 0 lo)).toArray } })(r:a.size<=ay):bf (bg prog w) A (getItem (.ref t) (.ref sl)) Q E s:=by
  have b:sizeOk (.seq ((a.toList.drop (sIx a.size 0 lo)).take (sIx a.size a.size hi - sIx a.size 0 lo)).toArray):=by
    show((a.toList.drop (sIx a.size 0 lo)).take (sIx a.size a.size hi - sIx a.size 0 lo)).toArray.size<=ay;rw[aH,aU,cD,eT];omega
  have y:sIx a.size a.size hi<=a.size:=sIx_le _ _ (aB _) hi;obtain⟨o,d,f,u⟩:=id k;have g:s.TypeIs (.ref sl) "slice":=⟨o,d,f⟩;unfold getItem
  try with_reducible refine wpAny_holding ?_
  first|refine aA (aE ?_)|skip
  refine aA (wpAny_sequenceKey c.typeIs (by decide) ?_)
  refine aA (wpAny_callSpecial?_slot (name:=Str.ofString "__getitem__") c.typeIs PyProof.Rows.slot_tuple_getitem
    (wpAny_call_entry PyProof.Rows.slot_tuple_getitem c.typeIs entry_tuple_getitem ?_ (args_tuple_getitem _ _)))
  show bf _ _ (Builtin.Tuple.tupleItemsOf (.ref t) >>= _) _ _ s;refine aA (tupleItemsOf_ c ?_);refine aA (wpAny_typeOf g ?_);rw[aq (by decide)]
  refine aA (sliceApplied_gen k n l ?_);have e:¬((((sIx a.size 0 lo:Nat):Int)==0&&(1:Int)==1&&(sIx a.size a.size hi - sIx a.size 0 lo)==a.size)=ae):=by
    intro q;rw[Ba,Ba]at q;have x:((sIx a.size 0 lo:Nat):Int)=0:=eq_of_beq q.1.1;have v:sIx a.size a.size hi - sIx a.size 0 lo=a.size:=eq_of_beq q.2;exact p ⟨by omega,by omega⟩
  show bf _ _ (if (((sIx a.size 0 lo:Nat):Int)==0&&(1:Int)==1&&(sIx a.size a.size hi - sIx a.size 0 lo)==a.size)=ae then _ else _) _ _ s
  rw[ar e,pick_gen]
  first
    |exact aA (m:=Builtin.Tuple.tupleExact _) (wpAny_newObj_type (aE ⟨_,rfl,aE h⟩) b)
    |exact aA (m:=Builtin.Tuple.tupleExact _) (wpAny_newObj_type (aA (aE (aE ⟨_,rfl,aE h⟩))) b)
    |exact aA (aA (m:=Builtin.Tuple.tupleExact _) (wpAny_newObj_type (aE (aE ⟨_,rfl,aE h⟩)) b))
    |exact aA (aA (m:=Builtin.Tuple.tupleExact _) (wpAny_newObj_type (aE ⟨_,rfl,aE h⟩) b))
end
end HT
namespace L2
open PySem PySem.Spec PyProof.Rows
abbrev TO:=St->Hp->(Ot Int->Hp->Prop)->Prop
def PO(X:Cx)(e:Ot az)(t:TO):Prop:=
  ∀ (pQ:Li (Ad×Obj)) (s:Sd) (O:St) (H:Hp) (Q:Ot Int->Hp->Prop),Inv X pQ O H s->t O H Q->
    bf (bg X.prog X.w) X.A (evalPart e X.env) (λu b=>∃ o a,Inv X pQ O a b/\IsPart u o/\Q o a) X.xe s
def tNoPart:TO:=λ_ H Q=>Q ab H
def tPart(t:TE):TO:=λO H Q=>t O H λx a=>∃ i,x=.int i/\Q (aa i) a
variable{xs:Li V}{us:Li vL}
variable{X:Cx}{e:az}{pos:Pos}
section
variable{te:TE}{lo hi:Ot az}{tl th:TO}{p2:Pos}
def po_none:PO X ab tNoPart:=by
  intro a s O H Q I h;rw[evalPart_none];exact aE ⟨ab,H,I,.none,h⟩
def po_some(h:PE X e te):PO X (aa e) (tPart te):=by
  intro c s O H Q I d;rw[evalPart_some];refine thn (h c s O H _ I d) λu s1 ⟨x,g,f,a,b⟩=>?_
  obtain⟨i,rfl,q⟩:=b;obtain⟨t,rfl⟩:=a;exact⟨aa i,g,f,.int i t,q⟩
def SlR(X:Cx)(r:V->Ot Int->Ot Int->Hp->VK->Prop):Prop:=
  ∀ (pQ:Li (Ad×Obj)) (s:Sd) (O:St) (H:Hp) (x:V) (v vl vu:vL) (lo hi:Ot Int) (sl:Ad) (Q:VK),Inv X pQ O H s->RelV x v->s.heap.IsSliceOf sl vl vu .none->IsPart vl lo->IsPart vu hi->r x lo hi H Q->
    ∃ T id,typeLookup (.type T) "__getitem__"=pure (aa (.builtin id))/\s.TypeIs v T/\bf (bg X.prog X.w) X.A (getItem v (.ref sl)) (EP X pQ O Q) X.xe s
def tSl(r:V->Ot Int->Ot Int->Hp->VK->Prop)(te:TE)(tl th:TO):TE:=λO H Q=>te O H λx c=>tl O c λl b=>th O b λu a=>r x l u a Q
def pe_slice{r:V->Ot Int->Ot Int->Hp->VK->Prop}(y:SlR X r)(C:PE X e te)(z:PO X lo tl)(hu:PO X hi th):PE X (.Subscript e (.Slice lo hi ab p2) pos) (tSl r te tl th):=by
  intro c s O H Q I h;refine Subscript_ (thn (C c s O H _ I h) λv s1 ⟨x,L,J,j,n⟩=>?_)
  refine wpAny_Slice (thn (z c s1 O L _ J n) λf i ⟨l,K,G,p,m⟩=>thn (hu c i O K _ G m) λd a ⟨u,g,F,o,k⟩=>?_)
  rw[evalPart_none];refine aE ?_;have E:Inv X c O g { a with heap:=a.heap.push { cls:=.type "slice",data:=.fields #[f,d,.none] } }:=F.kept (t':=a.toks) λb M q=>aT _ q
  obtain⟨T,id,D,t,B⟩:=y c { a with heap:=a.heap.push { cls:=.type "slice",data:=.fields #[f,d,.none] } } O g x v f d l u a.heap.objs.size Q E j (Heap.IsSliceOf.new ..) p o k
  show bf (bg X.prog X.w) X.A (subscriptTail e (.Slice lo hi ab p2) v (.ref a.heap.objs.size)) (EP X c O Q) X.xe { a with heap:=a.heap.push { cls:=.type "slice",data:=.fields #[f,d,.none] } }
  exact tail_any (ops:=[.ref a.heap.objs.size,v]) t D B (by with_unfolding_all rfl)
noncomputable def cutV(xs:Li V)(lo hi:Ot Int):Li V:=(xs.drop (HT.sIx xs.length 0 lo)).take (HT.sIx xs.length xs.length hi - HT.sIx xs.length 0 lo)
def cutV_length(xs:Li V)(lo hi:Ot Int):(cutV xs lo hi).length<=xs.length:=by
  unfold cutV;rw[aU,cD];omega
def rSlT(K:Fg):V->Ot Int->Ot Int->Hp->VK->Prop:=λx lo hi H Q=>∃ a xs,x=.ref a/\SqT K H a xs /\
  ¬(HT.sIx xs.length 0 lo=0/\HT.sIx xs.length xs.length hi=xs.length)/\∀ p,H p=ab->Q (.ref p) (upd H p (.tup (cutV xs lo hi)))
def sl_tup:SlR X (rSlT X.K):=by
  intro t s O H x v p n lo hi sl Q I g m j i h;obtain⟨a,xs,rfl,k,l,q⟩:=h;cases g;obtain⟨d,r,f,e⟩:=I.tuple k;have c:d.toArray.size=xs.length:=by rw[aH];exact r.length.symm
  refine⟨"tuple",_,PyProof.Rows.slot_tuple_getitem.lookup,f.typeIs,?_⟩;refine HT.getItem_tuple_cut f m j i (by rw[c];exact l) ?_ (by rw[c];exact e)
  rw[c];refine⟨.ref s.heap.objs.size,_,I.laid (t':=s.toks) (o:=.tup (cutV xs lo hi)) (λb u q=>aT _ q) (aB _) ?_,rfl,q _ (I.hok.fresh (aB _))⟩
  exact⟨aK (cutV_length xs lo hi) e,_,(r.drop (HT.sIx xs.length 0 lo)).take (HT.sIx xs.length xs.length hi - HT.sIx xs.length 0 lo),IsTup.new _ _⟩
def rCatT(K:Fg):R2:=λx y H Q=>∃ a b xs c,x=.ref a/\y=.ref b/\SqT K H a xs/\SqT K H b c/\xs≠[]/\xs.length+c.length<=ay /\
  (c=[]->Q (.ref a) H)/\(c≠[]->∀ p,H p=ab->Q (.ref p) (upd H p (.tup (xs++c))))
def Vals.nil_iff(r:Vals xs us):us=[]↔xs=[]:=by
  cases r with
  |nil=>simp
  |cons _ _=>simp
def op_catT:OpR X (bx .Add) (rCatT X.K):=by
  intro A s O H x y v u Q I j i h;obtain⟨a,b,xs,g,rfl,rfl,t,r,p,f,l,k⟩:=h;cases j;cases i;obtain⟨n,d,m,_⟩:=I.tuple t;obtain⟨e,c,p2,_⟩:=I.tuple r;refine HT.cat_tup m p2 (λz=>p (d.nil_iff.mp z)) (λz=>⟨.ref a,H,I,rfl,l (c.nil_iff.mp z)⟩) (λz=>?_) (by rw[<-d.length,<-c.length];exact f)
  refine⟨.ref s.heap.objs.size,_,I.laid (t':=s.toks) (o:=.tup (xs++g)) (λb B q=>aT _ q) (aB _) ?_,rfl,k (λw=>z (c.nil_iff.mpr w)) _ (I.hok.fresh (aB _))⟩
  exact⟨by rw[aG];exact f,_,d.append c,IsTup.new _ _⟩
end
noncomputable def ixN(n:Nat)(i:Int):Ot Nat:=if 0<=i then (if i < n then aa i.toNat else ab) else if -(n:Int)<=i then aa (i+n).toNat else ab
def atI{a:Type}(xs:Li a)(i:Int):Ot a:=(ixN xs.length i).bind λj=>xs[j]?
variable{n:Nat}
def ixN_seq{i:Int}{j:Nat}(h:ixN n i=aa j):seqIndex? i n=aa j/\j < n/\-(n:Int)<=i/\i < n:=by
  unfold ixN at h;by_cases b:0<=i
  . rw[aq b]at h
    by_cases a:i < n
    . rw[aq a]at h
      have e:i.toNat=j:=aw h;exact⟨by rw[seqIndex_of b a,e],by omega,by omega,a⟩
    . rw[ar a]at h;cases h
  . rw[ar b]at h
    by_cases a:-(n:Int)<=i
    . rw[aq a]at h
      have e:(i+n).toNat=j:=aw h;exact⟨by rw[seqIndex_neg (by omega) a,e],by omega,a,by omega⟩
    . rw[ar a]at h;cases h
variable{α:Type}
def atI_get{xs:Li α}{i:Int}{v:α}(h:atI xs i=aa v):∃ j,seqIndex? i xs.length=aa j/\xs[j]?=aa v/\j < xs.length/\-(xs.length:Int)<=i/\i < xs.length:=by
  unfold atI at h;cases e:ixN xs.length i with
  |none=>rw[e]at h;cases h
  |some j=>
    rw[e]at h;obtain⟨d,c,b,a⟩:=ixN_seq e;exact⟨j,d,h,c,b,a⟩
def PlainIx(b:az):Prop:=∀ o i,subscripted b af o i=operate [o,i] (getItem o i)
def IxR(X:Cx)(r:R2):Prop:=
  ∀ (value slice:az) (pQ:Li (Ad×Obj)) (s:Sd) (O:St) (H:Hp) (x y:V) (v u:vL) (Q:VK),Inv X pQ O H s->RelV x v->RelV y u->r x y H Q->
    subscripted slice af v u=operate [v,u] (getItem v u)->bf (bg X.prog X.w) X.A (subscriptTail value slice v u) (EP X pQ O Q) X.xe s
def MtR(X:Cx)(id:String)(r:V->Li V->Hp->VK->Prop):Prop:=
  ∀ (pQ:Li (Ad×Obj)) (s:Sd) (O:St) (H:Hp) (x:V) (xs:Li V) (v:vL) (us:Li vL) (Q:VK),Inv X pQ O H s->RelV x v->Vals xs us->r x xs H Q->
    bf (bg X.prog X.w) X.A (call (.builtin id) (v :: us)) (EP X pQ O Q) X.xe s
variable{pQ:Li (Ad×Obj)}{s:Sd}{its its':Li vL}{y x:V}
section
variable{a b:az}{ta tb:TE}
def pe_ix{r:R2}(g:IxR X r)(j:PE X a ta)(i:PE X b tb)(f:PlainIx b):PE X (.Subscript a b pos) (tOp r ta tb):=by
  intro pQ s O H Q I h;exact Subscript_ (binT j i I h λv u c x y l k e d q=>g a b pQ c O l x y v u Q k e d q (f _ _))
def rIxL(K:Fg):R2:=λx y H Q=>∃ p xs i v,x=.ref p/\y=.int i/\SqL K H p xs/\atI xs i=aa v/\Q v H
def rIxT(K:Fg):R2:=λx y H Q=>∃ p xs i v,x=.ref p/\y=.int i/\SqT K H p xs/\atI xs i=aa v/\Q v H
def rIxS:R2:=λx y H Q=>∃ z i c,x=.str z/\y=.int i/\z.length<=ay/\atI z.cps.toList i=aa c/\Q (.str ⟨#[c]⟩) H
def ix_list:IxR X (rIxL X.K):=by
  intro c slice pQ s O H x y v u Q I o n h g;obtain⟨p,xs,i,z,rfl,rfl,A,C,q⟩:=h;cases o;obtain⟨t,rfl⟩:=n;obtain⟨its,r,e,G⟩:=I.list A;obtain⟨j,b,F,L,E,D⟩:=atI_get C;obtain⟨w,l,d⟩:=r.get F;have B:=r.length;have J:=line63;have a:EP X pQ O Q w s:=⟨z,H,I,d,q⟩;by_cases k:0<=i
  . have f:i.toNat=j:=by
      rw[seqIndex_of k D]at b;exact aw b
    exact item_listR e.isList k (by omega) (by rw[f];simpa using l) a g
  . have f:(i+(its.toArray.size:Int)).toNat=j:=by
      rw[seqIndex_neg (by omega) E]at b
      rw[aH,<-B];exact aw b
    exact subscriptTail_builtinR (x:=w) e.isList.typeIs slot_list_getitem.lookup
      (wpAny_getItem_list_neg (Q:=λr m=>r=w/\EP X pQ O Q r m) e.isList (by omega) (by rw[aH]<;>omega) (by omega) (by rw[f];simpa using l) ⟨rfl,a⟩) g
def ix_tup:IxR X (rIxT X.K):=by
  intro a slice pQ s O H x y v u Q I g f h k;obtain⟨p,xs,i,z,rfl,rfl,l,n,q⟩:=h;cases g;obtain⟨t,rfl⟩:=f;obtain⟨its,r,d,C⟩:=I.tuple l;obtain⟨j,A,o,G,F,E⟩:=atI_get n;obtain⟨w,B,b⟩:=r.get o;have m:=r.length;have D:=line63;have c:EP X pQ O Q w s:=⟨z,H,I,b,q⟩;exact subscriptTail_builtinR (x:=w) d.typeIs slot_tuple_getitem.lookup
    (getItem_tuple (j:=j) (Q:=λr e=>r=w/\EP X pQ O Q r e) d (by omega) (by omega) (by rw[aH,<-m];exact A) (by simpa using B) ⟨rfl,c⟩) k
def ix_str:IxR X rIxS:=by
  intro a slice pQ s O H x y v u Q I e d h f;obtain⟨z,i,c,rfl,rfl,w,k,q⟩:=h;obtain⟨t,rfl⟩:=e;obtain⟨r,rfl⟩:=d;obtain⟨j,b,n,B,m,l⟩:=atI_get k;have g:z.cps.toList.length=z.length:=by simp[Str.length]
  rw[g]at b m l;have A:=line63;exact tail_any (typeIs_str s z t) slot_str_getitem.lookup (getItem_str (c:=c) (by
    have p:ak (i < -(2 ^ 63:Int))=af:=aI (by omega)
    have o:ak (i>=2 ^ 63)=af:=aI (by omega)
    rw[p,o,dO]) (by rw[b];simpa using n) ⟨.str ⟨#[c]⟩,H,I.tok _,⟨_,rfl⟩,q⟩) f
def mapSeq_set(its:Li vL)(n j:Nat)(u:vL):Obj.mapSeq (·.setIfInBounds j u) { cls:=.type "list",data:=.seq its.toArray n }={ cls:=.type "list",data:=.seq (its.set j u).toArray n }:=by
  simp[Obj.mapSeq]
theorem Inv.lst{pQ:Li (Ad×Obj)}{O:St}{H:Hp}{s:Sd}{p:Ad}{xs:Li V}(I:Inv X pQ O H s)(h:H p=aa (.lst xs)) :
    ∃ (its:Li vL) (n:Nat),Vals xs its/\s.heap.get? p=aa { cls:=.type "list",data:=.seq its.toArray n }/\xs.length<=ay:=by
  obtain⟨z,its,n,r,e⟩:=I.hok p _ h;exact⟨its,n,r,e,z⟩
def Inv.lstUpd{O:St}{H:Hp}{p:Ad}{a:Li V}{c:Nat}{f:Obj->Obj}(I:Inv X pQ O H s)(h:H p=aa (.lst xs))(i:s.heap.get? p=aa { cls:=.type "list",data:=.seq its.toArray n })(d:f { cls:=.type "list",data:=.seq its.toArray n }={ cls:=.type "list",data:=.seq its'.toArray c })(r:Vals a its')(g:a.length<=ay)(t:Nat) :
    Inv X pQ O (upd H p (.lst a)) { s with heap:=s.heap.update p f,toks:=t }:=by
  have e:(s.heap.update p f).get? p=aa { cls:=.type "list",data:=.seq its'.toArray c }:=by
    rw[Heap.get?_update_self f i (by rw[d]<;>rfl),d]
  refine I.write (x:=p) (e:=p) (by rw[h];trivial) (.inl rfl) (λb u j q=>(Heap.get?_update_other _ _ (Ne.symm j)).trans q) ⟨_,e⟩ ?_
  exact⟨g,its',c,r,e⟩
def rSetL:V->V->V->Hp->(Hp->Prop)->Prop:=λo i v H Q=>∃ p xs k j,o=.ref p/\i=.int k/\H p=aa (.lst xs)/\ixN xs.length k=aa j/\Q (upd H p (.lst (xs.set j v)))
def set_list:PSet X rSetL:=by
  intro pQ s O H o i v A B u Q I w x rv h;obtain⟨p,xs,k,j,rfl,rfl,e,z,q⟩:=h;cases w;obtain⟨t,rfl⟩:=x;obtain⟨its,n,r,b,y⟩:=I.lst e;obtain⟨a,D,g,f⟩:=ixN_seq z;have c:=r.length;have C:=line63;have m:Inv X pQ O (upd H p (.lst (xs.set j v))) { s with heap:=s.heap.update p (Obj.mapSeq (·.setIfInBounds j u)) }:=
    I.lstUpd e b (mapSeq_set its n j u) (r.set rv j) (by rw[bO];exact y) s.toks
  by_cases l:0<=k
  . have d:k.toNat=j:=by
      rw[seqIndex_of l f]at a;exact aw a
    exact W.ki_setAt b l (by omega) (by rw[aH,<-c];exact f) (by rw[d];exact⟨_,m,q⟩)
  . have d:(k+(its.toArray.size:Int)).toNat=j:=by
      rw[seqIndex_neg (by omega) g]at a
      rw[aH,<-c];exact aw a
    exact W.ki_setBack b (by omega) (by rw[aH,<-c];exact g) (by omega) (by rw[d];exact⟨_,m,q⟩)
def slice_bounds(lo a:Ot Int)(n:Nat):(sliceBounds lo a ab n).1=((HT.sIx n 0 lo:Nat):Int)/\(sliceBounds lo a ab n).2.1=((HT.sIx n n a:Nat):Int)/\(sliceBounds lo a ab n).2.2=1:=by
  refine⟨?_,?_,rfl⟩
  . cases lo with
    |none=>simp[sliceBounds,HT.sIx]
    |some i=>
      simp only[sliceBounds,HT.sIx,Option.getD_none,show(1:Int) > 0 by decide,if_true]
      by_cases h:i < 0
      . simp only[h,if_true]<;>omega
      . simp only[h,if_false]<;>omega
  . cases a with
    |none=>simp[sliceBounds,HT.sIx]
    |some i=>
      simp only[sliceBounds,HT.sIx,Option.getD_none,show(1:Int) > 0 by decide,if_true]
      by_cases h:i < 0
      . simp only[h,if_true]<;>omega
      . simp only[h,if_false]<;>omega
def slicePick_cut(its:Li vL)(lo a:Ot Int):slicePick its.toArray lo a ab=((its.drop (HT.sIx its.length 0 lo)).take (HT.sIx its.length its.length a - HT.sIx its.length 0 lo)).toArray:=by
  obtain⟨d,c,b⟩:=slice_bounds lo a its.toArray.size;unfold slicePick;rw[d,c,b];simp only[sliceRange_one,pick_run,aH]<;>rfl
def rSlL(K:Fg):V->Ot Int->Ot Int->Hp->VK->Prop:=λx lo b H Q=>∃ a xs,x=.ref a/\SqL K H a xs/\∀ p,H p=ab->Q (.ref p) (upd H p (.lst (cutV xs lo b)))
def sl_list:SlR X (rSlL X.K):=by
  intro pQ s O H x v n m lo d sl Q I f l i g h;obtain⟨a,xs,rfl,k,q⟩:=h;cases f;obtain⟨its,r,e,j⟩:=I.list k;have c:=r.length;refine⟨"list",_,slot_list_getitem.lookup,e.isList.typeIs,?_⟩;refine wpAny_getItem_list_slice e.isList l i g .none (by simp) ?_ (by rw[aH]<;>omega)
  rw[slicePick_cut,<-c];refine⟨.ref s.heap.objs.size,_,I.laid (t':=s.toks) (o:=.lst (cutV xs lo d)) (λb p q=>aT _ q) (aB _) ?_,rfl,q _ (I.hok.fresh (aB _))⟩
  exact⟨aK (cutV_length xs lo d) j,_,0,(r.drop (HT.sIx xs.length 0 lo)).take (HT.sIx xs.length xs.length d - HT.sIx xs.length 0 lo),bT _ rfl⟩
noncomputable def flatV:V->Bool
  |.non=>ae
  |.bl _=>ae
  |.int _=>ae
  |.str _=>ae
  |_=>af
noncomputable def eqV:V->V->Bool
  |.non,.non=>ae
  |.bl a,.bl b=>a==b
  |.bl a,.int b=>(if a then 1 else 0)==b
  |.int a,.bl b=>a==(if b then 1 else 0)
  |.int a,.int b=>a==b
  |.str a,.str b=>a==b
  |_,_=>af
def eqAt_V{A:bw}{u v:vL}(e:RelV y u)(c:RelV x v)(g:flatV y=ae)(f:flatV x=ae):SeqAt.EqAt A s u v (eqV y x):=by
  cases y with
  |non=>
    cases e;cases x with
    |non=>cases c;exact SeqAt.EqAt.same _
    |bl b=>cases c;exact SeqAt.EqAt.none_bool b
    |int b=>obtain⟨t,rfl⟩:=c;exact SeqAt.EqAt.none_int b t
    |str b=>obtain⟨t,rfl⟩:=c;exact SeqAt.EqAt.none_str b t
    |_=>exact au (show af=ae from f) Bf
  |bl a=>
    cases e;cases x with
    |non=>cases c;exact SeqAt.EqAt.bool_none a
    |bl b=>cases c;exact SeqAt.EqAt.bool_bool a b
    |int b=>obtain⟨t,rfl⟩:=c;exact SeqAt.EqAt.bool_int a b t
    |str b=>obtain⟨t,rfl⟩:=c;exact SeqAt.EqAt.bool_str a b t
    |_=>exact au (show af=ae from f) Bf
  |int a=>
    obtain⟨d,rfl⟩:=e;cases x with
    |non=>cases c;exact SeqAt.EqAt.int_none a d
    |bl b=>cases c;exact SeqAt.EqAt.int_bool a d b
    |int b=>obtain⟨t,rfl⟩:=c;exact SeqAt.EqAt.int_int a d b t
    |str b=>obtain⟨t,rfl⟩:=c;exact SeqAt.EqAt.int_str a d b t
    |_=>exact au (show af=ae from f) Bf
  |str a=>
    obtain⟨d,rfl⟩:=e;cases x with
    |non=>cases c;exact SeqAt.EqAt.str_none a d
    |bl b=>cases c;exact SeqAt.EqAt.str_bool a d b
    |int b=>obtain⟨t,rfl⟩:=c;exact SeqAt.EqAt.str_int a d b t
    |str b=>obtain⟨t,rfl⟩:=c;exact SeqAt.EqAt.str_str a d b t
    |_=>exact au (show af=ae from f) Bf
  |_=>exact au (show af=ae from g) Bf
def eqU(x:V)(u:vL):Bool:=match u with
  |.none=>eqV .non x
  |.bool b=>eqV (.bl b) x
  |.int i _=>eqV (.int i) x
  |.str z _=>eqV (.str z) x
  |_=>af
def eqU_of{u:vL}(r:RelV y u)(f:flatV y=ae):eqU x u=eqV y x:=by
  cases y with
  |non=>cases r;rfl
  |bl b=>cases r;rfl
  |int i=>obtain⟨t,rfl⟩:=r;rfl
  |str z=>obtain⟨t,rfl⟩:=r;rfl
  |_=>exact au (show af=ae from f) Bf
theorem any_eqU{x:V}:∀ {xs:Li V}{us:Li vL},Vals xs us->xs.all flatV=ae->us.any (eqU x)=xs.any λy=>eqV y x
  |_,_,.nil,_=>rfl
  |y :: xs,u :: us,.cons r t,f=>by
    rw[cH,Ba]at f;rw[dP,dP,eqU_of r f.1,any_eqU t f.2]
theorem mem_eqAt{A:bw}{s:Sd}{x:V}{v:vL}(a:RelV x v)(b:flatV x=ae):∀ {xs:Li V}{us:Li vL},Vals xs us->xs.all flatV=ae->∀ u∈us,SeqAt.EqAt A s u v (eqU x u)
  |_,_,.nil,_=>λu hu=>by cases hu
  |y :: xs,u :: us,.cons r t,f=>λc hu=>by
    rw[cH,Ba]at f;rcases aL.mp hu with rfl|hu
    . rw[eqU_of r f.1];exact eqAt_V r a f.1 b
    . exact mem_eqAt a b t f.2 c hu
def inV(x:V)(xs:Li V):Bool:=xs.any λy=>eqV y x
def rIn(K:Fg)(neg:Bool):R2:=λx y H Q=>∃ p xs,y=.ref p/\(SqL K H p xs\/SqT K H p xs)/\flatV x=ae/\xs.all flatV=ae/\Q (.bl (if neg then !inV x xs else inV x xs)) H
def op_in_seq:OpR X (bu .In) (rIn X.K af):=by
  intro pQ s O H x y v u Q I c e h;obtain⟨p,xs,rfl,hq,d,fs,q⟩:=h;cases e;rcases hq with hq|hq
  . obtain⟨its,r,a,f⟩:=I.list hq
    refine SeqAt.in_listAt (eqU x) a.isList (λw b=>mem_eqAt c d r fs w (by simpa using b)) ⟨.bl _,H,I,rfl,?_⟩
    rw[show its.toArray.any (eqU x)=its.any (eqU x) by simp,any_eqU r fs]
    exact q
  . obtain⟨its,r,a,f⟩:=I.tuple hq
    refine SeqAt.in_tupleAt (eqU x) a (λw b=>mem_eqAt c d r fs w (by simpa using b)) ⟨.bl _,H,I,rfl,?_⟩
    rw[show its.toArray.any (eqU x)=its.any (eqU x) by simp,any_eqU r fs]
    exact q
def op_notIn_seq:OpR X (bu .NotIn) (rIn X.K ae):=by
  intro pQ s O H x y v u Q I c e h;obtain⟨p,xs,rfl,hq,d,fs,q⟩:=h;cases e;rcases hq with hq|hq
  . obtain⟨its,r,a,f⟩:=I.list hq
    refine SeqAt.notIn_listAt (eqU x) a.isList (λw b=>mem_eqAt c d r fs w (by simpa using b)) ⟨.bl _,H,I,rfl,?_⟩
    rw[show its.toArray.any (eqU x)=its.any (eqU x) by simp,any_eqU r fs]
    exact q
  . obtain⟨its,r,a,f⟩:=I.tuple hq
    refine SeqAt.notIn_tupleAt (eqU x) a (λw b=>mem_eqAt c d r fs w (by simpa using b)) ⟨.bl _,H,I,rfl,?_⟩
    rw[show its.toArray.any (eqU x)=its.any (eqU x) by simp,any_eqU r fs]
    exact q
def op_notIn_str:OpR X (bu .NotIn) (λx y H Q=>∃ i j,x=.str i/\y=.str j/\Q (.bl (!(!(Builtin.Str.occurrences j i 0 j.length 1).isEmpty))) H):=by
  intro pQ s O H x y v u Q I b a h;obtain⟨i,j,rfl,rfl,q⟩:=h;obtain⟨t,rfl⟩:=b;obtain⟨c,rfl⟩:=a;exact notIn_str ⟨.bl _,H,I,rfl,q⟩
def call_len_seq:CallR X (.builtin "len") (λxs H Q=>∃ p b,xs=[.ref p]/\(SqL X.K H p b\/SqT X.K H p b)/\Q (.int b.length) H):=by
  intro pQ s O H xs us Q I r h;obtain⟨p,b,rfl,hq,q⟩:=h;obtain⟨u,rfl,e⟩:=vals1 r;cases e;have g:=line63;rcases hq with hq|hq
  . obtain⟨its,c,d,f⟩:=I.list hq
    have a:=c.length;exact Calls.call_len_list d.isList (by simp only[aH]<;>omega) ⟨.int b.length,H,I.tok _,⟨s.toks+1,by rw[aH,a]⟩,q⟩
  . obtain⟨its,c,d,f⟩:=I.tuple hq
    have a:=c.length;exact len_tuple d (by simp only[aH]<;>omega) ⟨.int b.length,H,I.tok _,⟨s.toks+1,by rw[aH,a]⟩,q⟩
def call_list_of:CallR X (.type "list") (λxs H Q=>∃ p c,xs=[.ref p]/\(SqL X.K H p c\/SqT X.K H p c)/\∀ l,H l=ab->Q (.ref l) (upd H l (.lst c))):=by
  intro pQ s O H xs us Q I r h;obtain⟨p,c,rfl,hq,q⟩:=h;obtain⟨u,rfl,y⟩:=vals1 r;cases y;have j:∀ (its:Li vL),Vals c its->c.length<=ay->∀ (a:br) (f:Nat),(∀ b x,s.heap.get? b=aa x->a.get? b=aa x)->
      a.get? s.heap.objs.size=aa { cls:=.type "list",dict:=ab,data:=.seq its.toArray f,slots:=#[] }->EP X pQ O Q (.ref s.heap.objs.size) { s with heap:=a }:=λits d g a f kp e=>
    ⟨.ref s.heap.objs.size,_,I.laid (t':=s.toks) kp (aB _) (show ObjOk X.prog X.w _ a _ (.lst c) from⟨g,its,f,d,e⟩),rfl,q _ (I.hok.fresh (aB _))⟩
  rcases hq with hq|hq
  . obtain⟨its,d,k,g⟩:=I.list hq
    have i:=d.length;obtain⟨o,m,v,n,t⟩:=k.isList;exact call_list_seq p (.inl rfl) m v t (λa f kp e=>j its d g a f kp e) (by simp only[aH]<;>omega)
  . obtain⟨its,d,k,g⟩:=I.tuple hq
    have i:=d.length;obtain⟨o,m,v,n,t⟩:=k;exact call_list_seq p (.inr rfl) m v t (λa f kp e=>j its d g a f kp e) (by simp only[aH]<;>omega)
def call_tuple_of:CallR X (.type "tuple") (λxs H Q=>∃ p a,xs=[.ref p]/\((SqL X.K H p a/\∀ l,H l=ab->Q (.ref l) (upd H l (.tup a)))\/(SqT X.K H p a/\Q (.ref p) H))):=by
  intro pQ s O H xs us Q I r h;obtain⟨p,a,rfl,h⟩:=h;obtain⟨u,rfl,m⟩:=vals1 r;cases m;rcases h with⟨g,q⟩|⟨g,q⟩
  . obtain⟨its,d,f,i⟩:=I.list g
    have j:=d.length;refine call_tuple_list f.isList (λc kp=>?_) (by simp only[aH]<;>omega)
    have k:Inv X pQ O H { s with heap:=c }:=I.kept (t':=s.toks) kp
    have n:Inv X pQ O (upd H c.objs.size (.tup a)) { s with heap:=c.push { cls:=.type "tuple",data:=.seq its.toArray } }:=
      k.laid (t':=s.toks) (λb o e=>aT _ e) (aB _) (show ObjOk X.prog X.w _ _ _ (.tup a) from⟨i,its,d,IsTup.new _ _⟩)
    exact⟨.ref c.objs.size,_,n,rfl,q _ (k.hok.fresh (aB _))⟩
  . obtain⟨its,d,f,i⟩:=I.tuple g
    exact call_tuple_same f ⟨.ref p,H,I,rfl,q⟩
def tyV(K:Fg)(T:String)(x:V)(H:Hp):Prop:=match x with
  |.str _=>T = "str"
  |.int _=>T = "int"
  |.ref p=>(T = "list"/\∃ xs,SqL K H p xs)\/(T = "tuple"/\∃ o,K.lookup p=aa o/\o.cls=.type "tuple"/\o.dict=ab) \/
      (T = "dict"/\((∃ a,H p=aa (.dK a))\/∃ a,H p=aa (.dT a)))\/(T = "set"/\∃ S n,H p=aa (.set S n))
  |_=>False
def tyV_is{O:St}{H:Hp}{T:String}{v:vL}(I:Inv X pQ O H s)(r:RelV x v)(ty:tyV X.K T x H) :
    s.TypeIs v T/\∀ a,v=.ref a->∃ j,s.heap.get? a=aa j/\j.dict=ab:=by
  cases x with
  |str z=>
    obtain⟨t,rfl⟩:=r;cases (show T = "str" from ty)
    exact⟨typeIs_str s z t,λ_ e=>nomatch e⟩
  |int i=>
    obtain⟨t,rfl⟩:=r;cases (show T = "int" from ty)
    exact⟨typeIs_int s i t,λ_ e=>nomatch e⟩
  |ref p=>
    cases r;rcases ty with⟨rfl,xs,k⟩|⟨rfl,o,b,l,f⟩|⟨rfl,b⟩|⟨rfl,S,n,b⟩
    . obtain⟨its,_,h,_⟩:=I.list k
      refine⟨h.isList.typeIs,λa e=>?_⟩
      cases e;obtain⟨o,n,e,c,f,_⟩:=h;exact⟨o,e,f⟩
    . refine⟨⟨o,I.kIn p o b,l⟩,λa e=>?_⟩
      cases e;exact⟨o,I.kIn _ o b,f⟩
    . have z:∃ o,s.heap.get? p=aa o/\o.ExactDict:=by
        rcases b with⟨d,b⟩|⟨d,b⟩
        . obtain⟨_,_,_,_,o,_,_,e,ex,_⟩:=I.hok p _ b
          exact⟨o,e,ex⟩
        . obtain⟨_,_,_,_,o,_,_,e,ex,_⟩:=I.hok p _ b
          exact⟨o,e,ex⟩
      obtain⟨o,e,ex⟩:=z;refine⟨⟨o,e,ex.1⟩,λa g=>?_⟩
      cases g;exact⟨o,e,ex.2.1⟩
    . obtain⟨o,_,_,_,e,ex,_⟩:=I.hok p _ b
      refine⟨⟨o,e,ex.1⟩,λa g=>?_⟩
      cases g;exact⟨o,e,ex.2.1⟩
  |_=>exact False.elim ty
def tBM0(K:Fg)(T:String)(r:V->Li V->Hp->VK->Prop)(b:TE):TE:=λO H Q=>b O H λx a=>tyV K T x a/\r x [] a Q
def tBM(K:Fg)(T:String)(r:V->Li V->Hp->VK->Prop)(b:TE)(t:TA):TE:=λO H Q=>b O H λx a=>tyV K T x a/\t O a λxs c=>r x xs c Q
variable{o:az}{es:Li az}{to:TE}{t:TA}{name:Str}{apos cpos:Pos}{T id:String}{r:V->Li V->Hp->VK->Prop}
def pe_bm0(g:PlainAttrs T)(slot:Slot T name id)(c:typeOf (.builtin id)=pure (.type "method_descriptor"))(j:MtR X id r)(i:PE X o to)(b:attributeBase o name X.env (eval o X.env)=eval o X.env:=by rfl)(a:(apos.endLine==cpos.line)=ae:=by rfl):PE X (.Call (.Attribute o name apos) [] [] cpos) (tBM0 X.K T r to):=by
  intro pQ s O H Q I h;refine wpAny_Call_method0_late b a (thn (i pQ s O H _ I h) λv s1 ⟨x,m,e,d,ty,f⟩=>?_)
  obtain⟨l,k⟩:=tyV_is e d ty;exact⟨T,id,g,slot,c,l,k,Calls.callWith_builtin rfl (PySem.evalArgs_none (j pQ s1 O m x [] v [] Q e d .nil f))⟩
def pe_bm(q:PlainAttrs T)(slot:Slot T name id)(f:typeOf (.builtin id)=pure (.type "method_descriptor"))(y:MtR X id r)(w:PE X o to)(z:PA X (e :: es) t)(c:attributeBase o name X.env (eval o X.env)=eval o X.env:=by rfl)(d:((backTo cpos (bj (e :: es) X.env)).all (λx=>!x.1)&&(backToKw cpos (keywordEach [] X.env)).all (λx=>x.1.isSome)
     &&ak ((e :: es).length+([]:Li Keyword).length+(if ([]:Li Keyword).isEmpty then 0 else 1) < 30))=ae:=by rfl)(b:(apos.endLine==cpos.line)=ae:=by rfl)(u:bj (e :: es) X.env=(af,eval e X.env) :: bj es X.env:=by rfl)(a:(backTo cpos (bj es X.env)).any (·.1)=af:=by rfl) :
    PE X (.Call (.Attribute o name apos) (e :: es) [] cpos) (tBM X.K T r to t):=by
  intro pQ s O H Q I h;refine wpAny_Call_method_late c d b rfl (thn (w pQ s O H _ I h) λv s1 ⟨x,E,j,g,ty,p⟩=>?_)
  obtain⟨B,A⟩:=tyV_is j g ty;refine⟨T,id,q,slot,f,B,A,?_⟩;have i:=z cpos pQ s1 O E _ j p;rw[u]at i ⊢;refine Calls.callWith_builtin (by show(af||(backTo cpos (bj es X.env)).any (·.1))=af;rw[a]<;>rfl) (Calls.evalArgs_plain ?_)
  exact thn i λus l ⟨k,D,C,m,n⟩=>y pQ l O D x k v us Q C g m n
end
def MtM(X:Cx)(id:String)(r:V->Li V->Hp->VK->Prop):Prop:=
  ∀ (pQ:Li (Ad×Obj)) (s:Sd) (O:St) (H:Hp) (x:V) (xs:Li V) (v:vL) (us:Li vL) (Q:VK),Inv X pQ O H s->RelV x v->Vals xs us->r x xs H Q->
    bf (bg X.prog X.w) X.A (call (.builtin id) (v :: us)) (EP X pQ O Q) X.xe s
def Vals.one(h:Vals [x] us):∃ u,us=[u]/\RelV x u:=by
  cases h with
  |cons r h=>cases h;exact⟨_,rfl,r⟩
def Vals.two(h:Vals [x,y] us):∃ u v,us=[u,v]/\RelV x u/\RelV y v:=by
  cases h with
  |cons r h=>cases h with
    |cons q h=>cases h;exact⟨_,_,rfl,r,q⟩
def Vals.zero:∀ {us:Li vL},Vals [] us->us=[]
  |_,.nil=>rfl
theorem Vals.dropLast(h:Vals xs us):Vals xs.dropLast us.dropLast:=by
  induction h with
  |nil=>exact .nil
  |cons r t a=>
    cases t with
    |nil=>exact .nil
    |cons q b=>exact .cons r a
theorem Vals.eraseIdx:∀ {xs:Li V}{us:Li vL} (i:Nat),Vals xs us->Vals (xs.eraseIdx i) (us.eraseIdx i)
  |_,_,_,.nil=>.nil
  |_,_,0,.cons _ t=>t
  |_,_,i+1,.cons r t=>.cons r (Vals.eraseIdx i t)
theorem Vals.rep(h:Vals xs us):∀ k:Nat,Vals (ag k xs).flatten (ag k us).flatten
  |0=>.nil
  |k+1=>by
    rw[dB,dB,dC,dC];exact Vals.append h (Vals.rep h k)
def erase_last(l:Li α):l.eraseIdx (l.length - 1)=l.dropLast:=by
  induction l with
  |nil=>rfl
  |cons a r c=>
    cases r with
    |nil=>rfl
    |cons b r=>
      have e:(a :: b :: r).length - 1=((b :: r).length - 1)+1:=by
        have f:(a :: b :: r).length=r.length+2:=rfl;have d:(b :: r).length=r.length+1:=rfl;omega
      rw[e,List.eraseIdx_cons_succ,c]
      all_goals rfl
theorem len_erase{α:Type}:∀ (l:Li α) (i:Nat),(l.eraseIdx i).length<=l.length
  |[],_=>aB _
  |_ :: _,0=>Nat.le_succ _
  |_ :: r,i+1=>eU (len_erase r i)
theorem foldl_rep(its:Li vL):∀ (k:Nat) (a:Li vL),
    List.foldl (λc b=>c++b) a.toArray (ag k its.toArray)=(a++(ag k its).flatten).toArray
  |0,a=>by simp
  |k+1,a=>by
    have e:a.toArray++its.toArray=(a++its).toArray:=by simp
    have d:(a++its)++(ag k its).flatten=a++(ag (k+1) its).flatten:=by
      rw[dB,dC,aM]
    rw[<-d,<-foldl_rep its k (a++its),<-e,dB,List.foldl_cons]
variable{pQ:Li (Ad×Obj)}{s:Sd}{xs:Li V}
section
variable{O:St}{H:Hp}{l b:Ad}{ys zs:Li V}
def Inv.lset{f:Array vL->Array vL}{a:Nat}(I:Inv X pQ O H s)(i:H l=aa (.lst xs))(e:s.heap.get? l=aa { cls:=.type "list",data:=.seq its.toArray n })(g:f its.toArray=its'.toArray)(c:Vals ys its')(b:ys.length<=ay) :
    Inv X pQ O (upd H l (.lst ys)) { s with heap:=s.heap.update l (Obj.mapSeq f),toks:=a }:=by
  have q:=PySem.IsL.update e f;rw[g]at q;refine I.write (x:=l) (e:=l) (by rw[i];exact trivial) (.inl rfl) (λj u h d=>(Heap.get?_update_other s.heap (Obj.mapSeq f) (Ne.symm h)).trans d) ⟨_,q⟩ ?_
  exact⟨b,its',_,c,q⟩
def Inv.lnew{t':Nat}(I:Inv X pQ O H s)(b:Vals ys its)(a:ys.length<=ay) :
    Inv X pQ O (upd H s.heap.objs.size (.lst ys)) { s with heap:=s.heap.push { cls:=.type "list",data:=.seq its.toArray },toks:=t' }:=
  I.laid (λ_ _ q=>aT _ q) (aB _) ⟨a,its,0,b,bT _ rfl⟩
theorem Inv.fresh(I:Inv X pQ O H s):H s.heap.objs.size=ab:=I.hok.fresh (aB _)
def Inv.lstM(I:Inv X pQ O H s)(a:H l=aa (.lst xs)):xs.length<=ay/\∃ (its:Li vL) (n:Nat),Vals xs its/\xs.length=its.length/\s.heap.get? l=aa { cls:=.type "list",data:=.seq its.toArray n }:=by
  obtain⟨z,its,n,r,e⟩:=I.hok l _ a;exact⟨z,its,n,r,r.length,e⟩
def notLongL(h:n<=ay):Builtin.List.listTooLong n=af:=by
  unfold Builtin.List.listTooLong;exact aI (by omega)
end
def rAppend:V->Li V->Hp->VK->Prop:=λx a H Q=>∃ l xs y,x=.ref l/\a=[y]/\H l=aa (.lst xs)/\xs.length < ay/\Q .non (upd H l (.lst (xs++[y])))
theorem mt_append:MtM X "list.append" rAppend:=by
  intro pQ s O H x d v us Q I b rv h;obtain⟨l,xs,y,rfl,rfl,a,f,q⟩:=h;cases b;obtain⟨u,rfl,c⟩:=rv.one;obtain⟨z,its,n,r,g,e⟩:=I.lstM a;refine call_meets F.slot_list_append ⟨_,e,rfl⟩ F.entry_list_append (F.args_list_append_2 _ _) (PySem.list_append l its.toArray n u (by rw[aH];omega)) ⟨e,?_⟩
  refine⟨.non,_,I.lset (its':=its++[u]) a e (by simp) (r.append (.cons c .nil)) ?_,rfl,q⟩
  rw[aG,fN];omega
def rExtend:V->Li V->Hp->VK->Prop:=λx c H Q=>∃ l b xs a,x=.ref l/\c=[.ref b]/\H l=aa (.lst xs)/\H b=aa (.lst a)/\xs.length+a.length<=ay/\Q .non (upd H l (.lst (xs++a)))
theorem mt_extend:MtM X "list.extend" rExtend:=by
  intro pQ s O H x y v us Q I g rv h;obtain⟨l,b,xs,t,rfl,rfl,f,o,A,q⟩:=h;cases g;obtain⟨u,rfl,i⟩:=rv.one;cases i;obtain⟨z,its,n,r,B,e⟩:=I.lstM f;obtain⟨w,a,k,j,m,p⟩:=I.lstM o;have d:its.toArray.size+a.toArray.size<=ay:=by rw[aH,aH];omega
  have c:¬(!its.toArray.isEmpty&&Builtin.List.listTooLong (its.toArray.size+a.toArray.size))=ae:=by
    rw[notLongL d,Bool.and_false];exact Bf
  refine call_meets F.slot_list_extend ⟨_,e,rfl⟩ F.entry_list_extend (F.args_list_extend_2 _ _)
    (AutoSeq1.list_extend_list_list_0 l its.toArray n b a.toArray k c (by rw[aH];omega) (by omega)) ⟨e,p,?_⟩
  refine⟨.non,_,I.lset (its':=its++a) f e (by simp) (r.append j) ?_,rfl,q⟩
  rw[aG];omega
def rPop:V->Li V->Hp->VK->Prop:=λx a H Q=>∃ l xs y,x=.ref l/\a=[]/\H l=aa (.lst xs)/\xs[xs.length - 1]?=aa y/\Q y (upd H l (.lst xs.dropLast))
theorem mt_pop:MtM X "list.pop" rPop:=by
  intro pQ s O H x k v us Q I d rv h;obtain⟨l,xs,y,rfl,rfl,c,g,q⟩:=h;cases d;have b:=rv.zero;subst b;obtain⟨z,its,n,r,j,e⟩:=I.lstM c;obtain⟨u,i,f⟩:=r.get g;have a:its.toArray[its.toArray.size - 1]?=aa u:=by
    show its.toArray[its.length - 1]?=aa u;rw[<-eJ,<-j];exact i
  refine call_meets F.slot_list_pop ⟨_,e,rfl⟩ F.entry_list_pop (F.args_list_pop_1 _) (MeetsSeq.list_pop_last l its.toArray n u a (by rw[aH];omega)) ⟨e,?_⟩
  refine⟨y,_,I.lset (its':=its.dropLast) c e ?_ r.dropLast ?_,f,q⟩
  . show its.toArray.eraseIdxIfInBounds (its.toArray.size - 1)=its.dropLast.toArray
    rw[aH,List.eraseIdxIfInBounds_toArray,erase_last]
  . rw[List.length_dropLast]
    omega
def rPopAt:V->Li V->Hp->VK->Prop:=λx a H Q=>∃ l xs i k y,x=.ref l/\a=[.int i]/\H l=aa (.lst xs)/\-(2 ^ 63)<=i/\i < 2 ^ 63/\seqIndex? i xs.length=aa k/\xs[k]?=aa y/\Q y (upd H l (.lst (xs.eraseIdx k)))
theorem mt_popAt:MtM X "list.pop" rPopAt:=by
  intro pQ s O H x A v us Q I c rv h;obtain⟨l,xs,i,k,y,rfl,rfl,b,p,o,m,f,q⟩:=h;cases c;obtain⟨u,rfl,d⟩:=rv.one;obtain⟨t,rfl⟩:=d;obtain⟨z,its,n,r,j,e⟩:=I.lstM b;obtain⟨w,g,a⟩:=r.get f;refine call_meets F.slot_list_pop ⟨_,e,rfl⟩ F.entry_list_pop (F.args_list_pop_2 _ _)
    (MeetsSeq.list_pop_at l its.toArray n i t k w (fitsIndex_both p o) (by rw[aH,<-j];exact m) (by rw[<-eJ];exact g) (by rw[aH];omega)) ⟨e,?_⟩
  refine⟨y,_,I.lset (its':=its.eraseIdx k) b e ?_ (r.eraseIdx k) ?_,a,q⟩
  . show its.toArray.eraseIdxIfInBounds k=(its.eraseIdx k).toArray
    rw[List.eraseIdxIfInBounds_toArray]
  . have:=len_erase xs k
    omega
def rRep:R2:=λx y H Q=>∃ l k xs,x=.ref l/\y=.int k/\H l=aa (.lst xs)/\-(2 ^ 63)<=k/\k < 2 ^ 63/\xs.length * k.toNat<=ay /\
  ∀ p,H p=ab->Q (.ref p) (upd H p (.lst (ag k.toNat xs).flatten))
def len_rep(xs:Li α)(k:Nat):(ag k xs).flatten.length=k * xs.length:=by
  induction k with
  |zero=>simp
  |succ k a=>rw[dB,dC,aG,a,Nat.succ_mul,Nat.add_comm]
theorem op_rep:OpR X (bx .Mult) rRep:=by
  intro pQ s O H x y v u Q I A w h;obtain⟨l,k,xs,rfl,rfl,C,E,D,o,q⟩:=h;cases A;obtain⟨t,rfl⟩:=w;obtain⟨z,its,n,r,B,e⟩:=I.lstM C;have d:its.toArray.size * k.toNat<=ay:=by rw[aH,<-B];exact o
  have g:¬its.toArray.size * k.toNat > (2 ^ 63 - 1) / 8:=by
    have:(ay:Nat)<=(2 ^ 63 - 1) / 8:=by decide
    omega
  have f:¬(!Builtin.List.listFitsIndex k)=ae:=by
    rw[fitsIndex_both E D];exact Bf
  have b:¬Builtin.List.listTooLong (its.toArray.size * k.toNat)=ae:=by
    rw[notLongL d];exact Bf
  have c:List.foldl (λj i=>j++i) #[] (ag (if its.toArray.isEmpty=ae then 0 else k.toNat) its.toArray)=(ag k.toNat its).flatten.toArray:=by
    have G:∀ m:Nat,List.foldl (λj i=>j++i) #[] (ag m its.toArray)=(ag m its).flatten.toArray:=λm=>by
      have:=foldl_rep its m [];rw[eK]at this;exact this
    rw[G];cases its with
    |nil=>simp
    |cons a J=>rw[ar (by simp)]
  refine wpAny_binaryOp_repeat_ref (T := "list") (U := "int") (by decide) ⟨_,e,rfl⟩ (λp=>typeIs_int p k t) noFill_list_mul F.fills_int_mul F.slot_int_rmul repeat_list F.slot_int_index.lookup
    (call_meets F.slot_int_rmul (typeIs_int s k t) F.entry_int_rmul (F.args_int_rmul_2 _ _) (int___rmul___int_list k t l its.toArray n)
      ⟨e,rfl,⟨_,e,rfl⟩,call_meets F.slot_list_mul ⟨_,e,rfl⟩ F.entry_list_mul (F.args_list_mul_2 _ _) (AutoListH.list___mul___list_int_3 l its.toArray n k t f g b) ⟨e,?_⟩⟩)
  rw[c];exact⟨.ref _,_,I.lnew (t':=s.toks) (r.rep k.toNat) (by rw[len_rep,Nat.mul_comm];exact o),rfl,q _ I.fresh⟩
section
variable{prog:bh}{w:bt}{A:bw}{E:vL->Sd->Prop}
end
end L2
namespace Att
open PySem PySem.W PySem.Calls PyProof.Rows
variable{h:br}
def ints_of_wellAll{P:Params}:∀ (c:Li Int) (d:Li vL),WellAll P h d (c.map WData.int)->IntsAre d c:=by
  intro c
  induction c with
  |nil=>
    intro d w;rw[List.map_nil]at w;cases w;exact .nil
  |cons n c e=>
    intro d w;rw[aZ]at w;cases w with
    |cons a b=>
      cases a;exact .cons _ _ (e _ b)
variable{l:OpenLaw}
def script_of{n:Nat}(w:l.most=aa n){P:Params}{args:Li WData}{c:Li vL}(e:l.row.toRowW.claim.pre args=ae)(k:WellAll P h c args) :
    ∃ a o b,c=[b5 a]/\args=[WData.list (b.map WData.int)]/\h.get? a=aa { cls:=.type "list",data:=.seq o.toArray }/\IntsAre o b/\b.length<=n:=by
  have m:WShape.hasAll [] args [.list .int]=ae:=(pre_splitW e).1;have p:l.pre.holds [] { args:=args }=ae:=(pre_splitW e).2;obtain⟨d,r,rfl,z,y⟩:=hasAllW_cons m;obtain rfl:=hasAllW_nil y;obtain⟨A,rfl,x⟩:=hasW_list z;obtain⟨b,rfl⟩:=items_int x;have f:b.length<=n:=by
    unfold OpenLaw.pre at p;have j:(WTm.not (.lt (.lit (.int (n:Int))) (.len (.arg 0)))).holds [] { args:=[.list (b.map .int)] }=ae:=by
      have j:=(holds_andW p).1;rw[w]at j;exact j
    have i:=condW_of j (w_not (w_lt w_lit (w_len_list (w_arg rfl))));rw[aD]at i;refine fO λq=>?_
    have u:(n:Int) < ((b.length:Nat):Int):=by omega
    first
      | (rw[aF u]at i;exact au i (by decide))
      | (simp at i;omega)
  cases k with
  |cons t s=>
    cases s;cases t with
    |list v g=>exact⟨_,_,b,rfl,rfl,v,ints_of_wellAll b _ g,f⟩
def post_true(l:OpenLaw)(args:Li WData):l.row.toRowW.claim.post args (.bool ae) args=ae:=
  postW_of (r:=l.row.toRowW) (X:=(ae==ae))
    (show WShape.has [] (.bool ae) .bool=ae by first|rfl|decide|simp[WShape.has,WShape.arms,WShape.armsAll])
    (show(WTm.eq .res (.lit (.bool ae))).value [] { args:=args,res:=aa (.bool ae),after:=args }=aa (.bool (ae==ae)) from w_eq_bool (w_res rfl) w_lit) rfl
def attach_call{n:Nat}{q:bh}{c:Li Str}{H:(Str->Ot vL)->br->Prop}{F:bt->br->Prop}{d:DefRec}(L:l.most=aa n)(z:d.params.defaults=[])(call:∀ (w:bt) (s₀ b:Sd) (mg v:Str->Ot vL) (m:Ad) (o:Obj) (u t g:vL) (a:Ad) (h:Li vL) (s:Li Int),
      Ground q c [] H w s₀ mg v b.heap->F w b.heap->
      b.heap.get? m=aa o->o.data=.func (docDef d.name d.params d.body d.scope u t g)->b.heap.CodeRec t d.name->mg d.name=aa (.ref m)->
      b.heap.get? a=aa { cls:=.type "list",data:=.seq h.toArray }->IntsAre h s->s.length<=n->b.gens=#[]->
      codeAny (bg l.prog w) callerA (.call (.ref m) ⟨[.ref a],[]⟩) (λr p=>r=.ok (.ret (.bool ae))/\OldK b.heap p.heap/\p.os=b.os/\AllBare p.gens) b) :
    WalkO q c H F l.row.toRowW d [] (λf h=>PySem.call f h):=by
  intro w s₀ b mg v G Y m o u t g T kV K P A D y O E B U i C I x N;obtain rfl:T=.none:=Dflts.none D z;obtain rfl:kV=.none:=Dflts.noKw D;obtain⟨a,h,s,rfl,rfl,j,e,k⟩:=script_of L i x;refine enter_call (codeAny_mono (call w s₀ b mg v m o u t g a h s G Y K (fd_plain P) A y j e k O) λr p J=>?_)
  obtain⟨rfl,S,R,Q⟩:=J;exact⟨.inl ⟨.bool ae,.bool ae,[],rfl,λ_=>rfl,.bool ae,post_true l _,λ_=>⟨List.Pairwise.nil,λ_ M=>(nomatch M)⟩⟩,S,R,Q⟩
section
variable{prog:bh}{w:bt}{A:bw}{E:vL->Sd->Prop}{s:Sd}{K:Frag}
end
end Att
namespace L2
open PySem PySem.Spec PyProof.Rows
theorem vals_ints:∀ {vs:Li vL}{ns:Li Int},IntsAre vs ns->Vals (ns.map V.int) vs
  |_,_,.nil=>.nil
  |_,_,.cons n t h=>.cons ⟨t,rfl⟩ (vals_ints h)
def Only(H:Hp):Prop:=∀ b,H b=ab\/∃ o a,H b=aa (.frz o (.lst a))
variable{w:bt}
def law_call{P:bh}{K:Fg}{mg Q:Str->Ot vL}{CX:CXT}{k:Nat}{W a:Ad}{fd:bq}{x:Str}{Y:Sp}{c:Sd}{p:Li vL}{A:Li Int}(KX:K.In c.heap)(E:c.heap.Ns a9 mg)(g:c.heap.Ns builtinsNs Q)(T:∀ x:Str,x ≠ "__name__"->Q x=bo x)(G:c.heap.NoLimit)(hg:c.gens=#[])(N:c.heap.get? a=aa { cls:=.type "list",data:=.seq p.toArray })(hi:IntsAre p A)(Z:A.length<=ay)(hr:Room k callerA)(F:∀ base:br,K.In base->base.Ns a9 mg->FnOk P w K mg base CX k W fd [x] Y)(t:∀ (s:Sd) (u:vL),BindsTo s fd ⟨[u],[]⟩ [(x,u)])(R:∀ H:Hp,Only H->SqL K H a (A.map V.int)->Y [.ref a] H (λv _=>v=.bl ae) λ_ _ _=>False)(U:∀ H e i,CX [] H c (λ_ _ _=>False) e i->False) :
    codeAny (bg P w) callerA (.call (.ref W) ⟨[.ref a],[]⟩) (λr i=>r=.ok (.ret (.bool ae))/\OldK c.heap i.heap/\i.os=c.os/\AllBare i.gens) c:=by
  have rv:=vals_ints hi;have B:=hi.length
  -- from an abstract heap in which nothing but the script may be tracked
  have l:∀ H:Hp,Only H->SqL K H a (A.map V.int)->HOk P w H c.heap->(∀ b,H b≠ab->b=a)->(H a≠ab->K.lookup a=ab)->
      codeAny (bg P w) callerA (.call (.ref W) ⟨[.ref a],[]⟩) (λr i=>r=.ok (.ret (.bool ae))/\OldK c.heap i.heap/\i.os=c.os/\AllBare i.gens) c:=by
    intro H hO hS D hA hK;have f:∀ {b:Ad}{o:Obj},c.heap.get? b=aa o->H b=ab->(hidT c.heap H).get? b=aa o:=λe n=>hidT_get e n
    have O:∀ {b:Ad}{o:Obj}{J:Array DictEntry}{L:Nat},c.heap.get? b=aa o->o.data=.dict J L->H b=ab:=λ{b o J L} e d=>by
      cases q:H b with
      |none=>rfl
      |some u=>
        have X:b=a:=hA b (by rw[q];simp)
        subst X;rw[N]at e;cases e
        have d':Data.seq p.toArray _=Data.dict J L:=d;cases d'
    have j:∀ {b:Ad}{m:Str->Ot vL},c.heap.Ns b m->(hidT c.heap H).Ns b m:=λ{b m} ⟨o,J,L,e,d,r⟩=>⟨o,J,L,f e (O e d),d,r⟩
    have I:K.In (hidT c.heap H):=λb o e=>f (KX b o e) (by
      cases q:H b with
      |none=>rfl
      |some u=>
        have X:b=a:=hA b (by rw[q];simp)
        subst X;rw[hK (by rw[q];simp)]at e;cases e)
    have hM:Mod K mg (hidT c.heap H):=⟨I,j E,⟨Q,j g,T⟩,let ⟨mc,h1,h2⟩:=G;⟨mc,j h1,h2⟩⟩
    have e0:Env0 P w K mg (hidT c.heap H) callerA [] c H:=⟨rfl,hM,λb o e=>of_hidT e,cU (hidT_size _ _),trivial,λb g=>au (show b∈([]:Li Ad) from g) (by simp),D,.of_eq hg⟩
    refine codeAny_mono ((F _ I (j E)).run callerA [] c H ⟨[.ref a],[]⟩ [.ref a] [.ref a] _ _ hr e0 (t c (.ref a)) (.cons rfl .nil) (R H hO hS)) λr i h=>?_
    cases r with
    |error e=>exact(U H e i h).elim
    |ok fl=>
      cases fl with
      |next=>exact False.elim h
      |brk=>exact False.elim h
      |cont=>exact False.elim h
      |ret u=>
        obtain⟨v,H',os,M,un,C,r',q⟩:=h;have q':v=.bl ae:=q;subst q';obtain rfl:u=Value.bool ae:=r';refine⟨rfl,OldK.of_keep λb o e=>?_,os,M⟩
        cases q:H b with
        |none=>exact un.keep b o e q (by intro z;exact au (show b∈([]:Li Ad) from z) (by simp)) (by simp)
        |some u=>
          rcases hO b with z|⟨ob,xs,z⟩
          . rw[q]at z;cases z
          . have z2:=un.frzs b ob _ z
            obtain⟨e1,_⟩:=D b _ z;obtain⟨e2,_⟩:=C b _ z2;rw[e]at e1;cases e1
            exact e2
  cases S:K.lookup a with
  |some o=>
    -- the script is one of the module's own objects
    have e:=KX a o S;rw[N]at e;cases e;refine l (λ_=>ab) (λ_=>.inl rfl) (.inr ⟨_,p.toArray,_,S,rfl,rfl,rfl,by rw[aH,B];exact Z,by simpa using rv⟩) (λb u z=>by have y:(ab:Ot HO)=aa u:=z;cases y) (λb z=>au rfl z) λz=>au rfl z
  |none=>
    refine l (λb=>if b=a then aa (.frz { cls:=.type "list",data:=.seq p.toArray } (.lst (A.map V.int))) else ab) (λb=>?_) (.inl (.inr ⟨{ cls:=.type "list",data:=.seq p.toArray },aq rfl⟩)) (λb u z=>?_) (λb z=>?_) λ_=>S
    . by_cases g:b=a
      . exact .inr ⟨_,_,aq g⟩
      . exact .inl (ar g)
    . by_cases g:b=a
      . have y:=(aq g).symm.trans z
        cases y;subst g;exact⟨N,by rw[aD];exact Z,p,_,rv,N⟩
      . have y:=(ar g).symm.trans z
        cases y
    . by_cases g:b=a
      . exact g
      . exact au (ar g) z
def walk_of{l:W.OpenLaw}{n k:Nat}{q:bh}{i:Li Str}{XP:(Str->Ot vL)->br->Prop}{J:bt->br->Prop}{d:DefRec}{K:Params->Fg}{CX:bt->CXT}{sp:bt->Sp}{x:Str}(N:l.most=aa n)(A:n<=ay)(C:d.params.defaults=[])(M:Room k callerA)(R:∀ (w:bt) (h:br),J w h->(K w.params).In h)(F:∀ (w:bt) (mg:Str->Ot vL) (t:Ad) (h:br),(K w.params).In h->h.Ns a9 mg->mg d.name=aa (.ref t)->
      ∃ fd:bq,(∀ (s:Sd) (u:vL),BindsTo s fd ⟨[u],[]⟩ [(x,u)]) /\
        ∀ base:br,(K w.params).In base->base.Ns a9 mg->FnOk l.prog w (K w.params) mg base (CX w) k t fd [x] (sp w))(z:∀ (w:bt) (H:Hp) (a:Ad) (r:Li Int),r.length<=n->Only H->SqL (K w.params) H a (r.map V.int)->sp w [.ref a] H (λv _=>v=.bl ae) λ_ _ _=>False)(D:∀ (w:bt) (H:Hp) (s:Sd) (e:vL) (y:Sd),CX w [] H s (λ_ _ _=>False) e y->False) :
    W.WalkO q i XP J l.row.toRowW d [] (λf E=>PySem.call f E):=by
  refine Att.attach_call N C λw I m mg mb t o pm cd Z a E r G Y ho hd P B p j c O=>?_
  have L:=R w _ Y;obtain⟨fd,Q,X⟩:=F w mg t _ L G.T.g B;exact law_call L G.T.g G.T.b G.T.builtins G.T.nolimit O p j (aK c A) M X Q (λH U S=>z w H a r c U S) λH e y=>D w H m e y
noncomputable def defArgs(s:Stmt):Arguments:=match s with
  |.FunctionDef _ a _ _ _ _ _ _ _ _=>a
  |_=>{ posonlyargs:=[],args:=[],vararg:=ab,kwonlyargs:=[],kw_defaults:=[],kwarg:=ab,defaults:=[] }
noncomputable def defBody(s:Stmt):Li Stmt:=match s with
  |.FunctionDef _ _ b _ _ _ _ _ _ _=>b
  |_=>[]
noncomputable def defScope(s:Stmt):bp:=match s with
  |.FunctionDef _ _ _ _ _ _ sc _ _ _=>sc
  |_=>{ kind:=.function,names:=[],isGenerator:=af,isCoroutine:=af }
noncomputable abbrev CX0:CXT:=λ_ _ _ _ _ _=>False
abbrev E0:XK:=λ_ _ _=>False
variable{X:Cx}
def pass0:Passes CX0 X E0:=λ_ _ _ _ _ _ _ h=>h.elim
structure Fun(K:Fg)(x qual:Str)(st:Stmt)(f:Addr)(fd:bq):Prop where
  ex:∃ (oc:Value) (od:Option Addr) (kV doc pm:Value) (an:Option Addr) (cdv ct:Value) (osl:Array (Option Value)),
    fd=W.fnOf x qual (defArgs st) (defBody st) (defScope st) .none kV doc pm an cdv ct/\K.lookup f=aa ⟨oc,od,.func fd,osl⟩/\W.codeIn K cdv qual=ae
  kp:W.keepIn K (.ref f)=ae
variable{P:bh}{w:bt}
section
variable{K:Fg}{mg:Str->Ot vL}{base:br}
end
variable{X:Cx}
variable{y:V}{u:vL}
section
variable {κ:Type} [DecidableEq κ]
noncomputable def valV(a:Li (κ×V))(k:κ):Ot V:=(a.find? λb=>ak (b.1=k)).map (·.2)
noncomputable def putK(a:Li (κ×V))(k:κ)(v:V):Li (κ×V):=
 if (a.any λb=>ak (b.1=k))=ae then a.map (λb=>if b.1=k then (b.1,v) else b) else a++[(k,v)]
def valV_pos{p:κ×V}{r:Li (κ×V)}{k:κ}(e:p.1=k):valV (p :: r) k=aa p.2:=by simp[valV,dQ,e]
def valV_neg{p:κ×V}{r:Li (κ×V)}{k:κ}(e:¬p.1=k):valV (p :: r) k=valV r k:=by simp[valV,dQ,e]
def length_putK(a:Li (κ×V))(k:κ)(v:V):(putK a k v).length<=a.length+1:=by
 unfold putK;split
 .rw[aD];omega
 .rw[aG,aY,dD];omega
def RelO.isSome_eq{o:Ot V}{u:Ot vL}(r:RelO o u):o.isSome=u.isSome:=by
 cases o with
 |none=>cases u with
  |none=>rfl
  |some _=>exact(show False from r).elim
 |some _=>cases u with
  |none=>exact(show False from r).elim
  |some _=>rfl
def KV.val{a:Li (κ×V)}{f:Li (κ×vL)}(r:KV a f)(k:κ):RelO (valV a k) (valueAt f k):=by
 unfold KV at r
 induction r with
 |nil=>exact True.intro
 |@cons p q l c h t i=>
  obtain⟨g,j⟩:=h;by_cases e:p.1=k
  .have d:q.1=k:=g.symm.trans e
   have b:valueAt (q :: c) k=aa q.2:=by simp[valueAt,dQ,d]
   rw[valV_pos e,b];exact j
  .have d:¬q.1=k:=λz=>e (g.trans z)
   have b:valueAt (q :: c) k=valueAt c k:=by simp[valueAt,dQ,d]
   rw[valV_neg e,b];exact i
theorem KV.any{a:Li (κ×V)}{c:Li (κ×vL)}(r:KV a c)(k:κ):(a.any λb=>ak (b.1=k))=c.any λb=>ak (b.1=k):=by
 unfold KV at r
 induction r with
 |nil=>rfl
 |cons h t d=>rw[dP,dP,d,h.1]
def KV.repl{b:Li (κ×V)}{d:Li (κ×vL)}(r:KV b d)(k:κ)(f:RelV y u) :
  KV (b.map λa=>if a.1=k then (a.1,y) else a) (d.map λa=>if a.1=k then (a.1,u) else a):=by
 unfold KV at r ⊢
 induction r with
 |nil=>exact .nil
 |@cons p q l j h t g=>
  rw[aZ,aZ];refine .cons ?_ g;obtain⟨c,i⟩:=h;by_cases e:p.1=k
  .rw[aq e,aq (c.symm.trans e)];exact⟨c,f⟩
  .rw[ar e,ar (λz=>e (c.trans z))];exact⟨c,i⟩
def KV.put{a:Li (κ×V)}{b:Li (κ×vL)}(r:KV a b)(k:κ)(c:RelV y u):KV (putK a k y) (stored b k u):=by
 unfold putK stored;rw[r.any k];by_cases e:(b.any λd=>ak (d.1=k))=ae
 .rw[aq e,aq e];exact r.repl k c
 .rw[ar e,ar e];exact Paired.snoc r ⟨rfl,c⟩
end
def kV_is{P:bh}{k:Key}(r:RelV (kV k) u):(mixKind P w).is k u=ae:=by
 cases k with
 |inl i=>obtain⟨t,e⟩:=(show ∃ t,u=Value.int i t from r);subst e;exact mixKind_int P w i t
 |inr x=>obtain⟨t,e⟩:=(show ∃ t,u=Value.str x t from r);subst e;exact mixKind_str P w x t
variable{H:Hp}{h:br}{a:Ad}
def rd_of{u:HO}(ok:HOk P w H h)(e:Rd H a u):ObjOk P w H h a u:=e.ok ok
def dk_rd{b:Li (Key×V)}(ok:HOk P w H h)(e:Rd H a (.dK b)):b.length<=ay/\(a==bv)=af/\∃ c,KV b c/\h.DictOf (mixKind P w) a c:=
 show ObjOk P w H h a (.dK b) from rd_of ok e
def dk_of{b:Li (Key×V)}(ok:HOk P w H h)(e:H a=aa (.dK b)):b.length<=ay/\(a==bv)=af/\∃ c,KV b c/\h.DictOf (mixKind P w) a c:=dk_rd ok (.inl e)
variable{h':br}
variable{y:V}{u:vL}
section
variable{pQ:Li (Ad×Obj)}{O:St}{s:Sd}{v:V}{r:vL}{o:Ot V}{A:bw}{E:vL->Sd->Prop}
def Inv.big(I:Inv X pQ O H s):bv < s.heap.objs.size:=by
 have h:a9 < s.heap.objs.size:=(I.mod.glob.keeps I.bk).lt;exact eV (by decide) h
def d_write{d:Nat}{c:HO}(I:Inv X pQ O H s)(mu:Mut (H a))(f:Heap.SameBut a s.heap h')(g:∃ q,h'.get? a=aa q)(new:ObjOk X.prog X.w (upd H a c) h' a c) :
  Inv X pQ O (upd H a c) { s with heap:=h',toks:=d }:=
 I.write (x:=a) (e:=a) mu (.inl rfl) (λb q h z=>(f.2 b h).trans z) g new
def dk_new{P:bh}{e:Hp}{b:Li (Key×V)}{c:Li (Key×vL)}(z:b.length<=ay)(hd:(a==bv)=af)(d:KV b c)(dd:h'.DictOf (mixKind P w) a c) :
  ObjOk P w e h' a (.dK b):=⟨z,hd,c,d,dd⟩
end
variable{H:Hp}
def dk_empty{P:bh}(h:br)(a:bv < h.objs.size):ObjOk P w H (h.push { cls:=.type "dict",data:=.dict #[] }) h.objs.size (.dK []):=
 ⟨aS _,dN.mpr (Ne.symm (bG a)),[],.nil,Heap.DictOf.new h⟩
def tPairs:Li (TE×TE)->St->Hp->(Li (V×V)->Hp->Prop)->Prop
 |[],_,H,Q=>Q [] H
 | (b,a) :: r,O,H,Q=>b O H λx f=>a O f λy e=>tPairs r O e λc d=>Q ((x,y) :: c) d
abbrev VV:Li (V×V)->Li (vL×vL)->Prop:=Paired λp q=>RelV p.1 q.1/\RelV p.2 q.2
def PPs(X:Cx)(d:Pos)(b:Li (Ot az))(a:Li az)(c:Li (TE×TE)):Prop:=
 ∀ (pQ:Li (Ad×Obj)) (s:Sd) (O:St) (H:Hp) (Q:Li (V×V)->Hp->Prop),Inv X pQ O H s->tPairs c O H Q->
  bf (bg X.prog X.w) X.A (evalPairs (pairTrees b a X.env d)) (λg h=>∃ e f,Inv X pQ O f h/\VV e g/\Q e f) X.xe s
variable{pos:Pos}
def pps_nil:PPs X pos [] [] []:=λa s O H Q I h=>pairTrees_nil_walk ⟨[],H,I,.nil,h⟩
variable{trs:Li (TE×TE)}
def pps_cons{k v:az}{f:Li (Ot az)}{c:Li az}{e d:TE}(r:PE X k e)(p:PE X v d)(q:PPs X pos f c trs) :
  PPs X pos (aa k :: f) (v :: c) ((e,d) :: trs):=λb s O H Q I h=>
 pairTrees_cons_walk (thn (r b s O H _ I h) λu s1 ⟨x,C,z,j,n⟩=>thn (p b s1 O C _ z n) λE g ⟨y,B,w,i,m⟩=>
  thn (q b g O B _ w m) λD F ⟨o,A,t,a,l⟩=>⟨(x,y) :: o,A,t,.cons ⟨j,i⟩ a,l⟩)
def mergeK(a more:Li (Key×V)):Li (Key×V):=more.foldl (λb c=>putK b c.1 c.2) a
def KV.merge:∀ {more:Li (Key×V)}{rs:Li (Key×vL)}{a:Li (Key×V)}{b:Li (Key×vL)},KV more rs->KV a b->KV (mergeK a more) (merged b rs):=by
 intro more rs a b r;unfold KV at r
 induction r generalizing a b with
 |nil=>intro q;exact q
 |@cons p q g f h t d=>
  intro c;have e:KV (putK a p.1 p.2) (stored b q.1 q.2):=by
   have:=c.put p.1 h.2;rw[<-h.1];exact this
  exact d e
theorem length_mergeK:∀ (more a:Li (Key×V)),(mergeK a more).length<=a.length+more.length
 |[],a=>by show a.length<=a.length+0;omega
 |p :: r,a=>by
  have c:=length_mergeK r (putK a p.1 p.2);have b:=length_putK a p.1 p.2;show(mergeK (putK a p.1 p.2) r).length<=_;rw[aY];omega
theorem carries_of{P:bh}{w:bt}:∀ {d:Li (Key×V)}{ws:Li (vL×vL)},VV (d.map λe=>(kV e.1,e.2)) ws->∃ rs,Carries (mixKind P w) ws rs/\KV d rs
 |[],_,r=>by rw[List.map_nil]at r;cases r;exact⟨[],True.intro,.nil⟩
 |p :: d,_,r=>by
  rw[aZ]at r;cases r with
  |@cons a b i bs h t=>
   obtain⟨rs,c,q⟩:=carries_of (P:=P) (w:=w) t;obtain⟨g,f⟩:=b;exact⟨(p.1,f) :: rs,⟨kV_is h.1,rfl,c⟩,.cons ⟨rfl,h.2⟩ q⟩
def tDisp(K:Fg)(trs:Li (TE×TE)):TE:=λO H Q=>∀ p,H p=ab->(∀ o,K.lookup p≠aa o)->tPairs trs O (upd H p (.dK [])) λd c=>c p=aa (.dK [])/\∃ a:Li (Key×V),d=a.map (λb=>(kV b.1,b.2))/\a.length<=15/\Q (.ref p) (upd c p (.dK (mergeK [] a)))
def pe_disp{b:Li (Ot az)}{d:Li az}(h:PPs X pos b d trs)(g:b.all (·.isSome)=ae)(y:b.length=d.length)(D:b≠[])(k:b.length<=15):PE X (.Dict b d pos) (tDisp X.K trs):=by
 intro t s O H Q I q;have x:=I.hok.fresh (aB s.heap.objs.size);have F:=I.laid (a:=s.heap.objs.size) (o:=.dK []) (h':=s.heap.push { cls:=.type "dict",data:=.dict #[] }) (t':=s.toks) (λ_ _ q=>aT _ q) (aB _) (dk_empty s.heap I.big)
 refine wpAny_Dict_walk (knd:=mixKind X.prog X.w) g y D k (thn (h t _ O _ _ F (q _ x λo z=>au (aJ (I.kIn _ o z)) (cM _))) λG J ⟨L,M,l,j,e,f,E,lk,r⟩=>?_)
 subst E;obtain⟨rs,c,n⟩:=carries_of (P:=X.prog) (w:=X.w) j;obtain⟨z,B,m,p,dd⟩:=dk_of l.hok e;cases p;refine⟨rs,c,dd,λh' i v=>⟨.ref s.heap.objs.size,_,?_,rfl,r⟩⟩
 have u:(mergeK [] f).length<=ay:=by
  have C:=length_mergeK f [];rw[dD]at C;rw[sizeLine_eq];omega
 have A:∃ q,h'.get? s.heap.objs.size=aa q:=let ⟨q,_,_,hq,_⟩:=i;⟨q,hq⟩
 exact d_write l (by rw[e];exact True.intro) v A (dk_new u B (n.merge .nil) i)
def rIxD:R2:=λx y H Q=>∃ p a k v,x=.ref p/\y=kV k/\H p=aa (.dK a)/\valV a k=aa v/\Q v H
def ix_dct:IxR X rIxD:=by
 intro a slice t s O H x y v u Q I f e h j;obtain⟨p,g,k,z,rfl,rfl,l,m,q⟩:=h;cases f;obtain⟨n,w,d,c,dd⟩:=dk_of I.hok l;obtain⟨r,i,b⟩:=RelO.some_of (v:=z) (o:=valueAt d k) (by rw[<-m];exact c.val k)
 exact tail_any dd.typeIs PySem.F.slot_dict_getitem.lookup (wpAny_getItem_of (kV_is e) dd.mapOf i ⟨z,H,I.tok _,b,q⟩) j
def rInD:R2:=λx y H Q=>∃ p a k,y=.ref p/\x=kV k/\H p=aa (.dK a)/\Q (.bl (valV a k).isSome) H
def op_in_dct:OpR X (bu .In) rInD:=by
 intro j s O H x y v u Q I d c h;obtain⟨p,b,k,rfl,rfl,e,q⟩:=h;cases c;obtain⟨g,f,i,a,dd⟩:=dk_of I.hok e;refine wpAny_in_of (kV_is d) f dd.mapOf ?_;rw[<-(a.val k).isSome_eq];exact⟨.bl (valV b k).isSome,H,I.tok _,rfl,q⟩
section
variable {κ:Type} [DecidableEq κ]
theorem valV_any(k:κ):∀ a:Li (κ×V),(a.any λb=>ak (b.1=k))=(valV a k).isSome
 |[]=>rfl
 |p :: r=>by
  rw[dP];by_cases e:p.1=k
  .simp only[valV_pos e,aF e,Bool.true_or,Option.isSome_some]
  .rw[valV_neg e,aI e,Bool.false_or];exact valV_any k r
end
theorem items_are{P:bh}{w:bt}:∀ {a:Li Key}{us:Li vL},Vals (a.map kV) us->ItemsAre (mixKind P w) a us
 |[],_,r=>by rw[List.map_nil]at r;cases r;exact .nil
 |k :: a,_,r=>by
  rw[aZ]at r;cases r with
  |cons h t=>exact .cons (kV_is h) (items_are t)
abbrev KTp(H:Hp):Li (Li Key×V)->Li (Li Key×Ad×vL)->Prop:=Paired λp q=>p.1=q.1/\H q.2.1=aa (.tup (p.1.map kV))/\RelV p.2 q.2.2
variable{kvs:Li (Li Key×V)}{xs:Li (Li Key×Ad×vL)}
def KTp.val(r:KTp H kvs xs)(k:Li Key):RelO (valV kvs k) ((atKey xs k).map (·.2)):=by
 induction r with
 |nil=>exact True.intro
 |@cons p q i a h t f=>
  obtain⟨d,_,g⟩:=h;by_cases e:p.1=k
  .have c:q.1=k:=d.symm.trans e
   have b:atKey (q :: a) k=aa q.2:=by simp[atKey,dQ,c]
   rw[valV_pos e,b];exact g
  .have c:¬q.1=k:=λz=>e (d.trans z)
   have b:atKey (q :: a) k=atKey a k:=by simp[atKey,dQ,c]
   rw[valV_neg e,b];exact f
def KTp.repl(r:KTp H kvs xs)(k:Li Key)(d:RelV y u) :
  KTp H (kvs.map λb=>if b.1=k then (b.1,y) else b) (xs.map (putAt k u)):=by
 induction r with
 |nil=>exact .nil
 |@cons p q j i h t f=>
  rw[aZ,aZ];refine .cons ?_ f;obtain⟨a,c,g⟩:=h;unfold putAt;by_cases e:p.1=k
  .rw[aq e,aq (a.symm.trans e)];exact⟨a,c,d⟩
  .rw[ar e,ar (λz=>e (a.trans z))];exact⟨a,c,g⟩
def KTp.put(r:KTp H kvs xs)(k:Li Key){b:Ad}(d:H b=aa (.tup (k.map kV)))(a:RelV y u) :
  KTp H (putK kvs k y) (storedH xs k b u):=by
 have e:(kvs.any λc=>ak (c.1=k))=(atKey xs k).isSome:=by
  rw[valV_any,(r.val k).isSome_eq,Option.isSome_map]
 unfold putK storedH;rw[e];by_cases q:(atKey xs k).isSome=ae
 .rw[aq q,aq q];exact r.repl k a
 .rw[ar q,ar q];exact Paired.snoc r ⟨rfl,d,a⟩
def KTp.keeps{c:Hp}(r:KTp H kvs xs)(d:∀ b a,H b=aa (.tup a)->c b=aa (.tup a)):KTp c kvs xs:=
 Paired.mapP r λ_ _ z=>⟨z.1,d _ _ z.2.1,z.2.2⟩
variable{ks:Li Key}
def key_at{b:Li vL}(r:Vals (ks.map kV) b)(t:IsTup h a b.toArray):(tupleKind (mixKind P w)).is h ks a:=by
 obtain⟨o,e,d,n,c⟩:=t;exact⟨o,b.toArray,n,e,d,c,by simpa using items_are r⟩
def key_of(ok:HOk P w H h)(e:H a=aa (.tup (ks.map kV))):(tupleKind (mixKind P w)).is h ks a:=by
 obtain⟨_,b,r,o,f,d,n,c⟩:=(show ObjOk P w H h a (.tup (ks.map kV)) from ok a _ e);exact⟨o,b.toArray,n,f,d,c,by simpa using items_are r⟩
def dt_rd(ok:HOk P w H h)(e:Rd H a (.dT kvs)):kvs.length<=ay/\(a==bv)=af /\
  ∃ xs,KTp H kvs xs/\h.DictOfH (tupleKind (mixKind P w)) a xs:=by
 obtain⟨z,y,xs,r,o,k,n,j,i,g,f,d⟩:=(show ObjOk P w H h a (.dT kvs) from rd_of ok e);refine⟨z,y,xs,r,o,k,n,j,i,g,f,λx hx=>?_,d⟩
 have all:∀ {l:Li (Li Key×V)}{m:Li (Li Key×Ad×vL)},KTp H l m->∀ x∈m,(tupleKind (mixKind P w)).is h x.1 x.2.1:=by
  intro l m q
  induction q with
  |nil=>intro x hx;exact nomatch hx
  |@cons p q u s b t c=>
   intro x hx;rcases aL.mp hx with e|hx
   .subst e
    exact key_of ok (by rw[<-b.1];exact b.2.1)
   .exact c x hx
 exact all r x hx
def dt_of(ok:HOk P w H h)(e:H a=aa (.dT kvs)):kvs.length<=ay/\(a==bv)=af /\
  ∃ xs,KTp H kvs xs/\h.DictOfH (tupleKind (mixKind P w)) a xs:=dt_rd ok (.inl e)
def dt_empty{P:bh}(h:br)(a:bv < h.objs.size):ObjOk P w H (h.push { cls:=.type "dict",data:=.dict #[] }) h.objs.size (.dT []):=
 ⟨aS _,dN.mpr (Ne.symm (bG a)),[],.nil,_,#[],0,bT _ rfl,⟨rfl,rfl,rfl⟩,rfl,rfl,dI⟩
def tDNewT(K:Fg):TE:=λ_ H Q=>∀ p,H p=ab->(∀ o,K.lookup p≠aa o)->Q (.ref p) (upd H p (.dT []))
def pe_dnewT:PE X (.Dict [] [] pos) (tDNewT X.K):=λb s O H Q I h=>
 wpAny_Dict_empty ⟨.ref s.heap.objs.size,_,I.laid (a:=s.heap.objs.size) (o:=.dT []) (t':=s.toks) (λ_ _ q=>aT _ q) (aB _) (dt_empty s.heap I.big),rfl,h _ (I.hok.fresh (aB _)) λo z=>au (aJ (I.kIn _ o z)) (cM _)⟩
def rSetT:V->V->V->Hp->(Hp->Prop)->Prop:=λo i v H Q=>∃ p b kvs k,o=.ref p/\i=.ref b/\H p=aa (.dT kvs)/\H b=aa (.tup (k.map kV))/\kvs.length < ay/\Q (upd H p (.dT (putK kvs k v)))
def set_dT(hu:X.A.units+1 < cLine):PSet X rSetT:=by
 intro K s O H o i v L M u Q I p r rv h;obtain⟨a,b,kvs,k,rfl,rfl,e,n,l,q⟩:=h;cases p;cases r;obtain⟨z,y,xs,d,dd⟩:=dt_of I.hok e;have t:xs.length<=ay:=by rw[<-Paired.length d];exact z
 have x:(putK kvs k v).length<=ay:=by have:=length_putK kvs k v;omega
 refine wpAny_setItem_heap (hsz:=t) (tupleKind_room_in1 hu) (key_of I.hok n) dd λh' f w=>?_
 obtain⟨g,F,G,j,E,D,C,_,B⟩:=f;refine⟨upd H a (.dT (putK kvs k v)),d_write I (by rw[e];exact True.intro) w ⟨g,j⟩ ⟨x,y,_,(d.put k n rv).keeps λc J m=>?_,g,F,G,j,E,D,C,B⟩,q⟩
 rw[upd_ne (ne_of m e (λz=>nomatch z))]
 exact m
def rIxdT(K:Fg):R2:=λx y H Q=>∃ p b kvs k v,x=.ref p/\y=.ref b/\SqT K H b (k.map kV)/\H p=aa (.dT kvs)/\valV kvs k=aa v/\Q v H
def ix_dT(hu:X.A.units+1 < cLine):IxR X (rIxdT X.K):=by
 intro a slice E s O H x y v u Q I i g h n;obtain⟨p,b,kvs,k,z,rfl,rfl,B,r,w,q⟩:=h;cases i;cases g;obtain⟨C,J,xs,d,dd⟩:=dt_of I.hok r;obtain⟨l,j,f,_⟩:=I.tuple B;obtain⟨D,m,c⟩:=RelO.some_of (v:=z) (o:=(atKey xs k).map (·.2)) (by rw[<-w];exact d.val k)
 obtain⟨G,t,e⟩:=eW.mp m;refine tail_any dd.typeIs PySem.F.slot_dict_getitem.lookup (wpAny_getItem_heap (tupleKind_room_in1 hu) (key_at j f) dd t ?_) n;rw[e];exact⟨z,H,I.tok _,c,q⟩
def in_dT(hu:X.A.units+1 < cLine){c:Li (Ad×Obj)}{O:St}{s:Sd}{p b:Ad}{k:Li Key}{Q:VK}(I:Inv X c O H s)(i:H p=aa (.dT kvs))(j:SqT X.K H b (k.map kV)) :
  (Q (.bl (valV kvs k).isSome) H->bf (bg X.prog X.w) X.A (bu .In (.ref b) (.ref p)) (EP X c O Q) X.xe s)/\(Q (.bl (!(valV kvs k).isSome)) H->bf (bg X.prog X.w) X.A (bu .NotIn (.ref b) (.ref p)) (EP X c O Q) X.xe s):=by
 obtain⟨l,g,xs,a,dd⟩:=dt_of I.hok i;obtain⟨h,f,d,_⟩:=I.tuple j;have e:=(a.val k).isSome_eq;rw[Option.isSome_map]at e;rw[e];exact⟨λq=>wpAny_in_heap (tupleKind_room_in1 hu) (key_at f d) g dd ⟨.bl _,H,I.tok _,rfl,q⟩,λq=>wpAny_notIn_heap (tupleKind_room_in1 hu) (key_at f d) g dd ⟨.bl _,H,I.tok _,rfl,q⟩⟩
end L2
namespace LS
open PySem PyProof.Rows
noncomputable def gallop':Bool->Keyed->Array Keyed->Nat->Nat->Nat->StateT SortSt Sem (Ot Nat):=sortPriv% PySem.Builtin.gallop
noncomputable def mergeLo':Array Keyed->Array Keyed->StateT SortSt Sem (Array Keyed):=sortPriv% PySem.Builtin.mergeLo
noncomputable def mergeHi':Array Keyed->Array Keyed->StateT SortSt Sem (Array Keyed):=sortPriv% PySem.Builtin.mergeHi
noncomputable def setG':Nat->StateT SortSt Sem Unit:=sortPriv% PySem.Builtin.setMinGallop
variable{M:Model}{l arr:Li Nat}{i x j y key base m hint k:Nat}{Q:Ot Bool->SortSt->Prop}{left:Bool}
variable{prog:bh}{w:bt}{A:bw}{E:vL->Sd->Prop}{s:Sd}{κ:SortKind}{g:Nat->Keyed}{φ:Nat->Int}{n:Nat}
section
def wpS_set{O:Type}{b a:O}{Q:PUnit->O->Prop}(h:Q ⟨⟩ a):wpS M A E s (set a:StateT O Sem PUnit) Q b:=by
 unfold wpS;rw[StateT.run_set];exact aE ⟨rfl,h⟩
noncomputable def im(g:Nat->Keyed)(l:Li Nat):Array Keyed:=(l.map g).toArray
def im_get(h:l[i]?=aa x):(im g l)[i]?=aa (g x):=by
 unfold im;simp[h]
def im_size(l:Li Nat):(im g l).size=l.length:=by simp[im]
structure Or(prog:bh)(w:bt)(A:bw)(s:Shared)(κ:SortKind)(g:Nat->Keyed)(φ:Nat->Int)(n:Nat):Prop where
 ask:∀ i j,i < n->j < n->∀ C:Bool->Shared->Prop,C (ak (φ i < φ j)) s->bf (bg prog w) A (keyLt' κ (g i).1 (g j).1) C (λ_ _=>False) s
noncomputable def St(κ:SortKind)(a:Array Keyed)(b:Array (Nat×Nat×Nat))(m:Nat):SortSt:=SortSt.mk' κ a b m ab
variable (Oo:Or prog w A s κ g φ n) {a:Array Keyed}{pe:Array (Nat×Nat×Nat)}{mg:Nat}
include Oo
def w_lt(f:i < n)(e:j < n)(h:Q (aa (ak (φ i < φ j))) (St κ a pe mg)):wpS (bg prog w) A E s (lt' (g i) (g j)) Q (St κ a pe mg):=by
 rw[lt'_eq];refine wpS_bind (wpS_get ?_);refine wpS_bind (wpS_lift (wpAny_attempt (cC (Oo.ask i j f e (λb c=>b=ak (φ i < φ j)/\c=s) ⟨rfl,rfl⟩) (λb c d=>?_) λ_ _ x=>x.elim)))
 obtain⟨rfl,rfl⟩:=d;exact⟨rfl,wpS_pure h⟩
omit Oo in
def w_el{M:Model}{a:SortSt}{arr:Array Keyed}{i:Nat}{x:Keyed}{Q:Keyed->SortSt->Prop}(b:arr[i]?=aa x)(h:Q x a):wpS M A E s (elem' arr i) Q a:=by
 rw[elem'_eq,b];exact wpS_pure h
def w_ltAt(d:l[i]?=aa x)(c:l[j]?=aa y)(b:x < n)(a:y < n)(h:Q (aa (ak (φ x < φ y))) (St κ (im g l) pe mg)):wpS (bg prog w) A E s (ltAt' i j) Q (St κ (im g l) pe mg):=by
 rw[ltAt'_eq];exact wpS_bind (wpS_get (wpS_bind (w_el (im_get d) (wpS_bind (w_el (im_get c) (w_lt Oo b a h))))))
def w_bey{b:Bool}(c:key < n)(e:arr[i]?=aa x)(d:x < n)(f:(if left=ae then ak (φ x < φ key) else !decide (φ key < φ x))=b)(h:Q (aa b) (St κ a pe mg)) :
  wpS (bg prog w) A E s (do let x <-elem' (im g arr) i;if left=ae then lt' x (g key) else do let r <-lt' (g key) x;pure (r.map (!·))) Q (St κ a pe mg):=by
 refine wpS_bind (w_el (im_get e) ?_);cases left with
 |true=>exact w_lt Oo d c (by rw[<-f]at h;exact h)
 |false=>exact wpS_bind (w_lt Oo c d (wpS_pure (by rw[<-f]at h;exact h)))
def gallop_ok{Q:Ot Nat->SortSt->Prop}(J:hint < m)(M:k<=m)(G:key < n)(L:∀ i,i < m->∃ x,arr[base+i]?=aa x/\x < n/\(if left=ae then ak (φ x < φ key) else !decide (φ key < φ x))=ak (i < k))(h:Q (aa k) (St κ a pe mg)) :
  wpS (bg prog w) A E s (gallop' left (g key) (im g arr) base m hint) Q (St κ a pe mg):=by
 have v:∀ {i:Nat}{Q:Ot Bool->SortSt->Prop},i < m->Q (aa (ak (i < k))) (St κ a pe mg)->wpS (bg prog w) A E s (do let x <-elem' (im g arr) (base+i);if left=ae then lt' x (g key) else do let r <-lt' (g key) x;pure (r.map (!·))) Q (St κ a pe mg):=λd H=>
  let ⟨x,e,hx,hb⟩:=L _ d
  w_bey Oo G e hx hb H
 refine wpS_bind ?_;dsimp only;refine v J ?_;have j:∀ {lo d:Nat},lo<=k->k<=d->d<=m->∀ (f:Nat->Ot (Ot Nat)×Nat×Nat->StateT SortSt Sem (ForInStep (Ot (Ot Nat)×Nat×Nat))),
   (∀ i lo d,f i (ab,lo,d)=if lo>=d then pure (.done (ab,lo,d)) else do
    let x <-(do let x <-elem' (im g arr) (base+(lo+(d - lo) / 2));if left=ae then lt' x (g key) else do let r <-lt' (g key) x;pure (r.map (!·)))
    match x with
    |some more=>if more=ae then pure (.yield (ab,lo+(d - lo) / 2+1,d)) else pure (.yield (ab,lo,lo+(d - lo) / 2))
    |_=>pure (.done (aa ab,lo,d)))->
   ∀ (c:Ot (Ot Nat)×Nat×Nat->StateT SortSt Sem (Ot Nat)),(c (ab,k,k)=pure (aa k))->
   wpS (bg prog w) A E s (forIn [:m] ((ab,lo,d):Ot (Ot Nat)×Nat×Nat) f >>= c) Q (St κ a pe mg):=by
  intro lo d y u C f K c D;refine wpS_bind (wpS_forRange (I:=λi b p=>p=St κ a pe mg/\∃ lo d,b=(ab,lo,d)/\lo<=k/\k<=d/\d<=m/\(d - lo+i<=m)) (λi b p _ B t=>?_) (λb p t=>?_) ⟨rfl,lo,d,rfl,y,u,C,by omega⟩)
  .obtain⟨rfl,lo,d,rfl,y,u,C,F⟩:=t
   rw[K];by_cases q:lo>=d
   .rw[aq q]
    obtain⟨rfl,rfl⟩:lo=k/\d=k:=by omega
    exact wpS_pure (by show wpS _ _ _ _ (c _) _ _;rw[D];exact wpS_pure h)
   .rw[ar q]
    refine wpS_bind (v (by omega) ?_)
    by_cases r:lo+(d - lo) / 2 < k
    .rw[aF r]
     exact wpS_pure ⟨rfl,_,_,rfl,by omega,u,C,by omega⟩
    .rw[aI r]
     exact wpS_pure ⟨rfl,_,_,rfl,y,by omega,by omega,by omega⟩
  .obtain⟨rfl,lo,d,rfl,y,u,C,F⟩:=t
   rw[cP (aS m)]at F;obtain⟨rfl,rfl⟩:lo=k/\d=k:=by omega
   rw[D];exact wpS_pure h
 by_cases q:hint < k
 .rw[aF q]
  refine wpS_bind (wpS_forRange (I:=λi b p=>p=St κ a pe mg/\∃ l o,b=(ab,l,o)/\hint+l < k/\i < o) (λi b p _ B t=>?_) (λb p t=>?_) ⟨rfl,0,1,rfl,by omega,by omega⟩)
  .obtain⟨rfl,l,o,rfl,y,u⟩:=t
   by_cases r:o>=m - hint
   .rw[aq r]
    exact wpS_pure (j (by show hint+l+1<=k;omega) (by show k<=hint+min o (m - hint);omega) (by show hint+min o (m - hint)<=m;omega) _ (λ_ _ _=>rfl) _ rfl)
   .rw[ar r]
    refine wpS_bind (v (by show hint+o < m;omega) ?_)
    by_cases z:hint+o < k
    .rw[aF z]
     exact wpS_pure ⟨rfl,_,_,rfl,z,by show i+1 < 2 * o+1;omega⟩
    .rw[aI z]
     exact wpS_pure (j (by show hint+l+1<=k;omega) (by show k<=hint+min o (m - hint);omega) (by show hint+min o (m - hint)<=m;omega) _ (λ_ _ _=>rfl) _ rfl)
  .obtain⟨rfl,l,o,rfl,y,u⟩:=t
   rw[cP (aS m)]at u;exact j (by show hint+l+1<=k;omega) (by show k<=hint+min o (m - hint);omega) (by show hint+min o (m - hint)<=m;omega) _ (λ_ _ _=>rfl) _ rfl
 .rw[aI q]
  refine wpS_bind (wpS_forRange (I:=λi b p=>p=St κ a pe mg/\∃ l o,b=(ab,l,o)/\k+l<=hint/\i < o) (λi b p _ B t=>?_) (λb p t=>?_) ⟨rfl,0,1,rfl,by omega,by omega⟩)
  .obtain⟨rfl,l,o,rfl,y,u⟩:=t
   by_cases r:o>=hint+1
   .rw[aq r]
    exact wpS_pure (j (by show hint+1 - min o (hint+1)<=k;omega) (by show k<=hint - l;omega) (by show hint - l<=m;omega) _ (λ_ _ _=>rfl) _ rfl)
   .rw[ar r]
    refine wpS_bind (v (by show hint - o < m;omega) ?_)
    by_cases z:hint - o < k
    .rw[aF z]
     exact wpS_pure (j (by show hint+1 - min o (hint+1)<=k;omega) (by show k<=hint - l;omega) (by show hint - l<=m;omega) _ (λ_ _ _=>rfl) _ rfl)
    .rw[aI z]
     exact wpS_pure ⟨rfl,_,_,rfl,by show k+o<=hint;omega,by show i+1 < 2 * o+1;omega⟩
  .obtain⟨rfl,l,o,rfl,y,u⟩:=t
   rw[cP (aS m)]at u;exact j (by show hint+1 - min o (hint+1)<=k;omega) (by show k<=hint - l;omega) (by show hint - l<=m;omega) _ (λ_ _ _=>rfl) _ rfl
end
variable{W o L Z:Li Nat}
section
def Srt(φ:Nat->Int)(l:Li Nat):Prop:=l.Pairwise λi j=>φ i < φ j
def Srt.app{l m:Li Nat}(h:Srt φ (l++m)):Srt φ l/\Srt φ m/\∀ x∈l,∀ y∈m,φ x < φ y:=eX.mp h
def Srt.mk{l m:Li Nat}(h:Srt φ l)(b:Srt φ m)(a:∀ x∈l,∀ y∈m,φ x < φ y):Srt φ (l++m):=eX.mpr ⟨h,b,a⟩
theorem Srt.drop(h:Srt φ l)(k:Nat):Srt φ (l.drop k):=List.Pairwise.sublist (List.drop_sublist k l) h
theorem Srt.take(h:Srt φ l)(k:Nat):Srt φ (l.take k):=List.Pairwise.sublist (List.take_sublist k l) h
def Fr(φ:Nat->Int)(W o L:Li Nat):Prop:=∀ R,Srt φ R->R.Perm L->Srt φ (o++R)/\(o++R).Perm W
def Fb(φ:Nat->Int)(W o L:Li Nat):Prop:=∀ R,Srt φ R->R.Perm L->Srt φ (R++o)/\(R++o).Perm W
def Fr.step{c a:Li Nat}(h:Fr φ W o L)(p:L.Perm (c++a))(sc:Srt φ c)(lt:∀ x∈c,∀ y∈a,φ x < φ y):Fr φ W (o++c) a:=λR f b=>by
 rw[aM];exact h (c++R) (sc.mk f λx e y d=>lt x e y (b.mem_iff.mp d)) ((b.append_left c).trans p.symm)
def Fb.step{c a:Li Nat}(h:Fb φ W o L)(p:L.Perm (a++c))(sc:Srt φ c)(lt:∀ x∈c,∀ y∈a,φ y < φ x):Fb φ W (c++o) a:=λR f b=>by
 rw[<-aM];exact h (R++c) (f.mk sc λx e y d=>lt y d x (b.mem_iff.mp e)) ((b.append_right c).trans p.symm)
def Fr.a{X Y:Li Nat}(k:Nat)(h:Fr φ W o (X++Y))(b:Srt φ X)(lt:∀ x∈X.take k,∀ y∈Y,φ x < φ y):Fr φ W (o++X.take k) (X.drop k++Y):=by
 refine h.step ?_ (b.take k) λx c y hy=>?_
 .rw[<-aM,bF]
 .rcases bC.mp hy with hy|hy
  .rw[<-bF k X]at b;exact b.app.2.2 x c y hy
  .exact lt x c y hy
def Fr.b{X Y:Li Nat}(k:Nat)(h:Fr φ W o (X++Y))(a:Srt φ Y)(lt:∀ y∈Y.take k,∀ x∈X,φ y < φ x):Fr φ W (o++Y.take k) (X++Y.drop k):=by
 refine h.step ?_ (a.take k) λx c y hy=>?_
 .rw[<-aM]
  have p:=(fP (l₁:=X) (l₂:=Y.take k)).append_right (Y.drop k);rw[aM,bF]at p;exact p
 .rcases bC.mp hy with hy|hy
  .exact lt x c y hy
  .rw[<-bF k Y]at a;exact a.app.2.2 x c y hy
def Fb.a{X Y:Li Nat}(k:Nat)(h:Fb φ W o (X++Y))(b:Srt φ X)(lt:∀ x∈X.drop k,∀ y∈Y,φ y < φ x):Fb φ W (X.drop k++o) (X.take k++Y):=by
 refine h.step ?_ (b.drop k) λx c y hy=>?_
 .have p:=(fP (l₁:=X.drop k) (l₂:=Y)).append_left (X.take k)
  rw[<-aM,bF,<-aM]at p;exact p
 .rcases bC.mp hy with hy|hy
  .rw[<-bF k X]at b;exact b.app.2.2 y hy x c
  .exact lt x c y hy
def Fb.b{X Y:Li Nat}(k:Nat)(h:Fb φ W o (X++Y))(a:Srt φ Y)(lt:∀ y∈Y.drop k,∀ x∈X,φ x < φ y):Fb φ W (Y.drop k++o) (X++Y.take k):=by
 refine h.step ?_ (a.drop k) λx c y hy=>?_
 .rw[aM,bF]
 .rcases bC.mp hy with hy|hy
  .exact lt x c y hy
  .rw[<-bF k Y]at a;exact a.app.2.2 y hy x c
theorem cut{v:Int}:∀ {L:Li Nat},Srt φ L->∃ k,k<=L.length/\∀ i x,L[i]?=aa x->(φ x < v↔i < k)
 |[],_=>⟨0,aB 0,λi x h=>nomatch h⟩
 |y :: L,h=>by
  obtain⟨b,f⟩:=List.pairwise_cons.mp h;obtain⟨k,c,d⟩:=cut f;by_cases q:φ y < v
  .refine⟨k+1,eU c,λi x e=>?_⟩
   cases i with
   |zero=>cases e;exact⟨λ_=>eY k,λ_=>q⟩
   |succ i=>rw[d i x e];omega
  .refine⟨0,aS _,λi x e=>⟨λa=>?_,λa=>nomatch a⟩⟩
   cases i with
   |zero=>cases e;exact au a q
   |succ i=>have:=b x (aX e);omega
def mem_take(h:x∈L.take k):∃ i,i < k/\L[i]?=aa x:=by
 obtain⟨i,a⟩:=dJ.mp h;rw[cQ]at a;split at a
 .exact⟨i,by assumption,a⟩
 .exact nomatch a
def mem_drop(h:x∈L.drop k):∃ i,k<=i/\L[i]?=aa x:=by
 obtain⟨i,a⟩:=dJ.mp h;rw[dR]at a;exact⟨k+i,cV _ _,a⟩
def im_app(l m:Li Nat):im g l++im g m=im g (l++m):=by simp[im]
def im_push(l:Li Nat)(x:Nat):(im g l).push (g x)=im g (l++[x]):=by simp[im]
def im_ext(l:Li Nat)(i j:Nat):(im g l).extract i j=im g ((l.take j).drop i):=by
 apply Array.toList_inj.mp
 simp[im,List.drop_take]
def im_cut(l:Li Nat)(i k:Nat):(im g l).extract i (i+k)=im g ((l.drop i).take k):=by
 rw[im_ext,List.drop_take,cY]
def im_rev(l:Li Nat):(im g l).reverse=im g l.reverse:=by simp[im]
def take_one(h:L[i]?=aa x):(L.drop i).take 1=[x]:=by
 obtain⟨a,rfl⟩:=bL.mp h;rw[bV a];rfl
variable (Oo:Or prog w A s κ g φ n) {a:Array Keyed}{pe:Array (Nat×Nat×Nat)}{mg:Nat}
include Oo
def gal{L:Li Nat}{Q:Ot Nat->SortSt->Prop}(u:hint < m)(j:L.length=m)(y:∀ i,i < m->Z[base+i]?=L[i]?)(t:key < n)(r:Srt φ L)(o:∀ x∈L,x < n/\φ x≠φ key)(h:∀ k,k<=m->(∀ x∈L.take k,φ x < φ key)->(∀ x∈L.drop k,φ key < φ x)->Q (aa k) (St κ a pe mg)) :
  wpS (bg prog w) A E s (gallop' left (g key) (im g Z) base m hint) Q (St κ a pe mg):=by
 obtain⟨k,p,l⟩:=cut (v:=φ key) r;refine gallop_ok Oo u (j ▸ p) t (λi d=>?_) (h k (j ▸ p) (λx f=>?_) λx f=>?_)
 .have b:i < L.length:=j ▸ d
  have e:L[i]?=aa L[i]:=Lg b;refine⟨L[i],(y i d).trans e,(o _ (bN b)).1,?_⟩;have ne:=(o _ (bN b)).2;have c:=l i _ e;cases left with
  |true=>exact decide_eq_decide.mpr c
  |false=>
   show(!decide _)=_;rw[<-decide_not];exact decide_eq_decide.mpr ⟨λh=>c.mp (by omega),λh=>by have:=c.mpr h;omega⟩
 .obtain⟨i,d,e⟩:=mem_take f
  exact(l i x e).mpr d
 .obtain⟨i,d,e⟩:=mem_drop f
  have c:=l i x e;have ne:=(o x (aX e)).2;rcases Int.lt_or_gt_of_ne ne with q|q
  .have:=c.mp q;omega
  .exact q
end
section
variable (Oo:Or prog w A s κ g φ n) {a:Array Keyed}{pe:Array (Nat×Nat×Nat)}{mg:Nat}
omit Oo in
def w_set{M:Model}{m:Nat}{Q:Unit->SortSt->Prop}(h:Q () (St κ a pe m)):wpS M A E s (setG' m) Q (St κ a pe mg):=wpS_modify h
omit Oo in
def w_post{M:Model}{d:Type}{m:StateT SortSt Sem (ForInStep d)}{D Y:d->SortSt->Prop}{a:SortSt}(h:∀ P:ForInStep d->SortSt->Prop,(∀ b a,D b a->P (.done b) a)->(∀ b a,Y b a->P (.yield b) a)->wpS M A E s m P a) :
  wpS M A E s m (λr c=>match r with|.done b=>D b c|.yield b=>Y b c) a:=h _ (λ_ _=>id) λ_ _=>id
omit Oo in
def w_ite{M:Model}{a:Type}{c:Prop}[Decidable c]{jp:Unit->Nat->StateT SortSt Sem a}{x y:Nat}{P:a->SortSt->Prop}{b:SortSt}(h:∀ x,wpS M A E s (jp () x) P b):wpS M A E s (if c then jp () x else jp () y) P b:=by
 split
 .exact h x
 .exact h y
omit Oo in
def mn{Z:Li Nat}{u x:Nat}(a:Srt φ Z)(e:Z[u]?=aa x):∀ y∈Z.drop u,φ x<=φ y:=λy hy=>by
 have d:=a.drop u;obtain⟨b,rfl⟩:=bL.mp e;rw[bV b]at d hy;rcases aL.mp hy with rfl|hy
 .exact Int.le_refl _
 .exact Int.le_of_lt ((List.pairwise_cons.mp d).1 y hy)
inductive Mg1(κ:SortKind)(a:Array Keyed)(pe:Array (Nat×Nat×Nat))(g:Nat->Keyed)(P:List Nat->Nat->Nat->Prop):Nat->Option (Array Keyed)×Array Keyed×Nat×Nat×Nat->SortSt->Prop
 |mk (m:Nat) {i u v G:Nat}{z:Array Keyed}{o:List Nat} (e:z=im g o) (p:P o u v) (hc:i+1<=u+v):Mg1 κ a pe g P i (ab,z,u,v,G) (St κ a pe m)
inductive Mg2(κ:SortKind)(a:Array Keyed)(pe:Array (Nat×Nat×Nat))(g:Nat->Keyed)(P:List Nat->Nat->Nat->Prop)(N:Nat):Option (Array Keyed)×Array Keyed×Nat×Nat×Nat×Nat->SortSt->Prop
 |mk (m:Nat) {u v c d:Nat}{z:Array Keyed}{o:List Nat} (e:z=im g o) (p:P o u v) (hc:N<=u+v):Mg2 κ a pe g P N (ab,z,u,v,c,d) (St κ a pe m)
inductive Mg3(κ:SortKind)(a:Array Keyed)(pe:Array (Nat×Nat×Nat))(g:Nat->Keyed)(P:List Nat->Nat->Nat->Prop)(N:Nat):Option (Array Keyed)×Array Keyed×Nat×Nat×Nat×Nat×Nat->SortSt->Prop
 |mk (m:Nat) {u v G c d:Nat}{z:Array Keyed}{o:List Nat} (e:z=im g o) (p:P o u v) (hc:N<=u+v):Mg3 κ a pe g P N (ab,z,u,v,G,c,d) (St κ a pe m)
inductive Maf{β:Type}(κ:SortKind)(a:Array Keyed)(pe:Array (Nat×Nat×Nat))(Q:Array Keyed->SortSt->Prop)(I:Option (Array Keyed)×β->SortSt->Prop):Option (Array Keyed)×β->SortSt->Prop
 |ret {m:Nat}{R:Array Keyed}{c:β} (h:Q R (St κ a pe m)):Maf κ a pe Q I (aa R,c) (St κ a pe m)
 |go {b:Option (Array Keyed)×β}{st:SortSt} (h:I b st):Maf κ a pe Q I b st
structure Pl(φ:Nat->Int)(X Y:List Nat)(o:List Nat)(u v:Nat):Prop where
 f:Fr φ (X++Y) o (X.drop u++Y.drop v)
 hu:u+1 < X.length
 hv:v < Y.length
omit Oo in
def w_if{M:Model}{b:Type}{c:Prop}[Decidable c]{x y:StateT SortSt Sem b}{P:b->SortSt->Prop}{a:SortSt}(h:wpS M A E s x P a)(d:wpS M A E s y P a):wpS M A E s (if c then x else y) P a:=by
 split
 .exact h
 .exact d
omit Oo in
def w_beq{M:Model}{b:Type}{i j:Nat}{x y:StateT SortSt Sem b}{P:b->SortSt->Prop}{a:SortSt}(h:i=j->wpS M A E s x P a)(c:i≠j->wpS M A E s y P a):wpS M A E s (if (i==j)=ae then x else y) P a:=by
 split
 .exact h (beq_iff_eq.mp ‹_›)
 .rename_i q;exact c λe=>q (beq_iff_eq.mpr e)
omit Oo in
def w_gt{M:Model}{b:Type}{i j:Nat}{x y:StateT SortSt Sem b}{P:b->SortSt->Prop}{a:SortSt}(h:i > j->wpS M A E s x P a)(c:¬i > j->wpS M A E s y P a):wpS M A E s (if i > j then x else y) P a:=by
 split
 .exact h ‹_›
 .exact c ‹_›
omit Oo in
def gtE{L:Li Nat}{i:Nat}{P:Prop}(d:∀ x∈L,x < n)(a:i < L.length)(h:∀ x,L[i]?=aa x->x < n->x∈L->P):P:=h _ (Lg a) (d _ (bN a)) (bN a)
omit Oo in
def im_p{z:Array Keyed}{o:Li Nat}{x:Nat}(e:z=im g o):z.push (g x)=im g (o++[x]):=by rw[e,im_push]
omit Oo in
def im_c{z:Array Keyed}{o L:Li Nat}{i k:Nat}(e:z=im g o):z++(im g L).extract i (i+k)=im g (o++(L.drop i).take k):=by rw[e,im_cut,im_app]
include Oo
def mergeLo_ok{X Y:Li Nat}{Q:Array Keyed->SortSt->Prop}(hX:0 < X.length)(hY:0 < Y.length)(W:Srt φ X)(T:Srt φ Y)(dX:∀ x∈X,x < n)(dY:∀ y∈Y,y < n)(ne:∀ x∈X,∀ y∈Y,φ x≠φ y)(p1:∀ x∈X,∀ y∈Y.take 1,φ y < φ x)(p2:∀ x∈X.drop (X.length - 1),∀ y∈Y,φ y < φ x)(h:∀ R m,Srt φ R->R.Perm (X++Y)->Q (im g R) (St κ a pe m)) :
  wpS (bg prog w) A E s (mergeLo' (im g X) (im g Y)) Q (St κ a pe mg):=by
 refine wpS_bind (wpS_lift (wpAny_rule ⟨rfl,?_⟩))
 extract_lets -underBinder total done lastA ia ib
 have F:(im g X).size=X.length:=im_size X;have K:(im g Y).size=Y.length:=im_size Y;have fd:∀ {o:Li Nat}{z:Array Keyed}{i j m:Nat},z=im g o->Fr φ (X++Y) o (X.drop i++Y.drop j)->j=(im g Y).size->Q (done z i j) (St κ a pe m):=λ{o z i j m} Z hf e=>by
  subst Z;rw[K]at e;subst e;have r:=hf _ ((W.drop i).mk (T.drop Y.length) (λx _ y H=>by rw[fQ]at H;exact nomatch H)) (List.Perm.refl _)
  show Q (im g o++(im g X).extract i (im g X).size++(im g Y).extract Y.length (im g Y).size) _;rw[F,K,im_ext,im_ext,cR,cR,im_app,im_app,aM];exact h _ m r.1 r.2
 have fl:∀ {o:Li Nat}{z:Array Keyed}{i j m:Nat},z=im g o->Fr φ (X++Y) o (X.drop i++Y.drop j)->i+1=(im g X).size->Q (lastA z i j) (St κ a pe m):=λ{o z i j m} Z hf e=>by
  subst Z;rw[F]at e;have r:=hf _ ((T.drop j).mk (W.drop i) (λy H x hx=>p2 x (by rw[<-e];exact hx) y (cZ H))) fP
  show Q (im g o++(im g Y).extract j (im g Y).size++(im g X).extract i (im g X).size) _;rw[F,K,im_ext,im_ext,cR,cR,im_app,im_app,aM];exact h _ m r.1 r.2
 clear_value done lastA
 have hT:total=X.length+Y.length:=by show(im g X).size+(im g Y).size=_;rw[F,K]
 refine gtE dY hY λy0 ey0 ny0 my0=>wpS_bind (w_el (im_get ey0) ?_)
 extract_lets -underBinder out
 have e0:out=im g [y0]:=im_push [] y0;have f0:Fr φ (X++Y) [y0] (X.drop 0++Y.drop 1):=by
  have i0:Fr φ (X++Y) [] (X++Y):=λR hR pR=>⟨hR,pR⟩
  have r:=i0.b 1 T (λy H x hx=>p1 x hx y H)
  rw[show Y.take 1=[y0] from take_one (i:=0) ey0]at r;exact r
 clear_value out
 refine w_beq (λq=>wpS_pure (fd e0 f0 q)) λq1=>w_beq (λq=>wpS_pure (fl e0 f0 q)) λq2=>?_
 have q1:1 < Y.length:=by omega
 have q2:1 < X.length:=by omega
 have tk:∀ {o:Li Nat}{u v x:Nat},Fr φ (X++Y) o (X.drop u++Y.drop v)->X[u]?=aa x->(∀ y∈Y.drop v,φ x < φ y)->Fr φ (X++Y) (o++[x]) (X.drop (u+1)++Y.drop v):=λ{o u v x} f e lt=>by
  have r:=f.a 1 (W.drop u) (by rw[take_one e];intro x' B y H;obtain rfl:=aQ.mp B;exact lt y H)
  rw[take_one e,dS]at r;exact r
 have tl:∀ {o:Li Nat}{u v x:Nat},Fr φ (X++Y) o (X.drop u++Y.drop v)->Y[v]?=aa x->(∀ y∈X.drop u,φ x < φ y)->Fr φ (X++Y) (o++[x]) (X.drop u++Y.drop (v+1)):=λ{o u v x} f e lt=>by
  have r:=f.b 1 (T.drop v) (by rw[take_one e];intro x' B y H;obtain rfl:=aQ.mp B;exact lt y H)
  rw[take_one e,dS]at r;exact r
 refine wpS_bind (wpS_get ?_)
 extract_lets -underBinder mg0
 refine wpS_bind (wpS_forRange (I:=Mg1 κ a pe g (Pl φ X Y)) (λi b V _ hi M=>?_) (λb V M=>?_) (.mk mg (o:=[y0]) e0 ⟨f0,q2,q1⟩ (aB 1)))
 .induction M with|@mk m _ u v G z o e p O=>?_
  dsimp (zeta:=af) only
  extract_lets -underBinder s1 o1 s2 u1 s3 v1 G1 G2
  dsimp (zeta:=af) only[s1,o1,s2,u1,s3,v1,G1]
  refine wpS_bind (wpS_mono (wpS_forRange (I:=λ_=>Mg2 κ a pe g (Pl φ X Y) (u+v))
   (Q:=Maf κ a pe Q (Mg2 κ a pe g (Pl φ X Y) (u+v))) (λi b V _ hi M=>?_) (λb V M=>.go M) (.mk m e p (aB _))) λb V hb=>?_)
  .induction M with|@mk m t J c d z o e p O=>?_
   have U:=p.hu;have N:=p.hv;refine gtE dX (Nat.lt_of_succ_lt U) λx ex nx mx=>gtE dY N λy S ny my=>?_
   dsimp only;refine wpS_bind (w_el (im_get S) (wpS_bind (w_el (im_get ex) (wpS_bind (w_lt Oo ny nx ?_)))));by_cases lt:φ y < φ x
   .rw[aF lt]
    have C:=tl p.f S λz F=>eM lt (mn W ex z F)
    exact wpS_bind (w_el (im_get S) (w_beq (λq=>wpS_pure (.ret (fd (im_p e) C q))) λq=>w_if (wpS_pure (.go (.mk m (im_p e) ⟨C,U,by omega⟩ (fR O)))) (wpS_pure (.mk m (im_p e) ⟨C,U,by omega⟩ (fR O)))))
   .rw[aI lt]
    have C:=tk p.f ex λz F=>by have:=mn T S z F;have:=ne x mx y my;omega
    exact wpS_bind (w_el (im_get ex) (w_beq (λq=>wpS_pure (.ret (fl (im_p e) C q))) λq=>w_if (wpS_pure (.go (.mk m (im_p e) ⟨C,by omega,N⟩ (by omega)))) (wpS_pure (.mk m (im_p e) ⟨C,by omega,N⟩ (by omega)))))
  .induction hb with
   |ret hq=>exact wpS_pure (wpS_pure hq)
   |go hb=>
   induction hb with|@mk m u0 v0 c d z o e p hc0=>?_
   dsimp (zeta:=af) only
   extract_lets -underBinder r1 t1 o2 t2 u2 t3 v2 t4 c2 d2
   dsimp (zeta:=af) only[r1,t1,o2,t2,u2,t3,v2,t4,c2,d2]
   refine wpS_bind (wpS_lift (wpAny_rule ⟨rfl,?_⟩));refine wpS_bind (wpS_mono (wpS_forRange (I:=λi=>Mg3 κ a pe g (Pl φ X Y) (u0+v0+i))
    (Q:=Maf κ a pe Q (Mg3 κ a pe g (Pl φ X Y) (u0+v0+1))) (λi b V _ hi M=>?_) (λb V M=>?_) (.mk m e p (aB _))) λb V hb=>?_)
   .induction M with|@mk m t J G c d z o e p O=>?_
    have U:=p.hu;have N:=p.hv;refine w_post λP pd py=>?_
    dsimp (zeta:=af) only
    extract_lets -underBinder s1 o1 s2 u1 s3 v1 s4 G1 s5 c1 d1 jp
    refine w_ite (jp:=jp) λG'=>?_
    dsimp (zeta:=af) only[jp]
    dsimp (zeta:=af) only[s1,o1,s2,u1,s3,v1,s4,G1,s5,c1,d1]
    refine gtE dY N λy S ny my=>wpS_bind (w_set (wpS_bind (w_el (im_get S) (wpS_bind (gal Oo (L:=X.drop t) (show 0 < (im g X).size - t by omega) (by rw[cD,F]) (λi _=>by rw[dR]) ny (W.drop t) (λx hx=>⟨dX x (cZ hx),ne x (cZ hx) y my⟩) λk hk h1 h2=>?_)))))
    dsimp (zeta:=af) only
    have hk':t+k < X.length:=by
     by_cases q:t+k < X.length
     .exact q
     refine gtE dX (show X.length - 1 < X.length by omega) λx ex nx mx=>?_
     have a1:=h1 x (dJ.mpr ⟨X.length - 1 - t,by rw[cQ,aq (by omega),dR,show t+(X.length - 1 - t)=X.length - 1 by omega,ex]⟩)
     have a2:=p2 x (dJ.mpr ⟨0,by rw[dR];exact ex⟩) y my
     omega
    rw[dS]at h2
    extract_lets -underBinder ac jp2 o5 u5
    have hj:∀ z o l,z=im g o->Fr φ (X++Y) o (X.drop l++Y.drop J)->l+1 < X.length->t<=l->(∀ x∈X.drop l,φ y < φ x)->wpS (bg prog w) A E s (jp2 () z l) P (St κ a pe G'):=by
     intro z o l e f U hle lt;dsimp (zeta:=af) only[jp2]
     refine wpS_bind (w_el (im_get S) ?_)
     extract_lets -underBinder o3 v3
     have eo:o3=im g (o++[y]):=im_p e;have C:=tl f S lt
     clear_value o3
     refine w_beq (λq=>wpS_pure (pd _ _ (.ret (fd eo C q)))) λq=>gtE dX (Nat.lt_of_succ_lt U) λx ex nx mx=>wpS_bind (w_el (im_get ex) (wpS_bind (gal Oo (L:=Y.drop (J+1)) (show 0 < (im g Y).size - v3 by show 0 < _ - (J+1);have q:J+1≠_:=q;omega) (by rw[cD,K]) (λi _=>by rw[dR]) nx (T.drop _) (λy H=>⟨dY y (cZ H),(ne x mx y (cZ H)).symm⟩) λk2 hk2 g1 g2=>?_)))
     rw[dS]at g2;have q:J+1≠(im g Y).size:=q;dsimp (zeta:=af) only
     extract_lets -underBinder bc jp3 o6 v6
     have hj3:∀ z o D,z=im g o->Fr φ (X++Y) o (X.drop l++Y.drop D)->D < Y.length->J < D->(∀ z∈Y.drop D,φ x < φ z)->wpS (bg prog w) A E s (jp3 () z D) P (St κ a pe G'):=by
      intro z o D e f N hlt lt;dsimp (zeta:=af) only[jp3]
      refine wpS_bind (w_el (im_get ex) ?_)
      extract_lets -underBinder o3 u3
      have C:=tk f ex lt;exact w_beq (λq=>wpS_pure (pd _ _ (.ret (fl (im_p e) C q)))) λq=>w_if (wpS_pure (pd _ _ (.go (.mk G' (im_p e) ⟨C,by have q:l+1+1≠_:=q;omega,N⟩ (by omega))))) (wpS_pure (py _ _ (.mk G' (im_p e) ⟨C,by have q:l+1+1≠_:=q;omega,N⟩ (by omega))))
     refine w_gt (λ_=>?_) λ_=>?_
     .have f2:=C.b k2 (T.drop _) λz F x' B=>eM (g1 z F) (mn W ex x' B)
      rw[dS]at f2;have e6:o6=im g (o++[y]++(Y.drop (J+1)).take k2):=im_c eo;exact w_beq (λq=>wpS_pure (pd _ _ (.ret (fd e6 f2 q)))) λq=>hj3 _ _ _ e6 f2 (by have q:J+1+k2≠_:=q;omega) (by omega) g2
     .exact hj3 _ _ _ eo C (by omega) (eI J) (by rw[show k2=0 by omega]at g2;exact g2)
    refine w_gt (λ_=>?_) λ_=>?_
    .have f2:=p.f.a k (W.drop _) λz F x' B=>eM (h1 z F) (mn T S x' B)
     rw[dS]at f2;have e5:o5=im g (o++(X.drop t).take k):=im_c e;exact w_beq (λq=>wpS_pure (pd _ _ (.ret (fl e5 f2 q)))) λq=>w_beq (λq=>by have q:t+k=_:=q;omega) λ_=>hj _ _ _ e5 f2 (by have q:t+k+1≠_:=q;omega) (by omega) h2
    .exact hj _ _ _ e p.f U (aB _) (by rw[show k=0 by omega]at h2;exact h2)
   .cases M with|mk m e p O=>exact .go (.mk m e p (by rw[cP (aS _),hT]at O;omega))
   .induction hb with
    |ret hq=>exact wpS_pure (wpS_pure hq)
    |go hb=>induction hb with|@mk m t J G c d z o e p hc1=>exact wpS_bind (w_set (wpS_pure (.mk _ e p (by show _<=t+J;omega))))
 .cases M with|mk m e p O=>?_
  have U:=p.hu;have N:=p.hv;rw[cP (aS _)]at O;rw[hT]at O;omega
end
variable{z:Array Keyed}
section
variable (Oo:Or prog w A s κ g φ n) {a:Array Keyed}{pe:Array (Nat×Nat×Nat)}{mg:Nat}
def mt{Z:Li Nat}{u:Nat}(a:Srt φ Z)(hu:0 < u)(e:Z[u - 1]?=aa x):∀ y∈Z.take u,φ y<=φ x:=λy b=>by
 obtain⟨i,g,f⟩:=mem_take b;obtain⟨d,rfl⟩:=bL.mp e;obtain⟨c,rfl⟩:=bL.mp f;by_cases q:i=u - 1
 .subst q;exact Int.le_refl _
 .exact Int.le_of_lt (fS.mp a i (u - 1) c d (by omega))
def take_last{u:Nat}(hu:0 < u)(e:Z[u - 1]?=aa x):(Z.take u).drop (u - 1)=[x]/\(Z.take u).take (u - 1)=Z.take (u - 1):=by
 obtain⟨u,rfl⟩:∃ v,u=v+1:=⟨u - 1,by omega⟩
 exact⟨by rw[List.drop_take,eZ,cY];exact take_one e,by rw[dE,eZ,cI (Nat.le_succ u)]⟩
structure Ph(φ:Nat->Int)(X Y:List Nat)(o:List Nat)(u v:Nat):Prop where
 f:Fb φ (X++Y) o (X.take u++Y.take v)
 u0:0 < u
 u1:u<=X.length
 v0:1 < v
 v1:v<=Y.length
inductive Mh1(κ:SortKind)(a:Array Keyed)(pe:Array (Nat×Nat×Nat))(g:Nat->Keyed)(P:List Nat->Nat->Nat->Prop)(N:Nat):Nat->Option (Array Keyed)×Nat×Nat×Array Keyed×Nat->SortSt->Prop
 |mk (m:Nat) {i u v G:Nat}{z:Array Keyed}{o:List Nat} (e:z=im g o.reverse) (p:P o u v) (hc:i+1+(u+v)<=N):Mh1 κ a pe g P N i (ab,u,v,z,G) (St κ a pe m)
inductive Mh2(κ:SortKind)(a:Array Keyed)(pe:Array (Nat×Nat×Nat))(g:Nat->Keyed)(P:List Nat->Nat->Nat->Prop)(N:Nat):Option (Array Keyed)×Nat×Nat×Array Keyed×Nat×Nat->SortSt->Prop
 |mk (m:Nat) {u v c d:Nat}{z:Array Keyed}{o:List Nat} (e:z=im g o.reverse) (p:P o u v) (hc:u+v<=N):Mh2 κ a pe g P N (ab,u,v,z,c,d) (St κ a pe m)
inductive Mh3(κ:SortKind)(a:Array Keyed)(pe:Array (Nat×Nat×Nat))(g:Nat->Keyed)(P:List Nat->Nat->Nat->Prop)(N k:Nat):Option (Array Keyed)×Nat×Nat×Array Keyed×Nat×Nat×Nat->SortSt->Prop
 |mk (m:Nat) {u v G c d:Nat}{z:Array Keyed}{o:List Nat} (e:z=im g o.reverse) (p:P o u v) (hc:u+v+k<=N):Mh3 κ a pe g P N k (ab,u,v,z,G,c,d) (St κ a pe m)
def im_pr(e:z=im g o.reverse):z.push (g x)=im g (x :: o).reverse:=by rw[e,im_push,fA]
def im_cr(e:z=im g o.reverse):z++((im g l).extract i j).reverse=im g (((l.take j).drop i)++o).reverse:=by rw[e,im_ext,im_rev,im_app,List.reverse_append]
include Oo
def mergeHi_ok{X Y:Li Nat}{Q:Array Keyed->SortSt->Prop}(hX:0 < X.length)(hY:0 < Y.length)(sX:Srt φ X)(Z:Srt φ Y)(dX:∀ x∈X,x < n)(dY:∀ y∈Y,y < n)(ne:∀ x∈X,∀ y∈Y,φ x≠φ y)(p1:∀ x∈X,∀ y∈Y.take 1,φ y < φ x)(p2:∀ x∈X.drop (X.length - 1),∀ y∈Y,φ y < φ x)(h:∀ R m,Srt φ R->R.Perm (X++Y)->Q (im g R) (St κ a pe m)) :
  wpS (bg prog w) A E s (mergeHi' (im g X) (im g Y)) Q (St κ a pe mg):=by
 refine wpS_bind (wpS_lift (wpAny_rule ⟨rfl,?_⟩))
 extract_lets -underBinder total done first na nb
 have M:(im g X).size=X.length:=im_size X;have hzy:(im g Y).size=Y.length:=im_size Y;have fd:∀ {o:Li Nat}{z:Array Keyed}{i j m:Nat},z=im g o.reverse->Fb φ (X++Y) o (X.take i++Y.take j)->i=0->Q (done z i j) (St κ a pe m):=λ{o z i j m} hz' hf e=>by
  subst e hz';have r:=hf _ ((sX.take 0).mk (Z.take j) (λx hx=>nomatch hx)) (List.Perm.refl _)
  show Q ((im g X).extract 0 0++(im g Y).extract 0 j++(im g o.reverse).reverse) _;rw[im_ext,im_ext,im_rev,List.reverse_reverse,im_app,im_app,cJ,cJ];exact h _ m r.1 r.2
 have fl:∀ {o:Li Nat}{z:Array Keyed}{i j m:Nat},z=im g o.reverse->Fb φ (X++Y) o (X.take i++Y.take j)->j=1->Q (first z i j) (St κ a pe m):=λ{o z i j m} hz' hf e=>by
  subst e hz';have r:=hf _ ((Z.take 1).mk (sX.take i) (λy N x hx=>p1 x (cT hx) y N)) fP
  show Q ((im g Y).extract 0 1++(im g X).extract 0 i++(im g o.reverse).reverse) _;rw[im_ext,im_ext,im_rev,List.reverse_reverse,im_app,im_app,cJ,cJ];exact h _ m r.1 r.2
 clear_value done first
 have hT:total=X.length+Y.length:=by show(im g X).size+(im g Y).size=_;rw[M,hzy]
 have eu:na=X.length - 1:=by show(im g X).size - 1=_;rw[M]
 have ev:nb=Y.length:=hzy
 clear_value na nb
 have tk:∀ {o:Li Nat}{u v x:Nat},Fb φ (X++Y) o (X.take u++Y.take v)->0 < u->X[u - 1]?=aa x->(∀ y∈Y.take v,φ y < φ x)->Fb φ (X++Y) (x :: o) (X.take (u - 1)++Y.take v):=λ{o u v x} f B e lt=>by
  have r:=f.a (u - 1) (sX.take u) (by rw[(take_last B e).1];intro x' t y N;obtain rfl:=aQ.mp t;exact lt y N)
  rw[(take_last B e).1,(take_last B e).2]at r;exact r
 have tl:∀ {o:Li Nat}{u v x:Nat},Fb φ (X++Y) o (X.take u++Y.take v)->0 < v->Y[v - 1]?=aa x->(∀ y∈X.take u,φ y < φ x)->Fb φ (X++Y) (x :: o) (X.take u++Y.take (v - 1)):=λ{o u v x} f B e lt=>by
  have r:=f.b (v - 1) (Z.take v) (by rw[(take_last B e).1];intro x' t y N;obtain rfl:=aQ.mp t;exact lt y N)
  rw[(take_last B e).1,(take_last B e).2]at r;exact r
 refine gtE dX (i:=na) (by omega) λx0 T nx0 mx0=>wpS_bind (w_el (im_get T) ?_)
 extract_lets -underBinder out
 have e0:out=im g [x0].reverse:=im_push [] x0;have f0:Fb φ (X++Y) [x0] (X.take na++Y.take nb):=by
  have i0:Fb φ (X++Y) [] (X.take X.length++Y.take Y.length):=λR hR pR=>by rw[cR,cR]at pR;rw[bD];exact⟨hR,pR⟩
  rw[eu]at T;rw[eu,ev];exact tk i0 hX T λy N=>p2 x0 (dJ.mpr ⟨0,by rw[dR];exact T⟩) y (cT N)
 clear_value out
 refine w_beq (λq=>wpS_pure (fd e0 f0 q)) λq1=>w_beq (λq=>wpS_pure (fl e0 f0 q)) λq2=>wpS_bind (wpS_get ?_)
 extract_lets -underBinder mg0
 refine wpS_bind (wpS_forRange (I:=Mh1 κ a pe g (Ph φ X Y) (X.length+Y.length)) (λi b W _ hi K=>?_) (λb W K=>?_) (.mk mg (o:=[x0]) e0 ⟨f0,by omega,by omega,by omega,by omega⟩ (by omega)))
 .induction K with|@mk m _ u v G z o e p hc=>?_
  dsimp (zeta:=af) only
  extract_lets -underBinder s1 u1 s2 v1 s3 o1 G1
  dsimp (zeta:=af) only[s1,u1,s2,v1,s3,o1,G1]
  refine wpS_bind (wpS_mono (wpS_forRange (I:=λ_=>Mh2 κ a pe g (Ph φ X Y) (u+v))
   (Q:=Maf κ a pe Q (Mh2 κ a pe g (Ph φ X Y) (u+v))) (λi b W _ hi K=>?_) (λb W K=>.go K) (.mk m e p (aB _))) λb W hb=>?_)
  .induction K with|@mk m J D c d z o e p hc=>?_
   have B:=p.u0;have V:=p.v0;have hu1:=p.u1;have H:=p.v1;refine gtE dX (show J - 1 < X.length by omega) λx ex nx mx=>gtE dY (show D - 1 < Y.length by omega) λy S ny my=>?_
   dsimp only;refine wpS_bind (w_el (im_get S) (wpS_bind (w_el (im_get ex) (wpS_bind (w_lt Oo ny nx ?_)))));by_cases lt:φ y < φ x
   .rw[aF lt]
    have C:=tk p.f B ex λz M=>fB (mt Z (eV eO V) S z M) lt
    exact wpS_bind (w_el (im_get ex) (w_beq (λq=>wpS_pure (.ret (fd (im_pr e) C q))) λq=>w_if (wpS_pure (.go (.mk m (im_pr e) ⟨C,by omega,by omega,V,H⟩ (by omega)))) (wpS_pure (.mk m (im_pr e) ⟨C,by omega,by omega,V,H⟩ (by omega)))))
   .rw[aI lt]
    have C:=tl p.f (eV eO V) S λz M=>by have:=mt sX B ex z M;have:=ne x mx y my;omega
    exact wpS_bind (w_el (im_get S) (w_beq (λq=>wpS_pure (.ret (fl (im_pr e) C q))) λq=>w_if (wpS_pure (.go (.mk m (im_pr e) ⟨C,B,hu1,by omega,by omega⟩ (by omega)))) (wpS_pure (.mk m (im_pr e) ⟨C,B,hu1,by omega,by omega⟩ (by omega)))))
  .induction hb with
   |ret hq=>exact wpS_pure (wpS_pure hq)
   |go hb=>
   induction hb with|@mk m u0 v0 c d z o e p hc0=>?_
   dsimp (zeta:=af) only
   extract_lets -underBinder r1 t1 u2 t2 v2 t3 o2 t4 c2 d2
   dsimp (zeta:=af) only[r1,t1,u2,t2,v2,t3,o2,t4,c2,d2]
   refine wpS_bind (wpS_lift (wpAny_rule ⟨rfl,?_⟩));refine wpS_bind (wpS_mono (wpS_forRange (I:=Mh3 κ a pe g (Ph φ X Y) (u0+v0))
    (Q:=Maf κ a pe Q (Mh3 κ a pe g (Ph φ X Y) (u0+v0) 1)) (λi b W _ hi K=>?_) (λb W K=>?_) (.mk m e p (aB _))) λb W hb=>?_)
   .induction K with|@mk m J D G c d z o e p hc=>?_
    have B:=p.u0;have V:=p.v0;have hu1:=p.u1;have H:=p.v1;refine w_post λP pd py=>?_
    dsimp (zeta:=af) only
    extract_lets -underBinder s1 u1 s2 v1 s3 o1 s4 G1 s5 c1 d1 jp
    refine w_ite (jp:=jp) λG'=>?_
    dsimp (zeta:=af) only[jp]
    dsimp (zeta:=af) only[s1,u1,s2,v1,s3,o1,s4,G1,s5,c1,d1]
    refine gtE dY (show D - 1 < Y.length by omega) λy S ny my=>wpS_bind (w_set (wpS_bind (w_el (im_get S) (wpS_bind (gal Oo (L:=X.take J) (show J - 1 < J by omega) (by rw[aU];omega) (λi hi=>by rw[cQ,aq hi,bY]) ny (sX.take J) (λx hx=>⟨dX x (cT hx),ne x (cT hx) y my⟩) λk hk h1 h2=>?_)))))
    dsimp (zeta:=af) only
    rw[dE,cI hk]at h1
    extract_lets -underBinder k3 ac jp2 o5 u5
    have hj:∀ z o l,z=im g o.reverse->Fb φ (X++Y) o (X.take l++Y.take D)->0 < l->l<=J->(∀ x∈X.take l,φ x < φ y)->wpS (bg prog w) A E s (jp2 () l z) P (St κ a pe G'):=by
     intro z o l e f hu0 hle lt;dsimp (zeta:=af) only[jp2]
     extract_lets -underBinder v3
     refine wpS_bind (w_el (im_get S) ?_)
     extract_lets -underBinder o3
     have eo:o3=im g (y :: o).reverse:=im_pr e;have C:=tl f (eV eO V) S lt
     clear_value o3
     refine w_beq (λq=>wpS_pure (pd _ _ (.ret (fl eo C q)))) λq=>gtE dX (show l - 1 < X.length by omega) λx ex nx mx=>wpS_bind (w_el (im_get ex) (wpS_bind (gal Oo (L:=Y.take (D - 1)) (show D - 1 - 1 < D - 1 by omega) (by rw[aU];omega) (λi hi=>by rw[cQ,aq hi,bY]) nx (Z.take _) (λy N=>⟨dY y (cT N),(ne x mx y (cT N)).symm⟩) λU hk2 g1 g2=>?_)))
     rw[dE,cI hk2]at g1;have hk0:0 < U:=by
      rcases Nat.eq_zero_or_pos U with rfl|q0
      .refine gtE dY hY λy0 ey0 ny0 my0=>?_
       have m0:y0∈Y.take 1:=dJ.mpr ⟨0,by rw[cQ,aq eO];exact ey0⟩
       have a1:=p1 x mx y0 m0;have a2:=g2 y0 (dJ.mpr ⟨0,by rw[dR,cQ,aq (by omega)];exact ey0⟩)
       omega
      .exact q0
     dsimp (zeta:=af) only
     extract_lets -underBinder k4 bc jp3 o6 v6
     have hj3:∀ z o F,z=im g o.reverse->Fb φ (X++Y) o (X.take l++Y.take F)->1 < F->F < D->(∀ z∈Y.take F,φ z < φ x)->wpS (bg prog w) A E s (jp3 () F z) P (St κ a pe G'):=by
      intro z o F e f H hlt lt;dsimp (zeta:=af) only[jp3]
      extract_lets -underBinder u3
      refine wpS_bind (w_el (im_get ex) ?_)
      extract_lets -underBinder o3
      have C:=tk f hu0 ex lt;exact w_beq (λq=>wpS_pure (pd _ _ (.ret (fd (im_pr e) C q)))) λq=>w_if (wpS_pure (pd _ _ (.go (.mk G' (im_pr e) ⟨C,by have q:l - 1≠0:=q;omega,by omega,H,by omega⟩ (by omega))))) (wpS_pure (py _ _ (.mk G' (im_pr e) ⟨C,by have q:l - 1≠0:=q;omega,by omega,H,by omega⟩ (by omega))))
     refine w_gt (λ_=>?_) λO=>?_
     .have f2:=C.b U (Z.take _) λz M x' t=>fB (mt sX hu0 ex x' t) (g2 z M)
      rw[dE,cI hk2]at f2;have e6:o6=im g ((Y.take (D - 1)).drop U++(y :: o)).reverse:=im_cr eo;exact w_beq (λq=>wpS_pure (pd _ _ (.ret (fl e6 f2 q)))) λq=>w_beq (λq=>by have q:U=0:=q;omega) λ_=>hj3 _ _ _ e6 f2 (by have q:U≠1:=q;omega) (by omega) g1
     .have O:U=D - 1:=by have O:¬(D - 1 - U > 0):=O;omega
      have q:D - 1≠1:=q;exact hj3 _ _ _ eo C (by omega) (by omega) (by rw[O]at g1;exact g1)
    refine w_gt (λ_=>?_) λO=>?_
    .have f2:=p.f.a k (sX.take _) λz M x' t=>fB (mt Z (eV eO V) S x' t) (h2 z M)
     rw[dE,cI hk]at f2;have e5:o5=im g ((X.take J).drop k++o).reverse:=im_cr e;exact w_beq (λq=>wpS_pure (pd _ _ (.ret (fd e5 f2 q)))) λq=>hj _ _ _ e5 f2 (Nat.pos_of_ne_zero q) hk h1
    .have O:k=J:=by have O:¬(J - k > 0):=O;omega
     exact hj _ _ _ e p.f B (aB _) (by rw[O]at h1;exact h1)
   .cases K with|mk m e p hc=>exact .go (.mk m e p (by rw[cP (aS _),hT]at hc;have:=hX;omega))
   .induction hb with
    |ret hq=>exact wpS_pure (wpS_pure hq)
    |go hb=>induction hb with|@mk m J D G c d z o e p hc1=>exact wpS_bind (w_set (wpS_pure (.mk _ e p (by show _+(J+D)<=_;omega))))
 .cases K with|mk m e p hc=>?_
  have B:=p.u0;have V:=p.v0;rw[cP (aS _)]at hc;rw[hT]at hc;omega
end
section
def back{c:Nat}(l:Li Keyed):∀ (k:Nat) (b M V:Li Keyed) (arr:Array Keyed),arr.toList=b++(M++V)->b.length=c+k->M.length=l.length->((l.zipIdx k).foldl (λa (p,j)=>a.setIfInBounds (c+j) p) arr).toList=b++(l++V):=by
 induction l with
 |nil=>
  intro k b M V arr h _ d;rw[fC.mp d]at h;exact h
 |cons p l g=>
  intro k b M V arr h f d;obtain⟨m,M,rfl⟩:=List.exists_cons_of_length_eq_add_one d;rw[List.zipIdx_cons,List.foldl_cons];have e:(arr.setIfInBounds (c+k) p).toList=(b++[p])++(M++V):=by
   rw[Array.toList_setIfInBounds,h,<-f,List.cons_append,List.set_append_right _ _ (aB _),eP,List.set_cons_zero,aM];rfl
  rw[g (k+1) (b++[p]) M V _ e (by rw[aG,f];rfl) (Nat.succ.inj d),aM]
  rfl
def back_im{c:Nat}{R b M V:Li Nat}(hu:b.length=c)(d:M.length=R.length):(im g R).toList.zipIdx.foldl (λa (p,j)=>a.setIfInBounds (c+j) p) (im g (b++(M++V)))=im g (b++(R++V)):=by
 apply Array.toList_inj.mp
 have r:=back (c:=c) (R.map g) 0 (b.map g) (M.map g) (V.map g) (im g (b++(M++V))) (by simp[im]) (by rw[aD,hu];rfl) (by rw[aD,aD,d])
 simp only[im]at r ⊢;rw[r];simp
def mid(P X Z:Li Nat)(a:i < X.length):(P++(X++Z))[P.length+i]?=X[i]?:=by
 rw[bE (cV _ _),cY,bS a]
def mid_ext(P X Z:Li Nat)(a:j<=X.length):((P++(X++Z)).take (P.length+j)).drop (P.length+i)=(X.take j).drop i:=by
 rw[List.take_append,cY,fU (cV _ _),List.drop_append,cY,dU (cV _ _),eK,List.take_append_of_le_length a]
variable (Oo:Or prog w A s κ g φ n) {a:Array Keyed}{pe:Array (Nat×Nat×Nat)}{mg:Nat}
include Oo
def mergeAt_ok{P X Y S:Li Nat}{K J:Nat}{Q:Bool->SortSt->Prop}(e1:pe[i]?=aa (P.length,X.length,K))(e2:pe[i+1]?=aa (P.length+X.length,Y.length,J))(hX:0 < X.length)(hY:0 < Y.length)(t:Srt φ X)(o:Srt φ Y)(W:∀ x∈X,x < n)(V:∀ y∈Y,y < n)(ne:∀ x∈X,∀ y∈Y,φ x≠φ y)(h:∀ R m,Srt φ R->R.Perm (X++Y)->Q ae (St κ (im g (P++(R++S))) ((pe.setIfInBounds i (P.length,X.length+Y.length,K)).eraseIdxIfInBounds (i+1)) m)) :
  wpS (bg prog w) A E s (mergeAt' i) Q (St κ (im g (P++(X++(Y++S)))) pe mg):=by
 refine wpS_bind (wpS_get ?_);show wpS _ _ _ _ (match (pe[i]?,pe[i+1]?) with | (aa (sa,na,M),aa (sb,nb,_))=>_|_=>_) _ _
 rw[e1,e2];refine wpS_bind (wpS_set ?_);obtain⟨u,d⟩:∃ y,Y[0]?=aa y:=⟨_,Lg hY⟩;have C:=aX d;have H:=V u C;have U:P++(X++(Y++S))=(P++X)++(Y++S):=by rw[aM]
 have N:(P++X).length=P.length+X.length:=aG;have a0:(P++(X++(Y++S)))[P.length+X.length]?=aa u:=by
  rw[U,<-N,<-d];exact mid (P++X) Y S (i:=0) hY
 refine wpS_bind (w_el (im_get a0) ?_);refine wpS_bind (gal Oo (L:=X) hX rfl (λi T=>mid P X _ T) H t (λx hx=>⟨W x hx,ne x hx u C⟩) λk hk F h2=>?_)
 show wpS _ _ _ _ (if (X.length - k==0)=ae then _ else _) _ _
 have c:∀ y∈Y,φ u<=φ y:=λy hy=>by have:=mn o d y (by rw[cJ];exact hy);exact this
 split
 .rename_i q
  have q:X.length - k=0:=beq_iff_eq.mp q;obtain rfl:k=X.length:=by omega
  rw[cR]at F;have r:=h (X++Y) mg (t.mk o λx hx y hy=>eM (F x hx) (c y hy)) (List.Perm.refl _)
  rw[aM]at r;exact wpS_pure r
 rename_i q;have q:k < X.length:=by
  have:X.length - k≠0:=λe=>q (beq_iff_eq.mpr e)
  omega
 obtain⟨z,f⟩:∃ x,X[X.length - 1]?=aa x:=⟨_,Lg (by omega)⟩
 have D:=aX f;have a1:(P++(X++(Y++S)))[P.length+k+(X.length - k) - 1]?=aa z:=by
  rw[show P.length+k+(X.length - k) - 1=P.length+(X.length - 1) by omega,mid P X _ (by omega),f]
 refine wpS_bind (w_el (im_get a1) ?_);refine wpS_bind (gal Oo (L:=Y) (show Y.length - 1 < Y.length by omega) rfl (λi T=>by rw[U,<-N];exact mid (P++X) Y S T) (W z D) o (λy hy=>⟨V y hy,(ne z D y hy).symm⟩) λb O g1 g2=>?_)
 show wpS _ _ _ _ (if (b==0)=ae then _ else _) _ _
 have v:∀ x∈X,φ x<=φ z:=λx hx=>mt t hX f x (by rw[cR];exact hx)
 split
 .rename_i q
  obtain rfl:b=0:=beq_iff_eq.mp q;have r:=h (X++Y) mg (t.mk o λx hx y hy=>fB (v x hx) (g2 y hy)) (List.Perm.refl _)
  rw[aM]at r;exact wpS_pure r
 rename_i I;have I:0 < b:=by
  have:b≠0:=λe=>I (beq_iff_eq.mpr e)
  omega
 have ex:(im g (P++(X++(Y++S)))).extract (P.length+k) (P.length+X.length)=im g (X.drop k):=by
  rw[im_ext,mid_ext P X _ (aB _),cR]
 have ey:(im g (P++(X++(Y++S)))).extract (P.length+X.length) (P.length+X.length+b)=im g (Y.take b):=by
  rw[im_ext,U,<-N];have:=mid_ext (P++X) Y S (i:=0) O;rw[Nat.add_zero,cJ]at this;rw[this]
 have G:∀ R m,Srt φ R->R.Perm (X.drop k++Y.take b)->wpS (bg prog w) A E s (do
   modify λs=>setArr s ((im g R).toList.zipIdx.foldl (λa (p,j)=>a.setIfInBounds (P.length+k+j) p) (arrOf s))
   return (failedOf (<-get)).isNone) Q (St κ (im g (P++(X++(Y++S)))) ((pe.setIfInBounds i (P.length,X.length+Y.length,K)).eraseIdxIfInBounds (i+1)) m):=λR m B l=>by
  refine wpS_bind (wpS_modify (wpS_bind (wpS_get (wpS_pure ?_))));show Q ae (St κ ((im g R).toList.zipIdx.foldl (λa (p,j)=>a.setIfInBounds (P.length+k+j) p) (im g (P++(X++(Y++S))))) _ m)
  have e0:P++(X++(Y++S))=(P++X.take k)++((X.drop k++Y.take b)++(Y.drop b++S)):=by
   simp only[aM];rw[<-aM (X.take k),bF,<-aM (Y.take b),bF]
  rw[e0,back_im (by rw[aG,aU];omega) l.length_eq.symm]
  have r:=h (X.take k++(R++Y.drop b)) m ?_ ?_
  .have e3:P++(X.take k++(R++Y.drop b)++S)=P++X.take k++(R++(Y.drop b++S)):=by simp only[aM]
   rw[e3]at r;exact r
  .refine(t.take k).mk (B.mk (o.drop b) λx hx y hy=>?_) λx hx y hy=>?_
   .rcases bC.mp (l.mem_iff.mp hx) with hx|hx
    .exact fB (v x (cZ hx)) (g2 y hy)
    .exact Int.lt_trans (g1 x hx) (g2 y hy)
   .rcases bC.mp hy with hy|hy
    .rcases bC.mp (l.mem_iff.mp hy) with hy|hy
     .exact Int.lt_trans (F x hx) (h2 y hy)
     .exact eM (F x hx) (c y (cT hy))
    .exact eM (F x hx) (c y (cZ hy))
  .have p:=(l.append_right (Y.drop b)).append_left (X.take k)
   rw[aM (X.drop k),bF,<-aM (X.take k) (X.drop k),bF]at p;exact p
 have p1:∀ x∈X.drop k,∀ y∈(Y.take b).take 1,φ y < φ x:=λx hx y hy=>by
  rw[dE,cI I]at hy;have:Y.take 1=[u]:=take_one (i:=0) d;rw[this]at hy;obtain rfl:=aQ.mp hy;exact h2 x hx
 have Z:∀ x∈(X.drop k).drop ((X.drop k).length - 1),∀ y∈Y.take b,φ y < φ x:=λx hx y hy=>by
  rw[dS,cD,show k+(X.length - k - 1)=X.length - 1 by omega]at hx
  have:X.drop (X.length - 1)=[z]:=by
   have:=take_one f
   rwa [fU (by rw[cD];omega)]at this
  rw[this]at hx;obtain rfl:=aQ.mp hx;exact g1 y hy
 have l1:0 < (X.drop k).length:=by rw[cD];omega
 have l2:0 < (Y.take b).length:=by rw[aU];omega
 have d1:∀ x∈X.drop k,x < n:=λx hx=>W x (cZ hx)
 have d2:∀ x∈Y.take b,x < n:=λx hx=>V x (cT hx)
 have n1:∀ x∈X.drop k,∀ y∈Y.take b,φ x≠φ y:=λx hx y hy=>ne x (cZ hx) y (cT hy)
 show wpS _ _ _ _ (if X.length - k<=b then mergeLo' ((im g (P++(X++(Y++S)))).extract (P.length+k) (P.length+X.length)) ((im g (P++(X++(Y++S)))).extract (P.length+X.length) (P.length+X.length+b)) >>= _ else _) _ _
 split
 .rw[ex,ey]
  exact wpS_bind (mergeLo_ok Oo l1 l2 (t.drop k) (o.take b) d1 d2 n1 p1 Z λR m B l=>G R m B l)
 .show wpS _ _ _ _ (mergeHi' ((im g (P++(X++(Y++S)))).extract (P.length+k) (P.length+X.length)) ((im g (P++(X++(Y++S)))).extract (P.length+X.length) (P.length+X.length+b)) >>= _) _ _
  rw[ex,ey];exact wpS_bind (mergeHi_ok Oo l1 l2 (t.drop k) (o.take b) d1 d2 n1 p1 Z λR m B l=>G R m B l)
end
section
structure Ok(φ:Nat->Int)(n:Nat)(T:List Nat):Prop where
 d:T.Pairwise λi j=>φ i≠φ j
 b:∀ x∈T,x < n
def Ok.perm{T a:Li Nat}(h:Ok φ n T)(p:a.Perm T):Ok φ n a:=⟨(p.pairwise_iff λh=>Ne.symm h).mpr h.d,λx c=>h.b x (p.mem_iff.mp c)⟩
def Ok.ne{T:Li Nat}(h:Ok φ n T){i j x y:Nat}(e:T[i]?=aa x)(c:T[j]?=aa y)(ne:i≠j):φ x≠φ y:=by
 obtain⟨b,rfl⟩:=bL.mp e;obtain⟨a,rfl⟩:=bL.mp c;rcases Nat.lt_or_gt_of_ne ne with q|q
 .exact fS.mp h.d i j b a q
 .exact(fS.mp h.d j i a b q).symm
def take_succ{T:Li Nat}(e:T[m]?=aa x):T.take (m+1)=T.take m++[x]:=by rw[List.take_succ,e];rfl
def Srt.snoc{T:Li Nat}(h:Srt φ (T.take m))(c:0 < m)(e:T[m - 1]?=aa x)(d:T[m]?=aa y)(lt:φ x < φ y):Srt φ (T.take (m+1)):=by
 rw[take_succ d];refine h.mk (fV _ _) λz a f b=>?_
 obtain rfl:=aQ.mp b;have:=mt h c (by rw[cQ,aq (by omega)];exact e) z (by rw[dE,Nat.min_self];exact a)
 omega
def Dsc.snoc{T:Li Nat}(h:Srt φ (T.take m).reverse)(g:0 < m)(e:T[m - 1]?=aa x)(f:T[m]?=aa y)(lt:φ y < φ x):Srt φ (T.take (m+1)).reverse:=by
 rw[take_succ f,List.reverse_append];refine Srt.mk (l:=[y].reverse) (fV _ _) h λz b a c=>?_
 obtain rfl:z=y:=aQ.mp b;have d:(T.take m).reverse[0]?=aa x:=by
  have i:m - 1 < T.length:=(bL.mp e).1;rw[List.getElem?_reverse (by rw[aU];omega),aU,cQ,aq (by omega),<-e]
  congr 1;omega
 have:=mn h d a (by rw[cJ];exact c)
 omega
def imq(l:Li Nat)(k:Nat):(im g l)[k]?=(l[k]?).map g:=by simp[im]
def mirror_im(a M V:Li Nat):mirror (im g (a++(M++V))) a.length (a.length+M.length) ((a.length+M.length - a.length) / 2)=im g (a++(M.reverse++V)):=by
 apply Array.ext_getElem?
 intro k;rw[getElem?_mirror_all (by rw[im_size];simp only[aG];omega),imq,imq,imq]
 split
 .rename_i q
  obtain⟨j,rfl⟩:∃ j,k=a.length+j:=⟨k - a.length,by omega⟩
  rw[mid a M.reverse V (by rw[dL];omega),show a.length+(a.length+M.length) - 1 - (a.length+j)=a.length+(M.length - 1 - j) by omega,mid a M V (by omega),List.getElem?_reverse (by omega)]
 .rename_i q
  by_cases h:k < a.length
  .rw[bS h,bS h]
  .rw[bE (by omega),bE (by omega),bE (by omega),bE (by rw[dL];omega),dL]
def bubble_im(a M V:Li Nat)(x:Nat):bubble (im g (a++(M++x :: V))) (a.length+M.length) M.length=im g (a++(x :: (M++V))):=by
 apply Array.ext_getElem?
 intro k;rw[getElem?_bubble (by rw[im_size];simp only[aG,aY];omega) _ (Nat.le_add_left _ _),imq,imq,imq,imq,eZ]
 split
 .rename_i q
  subst q;rw[bE (cV _ _),cY,bE (aB _),bE (aB _),eP,eP];rfl
 .split
  .obtain⟨j,rfl⟩:∃ j,k=a.length+(j+1):=⟨k - a.length - 1,by omega⟩
   rw[show a.length+(j+1) - 1=a.length+j by omega,mid a M _ (by omega),bE (cV _ _),cY,gM,bS (by omega)]
  .by_cases h:k < a.length
   .rw[bS h,bS h]
   .obtain⟨j,rfl⟩:∃ j,k=a.length+(M.length+(j+1)):=⟨k - a.length - M.length - 1,by omega⟩
    rw[bE (cV _ _),bE (cV _ _),cY,bE (cV _ _),cY,gM,<-Nat.add_assoc,gM,bE (cV _ _),cY]
variable (Oo:Or prog w A s κ g φ n) {a:Array Keyed}{pe:Array (Nat×Nat×Nat)}{mg:Nat}
def rev_ok{P T:Li Nat}{Q:Unit->SortSt->Prop}(a:m<=T.length)(h:Q () (St κ (im g (P++((T.take m).reverse++T.drop m))) pe mg)):wpS M A E s (reverseSlice' P.length (P.length+m)) Q (St κ (im g (P++T)) pe mg):=by
 rw[reverseSlice'_eq];refine wpS_modify ?_;show Q () (St κ (mirror (im g (P++T)) P.length (P.length+m) ((P.length+m - P.length) / 2)) pe mg);have e:=mirror_im (g:=g) P (T.take m) (T.drop m);rw[bF,aU,cI a]at e;rw[e];exact h
include Oo
def asc_ok{P T:Li Nat}{Q:Ot (Ot Nat)×Nat->SortSt->Prop}(J:1<=m)(D:m<=T.length)(l:Ok φ n T)(B:Srt φ (T.take m))(h:∀ d,1<=d->m<=d->d<=T.length->Srt φ (T.take d)->(d < T.length->∀ x y,T[d]?=aa x->T[d - 1]?=aa y->φ x < φ y)->Q (ab,d) (St κ (im g (P++T)) pe mg)) :
  wpS (bg prog w) A E s (forIn [m:T.length] ((ab,m):Ot (Ot Nat)×Nat) λ_ c=>do
   let x <-ltAt' (P.length+c.snd) (P.length+c.snd - 1)
   match x with
   |some a=>if a=ae then pure (.done (ab,c.snd)) else pure (.yield (ab,c.snd+1))
   |_=>pure (.done (aa ab,c.snd))) Q (St κ (im g (P++T)) pe mg):=by
 refine wpS_forRange (I:=λi b j=>j=St κ (im g (P++T)) pe mg/\∃ k,b=(ab,k)/\i=k/\m<=k/\k<=T.length/\Srt φ (T.take k)) (λi b j _ F o=>?_) (λb j o=>?_) ⟨rfl,m,rfl,rfl,aB _,D,B⟩
 .obtain⟨rfl,k,rfl,G,r,p,e⟩:=o
  by_cases q:k < T.length
  .have ex:=Lg q
   have f:=Lg (show k - 1 < T.length by omega)
   have z:=mid P T [] q;have v:=mid P T [] (show k - 1 < T.length by omega)
   rw[bD,ex]at z;rw[bD,f]at v;have nx:=l.b _ (bN q);have C:=l.b _ (bN (show k - 1 < T.length by omega))
   have ne:=l.ne ex f (by omega)
   refine wpS_bind (w_ltAt Oo z (by show(P++T)[P.length+k - 1]?=_;rw[show P.length+k - 1=P.length+(k - 1) by omega];exact v) nx C ?_)
   by_cases lt:φ T[k] < φ T[k - 1]
   .rw[aF lt]
    exact wpS_pure (h k (by omega) r p e λ_ x y u t=>by rw[ex]at u;rw[f]at t;cases u;cases t;exact lt)
   .rw[aI lt]
    exact wpS_pure ⟨rfl,k+1,rfl,by omega,by omega,q,e.snoc (by omega) f ex (by omega)⟩
  .have H:i < T.length:=F
   omega
 .obtain⟨rfl,k,rfl,G,r,p,e⟩:=o
  exact h k (by omega) r p e λq=>by omega
def count_ok{P T:Li Nat}{Q:Ot Nat->SortSt->Prop}(t:0 < T.length)(o:Ok φ n T)(h:∀ R S,0 < R.length->Srt φ R->(R++S).Perm T->Q (aa R.length) (St κ (im g (P++(R++S))) pe mg)) :
  wpS (bg prog w) A E s (countRun' P.length T.length) Q (St κ (im g (P++T)) pe mg):=by
 have s1:Srt φ (T.take 1):=by
  match T,t with
  |x :: T,_=>exact fV _ _
 refine wpS_bind (wpS_mono (asc_ok Oo (Q:=λb a=>a=St κ (im g (P++T)) pe mg/\∃ m,b=(ab,m)/\1<=m/\m<=T.length/\Srt φ (T.take m)/\(m < T.length->∀ x y,T[m]?=aa x->T[m - 1]?=aa y->φ x < φ y)) (aB 1) t o s1 λm D _ f d c=>⟨rfl,m,rfl,D,f,d,c⟩) λb a B=>?_)
 obtain⟨rfl,m,rfl,D,f,d,c⟩:=B;have C:Q (aa m) (St κ (im g (P++T)) pe mg):=by
  have r:=h (T.take m) (T.drop m) (by rw[aU];omega) d (List.Perm.of_eq (bF m T))
  rw[bF,aU,cI f]at r;exact r
 dsimp (zeta:=af) only
 extract_lets -underBinder r1 m1
 dsimp (zeta:=af) only[r1,m1]
 split
 .exact wpS_pure C
 rename_i q;have q:m≠T.length:=λe=>q (beq_iff_eq.mpr e)
 extract_lets -underBinder jp
 split
 .rename_i z
  have z:m > 1:=z;have ex:=Lg t;have j:=Lg (show m - 1 < T.length by omega)
  have v:=mid P T [] t;have u:=mid P T [] (show m - 1 < T.length by omega)
  rw[bD,ex,Nat.add_zero]at v;rw[bD,j]at u;refine wpS_bind (w_ltAt Oo v (by show(P++T)[P.length+m - 1]?=_;rw[show P.length+m - 1=P.length+(m - 1) by omega];exact u) (o.b _ (bN _)) (o.b _ (bN _)) ?_)
  have lt:φ T[0] < φ T[m - 1]:=by
   have:=fS.mp d 0 (m - 1) (by rw[aU];omega) (by rw[aU];omega) (by omega)
   rw[List.getElem_take,List.getElem_take]at this;exact this
  rw[aF lt];exact wpS_pure C
 .rename_i z
  have z:¬m > 1:=z;obtain rfl:m=1:=by omega
  dsimp (zeta:=af) only[jp]
  refine wpS_bind (wpS_lift (wpAny_rule ⟨rfl,?_⟩));have ex:=Lg t;have j:=Lg (show 1 < T.length by omega)
  have N:Srt φ (T.take 2).reverse:=Dsc.snoc (m:=1) (by
   match T,t with
   |x :: T,_=>exact fV _ _) eO ex j (c (by omega) _ _ j ex)
  refine wpS_bind (wpS_mono (wpS_forRange (I:=λi b a=>a=St κ (im g (P++T)) pe mg/\∃ k,b=(ab,k,0)/\i=k/\2<=k/\k<=T.length/\Srt φ (T.take k).reverse)
   (Q:=λb a=>a=St κ (im g (P++T)) pe mg/\∃ k,b=(ab,k,0)/\2<=k/\k<=T.length/\Srt φ (T.take k).reverse) (λi b a _ K H=>?_) (λb a H=>?_) ⟨rfl,2,rfl,rfl,aB _,by omega,N⟩) λb a B=>?_)
  .obtain⟨rfl,k,rfl,D,f,d,c⟩:=H
   have K:i < T.length:=K;by_cases q:k < T.length
   .have ex:=Lg q
    have j:=Lg (show k - 1 < T.length by omega)
    have v:=mid P T [] q;have u:=mid P T [] (show k - 1 < T.length by omega)
    rw[bD,ex]at v;rw[bD,j,show P.length+(k - 1)=P.length+k - 1 by omega]at u
    have nx:=o.b _ (bN q);have J:=o.b _ (bN (show k - 1 < T.length by omega))
    have ne:=o.ne ex j (by omega)
    refine wpS_bind (w_ltAt Oo v u nx J ?_);by_cases lt:φ T[k] < φ T[k - 1]
    .rw[aF lt]
     exact wpS_pure ⟨rfl,k+1,rfl,by omega,by omega,q,Dsc.snoc c (by omega) j ex lt⟩
    .rw[aI lt]
     refine wpS_bind (w_ltAt Oo u v J nx ?_);rw[aF (show φ T[k - 1] < φ T[k] by omega)]
     exact wpS_pure ⟨rfl,k,rfl,f,d,c⟩
   .omega
  .obtain⟨rfl,k,rfl,D,f,d,c⟩:=H
   exact⟨rfl,k,rfl,f,d,c⟩
  .obtain⟨rfl,k,rfl,f,d,c⟩:=B
   refine wpS_bind (rev_ok d ?_);have p:((T.take k).reverse++T.drop k).Perm T:=((List.reverse_perm _).append_right _).trans (List.Perm.of_eq (bF k T));have l:((T.take k).reverse++T.drop k).length=T.length:=p.length_eq;have lk:(T.take k).reverse.length=k:=by rw[dL,aU];omega
   have L:=asc_ok Oo (P:=P) (T:=(T.take k).reverse++T.drop k) (m:=k) (pe:=pe) (mg:=mg) (E:=E) (Q:=λb a=>∃ G,b=(ab,G)/\Q (aa G) a) (by omega) (by omega) (o.perm p) (by rw[List.take_append_of_le_length (by omega),fU (by omega)];exact c) λF W V U O _=>⟨F,rfl,by
    have r:=h (((T.take k).reverse++T.drop k).take F) (((T.take k).reverse++T.drop k).drop F) (by rw[aU];omega) O (by rw[bF];exact p)
    rw[bF,aU,cI U]at r;exact r⟩
   rw[l]at L;refine wpS_bind (wpS_mono L λb a B=>?_)
   obtain⟨G,rfl,M⟩:=B;exact wpS_pure M
end
section
variable (Oo:Or prog w A s κ g φ n) {a:Array Keyed}{pe:Array (Nat×Nat×Nat)}{mg:Nat}
include Oo
def bin_ok{P T:Li Nat}{N ok:Nat}{Q:Bool->SortSt->Prop}(O:1<=ok)(hok:ok<=N)(hN:N<=T.length)(oT:Ok φ n T)(Y:Srt φ (T.take ok))(h:∀ R S,R.length=N->Srt φ R->(R++S).Perm T->Q ae (St κ (im g (P++(R++S))) pe mg)) :
  wpS (bg prog w) A E s (binarySort' P.length N ok) Q (St κ (im g (P++T)) pe mg):=by
 refine wpS_bind (wpS_mono (wpS_forRange (I:=λk b d=>∃ a,b=(ab,())/\d=St κ (im g (P++a)) pe mg/\a.Perm T/\Srt φ (a.take k)) (Q:=λb d=>∃ a,b=(ab,())/\d=St κ (im g (P++a)) pe mg/\a.Perm T/\Srt φ (a.take N))
  (λk b d hk hkN t=>?_) (λb d t=>?_) ⟨T,rfl,rfl,List.Perm.refl _,by rw[Nat.max_eq_left O];exact Y⟩) λb d G=>?_)
 .obtain⟨a,rfl,rfl,p,f⟩:=t
  have j:=oT.perm p;have hl:=p.length_eq;have B:k < a.length:=by omega
  obtain⟨x,ex⟩:∃ x,a[k]?=aa x:=⟨_,Lg B⟩;have nx:=j.b x (aX ex);have X:=mid P a [] B;rw[bD,ex]at X;obtain⟨c,hc,o⟩:=cut (v:=φ x) f;have m:c<=k:=by rw[aU]at hc;omega
  refine wpS_bind (wpS_mono (wpS_forRange (I:=λi b d=>d=St κ (im g (P++a)) pe mg/\∃ l r,b=(ab,l,r)/\l<=c/\c<=r/\r<=k/\r - l+i<=k) (Q:=λb d=>d=St κ (im g (P++a)) pe mg/\b=(ab,c,c))
   (λi b d _ F t=>?_) (λb d t=>?_) ⟨rfl,0,k,rfl,aS _,m,aB _,aB _⟩) λb d G=>?_)
  .obtain⟨rfl,l,r,rfl,C,M,L,K⟩:=t
   by_cases q:l>=r
   .obtain⟨rfl,rfl⟩:l=c/\r=c:=by omega
    show wpS _ _ _ _ (if r>=r then _ else _) _ _
    rw[aq (aB r)];exact wpS_pure ⟨rfl,rfl⟩
   .show wpS _ _ _ _ (if l>=r then _ else _) _ _
    rw[ar q];have hm:(l+r) / 2 < k:=by omega
    obtain⟨y,D⟩:∃ y,a[(l+r) / 2]?=aa y:=⟨_,Lg (by omega)⟩
    have W:=mid P a [] (show(l+r) / 2 < a.length by omega)
    rw[bD,D]at W;have V:=o ((l+r) / 2) y (by rw[cQ,aq hm,D])
    have ne:=j.ne ex D (by omega)
    refine wpS_bind (w_ltAt Oo X W nx (j.b y (aX D)) ?_);by_cases lt:φ x < φ y
    .rw[aF lt]
     have:¬(l+r) / 2 < c:=λz=>by have:=V.mpr z;omega
     exact wpS_pure ⟨rfl,_,_,rfl,C,show c<=(l+r) / 2 by omega,show(l+r) / 2<=k by omega,show(l+r) / 2 - l+(i+1)<=k by omega⟩
    .rw[aI lt]
     have:(l+r) / 2 < c:=V.mp (by omega)
     exact wpS_pure ⟨rfl,_,_,rfl,show(l+r) / 2+1<=c by omega,M,L,show r - ((l+r) / 2+1)+(i+1)<=k by omega⟩
  .obtain⟨rfl,l,r,rfl,C,M,L,K⟩:=t
   rw[cP (aS _)]at K;obtain⟨rfl,rfl⟩:l=c/\r=c:=by omega
   exact⟨rfl,rfl⟩
  .obtain⟨rfl,rfl⟩:=G
   have U:P++a=(P++a.take c)++((a.take k).drop c++x :: a.drop (k+1)):=by
    have hd:a.drop k=x :: a.drop (k+1):=by
     obtain⟨h,rfl⟩:=bL.mp ex;exact bV h
    have C:a.take c=(a.take k).take c:=by rw[dE,cI m]
    rw[aM,<-hd,C,<-aM ((a.take k).take c),bF,bF]
   have J:(a.take c).length=c:=by rw[aU];omega
   have H:((a.take k).drop c).length=k - c:=by rw[cD,aU];omega
   have bm:∀ {Q:Unit->SortSt->Prop},Q () (St κ (im g (P++(a.take c++(x :: ((a.take k).drop c++a.drop (k+1)))))) pe mg)->wpS (bg prog w) A E s (moveDown' (P.length+k) (P.length+c)) Q (St κ (im g (P++a)) pe mg):=λ{Q} hq=>by
    rw[moveDown'_eq];refine wpS_modify ?_;show Q () (St κ (bubble (im g (P++a)) (P.length+k) (P.length+k - (P.length+c))) pe mg);have e:=bubble_im (g:=g) (P++a.take c) ((a.take k).drop c) (a.drop (k+1)) x;rw[aG,J,H,show P.length+c+(k - c)=P.length+k by omega,<-U]at e
    rw[show P.length+k - (P.length+c)=k - c by omega,e,aM]
    exact hq
   refine wpS_bind (bm (wpS_pure ⟨_,rfl,rfl,?_,?_⟩))
   .have q:(a.take c++(x :: ((a.take k).drop c++a.drop (k+1)))).Perm (a.take c++((a.take k).drop c++x :: a.drop (k+1))):=(List.perm_middle.symm).append_left _
    have e1:a.take c++((a.take k).drop c++x :: a.drop (k+1))=a:=List.append_cancel_left (as:=P) (by rw[<-aM];exact U.symm)
    rw[e1]at q;exact q.trans p
   .have e2:(a.take c++(x :: ((a.take k).drop c++a.drop (k+1)))).take (k+1)=a.take c++x :: (a.take k).drop c:=by
     rw[show a.take c++(x :: ((a.take k).drop c++a.drop (k+1)))=(a.take c++x :: (a.take k).drop c)++a.drop (k+1) by simp only[aM,List.cons_append]]
     have:(a.take c++x :: (a.take k).drop c).length=k+1:=by rw[aG,aY,J,H];omega
     rw[<-this,List.take_left]
    rw[e2];have d:=f;rw[<-bF c (a.take k),dE,cI m]at d;obtain⟨s1,s2,Z⟩:=d.app;have l1:∀ z∈a.take c,φ z < φ x:=λz u=>by
     obtain⟨i,F,e⟩:=mem_take u;exact(o i z (by rw[cQ,aq (by omega),e])).mpr F
    have l2:∀ z∈(a.take k).drop c,φ x < φ z:=λz u=>by
     obtain⟨i,F,e⟩:=mem_drop u;have c1:=o i z e;rw[cQ]at e;split at e
     .have:=j.ne e ex (by omega)
      have:¬φ z < φ x:=λq=>by have:=c1.mp q;omega
      omega
     .exact nomatch e
    refine s1.mk (List.pairwise_cons.mpr ⟨l2,s2⟩) λz u y hy=>?_
    rcases aL.mp hy with rfl|hy
    .exact l1 z u
    .exact Z z u y hy
 .obtain⟨a,rfl,rfl,p,f⟩:=t
  rw[Nat.max_eq_left O,cP hok]at f;exact⟨a,rfl,rfl,p,f⟩
 .obtain⟨a,rfl,rfl,p,f⟩:=G
  have r:=h (a.take N) (a.drop N) (by rw[aU,p.length_eq];omega) f (by rw[bF];exact p)
  rw[bF]at r;exact wpS_pure r
end
variable{rs:Li (Li Nat)}
section
noncomputable abbrev Pt:Type:=Nat×Nat×Nat
def Pn:Nat->Li (Li Nat)->Li Pt->Prop
 |_,[],[]=>True
 |i,r :: rs,p :: a=>p.1=i/\p.2.1=r.length/\Pn (i+r.length) rs a
 |_,_,_=>False
theorem Pn.len:∀ {i:Nat}{rs:Li (Li Nat)}{ps:Li Pt},Pn i rs ps->rs.length=ps.length
 |_,[],[],_=>rfl
 |_,_ :: _,_ :: _,h=>av (·+1) h.2.2.len
theorem Pn.push:∀ {i:Nat}{rs:Li (Li Nat)}{ps:Li Pt} (r:Li Nat) (q:Nat),Pn i rs ps->Pn i (rs++[r]) (ps++[(i+rs.flatten.length,r.length,q)])
 |_,[],[],_,_,_=>⟨rfl,rfl,trivial⟩
 |i,a :: rs,_ :: _,r,q,h=>⟨h.1,h.2.1,by
  have:=h.2.2.push r q;rw[Nat.add_assoc,<-aG]at this;exact this⟩
theorem Pn.mod{f:Pt->Pt}(a:∀ p,(f p).1=p.1/\(f p).2.1=p.2.1):∀ {i:Nat}{rs:Li (Li Nat)}{ps:Li Pt} (k:Nat),Pn i rs ps->Pn i rs (ps.modify k f)
 |_,[],[],0,h=>h
 |_,[],[],_+1,h=>h
 |_,_ :: _,p :: _,0,h=>⟨(a p).1.trans h.1,(a p).2.trans h.2.1,h.2.2⟩
 |_,_ :: _,_ :: _,k+1,h=>⟨h.1,h.2.1,h.2.2.mod a k⟩
theorem Pn.two:∀ {i:Nat}{rs:Li (Li Nat)}{c:Li Pt} (k:Nat),Pn i rs c->k+1 < rs.length->∃ B X Y D b a,rs=B++X :: Y :: D/\c[k]?=aa (i+B.flatten.length,X.length,b)/\c[k+1]?=aa (i+B.flatten.length+X.length,Y.length,a) /\
  ∀ R:Li Nat,R.length=X.length+Y.length->Pn i (B++R :: D) ((c.set k (i+B.flatten.length,X.length+Y.length,b)).eraseIdx (k+1))
 |i,X :: Y :: D,(_,_,b) :: (_,_,a) :: c,0,⟨n,m,f,l,j⟩,_=>by
  cases n;cases m;cases f;cases l
  exact⟨[],X,Y,D,b,a,rfl,rfl,rfl,λR d=>⟨rfl,d.symm,by rw[d,<-Nat.add_assoc];exact j⟩⟩
 |i,r :: rs,p :: c,k+1,h,g=>by
  obtain⟨B,X,Y,D,b,a,rfl,q,o,f⟩:=h.2.2.two k (Nat.lt_of_succ_lt_succ g);have e:i+(r :: B).flatten.length=i+r.length+B.flatten.length:=by rw[dC,aG,Nat.add_assoc]
  refine⟨r :: B,X,Y,D,b,a,rfl,by rw[e];exact q,by rw[e];exact o,λR d=>?_⟩
  rw[e];exact⟨h.1,h.2.1,f R d⟩
structure Sr(φ:Nat->Int)(T0:List Nat)(lo:Nat)(rs:List (List Nat))(T:List Nat)(pe:Array Pt):Prop where
 pn:Pn 0 rs pe.toList
 ok:∀ r∈rs,Srt φ r/\0 < r.length
 lo:rs.flatten.length=lo
 pm:(rs.flatten++T).Perm T0
def Sr.sz{b T:Li Nat}{lo:Nat}{a:Array Pt}(h:Sr φ b lo rs T a):a.size=rs.length:=h.pn.len.symm
variable (Oo:Or prog w A s κ g φ n) {pe:Array Pt}{mg:Nat}{T0:Li Nat} (o0:Ok φ n T0)
include Oo o0
def mrg_ok{lo:Nat}{T:Li Nat}{Q:Bool->SortSt->Prop}(h:Sr φ T0 lo rs T pe)(H:i+1 < rs.length)(G:∀ a c m,Sr φ T0 lo a T c->a.length+1=rs.length->Q ae (St κ (im g (a.flatten++T)) c m)):wpS (bg prog w) A E s (mergeAt' i) Q (St κ (im g (rs.flatten++T)) pe mg):=by
 obtain⟨B,X,Y,D,L,z,rfl,t,p,I⟩:=h.pn.two i H;have n:=h.ok X (bU _ Ls);have l:=h.ok Y (bU _ (Lm _ Ls));have o:∀ R:Li Nat,(B++R :: D).flatten++T=B.flatten++(R++(D.flatten++T)):=λR=>by simp
 have u:(B++X :: Y :: D).flatten++T=B.flatten++(X++(Y++(D.flatten++T))):=by simp
 have f:=h.pm;rw[u]at f;have j:=o0.perm f;obtain⟨_,K,_⟩:=eX.mp j.d;obtain⟨_,_,J⟩:=eX.mp K;rw[bY]at t p;rw[u];refine mergeAt_ok Oo (by rw[<-t,eJ]) (by rw[<-p,eJ]) n.2 l.2 n.1 l.1 (λx e=>j.b x (by simp[e])) (λx e=>j.b x (by simp[e])) (λx e y F=>J x e y (eH _ F)) λR m v k=>?_
 have C:R.length=X.length+Y.length:=by rw[k.length_eq,aG]
 rw[<-o R];refine G (B++R :: D) _ m ⟨?_,λr hr=>?_,?_,?_⟩ (by simp only[aG,aY];omega)
 .have r:=I R C
  rw[bY]at r;rw[Array.toList_eraseIdxIfInBounds,Array.toList_setIfInBounds];exact r
 .rcases bC.mp hr with hr|hr
  .exact h.ok r (eH _ hr)
  .rcases aL.mp hr with rfl|hr
   .exact⟨v,by omega⟩
   .exact h.ok r (bU _ (Lm _ (Lm _ hr)))
 .have:=h.lo
  simp only[List.flatten_append,dC,aG]at this ⊢;omega
 .rw[o R]
  refine List.Perm.trans ?_ f;have q:=(k.append_right (D.flatten++T)).append_left B.flatten;rw[aM X]at q;exact q
def runs_ok{Q:Unit->SortSt->Prop}(h:∀ R pe m,Srt φ R->R.Perm T0->Q () (St κ (im g R) pe m)):wpS (bg prog w) A E s sortRuns' Q (St κ (im g T0) #[] mg):=by
 refine wpS_bind (wpS_get ?_)
 extract_lets -underBinder size minrun lo
 have hs:size=T0.length:=im_size T0
 clear_value size
 subst hs
 clear_value minrun
 refine wpS_bind (wpS_mono (wpS_forRange (I:=λi b k=>∃ lo rs T pe m,b=(ab,lo)/\k=St κ (im g (rs.flatten++T)) pe m/\Sr φ T0 lo rs T pe/\i<=lo) (Q:=λb k=>∃ lo rs pe m,b=(ab,lo)/\k=St κ (im g (rs.flatten++[])) pe m/\Sr φ T0 T0.length rs [] pe)
  (λi b k _ U u=>?_) (λb k u=>?_) ⟨0,[],T0,#[],mg,rfl,rfl,⟨trivial,λ_ hr=>(nomatch hr),rfl,List.Perm.refl _⟩,aB 0⟩) λb k O=>?_)
 .obtain⟨lo,rs,T,pe,m,rfl,rfl,S,J⟩:=u
  refine w_post λP pd py=>?_
  dsimp (zeta:=af) only
  extract_lets -underBinder l1
  dsimp (zeta:=af) only[l1]
  have Z:lo+T.length=T0.length:=by rw[<-S.lo,<-aG,S.pm.length_eq]
  by_cases q:lo>=T0.length
  .rw[aq q]
   obtain rfl:T=[]:=List.eq_nil_of_length_eq_zero (by omega)
   obtain rfl:lo=T0.length:=by rw[dD]at Z;omega
   exact wpS_pure (pd _ _ ⟨_,rs,pe,m,rfl,rfl,S⟩)
  rw[ar q];have oT:Ok φ n T:=⟨(eX.mp (o0.perm S.pm).d).2.1,λx Y=>(o0.perm S.pm).b x (bU _ Y)⟩
  have C:=count_ok Oo (P:=rs.flatten) (T:=T) (pe:=pe) (mg:=m) (E:=E) (Q:=λr k=>∃ R S,r=aa R.length/\0 < R.length/\Srt φ R/\(R++S).Perm T/\k=St κ (im g (rs.flatten++(R++S))) pe m) (by omega) oT λR S H F v=>⟨R,S,rfl,H,F,v,rfl⟩
  rw[S.lo,show T.length=T0.length - lo by omega]at C
  refine wpS_bind (wpS_mono C λr k hr=>?_)
  obtain⟨R,l,rfl,H,F,v,rfl⟩:=hr;dsimp (zeta:=af) only
  extract_lets -underBinder N jp
  have hj:∀ R l,0 < R.length->Srt φ R->(R++l).Perm T->wpS (bg prog w) A E s (jp () R.length) P (St κ (im g (rs.flatten++(R++l))) pe m):=by
   intro R l H F v;dsimp (zeta:=af) only[jp]
   refine wpS_bind (wpS_get ?_)
   extract_lets -underBinder jp2
   have S1:Sr φ T0 lo rs (R++l) pe:=⟨S.pn,S.ok,S.lo,(v.append_left _).trans S.pm⟩;have M:∀ j a t,Sr φ T0 lo j (R++l) a->wpS (bg prog w) A E s (jp2 ()) P (St κ (im g (j.flatten++(R++l))) a t):=by
    intro j a t o;dsimp (zeta:=af) only[jp2]
    refine wpS_bind (wpS_modify (wpS_pure (py _ _ ⟨lo+R.length,j++[R],l,a.push (lo,R.length,0),t,rfl,?_,⟨?_,λr hr=>?_,?_,?_⟩,by omega⟩)))
    .show St κ (im g (j.flatten++(R++l))) (a.push (lo,R.length,0)) t=_
     simp
    .rw[Array.toList_push]
     have r:=o.pn.push R 0;rw[bY,o.lo]at r;exact r
    .rcases bC.mp hr with hr|hr
     .exact o.ok r hr
     .obtain rfl:=aQ.mp hr
      exact⟨F,H⟩
    .have:=o.lo
     simp[this]
    .have:=o.pm
     simpa using this
   clear_value jp2
   show wpS _ _ _ _ (match pe.back? with|some (s1,n1,_)=>_|_=>_) _ _
   split
   .extract_lets -underBinder pw
    refine wpS_bind (wpS_mono (wpS_forRange (I:=λi b k=>∃ j a t,b=(ab,())/\k=St κ (im g (j.flatten++(R++l))) a t/\Sr φ T0 lo j (R++l) a) (Q:=λb k=>∃ j a t,b=(ab,())/\k=St κ (im g (j.flatten++(R++l))) a t/\Sr φ T0 lo j (R++l) a)
     (λi b k _ U u=>?_) (λb k u=>u) ⟨rs,pe,m,rfl,rfl,S1⟩) λb k O=>?_)
    .obtain⟨j,a,t,rfl,rfl,o⟩:=u
     refine wpS_bind (wpS_get ?_);show wpS _ _ _ _ (match (if a.size > 1 then a[a.size - 2]? else ab) with|some (_,_,W)=>_|_=>_) _ _
     split
     .rename_i e
      have F:a.size > 1:=by
       by_cases z:a.size > 1
       .exact z
       .rw[ar z]at e;exact nomatch e
      split
      .exact wpS_pure ⟨j,a,t,rfl,rfl,o⟩
      .have sz:=o.sz
       exact wpS_bind (mrg_ok Oo o0 o (show a.size - 2+1 < j.length by omega) λB D X S2 _=>wpS_pure ⟨B,D,X,rfl,rfl,S2⟩)
     .exact wpS_pure ⟨j,a,t,rfl,rfl,o⟩
    .obtain⟨j,a,t,rfl,rfl,o⟩:=O
     refine wpS_bind (wpS_modify ?_);refine M j _ t ⟨?_,o.ok,o.lo,o.pm⟩;show Pn 0 j (a.modify (a.size - 1) _).toList;rw[Array.toList_modify];exact o.pn.mod (f:=λx=>(x.1,x.2.1,pw)) (λp=>⟨rfl,rfl⟩) _
   .exact M rs pe m S1
  clear_value jp
  split
  .rename_i q5
   have q5:R.length < minrun:=q5;refine wpS_bind (wpS_lift (wpAny_rule ⟨rfl,?_⟩))
   extract_lets -underBinder force
   have hp:=v.length_eq;rw[aG]at hp;have hf:force=min (T0.length - lo) minrun:=rfl;have Bi:=bin_ok Oo (P:=rs.flatten) (T:=R++l) (N:=force) (ok:=R.length) (pe:=pe) (mg:=m) (E:=E) (Q:=λr k=>∃ y G,r=ae/\y.length=force/\Srt φ y/\(y++G).Perm T/\k=St κ (im g (rs.flatten++(y++G))) pe m) H (by omega) (by rw[aG];omega) (oT.perm v) (by rw[List.take_left];exact F) λy G a1 a2 a3=>⟨y,G,rfl,a1,a2,a3.trans v,rfl⟩
   rw[S.lo]at Bi;refine wpS_bind (wpS_mono Bi λr k hr=>?_)
   obtain⟨y,G,rfl,a1,a2,a3,rfl⟩:=hr;have r:=hj y G (by omega) a2 a3
   rw[a1]at r;exact r
  .exact hj R l H F v
 .obtain⟨lo,rs,T,pe,m,rfl,rfl,S,J⟩:=u
  rw[cP (aS _)]at J;have Z:lo+T.length=T0.length:=by rw[<-S.lo,<-aG,S.pm.length_eq]
  obtain rfl:T=[]:=List.eq_nil_of_length_eq_zero (by omega)
  obtain rfl:lo=T0.length:=by rw[dD]at Z;omega
  exact⟨_,rs,pe,m,rfl,rfl,S⟩
 .obtain⟨lo,rs,pe,m,rfl,rfl,S⟩:=O
  have K:∀ {rs:Li (Li Nat)},(∀ r∈rs,Srt φ r/\0 < r.length)->rs.length<=rs.flatten.length:=by
   intro rs
   induction rs with
   |nil=>exact λ_=>aB 0
   |cons r rs ih=>
    intro h;have:=ih λx Y=>h x (Lm _ Y)
    have:=(h r Ls).2;rw[dC,aG,aY];omega
  have L:=K S.ok;rw[S.lo]at L;refine wpS_bind (wpS_mono (wpS_forRange (I:=λi b k=>∃ rs pe m,b=(ab,())/\k=St κ (im g (rs.flatten++[])) pe m/\Sr φ T0 T0.length rs [] pe/\rs.length+i<=T0.length) (Q:=λb k=>∃ rs pe m,b=(ab,())/\k=St κ (im g (rs.flatten++[])) pe m/\Sr φ T0 T0.length rs [] pe/\rs.length<=1)
   (λi b k _ U u=>?_) (λb k u=>?_) ⟨rs,pe,m,rfl,rfl,S,L⟩) λb k O=>?_)
  .obtain⟨rs,pe,m,rfl,rfl,S,V⟩:=u
   have sz:=S.sz;refine wpS_bind (wpS_get ?_);show wpS _ _ _ _ (if pe.size<=1 then _ else _) _ _
   split
   .exact wpS_pure ⟨rs,pe,m,rfl,rfl,S,by omega⟩
   .rename_i q
    have U:∀ (c:Prop) [Decidable c],(if c then pe.size - 2 - 1 else pe.size - 2)+1 < rs.length:=λc _=>by split<;>omega
    exact wpS_bind (mrg_ok Oo o0 S (U _) λB D X S2 e2=>wpS_pure ⟨B,D,X,rfl,rfl,S2,by omega⟩)
  .obtain⟨rs,pe,m,rfl,rfl,S,V⟩:=u
   rw[cP (aS _)]at V;exact⟨rs,pe,m,rfl,rfl,S,by omega⟩
  .obtain⟨rs,pe,m,rfl,rfl,S,V⟩:=O
   refine wpS_pure (h _ pe m ?_ S.pm)
   match rs,S,V with
   |[],_,_=>exact List.Pairwise.nil
   |[r],S,_=>rw[List.flatten_singleton,bD];exact(S.ok r Ls).1
end
end LS
namespace Dp
open PySem
variable{α:Type}
def Zb{x:α}{C:Prop}(h:(ab:Ot α)=aa x):C:=nomatch h
noncomputable abbrev S(x:String):Str:=Str.ofString x
set_option genInjectivity true in
inductive D where
 |non|bl (b:Bool)|int (i:Int)|str (x:Str)|tup (xs:List D)|lst (id:Nat)|dct (ks:List Str) (vs:List D)|obj (i:Nat)|kt (ks:List Str)|dic (id:Nat)
abbrev Env:=Li (Ot D)
abbrev Y5:=Bool×Li D
abbrev Za:=Li Y5
abbrev Res:=Ot (D×Za)
abbrev Fn:=Li D->Za->Res
noncomputable def o2{α b a:Type}(f:α->b->a):Ot α->Ot b->Ot a
 |some x,aa y=>aa (f x y)
 |_,_=>ab
noncomputable def og{α:Type}(p:Prop)[Decidable p](o:Ot α):Ot α:=if p then o else ab
mutual
noncomputable def Zx:D->D->Bool
 |.non,.non=>ae
 |.bl a,.bl b=>a==b
 |.int a,.int b=>ak (a=b)
 |.str a,.str b=>ak (a=b)
 |.tup a,.tup b=>Zt a b
 |_,_=>af
noncomputable def Zt:Li D->Li D->Bool
 |[],[]=>ae
 |x :: b,y :: a=>Zx x y&&Zt b a
 |_,_=>af
end
mutual
noncomputable def okD:Nat->D->Bool
 |_,.non=>ae
 |_,.int _=>ae
 |_,.str _=>ae
 |n+1,.tup a=>Yo n a
 |_,_=>af
noncomputable def Yo:Nat->Li D->Bool
 |_,[]=>ae
 |n,x :: a=>okD n x&&Yo n a
end
inductive Sc where
 |non|bl (b:Bool)|int (i:Int)|str (x:Str)
noncomputable def scD:D->Ot Sc
 |.non=>aa .non
 |.bl b=>aa (.bl b)
 |.int i=>aa (.int i)
 |.str x=>aa (.str x)
 |_=>ab
noncomputable def ZfQ:Sc->Sc->Ot Bool
 |.non,.non=>aa ae
 |.non,.bl _=>aa af
 |.non,.int _=>aa af
 |.non,.str _=>aa af
 |.bl _,.non=>aa af
 |.bl a,.bl b=>aa (a==b)
 |.bl _,.int _=>ab
 |.bl _,.str _=>aa af
 |.int _,.non=>aa af
 |.int _,.bl _=>ab
 |.int a,.int b=>aa (ak (a=b))
 |.int _,.str _=>aa af
 |.str _,.non=>aa af
 |.str _,.bl _=>aa af
 |.str _,.int _=>aa af
 |.str a,.str b=>aa (ak (a=b))
def eqT(b:Li D):D->Ot Bool
 |.tup a=>if okD 8 (.tup b)&&okD 8 (.tup a) then aa (Zt b a) else ab
 |_=>ab
def eqD(x y:D):Ot Bool:=match x with
 |.tup a=>eqT a y
 |x=>(o2 ZfQ (scD x) (scD y)).join
inductive Ty where
 |int|bool|str|tuple
 deriving DecidableEq
inductive CE where
 |v (i:Nat)|c (d:D)
 |bin (op:Operator) (a b:CE)|neg (a:CE)
 |cmp (op:CmpOp) (a b:CE)
 |not (a:CE)|and (a b:CE)|or (a b:CE)|ife (c a b:CE)
 |tupE (a:CE)|lstE (a:CE)|aN|aC (a r:CE)
 |ix (a b:CE)|slice (a lo hi:CE)|nop|part (a:CE)
 |call (f:Nat) (args:CE) (ds:List D)
 |len (a:CE)|tOf (a:CE)|listOf (a:CE)|intOf (a:CE)|min (a b:CE)|max (a b:CE)|isi (T:Ty) (a:CE)
 |comp (rng:Bool) (fr:List Nat) (it elt Xf:CE)|comp2 (fr:List Nat) (it elt Xf:CE)|compT (fr:List Nat) (it elt Xf:CE)|lstR (a b:CE)|new (i:Nat)|meth (tab:List (Nat×Nat)) (o a:CE)|isc (l:List Nat) (a:CE)|tix (o a:CE)
 |rs (k:Bool) (a:CE)
 |inv (a:CE)|tupR (a:CE)|look (ks:List Str) (ds:List D) (a:CE)|dget (a k d:CE)|all (a:CE)|any (a:CE)|inR (ng:Bool) (a b:CE)
 |dict (ks:List Str) (a:CE)|dnew|strOf (a:CE)|joinE (a b:CE)|starts (a b:CE)|rng2 (a b:CE)|srt (a:CE)
 |comp3 (fr:List Nat) (it elt Xf:CE)|dd (a b e:CE)|dgN (o k d:CE)|pop (o:CE)|ksrt (o:CE)|popz (o z:CE)
inductive CS where
 |skip|seq (a b:CS)|ret (e:CE)|set (i:Nat) (e:CE)|app (i:Nat) (e:CE)|ext (i:Nat) (e:CE)|put (i:Nat) (k e:CE)
 |ite (c:CE) (a b:CS)|for1 (i:Nat) (rng:Bool) (it:CE) (b:CS)|for3 (i:Nat) (it:CE) (b:CS)|forP (i j:Nat) (it:CE) (b:CS)|forE (i j:Nat) (it:CE) (b:CS)|set2 (i j:Nat) (e:CE)|for4 (i j l:Nat) (it:CE) (b:CS)|for2 (i j:Nat) (it:CE) (b:CS)|whl (c:CE) (b:CS)|brk|cont|stop|set3 (i j l:Nat) (e:CE)|act (e:CE)|dput (i:Nat) (a b e:CE)|app2 (o e:CE)
noncomputable def ZT(i:Int):Bool:=ak (-(2 ^ 64) < i)&&ak (i < 2 ^ 64)
noncomputable def Zg:Nat:=1000000
def UZ(a:Operator)(i j:Int):Ot Int:=
 match a with
 |.Add=>aa (i+j)
 |.Sub=>aa (i - j)
 |.Mult=>if ZT i||ZT j then aa (i * j) else ab
 |.FloorDiv=>if 0 < j/\j < 1073741824 then aa (i / j) else if j < 0/\-1073741824 < j then aa (i.fdiv j) else ab
 |.Mod=>if 0 < j then aa (i % j) else if j < 0 then aa (i.fmod j) else ab
 |.LShift=>if 0<=j/\j<=1000/\ZT i=ae then aa (i * 2 ^ j.toNat) else ab
 |.BitAnd=>if 0<=i/\0<=j then aa ((i.toNat &&& j.toNat:Nat):Int) else if 0<=i/\j < 0 then aa (i - ((i.toNat &&& (-j - 1).toNat:Nat):Int)) else ab
 |.BitOr=>if 0<=i/\0<=j then aa ((i.toNat ||| j.toNat:Nat):Int) else ab
 |_=>ab
noncomputable def Uv:Operator->Bool
 |.Add=>ae
 |_=>af
noncomputable def ZaE:Operator->Bool
 |.Mult=>ae
 |_=>af
def Ug(a b:Nat)(c:Za):Res:=match c[a]?,c[b]? with
 |some (_,e),aa (_,d)=>if e.length+d.length<=Zg then aa (.lst c.length,c++[(ae,e++d)]) else ab
 |_,_=>ab
noncomputable def Zgc(a:Nat)(j:Int)(b:Za):Res:=match b[a]? with
 |some (ae,[x])=>if j<=1000/\-1000<=j then aa (.lst b.length,b++[(ae,ag j.toNat x)]) else ab
 |_=>ab
noncomputable def repT(a:Li D)(j:Int)(b:Za):Res:=match a with
 |[x]=>if j<=1000/\-1000<=j then aa (.tup (ag j.toNat x),b) else ab
 |_=>ab
def Vy(d:Operator)(x y:D)(c:Za):Res:=
 match x,y with
 |.int i,.int j=>match UZ d i j with
  |some k=>aa (.int k,c)
  |none=>ab
 |.tup e,.tup f=>if Uv d=ae/\e.length+f.length<=Zg then aa (.tup (e++f),c) else ab
 |.tup e,.int j=>if ZaE d=ae then repT e j c else ab
 |.lst a,.lst b=>if Uv d=ae then Ug a b c else ab
 |.lst a,.int j=>if ZaE d=ae then Zgc a j c else ab
 |.str x,.str y=>if Uv d=ae/\x.length+y.length<=Zg then aa (.str (x++y),c) else ab
 |_,_=>ab
noncomputable def ZgP(x k:Str):Bool:=!(PySem.Builtin.Str.occurrences x k 0 x.length 1).isEmpty
noncomputable def chS(x:Str):Li Str:=x.cps.toList.map λc=>⟨#[c]⟩
noncomputable def Zba(_:Za)(_ _:Li D):Ot Bool:=ab
def Jo(a ys:Li D):Ot Bool:=if (a.isEmpty||ys.isEmpty)=ae then aa (a.isEmpty&&ys.isEmpty) else if Yo 7 a&&Yo 7 ys then aa (Zt a ys) else ab
def ZfR(c:Za)(b:Li D):D->Ot Bool
 |.tup a=>(match eqT b (.tup a) with
  |some k=>aa k
  |none=>Zba c b a)
 |_=>ab
def ZfP(e:Za)(a:Nat):D->Ot Bool
 |.lst b=>(o2 (λ(c d:Y5)=>Jo c.2 d.2) e[a]? e[b]?).join
 |_=>ab
def eqS(b:Za)(x y:D):Ot Bool:=match x with
 |.lst a=>ZfP b a y
 |.tup c=>ZfR b c y
 |x=>eqD x y
noncomputable def Yu:Int->Li D->Ot Bool
 |_,[]=>aa af
 |k,.int i :: r=>(Yu k r).map λb=>ak (i=k)||b
 |_,_=>ab
noncomputable def Z0:Str->Li D->Ot Bool
 |_,[]=>aa af
 |k,.str i :: r=>(Z0 k r).map λb=>ak (i=k)||b
 |_,_=>ab
noncomputable def ZeA:D->Ot Int
 |.int i=>aa i
 |_=>ab
noncomputable def iB(i:Int):D->Bool
 |.int a=>ak (a=i)
 |_=>af
def isK(i j:Int):D->Bool
 |.tup [x,y,_]=>iB i x&&iB j y
 |_=>af
noncomputable def ZhF:D->Ot D
 |.tup [_,_,v]=>aa v
 |_=>ab
def Yj(a:Li D)(i j:Int):Ot D:=(a.find? (isK i j)).bind ZhF
def XI(a:Li D)(i j:Int)(v:D):Li D:=if a.any (isK i j)=ae then a.map (λe=>if isK i j e=ae then .tup [.int i,.int j,v] else e) else a++[.tup [.int i,.int j,v]]
def dAt(d:Li D)(a:Nat)(b:Za):Ot (Ot D):=match d with
 |[x,y]=>o2 (λ(p:Int×Int) (c:Y5)=>Yj c.2 p.1 p.2) (o2 Prod.mk (ZeA x) (ZeA y)) b[a]?
 |_=>ab
noncomputable def Yc:Li Str->Li D->Str->Ot D
 |k :: b,v :: a,x=>if k=x then aa v else Yc b a x
 |_,_,_=>ab
noncomputable def Jy(f:Int->Int->Bool):D->D->Ot Bool
 |.int i,.int j=>aa (f i j)
 |_,_=>ab
def geD:D->D->Ot Bool
 |.tup [.int a,.int b],.tup [.int c,.int d]=>aa (if a=c then ak (d<=b) else ak (c<=a))
 |x,y=>Jy (λi j=>ak (j<=i)) x y
def VL:Li D->Li D->Ot Bool
 |x :: d,y :: c=>if Zx x y=ae then VL d c else match x,y with
  |.int i,.int j=>aa (ak (i < j))
  |.str a,.str b=>aa (ak (a.cps.toList < b.cps.toList))
  |_,_=>ab
 |[],c=>aa (ak (0 < c.length))
 |_ :: _,[]=>aa af
def ltD(x y:D):Ot Bool:=match x,y with
 |.tup b,.tup a=>if okD 8 (.tup b)&&okD 8 (.tup a) then VL b a else ab
 |x,y=>Jy (λi j=>ak (i < j)) x y
def ltS(_:Za)(x y:D):Ot Bool:=ltD x y
def inS(c:Za)(x y:D):Ot Bool:=match x,y with
 |.int k,.lst a=>match c[a]? with
  |some (_,b)=>Yu k b
  |none=>ab
 |.str k,.lst a=>match c[a]? with
  |some (_,b)=>Z0 k b
  |none=>ab
 |.int k,.tup b=>Yu k b
 |.str k,.tup b=>Z0 k b
 |.str k,.dct d e=>aa (Yc d e k).isSome
 |.tup d,.dic a=>(dAt d a c).map Option.isSome
 |.str k,.str x=>aa (ZgP x k)
 |_,_=>ab
def niS(a:Za)(x y:D):Ot Bool:=match y with
 |.dct _ _=>ab
 |y=>(inS a x y).map not
noncomputable def isN:D->Ot Bool
 |.non=>aa ae
 |.int _=>aa af
 |.str _=>aa af
 |.bl _=>aa af
 |.tup _=>aa af
 |.lst _=>aa af
 |.dct _ _=>ab
 |.obj _=>ab
 |.kt _=>ab
 |.dic _=>ab
noncomputable def isB(b:Bool):D->Ot Bool
 |.bl a=>aa (a==b)
 |_=>ab
def isD(x:D):D->Ot Bool
 |.non=>isN x
 |.bl b=>isB b x
 |_=>ab
def J4(b:CmpOp)(x y:D)(a:Za):Ot Bool:=
 match b with
 |.Lt=>ltS a x y
 |.LtE=>Jy (λi j=>ak (i<=j)) x y
 |.Gt=>Jy (λi j=>ak (j < i)) x y
 |.GtE=>geD x y
 |.Eq=>eqS a x y
 |.NotEq=>(eqS a x y).map not
 |.In=>inS a x y
 |.NotIn=>niS a x y
 |.Is=>isD x y
 |.IsNot=>(isD x y).map not
noncomputable def ixN(n:Nat)(i:Int):Ot Nat:=if 0<=i then (if i < n then aa i.toNat else ab) else if -(n:Int)<=i then aa (i+n).toNat else ab
def atD(a:Li D)(i:Int):Ot D:=(ixN a.length i).bind λj=>a[j]?
def ixD(x y:D)(d:Za):Ot D:=
 match x,y with
 |.tup c,.int i=>atD c i
 |.lst a,.int i=>match d[a]? with
  |some (_,c)=>atD c i
  |none=>ab
 |.dct b e,.str k=>Yc b e k
 |.kt b,.int i=>atD (b.map .str) i
 |.dic a,.tup b=>(dAt b a d).join
 |.str x,.int i=>if x.length<=Zg then atD ((chS x).map .str) i else ab
 |_,_=>ab
noncomputable def sIx(n d:Nat):Ot Int->Nat
 |none=>d
 |some i=>if i < 0 then (i+n).toNat else Nat.min i.toNat n
def Y4(a:Li D)(lo b:Ot Int):Li D:=(a.drop (sIx a.length 0 lo)).take (sIx a.length a.length b - sIx a.length 0 lo)
def Yh(x:D)(lo d:Ot Int)(c:Za):Res:=
 match x with
 |.tup b=>if sIx b.length 0 lo=0/\sIx b.length b.length d=b.length then aa (.tup b,c) else aa (.tup (Y4 b lo d),c)
 |.lst a=>match c[a]? with
  |some (_,b)=>aa (.lst c.length,c++[(ae,Y4 b lo d)])
  |none=>ab
 |_=>ab
def ZcH(x:D)(c:Za):Ot Int:=
 match x with
 |.tup b=>aa b.length
 |.lst a=>match c[a]? with
  |some (_,b)=>aa b.length
  |none=>ab
 |.kt d=>aa d.length
 |.str x=>if x.length<=Zg then aa x.length else ab
 |.dic a=>match c[a]? with
  |some (_,b)=>aa b.length
  |none=>ab
 |_=>ab
noncomputable def ZeD(T:Ty):D->Ot Bool
 |.int _=>aa (ak (T=.int))
 |.bl _=>aa (ak (T=.int)||ak (T=.bool))
 |.str _=>aa (ak (T=.str))
 |.tup _=>aa (ak (T=.tuple))
 |.non=>aa af
 |_=>ab
noncomputable def WJ(rng:Bool)(x:D):Ot (Li D):=
 match rng,x with
 |true,.int n=>if n < 2 ^ 62/\-(2 ^ 62)<=n then aa ((aj n.toNat).map λ(k:Nat)=>D.int (k:Int)) else ab
 |false,.tup a=>aa a
 |_,_=>ab
noncomputable def ZeW(a b c:Int):Nat:=if 0 < c then (if a < b then ((b - a - 1) / c+1).toNat else 0) else (if b < a then ((a - b - 1) / (-c)+1).toNat else 0)
def ZeV(a b c:Int):Li Int:=(aj (ZeW a b c)).map λ(k:Nat)=>a+k * c
noncomputable def Z9(ok:Za->Prop)(f:D->Za->Res)(c:D->Za->Res):Li D->Za->Ot (Li D×Za)
 |[],b=>open Classical in if ok b then aa ([],b) else ab
 |x :: g,b=>open Classical in if ok b then (match c x b with
  |some (.bl ae,a)=>match f x a with
   |some (y,e)=>match Z9 ok f c g e with
    |some (h,d)=>aa (y :: h,d)
    |none=>ab
   |none=>ab
  |some (.bl af,a)=>Z9 ok f c g a
  |_=>ab) else ab
def YB(rng:Bool)(x:D)(e:Za):Ot (Li D×(Za->Prop)):=match WJ rng x with
 |some d=>aa (d,λ_=>True)
 |none=>match rng,x with
  |false,.lst a=>match e[a]? with
   |some c=>aa (c.2,λs=>s[a]?=aa c)
   |none=>ab
  |false,.dct [] [.int a,.int b]=>aa ((ZeV a b 1).map .int,λ_=>True)
  |_,_=>ab
noncomputable def Jt:D->Bool
 |.tup [_,_]=>ae
 |_=>af
def Vq(x:D)(d:Za):Ot (Li D×(Za->Prop)):=match x with
 |.tup b=>if b.all Jt=ae then aa (b,λ_=>True) else ab
 |.lst a=>match d[a]? with
  |some c=>if c.2.all Jt=ae then aa (c.2,λs=>s[a]?=aa c) else ab
  |none=>ab
 |_=>ab
abbrev Ev:=Env->Za->Res
noncomputable def Zl(c:Ev)(g:D->Za->Res):Ev:=λU b=>match c U b with
 |some (x,a)=>g x a
 |none=>ab
noncomputable def ZE(e d:Ev)(g:D->D->Za->Res):Ev:=λU c=>match e U c with
 |some (x,b)=>match d U b with
  |some (y,a)=>g x y a
  |none=>ab
 |none=>ab
noncomputable def Yl(h f e:Ev)(g:D->D->D->Za->Res):Ev:=λU d=>match h U d with
 |some (x,c)=>match f U c with
  |some (y,b)=>match e U b with
   |some (z,a)=>g x y z a
   |none=>ab
  |none=>ab
 |none=>ab
noncomputable def Xf(e c d:Ev):Ev:=λU b=>match e U b with
 |some (.bl ae,a)=>c U a
 |some (.bl af,a)=>d U a
 |_=>ab
noncomputable def Z4(i:Nat):Ev:=λU a=>match U[i]? with
 |some (aa d)=>aa (d,a)
 |_=>ab
noncomputable def evC(d:D):Ev:=λ_ a=>aa (d,a)
noncomputable def ZeN:D->Za->Res
 |.int i,a=>aa (.int (-i),a)
 |_,_=>ab
noncomputable def ZaX:D->Za->Res
 |.bl k,a=>aa (.bl (!k),a)
 |_,_=>ab
def W7(b:CmpOp)(x y:D)(a:Za):Res:=match J4 b x y a with
 |some k=>aa (.bl k,a)
 |none=>ab
noncomputable def ZaP:D->Za->Res
 |.tup b,a=>aa (.lst a.length,a++[(ae,b)])
 |_,_=>ab
noncomputable def WE:D->D->Za->Res
 |x,.tup a,b=>if a.length < 1000 then aa (.tup (x :: a),b) else ab
 |_,_,_=>ab
def ixR(x y:D)(a:Za):Res:=match ixD x y a with
 |some d=>aa (d,a)
 |none=>ab
def Yy:D->D->D->Za->Res
 |x,.non,.non,a=>Yh x ab ab a
 |x,.int i,.non,a=>Yh x (aa i) ab a
 |x,.non,.int j,a=>Yh x ab (aa j) a
 |x,.int i,.int j,a=>Yh x (aa i) (aa j) a
 |_,_,_,_=>ab
noncomputable def WT:D->Za->Res
 |.int i,a=>aa (.int i,a)
 |_,_=>ab
noncomputable def XG(g:Fn)(c:Li D):D->Za->Res
 |.tup a,b=>g (a++c) b
 |_,_=>ab
def Qc(x:D)(a:Za):Res:=match ZcH x a with
 |some n=>aa (.int n,a)
 |none=>ab
noncomputable def V0:D->Za->Res
 |.tup b,a=>aa (.tup b,a)
 |.lst l,a=>match a[l]? with
  |some (_,b)=>aa (.tup b,a)
  |none=>ab
 |_,_=>ab
noncomputable def QQ:D->Za->Res
 |.tup b,a=>aa (.lst a.length,a++[(ae,b)])
 |.lst l,a=>match a[l]? with
  |some (_,b)=>aa (.lst a.length,a++[(ae,b)])
  |none=>ab
 |_,_=>ab
def ZaF(T:Ty)(x:D)(a:Za):Res:=match ZeD T x with
 |some k=>aa (.bl k,a)
 |none=>ab
noncomputable def Zfi:Li D->Ot (Li D)
 |[.int i,.int j]=>aa (if j < i then [.int j,.int i] else [.int i,.int j])
 |_=>ab
def rsL(k:Bool)(a:Li D):Ot (Li D):=if k then Zfi a else aa a.reverse
def rsD(k:Bool):D->Za->Res
 |.lst a,b=>match b[a]? with
  |some (_,d)=>(match rsL k d with
   |some c=>aa (.lst b.length,b++[(ae,c)])
   |none=>ab)
  |none=>ab
 |_,_=>ab
noncomputable def ZeB:D->Za->Res
 |.int i,a=>aa (.int (-i - 1),a)
 |_,_=>ab
def ZaO(b:Li Str)(c:Li D):D->Za->Res
 |.str k,a=>match Yc b c k with
  |some d=>aa (d,a)
  |none=>ab
 |_,_=>ab
def getD:D->D->D->Za->Res
 |.dct c a,.str k,d,b=>aa ((Yc c a k).getD d,b)
 |_,_,_,_=>ab
noncomputable def ZgE(b:Bool):D->D->Za->Res
 |.int x,.int n,a=>if -(2 ^ 62)<=n/\n < 2 ^ 62 then aa (.bl (b != ak (0<=x/\x < n)),a) else ab
 |_,_,_=>ab
noncomputable def Y9:Li D->Ot (Li Bool)
 |[]=>aa []
 |.bl b :: r=>(Y9 r).map (b :: ·)
 |_=>ab
def WX(f:Li Bool->Bool)(x:D)(b:Za):Res:=match x with
 |.lst a=>match b[a]? with
  |some (_,c)=>match Y9 c with
   |some bs=>aa (.bl (f bs),b)
   |none=>ab
  |none=>ab
 |_=>ab
noncomputable def ZdC(a:Li Str):D->Za->Res
 |.tup b,c=>if a.length=b.length/\(a.Nodup/\a≠[])/\a.length<=15 then aa (.dct a b,c) else ab
 |_,_=>ab
noncomputable def one(d:D):Li (Ot D):=[aa d]
noncomputable def two:D->Li (Ot D)
 |.tup [a,b]=>[aa a,aa b]
 |_=>[]
noncomputable def ZhJ:D->Li (Ot D)
 |.tup [a,b,c]=>[aa a,aa b,aa c]
 |_=>[]
def ddE(h g f:Env->Za->Res):Env->Za->Res:=λU b=>match h U (b++[(ae,[])]) with
 |some (.int i,d)=>match g U d with
  |some (.int j,c)=>match f U c with
   |some (v,a)=>match a[b.length]? with
    |some (ae,e)=>if e.length < Zg then aa (.dic b.length,a.set b.length (ae,XI e i j v)) else ab
    |_=>ab
   |none=>ab
  |_=>ab
 |_=>ab
def gtD:D->D->D->Za->Res
 |.dic a,.tup c,d,b=>(dAt c a b).map λo=>(o.getD d,b)
 |_,_,_,_=>ab
noncomputable def ZcU:D->Za->Res
 |.lst a,c=>match c[a]? with
  |some (ae,b)=>(b[b.length - 1]?).map λd=>(d,c.set a (ae,b.dropLast))
  |_=>ab
 |_,_=>ab
noncomputable def Zbi:D->D->Za->Res
 |.lst a,.int 0,b=>match b[a]? with
  |some (ae,x :: c)=>aa (x,b.set a (ae,c))
  |_=>ab
 |_,_,_=>ab
noncomputable def kOf:D->Ot (Int×Int)
 |.tup [.int i,.int j,_]=>aa (i,j)
 |_=>ab
noncomputable def VO(p:Int×Int):Int:=p.1 * 1000+p.2
def Zw(a:Li D):Li (Int×Int):=a.map λe=>(kOf e).getD (0,0)
noncomputable def prD(p:Int×Int):D:=.tup [.int p.1,.int p.2]
def okP(a:Li (Int×Int)):Bool:=a.all (λp=>ak (0<=p.1/\p.1 < 1000/\0<=p.2/\p.2 < 1000))&&ak ((a.map VO).Nodup)
def atP(a:Li (Int×Int))(i:Nat):Int:=VO (a.getD i (0,0))
def Za6(a:Li (Int×Int)):Li Nat:=(aj a.length).mergeSort λi j=>ak (atP a i<=atP a j)
def ZW{a:Type}(c:Li (Int×Int))(z:a)(b:Li a):Li a:=(Za6 c).map λi=>b.getD i z
def QP:D->Za->Res
 |.dic a,c=>match c[a]? with
  |some (_,b)=>if b.length<=400/\okP (Zw b)=ae then aa (.lst c.length,c++[(ae,ZW (Zw b) .non ((Zw b).map prD))]) else ab
  |none=>ab
 |_,_=>ab
noncomputable def Z5(b:D->Li (Ot D))(U:Env)(a:Li Nat)(d:D):Env:=b d++a.map λi=>(U[i]?).join
def Y2(b:D->Li (Ot D))(w:D->Za->Ot (Li D×(Za->Prop)))(f:Li Nat)(i j k:Ev):Ev:=λU h=>match i U h with
 |some (x,c)=>match w x c with
  |some (e,ok)=>if e.length<=1000 then
    match Z9 ok (λd s=>j (Z5 b U f d) s) (λd s=>k (Z5 b U f d) s) e c with
    |some (g,a)=>aa (.lst a.length,a++[(ae,g)])
    |none=>ab
   else ab
  |none=>ab
 |none=>ab
noncomputable def ZdD:Ev:=λ_ a=>aa (.dic a.length,a++[(ae,[])])
def ev(F:Nat->Fn):CE->Ev
 |.v i=>Z4 i
 |.c d=>evC d
 |.bin j a b=>ZE (ev F a) (ev F b) (Vy j)
 |.neg a=>Zl (ev F a) ZeN
 |.cmp j a b=>ZE (ev F a) (ev F b) (W7 j)
 |.not a=>Zl (ev F a) ZaX
 |.and a b=>Xf (ev F a) (ev F b) (evC (.bl af))
 |.or a b=>Xf (ev F a) (evC (.bl ae)) (ev F b)
 |.ife c a b=>Xf (ev F c) (ev F a) (ev F b)
 |.tupE a=>ev F a
 |.lstE a=>Zl (ev F a) ZaP
 |.aN=>evC (.tup [])
 |.aC a r=>ZE (ev F a) (ev F r) WE
 |.ix a b=>ZE (ev F a) (ev F b) ixR
 |.slice a lo t=>Yl (ev F a) (ev F lo) (ev F t) Yy
 |.nop=>evC .non
 |.part a=>Zl (ev F a) WT
 |.call f a q=>Zl (ev F a) (XG (F f) q)
 |.len a=>Zl (ev F a) Qc
 |.tOf a=>Zl (ev F a) V0
 |.listOf a=>Zl (ev F a) QQ
 |.intOf _=>λ_ _=>ab
 |.min _ _=>λ_ _=>ab
 |.max _ _=>λ_ _=>ab
 |.isi T a=>Zl (ev F a) (ZaF T)
 |.rs k a=>Zl (ev F a) (rsD k)
 |.inv a=>Zl (ev F a) ZeB
 |.tupR _=>λ_ _=>ab
 |.look m q a=>Zl (ev F a) (ZaO m q)
 |.dget a k d=>Yl (ev F a) (ev F k) (ev F d) getD
 |.inR s a b=>ZE (ev F a) (ev F b) (ZgE s)
 |.all a=>Zl (ev F a) (WX λl=>l.all id)
 |.any _=>λ_ _=>ab
 |.comp rng p n g h=>Y2 one (YB rng) p (ev F n) (ev F g) (ev F h)
 |.comp2 _ _ _ _=>λ_ _=>ab
 |.compT p n g h=>Y2 two Vq p (ev F n) (ev F g) (ev F h)
 |.lstR _ _=>λ_ _=>ab
 |.new _=>λ_ _=>ab
 |.meth _ _ _=>λ_ _=>ab
 |.isc _ _=>λ_ _=>ab
 |.tix _ _=>λ_ _=>ab
 |.dict m a=>Zl (ev F a) (ZdC m)
 |.dnew=>ZdD
 |.strOf _=>λ_ _=>ab
 |.joinE _ _=>λ_ _=>ab
 |.starts _ _=>λ_ _=>ab
 |.rng2 _ _=>λ_ _=>ab
 |.srt _=>λ_ _=>ab
 |.comp3 _ _ _ _=>λ_ _=>ab
 |.dd a b e=>ddE (ev F a) (ev F b) (ev F e)
 |.dgN o k d=>Yl (ev F o) (ev F k) (ev F d) gtD
 |.pop o=>Zl (ev F o) ZcU
 |.ksrt o=>Zl (ev F o) QP
 |.popz o z=>ZE (ev F o) (ev F z) Zbi
inductive Fl where
 |nx (U:Env)|rt (d:D)|bk (U:Env)|ct (U:Env)
noncomputable def Zk(U:Env)(i:Nat)(d:D):Env:=U.set i (aa d)
noncomputable def Zj(b:D->Env->Za->Ot (Fl×Za)):Li D->Env->Za->Ot (Fl×Za)
 |[],U,c=>aa (.nx U,c)
 |d :: e,U,c=>match b d U c with
  |some (.nx U',a)=>Zj b e U' a
  |some (.ct U',a)=>Zj b e U' a
  |some (.bk U',a)=>aa (.nx U',a)
  |some (.rt v,a)=>aa (.rt v,a)
  |none=>ab
noncomputable def ZF(c:D->Env->Za->Ot (Fl×Za))(a:Nat):Nat->Nat->Env->Za->Ot (Fl×Za)
 |0,i,U,e=>match e[a]? with
  |some (_,f)=>if f.length<=i then aa (.nx U,e) else ab
  |none=>ab
 |n+1,i,U,e=>match e[a]? with
  |some (_,f)=>match f[i]? with
   |none=>aa (.nx U,e)
   |some d=>match c d U e with
    |some (.nx U',b)=>ZF c a n (i+1) U' b
    |some (.ct U',b)=>ZF c a n (i+1) U' b
    |some (.bk U',b)=>aa (.nx U',b)
    |some (.rt v,b)=>aa (.rt v,b)
    |none=>ab
  |none=>ab
abbrev Ex:=Env->Za->Ot (Fl×Za)
noncomputable def YZ(f g:Ex):Ex:=λU b=>match f U b with
 |some (.nx U',a)=>g U' a
 |r=>r
noncomputable def Qm(f:Ev):Ex:=λU b=>match f U b with
 |some (d,a)=>aa (.rt d,a)
 |none=>ab
def VX(i:Nat)(f:Ev):Ex:=λU b=>match f U b with
 |some (d,a)=>aa (.nx (Zk U i d),a)
 |none=>ab
def WZ(i j:Nat)(f:Ev):Ex:=λU b=>match f U b with
 |some (.tup [x,y],a)=>aa (.nx (Zk (Zk U i x) j y),a)
 |_=>ab
def UL(i j l:Nat)(f:Ev):Ex:=λU b=>match f U b with
 |some (.tup [x,y,z],a)=>aa (.nx (Zk (Zk (Zk U i x) j y) l z),a)
 |_=>ab
noncomputable def Zee(f:Ev):Ex:=λU b=>match f U b with
 |some (_,a)=>aa (.nx U,a)
 |none=>ab
def JT(a:Nat)(d:D)(c:Za):Ot Za:=match c[a]? with
 |some (ae,b)=>if b.length < Zg then aa (c.set a (ae,b++[d])) else ab
 |_=>ab
def Y1(a:Nat)(j:Int)(d:D)(c:Za):Ot Za:=match c[a]? with
 |some (ae,b)=>match ixN b.length j with
  |some p=>aa (c.set a (ae,b.set p d))
  |none=>ab
 |_=>ab
def JV(i:Nat)(f:Ev):Ex:=λU e=>match U[i]? with
 |some (aa (.lst a))=>match f U e with
  |some (d,c)=>match JT a d c with
   |some b=>aa (.nx U,b)
   |none=>ab
  |none=>ab
 |_=>ab
def JU(o f:Ev):Ex:=λU g=>match o U g with
 |some (.lst a,e)=>match f U e with
  |some (d,c)=>match JT a d c with
   |some b=>aa (.nx U,b)
   |none=>ab
  |none=>ab
 |_=>ab
def Zeu(a b:Nat)(c:Za):Ot Za:=match c[a]?,c[b]? with
 |some (ae,e),aa (ae,d)=>if e.length+d.length<=Zg then aa (c.set a (ae,e++d)) else ab
 |_,_=>ab
def Zaf(i:Nat)(f:Ev):Ex:=λU e=>match U[i]? with
 |some (aa (.lst a))=>match f U e with
  |some (.lst b,d)=>match Zeu a b d with
   |some c=>aa (.nx U,c)
   |none=>ab
  |_=>ab
 |_=>ab
def VR(i:Nat)(k f:Ev):Ex:=λU g=>match f U g with
 |some (d,e)=>match U[i]? with
  |some (aa (.lst a))=>match k U e with
   |some (.int j,c)=>match Y1 a j d c with
    |some b=>aa (.nx U,b)
    |none=>ab
   |_=>ab
  |_=>ab
 |none=>ab
def Um(i:Nat)(k j f:Ev):Ex:=λU h=>match f U h with
 |some (d,e)=>match U[i]? with
  |some (aa (.dic a))=>match k U e with
   |some (.int x,c)=>match j U c with
    |some (.int y,b)=>match b[a]? with
     |some (ae,g)=>if g.length < Zg then aa (.nx U,b.set a (ae,XI g x y d)) else ab
     |_=>ab
    |_=>ab
   |_=>ab
  |_=>ab
 |none=>ab
noncomputable def Yb(c:Ev)(f g:Ex):Ex:=λU b=>match c U b with
 |some (.bl ae,a)=>f U a
 |some (.bl af,a)=>g U a
 |_=>ab
def WF(i:Nat)(rng:Bool)(g:Ev)(b:Ex):Ex:=λU f=>match g U f with
 |some (x,c)=>match WJ rng x with
  |some e=>Zj (λd U s=>b (Zk U i d) s) e U c
  |none=>match rng,x with
   |false,.lst a=>match c[a]? with
    |some (_,e)=>ZF (λd U s=>b (Zk U i d) s) a e.length 0 U c
    |none=>ab
   |_,_=>ab
 |none=>ab
noncomputable def UA(ok:Za->Prop)(b:D->D->Env->Za->Ot (Fl×Za)):Li (D×D)->Env->Za->Ot (Fl×Za)
 |[],U,c=>open Classical in if ok c then aa (.nx U,c) else ab
 |p :: d,U,c=>open Classical in if ok c then (match b p.1 p.2 U c with
  |some (.nx U',a)=>UA ok b d U' a
  |some (.ct U',a)=>UA ok b d U' a
  |some (.bk U',a)=>aa (.nx U',a)
  |some (.rt v,a)=>aa (.rt v,a)
  |none=>ab) else ab
def ZhH(i j:Nat)(f:Ev)(b:Ex):Ex:=λU e=>match f U e with
 |some (.tup [.tup d,.tup c],a)=>UA (λ_=>True) (λx y U s=>b (Zk (Zk U i x) j y) s) (d.zip c) U a
 |_=>ab
noncomputable def ZdE:Nat->Li D->Li (D×D)
 |_,[]=>[]
 |k,x :: a=>(.int (k:Int),x) :: ZdE (k+1) a
noncomputable def Zgq(x:D)(d:Za):Ot (Li D×(Za->Prop)):=match x with
 |.tup b=>aa (b,λ_=>True)
 |.lst a=>match d[a]? with
  |some c=>aa (c.2,λs=>s[a]?=aa c)
  |none=>ab
 |_=>ab
def ZhG(i j:Nat)(e:Ev)(b:Ex):Ex:=λU d=>match e U d with
 |some (x,a)=>match Zgq x a with
  |some (c,ok)=>UA ok (λx y U s=>b (Zk (Zk U i x) j y) s) (ZdE 0 c) U a
  |none=>ab
 |none=>ab
def Xq(i j l:Nat)(b:Ex)(d:D)(U:Env)(s:Za):Ot (Fl×Za):=match d with
 |.tup [x,y,z]=>b (Zk (Zk (Zk U i x) j y) l z) s
 |_=>ab
def Up(i j l:Nat)(f:Ev)(b:Ex):Ex:=λU e=>match f U e with
 |some (.lst a,c)=>match c[a]? with
  |some (_,d)=>ZF (Xq i j l b) a d.length 0 U c
  |none=>ab
 |some (.tup d,c)=>Zj (Xq i j l b) d U c
 |_=>ab
noncomputable def ZR(f g:Ex):Ex:=λU b=>match f U b with
 |some (.nx U',a)=>g U' a
 |some (.ct U',a)=>g U' a
 |some (.bk U',a)=>aa (.nx U',a)
 |some (.rt v,a)=>aa (.rt v,a)
 |none=>ab
def Z1(c:Ev)(b:Ex):Nat->Ex
 |0=>λ_ _=>ab
 |n+1=>Yb c (ZR b (Z1 c b n)) λU a=>aa (.nx U,a)
def ex(F:Nat->Fn):CS->Ex
 |.skip=>λU d=>aa (.nx U,d)
 |.seq a b=>YZ (ex F a) (ex F b)
 |.ret e=>Qm (ev F e)
 |.set i e=>VX i (ev F e)
 |.app i e=>JV i (ev F e)
 |.ext i e=>Zaf i (ev F e)
 |.put i k e=>VR i (ev F k) (ev F e)
 |.ite c a b=>Yb (ev F c) (ex F a) (ex F b)
 |.for1 i rng f b=>WF i rng (ev F f) (ex F b)
 |.forP _ _ _ _=>λ_ _=>ab
 |.forE _ _ _ _=>λ_ _=>ab
 |.for3 _ _ _=>λ_ _=>ab
 |.set2 i j e=>WZ i j (ev F e)
 |.for4 i j l f b=>Up i j l (ev F f) (ex F b)
 |.for2 _ _ _ _=>λ_ _=>ab
 |.whl c b=>Z1 (ev F c) (ex F b) 20000
 |.brk=>λU d=>aa (.bk U,d)
 |.cont=>λU d=>aa (.ct U,d)
 |.stop=>λ_ _=>ab
 |.set3 i j l e=>UL i j l (ev F e)
 |.act e=>Zee (ev F e)
 |.dput i a b e=>Um i (ev F a) (ev F b) (ev F e)
 |.app2 o e=>JU (ev F o) (ev F e)
structure FD where
 ps:Nat
 ns:Nat
 body:CS
def fnD(F:Nat->Fn)(f:FD):Fn:=λb c=>
 if b.length=f.ps then
  match ex F f.body (b.map aa++ag (f.ns - b.length) ab) c with
  |some (.rt d,a)=>aa (d,a)
  |some (.nx _,a)=>aa (.non,a)
  |_=>ab
 else ab
def run(T:Nat->Ot FD):Nat->Nat->Fn
 |0,_=>λ_ _=>ab
 |n+1,i=>match T i with
  |some f=>fnD (run T n) f
  |none=>λ_ _=>ab
inductive GV where
 |fn (i:Nat) (ps:Nat) (ds:List D)|c (d:D)|blt|dct (ks:List Str) (ds:List D)|cls (i:Nat) (ms:List (Str×Nat×Nat)) (subs:List Nat)
abbrev Gs:=Li (Str×GV)
noncomputable def CE.ofConst:Const->Ot CE
 |.none=>aa (.c .non)
 |.bool b=>aa (.c (.bl b))
 |.int i=>aa (.c (.int i))
 |.str x=>aa (.c (.str x))
 |_=>ab
noncomputable def XO(sc:bp)(x:Str):Bool:=!(x==("__debug__":Str))&&!(x==("__classdict__":Str))&&match sc.names.lookup x with
 |some .local=>ae
 |some .cell=>ae
 |some .free=>ae
 |_=>af
noncomputable def ZB(sc:bp)(x:Str):Bool:=!(x==("__debug__":Str))&&match sc.names.lookup x with
 |some .globalImplicit=>ae
 |_=>af
noncomputable def Zgo(x:Str):Ot Ty:=
 if x = "int" then aa .int else if x = "bool" then aa .bool else if x = "str" then aa .str else if x = "tuple" then aa .tuple else ab
noncomputable def ZJ(sc:bp):Li Str:=(sc.names.filter λp=>ak (p.2=.free)).map (·.1)
noncomputable def Zen(f:Str)(x:CE):Ot CE:=
 if f = "len" then aa (.len x) else if f = "tuple" then aa (.tOf x) else if f = "list" then aa (.listOf x) else if f = "all" then aa (.all x) else if f = "sorted" then aa (.ksrt x) else ab
noncomputable def ZfF(_:Str)(_ _:CE):Ot CE:=ab
noncomputable def QO(G:Gs)(x:Str):Bool:=match G.lookup x with
 |some .blt=>ae
 |_=>af
def Zfm(G:Gs)(sc:bp)(t:Str):Ot Ty:=if ZB sc t&&QO G t then Zgo t else ab
def Ja(G:Gs)(sc:bp):az->Ot Ty
 |.Name t _=>Zfm G sc t
 |_=>ab
noncomputable def U2(_:Gs)(_:bp)(_:az):Ot (Li Nat):=ab
noncomputable def ZK:Li (Ot az)->Ot (Li Str)
 |[]=>aa []
 |some (.Constant (.str k) _ _) :: r=>(ZK r).map (k :: ·)
 |_=>ab
noncomputable def ZdA:az->Ot (Str×Li az)
 |.Call (.Name f _) a [] _=>aa (f,a)
 |_=>ab
def fnA(G:Gs)(sc:bp)(nm:Str)(e:az):Ot (Li az):=(ZdA e).bind λp=>og (p.1=nm/\ZB sc p.1=ae/\QO G p.1=ae) (aa p.2)
noncomputable def ZeO:Li az->Ot az
 |[a]=>aa a
 |_=>ab
def ZN(G:Gs)(sc:bp)(e:az):Ot az:=(fnA G sc "range" e).bind ZeO
noncomputable def Qw(_:Gs)(_:bp)(_:Str)(_:az):Ot az:=ab
noncomputable def Qf(_:Gs)(_:bp)(_:Str)(_:az):Ot (az×az):=ab
def o3{g e d a:Type}(f:g->e->d->a):Ot g->Ot e->Ot d->Ot a
 |some x,b,c=>o2 (f x) b c
 |none,_,_=>ab
variable{γ:Type}
def WQ{P:γ->Prop}{f:α->γ}{a:Ot α}{c:γ}(h:a.map f=aa c)(k:∀ x,a=aa x->P (f x)):P c:=by
 cases a with
 |none=>exact Zb h
 |some x=>cases h;exact k x rfl
variable{β:Type}
def ZU{P:γ->Prop}{f:α->β->γ}{a:Ot α}{b:Ot β}{c:γ}(h:o2 f a b=aa c)(k:∀ x y,a=aa x->b=aa y->P (f x y)):P c:=by
 cases a with
 |none=>exact Zb h
 |some x=>cases b with
  |none=>exact Zb h
  |some y=>cases h;exact k x y rfl rfl
def XC{g:Type}{P:g->Prop}{f:α->β->γ->g}{a:Ot α}{b:Ot β}{d:Ot γ}{c:g}(h:o3 f a b d=aa c)(k:∀ x y z,a=aa x->b=aa y->d=aa z->P (f x y z)):P c:=by
 cases a with
 |none=>exact Zb h
 |some x=>exact ZU (P:=P) h λy z e i=>k x y z rfl e i
def XS{P:Prop}{p:Prop}[Decidable p]{o:Ot α}{c:α}(h:og p o=aa c)(k:p->o=aa c->P):P:=by
 unfold og at h;by_cases a:p
 .rw[aq a]at h;exact k a h
 .rw[ar a]at h;cases h
def j_e{P:Prop}{o:Ot (Ot α)}{c:α}(h:o.join=aa c)(k:o=aa (aa c)->P):P:=by
 cases o with
 |none=>exact Zb h
 |some x=>cases h;exact k rfl
def JY(G:Gs)(sc:bp)(f:Str)(a:az)(r:az->Ot CE):Ot CE:=match Qw G sc f a with
 |some e=>(r e).map .tupR
 |none=>match Qf G sc f a with
  |some (u,v)=>o2 .lstR (r u) (r v)
  |none=>((r a).map (Zen f)).join
def JZ(G:Gs)(sc:bp)(f:Str)(a b:az)(r:az->Ot CE):Ot CE:=if f = "isinstance" then (match U2 G sc b with
  |some l=>(r a).map (.isc l)
  |none=>o2 (λx T=>.isi T x) (r a) (Ja G sc b)) else (o2 (ZfF f) (r a) (r b)).join
def J0(G:Gs)(sc:bp)(f:Str)(d:Li az)(h:Ot CE)(r:az->Ot CE):Ot CE:=
 if ZB sc f then (match G.lookup f with
   |some (.fn i e g)=>og (d.length<=e/\e<=d.length+g.length) (h.map λc=>.call i c (g.drop (d.length+g.length - e)))
   |some .blt=>match d with
    |[a]=>JY G sc f a r
    |[a,b]=>JZ G sc f a b r
    |_=>ab
   |_=>ab) else ab
def ZgD(o:Ot CE)(d:Li az)(r:az->Ot CE):Ot CE:=match d with
 |[a]=>o2 (λx y=>.dgN x y (.c .non)) o (r a)
 |[a,b]=>o3 .dgN o (r a) (r b)
 |_=>ab
def ZgQ(o:Ot CE)(b:Li az)(r:az->Ot CE):Ot CE:=match b with
 |[]=>o.map .pop
 |[a]=>o2 .popz o (r a)
 |_=>ab
def Zdy(G:Gs)(c:az)(m:Str)(f:Pos)(d:Li az)(e:Pos)(g:Ot CE)(r:az->Ot CE):Ot CE:=match c with
 |.Dict _ _ _=>(match d with
  |[a,b]=>og (m = "get"/\(f.endLine==e.line)=ae) (o3 .dget (r c) (r a) (r b))
  |_=>ab)
 |.Name _ _=>og ((f.endLine==e.line)=ae/\d.length < 20) (if m = "pop" then ZgQ (r c) d r else if m = "get" then ZgD (r c) d r else ab)
 |_=>ab
def ZfG(G:Gs)(sc:bp)(f:az)(b:Li az)(d:Pos)(a:Ot CE)(r:az->Ot CE):Ot CE:=match f with
 |.Name f _=>J0 G sc f b a r
 |.Attribute c m e=>Zdy G c m e b d a r
 |_=>ab
noncomputable def ZgF:az->Bool
 |.Slice ..=>ae
 |_=>af
noncomputable def cVs(f:az->Ot CE):Li az->Ot CE
 |[]=>aa .aN
 |e :: a=>match f e,cVs f a with
  |some x,aa r=>aa (.aC x r)
  |_,_=>ab
noncomputable def Vl:az->Ot (az×az)
 |.Tuple [a,b] _ _=>aa (a,b)
 |_=>ab
def Q3:Li (Ot az)->Ot (az×az)
 |[aa e]=>Vl e
 |_=>ab
noncomputable def ZcN:Li az->Ot az
 |[e]=>aa e
 |_=>ab
def ZgA(f:az->Ot CE)(a:Li (Ot az))(b:Li az):Ot CE:=match a with
 |[]=>og (b.length=0) (aa .dnew)
 |_=>match Q3 a with
  |some p=>o3 .dd (f p.1) (f p.2) ((ZcN b).bind f)
  |none=>og (a.length=b.length/\a≠[]/\a.length<=15) (o2 .dict (ZK a) (cVs f b))
noncomputable def X8(_:Gs)(_:bp)(_:az):Ot (Li az):=ab
noncomputable def Ws(_:Gs)(_:bp)(_:az):Ot (Li az):=ab
def VC(G:Gs)(sc:bp)(e:az):Ot az:=(fnA G sc "enumerate" e).bind ZeO
noncomputable def Wm(_:Gs)(_:bp)(_:az):Ot az:=ab
noncomputable def nmE:az->Ot Str
 |.Name x _=>aa x
 |_=>ab
def nmL:Li az->Ot (Li Str)
 |[a,b]=>o2 (λx y=>[x,y]) (nmE a) (nmE b)
 |_=>ab
def tgN:az->Ot (Li Str)
 |.Name x _=>aa [x]
 |.Tuple a _ _=>nmL a
 |_=>ab
noncomputable def mkC(n:Nat)(r:Ot (Ot Bool))(a:Li Nat)(c d e:CE):CE:=if n=3 then .comp3 a c d e else match r with
 |some (aa b)=>.comp b a c d e
 |some ab=>.comp2 a c d e
 |none=>.compT a c d e
noncomputable def Xn(N:Li Str):Li Str->Ot (Li Nat)
 |[]=>aa []
 |x :: r=>match N.idxOf? x,Xn N r with
  |some i,aa a=>aa (i :: a)
  |_,_=>ab
def ZaV(G:Gs)(sc:bp)(N:Li Str)(x:Str):Ot CE:=
 if XO sc x then (N.idxOf? x).map .v else if ZB sc x then (match G.lookup x with
  |some (.c d)=>aa (.c d)
  |_=>ab) else ab
def QU(G:Gs)(sc:bp):az->Ot (Li Str×Li D)
 |.Name x _=>if ZB sc x then (match G.lookup x with
  |some (.dct a b)=>aa (a,b)
  |_=>ab) else ab
 |_=>ab
noncomputable def Wq:az->Ot (Ot az×Ot az)
 |.Slice lo a ab _=>aa (lo,a)
 |_=>ab
noncomputable def Q6:az->Ot az
 |.Slice ab ab (aa s) _=>aa s
 |_=>ab
noncomputable def ZeC:CE->Bool
 |.neg (.c (.int 1))=>ae
 |_=>af
noncomputable def WH(sc:bp)(x:Str):Bool:=match sc.names.lookup x with
 |some .cell=>ae
 |some .free=>ae
 |_=>af
def Xe(sc a:bp)(b:Li Str):Bool:=
 ak (a.kind=.function)&&(a.names.all λp=>ak (p.2≠.cell))&&(b.all λx=>ak (a.names.lookup x=aa .local))&&(a.names.all λp=>!decide (p.2=.local)||ak (a.names.lookup p.1=aa .local)) &&
 ak (b++ZJ a).Nodup&&(ZJ a).all (λy=>WH sc y&&ak (a.names.lookup y=aa .free))
noncomputable def Zez(_:CmpOp):Ot Bool:=ab
noncomputable def unC(b:UnaryOp)(a:Ot CE):Ot CE:=match b with
 |.Not=>a.map .not
 |.USub=>a.map .neg
 |.Invert=>a.map .inv
 |_=>ab
def ZfJ(G:Gs)(sc:bp)(f:az->Ot CE)(a:Ot CE):Li CmpOp->Li az->Ot CE
 |[c],[b]=>(match ZN G sc b with
  |some e=>o3 .inR (Zez c) a (f e)
  |none=>o2 (.cmp c) a (f b))
 |_,_=>ab
def Zdz(f:az->Ot CE)(d:BoolOp)(c:Pos):Li az->Ot CE
 |[]=>ab
 |[a]=>f a
 |a :: b :: r=>match d with
  |.And=>o2 .and (f a) (f (.BoolOp .And (b :: r) c))
  |.Or=>o2 .or (f a) (f (.BoolOp .Or (b :: r) c))
def Zfk(G:Gs)(sc:bp)(f:az->Ot CE)(c:Ot az->Ot CE)(a b:az):Ot CE:=match Wq b with
 |some (lo,e)=>o3 .slice (f a) (c lo) (c e)
 |none=>match Q6 b with
  |some s=>(o2 (λx y=>og (ZeC y=ae) (aa (.rs af x))) (f a) (f s)).join
  |none=>match QU G sc a with
   |some (d,g)=>(f b).map (.look d g)
   |none=>o2 .ix (f a) (f b)
def itC(G:Gs)(sc:bp)(b:az)(f:az->Ot CE):Li Str->Ot (Ot (Ot Bool)×CE)
 |[_]=>(match ZN G sc b with
  |some a=>(f a).map λc=>(aa (aa ae),c)
  |none=>(f b).map λc=>(aa (aa af),c))
 |[_,_]=>(match VC G sc b with
  |some _=>ab
  |none=>(f b).map λc=>(ab,c))
 |_=>(match VC G sc b with
  |some _=>ab
  |none=>(f b).map λc=>(ab,c))
noncomputable def ifC(f:az->Ot CE):Li az->Ot CE
 |[]=>aa (CE.c (.bl ae))
 |[c]=>f c
 |_=>ab
def ZdB(G:Gs)(sc a:bp)(N:Li Str)(f:az->Ot CE)(g:Li Str->az->Ot CE)(d:az):Li Comprehension->Ot CE
 |[⟨e,h,c,0⟩]=>(match tgN e with
  |none=>ab
  |some b=>og (Xe sc a b=ae) (o3 (λi p (q:CE×CE)=>mkC b.length p.1 i p.2 q.1 q.2) (Xn N (ZJ a)) (itC G sc h f b) (o2 Prod.mk (g (b++ZJ a) d) (ifC (g (b++ZJ a)) c))))
 |_=>ab
mutual
def cE(G:Gs):Nat->bp->Li Str->az->Ot CE
 |0,_,_,_=>ab
 |n+1,sc,N,e=>match e with
  |.Constant c _ _=>CE.ofConst c
  |.Name x _=>ZaV G sc N x
  |.BinOp a h b _=>o2 (.bin h) (cE G n sc N a) (cE G n sc N b)
  |.UnaryOp h a _=>unC h (cE G n sc N a)
  |.Compare a l bs _=>ZfJ G sc (cE G n sc N) (cE G n sc N a) l bs
  |.BoolOp h q k=>Zdz (cE G n sc N) h k q
  |.IfExp c a b _=>o3 .ife (cE G n sc N c) (cE G n sc N a) (cE G n sc N b)
  |.Tuple m _ _=>(cEs G n sc N m).map .tupE
  |.List m _=>(cEs G n sc N m).map .lstE
  |.Dict i d _=>ZgA (cE G n sc N) i d
  |.Subscript a b _=>Zfk G sc (cE G n sc N) (cO G n sc N) a b
  |.Call f p [] r=>ZfG G sc f p r (cEs G n sc N p) (cE G n sc N)
  |.ListComp o j g _=>ZdB G sc g N (cE G n sc N) (cE G n g) o j
  |_=>ab
def cEs(G:Gs):Nat->bp->Li Str->Li az->Ot CE
 |0,_,_,_=>ab
 |_+1,_,_,[]=>aa .aN
 |n+1,sc,N,e :: a=>o2 .aC (cE G n sc N e) (cEs G n sc N a)
def cO(G:Gs):Nat->bp->Li Str->Ot az->Ot CE
 |0,_,_,_=>ab
 |_+1,_,_,ab=>aa .nop
 |n+1,sc,N,aa e=>(cE G n sc N e).map .part
end
noncomputable def Xk:az->Bool
 |.ListComp ..=>ae
 |.SetComp ..=>ae
 |.DictComp ..=>ae
 |_=>af
noncomputable def Ux:az->Bool
 |.Tuple ..=>ae
 |_=>af
def ZfE(N:Li Str)(a e:az)(c:Ot CE):Ot CS:=match a with
 |.Name x _=>o2 .set (N.idxOf? x) c
 |.Tuple [.Name x _,.Name y _] _ _=>og ((Xk e||Ux e)=af) (o3 (λi j c=>og (i≠j) (aa (.set2 i j c))) (N.idxOf? x) (N.idxOf? y) c).join
 |.Tuple [.Name x _,.Name y _,.Name z _] _ _=>og ((Xk e||Ux e)=af) (o3 (λi j (p:Nat×CE)=>.set3 i j p.1 p.2) (N.idxOf? x) (N.idxOf? y) (o2 Prod.mk (N.idxOf? z) c))
 |_=>ab
def Zf9(sc:bp)(N:Li Str)(x:Str)(k e:az)(f:az->Ot CE):Ot CS:=og (Xk e=af/\ZgF k=af/\XO sc x=ae) (match Vl k with
 |some (a,b)=>o3 (λi (p:CE×CE) c=>.dput i p.1 p.2 c) (N.idxOf? x) (o2 Prod.mk (f a) (f b)) (f e)
 |none=>o3 .put (N.idxOf? x) (f k) (f e))
def Zew(G:Gs)(sc:bp)(N:Li Str)(f:az->Ot CE)(fs:Li az->Ot CE)(h d:az)(b:Ot CS):Ot CS:=match h with
 |.Name x _=>(match X8 G sc d with
  |some g=>o3 .for3 (N.idxOf? x) (fs g) b
  |none=>match ZN G sc d with
   |some a=>o3 (λi c b=>.for1 i ae c b) (N.idxOf? x) (f a) b
   |none=>o3 (λi c b=>.for1 i af c b) (N.idxOf? x) (f d) b)
 |.Tuple [.Name x _,.Name y _] _ _=>(o2 (λi j=>og (i≠j) (aa (i,j))) (N.idxOf? x) (N.idxOf? y)).join.bind λp=>(match Ws G sc d with
  |some g=>o2 (.forP p.1 p.2) (fs g) b
  |none=>match Wm G sc d with
   |some e=>o2 (.forE p.1 p.2) (f e) b
   |none=>o2 (.for2 p.1 p.2) (f d) b)
 |.Tuple [.Name x _,.Name y _,.Name z _] _ _=>o3 (λ(p:Nat×Nat) (q:Nat×CE) b=>.for4 p.1 p.2 q.1 q.2 b) (o2 Prod.mk (N.idxOf? x) (N.idxOf? y)) (o2 Prod.mk (N.idxOf? z) (f d)) b
 |_=>ab
def ZfD(sc:bp)(N:Li Str)(x m:Str)(b a:Pos)(c:Ot CE):Ot CS:=og (XO sc x=ae/\(b.endLine==a.line)=ae) (if m = "append" then o2 .app (N.idxOf? x) c else if m = "extend" then o2 .ext (N.idxOf? x) c else ab)
def ZfA(sc:bp)(N:Li Str)(f:az->Ot CE):az->Ot CS
 |.Call (.Name g d) h c a=>(f (.Call (.Name g d) h c a)).map .act
 |.Call (.Attribute (.Name x _) m b) [e] [] a=>ZfD sc N x m b a (f e)
 |.Call (.Attribute (.Subscript o k p) m b) [e] [] a=>og (m = "append"/\(b.endLine==a.line)=ae) (o2 .app2 (f (.Subscript o k p)) (f e))
 |_=>ab
mutual
def cS(G:Gs):Nat->bp->Li Str->Stmt->Ot CS
 |0,_,_,_=>ab
 |n+1,sc,N,s=>match s with
  |.Assign [.Subscript (.Name x _) k _] e _=>Zf9 sc N x k e (cE G n sc N)
  |.Assign [d] e _=>ZfE N d e (cE G n sc N e)
  |.Expr e _=>ZfA sc N (cE G n sc N) e
  |.Return (aa e) _=>(cE G n sc N e).map .ret
  |.If c a b _=>o3 .ite (cE G n sc N c) (cSs G n sc N a) (cSs G n sc N b)
  |.For d f b [] _=>Zew G sc N (cE G n sc N) (cEs G n sc N) d f (cSs G n sc N b)
  |.While c b [] _=>o2 .whl (cE G n sc N c) (cSs G n sc N b)
  |.Pass _=>aa .skip
  |.Break _=>aa .brk
  |.Continue _=>aa .cont
  |.Raise _ _ _=>aa .stop
  |_=>ab
def cSs(G:Gs):Nat->bp->Li Str->Li Stmt->Ot CS
 |0,_,_,_=>ab
 |_+1,_,_,[]=>aa .skip
 |n+1,sc,N,s :: r=>o2 .seq (cS G n sc N s) (cSs G n sc N r)
end
end Dp
namespace Dp
open PySem PySem.Spec PyProof.Rows L2
class ClsTab where
 ca:Nat->Addr
variable [ClsTab]
variable{X:Cx}{e:az}
def Zm{t a:TE}(h:PE X e t)(i:∀ O H Q,a O H Q->t O H Q):PE X e a:=λb s O H Q I q=>h b s O H Q I (i O H Q q)
def WU{t a:TT}(h:PT X e t)(i:∀ O H Q,a O H Q->t O H Q):PT X e a:=λb s O H Q I q=>h b s O H Q I (i O H Q q)
def Za8{e:Li az}{t b:TA}(h:PA X e t)(i:∀ O H Q,b O H Q->t O H Q):PA X e b:=λa c s O H Q I q=>h a c s O H Q I (i O H Q q)
def Zbh{e:Ot az}{t a:TO}(h:PO X e t)(i:∀ O H Q,a O H Q->t O H Q):PO X e a:=λb s O H Q I q=>h b s O H Q I (i O H Q q)
def ZC{e:Stmt}{t a:TS}(h:PS X e t)(i:∀ D O H,a D O H->t D O H):PS X e a:=λb s O H D I q=>h b s O H D I (i D O H q)
def Q5{e:Li Stmt}{t a:TS}(h:PSs X e t)(i:∀ D O H,a D O H->t D O H):PSs X e a:=λb s O H D I q=>h b s O H D I (i D O H q)
def KT(K:Fg)(a:Ad)(b:Li V):Prop:=
 ∃ (o:Obj) (its:Array vL) (n:Nat),K.lookup a=aa o/\o.cls=.type "tuple"/\o.data=.seq its n/\its.size<=ay/\Vals b its.toList
def TupAt(K:Fg)(H:Hp)(a:Ad)(b:Li V):Prop:=H a=aa (.tup b)\/KT K a b
variable{K:Fg}{H:Hp}{xs:Li V}
def TupAt.sq{a:Ad}(h:TupAt K H a xs):SqT K H a xs:=by
 rcases h with h|h
 .exact .inl (.inl h)
 .exact .inr h
def Yk(H:Hp)(a:Ad):Prop:=∃ b,H a=aa (.dT b)
def LA(b:Li Ad)(H:Hp)(i:Nat)(a:Ad):Prop:=b[i]?=aa a/\¬Yk H a
variable{o:HO}
def WP{a:Ad}(h:H a=aa o)(n:∀ b,o≠.dT b):¬Yk H a:=λ⟨b,z⟩=>n b (aw (h.symm.trans z))
mutual
inductive Den(K:Fg)(ad:List Addr)(H:Hp):V->D->Prop where
 |non:Den K ad H .non .non
 |bl (b:Bool):Den K ad H (.bl b) (.bl b)
 |int (i:Int):Den K ad H (.int i) (.int i)
 |str (x:Str):Den K ad H (.str x) (.str x)
 |tup {a:Addr}{xs:List V}{ds:List D} (h:TupAt K H a xs) (r:Dens K ad H xs ds):Den K ad H (.ref a) (.tup ds)
 |lst {a:Addr}{i:Nat} (h:LA ad H i a):Den K ad H (.ref a) (.lst i)
 |dic {a:Addr}{i:Nat} (h:ad[i]?=aa a) (n:Yk H a):Den K ad H (.ref a) (.dic i)
 |dct {a:Addr}{kvs:List (Key×V)}{ks:List Str}{vs:List V}{ds:List D} (h:H a=aa (.dK kvs)) (hk:kvs=(ks.zip vs).map λp=>(Sum.inr p.1,p.2)) (nd:ks.Nodup/\ks≠[]) (hl:ks.length=vs.length) (r:Dens K ad H vs ds):Den K ad H (.ref a) (.dct ks ds)
 |obj {a dx:Addr}{i:Nat} (h:H a=aa (.ins (ClsTab.ca i) dx [])) (n:a∉ad):Den K ad H (.ref a) (.obj i)
 |kt {a:Addr}{ks:List Str}{o:Obj}{its:Array Value}{n:Nat} (l:K.lookup a=aa o) (c:o.cls=.type "tuple") (g:o.dict=ab) (e:o.data=.seq its n) (z:its.size<=ay) (r:Vals (ks.map V.str) its.toList):Den K ad H (.ref a) (.kt ks)
inductive Dens(K:Fg)(ad:List Addr)(H:Hp):List V->List D->Prop where
 |nil:Dens K ad H [] []
 |cons {v:V}{d:D}{vs:List V}{ds:List D} (h:Den K ad H v d) (r:Dens K ad H vs ds):Dens K ad H (v :: vs) (d :: ds)
end
structure Ext(ad:List Addr)(H:Hp)(ad':List Addr)(H':Hp):Prop where
 pre:∀ (i:Nat) (a:Addr),ad[i]?=aa a->ad'[i]?=aa a
 tup:∀ b xs,H b=aa (.tup xs)->H' b=aa (.tup xs)
 dk:∀ b kvs,H b=aa (.dK kvs)->H' b=aa (.dK kvs)
 keep:∀ b o,H b=aa o->b∉ad->H' b=aa o
 new:∀ b,b∈ad'->b∈ad\/H b=ab
 kd:∀ (i:Nat) (a:Addr),ad[i]?=aa a->(Yk H a↔Yk H' a)
def Ext.refl(a:Li Ad)(H:Hp):Ext a H a H:=⟨λ_ _ h=>h,λ_ _ h=>h,λ_ _ h=>h,λ_ _ h _=>h,λ_ h=>.inl h,λ_ _ _=>Iff.rfl⟩
theorem Ext.trans{d j g:Li Ad}{f l k:Hp}(x:Ext d f j l)(y:Ext j l g k):Ext d f g k:=by
 refine⟨λi a h=>y.pre i a (x.pre i a h),λb c h=>y.tup b c (x.tup b c h),λb c h=>y.dk b c (x.dk b c h),λb o h n=>?_,λb h=>?_,λi a h=>(x.kd i a h).trans (y.kd i a (x.pre i a h))⟩
 .refine y.keep b o (x.keep b o h n) λz=>?_
  rcases x.new b z with z|z
  .exact n z
  .rw[h]at z;cases z
 .rcases y.new b h with z|z
  .exact x.new b z
  .cases e:f b with
   |none=>exact .inr rfl
   |some o=>
    by_cases q:b∈d
    .exact .inl q
    .rw[x.keep b o e q]at z;cases z
variable{ad ad':Li Ad}{H':Hp}
def TupAt.mono{a:Ad}(x:Ext ad H ad' H')(h:TupAt K H a xs):TupAt K H' a xs:=h.imp (x.tup _ _) id
def TupAt.upd{K:Fg}{H:Hp}{a p:Ad}{b:Li V}{o d:HO}(c:H p=aa o)(e:∀ b,o≠.tup b)(h:TupAt K H a b):TupAt K (upd H p d) a b:=by
 rcases h with h|h
 .refine .inl ?_
  have n:a≠p:=λz=>by subst z;rw[h]at c;cases c;exact e _ rfl
  rw[upd_ne n];exact h
 .exact .inr h
variable{ks:Li Str}{vs ys:Li V}{d:D}{ds es:Li D}{i:Nat}{kvs kvs':Li (Li Key×V)}{st:Za}{p:Ad}{α:Type}{O:L2.St}{U:Env}
variable{K:Fg}{ad ad':Li Ad}{H H':Hp}
def Zfp(h:ks≠[])(a:ks.length=vs.length):(ks.zip vs).map (λp=>((Sum.inr p.1:Key),p.2))≠[]:=by
 cases ks with
 |nil=>exact au rfl h
 |cons k ks=>cases vs with
  |nil=>cases a
  |cons v vs=>exact fD _ _
structure Keeps(K:Fg)(ad ad':List Addr)(H H':Hp):Prop where
 t:∀ {a xs},TupAt K H a xs->TupAt K H' a xs
 l:∀ {i:Nat}{a:Addr},ad[i]?=aa a->ad'[i]?=aa a/\(Yk H a↔Yk H' a)
 k:∀ {a kvs},kvs≠[]->H a=aa (.dK kvs)->H' a=aa (.dK kvs)
 o:∀ {a C dx},H a=aa (.ins C dx [])->a∉ad->H' a=aa (.ins C dx [])/\a∉ad'
def Den.map(x:Keeps K ad ad' H H'){v:V}(h:Den K ad H v d):Den K ad' H' v d:=
 Den.rec (motive_1:=λv d _=>Den K ad' H' v d) (motive_2:=λvs ds _=>Dens K ad' H' vs ds) .non .bl .int .str (λh _ r=>.tup (x.t h) r) (λh=>.lst ⟨(x.l h.1).1,λz=>h.2 ((x.l h.1).2.mpr z)⟩) (λh n=>.dic (x.l h).1 ((x.l h).2.mp n)) (λh f c e _ r=>.dct (x.k (λz=>Zfp c.2 e (f.symm.trans z)) h) f c e r) (λh n=>.obj (x.o h n).1 (x.o h n).2) .kt .nil (λ_ _ a b=>.cons a b) h
theorem Dens.map(x:Keeps K ad ad' H H')(h:Dens K ad H vs ds):Dens K ad' H' vs ds:=
 Dens.rec (motive_1:=λ_ _ _=>True) (motive_2:=λvs ds _=>Dens K ad' H' vs ds) trivial (λ_=>trivial) (λ_=>trivial) (λ_=>trivial) (λ_ _ _=>trivial) (λ_=>trivial) (λ_ _=>trivial) (λ_ _ _ _ _ _=>trivial) (λ_ _=>trivial) (λ_ _ _ _ _ _=>trivial) .nil (λa _ _ b=>.cons (a.map x) b) h
def Ext.keeps(x:Ext ad H ad' H'):Keeps K ad ad' H H':=⟨λh=>h.mono x,λh=>⟨x.pre _ _ h,x.kd _ _ h⟩,λ_ h=>x.dk _ _ h,λh n=>⟨x.keep _ _ h n,λz=>(x.new _ z).elim n λq=>by rw[h]at q;cases q⟩⟩
def Den.mono(x:Ext ad H ad' H'){v:V}(h:Den K ad H v d):Den K ad' H' v d:=h.map x.keeps
def Dens.mono(x:Ext ad H ad' H')(h:Dens K ad H vs ds):Dens K ad' H' vs ds:=h.map x.keeps
def ZeE(x:∀ (i:Nat) (a:Ad),ad[i]?=aa a->ad'[i]?=aa a)(y:∀ b,b∈ad'->b∈ad\/∃ c,H b=aa (.lst c)):Keeps K ad ad' H H:=⟨id,λh=>⟨x _ _ h,Iff.rfl⟩,λ_ h=>h,λh n=>⟨h,λz=>(y _ z).elim n λ⟨c,q⟩=>by rw[h]at q;cases q⟩⟩
theorem Dens.length:∀ {vs:Li V}{ds:Li D},Dens K ad H vs ds->vs.length=ds.length
 |_,_,.nil=>rfl
 |_,_,.cons _ r=>av (·+1) (Dens.length r)
theorem Dens.get:∀ {vs:Li V}{ds:Li D}{i:Nat}{d:D},Dens K ad H vs ds->ds[i]?=aa d->∃ v,vs[i]?=aa v/\Den K ad H v d
 |_,_,_,_,.nil,e=>by simp at e
 |_,_,0,_,.cons h _,e=>by simp at e;subst e;exact⟨_,rfl,h⟩
 |_,_,i+1,d,.cons _ r,e=>by
  obtain⟨v,b,a⟩:=Dens.get (i:=i) (d:=d) r (by simpa using e)
  exact⟨v,by simpa using b,a⟩
theorem Dens.append:∀ {vs ws:Li V}{ds es:Li D},Dens K ad H vs ds->Dens K ad H ws es->Dens K ad H (vs++ws) (ds++es)
 |_,_,_,_,.nil,s=>s
 |_,_,_,_,.cons h r,s=>.cons h (Dens.append r s)
theorem Dens.take:∀ {vs:Li V}{ds:Li D} (n:Nat),Dens K ad H vs ds->Dens K ad H (vs.take n) (ds.take n)
 |_,_,0,_=>.nil
 |_,_,_+1,.nil=>.nil
 |_,_,n+1,.cons h r=>.cons h (Dens.take n r)
theorem Dens.drop:∀ {vs:Li V}{ds:Li D} (n:Nat),Dens K ad H vs ds->Dens K ad H (vs.drop n) (ds.drop n)
 |_,_,0,r=>r
 |_,_,_+1,.nil=>.nil
 |_,_,n+1,.cons _ r=>Dens.drop n r
theorem Dens.set{v:V}(h:Den K ad H v d):∀ {vs:Li V}{ds:Li D} (n:Nat),Dens K ad H vs ds->Dens K ad H (vs.set n v) (ds.set n d)
 |_,_,_,.nil=>.nil
 |_,_,0,.cons _ r=>.cons h r
 |_,_,n+1,.cons q r=>.cons q (Dens.set h n r)
theorem Dens.rep{v:V}(h:Den K ad H v d):∀ n:Nat,Dens K ad H (ag n v) (ag n d)
 |0=>.nil
 |n+1=>.cons h (Dens.rep h n)
def Den.ofInt{v:V}{i:Int}(h:Den K ad H v (.int i)):v=.int i:=by cases h;rfl
def Den.ofStr{v:V}{x:Str}(h:Den K ad H v (.str x)):v=.str x:=by cases h;rfl
def Den.ofBl{v:V}{b:Bool}(h:Den K ad H v (.bl b)):v=.bl b:=by cases h;rfl
def Den.ofDct{v:V}(h:Den K ad H v (.dct ks ds)):∃ a vs,v=.ref a/\H a=aa (.dK ((ks.zip vs).map λp=>(Sum.inr p.1,p.2)))/\ks.length=vs.length/\Dens K ad H vs ds:=by
 cases h with
 |dct h c d b r=>subst c;exact⟨_,_,rfl,h,b,r⟩
def Den.ofTup{v:V}(h:Den K ad H v (.tup ds)):∃ a b,v=.ref a/\TupAt K H a b/\Dens K ad H b ds:=by
 cases h with
 |tup h r=>exact⟨_,_,rfl,h,r⟩
def Den.ofLst{v:V}(h:Den K ad H v (.lst i)):∃ a,v=.ref a/\LA ad H i a:=by
 cases h with
 |lst h=>exact⟨_,rfl,h⟩
def Den.ofDic{v:V}(h:Den K ad H v (.dic i)):∃ a,v=.ref a/\ad[i]?=aa a/\Yk H a:=by
 cases h with
 |dic h n=>exact⟨_,rfl,h,n⟩
def Den.newL{a:Ad}(h:ad[i]?=aa a):Den K ad (upd H a (.lst xs)) (.ref a) (.lst i):=.lst ⟨h,WP upd_same λ_ z=>nomatch z⟩
def LA.mono{a:Ad}(x:Ext ad H ad' H')(h:LA ad H i a):LA ad' H' i a:=⟨x.pre _ _ h.1,λz=>h.2 ((x.kd _ _ h.1).mpr z)⟩
def Den.ofKt{v:V}(h:Den K ad H v (.kt ks)):∃ a o b n,v=.ref a/\K.lookup a=aa o/\(o.cls=.type "tuple"/\o.dict=ab)/\o.data=.seq b n/\b.size<=ay/\Vals (ks.map V.str) b.toList:=by
 cases h with
 |kt l c g e z r=>exact⟨_,_,_,_,rfl,l,⟨c,g⟩,e,z,r⟩
theorem Vo:∀ ks:Li Str,Dens K ad H (ks.map V.str) (ks.map D.str)
 |[]=>.nil
 |k :: ks=>.cons (.str k) (Vo ks)
def KL(K:Fg)(a:Ad)(b:Li V):Prop:=
 ∃ (o:Obj) (its:Array vL) (n:Nat),(K.lookup a=aa o/\o.cls=.type "list")/\(o.dict=ab/\o.data=.seq its n)/\its.size<=ay/\Vals b its.toList
inductive Ents(K:Fg)(ad:List Addr)(H:Hp):List (List Key×V)->List D->Prop where
 |nil:Ents K ad H [] []
 |cons {i j:Int}{v:V}{d:D}{kvs:List (List Key×V)}{ds:List D} (h:Den K ad H v d) (r:Ents K ad H kvs ds):Ents K ad H (([.inl i,.inl j],v) :: kvs) (.tup [.int i,.int j,d] :: ds)
theorem Ents.map(x:Keeps K ad ad' H H')(h:Ents K ad H kvs ds):Ents K ad' H' kvs ds:=by
 induction h with
 |nil=>exact .nil
 |cons h _ a=>exact .cons (h.map x) a
def Ents.mono(x:Ext ad H ad' H')(h:Ents K ad H kvs ds):Ents K ad' H' kvs ds:=h.map x.keeps
inductive CellOk(K:Fg)(ad:List Addr)(H:Hp)(a:Addr)(c:Y5):Prop where
 |l {xs:List V} (n:¬Yk H a) (r:Dens K ad H xs c.2) (h:(c.1=ae/\H a=aa (.lst xs))\/(c.1=af/\((∃ o,H a=aa (.frz o (.lst xs)))\/KL K a xs)))
 |d {kvs:List (List Key×V)} (r:Ents K ad H kvs c.2) (e:c.1=ae) (h:H a=aa (.dT kvs))
structure StOk(K:Fg)(ad:List Addr)(H:Hp)(st:Za):Prop where
 len:ad.length=st.length
 nd:∀ (i j:Nat) (a:Addr) (c d:List D),ad[i]?=aa a->ad[j]?=aa a->st[i]?=aa (ae,c)->st[j]?=aa (ae,d)->i=j
 cell:∀ (i:Nat) (c:Y5),st[i]?=aa c->∃ a,ad[i]?=aa a/\CellOk K ad H a c
def CellOk.sq{a:Ad}{c:Y5}(h:CellOk K ad H a c)(n:¬Yk H a):∃ f,Dens K ad H f c.2/\SqL K H a f:=by
 cases h with
 |l _ r h=>
  obtain⟨_,e⟩|⟨_,⟨o,e⟩|⟨o,b,n,⟨p,m⟩,⟨k,j⟩,i,g⟩⟩:=h
  .exact⟨_,r,.inl (.inl e)⟩
  .exact⟨_,r,.inl (.inr ⟨o,e⟩)⟩
  .exact⟨_,r,.inr ⟨o,b,n,p,m,k,j,i,g⟩⟩
 |d r e h=>exact au ⟨_,h⟩ n
def StOk.list{a:Ad}{b:Bool}(S:StOk K ad H st)(h:LA ad H i a)(e:st[i]?=aa (b,ds)):∃ d,Dens K ad H d ds/\SqL K H a d:=by
 obtain⟨g,f,c⟩:=S.cell i _ e;rw[h.1]at f;cases f
 exact c.sq h.2
def StOk.listM{a:Ad}(S:StOk K ad H st)(h:LA ad H i a)(e:st[i]?=aa (ae,ds)):∃ b,Dens K ad H b ds/\H a=aa (.lst b):=by
 obtain⟨g,f,c⟩:=S.cell i _ e;rw[h.1]at f;cases f
 cases c with
 |l _ r q=>
  obtain⟨_,q⟩|⟨q,_⟩:=q
  .exact⟨_,r,q⟩
  .cases q
 |d r _ q=>exact au ⟨_,q⟩ h.2
def StOk.dict{a:Ad}{b:Bool}(S:StOk K ad H st)(h:ad[i]?=aa a)(n:Yk H a)(e:st[i]?=aa (b,ds)):∃ kvs,Ents K ad H kvs ds/\H a=aa (.dT kvs)/\b=ae:=by
 obtain⟨g,f,c⟩:=S.cell i _ e;rw[h]at f;cases f
 cases c with
 |l z=>exact au n z
 |d r e q=>exact⟨_,r,q,e⟩
def W3{a:Ad}(b:¬Yk H p)(c:∀ kvs,o≠.dT kvs):Yk H a↔Yk (upd H p o) a:=by
 by_cases z:a=p
 .subst z
  exact⟨λq=>au q b,λq=>au q (WP upd_same c)⟩
 .unfold Yk
  rw[upd_ne z]
def QZ(a:H p=ab):¬Yk H p:=λ⟨_,z⟩=>by rw[a]at z;cases z
def Ext.laid(a:H p=ab)(d:∀ kvs,o≠.dT kvs:=by intro _ z;cases z):Ext ad H ad (upd H p o):=
 ⟨λ_ _ h=>h,λb c h=>by rw[upd_ne (ne_of_none h a)];exact h,λb c h=>by rw[upd_ne (ne_of_none h a)];exact h,λb o h _=>by rw[upd_ne (ne_of_none h a)];exact h,λ_ h=>.inl h,λ_ _ _=>W3 (QZ a) d⟩
def CellOk.laid{a:Ad}{c:Y5}(g:ad[i]?=aa a)(f:H p=ab)(x:Ext ad H ad' (upd H p o))(h:CellOk K ad H a c):CellOk K ad' (upd H p o) a c:=by
 cases h with
 |l n r h=>
  refine .l (λz=>n ((x.kd i a g).mpr z)) (r.mono x) ?_
  rcases h with⟨b,e⟩|⟨b,⟨o,e⟩|e⟩
  .exact .inl ⟨b,by rw[upd_ne (ne_of_none e f)];exact e⟩
  .exact .inr ⟨b,.inl ⟨o,by rw[upd_ne (ne_of_none e f)];exact e⟩⟩
  .exact .inr ⟨b,.inr e⟩
 |d r e h=>exact .d (r.mono x) e (by rw[upd_ne (ne_of_none h f)];exact h)
theorem StOk.laid(S:StOk K ad H st)(b:H p=ab)(d:∀ kvs,o≠.dT kvs:=by intro _ z;cases z):StOk K ad (upd H p o) st:=
 ⟨S.len,S.nd,λi c e=>let ⟨a,h,q⟩:=S.cell i c e;⟨a,h,q.laid h b (Ext.laid b d)⟩⟩
def XM{l:Li α}{x y:α}(h:(l++[x])[i]?=aa y):l[i]?=aa y\/(i=l.length/\y=x):=by
 by_cases a:i < l.length
 .rw[bS a]at h
  exact .inl h
 .rw[bE (by omega)]at h
  have:i - l.length=0:=by
   cases e:i - l.length with
   |zero=>rfl
   |succ k=>rw[e]at h;simp at h
  rw[this]at h;simp at h;exact .inr ⟨by omega,h.symm⟩
def Xp{l:Li α}{x y:α}(h:l[i]?=aa y):(l++[x])[i]?=aa y:=by
 rw[bS (bL.mp h).1];exact h
def Zu{l:Li α}{x:α}:(l++[x])[l.length]?=aa x:=by simp
def Ext.pushG(c:H p=ab)(e:∀ (i:Nat) (a:Ad),ad[i]?=aa a->(Yk H a↔Yk (upd H p o) a)):Ext ad H (ad++[p]) (upd H p o):=
 ⟨λ_ _ h=>Xp h,λb d h=>by rw[upd_ne (ne_of_none h c)];exact h,λb d h=>by rw[upd_ne (ne_of_none h c)];exact h,λb o h _=>by rw[upd_ne (ne_of_none h c)];exact h,λb h=>(bC.mp h).elim .inl λz=>.inr (by rw[aQ.mp z];exact c),e⟩
def Ext.push(a:H p=ab):Ext ad H (ad++[p]) (upd H p (.lst xs)):=Ext.pushG a λ_ _ _=>W3 (QZ a) λ_ z=>nomatch z
def StOk.more(S:StOk K ad H st)(o:∀ (i:Nat) (c:Li D),ad[i]?=aa p->st[i]?=aa (ae,c)->False)(u:∀ (i:Nat) (c:Y5) (a:Ad),ad[i]?=aa a->CellOk K ad H a c->CellOk K (ad++[p]) H' a c)(t:CellOk K (ad++[p]) H' p (ae,ds)):StOk K (ad++[p]) H' (st++[(ae,ds)]):=by
 have b:∀ (i:Nat) (c:Li D) (a:Ad),(ad++[p])[i]?=aa a->st[i]?=aa (ae,c)->ad[i]?=aa a:=λi c a h e=>by
  obtain⟨z,k,_⟩:=S.cell i _ e;have n:=Xp (x:=p) k;rw[h]at n;cases n;exact k
 refine⟨by rw[aG,aG,S.len];rfl,λi j a c d m l g f=>?_,λi c e=>?_⟩
 .rcases XM g with g|⟨v,_⟩
  .rcases XM f with f|⟨r,_⟩
   .exact S.nd i j a c d (b i c a m g) (b j d a l f) g f
   .have k:=b i c a m g
    rw[r,<-S.len,Zu]at l;cases l;exact(o i c k g).elim
  .rcases XM f with f|⟨r,_⟩
   .have s:=b j d a l f
    rw[v,<-S.len,Zu]at m;cases m;exact(o j d s f).elim
   .omega
 .rcases XM e with e|⟨y,w⟩
  .obtain⟨a,h,q⟩:=S.cell i c e
   exact⟨a,Xp h,u i c a h q⟩
  .subst w
   exact⟨p,by rw[y,<-S.len];exact Zu,t⟩
def StOk.noNew(S:StOk K ad H st)(a:H p=ab)(i:Nat)(c:Li D)(h:ad[i]?=aa p)(e:st[i]?=aa (ae,c)):False:=by
 obtain⟨f,b,q⟩:=S.cell i _ e;rw[h]at b;cases b
 cases q with
 |l _ _ q=>
  obtain⟨_,q⟩|⟨q,_⟩:=q
  .rw[a]at q;cases q
  .cases q
 |d _ _ q=>rw[a]at q;cases q
theorem StOk.push(S:StOk K ad H st)(a:H p=ab)(r:Dens K ad H xs ds):StOk K (ad++[p]) (upd H p (.lst xs)) (st++[(ae,ds)]):=
 S.more (S.noNew a) (λ_ _ _ h q=>q.laid h a (Ext.push a)) (.l (WP upd_same λ_ z=>nomatch z) (r.mono (Ext.push a)) (.inl ⟨rfl,upd_same⟩))
def StOk.wrG(S:StOk K ad H st)(kp:Keeps K ad ad H (upd H p o))(f:p∉ad):StOk K ad (upd H p o) st:=
 ⟨S.len,S.nd,λi c e=>by
  obtain⟨a,h,q⟩:=S.cell i c e;have ne:a≠p:=λz=>f (by rw[<-z];exact aX h)
  refine⟨a,h,?_⟩;cases q with
  |l n r q=>
   refine .l (λz=>n ((kp.l h).2.mpr z)) (r.map kp) ?_
   rcases q with⟨b,q⟩|⟨b,⟨o,q⟩|q⟩
   .exact .inl ⟨b,by rw[upd_ne ne];exact q⟩
   .exact .inr ⟨b,.inl ⟨o,by rw[upd_ne ne];exact q⟩⟩
   .exact .inr ⟨b,.inr q⟩
  |d r t q=>exact .d (r.map kp) t (by rw[upd_ne ne];exact q)⟩
def StOk.has{a:Ad}(S:StOk K ad H st)(b:ad[i]?=aa a):(∃ o,H a=aa o)\/∃ o,K.lookup a=aa o:=by
 obtain⟨h,c,q⟩:=S.cell i _ (Lg (show i < st.length by rw[<-S.len];exact(bL.mp b).1))
 rw[b]at c;cases c
 cases q with
 |l _ _ q=>
  obtain⟨_,q⟩|⟨_,⟨o,q⟩|⟨o,e,m,⟨f,g⟩,_⟩⟩:=q
  .exact .inl ⟨_,q⟩
  .exact .inl ⟨_,q⟩
  .exact .inr ⟨_,f⟩
 |d _ _ q=>exact .inl ⟨_,q⟩
def StOk.extD(S:StOk K ad H st)(b:H p=ab)(c:∀ o,K.lookup p≠aa o):Ext ad H (ad++[p]) (upd H p (.dT kvs)):=
 Ext.pushG b λi a h=>by
  have n:a≠p:=λz=>(S.has h).elim (λ⟨o,q⟩=>by rw[z,b]at q;cases q) λ⟨o,q⟩=>c o (z ▸ q)
  unfold Yk;rw[upd_ne n]
def StOk.pushD(S:StOk K ad H st)(a:H p=ab)(b:∀ o,K.lookup p≠aa o):StOk K (ad++[p]) (upd H p (.dT [])) (st++[(ae,[])]):=
 S.more (S.noNew a) (λ_ _ _ h q=>q.laid h a (S.extD a b)) (.d .nil rfl upd_same)
def StOk.adopt(S:StOk K ad H st)(a:H p=aa (.lst xs))(c:p∉ad)(r:Dens K ad H xs ds):StOk K (ad++[p]) H (st++[(ae,ds)]):=by
 have kp:Keeps K ad (ad++[p]) H H:=ZeE (λ_ _ h=>Xp h) (λb f=>(bC.mp f).imp id λz=>⟨xs,by rw[aQ.mp z];exact a⟩)
 exact S.more (λi _ h _=>c (aX h)) (λ_ _ _ _ q=>by
  cases q with
  |l n r h=>exact .l n (r.map kp) h
  |d r e h=>exact .d (r.map kp) e h) (.l (WP a λ_ z=>nomatch z) (r.map kp) (.inl ⟨rfl,a⟩))
def Ext.writeG{a:Ad}{d:HO}(h:H a=aa o)(i:a∈ad)(k:∀ c,o≠.tup c)(j:∀ c,o≠.dK c)(g:Yk H a↔Yk (upd H a d) a):Ext ad H ad (upd H a d):=
 ⟨λ_ _ h=>h,λb f e=>by rw[upd_ne (ne_of e h (λz=>k _ z.symm))];exact e,λb f e=>by rw[upd_ne (ne_of e h (λz=>j _ z.symm))];exact e,λb o e n=>by rw[upd_ne (show b≠a from λz=>n (by rw[z];exact i))];exact e,λ_ h=>.inl h,λ_ b _=>by
  by_cases z:b=a
  .rw[z];exact g
  .unfold Yk;rw[upd_ne z]⟩
def Ext.write{a:Ad}(h:H a=aa (.lst xs))(b:a∈ad):Ext ad H ad (upd H a (.lst ys)):=
 Ext.writeG h b (λ_ z=>nomatch z) (λ_ z=>nomatch z) ⟨λz=>au z (WP h λ_ z=>nomatch z),λz=>au z (WP upd_same λ_ z=>nomatch z)⟩
def StOk.writeG{a:Ad}{g:HO}(S:StOk K ad H st)(h:ad[i]?=aa a)(e:st[i]?=aa (ae,ds))(y:H a=aa o)(B:∀ q u,o≠.frz q u)(x:Ext ad H ad (upd H a g))(r:CellOk K ad (upd H a g) a (ae,es)) :
  StOk K ad (upd H a g) (st.set i (ae,es)):=by
 have A:i < st.length:=(bL.mp e).1;refine⟨by rw[bO];exact S.len,λj k b c d E C s p=>?_,λj c q=>?_⟩
 .have up:∀ (j:Nat) (c:Li D),(st.set i (ae,es))[j]?=aa (ae,c)->∃ v,st[j]?=aa (ae,v):=λj c q=>by
   by_cases z:i=j
   .subst z;exact⟨_,e⟩
   .rw[bR z]at q;exact⟨_,q⟩
  obtain⟨v,s⟩:=up j c s;obtain⟨F,p⟩:=up k d p;exact S.nd j k b v F E C s p
 .by_cases z:i=j
  .subst z
   rw[bM A]at q;cases q;exact⟨a,h,r⟩
  .rw[bR z]at q
   obtain⟨b,m,hz⟩:=S.cell j c q;refine⟨b,m,?_⟩;have ne:c.1=ae->b≠a:=λt w=>by
    obtain⟨I,G⟩:=c;cases (show I=ae from t)
    exact z (S.nd i j a ds G h (w ▸ m) e q)
   cases hz with
   |l n f hz=>
    refine .l (λz=>n ((x.kd j b m).mpr z)) (f.mono x) ?_
    rcases hz with⟨t,hz⟩|⟨t,⟨o,hz⟩|hz⟩
    .exact .inl ⟨t,by rw[upd_ne (ne t)];exact hz⟩
    .exact .inr ⟨t,.inl ⟨o,by rw[upd_ne (ne_of hz y (λz=>B _ _ z.symm))];exact hz⟩⟩
    .exact .inr ⟨t,.inr hz⟩
   |d f t hz=>exact .d (f.mono x) t (by rw[upd_ne (ne t)];exact hz)
theorem StOk.write{a:Ad}(S:StOk K ad H st)(h:LA ad H i a)(e:st[i]?=aa (ae,ds))(b:H a=aa (.lst xs))(r:Dens K ad H ys es) :
  StOk K ad (upd H a (.lst ys)) (st.set i (ae,es)):=
 S.writeG h.1 e b (λ_ _ z=>nomatch z) (Ext.write b (aX h.1)) (.l (WP upd_same λ_ z=>nomatch z) (r.mono (Ext.write b (aX h.1))) (.inl ⟨rfl,upd_same⟩))
def Ext.writeD{a:Ad}(h:H a=aa (.dT kvs))(b:a∈ad):Ext ad H ad (upd H a (.dT kvs')):=
 Ext.writeG h b (λ_ z=>nomatch z) (λ_ z=>nomatch z) ⟨λ_=>⟨_,upd_same⟩,λ_=>⟨_,h⟩⟩
theorem StOk.writeD{a:Ad}(S:StOk K ad H st)(h:ad[i]?=aa a)(e:st[i]?=aa (ae,ds))(b:H a=aa (.dT kvs))(r:Ents K ad H kvs' es) :
  StOk K ad (upd H a (.dT kvs')) (st.set i (ae,es)):=
 S.writeG h e b (λ_ _ z=>nomatch z) (Ext.writeD b (aX h)) (.d (r.mono (Ext.writeD b (aX h))) rfl upd_same)
structure EnvOk(K:Fg)(ad:List Addr)(H:Hp)(O:L2.St)(U:Env):Prop where
 len:O.length=U.length
 at_:∀ (i:Nat) (d:D),U[i]?=aa (aa d)->∃ v,O[i]?=aa (aa v)/\Den K ad H v d
theorem EnvOk.mono(x:Ext ad H ad' H')(h:EnvOk K ad H O U):EnvOk K ad' H' O U:=⟨h.len,λi d e=>let ⟨v,e1,e2⟩:=h.at_ i d e;⟨v,e1,e2.mono x⟩⟩
theorem EnvOk.set{v:V}(h:EnvOk K ad H O U)(i:Nat)(r:Den K ad H v d):EnvOk K ad H (O.set i (aa v)) (Zk U i d):=by
 refine⟨by unfold Zk;rw[bO,bO];exact h.len,λj e q=>?_⟩
 unfold Zk at q;by_cases z:i=j
 .subst z
  by_cases a:i < U.length
  .rw[bM a]at q
   cases q;exact⟨v,by rw[bM (by rw[h.len];exact a)],r⟩
  .rw[dF (by rw[bO];omega)]at q
   cases q
 .rw[bR z]at q
  obtain⟨w,c,b⟩:=h.at_ j e q;exact⟨w,by rw[bR z];exact c,b⟩
def Post(K:Fg)(ad:Li Ad)(H:Hp)(d:D)(a:Za)(Q:VK):Prop:=∀ v ad' H',Ext ad H ad' H'->StOk K ad' H' a->Den K ad' H' v d->Q v H'
def tE(K:Fg)(f:Env->Za->Res):TE:=λO H Q=>∃ ad U st d a,EnvOk K ad H O U/\StOk K ad H st/\f U st=aa (d,a)/\Post K ad H d a Q
def tT(K:Fg)(f:Env->Za->Res):TT:=λO H Q=>∃ ad U st k a,EnvOk K ad H O U/\StOk K ad H st/\f U st=aa (.bl k,a)/\∀ ad' H',Ext ad H ad' H'->StOk K ad' H' a->Q k H'
def tA(K:Fg)(f:Env->Za->Res):TA:=λO H Q=>∃ ad U st ds a,EnvOk K ad H O U/\StOk K ad H st/\f U st=aa (.tup ds,a)/\∀ vs ad' H',Ext ad H ad' H'->StOk K ad' H' a->Dens K ad' H' vs ds->Q vs H'
def rD(K:Fg)(f:D->D->Za->Res):R2:=λx y H Q=>∃ ad st c b d a,StOk K ad H st/\Den K ad H x c/\Den K ad H y b/\f c b st=aa (d,a)/\Post K ad H d a Q
noncomputable def spD(K:Fg)(g:Fn):Sp:=λvs H Q _=>∃ ad ds st d a,StOk K ad H st/\Dens K ad H vs ds/\g ds st=aa (d,a)/\Post K ad H d a Q
def tS(K:Fg)(f:Env->Za->Ot (Fl×Za)):TS:=λD O H=>∃ ad U st r a,EnvOk K ad H O U/\StOk K ad H st/\f U st=aa (r,a) /\
 match r with
 |.nx U'=>∀ b ad' H',Ext ad H ad' H'->StOk K ad' H' a->EnvOk K ad' H' b U'->D.nx b H'
 |.bk U'=>∀ b ad' H',Ext ad H ad' H'->StOk K ad' H' a->EnvOk K ad' H' b U'->D.bk b H'
 |.ct U'=>∀ b ad' H',Ext ad H ad' H'->StOk K ad' H' a->EnvOk K ad' H' b U'->D.ct b H'
 |.rt d=>Post K ad H d a D.rt
def Post.at{Q:VK}(p:Post K ad H d st Q)(S:StOk K ad H st){v:V}(h:Den K ad H v d):Q v H:=p v ad H (Ext.refl _ _) S h
def Post.later{Q:VK}(p:Post K ad H d st Q)(x:Ext ad H ad' H'):Post K ad' H' d st Q:=λv a b y S h=>p v a b (x.trans y) S h
variable [ClsTab]
variable{x:D}{st':Za}
variable{X:Cx}
section
variable{a b c:az}{fa fb fc:Ev}{pos:Pos}
def ZcA(O:L2.St)(H:Hp)(Q:VK)(h:tE K (Z4 i) O H Q):tVar i O H Q:=by
 obtain⟨ad,U,st,d,st',E,S,e,p⟩:=h;unfold Z4 at e;split at e
 .rename_i q
  obtain⟨v,b,a⟩:=E.at_ i _ q;cases e;exact⟨v,b,p.at S a⟩
 .exact Zb e
def Ur{v:V}(hd:∀ ad H,Den K ad H v d)(O:L2.St)(H:Hp)(Q:VK)(h:tE K (evC d) O H Q):tC v O H Q:=by
 obtain⟨ad,U,st,a,st',E,S,e,p⟩:=h;cases e;exact p.at S (hd _ _)
def VF{g:D->D->Za->Res}(O:L2.St)(H:Hp)(Q:VK)(h:tE K (ZE fa fb g) O H Q):tOp (rD K g) (tE K fa) (tE K fb) O H Q:=by
 obtain⟨ad,U,st,d,st',E,S,e,p⟩:=h;unfold ZE at e;split at e
 .rename_i x b l
  split at e
  .rename_i y a k
   refine⟨ad,U,st,x,b,E,S,l,λs f u j q n=>⟨f,U,b,y,a,E.mono j,q,k,λr c t i o m=>?_⟩⟩
   exact⟨c,a,x,y,d,st',o,n.mono i,m,e,p.later (j.trans i)⟩
  .exact Zb e
 .exact Zb e
def rU1(K:Fg)(g:D->Za->Res):V->Hp->VK->Prop:=λx H Q=>∃ ad st a d st',StOk K ad H st/\Den K ad H x a/\g a st=aa (d,st')/\Post K ad H d st' Q
def ZaA{g:D->Za->Res}(O:L2.St)(H:Hp)(Q:VK)(h:tE K (Zl fa g) O H Q):tUn (rU1 K g) (tE K fa) O H Q:=by
 obtain⟨ad,U,st,d,st',E,S,e,p⟩:=h;unfold Zl at e;split at e
 .rename_i x a f
  exact⟨ad,U,st,x,a,E,S,f,λk b l c j i=>⟨b,a,x,d,st',j,i,e,p.later c⟩⟩
 .exact Zb e
def Zaz(O:L2.St)(H:Hp)(Q:Bool->Hp->Prop)(h:tT K fa O H Q):tE K fa O H λx d=>∃ c,x=.bl c/\Q c d:=by
 obtain⟨ad,U,st,k,st',E,S,e,p⟩:=h;exact⟨ad,U,st,.bl k,st',E,S,e,λv ad' H' x b a=>⟨k,a.ofBl,p ad' H' x b⟩⟩
def Yf{a b:Ev}{r:D×Za}(h:Xf fc a b U st=aa r):∃ k st1,fc U st=aa (.bl k,st1)/\(if k=ae then a U st1 else b U st1)=aa r:=by
 unfold Xf at h;split at h
 .rename_i st1 q
  exact⟨ae,st1,q,by rw[aq rfl];exact h⟩
 .rename_i st1 q
  exact⟨af,st1,q,by rw[ar Bf];exact h⟩
 .exact Zb h
def Zey(O:L2.St)(H:Hp)(Q:VK)(h:tE K (Xf fc fa fb) O H Q):tIf (tT K fc) (tE K fa) (tE K fb) O H Q:=by
 obtain⟨ad,U,st,d,st',E,S,e,p⟩:=h;obtain⟨k,a,q,e⟩:=Yf e;refine⟨ad,U,st,k,a,E,S,q,λb g c f=>?_⟩
 cases k with
 |true=>
  rw[aq rfl]at e ⊢;exact⟨b,U,a,d,st',E.mono c,f,e,p.later c⟩
 |false=>
  rw[ar Bf]at e ⊢;exact⟨b,U,a,d,st',E.mono c,f,e,p.later c⟩
def Zaj(O:L2.St)(H:Hp)(Q:VK)(h:tE K (Xf fa fb (evC (.bl af))) O H Q):tAndV (tE K fa) (tE K fb) O H Q:=by
 obtain⟨ad,U,st,d,st',E,S,e,p⟩:=h;obtain⟨k,a,q,e⟩:=Yf e;refine⟨ad,U,st,.bl k,a,E,S,q,λi c j b f g=>⟨k,g.ofBl,?_⟩⟩
 cases k with
 |true=>
  rw[aq rfl]at e ⊢;exact⟨c,U,a,d,st',E.mono b,f,e,p.later b⟩
 |false=>
  rw[ar Bf]at e ⊢;cases e;exact(p.later b).at f (.bl af)
def Zct(O:L2.St)(H:Hp)(Q:VK)(h:tE K (Xf fa (evC (.bl ae)) fb) O H Q):tOrV (tE K fa) (tE K fb) O H Q:=by
 obtain⟨ad,U,st,d,st',E,S,e,p⟩:=h;obtain⟨k,a,q,e⟩:=Yf e;refine⟨ad,U,st,.bl k,a,E,S,q,λi c j b f g=>⟨k,g.ofBl,?_⟩⟩
 cases k with
 |true=>
  rw[aq rfl]at e ⊢;cases e;exact(p.later b).at f (.bl ae)
 |false=>
  rw[ar Bf]at e ⊢;exact⟨c,U,a,d,st',E.mono b,f,e,p.later b⟩
def Zai(O:L2.St)(H:Hp)(Q:Bool->Hp->Prop)(h:tT K (Xf fa fb (evC (.bl af))) O H Q):tAnd (tT K fa) (tT K fb) O H Q:=by
 obtain⟨ad,U,st,d,st',E,S,e,p⟩:=h;obtain⟨k,a,q,e⟩:=Yf e;refine⟨ad,U,st,k,a,E,S,q,λb m c g=>?_⟩
 cases k with
 |true=>
  rw[aq rfl]at e ⊢;exact⟨b,U,a,d,st',E.mono c,g,e,λf l i j=>p f l (c.trans i) j⟩
 |false=>
  rw[ar Bf]at e ⊢;cases e;exact p b m c g
def Zcs(O:L2.St)(H:Hp)(Q:Bool->Hp->Prop)(h:tT K (Xf fa (evC (.bl ae)) fb) O H Q):tOr (tT K fa) (tT K fb) O H Q:=by
 obtain⟨ad,U,st,d,st',E,S,e,p⟩:=h;obtain⟨k,a,q,e⟩:=Yf e;refine⟨ad,U,st,k,a,E,S,q,λb m c g=>?_⟩
 cases k with
 |true=>
  rw[aq rfl]at e ⊢;cases e;exact p b m c g
 |false=>
  rw[ar Bf]at e ⊢;exact⟨b,U,a,d,st',E.mono c,g,e,λf l i j=>p f l (c.trans i) j⟩
def Zau(O:L2.St)(H:Hp)(Q:Bool->Hp->Prop)(h:tT K (Zl fa ZaX) O H Q):tNot (tT K fa) O H Q:=by
 obtain⟨ad,U,st,d,st',E,S,e,p⟩:=h;unfold Zl at e;split at e
 .rename_i x a f
  cases x with
  |bl k=>
   cases (show aa (D.bl (!k),a)=_ from e)
   exact⟨ad,U,st,k,_,E,S,f,λb i c g=>p b i c g⟩
  |_=>simp[ZaX]at e
 .exact Zb e
def Zav(O:L2.St)(H:Hp)(Q:VK)(h:tE K (Zl fa ZaX) O H Q):tNotV (tE K fa) O H Q:=by
 obtain⟨ad,U,st,d,st',E,S,e,p⟩:=h;unfold Zl at e;split at e
 .rename_i x a c
  cases x with
  |bl k=>
   cases (show aa (D.bl (!k),a)=_ from e)
   exact⟨ad,U,st,.bl k,_,E,S,c,λj g l b i f=>⟨k,f.ofBl,(p.later b).at i (.bl _)⟩⟩
  |_=>simp[ZaX]at e
 .exact Zb e
def WG(O:L2.St)(H:Hp)(Q:Li V->Hp->Prop)(h:tA K (evC (.tup [])) O H Q):tNil O H Q:=by
 obtain⟨ad,U,st,d,st',E,S,e,p⟩:=h;cases e;exact p [] ad H (Ext.refl _ _) S .nil
def Vj(O:L2.St)(H:Hp)(Q:Li V->Hp->Prop)(h:tA K (ZE fa fb WE) O H Q):tCons (tE K fa) (tA K fb) O H Q:=by
 obtain⟨ad,U,st,d,st',E,S,e,p⟩:=h;unfold ZE at e;split at e
 .rename_i x a l
  split at e
  .rename_i y c k
   cases y with
   |tup b=>
    have e:(if b.length < 1000 then aa (D.tup (x :: b),c) else ab)=aa (D.tup d,st'):=e
    split at e
    .cases e
     refine⟨ad,U,st,_,a,E,S,l,λt g u j q n=>⟨g,U,a,b,_,E.mono j,q,k,λs f r i o m=>?_⟩⟩
     exact p _ f r (j.trans i) o (.cons (n.mono i) m)
    .cases e
   |_=>simp[WE]at e
  .cases e
 .cases e
def Zcz(i:∀ U st ds st',fa U st=aa (.tup ds,st')->ds.length<=1000)(g:∀ U st d st',fa U st=aa (d,st')->∃ ds,d=.tup ds)(O:L2.St)(H:Hp)(Q:VK)(h:tE K fa O H Q):tTup (tA K fa) O H Q:=by
 obtain⟨ad,U,st,d,st',E,S,e,p⟩:=h;obtain⟨ds,rfl⟩:=g _ _ _ _ e;refine⟨ad,U,st,ds,st',E,S,e,λvs b k f j c=>⟨?_,λq a=>?_⟩⟩
 .rw[c.length]
  exact aK (i _ _ _ _ e) (by decide)
 .exact p _ b _ (f.trans (Ext.laid a)) (j.laid a) (.tup (.inl upd_same) (c.mono (Ext.laid a)))
def Zcq(k:∀ U st ds st',fa U st=aa (.tup ds,st')->ds.length<=1000)(O:L2.St)(H:Hp)(Q:VK)(h:tE K (Zl fa ZaP) O H Q):tLst (tA K fa) O H Q:=by
 obtain⟨ad,U,st,d,st',E,S,e,p⟩:=h;unfold Zl at e;split at e
 .rename_i x a c
  cases x with
  |tup ds=>
   cases (show aa (D.lst a.length,a++[(ae,ds)])=_ from e)
   refine⟨ad,U,st,ds,_,E,S,c,λvs b l j i g=>⟨?_,λq f=>?_⟩⟩
   .rw[g.length]
    exact aK (k _ _ _ _ c) (by decide)
   .refine p _ (b++[q]) _ (j.trans (Ext.push f)) (i.push f g) (.newL ?_)
    rw[<-i.len];exact Zu
  |_=>simp[ZaP]at e
 .exact Zb e
def Us{g:Fn}{a:Li V}{E:XK}(hd:∀ ad H,Dens K ad H a ds)(O:L2.St)(H:Hp)(Q:VK)(h:tE K (Zl fa (XG g ds)) O H Q):tCall (spD K g) a E (tA K fa) O H Q:=by
 obtain⟨ad,U,st,d,st',E,S,e,p⟩:=h;unfold Zl at e;split at e
 .rename_i x i j
  cases x with
  |tup c=>exact⟨ad,U,st,c,_,E,S,j,λvs b m f l k=>⟨b,c++ds,_,d,st',l,k.append (hd _ _),e,p.later f⟩⟩
  |_=>simp[XG]at e
 .exact Zb e
def rC(K:Fg)(g:Li D->Za->Res):Li V->Hp->VK->Prop:=λvs H Q=>∃ ad st ds d st',StOk K ad H st/\Dens K ad H vs ds/\g ds st=aa (d,st')/\Post K ad H d st' Q
noncomputable def on1(g:D->Za->Res):Li D->Za->Res
 |[x],st=>g x st
 |_,_=>ab
def Xj{g:D->Za->Res}(O:L2.St)(H:Hp)(Q:VK)(h:tE K (Zl fa g) O H Q):tCB (rC K (on1 g)) (tCons (tE K fa) tNil) O H Q:=by
 obtain⟨ad,U,st,d,st',E,S,e,p⟩:=h;unfold Zl at e;split at e
 .rename_i x a f
  exact⟨ad,U,st,x,a,E,S,f,λk b l c j i=>⟨b,a,[x],d,st',j,.cons i .nil,e,p.later c⟩⟩
 .exact Zb e
def tO(K:Fg)(f:Ev):TO:=λO H Q=>∃ ad U st d st',EnvOk K ad H O U/\StOk K ad H st/\f U st=aa (d,st') /\
 ((d=.non/\∀ ad' H',Ext ad H ad' H'->StOk K ad' H' st'->Q ab H')\/∃ i,d=.int i/\∀ ad' H',Ext ad H ad' H'->StOk K ad' H' st'->Q (aa i) H')
def rSl(K:Fg):V->Ot Int->Ot Int->Hp->VK->Prop:=λx lo b H Q=>∃ ad st a d st',StOk K ad H st/\Den K ad H x a/\Yh a lo b st=aa (d,st')/\Post K ad H d st' Q
noncomputable def part:D->Ot (Ot Int)
 |.non=>aa ab
 |.int i=>aa (aa i)
 |_=>ab
def VY{l h:D}{r:D×Za}(e:Yy x l h st=aa r):∃ lo a,part l=aa lo/\part h=aa a/\Yh x lo a st=aa r:=by
 unfold Yy at e;split at e
 .exact⟨_,_,rfl,rfl,e⟩
 .exact⟨_,_,rfl,rfl,e⟩
 .exact⟨_,_,rfl,rfl,e⟩
 .exact⟨_,_,rfl,rfl,e⟩
 .exact Zb e
def Zd0{f:Ev}{Q:Ot Int->Hp->Prop}{o:Ot Int}(E:EnvOk K ad H O U)(S:StOk K ad H st)(e:f U st=aa (d,st'))(po:part d=aa o)(q:∀ ad' H',Ext ad H ad' H'->StOk K ad' H' st'->Q o H'):tO K f O H Q:=by
 refine⟨ad,U,st,d,st',E,S,e,?_⟩;cases d with
 |non=>cases po;exact .inl ⟨rfl,q⟩
 |int i=>cases po;exact .inr ⟨i,rfl,q⟩
 |_=>exact Zb po
def Jr(O:L2.St)(H:Hp)(Q:VK)(h:tE K (Yl fa fb fc Yy) O H Q):tSl (rSl K) (tE K fa) (tO K fb) (tO K fc) O H Q:=by
 obtain⟨ad,U,st,d,st',E,S,e,p⟩:=h;unfold Yl at e;split at e
 .rename_i x f m
  split at e
  .rename_i y j l
   split at e
   .rename_i z c k
    obtain⟨lo,A,n,o,e⟩:=VY e;refine⟨ad,U,st,x,f,E,S,m,λw s D b v q=>Zd0 (E.mono b) v l n λr C a u=>Zd0 (E.mono (b.trans a)) u k o λg B i t=>?_⟩
    exact⟨g,c,x,d,st',t,q.mono (a.trans i),e,p.later (b.trans (a.trans i))⟩
   .exact Zb e
  .exact Zb e
 .exact Zb e
def Zcr(O:L2.St)(H:Hp)(Q:Ot Int->Hp->Prop)(h:tO K (evC .non) O H Q):tNoPart O H Q:=by
 obtain⟨ad,U,st,d,st',E,S,e,p⟩:=h;cases e;rcases p with⟨_,p⟩|⟨i,z,_⟩
 .exact p ad H (Ext.refl _ _) S
 .cases z
end
variable [ClsTab]
def PostS(K:Fg)(ad:Li Ad)(H:Hp)(r:Fl)(st':Za)(D:Ends):Prop:=match r with
 |.nx U'=>∀ a ad' H',Ext ad H ad' H'->StOk K ad' H' st'->EnvOk K ad' H' a U'->D.nx a H'
 |.bk U'=>∀ a ad' H',Ext ad H ad' H'->StOk K ad' H' st'->EnvOk K ad' H' a U'->D.bk a H'
 |.ct U'=>∀ a ad' H',Ext ad H ad' H'->StOk K ad' H' st'->EnvOk K ad' H' a U'->D.ct a H'
 |.rt d=>Post K ad H d st' D.rt
theorem PostS.later{r:Fl}{D:Ends}(x:Ext ad H ad' H')(p:PostS K ad H r st D):PostS K ad' H' r st D:=by
 cases r with
 |nx U=>exact λa b c y S E=>p a b c (x.trans y) S E
 |bk U=>exact λa b c y S E=>p a b c (x.trans y) S E
 |ct U=>exact λa b c y S E=>p a b c (x.trans y) S E
 |rt d=>exact Post.later p x
def ZX{f:Ex}{D:Ends}{r:Fl}(E:EnvOk K ad H O U)(S:StOk K ad H st)(e:f U st=aa (r,st'))(p:PostS K ad H r st' D):tS K f D O H:=by
 refine⟨ad,U,st,r,st',E,S,e,?_⟩;cases r<;>exact p
def ZV{f:Ex}{D:Ends}(h:tS K f D O H):∃ ad U st r st',EnvOk K ad H O U/\StOk K ad H st/\f U st=aa (r,st')/\PostS K ad H r st' D:=by
 obtain⟨ad,U,st,r,st',E,S,e,p⟩:=h;refine⟨ad,U,st,r,st',E,S,e,?_⟩;cases r<;>exact p
variable{j l m:Nat}{E:Ends}{st1:Za}{B:D->Env->Za->Ot (Fl×Za)}
section
variable{f g:Ex}{fe fi fk:Ev}
def Uu(D:Ends)(O:L2.St)(H:Hp)(h:tS K (λU st=>aa (.nx U,st)) D O H):tNext D O H:=by
 obtain⟨ad,U,st,r,st',E,S,e,p⟩:=ZV h;cases e;exact p O ad H (Ext.refl _ _) S E
def Zck(D:Ends)(O:L2.St)(H:Hp)(h:tS K (λU st=>aa (.bk U,st)) D O H):tBreak D O H:=by
 obtain⟨ad,U,st,r,st',E,S,e,p⟩:=ZV h;cases e;exact p O ad H (Ext.refl _ _) S E
def Zal(D:Ends)(O:L2.St)(H:Hp)(h:tS K (λU st=>aa (.ct U,st)) D O H):tCont D O H:=by
 obtain⟨ad,U,st,r,st',E,S,e,p⟩:=ZV h;cases e;exact p O ad H (Ext.refl _ _) S E
def Zcy(D:Ends)(O:L2.St)(H:Hp)(h:tS K (YZ f g) D O H):tSeq (tS K f) (tS K g) D O H:=by
 obtain⟨ad,U,st,r,st',E,S,e,p⟩:=ZV h;unfold YZ at e;split at e
 .rename_i a st1 q
  exact ZX E S q λb i l c j k=>ZX k j e (p.later c)
 .rename_i q
  refine ZX E S e ?_;cases r with
  |nx a=>exact au e (q a st')
  |bk a=>exact p
  |ct a=>exact p
  |rt d=>exact p
def Zcw(D:Ends)(O:L2.St)(H:Hp)(h:tS K (Qm fe) D O H):tRet (tE K fe) D O H:=by
 obtain⟨ad,U,st,r,st',E,S,e,p⟩:=ZV h;unfold Qm at e;split at e
 .rename_i d st1 q
  cases e;exact⟨ad,U,st,d,_,E,S,q,p⟩
 .exact Zb e
def VG(D:Ends)(O:L2.St)(H:Hp)(h:tS K (VX i fe) D O H):tAsg (tE K fe) (gName i) D O H:=by
 obtain⟨ad,U,st,r,st',E,S,e,p⟩:=ZV h;unfold VX at e;split at e
 .rename_i d st1 q
  cases e;exact⟨ad,U,st,d,_,E,S,q,λv a g b f c=>p _ a g b f ((E.mono b).set i c)⟩
 .exact Zb e
def Zax(D:Ends)(O:L2.St)(H:Hp)(h:tS K (WZ i j fe) D O H):tAsg (tE K fe) (gTup K 2 (gCons (gName i) (gCons (gName j) gNil))) D O H:=by
 obtain⟨ad,U,st,r,st',E,S,e,p⟩:=ZV h;unfold WZ at e;split at e
 .rename_i x y st1 q
  cases e;refine⟨ad,U,st,_,_,E,S,q,λv c l d k b=>?_⟩
  obtain⟨a,vs,rfl,f,rv⟩:=b.ofTup;cases rv with
  |cons b rv=>
   cases rv with
   |cons g rv=>
    cases rv;exact⟨a,_,rfl,(f).sq,rfl,_,_,rfl,_,_,rfl,rfl,p _ c l d k (((E.mono d).set i b).set j g)⟩
 .exact Zb e
def Zay(D:Ends)(O:L2.St)(H:Hp)(h:tS K (UL i j l fe) D O H):tAsg (tE K fe) (gTup K 3 (gCons (gName i) (gCons (gName j) (gCons (gName l) gNil)))) D O H:=by
 obtain⟨ad,U,st,r,st',E,S,e,p⟩:=ZV h;unfold UL at e;split at e
 .rename_i x y z st1 q
  cases e;refine⟨ad,U,st,_,_,E,S,q,λv c n d m b=>?_⟩
  obtain⟨a,vs,rfl,f,rv⟩:=b.ofTup;cases rv with
  |cons b rv=>
   cases rv with
   |cons k rv=>
    cases rv with
    |cons g rv=>
     cases rv;exact⟨a,_,rfl,(f).sq,rfl,_,_,rfl,_,_,rfl,_,_,rfl,rfl,p _ c n d m ((((E.mono d).set i b).set j k).set l g)⟩
 .exact Zb e
def Zci(D:Ends)(O:L2.St)(H:Hp)(h:tS K (Zee fe) D O H):tDrop (tE K fe) D O H:=by
 obtain⟨ad,U,st,r,st',E,S,e,p⟩:=ZV h;unfold Zee at e;split at e
 .rename_i d st1 q
  cases e;exact⟨ad,U,st,d,_,E,S,q,λv a f b c g=>p _ a f b c (E.mono b)⟩
 .exact Zb e
def Zcp(D:Ends)(O:L2.St)(H:Hp)(h:tS K (Yb fe f g) D O H):tIfS (tT K fe) (tS K f) (tS K g) D O H:=by
 obtain⟨ad,U,st,r,st',E,S,e,p⟩:=ZV h;unfold Yb at e;split at e
 .rename_i st1 q
  refine⟨ad,U,st,ae,st1,E,S,q,λb d a c=>?_⟩
  dsimp only;rw[aq rfl];exact ZX (E.mono a) c e (p.later a)
 .rename_i st1 q
  refine⟨ad,U,st,af,st1,E,S,q,λb d a c=>?_⟩
  dsimp only;rw[ar Bf];exact ZX (E.mono a) c e (p.later a)
 .exact Zb e
def W0{a:Ad}(S:StOk K ad H st)(h:LA ad H i a):∃ b ds,st[i]?=aa (b,ds):=by
 have c:i < st.length:=by rw[<-S.len];exact(bL.mp h.1).1
 exact⟨st[i].1,st[i].2,by rw[Lg c]⟩
def QF{c:Za}{a:Ad}{v:V}(S:StOk K ad H st)(h:LA ad H i a)(hd:Den K ad H v d)(e:JT i d st=aa c) :
  ∃ b,H a=aa (.lst b)/\b.length < ay/\Ext ad H ad (upd H a (.lst (b++[v])))/\StOk K ad (upd H a (.lst (b++[v]))) c:=by
 unfold JT at e;split at e
 .rename_i ds q
  split at e
  .rename_i g
   cases e;obtain⟨b,r,f⟩:=S.listM h q;refine⟨b,f,?_,Ext.write f (aX h.1),S.write h q f (r.append (.cons hd .nil))⟩;rw[r.length];exact aW g (by decide)
  .exact Zb e
 .exact Zb e
def Zcj(D:Ends)(O:L2.St)(H:Hp)(h:tS K (JV i fe) D O H):tDrop (tBM K "list" rAppend (tVar i) (tCons (tE K fe) tNil)) D O H:=by
 obtain⟨ad,U,st,r,st',E,S,e,p⟩:=ZV h;unfold JV at e;split at e
 .rename_i a q
  split at e
  .rename_i d st1 o
   split at e
   .rename_i m n
    cases e;obtain⟨v,y,x⟩:=E.at_ i _ q;obtain⟨l,rfl,f⟩:=x.ofLst;obtain⟨b,ds,u⟩:=W0 S f;obtain⟨k,_,sq⟩:=S.list f u;refine⟨_,y,.inl ⟨rfl,k,sq⟩,ad,U,st,d,st1,E,S,o,λw g C c B z=>?_⟩
    obtain⟨ys,t,s,j,A⟩:=QF B (f.mono c) z n;exact⟨l,ys,w,rfl,rfl,t,s,p _ g _ (c.trans j) A (E.mono (c.trans j))⟩
   .exact Zb e
  .exact Zb e
 .exact Zb e
def Zak{n:Ev}(D:Ends)(O:L2.St)(H:Hp)(h:tS K (JU n fe) D O H):tDrop (tBM K "list" rAppend (tE K n) (tCons (tE K fe) tNil)) D O H:=by
 obtain⟨ad,U,st,r,st',E,S,e,p⟩:=ZV h;unfold JU at e;split at e
 .rename_i a c u
  split at e
  .rename_i d st1 t
   split at e
   .rename_i q s
    cases e;refine⟨ad,U,st,.lst a,c,E,S,u,λv k I g S0 B=>?_⟩
    obtain⟨l,rfl,i⟩:=B.ofLst;obtain⟨b,ds,z⟩:=W0 S0 i;obtain⟨o,_,sq⟩:=S0.list i z;refine⟨.inl ⟨rfl,o,sq⟩,k,U,c,d,st1,E.mono g,S0,t,λw j G f F A=>?_⟩
    obtain⟨ys,y,x,m,C⟩:=QF F (i.mono f) A s;exact⟨l,ys,w,rfl,rfl,y,x,p _ j _ ((g.trans f).trans m) C (E.mono ((g.trans f).trans m))⟩
   .exact Zb e
  .exact Zb e
 .exact Zb e
def Zcl(D:Ends)(O:L2.St)(H:Hp)(h:tS K (Zaf i fe) D O H):tDrop (tBM K "list" rExtend (tVar i) (tCons (tE K fe) tNil)) D O H:=by
 obtain⟨ad,U,st,r,st',E,S,e,p⟩:=ZV h;unfold Zaf at e;split at e
 .rename_i a B
  split at e
  .rename_i b st1 A
   split at e
   .rename_i z d
    cases e;obtain⟨v,L,J⟩:=E.at_ i _ B;obtain⟨l,rfl,k⟩:=J.ofLst;obtain⟨P,ds,G⟩:=W0 S k;obtain⟨y,_,sq⟩:=S.list k G;refine⟨_,L,.inl ⟨rfl,y,sq⟩,ad,U,st,.lst b,st1,E,S,A,λw n Q f o M=>?_⟩
    obtain⟨m,rfl,F⟩:=M.ofLst;unfold Zeu at d;split at d
    .rename_i N es x I
     split at d
     .rename_i C
      cases d;have c:=k.mono f;obtain⟨ys,u,j⟩:=o.listM c x;obtain⟨q,t,g⟩:=o.listM F I;have s:=Ext.write (ys:=ys++q) j (aX c.1);refine⟨l,m,ys,q,rfl,rfl,j,g,?_,p _ n _ (f.trans s) (o.write c x j (u.append t)) (E.mono (f.trans s))⟩;rw[u.length,t.length];exact aK C (by decide)
     .exact Zb d
    .exact Zb d
   .exact Zb e
  .exact Zb e
 .exact Zb e
def Zcv(D:Ends)(O:L2.St)(H:Hp)(h:tS K (VR i fk fe) D O H):tAsg (tE K fe) (gSub (tVar i) (tE K fk) rSetL) D O H:=by
 obtain⟨ad,U,st,r,st',E,S,e,p⟩:=ZV h;unfold VR at e;split at e
 .rename_i d st1 C
  split at e
  .rename_i a F
   split at e
   .rename_i j n B
    split at e
    .rename_i z f
     cases e;obtain⟨v,J,I⟩:=E.at_ i _ F;obtain⟨l,rfl,G⟩:=I.ofLst;refine⟨ad,U,st,d,st1,E,S,C,λw q Q m N M=>⟨_,J,q,U,st1,.int j,n,E.mono m,N,B,λP c y g x L=>?_⟩⟩
     cases L.ofInt;unfold Y1 at f;split at f
     .rename_i ds u
      split at f
      .rename_i k A
       cases f;have b:=G.mono (m.trans g);obtain⟨s,r,o⟩:=x.listM b u;have t:Ext c y c (upd y l (.lst (s.set k w))):=Ext.write o (aX b.1);refine⟨l,s,j,k,rfl,rfl,o,?_,p _ c _ (m.trans (g.trans t)) (x.write b u o (r.set (M.mono g) k)) (E.mono (m.trans (g.trans t)))⟩;rw[r.length];exact A
      .exact Zb f
     .exact Zb f
    .exact Zb e
   .exact Zb e
  .exact Zb e
 .exact Zb e
def U9(a b i j:Int):ak (([.inl a,.inl b]:Li Key)=[.inl i,.inl j])=(ak (a=i)&&ak (b=j)):=by
 rw[cN];simp
def Zad{i j:Int}(r:Ents K ad H kvs ds):(kvs.any λa=>ak (a.1=[.inl i,.inl j]))=ds.any (isK i j):=by
 induction r with
 |nil=>rfl
 |cons h _ b=>rw[dP,dP,b,U9];rfl
def Uo{i j:Int}{v:V}(hd:Den K ad H v d)(r:Ents K ad H kvs ds):Ents K ad H (putK kvs [.inl i,.inl j] v) (XI ds i j d):=by
 unfold putK XI;rw[Zad r];by_cases e:ds.any (isK i j)=ae
 .rw[aq e,aq e]
  clear e
  induction r with
  |nil=>exact .nil
  |@cons a b w c _ _ h _ f=>
   rw[aZ,aZ];have z:=U9 a b i j;by_cases q:(ak (a=i)&&ak (b=j))=ae
   .rw[aq (ao (z.trans q)),aq (show isK i j (.tup [.int a,.int b,c])=ae from q)]
    rw[Ba,aO,aO]at q;rw[q.1,q.2];exact .cons hd f
   .rw[ar (λt=>q (z.symm.trans (aF t))),ar (show ¬isK i j (.tup [.int a,.int b,c])=ae from q)]
    exact .cons h f
 .rw[ar e,ar e]
  clear e
  induction r with
  |nil=>exact .cons hd .nil
  |cons h _ f=>exact .cons h f
def Xs{i j:Int}(r:Ents K ad H kvs ds):(∃ v d,valV kvs [.inl i,.inl j]=aa v/\Yj ds i j=aa d/\Den K ad H v d)\/(valV kvs [.inl i,.inl j]=ab/\Yj ds i j=ab):=by
 induction r with
 |nil=>exact .inr ⟨rfl,rfl⟩
 |@cons a b w c kvs ds h _ e=>
  have z:=U9 a b i j;by_cases q:(ak (a=i)&&ak (b=j))=ae
  .exact .inl ⟨w,c,valV_pos (ao (z.trans q)),by unfold Yj;rw[List.find?_cons_of_pos (show isK i j (.tup [.int a,.int b,c])=ae from q)];rfl,h⟩
  .have g:valV ((([.inl a,.inl b]:Li Key),w) :: kvs) [.inl i,.inl j]=valV kvs [.inl i,.inl j]:=valV_neg λt=>q (z.symm.trans (aF t))
   have f:Yj (.tup [.int a,.int b,c] :: ds) i j=Yj ds i j:=by unfold Yj;rw[List.find?_cons_of_neg (show ¬isK i j (.tup [.int a,.int b,c])=ae from q)]
   rw[g,f];exact e
def Jm{i j:Int}(r:Ents K ad H kvs ds):(valV kvs [.inl i,.inl j]).isSome=(Yj ds i j).isSome:=by
 rcases Xs r with⟨w,d,b,a,c⟩|⟨b,a⟩
 .rw[b,a];rfl
 .rw[b,a];rfl
def Xi(r:Ents K ad H kvs ds):kvs.length=ds.length:=by
 induction r with
 |nil=>rfl
 |cons _ _ a=>rw[aY,aY,a]
def Zan(O:L2.St)(H:Hp)(Q:VK)(h:tE K ZdD O H Q):tDNewT K O H Q:=by
 obtain⟨ad,U,st,d,st',E,S,e,p⟩:=h;cases e;intro q a b;exact p _ (ad++[q]) _ (S.extD a b) (S.pushD a b) (.dic (by rw[<-S.len];exact Zu) ⟨_,upd_same⟩)
def Zao{G F:Ev}(D:Ends)(O:L2.St)(H:Hp)(h:tS K (Um i G F fe) D O H):tAsg (tE K fe) (gSub (tVar i) (tTup (tCons (tE K G) (tCons (tE K F) tNil))) rSetT) D O H:=by
 obtain⟨ad,U,st,r,st',E,S,e,p⟩:=ZV h;unfold Um at e;split at e
 .rename_i d st1 M
  split at e
  .rename_i a N
   split at e
   .rename_i x f L
    split at e
    .rename_i y c J
     split at e
     .rename_i ds B
      split at e
      .rename_i P
       cases e;obtain⟨v,R,Q⟩:=E.at_ i _ N;obtain⟨l,rfl,g,n⟩:=Q.ofDic;refine⟨ad,U,st,d,st1,E,S,M,λw s H1 m S1 W=>⟨_,R,s,U,st1,.int x,f,E.mono m,S1,L,λw2 q H2 k Z V=>⟨q,U,f,.int y,c,E.mono (m.trans k),Z,J,λw3 b j A Y T=>⟨show 2<=ay by decide,λt C=>?_⟩⟩⟩⟩
       cases V.ofInt;cases T.ofInt;have z:Ext b j b (upd j t (.tup [.int x,.int y])):=Ext.laid C;have X:=m.trans (k.trans (A.trans z));have I:StOk K b (upd j t (.tup [.int x,.int y])) c:=Y.laid C;obtain⟨kvs,r,o,_⟩:=I.dict (X.pre _ _ g) ((X.kd _ _ g).mp n) B;have u:Ext b _ b (upd (upd j t (.tup [.int x,.int y])) l (.dT (putK kvs [.inl x,.inl y] w))):=Ext.writeD o (aX (X.pre _ _ g))
       exact⟨l,t,kvs,[.inl x,.inl y],rfl,rfl,o,upd_same,by rw[Xi r];exact aW P (by decide),p _ b _ (X.trans u) (I.writeD (X.pre _ _ g) B o (Uo (W.mono (k.trans (A.trans z))) r)) (E.mono (X.trans u))⟩
      .exact Zb e
     .exact Zb e
    .exact Zb e
   .exact Zb e
  .exact Zb e
 .exact Zb e
def Left(K:Fg)(b:D->Env->Za->Ot (Fl×Za))(E:Ends)(a:Li D)(O:L2.St)(H:Hp):Prop:=∃ ad U st r st',EnvOk K ad H O U/\StOk K ad H st/\Zj b a U st=aa (r,st')/\PostS K ad H r st' E
def Left.turn{b:Ex}{m:Li D}{H:Hp}{v:V}(o:∀ ad H,Den K ad H v x)(h:Left K (λd U s=>b (Zk U i d) s) E (x :: m) O H) :
  tS K b { E with nx:=Left K (λd U s=>b (Zk U i d) s) E m,ct:=Left K (λd U s=>b (Zk U i d) s) E m,bk:=E.nx } (O.set i (aa v)) H:=by
 obtain⟨ad,U,st,r,st',En,S,e,p⟩:=h;unfold Zj at e;have f:=En.set i (o ad H);split at e
 .rename_i c st1 q
  exact ZX f S q λg a n j k l=>⟨a,c,st1,r,st',l,k,e,p.later j⟩
 .rename_i c st1 q
  exact ZX f S q λg a n j k l=>⟨a,c,st1,r,st',l,k,e,p.later j⟩
 .rename_i c st1 q
  cases e;exact ZX f S q λg a n j k l=>p g a n j k l
 .rename_i d st1 q
  cases e;exact ZX f S q p
 .exact Zb e
def Left.turnD{b:Ex}{m:Li D}{U:Env}{r:Fl}{v:V}(En:EnvOk K ad H O U)(S:StOk K ad H st)(o:Den K ad H v x)(e:Zj (λd U s=>b (Zk U i d) s) (x :: m) U st=aa (r,st'))(p:PostS K ad H r st' E)(L:L2.St->Hp->Prop)(n:∀ c a g f st1,Ext ad H a g->StOk K a g st1->EnvOk K a g c f->Zj (λd U s=>b (Zk U i d) s) m f st1=aa (r,st')->L c g) :
  tS K b { E with nx:=L,ct:=L,bk:=E.nx } (O.set i (aa v)) H:=by
 unfold Zj at e;have h:=En.set i o;split at e
 .rename_i f st1 q
  exact ZX h S q λc a g j k l=>n c a g f st1 j k l e
 .rename_i f st1 q
  exact ZX h S q λc a g j k l=>n c a g f st1 j k l e
 .rename_i f st1 q
  cases e;exact ZX h S q λc a g j k l=>p c a g j k l
 .rename_i d st1 q
  cases e;exact ZX h S q p
 .exact Zb e
def Left.done{b:D->Env->Za->Ot (Fl×Za)}(h:Left K b E [] O H):E.nx O H:=by
 obtain⟨ad,U,st,r,st',En,S,e,p⟩:=h;cases e;exact p O ad H (Ext.refl _ _) S En
def Ql(n k:Nat)(h:k < n):((aj n).map λ(j:Nat)=>D.int (j:Int)).drop k=D.int (k:Int) :: ((aj n).map λ(j:Nat)=>D.int (j:Int)).drop (k+1):=by
 rw[bV (by simpa using h)]
 simp
def Zar(E:Ends)(O:L2.St)(H:Hp)(h:tS K (WF i ae fi f) E O H):tFor (iRng1 (tCons (tE K fi) tNil)) (gName i) (tS K f) E O H:=by
 obtain⟨ad,U,st,r,st',En,S,e,p⟩:=ZV h;unfold WF at e;split at e
 .rename_i x st1 l
  cases x with
  |int n=>
   have e:(match (if n < 2 ^ 62/\-(2 ^ 62)<=n then aa ((aj n.toNat).map λ(k:Nat)=>D.int (k:Int)) else ab) with
    |some j=>Zj (λd U s=>f (Zk U i d) s) j U st1
    |none=>ab)=aa (r,st'):=e
   by_cases a:n < 2 ^ 62/\-(2 ^ 62)<=n
   .rw[aq a]at e
    refine⟨ad,U,st,.int n,st1,En,S,l,λv b t g q o=>⟨n,by rw[o.ofInt],a.2,a.1,?_⟩⟩
    refine for_range (λk c H'=>Left K (λd U s=>f (Zk U i d) s) E (((aj n.toNat).map λ(k:Nat)=>D.int (k:Int)).drop k) c H') ⟨b,U,st1,r,st',En.mono g,q,e,p.later g⟩ (λk c H' m L=>?_) λc H' L=>?_
    .rw[Ql _ _ m]at L
     have z:(0:Int)+(k:Int)=(k:Int):=Int.zero_add _;rw[z];exact L.turn λ_ _=>.int _
    .rw[List.drop_eq_nil_of_le (by simp)]at L
     exact L.done
   .rw[ar a]at e
    cases e
  |_=>simp[WJ]at e
 .exact Zb e
def QN{i:Int}(h:ZeA d=aa i):d=.int i:=by cases d<;>first | (cases h;done) | (cases h;rfl)
def Zdw(K:Fg)(b:D->Env->Za->Ot (Fl×Za))(E:Ends)(a:Ad)(vs:Li V)(c:Li D)(k:Nat)(O:L2.St)(H:Hp):Prop:=
 ∃ ad U st r st',EnvOk K ad H O U/\StOk K ad H st/\(TupAt K H a vs/\Dens K ad H vs c)/\Zj b (c.drop k) U st=aa (r,st')/\PostS K ad H r st' E
def Zas(E:Ends)(O:L2.St)(H:Hp){U:Env}{r:Fl}{xs:Li D}(En:EnvOk K ad H O U)(S:StOk K ad H st)(Q:fi U st=aa (.tup xs,st1))(e:Zj (λd U s=>f (Zk U i d) s) xs U st1=aa (r,st'))(p:PostS K ad H r st' E):tFor (iTup K (tE K fi)) (gName i) (tS K f) E O H:=by
 refine⟨ad,U,st,.tup xs,st1,En,S,Q,λv C H1 G Y W=>?_⟩
 obtain⟨a,vs,rfl,J,rv⟩:=W.ofTup;refine⟨a,rfl,⟨vs,(J).sq⟩,?_⟩;refine for_tup (xs:=vs) (λk t H'=>Zdw K (λd U s=>f (Zk U i d) s) E a vs xs k t H') ⟨C,U,st1,r,st',En.mono G,Y,⟨J,rv⟩,by rw[cJ];exact e,p.later G⟩ (λk t H' _ L=>?_) (λk y t H' I L=>?_) λt H' L=>?_
 .obtain⟨_,_,_,_,_,_,_,⟨h,_⟩,_⟩:=L
  exact(h).sq
 .obtain⟨o,j,l,A,b,g,F,⟨M,c⟩,n,q⟩:=L
  have m:k < xs.length:=by rw[<-c.length];exact(bL.mp I).1
  have R:xs[k]?=aa xs[k]:=Lg m;obtain⟨w,N,V⟩:=c.get R;rw[I]at N;cases N
  rw[bV m]at n;exact Left.turnD g F V n q _ λP B H3 u z x X Z T=>⟨B,u,z,A,b,Z,X,⟨M.mono x,c.mono x⟩,T,q.later x⟩
 .obtain⟨o,j,l,A,b,g,F,⟨M,c⟩,n,q⟩:=L
  rw[c.length,fQ]at n;exact Left.done ⟨o,j,l,A,b,g,F,n,q⟩
def Ut{G:TG}(E:Ends)(O:L2.St)(H:Hp){ad:Li Ad}{U:Env}{st st1:Za}{r:Fl}{bb:Bool}{W:Li D}(En:EnvOk K ad H O U)(S:StOk K ad H st)(q1:fi U st=aa (.lst l,st1))(q2:st1[l]?=aa (bb,W))(e:ZF B l W.length 0 U st1=aa (r,st'))(p:PostS K ad H r st' E)(Q:∀ (x:D) (v:V) (O:L2.St) (H:Hp) (ad:Li Ad) (U:Env) (st st1:Za) (r1:Fl) (E':Ends),EnvOk K ad H O U->StOk K ad H st->Den K ad H v x->B x U st=aa (r1,st1)->PostS K ad H r1 st1 E'->G v O H λT H2=>tS K f E' T H2) :
  tFor (iList K (tE K fi)) G (tS K f) E O H:=by
 refine⟨ad,U,st,.lst l,st1,En,S,q1,λv ad1 H1 x1 S1 d1=>?_⟩
 obtain⟨a,rfl,ha⟩:=d1.ofLst;obtain⟨vs,rv,sq⟩:=S1.list ha q2;refine⟨a,rfl,⟨vs,sq⟩,?_⟩;refine⟨λk m O' H'=>∃ b c g,(EnvOk K b H' O' c/\StOk K b H' g/\LA b H' l a)/\ZF B l m k c g=aa (r,st')/\PostS K b H' r st' E,⟨W.length,ad1,U,st1,⟨En.mono x1,S1,ha⟩,e,p.later x1⟩,?_⟩
 rintro k m O' H' ⟨b,c,g,⟨o,A,s⟩,j,L⟩
 obtain⟨b2,ys,M⟩:=W0 A s;obtain⟨X,J,z⟩:=A.list s M;have stop:ys.length<=k->ZF B l m k c g=aa (.nx c,g):=λC=>by
  cases m with
  |zero=>unfold ZF;simp only[M];rw[aq C]
  |succ m=>unfold ZF;simp only[M,dF C]
 by_cases C:ys.length<=k
 .refine .inl ⟨⟨X,z,by rw[J.length];exact C⟩,?_⟩
  rw[stop C]at j;cases j;exact L O' b H' (Ext.refl _ _) A o
 .have Z:k < ys.length:=by omega
  have hy:ys[k]?=aa ys[k]:=Lg Z;obtain⟨w,ew,R⟩:=J.get hy;cases m with
  |zero=>
   unfold ZF at j;simp only[M]at j;rw[ar C]at j;cases j
  |succ m=>
   unfold ZF at j;simp only[M,hy]at j;refine .inr ⟨⟨X,w,z,ew⟩,λI F=>∃ t i h,(EnvOk K t F I i/\StOk K t F h/\LA t F l a)/\ZF B l m (k+1) i h=aa (r,st')/\PostS K t F r st' E,λI F h3=>⟨m,eI m,h3⟩,λx F Y=>?_⟩
   obtain⟨rfl,Y⟩:=Y;have ex:=Y X z;rw[ew]at ex;cases ex
   split at j
   .rename_i i h q
    exact Q _ _ _ _ b c g _ _ _ o A R q λu n H4 y N P=>⟨n,i,h,⟨P,N,s.mono y⟩,j,L.later y⟩
   .rename_i i h q
    exact Q _ _ _ _ b c g _ _ _ o A R q λu n H4 y N P=>⟨n,i,h,⟨P,N,s.mono y⟩,j,L.later y⟩
   .rename_i i h q
    cases j;exact Q _ _ _ _ b c g _ _ _ o A R q λu n H4 y N P=>L u n H4 y N P
   .rename_i d h q
    cases j;exact Q _ _ _ _ b c g _ _ _ o A R q L
   .exact Zb j
def Zaq(E:Ends)(O:L2.St)(H:Hp)(h:tS K (WF i af fi f) E O H):tFor (iTup K (tE K fi)) (gName i) (tS K f) E O H\/tFor (iList K (tE K fi)) (gName i) (tS K f) E O H:=by
 obtain⟨ad,U,st,r,st',En,S,e,p⟩:=ZV h;unfold WF at e;split at e
 .rename_i x st1 b
  cases x with
  |tup a=>exact .inl (Zas E O H En S b e p)
  |lst l=>
   have e:(match st1[l]? with
    |some (_,a)=>ZF (λd U s=>f (Zk U i d) s) l a.length 0 U st1
    |none=>ab)=aa (r,st'):=e
   split at e
   .rename_i n a c
    refine .inr (Ut E O H En S b c e p λx v O H ad U st st1 m o En S k j g=>?_)
    exact ZX (En.set i k) S j g
   .exact Zb e
  |_=>simp[WJ]at e
 .exact Zb e
def Jq{G:TG}(E:Ends)(O:L2.St)(H:Hp){ad:Li Ad}{U:Env}{st st1:Za}{r:Fl}{xs:Li D}(En:EnvOk K ad H O U)(S:StOk K ad H st)(q1:fi U st=aa (.tup xs,st1))(e:Zj B xs U st1=aa (r,st'))(p:PostS K ad H r st' E)(M:∀ (x:D) (v:V) (O:L2.St) (H:Hp) (ad:Li Ad) (U:Env) (st st1:Za) (Y:Fl) (E':Ends),EnvOk K ad H O U->StOk K ad H st->Den K ad H v x->B x U st=aa (Y,st1)->PostS K ad H Y st1 E'->G v O H λQ H2=>tS K f E' Q H2) :
  tFor (iTup K (tE K fi)) G (tS K f) E O H:=by
 refine⟨ad,U,st,.tup xs,st1,En,S,q1,λv T H1 X S1 d1=>?_⟩
 obtain⟨a,vs,rfl,ha,rv⟩:=d1.ofTup;refine⟨a,rfl,⟨vs,(ha).sq⟩,?_⟩;refine for_tup (xs:=vs) (λk P H'=>Zdw K B E a vs xs k P H') ⟨T,U,st1,r,st',En.mono X,S1,⟨ha,rv⟩,by rw[cJ];exact e,p.later X⟩ (λk P H' _ L=>?_) (λk y P H' Z L=>?_) λP H' L=>?_
 .obtain⟨_,_,_,_,_,_,_,⟨h,_⟩,_⟩:=L
  exact(h).sq
 .obtain⟨j,c,g,J,b,l,A,⟨R,i⟩,n,z⟩:=L
  have C:k < xs.length:=by rw[<-i.length];exact(bL.mp Z).1
  have hx:xs[k]?=aa xs[k]:=Lg C;obtain⟨w,ew,N⟩:=i.get hx;rw[Z]at ew;cases ew
  rw[bV C]at n;unfold Zj at n;split at n
  .rename_i s m q
   exact M _ _ _ _ j c g _ _ _ l A N q λu o W t F I=>⟨o,s,m,J,b,I,F,⟨R.mono t,i.mono t⟩,n,z.later t⟩
  .rename_i s m q
   exact M _ _ _ _ j c g _ _ _ l A N q λu o W t F I=>⟨o,s,m,J,b,I,F,⟨R.mono t,i.mono t⟩,n,z.later t⟩
  .rename_i s m q
   cases n;exact M _ _ _ _ j c g _ _ _ l A N q λu o W t F I=>z u o W t F I
  .rename_i d m q
   cases n;exact M _ _ _ _ j c g _ _ _ l A N q z
  .exact Zb n
 .obtain⟨j,c,g,J,b,l,A,⟨R,i⟩,n,z⟩:=L
  rw[i.length,fQ]at n;exact Left.done ⟨j,c,g,J,b,l,A,n,z⟩
def Zd1{v:V}{d:Fl}{e:Ends}(En:EnvOk K ad H O U)(S:StOk K ad H st)(k:Den K ad H v x)(b:Xq i j l f x U st=aa (d,st1))(g:PostS K ad H d st1 e):gTup K 3 (gCons (gName i) (gCons (gName j) (gCons (gName l) gNil))) v O H λc p=>tS K f e c p:=by
 unfold Xq at b;split at b
 .rename_i y z u
  obtain⟨a,vs,rfl,h,rv⟩:=k.ofTup;cases rv with
  |cons o rv=>
   cases rv with
   |cons n rv=>
    cases rv with
    |cons m rv=>
     cases rv;exact⟨a,_,rfl,(h).sq,rfl,_,_,rfl,_,_,rfl,_,_,rfl,rfl,ZX (((En.set i o).set j n).set l m) S b g⟩
 .exact Zb b
def Zap(E:Ends)(O:L2.St)(H:Hp)(h:tS K (Up i j l fi f) E O H):tFor (iTup K (tE K fi)) (gTup K 3 (gCons (gName i) (gCons (gName j) (gCons (gName l) gNil)))) (tS K f) E O H\/tFor (iList K (tE K fi)) (gTup K 3 (gCons (gName i) (gCons (gName j) (gCons (gName l) gNil)))) (tS K f) E O H:=by
 obtain⟨ad,U,st,r,st',En,S,e,p⟩:=ZV h;unfold Up at e;split at e
 .rename_i q st1 a
  split at e
  .rename_i o g m
   exact .inr (Ut E O H En S a m e p λx v O H ad U st st1 k n En S d c b=>Zd1 En S d c b)
  .exact Zb e
 .rename_i g st1 a
  exact .inl (Jq E O H En S a e p λx v O H ad U st st1 k n En S d c b=>Zd1 En S d c b)
 .exact Zb e
def Js(E:Ends)(O:L2.St)(H:Hp)(h:tS K (Z1 fe f m) E O H):tWhile (tT K fe) (tS K f) E O H:=by
 obtain⟨ad,U,st,r,st',En,S,e,p⟩:=ZV h;refine⟨λm O H=>∃ ad U st,(EnvOk K ad H O U/\StOk K ad H st)/\Z1 fe f m U st=aa (r,st')/\PostS K ad H r st' E,⟨m,ad,U,st,⟨En,S⟩,e,p⟩,?_⟩
 rintro m O H ⟨ad,U,st,⟨En,S⟩,e,p⟩
 cases m with
 |zero=>exact Zb e
 |succ m=>
  have e:Yb fe (ZR f (Z1 fe f m)) (λU st=>aa (.nx U,st)) U st=aa (r,st'):=e
  unfold Yb at e;split at e
  .rename_i st1 q
   refine⟨ad,U,st,ae,st1,En,S,q,λl t a j=>?_⟩
   dsimp only;rw[aq rfl];refine⟨λO H=>∃ ad U st,(EnvOk K ad H O U/\StOk K ad H st)/\Z1 fe f m U st=aa (r,st')/\PostS K ad H r st' E,λu H' h=>⟨m,eI m,h⟩,?_⟩
   have e:ZR f (Z1 fe f m) U st1=aa (r,st'):=e;unfold ZR at e;split at e
   .rename_i d b i
    exact ZX (En.mono a) j i λg c s k n o=>⟨c,d,b,⟨o,n⟩,e,p.later (a.trans k)⟩
   .rename_i d b i
    exact ZX (En.mono a) j i λg c s k n o=>⟨c,d,b,⟨o,n⟩,e,p.later (a.trans k)⟩
   .rename_i d b i
    cases e;exact ZX (En.mono a) j i λg c s k n o=>p g c s (a.trans k) n o
   .rename_i v b i
    cases e;exact ZX (En.mono a) j i (Post.later p a)
   .exact Zb e
  .rename_i st1 q
   cases e;refine⟨ad,U,st,af,_,En,S,q,λl t a j=>?_⟩
   dsimp only;rw[ar Bf];exact p O l t a j (En.mono a)
  .exact Zb e
inductive LK(K:Fg)(ok:Za->Prop)(B:D->D->Env->Za->Option (Fl×Za))(qs:List (D×D))(Good:List Addr->Hp->Prop)(r:Fl)(st':Za)(E:Ends)(k m:Nat)(O:L2.St)(H:Hp):Prop
 |mk {ad:List Addr}{U:Env}{st:Za} (hk:k+m=qs.length) (En:EnvOk K ad H O U) (S:StOk K ad H st) (g:Good ad H) (e:UA ok B (qs.drop k) U st=aa (r,st')) (p:PostS K ad H r st' E):LK K ok B qs Good r st' E k m O H
end
variable [ClsTab]
mutual
theorem ZbZ:∀ {x y:D},Zx x y=ae->x=y
 |.non,y,h=>by cases y<;>simp[Zx]at h ⊢
 |.bl a,y,h=>by cases y<;>simp[Zx]at h ⊢;exact h
 |.int a,y,h=>by cases y<;>simp[Zx]at h ⊢;exact h
 |.str a,y,h=>by cases y<;>simp[Zx]at h ⊢;exact h
 |.tup a,y,h=>by
  cases y with
  |tup b=>rw[V7 (x:=a) (y:=b) (by simpa[Zx] using h)]
  |_=>simp[Zx]at h
 |.lst a,y,h=>by cases y<;>simp[Zx]at h
 |.dct a b,y,h=>by cases y<;>simp[Zx]at h
 |.obj a,y,h=>by cases y<;>simp[Zx]at h
 |.kt a,y,h=>by cases y<;>simp[Zx]at h
 |.dic a,y,h=>by cases y<;>simp[Zx]at h
theorem V7:∀ {x y:Li D},Zt x y=ae->x=y
 |[],y,h=>by cases y<;>simp[Zt]at h ⊢
 |a :: x,y,h=>by
  cases y with
  |nil=>simp[Zt]at h
  |cons b y=>
   have h:(Zx a b&&Zt x y)=ae:=h;rw[Ba]at h;rw[ZbZ h.1,V7 h.2]
end
mutual
theorem Ve:∀ {n:Nat}{x:D},okD n x=ae->Zx x x=ae
 |_,.non,_=>rfl
 |_,.bl a,_=>by simp[Zx]
 |_,.int a,_=>by simp[Zx]
 |_,.str a,_=>by simp[Zx]
 |0,.tup a,h=>by simp[okD]at h
 |n+1,.tup a,h=>Wx (n:=n) (x:=a) h
 |_,.lst a,h=>by simp[okD]at h
 |_,.dct a b,h=>by simp[okD]at h
 |_,.obj a,h=>by simp[okD]at h
 |_,.kt a,h=>by simp[okD]at h
 |_,.dic a,h=>by simp[okD]at h
theorem Wx:∀ {n:Nat}{x:Li D},Yo n x=ae->Zt x x=ae
 |_,[],_=>rfl
 |n,a :: x,h=>by
  have h:(okD n a&&Yo n x)=ae:=h;rw[Ba]at h;show(Zx a a&&Zt x x)=ae;rw[Ve h.1,Wx h.2];rfl
end
theorem Xl:∀ {n:Nat}{a:Li D}{i:Nat}{d:D},Yo n a=ae->a[i]?=aa d->okD n d=ae
 |_,[],_,_,_,e=>by simp at e
 |n,x :: a,i,d,h,e=>by
  have h:(okD n x&&Yo n a)=ae:=h;rw[Ba]at h;cases i with
  |zero=>simp at e;subst e;exact h.1
  |succ i=>exact Xl (i:=i) h.2 (by simpa using e)
theorem YL:∀ {a ys:Li D},Zt a ys=((aj (min a.length ys.length)).all (λi=>Zx ((a[i]?).getD .non) ((ys[i]?).getD .non))&&a.length==ys.length)
 |[],[]=>rfl
 |[],_ :: _=>by simp[Zt]
 |_ :: _,[]=>by simp[Zt]
 |x :: a,y :: ys=>by
  have b:=@YL a ys;show(Zx x y&&Zt a ys)=_;rw[b];have e:min (x :: a).length (y :: ys).length=min a.length ys.length+1:=by simp only[aY];omega
  rw[e,List.range_succ_eq_map,cH,List.all_map];simp only[aY];have z:(a.length+1==ys.length+1)=(a.length==ys.length):=by
   rw[cN];simp
  rw[z,Bool.and_assoc];rfl
variable{n:Nat}{pQ:Li (Ad×Obj)}{s:Sd}{A:bw}
def Zfz(X:Cx)(ad:Li Ad)(H:Hp)(v:V)(x:D):Prop:=∀ n m y,okD n x=ae->okD m y=ae->Den X.K ad H v y->x=y
def Xt{n:Nat}{P:Prop}(h:okD n x=ae)(a:∀ n,okD n x=af):P:=by rw[a]at h;cases h
def Za2(i n:Nat):okD n (.lst i)=af:=by cases n<;>rfl
def Za0(ks:Li Str)(vs:Li D)(n:Nat):okD n (.dct ks vs)=af:=by cases n<;>rfl
def Za1(i n:Nat):okD n (.dic i)=af:=by cases n<;>rfl
def Za3(i n:Nat):okD n (.obj i)=af:=by cases n<;>rfl
def ZdS(ks:Li Str)(n:Nat):okD n (.kt ks)=af:=by cases n<;>rfl
def Za4{a:Li D}(h:okD n (.tup a)=ae):∃ m,Yo m a=ae:=by
 cases n with
 |zero=>cases h
 |succ n=>exact⟨n,h⟩
def Den.injP(J:∀ (a:Ad) (d ys:Li V),TupAt X.K H a d->TupAt X.K H a ys->d=ys){v:V}(h:Den X.K ad H v x):Zfz X ad H v x:=
 Den.rec (motive_1:=λv x _=>Zfz X ad H v x) (motive_2:=λvs d _=>∀ n m ys,Yo n d=ae->Yo m ys=ae->Dens X.K ad H vs ys->d=ys)
  (λ_ _ _ _ _ h=>by cases h;rfl) (λ_ _ _ _ _ _ h=>by cases h;rfl) (λ_ _ _ _ _ _ h=>by cases h;rfl) (λ_ _ _ _ _ _ h=>by cases h;rfl)
  (λe _ j n m y b c h=>by
   obtain⟨g,b⟩:=Za4 b;cases h with
   |tup o f=>
    cases J _ _ _ e o
    obtain⟨i,c⟩:=Za4 c;rw[j g i _ b c f]
   |lst _=>exact Xt c (Za2 _)
   |dic _ _=>exact Xt c (Za1 _)
   |dct _ _ _ _ _=>exact Xt c (Za0 _ _)
   |obj _ _=>exact Xt c (Za3 _)
   |kt _ _ _ _ _ _=>exact Xt c (ZdS _))
  (λ_ _ _ _ b _ _=>Xt b (Za2 _)) (λ_ _ _ _ _ b _ _=>Xt b (Za1 _)) (λ_ _ _ _ _ _ _ _ _ b _ _=>Xt b (Za0 _ _)) (λ_ _ _ _ _ b _ _=>Xt b (Za3 _)) (λ_ _ _ _ _ _ _ _ _ b _ _=>Xt b (ZdS _))
  (λ_ _ _ _ _ h=>by cases h;rfl)
  (λ_ _ l k n m ys b c h=>by
   cases h with
   |cons p f=>
    have b:=fW.mp b;have c:=fW.mp c;rw[l n m _ b.1 c.1 p,k n m _ b.2 c.2 f]) h
def Den.inj(J:∀ (a:Ad) (b ys:Li V),TupAt X.K H a b->TupAt X.K H a ys->b=ys){v:V}{y:D}(d:okD n x=ae)(c:okD m y=ae)(h:Den X.K ad H v x)(e:Den X.K ad H v y):x=y:=h.injP J n m y d c e
theorem Dens.inj(J:∀ (a:Ad) (b ys:Li V),TupAt X.K H a b->TupAt X.K H a ys->b=ys){b ys:Li D}(d:Yo n b=ae)(c:Yo m ys=ae)(h:Dens X.K ad H vs b)(e:Dens X.K ad H vs ys):b=ys:=by
 induction vs generalizing b ys with
 |nil=>cases h;cases e;rfl
 |cons v vs g=>
  cases h with
  |cons a r=>cases e with
   |cons i f=>
    have d:=fW.mp d;have c:=fW.mp c;rw[a.inj J d.1 c.1 i,g d.2 c.2 r f]
open PySem.SeqAt in
def Zet(I:Inv X pQ O H s):∀ (n:Nat) (x y:D) (A:bw) (B w:V) (E C:vL),okD n x=ae->okD n y=ae->A.units+n < cLine->Den X.K ad H B x->Den X.K ad H w y->RelV B E->RelV w C->EqAt A s E C (Zx x y):=by
 intro n
 induction n with
 |zero=>
  intro x y A B w E C u h hu J l k d;cases J with
  |non=>
   cases k;cases l with
   |non=>cases d;exact EqAt.same _
   |int j=>obtain⟨c,rfl⟩:=d;exact EqAt.none_int j c
   |str j=>obtain⟨c,rfl⟩:=d;exact EqAt.none_str j c
   |_=>simp[okD]at h
  |int i=>
   obtain⟨t,rfl⟩:=k;cases l with
   |non=>cases d;exact EqAt.int_none i t
   |int j=>obtain⟨c,rfl⟩:=d;exact(show Zx (.int i) (.int j)=(i==j) from by rw[cN];simp[Zx]) ▸ EqAt.int_int i t j c
   |str j=>obtain⟨c,rfl⟩:=d;exact EqAt.int_str i t j c
   |_=>simp[okD]at h
  |str i=>
   obtain⟨t,rfl⟩:=k;cases l with
   |non=>cases d;exact EqAt.str_none i t
   |int j=>obtain⟨c,rfl⟩:=d;exact EqAt.str_int i t j c
   |str j=>obtain⟨c,rfl⟩:=d;exact(show Zx (.str i) (.str j)=(i==j) from by rw[cN];simp[Zx]) ▸ EqAt.str_str i t j c
   |_=>simp[okD]at h
  |_=>simp[okD]at u
 |succ n ih=>
  intro x y A B w E C u h hu J l k d;cases J with
  |non=>
   cases k;cases l with
   |non=>cases d;exact EqAt.same _
   |int j=>obtain⟨c,rfl⟩:=d;exact EqAt.none_int j c
   |str j=>obtain⟨c,rfl⟩:=d;exact EqAt.none_str j c
   |tup e r=>
    cases d;obtain⟨f,_,p,_⟩:=I.tuple ((e).sq);exact EqAt.none_tuple p (by omega)
   |_=>simp[okD]at h
  |int i=>
   obtain⟨t,rfl⟩:=k;cases l with
   |non=>cases d;exact EqAt.int_none i t
   |int j=>obtain⟨c,rfl⟩:=d;exact(show Zx (.int i) (.int j)=(i==j) from by rw[cN];simp[Zx]) ▸ EqAt.int_int i t j c
   |str j=>obtain⟨c,rfl⟩:=d;exact EqAt.int_str i t j c
   |tup e r=>
    cases d;obtain⟨f,_,p,_⟩:=I.tuple ((e).sq);exact EqAt.int_tuple i t p (by omega)
   |_=>simp[okD]at h
  |str i=>
   obtain⟨t,rfl⟩:=k;cases l with
   |non=>cases d;exact EqAt.str_none i t
   |int j=>obtain⟨c,rfl⟩:=d;exact EqAt.str_int i t j c
   |str j=>obtain⟨c,rfl⟩:=d;exact(show Zx (.str i) (.str j)=(i==j) from by rw[cN];simp[Zx]) ▸ EqAt.str_str i t j c
   |tup e r=>
    cases d;obtain⟨f,_,p,_⟩:=I.tuple ((e).sq);exact EqAt.str_tuple i t p (by omega)
   |_=>simp[okD]at h
  |@tup a xs ds e r=>
   cases k;obtain⟨f,rv,p,_⟩:=I.tuple ((e).sq);cases l with
   |non=>cases d;exact EqAt.tuple_none p (by omega)
   |int j=>obtain⟨c,rfl⟩:=d;exact EqAt.tuple_int j c p (by omega)
   |str j=>obtain⟨c,rfl⟩:=d;exact EqAt.tuple_str j c p (by omega)
   |@tup b ys es Q F=>
    cases d;by_cases v:a=b
    .subst v
     have z:=Den.inj (λ_ _ _ e G=>I.tuple_inj e.sq G.sq) (n:=n+1) (m:=n+1) u h (Den.tup e r) (Den.tup Q F)
     cases z;rw[Ve u];exact EqAt.same _
    .obtain⟨g,o,p',_⟩:=I.tuple ((Q).sq)
     refine EqAt.of_refs v ?_;have q:=RcAt.tuples (A:=A) (s:=s) (e:=λi=>Zx ((ds[i]?).getD .non) ((es[i]?).getD .non)) p p' (by omega) λj P N=>?_
     .have e1:f.toArray.size=ds.length:=by rw[aH,<-rv.length,r.length]
      have G:g.toArray.size=es.length:=by rw[aH,<-o.length,F.length]
      rw[e1,G]at q;show RcAt A s (.ref a) (.ref b) (Zt ds es);rw[YL];exact q
     .have l1:j < ds.length:=by rw[<-r.length,rv.length];simpa using P
      have l2:j < es.length:=by rw[<-F.length,o.length];simpa using N
      have g1:ds[j]?=aa ds[j]:=Lg l1;have g2:es[j]?=aa es[j]:=Lg l2;obtain⟨U,q1,d1⟩:=r.get g1;obtain⟨T,Z,d2⟩:=F.get g2;obtain⟨M,S,Y⟩:=rv.get q1;obtain⟨L,R,W⟩:=o.get Z;have f1:f.toArray[j]=M:=by
       have:f[j]?=aa (f[j]'(by simpa using P)):=Lg _
       rw[S]at this;simpa using(aw this).symm
      have f2:g.toArray[j]=L:=by
       have:g[j]?=aa (g[j]'(by simpa using N)):=Lg _
       rw[R]at this;simpa using(aw this).symm
      rw[f1,f2,g1,g2];exact ih ds[j] es[j] A.in1 U T M L (Xl u g1) (Xl h g2) (by show A.units+1+n < cLine;omega) d1 d2 Y W
   |_=>simp[okD]at h
  |_=>simp[okD]at u
open PySem.SeqAt in
def WI(I:Inv X pQ O H s){a b:Ad}{d c:Li vL}(z:Yo n ds=ae)(y:Yo n es=ae)(hu:A.units+n+1 < cLine)(r:Dens X.K ad H xs ds)(h:Dens X.K ad H ys es)(rv:Vals xs d)(e:Vals ys c)(j:Nat)(k:j < d.toArray.size)(i:j < c.toArray.size):EqAt A.in1 s d.toArray[j] c.toArray[j] (Zx ((ds[j]?).getD .non) ((es[j]?).getD .non)):=by
 have x:j < ds.length:=by rw[<-r.length,rv.length];simpa using k
 have w:j < es.length:=by rw[<-h.length,e.length];simpa using i
 have g1:ds[j]?=aa ds[j]:=Lg x;have g2:es[j]?=aa es[j]:=Lg w;obtain⟨p,v,E⟩:=r.get g1;obtain⟨o,u,D⟩:=h.get g2;obtain⟨g,m,t⟩:=rv.get v;obtain⟨f,l,q⟩:=e.get u;have C:d.toArray[j]=g:=by
  have:d[j]?=aa (d[j]'(by simpa using k)):=Lg _
  rw[m]at this;simpa using(aw this).symm
 have B:c.toArray[j]=f:=by
  have:c[j]?=aa (c[j]'(by simpa using i)):=Lg _
  rw[l]at this;simpa using(aw this).symm
 rw[C,B,g1,g2];exact Zet I n ds[j] es[j] A.in1 p o g f (Xl z g1) (Xl y g2) (by show A.units+1+n < cLine;omega) E D t q
open PySem.SeqAt in
def ZcW(I:Inv X pQ O H s){a b:Ad}(t:Yo n ds=ae)(o:Yo n es=ae)(hu:A.units+n+1 < cLine)(e:TupAt X.K H a xs)(r:Dens X.K ad H xs ds)(w:TupAt X.K H b ys)(f:Dens X.K ad H ys es):RcAt A s (.ref a) (.ref b) (Zt ds es)/\RcNeAt A s (.ref a) (.ref b) (!Zt ds es):=by
 obtain⟨g,rv,p,_⟩:=I.tuple (e.sq);obtain⟨d,c,m,_⟩:=I.tuple (w.sq);have v:g.toArray.size=ds.length:=by rw[aH,<-rv.length,r.length]
 have u:d.toArray.size=es.length:=by rw[aH,<-c.length,f.length]
 have q:=RcAt.tuples (A:=A) (s:=s) (e:=λi=>Zx ((ds[i]?).getD .non) ((es[i]?).getD .non)) p m (by omega) λj k h=>WI (a:=a) (b:=b) I t o hu r f rv c j k h
 have l:=RcNeAt.tuples (A:=A) (s:=s) (e:=λi=>Zx ((ds[i]?).getD .non) ((es[i]?).getD .non)) p m (by omega) λj k h=>WI (a:=a) (b:=b) I t o hu r f rv c j k h
 rw[v,u]at q l;rw[YL];exact⟨q,l⟩
end Dp
namespace Dp
open PySem PySem.Spec PyProof.Rows L2 PySem.SeqAt
section
variable{prog:bh}{w:bt}{A:bw}{E:vL->Sd->Prop}{s:Sd}{d:Ad}{es:Array DictEntry}{ep:Nat}
def Raw(h:br)(d:Ad)(es:Array DictEntry)(ep:Nat):Prop:=∃ o,h.get? d=aa o/\o.ExactDict/\o.data=.dict es ep
def Raw.typeIs(x:Raw s.heap d es ep):s.TypeIs (.ref d) "dict":=let ⟨o,ho,hc,_⟩:=x;⟨o,ho,hc.1⟩
def Qh(hd:(d==bv)=af) :
  MeetsIn prog w (Builtin.«dict.__len__» ⟨[.ref d],[]⟩) (λ_ R s=>Raw s.heap d es ep/\R (.ok (.ret (.int es.size s.toks))) { s with toks:=s.toks+1 }):=
 .of_wp λA R s ⟨⟨o,b,c,a⟩,h⟩=>by
  show bf _ _ (dictSize d >>= _) _ _ s;unfold dictSize;refine aA (aA (wpAny_dictEntries b a (aE ?_)));show bf _ _ (Builtin.Dict.pendingCount d >>= _) _ _ s;refine aA (wpAny_pendingCount_other hd (wpAny_ret_mkInt ?_));rw[Nat.add_zero];exact h
theorem ZcI{Q:vL->Sd->Prop}(hd:(d==bv)=af)(a:Raw s.heap d es ep)(b:(es.size:Int) < 2 ^ 63)(h:Q (.int es.size (s.toks+1)) { s with toks:=s.toks+1+1 }):bf (bg prog w) A (call (.builtin "len") [.ref d]) Q E s:=by
 refine Calls.call_function_entry kind_len plain_len entry_len (args_len1 _) ?_;unfold Builtin.«len»
 refine aA (m:=oneArg "len" _) (aE ?_);refine aA (m:=callSpecial? (.ref d) (Str.ofString "__len__")) (wpAny_callSpecial?_slot (name:=Str.ofString "__len__") a.typeIs F.slot_dict_len
  (call_meetsIn F.slot_dict_len a.typeIs F.entry_dict_len (F.args_dict_len_1 _) (Qh (es:=es) (ep:=ep) hd) ⟨a,?_⟩))
 show bf _ _ _ _ _ { s with toks:=s.toks+1 }
 refine aA (wpAny_holding (aE (aA (wpAny_letGo ?_))));show bf _ _ (if ((es.size:Nat):Int) < 0 then _ else _) _ _ _
 rw[ar (by omega)]
 show bf _ _ (if ((es.size:Nat):Int)>=2 ^ 63 then _ else _) _ _ _
 rw[ar (by omega)]
 exact aA (wpAny_mkInt (aE ⟨_,rfl,h⟩))
def Uc{X:Cx}:CallR X (.builtin "len") (λc H Q=>∃ a kvs,c=[.ref a]/\H a=aa (.dT kvs)/\Q (.int kvs.length) H):=by
 intro pQ s O H c m Q I r h;obtain⟨a,kvs,rfl,e,q⟩:=h;obtain⟨u,rfl,f⟩:=vals1 r;cases f;have p:=line63;have t:ay=16777216:=sizeLine_eq;obtain⟨n,k,c,d,o,es,ep,i,l,b,j,_⟩:=(show ObjOk X.prog X.w H s.heap a (.dT kvs) from I.hok a _ e);have g:es.size=kvs.length:=by rw[<-eT,j,aD];exact(Paired.length d).symm
 exact ZcI k ⟨o,i,l,b⟩ (by omega) ⟨.int kvs.length,H,I.tok _,⟨s.toks+1,by rw[g]⟩,q⟩
end
end Dp
namespace Dp
open PySem PySem.Spec PyProof.Rows L2 Builtin Builtin.Str
variable [ClsTab]
section
variable{X:Cx}{tg:az}
end
end Dp
namespace Dp
open PySem PySem.Spec PyProof.Rows L2
variable [ClsTab]
variable{X:Cx}{pQ:Li (Ad×Obj)}{s:Sd}{O:L2.St}{H:Hp}{Q:VK}
section
open Builtin
open AutoSeq1 (wpAny_loadPart')
theorem X6:fillsNumberSlot (.type "tuple") "mul"=pure af:=
 PySem.fillsNumberSlot_seq (id := "tuple.__mul__") (r:=aa (.builtin "tuple.__rmul__")) F.slot_tuple_mul.lookup (by decide +kernel) F.slot_tuple_rmul.lookup (by decide +kernel)
theorem VU:seqRepeat? (.type "tuple")=pure (aa (.builtin "tuple.__mul__")):=by
 unfold seqRepeat?
 rw[PySem.seqSlot_of (T := "tuple") (name := "__mul__") (id := "tuple.__mul__") F.slot_tuple_mul.lookup (by decide +kernel),PySem.seqSlot_of (T := "tuple") (name := "__rmul__") (id := "tuple.__rmul__") F.slot_tuple_rmul.lookup (by decide +kernel)]
 rfl
def Qn(a:Int)(t:Tok)(l:Ad)(b:Array vL)(n:Nat)(dd:Ot Ad)(sl:Array (Ot vL)):Meets (Builtin.«int.__rmul__» ⟨[.int a t,.ref l],[]⟩) (λ_ R s=>s.heap.get? l=aa { cls:=.type "tuple",dict:=dd,data:=.seq b n,slots:=sl }/\R (.ok (.ret Value.notImplemented)) s):=
 .of_wp λc w A R s h=>by obtain⟨i,g,d,e,f⟩:=s;obtain⟨j,h⟩:=h;wp_walk;exact⟨_,rfl,h⟩
def ZbG(l:Ad)(a:Array vL)(n:Nat)(dd:Ot Ad)(sl:Array (Ot vL))(u:Tok) :
  Meets (Builtin.«tuple.__mul__» ⟨[.ref l,.int 1 u],[]⟩) (λ_ R s=>s.heap.get? l=aa { cls:=.type "tuple",dict:=dd,data:=.seq a n,slots:=sl }/\R (.ok (.ret (b5 l))) s):=
 .of_wp λb w A R s h=>by
  obtain⟨i,g,d,e,f⟩:=s;obtain⟨c,h⟩:=h;have j:=AutoSeq1.idx_int;wp_walk using wpAny_loadPart' c;exact⟨_,rfl,h⟩
def ZbF(l:Ad)(items:Array vL)(n:Nat)(dd:Ot Ad)(sl:Array (Ot vL))(k:Int)(u:Tok)(e:¬items.isEmpty=ae)(c:k<=0)(p:-1000<=k) :
  Meets (Builtin.«tuple.__mul__» ⟨[.ref l,.int k u],[]⟩) (λ_ R s=>s.heap.get? l=aa { cls:=.type "tuple",dict:=dd,data:=.seq items n,slots:=sl }/\R (.ok (.ret (b5 s.heap.objs.size))) { s with heap:=s.heap.push { cls:=.type "tuple",data:=.seq #[] } }):=
 .of_wp λb w A R s h=>by
  obtain⟨o,g,d,j,m⟩:=s;obtain⟨a,h⟩:=h;have q:=AutoSeq1.idx_int;have i:(ak (k < -(2 ^ 63))||ak (k>=2 ^ 63))=af:=by rw[aI (by omega),aI (by omega)];rfl
  have f:(items.isEmpty||k==1)=af:=by
   have:(k==1)=af:=by rw[dN];omega
   rw[this,dO];simpa using e
  have r:(ak (k<=0)||items.isEmpty)=ae:=by rw[aF c];rfl
  wp_walk using wpAny_loadPart' a
  refine wpAny_ite_false (by rw[i];rfl) ?_
  wp_walk using wpAny_loadPart' a
  refine wpAny_ite_false (by rw[f];rfl) ?_
  wp_walk using wpAny_loadPart' a
  exact⟨_,rfl,h⟩
def ZbH(l:Ad)(items:Array vL)(n:Nat)(dd:Ot Ad)(sl:Array (Ot vL))(k:Int)(u:Tok)(b:items.size=1)(y:2<=k)(x:k<=1000) :
  Meets (Builtin.«tuple.__mul__» ⟨[.ref l,.int k u],[]⟩) (λ_ R s=>s.heap.get? l=aa { cls:=.type "tuple",dict:=dd,data:=.seq items n,slots:=sl }/\R (.ok (.ret (b5 s.heap.objs.size))) { s with heap:=s.heap.push { cls:=.type "tuple",data:=.seq ((ag k.toNat items).foldl (λe c=>e++c) #[]) } }):=
 .of_wp λf w A R s h=>by
  obtain⟨v,g,d,r,t⟩:=s;obtain⟨a,h⟩:=h;have B:=AutoSeq1.idx_int;have q:(ak (k < -(2 ^ 63))||ak (k>=2 ^ 63))=af:=by rw[aI (by omega),aI (by omega)];rfl
  have i:items.isEmpty=af:=by
   rw[Array.isEmpty_eq_false_iff];intro z;rw[z]at b;simp at b
  have p:(items.isEmpty||k==1)=af:=by
   have:(k==1)=af:=by rw[dN];omega
   rw[this,dO];exact i
  have o:(ak (k<=0)||items.isEmpty)=af:=by rw[aI (by omega),i];rfl
  have m:ak ((items.size:Int) * k > (2 ^ 63 - 1) / 8)=af:=by rw[b];exact aI (by omega)
  have j:Tuple.tupleTooMany ((items.size:Int) * k)=af:=by
   unfold Tuple.tupleTooMany;rw[b];exact aI (by have:(ay:Int)>=1000:=(by decide);omega)
  have C:ak (((ag k.toNat items).foldl (λe c=>e++c) #[]).size > ay)=af:=by
   rw[AutoListH.size_joined];refine aI ?_;have:ay>=1000:=by decide
   simp only[b,Array.size_empty];omega
  wp_walk using wpAny_loadPart' a
  refine wpAny_ite_false (by rw[q];rfl) ?_
  wp_walk using wpAny_loadPart' a
  refine wpAny_ite_false (by rw[p];rfl) ?_
  wp_walk using wpAny_loadPart' a
  refine wpAny_ite_false (by rw[o];rfl) ?_
  wp_walk using wpAny_loadPart' a
  refine wpAny_ite_false m ?_
  wp_walk using wpAny_loadPart' a
  refine wpAny_ite_false (by rw[j];rfl) ?_
  wp_walk using wpAny_loadPart' a
  exact⟨_,rfl,h⟩
theorem ZcX{a:Ad}{v:V}{k:Int}{t:Tok}(I:L2.Inv X pQ O H s)(L:TupAt X.K H a [v])(N:k<=1000)(M:-1000<=k)(E:k=1->Q (.ref a) H)(D:∀ p,H p=ab->Q (.ref p) (upd H p (.tup (ag k.toNat v)))):bf (bg X.prog X.w) X.A (bx .Mult (.ref a) (.int k t)) (EP X pQ O Q) X.xe s:=by
 obtain⟨J,r,G,_⟩:=I.tuple (L.sq);obtain⟨u,rfl,B⟩:=r.one;obtain⟨⟨Y,dd,W,sl⟩,d,l,n,i⟩:=id G;simp only at l i;subst l i;have f:∀ c:Li vL,Vals (ag k.toNat v) c->EP X pQ O Q (.ref s.heap.objs.size) { s with heap:=s.heap.push { cls:=.type "tuple",data:=.seq c.toArray } }:=λc C=>
  ⟨.ref s.heap.objs.size,_,I.laid (t':=s.toks) (o:=.tup (ag k.toNat v)) (λb S q=>aT _ q) (aB _) ⟨by rw[fM];exact aK (show k.toNat<=1000 by omega) (by decide),c,C,IsTup.new _ _⟩,rfl,D _ (I.hok.fresh (aB _))⟩
 refine wpAny_binaryOp_repeat_ref (T := "tuple") (U := "int") (by decide) ⟨_,d,rfl⟩ (λy=>typeIs_int y k t) X6 F.fills_int_mul F.slot_int_rmul VU F.slot_int_index.lookup
  (call_meets F.slot_int_rmul (typeIs_int s k t) F.entry_int_rmul (F.args_int_rmul_2 _ _) (Qn k t a _ n dd sl) ⟨d,rfl,⟨_,d,rfl⟩,?_⟩)
 by_cases P:k=1
 .subst P
  exact call_meets F.slot_tuple_mul ⟨_,d,rfl⟩ F.entry_tuple_mul (F.args_tuple_mul_2 _ _) (ZbG a _ n dd sl t) ⟨d,⟨.ref a,H,I,rfl,E rfl⟩⟩
 .by_cases R:k<=0
  .refine call_meets F.slot_tuple_mul ⟨_,d,rfl⟩ F.entry_tuple_mul (F.args_tuple_mul_2 _ _) (ZbF a _ n dd sl k t (by simp) R M) ⟨d,?_⟩
   have z:k.toNat=0:=by omega
   exact f [] (by rw[z];exact .nil)
  .refine call_meets F.slot_tuple_mul ⟨_,d,rfl⟩ F.entry_tuple_mul (F.args_tuple_mul_2 _ _) (ZbH a _ n dd sl k t (by simp) (by omega) N) ⟨d,?_⟩
   have e:List.foldl (λx m=>x++m) #[] (ag k.toNat [u].toArray)=(ag k.toNat u).toArray:=by
    have h:=foldl_rep [u] k.toNat [];rw[eK]at h;rw[show([]:Li vL).toArray=#[] from rfl]at h;rw[h]
    congr 1
    generalize k.toNat=j
    induction j with
    |zero=>rfl
    |succ j g=>rw[dB,dC,g,dB];rfl
   rw[e];refine f _ ?_;generalize k.toNat=j
   induction j with
   |zero=>exact .nil
   |succ j g=>exact .cons B g
end
def Yx:Zg<=ay:=by decide
variable{i j:Int}{xs ys:Li V}{op:Operator}{ds:Li D}{ad:Li Ad}{d:D}{st:Za}{hi:Ot Int}{prog:bh}{w:bt}{A:bw}{E:vL->Sd->Prop}{k:Bool}{K:Fg}
variable{X:Cx}
def Qd(h:ZT i=ae):-(2 ^ 64) < i/\i < 2 ^ 64:=by
 unfold ZT at h;rw[Ba]at h;exact⟨ao h.1,ao h.2⟩
def Zb4{a b:Ad}(I:Inv X pQ O H s)(q:TupAt X.K H a xs)(o:TupAt X.K H b ys)(B:xs.length+ys.length<=ay)(v:xs=[]->Q (.ref b) H)(u:ys=[]->Q (.ref a) H)(t:∀ p,H p=ab->Q (.ref p) (upd H p (.tup (xs++ys)))):bf (bg X.prog X.w) X.A (bx .Add (.ref a) (.ref b)) (EP X pQ O Q) X.xe s:=by
 by_cases i:xs=[]
 .obtain⟨h,r,y,_⟩:=I.tuple (q.sq)
  obtain⟨c,E,x,_⟩:=I.tuple (o.sq);have C:h=[]:=r.nil_iff.mpr i;subst C;obtain⟨⟨L,dd,G,sl⟩,k,m,n,l⟩:=id y;obtain⟨⟨J,j,D,g⟩,d,f,z,e⟩:=id x;simp only at m l f e;subst m l f e;exact concat_meets ⟨_,k,rfl⟩ ⟨_,d,rfl⟩ noFill_tuple_add seq_tuple_add PySem.F.slot_tuple_add PySem.F.entry_tuple_add (PySem.F.args_tuple_add_2 _ _)
   (tuple_addW0 a b #[] c.toArray n z dd j sl g rfl) ⟨k,d,⟨.ref b,H,I,rfl,v i⟩⟩
 .exact op_catT pQ s O H (.ref a) (.ref b) _ _ Q I rfl rfl ⟨a,b,xs,ys,rfl,rfl,(q).sq,(o).sq,i,B,u,λ_=>t⟩
def Jf(hi:0<=i)(a:0<=j):Builtin.bitAnd i j=((i.toNat &&& j.toNat:Nat):Int):=by
 unfold Builtin.bitAnd;simp[hi,a]
def Jg(hi:0<=i)(a:j < 0):Builtin.bitAnd i j=i - ((i.toNat &&& (-j - 1).toNat:Nat):Int):=by
 unfold Builtin.bitAnd;rw[aF hi,aI (by omega)]
 rfl
def JX(hi:0<=i)(b:0<=j):Builtin.bitOr i j=((i.toNat ||| j.toNat:Nat):Int):=by
 unfold Builtin.bitOr;have n:∀ {k:Int},0<=k->ak (0<=Builtin.bitNot k)=af:=λ{k} h=>by unfold Builtin.bitNot;exact aI (by omega)
 have a:∀ k:Int,Builtin.bitNot (Builtin.bitNot k)=k:=λk=>by unfold Builtin.bitNot;omega
 have e:Builtin.bitAnd (Builtin.bitNot i) (Builtin.bitNot j)=Builtin.bitNot ((Builtin.bitNot (Builtin.bitNot i)).toNat ||| (Builtin.bitNot (Builtin.bitNot j)).toNat:Nat):=by
  unfold Builtin.bitAnd;rw[n hi,n b]
 rw[e,a,a,a]
def ZcP{k:Int}{v u:vL}(I:L2.Inv X pQ O H s)(c:RelV (.int i) v)(b:RelV (.int j) u)(e:UZ op i j=aa k)(p:Q (.int k) H) :
  bf (bg X.prog X.w) X.A (bx op v u) (EP X pQ O Q) X.xe s:=by
 unfold UZ at e;split at e
 .cases e
  exact op_add pQ s O H _ _ v u Q I c b ⟨_,_,rfl,rfl,p⟩
 .cases e
  exact op_sub pQ s O H _ _ v u Q I c b ⟨_,_,rfl,rfl,p⟩
 .split at e
  .rename_i a
   cases e;refine op_mul pQ s O H _ _ v u Q I c b ⟨_,_,rfl,rfl,?_,p⟩;rw[cB]at a;exact a.elim (λz=>.inl (Qd z)) λz=>.inr (Qd z)
  .cases e
 .split at e
  .rename_i a
   cases e;exact op_fdiv pQ s O H _ _ v u Q I c b ⟨_,_,rfl,rfl,a,p⟩
  .split at e
   .rename_i a
    cases e;exact op_fdivN pQ s O H _ _ v u Q I c b ⟨_,_,rfl,rfl,⟨by omega,by omega⟩,p⟩
   .cases e
 .split at e
  .rename_i a
   cases e;exact op_mod pQ s O H _ _ v u Q I c b ⟨_,_,rfl,rfl,a,p⟩
  .split at e
   .rename_i a
    cases e;exact op_modN pQ s O H _ _ v u Q I c b ⟨_,_,rfl,rfl,(by omega),p⟩
   .cases e
 .split at e
  .rename_i a
   cases e;have:=Qd a.2.2;exact op_shl pQ s O H _ _ v u Q I c b ⟨_,_,rfl,rfl,⟨a.1,by omega,by omega⟩,p⟩
  .cases e
 .split at e
  .rename_i a
   cases e;refine op_and pQ s O H _ _ v u Q I c b ⟨_,_,rfl,rfl,?_⟩;dsimp only;rw[Jf a.1 a.2];exact p
  .split at e
   .rename_i a
    cases e;refine op_and pQ s O H _ _ v u Q I c b ⟨_,_,rfl,rfl,?_⟩;dsimp only;rw[Jg a.1 a.2];exact p
   .cases e
 .split at e
  .rename_i a
   cases e;refine op_or pQ s O H _ _ v u Q I c b ⟨_,_,rfl,rfl,?_⟩;dsimp only;rw[JX a.1 a.2];exact p
  .cases e
 .cases e
def Jj{a b:Ad}(I:L2.Inv X pQ O H s)(C:SqL X.K H a xs)(B:SqL X.K H b ys)(G:xs.length+ys.length<=ay)(q:∀ p,H p=ab->Q (.ref p) (upd H p (.lst (xs++ys)))):bf (bg X.prog X.w) X.A (bx .Add (.ref a) (.ref b)) (EP X pQ O Q) X.xe s:=by
 obtain⟨d,r,y,_⟩:=I.list C;obtain⟨c,l,x,_⟩:=I.list B;obtain⟨⟨cls,dd,u,sl⟩,m,t,n,o⟩:=id y.isList;obtain⟨⟨v,j,k,i⟩,f,h,z,g⟩:=id x.isList;simp only at t o h g;subst t o h g;have e:d.toArray++c.toArray=(d++c).toArray:=by simp
 have E:=r.length;have D:=l.length;refine concat_meets ⟨_,m,rfl⟩ ⟨_,f,rfl⟩ noFill_list_add seq_list_add PySem.F.slot_list_add PySem.F.entry_list_add (PySem.F.args_list_add_2 _ _) (list_addW a b d.toArray c.toArray n z dd j sl i (by simp;omega)) ⟨m,f,?_⟩
 rw[e];exact⟨.ref _,_,I.lnew (t':=s.toks) (r.append l) (by rw[aG];omega),rfl,q _ I.fresh⟩
def UU(h:Uv op=ae):op=.Add:=by cases op<;>first|rfl|cases h
def ZaT(h:ZaE op=ae):op=.Mult:=by cases op<;>first|rfl|cases h
def ZcO:OpR X (bx op) (rD X.K (Vy op)):=by
 intro pQ s O H x y v u Q I r o h;obtain⟨ad,st,R,P,d,st',S,m,l,e,p⟩:=h;unfold Vy at e;split at e
 .split at e
  .rename_i k q
   cases e;cases m;cases l
   exact ZcP I r o q (p.at S (.int _))
  .exact Zb e
 .split at e
  .rename_i i
   cases UU i.1
   have g:=i.2;cases e;obtain⟨a,xs,rfl,j,c⟩:=m.ofTup;obtain⟨b,ys,rfl,E,A⟩:=l.ofTup;cases r;cases o
   refine Zb4 I j E (by rw[c.length,A.length];exact aK g Yx) (λz=>?_) (λz=>?_) λq f=>?_
   .subst z;cases c
    exact p.at S l
   .subst z;cases A
    rw[bD]at p;exact p.at S m
   .exact p _ ad _ (Ext.laid f) (S.laid f) (.tup (.inl upd_same) ((c.append A).mono (Ext.laid f)))
  .exact Zb e
 .split at e
  .rename_i i
   cases ZaT i
   obtain⟨a,xs,rfl,j,c⟩:=m.ofTup;cases l;cases r;obtain⟨t,rfl⟩:=o;cases c with
   |nil=>exact Zb e
   |cons B c=>cases c with
    |cons _ _=>exact Zb e
    |nil=>
     have e:(if _/\_ then aa (D.tup (ag _ _),st) else ab)=aa (d,st'):=e
     split at e
     .rename_i g
      cases e;refine ZcX I j g.1 g.2 (λz=>?_) λq f=>p _ ad _ (Ext.laid f) (S.laid f) (.tup (.inl upd_same) ((Dens.rep B _).mono (Ext.laid f)))
      subst z;exact p.at S (.tup j (.cons B .nil))
     .exact Zb e
  .exact Zb e
 .split at e
  .rename_i n
   cases UU n
   unfold Ug at e;split at e
   .rename_i xs ys C G
    split at e
    .rename_i g
     cases e;obtain⟨a,rfl,j⟩:=m.ofLst;obtain⟨b,rfl,E⟩:=l.ofLst;obtain⟨vs,c,F⟩:=S.list j C;obtain⟨N,A,L⟩:=S.list E G;cases r;cases o
     refine Jj I F L (by rw[c.length,A.length];exact aK g Yx) λq f=>?_
     refine p _ (ad++[q]) _ (Ext.push f) (S.push f (c.append A)) (.newL ?_);rw[<-S.len];exact Zu
    .exact Zb e
   .exact Zb e
  .exact Zb e
 .split at e
  .rename_i n
   cases ZaT n
   unfold Zgc at e;split at e
   .rename_i z C
    split at e
    .rename_i g
     cases e;obtain⟨a,rfl,j⟩:=m.ofLst;obtain⟨vs,c,F⟩:=S.listM j C;cases l;cases c with
     |cons B c=>
      cases c;rename_i w;refine op_rep pQ s O H _ _ v u Q I r o ⟨a,_,[w],rfl,rfl,F,by omega,by omega,?_,λq f=>?_⟩
      .rw[fN,Nat.one_mul]
       exact aK (show _<=1000 by omega) (by decide)
      .have M:∀ k:Nat,(ag k [w]).flatten=ag k w:=λk=>by
        induction k with
        |zero=>rfl
        |succ k J=>rw[dB,dC,J,dB];rfl
       rw[M];refine p _ (ad++[q]) _ (Ext.push f) (S.push f (Dens.rep B _)) (.newL ?_);rw[<-S.len];exact Zu
    .exact Zb e
   .exact Zb e
  .exact Zb e
 .split at e
  .rename_i g
   cases UU g.1
   cases e;cases m;cases l
   exact op_add_str pQ s O H _ _ v u Q I r o ⟨_,_,rfl,rfl,aK g.2 Yx,p.at S (.str _)⟩
  .exact Zb e
 .exact Zb e
def Zdt:UnR X (unaryOp .USub) (rU1 X.K ZeN):=by
 intro pQ s O H x v Q I a h;obtain⟨ad,st,c,d,st',S,b,e,p⟩:=h;unfold ZeN at e;split at e
 .cases e;cases b
  exact un_neg pQ s O H _ v Q I a ⟨_,rfl,p.at S (.int _)⟩
 .exact Zb e
def Zds:UnR X (unaryOp .Invert) (rU1 X.K ZeB):=by
 intro pQ s O H x v Q I a h;obtain⟨ad,st,c,d,st',S,b,e,p⟩:=h;unfold ZeB at e;split at e
 .cases e;cases b
  exact un_inv pQ s O H _ v Q I a ⟨_,rfl,p.at S (.int _)⟩
 .exact Zb e
def UW(r:Dens X.K ad H xs ds)(e:atD ds i=aa d):∃ v,atI xs i=aa v/\Den X.K ad H v d:=by
 unfold atD at e;have a:L2.ixN xs.length i=Dp.ixN ds.length i:=by rw[r.length];rfl
 cases q:Dp.ixN ds.length i with
 |none=>rw[q]at e;cases e
 |some j=>
  rw[q]at e;obtain⟨v,c,b⟩:=r.get (i:=j) e;refine⟨v,?_,b⟩;unfold atI;rw[a,q];exact c
theorem XR{ad:Li Ad}{H:Hp}{k:Str}:∀ {ks:Li Str}{vs:Li V}{ds:Li D},Dens X.K ad H vs ds->ks.length=vs.length->
  (∃ v d,valV ((ks.zip vs).map λp=>((Sum.inr p.1:Key),p.2)) (Sum.inr k)=aa v/\Yc ks ds k=aa d/\Den X.K ad H v d)\/(valV ((ks.zip vs).map λp=>((Sum.inr p.1:Key),p.2)) (Sum.inr k)=ab/\Yc ks ds k=ab)
 |[],_,_,.nil,_=>.inr ⟨rfl,rfl⟩
 |[],_,_,.cons _ _,h=>by simp at h
 |_ :: _,_,_,.nil,h=>by simp at h
 |x :: ks,v :: vs,d :: ds,.cons b r,h=>by
  by_cases e:x=k
  .subst e
   exact .inl ⟨v,d,valV_pos rfl,by simp[Yc],b⟩
  .have a:=XR (k:=k) r (by simpa using h)
   have f:valV (((x :: ks).zip (v :: vs)).map λp=>((Sum.inr p.1:Key),p.2)) (Sum.inr k)=valV ((ks.zip vs).map λp=>((Sum.inr p.1:Key),p.2)) (Sum.inr k):=valV_neg (p:=(Sum.inr x,v)) (by intro z;exact e (Sum.inr.inj z))
   have c:Yc (x :: ks) (d :: ds) k=Yc ks ds k:=by simp[Yc,e]
   rw[f,c];exact a
def U5{ks:Li D}{a:Nat}{o:Ot D}(h:dAt ks a st=aa o):∃ i j b xs,ks=[.int i,.int j]/\st[a]?=aa (b,xs)/\o=Yj xs i j:=by
 cases ks with
 |nil=>exact Zb h
 |cons x ks=>cases ks with
  |nil=>exact Zb h
  |cons y ks=>cases ks with
   |cons _ _=>exact Zb h
   |nil=>
    refine ZU (P:=λo=>∃ i j b xs,[x,y]=[D.int i,.int j]/\st[a]?=aa (b,xs)/\o=Yj xs i j) h λp c d f=>?_
    refine ZU (P:=λp:Int×Int=>∃ i j b xs,[x,y]=[D.int i,.int j]/\st[a]?=aa (b,xs)/\Yj c.2 p.1 p.2=Yj xs i j) d λi j hi e=>?_
    exact⟨i,j,c.1,c.2,by rw[QN hi,QN e],f,rfl⟩
def XH{y:V}(a:Den X.K ad H y (.tup [.int i,.int j])):∃ b,y=.ref b/\SqT X.K H b (([.inl i,.inl j]:Li Key).map kV):=by
 obtain⟨b,xs,rfl,c,r⟩:=a.ofTup;cases r with
 |cons e r=>cases r with
  |cons d r=>cases r;cases e;cases d;exact⟨b,rfl,c.sq⟩
def ZfI{x:Str}(q:atD ((chS x).map D.str) i=aa d):∃ c,atI x.cps.toList i=aa c/\d=.str ⟨#[c]⟩:=by
 unfold atD at q;unfold atI;have b:((chS x).map D.str).length=x.cps.toList.length:=by simp[chS]
 rw[b]at q;show ∃ c,(Dp.ixN x.cps.toList.length i).bind (λj=>x.cps.toList[j]?)=aa c/\_
 cases e:Dp.ixN x.cps.toList.length i with
 |none=>rw[e]at q;cases q
 |some j=>
  rw[e]at q;have q:((chS x).map D.str)[j]?=aa d:=q;unfold chS at q;rw[aV,aV]at q;show ∃ c,x.cps.toList[j]?=aa c/\_;cases a:x.cps.toList[j]? with
  |none=>rw[a]at q;cases q
  |some c=>rw[a]at q;cases q;exact⟨c,rfl,rfl⟩
def ZgG(hu:X.A.units+64 < cLine):IxR X (rD X.K ixR):=by
 intro f slice pQ s O H x y v u Q I t m h C;obtain⟨ad,st,Z,Y,d,st',S,B,z,e,p⟩:=h;unfold ixR at e;split at e
 .rename_i d' q
  cases e;unfold ixD at q;split at q
  .obtain⟨a,xs,rfl,l,r⟩:=B.ofTup
   cases z;obtain⟨w,k,g⟩:=UW r q;exact ix_tup f slice pQ s O H _ _ v u Q I t m ⟨a,xs,_,w,rfl,rfl,(l).sq,k,p.at S g⟩ C
  .split at q
   .rename_i D
    obtain⟨a,rfl,l⟩:=B.ofLst;cases z;obtain⟨xs,r,sq⟩:=S.list l D;obtain⟨w,k,g⟩:=UW r q;exact ix_list f slice pQ s O H _ _ v u Q I t m ⟨a,xs,_,w,rfl,rfl,sq,k,p.at S g⟩ C
   .exact Zb q
  .obtain⟨a,vs,rfl,l,L,r⟩:=B.ofDct
   cases z;rcases XR r L with⟨w,W,k,g,F⟩|⟨_,g⟩
   .rw[g]at q
    cases q;exact ix_dct f slice pQ s O H _ _ v u Q I t m ⟨a,_,Sum.inr _,w,rfl,rfl,l,k,p.at S F⟩ C
   .rw[g]at q;cases q
  .obtain⟨a,o,E,n,rfl,V,U,T,R,P⟩:=B.ofKt
   cases z;obtain⟨w,k,g⟩:=UW (Vo _) q;exact ix_tup f slice pQ s O H _ _ v u Q I t m ⟨a,_,_,w,rfl,rfl,.inr ⟨o,E,n,V,U.1,T,R,P⟩,k,p.at S g⟩ C
  .refine j_e q λq=>?_
   obtain⟨i,j,bb,es,rfl,D,q⟩:=U5 q;obtain⟨a,rfl,l,J⟩:=B.ofDic;obtain⟨kvs,r,M,_⟩:=S.dict l J D;obtain⟨b,rfl,N⟩:=XH z;rcases Xs r with⟨w,W,k,g,F⟩|⟨_,g⟩
   .rw[g]at q
    cases q;exact ix_dT (by omega) f slice pQ s O H _ _ v u Q I t m ⟨a,b,kvs,_,w,rfl,rfl,N,M,k,p.at S F⟩ C
   .rw[g]at q;cases q
  .split at q
   .rename_i G
    cases B;cases z
    obtain⟨c,k,rfl⟩:=ZfI q;exact ix_str f slice pQ s O H _ _ v u Q I t m ⟨_,_,c,rfl,rfl,aK G Yx,k,p.at S (.str _)⟩ C
   .exact Zb q
  .exact Zb q
 .exact Zb e
def YN(n d:Nat)(o:Ot Int):Dp.sIx n d o=HT.sIx n d o:=by cases o<;>rfl
def J7{lo:Ot Int}(r:Dens X.K ad H xs ds):Dens X.K ad H (cutV xs lo hi) (Y4 ds lo hi):=by
 unfold cutV Y4;rw[<-r.length,YN,YN];exact(r.drop _).take _
def Va{t sl:Ad}{a:Array vL}{i g:vL}{lo:Ot Int}{Q:vL->Sd->Prop}(c:IsTup s.heap t a)(k:s.heap.IsSliceOf sl i g .none)(m:IsPart i lo)(l:IsPart g hi)(j:HT.sIx a.size 0 lo=0/\HT.sIx a.size a.size hi=a.size)(h:Q (.ref t) s):bf (bg prog w) A (getItem (.ref t) (.ref sl)) Q E s:=by
 obtain⟨n,d,e,o⟩:=id k;have f:s.TypeIs (.ref sl) "slice":=⟨n,d,e⟩;unfold getItem
 try with_reducible refine wpAny_holding ?_
 first|refine aA (aE ?_)|skip
 refine aA (wpAny_sequenceKey c.typeIs (by decide) ?_)
 refine aA (wpAny_callSpecial?_slot (name:=Str.ofString "__getitem__") c.typeIs PyProof.Rows.slot_tuple_getitem
  (wpAny_call_entry PyProof.Rows.slot_tuple_getitem c.typeIs PyProof.Rows.entry_tuple_getitem ?_ (PyProof.Rows.args_tuple_getitem _ _)))
 show bf _ _ (Builtin.Tuple.tupleItemsOf (.ref t) >>= _) _ _ s;refine aA (tupleItemsOf_ c ?_);refine aA (wpAny_typeOf f ?_);rw[aq (by decide)]
 refine aA (HT.sliceApplied_gen k m l ?_);rw[j.1,j.2];have b:(((0:Nat):Int)==0&&(1:Int)==1&&(a.size - 0)==a.size)=ae:=by simp
 show bf _ _ (if (((0:Nat):Int)==0&&(1:Int)==1&&(a.size - 0)==a.size)=ae then _ else _) _ _ s
 rw[aq b];unfold Builtin.Tuple.tupleIsExact
 wp_walk using wpAny_typeOf c.typeIs
 exact⟨_,rfl,aE h⟩
def ZbA:SlR X (λx lo hi H Q=>∃ a xs,x=.ref a/\SqT X.K H a xs/\(HT.sIx xs.length 0 lo=0/\HT.sIx xs.length xs.length hi=xs.length)/\Q (.ref a) H):=by
 intro pQ s O H x v m l lo hi sl Q I e k g f h;obtain⟨a,xs,rfl,i,j,q⟩:=h;cases e;obtain⟨c,r,d,n⟩:=I.tuple i;have b:c.toArray.size=xs.length:=by rw[aH];exact r.length.symm
 refine⟨"tuple",_,PyProof.Rows.slot_tuple_getitem.lookup,d.typeIs,?_⟩;exact Va d k g f (by rw[b];exact j) ⟨.ref a,H,I,rfl,q⟩
def ZhE:SlR X (rSl X.K):=by
 intro pQ s O H x v i g lo hi sl Q I j n l k h;obtain⟨ad,st,t,d,st',S,f,e,p⟩:=h;unfold Yh at e;split at e
 .rename_i ds
  split at e
  .rename_i m
   cases e;obtain⟨a,xs,rfl,c,r⟩:=f.ofTup;refine ZbA pQ s O H _ v i g lo hi sl Q I j n l k ⟨a,xs,rfl,c.sq,?_,p.at S f⟩;rw[r.length,<-YN,<-YN];exact m
  .rename_i m
   cases e;obtain⟨a,xs,rfl,c,r⟩:=f.ofTup;refine sl_tup pQ s O H _ v i g lo hi sl Q I j n l k ⟨a,xs,rfl,(c).sq,?_,λq b=>p _ ad _ (Ext.laid b) (S.laid b) (.tup (.inl upd_same) ((J7 r).mono (Ext.laid b)))⟩
   rw[r.length,<-YN,<-YN];exact m
 .split at e
  .rename_i o
   cases e;obtain⟨a,rfl,c⟩:=f.ofLst;obtain⟨xs,r,sq⟩:=S.list c o;refine sl_list pQ s O H _ v i g lo hi sl Q I j n l k ⟨a,xs,rfl,sq,λq b=>p _ (ad++[q]) _ (Ext.push b) (S.push b (J7 r)) (.newL ?_)⟩
   rw[<-S.len];exact Zu
  .exact Zb e
 .exact Zb e
def Vg{vs:Li V}(h:Dens X.K ad H vs [d]):∃ v,vs=[v]/\Den X.K ad H v d:=by
 cases h with
 |cons h r=>cases r;exact⟨_,rfl,h⟩
def Yp{g:D->Za->Res}{r:D×Za}(h:on1 g ds st=aa r):∃ d,ds=[d]/\g d st=aa r:=by
 unfold on1 at h;split at h
 .exact⟨_,rfl,h⟩
 .exact Zb h
def Ji:CallR X (.builtin "len") (rC X.K (on1 Qc)):=by
 intro pQ s O H xs b Q I r h;obtain⟨ad,st,ds,d,st',S,u,e,p⟩:=h;obtain⟨x,rfl,C⟩:=Yp e;have e:=C;obtain⟨v,rfl,f⟩:=Vg u;unfold Qc at e;split at e
 .rename_i n q
  cases e;unfold ZcH at q;split at q
  .cases q
   obtain⟨a,ys,rfl,j,c⟩:=f.ofTup;refine call_len_seq pQ s O H _ b Q I r ⟨a,ys,rfl,.inr ((j).sq),?_⟩;rw[c.length];exact p.at S (.int _)
  .split at q
   .rename_i g
    cases q;obtain⟨a,rfl,j⟩:=f.ofLst;obtain⟨ys,c,sq⟩:=S.list j g;refine call_len_seq pQ s O H _ b Q I r ⟨a,ys,rfl,.inl sq,?_⟩;rw[c.length];exact p.at S (.int _)
   .cases q
  .cases q
   obtain⟨a,o,i,n,rfl,B,A,z,y,w⟩:=f.ofKt;refine call_len_seq pQ s O H _ b Q I r ⟨a,_,rfl,.inr (.inr ⟨o,i,n,B,A.1,z,y,w⟩),?_⟩;rw[aD];exact p.at S (.int _)
  .split at q
   .rename_i k
    cases q;cases f
    exact call_len pQ s O H _ b Q I r ⟨_,_,rfl,⟨aK k Yx,rfl⟩,p.at S (.int _)⟩
   .cases q
  .split at q
   .rename_i g
    cases q;obtain⟨l,rfl,t,n⟩:=f.ofDic;obtain⟨kvs,c,m,_⟩:=S.dict t n g;refine Uc pQ s O H _ b Q I r ⟨l,kvs,rfl,m,?_⟩;rw[Xi c];exact p.at S (.int _)
   .cases q
  .cases q
 .exact Zb e
def Ud:CallR X (.type "tuple") (rC X.K (on1 V0)):=by
 intro pQ s O H xs g Q I r h;obtain⟨ad,st,ds,d,st',S,k,e,p⟩:=h;obtain⟨x,rfl,m⟩:=Yp e;have e:=m;obtain⟨v,rfl,b⟩:=Vg k;unfold V0 at e;split at e
 .cases e
  obtain⟨a,ys,rfl,f,i⟩:=b.ofTup;exact call_tuple_of pQ s O H _ g Q I r ⟨a,ys,rfl,.inr ⟨(f).sq,p.at S b⟩⟩
 .split at e
  .rename_i j
   cases e;obtain⟨a,rfl,f⟩:=b.ofLst;obtain⟨ys,i,sq⟩:=S.list f j;exact call_tuple_of pQ s O H _ g Q I r ⟨a,ys,rfl,.inl ⟨sq,λl c=>p _ ad _ (Ext.laid c) (S.laid c) (.tup (.inl upd_same) (i.mono (Ext.laid c)))⟩⟩
  .cases e
 .cases e
def U1:CallR X (.type "list") (rC X.K (on1 QQ)):=by
 intro pQ s O H xs g Q I r h;obtain⟨ad,st,ds,d,st',S,k,e,p⟩:=h;obtain⟨x,rfl,m⟩:=Yp e;have e:=m;obtain⟨v,rfl,i⟩:=Vg k;unfold QQ at e;split at e
 .cases e
  obtain⟨a,ys,rfl,f,c⟩:=i.ofTup;refine call_list_of pQ s O H _ g Q I r ⟨a,ys,rfl,.inr ((f).sq),λl b=>p _ (ad++[l]) _ (Ext.push b) (S.push b c) (.newL ?_)⟩
  rw[<-S.len];exact Zu
 .split at e
  .rename_i j
   cases e;obtain⟨a,rfl,f⟩:=i.ofLst;obtain⟨ys,c,sq⟩:=S.list f j;refine call_list_of pQ s O H _ g Q I r ⟨a,ys,rfl,.inl sq,λl b=>p _ (ad++[l]) _ (Ext.push b) (S.push b c) (.newL ?_)⟩
   rw[<-S.len];exact Zu
  .cases e
 .cases e
theorem Ub{ad:Li Ad}{H:Hp}:∀ {vs:Li V}{ds:Li D}{bs:Li Bool},Dens X.K ad H vs ds->Y9 ds=aa bs->vs=bs.map V.bl
 |_,_,_,.nil,e=>by cases e;rfl
 |_,_,bs,.cons (d:=d) h r,e=>by
  cases d with
  |bl b=>
   cases h;unfold Y9 at e;cases q:Y9 _ with
   |none=>rw[q]at e;cases e
   |some l=>rw[q]at e;cases e;rw[Ub r q];rfl
  |_=>simp[Y9]at e
theorem W4:∀ {bs:Li Bool}{its:Li vL},Vals (bs.map V.bl) its->its=bs.map Value.bool
 |[],_,.nil=>rfl
 |b :: bs,_,.cons r t=>by cases r;rw[W4 t];rfl
def Zbm{nm:String}{f:Li Bool->Bool}(u:∀ {prog:bh}{w:bt}{A:bw}{E:vL->Sd->Prop}{s:Sd}{l:Ad}{bs:Li Bool}{Q:vL->Sd->Prop},A.handled=ab->s.heap.IsList l (bs.map Value.bool).toArray->
   (∀ g c,(∀ b o,s.heap.get? b=aa o->g.get? b=aa o)->Q (.bool (f bs)) { s with heap:=g,toks:=c })->bf (bg prog w) A (call (.builtin nm) [.ref l]) Q E s)(B:X.calm=ae):CallR X (.builtin nm) (rC X.K (on1 (WX f))):=by
 intro pQ s O H xs J Q I r h;obtain⟨ad,st,ds,d,st',S,z,e,p⟩:=h;obtain⟨x,rfl,G⟩:=Yp e;have e:=G;obtain⟨v,rfl,y⟩:=Vg z;unfold WX at e;split at e
 .split at e
  .rename_i n
   split at e
   .rename_i bs m
    cases e;obtain⟨a,rfl,C⟩:=y.ofLst;obtain⟨ys,i,sq⟩:=S.list C n;cases r with
    |cons r j=>
     cases j;cases r
     obtain⟨t,rv,q,_⟩:=I.list sq;have F:=Ub i m;subst F;have D:=W4 rv;subst D;exact u (I.ok.hd B) q.isList λg c k=>⟨.bl _,H,I.kept (t':=c) k,rfl,p.at S (.bl _)⟩
   .exact Zb e
  .exact Zb e
 .exact Zb e
def ZcE{a:br}{o:Obj}(d:∀ b x,b∉[s.heap.objs.size]->(s.heap.push o).get? b=aa x->a.get? b=aa x):∀ b x,s.heap.get? b=aa x->a.get? b=aa x:=
 λb x e=>d b x (λc=>by rw[aQ.mp c]at e;exact cM _ (aJ e)) (aT _ e)
def Zb2{bs:Li Bool}{i:Nat}{v:vL}(h:(bs.map Value.bool).toArray[i]?=aa v):∃ b,bs[i]?=aa b/\v=.bool b:=by
 rw[List.getElem?_toArray,aV]at h;cases q:bs[i]? with
 |none=>rw[q]at h;cases h
 |some b=>rw[q]at h;cases h;exact⟨b,rfl,rfl⟩
def ZfB{l:Ad}{bs:Li Bool}{Q:vL->Sd->Prop}(m:A.handled=ab)(g:s.heap.IsList l (bs.map Value.bool).toArray)(h:∀ c d,(∀ b o,s.heap.get? b=aa o->c.get? b=aa o)->Q (.bool (bs.all id)) { s with heap:=c,toks:=d }):bf (bg prog w) A (call (.builtin "all") [.ref l]) Q E s:=by
 have f:l < s.heap.objs.size:=by obtain⟨_,e,_⟩:=g;exact aJ e
 refine call_all_walk (wpAny_pyIter_list g ?_);refine⟨s.heap.objs.size,[s.heap.objs.size,l],[s.heap.objs.size],(bs.map Value.bool).toArray.size,_,_,λi=>(bs[i]?).getD ae,rfl,Walks.list (A:=A.in1) m _ l (bG f) _,
  ⟨⟨_,bT _ rfl,rfl,rfl⟩,g.push _⟩,λi v q r t p j=>?_,λc d k=>?_⟩
 .obtain⟨b,e,rfl⟩:=Zb2 p
  simp only[e,fE]at j;exact wpAny_truthy_bool j
 .have e:((aj (bs.map Value.bool).toArray.size).all λi=>(bs[i]?).getD ae)=bs.all id:=by
   rw[aH,aD,cN,bZ,bZ];constructor
   .intro z b n
    obtain⟨i,hi,rfl⟩:=List.getElem_of_mem n;have:=z i (cG.mpr hi);simp only[Lg hi,fE]at this;exact this
   .intro z i hi
    have a:=cG.mp hi;simp only[Lg a,fE];exact z _ (bN a)
  rw[e];exact h c d (ZcE k)
noncomputable def tyN:Ty->String
 |.int => "int"
 |.bool => "bool"
 |.str => "str"
 |.tuple => "tuple"
noncomputable def ZaI:D->String
 |.int _ => "int"
 |.bl _ => "bool"
 |.str _ => "str"
 |.tup _ => "tuple"
 |.non => "NoneType"
 |_ => "list"
def ZaJ(K:Fg){T:Ty}(h:ZeD T d=aa k):W.kitOne K (.type (ZaI d)) (.type (tyN T))=aa k:=by
 cases d<;>first | (cases h;done) | (cases T<;>(cases h;rfl))
def Zgp{v:V}{T:Ty}(h:ZeD T d=aa k)(c:Den K ad H v d):TyOf K H v (.type (ZaI d))\/∃ a xs,v=.ref a/\SqT K H a xs/\ZaI d = "tuple":=by
 cases c with
 |non=>exact .inl .non
 |bl b=>exact .inl (.bl b)
 |int i=>exact .inl (.int i)
 |str x=>exact .inl (.str x)
 |tup e r=>exact .inr ⟨_,_,rfl,e.sq,rfl⟩
 |lst e=>exact Zb h
 |dic _ _=>exact Zb h
 |dct _ _ _ _ _=>exact Zb h
 |obj _ _=>exact Zb h
 |kt _ _ _ _ _ _=>exact Zb h
def J2{T:Ty}:CallR X (.builtin "isinstance") (λvs H Q=>∃ v,vs=[v,.ty (tyN T)]/\rC X.K (on1 (ZaF T)) [v] H Q):=by
 intro pQ s O H xs D Q I r h;obtain⟨v,rfl,ad,st,ds,d,st',S,u,e,p⟩:=h;obtain⟨x,rfl,B⟩:=Yp e;have e:=B;obtain⟨w,n,t⟩:=Vg u;cases n;unfold ZaF at e;split at e
 .rename_i k q
  cases e;cases r with
  |cons b i=>
   cases i with
   |cons g f=>
    cases f;cases g;rcases Zgp q t with ty|⟨a,C,rfl,sq,l⟩
    .exact isinst_ok I b ty (ZaJ X.K q) λc=>⟨.bl k,H,I.tok _,rfl,p.at S (.bl k)⟩
    .have kt:=ZaJ X.K q
     rw[l]at kt;cases b;obtain⟨m,_,j,_⟩:=I.tuple sq;obtain⟨o,A,y,_⟩:=j;exact W.kia_one W.kitx_tuple I.kIn ⟨o,A,y⟩ kt (λz=>nomatch z) λc=>⟨.bl k,H,I.tok _,rfl,p.at S (.bl k)⟩
 .exact Zb e
variable{e:az}{pos:Pos}
def UH(n:Nat):sliceRange ((n:Int) - 1) (-1) (-1)=(aj n).map λk=>n - 1 - k:=by
 unfold sliceRange;rw[ar (by omega)]
 have e:(if (n:Int) - 1 > -1 then ((n:Int) - 1 - -1 - -1 - 1) / (- -1) else 0).toNat=n:=by
  split
  .have:((n:Int) - 1 - -1 - -1 - 1) / (- -1)=(n:Int):=by
    rw[show(- -1:Int)=1 by omega,Int.ediv_one];omega
   rw[this];simp
  .have:n=0:=by omega
   subst this;rfl
 show List.map (λ(k:Nat)=>((n:Int) - 1+-1 * (k:Int)).toNat) (aj (if (n:Int) - 1 > -1 then ((n:Int) - 1 - -1 - -1 - 1) / (- -1) else 0).toNat)=_
 rw[e];apply List.map_congr_left
 intro k a;omega
theorem Zah(a:Li vL):∀ (L:Li Nat),(∀ k∈L,k < a.length)->L.filterMap (a.toArray[·]?)=L.map λk=>a.getD k .none
 |[],_=>rfl
 |k :: L,h=>by
  have c:=h k (Ls ..);have e:a.toArray[k]?=aa (a.getD k .none):=by
   rw[List.getElem?_toArray,aP,Lg c];rfl
  rw[fK,e,aZ,Zah a L λb d=>h b (Lm _ d)]
def Zbg(a:Li vL):slicePick a.toArray ab ab (aa (-1))=a.reverse.toArray:=by
 unfold slicePick;have b:sliceBounds ab ab (aa (-1)) a.toArray.size=((a.length:Int) - 1,-1,-1):=by
  simp[sliceBounds]
 rw[b];show((sliceRange ((a.length:Int) - 1) (-1) (-1)).filterMap (a.toArray[·]?)).toArray=_;rw[UH,Zah a _ (λk c=>by
  obtain⟨j,d,rfl⟩:=aR.mp c;have:=cG.mp d;omega)]
 congr 1
 apply List.ext_getElem
 .simp
 .intro k e f
  have c:k < a.length:=by simpa using e
  simp only[List.getElem_map,List.getElem_range,List.getElem_reverse];rw[aP,Lg (by omega)]
  rfl
def ZhC(K:Fg):V->Hp->VK->Prop:=λx H Q=>∃ a xs,x=.ref a/\SqL K H a xs/\∀ p,H p=ab->Q (.ref p) (upd H p (.lst xs.reverse))
def Zgm(K:Fg)(b a:TE):TE:=λO H Q=>b O H λx d=>a O d λy c=>y=.int (-1)/\ZhC K x c Q
theorem UR:∀ {xs:Li V}{its:Li vL},Vals xs its->Vals xs.reverse its.reverse
 |_,_,.nil=>.nil
 |_,_,.cons a r=>by
  rw[fA,fA];exact(UR r).append (.cons a .nil)
theorem Uk{K:Fg}{ad:Li Ad}{H:Hp}:∀ {xs:Li V}{ds:Li D},Dens K ad H xs ds->Dens K ad H xs.reverse ds.reverse
 |_,_,.nil=>.nil
 |_,_,.cons a r=>by
  rw[fA,fA];exact(Uk r).append (.cons a .nil)
def ZeT{es:az}{g f:TE}{i:Pos}(D:PE X e g)(C:PE X es f):PE X (.Subscript e (.Slice ab ab (aa es) i) pos) (Zgm X.K g f):=by
 intro pQ s O H Q I h;refine Subscript_ (thn (D pQ s O H _ I h) λv s1 ⟨x,J,F,m,p⟩=>?_)
 refine wpAny_Slice ?_;rw[evalPart_none];refine aE ?_;refine aE ?_;rw[evalPart_some];refine thn (C pQ s1 O J _ F p) λvs c ⟨y,G,E,l,n⟩=>?_
 obtain⟨rfl,a,xs,rfl,sq,q⟩:=n;obtain⟨t,rfl⟩:=l;cases m;have d:Inv X pQ O G { c with heap:=c.heap.push { cls:=.type "slice",data:=.fields #[.none,.none,.int (-1) t] } }:=E.kept (t':=c.toks) λb u q=>aT _ q
 obtain⟨z,r,j,B⟩:=d.list sq;have k:=r.length;show bf (bg X.prog X.w) X.A (subscriptTail e (.Slice ab ab (aa es) i) (.ref a) (.ref c.heap.objs.size)) (EP X pQ O Q) X.xe { c with heap:=c.heap.push { cls:=.type "slice",data:=.fields #[.none,.none,.int (-1) t] } }
 refine tail_any (ops:=[.ref a,.ref c.heap.objs.size]) j.isList.typeIs slot_list_getitem.lookup ?_ (by with_unfolding_all rfl)
 refine wpAny_getItem_list_slice j.isList (Heap.IsSliceOf.new ..) .none .none (.int (-1) t) (by simp) ?_ (by rw[aH]<;>omega)
 rw[Zbg];refine⟨.ref _,_,d.laid (t':=c.toks) (o:=.lst xs.reverse) (λb u q=>aT _ q) (aB _) ?_,rfl,q _ (d.hok.fresh (aB _))⟩
 exact⟨by rw[dL];exact B,_,0,UR r,bT _ rfl⟩
variable [ClsTab]
def tDd(K:Fg)(c d:TE):TE:=λO H Q=>∀ p,H p=ab->(∀ o,K.lookup p≠aa o)->c O (upd H p (.dT [])) λx e=>d O e λv a=>∃ kvs b k,a p=aa (.dT kvs)/\kvs.length < ay/\x=.ref b/\a b=aa (.tup (k.map kV))/\Q (.ref p) (upd a p (.dT (putK kvs k v)))
def Zf7(hu:X.A.units+1 < cLine){a:az}{i j:TE}(J:PE X a i)(F:PE X e j):PE X (.Dict [aa a] [e] pos) (tDd X.K i j):=by
 intro pQ s O H Q I q;have E:=I.hok.fresh (aB s.heap.objs.size);have T:=I.laid (a:=s.heap.objs.size) (o:=.dT []) (h':=s.heap.push { cls:=.type "dict",data:=.dict #[] }) (t':=s.toks) (λ_ _ q=>aT _ q) (aB _) (dt_empty s.heap I.big)
 refine wpAny_Dict_any rfl rfl (by simp) (by show 1<=15;decide) (pairTrees_cons_walk (thn (J pQ _ O _ _ T (q _ E λo z=>au (aJ (I.kIn _ o z)) (cM _))) λt s1 ⟨x,V,S,u,B⟩=>thn (F pQ s1 O V _ S B) λW Y ⟨v,U,h,rv,kvs,b,k,f,n,ex,r,y⟩=>pairTrees_nil_walk ?_))
 subst ex;cases (show t=b5 b from u)
 obtain⟨z,G,xs,d,dd⟩:=dt_of h.hok f;have C:xs.length<=ay:=by rw[<-Paired.length d];exact z
 have n:(putK kvs k v).length<=ay:=by have:=length_putK kvs k v;omega
 unfold storeAll;rw[List.forIn_cons];refine aA (aA (wpAny_dictSet_heap (hsz:=C) (show(tupleKind (mixKind X.prog X.w)).room X.A from Nat.lt_of_succ_lt hu) (key_of h.hok r) dd λh' g D=>aE ?_))
 dsimp only;rw[List.forIn_nil];refine aE ?_;obtain⟨l,es,R,m,P,N,M,_,L⟩:=g;refine⟨.ref _,upd U _ (.dT (putK kvs k v)),d_write h (by rw[f];exact True.intro) D ⟨l,m⟩ ⟨n,G,_,(d.put k r rv).keeps λc ys p=>?_,l,es,R,m,P,N,M,L⟩,rfl,y⟩
 rw[upd_ne (ne_of p f (λz=>nomatch z))]
 exact p
variable{fa:Ev}
def Zex{C B:Ev}(O:L2.St)(H:Hp)(Q:VK)(h:tE X.K (ddE fa C B) O H Q):tDd X.K (tTup (tCons (tE X.K fa) (tCons (tE X.K C) tNil))) (tE X.K B) O H Q:=by
 obtain⟨ad,U,st,d,st',E,S,e,p⟩:=h;unfold ddE at e;split at e
 .rename_i i st1 N
  split at e
  .rename_i j f M
   split at e
   .rename_i z l L
    split at e
    .rename_i xs v
     split at e
     .rename_i P
      cases e;intro q x A;have g:=S.extD (kvs:=[]) x A;refine⟨ad++[q],U,st++[(ae,[])],.int i,st1,E.mono g,S.pushD x A,N,λw1 n H1 k Y V=>⟨n,U,st1,.int j,f,E.mono (g.trans k),Y,M,λZ c G u W T=>⟨show 2<=ay by decide,λt w=>?_⟩⟩⟩
      cases V.ofInt;cases T.ofInt;have s:Ext c G c (upd G t (.tup [.int i,.int j])):=Ext.laid w;refine⟨c,U,f,z,l,E.mono (g.trans (k.trans (u.trans s))),W.laid w,L,λJ b F o D R=>?_⟩
      have X:=k.trans (u.trans (s.trans o));have y:(ad++[q])[st.length]?=aa q:=by rw[<-S.len];exact Zu
      have a:=X.pre _ _ y;obtain⟨kvs,r,m,_⟩:=D.dict a ((X.kd _ _ y).mp ⟨_,upd_same⟩) v;have I:Ext b F b (upd F q (.dT (putK kvs [.inl i,.inl j] J))):=Ext.writeD m (aX a);exact⟨kvs,t,[.inl i,.inl j],m,by rw[Xi r];exact aW P (by decide),rfl,o.tup t _ upd_same,p _ b _ (g.trans (X.trans I)) (D.writeD a v m (Uo R r)) (.dic a ⟨_,upd_same⟩)⟩
     .exact Zb e
    .exact Zb e
   .exact Zb e
  .exact Zb e
 .exact Zb e
def Zcu(O:L2.St)(H:Hp)(Q:VK)(h:tE K (Zl fa ZcU) O H Q):tBM0 K "list" rPop (tE K fa) O H Q:=by
 obtain⟨ad,U,st,d,st',E,S,e,p⟩:=h;unfold Zl at e;split at e
 .rename_i x st1 o
  unfold ZcU at e;split at e
  .rename_i i
   split at e
   .rename_i ds g
    obtain⟨u,n,e⟩:=eW.mp e;cases e;refine⟨ad,U,st,.lst i,st1,E,S,o,λv a k m j t=>?_⟩
    obtain⟨l,rfl,c⟩:=t.ofLst;obtain⟨xs,r,b⟩:=j.listM c g;obtain⟨y,q,s⟩:=r.get n;have f:Ext a k a (upd k l (.lst xs.dropLast)):=Ext.write b (aX c.1);refine⟨.inl ⟨rfl,xs,.inl (.inl b)⟩,l,xs,y,rfl,rfl,b,by rw[r.length];exact q,p _ a _ (m.trans f) (j.write c g b ?_) (s.mono f)⟩
    rw[List.dropLast_eq_take,List.dropLast_eq_take,r.length];exact r.take _
   .exact Zb e
  .exact Zb e
 .exact Zb e
def Zaw{u:Ev}(O:L2.St)(H:Hp)(Q:VK)(h:tE K (ZE fa u Zbi) O H Q):tBM K "list" rPopAt (tE K fa) (tCons (tE K u) tNil) O H Q:=by
 obtain⟨ad,U,st,d,st',E,S,e,p⟩:=h;unfold ZE at e;split at e
 .rename_i x st1 D
  split at e
  .rename_i z g C
   unfold Zbi at e;split at e
   .rename_i i
    split at e
    .rename_i M ds t
     cases e;refine⟨ad,U,st,.lst i,st1,E,S,D,λv m N s n L=>?_⟩
     obtain⟨l,rfl,k⟩:=L.ofLst;obtain⟨b,I,F⟩:=W0 n k;obtain⟨f,_,sq⟩:=n.list k F;refine⟨.inl ⟨rfl,f,sq⟩,m,U,st1,.int 0,g,E.mono s,n,C,λw c B q A J=>?_⟩
     cases J.ofInt;have a:=k.mono q;obtain⟨xs,r,j⟩:=A.listM a t;cases r with
     |cons G r=>
      rename_i y ys;have o:Ext c B c (upd B l (.lst ys)):=Ext.write j (aX a.1);exact⟨l,y :: ys,0,0,y,rfl,rfl,j,by decide,by decide,PySem.StrLaws.seqIndex_nonneg (Int.le_refl 0) (by rw[aY];omega),rfl,p _ c _ (s.trans (q.trans o)) (A.write a t j r) (G.mono o)⟩
    .exact Zb e
   .exact Zb e
  .exact Zb e
 .exact Zb e
def Zbn(K:Fg):V->Li V->Hp->VK->Prop:=λx vs H Q=>∃ p kvs b k,x=.ref p/\H p=aa (.dT kvs)/\SqT K H b (k.map kV)/\((vs=[.ref b]/\Q ((valV kvs k).getD .non) H)\/∃ a,vs=[.ref b,a]/\Q ((valV kvs k).getD a) H)
def Vm{a:Ot V}{b:Ot vL}{x:V}{u:vL}(h:L2.RelO a b)(r:L2.RelV x u):L2.RelV (a.getD x) (b.getD u):=by
 cases a with
 |none=>cases b with
  |none=>exact r
  |some _=>exact h.elim
 |some _=>cases b with
  |none=>exact h.elim
  |some _=>exact h
def QX(hu:X.A.units+1 < cLine):MtM X "dict.get" (Zbn X.K):=by
 intro pQ s O H x vs v u Q I j rv h;obtain⟨p,kvs,b,k,rfl,o,r,h⟩:=h;cases j;obtain⟨t,e,xs,a,dd⟩:=dt_of I.hok o;obtain⟨n,l,i,_⟩:=I.tuple r;have d:=key_at (P:=X.prog) (w:=X.w) l i;rcases h with⟨rfl,q⟩|⟨y,rfl,q⟩
 .obtain⟨g,rfl,c⟩:=rv.one
  cases c;exact call_meetsIn PySem.F.slot_dict_get dd.typeIs PySem.F.entry_dict_get (PySem.F.args_dict_get_2 _ _) (meetsH_dict_get (tupleKind (mixKind X.prog X.w)) p b e) ⟨tupleKind_room_in1 hu,k,xs,d,dd,⟨_,H,I.tok _,Vm (x:=V.non) (a.val k) (show L2.RelV .non .none from rfl),q⟩⟩
 .obtain⟨g,f,rfl,c,m⟩:=rv.two
  cases c;exact call_meetsIn PySem.F.slot_dict_get dd.typeIs PySem.F.entry_dict_get (PySem.F.args_dict_get_3 _ _ _) (meetsH_dict_get_default (tupleKind (mixKind X.prog X.w)) p b e f) ⟨tupleKind_room_in1 hu,k,xs,d,dd,⟨_,H,I.tok _,Vm (a.val k) m,q⟩⟩
def ZdG{x y z:D}{st':Za}(h:gtD x y z st=aa (d,st')):∃ a i j b ds,x=.dic a/\y=.tup [.int i,.int j]/\st[a]?=aa (b,ds)/\d=(Yj ds i j).getD z/\st'=st:=by
 unfold gtD at h;split at h
 .obtain⟨o,f,c⟩:=eW.mp h
  cases c;obtain⟨i,j,b,ds,rfl,e,rfl⟩:=U5 f;exact⟨_,i,j,b,ds,rfl,rfl,e,rfl,rfl⟩
 .exact Zb h
def Zcn{B fd:Ev}(O:L2.St)(H:Hp)(Q:VK)(h:tE X.K (Yl fa B fd gtD) O H Q):tBM X.K "dict" (Zbn X.K) (tE X.K fa) (tCons (tE X.K B) (tCons (tE X.K fd) tNil)) O H Q:=by
 obtain⟨ad,U,st,d,st',E,S,e,p⟩:=h;unfold Yl at e;split at e
 .rename_i x st1 L
  split at e
  .rename_i y f J
   split at e
   .rename_i z F I
    obtain⟨a,i,j,bb,ds,rfl,rfl,G,rfl,rfl⟩:=ZdG e;refine⟨ad,U,st,_,st1,E,S,L,λv1 s H1 k Y V=>?_⟩
    obtain⟨l,rfl,A,n⟩:=V.ofDic;refine⟨.inr (.inr (.inl ⟨rfl,.inr n⟩)),s,U,st1,_,f,E.mono k,Y,J,λZ q H2 v W T=>⟨q,U,f,_,_,E.mono (k.trans v),W,I,λD g C u t R=>?_⟩⟩
    have c:=v.trans u;obtain⟨kvs,r,M,_⟩:=t.dict (c.pre _ _ A) ((c.kd _ _ A).mp n) G;obtain⟨b,rfl,N⟩:=XH (T.mono u);refine⟨l,kvs,b,_,rfl,M,N,.inr ⟨D,rfl,?_⟩⟩;rcases Xs r with⟨w,d0,o,m,P⟩|⟨o,m⟩
    .rw[o];rw[m]at p
     exact p _ g C (k.trans c) t P
    .rw[o];rw[m]at p
     exact p _ g C (k.trans c) t R
   .exact Zb e
  .exact Zb e
 .exact Zb e
def Zcm{u:Ev}(O:L2.St)(H:Hp)(Q:VK)(h:tE X.K (Yl fa u (evC .non) gtD) O H Q):tBM X.K "dict" (Zbn X.K) (tE X.K fa) (tCons (tE X.K u) tNil) O H Q:=by
 obtain⟨ad,U,st,d,st',E,S,e,p⟩:=h;unfold Yl at e;split at e
 .rename_i x st1 B
  split at e
  .rename_i y k A
   obtain⟨a,i,j,P,ds,rfl,rfl,z,rfl,rfl⟩:=ZdG (show gtD x y .non k=aa (d,st') from e);refine⟨ad,U,st,_,st1,E,S,B,λM q R g J I=>?_⟩
   obtain⟨l,rfl,t,n⟩:=I.ofDic;refine⟨.inr (.inr (.inl ⟨rfl,.inr n⟩)),q,U,st1,_,_,E.mono g,J,A,λL c v f s G=>?_⟩
   obtain⟨kvs,r,C,_⟩:=s.dict (f.pre _ _ t) ((f.kd _ _ t).mp n) z;obtain⟨b,rfl,D⟩:=XH G;refine⟨l,kvs,b,_,rfl,C,D,.inl ⟨rfl,?_⟩⟩;rcases Xs r with⟨w,N,o,m,F⟩|⟨o,m⟩
   .rw[o];rw[m]at p
    exact p _ c v (g.trans f) s F
   .rw[o];rw[m]at p
    exact p _ c v (g.trans f) s .non
  .exact Zb e
 .exact Zb e
end Dp
namespace Dp
open PySem PySem.Spec PyProof.Rows L2 PySem.W
variable [ClsTab]
variable{prog:bh}{w:bt}{A:bw}{E:vL->Sd->Prop}{s:Sd}
omit [ClsTab] in
def Zdm{a:Ad}{vs f:Li vL}{n:Nat}{P:PySem.Fin->Sd->Prop}{κ:SortKind}{φ:Nat->Int}(v:s.heap.get? a=aa (seqObj "list" vs.toArray n))(hN:vs.length<=400)(U:∀ l,(∀ b o,b≠a->s.heap.get? b=aa o->l.get? b=aa o)->2<=vs.length->∀ (Q:SortKind->Sd->Prop),Q κ { s with heap:=l }->bf (bg prog w) A (keyKind' vs.toArray) Q (λ_ _=>False) { s with heap:=l })(Y:∀ l,(∀ b o,b≠a->s.heap.get? b=aa o->l.get? b=aa o)->∀ i j C,i < vs.length->j < vs.length->C (ak (φ i < φ j)) { s with heap:=l }->kas_ask prog w A κ vs i j C { s with heap:=l })(hd:(aj vs.length).Pairwise λi j=>φ i≠φ j)(F:vs.length < 2->f=vs)(t:∀ R,LS.Srt φ R->R.Perm (aj vs.length)->f=R.map λi=>vs.getD i b6)(h:P (.done (.ret .none)) { s with heap:=sortedHeap s.heap a vs f.toArray }) :
  bf (bg prog w) A (Builtin.«list.sort» ⟨[.ref a],[]⟩) P E s:=by
 have J:f.length=vs.length:=by
  by_cases q:vs.length < 2
  .rw[F q]
  .have D:=List.mergeSort_perm (aj vs.length) λi j=>ak (φ i<=φ j)
   have z:LS.Srt φ ((aj vs.length).mergeSort λi j=>ak (φ i<=φ j)):=by
    have K:=List.pairwise_mergeSort (le:=λi j=>ak (φ i<=φ j)) (λa b c F k=>by rw[aO]at *;omega) (λa b=>by rw[cB,aO,aO];omega) (aj vs.length)
    exact(K.and ((D.pairwise_iff λh=>Ne.symm h).mpr hd)).imp λh=>by have:=ao h.1;have:=h.2;omega
   rw[t _ z D,aD,D.length_eq,bP]
 rw[list_sort_plain];have T:a < s.heap.objs.size:=aJ v;refine aA (listItems_at v rfl ?_);refine aA (listUpdate_at v rfl ?_ (by rw[aH,sizeLine_eq];omega) (aS _))
 obtain⟨H,u⟩:∃ H,(s.heap.update a (Obj.mapSeq λ_=>#[])).get? a=aa (seqObj "list" #[] H):=⟨_,get?_update_seq v (λ_=>#[])⟩
 refine aA (seqEpoch_at u rfl ?_);refine aA (wpAny_newTuple ?_ (by show vs.length<=_;rw[sizeLine_eq];omega))
 refine aA (wpAny_newList ?_ (aS _));refine wpAny_holding ?_;have g:(((s.heap.update a (Obj.mapSeq λ_=>#[])).push (seqObj "tuple" vs.toArray 0)).push (seqObj "list" #[] 0)).get? a=aa (seqObj "list" #[] H):=aT _ (aT _ u)
 have I:∀ b o,b≠a->s.heap.get? b=aa o->(((s.heap.update a (Obj.mapSeq λ_=>#[])).push (seqObj "tuple" vs.toArray 0)).push (seqObj "list" #[] 0)).get? b=aa o:=λb o L q=>
  aT _ (aT _ (by rw[Heap.get?_update_ne _ _ _ _ L];exact q))
 show bf (bg prog w) A _ P E { s with heap:=((s.heap.update a (Obj.mapSeq λ_=>#[])).push (seqObj "tuple" vs.toArray 0)).push (seqObj "list" #[] 0) }
 dsimp only;by_cases k:vs.toArray.size < 2
 .rw[aq k,aq k]
  refine aA (aE ?_);rw[StateT.run_pure];refine aA (aE ?_);dsimp only;have G:(arrOf (SortSt.mk' general' (vs.toArray.zip vs.toArray) #[] 7 ab)).map (·.2)=f.toArray:=by
   rw[F (by simpa using k)]
   show(vs.toArray.zip vs.toArray).map (·.2)=_;apply Array.toList_inj.mp
   simp only[Array.toList_map,Array.toList_zip,List.toList_toArray];exact List.map_snd_zip (aB _)
  rw[G];refine aA (seqEpoch_at g rfl ?_);refine aA (listUpdate_at g rfl ?_ (aS _) (by rw[aH,sizeLine_eq];omega))
  simp only[bne_self_eq_false,fF,if_false];exact aE h
 .rw[ar k,ar k]
  have B:2<=vs.length:=by rw[aH]at k;omega
  refine aA (cC (U _ I B (λd y=>d=κ/\y=_) ⟨rfl,rfl⟩) (λd y O=>?_) λ_ _ x=>x.elim)
  obtain⟨rfl,rfl⟩:=O;have e0:SortSt.mk' d (vs.toArray.zip vs.toArray) #[] 7 ab=LS.St d (LS.im (kas_item (vs.toArray.zip vs.toArray)) (aj vs.length)) #[] 7:=by
   have e:=kas_range (vs.toArray.zip vs.toArray);rw[show(vs.toArray.zip vs.toArray).size=vs.length by simp]at e
   rw[List.map_toArray]at e;unfold LS.St LS.im;rw[e]
  rw[e0];have Oo:LS.Or prog w A { s with heap:=((s.heap.update a (Obj.mapSeq λ_=>#[])).push (seqObj "tuple" vs.toArray 0)).push (seqObj "list" #[] 0) } d (kas_item (vs.toArray.zip vs.toArray)) φ vs.length:=⟨λi j W V C Z=>by
   have q:=Y _ I i j C W V Z;rw[kat_ask_eq rfl]at q;exact q⟩
  refine aA (cC (LS.runs_ok (E:=E) Oo ⟨hd,λx N=>cG.mp N⟩ (Q:=λ_ st'=>∃ R r m,LS.Srt φ R/\R.Perm (aj vs.length)/\st'=LS.St d (LS.im (kas_item (vs.toArray.zip vs.toArray)) R) r m) λR r m a1 a2=>⟨R,r,m,a1,a2,rfl⟩) ?_ λ_ _ e=>e)
  rintro⟨⟨⟩,st'⟩ y ⟨rfl,R,r,m,z,S,rfl⟩
  dsimp only;have G:(arrOf (LS.St d (LS.im (kas_item (vs.toArray.zip vs.toArray)) R) r m)).map (·.2)=f.toArray:=by
   rw[kat_snds (ks:=vs) (vs:=vs) rfl (p:=R.toArray) (by show LS.im _ R=_;unfold LS.im;rw[List.map_toArray]),t R z S]
  rw[G];have X:failedOf (LS.St d (LS.im (kas_item (vs.toArray.zip vs.toArray)) R) r m)=ab:=rfl;have M:f.toArray.size<=ay:=by
   rw[aH,sizeLine_eq];omega
  refine aA (seqEpoch_at g rfl ?_);refine aA (listUpdate_at g rfl ?_ (aS _) (fR M));rw[X];simp only[bne_self_eq_false,fF,if_false];exact aE h
section
variable{d:Ad}{es:Array DictEntry}{ep:Nat}
omit [ClsTab] in
def Za7:Builtin.Dict_items.ownsTuple "dict_keyiterator"=af:=by decide
omit [ClsTab] in
theorem ZaW{b:Ad}{i:Nat}{Q:Ot vL->Sd->Prop}(a:s.heap.IsKeyIter b d i es.size ep)(l:Raw s.heap d es ep)(j:i < es.size)(p:∀ k,k.IsKeyIter b d (i+1) es.size ep->Heap.SameBut b s.heap k->Q (aa es[i].key) { s with heap:=k }):bf (bg prog w) A (pyNext (.ref b)) Q E s:=by
 obtain⟨o,h,n,g⟩:=id a;obtain⟨q,e,m,f⟩:=id l;unfold pyNext;refine aA (wpAny_attempt (wpAny_callSpecial?_slot (name:=Str.ofString "__next__") a.typeIs F.slot_dict_keyiterator_next (wpAny_call_entry F.slot_dict_keyiterator_next a.typeIs F.entry_dict_keyiterator_next ?_ (F.args_dict_keyiterator_next_1 _))));refine aA (aE (aA (aA ?_)))
 refine aA (wpAny_typeNameOfWhole_keyiter a.typeIs (aE (aA (wpAny_fieldsOf h g ?_))));simp only[Za7,fF,if_false];show bf _ _ (if (b5 d==b6)=ae then _ else _) _ _ s
 rw[ar (show ¬((b5 d==b6)=ae) from Bf)];refine aA (aE (aA (wpAny_dictEntries e f ?_)));rw[ar (by simp)]
 refine aA (aE (aA (wpAny_dictEpoch e f ?_)));rw[ar (by simp)]
 refine aE ?_;simp only[show ¬((i:Int) < 0) from by omega,if_false,bH,Array.getElem?_eq_getElem j]
 refine aA (aA (wpAny_typeNameOfWhole_keyiter a.typeIs (aE (aA (wpAny_isOneOf_keyiter a.typeIs ?_)))));show bf _ _ (setField (.ref b) 1 (rawInt ((i:Int)+1)) >>= _) _ _ s;refine aA (wpAny_setField h g (by simp) ?_)
 have c:(s.heap.update b (Obj.mapFields (·.setIfInBounds 1 (rawInt ((i:Int)+1))))).IsKeyIter b d (i+1) es.size ep:=
  ⟨_,Heap.get?_update_self _ h (Obj.isFreed_of_fields (Obj.data_mapFields g _)),(Obj.cls_mapFields ..).trans n,by rw[Obj.data_mapFields g];simp[rawInt]⟩
 refine aA (wpAny_holding (aA (wpAny_isOneOf_keyiter (s:={ s with heap:=s.heap.update b (Obj.mapFields (·.setIfInBounds 1 (rawInt ((i:Int)+1)))) }) c.typeIs ?_)))
 show bf _ _ (pure es[i].key) _ _ _;exact aE (aE ⟨_,rfl,aE (p _ c (Heap.SameBut.update ..))⟩)
omit [ClsTab] in
theorem Zcc{g:Ad}{Q:Ot vL->Sd->Prop}(l:A.handled=ab)(c:s.heap.IsKeyIter g d es.size es.size ep)(k:Raw s.heap d es ep)(p:∀ j,Heap.ExtBut g s.heap j->Q ab { s with heap:=j }):bf (bg prog w) A (pyNext (.ref g)) Q E s:=by
 obtain⟨o,h,r,i⟩:=id c;obtain⟨q,e,n,f⟩:=id k;unfold pyNext;refine aA (wpAny_attempt (wpAny_callSpecial?_slot (name:=Str.ofString "__next__") c.typeIs F.slot_dict_keyiterator_next (wpAny_call_entry F.slot_dict_keyiterator_next c.typeIs F.entry_dict_keyiterator_next ?_ (F.args_dict_keyiterator_next_1 _))));refine aA (aE (aA (aA ?_)))
 refine aA (wpAny_typeNameOfWhole_keyiter c.typeIs (aE (aA (wpAny_fieldsOf h i ?_))));simp only[Za7,fF,if_false];show bf _ _ (if (b5 d==b6)=ae then _ else _) _ _ s
 rw[ar (show ¬((b5 d==b6)=ae) from Bf)];refine aA (aE (aA (wpAny_dictEntries e f ?_)));rw[ar (by simp)]
 refine aA (aE (aA (wpAny_dictEpoch e f ?_)));rw[ar (by simp)]
 refine aE ?_;simp only[show ¬((es.size:Int) < 0) from by omega,if_false,bH,Array.getElem?_eq_none (aB es.size)]
 refine aA (aA (wpAny_typeNameOfWhole_keyiter c.typeIs (aE ?_)));show bf _ _ (setField (.ref g) 0 .none >>= _) _ _ s;refine aA (wpAny_setField h i (by simp) ?_)
 show bf _ _ (newExc (.type "StopIteration") [] >>= _) _ _ _;refine aA ?_;simp only[newExc,newTuple];refine aA (wpAny_newObj_type ?_ (by size_fits))
 refine aA (m:=firstArgMember _ _) (wpAny_of_eq (a:=b6) (by first|rfl | (simp only[firstArgMember];rfl)) (wpAny_newObj_type ?_ (by size_fits)))
 simp only[raiseNew];refine aA (wpAny_handled ?_);rw[show A.in1.handled=ab from l];refine aA (aE (wpAny_throw ?_));exact aA (wpAny_isInstance (T := "StopIteration") (b:=ae) ⟨_,bT _ rfl,rfl⟩ isSubtype_stop (aE (p _ (((Heap.SameBut.update ..).extBut.push _).push _))))
omit [ClsTab] in
def Raw.at{h a:br}(x:Raw h d es ep)(e:∀ o,h.get? d=aa o->a.get? d=aa o):Raw a d es ep:=let ⟨o,ho,r⟩:=x;⟨o,e _ ho,r⟩
omit [ClsTab] in
def Raw.lt{h:br}(x:Raw h d es ep):d < h.objs.size:=let ⟨_,ho,_⟩:=x;aJ ho
omit [ClsTab] in
def JD(p:A.handled=ab)(I:Ad)(j:d≠I):Walks prog w A I [I,d] [I] es.size (λi v=>∃ e,es[i]?=aa e/\v=e.key) (λi h=>h.IsKeyIter I d i es.size ep/\Raw h d es ep) where
 sub:=λb a=>by simp at a;simp[a]
 frame:=λ_ _ _ st m=>⟨st.1.at λo e=>m I (by simp) o e,st.2.at λo e=>m d (by simp) o e⟩
 item:=λi s Q E n st g=>ZaW st.1 st.2 n λl f c=>g _ l s.toks ⟨_,Array.getElem?_eq_getElem n,rfl⟩ ⟨f,st.2.at λo e=>c.extBut d o j e⟩ λb o a e=>c.extBut b o (λh=>a (by simp[h])) e
 done:=λs Q E st g=>Zcc p st.1 st.2 λl k=>g l s.toks λb o a e=>k b o (λh=>a (by simp[h])) e
 self:=λ_ _ _ _ st g=>wpAny_pyIter_keyiter st.1 g
omit [ClsTab] in
theorem Ju{Q:vL->Sd->Prop}(hd:(d==bv)=af)(e:Raw s.heap d es ep)(f:Q (.ref s.heap.objs.size) { s with heap:=s.heap.push { cls:=.type "dict_keyiterator",data:=.fields #[.ref d,.int 0 0,.int es.size 0,.int ep 0] } }) :
  bf (bg prog w) A (pyIter (.ref d)) Q E s:=by
 obtain⟨o,c,g,a⟩:=id e;have b:s.TypeIs (.ref d) "dict":=e.typeIs;refine wpAny_pyIter_slot b F.slot_dict_iter (wpAny_call_entry F.slot_dict_iter b F.entry_dict_iter ?_ (F.args_dict_iter_1 _));unfold Builtin.«dict.__iter__»
 refine aA ?_;unfold Builtin.Dict.dictSlotNone;refine aA (wpAny_notOrdered_dict b ?_);show bf _ _ (pure (b5 d)) _ _ s;refine aE ?_;show bf _ _ (Builtin.Dict.showsAll d >>= _) _ _ s;unfold Builtin.Dict.showsAll;rw[ar (by rw[hd];exact Bf)]
 refine aA (aE ?_);refine aA (wpAny_dictEntries c a ?_);refine aA (wpAny_dictEpoch c a ?_);refine aA (wpAny_newObj_type (aE ⟨_,rfl, "dict_keyiterator",_,⟨_,bT _ rfl,rfl⟩,F.slot_dict_keyiterator_next.lookup,?_⟩));simpa[rawInt] using f
omit [ClsTab] in
def ZbE(hd:(d==bv)=af):KdlSrc prog w "dict" d d es.size (λi v=>∃ e,es[i]?=aa e/\v=e.key) (λh=>Raw h d es ep) where
 type:=λ_ a=>a.typeIs
 there:=λ_ a=>⟨a.lt,a.lt⟩
 keep:=λ_ _ a c=>a.at λo e=>c d (.inl rfl) o e
 notList:=by decide
 notTuple:=by decide
 hint:=λ_ _ _ _ a b=>kdl_hint_dict a.typeIs b
 iter:=λ_ _ f a=>⟨_,_,(λ_ _ b=>Ju hd a b),JD f _ (bG a.lt),⟨⟨_,bT _ rfl,rfl,rfl⟩,a.at λo e=>aT _ e⟩⟩
omit [ClsTab] in
def Qr{vs out:Li vL}{κ:SortKind}{φ:Nat->Int}{Q:vL->Sd->Prop}(H:A.handled=ab)(hd:(d==bv)=af)(F:Raw s.heap d es ep)(B:es.toList.map (·.key)=vs)(hN:vs.length<=400)(G:∀ a f,(∀ b o,s.heap.get? b=aa o->a.get? b=aa o)->2<=vs.length->∀ (Q:SortKind->Sd->Prop),Q κ { s with heap:=a,toks:=f }->bf (bg prog w) A.in1.in1 (keyKind' vs.toArray) Q (λ_ _=>False) { s with heap:=a,toks:=f })(J:∀ a f,(∀ b o,s.heap.get? b=aa o->a.get? b=aa o)->∀ i j C,i < vs.length->j < vs.length->C (ak (φ i < φ j)) { s with heap:=a,toks:=f }->kas_ask prog w A.in1.in1 κ vs i j C { s with heap:=a,toks:=f })(y:(aj vs.length).Pairwise λi j=>φ i≠φ j)(u:vs.length < 2->out=vs)(t:∀ R,LS.Srt φ R->R.Perm (aj vs.length)->out=R.map λi=>vs.getD i b6)(h:∀ (q a:br) (f c:Nat),(∀ b o,s.heap.get? b=aa o->q.get? b=aa o)->(∀ b o,q.get? b=aa o->a.get? b=aa o)->a.get? q.objs.size=aa (seqObj "list" out.toArray c)->Q (.ref q.objs.size) { s with heap:=a,toks:=f }) :
  bf (bg prog w) A (call (.builtin "sorted") [.ref d]) Q E s:=by
 refine Calls.call_function_entry kind_sorted plain_sorted entry_sorted (args_sorted1 _) ?_;unfold Builtin.«sorted»
 refine aA (m:=checkCount "sorted" 1 1 _) (aE ?_);have r:es.size=vs.length:=by rw[<-B,aD,eT]
 refine aA (kdu_collect (A:=A.in1) (ZbE (es:=es) (ep:=ep) hd) H F (by rw[r,sizeLine_eq];omega) λa f p n l=>?_)
 have M:p.toList=vs:=by
  rw[<-B];apply List.ext_getElem?
  intro i;rw[eJ,aV,eJ];cases e:p[i]? with
  |none=>
   have:p.size<=i:=Array.getElem?_eq_none_iff.mp e;rw[l.1]at this;rw[Array.getElem?_eq_none this];rfl
  |some v=>
   obtain⟨O,N,rfl⟩:=l.2 i v e;rw[N];rfl
 rw[M];refine aA (wpAny_newList ?_ (by rw[sizeLine_eq];omega))
 have x:(a.push { cls:=.type "list",data:=.seq vs.toArray }).get? a.objs.size=aa (seqObj "list" vs.toArray 0):=bT _ rfl;have kp:∀ (g:br),(∀ b o,b≠a.objs.size->(a.push { cls:=.type "list",data:=.seq vs.toArray }).get? b=aa o->g.get? b=aa o)->∀ b o,s.heap.get? b=aa o->g.get? b=aa o:=λg k b o e=>
  k b o (bG (aJ (n b o e))) (aT _ (n b o e))
 refine aA (wpAny_holding (wpAny_call_entry slot_list_sort ⟨_,x,rfl⟩ entry_list_sort ?_ (args_list_sort _)));refine Zdm (s:={ s with heap:=a.push { cls:=.type "list",data:=.seq vs.toArray },toks:=f }) (κ:=κ) (φ:=φ) x hN (λg k D Q K=>G g f (kp g k) D Q K) (λg k i j C q z L=>J g f (kp g k) i j C q z L) y u t ?_
 refine⟨_,rfl,aE ⟨_,rfl,?_⟩⟩;obtain⟨c,I⟩:=sortedHeap_at (out:=out.toArray) x;refine h a _ f c n (λb o e=>?_) I
 rw[sortedHeap_old (bG (aJ e)) (by rw[size_push'];exact Nat.lt_succ_of_lt (aJ e))]
 exact aT _ e
end
def Xu(h:br)(p:Int×Int)(v:vL):Prop:=∃ a o n t u,v=.ref a/\h.get? a=aa o/\o.cls=.type "tuple"/\o.data=.seq #[.int p.1 t,.int p.2 u] n
omit [ClsTab] in
def ZcQ{h:br}{i j:Int}{a:Ad}(x:(tupleKind (mixKind prog w)).is h [.inl i,.inl j] a):Xu h (i,j) (.ref a):=by
 obtain⟨o,c,n,p,m,g,f⟩:=(show IsTupleKey (mixKind prog w) h [.inl i,.inl j] a from x);have b:∀ {k:Int}{v:vL},(mixKind prog w).is (.inl k) v=ae->∃ t,v=.int k t:=λ{k v} z=>by
  rcases keyIs_shape (show keyIs (.inl k) v=ae from z) with⟨i,t,e,rfl⟩|⟨x,t,e,_⟩
  .cases e;exact⟨t,rfl⟩
  .exact nomatch e
 obtain⟨l,d⟩:∃ l,c.toList=l:=⟨_,rfl⟩;rw[d]at f;cases f with
 |cons s r=>cases r with
  |cons q r=>
   cases r;obtain⟨t,rfl⟩:=b s;obtain⟨u,rfl⟩:=b q;refine⟨a,o,n,t,u,rfl,p,m,?_⟩;rw[g,<-d]
omit [ClsTab] in
def JW{p q:Int×Int}{v u:vL}{C:Bool->Sd->Prop}(f:Xu s.heap p v)(d:Xu s.heap q u)(B:0<=p.2/\p.2 < 1000)(z:0<=q.2/\q.2 < 1000)(h:C (ak (VO p < VO q)) s):bf (bg prog w) A (keyLt' (tuples' ae) v u) C E s:=by
 obtain⟨a,o,n,t,k,rfl,i,y,g⟩:=f;obtain⟨b,x,m,r,l,rfl,g1,g2,j⟩:=d;refine kat_lt i g g1 j ?_;unfold VO at h;refine kat_cons (wpAny_eqBool_int ?_);by_cases e:p.1=q.1
 .rw[show(p.1==q.1)=ae from beq_iff_eq.mpr e]
  refine kat_yes (kat_cons (wpAny_eqBool_int ?_));by_cases c:p.2=q.2
  .rw[show(p.2==q.2)=ae from beq_iff_eq.mpr c]
   refine kat_yes (kat_nil ?_);rw[aI (by omega)]at h
   exact h
  .rw[show(p.2==q.2)=af from dN.mpr c]
   rw[show ak (p.1 * 1000+p.2 < q.1 * 1000+q.2)=ak (p.2 < q.2) from decide_eq_decide.mpr (by omega)]at h
   exact kat_no (kat_one _ _ (wpAny_lt_int h))
 .rw[show(p.1==q.1)=af from dN.mpr e]
  rw[show ak (p.1 * 1000+p.2 < q.1 * 1000+q.2)=ak (p.1 < q.1) from decide_eq_decide.mpr (by omega)]at h
  exact kat_no (oneLt_int h)
omit [ClsTab] in
def Qa{vs:Li vL}{Q:SortKind->Sd->Prop}(b:∀ v∈vs,∃ p,Xu s.heap p v)(f:2<=vs.length)(h:Q (tuples' ae) s):bf (bg prog w) A (keyKind' vs.toArray) Q E s:=by
 have all:∀ {l:Li vL},(∀ v∈l,∃ p,Xu s.heap p v)->∃ fs,KatTups s.heap l fs/\fs.length=l.length/\∀ v∈fs,∃ i t,v=Value.int i t:=by
  intro l
  induction l with
  |nil=>intro _;exact⟨[],.nil,rfl,λ_ z=>nomatch z⟩
  |cons v l j=>
   intro e;obtain⟨fs,d,g,c⟩:=j λv b=>e v (Lm _ b)
   obtain⟨p,a,o,n,t,u,rfl,m,f,k⟩:=e v Ls;refine⟨.int p.1 t :: fs,.cons m f k rfl d,by rw[aY,aY,g],λx hx=>?_⟩
   rcases aL.mp hx with rfl|hx
   .exact⟨_,_,rfl⟩
   .exact c x hx
 obtain⟨fs,d,g,c⟩:=all b;refine kat_kind (T:=.type "int") d (by omega) (λv b=>?_) (by decide) h
 obtain⟨i,t,rfl⟩:=c v b;exact Looks.now
section
variable{K:Fg}{ad:Li Ad}{H:Hp}
def ZcF{kvs:Li (Li Key×V)}{ds:Li D}{ys:Li (Li Key×Ad×vL)}(e:Ents K ad H kvs ds)(r:KTp H kvs ys):Dens K ad H (ys.map λy=>V.ref y.2.1) ((Zw ds).map prD)/\∀ (i:Nat) (y:Li Key×Ad×vL),ys[i]?=aa y->y.1=[.inl ((Zw ds).getD i (0,0)).1,.inl ((Zw ds).getD i (0,0)).2]:=by
 induction e generalizing ys with
 |nil=>cases r;exact⟨.nil,λi y h=>nomatch h⟩
 |cons _ _ c=>cases r with
  |cons h r=>
   obtain⟨a,b⟩:=c r;refine⟨.cons (.tup (.inl h.2.1) (.cons (.int _) (.cons (.int _) .nil))) a,λi y e=>?_⟩
   cases i with
   |zero=>cases e;exact h.1.symm
   |succ i=>exact b i y e
theorem Vh{vs:Li V}{ds:Li D}(r:Dens K ad H vs ds):∀ (l:Li Nat),(∀ i∈l,i < ds.length)->Dens K ad H (l.map λi=>vs.getD i .non) (l.map λi=>ds.getD i .non)
 |[],_=>.nil
 |i :: l,h=>by
  refine .cons ?_ (Vh r l λj d=>h j (Lm _ d))
  have a:=h i Ls;obtain⟨v,f,e⟩:=r.get (Lg a);have c:vs.getD i .non=v:=by rw[aP,f];rfl
  have b:ds.getD i .non=ds[i]:=by rw[aP,Lg a];rfl
  show Den K ad H (vs.getD i .non) (ds.getD i .non);rw[c,b];exact e
omit [ClsTab] in
theorem Vp{vs:Li V}{a:Li vL}(r:Vals vs a):∀ (l:Li Nat),(∀ i∈l,i < vs.length)->Vals (l.map λi=>vs.getD i .non) (l.map λi=>a.getD i .none)
 |[],_=>.nil
 |i :: l,h=>by
  refine .cons ?_ (Vp r l λj e=>h j (Lm _ e))
  have b:=h i Ls;obtain⟨u,g,f⟩:=r.get (Lg b);have d:a.getD i .none=u:=by rw[aP,g];rfl
  have c:vs.getD i .non=vs[i]:=by rw[aP,Lg b];rfl
  show L2.RelV (vs.getD i .non) (a.getD i .none);rw[d,c];exact f
omit [ClsTab] in
def Yv(a:Li (Int×Int)):(Za6 a).Perm (aj a.length):=List.mergeSort_perm _ _
omit [ClsTab] in
def Zek(a:Li (Int×Int)):a.map VO=(aj a.length).map (atP a):=by
 apply List.ext_getElem?
 intro i;rw[aV,aV];by_cases h:i < a.length
 .rw[Lg h,List.getElem?_range h]
  show aa (VO a[i])=aa (VO (a.getD i (0,0)));rw[aP,Lg h];rfl
 .rw[dF (by omega),dF (by rw[bP];omega)];rfl
omit [ClsTab] in
def ZdR{a:Li (Int×Int)}(h:okP a=ae):(aj a.length).Pairwise λi j=>atP a i≠atP a j:=by
 unfold okP at h;rw[Ba,aO,Zek]at h;exact fX.mp h.2
omit [ClsTab] in
def ZdQ{a:Li (Int×Int)}(h:okP a=ae){i:Nat}(b:i < a.length):0<=(a.getD i (0,0)).2/\(a.getD i (0,0)).2 < 1000:=by
 unfold okP at h;rw[Ba]at h;have:=ao (bZ.mp h.1 a[i] (bN b));rw[aP,Lg b];exact this.2.2
omit [ClsTab] in
def Q2{d:Li (Int×Int)}(h:okP d=ae):LS.Srt (atP d) (Za6 d):=by
 have e:=List.pairwise_mergeSort (le:=λi j=>ak (atP d i<=atP d j)) (λa b c g f=>by rw[aO]at *;omega) (λa b=>by rw[cB,aO,aO];omega) (aj d.length)
 exact(e.and (((Yv d).pairwise_iff λh=>Ne.symm h).mpr (ZdR h))).imp λh=>by have:=ao h.1;have:=h.2;omega
omit [ClsTab] in
def ZeS{c:Li (Int×Int)}(h:okP c=ae){R:Li Nat}(d:LS.Srt (atP c) R)(e:R.Perm (aj c.length)):Za6 c=R:=
 List.Perm.eq_of_pairwise (le:=λi j=>atP c i < atP c j) (λa b _ _ f g=>au f (by omega)) (Q2 h) d ((Yv c).trans e.symm)
omit [ClsTab] in
def XU{a:Li (Int×Int)}:∀ i∈Za6 a,i < a.length:=λi b=>cG.mp ((Yv a).mem_iff.mp b)
omit [ClsTab] in
def Zbf{α:Type}{a:Li (Int×Int)}{z:α}{b:Li α}:(ZW a z b).length=a.length:=by
 unfold ZW;rw[aD,(Yv a).length_eq,bP]
omit [ClsTab] in
def Qk{α:Type}{z:α}:∀ {ps:Li (Int×Int)}{xs:Li α},xs.length=ps.length->ps.length < 2->ZW ps z xs=xs
 |[],[],_,_=>by
  have:=Yv [];unfold ZW;rw[List.Perm.eq_nil this];rfl
 |[p],[x],_,_=>by
  have:=Yv [p];unfold ZW;rw[List.perm_singleton.mp this];rfl
end
omit [ClsTab] in
theorem UJ:∀ {ys:Li (Li Key×Ad×vL)},Vals (ys.map λy=>V.ref y.2.1) (ys.map λy=>b5 y.2.1)
 |[]=>.nil
 |_ :: _=>.cons rfl UJ
def U0{X:Cx}(hc:X.calm=ae):CallR X (.builtin "sorted") (rC X.K (on1 QP)):=by
 intro pQ s O H xs us Q I r h;obtain⟨ad,st,ds,d,st',S,hd,e,p⟩:=h;obtain⟨x,rfl,B⟩:=Yp e;obtain⟨v,rfl,N⟩:=Vg hd;unfold QP at B;split at B
 .rename_i a
  split at B
  .rename_i b f q0
   split at B
   .rename_i L
    cases B;obtain⟨l,rfl,hl,n⟩:=N.ofDic;obtain⟨kvs,Y,hx,_⟩:=S.dict hl n q0;obtain⟨u1,rfl,r1⟩:=r.one;cases r1;obtain⟨_,G,ys,M,o,es,ep,h1,W,h3,h4,U,_⟩:=dt_of I.hok hx;obtain⟨Z,kk⟩:=ZcF Y M;have J:ys.length=(Zw f).length:=by have:=Z.length;rwa [aD,aD]at this
    have hl0:(Zw f).length=f.length:=by unfold Zw;rw[aD]
    have P:∀ (m:br),(∀ b o,s.heap.get? b=aa o->m.get? b=aa o)->∀ (i:Nat),i < ys.length->Xu m ((Zw f).getD i (0,0)) ((ys.map λy=>b5 y.2.1).getD i .none):=λm k i A=>by
     have z:(ys.map λy=>b5 y.2.1).getD i .none=.ref ys[i].2.1:=by rw[aP,aV,Lg A];rfl
     have w:=U ys[i] (bN A);rw[kk i _ (Lg A)]at w;obtain⟨a,o,n,t,u,B,e2,e3,e4⟩:=ZcQ w;rw[z];exact⟨a,o,n,t,u,B,k _ _ e2,e3,e4⟩
    have hm:∀ (m:br),(∀ b o,s.heap.get? b=aa o->m.get? b=aa o)->∀ v∈(ys.map λy=>b5 y.2.1),∃ p,Xu m p v:=λm k v N=>by
     obtain⟨i,A,rfl⟩:=List.mem_iff_getElem.mp N;have T:i < ys.length:=by rwa [aD]at A
     have zz:(ys.map λy=>b5 y.2.1).getD i .none=(ys.map λy=>b5 y.2.1)[i]:=by rw[aP,Lg A];rfl
     rw[<-zz];exact⟨_,P m k i T⟩
    have F:(ys.map λy=>b5 y.2.1).length=(Zw f).length:=by rw[aD,J]
    refine Qr (vs:=ys.map λy=>b5 y.2.1) (out:=ZW (Zw f) b6 (ys.map λy=>b5 y.2.1)) (κ:=tuples' ae) (φ:=atP (Zw f)) (I.ok.hd hc) G ⟨o,h1,W,h3⟩ (by rw[h4,bQ];rfl) (by rw[aD];omega)
     (λm E k W Q hQ=>Qa (s:={ s with heap:=m,toks:=E }) (hm m k) W hQ)
     (λm E k i j C A hj hC=>JW (s:={ s with heap:=m,toks:=E }) (P m k i (by rwa [aD]at A)) (P m k j (by rwa [aD]at hj)) (ZdQ L.2 (by omega)) (ZdQ L.2 (by omega)) hC)
     (by rw[F];exact ZdR L.2) (λq=>Qk F (by omega)) (λR hs hR=>by rw[F]at hR;unfold ZW;rw[ZeS L.2 hs hR])
     λg g' E c k k' hg=>?_
    have I2:L2.Inv X pQ O H { s with heap:=g,toks:=E }:=I.kept (t':=E) k
    have hf:=I2.hok.fresh (aB _);have hV:Vals (ZW (Zw f) V.non (ys.map λy=>V.ref y.2.1)) (ZW (Zw f) b6 (ys.map λy=>b5 y.2.1)):=
     Vp UJ _ (λi A=>by have:=XU i A;rw[aD];omega)
    have hD:Dens X.K ad H (ZW (Zw f) V.non (ys.map λy=>V.ref y.2.1)) (ZW (Zw f) D.non ((Zw f).map prD)):=
     Vh Z _ (λi A=>by have:=XU i A;rw[aD];omega)
    refine⟨.ref g.objs.size,upd H g.objs.size (.lst (ZW (Zw f) V.non (ys.map λy=>V.ref y.2.1))),I2.laid (t':=E) k' (aB _) (show ObjOk X.prog X.w _ _ _ (.lst _) from⟨?_,_,c,hV,hg⟩),rfl,p _ (ad++[_]) _ (Ext.push hf) (S.push hf hD) (.newL ?_)⟩
    .rw[Zbf,sizeLine_eq];omega
    .rw[<-S.len];exact Zu
   .exact Zb B
  .exact Zb B
 .exact Zb B
end Dp
namespace Dp
open PySem PySem.Spec PyProof.Rows L2
variable [ClsTab]
variable{A:bw}
section
open PySem.SeqAt PySem.MeetsSeq PySem.MeetsSeq2 PySem.MeetsSeq3 PySem.SeqRoads2
open AutoSeq1 (wpAny_loadPart')
def LtAt(A:bw)(s:Sd)(y x:vL)(b:Bool):Prop:=
 ∀ (prog:bh) (w:bt) (E:vL->Sd->Prop) (Q:vL->Sd->Prop),Q (.bool b) s->bf (bg prog w) A (richCompare .Lt y x) Q E s
noncomputable def ltR(e lt:Nat->Bool)(f:Bool):Li Nat->Bool
 |[]=>f
 |j :: r=>if e j=ae then ltR e lt f r else lt j
def Qy(l b:Ad)(items items2:Array vL)(n n2:Nat)(dd dd2:Ot Ad)(sl sl2:Array (Ot vL))(e lt:Nat->Bool) :
  Meets (Builtin.«tuple.__lt__» ⟨[.ref l,.ref b],[]⟩)
   (λA R s=>s.heap.get? l=aa { cls:=.type "tuple",dict:=dd,data:=.seq items n,slots:=sl }/\s.heap.get? b=aa { cls:=.type "tuple",dict:=dd2,data:=.seq items2 n2,slots:=sl2 } /\
    (∀ j (h1:j < items.size) (h2:j < items2.size),EqAt A.in1 s items[j] items2[j] (e j))/\(∀ j (h1:j < items.size) (h2:j < items2.size),(∀ i,i < j->e i=ae)->e j=af->LtAt A.in1 s items[j] items2[j] (lt j)) /\
    R (.ok (.ret (.bool (ltR e lt (ak (items.size < items2.size)) (aj (min items.size items2.size)))))) s):=
 .of_wp λprog w A R s h=>by
  obtain⟨hp,g,d,tk,os⟩:=s;obtain⟨hl,hb,he,hq,h⟩:=h;have f2:=AutoSeq1.sub_tuple_tuple;have hZ:(items.toList.zip items2.toList).length=min items.size items2.size:=by simp
  wp_walk using wpAny_loadPart' hl,wpAny_loadPart' hb,wpAny_forIn_list _ (λrest b s'=>b.1=ab/\s'=⟨hp,g,d,tk,os⟩/\∃ i,rest=(items.toList.zip items2.toList).drop i/\(∀ k,k < i->e k=ae) /\
   R (.ok (.ret (.bool (ltR e lt (ak (items.size < items2.size)) ((aj (min items.size items2.size)).drop i))))) ⟨hp,g,d,tk,os⟩) _
  case turn=>
   rintro⟨y,x⟩ rest b s' ⟨hb',rfl,i,hz,hk,hR⟩
   have hlt:i < (items.toList.zip items2.toList).length:=by
    rcases dW i (items.toList.zip items2.toList).length with h'|h'
    .exact h'
    .rw[dU h']at hz;cases hz
   have hm:i < min items.size items2.size:=hZ ▸ hlt;have h1:i < items.size:=aW hm (Nat.min_le_left _ _);have h2:i < items2.size:=aW hm (Nat.min_le_right _ _);rw[bV hlt]at hz
   injection hz with hyx hrest
   have hy:y=items[i]:=by have:=av Prod.fst hyx;simpa using this
   have hx:x=items2[i]:=by have:=av Prod.snd hyx;simpa using this
   subst hy hx;have hd:(aj (min items.size items2.size)).drop i=i :: (aj (min items.size items2.size)).drop (i+1):=by simp[bV,hm]
   rw[hd]at hR;have hR:R (.ok (.ret (.bool (if e i=ae then ltR e lt (ak (items.size < items2.size)) ((aj (min items.size items2.size)).drop (i+1)) else lt i)))) ⟨hp,g,d,tk,os⟩:=hR
   refine aA (he i h1 h2 prog w _ _ ?_);cases hy:e i with
   |true=>
    rw[hy]at hR
    wp_walk
    refine⟨rfl,rfl,i+1,hrest,λk hk'=>?_,by simpa using hR⟩
    rcases dW k i with h|h
    .exact hk k h
    .rw[show k=i by omega];exact hy
   |false=>
    rw[hy]at hR;have hz:∀ (E:vL->Sd->Prop) (Q:vL->Sd->Prop),Q (.bool (lt i)) ⟨hp,g,d,tk,os⟩->bf (bg prog w) A.in1 (richCompare .Lt items[i] items2[i]) Q E ⟨hp,g,d,tk,os⟩:=λE Q=>hq i h1 h2 hk hy prog w E Q
    generalize richCompare .Lt items[i] items2[i]=rc at hz ⊢
    wp_walk using hz _ _
    exact⟨_,rfl,by simpa using hR⟩
  case fin=>
   rintro⟨b1,b2⟩ s' ⟨hb',rfl,i,hz,_,hR⟩
   simp only at hb';subst hb';have hge:min items.size items2.size<=i:=by
    rcases dW i (items.toList.zip items2.toList).length with h'|h'
    .rw[bV h']at hz;cases hz
    .exact hZ ▸ h'
   rw[dU (by simpa using hge)]at hR
   wp_walk
   exact⟨_,rfl,by simpa[Builtin.Tuple.tupleCompareSizes,ltR] using hR⟩
  case h=>
   exact⟨rfl,rfl,0,rfl,λk hk=>au hk (by omega),by simpa using h⟩
theorem LtAt.tuples{s:Sd}{l b:Ad}{c a:Array vL}{e lt:Nat->Bool}(B:s.heap.IsTuple l c)(D:s.heap.IsTuple b a)(hu:A.units < cLine)(C:∀ j (H:j < c.size) (G:j < a.size),EqAt A.in1 s c[j] a[j] (e j))(z:∀ j (H:j < c.size) (G:j < a.size),(∀ i,i < j->e i=ae)->e j=af->LtAt A.in1 s c[j] a[j] (lt j)):LtAt A s (.ref l) (.ref b) (ltR e lt (ak (c.size < a.size)) (aj (min c.size a.size))):=λp w E Q h=>by
 obtain⟨⟨cls,dd,u,sl⟩,q,t,n,r⟩:=id B;obtain⟨⟨v,m,o,k⟩,d,g,y,f⟩:=id D;simp only at t r g f;subst t r g f;exact richCompare_meets_room (op:=.Lt) ⟨_,q,rfl⟩ ⟨_,d,rfl⟩ F.slot_tuple_lt F.entry_tuple_lt (F.args_tuple_lt_2 _ _) (Qy l b c a n y dd m sl k e lt)
  ⟨q,d,C,z,show Value.bool (ltR e lt (ak (c.size < a.size)) (aj (min c.size a.size)))≠Value.notImplemented/\Q (.bool (ltR e lt (ak (c.size < a.size)) (aj (min c.size a.size)))) s from⟨(λx=>nomatch x),h⟩⟩ hu
def GeAt(A:bw)(s:Sd)(y x:vL)(b:Bool):Prop:=
 ∀ (prog:bh) (w:bt) (E:vL->Sd->Prop) (Q:vL->Sd->Prop),Q (.bool b) s->bf (bg prog w) A (richCompare .GtE y x) Q E s
def Qx(l b:Ad)(items items2:Array vL)(n n2:Nat)(dd dd2:Ot Ad)(sl sl2:Array (Ot vL))(e lt:Nat->Bool) :
  Meets (Builtin.«tuple.__ge__» ⟨[.ref l,.ref b],[]⟩)
   (λA R s=>s.heap.get? l=aa { cls:=.type "tuple",dict:=dd,data:=.seq items n,slots:=sl }/\s.heap.get? b=aa { cls:=.type "tuple",dict:=dd2,data:=.seq items2 n2,slots:=sl2 } /\
    (∀ j (h1:j < items.size) (h2:j < items2.size),EqAt A.in1 s items[j] items2[j] (e j))/\(∀ j (h1:j < items.size) (h2:j < items2.size),(∀ i,i < j->e i=ae)->e j=af->GeAt A.in1 s items[j] items2[j] (lt j)) /\
    R (.ok (.ret (.bool (ltR e lt (ak (items2.size<=items.size)) (aj (min items.size items2.size)))))) s):=
 .of_wp λprog w A R s h=>by
  obtain⟨hp,g,d,tk,os⟩:=s;obtain⟨hl,hb,he,hq,h⟩:=h;have f2:=AutoSeq1.sub_tuple_tuple;have hZ:(items.toList.zip items2.toList).length=min items.size items2.size:=by simp
  wp_walk using wpAny_loadPart' hl,wpAny_loadPart' hb,wpAny_forIn_list _ (λrest b s'=>b.1=ab/\s'=⟨hp,g,d,tk,os⟩/\∃ i,rest=(items.toList.zip items2.toList).drop i/\(∀ k,k < i->e k=ae) /\
   R (.ok (.ret (.bool (ltR e lt (ak (items2.size<=items.size)) ((aj (min items.size items2.size)).drop i))))) ⟨hp,g,d,tk,os⟩) _
  case turn=>
   rintro⟨y,x⟩ rest b s' ⟨hb',rfl,i,hz,hk,hR⟩
   have hlt:i < (items.toList.zip items2.toList).length:=by
    rcases dW i (items.toList.zip items2.toList).length with h'|h'
    .exact h'
    .rw[dU h']at hz;cases hz
   have hm:i < min items.size items2.size:=hZ ▸ hlt;have h1:i < items.size:=aW hm (Nat.min_le_left _ _);have h2:i < items2.size:=aW hm (Nat.min_le_right _ _);rw[bV hlt]at hz
   injection hz with hyx hrest
   have hy:y=items[i]:=by have:=av Prod.fst hyx;simpa using this
   have hx:x=items2[i]:=by have:=av Prod.snd hyx;simpa using this
   subst hy hx;have hd:(aj (min items.size items2.size)).drop i=i :: (aj (min items.size items2.size)).drop (i+1):=by simp[bV,hm]
   rw[hd]at hR;have hR:R (.ok (.ret (.bool (if e i=ae then ltR e lt (ak (items2.size<=items.size)) ((aj (min items.size items2.size)).drop (i+1)) else lt i)))) ⟨hp,g,d,tk,os⟩:=hR
   refine aA (he i h1 h2 prog w _ _ ?_);cases hy:e i with
   |true=>
    rw[hy]at hR
    wp_walk
    refine⟨rfl,rfl,i+1,hrest,λk hk'=>?_,by simpa using hR⟩
    rcases dW k i with h|h
    .exact hk k h
    .rw[show k=i by omega];exact hy
   |false=>
    rw[hy]at hR;have hz:∀ (E:vL->Sd->Prop) (Q:vL->Sd->Prop),Q (.bool (lt i)) ⟨hp,g,d,tk,os⟩->bf (bg prog w) A.in1 (richCompare .GtE items[i] items2[i]) Q E ⟨hp,g,d,tk,os⟩:=λE Q=>hq i h1 h2 hk hy prog w E Q
    generalize richCompare .GtE items[i] items2[i]=rc at hz ⊢
    wp_walk using hz _ _
    exact⟨_,rfl,by simpa using hR⟩
  case fin=>
   rintro⟨b1,b2⟩ s' ⟨hb',rfl,i,hz,_,hR⟩
   simp only at hb';subst hb';have hge:min items.size items2.size<=i:=by
    rcases dW i (items.toList.zip items2.toList).length with h'|h'
    .rw[bV h']at hz;cases hz
    .exact hZ ▸ h'
   rw[dU (by simpa using hge)]at hR
   wp_walk
   exact⟨_,rfl,by simpa[Builtin.Tuple.tupleCompareSizes,ltR] using hR⟩
  case h=>
   exact⟨rfl,rfl,0,rfl,λk hk=>au hk (by omega),by simpa using h⟩
theorem GeAt.tuples{s:Sd}{l b:Ad}{c a:Array vL}{e lt:Nat->Bool}(B:s.heap.IsTuple l c)(D:s.heap.IsTuple b a)(hu:A.units < cLine)(C:∀ j (H:j < c.size) (G:j < a.size),EqAt A.in1 s c[j] a[j] (e j))(z:∀ j (H:j < c.size) (G:j < a.size),(∀ i,i < j->e i=ae)->e j=af->GeAt A.in1 s c[j] a[j] (lt j)):GeAt A s (.ref l) (.ref b) (ltR e lt (ak (a.size<=c.size)) (aj (min c.size a.size))):=λp w E Q h=>by
 obtain⟨⟨cls,dd,u,sl⟩,q,t,n,r⟩:=id B;obtain⟨⟨v,m,o,k⟩,d,g,y,f⟩:=id D;simp only at t r g f;subst t r g f;exact richCompare_meets_room (op:=.GtE) ⟨_,q,rfl⟩ ⟨_,d,rfl⟩ F.slot_tuple_ge F.entry_tuple_ge (F.args_tuple_ge_2 _ _) (Qx l b c a n y dd m sl k e lt)
  ⟨q,d,C,z,show Value.bool (ltR e lt (ak (a.size<=c.size)) (aj (min c.size a.size)))≠Value.notImplemented/\Q (.bool (ltR e lt (ak (a.size<=c.size)) (aj (min c.size a.size)))) s from⟨(λx=>nomatch x),h⟩⟩ hu
end
def eF(ds es:Li D)(i:Nat):Bool:=Zx ((ds[i]?).getD .non) ((es[i]?).getD .non)
noncomputable def lF(ds es:Li D)(i:Nat):Bool:=match ds[i]?,es[i]? with
 |some (.int a),aa (.int b)=>ak (a < b)
 |some (.str a),aa (.str b)=>ak (a.cps.toList < b.cps.toList)
 |_,_=>af
theorem QV{e lt:Nat->Bool}{f:Bool}:∀ {l:Li Nat},ltR e lt f (l.map Nat.succ)=ltR (λi=>e (i+1)) (λi=>lt (i+1)) f l
 |[]=>rfl
 |i :: l=>by
  show(if e (i+1)=ae then ltR e lt f (l.map Nat.succ) else lt (i+1))=_
  rw[QV];rfl
theorem ZaQ:∀ {ds es:Li D}{k:Bool},VL ds es=aa k->ltR (eF ds es) (lF ds es) (ak (ds.length < es.length)) (aj (min ds.length es.length))=k
 |[],[],k,h=>by cases h;rfl
 |[],y :: ys,k,h=>by
  have h:aa (ak (0 < ys.length+1))=aa k:=h;cases h;simp[ltR]
 |x :: a,[],k,h=>by cases h;simp[ltR]
 |x :: a,y :: ys,k,h=>by
  have e:min (x :: a).length (y :: ys).length=min a.length ys.length+1:=by simp only[aY];omega
  rw[e,List.range_succ_eq_map];show(if Zx x y=ae then ltR (eF (x :: a) (y :: ys)) (lF (x :: a) (y :: ys)) _ ((aj (min a.length ys.length)).map Nat.succ) else lF (x :: a) (y :: ys) 0)=k
  unfold VL at h;by_cases c:Zx x y=ae
  .rw[aq c]at h ⊢
   rw[QV,show ak ((x :: a).length < (y :: ys).length)=ak (a.length < ys.length) by simp]
   exact ZaQ h
  .rw[ar c]at h ⊢
   split at h
   .cases h;rfl
   .cases h;rfl
   .exact Zb h
theorem QW:∀ {ds es:Li D}{k:Bool}{j:Nat},VL ds es=aa k->j < ds.length->j < es.length->(∀ i,i < j->eF ds es i=ae)->eF ds es j=af->(∃ a b,ds[j]?=aa (.int a)/\es[j]?=aa (.int b))\/(∃ a b,ds[j]?=aa (.str a)/\es[j]?=aa (.str b))
 |[],_,_,_,_,f,_,_,_=>au f (by simp)
 |_ :: _,[],_,_,_,_,d,_,_=>au d (by simp)
 |x :: l,y :: ys,k,0,h,_,_,_,e=>by
  have e:Zx x y=af:=e;unfold VL at h;rw[ar (by rw[e];simp)]at h
  split at h
  .exact .inl ⟨_,_,rfl,rfl⟩
  .exact .inr ⟨_,_,rfl,rfl⟩
  .exact Zb h
 |x :: l,y :: ys,k,j+1,h,f,d,g,e=>by
  have c:Zx x y=ae:=g 0 (by omega)
  unfold VL at h;rw[aq c]at h;exact QW (j:=j) h (by simpa using f) (by simpa using d) (λi m=>g (i+1) (by omega)) e
variable{X:Cx}{H:Hp}{ad:Li Ad}{ys:Li V}{ds es:Li D}{k:Bool}
open PySem.SeqAt in
def ZcJ{s:Sd}{f:Li V}{a b:Li vL}(r:Dens X.K ad H f ds)(x:Dens X.K ad H ys es)(rv:Vals f a)(e:Vals ys b)(h:VL ds es=aa k) :
  ∀ j (l:j < a.toArray.size) (y:j < b.toArray.size),(∀ i,i < j->eF ds es i=ae)->eF ds es j=af->LtAt A s a.toArray[j] b.toArray[j] (lF ds es j):=λj l y M N=>by
 have R:a.toArray.size=ds.length:=by rw[aH,<-rv.length,r.length]
 have P:b.toArray.size=es.length:=by rw[aH,<-e.length,x.length]
 have get:∀ {f:Li V}{ds:Li D}{a:Li vL}{d:D} (l:j < a.toArray.size),Dens X.K ad H f ds->Vals f a->ds[j]?=aa d->∃ v,Den X.K ad H v d/\RelV v a.toArray[j]:=λ{f ds a d} l r rv g=>by
  obtain⟨v,J,o⟩:=r.get g;obtain⟨u,B,m⟩:=rv.get J;have O:a.toArray[j]=u:=by
   have:a[j]?=aa (a[j]'(by simpa using l)):=Lg _
   rw[B]at this;simpa using(aw this).symm
  exact⟨v,o,by rw[O];exact m⟩
 rcases QW h (by omega) (by omega) M N with⟨i,L,g1,g2⟩|⟨i,L,g1,g2⟩
 .obtain⟨F,o,m⟩:=get l r rv g1
  obtain⟨C,z,t⟩:=get y x e g2;cases o;cases z
  obtain⟨I,q⟩:=m;obtain⟨G,p⟩:=t;rw[q,p];intro n w E Q c;have c:Q (.bool (lF ds es j)) s:=c;unfold lF at c;rw[g1,g2]at c;exact lt_int c
 .obtain⟨F,o,m⟩:=get l r rv g1
  obtain⟨C,z,t⟩:=get y x e g2;cases o;cases z
  obtain⟨I,q⟩:=m;obtain⟨G,p⟩:=t;rw[q,p];intro n w E Q c;have c:Q (.bool (lF ds es j)) s:=c;unfold lF at c;rw[g1,g2]at c;exact lt_str c
variable{pQ:Li (Ad×Obj)}{O:L2.St}{n:Nat}
open PySem.SeqAt in
def ZcK{s:Sd}(I:Inv X pQ O H s){a b:Ad}{i:Li V}(o:Yo n ds=ae)(m:Yo n es=ae)(hu:A.units+n+1 < cLine)(e:TupAt X.K H a i)(r:Dens X.K ad H i ds)(x:TupAt X.K H b ys)(f:Dens X.K ad H ys es)(h:VL ds es=aa k):LtAt A s (.ref a) (.ref b) k:=by
 obtain⟨g,rv,p,_⟩:=I.tuple (e.sq);obtain⟨d,c,l,_⟩:=I.tuple (x.sq);have w:g.toArray.size=ds.length:=by rw[aH,<-rv.length,r.length]
 have v:d.toArray.size=es.length:=by rw[aH,<-c.length,f.length]
 have q:=LtAt.tuples (A:=A) (s:=s) (e:=eF ds es) (lt:=lF ds es) p l (by omega) (λj u t=>WI (a:=a) (b:=b) I o m hu r f rv c j u t) (ZcJ r f rv c h)
 rw[w,v,ZaQ h]at q;exact q
open PySem.SeqAt in
def Zch{s:Sd}(I:Inv X pQ O H s){a b:Ad}{o:Li V}{g k f i:Int}(hu:A.units+8 < cLine)(e:TupAt X.K H a o)(r:Dens X.K ad H o [.int g,.int k])(R:TupAt X.K H b ys)(D:Dens X.K ad H ys [.int f,.int i]):GeAt A s (.ref a) (.ref b) (if g=f then ak (i<=k) else ak (f<=g)):=by
 obtain⟨h,rv,p,_⟩:=I.tuple (e.sq);obtain⟨v,l,J,_⟩:=I.tuple (R.sq);have P:h.toArray.size=2:=by rw[aH,<-rv.length,r.length];rfl
 have N:v.toArray.size=2:=by rw[aH,<-l.length,D.length];rfl
 have y:∀ {o:Li V}{B z:Int}{h:Li vL},Dens X.K ad H o [.int B,.int z]->Vals o h->∃ t C,h=[.int B t,.int z C]:=λ{o B z h} r rv=>by
  cases r with
  |cons m r=>cases r with
   |cons x r=>
    cases r;cases m;cases x
    cases rv with
    |cons g1 rv=>cases rv with
     |cons g2 rv=>
      cases rv;obtain⟨t,rfl⟩:=g1;obtain⟨C,rfl⟩:=g2;exact⟨t,C,rfl⟩
 have F:A.units+1+1 < cLine:=by omega
 obtain⟨W,U,M⟩:=y r rv;obtain⟨T,S,L⟩:=y D l;have q:=GeAt.tuples (A:=A) (s:=s) (e:=eF [.int g,.int k] [.int f,.int i]) (lt:=λj=>if j=0 then ak (f<=g) else ak (i<=k)) p J (by omega) (λj m x=>WI (n:=1) (a:=a) (b:=b) I rfl rfl F r D rv l j m x) (λj m x _ _=>by
  subst M;subst L
  match j,m,x with
  |0,_,_=>exact λu w E Q G=>ge_int G
  |1,_,_=>exact λu w E Q G=>ge_int G
  |j+2,m,_=>exact au m (by show ¬j+2 < 2;omega))
 rw[P,N]at q;have ev:ltR (eF [.int g,.int k] [.int f,.int i]) (λj=>if j=0 then ak (f<=g) else ak (i<=k)) (ak (2<=2)) (aj (min 2 2))=(if g=f then ak (i<=k) else ak (f<=g)):=by
  show(if ak (g=f)=ae then (if ak (k=i)=ae then ae else ak (i<=k)) else ak (f<=g))=_
  by_cases c:g=f
  .rw[aq (aF c),aq c]
   by_cases d:k=i
   .rw[aq (aF d),aF (by omega)]
   .rw[ar (by rw[aO];exact d)]
  .rw[ar (by rw[aO];exact c),ar c]
 rw[ev]at q;exact q
variable{dx dy:D}{u:vL}{Q:VK}{st:Za}{op:CmpOp}
variable{X:Cx}
section
theorem ZaB{ad:Li Ad}{H:Hp}{k:Int}:∀ {xs:Li V}{ds:Li D}{b:Bool},Dens X.K ad H xs ds->Yu k ds=aa b->xs.all flatV=ae/\inV (.int k) xs=b
 |_,_,_,.nil,e=>by cases e;exact⟨rfl,rfl⟩
 |_,_,b,.cons (d:=d) h r,e=>by
  cases d with
  |int i=>
   cases h;unfold Yu at e;cases q:Yu k _ with
   |none=>rw[q]at e;cases e
   |some b'=>
    rw[q]at e;cases e;obtain⟨c,a⟩:=ZaB r q;refine⟨by rw[cH,c];rfl,?_⟩
    show((i==k)||inV (.int k) _)=(ak (i=k)||b');rw[a];rfl
  |_=>simp[Yu]at e
theorem U7{ad:Li Ad}{H:Hp}{k:Str}:∀ {xs:Li V}{ds:Li D}{b:Bool},Dens X.K ad H xs ds->Z0 k ds=aa b->xs.all flatV=ae/\inV (.str k) xs=b
 |_,_,_,.nil,e=>by cases e;exact⟨rfl,rfl⟩
 |_,_,b,.cons (d:=d) h r,e=>by
  cases d with
  |str i=>
   cases h;unfold Z0 at e;cases q:Z0 k _ with
   |none=>rw[q]at e;cases e
   |some b'=>
    rw[q]at e;cases e;obtain⟨c,a⟩:=U7 r q;refine⟨by rw[cH,c];rfl,?_⟩
    show((i==k)||inV (.str k) _)=(ak (i=k)||b');rw[a]
    congr 1
  |_=>simp[Z0]at e
def CW(X:Cx)(pQ:Li (Ad×Obj))(O:L2.St)(Q:VK)(s:Sd)(op:CmpOp)(v u:vL):Prop:=bf (bg X.prog X.w) X.A (bu op v u) (EP X pQ O Q) X.xe s
def CW2(X:Cx)(pQ:Li (Ad×Obj))(O:L2.St)(Q:VK)(s:Sd)(H:Hp)(op a:CmpOp)(v u:vL)(k:Bool):Prop:=(Q (.bl k) H->CW X pQ O Q s op v u)/\(Q (.bl (!k)) H->CW X pQ O Q s a v u)
noncomputable def vSc:Sc->V
 |.non=>.non
 |.bl b=>.bl b
 |.int i=>.int i
 |.str x=>.str x
def Den.vSc{K:Fg}{ad:Li Ad}{H:Hp}{x:V}{d:D}{a:Sc}(h:Den K ad H x d)(e:scD d=aa a):x=vSc a:=by
 cases h<;>cases e<;>rfl
def Zce{a b:Sc}(h:ZfQ a b=aa k):scal (vSc a) (vSc b)=ae/\ak (vSc a=vSc b)=k:=by
 cases a<;>cases b<;>first
  | (cases h;done)
  | (cases h;exact⟨rfl,rfl⟩)
  | (cases h;exact⟨rfl,dec_bl⟩)
  | (cases h;exact⟨rfl,by simp[vSc]⟩)
inductive EqD(x y:V):D->D->Bool->Prop
 |sc {dx dy:D}{k:Bool} (h3:scal x y=ae) (h4:ak (x=y)=k):EqD x y dx dy k
 |tup {xs ys:List D} (h:(okD 8 (.tup xs)&&okD 8 (.tup ys))=ae):EqD x y (.tup xs) (.tup ys) (Zt xs ys)
def Zcd{K:Fg}{x y:V}(i:Den K ad H x dx)(g:Den K ad H y dy)(e:eqD dx dy=aa k):EqD x y dx dy k:=by
 unfold eqD at e;split at e
 .unfold eqT at e
  split at e
  .split at e
   .rename_i c
    cases e;exact .tup c
   .exact Zb e
  .exact Zb e
 .refine j_e e λe=>ZU (P:=λo=>o=aa k->EqD x y dx dy k) e (λa b l j h=>?_) rfl
  obtain⟨f,d⟩:=Zce h;rw[<-i.vSc l,<-g.vSc j]at f d;exact .sc f d
def ZfS(hu:X.A.units+64 < cLine){s:Sd}{x y:V}{v:vL}(I:Inv X pQ O H s)(f:RelV x v)(d:RelV y u)(S:StOk X.K ad H st)(h:Den X.K ad H x dx)(g:Den X.K ad H y dy)(e:eqD dx dy=aa k):CW2 X pQ O Q s H .Eq .NotEq v u k:=by
 cases Zcd h g e with
 |sc i p=>
  subst p;exact⟨λq=>op_eq pQ s O H x y v u Q I f d ⟨i,q⟩,λq=>op_ne pQ s O H x y v u Q I f d ⟨i,q⟩⟩
 |tup c=>
  rw[Ba]at c;obtain⟨a,r,rfl,o,l⟩:=h.ofTup;obtain⟨b,ys,rfl,m,j⟩:=g.ofTup;cases f;cases d
  obtain⟨g1,g2⟩:=ZcW (ad:=ad) (A:=X.A) I (n:=7) c.1 c.2 (by omega) o l m j
  exact⟨λq=>g1 X.prog X.w X.xe _ ⟨.bl _,H,I,rfl,q⟩,λq=>g2 X.prog X.w X.xe _ ⟨.bl _,H,I,rfl,q⟩⟩
open PySem.SeqAt in
def ZcV{s:Sd}(I:Inv X pQ O H s){a b:Ad}{m:Li V}{d c:Li vL}(w:Yo n ds=ae)(v:Yo n es=ae)(hu:A.units+n+1 < cLine)(r:Dens X.K ad H m ds)(o:Dens X.K ad H ys es)(rv:Vals m d)(f:Vals ys c)(p:s.heap.IsList a d.toArray)(h:s.heap.IsList b c.toArray):RcAt A s (.ref a) (.ref b) (Zt ds es)/\RcNeAt A s (.ref a) (.ref b) (!Zt ds es):=by
 have l:d.toArray.size=ds.length:=by rw[aH,<-rv.length,r.length]
 have u:c.toArray.size=es.length:=by rw[aH,<-f.length,o.length]
 by_cases k:ds.length=es.length
 .have t:=λj y x=>WI (a:=a) (b:=b) I w v hu r o rv f j y x
  have q:=RcAt.lists (A:=A) (s:=s) (e:=λi=>Zx ((ds[i]?).getD .non) ((es[i]?).getD .non)) p h (by omega) (by omega) t
  have g:=RcNeAt.lists (A:=A) (s:=s) (e:=λi=>Zx ((ds[i]?).getD .non) ((es[i]?).getD .non)) p h (by omega) (by omega) t
  rw[l]at q g;rw[YL,show min ds.length es.length=ds.length by omega,show(ds.length==es.length)=ae by simpa using k,dZ]
  exact⟨q,g⟩
 .have q:=RcAt.lists_lengths (A:=A) (s:=s) p h (by rw[l,u];simpa using k) (by omega)
  have g:=RcNeAt.lists_lengths (A:=A) (s:=s) p h (by rw[l,u];simpa using k) (by omega)
  rw[YL,show(ds.length==es.length)=af by simpa using k,Bool.and_false]
  exact⟨q,g⟩
open PySem.SeqAt in
def ZgB(hu:X.A.units+64 < cLine){s:Sd}{x y:V}{v:vL}(I:Inv X pQ O H s)(b:RelV x v)(a:RelV y u)(S:StOk X.K ad H st)(d:Den X.K ad H x (.tup ds))(c:Den X.K ad H y (.tup es))(e:Zba st ds es=aa k):CW2 X pQ O Q s H .Eq .NotEq v u k:=by cases e
def ZfT(hu:X.A.units+64 < cLine){s:Sd}{x y:V}{v:vL}(I:Inv X pQ O H s)(r:RelV x v)(p:RelV y u)(S:StOk X.K ad H st)(M:Den X.K ad H x dx)(L:Den X.K ad H y dy)(e:eqS st dx dy=aa k):CW2 X pQ O Q s H .Eq .NotEq v u k:=by
 have sc:scal x y=ae->(ak (x=y))=k->CW2 X pQ O Q s H .Eq .NotEq v u k:=λC h2=>by
  subst h2;exact⟨λq=>op_eq pQ s O H x y v u Q I r p ⟨C,q⟩,λq=>op_ne pQ s O H x y v u Q I r p ⟨C,q⟩⟩
 unfold eqS at e;split at e
 .unfold ZfP at e
  split at e
  case h_2=>exact Zb e
  obtain⟨a,rfl,ha⟩:=M.ofLst;obtain⟨b,rfl,hb⟩:=L.ofLst;cases r;cases p
  have two:∀ {ba bb:Bool}{i ys:Li D},st[_]?=aa (ba,i)->st[_]?=aa (bb,ys)->(i=[]\/ys=[])->(i.isEmpty&&ys.isEmpty)=k->CW2 X pQ O Q s H .Eq .NotEq (.ref a) (.ref b) k:=λ{ba bb i ys} J G E hk=>by
   obtain⟨vs,T,s1⟩:=S.list ha J;obtain⟨ws,R,N⟩:=S.list hb G;obtain⟨h,rv,B,_⟩:=I.list s1;obtain⟨g,l,t,_⟩:=I.list N;have Z:h.toArray.size=i.length:=by rw[aH,<-rv.length,T.length]
   have Y:g.toArray.size=ys.length:=by rw[aH,<-l.length,R.length]
   by_cases n:i.length=ys.length
   .have W:i=[]:=by
     rcases E with z|z
     .exact z
     .rw[z]at n;exact fC.mp n
    have z2:ys=[]:=by rw[W]at n;exact fC.mp n.symm
    subst W z2;cases hk;have f:h=[]:=fC.mp (by simpa using Z)
    have f':g=[]:=fC.mp (by simpa using Y)
    subst f f';refine⟨λq=>SeqAt.RcAt.lists (e:=λ_=>ae) B.isList t.isList rfl (by omega) (λj C _=>au C (by simp)) X.prog X.w X.xe _ ⟨.bl ae,H,I,rfl,q⟩,λq=>SeqAt.RcNeAt.lists (e:=λ_=>ae) B.isList t.isList rfl (by omega) (λj C _=>au C (by simp)) X.prog X.w X.xe _ ⟨.bl af,H,I,rfl,q⟩⟩
   .have U:k=af:=by
     rw[<-hk];rcases E with z|z
     .subst z
      cases ys with
      |nil=>exact au rfl n
      |cons _ _=>rfl
     .subst z
      cases i with
      |nil=>exact au rfl n
      |cons _ _=>rfl
    subst U;have F:(h.toArray.size != g.toArray.size)=ae:=by rw[Z,Y];simpa using n
    exact⟨λq=>SeqAt.RcAt.lists_lengths B.isList t.isList F (by omega) X.prog X.w X.xe _ ⟨.bl af,H,I,rfl,q⟩,λq=>SeqAt.RcNeAt.lists_lengths B.isList t.isList F (by omega) X.prog X.w X.xe _ ⟨.bl ae,H,I,rfl,q⟩⟩
  refine j_e e λe=>ZU (P:=λo=>o=aa k->CW2 X pQ O Q s H .Eq .NotEq (.ref a) (.ref b) k) e (λc d J G e=>?_) rfl
  obtain⟨c1,c2⟩:=c;obtain⟨d1,d2⟩:=d;unfold Jo at e;split at e
  .rename_i E
   cases e;rw[cB]at E;exact two J G (E.imp List.isEmpty_iff.mp List.isEmpty_iff.mp) rfl
  .split at e
   .rename_i m
    cases e;rw[Ba]at m;obtain⟨vs,T,s1⟩:=S.list ha J;obtain⟨ws,R,N⟩:=S.list hb G;obtain⟨h,rv,B,_⟩:=I.list s1;obtain⟨g,l,t,_⟩:=I.list N;obtain⟨g1,g2⟩:=ZcV (ad:=ad) (A:=X.A) I m.1 m.2 (by omega) T R rv l B.isList t.isList
    exact⟨λq=>g1 X.prog X.w X.xe _ ⟨.bl _,H,I,rfl,q⟩,λq=>g2 X.prog X.w X.xe _ ⟨.bl _,H,I,rfl,q⟩⟩
   .exact Zb e
 .unfold ZfR at e
  split at e
  .split at e
   .rename_i k' q
    cases e;exact ZfS hu I r p S M L (show eqD (.tup _) (.tup _)=aa _ from q)
   .exact ZgB hu I r p S M L e
  .exact Zb e
 .exact ZfS hu I r p S M L e
open Classical in
def ZhI(K:Fg)(ad:Li Ad)(H:Hp)(d:D)(u:vL):Bool:=ak (∃ y e,RelV y u/\Den K ad H y e/\okD 8 e=ae/\Zx e d=ae)
section
variable{pQ:Li (Ad×Obj)}{s:Sd}{O:L2.St}{H:Hp}{x y:V}{v u:vL}{Q:VK}{ad:Li Ad}{st:Za}{dx dy:D}{k:Bool}
def VH{a:Ad}{b:Li V}(I:Inv X pQ O H s)(e:RelV x v)(d:RelV y u)(i:y=.ref a)(sq:SqL X.K H a b\/SqT X.K H a b)(g:flatV x=ae)(h:b.all flatV=ae/\inV x b=k):CW2 X pQ O Q s H .In .NotIn v u k:=by
 obtain⟨f,j⟩:=h;subst j;exact⟨λc=>op_in_seq pQ s O H _ _ v u Q I e d ⟨a,b,i,sq,g,f,c⟩,λc=>op_notIn_seq pQ s O H _ _ v u Q I e d ⟨a,b,i,sq,g,f,c⟩⟩
def InW(X:Cx)(pQ:Li (Ad×Obj))(O:L2.St)(Q:VK)(s:Sd)(H:Hp)(v u:vL)(dy:D)(k:Bool):Prop:=(Q (.bl k) H->CW X pQ O Q s .In v u)/\((∀ ks vs,dy≠.dct ks vs)->Q (.bl (!k)) H->CW X pQ O Q s .NotIn v u)
def CW2.inW(h:CW2 X pQ O Q s H .In .NotIn v u k):InW X pQ O Q s H v u dy k:=⟨h.1,λ_=>h.2⟩
def ZfV(hu:X.A.units+64 < cLine)(I:Inv X pQ O H s)(f:RelV x v)(d:RelV y u)(S:StOk X.K ad H st)(l:Den X.K ad H x dx)(h:Den X.K ad H y dy)(q:inS st dx dy=aa k):InW X pQ O Q s H v u dy k:=by
 unfold inS at q;split at q
 .split at q
  .rename_i m
   obtain⟨a,e,c⟩:=h.ofLst;obtain⟨n,r,sq⟩:=S.list c m;cases l;exact(VH I f d e (.inl sq) rfl (ZaB r q)).inW
  .exact Zb q
 .split at q
  .rename_i m
   obtain⟨a,e,c⟩:=h.ofLst;obtain⟨n,r,sq⟩:=S.list c m;cases l;exact(VH I f d e (.inl sq) rfl (U7 r q)).inW
  .exact Zb q
 .obtain⟨a,n,e,c,r⟩:=h.ofTup
  cases l;exact(VH I f d e (.inr c.sq) rfl (ZaB r q)).inW
 .obtain⟨a,n,e,c,r⟩:=h.ofTup
  cases l;exact(VH I f d e (.inr c.sq) rfl (U7 r q)).inW
 .obtain⟨a,vs,rfl,c,D,r⟩:=h.ofDct
  cases l;cases q;refine⟨λg=>op_in_dct pQ s O H _ _ v u Q I f d ⟨a,_,Sum.inr _,rfl,rfl,c,?_⟩,λz=>au rfl (z _ _)⟩
  rcases XR r D with⟨w,J,t,p,G⟩|⟨t,p⟩
  .rw[t];rw[p]at g;exact g
  .rw[t];rw[p]at g;exact g
 .obtain⟨o,B,rfl⟩:=eW.mp q
  obtain⟨i,j,L,es,rfl,m,rfl⟩:=U5 B;obtain⟨a,rfl,c,C⟩:=h.ofDic;obtain⟨kvs,r,E,_⟩:=S.dict c C m;obtain⟨b,rfl,F⟩:=XH l;cases f;cases d
  have z:=in_dT (X:=X) (Q:=Q) (by omega) I E F
  rw[Jm r]at z;exact⟨z.1,λ_=>z.2⟩
 .cases l;cases h;cases q
  exact⟨λg=>op_in_str pQ s O H _ _ v u Q I f d ⟨_,_,rfl,rfl,g⟩,λ_ g=>op_notIn_str pQ s O H _ _ v u Q I f d ⟨_,_,rfl,rfl,g⟩⟩
 .exact Zb q
def ZcD(a:Den X.K ad H x dx)(q:isN dx=aa k):ak (x=V.non)=k:=by
 cases a<;>cases q<;>rfl
def ZfW(I:Inv X pQ O H s)(f:RelV x v)(d:RelV y u)(h:Den X.K ad H x dx)(g:Den X.K ad H y dy)(q:isD dx dy=aa k):CW2 X pQ O Q s H .Is .IsNot v u k:=by
 unfold isD at q;split at q
 .cases g
  have z:=ZcD h q;subst z;exact⟨λc=>op_isN pQ s O H _ _ v u Q I f d ⟨rfl,c⟩,λc=>op_notN pQ s O H _ _ v u Q I f d ⟨rfl,c⟩⟩
 .unfold isB at q
  split at q
  .cases q
   cases h;cases g
   cases f;cases d
   have e:∀ a b:Bool,(Value.bool a==Value.bool b)=(a==b):=λa b=>by cases a<;>cases b<;>rfl
   exact⟨λc=>wpAny_is_plain rfl (by rw[e];exact⟨.bl _,H,I,rfl,c⟩),λc=>wpAny_isNot_plain rfl (by rw[e];exact⟨.bl _,H,I,rfl,c⟩)⟩
  .cases q
 .cases q
def Wp{f:Int->Int->Bool}(b:Den X.K ad H x dx)(a:Den X.K ad H y dy)(q:Jy f dx dy=aa k):∃ i j,x=.int i/\y=.int j/\f i j=k:=by
 unfold Jy at q;split at q
 .cases q;cases b;cases a;exact⟨_,_,rfl,rfl,rfl⟩
 .exact Zb q
def ZgN(hu:X.A.units+64 < cLine)(I:Inv X pQ O H s)(e:RelV x v)(d:RelV y u)(S:StOk X.K ad H st)(h:Den X.K ad H x dx)(g:Den X.K ad H y dy)(q:ltS st dx dy=aa k)(f:Q (.bl k) H):CW X pQ O Q s .Lt v u:=by
   have q:ltD dx dy=aa k:=q;unfold ltD at q;split at q
   .split at q
    .rename_i ds es c
     rw[Ba]at c;obtain⟨a,r,rfl,p,m⟩:=h.ofTup;obtain⟨b,ys,rfl,o,l⟩:=g.ofTup;cases e;cases d
     exact ZcK (ad:=ad) (A:=X.A) I (n:=7) c.1 c.2 (by omega) p m o l q X.prog X.w X.xe _ ⟨.bl _,H,I,rfl,f⟩
    .exact Zb q
   obtain⟨i,j,rfl,rfl,z⟩:=Wp h g q;exact op_lt pQ s O H _ _ v u Q I e d ⟨_,_,rfl,rfl,by cases z;exact f⟩
def VN{o:Ot Bool}(q:o.map not=aa k):o=aa (!k):=by
 cases o with
 |none=>exact Zb q
 |some a=>cases q;rw[Bool.not_not]
def ZaY{a:CmpOp}(h:CW2 X pQ O Q s H op a v u (!k))(b:Q (.bl k) H):CW X pQ O Q s a v u:=h.2 (by rw[Bool.not_not];exact b)
end
def Q0(hu:X.A.units+64 < cLine):OpR X (bu op) (rD X.K (W7 op)):=by
 intro pQ s O H x y v u Q I f c h;obtain⟨ad,st,dx,dy,d,st',S,m,l,e,p⟩:=h
 change CW X pQ O Q s op v u;unfold W7 at e;cases q:J4 op dx dy st with
 |none=>rw[q]at e;cases e
 |some k=>
  rw[q]at e;cases e;have g:=p.at S (.bl k);clear p;cases op with
  |Lt=>exact ZgN hu I f c S m l q g
  |LtE=>
   obtain⟨i,j,rfl,rfl,z⟩:=Wp m l q;exact op_le pQ s O H _ _ v u Q I f c ⟨_,_,rfl,rfl,by cases z;exact g⟩
  |Gt=>
   obtain⟨i,j,rfl,rfl,z⟩:=Wp m l q;exact op_gt pQ s O H _ _ v u Q I f c ⟨_,_,rfl,rfl,by cases z;exact g⟩
  |GtE=>
   have q:geD dx dy=aa k:=q;unfold geD at q;split at q
   .cases q
    obtain⟨a,C,rfl,B,o⟩:=m.ofTup;obtain⟨b,ys,rfl,t,n⟩:=l.ofTup;cases f;cases c
    exact Zch (ad:=ad) (A:=X.A) I (by omega) B o t n X.prog X.w X.xe _ ⟨.bl _,H,I,rfl,g⟩
   obtain⟨i,j,rfl,rfl,z⟩:=Wp m l q;exact op_ge pQ s O H _ _ v u Q I f c ⟨_,_,rfl,rfl,by cases z;exact g⟩
  |Eq=>exact(ZfT hu I f c S m l q).1 g
  |NotEq=>exact ZaY (ZfT hu I f c S m l (VN q)) g
  |In=>exact(ZfV hu I f c S m l q).1 g
  |NotIn=>
   have q:niS st dx dy=aa k:=q;unfold niS at q;split at q
   .cases q
   .rename_i r
    exact(ZfV hu I f c S m l (VN q)).2 r (by rw[Bool.not_not];exact g)
  |Is=>exact(ZfW I f c m l q).1 g
  |IsNot=>exact ZaY (ZfW I f c m l (VN q)) g
end
variable [ClsTab]
noncomputable def Zi:az->Bool
 |.Starred ..=>af
 |.Set ..=>af
 |.Slice ..=>af
 |_=>ae
variable{sc:bp}{N:Li Str}{e:az}
def Zd{G:Gs}{c:CE}(h:cE G n sc N e=aa c):Zi e=ae:=by
 cases n with
 |zero=>exact nomatch (show(ab:Ot CE)=aa c from h)
 |succ n=>cases e<;>first|rfl|exact nomatch (show(ab:Ot CE)=aa c from h)
variable{env:PySem.Env}
def Ze{es:Li az}(h:Zi e=ae):bj (e :: es) env=(af,eval e env) :: bj es env:=by
 cases e<;>first|rfl|cases h
def Wc{b:az}(h:Zi b=ae):behindInMarks op b=af:=by
 cases b<;>first|rfl|cases h
def Uy{b:az}(h:Zi b=ae):PlainIx b:=by
 cases b<;>first | (intro o i;rfl)|cases h
theorem XY{a:Pos}{env:PySem.Env}:∀ {es:Li az},es.all Zi=ae->(backTo a (bj es env)).any (·.1)=af
 |[],_=>rfl
 |e :: es,h=>by
  rw[cH,Ba]at h;rw[Ze h.1];show(af||(backTo a (bj es env)).any (·.1))=af;rw[XY h.2];rfl
inductive EsOk(Pm:Params)(K:Fg):List DictEntry->List Str->List D->Prop where
 |nil:EsOk Pm K [] [] []
 |cons {e:DictEntry}{es:List DictEntry}{k:Str}{ks:List Str}{d:D}{ds:List D}{v:V}{t:Tok} (h1:e.hash=bz Pm k) (h2:e.key=.str k t) (h3:RelV v e.val) (h4:∀ ad H,Den K ad H v d) (r:EsOk Pm K es ks ds):EsOk Pm K (e :: es) (k :: ks) (d :: ds)
def QD(b:Params)(K:Fg)(mg:Str->Ot vL)(x:Str)(ks:Li Str)(ds:Li D):Prop:=
 ∃ A o es a,mg x=aa (.ref A)/\K.lookup A=aa o/\o.ExactDict/\o.data=.dict es a/\(A==bv)=af/\ks.Nodup/\EsOk b K es.toList ks ds
variable{w:bt}
theorem EsOk.open{P:bh}{K:Fg}:∀ {es:Li DictEntry}{ks:Li Str}{ds:Li D},EsOk w.params K es ks ds->∃ kvs:Li (Key×vL),Pairs (mixKind P w) es kvs/\kvs.map (·.1)=ks.map Sum.inr/\(∀ e∈es,∃ k,(mixKind P w).is k e.key=ae/\e.hash=(mixKind P w).hash k) /\
  ∀ k d,Yc ks ds k=aa d->∃ u v,valueAt kvs (Sum.inr k)=aa u/\RelV v u/\∀ ad H,Den K ad H v d
 |_,_,_,.nil=>⟨[],.nil,rfl,(λ_ h=>nomatch h),λk d h=>by simp[Yc]at h⟩
 |e :: es,a :: ks,n :: ds,.cons (v:=v) (t:=t) m l j i r=>by
  obtain⟨kvs,B,A,y,s⟩:=EsOk.open (P:=P) r;have b:(mixKind P w).is (Sum.inr a) e.key=ae:=by rw[l];exact mixKind_str P w a t
  refine⟨(Sum.inr a,e.val) :: kvs,.cons b rfl B,by rw[aZ,aZ,A],λx hx=>?_,λk d h=>?_⟩
  .rcases aL.mp hx with rfl|hx
   .exact⟨Sum.inr a,b,m⟩
   .exact y x hx
  .unfold valueAt
   by_cases c:a=k
   .subst c
    have h:Yc (a :: ks) (n :: ds) a=aa d:=h;simp only[Yc,aq]at h;cases h;exact⟨e.val,v,by simp,j,i⟩
   .have h:Yc ks ds k=aa d:=by
     simp only[Yc,ar c]at h;exact h
    obtain⟨u,f,q,p,o⟩:=s k d h;refine⟨u,f,?_,p,o⟩;have g:¬(Sum.inr a:Key)=Sum.inr k:=λz=>c (Sum.inr.inj z)
    rw[List.find?_cons_of_neg (by simpa using g)]
    exact q
structure SubOk(K:Fg)(C B:Addr):Prop where
 cl:Cls K C
 ha:W.findIn K (.ref C) "__class__"=aa (aa (.builtin "object.__class__"))
 hn:W.specialIn K (.builtin "object.__class__") "__get__"=aa (aa (.builtin "getset_descriptor.__get__"))
 ht:W.takesIn K (.builtin "object.__class__")=aa ae
 hm:W.mroIn K C (.type "object")=aa ae
 kit:W.kitOne K (.ref C) (.ref B)=aa ae
structure NewOk(K:Fg)(C:Addr):Prop where
 makes:W.makesIn K C=ae
 init:W.findIn K (.ref C) "__init__"=aa (aa (.builtin "object.__init__"))
 kp:W.keepIn K (.ref C)=ae
 cl:Cls K C
def GOk(P:bh)(w:bt)(K:Fg)(mg:Str->Ot vL)(base:br)(A:bw)(F:Nat->Fn)(x:Str):GV->Prop
 |.c d=>∃ v u,mg x=aa u/\RelV v u/\∀ ad H,Den K ad H v d
 |.blt=>mg x=ab
 |.dct ks ds=>QD w.params K mg x ks ds
 |.cls i l a=>mg x=aa (.ref (ClsTab.ca i))/\NewOk K (ClsTab.ca i)/\(∀ h,a.contains h=ae->SubOk K (ClsTab.ca h) (ClsTab.ca i)) /\
   ∀ m j g,l.lookup m=aa (j,g)->∃ (k:Nat) (f:Ad) (fd:bq) (pn:Li Str),FnOk P w K mg base CX0 k f fd pn (spD K (F j))/\Room k A/\Meth K (ClsTab.ca i) m f/\Binds K fd pn []
 |.fn i g ds=>∃ (k:Nat) (f:Ad) (fd:bq) (pn:Li Str),FnOk P w K mg base CX0 k f fd pn (spD K (F i))/\Room k A/\mg x=aa (.ref f)/\W.keepIn K (.ref f)=ae /\
   ∀ m,m<=ds.length->∃ b e,(∀ ad H,Dens K ad H b (ds.drop m))/\Vals b e/\Binds K fd pn e
structure Cxt(X:Cx)(G:Gs)(F:Nat->Fn)(sc:bp)(N:List Str):Prop where
 hN:X.N=N
 vis:∀ x,XO sc x=ae->Vis X.env.scope x
 glb:∀ x,ZB sc x=ae->Gl X x
 calm:X.calm=ae
 hu:X.A.units+64 < cLine
 gl:∀ x g,G.lookup x=aa g->GOk X.prog X.w X.K X.mg X.base X.A F x g
 cel:∀ x,WH sc x=ae->X.env.scope.names.lookup x=aa .cell\/X.env.scope.names.lookup x=aa .free
 nx:X.xe=λ_ _=>False
variable{i:Nat}
def XB{x:Str}(h:N.idxOf? x=aa i):N[i]?=aa x:=by
 unfold List.idxOf? at h
 rw[List.findIdx?_eq_some_iff_getElem]at h;obtain⟨a,b,_⟩:=h;rw[Lg a];rw[beq_iff_eq.mp b]
def VJ{x:Str}(h:XO sc x=ae):(x==("__debug__":Str))=af/\(x==("__classdict__":Str))=af:=by
 unfold XO at h;rw[Ba,Ba,fY,fY]at h;exact h.1
def XN{x:Str}(h:ZB sc x=ae):(x==("__debug__":Str))=af:=by
 unfold ZB at h;rw[Ba,fY]at h;exact h.1
variable{fa:Ev}{pos:Pos}{U:Env}{st':Za}{d:D}
variable{F:Nat->Fn}
def Zf8{f:Ev}(h:PE X e (tE X.K f))(b:∀ a,isTrue e X.env a=(do let v <-a;standAt e.pos;holding [v] (truthy v)):=by intro _;rfl):PT X e (tT X.K f):=WU (pt_val h b) Zaz
def ZeU{c a b:az}{r u:Ev}(x:PT X c (tT X.K r))(z:PT X a (tT X.K fa))(y:PT X b (tT X.K u)):PT X (.IfExp c a b pos) (tT X.K (Xf r fa u)):=by
 intro pQ s O H Q I h;obtain⟨ad,U,st,d,st',E,S,e,p⟩:=h;obtain⟨k,st1,q,e⟩:=Yf e;show bf _ _ (isTrue c X.env (eval c X.env) >>= λt=>if t then isTrue a X.env (eval a X.env) else isTrue b X.env (eval b X.env)) _ _ s
 refine aA (thn (x pQ s O H (λw j=>w=k/\∃ f,Ext ad H f j/\StOk X.K f j st1) I ⟨ad,U,st,k,st1,E,S,q,λf j i l=>⟨rfl,f,i,l⟩⟩) λt s1 ⟨j,v,A,f,i,l⟩=>?_)
 subst A;cases t with
 |true=>
  rw[aq rfl]at e ⊢;exact z pQ s1 O j Q v ⟨f,U,st1,d,st',E.mono i,l,e,λg o m n=>p g o (i.trans m) n⟩
 |false=>
  rw[ar Bf]at e ⊢;exact y pQ s1 O j Q v ⟨f,U,st1,d,st',E.mono i,l,e,λg o m n=>p g o (i.trans m) n⟩
def JE:CE->Prop
 |.aN=>True
 |.aC _ _=>True
 |_=>False
def Wg{c:CE}(h:JE c)(e:ev F c U st=aa (d,st')):∃ ds,d=.tup ds/\ds.length<=1000:=by
 cases c with
 |aN=>cases e;exact⟨[],rfl,by decide⟩
 |aC a r=>
  have e:ZE (ev F a) (ev F r) WE U st=aa (d,st'):=e;unfold ZE at e;split at e
  .split at e
   .rename_i y b _
    cases y with
    |tup f=>
     have e:(if f.length < 1000 then aa (D.tup (_ :: f),b) else ab)=aa (d,st'):=e
     split at e
     .rename_i g
      cases e;exact⟨_,rfl,g⟩
     .exact Zb e
    |_=>simp[WE]at e
   .exact Zb e
  .exact Zb e
 |_=>exact False.elim h
structure SE(X:Cx)(F:Nat->Fn)(e:az)(c:CE):Prop where
 pe:PE X e (tE X.K (ev F c))
 pt:PT X e (tT X.K (ev F c))
def SE.of{c:CE}(h:PE X e (tE X.K (ev F c)))(b:∀ a,isTrue e X.env a=(do let v <-a;standAt e.pos;holding [v] (truthy v)):=by intro _;rfl):SE X F e c:=⟨h,Zf8 h b⟩
def UF{op:BoolOp}{es:Li az}{t:TT}(h:PT X (.BoolOp op es pos) t):PW X (.BoolOp op es pos) t:=λ_ pQ s O H Q I q=>h pQ s O H Q I q
variable{vs:Li V}{ad0:Li Ad}
variable{ad:Li Ad}{H:Hp}{p:Ad}
section
variable{o:HO}
variable (ho:∀ kvs,o≠.dT kvs)
include ho
def ZaH{K:Fg}(a:H p=aa (.dK [])):Keeps K ad ad H (upd H p o):=⟨λh=>h.upd a (by intro b z;cases z),λh=>⟨h,W3 (WP a λ_ z=>nomatch z) ho⟩,λn h=>by rw[upd_ne (ne_of h a (by intro z;injection z with z;exact n z))];exact h,λh n=>⟨by rw[upd_ne (ne_of h a (by intro z;cases z))];exact h,n⟩⟩
def Dens.wrK{K:Fg}(a:H p=aa (.dK []))(h:Dens K ad H vs ds):Dens K ad (upd H p o) vs ds:=h.map (ZaH ho a)
def StOk.wrK{K:Fg}(S:StOk K ad H st)(a:H p=aa (.dK []))(b:p∉ad):StOk K ad (upd H p o) st:=
 S.wrG (ZaH ho a) b
def Ext.wrK{e:Hp}(x:Ext ad0 e ad H)(f:H p=aa (.dK []))(d:e p=ab):Ext ad0 e ad (upd H p o):=by
 refine⟨x.pre,λb c h=>?_,λb c h=>?_,λb o h n=>?_,x.new,λi a h=>(x.kd i a h).trans (W3 (WP f λ_ z=>nomatch z) ho)⟩
 .rw[upd_ne (ne_of_none h d)];exact x.tup b c h
 .rw[upd_ne (ne_of_none h d)];exact x.dk b c h
 .rw[upd_ne (ne_of_none h d)];exact x.keep b o h n
end
theorem Vk:∀ (kvs a:Li (Key×V)),(∀ p∈kvs,∀ q∈a,q.1≠p.1)->(kvs.map (·.1)).Nodup->mergeK a kvs=a++kvs
 |[],a,_,_=>by show a=a++[];rw[bD]
 |p :: r,a,h,n=>by
  rw[aZ,cA]at n;have e:putK a p.1 p.2=a++[p]:=by
   unfold putK;rw[ar];intro z;rw[List.any_eq_true]at z;obtain⟨q,hq,z⟩:=z;exact h p (Ls ..) q hq (ao z)
  show mergeK (putK a p.1 p.2) r=_;rw[e,Vk r (a++[p]) (λx b q hq=>?_) n.2,aM];rfl
  rcases bC.mp hq with hq|hq
  .exact h x (Lm _ b) q hq
  .rw[aQ]at hq
   subst hq;intro z;exact n.1 (by rw[z];exact List.mem_map_of_mem b)
theorem WK:∀ {ks:Li Str}{vs:Li V},ks.Nodup->(((ks.zip vs).map λp=>((Sum.inr p.1:Key),p.2)).map (·.1)).Nodup
 |[],_,_=>by simp
 |_ :: _,[],_=>by simp
 |k :: ks,v :: vs,h=>by
  rw[cA]at h;show((Sum.inr k:Key) :: ((ks.zip vs).map λp=>((Sum.inr p.1:Key),p.2)).map (·.1)).Nodup
  rw[cA];refine⟨λz=>h.1 ?_,WK h.2⟩
  rw[bQ,aR]at z;obtain⟨q,a,e⟩:=z;have e:(Sum.inr q.1:Key)=Sum.inr k:=e;rw[<-Sum.inr.inj e];exact(fL a).1
theorem XQ:∀ {keys:Li (Ot az)}{ks:Li Str},ZK keys=aa ks->keys.length=ks.length/\keys.all (·.isSome)=ae
 |[],_,h=>by cases h;exact⟨rfl,rfl⟩
 |some (.Constant (.str k) a b) :: r,ks,h=>by
  have h:(ZK r).map (k :: ·)=aa ks:=h;cases q:ZK r with
  |none=>rw[q]at h;cases h
  |some c=>
   rw[q]at h;cases h;obtain⟨f,d⟩:=XQ q;exact⟨by rw[aY,aY,f],by rw[cH,d];rfl⟩
 |none :: _,_,h=>by simp[ZK]at h
 |some e :: r,ks,h=>by
  cases e with
  |Constant v a b=>cases v with
   |str k=>
    have h:(ZK r).map (k :: ·)=aa ks:=h;cases q:ZK r with
    |none=>rw[q]at h;cases h
    |some c=>
     rw[q]at h;cases h;obtain⟨f,d⟩:=XQ q;exact⟨by rw[aY,aY,f],by rw[cH,d];rfl⟩
   |_=>simp[ZK]at h
  |_=>simp[ZK]at h
variable{vals:Li az}{keys:Li (Ot az)}{ks:Li Str}
variable{pos:Pos}
section
variable{f:az->Ot CE}
theorem Zbj(n:∀ e c,f e=aa c->PE X e (tE X.K (ev F c))):∀ {vals:Li az}{keys:Li (Ot az)}{ks:Li Str}{c:CE},ZK keys=aa ks->cVs f vals=aa c->ks.length=vals.length->
  JE c/\∃ i,PPs X pos keys vals i/\∀ O H (Q:Li (V×V)->Hp->Prop),tA X.K (ev F c) O H (λvs H'=>Q ((ks.zip vs).map λp=>(V.str p.1,p.2)) H')->tPairs i O H Q
 |[],keys,ks,c,g,j,l=>by
  cases j;cases ks with
  |cons _ _=>simp at l
  |nil=>
   have A:=(XQ g).1;cases keys with
   |cons _ _=>simp at A
   |nil=>exact⟨trivial,[],pps_nil,λO H Q h=>WG O H _ h⟩
 |v :: vals,keys,ks,c,g,j,l=>by
  cases ks with
  |nil=>simp at l
  |cons k ks=>
   have j:(match f v,cVs f vals with
    |some x,aa r=>aa (CE.aC x r)
    |_,_=>ab)=aa c:=j
   split at j
   .rename_i x r u w
    cases j;cases keys with
    |nil=>cases g
    |cons m keys=>
     cases m with
     |none=>simp[ZK]at g
     |some e=>
      cases e with
      |Constant C a b=>
       cases C with
       |str t=>
        have g:(ZK keys).map (t :: ·)=aa (k :: ks):=g;cases q:ZK keys with
        |none=>rw[q]at g;cases g
        |some s=>
         rw[q]at g;cases g;obtain⟨_,i,z,y⟩:=Zbj n q w (by simpa using l)
         refine⟨trivial,(tC (.str k),tE X.K (ev F x)) :: i,pps_cons pe_str (n v x u) z,λO H Q h=>?_⟩
         have h:=Vj O H _ h;obtain⟨ad,U,st,d,st',E,S,e,p⟩:=h;exact⟨ad,U,st,d,st',E,S,e,λv ad' H' o D B=>y O H' _ (p v ad' H' o D B)⟩
       |_=>simp[ZK]at g
      |_=>simp[ZK]at g
   .exact Zb j
def Zbe(J:∀ e c,f e=aa c->PE X e (tE X.K (ev F c))){c:CE}(w:ZK keys=aa ks)(L:cVs f vals=aa c)(G:keys.length=vals.length)(R:keys≠[])(t:keys.length<=15) :
  PE X (.Dict keys vals pos) (tE X.K (ev F (.dict ks c))):=by
 obtain⟨Y,B⟩:=XQ w;obtain⟨M,A,P,N⟩:=Zbj (pos:=pos) J w L (by omega)
 refine Zm (pe_disp P B G R t) λO H Q h=>?_
 obtain⟨ad,U,st,d,st',E,S,e,p⟩:=h;have e:Zl (ev F c) (ZdC ks) U st=aa (d,st'):=e;unfold Zl at e;split at e
 .rename_i y st1 v
  obtain⟨ds,rfl,_⟩:=Wg M v;have e:(if ks.length=ds.length/\(ks.Nodup/\ks≠[])/\ks.length<=15 then aa (D.dct ks ds,st1) else ab)=aa (d,st'):=e
  split at e
  .rename_i u
   cases e;intro a b s;refine N O _ _ ⟨ad,U,st,ds,_,E.mono (Ext.laid b),S.laid b,v,λvs g W k T x=>?_⟩
   have j:W a=aa (.dK []):=k.dk a [] upd_same;have m:∀ {l:Li (Key×V)} (kvs:Li (Li Key×V)),HO.dK l≠.dT kvs:=λ_ z=>nomatch z
   have r:ks.length=vs.length:=by rw[x.length];exact u.1
   have n:a∉g:=λz=>by
    rcases k.new a z with z|z
    .obtain⟨i,I⟩:=dJ.mp z
     rcases S.has I with⟨o,q⟩|⟨o,q⟩
     .rw[b]at q;cases q
     .exact s o q
    .rw[upd_same]at z;cases z
   refine⟨j,(ks.zip vs).map λp=>((Sum.inr p.1:Key),p.2),by rw[bQ];rfl,by rw[aD,List.length_zip];omega,?_⟩
   rw[Vk _ [] (λ_ _ q C=>nomatch C) (WK u.2.1.1),eK]
   exact p _ g _ ((((Ext.laid b).trans k)).wrK m j b) (T.wrK m j n) (.dct upd_same rfl u.2.1 r (x.wrK m j))
  .exact Zb e
 .exact Zb e
end
variable [ClsTab]
def Ua:bo "tuple"=aa (.type "tuple"):=by decide +kernel
def Zb1:bo "list"=aa (.type "list"):=by decide +kernel
def Zep:bo "int"=aa (.type "int"):=by decide +kernel
def Zb0:bo "bool"=aa (.type "bool"):=by decide +kernel
def Zer:bo "str"=aa (.type "str"):=by decide +kernel
def W6:bo "isinstance"=aa (.builtin "isinstance"):=by decide +kernel
def Jh:bo "sorted"=aa (.builtin "sorted"):=by decide +kernel
def Zeo:bo "all"=aa (.builtin "all"):=by decide +kernel
def Zeq:bo "len"=aa (.builtin "len"):=by decide +kernel
variable{as:Li az}{ap cp:Pos}{m:Str}
variable{G:Gs}
section
def Zq(G:Gs)(F:Nat->Fn)(n:Nat):Prop:=∀ X sc N,Cxt X G F sc N->∀ e c,cE G n sc N e=aa c->SE X F e c
def YC(G:Gs)(F:Nat->Fn)(n:Nat):Prop:=∀ X sc N,Cxt X G F sc N->∀ es c,cEs G n sc N es=aa c->PA X es (tA X.K (ev F c))/\JE c/\es.all Zi=ae/\(es=[]->c=.aN)
def Vx(G:Gs)(F:Nat->Fn)(n:Nat):Prop:=∀ X sc N,Cxt X G F sc N->∀ e c,cO G n sc N e=aa c->PO X e (tO X.K (ev F c))
def Zbx{v:Const}{k:Nat}{c:CE}(h:CE.ofConst v=aa c):SE X F (.Constant v k pos) c:=by
 cases v with
 |none=>cases h;exact .of (Zm pe_non (Ur λ_ _=>.non))
 |bool b=>cases h;exact .of (Zm pe_bl (Ur λ_ _=>.bl b))
 |int i=>cases h;exact .of (Zm pe_int (Ur λ_ _=>.int i))
 |str x=>cases h;exact .of (Zm pe_str (Ur λ_ _=>.str x))
 |_=>exact Zb h
def Zc7{x:Str}{c:CE}(K:Cxt X G F sc N)(h:ZaV G sc N x=aa c):SE X F (.Name x pos) c:=by
 unfold ZaV at h;split at h
 .rename_i a
  cases q:N.idxOf? x with
  |none=>rw[q]at h;cases h
  |some i=>
   rw[q]at h;cases h;obtain⟨j,g⟩:=VJ a;exact .of (Zm (pe_var (i:=i) (by rw[K.hN];exact XB q) (K.vis x a) j g) ZcA)
 .split at h
  .rename_i b
   split at h
   .rename_i d q
    cases h;obtain⟨v,u,e,r,f⟩:=K.gl x _ q;exact .of (Zm (pe_glob (K.glb x b) e r (XN b)) (Ur f))
   .exact Zb h
  .exact Zb h
def pa1{a:az}{t:TE}(b:Zi a=ae)(c:PE X a t):PA X [a] (tCons t tNil):=pa_cons c pa_nil (Ze b)
def pa2{a b:az}{t u:TE}(d:Zi a=ae)(c:Zi b=ae)(f:PE X a t)(e:PE X b u):PA X [a,b] (tCons t (tCons u tNil)):=pa_cons f (pa1 c e) (Ze d)
def Zc0{f:Str}{a:az}{x c:CE}{p:Pos}(K:Cxt X G F sc N)(i:ZB sc f=ae)(d:X.mg f=ab)(b:Zi a=ae)(A:PE X a (tE X.K (ev F x)))(h:Zen f x=aa c) :
  PE X (.Call (.Name f p) [a] [] pos) (tE X.K (ev F c)):=by 
 have g:=K.glb f i;unfold Zen at h;split at h
 .rename_i e;subst e;cases h
  exact Zm (pe_callB Ji g d Zeq (pa1 b A) (by decide) (by decide) (Ze b) rfl) Xj
 .split at h
  .rename_i e;subst e;cases h
   exact Zm (pe_callTy Ud g d Ua (pa1 b A) (by decide) (by decide) (Ze b) rfl) Xj
  .split at h
   .rename_i e;subst e;cases h
    exact Zm (pe_callTy U1 g d Zb1 (pa1 b A) (by decide) (by decide) (Ze b) rfl) Xj
   .split at h
    .rename_i e;subst e;cases h
     exact Zm (pe_callB (Zbm ZfB K.calm) g d Zeo (pa1 b A) (by decide) (by decide) (Ze b) rfl) Xj
    .split at h
     .rename_i e;subst e;cases h
      exact Zm (pe_callB (U0 K.calm) g d Jh (pa1 b A) (by decide) (by decide) (Ze b) rfl) Xj
     .exact Zb h
def Zcx{K:Fg}(O:L2.St)(H:Hp)(Q:VK)(h:tE K (Zl fa (rsD af)) O H Q):Zgm K (tE K fa) (tE K (ev F (.neg (.c (.int 1))))) O H Q:=by
 obtain⟨ad,U,st,d,st',E,S,e,p⟩:=h;unfold Zl at e;split at e
 .rename_i x st1 n
  refine⟨ad,U,st,x,st1,E,S,n,λw f z j t s=>⟨f,U,st1,.int (-1),st1,E.mono j,t,rfl,λv b y i g r=>⟨r.ofInt,?_⟩⟩⟩
  unfold rsD at e;split at e
  .split at e
   .rename_i c u o
    cases e;obtain⟨a,rfl,q⟩:=(s.mono i).ofLst;obtain⟨ys,m,sq⟩:=g.list q o;refine⟨a,ys,rfl,sq,λl k=>p.later (j.trans i) _ (b++[l]) _ (Ext.push k) (g.push k (Uk m)) (.newL ?_)⟩
    rw[<-g.len];exact Zu
   .exact Zb e
  .exact Zb e
 .exact Zb e
def Zei{b:az}(a:Zi b=ae):(backTo pos (bj [b] X.env)).any (·.1)=af:=XY (by rw[cH,a];rfl)
def Zc1{f:Str}{a b:az}{x y c:CE}{p:Pos}(K:Cxt X G F sc N)(i:ZB sc f=ae)(g:X.mg f=ab)(e:Zi a=ae)(d:Zi b=ae)(A:PE X a (tE X.K (ev F x)))(B:PE X b (tE X.K (ev F y)))(h:ZfF f x y=aa c):PE X (.Call (.Name f p) [a,b] [] pos) (tE X.K (ev F c)):=by cases h
def Zco{K:Fg}{T:Ty}(O:L2.St)(H:Hp)(Q:VK)(h:tE K (Zl fa (ZaF T)) O H Q) :
  tCB (λvs H Q=>∃ v,vs=[v,.ty (tyN T)]/\rC K (on1 (ZaF T)) [v] H Q) (tCons (tE K fa) (tCons (tC (.ty (tyN T))) tNil)) O H Q:=by
 obtain⟨ad,U,st,d,st',E,S,e,p⟩:=h;unfold Zl at e;split at e
 .rename_i x st1 f
  exact⟨ad,U,st,x,st1,E,S,f,λc a j b i g=>⟨c,rfl,a,st1,[x],d,st',i,.cons g .nil,e,p.later b⟩⟩
 .exact Zb e
def ZbJ{b:az}{T:Ty}(K:Cxt X G F sc N)(h:Ja G sc b=aa T):Zi b=ae/\PE X b (tC (.ty (tyN T))):=by
 cases b with
 |Name t p=>
  have a:Zfm G sc t=aa T:=h;clear h;unfold Zfm at a;split at a
  .rename_i f
   rw[Ba]at f;have c:X.mg t=ab:=by
    have z:=f.2;unfold QO at z;split at z
    .rename_i q;exact K.gl t _ q
    .cases z
   have d:=K.glb t f.1;refine⟨rfl,?_⟩;unfold Zgo at a;split at a
   .rename_i e;subst e;cases a
    exact pe_bltn d c Zep rfl
   .split at a
    .rename_i e;subst e;cases a
     exact pe_bltn d c Zb0 rfl
    .split at a
     .rename_i e;subst e;cases a
      exact pe_bltn d c Zer rfl
     .split at a
      .rename_i e;subst e;cases a
       exact pe_bltn d c Ua rfl
      .exact Zb a
  .exact Zb a
 |_=>simp[Ja]at h
def Ze5{a b:az}{x:CE}{T:Ty}{p:Pos}(K:Cxt X G F sc N)(f:ZB sc "isinstance"=ae)(e:X.mg "isinstance"=ab)(d:Zi a=ae)(A:PE X a (tE X.K (ev F x)))(g:Ja G sc b=aa T) :
  PE X (.Call (.Name "isinstance" p) [a,b] [] pos) (tE X.K (ev F (.isi T x))):=by
 obtain⟨c,B⟩:=ZbJ K g;exact Zm (pe_callB (J2 (T:=T)) (K.glb _ f) e W6 (pa2 d c A B) (by decide) (by decide) (Ze d) (Zei c)) Zco
def Zc3{f:Str}{d:CE}{a:Nat}{p:Pos}(K:Cxt X G F sc N)(c:ZB sc f=ae)(u:G.lookup f=aa (.fn i a ds))(y:as.length<=a/\a<=as.length+ds.length)(A:PA X as (tA X.K (ev F d))/\JE d/\as.all Zi=ae/\(as=[]->d=.aN)):PE X (.Call (.Name f p) as [] pos) (tE X.K (ev F (.call i d (ds.drop (as.length+ds.length - a))))):=by
 obtain⟨k,fa,fd,x,r,m,n,o,t⟩:=K.gl f _ u;obtain⟨v,w,q,l,b⟩:=t (as.length+ds.length - a) (by omega)
 obtain⟨j,_,g,s⟩:=A;cases as with
 |nil=>
  refine Zm (pe_call0 (E:=E0) r m (K.glb f c) n o b l pass0 (XN c)) λO H Q h=>?_
  rw[s rfl]at h;exact WG O H _ (Us (E:=E0) q O H Q h)
 |cons e es=>
  rw[cH,Ba]at g;exact Zm (pe_call (E:=E0) r m (K.glb f c) n o b l pass0 j (XN c) (Ze g.1) (XY g.2)) (Us q)
def Zev{nm:Str}{b:az}(K:Cxt X G F sc N)(h:fnA G sc nm b=aa as):∃ p pos,b=.Call (.Name nm p) as [] pos/\Gl X nm/\X.mg nm=ab:=by
 obtain⟨q,a,g⟩:=gN.mp h;refine XS g λe f=>?_
 obtain⟨rfl,d,c⟩:=e;cases f;unfold ZdA at a;split at a
 .cases a
  refine⟨_,_,rfl,K.glb _ d,?_⟩;unfold QO at c;split at c
  .rename_i q;exact K.gl _ _ q
  .cases c
 .cases a
def ZcM{a:az}(h:ZeO as=aa a):as=[a]:=by
 cases as with
 |nil=>exact Zb h
 |cons x as=>cases as with
  |nil=>cases h;rfl
  |cons _ _=>exact Zb h
def Vb{b:az}(K:Cxt X G F sc N)(h:ZN G sc b=aa e):∃ p pos,b=.Call (.Name "range" p) [e] [] pos/\Gl X "range"/\X.mg "range"=ab:=by
 obtain⟨as,a,c⟩:=gN.mp h;rw[ZcM c]at a;exact Zev K a
def Ze3{a b:az}{x y:CE}{c:Bool}(K:Cxt X G F sc N)(g:ZN G sc b=aa e)(d:Zez op=aa c)(f:Zi e=ae)(A:PE X a (tE X.K (ev F x)))(B:PE X e (tE X.K (ev F y))):SE X F (.Compare a [op] [b] pos) (.inR c x y):=by cases d
def Ze7{f:Str}{a:az}{o:Ot CE}{c:CE}{p:Pos}(K:Cxt X G F sc N)(g:ZB sc f=ae)(d:X.mg f=ab)(b:Qw G sc f a=aa e)(B:∀ c,o=aa c->Zi e=ae/\PE X e (tE X.K (ev F c)))(h:o.map CE.tupR=aa c):SE X F (.Call (.Name f p) [a] [] pos) c:=by cases b
def rLk(K:Fg)(A:Ad)(ks:Li Str)(ds:Li D):R2:=λx y H Q=>x=.ref A/\∃ k d,y=.str k/\Yc ks ds k=aa d/\∀ v,(∀ ad H,Den K ad H v d)->Q v H
def ZfX{A:Ad}{o:Obj}{es:Array DictEntry}{f:Nat}(lk:X.K.lookup A=aa o)(ex:o.ExactDict)(hd:o.data=.dict es f)(B:(A==bv)=af)(nd:ks.Nodup)(r:EsOk X.w.params X.K es.toList ks ds):IxR X (rLk X.K A ks ds):=by
 intro a slice pQ s O H x y v u Q I i g h p;obtain⟨rfl,k,d,rfl,c,q⟩:=h;cases i;obtain⟨kvs,j,l,m,val⟩:=r.open (P:=X.prog);have dd:s.heap.DictOf (mixKind X.prog X.w) A kvs:=by
  refine⟨o,es,f,I.kIn A o lk,ex,hd,λe c=>m e (by simpa using c),j,?_⟩
  rw[l];exact fX.mpr (nd.imp λh z=>h (Sum.inr.inj z))
 obtain⟨w,z,n,b,t⟩:=val k d c;exact tail_any dd.typeIs PySem.F.slot_dict_getitem.lookup (wpAny_getItem_of (kV_is (k:=Sum.inr k) g) dd.mapOf n ⟨z,H,I.tok _,b,q z t⟩) p
def Zat{K:Fg}{A:Ad}(O:L2.St)(H:Hp)(Q:VK)(h:tE K (Zl fa (ZaO ks ds)) O H Q):tOp (rLk K A ks ds) (tC (.ref A)) (tE K fa) O H Q:=by
 obtain⟨ad,U,st,d,st',E,S,e,p⟩:=h;unfold Zl at e;split at e
 .rename_i x st1 f
  unfold ZaO at e;split at e
  .rename_i k
   split at e
   .rename_i m g
    cases e;exact⟨ad,U,st,.str k,_,E,S,f,λv a b c l j=>⟨rfl,k,d,j.ofStr,g,λw i=>p w a b c l (i a b)⟩⟩
   .exact Zb e
  .exact Zb e
 .exact Zb e
def Zc6{f:Str}{a u v:az}{x y:CE}{p:Pos}(K:Cxt X G F sc N)(e:ZB sc f=ae)(d:X.mg f=ab)(b:Qf G sc f a=aa (u,v))(hu:Zi u=ae)(c:Zi v=ae)(A:PE X u (tE X.K (ev F x)))(B:PE X v (tE X.K (ev F y))):PE X (.Call (.Name f p) [a] [] pos) (tE X.K (ev F (.lstR x y))):=by cases b
def Zc5{a b:az}{y:CE}(K:Cxt X G F sc N)(c:QU G sc a=aa (ks,ds))(g:Zi b=ae)(B:PE X b (tE X.K (ev F y))):PE X (.Subscript a b pos) (tE X.K (ev F (.look ks ds y))):=by
 unfold QU at c;split at c
 .split at c
  .rename_i d
   split at c
   .rename_i q
    cases c;obtain⟨A,o,es,k,h,lk,ex,i,f,e,j⟩:=K.gl _ _ q;exact Zm (pe_ix (ZfX lk ex i f e j) (pe_glob (K.glb _ d) h (show RelV (.ref A) (.ref A) from rfl) (XN d)) B (Uy g)) Zat
   .exact Zb c
  .exact Zb c
 .exact Zb c
def Zgb:V->Li V->Hp->VK->Prop:=λx vs H Q=>∃ p kvs k a,x=.ref p/\vs=[kV k,a]/\H p=aa (.dK kvs)/\Q ((valV kvs k).getD a) H
def ZeK:MtM X "dict.get" Zgb:=by
 intro pQ s O H x vs v r Q I g rv h;obtain⟨p,kvs,k,n,rfl,rfl,l,q⟩:=h;cases g;obtain⟨t,f,rfl,j,i⟩:=rv.two;obtain⟨o,m,e,d,dd⟩:=dk_of I.hok l;refine call_meetsIn PySem.F.slot_dict_get dd.typeIs PySem.F.entry_dict_get (PySem.F.args_dict_get_3 _ _ _) (meets_dict_get_default (mixKind X.prog X.w) p (kV_is j) m f) ⟨_,dd.mapOf,?_⟩;have a:=d.val k;cases b:valV kvs k with
 |none=>
  cases c:valueAt e k with
  |none=>rw[b]at q;exact⟨n,H,I.tok _,i,q⟩
  |some w=>rw[b,c]at a;exact a.elim
 |some z=>
  cases c:valueAt e k with
  |none=>rw[b,c]at a;exact a.elim
  |some w=>rw[b]at q;rw[b,c]at a;exact⟨z,H,I.tok _,a,q⟩
def Zam{s fd:Ev}(O:L2.St)(H:Hp)(Q:VK)(h:tE X.K (Yl fa s fd getD) O H Q):tBM X.K "dict" Zgb (tE X.K fa) (tCons (tE X.K s) (tCons (tE X.K fd) tNil)) O H Q:=by
 obtain⟨ad,U,st,d,st',E,S,e,p⟩:=h;unfold Yl at e;split at e
 .rename_i x st1 I
  split at e
  .rename_i y b G
   split at e
   .rename_i z C F
    unfold getD at e;split at e
    .rename_i ks vs k
     cases e;refine⟨ad,U,st,_,st1,E,S,I,λZ r H1 i V t=>?_⟩
     obtain⟨a,W,rfl,J,hl,D⟩:=t.ofDct;refine⟨.inr (.inr (.inl ⟨rfl,.inl ⟨_,J⟩⟩)),r,U,st1,_,b,E.mono i,V,G,λY q H2 g T R=>⟨q,U,b,_,_,E.mono (i.trans g),T,F,λB c w f v P=>?_⟩⟩
     obtain⟨a',A,M,m,l,j⟩:=(t.mono (g.trans f)).ofDct;cases M;have L:=(R.mono f).ofStr;refine⟨a,_,Sum.inr k,B,rfl,by rw[L];rfl,m,?_⟩
     rcases XR (k:=k) j l with⟨u,d0,o,n,N⟩|⟨o,n⟩
     .rw[o]
      rw[n]at p;exact p _ c w (i.trans (g.trans f)) v N
     .rw[o]
      rw[n]at p;exact p _ c w (i.trans (g.trans f)) v P
    .exact Zb e
   .exact Zb e
  .exact Zb e
 .exact Zb e
def Zc4{ks:Li (Ot az)}{vs:Li az}{a b:az}{x y z:CE}{f:Pos}(K:Cxt X G F sc N)(c:(ap.endLine==cp.line)=ae)(e:Zi a=ae)(d:Zi b=ae)(D:PE X (.Dict ks vs f) (tE X.K (ev F x)))(A:PE X a (tE X.K (ev F y)))(B:PE X b (tE X.K (ev F z))) :
  PE X (.Call (.Attribute (.Dict ks vs f) "get" ap) [a,b] [] cp) (tE X.K (ev F (.dget x y z))):=by
 refine Zm (pe_bm PySem.F.plainAttrs_dict PySem.F.slot_dict_get PySem.F.type_dict_get ZeK D (pa2 e d A B) rfl ?_ c (Ze e) (Zei d)) Zam;rw[Ze e,Ze d];rfl
def Ze2{u:Str}{a b:az}{x y z:CE}{up:Pos}(K:Cxt X G F sc N)(c:(ap.endLine==cp.line)=ae)(e:Zi a=ae)(d:Zi b=ae)(D:PE X (.Name u up) (tE X.K (ev F x)))(A:PE X a (tE X.K (ev F y)))(B:PE X b (tE X.K (ev F z))) :
  PE X (.Call (.Attribute (.Name u up) "get" ap) [a,b] [] cp) (tE X.K (ev F (.dgN x y z))):=by
 refine Zm (pe_bm PySem.F.plainAttrs_dict PySem.F.slot_dict_get PySem.F.type_dict_get (QX (by have:=K.hu;omega)) D (pa2 e d A B) rfl ?_ c (Ze e) (Zei d)) Zcn
 rw[Ze e,Ze d];rfl
def Ze1{u:Str}{a:az}{x y:CE}{up:Pos}(K:Cxt X G F sc N)(b:(ap.endLine==cp.line)=ae)(d:Zi a=ae)(D:PE X (.Name u up) (tE X.K (ev F x)))(A:PE X a (tE X.K (ev F y))) :
  PE X (.Call (.Attribute (.Name u up) "get" ap) [a] [] cp) (tE X.K (ev F (.dgN x y (.c .non)))):=
 Zm (pe_bm PySem.F.plainAttrs_dict PySem.F.slot_dict_get PySem.F.type_dict_get (QX (by have:=K.hu;omega)) D (pa1 d A) rfl (by rw[Ze d];rfl) b (Ze d) rfl) Zcm
def Zge{p:az×az}{x y z:CE}(K:Cxt X G F sc N)(d:∀ e c,cE G n sc N e=aa c->PE X e (tE X.K (ev F c)))(a:Q3 keys=aa p)(h:cE G n sc N p.1=aa x)(g:cE G n sc N p.2=aa y)(f:(ZcN vals).bind (cE G n sc N)=aa z)(j:Zi p.1=ae)(i:Zi p.2=ae) :
  PE X (.Dict keys vals pos) (tE X.K (ev F (.dd x y z))):=by
 obtain⟨e,b,k⟩:=gN.mp f;obtain rfl:vals=[e]:=by
  unfold ZcN at b;split at b
  .cases b;rfl
  .exact Zb b
 unfold Q3 at a;split at a
 .unfold Vl at a
  split at a
  .obtain rfl:=aw a
   exact Zm (Zf7 (by have:=K.hu;omega) (pe_tup (pa2 j i (d _ x h) (d _ y g))) (d e z k)) Zex
  .exact Zb a
 .exact Zb a
def Ze4{a b:az}{x:CE}{l:Li Nat}{p:Pos}(K:Cxt X G F sc N)(f:ZB sc "isinstance"=ae)(e:X.mg "isinstance"=ab)(d:Zi a=ae)(A:PE X a (tE X.K (ev F x)))(c:U2 G sc b=aa l) :
  PE X (.Call (.Name "isinstance" p) [a,b] [] pos) (tE X.K (ev F (.isc l x))):=by cases c
section
open PySem.SeqAt PySem.MeetsSeq PySem.MeetsSeq2 PySem.MeetsSeq3 PySem.SeqRoads2
end
def ZcC{y:CE}(h:ZeC y=ae):y=.neg (.c (.int 1)):=by
 unfold ZeC at h;split at h
 .rfl
 .cases h
def Qp{b:az}{p:Ot az×Ot az}(q:Wq b=aa p):∃ a,b=.Slice p.1 p.2 ab a:=by
 unfold Wq at q;split at q
 .cases q;exact⟨_,rfl⟩
 .exact Zb q
def Zbo{b s:az}(q:Q6 b=aa s):∃ a,b=.Slice ab ab (aa s) a:=by
 unfold Q6 at q;split at q
 .cases q;exact⟨_,rfl⟩
 .exact Zb q
def Zgf{op:UnaryOp}{a:az}{o:Ot CE}{c:CE}(A:∀ x,o=aa x->SE X F a x)(h:unC op o=aa c):SE X F (.UnaryOp op a pos) c:=by
 cases op with
 |Not=>exact WQ (P:=SE X F _) (show o.map CE.not=aa c from h) λx b=>⟨Zm (pe_not (A x b).pe) Zav,WU (pt_not (A x b).pt) Zau⟩
 |USub=>exact WQ (P:=SE X F _) (show o.map CE.neg=aa c from h) λx b=>.of (Zm (pe_un Zdt (A x b).pe) ZaA)
 |Invert=>exact WQ (P:=SE X F _) (show o.map CE.inv=aa c from h) λx b=>.of (Zm (pe_un Zds (A x b).pe) ZaA)
 |_=>exact Zb h
section
variable {X:Cx}{sc:bp}{N:Li Str}{n:Nat}{c:CE} (K:Cxt X G F sc N) (hf:∀ e c,cE G n sc N e=aa c->SE X F e c)
include K hf
def Ze0{a:az}{d:Li CmpOp}{bs:Li az}(h:ZfJ G sc (cE G n sc N) (cE G n sc N a) d bs=aa c):SE X F (.Compare a d bs pos) c:=by
 cases d with
 |nil=>exact Zb h
 |cons op d=>cases bs with
  |nil=>cases d with
   |nil=>exact Zb h
   |cons _ r=>cases r<;>cases h
  |cons b bs=>cases d with
   |nil=>cases bs with
    |cons _ _=>exact Zb h
    |nil=>
     replace h:(match ZN G sc b with
      |some e=>o3 CE.inR (Zez op) (cE G n sc N a) (cE G n sc N e)
      |none=>o2 (CE.cmp op) (cE G n sc N a) (cE G n sc N b))=aa c:=h
     cases i:ZN G sc b with
     |some e=>
      rw[i]at h;exact XC (P:=SE X F _) h λl x y k g f=>Ze3 K i k (Zd f) (hf a x g).pe (hf e y f).pe
     |none=>
      rw[i]at h;exact ZU (P:=SE X F _) h λx y g f=>⟨Zm (pe_cmpR (Q0 K.hu) (hf a x g).pe (hf b y f).pe (Wc (Zd f))) VF,WU (pt_cmpR (Q0 K.hu) (hf a x g).pe (hf b y f).pe (Wc (Zd f))) λO H Q q=>VF O H _ (Zaz O H Q q)⟩
   |cons j d=>exact Zb h
omit K in
def Zc2{op:BoolOp}{vs:Li az}{pos:Pos}(h:Zdz (cE G n sc N) op pos vs=aa c):SE X F (.BoolOp op vs pos) c:=by
 cases vs with
 |nil=>exact Zb h
 |cons a r=>cases r with
  |nil=>
   have A:=hf a c h;refine⟨pe_one A.pe,?_⟩;cases op with
   |And=>exact(pw_and1 A.pt).pt
   |Or=>exact(pw_or1 A.pt).pt
  |cons b r=>cases op with
   |And=>exact ZU (P:=SE X F _) (show o2 CE.and (cE G n sc N a) (cE G n sc N (.BoolOp .And (b :: r) pos))=aa c from h) λx y e d=>⟨Zm (pe_and (hf a x e).pe (hf _ y d).pe) Zaj,WU (pw_and (hf a x e).pt (UF (hf _ y d).pt)).pt Zai⟩
   |Or=>exact ZU (P:=SE X F _) (show o2 CE.or (cE G n sc N a) (cE G n sc N (.BoolOp .Or (b :: r) pos))=aa c from h) λx y e d=>⟨Zm (pe_or (hf a x e).pe (hf _ y d).pe) Zct,WU (pw_or (hf a x e).pt (UF (hf _ y d).pt)).pt Zcs⟩
def Ze6(e:Vx G F n){a b:az}(h:Zfk G sc (cE G n sc N) (cO G n sc N) a b=aa c):SE X F (.Subscript a b pos) c:=by
 unfold Zfk at h;cases q:Wq b with
 |some p=>
  obtain⟨lo,t⟩:=p;rw[q]at h;obtain⟨j,rfl⟩:=Qp q;exact XC (P:=SE X F _) h λx l u f r m=>.of (Zm (pe_slice ZhE (hf a x f).pe (e X sc N K lo l r) (e X sc N K t u m)) Jr)
 |none=>
  rw[q]at h;dsimp only at h;cases g:Q6 b with
  |some s=>
   rw[g]at h;obtain⟨j,rfl⟩:=Zbo g;exact j_e h λh=>ZU (P:=λo=>o=aa c->SE X F _ c) h (λx y f d h=>XS h λk h=>by
    cases h;rw[ZcC k]at d;exact .of (Zm (ZeT (hf a x f).pe (hf s _ d).pe) Zcx)) rfl
  |none=>
   rw[g]at h;dsimp only at h;cases i:QU G sc a with
   |some p=>
    obtain⟨ks,ds⟩:=p;rw[i]at h;exact WQ (P:=SE X F _) h λy d=>.of (Zc5 K i (Zd d) (hf b y d).pe)
   |none=>
    rw[i]at h;exact ZU (P:=SE X F _) h λx y f d=>.of (Zm (pe_ix (ZgG K.hu) (hf a x f).pe (hf b y d).pe (Uy (Zd d))) VF)
def Zbu{f:Str}{a:az}{p:Pos}(i:ZB sc f=ae)(d:X.mg f=ab)(h:JY G sc f a (cE G n sc N)=aa c):SE X F (.Call (.Name f p) [a] [] pos) c:=by
 unfold JY at h;cases j:Qw G sc f a with
 |some e=>
  rw[j]at h;exact Ze7 K i d j (λc l=>⟨Zd l,(hf e c l).pe⟩) h
 |none=>
  rw[j]at h;dsimp only at h;cases g:Qf G sc f a with
  |some q=>
   obtain⟨u,v⟩:=q;rw[g]at h;exact ZU (P:=SE X F _) h λx y b k=>.of (Zc6 K i d g (Zd b) (Zd k) (hf u x b).pe (hf v y k).pe)
  |none=>
   rw[g]at h;exact j_e h λh=>WQ (P:=λo=>o=aa c->SE X F _ c) h (λx b h=>.of (Zc0 K i d (Zd b) (hf a x b).pe h)) rfl
def Zbv{f:Str}{a b:az}{p:Pos}(i:ZB sc f=ae)(e:X.mg f=ab)(h:JZ G sc f a b (cE G n sc N)=aa c):SE X F (.Call (.Name f p) [a,b] [] pos) c:=by
 unfold JZ at h;by_cases k:f = "isinstance"
 .subst k
  rw[aq rfl]at h;cases g:U2 G sc b with
  |some l=>
   rw[g]at h;exact WQ (P:=SE X F _) h λx q=>.of (Ze4 K i e (Zd q) (hf a x q).pe g)
  |none=>
   rw[g]at h;exact ZU (P:=SE X F _) h λx T d m=>.of (Ze5 K i e (Zd d) (hf a x d).pe m)
 .rw[ar k]at h
  exact j_e h λh=>ZU (P:=λo=>o=aa c->SE X F _ c) h (λx y d j h=>.of (Zc1 K i e (Zd d) (Zd j) (hf a x d).pe (hf b y j).pe h)) rfl
def Zbw(j:YC G F n){f:Str}{p:Pos}(h:J0 G sc f as (cEs G n sc N as) (cE G n sc N)=aa c):SE X F (.Call (.Name f p) as [] pos) c:=by
 unfold J0 at h;cases d:ZB sc f with
 |false=>rw[d]at h;cases h
 |true=>
 rw[d,aq rfl]at h;cases e:G.lookup f with
 |none=>rw[e]at h;cases h
 |some g=>
  rw[e]at h;cases g with
  |fn i q ds=>exact XS h λm h=>WQ (P:=SE X F _) h λo k=>.of (Zc3 K d e m (j X sc N K as o k))
  |blt=>
   have l:X.mg f=ab:=K.gl f _ e;cases as with
   |nil=>exact Zb h
   |cons a as=>cases as with
    |nil=>exact Zbu K hf d l h
    |cons b as=>cases as with
     |nil=>exact Zbv K hf d l h
     |cons _ _=>exact Zb h
  |_=>exact Zb h
def ZcZ(p:YC G F n){k:az}(h:Zdy G k m ap as pos (cEs G n sc N as) (cE G n sc N)=aa c):SE X F (.Call (.Attribute k m ap) as [] pos) c:=by
 cases k with
 |Dict ks vs r=>cases as with
  |nil=>exact Zb h
  |cons a as=>cases as with
   |nil=>exact Zb h
   |cons b as=>cases as with
    |cons _ _=>exact Zb h
    |nil=>
     refine XS h λg h=>XC (P:=SE X F _) h λx y z e l d=>?_
     obtain⟨rfl,f⟩:=g;exact .of (Zc4 K f (Zd l) (Zd d) (hf _ x e).pe (hf a y l).pe (hf b z d).pe)
 |Name y q=>
  refine XS h λg h=>?_
  by_cases i:m = "pop"
  .subst i
   rw[aq rfl]at h;cases as with
   |nil=>exact WQ (P:=SE X F _) h λx e=>.of (Zm (pe_bm0 PySem.F.plainAttrs_list PySem.F.slot_list_pop PySem.F.type_list_pop mt_pop (hf _ x e).pe rfl g.1) Zcu)
   |cons a as=>cases as with
    |cons _ _=>exact Zb h
    |nil=>exact ZU (P:=SE X F _) h λx z e d=>.of (Zm (pe_bm PySem.F.plainAttrs_list PySem.F.slot_list_pop PySem.F.type_list_pop mt_popAt (hf _ x e).pe (pa1 (Zd d) (hf a z d).pe) rfl (by rw[Ze (Zd d)];rfl) g.1 (Ze (Zd d)) rfl) Zaw)
  .rw[ar i]at h
   by_cases j:m = "get"
   .subst j
    rw[aq rfl]at h;cases as with
    |nil=>exact Zb h
    |cons a as=>cases as with
     |nil=>exact ZU (P:=SE X F _) h λx z e d=>.of (Ze1 K g.1 (Zd d) (hf _ x e).pe (hf a z d).pe)
     |cons b as=>cases as with
      |cons _ _=>exact Zb h
      |nil=>exact XC (P:=SE X F _) h λx u z e o d=>.of (Ze2 K g.1 (Zd o) (Zd d) (hf _ x e).pe (hf a u o).pe (hf b z d).pe)
   .rw[ar j]at h
    exact nomatch h
 |_=>exact Zb h
end
def Qs(H:Zq G F n)(j:YC G F n)(E:Vx G F n)(u:∀ X sc N,Cxt X G F sc N->∀ o gens i pos c,cE G (n+1) sc N (.ListComp o gens i pos)=aa c->SE X F (.ListComp o gens i pos) c):Zq G F (n+1):=by
 intro X sc N K e c h;have g:=H X sc N K;have no:∀ {P:Prop},(ab:Ot CE)=aa c->P:=λz=>nomatch z
 cases e with
 |Constant v k pos=>exact Zbx h
 |Name x pos=>exact Zc7 K h
 |BinOp a op b pos=>exact ZU (P:=SE X F _) (show o2 (CE.bin op) (cE G n sc N a) (cE G n sc N b)=aa c from h) λx y s r=>.of (Zm (pe_op ZcO (g a x s).pe (g b y r).pe) VF)
 |UnaryOp op a pos=>exact Zgf (g a) h
 |Compare a L bs pos=>exact Ze0 K g h
 |BoolOp op vs pos=>exact Zc2 g h
 |IfExp t a b pos=>exact XC (P:=SE X F _) (show o3 CE.ife (cE G n sc N t) (cE G n sc N a) (cE G n sc N b)=aa c from h) λz x y l s r=>⟨Zm (pe_ifExp (g t z l).pt (g a x s).pe (g b y r).pe) Zey,ZeU (g t z l).pt (g a x s).pt (g b y r).pt⟩
 |Tuple es k pos=>
  refine WQ (P:=SE X F _) (show(cEs G n sc N es).map CE.tupE=aa c from h) λx q=>?_
  obtain⟨A,C,_,_⟩:=j X sc N K es x q;exact .of (Zm (pe_tup A) (Zcz (λU st ds st' e=>by obtain⟨w,z,l⟩:=Wg C e;cases z;exact l) λU st d st' e=>by obtain⟨w,z,l⟩:=Wg C e;exact⟨w,z⟩))
 |List es pos=>
  refine WQ (P:=SE X F _) (show(cEs G n sc N es).map CE.lstE=aa c from h) λx q=>?_
  obtain⟨A,C,_,_⟩:=j X sc N K es x q;exact .of (Zm (pe_lst A) (Zcq λU st ds st' e=>by obtain⟨w,z,l⟩:=Wg C e;cases z;exact l))
 |Dict keys vals pos=>cases keys with
  |nil=>cases vals with
   |nil=>cases h;exact .of (Zm pe_dnewT Zan)
   |cons _ _=>exact Zb h
  |cons B keys=>
   have h:(match Q3 (B :: keys) with
    |some p=>o3 .dd (cE G n sc N p.1) (cE G n sc N p.2) ((ZcN vals).bind (cE G n sc N))
    |none=>og ((B :: keys).length=vals.length/\(B :: keys)≠[]/\(B :: keys).length<=15) (o2 CE.dict (ZK (B :: keys)) (cVs (cE G n sc N) vals)))=aa c:=h
   split at h
   .rename_i p I
    exact XC (P:=SE X F _) h λx y z s r l=>.of (Zge K (λe c h=>(g e c h).pe) I s r l (Zd s) (Zd r))
   .exact XS h λJ h=>ZU (P:=SE X F _) h λks Q I M=>.of (Zbe (λe c h=>(g e c h).pe) I M J.1 J.2.1 J.2.2)
 |Subscript a b pos=>exact Ze6 K g E h
 |Call f as D pos=>cases D with
  |cons _ _=>exact no h
  |nil=>cases f with
   |Attribute O m ap=>exact ZcZ K g j h
   |Name f p=>exact Zbw K g j h
   |_=>exact no h
 |ListComp o gens i pos=>exact u X sc N K o gens i pos c h
 |_=>exact no h
def UM(a:Zq G F n)(b:YC G F n):YC G F (n+1):=by
 intro X sc N K es c h;cases es with
 |nil=>
  simp only[cEs]at h;cases h;exact⟨Za8 pa_nil WG,trivial,rfl,λ_=>rfl⟩
 |cons e es=>
  refine ZU (P:=λc=>PA X _ (tA X.K (ev F c))/\JE c/\_/\(_->c=.aN)) (show o2 CE.aC (cE G n sc N e) (cEs G n sc N es)=aa c from h) λx r d f=>?_
  obtain⟨A,i,g,_⟩:=b X sc N K es r f;exact⟨Za8 (pa_cons (a X sc N K e x d).pe A (Ze (Zd d))) Vj,trivial,by rw[cH,g,Zd d];rfl,λz=>nomatch z⟩
def UN(b:Zq G F n):Vx G F (n+1):=by
 intro X sc N K e c h;cases e with
 |none=>
  simp only[cO]at h;cases h;exact Zbh po_none Zcr
 |some e=>
  simp only[cO]at h;cases q:cE G n sc N e with
  |none=>rw[q]at h;cases h
  |some x=>
   rw[q]at h;cases h;refine Zbh (po_some (b X sc N K e x q).pe) λO H Q g=>?_
   obtain⟨ad,U,st,d,st',E,S,a,p⟩:=g;have a:Zl (ev F x) WT U st=aa (d,st'):=a;unfold Zl at a;split at a
   .rename_i y st1 f
    cases y with
    |int i=>
     cases a;rcases p with⟨z,_⟩|⟨j,z,p⟩
     .cases z
     .cases z
      exact⟨ad,U,st,.int i,_,E,S,f,λv ad' H' x l k=>⟨i,k.ofInt,p ad' H' x l⟩⟩
    |_=>simp[WT]at a
   .exact Zb a
end
variable [ClsTab]
variable{α β:Type}
def b_e{P:Prop}{o:Ot α}{f:α->Ot β}{c:β}(h:o.bind f=aa c)(k:∀ x,o=aa x->f x=aa c->P):P:=by
 cases o with
 |none=>exact Zb h
 |some x=>exact k x rfl h
def ZdU{s:Stmt}{t u:TS}(b:PS X s t)(a:PS X s u):PS X s (λD O H=>t D O H\/u D O H):=λpQ s O H D I q=>q.elim (b pQ s O H D I) (a pQ s O H D I)
variable{l:Nat}
def We{a:Ot az}(h:Xk e=af):swapsWith e a l env=pure af:=by
 cases e<;>first|rfl|cases h
variable{tg:az}
def Y0(h:Xk e=af):swapsWithSole [tg] e l env=pure af:=We h
def Wv{o k:az}{p:Pos}(h:Zi k=ae):∀ v,assign (.Subscript o k p) env v=(do
   let a <-holding [v] (eval o env)
   let b <-holding [v,a] (eval k env)
   standAt p
   holding [v,a,b] (setItem a b v)
   release [v,a,b] []):=by
 cases k<;>first | (intro _;rfl)|cases h
def W1{o k:az}{p:Pos}:swappedStores [.Subscript o k p] e env=pure ab:=by
 cases e<;>rfl
def Ya(h:Zi e=ae):∀ x,foldedSetIterable e env x=pure x:=by
 cases e<;>first | (intro _;rfl)|cases h
structure CxtS(X:Cx)(G:Gs)(F:Nat->Fn)(sc:bp)(N:List Str):Prop extends Cxt X G F sc N where
 nd:N.Nodup
 loc:∀ x∈N,Loc X.env.scope x
 fn:∀ x,X.fn x=ae
variable{it elt:az}{gens:Li Comprehension}{sc2:bp}{tp p2 p3:Pos}{ctx j:Nat}{h':br}
section
def UT(G:Gs)(F:Nat->Fn)(n:Nat):Prop:=∀ X sc N,CxtS X G F sc N->∀ s c,cS G n sc N s=aa c->PS X s (tS X.K (ex F c))
def ZO(G:Gs)(F:Nat->Fn)(n:Nat):Prop:=∀ X sc N,CxtS X G F sc N->∀ s c,cSs G n sc N s=aa c->PSs X s (tS X.K (ex F c))
def VE{x:Str}(h:N.idxOf? x=aa i):x∈N:=aX (XB h)
def YA{x:Str}{p:Pos}(K:CxtS X G F sc N)(h:N.idxOf? x=aa i):PG X (.Name x p) (gName i):=
 pg_name (by rw[K.hN];exact K.nd) (by rw[K.hN];exact XB h) (K.loc x (VE h)) (.inl (K.fn x))
def X7(K:CxtS X G F sc N):PassesOwn (bg X.prog X.w) X.A X.env X.xe:=by
 rw[K.nx];exact PassesOwn.never
def Q4{x:Str}{p:Pos}(K:Cxt X G F sc N)(a:XO sc x=ae)(b:N.idxOf? x=aa i):PE X (.Name x p) (tVar i):=
 pe_var (by rw[K.hN];exact XB b) (K.vis _ a) (VJ a).1 (VJ a).2
def Wd{a:az}{x:CE}(K:Cxt X G F sc N)(h:ZN G sc it=aa a)(b:Zi a=ae)(A:PE X a (tE X.K (ev F x))):Zi it=ae/\PI X tg it (iRng1 (tCons (tE X.K (ev F x)) tNil)):=by
 obtain⟨_,_,rfl,d,c⟩:=Vb K h;exact⟨rfl,pi_range1 d c (pa1 b A) (Ze b)⟩
def Wt(G:Gs)(F:Nat->Fn)(n:Nat):Prop:=∀ X sc N,CxtS X G F sc N->∀ (x:Str) (i:Nat) (p:Pos) elt gens sc2 epos (pos:Pos) c,N.idxOf? x=aa i->cE G n sc N (.ListComp elt gens sc2 epos)=aa c->
 swapsWith (.ListComp elt gens sc2 epos) (aa (.Name x p)) pos.line X.env=pure ae->PS X (.Assign [.Name x p] (.ListComp elt gens sc2 epos) pos) (tAsg (tE X.K (ev F c)) (gName i))
def Qt{epos p:Pos}{x:Str}:∃ b:Bool,swapsWith (.ListComp elt gens sc2 epos) (aa (.Name x p)) l env=pure b:=⟨_,rfl⟩
def ZaZ{c:CE}(h:cE G n sc N e=aa c):Xk e=af\/∃ elt gens sc2 a,e=.ListComp elt gens sc2 a:=by
 cases n with
 |zero=>exact nomatch (show(ab:Ot CE)=aa c from h)
 |succ n=>cases e<;>first|exact .inl rfl|exact .inr ⟨_,_,_,_,rfl⟩|exact nomatch (show(ab:Ot CE)=aa c from h)
def Zfa(a:Zq G F n)(o:Wt G F n)(K:CxtS X G F sc N){c:CS}{x:Str}{p:Pos}(h:o2 CS.set (N.idxOf? x) (cE G n sc N e)=aa c):PS X (.Assign [.Name x p] e pos) (tS X.K (ex F c)):=by
 refine ZU (P:=λc=>PS X _ (tS X.K (ex F c))) h λi y f d=>?_
 have g:∀ j,PS X (.Assign [.Name x p] e pos) (tAsg (tE X.K (ev F y)) (gName i)):=λj=>ps_set (by rw[K.hN];exact K.nd) (by rw[K.hN];exact XB f) (K.loc _ (VE f)) (a X sc N K.toCxt _ y d).pe j (.inl (K.fn _))
 rcases ZaZ d with m|⟨elt,gens,sc2,epos,rfl⟩
 .exact ZC (g (We m)) VG
 .obtain⟨b,k⟩:=Qt (elt:=elt) (gens:=gens) (sc2:=sc2) (epos:=epos) (p:=p) (x:=x) (l:=pos.line) (env:=X.env)
  cases b with
  |false=>exact ZC (g k) VG
  |true=>exact ZC (o X sc N K _ i p elt gens sc2 epos pos y f d k) VG
def W2{a:Li az}{k:Nat}(h:Ux e=af):swappedStores [.Tuple a k tp] e env=pure ab:=by
 cases e with
 |Tuple=>cases h
 |_=>rfl
def Zdi(a:Zq G F n)(K:CxtS X G F sc N){c:CS}{x y:Str}{p:Pos}(h:og ((Xk e||Ux e)=af) (o3 (λi j c=>og (i≠j) (aa (CS.set2 i j c))) (N.idxOf? x) (N.idxOf? y) (cE G n sc N e)).join=aa c):PS X (.Assign [.Tuple [.Name x p,.Name y p2] ctx tp] e pos) (tS X.K (ex F c)):=by
 refine XS h λb h=>j_e h λh=>XC (P:=λo=>o=aa c->PS X _ (tS X.K (ex F c))) h (λi j k g f d h=>XS h λ_ h=>?_) rfl
 cases h;rw[fZ]at b;exact ZC (ps_asg (a X sc N K.toCxt _ k d).pe (pg_tup K.calm (pgs_cons (YA K g) (pgs_cons (YA K f) pgs_nil))) (Y0 b.1) (W2 b.2)) Zax
def Zdj(a:Zq G F n)(K:CxtS X G F sc N){c:CS}{x y z:Str}{p:Pos}(h:og ((Xk e||Ux e)=af) (o3 (λi j (p:Nat×CE)=>CS.set3 i j p.1 p.2) (N.idxOf? x) (N.idxOf? y) (o2 Prod.mk (N.idxOf? z) (cE G n sc N e)))=aa c):PS X (.Assign [.Tuple [.Name x p,.Name y p2,.Name z p3] ctx tp] e pos) (tS X.K (ex F c)):=by
 refine XS h λb h=>XC (P:=λc=>PS X _ (tS X.K (ex F c))) h λi j q m k f=>ZU (P:=λq=>PS X _ (tS X.K (ex F (.set3 i j q.1 q.2)))) f λl o g d=>?_
 rw[fZ]at b;exact ZC (ps_asg (a X sc N K.toCxt _ o d).pe (pg_tup K.calm (pgs_cons (YA K m) (pgs_cons (YA K k) (pgs_cons (YA K g) pgs_nil)))) (Y0 b.1) (W2 b.2)) Zay
def Ze8(a:Zq G F n)(K:CxtS X G F sc N){c:CS}{f:Str}{d:Pos}{b:Li Keyword}(h:(cE G n sc N (.Call (.Name f d) as b cp)).map CS.act=aa c):PS X (.Expr (.Call (.Name f d) as b cp) pos) (tS X.K (ex F c)):=by
 obtain⟨g,e,rfl⟩:=eW.mp h;exact ZC (ps_expr (a X sc N K.toCxt _ g e).pe rfl) Zci
def Za9{k a b:az}(h:Vl k=aa (a,b)):∃ c p,k=.Tuple [a,b] c p:=by
 unfold Vl at h;split at h
 .cases h;exact⟨_,_,rfl⟩
 .exact Zb h
def Zfb(d:Zq G F n)(K:CxtS X G F sc N){c:CS}{x:Str}{k:az}{p q:Pos}(h:Zf9 sc N x k e (cE G n sc N)=aa c):PS X (.Assign [.Subscript (.Name x p) k q] e pos) (tS X.K (ex F c)):=
 XS h λl h=>by
 cases o:Vl k with
 |some u=>
  rw[o]at h;obtain⟨a,b⟩:=u;obtain⟨_,_,rfl⟩:=Za9 o;refine XC (P:=λc=>PS X _ (tS X.K (ex F c))) h λ_ j y r f m=>?_
  exact ZU (P:=λj:CE×CE=>PS X _ (tS X.K (ex F (.dput _ j.1 j.2 y)))) f λt s i g=>ZC (ps_asg (d X sc N K.toCxt _ y m).pe (pg_sub (Q4 K.toCxt l.2.2 r) (pe_tup (pa_cons (d X sc N K.toCxt _ t i).pe (pa_cons (d X sc N K.toCxt _ s g).pe pa_nil (Ze (Zd g))) (Ze (Zd i)))) (set_dT (by have:=K.toCxt.hu;omega)) (Wv rfl)) (Y0 l.1) W1) Zao
 |none=>
 rw[o]at h;exact XC (P:=λc=>PS X _ (tS X.K (ex F c))) h λ_ j y r f m=>ZC (ps_asg (d X sc N K.toCxt _ y m).pe (pg_sub (Q4 K.toCxt l.2.2 r) (d X sc N K.toCxt _ j f).pe set_list (Wv (Zd f))) (Y0 l.1) W1) Zcv
def Zfc(a:Zq G F n)(K:CxtS X G F sc N){c:CS}(h:(cE G n sc N e).map CS.ret=aa c):PS X (.Return (aa e) pos) (tS X.K (ex F c)):=
 WQ (P:=λc=>PS X _ (tS X.K (ex F c))) h λx q=>ZC (ps_ret (a X sc N K.toCxt _ x q).pe) Zcw
def Zgg(f:Zq G F n)(d:ZO G F n)(K:CxtS X G F sc N){c:CS}{a b:Li Stmt}(h:o3 CS.ite (cE G n sc N e) (cSs G n sc N a) (cSs G n sc N b)=aa c):PS X (.If e a b pos) (tS X.K (ex F c)):=
 XC (P:=λc=>PS X _ (tS X.K (ex F c))) h λk m l g j i=>ZC (ps_if (f X sc N K.toCxt _ k g).pt (d X sc N K _ m j) (d X sc N K _ l i)) Zcp
def Zdd(d:YC G F n)(a:ZO G F n)(K:CxtS X G F sc N){c:CS}{x:Str}{b:Li Stmt}{p:Pos}(e:X8 G sc it=aa as)(h:o3 CS.for3 (N.idxOf? x) (cEs G n sc N as) (cSs G n sc N b)=aa c):PS X (.For (.Name x p) it b [] pos) (tS X.K (ex F c)):=by cases e
def Zdb(e:Zq G F n)(d:ZO G F n)(K:CxtS X G F sc N){c:CS}{x:Str}{b:Li Stmt}{p:Pos}(h:(match ZN G sc it with
   |some a=>o3 (λi c b=>CS.for1 i ae c b) (N.idxOf? x) (cE G n sc N a) (cSs G n sc N b)
   |none=>o3 (λi c b=>CS.for1 i af c b) (N.idxOf? x) (cE G n sc N it) (cSs G n sc N b))=aa c):PS X (.For (.Name x p) it b [] pos) (tS X.K (ex F c)):=by
 cases k:ZN G sc it with
 |some a=>
  rw[k]at h;refine XC (P:=λc=>PS X _ (tS X.K (ex F c))) h λi r j f q g=>?_
  obtain⟨o,m⟩:=Wd K.toCxt k (Zd q) (e X sc N K.toCxt a _ q).pe;exact ZC (ps_for (X7 K) K.calm m (YA K f) (d X sc N K _ j g) (Ya o)) Zar
 |none=>
  rw[k]at h;refine XC (P:=λc=>PS X _ (tS X.K (ex F c))) h λi r j f q g=>?_
  have A:=(e X sc N K.toCxt _ _ q).pe;have l:=Ya (env:=X.env) (Zd q);exact ZC (ZdU (ps_for (X7 K) K.calm (pi_tup A) (YA K f) (d X sc N K _ j g) l) (ps_for (X7 K) K.calm (pi_list A) (YA K f) (d X sc N K _ j g) l)) Zaq
section
variable{prog:bh}{w:bt}{A:bw}{E:vL->Sd->Prop}{s:Sd}
open Sem (wp)
open AutoSeq1 (wpAny_loadPart')
end
structure ZD(z TI TO i1 i2:Addr):Prop where
 a:TI≠z
 b:TO≠z
 c:i1≠z
 d:i2≠z
 e:TI≠TO
 f:TI≠i1
 g:TI≠i2
 h:TO≠i1
 i:TO≠i2
 j:i1≠i2
section
variable{prog:bh}{w:bt}{A:bw}{s:Sd}{z TI TO i1 i2:Ad}{x y a b:vL}{S1 S2:br->Prop}
open Builtin.SmallTypes
def KB(l:Li Ad)(h h':br):Prop:=∀ c o,c∉l->h.get? c=aa o->h'.get? c=aa o
def KB.of{l:Li Ad}{p:Ad}{h:br}(k:Heap.SameBut p h h')(m:p∈l):KB l h h':=λc o n e=>k.extBut c o (λq=>n (q ▸ m)) e
def KB.trans{l:Li Ad}{d b a:br}(x:KB l d b)(y:KB l b a):KB l d a:=λc o n e=>y c o n (x c o n e)
end
structure ZSt(z TI TO i1 i2 a b:Addr)(i:Nat)(h:br):Prop where
 hz:IsZip h z TI TO .none
 hI:IsPair h TI (.ref i1) (.ref i2)
 hO:∃ u v,IsPair h TO u v
 h1:h.IsTupleIter i1 a i
 h2:h.IsTupleIter i2 b i
section
variable{X:Cx}{z TI TO i1 i2 a b:Ad}{i:Nat}{pQ:Li (Ad×Obj)}{s:Sd}{O:L2.St}{H:Hp}{E:vL->Sd->Prop}
end
section
variable{prog:bh}{w:bt}{A:bw}{E:vL->Sd->Prop}{s:Sd}
open Sem (wp)
open AutoSeq1 (wpAny_loadPart')
end
def Zby(d:Zq G F n)(a:ZO G F n)(K:CxtS X G F sc N){c:CS}{b:Li Stmt}(h:o2 CS.whl (cE G n sc N e) (cSs G n sc N b)=aa c):PS X (.While e b [] pos) (tS X.K (ex F c)):=
 ZU (P:=λc=>PS X _ (tS X.K (ex F c))) h λi j f g=>ZC (ps_while (X7 K) (d X sc N K.toCxt _ i f).pt (a X sc N K _ j g)) Js
def Zdh(d:YC G F n)(a:ZO G F n)(K:CxtS X G F sc N){c:CS}{x y:Str}{b:Li Stmt}{p:Pos}(g:N.idxOf? x=aa i)(f:N.idxOf? y=aa j)(e:Ws G sc it=aa as)(h:o2 (CS.forP i j) (cEs G n sc N as) (cSs G n sc N b)=aa c):PS X (.For (.Tuple [.Name x p,.Name y p2] ctx tp) it b [] pos) (tS X.K (ex F c)):=by cases e
def Zdg(d:Zq G F n)(a:ZO G F n)(K:CxtS X G F sc N){c:CS}{x y:Str}{b:Li Stmt}{p:Pos}(k:N.idxOf? x=aa i)(g:N.idxOf? y=aa j)(f:Wm G sc it=aa e)(h:o2 (CS.forE i j) (cE G n sc N e) (cSs G n sc N b)=aa c):PS X (.For (.Tuple [.Name x p,.Name y p2] ctx tp) it b [] pos) (tS X.K (ex F c)):=by cases f
def Zde(d:Zq G F n)(a:ZO G F n)(K:CxtS X G F sc N){c:CS}{x y z:Str}{b:Li Stmt}{p:Pos}(h:o3 (λ(p:Nat×Nat) (q:Nat×CE) b=>CS.for4 p.1 p.2 q.1 q.2 b) (o2 Prod.mk (N.idxOf? x) (N.idxOf? y)) (o2 Prod.mk (N.idxOf? z) (cE G n sc N it)) (cSs G n sc N b)=aa c):PS X (.For (.Tuple [.Name x p,.Name y p2,.Name z p3] ctx tp) it b [] pos) (tS X.K (ex F c)):=
 XC (P:=λc=>PS X _ (tS X.K (ex F c))) h λu v f t s o=>ZU (P:=λu:Nat×Nat=>PS X _ (tS X.K (ex F (.for4 u.1 u.2 v.1 v.2 f)))) t λi j m k=>ZU (P:=λv:Nat×CE=>PS X _ (tS X.K (ex F (.for4 i j v.1 v.2 f)))) s λl r g e=>
  ZC (ZdU (ps_for (X7 K) K.calm (pi_tup (d X sc N K.toCxt _ r e).pe) (pg_tup K.calm (pgs_cons (YA K m) (pgs_cons (YA K k) (pgs_cons (YA K g) pgs_nil)))) (a X sc N K _ f o) (Ya (Zd e))) (ps_for (X7 K) K.calm (pi_list (d X sc N K.toCxt _ r e).pe) (pg_tup K.calm (pgs_cons (YA K m) (pgs_cons (YA K k) (pgs_cons (YA K g) pgs_nil)))) (a X sc N K _ f o) (Ya (Zd e)))) Zap
def Zdc(d:Zq G F n)(a:ZO G F n)(K:CxtS X G F sc N){c:CS}{x y:Str}{b:Li Stmt}{p:Pos}(g:N.idxOf? x=aa i)(f:N.idxOf? y=aa j)(h:o2 (CS.for2 i j) (cE G n sc N it) (cSs G n sc N b)=aa c):PS X (.For (.Tuple [.Name x p,.Name y p2] ctx tp) it b [] pos) (tS X.K (ex F c)):=by
 refine ZU (P:=λc=>PS X _ (tS X.K (ex F c))) h λm o k l=>?_
 exact λpQ s O H D I q=>by
  obtain⟨_,_,_,_,_,_,_,e,_⟩:=ZV q;cases e
def Ze9(b:Zq G F n)(K:CxtS X G F sc N){c:CS}{x:Str}{p:Pos}(h:ZfD sc N x m ap cp (cE G n sc N e)=aa c):PS X (.Expr (.Call (.Attribute (.Name x p) m ap) [e] [] cp) pos) (tS X.K (ex F c)):=by
 refine XS h λd h=>?_
 by_cases j:m = "append"
 .subst j
  rw[aq rfl]at h;exact ZU (P:=λc=>PS X _ (tS X.K (ex F c))) h λi y f a=>ZC (ps_expr (pe_bm PySem.F.plainAttrs_list PySem.F.slot_list_append PySem.F.type_list_append mt_append (Q4 K.toCxt d.1 f) (pa1 (Zd a) (b X sc N K.toCxt _ y a).pe) rfl (by rw[Ze (Zd a)];rfl) d.2 (Ze (Zd a)) rfl) rfl) Zcj
 .rw[ar j]at h
  by_cases g:m = "extend"
  .subst g
   rw[aq rfl]at h;exact ZU (P:=λc=>PS X _ (tS X.K (ex F c))) h λi y f a=>ZC (ps_expr (pe_bm PySem.F.plainAttrs_list PySem.F.slot_list_extend PySem.F.type_list_extend mt_extend (Q4 K.toCxt d.1 f) (pa1 (Zd a) (b X sc N K.toCxt _ y a).pe) rfl (by rw[Ze (Zd a)];rfl) d.2 (Ze (Zd a)) rfl) rfl) Zcl
  .rw[ar g]at h;cases h
def Zda(d:Zq G F n)(f:Wt G F n)(K:CxtS X G F sc N){c:CS}(h:ZfE N tg e (cE G n sc N e)=aa c):PS X (.Assign [tg] e pos) (tS X.K (ex F c)):=by
 have no:∀ {P:Prop},(ab:Ot CS)=aa c->P:=λz=>nomatch z
 cases tg with
 |Name x p=>exact Zfa d f K h
 |Tuple es ctx tp=>cases es with
  |nil=>exact no h
  |cons a es=>cases a with
   |Name _ _=>cases es with
    |nil=>exact no h
    |cons b es=>cases b with
     |Name _ _=>cases es with
      |nil=>exact Zdi d K h
      |cons g es=>cases g with
       |Name _ _=>cases es with
        |nil=>exact Zdj d K h
        |cons _ _=>exact no h
       |_=>exact no h
     |_=>exact no h
   |_=>exact no h
 |_=>exact no h
def Zdf(f:Zq G F n)(g:YC G F n)(d:ZO G F n)(K:CxtS X G F sc N){c:CS}{b:Li Stmt}(h:Zew G sc N (cE G n sc N) (cEs G n sc N) tg it (cSs G n sc N b)=aa c):PS X (.For tg it b [] pos) (tS X.K (ex F c)):=by
 have no:∀ {P:Prop},(ab:Ot CS)=aa c->P:=λz=>nomatch z
 cases tg with
 |Name x p=>
  unfold Zew at h;cases l:X8 G sc it with
  |some as=>
   rw[l]at h;exact Zdd g d K l h
  |none=>
   rw[l]at h;exact Zdb f d K h
 |Tuple es ctx tp=>cases es with
  |nil=>exact no h
  |cons a es=>cases a with
   |Name x p=>cases es with
    |nil=>exact no h
    |cons v es=>cases v with
     |Name y p2=>cases es with
      |nil=>
       replace h:((o2 (λi j=>og (i≠j) (aa (i,j))) (N.idxOf? x) (N.idxOf? y)).join.bind λp=>(match Ws G sc it with
        |some as=>o2 (CS.forP p.1 p.2) (cEs G n sc N as) (cSs G n sc N b)
        |none=>match Wm G sc it with
         |some e=>o2 (CS.forE p.1 p.2) (cE G n sc N e) (cSs G n sc N b)
         |none=>o2 (CS.for2 p.1 p.2) (cE G n sc N it) (cSs G n sc N b)))=aa c:=h
       refine b_e h λq m h=>j_e m λm=>ZU (P:=λo=>o=aa q->PS X _ (tS X.K (ex F c))) m (λi j s r e=>XS e λ_ e=>?_) rfl
       cases e;cases k:Ws G sc it with
       |some as=>
        rw[k]at h;exact Zdh g d K s r k h
       |none=>
        rw[k]at h;dsimp only at h;cases t:Wm G sc it with
        |some e=>
         rw[t]at h;exact Zdg f d K s r t h
        |none=>
         rw[t]at h;exact Zdc f d K s r h
      |cons u es=>cases u with
       |Name _ _=>cases es with
        |nil=>exact Zde f d K h
        |cons _ _=>exact no h
       |_=>exact no h
     |_=>exact no h
   |_=>exact no h
 |_=>exact no h
def Zc9(a:Zq G F n)(K:CxtS X G F sc N){c:CS}{o k:az}{p:Pos}(h:og (m = "append"/\(ap.endLine==cp.line)=ae) (o2 CS.app2 (cE G n sc N (.Subscript o k p)) (cE G n sc N e))=aa c):PS X (.Expr (.Call (.Attribute (.Subscript o k p) m ap) [e] [] cp) pos) (tS X.K (ex F c)):=by
 refine XS h λg h'=>?_
 obtain⟨i,f⟩:=g;subst i;exact ZU (P:=λc=>PS X _ (tS X.K (ex F c))) h' λz y d b=>ZC (ps_expr (pe_bm PySem.F.plainAttrs_list PySem.F.slot_list_append PySem.F.type_list_append mt_append (a X sc N K.toCxt _ z d).pe (pa1 (Zd b) (a X sc N K.toCxt _ y b).pe) rfl (by rw[Ze (Zd b)];rfl) f (Ze (Zd b)) rfl) rfl) Zak
def Zc8(a:Zq G F n)(K:CxtS X G F sc N){c:CS}{v:az}(h:ZfA sc N (cE G n sc N) v=aa c):PS X (.Expr v pos) (tS X.K (ex F c)):=by
 have no:∀ {P:Prop},(ab:Ot CS)=aa c->P:=λz=>nomatch z
 cases v with
 |Call f as b cp=>cases f with
  |Attribute o m ap=>cases o with
   |Name x p=>cases as with
    |nil=>exact no h
    |cons e es=>cases es with
     |nil=>cases b with
      |nil=>exact Ze9 a K h
      |cons _ _=>exact no h
     |cons _ _=>exact no h
   |Subscript o k p=>cases as with
    |nil=>exact no h
    |cons e es=>cases es with
     |nil=>cases b with
      |nil=>exact Zc9 a K h
      |cons _ _=>exact no h
     |cons _ _=>exact no h
   |_=>exact no h
  |Name f d=>exact Ze8 a K h
  |_=>exact no h
 |_=>exact no h
def UO(d:Zq G F n)(j:YC G F n)(f:ZO G F n)(m:Wt G F n):UT G F (n+1):=by
 intro X sc N K s c h;have no:∀ {P:Prop},(ab:Ot CS)=aa c->P:=λz=>nomatch z
 cases s with
 |Assign g e pos=>cases g with
  |nil=>exact no h
  |cons t l=>cases l with
   |cons _ _=>cases t with
    |Subscript o k p=>cases o<;>exact no h
    |_=>exact no h
   |nil=>cases t with
    |Subscript o k p=>cases o with
     |Name x q=>exact Zfb d K h
     |_=>exact no h
    |_=>exact Zda d m K h
 |Return e pos=>cases e with
  |none=>exact no h
  |some e=>exact Zfc d K h
 |If e a b pos=>exact Zgg d f K h
 |While e b i pos=>cases i with
  |cons _ _=>exact no h
  |nil=>exact Zby d f K h
 |For t it b i pos=>cases i with
  |cons _ _=>exact no h
  |nil=>exact Zdf d j f K h
 |Expr v pos=>exact Zc8 d K h
 |Pass pos=>
  cases (show aa CS.skip=aa c from h)
  exact ZC ps_pass Uu
 |Break pos=>
  cases (show aa CS.brk=aa c from h)
  exact ZC ps_break Zck
 |Raise a b pos=>
  cases (show aa CS.stop=aa c from h)
  exact λpQ s O H D I q=>by
   obtain⟨_,_,_,_,_,_,_,e,_⟩:=ZV q;cases e
 |Continue pos=>
  cases (show aa CS.cont=aa c from h)
  exact ZC ps_continue Zal
 |_=>exact no h
def VZ(e:UT G F n)(d:ZO G F n):ZO G F (n+1):=by
 intro X sc N K s c h;cases s with
 |nil=>
  simp only[cSs]at h;cases h;exact Q5 pss_nil Uu
 |cons s r=>
  exact ZU (P:=λc=>PSs X _ (tS X.K (ex F c))) (show o2 CS.seq (cS G n sc N s) (cSs G n sc N r)=aa c from h) λa b g f=>Q5 (pss_cons (e X sc N K s a g) (d X sc N K r b f)) Zcy
end
variable [ClsTab]
def Y6(G:Gs)(F:Nat->Fn):Prop:=∀ n,Zq G F n->(∀ X sc N,Cxt X G F sc N->∀ elt gens sc2 pos c,cE G (n+1) sc N (.ListComp elt gens sc2 pos)=aa c->SE X F (.ListComp elt gens sc2 pos) c)/\Wt G F (n+1)
theorem Vn{G:Gs}{F:Nat->Fn}(d:Y6 G F):∀ n,(Zq G F n/\YC G F n/\Vx G F n)/\UT G F n/\ZO G F n/\Wt G F n
 |0=>⟨⟨λX sc N K e c h=>(nomatch (show(ab:Ot CE)=aa c from h)),λX sc N K e c h=>(nomatch (show(ab:Ot CE)=aa c from h)),λX sc N K e c h=>(nomatch (show(ab:Ot CE)=aa c from h))⟩,λX sc N K e c h=>(nomatch (show(ab:Ot CS)=aa c from h)),λX sc N K e c h=>(nomatch (show(ab:Ot CS)=aa c from h)),λX sc N K x i p elt gens sc2 j pos c _ h=>(nomatch (show(ab:Ot CE)=aa c from h))⟩
 |n+1=>by
  obtain⟨⟨a,g,l⟩,k,b,f⟩:=Vn d n;exact⟨⟨Qs a g l (d n a).1,UM a g,UN a⟩,UO a g b f,VZ k b,(d n a).2⟩
def Je(K:Fg)(G:Gs)(T:Nat->Ot FD)(x y:Str)(i:Nat)(f:Ad)(fd:bq)(pn N:Li Str):Prop:=∃ (st:Stmt) (oc:vL) (od:Ot Ad) (dV kV doc pm:vL) (an:Ot Ad) (cdv ct:vL) (osl:Array (Ot vL)) (code:CS),
  fd=W.fnOf x y (defArgs st) (defBody st) (defScope st) dV kV doc pm an cdv ct/\K.lookup f=aa ⟨oc,od,.func fd,osl⟩/\W.codeIn K cdv y=ae/\FnScope N pn (defScope st)/\(∀ y∈N,Loc (defScope st) y) /\
  cSs G 60 (defScope st) N (defBody st)=aa code/\T i=aa ⟨pn.length,N.length,code⟩
def ZbV(K:Fg)(mg:Str->Ot vL)(G:Gs)(T:Nat->Ot FD)(i:Nat)(f:Ad)(fd:bq)(pn:Li Str):Prop:=∀ (P:bh) (w:bt) (base:br) (n:Nat),(∀ m,m<=n->∀ A,Room m A->∀ y g,G.lookup y=aa g->GOk P w K mg base A (run T m) y g)->FnOk P w K mg base CX0 (n+1) f fd pn (spD K (run T (n+1) i))
structure DefOk(K:Fg)(mg:Str->Option Value)(G:Gs)(T:Nat->Option FD)(x:Str)(i:Nat)(ds:List D)(f:Addr)(fd:bq)(pn N:List Str):Prop where
 ob:Je K G T x x i f fd pn N\/ZbV K mg G T i f fd pn
 kp:W.keepIn K (.ref f)=ae
 at_:mg x=aa (.ref f)
 bn:∀ m,m<=ds.length->∃ dvs us,(∀ ad H,Dens K ad H dvs (ds.drop m))/\Vals dvs us/\Binds K fd pn us
structure MethOk(K:Fg)(G:Gs)(T:Nat->Option FD)(C:Addr)(x y:Str)(i:Nat)(f:Addr)(fd:bq)(pn N:List Str):Prop where
 ob:Je K G T x y i f fd pn N
 mt:Meth K C x f
 bn:Binds K fd pn []
structure Text(Pm:Params)(K:Fg)(mg:Str->Option Value)(G:Gs)(T:Nat->Option FD):Prop where
 cst:∀ x d,G.lookup x=aa (.c d)->∃ v u,mg x=aa u/\RelV v u/\∀ ad H,Den K ad H v d
 blt:∀ x,G.lookup x=aa .blt->mg x=ab
 dct:∀ x ks ds,G.lookup x=aa (.dct ks ds)->QD Pm K mg x ks ds
 fn:∀ x i ps ds,G.lookup x=aa (.fn i ps ds)->∃ f fd pn N,DefOk K mg G T x i ds f fd pn N
 cls:∀ x i ms subs,G.lookup x=aa (.cls i ms subs)->(mg x=aa (.ref (ClsTab.ca i))/\NewOk K (ClsTab.ca i)/\∀ i',subs.contains i'=ae->SubOk K (ClsTab.ca i') (ClsTab.ca i)) /\
  ∀ m j ps,ms.lookup m=aa (j,ps)->∃ y f fd pn N,MethOk K G T (ClsTab.ca i) m y j f fd pn N
variable{pn:Li Str}
variable{P:bh}{w:bt}{K:Fg}{mg:Str->Ot vL}{base:br}{T:Nat->Ot FD}
def ZbK{x:Str}(h:XO sc x=ae):Vis sc x:=by
 unfold XO at h;rw[Ba]at h;have h:=h.2;split at h
 .rename_i q;exact .inl q
 .rename_i q;exact .inr (.inl q)
 .rename_i q;exact .inr (.inr q)
 .cases h
def QK{x:Str}(h:ZB sc x=ae):sc.names.lookup x=aa .globalImplicit:=by
 unfold ZB at h;rw[Ba]at h;have h:=h.2;split at h
 .rename_i q;exact q
 .cases h
def QG{x:Str}(h:WH sc x=ae):sc.names.lookup x=aa .cell\/sc.names.lookup x=aa .free:=by
 unfold WH at h;split at h
 .rename_i q;exact .inl q
 .rename_i q;exact .inr q
 .cases h
def Jn(h:Dens K ad H vs ds)(j:ds.length<=N.length):EnvOk K ad H (L2.start N vs) (ds.map aa++ag (N.length - ds.length) ab):=by
 have e:=h.length;refine⟨by unfold L2.start;simp[e],λi d q=>?_⟩
 by_cases a:i < ds.length
 .rw[bS (by simpa using a),aV,Lg a]at q
  have b:ds[i]=d:=by simpa using q
  have g:ds[i]?=aa d:=by rw[Lg a,b]
  obtain⟨v,f,c⟩:=h.get g;refine⟨v,?_,c⟩;unfold L2.start;rw[bS (by simpa[e] using a),aV,f]
  rfl
 .rw[bE (by simpa using a),gK]at q
  split at q<;>cases q
def ZeP{n:Nat}(L:∀ n,Y6 G (run T n))(gl:∀ A,Room n A->∀ y g,G.lookup y=aa g->GOk P w K mg base A (run T n) y g){x y:Str}{f:Ad}{fd:bq}(J:Je K G T x y i f fd pn N):FnOk P w K mg base CX0 (n+1) f fd pn (spD K (run T (n+1) i)):=by
 obtain⟨st,oc,Y,Z,kV,O,X,an,v,ct,I,l,rfl,lk,u,S,k,c,M⟩:=J;have a:run T (n+1) i=fnD (run T n) ⟨pn.length,N.length,l⟩:=by
  show(match T i with|some f=>fnD (run T n) f|none=>λ_ _=>ab)=_
  rw[M]
 refine fn_of lk u S (λvs H Q E h=>?_) (λA b s H vs Q E z h=>?_)
 .obtain⟨ad,es,st,d,st',_,t,e,_⟩:=h
  rw[a]at e;unfold fnD at e;split at e
  .rename_i r
   rw[t.length];exact r
  .exact Zb e
 .obtain⟨ad,es,W,d,st',S0,t,e,p⟩:=h
  rw[a]at e;unfold fnD at e;split at e
  .rename_i r
   have C:CxtS (cxOf CX0 P w K mg base N y (defScope st) f v A b s H E).nox G (run T n) (defScope st) N:={
    hN:=rfl
    vis:=λy j=>ZbK j
    glb:=λy j=>QK j
    calm:=rfl
    hu:=z.units
    gl:=gl _ z
    cel:=λy j=>QG j
    nx:=rfl
    nd:=S.nd
    loc:=k
    fn:=λ_=>rfl }
   have B:=(Vn (L n) 60).2.2.1 _ _ _ C _ _ c;have o:pn.length<=N.length:=by have:=av List.length S.pre;rw[aU]at this;omega
   have m:=Jn (N:=N) t (by rw[show es.length=pn.length from r];exact o)
   refine⟨_,B.nox,?_⟩;split at e
   .rename_i d' st1 q
    cases e;exact ZX m S0 q p
   .rename_i U st1 q
    cases e;exact ZX m S0 q λD R H1 F V E1=>(p.later F).at V .non
   .exact Zb e
  .exact Zb e
def Zdu{f:Ad}{fd:bq}:FnOk P w K mg base CX0 0 f fd pn (spD K (run T 0 i)):=by
 refine⟨λvs H Q E h=>?_,λA a s H b c vs Q E _ _ _ _ h=>?_⟩
 .obtain⟨_,_,_,_,_,_,_,e,_⟩:=h;cases e
 .obtain⟨_,_,_,_,_,_,_,e,_⟩:=h;cases e
def ZdF(X:Text w.params K mg G T)(k:∀ {x y:Str}{i:Nat}{f:Ad}{fd:bq}{pn N:Li Str},Je K G T x y i f fd pn N\/ZbV K mg G T i f fd pn->FnOk P w K mg base CX0 n f fd pn (spD K (run T n i)))(A:bw)(h:Room n A):∀ y g,G.lookup y=aa g->GOk P w K mg base A (run T n) y g:=λy g b=>by
 cases g with
 |c d=>exact X.cst y d b
 |blt=>exact X.blt y b
 |dct ks ds=>exact X.dct y ks ds b
 |fn j l es=>
  obtain⟨f,fd,pn,N,e⟩:=X.fn y j l es b;exact⟨n,f,fd,pn,k e.ob,h,e.at_,e.kp,e.bn⟩
 |cls i p a=>
  obtain⟨⟨u,t,s⟩,r⟩:=X.cls y i p a b;refine⟨u,t,s,λm j o q=>?_⟩
  obtain⟨z,f,fd,pn,N,Mk⟩:=r m j o q;exact⟨n,f,fd,pn,k (.inl Mk.ob),h,Mk.mt,Mk.bn⟩
theorem UV(c:∀ n,Y6 G (run T n))(X:Text w.params K mg G T):∀ (n m:Nat),m<=n->∀ {x y:Str}{i:Nat}{f:Ad}{fd:bq}{pn N:Li Str},Je K G T x y i f fd pn N\/ZbV K mg G T i f fd pn->FnOk P w K mg base CX0 m f fd pn (spD K (run T m i))
 |n,0,_,_,_,_,_,_,_,_,_=>Zdu
 |n+1,m+1,h,_,_,_,_,_,_,_,.inl a=>ZeP c (λA b=>ZdF X (λa=>UV c X n m (Nat.le_of_succ_le_succ h) a) A b) a
 |n+1,m+1,h,_,_,_,_,_,_,_,.inr e=>e P w base m λl d A b=>ZdF X (λa=>UV c X n l (aK d (Nat.le_of_succ_le_succ h)) a) A b
def Zeh(a:∀ n,Y6 G (run T n))(X:Text w.params K mg G T)(n:Nat){x y:Str}{f:Ad}{fd:bq}(h:Je K G T x y i f fd pn N\/ZbV K mg G T i f fd pn):FnOk P w K mg base CX0 n f fd pn (spD K (run T n i)):=UV a X n n (aB _) h
variable [ClsTab]
variable{ys:Li V}
section
variable{xs:Li V}
def Qg(b:H p=aa (.lst xs)){a:Ad}:Yk H a↔Yk (upd H p (.lst ys)) a:=W3 (WP b λ_ z=>nomatch z) λ_ z=>nomatch z
def U8{K:Fg}(a:H p=aa (.lst xs)):Keeps K ad ad H (upd H p (.lst ys)):=⟨λh=>h.upd a (by intro xs z;cases z),λh=>⟨h,Qg a⟩,λ_ h=>by rw[upd_ne (ne_of h a (by intro z;cases z))];exact h,λh n=>⟨by rw[upd_ne (ne_of h a (by intro z;cases z))];exact h,n⟩⟩
def Den.wr{K:Fg}(a:H p=aa (.lst xs)){v:V}(h:Den K ad H v d):Den K ad (upd H p (.lst ys)) v d:=h.map (U8 a)
def Dens.wr{K:Fg}(a:H p=aa (.lst xs))(h:Dens K ad H vs ds):Dens K ad (upd H p (.lst ys)) vs ds:=h.map (U8 a)
theorem EnvOk.wr{K:Fg}(a:H p=aa (.lst xs))(h:EnvOk K ad H O U):EnvOk K ad (upd H p (.lst ys)) O U:=⟨h.len,λi d e=>let ⟨v,e1,e2⟩:=h.at_ i d e;⟨v,e1,e2.wr a⟩⟩
def StOk.wr{K:Fg}(S:StOk K ad H st)(a:H p=aa (.lst xs))(b:p∉ad):StOk K ad (upd H p (.lst ys)) st:=
 S.wrG (U8 a) b
def Ext.wr{e:Hp}(x:Ext ad0 e ad H)(f:H p=aa (.lst xs))(d:e p=ab):Ext ad0 e ad (upd H p (.lst ys)):=by
 refine⟨x.pre,λb c h=>?_,λb c h=>?_,λb o h n=>?_,x.new,λi a h=>(x.kd i a h).trans (Qg f)⟩
 .rw[upd_ne (ne_of_none h d)];exact x.tup b c h
 .rw[upd_ne (ne_of_none h d)];exact x.dk b c h
 .rw[upd_ne (ne_of_none h d)];exact x.keep b o h n
end
theorem WO{c:Str->NameKind->Bool}:∀ {l:Li (Str×NameKind)}{y:Str},(l.map λ(n,k)=>if c n k=ae then (n,NameKind.cell) else (n,k)).lookup y=(l.lookup y).map λk=>if c y k=ae then NameKind.cell else k
 |[],_=>rfl
 | (n,k) :: r,y=>by
  have a:=@WO c r y;rw[aZ];have e:(if c n k=ae then (n,NameKind.cell) else (n,k))=(n,if c n k=ae then NameKind.cell else k):=by split<;>rfl
  show List.lookup y ((if c n k=ae then (n,NameKind.cell) else (n,k)) :: _)=_
  rw[e,dG,dG];cases q:y==n with
  |true=>rw[beq_iff_eq.mp q];rfl
  |false=>exact a
def Yw{env:PySem.Env}{y:Str}:(relabel sc env).names.lookup y=(sc.names.lookup y).map λk=>if (k==NameKind.free&&env.scope.kind==.function&&env.kindOf y==aa .cell)=ae then NameKind.cell else k:=
 WO (c:=λn k=>k==NameKind.free&&env.scope.kind==.function&&env.kindOf n==aa .cell)
def YI{y:Str}{k:NameKind}(h:sc.names.lookup y=aa k)(a:k≠.free):(relabel sc env).names.lookup y=aa k:=by
 rw[Yw,h];have:(k==NameKind.free)=af:=by simpa using a
 show aa (if (k==NameKind.free&&_&&_)=ae then NameKind.cell else k)=aa k
 rw[this,Bool.false_and,Bool.false_and,ar Bf]
def YY{y:Str}(h:sc.names.lookup y=aa .free):(relabel sc env).names.lookup y=aa .cell\/(relabel sc env).names.lookup y=aa .free:=by
 rw[Yw,h];show(aa (if _ then NameKind.cell else NameKind.free))=_\/(aa (if _ then NameKind.cell else NameKind.free))=_
 split
 .exact .inl rfl
 .exact .inr rfl
def VT{sc:bp}{y:Str}(d:∀ p∈sc.names,p.2≠.cell)(h:(relabel sc env).names.lookup y=aa .cell\/(relabel sc env).names.lookup y=aa .free):sc.names.lookup y=aa .free:=by
 rw[Yw]at h;cases q:sc.names.lookup y with
 |none=>rw[q]at h;rcases h with h|h<;>cases h
 |some k=>
  rw[q]at h;cases k with
  |free=>rfl
  |cell=>
   have:∀ {l:Li (Str×NameKind)},l.lookup y=aa .cell->∃ p∈l,p.2=.cell:=λ{l} e=>by
    induction l with
    |nil=>exact Zb e
    |cons a l c=>
     obtain⟨n,k⟩:=a;rw[dG]at e;split at e
     .cases e;exact⟨_,Ls,rfl⟩
     .obtain⟨p,b,f⟩:=c e;exact⟨p,Lm _ b,f⟩
   obtain⟨p,b,e⟩:=this q;exact au e (d p b)
  |_=>rcases h with h|h<;>simp at h
theorem XA{env:PySem.Env}:∀ (l:Li (Str×NameKind)) (b:Li (Str×Ad)),(∀ p∈l,p.2=.free->∃ c,env.cells.lookup p.1=aa c)->
  ∃ d,(forIn l b λ(x:Str×NameKind) (r:Li (Str×Ad))=>(do
   if (x.2==NameKind.free)=ae then
    let a <-cellOf env x.1
    pure (ForInStep.yield ((x.1,a) :: r))
   else pure (ForInStep.yield r):Sem (ForInStep (Li (Str×Ad)))))=pure d /\
   (∀ y c,d.lookup y=aa c->b.lookup y=aa c\/((y,NameKind.free)∈l/\env.cells.lookup y=aa c))/\(∀ y,(y,NameKind.free)∈l\/(b.lookup y).isSome->(d.lookup y).isSome)
 |[],b,_=>⟨b,by simp only[List.forIn_nil],λy c h=>.inl h,λy h=>by simpa using h⟩
 | (n,k) :: l,b,h=>by
  by_cases m:k=.free
  .subst m
   obtain⟨t,f⟩:=h (n,.free) Ls rfl;obtain⟨d,e,s,o⟩:=XA (env:=env) l ((n,t) :: b) λp j=>h p (Lm _ j)
   refine⟨d,?_,λy c q=>?_,λy q=>?_⟩
   .rw[List.forIn_cons]
    simp only[beq_self_eq_true,if_true];have:cellOf env n=pure t:=by unfold cellOf;rw[f]
    simp only[this,pure_bind];exact e
   .rcases s y c q with z|⟨i,g⟩
    .rw[dG]at z
     split at z
     .rename_i u
      cases z;rw[beq_iff_eq.mp u];exact .inr ⟨Ls,f⟩
     .exact .inl z
    .exact .inr ⟨Lm _ i,g⟩
   .refine o y ?_
    rcases q with q|q
    .rcases aL.mp q with z|z
     .cases z
      exact .inr (by rw[dG];simp)
     .exact .inl z
    .refine .inr ?_
     rw[dG];split
     .rfl
     .exact q
  .obtain⟨d,e,s,o⟩:=XA (env:=env) l b λp j=>h p (Lm _ j)
   refine⟨d,?_,λy c q=>?_,λy q=>?_⟩
   .rw[List.forIn_cons]
    have:(k==NameKind.free)=af:=by simpa using m
    simp only[this,fF,if_false,pure_bind];exact e
   .rcases s y c q with z|⟨i,g⟩
    .exact .inl z
    .exact .inr ⟨Lm _ i,g⟩
   .refine o y ?_
    rcases q with q|q
    .rcases aL.mp q with z|z
     .cases z;exact au rfl m
     .exact .inl z
    .exact .inr q
def Ui{sc:bp}(h:∀ p∈sc.names,p.2=.free->∃ c,env.cells.lookup p.1=aa c):∃ a,closureFor sc env=pure a/\(∀ y c,a.lookup y=aa c->env.cells.lookup y=aa c)/\∀ y,(y,NameKind.free)∈sc.names->(a.lookup y).isSome:=by
 obtain⟨a,e,d,b⟩:=XA (env:=env) sc.names [] h;refine⟨a,?_,λy c q=>?_,λy q=>b y (.inl q)⟩
 .unfold closureFor
  rw[show(λ(x:Str×NameKind) (r:Li (Str×Ad))=>_)=_ from rfl]at e
  first|exact(by simp only[e,pure_bind]) | (simp only[bind_pure]at *;exact e)|exact e
 .rcases d y c q with z|⟨_,z⟩
  .exact Zb z
  .exact z
variable [ClsTab]
variable{iter:az}{ifs:Li az}
def Uj{prog:bh}{R:Result->Sd->Prop}{s:Sd}{a:az}{scope:bp}{it p:vL}(I:Nat->Sd->Prop)(turn:∀ n s,I n s->bf (bg prog w) A (pyNext it) (λr g=>match r with
   |none=>R (.ok .next) g
   |some v=>bf (bg prog w) A (letOwnedTupleGo a it v) (λ_ f=>bf (bg prog w) A (assign a env v) (λ_ l=>
     bf (bg prog w) A (forIn ifs ae λc r=>if r=ae then do let ok <-isTrue c env (eval c env);pure (ForInStep.yield ok) else pure (ForInStep.yield r)) (λok d=>
      if ok=ae then bf (bg prog w) A (eval elt env) (λx k=>
       bf (bg prog w) A (call (.builtin "list.append") [p,x]) (λ_ j=>∃ m,m < n/\I m j) (notedBy (bg prog w) A env λe i=>R (.error e) i) k) (notedBy (bg prog w) A env λe i=>R (.error e) i) d
      else ∃ m,m < n/\I m d) (notedBy (bg prog w) A env λe i=>R (.error e) i) l) (notedBy (bg prog w) A env λe i=>R (.error e) i) f) (notedBy (bg prog w) A env λe i=>R (.error e) i) g) (notedBy (bg prog w) A env λe i=>R (.error e) i) s)(n:Nat)(h:I n s):codeAny (bg prog w) A (.compLoop (.ListComp elt [⟨a,iter,ifs,0⟩] scope pos) 0 it p env) R s:=by
 refine codeAny_loop rfl I (λn s y=>?_) n h
 show bf _ A ((compTurn (.ListComp elt [⟨a,iter,ifs,0⟩] scope pos) 0 it p env).onRaise (λx=>do noteFrame x env;theTreesLotGoes x)) _ _ s
 refine wpAny_noted ?_;rw[compTurn_list];refine aA (wpAny_standAt (aA (cC (turn n s y) (λr g b=>?_) λ_ _ h'=>h')))
 cases r with
 |none=>exact aE b
 |some v=>
  refine aA (cC b (λ_ f b=>?_) λ_ _ h'=>h')
  refine aA (cC b (λ_ l u=>aA (cC u (λok d o=>?_) λ_ _ h'=>h')) λ_ _ h'=>h')
  cases ok with
  |false=>exact aE ⟨rfl,o⟩
  |true=>
   exact aA (aA (cC o (λx k t=>aA (cC t (λ_ j q=>aE (aE ⟨rfl,q⟩)) λ_ _ h'=>h')) λ_ _ h'=>h'))
def cxC(X:Cx)(N:Li Str)(env:PySem.Env)(a:Sd)(c:Hp)(b:Li Ad)(pQ:Li (Ad×Obj)):Cx:=
 { X with N:=N,s₀:=a,H₀:=c,env:=env,outer:=X.stack,ex:=b,fn:=λ_=>af,pn:=X.pn++pQ,xe:=λ_ _=>False }
variable{m0:Str->Ot vL}{tk:Nat}{O':L2.St}
variable{pQ:Li (Ad×Obj)}{O:L2.St}{sc2:bp}{cl:Li (Str×Ad)}{N:Li Str}
section
variable{H3:Hp}{s3:Sd}{fp:Li Ad}
def ZaD(a:L2.Inv X pQ O H3 s3){G:br}(Q:sc2.kind=.function)(f:∀ p∈sc2.names,p.2≠.cell)(E:G.Ns s3.heap.objs.size m0)(up:∀ b u,s3.heap.get? b=aa u->G.get? b=aa u)(k:∀ y c,cl.lookup y=aa c->X.env.cells.lookup y=aa c)(J:∀ y,sc2.names.lookup y=aa .free->(cl.lookup y).isSome)(s:∀ b∈fp,FpOk X pQ H3 b)(R:∀ b∈fp,b < s3.heap.objs.size)(A:∀ (i:Nat) (y:Str) (v:V),N[i]?=aa y->O'[i]?=aa (aa v)->∃ j:Nat,X.N[j]?=aa y/\O[j]?=aa (aa v)/\sc2.names.lookup y=aa .free/\(X.env.scope.names.lookup y=aa .cell\/X.env.scope.names.lookup y=aa .free))(P:O'.length=N.length) :
  L2.Inv (cxC X N (compEnvC sc2 cl s3.heap.objs.size X.env) s3 H3 fp pQ) [] O' H3 { s3 with heap:=G,toks:=tk } where
 ok:={
  mod:=a.ok.mod
  kind:=Q
  glob:=a.ok.glob
  blt:=a.ok.blt
  above:=aB _
  inj:=λx y c e U=>a.ok.inj x y c (k _ _ e) (k _ _ U)
  has:=λx h=>by
   have e:=VT (env:=X.env) f h;have:=J x e;cases q:cl.lookup x with
   |none=>rw[q]at this;cases this
   |some c=>exact⟨c,q⟩
  cab:=λx c h=>nomatch h
  hd:=a.ok.hd
  frames:=a.ok.frames
  stk:=.inl rfl
  exf:=λb g=>⟨bG (R b g),λx c e=>(s b g).2.2.2.2.1 x c (k _ _ e)⟩
  bs:=a.bs
  bsz:=aK a.ok.bsz a.sz
  noex:=λb o e g=>by
   rcases (s b g).2.2.2.1 with z|z
   .exact a.ok.noex b o e z
   .exact au (aW (aJ e) (aK a.ok.bsz z)) (cM _)
  exfs:=λb g B=>by
   rcases aL.mp (a.stkSub b B) with z|z
   .exact(s b g).2.1 z
   .exact(s b g).2.2.1 z
  funs:=a.stack
  frf:=a.stkFree }
 os:=rfl
 bare:=a.bare
 base:=Un.kept up
 loc:=⟨m0,E,λi y v T S Y=>by
  obtain⟨j,g1,g2,I,H⟩:=A i y v T S;obtain⟨m,W,F⟩:=a.loc;obtain⟨u,r,l⟩:=F j y v g1 g2 (.inr H);refine⟨u,r,.inr ⟨YY I,?_⟩⟩;rcases l with⟨z,_⟩|⟨_,c,e,z⟩
  .have K:X.env.scope.names.lookup y=aa .local:=z
   rcases H with w|w<;>(rw[K]at w;cases w)
  .have q:=J y I
   cases t:cl.lookup y with
   |none=>rw[t]at q;cases q
   |some Z=>
    have:=k _ _ t;rw[e]at this;cases this
    obtain⟨o,D,hd⟩:=z;exact⟨c,t,o,up c o D,hd⟩⟩
 cell:=λy c e=>by
  obtain⟨v,o,D,hd⟩:=a.cell y c (k _ _ e);exact⟨v,o,up c o D,hd⟩
 free:=a.hok.fresh (aB _)
 freeC:=λy c e=>a.freeC y c (k _ _ e)
 pin:=λp M=>by
  have C:p∈X.pn++pQ:=by simpa[cxC] using M
  obtain⟨e,n,ne,L,d⟩:=a.pin p C;refine⟨up _ _ e,n,bG (aJ e),λB=>?_,d⟩
  rcases aL.mp (a.stkSub _ B) with z|z
  .exact ne z
  .exact L z
 hok:=a.hok.kept up
 len:=P
def ZaC(p:L2.Inv X pQ O H3 s3){d:Li (Ad×Obj)}{H':Hp}{s':Sd}(m:env.locals=s3.heap.objs.size)(g:L2.Inv (cxC X N env s3 H3 fp pQ) d O' H' s')(sb:Heap.SameBut s3.heap.objs.size s'.heap h')(h:∀ b∈fp,FpOk X pQ H3 b):L2.Inv X pQ O H' { s' with heap:=h' }:=by
 have u:Un (frs X.stack) fp H3 H' s3.heap s'.heap:=g.base;have ne:∀ b o,s3.heap.get? b=aa o->b≠s3.heap.objs.size:=λb o e=>bG (aJ e)
 have j:H' s3.heap.objs.size=ab:=by have:=g.free;rw[show(cxC X N env s3 H3 fp pQ).env.locals=s3.heap.objs.size from m]at this;exact this
 refine p.call' (s':={ s' with heap:=h' }) (ch:=fp) g.os ⟨λb o e n a f=>?_,λb o e n a f=>?_,u.free,λb o e f=>?_,u.tups,u.frzs,u.tbls⟩ (λb k e=>?_) g.bare (λb a=>?_)
 .exact(sb.2 b (ne b o e)).trans (u.keep b o e n a f)
 .obtain⟨sl,i⟩:=u.slot b o e n a f
  exact⟨sl,(sb.2 b (ne b o e)).trans i⟩
 .obtain⟨l,i⟩:=u.there b o e f
  exact⟨l,(sb.2 b (ne b o e)).trans i⟩
 .refine(g.hok b k e).stay (λc r hc q=>(sb.2 c ?_).trans q) (λ_ q=>q) λ_ _ q=>q
  rintro rfl
  rcases hc with rfl|hc
  .rw[j]at e;cases e
  .rw[j]at hc;cases hc
 .exact⟨(h b a).2.2.2.1,(h b a).2.1,(h b a).2.2.2.2.1,(h b a).2.2.2.2.2⟩
end
variable [ClsTab]
theorem WR{N:Li Str}:∀ {l:Li Str}{b:Li Nat},Xn N l=aa b->b.length=l.length/\∀ (i:Nat) (k:Nat),b[i]?=aa k->∃ y,l[i]?=aa y/\N[k]?=aa y
 |[],b,h=>by cases h;exact⟨rfl,λi k e=>by simp at e⟩
 |x :: r,b,h=>by
  unfold Xn at h;split at h
  .rename_i a as g f
   cases h;obtain⟨d,c⟩:=WR f;refine⟨by simp[d],λi k e=>?_⟩
   cases i with
   |zero=>simp at e;subst e;exact⟨x,rfl,XB g⟩
   |succ i=>exact c i k (by simpa using e)
  .exact Zb h
theorem StOk.lt{s:Sd}{a:Ad}(I:L2.Inv X pQ O H s)(S:StOk X.K ad H st)(h:a∈ad):a < s.heap.objs.size:=by
 obtain⟨i,b,e⟩:=List.getElem_of_mem h;rcases S.has (show ad[i]?=aa a by rw[Lg b,e]) with⟨o,q⟩|⟨o,q⟩
 .exact I.hok.lt q
 .exact aJ (I.kIn a o q)
variable{fr:Li Nat}
def Zae{K:Fg}{bs:L2.St}{b:D->Li (Ot D)}(E:EnvOk K ad H O U)(hd:EnvOk K ad H bs (b d)):EnvOk K ad H (bs++fr.map λi=>(O[i]?).join) (Z5 b U fr d):=by
 refine⟨by simp[Z5,hd.len],λi e h=>?_⟩
 unfold Z5 at h;by_cases a:i < (b d).length
 .rw[bS a]at h
  rw[bS (by rw[hd.len];exact a)]
  exact hd.at_ i e h
 .have a:(b d).length<=i:=fO a
  rw[bE a,aV]at h;rw[bE (by rw[hd.len];exact a),aV,hd.len]
  cases q:fr[i - (b d).length]? with
  |none=>rw[q]at h;cases h
  |some k=>
   rw[q]at h;have h:(U[k]?).join=aa e:=by simpa using h
   have c:U[k]?=aa (aa e):=by
    cases z:U[k]? with
    |none=>rw[z]at h;cases h
    |some o=>rw[z]at h;rw[show o=aa e from h]
   obtain⟨w,g,f⟩:=E.at_ k e c;exact⟨w,by simp[g],f⟩
def XW(K:Fg)(tg:az)(a:Li Str)(b:D->Li (Ot D))(ds:Li D):Prop:=
 ∀ X:Cx,X.K=K->X.calm=ae->X.N.Nodup->(∀ (i:Nat) x,a[i]?=aa x->X.N[i]?=aa x)->(∀ y∈a,X.env.scope.names.lookup y=aa .local)->∀ (pQ:Li (Ad×Obj)) (s:Sd) (os fv:L2.St) (H:Hp) (ad:Li Ad) (v:V) (u:vL) (d:D),os.length=a.length->L2.Inv X pQ (os++fv) H s->RelV v u->Den K ad H v d->d∈ds->
  bf (bg X.prog X.w) X.A (assign tg X.env u) (λ_ c=>∃ bs,bs.length=a.length/\EnvOk K ad H bs (b d)/\L2.Inv X pQ (bs++fv) H c) X.xe s
variable{px:Pos}
def V8{K:Fg}{x:Str}:XW K (.Name x px) [x] one ds:=by
 intro X w t k f j pQ s a l H ad v u d g I r n _;obtain⟨o,rfl⟩:∃ o,a=[o]:=by match a,g with|[o],_=>exact⟨o,rfl⟩
 have b:=j x Ls;have c:PG X (.Name x px) (gName 0):=pg_name k (f 0 x rfl) (.inl b) (.inr b);refine thn (c pQ s _ H v u (λO' H'=>O'=[aa v]++l/\H'=H) I r ⟨rfl,rfl⟩) λ_ q ⟨O',H',p,e,m⟩=>?_
 subst e;subst m
 exact⟨[aa v],rfl,⟨rfl,λi e h=>by
  cases i with
  |zero=>cases h;exact⟨v,rfl,n⟩
  |succ i=>exact nomatch (show(ab:Ot (Ot D))=aa (aa e) from h)⟩,p⟩
def V9{K:Fg}{x y:Str}{j:Pos}{k:Nat}{ds:Li D}(l:∀ d∈ds,∃ a b,d=.tup [a,b]):XW K (.Tuple [.Name x px,.Name y j] k tp) [x,y] two ds:=by
 intro X G E z t w pQ s m J H ad v u d B I r M C;obtain⟨o,g,rfl⟩:∃ o g,m=[o,g]:=by match m,B with|[o,g],_=>exact⟨o,g,rfl⟩
 obtain⟨a,b,rfl⟩:=l d C;have q:=w x Ls;have n:=w y (Lm _ Ls);have g1:PG X (.Name x px) (gName 0):=pg_name z (t 0 x rfl) (.inl q) (.inr q);have g2:PG X (.Name y j) (gName 1):=pg_name z (t 1 y rfl) (.inl n) (.inr n);have A:PG X (.Tuple [.Name x px,.Name y j] k tp) _:=pg_tup E (pgs_cons g1 (pgs_cons g2 pgs_nil))
 obtain⟨p,vs,rfl,F,rv⟩:=M.ofTup;cases rv with
 |cons O rv=>cases rv with
  |cons N rv=>
   cases rv;rename_i f c;refine thn (A pQ s _ H _ u (λO' H'=>O'=[aa f,aa c]++J/\H'=H) I r ⟨p,[f,c],rfl,by rw[G];exact F.sq,rfl,f,[c],rfl,c,[],rfl,rfl,rfl,rfl⟩) λ_ Q ⟨O',H',P,e,L⟩=>?_
   subst e;subst L
   exact⟨[aa f,aa c],rfl,⟨rfl,λi e h=>by
    cases i with
    |zero=>cases h;exact⟨f,rfl,O⟩
    |succ i=>cases i with
     |zero=>cases h;exact⟨c,rfl,N⟩
     |succ i=>exact nomatch (show(ab:Ot (Ot D))=aa (aa e) from h)⟩,P⟩
variable{cl:Li (Str×Ad)}{ce cc:CE}{bd:D->Li (Ot D)}{J:It}{tn:Nat->br->Prop}{Good:Li Ad->Hp->Prop}{ad2:Li Ad}{H2:Hp}{use:Ot (vL->Sem Unit)}{R0:vL->Sd->Prop}{st1:Za}
variable{sc:bp}
section
variable{xs:Li Str}
def Yn(h:Xe sc sc2 xs=ae):sc2.kind=.function/\(∀ p∈sc2.names,p.2≠.cell)/\(∀ x∈xs,sc2.names.lookup x=aa .local)/\(∀ p∈sc2.names,p.2=.local->sc2.names.lookup p.1=aa .local)/\(xs++ZJ sc2).Nodup/\∀ y∈ZJ sc2,WH sc y=ae/\sc2.names.lookup y=aa .free:=by
 unfold Xe at h;simp only[Ba,aO,bZ,cB,fY,decide_eq_false_iff_not]at h;obtain⟨⟨⟨⟨⟨i,g⟩,f⟩,d⟩,c⟩,b⟩:=h;exact⟨i,g,f,λp a e=>(d p a).elim (λz=>au e z) id,c,b⟩
def mem_frees{y:Str}:y∈ZJ sc2↔(y,NameKind.free)∈sc2.names:=by
 unfold ZJ;rw[aR];constructor
 .rintro⟨⟨n,k⟩,h,rfl⟩
  rw[fJ]at h;have:k=.free:=ao h.2;rw[<-this];exact h.1
 .intro h
  exact⟨(y,.free),fJ.mpr ⟨h,by simp⟩,rfl⟩
theorem mem_of_lookup{y:Str}{k:NameKind}:∀ {l:Li (Str×NameKind)},l.lookup y=aa k->(y,k)∈l
 |[],h=>by cases h
 | (n,q) :: l,h=>by
  rw[dG]at h;split at h
  .rename_i e
   cases h;rw[beq_iff_eq.mp e];exact Ls
  .exact Lm _ (mem_of_lookup h)
def J9(c:Cxt X G F sc N)(b:Xe sc sc2 xs=ae){C:Ad}{s3:Sd}{H3:Hp}{fp:Li Ad}:Cxt (cxC X (xs++ZJ sc2) (compEnvC sc2 cl C X.env) s3 H3 fp pQ) G F sc2 (xs++ZJ sc2):=by
 obtain⟨i,d,h,g,f,e⟩:=Yn b;exact {
  hN:=rfl
  vis:=λy a=>by
   rcases ZbK a with z|z|z
   .exact .inl (YI z (by intro q;cases q))
   .exact au rfl (d _ (mem_of_lookup z))
   .rcases YY (env:=X.env) z with w|w
    .exact .inr (.inl w)
    .exact .inr (.inr w)
  glb:=λy a=>YI (QK a) (by intro q;cases q)
  calm:=c.calm
  hu:=c.hu
  gl:=c.gl
  cel:=λy a=>by
   rcases QG a with z|z
   .exact au rfl (d _ (mem_of_lookup z))
   .exact YY z
  nx:=rfl }
def J5{ok:Za->Prop}{f c:D->Za->Res}{xs:Li D}{r:Li D×Za}(h:Z9 ok f c xs st=aa r):ok st:=by
 unfold Z9 at h;split at h
 .split at h
  .assumption
  .exact Zb h
 .split at h
  .assumption
  .exact Zb h
def evB(F:Nat->Fn)(c:CE)(b:D->Li (Ot D))(U:Env)(fr:Li Nat):D->Za->Res:=λd s=>ev F c (Z5 b U fr d) s
inductive CI(X:Cx)(tn:Nat->br->Prop)(fp:List Addr)(fv O:L2.St)(U:Env)(w:Nat)(ds:List D)(go:List D->Za->Option (List D×Za))(Good:List Addr->Hp->Prop)(dd:Addr)(ad2:List Addr)(H2:Hp)(st':Za)(ys:List D)(m:Nat)(s:Shared):Prop
 |mk (i:Nat) (o0:L2.St) (H:Hp) (ad:List Addr) (st:Za) (vs:List V) (es zs:List D) (him:i+m=ds.length) (hol:o0.length=w) (I:L2.Inv X [] (o0++fv) H s) (ti:tn i s.heap) (fi:∀ b∈fp,H b=ab) (En:EnvOk X.K ad H O U) (S:StOk X.K ad H st) (Gd:Good ad H) (nd:dd∉ad) (hv:H dd=aa (.lst vs)) (rv:Dens X.K ad H vs es) (hel:es.length<=i)
  (hcp:go (ds.drop i) st=aa (zs,st')) (hys:es++zs=ys) (ex:Ext ad2 H2 ad H):CI X tn fp fv O U w ds go Good dd ad2 H2 st' ys m s
def Jl(Kx:Cxt X G F sc2 N)(ihE:Zq G F n)(hce:cE G n sc2 N elt=aa ce)(hcc:(ifs=[]/\cc=.c (.bl ae))\/∃ e,ifs=[e]/\cE G n sc2 N e=aa cc){fp:Li Ad}{it:Ad}{ok:Za->Prop}(gm:∀ ad H ad' H',Ext ad H ad' H'->Good ad H->Good ad' H')(gw:∀ ad H p xs ys,H p=aa (.lst xs)->Good ad H->Good ad (upd H p (.lst ys)))(go:∀ i ad H st,Good ad H->StOk X.K ad H st->ok st->i < ds.length->J.go i H)(stop:∀ i ad H st,Good ad H->StOk X.K ad H st->ok st->ds.length=i->J.stop i H)(yl:∀ i ad H st v H',Good ad H->StOk X.K ad H st->ok st->J.yld i H v H'->i < ds.length->Ext ad H ad H'/\StOk X.K ad H' st/\∃ d,ds[i]?=aa d/\Den X.K ad H' v d)(T:Turn X.prog X.w X.K tg J fp it tn)(B:XW X.K tg xs bd ds)(hN:X.N.Nodup)(hx:∀ (i:Nat) x,xs[i]?=aa x->X.N[i]?=aa x)(hl:∀ y∈xs,X.env.scope.names.lookup y=aa .local)(exx:X.xe=λ_ _=>False)(fpk:∀ {H:Hp},(∀ b∈fp,H b=ab)->∀ b∈fp,FpOk X [] H b){fv:L2.St}(ec:∀ {ad H bs d},EnvOk X.K ad H O U->EnvOk X.K ad H bs (bd d)->EnvOk X.K ad H (bs++fv) (Z5 bd U fr d)){dd:Ad}{ys:Li D}(D0:H2 dd=ab)(hz:ds.length<=1000){R:Result->Sd->Prop}(done:∀ s5 σ5 H ad vs,L2.Inv X [] σ5 H s5->StOk X.K ad H st'->dd∉ad->H dd=aa (.lst vs)->Dens X.K ad H vs ys->Ext ad2 H2 ad H->R (.ok .next) s5){s:Sd}{m:Nat}(h0:CI X tn fp fv O U xs.length ds (Z9 ok (evB F ce bd U fr) (evB F cc bd U fr)) Good dd ad2 H2 st' ys m s) :
  codeAny (bg X.prog X.w) X.A (.compLoop (.ListComp elt [⟨tg,iter,ifs,0⟩] sc2 pos) 0 (.ref it) (.ref dd) X.env) R s:=by
 refine Uj _ (λm s h=>?_) m h0
 cases h with
 |mk i o0 H ad st vs es zs him hol I ti fi En S Gd nd hv rv hel a Z ex=>
 have W:=J5 a;have none_of:∀ {E:vL->Sd->Prop}{α:Type}{t:Sem α}{R:α->Sd->Prop}{s0:Sd},bf (bg X.prog X.w) X.A t R X.xe s0->bf (bg X.prog X.w) X.A t R E s0:=λh=>by
  rw[exx]at h;exact cC h (λ_ _ q=>q) λ_ _ q=>q.elim
 by_cases hi:i < ds.length
 .refine thn (T.item X rfl rfl rfl Kx.calm i [] s _ H _ I (fpk fi) ti (go i ad H st Gd S W hi)) λr s5 ⟨u,hr,h5'⟩=>?_
  subst hr;refine thn h5' λ_ s6 ⟨v,H',I6,r6,y6,t6,f6⟩=>?_
  obtain⟨x6,S6,d,ed,dv⟩:=yl i ad H st v H' Gd S W y6 hi;have hd:ds.drop i=d :: ds.drop (i+1):=by
   rw[bV hi];rw[Lg hi]at ed;cases ed;rfl
  refine thn (none_of (B X rfl Kx.calm hN hx hl _ s6 o0 _ H' ad v u _ hol (I6.pinned (fpk f6) (T.obj _ _ t6)) r6 dv (aX ed))) λ_ s7 ⟨bs,lb,Eb,I7⟩=>?_
  have En6:=En.mono x6;have En7:=ec En6 Eb
  -- behind the item's turn
  have Y:∀ {M:Hp}{s9:Sd}{g:Li Ad}{st9:Za}{vs9:Li V}{es9 zs9:Li D},L2.Inv X ([]++pinsAt fp s6.heap) (bs++fv) M s9->StOk X.K g M st9->Good g M->dd∉g->M dd=aa (.lst vs9)->Dens X.K g M vs9 es9->es9.length<=i+1->
    Z9 ok (evB F ce bd U fr) (evB F cc bd U fr) (ds.drop (i+1)) st9=aa (zs9,st')->es9++zs9=ys->Ext ad2 H2 g M->EnvOk X.K g M O U->
    ∃ m',m' < m/\CI X tn fp fv O U xs.length ds (Z9 ok (evB F ce bd U fr) (evB F cc bd U fr)) Good dd ad2 H2 st' ys m' s9:=
   λI9 S9 G9 n9 v9 r9 l9 c9 y9 x9 e9=>
    have pk:=λb hb o e=>I9.pin (b,o) (bU _ (bU _ (mem_pinsAt hb e)))
    ⟨m - 1,by omega,.mk (i+1) bs _ _ _ _ _ _ (by omega) lb I9.unpinned (T.keep _ _ _ t6 λb hb o e=>(pk b hb o e).1) (λb hb=>let ⟨o,e,_⟩:=T.obj _ _ t6 b hb;(pk b hb o e).2.1) e9 S9 G9 n9 v9 r9 l9 c9 y9 x9⟩
  -- the L
  have L:∀ {k:Bool}{j:Za},evB F cc bd U fr d st=aa (.bl k,j)->∀ {R:Bool->Sd->Prop}{E:vL->Sd->Prop},(∀ s8 l f,L2.Inv X ([]++pinsAt fp s6.heap) (bs++fv) l s8->Ext ad H' f l->StOk X.K f l j->R k s8)->
    bf (bg X.prog X.w) X.A (forIn ifs ae λc r=>if r=ae then do let ok <-isTrue c X.env (eval c X.env);pure (ForInStep.yield ok) else pure (ForInStep.yield r)) R E s7:=λ{k j} q {R E} hR=>by
   rcases hcc with⟨rfl,rfl⟩|⟨e,rfl,he⟩
   .cases q
    exact wpAny_tests_nil (hR s7 H' ad I7 (Ext.refl _ _) S6)
   .refine wpAny_tests_one (thn (none_of ((ihE X sc2 _ Kx e cc he).pt _ s7 _ H' (λk' l=>k'=k/\∃ f,Ext ad H' f l/\StOk X.K f l j) I7 ⟨ad,Z5 bd U fr d,st,k,j,En7,S6,q,λad' H' x S'=>⟨rfl,ad',x,S'⟩⟩)) λk' s8 ⟨l,I8,e8,f,C,S8⟩=>?_)
    subst e8;exact hR s8 l f I8 C S8
  have n8:∀ {f l},Ext ad H' f l->dd∉f:=λC z=>((x6.trans C).new dd z).elim nd λw=>by rw[hv]at w;cases w
  have v8:∀ {f l},Ext ad H' f l->l dd=aa (.lst vs):=λC=>(x6.trans C).keep dd _ hv nd
  have rv6:=rv.mono x6;have ex6:=ex.trans x6;have G6:=gm _ _ _ _ x6 Gd;clear x6 En Eb ex Gd S I hv rv;rw[hd]at a;unfold Z9 at a;rw[aq W]at a;split at a
  .rename_i j q1
   split at a
   .rename_i y st3 q2
    split at a
    .rename_i zs' st4 q3
     cases a;refine L q1 λs8 l f I8 C S8=>?_
     rw[aq rfl];refine thn (none_of ((ihE X sc2 _ Kx elt ce hce).pe _ s8 _ l (λv8 M=>∃ g,Ext f l g M/\StOk X.K g M st3/\Den X.K g M v8 y) I8 ⟨f,Z5 bd U fr d,j,y,st3,En7.mono C,S8,q2,λv8 ad' H' x S' dn=>⟨ad',x,S',dn⟩⟩)) λu9 s9 ⟨v9,M,I9,r9,g,x9,S9,d9⟩=>?_
     have P:=C.trans x9;have Q:=v8 P;have hlen:vs.length=es.length:=rv6.length;refine thn (none_of (mt_append (X:=X) _ s9 _ M (.ref dd) [v9] (.ref dd) [u9] (λ_ H10=>H10=upd M dd (.lst (vs++[v9]))) I9 rfl (.cons r9 .nil) ⟨dd,vs,v9,rfl,rfl,Q,gA (show vs.length<=1000 by omega) (by decide),rfl⟩)) λu10 s10 ⟨v10,H10,I10,r10,e10⟩=>?_
     subst e10;have nd9:=n8 P;exact Y (vs9:=vs++[v9]) (es9:=es++[y]) (zs9:=zs') I10 (S9.wr Q nd9) (gw _ _ _ _ _ Q (gm _ _ _ _ P G6)) nd9 upd_same (((rv6.mono P).append (.cons d9 .nil)).wr Q) (by rw[aG,fN];omega) q3 (by rw[<-Z,aM];rfl) ((ex6.trans P).wr Q D0) ((En6.mono P).wr Q)
    .exact Zb a
   .exact Zb a
  .rename_i j q1
   refine L q1 λs8 l f I8 C S8=>?_
   rw[ar Bf];exact Y I8 S8 (gm _ _ _ _ C G6) (n8 C) (v8 C) (rv6.mono C) (by omega) a Z (ex6.trans C) (En6.mono C)
  .exact Zb a
 .refine thn (T.done X rfl rfl rfl Kx.calm i [] s _ H _ I (fpk fi) ti (stop i ad H st Gd S W (by omega))) λr s5 ⟨hr,I5⟩=>?_
  subst hr;rw[List.drop_eq_nil_of_le (fO hi)]at a;unfold Z9 at a;rw[aq W]at a;cases a;rw[bD]at Z;subst Z;exact done s5 _ H ad vs I5 S nd hv rv ex
def U3(Kx:Cxt X G F sc N)(ihE:Zq G F n)(P:Xe sc sc2 xs=ae)(hfr:Xn N (ZJ sc2)=aa fr)(hce:cE G n sc2 (xs++ZJ sc2) elt=aa ce)(hcc:(ifs=[]/\cc=.c (.bl ae))\/∃ e,ifs=[e]/\cE G n sc2 (xs++ZJ sc2) e=aa cc)(c1:∀ y c,cl.lookup y=aa c->X.env.cells.lookup y=aa c)(c2:∀ y,(y,NameKind.free)∈sc2.names->(cl.lookup y).isSome){fp:Li Ad}{it:Ad}{ok:Za->Prop}(gm:∀ ad H ad' H',Ext ad H ad' H'->Good ad H->Good ad' H')(gw:∀ ad H p xs ys,H p=aa (.lst xs)->Good ad H->Good ad (upd H p (.lst ys)))(go:∀ i ad H st,Good ad H->StOk X.K ad H st->ok st->i < ds.length->J.go i H)(stop:∀ i ad H st,Good ad H->StOk X.K ad H st->ok st->ds.length=i->J.stop i H)(yl:∀ i ad H st v H',Good ad H->StOk X.K ad H st->ok st->J.yld i H v H'->i < ds.length->Ext ad H ad H'/\StOk X.K ad H' st/\∃ d,ds[i]?=aa d/\Den X.K ad H' v d){s2 s3:Sd}{dd:Ad}{h:br}{ys:Li D}(B:XW X.K tg xs bd ds)(T:Turn X.prog X.w X.K tg J fp it tn)(t2:tn 0 s2.heap)(I:∀ b∈fp,FpOk X pQ H2 b)(fb:∀ b∈fp,b < dd)(E2:EnvOk X.K ad2 H2 O U)(S2:StOk X.K ad2 H2 st1)(g2:Good ad2 H2)(r:Z9 ok (λd s=>ev F ce (Z5 bd U fr d) s) (λd s=>ev F cc (Z5 bd U fr d) s) ds st1=aa (ys,st'))(hz:ds.length<=1000)(hp:Post X.K ad2 H2 (.lst st'.length) (st'++[(ae,ys)]) Q)(V:∀ C dd t H5 Z,t.heap.Ns C Z->(∀ h',Heap.SameBut C t.heap h'->L2.Inv X pQ O H5 { t with heap:=h' })->FpOk X pQ H5 C->Q (.ref dd) H5->compPost (bg X.prog X.w) X.A X.xe use R0 (.ref dd) C (.ok .next) t)  (L:H2 dd=ab) (W:L2.Inv X pQ O (upd H2 dd (.lst [])) s3) (z3:s3.heap.objs.size=dd+1) (Y:dd∉ad2) (l:h.Ns s3.heap.objs.size m0) (up:∀ b u,s3.heap.get? b=aa u->h.get? b=aa u) (M:∀ b u,s2.heap.get? b=aa u->s3.heap.get? b=aa u) :
  codeAny (bg X.prog X.w) X.A (.compStart (.ListComp elt [⟨tg,iter,ifs,0⟩] sc2 pos) 0 (.ref it) (.ref dd) (compEnvC sc2 cl s3.heap.objs.size X.env)) (compPost (bg X.prog X.w) X.A X.xe use R0 (.ref dd) s3.heap.objs.size) { s3 with heap:=h,toks:=tk }:=by
 obtain⟨h1,h2,h3,h4,h5,h6⟩:=Yn P;have f3:∀ b∈fp,FpOk X pQ (upd H2 dd (.lst [])) b:=λb f=>⟨by rw[upd_ne (bG (fb b f))];exact(I b f).1,(I b f).2⟩
 obtain⟨fl,fg⟩:=WR hfr;have I4:=ZaD (N:=xs++ZJ sc2) (cl:=cl) (fp:=fp) (tk:=tk) (O':=ag xs.length ab++fr.map λi=>(O[i]?).join) W h1 h2 l up c1 (λy e=>c2 y (mem_of_lookup e)) f3 (λb f=>by rw[z3];exact Nat.lt_succ_of_lt (fb b f)) (λi y v e1 g=>by
  by_cases E:i < xs.length
  .rw[bS (by simpa using E),gK,aq E]at g;cases g
  .have E:xs.length<=i:=fO E
   rw[bE (by simpa using E),aV,fM]at g
   rw[bE E]at e1;cases q:fr[i - xs.length]? with
   |none=>rw[q]at g;cases g
   |some k=>
    rw[q]at g;have g:(O[k]?).join=aa v:=by simpa using g
    have e3:O[k]?=aa (aa v):=by
     cases w:O[k]? with
     |none=>rw[w]at g;cases g
     |some o=>rw[w]at g;rw[show o=aa v from g]
    obtain⟨y',g1,g2⟩:=fg _ k q;rw[e1]at g1;cases g1
    obtain⟨k1,k2⟩:=h6 y (aX e1);exact⟨k,by rw[Kx.hN];exact g2,e3,k2,Kx.cel y k1⟩) (by simp[fl])
 have K':=J9 (cl:=cl) (C:=s3.heap.objs.size) (s3:=s3) (H3:=upd H2 dd (.lst [])) (fp:=fp) (pQ:=pQ) Kx P;have m:=Jl (R:=compPost (bg X.prog X.w) X.A X.xe use R0 (.ref dd) s3.heap.objs.size) (pos:=pos) (iter:=iter) K' ihE hce hcc gm gw go stop yl T B h5 (λi x e=>by show(xs++ZJ sc2)[i]?=aa x;rw[bS (bL.mp e).1];exact e) (λy hy=>YI (h3 y hy) (by intro q;cases q)) rfl (λ{H} hn b f=>⟨hn b f,by
  show b≠s3.heap.objs.size;rw[z3];exact bG (Nat.lt_succ_of_lt (fb b f)),λhs=>(aL.mp (W.stkSub b hs)).elim (I b f).2.1 (I b f).2.2.1,.inl f,λy c e=>(I b f).2.2.2.2.1 y c (c1 _ _ e),λp hp=>(I b f).2.2.2.2.2 p (by simpa[cxC] using hp)⟩) (O:=O) (U:=U) (fr:=fr) (λa b=>Zae a b) (dd:=dd) (ad2:=ad2) (H2:=H2) (st':=st') (ys:=ys) L hz (λt σ5 H ad vs I5 S nd hv rv ex=>by
   obtain⟨Z,hn,_⟩:=I5.loc;refine V s3.heap.objs.size dd t H Z hn (λh' sb=>ZaC W rfl I5 sb f3) (W.fpOk (aB _) I5.free) (hp (.ref dd) (ad++[dd]) H ⟨λj a e=>Xp (ex.pre j a e),ex.tup,ex.dk,ex.keep,λb f=>?_,ex.kd⟩ (S.adopt hv nd rv) (.lst ⟨by rw[<-S.len];exact Zu,WP hv λ_ z=>nomatch z⟩))
   rcases bC.mp f with z|z
   .exact ex.new b z
   .rw[aQ.mp z];exact .inr L)
  (.mk 0 (ag xs.length ab) (upd H2 dd (.lst [])) ad2 st1 [] [] ys (bY _) (fM ..) I4 (T.keep _ _ _ t2 λb _ o e=>up b o (M b o e)) (λb f=>(f3 b f).1) (E2.mono (Ext.laid L)) (S2.laid L) (gm _ _ _ _ (Ext.laid L) g2) Y upd_same .nil (aB _) r rfl (Ext.laid L))
 exact codeAny_compStart_list m (T.self X.A 0 _ _ _ (T.keep _ _ _ t2 λb _ o e=>up b o (M b o e)) m)
def Jk(Kx:Cxt X G F sc N)(x:Zq G F n)(m:Xe sc sc2 xs=ae)(E:Xn N (ZJ sc2)=aa fr)(I:cE G n sc2 (xs++ZJ sc2) elt=aa ce)(L:(ifs=[]/\cc=.c (.bl ae))\/∃ e,ifs=[e]/\cE G n sc2 (xs++ZJ sc2) e=aa cc)(c1:∀ y c,cl.lookup y=aa c->X.env.cells.lookup y=aa c)(c2:∀ y,(y,NameKind.free)∈sc2.names->(cl.lookup y).isSome){M:Li Ad}{it:Ad}{ok:Za->Prop}(Good:Li Ad->Hp->Prop)(gm:∀ ad H ad' H',Ext ad H ad' H'->Good ad H->Good ad' H')(gw:∀ ad H p xs ys,H p=aa (.lst xs)->Good ad H->Good ad (upd H p (.lst ys)))(go:∀ i ad H st,Good ad H->StOk X.K ad H st->ok st->i < ds.length->J.go i H)(stop:∀ i ad H st,Good ad H->StOk X.K ad H st->ok st->ds.length=i->J.stop i H)(Y:∀ i ad H st v H',Good ad H->StOk X.K ad H st->ok st->J.yld i H v H'->i < ds.length->Ext ad H ad H'/\StOk X.K ad H' st/\∃ d,ds[i]?=aa d/\Den X.K ad H' v d){g:Sd}{ys:Li D}(P:L2.Inv X pQ O H2 g)(B:XW X.K tg xs bd ds)(T:Turn X.prog X.w X.K tg J M it tn)(S:tn 0 g.heap)(f2:∀ b∈M,FpOk X pQ H2 b)(E2:EnvOk X.K ad2 H2 O U)(W:StOk X.K ad2 H2 st1)(g2:Good ad2 H2)(j:Z9 ok (λd s=>ev F ce (Z5 bd U fr d) s) (λd s=>ev F cc (Z5 bd U fr d) s) ds st1=aa (ys,st'))(hz:ds.length<=1000)(hp:Post X.K ad2 H2 (.lst st'.length) (st'++[(ae,ys)]) Q)(q:∀ C dd t R Z,t.heap.Ns C Z->(∀ h',Heap.SameBut C t.heap h'->L2.Inv X pQ O R { t with heap:=h' })->FpOk X pQ R C->Q (.ref dd) R->compPost (bg X.prog X.w) X.A X.xe use R0 (.ref dd) C (.ok .next) t) :
  bf (bg X.prog X.w) X.A (newList []) (λr l=>bf (bg X.prog X.w) X.A (newFunctionEnv sc2 X.env.globals cl [] X.env.qual ab .none (aa X.env)) (λh k=>
   codeAny (bg X.prog X.w) X.A (.compStart (.ListComp elt [⟨tg,iter,ifs,0⟩] sc2 pos) 0 (.ref it) r { h with scope:=relabel sc2 X.env }) (compPost (bg X.prog X.w) X.A X.xe use R0 r h.locals) k) X.xe l) X.xe g:=by
 obtain⟨h1,h2,h3,h4,h5,h6⟩:=Yn m;have fb:∀ b∈M,b < g.heap.objs.size:=λb hb=>let ⟨o,e,_⟩:=T.obj 0 _ S b hb;aJ e
 refine wpAny_newObj_type (wpAny_newFunctionEnv h2 (by intro y hy;simp at hy) (λV f a=>?_) h1)
 dsimp only at f a ⊢;have I3:L2.Inv X pQ O (upd H2 g.heap.objs.size (.lst [])) { g with heap:=g.heap.push { cls:=.type "list",dict:=ab,data:=.seq ([]:Li vL).toArray } }:=P.lnew (its:=[]) (t':=g.toks) .nil (aS _)
 have e3:g.heap.push { cls:=.type "list",dict:=ab,data:=.seq ([]:Li vL).toArray }=({ g with heap:=g.heap.push { cls:=.type "list",dict:=ab,data:=.seq ([]:Li vL).toArray } }:Sd).heap:=rfl
 exact U3 Kx x m E I L c1 c2 gm gw go stop Y B T S f2 fb E2 W g2 j hz hp q (P.hok.fresh (aB _)) I3 (Heap.size_push ..) (λz=>au (W.lt P z) (cM _)) f (λb u e=>a.extBut b u (bG (aJ e)) (aT _ e)) (λb u e=>aT _ e)
end
variable [ClsTab]
def ZbN(X:Cx)(O:L2.St)(U:Env)(ds:Li D)(ok:Za->Prop)(st1 a:Za)(ys:Li D)(Q:VK)(J:It)(b:Hp):Prop:=
 ∃ (ad1:Li Ad) (Good:Li Ad->Hp->Prop),(∀ ad H ad' H',Ext ad H ad' H'->Good ad H->Good ad' H')/\(∀ ad H p c ys,H p=aa (.lst c)->Good ad H->Good ad (upd H p (.lst ys))) /\
  (∀ i ad H st,Good ad H->StOk X.K ad H st->ok st->i < ds.length->J.go i H)/\(∀ i ad H st,Good ad H->StOk X.K ad H st->ok st->ds.length=i->J.stop i H)/\(∀ i ad H st v H',Good ad H->StOk X.K ad H st->ok st->J.yld i H v H'->i < ds.length->Ext ad H ad H'/\StOk X.K ad H' st/\∃ d,ds[i]?=aa d/\Den X.K ad H' v d) /\
  EnvOk X.K ad1 b O U/\StOk X.K ad1 b st1/\Good ad1 b/\Post X.K ad1 b (.lst a.length) (a++[(ae,ys)]) Q
variable{st2:Za}
def Uf{ys:Li D}{f:Ev}(E:EnvOk X.K ad H O U)(S:StOk X.K ad H st)(q:f U st=aa (.tup ds,st1))(p:Post X.K ad H (.lst st2.length) (st2++[(ae,ys)]) Q) :
  iTup X.K (tE X.K f) O H (ZbN X O U ds (λ_=>True) st1 st2 ys Q):=by
 refine⟨ad,U,st,.tup ds,st1,E,S,q,λv c o d n m=>?_⟩
 obtain⟨a,vs,rfl,j,rv⟩:=m.ofTup;refine⟨a,rfl,⟨vs,(j).sq⟩,c,λad H=>TupAt X.K H a vs/\Dens X.K ad H vs ds,λ_ _ _ _ x g=>⟨g.1.mono x,g.2.mono x⟩,λ_ H p k ys h g=>⟨g.1.upd h (by intro k z;cases z),g.2.wr h⟩,λi ad H st g _ _ b=>?_,λi ad H st g _ _ b=>⟨vs,(g.1).sq,by rw[g.2.length];exact cU b⟩,
  λi ad H st v H' g S _ y b=>?_,E.mono d,n,⟨j,rv⟩,p.later d⟩
 .obtain⟨v,e,_⟩:=g.2.get (Lg b)
  exact⟨vs,v,(g.1).sq,e⟩
 .obtain⟨w,e,l⟩:=g.2.get (Lg b)
  have:=y.2 vs ((g.1).sq);rw[e]at this;cases this
  cases y.1;exact⟨Ext.refl _ _,S,_,Lg b,l⟩
def J3{n:Int}{ys:Li D}{f:Ev}(e:n < 2 ^ 62/\-(2 ^ 62)<=n)(E:EnvOk X.K ad H O U)(S:StOk X.K ad H st)(q:f U st=aa (.int n,st1))(p:Post X.K ad H (.lst st2.length) (st2++[(ae,ys)]) Q) :
  iRng1 (tCons (tE X.K f) tNil) O H (ZbN X O U ((aj n.toNat).map λ(k:Nat)=>D.int (k:Int)) (λ_=>True) st1 st2 ys Q):=by
 refine⟨ad,U,st,.int n,st1,E,S,q,λv c j d h g=>?_⟩
 cases g.ofInt;refine⟨n,rfl,e.2,e.1,c,λ_ _=>True,λ_ _ _ _ _ _=>trivial,λ_ _ _ _ _ _ _=>trivial,λi ad H st _ _ _ a=>(show i < n.toNat by simpa using a),λi ad H st _ _ _ a=>(show n.toNat<=i by simpa using cU a),λi ad H st v H' _ S _ y a=>?_,E.mono d,h,trivial,p.later d⟩
 cases y.1;have b:i < n.toNat:=by simpa using a
 refine⟨Ext.refl _ _,S,.int (i:Int),?_,?_⟩
 .rw[aV,List.getElem?_range b];rfl
 .rw[y.2,Int.zero_add];exact .int _
def Ue{c:Y5}{ys:Li D}{f:Ev}(E:EnvOk X.K ad H O U)(S:StOk X.K ad H st)(q:f U st=aa (.lst l,st1))(m:st1[l]?=aa c)(p:Post X.K ad H (.lst st2.length) (st2++[(ae,ys)]) Q) :
  iList X.K (tE X.K f) O H (ZbN X O U c.2 (λs=>s[l]?=aa c) st1 st2 ys Q):=by
 refine⟨ad,U,st,.lst l,st1,E,S,q,λv d r h k o=>?_⟩
 obtain⟨a,rfl,j⟩:=o.ofLst;obtain⟨vs,rv,sq⟩:=k.list j (show st1[l]?=aa (c.1,c.2) from m);refine⟨a,rfl,⟨vs,sq⟩,d,λad H=>LA ad H l a,λ_ _ _ _ x g=>g.mono x,λ_ _ _ _ _ e g=>⟨g.1,λz=>g.2 ((Qg e).mpr z)⟩,λi ad H st g S e b=>?_,λi ad H st g S e b=>?_,λi ad H st v H' g S e y b=>?_,E.mono h,k,j,p.later h⟩
 .obtain⟨vs,rv,sq⟩:=S.list g (show st[l]?=aa (c.1,c.2) from e)
  obtain⟨v,e,_⟩:=rv.get (Lg b);exact⟨vs,v,sq,e⟩
 .obtain⟨vs,rv,sq⟩:=S.list g (show st[l]?=aa (c.1,c.2) from e)
  exact⟨vs,sq,by rw[rv.length];exact cU b⟩
 .obtain⟨vs,rv,sq⟩:=S.list g (show st[l]?=aa (c.1,c.2) from e)
  obtain⟨w,e,n⟩:=rv.get (Lg b);have:=y.2 vs sq;rw[e]at this;cases this
  cases y.1;exact⟨Ext.refl _ _,S,_,Lg b,n⟩
def Zbk{ds:Li D}(e:ds.all Jt=ae):∀ d∈ds,∃ a b,d=.tup [a,b]:=λd c=>by
 have:=bZ.mp e d c;unfold Jt at this;split at this
 .exact⟨_,_,rfl⟩
 .cases this
def JC{x:D}{ds:Li D}{ok:Za->Prop}(h:Vq x st=aa (ds,ok)):((x=.tup ds/\ok=λ_=>True)\/∃ l c,x=.lst l/\st[l]?=aa c/\ds=c.2/\ok=λs=>s[l]?=aa c)/\∀ d∈ds,∃ a b,d=.tup [a,b]:=by
 unfold Vq at h;split at h
 .split at h
  .rename_i e
   cases h;exact⟨.inl ⟨rfl,rfl⟩,Zbk e⟩
  .exact Zb h
 .split at h
  .rename_i c f
   split at h
   .rename_i e
    cases h;exact⟨.inr ⟨_,c,rfl,f,rfl,rfl⟩,Zbk e⟩
   .exact Zb h
  .exact Zb h
 .exact Zb h
def JB{d:Li Str}(h:tgN tg=aa d):(∃ x px,tg=.Name x px/\d=[x])\/∃ x y px f k tp,tg=.Tuple [.Name x px,.Name y f] k tp/\d=[x,y]:=by
 unfold tgN at h;split at h
 .cases h;exact .inl ⟨_,_,rfl,rfl⟩
 .rename_i es k tp
  have nm:∀ {e:az}{x:Str},nmE e=aa x->∃ p,e=.Name x p:=λ{e x} h=>by
   unfold nmE at h;split at h
   .cases h;exact⟨_,rfl⟩
   .exact Zb h
  cases es with
  |nil=>exact Zb h
  |cons a es=>cases es with
   |nil=>exact Zb h
   |cons b es=>cases es with
    |cons c es=>exact Zb h
    |nil=>
     refine ZU (P:=λd=>_\/∃ x y px f i g,Expr.Tuple [a,b] k tp=.Tuple [.Name x px,.Name y f] i g/\d=[x,y]) h λx y l j=>?_
     obtain⟨px,rfl⟩:=nm l;obtain⟨f,rfl⟩:=nm j;exact .inr ⟨x,y,px,f,k,tp,rfl,rfl⟩
 .exact Zb h
inductive CSh(G:Gs)(n:Nat)(sc:bp)(N:List Str)(elt:az)(sc2:bp):List Comprehension->CE->Prop
 |mk {tg it:az}{ifs:List az}{xs:List Str}{fr:List Nat}{r:Option (Option Bool)}{ci ce cc:CE} (htg:tgN tg=aa xs) (hsc:Xe sc sc2 xs=ae) (hfr:Xn N (ZJ sc2)=aa fr) (hi:itC G sc it (cE G n sc N) xs=aa (r,ci)) (hce:cE G n sc2 (xs++ZJ sc2) elt=aa ce) (hcc:(ifs=[]/\cc=.c (.bl ae))\/∃ e,ifs=[e]/\cE G n sc2 (xs++ZJ sc2) e=aa cc):CSh G n sc N elt sc2 [⟨tg,it,ifs,0⟩] (mkC xs.length r fr ci ce cc)
def Zb9{G:Gs}{c:CE}(h:cE G (n+1) sc N (.ListComp elt gens sc2 pos)=aa c):CSh G n sc N elt sc2 gens c:=by
 replace h:ZdB G sc sc2 N (cE G n sc N) (cE G n sc2) elt gens=aa c:=h;have no:∀ {P:Prop},(ab:Ot CE)=aa c->P:=λz=>nomatch z
 cases gens with
 |nil=>exact no h
 |cons g gs=>
  obtain⟨tg,it,ifs,k⟩:=g;cases k with
  |negSucc _=>cases gs<;>exact no h
  |ofNat m=>cases m with
   |succ _=>cases gs<;>exact no h
   |zero=>cases gs with
    |cons _ _=>exact no h
    |nil=>
     replace h:(match tgN tg with
      |none=>ab
      |some b=>og (Xe sc sc2 b=ae) (o3 (λfr p (q:CE×CE)=>mkC b.length p.1 fr p.2 q.1 q.2) (Xn N (ZJ sc2)) (itC G sc it (cE G n sc N) b) (o2 Prod.mk (cE G n sc2 (b++ZJ sc2) elt) (ifC (cE G n sc2 (b++ZJ sc2)) ifs))))=aa c:=h
     cases d:tgN tg with
     |none=>rw[d]at h;cases h
     |some b=>
      rw[d]at h;refine XS h λf h=>XC (P:=CSh G n sc N elt sc2 _) h λfr p q i r o=>ZU (P:=λq:CE×CE=>CSh G n sc N elt sc2 _ (mkC b.length p.1 fr p.2 q.1 q.2)) o λce cc j e=>.mk d f i r j ?_
      cases ifs with
      |nil=>cases e;exact .inl ⟨rfl,rfl⟩
      |cons a l=>cases l with
       |nil=>exact .inr ⟨a,rfl,e⟩
       |cons _ _=>exact Zb e
inductive CR(b:D->List (Option D))(w:D->Za->Option (List D×(Za->Prop)))(fr:List Nat)(fi fe fc:Ev)(U:Env)(st:Za):D->Za->Prop
 |mk {x:D}{st1 st2:Za}{ds ys:List D}{ok:Za->Prop} (q1:fi U st=aa (x,st1)) (q2:w x st1=aa (ds,ok)) (hz:ds.length<=1000) (q3:Z9 ok (λd s=>fe (Z5 b U fr d) s) (λd s=>fc (Z5 b U fr d) s) ds st1=aa (ys,st2)):CR b w fr fi fe fc U st (.lst st2.length) (st2++[(ae,ys)])
def X3{b:D->Li (Ot D)}{w:D->Za->Ot (Li D×(Za->Prop))}{a c f:Ev}(e:Y2 b w fr a c f U st=aa (d,st')):CR b w fr a c f U st d st':=by
 unfold Y2 at e;split at e
 .split at e
  .split at e
   .split at e
    .cases e;exact .mk ‹_› ‹_› ‹_› ‹_›
    .exact Zb e
   .exact Zb e
  .exact Zb e
 .exact Zb e
inductive CIt(X:Cx)(pQ:List (Addr×Obj))(s:Shared)(O:L2.St)(U:Env)(tg it:az)(xs:List Str)(F:Nat->Fn)(fr:List Nat)(ce cc:CE)(Q:VK):Prop
 |mk {bd:D->List (Option D)}{ds:List D}{ok:Za->Prop}{st1 st2:Za}{ys:List D} (B:XW X.K tg xs bd ds) (hz:ds.length<=1000) (q3:Z9 ok (λd s=>ev F ce (Z5 bd U fr d) s) (λd s=>ev F cc (Z5 bd U fr d) s) ds st1=aa (ys,st2)) (hp:Zi it=ae) (pi:bf (bg X.prog X.w) X.A (eval it X.env) (λv s1=>bf (bg X.prog X.w) X.A (pyIter v) (PIE X pQ O tg (ZbN X O U ds ok st1 st2 ys Q)) X.xe s1) X.xe s):CIt X pQ s O U tg it xs F fr ce cc Q
def VM{f:α->β}{o:Ot α}{b:β}(h:o.map f=aa b):∃ a,o=aa a/\f a=b:=by
 cases o with
 |none=>exact Zb h
 |some a=>exact⟨a,rfl,by cases h;rfl⟩
variable{F:Nat->Fn}
def Zb7{G:Gs}(g:Zq G F n)(m:Cxt X G F sc N){i:Li Str}{r:Ot (Ot Bool)}{w:CE}(C:tgN tg=aa i)(f:itC G sc it (cE G n sc N) i=aa (r,w)){s:Sd}(I:L2.Inv X pQ O H s)(E:EnvOk X.K ad H O U)(S:StOk X.K ad H st)(e:ev F (mkC i.length r fr w ce cc) U st=aa (d,st'))(p:Post X.K ad H d st' Q):CIt X pQ s O U tg it i F fr ce cc Q:=by
 rcases JB C with⟨x,px,rfl,rfl⟩|⟨x,y,px,py,k,tp,rfl,rfl⟩
 .replace f:(match ZN G sc it with
   |some a=>(cE G n sc N a).map λc=>(aa (aa ae),c)
   |none=>(cE G n sc N it).map λc=>(aa (aa af),c))=aa (r,w):=f
  split at f
  .rename_i a ha
   obtain⟨P,q,f⟩:=VM f;cases f;obtain⟨Y,T⟩:=Wd (tg:=.Name x px) m ha (Zd q) (g X sc N m a _ q).pe;cases X3 e with
   |@mk B st1 st2 ds ys ok h b t o=>
    refine .mk V8 t o Y (T pQ s O H _ I ?_);cases B with
    |int k=>
     have b:(match (if k < 2 ^ 62/\-(2 ^ 62)<=k then aa ((aj k.toNat).map λ(k:Nat)=>D.int (k:Int)) else ab) with
      |some i=>aa (i,λ_=>True)
      |none=>ab)=aa (ds,ok):=b
     by_cases J:k < 2 ^ 62/\-(2 ^ 62)<=k
     .rw[aq J]at b
      cases b;exact J3 J E S h p
     .rw[ar J]at b
      cases b
    |_=>exact Zb b
  .obtain⟨P,q,f⟩:=VM f
   cases f;cases X3 e with
   |@mk B st1 st2 ds ys ok h b t o=>
    refine .mk V8 t o (Zd q) ?_;cases B with
    |tup i=>cases b;exact pi_tup (g X sc N m it _ q).pe pQ s O H _ I (Uf E S h p)
    |lst l=>
     have b:(match st1[l]? with
      |some c=>aa (c.2,λs=>s[l]?=aa c)
      |none=>ab)=aa (ds,ok):=b
     cases u:st1[l]? with
     |none=>rw[u]at b;cases b
     |some c0=>
      rw[u]at b;cases b;exact pi_list (g X sc N m it _ q).pe pQ s O H _ I (Ue E S h u p)
    |str z=>exact Zb b
    |dct ks vs=>
     have no:∀ {v:V}{j:Li Ad}{A:Hp},Den X.K j A v (.dct ks vs)->False:=λ{v j A} L=>by
      obtain⟨a,R,_,_,Z,r⟩:=L.ofDct;cases ks with
      |cons _ _=>exact Zb b
      |nil=>
       cases R with
       |cons _ _=>cases Z
       |nil=>cases r;cases b
     exact thn ((g X sc N m it _ q).pe pQ s O H (λ_ _=>False) I ⟨ad,U,st,_,st1,E,S,h,λv j A x1 S1 L=>no L⟩) λv s1 ⟨x,A,I1,r1,z⟩=>z.elim
    |_=>exact Zb b
 .replace f:(match VC G sc it with
   |some _=>ab
   |none=>(cE G n sc N it).map λc=>(ab,c))=aa (r,w):=f
  split at f
  .exact Zb f
  .obtain⟨P,q,f⟩:=VM f
   cases f;cases X3 e with
   |mk h b t o=>
    obtain⟨W,M⟩:=JC b;rcases W with⟨rfl,rfl⟩|⟨l,c0,rfl,u,rfl,rfl⟩
    .exact .mk (V9 M) t o (Zd q) (pi_tup (g X sc N m it _ q).pe pQ s O H _ I (Uf E S h p))
    .exact .mk (V9 M) t o (Zd q) (pi_list (g X sc N m it _ q).pe pQ s O H _ I (Ue E S h u p))
def QH{G:Gs}(b:Zq G F n)(t:Cxt X G F sc N){c:CE}(h:cE G (n+1) sc N (.ListComp elt gens sc2 pos)=aa c){s:Sd}(I:L2.Inv X pQ O H s)(Y:tE X.K (ev F c) O H Q)(g:∀ C dd i u M,i.heap.Ns C M->(∀ h',Heap.SameBut C i.heap h'->L2.Inv X pQ O u { i with heap:=h' })->FpOk X pQ u C->Q (.ref dd) u->compPost (bg X.prog X.w) X.A X.xe use R0 (.ref dd) C (.ok .next) i) :
  ∃ tg it ifs,gens=[⟨tg,it,ifs,0⟩]/\∀ a,bf (bg X.prog X.w) X.A (comprehension (.ListComp elt [⟨tg,it,ifs,0⟩] sc2 pos) sc2 X.env a (newList []) af (eval it X.env) use) R0 X.xe s:=by
 cases Zb9 h with
 |@mk tg it ifs xs fr r ci ce cc j f k hi l m=>
  obtain⟨h1,h2,h3,h4,h5,h6⟩:=Yn f;obtain⟨ad,U,st,d,st',E,S,e,p⟩:=Y;obtain⟨cl,ec,c1,c2⟩:=Ui (env:=X.env) (sc:=sc2) (λy W hf=>by
   have hm:(y.1,NameKind.free)∈sc2.names:=by rw[<-hf];exact W
   exact I.ok.has y.1 (t.cel y.1 (h6 y.1 (mem_frees.mpr hm)).1))
  refine⟨tg,it,ifs,rfl,λa=>?_⟩
  cases Zb7 b t j hi I E S e p with
  |mk B V D Z L=>
   refine wpAny_comprehension_free (use:=use) rfl (Ya Z) ec h1 h4 (thn L λv s1 q=>thn q λP s2 o=>?_)
   obtain⟨R,fp,tn,J,H2,rfl,I2,T,z,f2,ad1,Good,gm,gw,go,stop,x,E2,S2,g2,p2⟩:=o;exact Jk t b f k l m c1 c2 Good gm gw go stop x I2 B T z f2 E2 S2 g2 D V p2 g
def Zb8{G:Gs}:Y6 G F:=by
 intro n f;refine⟨λX sc N P elt gens sc2 pos c h=>SE.of ?_,λX sc N K y i p elt gens sc2 j pos c E h r=>?_⟩
 .intro pQ s O H Q I g
  obtain⟨tg,it,ifs,rfl,go⟩:=QH f P h I g (use:=ab) (R0:=EP X pQ O Q) λC dd l x m t u _ q=>⟨m,t,λh' sb=>⟨.ref dd,x,u h' sb,rfl,q⟩⟩
  rw[eval_ListComp];exact go _
 .intro pQ s O H D I g
  obtain⟨tg,it,ifs,rfl,go⟩:=QH f K.toCxt h I g (use:=aa (assign (.Name y p) X.env)) (R0:=λ_ B=>SP X pQ D .next B) λC dd l x m t u d q=>by
   have S:=u l.heap (Heap.SameBut.refl _ _);show bf _ X.A (assign (.Name y p) X.env (.ref dd)) _ _ l;refine wpAny_assign_Name (store_ok2 (v:=.ref dd) S (by rw[K.hN];exact K.nd) (by rw[K.hN];exact XB E) (K.loc _ (VE E)) rfl (λJ R ⟨a,sb,M⟩=>?_) (.inl (K.fn _)))
   have ne:C≠a:=by
    rcases M with z|z
    .rw[z];exact d.2.1
    .exact λw=>d.2.2.2.2.1 _ _ z w.symm
   exact⟨m,t.sameBut sb ne,λT k=>⟨_,x,R.turned (t':=J.toks) (λb o L e=>k.extBut b o L e) d.1 d.2.1 d.2.2.2.1 d.2.2.2.2.1 d.2.2.2.2.2,q⟩⟩
  rw[exec_Assign_Name_used _ _ _ _ r];refine aA (wpAny_standAt (aA ?_));show bf _ X.A (do let _ <-comprehension (.ListComp elt [⟨tg,it,ifs,0⟩] sc2 j) sc2 X.env _ (newList []) af (eval it X.env) (aa (assign (.Name y p) X.env))) _ _ s
  exact aA (cC (go _) (λ_ B g=>aE (aE g)) λ_ _ e=>e)
variable [ClsTab]
def ZgH{α:Type}:∀ {us:Li α},us.length=0->us=[]
 |[],_=>rfl
def Zf4{α:Type}:∀ {us:Li α},us.length=1->∃ a,us=[a]
 |[a],_=>⟨a,rfl⟩
def ZgI{α:Type}:∀ {us:Li α},us.length=2->∃ a b,us=[a,b]
 |[a,b],_=>⟨a,b,rfl⟩
def ZgJ{α:Type}:∀ {us:Li α},us.length=3->∃ a b c,us=[a,b,c]
 |[a,b,c],_=>⟨a,b,c,rfl⟩
def ZgK{α:Type}:∀ {us:Li α},us.length=4->∃ a b c d,us=[a,b,c,d]
 |[a,b,c,d],_=>⟨a,b,c,d,rfl⟩
def ZgL{α:Type}:∀ {us:Li α},us.length=5->∃ a b c d e,us=[a,b,c,d,e]
 |[a,b,c,d,e],_=>⟨a,b,c,d,e,rfl⟩
def ZgM{α:Type}:∀ {us:Li α},us.length=6->∃ a b c d e f,us=[a,b,c,d,e,f]
 |[a,b,c,d,e,f],_=>⟨a,b,c,d,e,f,rfl⟩
def Vr(K:Fg)(G:Gs)(T:Nat->Ot FD)(C:Ad):Li (Str×Nat×Nat)->Prop
 |[]=>True
 | (m,j,_) :: r=>(∃ y f fd pn N,MethOk K G T C m y j f fd pn N)/\Vr K G T C r
def XX(K:Fg)(B:Ad):Li Nat->Prop
 |[]=>True
 |i :: r=>SubOk K (ClsTab.ca i) B/\XX K B r
def XD(a:Params)(K:Fg)(mg:Str->Ot vL)(G:Gs)(T:Nat->Ot FD):Gs->Prop
 |[]=>True
 | (x,.c d) :: r=>(∃ v u,mg x=aa u/\RelV v u/\∀ ad H,Den K ad H v d)/\XD a K mg G T r
 | (x,.blt) :: r=>mg x=ab/\XD a K mg G T r
 | (x,.dct ks ds) :: r=>QD a K mg x ks ds/\XD a K mg G T r
 | (x,.fn i _ ds) :: r=>(∃ f fd pn N,DefOk K mg G T x i ds f fd pn N)/\XD a K mg G T r
 | (x,.cls i e b) :: r=>((mg x=aa (.ref (ClsTab.ca i))/\NewOk K (ClsTab.ca i)/\XX K (ClsTab.ca i) b)/\Vr K G T (ClsTab.ca i) e)/\XD a K mg G T r
def Zec(e:Params)(K:Fg)(mg:Str->Ot vL)(G:Gs)(T:Nat->Ot FD)(x:Str):GV->Prop
 |.c d=>∃ v u,mg x=aa u/\RelV v u/\∀ ad H,Den K ad H v d
 |.blt=>mg x=ab
 |.dct ks ds=>QD e K mg x ks ds
 |.fn i _ ds=>∃ f fd pn N,DefOk K mg G T x i ds f fd pn N
 |.cls i b a=>(mg x=aa (.ref (ClsTab.ca i))/\NewOk K (ClsTab.ca i)/\XX K (ClsTab.ca i) a)/\Vr K G T (ClsTab.ca i) b
theorem YM{b:Params}:∀ {l:Gs}{x:Str}{g:GV},XD b K mg G T l->l.lookup x=aa g->Zec b K mg G T x g
 |[],_,_,_,h=>by cases h
 | (y,v) :: r,x,g,a,h=>by
  have tl:XD b K mg G T r/\Zec b K mg G T y v:=by
   cases v with
   |c d=>exact⟨a.2,a.1⟩
   |blt=>exact⟨a.2,a.1⟩
   |dct ks ds=>exact⟨a.2,a.1⟩
   |fn i j ds=>exact⟨a.2,a.1⟩
   |cls i k f=>exact⟨a.2,a.1⟩
  rw[dG]at h;cases e:x==y with
  |true=>
   rw[e]at h;cases h;rw[beq_iff_eq.mp e];exact tl.2
  |false=>
   rw[e]at h;exact YM tl.1 h
theorem Q9{B:Ad}:∀ {l:Li Nat},XX K B l->∀ i,l.contains i=ae->SubOk K (ClsTab.ca i) B
 |[],_,_,h=>by cases h
 |j :: r,a,i,h=>by
  rw[List.contains_cons,cB]at h;rcases h with h|h
  .rw[beq_iff_eq.mp h];exact a.1
  .exact Q9 a.2 i h
theorem UB{C:Ad}:∀ {l:Li (Str×Nat×Nat)},Vr K G T C l->∀ m j b,l.lookup m=aa (j,b)->∃ y f fd pn N,MethOk K G T C m y j f fd pn N
 |[],_,_,_,_,h=>by cases h
 | (d,g,c) :: r,a,m,j,b,h=>by
  rw[dG]at h;cases e:m==d with
  |true=>
   rw[e]at h;cases h;rw[beq_iff_eq.mp e];exact a.1
  |false=>
   rw[e]at h;exact UB a.2 m j b h
def Zdp{b:Params}(h:XD b K mg G T G):Text b K mg G T:=
 ⟨λ_ _ e=>YM h e,λ_ e=>YM h e,λ_ _ _ e=>YM h e,λ_ _ _ _ e=>YM h e,λx i c a e=>by
  have g:Zec b K mg G T x (.cls i c a):=YM h e;exact⟨⟨g.1.1,g.1.2.1,Q9 g.1.2.2⟩,UB g.2⟩⟩
def Zes(a:∀ n,Y6 G (run T n))(X:Text w.params K mg G T)(n:Nat){x:Str}{f:Ad}{fd:bq}(b:DefOk K mg G T x i ds f fd pn N):FnOk P w K mg base CX0 n f fd pn (spD K (run T n i)):=Zeh a X n b.ob
def Zfj{a:Ad}{f:Li Int}(r:Only H)(u:SqL K H a (f.map V.int))(h:∃ st',run T n i [.lst 0] [(af,f.map .int)]=aa (.bl ae,st')):spD K (run T n i) [.ref a] H (λv _=>v=.bl ae) λ_ _ _=>False:=by
 obtain⟨st',e⟩:=h;have ds:∀ f:Li Int,Dens K [a] H (f.map V.int) (f.map D.int):=λf=>by
  induction f with
  |nil=>exact .nil
  |cons n l t=>exact .cons (.int n) t
 have p:¬Yk H a:=λ⟨kvs,q⟩=>by
  rcases r a with z|⟨o,s,z⟩<;>(rw[q]at z;cases z)
 refine⟨[a],[.lst 0],[(af,f.map .int)],.bl ae,st',⟨rfl,λi j b c d _ _ k _=>?_,λi c g=>?_⟩,.cons (.lst ⟨rfl,p⟩) .nil,e,λv ad' H' x S h=>h.ofBl⟩
 .cases i with
  |zero=>simp at k
  |succ i=>simp at k
 .cases i with
  |succ i=>simp at g
  |zero=>
   have g:(af,f.map D.int)=c:=by simpa using g
   subst g;refine⟨a,rfl,.l p (ds f) (.inr ⟨rfl,?_⟩)⟩;rcases u with(h|⟨o,h⟩)|⟨o,m,n,C,B,k,A,y,w⟩
   .rcases r a with z|⟨o,s,z⟩
    .rw[h]at z;cases z
    .rw[h]at z;cases z
   .exact .inl ⟨o,h⟩
   .exact .inr ⟨o,m,n,⟨C,B⟩,⟨k,A⟩,y,w⟩
abbrev fnS(x y:Str)(s:Stmt)(c kV b a:vL)(e:Ot Ad)(d ct:vL):bq:=W.fnOf x y (defArgs s) (defBody s) (defScope s) c kV b a e d ct
inductive FnAt(K:Fg)(x:Str)(s:Stmt):Prop
 |mk {f:Addr}{oc kV dc pm cd ct:Value}{od an:Option Addr}{sl:Array (Option Value)} (a:W.nsIn K a9 x=aa (aa (.ref f))) (l:K.lookup f=aa ⟨oc,od,.func (W.fnOf x x (defArgs s) (defBody s) (defScope s) .none kV dc pm an cd ct),sl⟩) (e:W.codeIn K cd x=ae) (k:W.keepIn K (.ref f)=ae):FnAt K x s
inductive FnAtE(K:Fg)(x:Str)(s:Stmt)(v:Int):Prop
 |mk {f E:Addr}{eo:Obj}{en:Nat}{et:Tok}{oc kV dc pm cd ct:Value}{od an:Option Addr}{sl:Array (Option Value)} (a:W.nsIn K a9 x=aa (aa (.ref f))) (l:K.lookup f=aa ⟨oc,od,.func (W.fnOf x x (defArgs s) (defBody s) (defScope s) (.ref E) kV dc pm an cd ct),sl⟩) (e:W.codeIn K cd x=ae) (k:W.keepIn K (.ref f)=ae) (d:K.lookup E=aa eo) (g:eo.data=.seq #[.int v et] en):FnAtE K x s v
inductive MtAt(K:Fg)(C:Addr)(x y:Str)(s:Stmt):Prop
 |mk {f:Addr}{oc kV dc pm cd ct:Value}{od an:Option Addr}{sl:Array (Option Value)} (m:W.findIn K (.ref C) x=aa (aa (.ref f))) (l:K.lookup f=aa ⟨oc,od,.func (W.fnOf x y (defArgs s) (defBody s) (defScope s) .none kV dc pm an cd ct),sl⟩) (e:W.codeIn K cd y=ae) (k:W.keepIn K (.ref f)=ae) (i:W.isFn K (.ref f)=ae):MtAt K C x y s
structure ClsAt(K:Fg)(x:Str)(C:Addr):Prop where
 ya:W.nsIn K a9 x=aa (aa (.ref C))
 yb:W.makesIn K C=ae
 yc:W.findIn K (.ref C) "__init__"=aa (aa (.builtin "object.__init__"))
 yd:W.keepIn K (.ref C)=ae
 ye:W.plainGet K C Str.empty=ae
 yf:W.hasDictIn K C=ae
 yg:W.plainOver K C=ae
 yh:W.findIn K (.ref C) "__setattr__"=aa (aa (.builtin "object.__setattr__"))
 yi:W.findIn K (.ref C) "__class__"=aa (aa (.builtin "object.__class__"))
 yj:W.mroIn K C (.type "object")=aa ae
 yk:W.specialIn K (.builtin "object.__class__") "__get__"=aa (aa (.builtin "getset_descriptor.__get__"))
 yl:W.takesIn K (.builtin "object.__class__")=aa ae
abbrev ZbO(G:Gs)(s:Stmt)(N a:Li Str)(c:CS):Prop:=FnScope N a (defScope s)/\(∀ y∈N,L2.Loc (defScope s) y)/\cSs G 60 (defScope s) N (defBody s)=aa c
variable{ps:Li Str}
section
variable{fd:bq}
def bd1(b:ps.length=1)(h:∀ a,bindArgs fd ⟨[a],[]⟩=pure (ps.zip [a])):Binds K fd ps []:=.all λc e=>by obtain⟨_,rfl⟩:=Zf4 (e.trans b);exact h _
def bd2(c:ps.length=2)(h:∀ a b,bindArgs fd ⟨[a,b],[]⟩=pure (ps.zip [a,b])):Binds K fd ps []:=.all λd e=>by obtain⟨_,_,rfl⟩:=ZgI (e.trans c);exact h _ _
def bd3(d:ps.length=3)(h:∀ a b c,bindArgs fd ⟨[a,b,c],[]⟩=pure (ps.zip [a,b,c])):Binds K fd ps []:=.all λf e=>by obtain⟨_,_,_,rfl⟩:=ZgJ (e.trans d);exact h _ _ _
def bd4(f:ps.length=4)(h:∀ a b c d,bindArgs fd ⟨[a,b,c,d],[]⟩=pure (ps.zip [a,b,c,d])):Binds K fd ps []:=.all λg e=>by obtain⟨_,_,_,_,rfl⟩:=ZgK (e.trans f);exact h _ _ _ _
def bd5(f:ps.length=5)(h:∀ a b c d k,bindArgs fd ⟨[a,b,c,d,k],[]⟩=pure (ps.zip [a,b,c,d,k])):Binds K fd ps []:=.all λg e=>by obtain⟨_,_,_,_,_,rfl⟩:=ZgL (e.trans f);exact h _ _ _ _ _
def bd6(f:ps.length=6)(h:∀ a b c d k l,bindArgs fd ⟨[a,b,c,d,k,l],[]⟩=pure (ps.zip [a,b,c,d,k,l])):Binds K fd ps []:=.all λg e=>by obtain⟨_,_,_,_,_,_,rfl⟩:=ZgM (e.trans f);exact h _ _ _ _ _ _
def bd0(a:ps.length=0)(h:bindArgs fd ⟨[],[]⟩=pure []):Binds K fd ps []:=.all λb e=>by rw[ZgH (e.trans a),List.zip_nil_right];exact h
end
variable{i:Nat}
section
variable{Pm:Params}{h:br}{x y:Str}{p:Nat}{s:Stmt}{c:CS}{r:Gs}
def gD(X:K.In h)(o:h.Ns a9 mg)(F:FnAt K x s)(q:ZbO G s N ps c)(f:T i=aa ⟨ps.length,N.length,c⟩)(t:XD Pm K mg G T r)(d:∀ kV g b n j ct,Binds K (fnS x x s .none kV g b n j ct) ps []:=by intros;(first|refine bd0 rfl ?_|refine bd1 rfl ?_|refine bd2 rfl ?_|refine bd3 rfl ?_|refine bd4 rfl ?_|refine bd5 rfl ?_|refine bd6 rfl ?_);intros;rfl):XD Pm K mg G T ((x,.fn i p []) :: r):=by
 cases F with
 |mk a l e k=>exact⟨⟨_,_,ps,N,.inl ⟨s,_,_,_,_,_,_,_,_,_,_,c,rfl,l,e,q.1,q.2.1,q.2.2,f⟩,k,W.mg_of X o a,λm u=>⟨[],[],λ_ _=>by rw[List.drop_nil];exact .nil,.nil,d _ _ _ _ _ _⟩⟩,t⟩
def gS{C B:Ad}{l:Li Nat}(a:ClsTab.ca i=C)(F:ClsAt K x C)(m:W.kitOne K (.ref C) (.ref B)=aa ae)(t:XX K B l):XX K B (i :: l):=by
 subst a;exact⟨⟨⟨F.ye,F.yf,F.yg,F.yh⟩,F.yi,F.yk,F.yl,F.yj,m⟩,t⟩
def gB(X:K.In h)(a:h.Ns a9 mg)(z:W.nsIn K a9 x=aa ab)(t:XD Pm K mg G T r):XD Pm K mg G T ((x,.blt) :: r):=⟨W.mg_none_of X a z,t⟩
def gI{v:Int}{k:Tok}(X:K.In h)(a:h.Ns a9 mg)(g:W.nsIn K a9 x=aa (aa (.int v k)))(t:XD Pm K mg G T r):XD Pm K mg G T ((x,.c (.int v)) :: r):=⟨⟨.int v,_,W.mg_of X a g,⟨_,rfl⟩,λ_ _=>.int _⟩,t⟩
def gL{fa:Ad}{z:Str}(X:K.In h)(j:h.Ns a9 mg)(b:mg x=aa (.ref fa))(F:FnAt K x s)(q:ZbO G s N [z] c)(p:T i=aa ⟨1,N.length,c⟩)(g:∀ kV r n v t ct u,bindArgs (fnS x x s .none kV r n v t ct) ⟨[u],[]⟩=pure [(z,u)]):∃ (fd:bq) (N:Li Str),(∀ (s:Sd) (u:vL),BindsTo s fd ⟨[u],[]⟩ [(z,u)])/\DefOk K mg G T x i [] fa fd [z] N:=by
 cases F with
 |@mk f _ _ _ _ _ _ _ _ _ a l e k=>
  have d:=b.symm.trans (W.mg_of X j a);have d:fa=f:=by cases d;rfl
  rw[d];exact⟨_,N,λ_ u=>.of_eq (g _ _ _ _ _ _ u),.inl ⟨s,_,_,_,_,_,_,_,_,_,_,c,rfl,l,e,q.1,q.2.1,q.2.2,p⟩,k,W.mg_of X j a,λm y=>⟨[],[],λ_ _=>by rw[List.drop_nil];exact .nil,.nil,.all λw o=>by obtain⟨u,rfl⟩:=Zf4 o;exact g _ _ _ _ _ _ u⟩⟩
end
omit [ClsTab] in
def Jx{l:W.OpenLaw}{q:bh}{e:Li Str}{V:(Str->Ot vL)->br->Prop}{r:bt->br->Prop}{d:DefRec}{K:Params->Fg}{G:Gs}{T:Nat->Ot FD}{n i:Nat}{x:Str}(y:l.most=aa 63)(o:d.params.defaults=[])(v:Room n callerA)(I:∀ (w:bt) (h:br),r w h->(K w.params).In h)(C:∀ [ClsTab] n,Y6 G (run T n))(F:∀ (w:bt) (mg:Str->Ot vL) (fa:Ad) (h:br),(K w.params).In h->h.Ns a9 mg->mg d.name=aa (.ref fa)->
   ∃ _:ClsTab,Text w.params (K w.params) mg G T/\∃ (fd:bq) (N:Li Str),(∀ (s:Sd) (u:vL),BindsTo s fd ⟨[u],[]⟩ [(x,u)])/\DefOk (K w.params) mg G T d.name i [] fa fd [x] N)(L:∀ j:Li Int,j.length<=63->∃ st',run T n i [.lst 0] [(af,j.map .int)]=aa (.bl ae,st')) :
  W.WalkO q e V r l.row.toRowW d [] (λf vs=>PySem.call f vs):=
 L2.walk_of (n:=63) (k:=n) (x:=x) (CX:=λ_=>CX0) (sp:=λw vs H Q E=>∀ c:ClsTab,@spD c (K w.params) (run T n i) vs H Q E) y (by decide) o v I
  (λw mg fa h Y Z m=>by
   obtain⟨c,X,fd,N,D,Dk⟩:=F w mg fa h Y Z m;refine⟨fd,D,λbase _ _=>?_⟩
   have p:=Zes (P:=l.prog) (w:=w) (base:=base) (λn=>C n) X n Dk
   exact⟨λvs H Q E z=>p.len vs H Q E (z c),λA b s H g t vs Q E U S R O z=>p.run A b s H g t vs Q E U S R O (z c)⟩)
  (λw H a j B M J c=>Zfj M J (L j B)) λ_ _ _ _ _ z=>z
end Dp
namespace Dp
open PySem
noncomputable def Xz:FD:=⟨3,3,(.seq (.ret (.bin .Add (.bin .Add (.slice (.v 0) .nop (.part (.v 1))) (.tupE (.aC (.v 2) .aN))) (.slice (.v 0) (.part (.bin .Add (.v 1) (.c (.int 1)))) .nop)))
 .skip)⟩
def Ye:FD:=⟨1,1,(.seq (.ret (.look [(S "put"),(S "if"),(S "tell"),(S "go"),(S "skip")] [(.tup [(.int 2),(.int 4)]),(.tup [(.int 1),(.int 3)]),(.tup [(.int 1)]),(.tup []),(.tup [])] (.ix (.v 0) (.c (.int 0)))))
 .skip)⟩
noncomputable def Xv:CS:=(.seq (.set 1 (.bin .Mult (.v 1) (.c (.int 2))))
 .skip)
def WA:FD:=⟨1,3,(.seq (.set 1 (.c (.int 1)))
 (.seq (.for1 2 ae (.v 0) Xv)
 (.seq (.ret (.v 1))
 .skip)))⟩
noncomputable def Xx:FD:=⟨1,1,(.seq (.ret (.bin .Sub (.call 43 (.aC (.v 0) .aN) []) (.c (.int 1))))
 .skip)⟩
noncomputable def XZ:FD:=⟨2,2,(.seq (.ret (.cmp .NotEq (.bin .BitAnd (.v 0) (.call 43 (.aC (.v 1) .aN) [])) (.c (.int 0))))
 .skip)⟩
noncomputable def YH:FD:=⟨2,2,(.seq (.ret (.bin .BitAnd (.v 0) (.inv (.call 43 (.aC (.v 1) .aN) []))))
 .skip)⟩
noncomputable def YR:FD:=⟨2,2,(.seq (.ret (.cmp .Eq (.bin .BitAnd (.v 0) (.v 1)) (.v 0)))
 .skip)⟩
noncomputable def Wz:FD:=⟨1,1,(.seq (.ret (.bin .Sub (.bin .Mod (.bin .Add (.v 0) (.c (.int 1000000000))) (.c (.int 2000000000))) (.c (.int 1000000000))))
 .skip)⟩
noncomputable def Xr:FD:=⟨2,2,(.seq (.ite (.cmp .Eq (.v 1) (.c (.int 0))) (.seq (.ret (.c (.int 0)))
 .skip) .skip)
 (.seq (.ret (.call 0 (.aC (.bin .FloorDiv (.v 0) (.v 1)) .aN) []))
 .skip))⟩
noncomputable def Yz:FD:=⟨2,2,(.seq (.ite (.cmp .Eq (.v 1) (.c (.int 0))) (.seq (.ret (.v 0))
 .skip) .skip)
 (.seq (.ret (.bin .Sub (.v 0) (.bin .Mult (.v 1) (.bin .FloorDiv (.v 0) (.v 1)))))
 .skip))⟩
def WC:FD:=⟨3,3,(.seq (.ite (.cmp .Eq (.v 1) (.c (.str (S "+")))) (.seq (.ret (.call 0 (.aC (.bin .Add (.v 0) (.v 2)) .aN) []))
 .skip) .skip)
 (.seq (.ite (.cmp .Eq (.v 1) (.c (.str (S "-")))) (.seq (.ret (.call 0 (.aC (.bin .Sub (.v 0) (.v 2)) .aN) []))
 .skip) .skip)
 (.seq (.ite (.cmp .Eq (.v 1) (.c (.str (S "*")))) (.seq (.ret (.call 0 (.aC (.bin .Mult (.v 0) (.v 2)) .aN) []))
 .skip) .skip)
 (.seq (.ite (.cmp .Eq (.v 1) (.c (.str (S "/")))) (.seq (.ret (.call 1 (.aC (.v 0) (.aC (.v 2) .aN)) []))
 .skip) .skip)
 (.seq (.ret (.call 2 (.aC (.v 0) (.aC (.v 2) .aN)) []))
 .skip)))))⟩
def Vz:FD:=⟨3,3,(.seq (.ite (.cmp .Eq (.v 1) (.c (.str (S "<")))) (.seq (.ret (.cmp .Lt (.v 0) (.v 2)))
 .skip) .skip)
 (.seq (.ite (.cmp .Eq (.v 1) (.c (.str (S "<=")))) (.seq (.ret (.cmp .LtE (.v 0) (.v 2)))
 .skip) .skip)
 (.seq (.ite (.cmp .Eq (.v 1) (.c (.str (S "=")))) (.seq (.ret (.cmp .Eq (.v 0) (.v 2)))
 .skip) .skip)
 (.seq (.ite (.cmp .Eq (.v 1) (.c (.str (S ">=")))) (.seq (.ret (.cmp .GtE (.v 0) (.v 2)))
 .skip) .skip)
 (.seq (.ite (.cmp .Eq (.v 1) (.c (.str (S ">")))) (.seq (.ret (.cmp .Gt (.v 0) (.v 2)))
 .skip) .skip)
 (.seq (.ret (.cmp .NotEq (.v 0) (.v 2)))
 .skip))))))⟩
def YG:FD:=⟨2,2,(.seq (.ret (.and (.cmp .Eq (.ix (.v 0) (.c (.int 0))) (.c (.str (S "number")))) (.cmp .Eq (.ix (.v 1) (.c (.int 0))) (.c (.str (S "number"))))))
 .skip)⟩
noncomputable def Z8:FD:=⟨3,3,(.seq (.ite (.cmp .Lt (.ix (.v 0) (.v 2)) (.ix (.v 0) (.v 1))) (.seq (.ret (.call 42 (.aC (.call 42 (.aC (.v 0) (.aC (.v 1) (.aC (.ix (.v 0) (.v 2)) .aN))) []) (.aC (.v 2) (.aC (.ix (.v 0) (.v 1)) .aN))) []))
 .skip) .skip)
 (.seq (.ret (.v 0))
 .skip))⟩
def Z7:FD:=⟨1,1,(.seq (.ite (.and (.cmp .Eq (.ix (.v 0) (.c (.int 3))) (.c (.str (S "-")))) (.cmp .Eq (.ix (.ix (.v 0) (.c (.int 4))) (.c (.int 0))) (.c (.str (S "number"))))) (.seq (.ret (.bin .Add (.slice (.v 0) .nop (.part (.c (.int 3)))) (.tupE (.aC (.c (.str (S "+"))) (.aC (.tupE (.aC (.c (.str (S "number"))) (.aC (.call 0 (.aC (.neg (.ix (.ix (.v 0) (.c (.int 4))) (.c (.int 1)))) .aN) []) .aN))) .aN)))))
 .skip) .skip)
 (.seq (.ret (.v 0))
 .skip))⟩
def ZS:FD:=⟨1,4,(.seq (.set 1 (.ix (.v 0) (.c (.int 2))))
 (.seq (.set 2 (.ix (.v 0) (.c (.int 3))))
 (.seq (.set 3 (.ix (.v 0) (.c (.int 4))))
 (.seq (.ite (.or (.and (.cmp .Eq (.v 2) (.c (.str (S "*")))) (.cmp .Eq (.v 3) (.c (.tup [(.str (S "number")),(.int 0)])))) (.or (.and (.cmp .Eq (.v 2) (.c (.str (S "mod")))) (.cmp .Eq (.v 3) (.c (.tup [(.str (S "number")),(.int 1)])))) (.and (.cmp .Eq (.v 2) (.c (.str (S "-")))) (.cmp .Eq (.v 1) (.v 3))))) (.seq (.ret (.tupE (.aC (.c (.str (S "put"))) (.aC (.ix (.v 0) (.c (.int 1))) (.aC (.c (.tup [(.str (S "number")),(.int 0)])) (.aC (.c (.str (S "+"))) (.aC (.c (.tup [(.str (S "number")),(.int 0)])) .aN)))))))
 .skip) .skip)
 (.seq (.ite (.and (.cmp .In (.v 2) (.tupE (.aC (.c (.str (S "*"))) (.aC (.c (.str (S "/"))) .aN)))) (.cmp .Eq (.v 3) (.c (.tup [(.str (S "number")),(.int 1)])))) (.seq (.ret (.tupE (.aC (.c (.str (S "put"))) (.aC (.ix (.v 0) (.c (.int 1))) (.aC (.v 1) (.aC (.c (.str (S "+"))) (.aC (.c (.tup [(.str (S "number")),(.int 0)])) .aN)))))))
 .skip) .skip)
 (.seq (.ret (.v 0))
 .skip))))))⟩
def Xy:FD:=⟨1,1,(.seq (.ite (.call 73 (.aC (.ix (.v 0) (.c (.int 2))) (.aC (.ix (.v 0) (.c (.int 4))) .aN)) []) (.seq (.ret (.tupE (.aC (.c (.str (S "put"))) (.aC (.ix (.v 0) (.c (.int 1))) (.aC (.tupE (.aC (.c (.str (S "number"))) (.aC (.call 3 (.aC (.ix (.ix (.v 0) (.c (.int 2))) (.c (.int 1))) (.aC (.ix (.v 0) (.c (.int 3))) (.aC (.ix (.ix (.v 0) (.c (.int 4))) (.c (.int 1))) .aN))) []) .aN))) (.aC (.c (.str (S "+"))) (.aC (.c (.tup [(.str (S "number")),(.int 0)])) .aN)))))))
 .skip) .skip)
 (.seq (.set 0 (.call 75 (.aC (.v 0) .aN) []))
 (.seq (.ite (.cmp .In (.ix (.v 0) (.c (.int 3))) (.tupE (.aC (.c (.str (S "+"))) (.aC (.c (.str (S "*"))) .aN)))) (.seq (.set 0 (.call 74 (.aC (.v 0) (.aC (.c (.int 2)) (.aC (.c (.int 4)) .aN))) []))
 .skip) .skip)
 (.seq (.set 0 (.call 76 (.aC (.v 0) .aN) []))
 (.seq (.ite (.cmp .Eq (.v 0) (.tupE (.aC (.c (.str (S "put"))) (.aC (.ix (.v 0) (.c (.int 1))) (.aC (.tupE (.aC (.c (.str (S "name"))) (.aC (.ix (.v 0) (.c (.int 1))) .aN))) (.aC (.c (.str (S "+"))) (.aC (.c (.tup [(.str (S "number")),(.int 0)])) .aN))))))) (.seq (.ret (.c (.tup [(.str (S "skip"))])))
 .skip) .skip)
 (.seq (.ret (.v 0))
 .skip))))))⟩
def Z6:FD:=⟨1,1,(.seq (.ite (.cmp .Eq (.ix (.v 0) (.c (.int 2))) (.c (.str (S ">")))) (.seq (.ret (.tupE (.aC (.c (.str (S "if"))) (.aC (.ix (.v 0) (.c (.int 3))) (.aC (.c (.str (S "<"))) (.aC (.ix (.v 0) (.c (.int 1))) (.aC (.ix (.v 0) (.c (.int 4))) .aN)))))))
 .skip) .skip)
 (.seq (.ite (.cmp .Eq (.ix (.v 0) (.c (.int 2))) (.c (.str (S ">=")))) (.seq (.ret (.tupE (.aC (.c (.str (S "if"))) (.aC (.ix (.v 0) (.c (.int 3))) (.aC (.c (.str (S "<="))) (.aC (.ix (.v 0) (.c (.int 1))) (.aC (.ix (.v 0) (.c (.int 4))) .aN)))))))
 .skip) .skip)
 (.seq (.ret (.v 0))
 .skip)))⟩
noncomputable def YT:FD:=⟨1,1,(.seq (.ret (.or (.call 73 (.aC (.ix (.v 0) (.c (.int 1))) (.aC (.ix (.v 0) (.c (.int 3))) .aN)) []) (.cmp .Eq (.ix (.v 0) (.c (.int 1))) (.ix (.v 0) (.c (.int 3))))))
 .skip)⟩
def X1:FD:=⟨1,2,(.seq (.set 1 (.call 4 (.aC (.ix (.ix (.v 0) (.c (.int 1))) (.c (.int 1))) (.aC (.ix (.v 0) (.c (.int 2))) (.aC (.ix (.ix (.v 0) (.c (.int 3))) (.c (.int 1))) .aN))) []))
 (.seq (.ret (.ife (.v 1) (.tupE (.aC (.c (.str (S "go"))) (.aC (.ix (.v 0) (.c (.int 4))) .aN))) (.c (.tup [(.str (S "skip"))]))))
 .skip))⟩
def Yt:FD:=⟨1,3,(.seq (.set 1 (.ix (.v 0) (.c (.int 1))))
 (.seq (.set 2 (.ix (.v 0) (.c (.int 3))))
 (.seq (.ite (.cmp .NotEq (.ix (.v 0) (.c (.int 2))) (.c (.str (S "<=")))) (.seq (.ret (.v 0))
 .skip) .skip)
 (.seq (.ite (.and (.cmp .Eq (.ix (.v 2) (.c (.int 0))) (.c (.str (S "number")))) (.cmp .Lt (.ix (.v 2) (.c (.int 1))) (.c (.int 999999999)))) (.seq (.ret (.tupE (.aC (.c (.str (S "if"))) (.aC (.v 1) (.aC (.c (.str (S "<"))) (.aC (.tupE (.aC (.c (.str (S "number"))) (.aC (.bin .Add (.ix (.v 2) (.c (.int 1))) (.c (.int 1))) .aN))) (.aC (.ix (.v 0) (.c (.int 4))) .aN)))))))
 .skip) .skip)
 (.seq (.ite (.and (.cmp .Eq (.ix (.v 1) (.c (.int 0))) (.c (.str (S "number")))) (.cmp .Gt (.ix (.v 1) (.c (.int 1))) (.c (.int (-1000000000))))) (.seq (.ret (.tupE (.aC (.c (.str (S "if"))) (.aC (.tupE (.aC (.c (.str (S "number"))) (.aC (.bin .Sub (.ix (.v 1) (.c (.int 1))) (.c (.int 1))) .aN))) (.aC (.c (.str (S "<"))) (.aC (.v 2) (.aC (.ix (.v 0) (.c (.int 4))) .aN)))))))
 .skip) .skip)
 (.seq (.ret (.v 0))
 .skip))))))⟩
def X0:FD:=⟨2,2,(.seq (.ite (.cmp .Eq (.ix (.v 0) (.c (.int 4))) (.bin .Add (.v 1) (.c (.int 1)))) (.seq (.ret (.c (.tup [(.str (S "skip"))])))
 .skip) .skip)
 (.seq (.set 0 (.call 78 (.aC (.v 0) .aN) []))
 (.seq (.ite (.call 79 (.aC (.v 0) .aN) []) (.seq (.ret (.call 80 (.aC (.v 0) .aN) []))
 .skip) .skip)
 (.seq (.ite (.cmp .In (.ix (.v 0) (.c (.int 2))) (.tupE (.aC (.c (.str (S "="))) (.aC (.c (.str (S "!="))) .aN)))) (.seq (.set 0 (.call 74 (.aC (.v 0) (.aC (.c (.int 1)) (.aC (.c (.int 3)) .aN))) []))
 .skip) .skip)
 (.seq (.ret (.call 81 (.aC (.v 0) .aN) []))
 .skip)))))⟩
def ZZ:FD:=⟨2,2,(.seq (.ite (.cmp .Eq (.ix (.v 0) (.c (.int 0))) (.c (.str (S "put")))) (.seq (.ret (.call 77 (.aC (.v 0) .aN) []))
 .skip) .skip)
 (.seq (.ite (.cmp .Eq (.ix (.v 0) (.c (.int 0))) (.c (.str (S "if")))) (.seq (.ret (.call 82 (.aC (.v 0) (.aC (.v 1) .aN)) []))
 .skip) .skip)
 (.seq (.ite (.cmp .Eq (.v 0) (.tupE (.aC (.c (.str (S "go"))) (.aC (.bin .Add (.v 1) (.c (.int 1))) .aN)))) (.seq (.ret (.c (.tup [(.str (S "skip"))])))
 .skip) .skip)
 (.seq (.ret (.v 0))
 .skip))))⟩
def XF:FD:=⟨2,2,(.seq (.ite (.cmp .GtE (.v 1) (.len (.ix (.v 0) (.c (.int 2))))) (.seq (.ret (.c (.tup [(.str (S "end"))])))
 .skip) .skip)
 (.seq (.ret (.call 83 (.aC (.ix (.ix (.v 0) (.c (.int 2))) (.v 1)) (.aC (.v 1) .aN)) []))
 .skip))⟩
def YS:FD:=⟨1,1,(.seq (.ret (.or (.cmp .Eq (.v 0) (.c (.tup [(.str (S "end"))]))) (.cmp .Eq (.ix (.v 0) (.c (.int 0))) (.c (.str (S "tell"))))))
 .skip)⟩
def Ww:CS:=(.seq (.ite (.and (.cmp .Eq (.ix (.ix (.v 0) (.v 2)) (.c (.int 0))) (.c (.str (S "name")))) (.not (.call 114 (.aC (.v 1) (.aC (.ix (.ix (.v 0) (.v 2)) (.c (.int 1))) .aN)) []))) (.seq (.ret (.c (.bl af)))
 .skip) .skip)
 .skip)
def YV:FD:=⟨2,3,(.seq (.for1 2 af (.call 113 (.aC (.v 0) .aN) []) Ww)
 (.seq (.ret (.c (.bl ae)))
 .skip))⟩
def Xc:FD:=⟨3,3,(.seq (.ret (.and (.cmp .Eq (.v 0) (.v 1)) (.or (.cmp .Eq (.v 0) (.c (.tup [(.str (S "end"))]))) (.call 117 (.aC (.v 0) (.aC (.v 2) .aN)) []))))
 .skip)⟩
def ZM:FD:=⟨3,3,(.seq (.ret (.and (.cmp .Eq (.ix (.v 0) (.c (.int 0))) (.c (.str (S "if")))) (.and (.cmp .Eq (.ix (.v 1) (.c (.int 0))) (.c (.str (S "if")))) (.and (.cmp .Eq (.slice (.v 0) (.part (.c (.int 1))) (.part (.c (.int 4)))) (.slice (.v 1) (.part (.c (.int 1))) (.part (.c (.int 4))))) (.call 117 (.aC (.v 0) (.aC (.v 2) .aN)) [])))))
 .skip)⟩
def Zz:CS:=(.seq (.ite (.cmp .Eq (.ix (.v 3) (.c (.int 0))) (.c (.str (S "put")))) (.seq (.set 2 (.call 57 (.aC (.v 2) (.aC (.ix (.v 3) (.c (.int 1))) .aN)) []))
 .skip) .skip)
 .skip)
def X2:FD:=⟨3,4,(.seq (.ite (.and (.cmp .Eq (.ix (.v 0) (.c (.int 0))) (.c (.str (S "put")))) (.and (.cmp .Eq (.v 0) (.v 1)) (.call 117 (.aC (.v 0) (.aC (.v 2) .aN)) []))) (.seq (.ret (.bin .BitOr (.v 2) (.call 43 (.aC (.ix (.v 0) (.c (.int 1))) .aN) [])))
 .skip) .skip)
 (.seq (.for1 3 af (.tupE (.aC (.v 0) (.aC (.v 1) .aN))) Zz)
 (.seq (.ret (.v 2))
 .skip)))⟩
def ZI:FD:=⟨2,2,(.seq (.ite (.cmp .Eq (.ix (.v 0) (.c (.int 0))) (.c (.str (S "go")))) (.seq (.ret (.tupE (.aC (.ix (.v 0) (.c (.int 1))) .aN)))
 .skip) .skip)
 (.seq (.ite (.cmp .Eq (.ix (.v 0) (.c (.int 0))) (.c (.str (S "if")))) (.seq (.ret (.tupE (.aC (.ix (.v 0) (.c (.int 4))) (.aC (.bin .Add (.v 1) (.c (.int 1))) .aN))))
 .skip) .skip)
 (.seq (.ret (.tupE (.aC (.bin .Add (.v 1) (.c (.int 1))) .aN)))
 .skip)))⟩
noncomputable def U6:CE:=(.comp af [9,7] (.call 121 (.aC (.v 6) (.aC (.v 3) .aN)) []) (.tupE (.aC (.v 1) (.aC (.v 0) (.aC (.v 2) .aN)))) (.c (.bl ae)))
def UY:CS:=(.seq (.ext 8 U6)
 .skip)
def WB:FD:=⟨5,10,(.seq (.set 5 (.call 115 (.aC (.v 0) (.aC (.v 2) .aN)) []))
 (.seq (.set 6 (.call 115 (.aC (.v 1) (.aC (.v 3) .aN)) []))
 (.seq (.ite (.or (.call 116 (.aC (.v 5) .aN) []) (.call 116 (.aC (.v 6) .aN) [])) (.seq (.ret (.ife (.call 118 (.aC (.v 5) (.aC (.v 6) (.aC (.v 4) .aN))) []) (.tupE .aN) (.c .non)))
 .skip) .skip)
 (.seq (.ite (.call 119 (.aC (.v 5) (.aC (.v 6) (.aC (.v 4) .aN))) []) (.seq (.ret (.tupE (.aC (.tupE (.aC (.ix (.v 5) (.c (.int 4))) (.aC (.ix (.v 6) (.c (.int 4))) (.aC (.v 4) .aN)))) (.aC (.tupE (.aC (.bin .Add (.v 2) (.c (.int 1))) (.aC (.bin .Add (.v 3) (.c (.int 1))) (.aC (.v 4) .aN)))) .aN))))
 .skip) .skip)
 (.seq (.set 7 (.call 120 (.aC (.v 5) (.aC (.v 6) (.aC (.v 4) .aN))) []))
 (.seq (.set 8 (.lstE .aN))
 (.seq (.for1 9 af (.call 121 (.aC (.v 5) (.aC (.v 2) .aN)) []) UY)
 (.seq (.ret (.tOf (.v 8)))
 .skip))))))))⟩
noncomputable def WD:FD:=⟨2,3,(.seq (.set 2 (.slice (.v 0) .nop (.part (.c (.int 2)))))
 (.seq (.ret (.and (.cmp .In (.v 2) (.v 1)) (.call 45 (.aC (.ix (.v 1) (.v 2)) (.aC (.ix (.v 0) (.c (.int 2))) .aN)) [])))
 .skip))⟩
noncomputable def W9:CE:=(.comp af [3] (.v 4) (.call 202 (.aC (.v 0) (.aC (.v 1) .aN)) []) (.c (.bl ae)))
def Xd:FD:=⟨4,5,(.seq (.set 4 (.call 122 (.aC (.v 0) (.aC (.v 1) (.aC (.ix (.v 2) (.c (.int 0))) (.aC (.ix (.v 2) (.c (.int 1))) (.aC (.ix (.v 2) (.c (.int 2))) .aN))))) []))
 (.seq (.ret (.and (.cmp .IsNot (.v 4) (.c .non)) (.all W9)))
 .skip))⟩
noncomputable def Xh:CE:=(.comp af [3,0,1] (.v 2) (.call 203 (.aC (.v 2) (.aC (.v 3) (.aC (.v 0) (.aC (.v 1) .aN)))) []) (.c (.bl ae)))
def YU:FD:=⟨3,7,(.seq (.set 3 .dnew)
 (.seq (.for4 4 5 6 (.v 2) (.seq (.dput 3 (.v 4) (.v 5) (.v 6))
 .skip))
 (.seq (.ite (.or (.cmp .NotEq (.len (.v 3)) (.len (.v 2))) (.cmp .NotIn (.tupE (.aC (.c (.int 0)) (.aC (.c (.int 0)) .aN))) (.v 3))) (.seq (.ret (.c (.bl af)))
 .skip) .skip)
 (.seq (.ret (.all Xh))
 .skip))))⟩
noncomputable def Yi:FD:=⟨2,10,(.seq (.set 2 (.dd (.c (.int 0)) (.c (.int 0)) (.call 56 (.aC (.ix (.v 0) (.c (.int 1))) .aN) [])))
 (.seq (.set 3 (.lstE (.aC (.tupE (.aC (.c (.int 0)) (.aC (.c (.int 0)) .aN))) .aN)))
 (.seq (.whl (.cmp .Gt (.len (.v 3)) (.c (.int 0))) (.seq (.set 4 (.pop (.v 3)))
 (.seq (.set 5 (.call 122 (.aC (.v 0) (.aC (.v 1) (.aC (.ix (.v 4) (.c (.int 0))) (.aC (.ix (.v 4) (.c (.int 1))) (.aC (.ix (.v 2) (.v 4)) .aN))))) []))
 (.seq (.ite (.cmp .Is (.v 5) (.c .non)) (.seq (.ret (.c .non))
 .skip) .skip)
 (.seq (.for4 6 7 8 (.v 5) (.seq (.set 9 (.bin .BitAnd (.v 8) (.dgN (.v 2) (.tupE (.aC (.v 6) (.aC (.v 7) .aN))) (.v 8))))
 (.seq (.ite (.cmp .NotEq (.dgN (.v 2) (.tupE (.aC (.v 6) (.aC (.v 7) .aN))) (.c .non)) (.v 9)) (.seq (.dput 2 (.v 6) (.v 7) (.v 9))
 (.seq (.app 3 (.tupE (.aC (.v 6) (.aC (.v 7) .aN))))
 .skip)) .skip)
 .skip)))
 .skip)))))
 (.seq (.ret (.tOf (.compT [2] (.ksrt (.v 2)) (.tupE (.aC (.v 0) (.aC (.v 1) (.aC (.ix (.v 2) (.tupE (.aC (.v 0) (.aC (.v 1) .aN)))) .aN)))) (.c (.bl ae)))))
 .skip))))⟩
noncomputable def Yq:FD:=⟨2,2,(.seq (.ite (.cmp .Lt (.v 1) (.len (.v 0))) (.seq (.ret (.ix (.v 0) (.v 1)))
 .skip) .skip)
 (.seq (.ite (.cmp .Eq (.v 0) (.lstE .aN)) (.seq (.ret (.bin .Mod (.bin .Mult (.bin .Add (.bin .Add (.bin .Mult (.v 1) (.v 1)) (.bin .Mult (.c (.int 3)) (.v 1))) (.c (.int 1))) (.c (.int 16807))) (.c (.int 2147483629))))
 .skip) .skip)
 (.seq (.ret (.bin .Mod (.bin .Mult (.bin .Add (.bin .Mod (.ix (.v 0) (.neg (.c (.int 1)))) (.c (.int 1000003))) (.c (.int 2))) (.bin .Add (.bin .Mult (.v 1) (.v 1)) (.c (.int 16807)))) (.c (.int 2147483629))))
 .skip)))⟩
noncomputable def YQ:FD:=⟨1,1,(.seq (.ite (.cmp .Eq (.bin .Mod (.v 0) (.c (.int 4))) (.c (.int 0))) (.seq (.ret (.bin .Sub (.bin .Mod (.bin .FloorDiv (.v 0) (.c (.int 4))) (.c (.int 9))) (.c (.int 4))))
 .skip) .skip)
 (.seq (.ite (.cmp .Eq (.bin .Mod (.v 0) (.c (.int 4))) (.c (.int 1))) (.seq (.ret (.ix (.lstE (.aC (.neg (.c (.int 1000000000))) (.aC (.neg (.c (.int 999999999))) (.aC (.neg (.c (.int 1))) (.aC (.c (.int 0)) (.aC (.c (.int 1)) (.aC (.c (.int 999999998)) (.aC (.c (.int 999999999)) .aN)))))))) (.bin .Mod (.bin .FloorDiv (.v 0) (.c (.int 4))) (.c (.int 7)))))
 .skip) .skip)
 (.seq (.ret (.bin .Sub (.bin .Mod (.bin .Mult (.bin .FloorDiv (.v 0) (.c (.int 4))) (.c (.int 69621))) (.c (.int 2000000000))) (.c (.int 1000000000))))
 .skip)))⟩
def Ys:FD:=⟨2,2,(.seq (.ite (.and (.cmp .Gt (.v 1) (.c (.int 0))) (.cmp .Gt (.bin .Mod (.v 0) (.c (.int 3))) (.c (.int 0)))) (.seq (.ret (.tupE (.aC (.c (.str (S "name"))) (.aC (.bin .Mod (.bin .FloorDiv (.v 0) (.c (.int 3))) (.v 1)) .aN))))
 .skip) .skip)
 (.seq (.ret (.tupE (.aC (.c (.str (S "number"))) (.aC (.call 20 (.aC (.bin .FloorDiv (.v 0) (.c (.int 3))) .aN) []) .aN))))
 .skip))⟩
def Xw:FD:=⟨3,5,(.seq (.set 3 (.call 28 (.aC (.ix (.v 0) (.c (.int 1))) (.aC (.v 1) .aN)) []))
 (.seq (.set 4 (.call 28 (.aC (.ix (.v 0) (.c (.int 2))) (.aC (.v 1) .aN)) []))
 (.seq (.ite (.and (.cmp .Lt (.bin .Mod (.ix (.v 0) (.c (.int 0))) (.c (.int 8))) (.c (.int 4))) (.cmp .Gt (.v 1) (.c (.int 0)))) (.seq (.ret (.tupE (.aC (.c (.str (S "put"))) (.aC (.bin .Mod (.ix (.v 0) (.c (.int 3))) (.v 1)) (.aC (.v 3) (.aC (.ix (.lstE (.aC (.c (.str (S "+"))) (.aC (.c (.str (S "-"))) (.aC (.c (.str (S "*"))) (.aC (.c (.str (S "/"))) (.aC (.c (.str (S "mod"))) .aN)))))) (.bin .Mod (.bin .FloorDiv (.ix (.v 0) (.c (.int 0))) (.c (.int 8))) (.c (.int 5)))) (.aC (.v 4) .aN)))))))
 .skip) .skip)
 (.seq (.ite (.cmp .Lt (.bin .Mod (.ix (.v 0) (.c (.int 0))) (.c (.int 8))) (.c (.int 6))) (.seq (.ret (.tupE (.aC (.c (.str (S "if"))) (.aC (.v 3) (.aC (.ix (.lstE (.aC (.c (.str (S "<"))) (.aC (.c (.str (S "<="))) (.aC (.c (.str (S "="))) (.aC (.c (.str (S ">="))) (.aC (.c (.str (S ">"))) (.aC (.c (.str (S "!="))) .aN))))))) (.bin .Mod (.bin .FloorDiv (.ix (.v 0) (.c (.int 0))) (.c (.int 8))) (.c (.int 6)))) (.aC (.v 4) (.aC (.bin .Mod (.ix (.v 0) (.c (.int 3))) (.bin .Add (.v 2) (.c (.int 1)))) .aN)))))))
 .skip) .skip)
 (.seq (.ite (.cmp .Eq (.bin .Mod (.ix (.v 0) (.c (.int 0))) (.c (.int 8))) (.c (.int 6))) (.seq (.ret (.tupE (.aC (.c (.str (S "tell"))) (.aC (.v 3) .aN))))
 .skip) .skip)
 (.seq (.ret (.ix (.lstE (.aC (.tupE (.aC (.c (.str (S "go"))) (.aC (.bin .Mod (.ix (.v 0) (.c (.int 3))) (.bin .Add (.v 2) (.c (.int 1)))) .aN))) (.aC (.tupE (.aC (.c (.str (S "skip"))) .aN)) .aN))) (.bin .Mod (.bin .FloorDiv (.ix (.v 0) (.c (.int 0))) (.c (.int 8))) (.c (.int 2)))))
 .skip))))))⟩
def ZG:FD:=⟨2,2,(.seq (.ite (.cmp .Eq (.ix (.v 0) (.c (.int 0))) (.c (.str (S "if")))) (.seq (.ret (.bin .Add (.slice (.v 0) .nop (.part (.c (.int 4)))) (.tupE (.aC (.ix (.v 1) (.ix (.v 0) (.c (.int 4)))) .aN))))
 .skip) .skip)
 (.seq (.ite (.cmp .Eq (.ix (.v 0) (.c (.int 0))) (.c (.str (S "go")))) (.seq (.ret (.tupE (.aC (.c (.str (S "go"))) (.aC (.ix (.v 1) (.ix (.v 0) (.c (.int 1)))) .aN))))
 .skip) .skip)
 (.seq (.ret (.v 0))
 .skip)))⟩
def Zr:FD:=⟨1,2,(.seq (.ite (.and (.cmp .Eq (.ix (.v 0) (.c (.int 0))) (.c (.str (S "put")))) (.cmp .In (.ix (.v 0) (.c (.int 3))) (.lstE (.aC (.c (.str (S "+"))) (.aC (.c (.str (S "*"))) .aN))))) (.seq (.ret (.tupE (.aC (.c (.str (S "put"))) (.aC (.ix (.v 0) (.c (.int 1))) (.aC (.ix (.v 0) (.c (.int 4))) (.aC (.ix (.v 0) (.c (.int 3))) (.aC (.ix (.v 0) (.c (.int 2))) .aN)))))))
 .skip) .skip)
 (.seq (.ite (.cmp .Eq (.ix (.v 0) (.c (.int 0))) (.c (.str (S "if")))) (.seq (.set 1 (.dget (.dict [(S "<"),(S "<="),(S ">"),(S ">=")] (.aC (.c (.str (S ">"))) (.aC (.c (.str (S ">="))) (.aC (.c (.str (S "<"))) (.aC (.c (.str (S "<="))) .aN))))) (.ix (.v 0) (.c (.int 2))) (.ix (.v 0) (.c (.int 2)))))
 (.seq (.ret (.tupE (.aC (.c (.str (S "if"))) (.aC (.ix (.v 0) (.c (.int 3))) (.aC (.v 1) (.aC (.ix (.v 0) (.c (.int 1))) (.aC (.ix (.v 0) (.c (.int 4))) .aN)))))))
 .skip)) .skip)
 (.seq (.ret (.v 0))
 .skip)))⟩
noncomputable def X4:CE:=(.comp ae [6] (.v 2) (.bin .Add (.v 0) (.v 1)) (.c (.bl ae)))
def YK:CS:=(.seq (.set 6 (.bin .Mult (.bin .Mod (.bin .Mod (.bin .Mult (.bin .Add (.bin .Mod (.v 1) (.c (.int 1000003))) (.c (.int 1))) (.bin .Add (.bin .Add (.bin .Mult (.v 5) (.v 5)) (.bin .Mult (.c (.int 13)) (.v 4))) (.c (.int 5)))) (.c (.int 10007))) (.c (.int 2))) (.v 2)))
 (.seq (.app 3 (.call 123 (.aC (.ix (.v 0) (.v 5)) (.aC (.bin .Add X4 (.lstE (.aC (.bin .Mult (.c (.int 2)) (.v 2)) .aN))) .aN)) []))
 .skip))
def Yd:CS:=(.seq (.for1 5 ae (.v 2) YK)
 .skip)
def Yr:FD:=⟨2,7,(.seq (.set 2 (.len (.v 0)))
 (.seq (.set 3 (.lstE .aN))
 (.seq (.for1 4 ae (.c (.int 2)) Yd)
 (.seq (.ret (.v 3))
 .skip))))⟩
noncomputable def W8:CE:=(.comp ae [5,0] (.c (.int 4)) (.call 27 (.aC (.v 2) (.aC (.bin .Add (.bin .Add (.c (.int 10)) (.bin .Mult (.c (.int 4)) (.v 1))) (.v 0)) .aN)) []) (.c (.bl ae)))
def W5:CS:=(.seq (.app 4 (.call 29 (.aC W8 (.aC (.v 1) (.aC (.v 3) .aN))) []))
 .skip)
def Xb:FD:=⟨3,6,(.seq (.set 3 (.bin .Mod (.call 27 (.aC (.v 0) (.aC (.c (.int 6)) .aN)) []) (.c (.int 13))))
 (.seq (.ite (.or (.cmp .Eq (.v 2) (.c (.int 5))) (.cmp .Eq (.v 2) (.c (.int 6)))) (.seq (.set 3 (.bin .Mod (.v 3) (.c (.int 7))))
 .skip) .skip)
 (.seq (.set 4 (.lstE .aN))
 (.seq (.for1 5 ae (.v 3) W5)
 (.seq (.ite (.and (.cmp .In (.v 2) (.lstE (.aC (.c (.int 5)) (.aC (.c (.int 6)) .aN)))) (.and (.cmp .Gt (.v 3) (.c (.int 0))) (.cmp .NotIn (.ix (.ix (.v 4) (.neg (.c (.int 1)))) (.c (.int 0))) (.lstE (.aC (.c (.str (S "go"))) (.aC (.c (.str (S "tell"))) .aN)))))) (.seq (.put 4 (.neg (.c (.int 1))) (.tupE (.aC (.c (.str (S "go"))) (.aC (.bin .Mod (.call 27 (.aC (.v 0) (.aC (.bin .Add (.c (.int 9)) (.bin .Mult (.c (.int 4)) (.v 3))) .aN)) []) (.bin .Add (.v 3) (.c (.int 1)))) .aN))))
 .skip) .skip)
 (.seq (.ret (.v 4))
 .skip))))))⟩
noncomputable def XJ:CE:=(.comp af [] (.v 5) (.call 124 (.aC (.v 0) .aN) []) (.c (.bl ae)))
noncomputable def XL:CE:=(.comp ae [0] (.c (.int 4)) (.call 27 (.aC (.v 1) (.aC (.bin .Add (.c (.int 2)) (.v 0)) .aN)) []) (.c (.bl ae)))
abbrev jN(n:Nat):Option D:=aa (.int n)
abbrev jI(n:Int):Option D:=aa (.int n)
abbrev jL(n:Nat):Option D:=aa (.lst n)
noncomputable abbrev CE.i(n:Int):CE:=.c (.int n)
noncomputable abbrev CE.t(s:String):CE:=.c (.str (S s))
noncomputable abbrev CE.u(a:CE):CE:=.aC a .aN
noncomputable abbrev CS.z(a:CS):CS:=.seq a .skip
noncomputable abbrev CS.w(c:CE)(a:CS):CS:=.ite c a .skip
abbrev CE.f(n:Nat)(a:CE):CE:=.call n a []
abbrev CE.x(n:Nat)(i:Int):CE:=.ix (.v n) (.i i)
abbrev CE.a(n:Nat)(b:CE):CE:=.aC (.v n) b
abbrev CE.s(n:Nat):CE:=.u (.v n)
abbrev CE.e(a b:CE):CE:=.cmp .Eq a b
abbrev CE.p(a b:CE):CE:=.bin .Add a b
abbrev CE.m(a b:CE):CE:=.bin .Mod a b
abbrev CE.h(a b:CE):CE:=.bin .Mult a b
abbrev CE.k(a b:CE):CE:=.bin .FloorDiv a b
abbrev CE.l(a b:CE):CE:=.bin .Sub a b
abbrev CE.g(a:CE):CE:=.tupE a
abbrev CS.y(n:Nat)(a:CE)(b:CS):CS:=.seq (.set n a) b
abbrev CS.k(a:CE)(b c:CS):CS:=.seq (.w a b) c
abbrev CS.q(a:CE):CS:=.z (.ret a)
def c__law_two:FD:=⟨1,12,(.y 1 (.f 27 (.a 0 (.u (.i 0))))
 (.y 2 (.m (.v 1) (.i 4))
 (.y 3 (.p (.v 2) (.m (.k (.v 1) (.i 4)) (.l (.i 6) (.v 2))))
 (.y 4 (.m (.f 27 (.a 0 (.u (.i 1)))) (.i 8))
 (.y 5 (.f 126 (.a 0 (.a 3 (.s 4))))
 (.y 6 (.len (.v 5))
 (.y 7 (.listOf (.v 5))
 (.k (.or (.e (.v 4) (.i 1)) (.e (.v 4) (.i 4))) (.z (.set 7 XJ))
 (.k (.or (.e (.v 4) (.i 5)) (.e (.v 4) (.i 6))) (.z (.set 7 (.f 125 (.a 5 (.u (.f 27 (.a 0 (.u (.i 2)))))))))
 (.k (.e (.v 4) (.i 7)) (.z (.set 7 (.rs af (.v 5))))
 (.k (.and (.cmp .In (.v 4) (.lstE (.aC (.i 2) (.aC (.i 3) (.aC (.i 4) (.u (.i 6))))))) (.cmp .Gt (.v 6) (.i 0))) (.y 8 (.l (.l (.len (.v 7)) (.i 1)) (.m (.k (.f 27 (.a 0 (.u (.i 1)))) (.i 8)) (.v 6)))
 (.y 9 (.f 29 (.aC XL (.a 3 (.s 6))))
 (.k (.and (.e (.x 9 0) (.t "put")) (.e (.ix (.ix (.v 7) (.v 8)) (.i 0)) (.t "put"))) (.z (.set 9 (.p (.p (.slice (.v 9) .nop (.part (.i 1))) (.slice (.ix (.v 7) (.v 8)) (.part (.i 1)) (.part (.i 2)))) (.slice (.v 9) (.part (.i 2)) .nop))))
 (.z (.put 7 (.v 8) (.v 9))))))
 (.y 10 (.g (.aC (.h (.g (.u (.g (.aC (.i 0) (.u (.i 4)))))) (.v 2)) (.a 3 (.u (.tOf (.v 5))))))
 (.y 11 (.g (.aC (.h (.g (.u (.g (.aC (.neg (.i 9)) (.u (.i 9)))))) (.v 2)) (.a 3 (.u (.tOf (.v 7))))))
 (.k (.e (.m (.k (.f 27 (.a 0 (.u (.i 1)))) (.i 104)) (.i 2)) (.i 1)) (.q (.g (.a 11 (.s 10))))
 (.q (.g (.a 10 (.s 11))))))))))))))))))⟩
def Zs:FD:=⟨3,4,(.y 3 (.v 0)
 (.k (.e (.v 1) (.t "+")) (.z (.set 3 (.p (.v 0) (.v 2))))
 (.k (.e (.v 1) (.t "-")) (.z (.set 3 (.l (.v 0) (.v 2))))
 (.k (.e (.v 1) (.t "*")) (.z (.set 3 (.h (.v 0) (.v 2))))
 (.k (.e (.v 1) (.t "/")) (.z (.set 3 (.i 0)))
 (.k (.and (.cmp .NotEq (.v 2) (.i 0)) (.e (.v 1) (.t "/"))) (.z (.set 3 (.k (.v 0) (.v 2))))
 (.k (.and (.cmp .NotEq (.v 2) (.i 0)) (.e (.v 1) (.t "mod"))) (.z (.set 3 (.m (.v 0) (.v 2))))
 (.q (.l (.m (.p (.v 3) (.i 1000000000)) (.i 2000000000)) (.i 1000000000))))))))))⟩
def Z3:FD:=⟨3,3,(.k (.or (.e (.v 1) (.t "<")) (.e (.v 1) (.t ">="))) (.q (.e (.cmp .Lt (.v 0) (.v 2)) (.e (.v 1) (.t "<"))))
 (.k (.or (.e (.v 1) (.t ">")) (.e (.v 1) (.t "<="))) (.q (.e (.cmp .Gt (.v 0) (.v 2)) (.e (.v 1) (.t ">"))))
 (.q (.e (.e (.v 0) (.v 2)) (.e (.v 1) (.t "="))))))⟩
def Ym:FD:=⟨2,2,(.k (.e (.x 0 0) (.t "number")) (.q (.x 0 1))
 (.q (.ix (.v 1) (.x 0 1))))⟩
def c__law_moved:FD:=⟨2,8,(.seq (.set2 2 3 (.v 1))
 (.k (.e (.v 2) (.len (.x 0 2))) (.q (.g (.u (.t "none"))))
 (.y 4 (.ix (.x 0 2) (.v 2))
 (.k (.e (.x 4 0) (.t "tell")) (.q (.g (.aC (.t "told") (.u (.f 34 (.aC (.x 4 1) (.s 3)))))))
 (.k (.e (.x 4 0) (.t "put")) (.y 5 (.f 32 (.aC (.f 34 (.aC (.x 4 2) (.s 3))) (.aC (.x 4 3) (.u (.f 34 (.aC (.x 4 4) (.s 3)))))))
 (.q (.g (.aC (.p (.v 2) (.i 1)) (.u (.p (.p (.slice (.v 3) .nop (.part (.x 4 1))) (.g (.s 5))) (.slice (.v 3) (.part (.p (.x 4 1) (.i 1))) .nop)))))))
 (.k (.e (.x 4 0) (.t "go")) (.q (.g (.aC (.x 4 1) (.s 3))))
 (.k (.e (.x 4 0) (.t "if")) (.y 6 (.f 34 (.aC (.x 4 1) (.s 3)))
 (.y 7 (.f 34 (.aC (.x 4 3) (.s 3)))
 (.z (.w (.f 33 (.a 6 (.aC (.x 4 2) (.s 7)))) (.q (.g (.aC (.x 4 4) (.s 3))))))))
 (.q (.g (.aC (.p (.v 2) (.i 1)) (.s 3)))))))))))⟩
def Y8:CS:=(.z (.w (.and (.e (.m (.k (.v 2) (.bin .LShift (.i 1) (.v 3))) (.i 2)) (.i 1)) (.cmp .NotEq (.ix (.v 0) (.v 3)) (.ix (.v 1) (.v 3)))) (.q (.c (.bl af)))))
def YO:FD:=⟨3,4,(.seq (.for1 3 ae (.len (.v 0)) Y8)
 (.q (.c (.bl ae))))⟩
def c__law_closed:FD:=⟨3,12,(.y 3 (.dd (.i 0) (.i 0) (.v 2))
 (.y 4 (.lstE (.u (.g (.aC (.i 0) (.u (.i 0))))))
 (.seq (.whl (.cmp .NotEq (.v 4) (.lstE .aN)) (.seq (.set2 5 6 (.popz (.v 4) (.i 0)))
 (.y 7 (.f 122 (.a 0 (.a 1 (.a 5 (.a 6 (.u (.ix (.v 3) (.g (.a 5 (.s 6))))))))))
 (.k (.cmp .Is (.v 7) (.c .non)) (.q (.c .non))
 (.z (.for4 8 9 10 (.v 7) (.y 11 (.dgN (.v 3) (.g (.a 8 (.s 9))) (.c .non))
 (.z (.w (.or (.cmp .Is (.v 11) (.c .non)) (.cmp .NotEq (.bin .BitAnd (.v 11) (.v 10)) (.v 11))) (.seq (.dput 3 (.v 8) (.v 9) (.v 10))
 (.k (.cmp .IsNot (.v 11) (.c .non)) (.z (.dput 3 (.v 8) (.v 9) (.bin .BitAnd (.v 10) (.v 11))))
 (.z (.app 4 (.g (.a 8 (.s 9))))))))))))))))
 (.q (.compT [3] (.ksrt (.v 3)) (.g (.a 0 (.a 1 (.u (.ix (.v 2) (.g (.a 0 (.s 1)))))))) (.c (.bl ae)))))))⟩
def Wf:CE:=(.comp ae [2,0] (.v 1) (.f 20 (.u (.k (.f 27 (.a 2 (.u (.p (.i 58) (.m (.p (.v 0) (.v 1)) (.i 5)))))) (.p (.m (.v 1) (.i 7)) (.i 1))))) (.c (.bl ae)))
def YF:FD:=⟨3,3,(.q (.tOf Wf))⟩
def Zv:CS:=(.z (.w (.e (.m (.k (.v 1) (.bin .LShift (.i 1) (.v 4))) (.i 2)) (.i 0)) (.z (.put 3 (.v 4) (.f 20 (.u (.p (.ix (.v 0) (.v 4)) (.h (.p (.m (.v 2) (.i 1000003)) (.i 3)) (.p (.h (.v 4) (.v 4)) (.i 5))))))))))
def YE:FD:=⟨3,5,(.y 3 (.listOf (.v 0))
 (.seq (.for1 4 ae (.len (.v 0)) Zv)
 (.q (.tOf (.v 3)))))⟩
def YD:CS:=(.y 3 (.f 103 (.a 0 (.s 3)))
 (.y 4 (.f 103 (.a 1 (.s 4)))
 (.k (.or (.isi .str (.x 3 0)) (.isi .str (.x 4 0))) (.q (.e (.v 3) (.v 4)))
 (.y 6 (.dgN (.v 2) (.g (.aC (.x 3 0) (.u (.x 4 0)))) (.c .non))
 (.z (.w (.or (.cmp .Is (.v 6) (.c .non)) (.not (.f 36 (.aC (.x 3 1) (.aC (.x 4 1) (.s 6)))))) (.q (.c (.bl af)))))))))
def Xa:FD:=⟨5,7,(.seq (.for1 5 ae (.i 4) YD)
 (.q (.c (.bl ae))))⟩
noncomputable def Y3:CE:=(.comp af [] (.v 3) (.listOf (.v 0)) (.cmp .IsNot (.v 0) (.c .non)))
def ZY:CS:=(.y 8 (.m (.v 6) (.len (.v 4)))
 (.seq (.set3 9 10 11 (.ix (.v 4) (.v 8)))
 (.y 12 (.g (.a 9 (.a 10 (.u (.bin .BitAnd (.v 11) (.m (.h (.p (.v 6) (.i 1)) (.i 48271)) (.i 65537)))))))
 (.y 13 (.g (.aC (.m (.k (.v 6) (.i 3)) (.p (.len (.x 0 2)) (.i 1))) (.aC (.m (.k (.v 6) (.i 41)) (.p (.len (.x 1 2)) (.i 1))) (.u (.m (.k (.v 6) (.i 7)) (.bin .LShift (.i 1) (.x 0 1)))))))
 (.z (.set 7 (.p (.v 7) (.lstE (.aC (.p (.p (.slice (.v 4) .nop (.part (.v 8))) (.lstE (.s 12))) (.slice (.v 4) (.part (.p (.v 8) (.i 1))) .nop)) (.u (.p (.v 4) (.lstE (.s 13)))))))))))))
def c__law_papers:FD:=⟨3,14,(.y 3 (.lstE (.aC (.f 201 (.a 0 (.s 1))) (.u (.f 294 (.a 0 (.a 1 (.u (.m (.f 27 (.a 2 (.u (.i 9)))) (.bin .LShift (.i 1) (.x 0 1))))))))))
 (.y 5 Y3
 (.y 6 (.m (.f 27 (.a 2 (.u (.i 8)))) (.i 1000003))
 (.y 7 (.lstE .aN)
 (.seq (.for1 4 af (.v 5) ZY)
 (.q (.p (.v 5) (.v 7))))))))⟩
def Z2:CS:=(.z (.w (.f 204 (.a 1 (.a 2 (.u (.tOf (.v 3)))))) (.y 4 .dnew
 (.seq (.for4 5 6 7 (.v 3) (.z (.dput 4 (.v 5) (.v 6) (.v 7))))
 (.z (.for4 5 6 7 (.slice (.v 3) .nop (.part (.i 24))) (.y 8 (.f 131 (.a 0 (.aC (.x 1 1) (.u (.p (.v 5) (.h (.i 3) (.v 6)))))))
 (.y 9 (.f 132 (.a 8 (.a 7 (.u (.f 27 (.a 0 (.u (.i 7))))))))
 (.z (.w (.not (.f 297 (.a 1 (.a 2 (.a 4 (.aC (.g (.a 5 (.s 8))) (.u (.g (.a 6 (.s 9)))))))))) (.q (.c (.bl af)))))))))))))
def c_law_k44:FD:=⟨1,10,(.seq (.set2 1 2 (.f 47 (.s 0)))
 (.seq (.for1 3 af (.f 298 (.a 1 (.a 2 (.s 0)))) Z2)
 (.q (.c (.bl ae)))))⟩
end Dp
noncomputable section
namespace Dp
open PySem
def T:Nat->Ot FD
 |42=>aa Xz
 |113=>aa Ye
 |43=>aa WA
 |56=>aa Xx
 |114=>aa XZ
 |57=>aa YH
 |45=>aa YR
 |0=>aa Wz
 |1=>aa Xr
 |2=>aa Yz
 |3=>aa WC
 |4=>aa Vz
 |73=>aa YG
 |74=>aa Z8
 |75=>aa Z7
 |76=>aa ZS
 |77=>aa Xy
 |78=>aa Z6
 |79=>aa YT
 |80=>aa X1
 |81=>aa Yt
 |82=>aa X0
 |83=>aa ZZ
 |115=>aa XF
 |116=>aa YS
 |117=>aa YV
 |118=>aa Xc
 |119=>aa ZM
 |120=>aa X2
 |121=>aa ZI
 |122=>aa WB
 |202=>aa WD
 |203=>aa Xd
 |204=>aa YU
 |201=>aa Yi
 |27=>aa Yq
 |20=>aa YQ
 |28=>aa Ys
 |29=>aa Xw
 |123=>aa ZG
 |124=>aa Zr
 |125=>aa Yr
 |126=>aa Xb
 |47=>aa c__law_two
 |32=>aa Zs
 |33=>aa Z3
 |34=>aa Ym
 |103=>aa c__law_moved
 |36=>aa YO
 |294=>aa c__law_closed
 |131=>aa YF
 |132=>aa YE
 |297=>aa Xa
 |298=>aa c__law_papers
 |16=>aa c_law_k44
 |_=>ab
abbrev rT:=run T
structure Grw(s s':Za):Prop where
 old:∀ i,i < s.length->s'[i]?=s[i]?
 len:s.length<=s'.length
variable{α:Type}{fr:Li Nat}{it elt:CE}{hi:Ot Int}
variable{F:Nat->Fn}{s st:Za}{e a b:CE}{U:Env}{d x y:D}{q p:CS}{n f i j w:Nat}{xs ds:Li D}
section
variable{s' s1 s2:Za}{c:CE}{z:D}{k m:Bool}{t:Y5}
def Zy{l:Li α}{x:α}(h:l[i]?=aa x):i < l.length:=(bL.mp h).1
def Grw.refl:Grw s s:=⟨λ_ _=>rfl,aB _⟩
theorem Grw.trans(a:Grw s s1)(b:Grw s1 s2):Grw s s2:=⟨λi h=>(b.old i (aW h a.len)).trans (a.old i h),aK a.len b.len⟩
def Grw.get(g:Grw s s')(h:s[i]?=aa t):s'[i]?=aa t:=(g.old i (Zy h)).trans h
def Grw.push:Grw s (s++[t]):=⟨λi h=>bS h,by rw[aG];omega⟩
def Grw.nil:Grw [] s:=⟨λ_ h=>au h (Nat.not_lt_zero _),aS _⟩
def Gv(s:Za)(f:Za->Res)(d:D):Prop:=∀ st,Grw s st->∃ st',f st=aa (d,st')/\Grw st st'
def Y(F:Nat->Fn)(s:Za)(e:CE)(U:Env)(d:D):Prop:=Gv s (ev F e U) d
def C(F:Nat->Fn)(s:Za)(f:Nat)(ds:Li D)(d:D):Prop:=Gv s (F f ds) d
def R(F:Nat->Fn)(s:Za)(q:CS)(U:Env)(d:D):Prop:=∀ st,Grw s st->∃ st',ex F q U st=aa (.rt d,st')/\Grw st st'
def rf{f:Za->Res}(x:Za):f x=f x:=rfl
def Y.r(h:∀ st,ev F e U st=aa (d,st)):Y F s e U d:=λst _=>⟨st,h st,.refl⟩
def Y.at(h:∀ st,Grw s st->ev F e U st=aa (d,st)):Y F s e U d:=λst g=>⟨st,h st g,.refl⟩
def Gv.mono{f:Za->Res}(h:Gv s f d)(g:Grw s s'):Gv s' f d:=λst k=>h st (g.trans k)
def C.up(h:C F [] f ds d):C F s f ds d:=Gv.mono h .nil
def g1{g:D->Za->Res}(e:Y F s a U x)(h:Gv s (g x) d):Gv s (Zl (ev F a) g U) d:=λst k=>by
 obtain⟨s1,i,b⟩:=e st k;obtain⟨s2,f,c⟩:=h s1 (k.trans b);exact⟨s2,by unfold Zl;rw[i];exact f,b.trans c⟩
def g2{g:D->D->Za->Res}(l:Y F s a U x)(j:Y F s b U y)(h:Gv s (g x y) d):Gv s (ZE (ev F a) (ev F b) g U) d:=λst k=>by
 obtain⟨s1,o,c⟩:=l st k;obtain⟨s2,n,e⟩:=j s1 (k.trans c);obtain⟨f,m,i⟩:=h s2 (k.trans (c.trans e));exact⟨f,by unfold ZE;rw[o];simp only[n];exact m,c.trans (e.trans i)⟩
def gp{f:Za->Res}(h:∀ st,f st=aa (d,st)):Gv s f d:=λst _=>⟨st,h st,.refl⟩
def gs{f:Za->Res}(h:∀ st,Grw s st->f st=aa (d,st)):Gv s f d:=λst k=>⟨st,h st k,.refl⟩
theorem Y.cmp{op:CmpOp}(d:Y F s a U x)(c:Y F s b U y)(h:∀ st,J4 op x y st=aa k):Y F s (.cmp op a b) U (.bl k):=g2 d c (gp λst=>by unfold W7;rw[h])
def gc{e b c:Ev}(i:Gv s (e U) (.bl k))(h:Gv s ((if k then b else c) U) d):Gv s (Xf e b c U) d:=λst g=>by
 obtain⟨s1,l,a⟩:=i st g;obtain⟨s2,j,f⟩:=h s1 (g.trans a);exact⟨s2,by unfold Xf;rw[l];cases k<;>exact j,a.trans f⟩
theorem Y.and(c:Y F s a U (.bl k))(d:k=ae->Y F s b U (.bl m)):Y F s (.and a b) U (.bl (k&&m)):=by
 cases k
 .exact gc c (gp λ_=>rfl)
 .exact gc c (d rfl)
theorem Y.or(c:Y F s a U (.bl k))(d:k=af->Y F s b U (.bl m)):Y F s (.or a b) U (.bl (k||m)):=by
 cases k
 .exact gc c (d rfl)
 .exact gc c (gp λ_=>rfl)
theorem Y.not(b:Y F s a U (.bl k)):Y F s (.not a) U (.bl (!k)):=g1 b (gp λ_=>rfl)
theorem Y.ife(e:Y F s c U (.bl k))(h:Y F s (if k then a else b) U d):Y F s (.ife c a b) U d:=by
 cases k<;>exact gc e h
theorem Y.call(b:Y F s a U (.tup xs))(h:C F s f (xs++ds) d):Y F s (.call f a ds) U d:=g1 b h
def Y.cons(e:Y F s a U x)(d:Y F s b U (.tup xs))(c:xs.length < 1000:=by first|decide | (simp only[aY,dD];decide)):Y F s (.aC a b) U (.tup (x :: xs)):=g2 e d (gp λst=>aq c)
def Y.nil:Y F s .aN U (.tup []):=.r rf
def Y.call1(b:Y F s a U x)(h:C F s f [x] d):Y F s (.f f (.u a)) U d:=.call (.cons b .nil) h
theorem R.ret(h:Y F s e U d):R F s (.seq (.ret e) q) U d:=λst g=>by
 obtain⟨s1,b,a⟩:=h st g;exact⟨s1,by show YZ (Qm (ev F e)) (ex F q) U st=_;unfold YZ Qm;rw[b],a⟩
def R.set(h:Y F s e U x)(c:R F s q (Zk U i x) d):R F s (.y i e q) U d:=λst g=>by
 obtain⟨s1,j,a⟩:=h st g;obtain⟨s2,f,b⟩:=c s1 (g.trans a);exact⟨s2,by show YZ (VX i (ev F e)) (ex F q) U st=_;unfold YZ VX;rw[j];exact f,a.trans b⟩
def R.no(h:Y F s e U (.bl af))(c:R F s q U d):R F s (.seq (.ite e p .skip) q) U d:=λst g=>by
 obtain⟨s1,i,a⟩:=h st g;obtain⟨s2,f,b⟩:=c s1 (g.trans a);exact⟨s2,by show YZ (Yb (ev F e) (ex F p) (ex F .skip)) (ex F q) U st=_;unfold YZ Yb;rw[i];exact f,a.trans b⟩
def R.yB(h:Y F s e U (.bl ae))(c:R F s p U d):R F s (.seq (.ite e p .skip) q) U d:=λst g=>by
 obtain⟨s1,i,a⟩:=h st g;obtain⟨s2,f,b⟩:=c s1 (g.trans a);exact⟨s2,by show YZ (Yb (ev F e) (ex F p) (ex F .skip)) (ex F q) U st=_;unfold YZ Yb;rw[i];simp only[f],a.trans b⟩
def R.yes(h:Y F s e U (.bl ae))(b:Y F s a U d):R F s (.seq (.ite e (.q a) .skip) q) U d:=.yB h (.ret b)
def ZhD{v:FD}(h:T f=aa v)(a:ds.length=v.ps):rT (n+1) f ds st=match ex (rT n) v.body (ds.map aa++ag (v.ns - ds.length) ab) st with
  |some (.rt d,st')=>aa (d,st')
  |some (.nx _,st')=>aa (.non,st')
  |_=>ab:=by
 show(match T f with|some f=>fnD (rT n) f|none=>λ_ _=>ab) ds st=_
 rw[h];exact aq a
def UG{v:FD}(h:T f=aa v)(b:ds.length=v.ps)(a:ex (rT n) v.body (ds.map aa++ag (v.ns - ds.length) ab) st=aa (.rt d,s')):rT (n+1) f ds st=aa (d,s'):=by rw[ZhD h b,a]
def C.of{v:FD}(h:T f=aa v)(c:ds.length=v.ps)(b:R (rT n) s v.body (ds.map aa++ag (v.ns - ds.length) ab) d):C (rT (n+1)) s f ds d:=λst g=>by
 obtain⟨s1,e,a⟩:=b st g;exact⟨s1,UG h c e,a⟩
def Zc{U':Env}(h:ex F p U st=aa (.nx U',s')):ex F (.seq p q) U st=ex F q U' s':=by
 show YZ (ex F p) (ex F q) U st=_;unfold YZ;rw[h]
def Zn(h:ex F p U st=aa (.rt d,s')):ex F (.seq p q) U st=aa (.rt d,s'):=by
 show YZ (ex F p) (ex F q) U st=_;unfold YZ;rw[h]
theorem Wj{α:Type}{f g:α->D}{ok:Za->Prop}{fe fc:D->Za->Res}(e:∀ d st,fc d st=aa (.bl ae,st))(b:∀ st,Grw s st->ok st):∀ {l:Li α},(∀ a∈l,Gv s (fe (f a)) (g a))->∀ st,Grw s st->∃ st',Z9 ok fe fc (l.map f) st=aa (l.map g,st')/\Grw st st'
 |[],_,st,k=>⟨st,aq (b st k),.refl⟩
 |x :: xs,h,st,k=>by
  obtain⟨s1,n,c⟩:=h x Ls st k;obtain⟨s2,m,i⟩:=Wj e b (λd j=>h d (Lm _ j)) s1 (k.trans c)
  refine⟨s2,?_,c.trans i⟩;rw[aZ,Z9,aq (b st k),e];simp only[n,m,aZ]
def Lv(s:Za)(f:Za->Res)(xs:Li D):Prop:=∀ st,Grw s st->∃ st' j b,f st=aa (.lst j,st')/\st'[j]?=aa (b,xs)/\Grw st st'
def Zp:(s++[t])[s.length]?=aa t:=by rw[bE (aB _),eP];rfl
def Wk(F:Nat->Fn)(s:Za)(it:CE)(U:Env)(wk:D->Za->Ot (Li D×(Za->Prop)))(xs:Li D):Prop:=∀ st,Grw s st->∃ x st1 ok,ev F it U st=aa (x,st1)/\Grw st st1/\wk x st1=aa (xs,ok)/\∀ st',Grw st1 st'->ok st'
def Wk.of{wk:D->Za->Ot (Li D×(Za->Prop))}(hi:Y F s e U x)(h:∀ st,wk x st=aa (xs,λ_=>True)):Wk F s e U wk xs:=λst k=>by
 obtain⟨s1,b,a⟩:=hi st k;exact⟨x,s1,_,b,a,h s1,λ_ _=>trivial⟩
def Wb{b:D->Li (Ot D)}{wk:D->Za->Ot (Li D×(Za->Prop))}{en g:α->D}{l:Li α}(hi:Wk F s it U wk (l.map en))(j:l.length<=1000)(h:∀ a∈l,Y F s elt (Z5 b U fr (en a)) (g a)):Lv s (Y2 b wk fr (ev F it) (ev F elt) (ev F (.c (.bl ae))) U) (l.map g):=λst k=>by
 obtain⟨x,s1,ok,p,e,o,i⟩:=hi st k;obtain⟨s2,n,f⟩:=Wj (s:=s1) (ok:=ok) (fe:=λd=>ev F elt (Z5 b U fr d)) (fc:=λd=>ev F (.c (.bl ae)) (Z5 b U fr d)) (λ_ _=>rfl) i (λa m=>Gv.mono (h a m) (k.trans e)) s1 .refl
 refine⟨s2++[(ae,l.map g)],_,_,?_,Zp,(e.trans f).trans .push⟩;unfold Y2;simp only[p,o,aD,aq j,n]
theorem Vf{α:Type}{g:α->Bool}:∀ {l:Li α},Y9 (l.map λx=>.bl (g x))=aa (l.map g)
 |[]=>rfl
 |x :: l=>by show(Y9 (l.map _)).map _=_;rw[Vf];rfl
theorem Y.all{l:Li α}{g:α->Bool}(h:Lv s (ev F e U) (l.map λa=>.bl (g a))):Y F s (.all e) U (.bl (l.all g)):=λst k=>by
 obtain⟨s1,j,b,f,d,c⟩:=h st k;refine⟨s1,?_,c⟩;show Zl (ev F e) (WX λl=>l.all id) U st=_
 unfold Zl WX;simp only[f,d,Vf,List.all_map];rfl
def UX(h:xs[j]?=aa d):atD xs (j:Int)=aa d:=by
 have:=Zy h;unfold atD ixN;rw[aq (by omega),aq (by omega),Ob,bH,h]
def Y.ixl(c:s[w]?=aa t)(f:Y F s a U (.lst w))(e:Y F s b U (.int (j:Int)))(h:t.2[j]?=aa d):Y F s (.ix a b) U d:=g2 f e (gs λst k=>by
 show ixR (.lst w) (.int (j:Int)) st=_;unfold ixR ixD;simp only[k.get c,UX h])
def Y.ixt(e:Y F s a U (.tup xs))(c:Y F s b U (.int (j:Int)))(h:xs[j]?=aa d):Y F s (.ix a b) U d:=g2 e c (gp λst=>by
 show ixR (.tup xs) (.int (j:Int)) st=_;unfold ixR ixD;simp only[UX h])
def Y.lenl(b:s[w]?=aa t)(c:Y F s a U (.lst w)):Y F s (.len a) U (.int (t.2.length:Int)):=g1 c (gs λst k=>by
 show Qc (.lst w) st=_;unfold Qc ZcH;simp only[k.get b])
def Lv.sl{lo:Ot Int}(i:s[w]?=aa t)(m:Y F s a U (.lst w))(l:Y F s b U x)(j:Y F s c U y)(h:∀ st,Yy (.lst w) x y st=Yh (.lst w) lo hi st):Lv s (ev F (.slice a b c) U) (Y4 t.2 lo hi):=λst k=>by
 obtain⟨s1,p,d⟩:=m st k;obtain⟨s2,o,e⟩:=l s1 (k.trans d);obtain⟨g,n,f⟩:=j s2 (k.trans (d.trans e));refine⟨g++[(ae,Y4 t.2 lo hi)],_,_,?_,Zp,(d.trans (e.trans f)).trans .push⟩;show Yl (ev F a) (ev F b) (ev F c) Yy U st=_;unfold Yl;simp only[p,o,n,h];unfold Yh;simp only[(k.trans (d.trans (e.trans f))).get i]
def Lv.mk(h:Y F s e U (.tup xs)):Lv s (ev F (.lstE e) U) xs:=λst k=>by
 obtain⟨s1,b,a⟩:=h st k;exact⟨_,_,_,by show Zl (ev F e) ZaP U st=_;unfold Zl;rw[b];rfl,Zp,a.trans .push⟩
def RL(F:Nat->Fn)(s:Za)(q:CS)(U:Env)(xs:Li D):Prop:=∀ st,Grw s st->∃ st' j b,ex F q U st=aa (.rt (.lst j),st')/\st'[j]?=aa (b,xs)/\Grw st st'
def VB{c:Y5}(h:ev F e U st=aa (.lst j,s'))(a:s'[j]?=aa c):ev F (.tOf e) U st=aa (.tup c.2,s'):=by
 show Zl (ev F e) V0 U st=_;unfold Zl;rw[h];show(match s'[j]? with
  |some (_,xs)=>aa (D.tup xs,s')
  |none=>ab)=_
 rw[a]
def ZQ(h:ev F e U st=aa (d,s')):ex F (.ret e) U st=aa (.rt d,s'):=by
 show Qm (ev F e) U st=_;unfold Qm;rw[h]
def Zh(h:ev F e U st=aa (v,st')):ex F (.set i e) U st=aa (.nx (Zk U i v),st'):=by
 show VX i (ev F e) U st=_;unfold VX;rw[h]
def YJ(h:ev F e U st=aa (.bl af,st')):ex F (.ite e p q) U st=ex F q U st':=by
 show Yb (ev F e) (ex F p) (ex F q) U st=_;unfold Yb;rw[h]
def ZL(h:ev F e U st=aa (.bl ae,st')):ex F (.ite e p q) U st=ex F p U st':=by
 show Yb (ev F e) (ex F p) (ex F q) U st=_;unfold Yb;rw[h]
def Zf:ex F .skip U st=aa (.nx U,st):=rfl
end
section
local macro_rules|`(())=>`(.r rf)
local macro_rules|`(∅)=>`(by omega)
local macro_rules|`(#[])=>`(by decide)
variable{st' st1:Za}{U':Env}{ys:Li D}
section
variable{U'':Env}{k:Bool}
structure Kj(j:Nat)(st st':Za):Prop where
 old:∀ i,i < st.length->i≠j->st'[i]?=st[i]?
 len:st.length<=st'.length
def Grw.kj(g:Grw st st'):Kj j st st':=⟨λi h _=>g.old i h,g.len⟩
theorem Kj.trans(a:Kj j st st1)(b:Kj j st1 st'):Kj j st st':=⟨λi h c=>(b.old i (aW h a.len) c).trans (a.old i h c),aK a.len b.len⟩
def Kj.grw(k:Kj j st st')(a:s.length<=j)(g:Grw s st):Grw s st':=⟨λi h=>(k.old i (aW h g.len) ∅).trans (g.old i h),aK g.len k.len⟩
def Wn{c:Y5}(h:i < st.length):(st.set i c)[j]?=if i=j then aa c else st[j]?:=by
 rw[List.getElem?_set];split
 .rename_i e;subst e
  first|rfl|rw[aq h]
 .rfl
def Ap(F:Nat->Fn)(s:Za)(j:Nat)(q:CS)(U U':Env)(xs:Li D):Prop:=∀ st a,Grw s st->st[j]?=aa (ae,a)->a.length+xs.length<=90000->∃ st',ex F q U st=aa (.nx U',st')/\Kj j st st'/\st'[j]?=aa (ae,a++xs)
theorem Ap.skip:Ap F s j .skip U U []:=λst a g h _=>⟨st,rfl,Grw.refl.kj,by rw[bD];exact h⟩
theorem Ap.seq(f:s.length<=j)(k:Ap F s j q U U' xs)(i:Ap F s j p U' U'' ys):Ap F s j (.seq q p) U U'' (xs++ys):=λst a g h e=>by
 rw[aG]at e;obtain⟨s1,m,g1,d⟩:=k st a g h ∅
 obtain⟨b,l,g2,c⟩:=i s1 _ (g1.grw f g) d (by rw[aG];omega)
 exact⟨b,by show YZ (ex F q) (ex F p) U st=_;unfold YZ;rw[m];exact l,g1.trans g2,by rw[<-aM];exact c⟩
def Ap.one(h:Ap F s j q U U' xs):Ap F s j (.z q) U U' xs:=λst a g d c=>by
 obtain⟨s1,e,g1,b⟩:=h st a g d c;exact⟨s1,by show YZ (ex F q) (ex F .skip) U st=_;unfold YZ;rw[e];rfl,g1,b⟩
theorem Ap.app(hi:U[i]?=aa (jL j))(h:Y F s e U d):Ap F s j (.app i e) U U [d]:=λst a g n f=>by
 obtain⟨s1,o,b⟩:=h st g;have c:=b.get n;have f:a.length+1<=90000:=f;refine⟨s1.set j (ae,a++[d]),?_,⟨λm l k=>?_,by rw[bO];exact b.len⟩,by rw[Wn (Zy c),aq rfl]⟩
 .show JV i (ev F e) U st=_
  unfold JV JT;simp only[hi,o,c];rw[aq (by unfold Zg;omega)]
 .rw[Wn (Zy c),ar (Ne.symm k)]
  exact b.old m l
theorem Ap.ite(h:Y F s e U (.bl k))(f:Ap F s j (if k then q else p) U U' xs):Ap F s j (.ite e q p) U U' xs:=λst b g l i=>by
 obtain⟨s1,n,a⟩:=h st g;obtain⟨c,m,g2,d⟩:=f s1 b (g.trans a) (a.get l) i;exact⟨c,by show Yb (ev F e) (ex F q) (ex F p) U st=_;unfold Yb;rw[n];cases k<;>exact m,a.kj.trans g2,d⟩
theorem Ap.set(h:Y F s e U d):Ap F s j (.set i e) U (Zk U i d) []:=λst f g b k=>by
 obtain⟨s1,c,a⟩:=h st g;exact⟨s1,by show VX i (ev F e) U st=_;unfold VX;rw[c],a.kj,by rw[bD];exact a.get b⟩
end
variable{c:Nat}{q':CS}
variable{Q:D->Za->Prop}
section
variable{st2:Za}{m:Bool}{tx:Str}
def Lv.v(b:s[j]?=aa (m,xs))(h:Y F s e U (.lst j)):Lv s (ev F e U) xs:=λst g=>by
 obtain⟨s1,c,a⟩:=h st g;exact⟨s1,j,m,c,(g.trans a).get b,a⟩
def Lv.mono{f:Za->Res}(h:Lv s f xs)(g:Grw s st):Lv st f xs:=λst1 k=>h st1 (g.trans k)
def Lv.cat(k:Lv s (ev F a U) xs)(j:Lv s (ev F b U) ys)(i:xs.length+ys.length<=Zg):Lv s (ev F (.p a b) U) (xs++ys):=λst g=>by
 obtain⟨s1,h,r,o,m,e⟩:=k st g;obtain⟨c,f,q,n,l,d⟩:=j s1 (g.trans e);refine⟨c++[(ae,xs++ys)],_,_,?_,Zp,(e.trans d).trans .push⟩;show ZE (ev F a) (ev F b) (Vy .Add) U st=_;unfold ZE;simp only[o,n];show Ug h f c=_;unfold Ug;simp only[d.get m,l];exact aq i
def RP(F:Nat->Fn)(q:CS)(U:Env)(st:Za)(Q:D->Za->Prop):Prop:=∃ d st',ex F q U st=aa (.rt d,st')/\Grw st st'/\Q d st'
def RP.pre(h:ex F q U st=ex F q' U' st1)(g:Grw st st1)(a:RP F q' U' st1 Q):RP F q U st Q:=by
 obtain⟨d,st',e,b,k⟩:=a;exact⟨d,st',h.trans e,g.trans b,k⟩
def RP.setY(h:Y F s e U d)(g:Grw s st)(c:∀ a,Grw st a->RP F q (Zk U i d) a Q):RP F (.y i e q) U st Q:=by
 obtain⟨s1,f,b⟩:=h st g;exact .pre (Zc (Zh f)) b (c s1 b)
def RP.no{p:CS}(h:Y F s e U (.bl af))(g:Grw s st)(c:∀ a,Grw st a->RP F q U a Q):RP F (.seq (.ite e p .skip) q) U st Q:=by
 obtain⟨s1,d,b⟩:=h st g;exact .pre (Zc ((YJ d).trans Zf)) b (c s1 b)
theorem RP.ret(h:Y F s e U d)(g:Grw s st)(c:∀ a,Grw st a->Q d a):RP F (.seq (.ret e) q) U st Q:=by
 obtain⟨s1,f,b⟩:=h st g;exact⟨d,s1,Zn (ZQ f),b,c s1 b⟩
def RP.yes{p:CS}(h:Y F s e U (.bl ae))(g:Grw s st)(i:∀ a,Grw st a->RP F p U a Q):RP F (.seq (.ite e p .skip) q) U st Q:=by
 obtain⟨s1,l,b⟩:=h st g;obtain⟨d,c,k,f,j⟩:=i s1 b;exact⟨d,c,Zn ((ZL l).trans k),b.trans f,j⟩
def CP(F:Nat->Fn)(f:Nat)(ds:Li D)(st:Za)(Q:D->Za->Prop):Prop:=∃ d st',F f ds st=aa (d,st')/\Grw st st'/\Q d st'
def CP.of{v:FD}{f:Nat}{ds:Li D}(h:T f=aa v)(c:ds.length=v.ps)(b:RP (rT n) v.body (ds.map aa++ag (v.ns - ds.length) ab) st Q):CP (rT (n+1)) f ds st Q:=by
 obtain⟨d,s1,g,a,e⟩:=b;exact⟨d,s1,UG h c g,a,e⟩
end
def Sm(a:Int):Prop:=-1000000000<=a/\a<=999999999
variable{m sz:Nat}{ns:Li Int}
section
variable{i j k c:Int}{op:Operator}
def Y.bi(d:Y F s a U (.int i))(c:Y F s b U (.int j))(h:UZ op i j=aa k):Y F s (.bin op a b) U (.int k):=g2 d c (gp λst=>by
 show Vy op (.int i) (.int j) st=_;unfold Vy;simp only[h])
def Y.add(d:Y F s a U (.int i))(c:Y F s b U (.int j)):Y F s (.p a b) U (.int (i+j)):=.bi d c rfl
def Y.sub(d:Y F s a U (.int i))(c:Y F s b U (.int j)):Y F s (.l a b) U (.int (i - j)):=.bi d c rfl
def Y.mul(d:Y F s a U (.int i))(c:Y F s b U (.int j))(h:ZT j=ae):Y F s (.h a b) U (.int (i * j)):=.bi d c (by show(if ZT i||ZT j then aa (i * j) else ab)=_;rw[h,Bool.or_true];rfl)
def Y.md(d:Y F s a U (.int i))(c:Y F s b U (.int j))(h:0 < j):Y F s (.m a b) U (.int (i % j)):=.bi d c (aq h)
def Y.fd(d:Y F s a U (.int i))(c:Y F s b U (.int j))(h:0 < j/\j < 1073741824):Y F s (.k a b) U (.int (i / j)):=.bi d c (aq h)
def Y.ixL{j:Nat}(k:Lv s (ev F a U) xs)(i:Y F s b U (.int (j:Int)))(h:xs[j]?=aa d):Y F s (.ix a b) U d:=λst g=>by
 obtain⟨s1,q,t,n,l,f⟩:=k st g;obtain⟨c,m,e⟩:=i s1 (g.trans f);refine⟨c,?_,f.trans e⟩;show ZE (ev F a) (ev F b) ixR U st=_;unfold ZE;simp only[n,m];show ixR (.lst q) (.int (j:Int)) c=_;unfold ixR ixD;simp only[e.get l,UX h]
def Zo(i:Int)(h:0 < j):0<=i % j/\i % j < j:=⟨fG _ ∅,gC _ h⟩
def X5(h:-(2 ^ 64) < i/\i < 2 ^ 64):ZT i=ae:=by unfold ZT;rw[aF h.1,aF h.2];rfl
end
variable{N:Nat}
theorem WY{I:Env->Prop}{P:Nat->D->Prop}(o:s.length<=j)(p:∀ k,k < N->∀ U,I U->∃ d U',P k d/\I U'/\Ap F s j q (Zk U i (.int (k:Int))) U' [d]):∀ (M a:Nat),a+M=N->∀ U,I U->∃ xs U',xs.length=M/\(∀ t d,xs[t]?=aa d->P (a+t) d)/\I U'/\∀ st b,Grw s st->st[j]?=aa (ae,b)->b.length+M<=90000->∃ st',Zj (λd U s=>ex F q (Zk U i d) s) ((List.range' a M).map λ(k:Nat)=>D.int (k:Int)) U st=aa (.nx U',st')/\Kj j st st'/\st'[j]?=aa (ae,b++xs)
 |0,a,_,U,m=>⟨[],U,rfl,λt d h=>(nomatch h),m,λst b g h _=>⟨st,rfl,Grw.refl.kj,by rw[bD];exact h⟩⟩
 |M+1,a,K,U,m=>by
  obtain⟨d,e,z,l,A⟩:=p a ∅ U m
  obtain⟨xs,c,y,w,f,x⟩:=WY o p M (a+1) ∅ e l
  refine⟨d :: xs,c,by rw[aY,y],λt H h=>?_,f,λst b g h J=>?_⟩
  .cases t with
   |zero=>cases h;exact z
   |succ t=>have:=w t H h;rw[show a+1+t=a+(t+1) by omega]at this;exact this
  .obtain⟨s1,G,n,C⟩:=A st b g h (by show _+1<=90000;omega)
   obtain⟨r,E,u,B⟩:=x s1 _ (n.grw o g) C (by rw[aG];show _+1+M<=90000;omega)
   refine⟨r,?_,n.trans u,by rw[B,aM];rfl⟩
   rw[List.range'_succ,aZ];show(match ex F q (Zk U i (.int (a:Int))) st with
    |some (.nx U',st')=>Zj _ _ U' st'
    |some (.ct U',st')=>Zj _ _ U' st'
    |some (.bk U',st')=>aa (.nx U',st')
    |some (.rt v,st')=>aa (.rt v,st')
    |none=>ab)=_
   rw[G];exact E
def ZaG{v:Int}(b:v < 2 ^ 62)(a:-(2 ^ 62)<=v):WJ ae (.int v)=aa ((aj v.toNat).map λ(k:Nat)=>D.int (k:Int)):=by
 show(if v < 2 ^ 62/\-(2 ^ 62)<=v then aa ((aj v.toNat).map λ(k:Nat)=>D.int (k:Int)) else ab)=_
 rw[aq ⟨b,a⟩]
def YX{v:Int}{st1:Za}(b:v < 2 ^ 62)(a:-(2 ^ 62)<=v)(c:ev F e U st=aa (.int v,st1)):ex F (.for1 i ae e q) U st=Zj (λd U s=>ex F q (Zk U i d) s) ((aj v.toNat).map λ(k:Nat)=>D.int (k:Int)) U st1:=by
 show WF i ae (ev F e) (ex F q) U st=_;unfold WF;rw[c];simp only[ZaG b a]
noncomputable def arI(x:Int):Int:=(x+1000000000) % 2000000000 - 1000000000
noncomputable def fdI(i j:Int):Int:=if 0 < j then i / j else i.fdiv j
def rkI(a:Int)(g:Str)(b:Int):Int:=if g=S "+" then arI (a+b) else if g=S "-" then arI (a - b) else if g=S "*" then arI (a * b) else if g=S "/" then (if b=0 then 0 else arI (fdI a b)) else if b=0 then a else a - b * fdI a b
def soI(a:Int)(g:Str)(b:Int):Bool:=if g=S "<" then ak (a < b) else if g=S "<=" then ak (a<=b) else if g=S "=" then ak (a=b) else if g=S ">=" then ak (b<=a) else if g=S ">" then ak (b < a) else !decide (a=b)
def psL:Li Str:=[S "+",S "-",S "*",S "/",S "mod"]
def isL:Li Str:=[S "<",S "<=",S "=",S ">=",S ">",S "!="]
inductive Op where
 |nm (i:Nat)|nu (v:Int)
 deriving DecidableEq
noncomputable def opE:Op->D
 |.nm i=>.tup [.str "name",.int (i:Int)]
 |.nu v=>.tup [.str "number",.int v]
def Vw(m:Nat):Op->Prop
 |.nm i=>i < m
 |.nu v=>Sm v
inductive Rw where
 |put (x:Nat) (y:Op) (g:Str) (z:Op)|ifr (y:Op) (g:Str) (z:Op) (t:Nat)|go (t:Nat)|tell (y:Op)|skip
 deriving DecidableEq
def rwE:Rw->D
 |.put x y g z=>.tup [.str "put",.int (x:Int),opE y,.str g,opE z]
 |.ifr y g z t=>.tup [.str "if",opE y,.str g,opE z,.int (t:Int)]
 |.go t=>.tup [.str "go",.int (t:Int)]
 |.tell y=>.tup [.str "tell",opE y]
 |.skip=>.tup [.str "skip"]
def RwOk(m sz:Nat):Rw->Prop
 |.put x y g z=>x < m/\Vw m y/\g∈psL/\Vw m z
 |.ifr y g z t=>Vw m y/\g∈isL/\Vw m z/\t<=sz
 |.go t=>t<=sz
 |.tell y=>Vw m y
 |.skip=>True
noncomputable def woI(vs:Li Int):Op->Int
 |.nm i=>vs.getD i 0
 |.nu v=>v
structure Vs(m:Nat)(vs:List Int):Prop where
 l:vs.length=m
 s:∀ v∈vs,Sm v
noncomputable def inZ(vs:Li Int):Li D:=vs.map D.int
variable{vs:Li Int}{g:Str}{o:Op}{r:Rw}
section
variable{i j:Int}
def V6:Sm (arI i):=by
 have:=Zo (i+1000000000) (j:=2000000000) #[]
 unfold Sm arI;omega
def ZgC(h:j≠0):(0 < j/\j * fdI i j<=i/\i < j * fdI i j+j)\/(j < 0/\i<=j * fdI i j/\j * fdI i j+j < i):=by
 unfold fdI;by_cases a:0 < j
 .rw[aq a]
  have b:=Int.mul_ediv_add_emod i j;have d:=fG i h;have e:=gC i a;exact .inl ⟨a,∅,∅⟩
 .rw[ar a]
  have b:=Int.fmod_def i j;have d:j < 0:=by omega
  have e:=fG i h;have g:i % j < -j:=by have:=Int.emod_lt i h;omega
  rw[Int.fmod_eq_emod]at b;by_cases c:j ∣ i
  .rw[aq (.inr c),Int.emod_eq_zero_of_dvd c]at b
   exact .inr ⟨d,∅,∅⟩
  .have f:i % j≠0:=λz=>c (Int.dvd_of_emod_eq_zero z)
   rw[ar ∅]at b
   exact .inr ⟨d,∅,∅⟩
def Zbp(a:Sm i)(e:Sm j):Sm (rkI i g j):=by
 unfold rkI;split
 .exact V6
 .split
  .exact V6
  .split
   .exact V6
   .split
    .split
     .exact⟨#[],#[]⟩
     .exact V6
    .split
     .exact a
     .rename_i h
      have:=ZgC (i:=i) h;unfold Sm at *
      rcases this with⟨d,c,b⟩|⟨d,c,b⟩
      .generalize j * fdI i j=q at *
       omega
      .generalize j * fdI i j=q at *
       omega
theorem Y.v{i:Nat}(h:U[i]?=aa (aa d)):Y F s (.v i) U d:=.r λst=>by show Z4 i U st=_;unfold Z4;rw[h]
def Y.fdv(f:Y F s a U (.int i))(e:Y F s b U (.int j))(h:j≠0)(d:Sm j):Y F s (.k a b) U (.int (fdI i j)):=.bi f e (by
 unfold Sm at d;show(if 0 < j/\j < 1073741824 then aa (i / j) else if j < 0/\-1073741824 < j then aa (i.fdiv j) else ab)=_
 unfold fdI;by_cases c:0 < j
 .rw[aq c,aq ⟨c,∅⟩]
 .rw[ar c,ar ∅,aq ⟨∅,∅⟩])
def Qe(h:Sm j):ZT j=ae:=X5 (by unfold Sm at h;omega)
def Y.arx(b:Y F s a U (.int i)):Y F s (.l (.m (.p a (.i 1000000000)) (.i 2000000000)) (.i 1000000000)) U (.int (arI i)):=.sub (.md (.add b ()) () #[]) ()
def Y7:C (rT (n+1)) s 0 [.int i] (.int (arI i)):=.of (v:=Wz) rfl rfl (.ret (.arx ()))
def Zfq(a:Sm j):C (rT (n+2)) s 1 [.int i,.int j] (.int (if j=0 then 0 else arI (fdI i j))):=by
 by_cases h:j=0
 .subst h;exact .of (v:=Xr) rfl rfl (.yes () ())
 .rw[ar h]
  exact .of (v:=Xr) rfl rfl (.no (.cmp () () λ_=>av aa (aI h)) (.ret (.call1 (.fdv () () h a) Y7)))
def Zd7(a:Sm j):C (rT (n+1)) s 2 [.int i,.int j] (.int (if j=0 then i else i - j * fdI i j)):=by
 by_cases h:j=0
 .subst h;exact .of (v:=Yz) rfl rfl (.yes () ())
 .rw[ar h]
  refine .of (v:=Yz) rfl rfl (.no (.cmp () () λ_=>av aa (aI h)) (.ret (.sub () (.bi (i:=j) (j:=fdI i j) () (.fdv () () h a) ?_))))
  show(if ZT j||ZT (fdI i j) then aa (j * fdI i j) else ab)=_
  rw[Qe a];rfl
def Y.eqs{x y:Str}(d:Y F s a U (.str x))(c:Y F s b U (.str y)):Y F s (.e a b) U (.bl (ak (x=y))):=.cmp d c λ_=>rfl
def R.pick{k:Bool}{q p:CS}(h:Y F s e U (.bl k))(b:k=ae->R F s p U d)(a:k=af->R F s q U d):R F s (.seq (.ite e p .skip) q) U d:=by
 cases k
 .exact .no h (a rfl)
 .exact .yB h (b rfl)
def Zgv(hi:Sm i)(c:Sm j):C (rT (n+3)) s 3 [.int i,.str g,.int j] (.int (rkI i g j)):=by
 unfold rkI;refine .of (v:=WC) rfl rfl (.pick (.eqs () ()) (λh=>?_) λh=>.pick (.eqs () ()) (λa=>?_) λa=>.pick (.eqs () ()) (λb=>?_) λb=>.pick (.eqs () ()) (λd=>?_) λd=>?_)
 .rw[aq (ao h)];exact .ret (.call1 (.add () ()) Y7)
 .rw[ar (am h),aq (ao a)];exact .ret (.call1 (.sub () ()) Y7)
 .rw[ar (am h),ar (am a),aq (ao b)];exact .ret (.call1 (.mul () () (Qe c)) Y7)
 .rw[ar (am h),ar (am a),ar (am b),aq (ao d)];exact .ret (.call (xs:=[.int i,.int j]) () (Zfq c))
 .rw[ar (am h),ar (am a),ar (am b),ar (am d)];exact .ret (.call (xs:=[.int i,.int j]) () (Zd7 c))
def Zgw:C (rT (n+1)) s 4 [.int i,.str g,.int j] (.bl (soI i g j)):=by
 unfold soI;refine .of (v:=Vz) rfl rfl (.pick (.eqs () ()) (λh=>?_) λh=>.pick (.eqs () ()) (λa=>?_) λa=>.pick (.eqs () ()) (λb=>?_) λb=>.pick (.eqs () ()) (λc=>?_) λc=>.pick (.eqs () ()) (λd=>?_) λd=>?_)
 .rw[aq (ao h)];exact .ret ()
 .rw[ar (am h),aq (ao a)];exact .ret ()
 .rw[ar (am h),ar (am a),aq (ao b)];exact .ret ()
 .rw[ar (am h),ar (am a),ar (am b),aq (ao c)];exact .ret ()
 .rw[ar (am h),ar (am a),ar (am b),ar (am c),aq (ao d)];exact .ret ()
 .rw[ar (am h),ar (am a),ar (am b),ar (am c),ar (am d)];exact .ret ()
def Zgs{i:Nat}(a:Vs m vs)(h:i < m):(inZ vs)[i]?=aa (.int (woI vs (.nm i))):=by
 have b:=a.l;unfold inZ;rw[aV,Lg ∅]
 show aa (D.int vs[i])=aa (D.int (vs.getD i 0));rw[aP,Lg ∅];rfl
def US(a:Vs m vs)(h:Vw m o):Sm (woI vs o):=by
 cases o with
 |nm i=>
  have b:=a.l;have hi:i < m:=h;show Sm (vs.getD i 0);rw[aP,Lg ∅]
  exact a.s _ (bN _)
 |nu v=>exact h
end
def pgD(a:D)(m:Nat)(rs:Li Rw):D:=.tup [a,.int (m:Int),.tup (rs.map rwE)]
def stD(k:Nat)(vs:Li Int):D:=.tup [.int (k:Int),.tup (inZ vs)]
noncomputable def noD:D:=.tup [.str "none"]
noncomputable def laD:D:=.tup [.str "late"]
noncomputable def teD(v:Int):D:=.tup [.str "told",.int v]
def vsN(vs:Li Int):Rw->Li Int
 |.put x y g z=>vs.set x (rkI (woI vs y) g (woI vs z))
 |_=>vs
def pkN(k:Nat)(vs:Li Int):Rw->Nat
 |.go t=>t
 |.ifr y g z t=>if soI (woI vs y) g (woI vs z)=ae then t else k+1
 |_=>k+1
def mv(rs:Li Rw)(k:Nat)(vs:Li Int):Sum D (Nat×Li Int):=match rs[k]? with
 |none=>.inl noD
 |some (.tell y)=>.inl (teD (woI vs y))
 |some r=>.inr (pkN k vs r,vsN vs r)
def oc(rs:Li Rw):Nat->Nat->Li Int->D
 |0,k,_=>if rs.length<=k then noD else laD
 |n+1,k,vs=>match mv rs k vs with
  |.inl o=>o
  |.inr p=>oc rs n p.1 p.2
def tl(rs:Li Rw):Nat->Nat->Li Int->Li D
 |0,k,_=>[if rs.length<=k then noD else laD]
 |n+1,k,vs=>match mv rs k vs with
  |.inl o=>[o]
  |.inr p=>stD p.1 p.2 :: tl rs n p.1 p.2
structure Rs(m:Nat)(rs:List Rw):Prop where
 l:rs.length<=50
 ok:∀ r∈rs,RwOk m rs.length r
noncomputable def v0(m:Nat)(ins:Li Int):Li Int:=ins++ag (m - ins.length) 0
variable{tk:D}{k:Nat}{ins:Li Int}{rs:Li Rw}
section
variable{c:CE}
def U4{j:Nat}:sIx w j (aa (i:Int))=Nat.min i w:=by
 show(if (i:Int) < 0 then ((i:Int)+(w:Int)).toNat else Nat.min (i:Int).toNat w)=_
 rw[ar ∅,bH]
def J8(h:i<=xs.length):Y4 xs ab (aa (i:Int))=xs.take i:=by
 unfold Y4;rw[U4,show Nat.min i xs.length=i from cI h];rfl
def J6(h:i<=xs.length):Y4 xs (aa (i:Int)) ab=xs.drop i:=by
 unfold Y4;rw[U4,show Nat.min i xs.length=i from cI h];exact fU (by rw[cD];exact aB _)
def sl_tup{lo:Ot Int}:Yh (.tup xs) lo hi st=aa (.tup (Y4 xs lo hi),st):=by
 show(if sIx xs.length 0 lo=0/\sIx xs.length xs.length hi=xs.length then aa (D.tup xs,st) else aa (.tup (Y4 xs lo hi),st))=_
 split
 .rename_i h
  unfold Y4;rw[h.1,h.2,cJ,Nat.sub_zero,cR]
 .rfl
def Y.tkT(j:Y F s a U (.tup xs))(f:Y F s b U (.int (i:Int)))(h:i<=xs.length):Y F s (.slice a .nop (.part b)) U (.tup (xs.take i)):=λst g=>by
 obtain⟨s1,l,d⟩:=j st g;obtain⟨c,k,e⟩:=f s1 (g.trans d);refine⟨c,?_,d.trans e⟩;show Yl (ev F a) (evC .non) (Zl (ev F b) WT) Yy U st=_;unfold Yl Zl evC;simp only[l,k];show Yh (.tup xs) ab (aa (i:Int)) c=_;rw[sl_tup,J8 h]
def Y.dpT(j:Y F s a U (.tup xs))(f:Y F s b U (.int (i:Int)))(h:i<=xs.length):Y F s (.slice a (.part b) .nop) U (.tup (xs.drop i)):=λst g=>by
 obtain⟨s1,l,d⟩:=j st g;obtain⟨c,k,e⟩:=f s1 (g.trans d);refine⟨c,?_,d.trans e⟩;show Yl (ev F a) (Zl (ev F b) WT) (evC .non) Yy U st=_;unfold Yl Zl evC;simp only[l,k];show Yh (.tup xs) (aa (i:Int)) ab c=_;rw[sl_tup,J6 h]
def Y.adT(d:Y F s a U (.tup xs))(c:Y F s b U (.tup ys))(h:xs.length+ys.length<=100000):Y F s (.p a b) U (.tup (xs++ys)):=g2 d c (gp λst=>by
 show(if Uv .Add=ae/\xs.length+ys.length<=Zg then aa (D.tup (xs++ys),st) else ab)=_
 exact aq ⟨rfl,by unfold Zg;omega⟩)
def Y.rep(e:Y F s a U d)(c:Y F s b U (.int (i:Int)))(h:i<=1000):Y F s (.h (.g (.u a)) b) U (.tup (ag i d)):=g2 (x:=.tup [d]) (.cons e .nil) c (gp λst=>by
 show(if (i:Int)<=1000/\-1000<=(i:Int) then aa (D.tup (ag (i:Int).toNat d),st) else ab)=_
 rw[aq ⟨∅,∅⟩,bH])
def Y.lnT(b:Y F s a U (.tup xs)):Y F s (.len a) U (.int (xs.length:Int)):=g1 b (gp λst=>rfl)
def Vu(h:i < xs.length)(a:xs.length<=1000):C (rT (n+1)) s 42 [.tup xs,.int (i:Int),d] (.tup (xs.set i d)):=by
 rw[show xs.set i d=(xs.take i++[d])++xs.drop (i+1) by rw[aM];exact List.set_eq_take_append_cons_drop.trans (aq h)]
 refine .of (v:=Xz) rfl rfl (.ret (.adT (.adT (.tkT () () ∅) (.cons () .nil) ?_) (.dpT (i:=i+1) () (by rw[cK];exact .add () ()) ∅) ?_))
 .rw[aU];show _+1<=_;omega
 .rw[aG,aU,cD];show _+1+_<=_;omega
def mvD(rs:Li Rw)(k:Nat)(vs:Li Int):D:=match mv rs k vs with
 |.inl o=>o
 |.inr p=>stD p.1 p.2
end
variable{L:Nat}{acc:Li D}
section
variable{c:CE}
def QY(a:Vs m vs)(d:Rs m rs){p:Nat×Li Int}(h:mv rs k vs=.inr p):Vs m p.2:=by
 unfold mv at h;cases q:rs[k]? with
 |none=>rw[q]at h;cases h
 |some r=>
  rw[q]at h;have ok:=d.ok r (aX q);cases r with
  |tell y=>cases h
  |put x y g z=>
   cases h;obtain⟨e,c,f,b⟩:=ok;refine⟨by show(vs.set x _).length=m;rw[bO];exact a.l,λv h=>?_⟩
   rcases gO h with h|h
   .exact a.s v h
   .rw[h];exact Zbp (US a c) (US a b)
  |ifr y g z t=>cases h;exact a
  |go t=>cases h;exact a
  |skip=>cases h;exact a
end
variable{l:Li Nat}
section
variable{c:CE}
def ZbY(h:xs≠[])(a:xs.length<=100000):atD xs (-1)=aa (xs.getLastD .non):=by
 have b:0 < xs.length:=List.length_pos_iff.mpr h;unfold atD ixN;rw[ar #[],aq ∅,Ob,show(-1+(xs.length:Int)).toNat=xs.length - 1 by omega,<-List.getLast?_eq_getElem?,List.getLastD_eq_getLast?]
 cases q:xs.getLast? with
 |none=>exact au (List.getLast?_eq_none_iff.mp q) h
 |some z=>rfl
end
section
variable{c:CE}
theorem Uz{I:Nat->Env->Prop}{body:D->Env->Za->Ot (Fl×Za)}:∀ {xs:Li D} (a:Nat) (U:Env) (st1:Za),(∀ i d U b,xs[i]?=aa d->I (a+i) U->Grw st1 b->∃ c e,body d U b=aa (.nx c,e)/\Grw b e/\I (a+i+1) c)->I a U->∃ c b,Zj body xs U st1=aa (.nx c,b)/\Grw st1 b/\I (a+xs.length) c
 |[],a,U,st1,_,j=>⟨U,st1,rfl,.refl,j⟩
 |x :: xs,a,U,st1,l,j=>by
  obtain⟨h,n,s,k,u⟩:=l 0 x U st1 rfl j .refl;obtain⟨f,m,r,o,t⟩:=Uz (xs:=xs) (a+1) h n (λi d U b q p g=>by
   have:=l (i+1) d U b q (by rw[show a+(i+1)=a+1+i by omega];exact p) (k.trans g)
   rw[show a+(i+1)+1=a+1+i+1 by omega]at this
   exact this) u
  refine⟨f,m,?_,k.trans o,by rw[aY,show a+(xs.length+1)=a+1+xs.length by omega];exact t⟩
  show(match body x U st1 with
   |some (.nx c,st')=>Zj body xs c st'
   |some (.ct c,st')=>Zj body xs c st'
   |some (.bk c,st')=>aa (.nx c,st')
   |some (.rt v,st')=>aa (.rt v,st')
   |none=>ab)=_
  rw[s];exact r
def for_tup(a:ev F e U st=aa (.tup xs,st1)):ex F (.for1 i af e q) U st=Zj (λd U s=>ex F q (Zk U i d) s) xs U st1:=by
 show WF i af (ev F e) (ex F q) U st=_;unfold WF;rw[a];rfl
def QA(t:k<=60):C (rT (n+1)) s 43 [.int (k:Int)] (.int ((2 ^ k:Nat):Int)):=λst g=>by
 obtain⟨w,j,f,m,y,rfl⟩:=Uz (st1:=st) (I:=λi U=>∃ y,U=[jN k,aa (.int ((2 ^ i:Nat):Int)),y]) (body:=λd U s=>ex (rT n) Xv (Zk U 2 d) s) (xs:=(aj k).map λ(k:Nat)=>D.int (k:Int)) 0 [jN k,aa (.int ((2 ^ 0:Nat):Int)),ab] (λi d U c u o g2=>by
  obtain⟨y,rfl⟩:=o;obtain⟨h,p,l⟩:=Y.mul (F:=rT n) (s:=c) (a:=.v 1) (b:=.i 2) (U:=[jN k,aa (.int ((2 ^ (0+i):Nat):Int)),aa d]) () () rfl c .refl;refine⟨_,h,(Zc (Zh p)).trans Zf,l,aa d,?_⟩;rw[show((2 ^ (0+i+1):Nat):Int)=((2 ^ (0+i):Nat):Int) * 2 by rw[Nat.pow_succ,eQ];rfl]
  rfl) ⟨ab,rfl⟩
 have fr:=YX (F:=rT n) (i:=2) (e:=.v 0) (q:=Xv) (U:=[jN k,aa (.int ((2 ^ 0:Nat):Int)),ab]) (st:=st) (v:=(k:Int)) ∅ ∅ rfl
 rw[bH]at fr;rw[aD,bP,bY]at f;exact⟨j,UG (v:=WA) rfl rfl ((Zc (Zh rfl)).trans ((Zc (fr.trans f)).trans (Zn (ZQ rfl)))),m⟩
end
variable{z:Op}{obj:D}
section
variable{c:CE}
def op_eq:eqS st (opE o) (opE z)=aa (ak (o=z)):=by
 cases o with
 |nm i=>cases z with
  |nm j=>
   show aa (ak (S "name"=S "name")&&(ak ((i:Int)=(j:Int))&&ae))=_;rw[aF rfl,fH,dZ];exact av aa (decide_eq_decide.mpr ⟨λh=>by rw[Int.ofNat_inj.mp h],λh=>by cases h;rfl⟩)
  |nu v=>
   show aa (ak (S "name"=S "number")&&(ak ((i:Int)=v)&&ae))=_;rw[show ak (S "name"=S "number")=af by decide +kernel]
   exact av aa (aI λh=>nomatch h).symm
 |nu u=>cases z with
  |nm j=>
   show aa (ak (S "number"=S "name")&&(ak (u=(j:Int))&&ae))=_;rw[show ak (S "number"=S "name")=af by decide +kernel]
   exact av aa (aI λh=>nomatch h).symm
  |nu v=>
   show aa (ak (S "number"=S "number")&&(ak (u=v)&&ae))=_;rw[aF rfl,fH,dZ];exact av aa (decide_eq_decide.mpr ⟨λh=>by rw[h],λh=>by cases h;rfl⟩)
end
variable{i0:Nat}
section
variable{c:CE}{g0:Str}
theorem ZfC{α:Type}{b:α->D}{g:α->Li D}{E:Ot D->Env}(n:∀ y d,Zk (E y) i d=E (aa d))(m:s.length<=j):∀ {l:Li α},(∀ a∈l,Ap F s j q (E (aa (b a))) (E (aa (b a))) (g a))->∀ {y:Ot D}{st:Za}{acc:Li D},Grw s st->st[j]?=aa (ae,acc)->acc.length+(l.flatMap g).length<=90000->∃ e st',Zj (λd U s=>ex F q (Zk U i d) s) (l.map b) (E y) st=aa (.nx (E e),st')/\Kj j st st'/\st'[j]?=aa (ae,acc++l.flatMap g)
 |[],_,y,st,acc,k,f,_=>⟨y,st,rfl,Grw.refl.kj,by rw[List.flatMap_nil,bD];exact f⟩
 |a :: l,h,y,st,acc,k,f,t=>by
  rw[gE,aG]at t;obtain⟨s1,x,g1,r⟩:=h a Ls st acc k f ∅
  obtain⟨e,o,w,g2,p⟩:=ZfC n m (λc u=>h c (Lm _ u)) (y:=aa (b a)) (g1.grw m k) r (by rw[aG];omega)
  refine⟨e,o,?_,g1.trans g2,by rw[gE,<-aM];exact p⟩
  rw[aZ];show(match ex F q (Zk (E y) i (b a)) st with
   |some (.nx U',st')=>Zj _ (l.map b) U' st'
   |some (.ct U',st')=>Zj _ (l.map b) U' st'
   |some (.bk U',st')=>aa (.nx U',st')
   |some (.rt v,st')=>aa (.rt v,st')
   |none=>ab)=_
  rw[n,x];exact w
def Lf(s:Za)(f:Za->Res)(xs:Li D):Prop:=∀ st,Grw s st->∃ st' j,f st=aa (.lst j,st')/\st'[j]?=aa (ae,xs)/\Grw st st'
def Lf.lv{f:Za->Res}(h:Lf s f xs):Lv s f xs:=λst g=>by
 obtain⟨s1,j,c,b,a⟩:=h st g;exact⟨s1,j,ae,c,b,a⟩
def ZeH{b:D->Li (Ot D)}{wk:D->Za->Ot (Li D×(Za->Prop))}{en g:α->D}{l:Li α}(hi:Wk F s it U wk (l.map en))(m:l.length<=1000)(h:∀ a∈l,Y F s elt (Z5 b U fr (en a)) (g a)):Lf s (Y2 b wk fr (ev F it) (ev F elt) (ev F (.c (.bl ae))) U) (l.map g):=λst k=>by
 obtain⟨x,s1,ok,q,e,p,j⟩:=hi st k;obtain⟨f,o,i⟩:=Wj (s:=s1) (ok:=ok) (fe:=λd=>ev F elt (Z5 b U fr d)) (fc:=λd=>ev F (.c (.bl ae)) (Z5 b U fr d)) (λ_ _=>rfl) j (λa n=>Gv.mono (h a n) (k.trans e)) s1 .refl
 refine⟨f++[(ae,l.map g)],_,?_,Zp,(e.trans i).trans .push⟩;unfold Y2;simp only[q,p,aD,aq m,o]
theorem Ap.ext(hi:U[i]?=aa (jL j))(h:Lf s (ev F e U) xs):Ap F s j (.ext i e) U U xs:=λst acc g f n=>by
 obtain⟨s1,q,l,k,a⟩:=h st g;have b:=a.get f;refine⟨s1.set j (ae,acc++xs),?_,⟨λm d c=>?_,by rw[bO];exact a.len⟩,by rw[Wn (Zy b),aq rfl]⟩
 .show Zaf i (ev F e) U st=_
  unfold Zaf Zeu;simp only[hi,l,b,k];rw[aq (by unfold Zg;omega)]
 .rw[Wn (Zy b),ar (Ne.symm c)]
  exact a.old m d
def R.gather{l:Li α}{en:α->D}{g:α->Li D}{E:Ot D->Nat->Env}(w:∀ j,Zk U i0 (.lst j)=E ab j)(t:∀ y j d,Zk (E y j) i d=E (aa d) j)(n:∀ y j,(E y j)[i0]?=aa (jL j))(p:∀ j,Y F s e (E ab j) (.tup (l.map en)))(r:∀ j,s.length<=j->∀ a∈l,Ap F s j q (E (aa (en a)) j) (E (aa (en a)) j) (g a))(o:(l.flatMap g).length<=90000):R F s (.y i0 (.lstE .aN) (.seq (.for1 i af e q) (.q (.tOf (.v i0))))) U (.tup (l.flatMap g)):=λst b=>by
 obtain⟨s1,z,f⟩:=p st.length (st++[(ae,[])]) (b.trans .push);obtain⟨A,h,x,m,u⟩:=ZfC (i:=i) (E:=λy=>E y st.length) (λy d=>t y st.length d) b.len (r st.length b.len) (y:=ab) ((b.trans .push).trans f) (f.get Zp) (by rw[dD,bY];exact o)
 refine⟨h,?_,(f.kj.trans m).grw (aB _) .push⟩;have k:ex F (.set i0 (.lstE .aN)) U st=aa (.nx (E ab st.length),st++[(ae,[])]):=by rw[<-w];exact Zh rfl
 exact(Zc k).trans ((Zc ((for_tup z).trans x)).trans (Zn (ZQ (VB (c:=(ae,[]++l.flatMap g)) (by show Z4 i0 _ _=_;unfold Z4;rw[n]) u))))
end
structure Stp where
 c:Nat
 t:Nat
 v:Nat
 w:Str
 f:Rw->List Rw
section
variable{c:CE}
end
mutual
theorem Zel:∀ {x y:D},Zx x y=ae->x=y
 |.non,.non,_=>rfl
 |.bl a,.bl b,h=>by have h:(a==b)=ae:=h;rw[eq_of_beq h]
 |.int a,.int b,h=>by rw[ao (p:=a=b) h]
 |.str a,.str b,h=>by rw[ao (p:=a=b) h]
 |.tup a,.tup b,h=>by rw[Wh (xs:=a) (ys:=b) h]
theorem Wh:∀ {xs ys:Li D},Zt xs ys=ae->xs=ys
 |[],[],_=>rfl
 |x :: xs,y :: ys,h=>by
  have h:(Zx x y&&Zt xs ys)=ae:=h;rw[Ba]at h;rw[Zel h.1,Wh h.2]
end
variable{xs:Li D}
def ZA{a b:Str}{ys:Li D}(h:D.tup (.str a :: xs)=.tup (.str b :: ys)):a=b:=by injection h with h;injection h with h _;injection h
def Xm{o z:Op}(h:opE o=opE z):o=z:=by
 cases o with
 |nm i=>cases z with
  |nm j=>
   have h:D.tup [.str "name",.int (i:Int)]=.tup [.str "name",.int (j:Int)]:=h
   injection h with h;injection h with _ h;injection h with h _;injection h with h;rw[Int.ofNat.inj h]
  |nu v=>exact au (ZA h) (by decide +kernel)
 |nu u=>cases z with
  |nm j=>exact au (ZA h) (by decide +kernel)
  |nu v=>
   have h:D.tup [.str "number",.int u]=.tup [.str "number",.int v]:=h
   injection h with h;injection h with _ h;injection h with h _;injection h with h;rw[h]
def Zbt{r q:Rw}(h:rwE r=rwE q):r=q:=by
 have B:S "put"≠S "if"/\S "put"≠S "go"/\S "put"≠S "tell"/\S "put"≠S "skip"/\S "if"≠S "go"/\S "if"≠S "tell"/\S "if"≠S "skip"/\S "go"≠S "tell"/\S "go"≠S "skip"/\S "tell"≠S "skip":=by decide +kernel
 obtain⟨w,v,u,s,p,o,n,m,l,f⟩:=B;cases r with
 |put x y g z=>cases q with
  |put A a k i=>
   have h:D.tup [.str "put",.int (x:Int),opE y,.str g,opE z]=.tup [.str "put",.int (A:Int),opE a,.str k,opE i]:=h
   injection h with h;injection h with _ h;injection h with e h;injection h with d h;injection h with c h;injection h with b _;injection e with e;injection c with c
   rw[Int.ofNat.inj e,Xm d,c,Xm b]
  |ifr _ _ _ _=>exact au (ZA h) w
  |go _=>exact au (ZA h) v
  |tell _=>exact au (ZA h) u
  |skip=>exact au (ZA h) s
 |ifr y g z t=>cases q with
  |put _ _ _ _=>exact au (ZA h) w.symm
  |ifr a k i j=>
   have h:D.tup [.str "if",opE y,.str g,opE z,.int (t:Int)]=.tup [.str "if",opE a,.str k,opE i,.int (j:Int)]:=h
   injection h with h;injection h with _ h;injection h with e h;injection h with d h;injection h with c h;injection h with b _;injection b with b;injection d with d
   rw[Xm e,d,Xm c,Int.ofNat.inj b]
  |go _=>exact au (ZA h) p
  |tell _=>exact au (ZA h) o
  |skip=>exact au (ZA h) n
 |go t=>cases q with
  |put _ _ _ _=>exact au (ZA h) v.symm
  |ifr _ _ _ _=>exact au (ZA h) p.symm
  |go j=>
   have h:D.tup [.str "go",.int (t:Int)]=.tup [.str "go",.int (j:Int)]:=h
   injection h with h;injection h with _ h;injection h with h _;injection h with h;rw[Int.ofNat.inj h]
  |tell _=>exact au (ZA h) m
  |skip=>exact au (ZA h) l
 |tell y=>cases q with
  |put _ _ _ _=>exact au (ZA h) u.symm
  |ifr _ _ _ _=>exact au (ZA h) o.symm
  |go _=>exact au (ZA h) m.symm
  |tell a=>
   have h:D.tup [.str "tell",opE y]=.tup [.str "tell",opE a]:=h
   injection h with h;injection h with _ h;injection h with h _;rw[Xm h]
  |skip=>exact au (ZA h) f
 |skip=>cases q with
  |put _ _ _ _=>exact au (ZA h) s.symm
  |ifr _ _ _ _=>exact au (ZA h) n.symm
  |go _=>exact au (ZA h) l.symm
  |tell _=>exact au (ZA h) f.symm
  |skip=>rfl
mutual
theorem Zem:∀ {n:Nat}{x:D},okD n x=ae->Zx x x=ae
 |_,.non,_=>rfl
 |_,.int i,_=>aF rfl
 |_,.str i,_=>aF rfl
 |n+1,.tup xs,h=>Wi (n:=n) (xs:=xs) h
 |0,.tup xs,h=>nomatch h
 |0,.bl _,h=>nomatch h
 |_+1,.bl _,h=>nomatch h
 |0,.lst _,h=>nomatch h
 |_+1,.lst _,h=>nomatch h
 |0,.dic _,h=>nomatch h
 |_+1,.dic _,h=>nomatch h
 |0,.dct _ _,h=>nomatch h
 |_+1,.dct _ _,h=>nomatch h
 |0,.obj _,h=>nomatch h
 |_+1,.obj _,h=>nomatch h
 |0,.kt _,h=>nomatch h
 |_+1,.kt _,h=>nomatch h
theorem Wi:∀ {n:Nat}{xs:Li D},Yo n xs=ae->Zt xs xs=ae
 |_,[],_=>rfl
 |n,x :: xs,h=>by
  have h:(okD n x&&Yo n xs)=ae:=h;rw[Ba]at h;show(Zx x x&&Zt xs xs)=ae;rw[Zem h.1,Wi h.2];rfl
end
def Za5(o:Op):∃ a,opE o=.tup a/\okD 8 (.tup a)=ae:=by cases o<;>exact⟨_,rfl,rfl⟩
def Qo(r:Rw):∃ a,rwE r=.tup a/\okD 8 (.tup a)=ae:=by
 cases r with
 |put x y g z=>exact⟨_,rfl,by cases y<;>cases z<;>rfl⟩
 |ifr y g z t=>exact⟨_,rfl,by cases y<;>cases z<;>rfl⟩
 |go t=>exact⟨_,rfl,rfl⟩
 |tell y=>exact⟨_,rfl,by cases y<;>rfl⟩
 |skip=>exact⟨_,rfl,rfl⟩
def Y.eqd(d:Y F s a U (.tup xs))(c:Y F s b U (.tup ys))(g:okD 8 (.tup xs)=ae)(f:okD 8 (.tup ys)=ae):Y F s (.e a b) U (.bl (Zt xs ys)):=.cmp d c λst=>by
 have e:eqT xs (.tup ys)=aa (Zt xs ys):=aq (by rw[g,f];rfl)
 show(match eqT xs (.tup ys) with
  |some k=>aa k
  |none=>Zba st xs ys)=_
 rw[e]
open Classical in
def Wy(a:okD 8 (.tup xs)=ae):Zt xs ys=ak (xs=ys):=by
 by_cases c:xs=ys
 .subst c;rw[aF rfl];exact Wi (n:=7) a
 .rw[aI c]
  cases q:Zt xs ys with
  |false=>rfl
  |true=>exact au (Wh q) c
def rv(k:Nat)(vs:Li Int):Rw->Sum D (Nat×Li Int)
 |.tell y=>.inl (teD (woI vs y))
 |r=>.inr (pkN k vs r,vsN vs r)
def ZdO(h:rs[k]?=aa r):mv rs k vs=rv k vs r:=by unfold mv;rw[h];cases r<;>rfl
def Als(m j:Nat)(r a:Rw):Prop:=∀ vs,Vs m vs->rv j vs a=rv j vs r
variable{v:Int}
section
variable{a b:Int}{x:Nat}
def V5(h:Sm a):arI a=a:=by unfold Sm at h;unfold arI;omega
def Zej:arI (a+arI (-b))=arI (a - b):=by unfold arI;omega
def Xo:rkI a (S "+") b=arI (a+b):=aq rfl
def Zbq:rkI a (S "-") b=arI (a - b):=by
 unfold rkI;rw[ar (by decide +kernel),aq rfl]
def VW:rkI a (S "*") b=arI (a * b):=by
 unfold rkI;rw[ar (by decide +kernel),ar (by decide +kernel),aq rfl]
def ZeX:rkI a (S "/") b=if b=0 then 0 else arI (fdI a b):=by
 unfold rkI;rw[ar (by decide +kernel),ar (by decide +kernel),ar (by decide +kernel),aq rfl]
def ZeY:rkI a (S "mod") b=if b=0 then a else a - b * fdI a b:=by
 unfold rkI;rw[ar (by decide +kernel),ar (by decide +kernel),ar (by decide +kernel),ar (by decide +kernel)]
def Zag:fdI a 1=a:=by unfold fdI;rw[aq #[],Int.ediv_one]
def Zfe(a:Vs m vs)(b:x < m)(h:v=woI vs (.nm x)):vs.set x v=vs:=by
 have c:=a.l;subst h;show vs.set x (vs.getD x 0)=vs;rw[aP,Lg ∅,fE,List.set_getElem_self]
def ZbD:soI a (S "<") b=ak (a < b):=aq rfl
def ZbC:soI a (S "<=") b=ak (a<=b):=by
 unfold soI;rw[ar (by decide +kernel),aq rfl]
def ZdX:soI a (S "=") b=ak (a=b):=by
 unfold soI;rw[ar (by decide +kernel),ar (by decide +kernel),aq rfl]
def Zgh:soI a (S ">=") b=ak (b<=a):=by
 unfold soI;rw[ar (by decide +kernel),ar (by decide +kernel),ar (by decide +kernel),aq rfl]
def Zgi:soI a (S ">") b=ak (b < a):=by
 unfold soI;rw[ar (by decide +kernel),ar (by decide +kernel),ar (by decide +kernel),ar (by decide +kernel),aq rfl]
def ZdY:soI a (S "!=") b=!decide (a=b):=by
 unfold soI;rw[ar (by decide +kernel),ar (by decide +kernel),ar (by decide +kernel),ar (by decide +kernel),ar (by decide +kernel)]
def Zdl:soI a g a=soI b g b:=by
 unfold soI;rw[aI (Int.lt_irrefl a),aI (Int.lt_irrefl b),aF (Int.le_refl a),aF (Int.le_refl b),aF (rfl:a=a),aF (rfl:b=b)]
end
def RX(c:Nat)(q:CS)(U:Env)(P:D->Prop):Prop:=∃ d,(∀ n s,R (rT (n+c)) s q U d)/\P d
def CX(c f:Nat)(ds:Li D)(P:D->Prop):Prop:=∃ d,(∀ n s,C (rT (n+c)) s f ds d)/\P d
variable{P:D->Prop}
section
variable{c':Nat}{k:Bool}{Q:D->Prop}
theorem CX.of{v:FD}(h:T f=aa v)(b:ds.length=v.ps)(a:RX c v.body (ds.map aa++ag (v.ns - ds.length) ab) P):CX (c+1) f ds P:=by
 obtain⟨d,g,e⟩:=a;exact⟨d,λn s=>.of h b (g n s),e⟩
def RX.pick(h:∀ n s,Y (rT (n+c)) s e U (.bl k))(g:k=ae->RX c p U P)(f:k=af->RX c q U P):RX c (.seq (.ite e p .skip) q) U P:=by
 cases k with
 |true=>obtain⟨d,a,b⟩:=g rfl;exact⟨d,λn s=>.yB (h n s) (a n s),b⟩
 |false=>obtain⟨d,a,b⟩:=f rfl;exact⟨d,λn s=>.no (h n s) (a n s),b⟩
theorem RX.ret(h:∀ n s,Y (rT (n+c)) s e U d)(a:P d):RX c (.seq (.ret e) q) U P:=⟨d,λn s=>.ret (h n s),a⟩
theorem RX.set(h:∀ n s,Y (rT (n+c)) s e U d)(f:RX c q (Zk U i d) P):RX c (.y i e q) U P:=by
 obtain⟨d,a,b⟩:=f;exact⟨d,λn s=>.set (h n s) (a n s),b⟩
def CX.mono(h:CX c f ds P)(e:∀ d,P d->Q d):CX c f ds Q:=let ⟨d,a,b⟩:=h;⟨d,a,e d b⟩
def CX.up(h:CX c' f ds P)(e:c'<=c):CX c f ds P:=let ⟨d,a,b⟩:=h;⟨d,λn s=>by have:=a (n+(c - c')) s;rwa [show n+(c - c')+c'=n+c by omega]at this,b⟩
def RX.retC(g:∀ n s,Y (rT (n+c)) s a U (.tup xs))(h:CX c' f (xs++ds) P)(e:c'<=c:=by decide):RX c (.seq (.ret (.call f a ds)) q) U P:=by
 obtain⟨d,a,b⟩:=h.up e;exact .ret (λn s=>.call (g n s) (a n s)) b
def RX.setC(j:∀ n s,Y (rT (n+c)) s a U (.tup xs))(h:CX c' f (xs++ds) P)(e:∀ d,P d->RX c q (Zk U i d) Q)(g:c'<=c:=by decide):RX c (.y i (.call f a ds) q) U Q:=by
 obtain⟨d,a,b⟩:=h.up g;exact .set (λn s=>.call (j n s) (a n s)) (e d b)
def RX.iset{e':CE}(h:∀ n s,Y (rT (n+c)) s e U (.bl k))(t:k=ae->∃ d,(∀ n s,Y (rT (n+c)) s e' U d)/\RX c q (Zk U i d) P)(r:k=af->RX c q U P):RX c (.seq (.ite e (.z (.set i e')) .skip) q) U P:=by
 cases k with
 |true=>
  obtain⟨x,p,d,a,b⟩:=t rfl;refine⟨d,λn s st g=>?_,b⟩
  obtain⟨s1,w,f⟩:=h n s st g;obtain⟨m,v,j⟩:=p n s s1 (g.trans f);obtain⟨l,u,o⟩:=a n s m (g.trans (f.trans j));exact⟨l,(Zc ((ZL w).trans ((Zc (Zh v)).trans Zf))).trans u,f.trans (j.trans o)⟩
 |false=>obtain⟨d,a,b⟩:=r rfl;exact⟨d,λn s=>.no (h n s) (a n s),b⟩
end
noncomputable def Uw:Op->Bool
 |.nm _=>af
 |.nu _=>ae
variable{g:Str}
section
variable{k:Bool}{Q:D->Prop}
def Y.eqo{u:Op}(f:∀ s,Y F s a U (opE o))(d:∀ s,Y F s b U (opE u)):∀ s,Y F s (.e a b) U (.bl (ak (o=u))):=λs=>by
 obtain⟨xs,c,i⟩:=Za5 o;obtain⟨ys,g,j⟩:=Za5 u;have e:ak (o=u)=Zt xs ys:=by
  rw[Wy i];refine decide_eq_decide.mpr ⟨λh=>?_,λh=>Xm (by rw[c,g,h])⟩
  rw[h,g]at c;injection c with c;exact c.symm
 have f:=f s;have d:=d s;rw[c]at f;rw[g]at d;rw[e];exact .eqd f d i j
def Y.eqr{o u:Rw}(f:∀ s,Y F s a U (rwE o))(d:∀ s,Y F s b U (rwE u)):∀ s,Y F s (.e a b) U (.bl (ak (o=u))):=λs=>by
 obtain⟨xs,c,i⟩:=Qo o;obtain⟨ys,g,j⟩:=Qo u;have e:ak (o=u)=Zt xs ys:=by
  rw[Wy i];refine decide_eq_decide.mpr ⟨λh=>?_,λh=>Zbt (by rw[c,g,h])⟩
  rw[h,g]at c;injection c with c;exact c.symm
 have f:=f s;have d:=d s;rw[c]at f;rw[g]at d;rw[e];exact .eqd f d i j
def IsPut(m sz:Nat)(r:Rw)(d:D):Prop:=∃ x y g z,d=rwE (.put x y g z)/\RwOk m sz (.put x y g z)/\∀ vs,Vs m vs->vsN vs (.put x y g z)=vsN vs r
def IsIf(m sz:Nat)(r:Rw)(d:D):Prop:=∃ y g z t,d=rwE (.ifr y g z t)/\RwOk m sz (.ifr y g z t)/\∀ vs j,Vs m vs->pkN j vs (.ifr y g z t)=pkN j vs r
def IsRw(m sz j:Nat)(r:Rw)(d:D):Prop:=∃ a,d=rwE a/\RwOk m sz a/\Als m j r a
def JI(y z:Op):C (rT (n+1)) s 73 [opE y,opE z] (.bl (Uw y&&Uw z)):=by
 cases y<;>cases z<;>exact .of (v:=YG) rfl rfl (.ret ())
def ZdK(o u:Op):∃ k,∀ st,J4 .Lt (opE o) (opE u) st=aa k:=by
 have a:∀ (i j:Int),∃ k:Bool,(if Zx (.int i) (.int j)=ae then aa (ak (0 < ([]:Li D).length)) else aa (ak (i < j)))=aa k:=λi j=>by
  split<;>exact⟨_,rfl⟩
 cases o<;>cases u
 .rename_i i j
  obtain⟨k,h⟩:=a i j;exact⟨k,λst=>h⟩
 .exact⟨_,λst=>rfl⟩
 .exact⟨_,λst=>rfl⟩
 .rename_i i j
  obtain⟨k,h⟩:=a i j;exact⟨k,λst=>h⟩
def ZbS{x:Nat}{y z:Op}(h:RwOk m sz (.put x y g z)):CX 2 75 [rwE (.put x y g z)] (IsPut m sz (.put x y g z)):=by
 obtain⟨b,a,e,c⟩:=h;have same:IsPut m sz (.put x y g z) (rwE (.put x y g z)):=⟨x,y,g,z,rfl,⟨b,a,e,c⟩,λ_ _=>rfl⟩
 cases z with
 |nm j=>exact .of (v:=Z7) rfl rfl (.pick (k:=ak (g=S "-")&&af) (λn s=>.and (.eqs () ()) λ_=>.r rf) (λq=>by rw[Bool.and_false]at q;cases q) λ_=>.ret (λn s=>.r rf) same)
 |nu v=>
  refine .of (v:=Z7) rfl rfl (.pick (k:=ak (g=S "-")&&ae) (λn s=>.and (.eqs () ()) λ_=>.r rf) (λq=>?_) λ_=>.ret (λn s=>.r rf) same)
  rw[dZ]at q;have q:=ao q;refine .ret (λn s=>.adT (xs:=[.str "put",.int (x:Int),opE y]) (.tkT (i:=3) (xs:=[.str "put",.int (x:Int),opE y,.str g,opE (.nu v)]) () () (show 3<=5 by decide)) (.cons () (.cons (.cons () (.cons (.call1 (g1 (.ixt (j:=1) (xs:=[.str "number",.int v]) () () rfl) (d:=.int (-v)) (gp λ_=>rfl)) Y7) .nil)) .nil)) (show 3+2<=100000 by decide)) ⟨x,y,S "+",.nu (arI (-v)),rfl,⟨b,a,#[],V6⟩,λvs _=>?_⟩
  subst q;show vs.set x (rkI (woI vs y) (S "+") (arI (-v)))=vs.set x (rkI (woI vs y) (S "-") v);rw[Xo,Zbq,Zej]
end
section
variable{k:Bool}{Q:D->Prop}
def Zft{x:Nat}{y z:Op}(h:RwOk m sz (.put x y g z))(f:g=S "+"\/g=S "*"):CX 2 74 [rwE (.put x y g z),.int 2,.int 4] (IsPut m sz (.put x y g z)):=by
 obtain⟨c,b,d,a⟩:=h;obtain⟨k,e⟩:=ZdK z y;refine .of (v:=Z8) rfl rfl (.pick (k:=k) (λn s=>.cmp (x:=opE z) (y:=opE y) () () e) (λ_=>?_) λ_=>.ret (λn s=>.r rf) ⟨x,y,g,z,rfl,⟨c,b,d,a⟩,λ_ _=>rfl⟩)
 refine .ret (λn s=>.call (xs:=[.tup [.str "put",.int (x:Int),opE z,.str g,opE z],.int 4,opE y]) (.cons (.call (xs:=[rwE (.put x y g z),.int 2,opE z]) () (Vu (xs:=[.str "put",.int (x:Int),opE y,.str g,opE z]) (i:=2) (show 2 < 5 by decide) (show 5<=1000 by decide))) (.cons () (.cons () .nil))) (Vu (xs:=[.str "put",.int (x:Int),opE z,.str g,opE z]) (i:=4) (show 4 < 5 by decide) (show 5<=1000 by decide))) ⟨x,z,g,y,rfl,⟨c,a,d,b⟩,λvs _=>?_⟩
 show vs.set x (rkI (woI vs z) g (woI vs y))=vs.set x (rkI (woI vs y) g (woI vs z));rcases f with rfl|rfl
 .rw[Xo,Xo,Int.add_comm]
 .rw[VW,VW,Int.mul_comm]
def Zfs{t:Nat}{y z:Op}(h:RwOk m sz (.ifr y g z t))(f:g=S "="\/g=S "!="):CX 2 74 [rwE (.ifr y g z t),.int 1,.int 3] (IsIf m sz (.ifr y g z t)):=by
 obtain⟨b,d,a,c⟩:=h;obtain⟨k,e⟩:=ZdK z y;refine .of (v:=Z8) rfl rfl (.pick (k:=k) (λn s=>.cmp (x:=opE z) (y:=opE y) () () e) (λ_=>?_) λ_=>.ret (λn s=>.r rf) ⟨y,g,z,t,rfl,⟨b,d,a,c⟩,λ_ _ _=>rfl⟩)
 refine .ret (λn s=>.call (xs:=[.tup [.str "if",opE z,.str g,opE z,.int (t:Int)],.int 3,opE y]) (.cons (.call (xs:=[rwE (.ifr y g z t),.int 1,opE z]) () (Vu (xs:=[.str "if",opE y,.str g,opE z,.int (t:Int)]) (i:=1) (show 1 < 5 by decide) (show 5<=1000 by decide))) (.cons () (.cons () .nil))) (Vu (xs:=[.str "if",opE z,.str g,opE z,.int (t:Int)]) (i:=3) (show 3 < 5 by decide) (show 5<=1000 by decide))) ⟨z,g,y,t,rfl,⟨a,d,b,c⟩,λvs j _=>?_⟩
 show(if soI (woI vs z) g (woI vs y)=ae then t else j+1)=if soI (woI vs y) g (woI vs z)=ae then t else j+1
 rcases f with rfl|rfl
 .rw[ZdX,ZdX,decide_eq_decide.mpr ⟨ax,ax⟩]
 .rw[ZdY,ZdY,decide_eq_decide.mpr ⟨ax,ax⟩]
def Zfy{x:Nat}{y z:Op}(h:RwOk m sz (.put x y g z)):CX 2 76 [rwE (.put x y g z)] (IsPut m sz (.put x y g z)):=by
 obtain⟨a,c,f,e⟩:=h;refine .of (v:=ZS) rfl rfl (.set (d:=opE y) (λn s=>.r rf) (.set (d:=.str g) (λn s=>.r rf) (.set (d:=opE z) (λn s=>.r rf) (.pick (k:=(ak (g=S "*")&&ak (z=.nu 0))||((ak (g=S "mod")&&ak (z=.nu 1))||(ak (g=S "-")&&ak (y=z)))) (λn s=>.or (.and (.eqs () ()) λ_=>Y.eqo (o:=z) (u:=.nu 0) (λs=>.r rf) (λs=>.r rf) s) λ_=>.or (.and (.eqs () ()) λ_=>Y.eqo (o:=z) (u:=.nu 1) (λs=>.r rf) (λs=>.r rf) s) λ_=>.and (.eqs () ()) λ_=>Y.eqo (o:=y) (u:=z) (λs=>.r rf) (λs=>.r rf) s) (λq=>?_) λ_=>.pick (k:=(ak (S "*"=g)||(ak (S "/"=g)||false))&&ak (z=.nu 1)) (λn s=>.and (.cmp (x:=.str g) () () λst=>rfl) λ_=>Y.eqo (o:=z) (u:=.nu 1) (λs=>.r rf) (λs=>.r rf) s) (λq=>?_) λ_=>.ret (λn s=>.r rf) ⟨x,y,g,z,rfl,⟨a,c,f,e⟩,λ_ _=>rfl⟩))))
 .refine .ret (λn s=>.r rf) ⟨x,.nu 0,S "+",.nu 0,rfl,⟨a,⟨#[],#[]⟩,#[],⟨#[],#[]⟩⟩,λvs _=>?_⟩
  show vs.set x (rkI 0 (S "+") 0)=vs.set x (rkI (woI vs y) g (woI vs z));have b:rkI 0 (S "+") 0=0:=Xo;rw[cB,cB,Ba,Ba,Ba,aO,aO,aO,aO,aO,aO]at q;rcases q with⟨rfl,rfl⟩|⟨rfl,rfl⟩|⟨rfl,rfl⟩
  .rw[b,VW]
   show vs.set x 0=vs.set x (arI (_ * 0));rw[Int.mul_zero];rfl
  .rw[b,ZeY]
   show vs.set x 0=vs.set x (if (1:Int)=0 then _ else _ - 1 * fdI _ 1);rw[ar #[],Zag,Int.one_mul,Int.sub_self]
  .rw[b,Zbq,Int.sub_self];rfl
 .refine .ret (λn s=>.r rf) ⟨x,y,S "+",.nu 0,rfl,⟨a,c,#[],⟨#[],#[]⟩⟩,λvs _=>?_⟩
  show vs.set x (rkI (woI vs y) (S "+") 0)=vs.set x (rkI (woI vs y) g (woI vs z));rw[dO,Ba,cB,aO,aO,aO]at q;rcases q with⟨rfl|rfl,rfl⟩
  .rw[Xo,VW,Int.add_zero]
   show _=vs.set x (arI (_ * 1));rw[Int.mul_one]
  .rw[Xo,ZeX,Int.add_zero]
   show _=vs.set x (if (1:Int)=0 then 0 else arI (fdI _ 1));rw[ar #[],Zag]
def IsPut.rw{x j:Nat}{y z:Op}(h:IsPut m sz (.put x y g z) d):IsRw m sz j (.put x y g z) d:=let ⟨_,_,_,_,a,b,c⟩:=h;⟨_,a,b,λvs e=>av (λw=>Sum.inr (j+1,w)) (c vs e)⟩
def IsIf.rw{t j:Nat}{y z:Op}(h:IsIf m sz (.ifr y g z t) d):IsRw m sz j (.ifr y g z t) d:=let ⟨_,_,_,_,a,b,c⟩:=h;⟨_,a,b,λvs e=>av (λw=>Sum.inr (w,vs)) (c vs j e)⟩
def IsRw.tr{j:Nat}{e:Rw}(h:IsRw m sz j e d)(g:Als m j r e):IsRw m sz j r d:=let ⟨_,a,b,c⟩:=h;⟨_,a,b,λvs f=>(c vs f).trans (g vs f)⟩
def Zd8{x j:Nat}{y z:Op}(h:RwOk m sz (.put x y g z)):CX 4 77 [rwE (.put x y g z)] (IsRw m sz j (.put x y g z)):=by
 have A:∀ {x:Nat}{y z:Op}{g:Str},RwOk m sz (.put x y g z)->RX 3 (.y 0 (.f 76 (.s 0))
 (.seq (.ite (.e (.v 0) (.g (.aC (.t "put") (.aC (.x 0 1) (.aC (.g (.aC (.t "name") (.u (.x 0 1)))) (.aC (.t "+") (.u (.c (.tup [(.str "number"),(.int 0)]))))))))) (.q (.c (.tup [(.str "skip")]))) .skip)
 (.q (.v 0)))) [aa (rwE (.put x y g z))] (IsRw m sz j (.put x y g z)):=λ{x y z g} h=>by
  refine .setC (xs:=[rwE (.put x y g z)]) (λn s=>.r rf) (Zfy h) λd ⟨l,E,g2,C,M,J,T⟩=>?_
  subst M;have B:Als m j (.put x y g z) (.put l E g2 C):=λvs p=>av (λw=>Sum.inr (j+1,w)) (T vs p)
  refine .pick (k:=ak (Rw.put l E g2 C=.put l (.nm l) (S "+") (.nu 0))) (λn s=>Y.eqr (o:=.put l E g2 C) (u:=.put l (.nm l) (S "+") (.nu 0)) (λs=>.r rf) (λs=>.r rf) s) (λq=>?_) λ_=>.ret (λn s=>.r rf) ⟨_,rfl,J,B⟩
  refine .ret (λn s=>.r rf) ⟨.skip,rfl,trivial,λvs p=>(B vs p).symm.symm ▸ ?_⟩
  rw[ao q];show Sum.inr (j+1,vs)=Sum.inr (j+1,vs.set l (rkI (woI vs (.nm l)) (S "+") 0));rw[Xo,Int.add_zero,V5 (US (o:=.nm l) p J.1),Zfe p J.1 rfl]
 have W:=h;obtain⟨V,I,hg,H⟩:=W;refine .of (v:=Xy) rfl rfl (.pick (k:=Uw y&&Uw z) (λn s=>.call (xs:=[opE y,opE z]) () (JI y z)) (λq=>?_) λ_=>?_)
 .cases y with
  |nm _=>cases q
  |nu a=>cases z with
   |nm _=>cases q
   |nu b=>
    refine .ret (λn s=>.cons () (.cons () (.cons (.cons () (.cons (.call (xs:=[.int a,.str g,.int b]) () (Zgv I H)) .nil)) (.cons () (.cons () .nil))))) ⟨.put x (.nu (rkI a g b)) (S "+") (.nu 0),rfl,⟨V,Zbp I H,#[],⟨#[],#[]⟩⟩,λvs _=>?_⟩
    show Sum.inr (j+1,vs.set x (rkI (rkI a g b) (S "+") 0))=Sum.inr (j+1,vs.set x (rkI a g b));rw[Xo,Int.add_zero,V5 (Zbp I H)]
 .refine .setC (xs:=[rwE (.put x y g z)]) (λn s=>.r rf) (ZbS h) λd ⟨G,F,g1,D,N,Q,O⟩=>?_
  subst N;have B:Als m j (.put x y g z) (.put G F g1 D):=λvs p=>av (λw=>Sum.inr (j+1,w)) (O vs p)
  have go:∀ (k:Bool),Z0 g1 [.str "+",.str "*"]=aa k->(k=ae->g1=S "+"\/g1=S "*")->RX 3 _ _ _:=λk N M=>.iset (k:=k) (i:=0) (e:=.cmp .In (.x 0 3) (.g (.aC (.t "+") (.u (.t "*"))))) (e':=.call 74 (.a 0 (.aC (.i 2) (.u (.i 4)))) []) (U:=[aa (rwE (.put G F g1 D))]) (P:=IsRw m sz j (.put x y g z)) (λn s=>.cmp (x:=.str g1) (y:=.tup [.str "+",.str "*"]) () () λst=>N) (λq=>by
    obtain⟨d,X,x3,y3,g3,z3,rfl,Z,R⟩:=Zft Q (M q);obtain⟨d,L,K⟩:=A Z;exact⟨_,λn s=>.call (xs:=[rwE (.put G F g1 D),.int 2,.int 4]) () (X _ s),d,L,K.tr λvs p=>av (λw=>Sum.inr (j+1,w)) ((R vs p).trans (O vs p))⟩) λ_=>by
    obtain⟨d,L,K⟩:=A Q;exact⟨d,L,K.tr B⟩
  exact go (ak (S "+"=g1)||(ak (S "*"=g1)||false)) rfl λq=>by
   rw[cB,aO,dO,aO]at q;exact q.imp ax ax
end
section
variable{k:Bool}{Q:D->Prop}
noncomputable def opV:Op->Int
 |.nm i=>i
 |.nu v=>v
def ZfL{a b:Int}:ak (a - 1 < b)=ak (a<=b):=decide_eq_decide.mpr ⟨λh=>by omega,λh=>by omega⟩
def ZfM{a b:Int}:ak (a < b+1)=ak (a<=b):=decide_eq_decide.mpr ⟨λh=>by omega,λh=>by omega⟩
def Zfr{t:Nat}{y z:Op}(h:RwOk m sz (.ifr y g z t)):CX 1 78 [rwE (.ifr y g z t)] (IsIf m sz (.ifr y g z t)):=by
 obtain⟨b,d,a,c⟩:=h;refine .of (v:=Z6) rfl rfl (.pick (λn s=>.eqs () ()) (λq=>.ret (λn s=>.r rf) ⟨z,S "<",y,t,rfl,⟨a,#[],b,c⟩,λvs j _=>?_⟩) λ_=>.pick (λn s=>.eqs () ()) (λq=>.ret (λn s=>.r rf) ⟨z,S "<=",y,t,rfl,⟨a,#[],b,c⟩,λvs j _=>?_⟩) λ_=>.ret (λn s=>.r rf) ⟨y,g,z,t,rfl,⟨b,d,a,c⟩,λ_ _ _=>rfl⟩)
 .cases ao q
  show(if soI (woI vs z) (S "<") (woI vs y)=ae then t else j+1)=if soI (woI vs y) (S ">") (woI vs z)=ae then t else j+1
  rw[ZbD,Zgi]
 .cases ao q
  show(if soI (woI vs z) (S "<=") (woI vs y)=ae then t else j+1)=if soI (woI vs y) (S ">=") (woI vs z)=ae then t else j+1
  rw[ZbC,Zgh]
def ZbQ{t:Nat}{y z:Op}:C (rT (n+2)) s 79 [rwE (.ifr y g z t)] (.bl ((Uw y&&Uw z)||ak (y=z))):=
 .of (v:=YT) rfl rfl (.ret (.or (.call (xs:=[opE y,opE z]) () (JI y z)) λ_=>Y.eqo (o:=y) (u:=z) (λs=>.r rf) (λs=>.r rf) s))
def Jd{t j:Nat}{y z:Op}(h:RwOk m sz (.ifr y g z t))(d:((Uw y&&Uw z)||ak (y=z))=ae):CX 2 80 [rwE (.ifr y g z t)] (IsRw m sz j (.ifr y g z t)):=by
 obtain⟨p,w,o,l⟩:=h;have c:∀ n s,Y (rT (n+1)) s (.f 4 (.aC (.ix (.x 0 1) (.i 1)) (.aC (.x 0 2) (.u (.ix (.x 0 3) (.i 1)))))) [aa (rwE (.ifr y g z t)),ab] (.bl (soI (opV y) g (opV z))):=λn s=>by
  cases y<;>cases z<;>exact .call () Zgw
 have e:∀ vs,soI (woI vs y) g (woI vs z)=soI (opV y) g (opV z):=λvs=>by
  rw[cB,aO]at d;rcases d with d|rfl
  .cases y with
   |nm _=>cases d
   |nu a=>cases z with
    |nm _=>cases d
    |nu b=>rfl
  .exact Zdl
 refine .of (v:=X1) rfl rfl (.set c ?_);cases q:soI (opV y) g (opV z) with
 |true=>exact .ret (λn s=>.ife (k:=ae) () ()) ⟨.go t,rfl,l,λvs _=>by show Sum.inr (t,vs)=Sum.inr (if soI (woI vs y) g (woI vs z)=ae then t else j+1,vs);rw[e,q,aq rfl]⟩
 |false=>exact .ret (λn s=>.ife (k:=af) () ()) ⟨.skip,rfl,trivial,λvs _=>by show Sum.inr (j+1,vs)=Sum.inr (if soI (woI vs y) g (woI vs z)=ae then t else j+1,vs);rw[e,q,ar #[]]⟩
def Zfu{t:Nat}{y z:Op}(h:RwOk m sz (.ifr y g z t)):CX 1 81 [rwE (.ifr y g z t)] (IsIf m sz (.ifr y g z t)):=by
 obtain⟨p,B,o,w⟩:=h;have same:IsIf m sz (.ifr y g z t) (rwE (.ifr y g z t)):=⟨y,g,z,t,rfl,⟨p,B,o,w⟩,λ_ _ _=>rfl⟩
 have b:g=S "<="->RX 0 (.seq (.ite (.and (.e (.x 1 0) (.t "number")) (.cmp .Gt (.x 1 1) (.i (-1000000000)))) (.q (.g (.aC (.t "if") (.aC (.g (.aC (.t "number") (.u (.l (.x 1 1) (.i 1))))) (.aC (.t "<") (.a 2 (.u (.x 0 4)))))))) .skip)
 (.q (.v 0))) [aa (rwE (.ifr y g z t)),aa (opE y),aa (opE z)] (IsIf m sz (.ifr y g z t)):=λf=>by
  cases y with
  |nm i=>exact .pick (k:=af) (λn s=>.and (k:=af) (m:=af) () λq=>nomatch q) (λq=>nomatch q) λ_=>.ret (λn s=>.r rf) same
  |nu v=>
   refine .pick (k:=ae&&ak (-1000000000 < v)) (λn s=>.and () λ_=>.cmp (x:=.int v) (y:=.int (-1000000000)) () () λ_=>rfl) (λq=>?_) λ_=>.ret (λn s=>.r rf) same
   have q:-1000000000 < v:=ao (by rwa [fH]at q)
   have A:Sm v:=p;refine .ret (λn s=>.r rf) ⟨.nu (v - 1),S "<",z,t,rfl,⟨(show Sm (v - 1) by unfold Sm at *;omega),#[],o,w⟩,λvs j _=>?_⟩
   subst f;show(if soI (v - 1) (S "<") (woI vs z)=ae then t else j+1)=if soI v (S "<=") (woI vs z)=ae then t else j+1
   rw[ZbD,ZbC,ZfL]
 refine .of (v:=Yt) rfl rfl (.set (d:=opE y) (λn s=>.r rf) (.set (d:=opE z) (λn s=>.r rf) (.pick (k:=!decide (g=S "<=")) (λn s=>.cmp (x:=.str g) (y:=.str "<=") () () λ_=>rfl) (λ_=>.ret (λn s=>.r rf) same) λq=>?_)))
 have f:g=S "<=":=ao (by cases c:ak (g=S "<=") with|true=>rfl|false=>rw[c]at q;cases q)
 cases z with
 |nm i=>exact .pick (k:=af) (λn s=>.and (k:=af) (m:=af) () λq=>nomatch q) (λq=>nomatch q) λ_=>b f
 |nu v=>
  refine .pick (k:=ae&&ak (v < 999999999)) (λn s=>.and () λ_=>.cmp (x:=.int v) (y:=.int 999999999) () () λ_=>rfl) (λq=>?_) λ_=>b f
  have q:v < 999999999:=ao (by rwa [fH]at q)
  have A:Sm v:=o;refine .ret (λn s=>.r rf) ⟨y,S "<",.nu (v+1),t,rfl,⟨p,#[],(show Sm (v+1) by unfold Sm at *;omega),w⟩,λvs j _=>?_⟩
  subst f;show(if soI (woI vs y) (S "<") (v+1)=ae then t else j+1)=if soI (woI vs y) (S "<=") v=ae then t else j+1
  rw[ZbD,ZbC,ZfM]
def Zfv{t j:Nat}{y z:Op}(h:RwOk m sz (.ifr y g z t)):CX 3 82 [rwE (.ifr y g z t),.int (j:Int)] (IsRw m sz j (.ifr y g z t)):=by
 refine .of (v:=X0) rfl rfl (.pick (k:=ak ((t:Int)=(j:Int)+1)) (λn s=>.cmp (x:=.int (t:Int)) (y:=.int ((j:Int)+1)) () (.add () ()) λ_=>rfl) (λq=>?_) λ_=>?_)
 .have q:=ao q
  refine .ret (λn s=>.r rf) ⟨.skip,rfl,trivial,λvs _=>?_⟩
  show Sum.inr (j+1,vs)=Sum.inr (if soI (woI vs y) g (woI vs z)=ae then t else j+1,vs)
  rw[show t=j+1 by omega];split<;>rfl
 .refine .setC (xs:=[rwE (.ifr y g z t)]) (λn s=>.r rf) (Zfr h) λd ⟨c,g1,b,l,D,A,E⟩=>?_
  subst D;have F:Als m j (.ifr y g z t) (.ifr c g1 b l):=λvs p=>av (λw=>Sum.inr (w,vs)) (E vs j p)
  have o:∀ {t:Nat}{y z:Op}{g:Str},RwOk m sz (.ifr y g z t)->RX 2 (.q (.f 81 (.s 0))) [aa (rwE (.ifr y g z t)),jN j] (IsRw m sz j (.ifr y g z t)):=λ{t y z g} h=>.retC (xs:=[rwE (.ifr y g z t)]) (λn s=>.r rf) ((Zfu h).mono λ_=>IsIf.rw)
  refine .pick (λn s=>.call (xs:=[rwE (.ifr c g1 b l)]) () ZbQ) (λq=>.retC (xs:=[rwE (.ifr c g1 b l)]) (λn s=>.r rf) ((Jd A q).mono λ_ w=>w.tr F)) λ_=>?_
  have go:∀ (k:Bool),Z0 g1 [.str "=",.str "!="]=aa k->(k=ae->g1=S "="\/g1=S "!=")->RX 2 _ _ _:=λk D J=>.iset (k:=k) (i:=0) (e:=.cmp .In (.x 0 2) (.g (.aC (.t "=") (.u (.t "!="))))) (e':=.call 74 (.a 0 (.aC (.i 1) (.u (.i 3)))) []) (U:=[aa (rwE (.ifr c g1 b l)),jN j]) (P:=IsRw m sz j (.ifr y g z t)) (λn s=>.cmp (x:=.str g1) (y:=.tup [.str "=",.str "!="]) () () λst=>D) (λq=>by
    obtain⟨d,H,L,N,K,M,rfl,I,G⟩:=Zfs A (J q);obtain⟨d,C,B⟩:=o I;exact⟨_,λn s=>.call (xs:=[rwE (.ifr c g1 b l),.int 1,.int 3]) () (H _ s),d,C,B.tr λvs p=>av (λw=>Sum.inr (w,vs)) ((G vs j p).trans (E vs j p))⟩) λ_=>by
    obtain⟨d,C,B⟩:=o A;exact⟨d,C,B.tr F⟩
  exact go (ak (S "="=g1)||(ak (S "!="=g1)||false)) rfl λq=>by
   rw[cB,aO,dO,aO]at q;exact q.imp ax ax
def Zd9{j:Nat}(h:RwOk m sz r):CX 5 83 [rwE r,.int (j:Int)] (IsRw m sz j r):=by
 have go:∀ (r:Rw),RwOk m sz r->RX 4 (.seq (.ite (.e (.v 0) (.g (.aC (.t "go") (.u (.p (.v 1) (.i 1)))))) (.q (.c (.tup [(.str "skip")]))) .skip)
 (.q (.v 0))) [aa (rwE r),jN j] (IsRw m sz j r):=λr h=>.pick (k:=ak (r=.go (j+1))) (λn s=>Y.eqr (o:=r) (u:=.go (j+1)) (λs=>.r rf) (λs=>by
   show Y _ _ _ _ (.tup [.str "go",.int ((j+1:Nat):Int)]);rw[cK];exact .cons () (.cons (.add () ()) .nil)) s) (λq=>by cases ao q;exact .ret (λn s=>.r rf) ⟨.skip,rfl,trivial,λ_ _=>rfl⟩) λ_=>.ret (λn s=>.r rf) ⟨r,rfl,h,λ_ _=>rfl⟩
 cases r with
 |put x y g z=>exact .of (v:=ZZ) rfl rfl (.pick (k:=ae) (λn s=>.r rf) (λ_=>.retC (xs:=[rwE (.put x y g z)]) (λn s=>.r rf) (Zd8 h)) λq=>nomatch q)
 |ifr y g z t=>exact .of (v:=ZZ) rfl rfl (.pick (k:=af) (λn s=>.r rf) (λq=>nomatch q) λ_=>.pick (k:=ae) (λn s=>.r rf) (λ_=>.retC (xs:=[rwE (.ifr y g z t),.int (j:Int)]) (λn s=>.r rf) (Zfv h)) λq=>nomatch q)
 |go t=>exact .of (v:=ZZ) rfl rfl (.pick (k:=af) (λn s=>.r rf) (λq=>nomatch q) λ_=>.pick (k:=af) (λn s=>.r rf) (λq=>nomatch q) λ_=>go _ h)
 |tell y=>exact .of (v:=ZZ) rfl rfl (.pick (k:=af) (λn s=>.r rf) (λq=>nomatch q) λ_=>.pick (k:=af) (λn s=>.r rf) (λq=>nomatch q) λ_=>go _ h)
 |skip=>exact .of (v:=ZZ) rfl rfl (.pick (k:=af) (λn s=>.r rf) (λq=>nomatch q) λ_=>.pick (k:=af) (λn s=>.r rf) (λq=>nomatch q) λ_=>go _ h)
end
section
variable{c:CE}{k t:Bool}{Q:D->Prop}
def Y.tof(b:s[j]?=aa (t,xs))(h:Y F s e U (.lst j)):Y F s (.tOf e) U (.tup xs):=λst g=>by
 obtain⟨s1,c,a⟩:=h st g;exact⟨s1,VB c ((g.trans a).get b),a⟩
def Lv.tof(h:Lv s (ev F e U) xs):Y F s (.tOf e) U (.tup xs):=λst g=>by
 obtain⟨s1,j,b,d,c,a⟩:=h st g;exact⟨s1,VB d c,a⟩
end
def V4(a b:Nat):a+b=(a ^^^ b)+2 * (a &&& b):=by
 induction a using Nat.strongRecOn generalizing b with
 |_ a c=>
  by_cases h:a=0
  .subst h;simp
  .have i:=c (a / 2) ∅ (b / 2)
   rw[<-Nat.xor_div_two,<-Nat.and_div_two]at i;have x:=@Nat.xor_mod_two_eq_one a b;have n:=@Nat.and_mod_two_eq_one a b;generalize a ^^^ b=q at *
   generalize a &&& b=r at *
   rcases eC a with ha|ha<;>rcases eC b with hb|hb<;>rw[ha,hb]at x n
   .have:=(eC q).resolve_right λz=>(by simp at x;omega)
    have:=(eC r).resolve_right λz=>(by simp at n;omega)
    omega
   .have:=x.mpr (by simp)
    have:=(eC r).resolve_right λz=>(by simp at n;omega)
    omega
   .have:=x.mpr (by simp)
    have:=(eC r).resolve_right λz=>(by simp at n;omega)
    omega
   .have:=(eC q).resolve_right λz=>(by simp at x;omega)
    have:=n.mpr ⟨rfl,rfl⟩;omega
def Zdo{c i:Nat}(h:c.testBit i=ae):c - 2 ^ i=c ^^^ 2 ^ i:=by
 have a:=V4 (c ^^^ 2 ^ i) (2 ^ i);have d:(c ^^^ 2 ^ i) ^^^ 2 ^ i=c:=by rw[Nat.xor_assoc,Nat.xor_self,Nat.xor_zero]
 have b:(c ^^^ 2 ^ i) &&& 2 ^ i=0:=by
  apply fI
  intro j;rw[dA,Nat.testBit_xor,eR,gF];by_cases e:i=j
  .subst e;simp[h]
  .simp[e]
 rw[d,b]at a;omega
noncomputable def woN(c i:Nat):Nat:=c - (c &&& 2 ^ i)
def ZbM{c i j:Nat}:(woN c i).testBit j=(c.testBit j&&!decide (j=i)):=by
 unfold woN;cases h:c.testBit i with
 |false=>
  have e:c &&& 2 ^ i=0:=by
   apply fI
   intro k;rw[dA,eR,gF];by_cases e:i=k
   .subst e;simp[h]
   .simp[e]
  rw[e,Nat.sub_zero];by_cases e:j=i
  .subst e;simp[h]
  .simp[e]
 |true=>
  have e:c &&& 2 ^ i=2 ^ i:=by
   apply fI
   intro k;rw[dA,eR];by_cases e:i=k
   .subst e;simp[h]
   .simp[e]
  rw[e,Zdo h,Nat.testBit_xor,eR];by_cases e:j=i
  .subst e;simp[h]
  .have:¬i=j:=λz=>e z.symm
   simp[e,this]
def ZbX{a k:Nat}:ak (((a &&& 2 ^ k:Nat):Int)=0)=!a.testBit k:=by
 have:(a &&& 2 ^ k=0)↔a.testBit k=af:=by
  constructor
  .intro h
   have:=av (λz=>z.testBit k) h
   simp only[dA,Nat.testBit_two_pow_self,dZ,gF]at this;exact this
  .intro h
   refine fI λi=>?_
   rw[dA,eR,gF];by_cases c:k=i
   .rw[<-c,h];rfl
   .rw[aI c,Bool.and_false]
 cases q:a.testBit k with
 |false=>rw[aF (by rw[this.mpr q];rfl)];rfl
 |true=>rw[aI (λh=>by have:=this.mp (Int.ofNat.inj h);rw[q]at this;cases this)];rfl
variable{E:Ot D->Env}{N:Nat}
variable{it:CE}
section
variable{i':Nat}{t:Bool}{o u:Ot Rw}
def Y.band(e:Y F s a U (.int (c:Int)))(d:Y F s b U (.int (k:Int))):Y F s (.bin .BitAnd a b) U (.int ((c &&& k:Nat):Int)):=.bi e d (by
 show(if 0<=(c:Int)/\0<=(k:Int) then aa (((c:Int).toNat &&& (k:Int).toNat:Nat):Int) else if 0<=(c:Int)/\(k:Int) < 0 then aa ((c:Int) - (((c:Int).toNat &&& (-(k:Int) - 1).toNat:Nat):Int)) else ab)=_
 rw[aq ⟨dM _,dM _⟩,bH,bH])
def Y.bor(e:Y F s a U (.int (c:Int)))(d:Y F s b U (.int (k:Int))):Y F s (.bin .BitOr a b) U (.int ((c ||| k:Nat):Int)):=.bi e d (by
 show(if 0<=(c:Int)/\0<=(k:Int) then aa (((c:Int).toNat ||| (k:Int).toNat:Nat):Int) else ab)=_
 rw[aq ⟨dM _,dM _⟩,bH,bH])
def Zd5(a:k<=60):C (rT (n+2)) s 114 [.int (c:Int),.int (k:Int)] (.bl (c.testBit k)):=
 .of (v:=XZ) rfl rfl (.ret (.cmp (.band () (.call1 () (QA a))) () λst=>by
  show(aa (ak (((c &&& 2 ^ k:Nat):Int)=0))).map Bool.not=_;rw[ZbX];show aa (!!c.testBit k)=_;rw[Bool.not_not]))
def Zgt{v:Nat}:UZ .BitAnd (c:Int) (-(v:Int) - 1)=aa ((c - (c &&& v):Nat):Int):=by
 have a:c &&& v<=c:=Nat.and_le_left;show(if 0<=(c:Int)/\0<=-(v:Int) - 1 then aa (((c:Int).toNat &&& (-(v:Int) - 1).toNat:Nat):Int) else if 0<=(c:Int)/\-(v:Int) - 1 < 0 then aa ((c:Int) - (((c:Int).toNat &&& (-(-(v:Int) - 1) - 1).toNat:Nat):Int)) else ab)=_
 rw[ar ∅,aq ∅,bH,show(-(-(v:Int) - 1) - 1).toNat=v by omega,Int.ofNat_sub a]
def Zfx(a:k<=60):C (rT (n+2)) s 57 [.int (c:Int),.int (k:Int)] (.int ((woN c k:Nat):Int)):=
 .of (v:=YH) rfl rfl (.ret (.bi (i:=(c:Int)) (j:=-((2 ^ k:Nat):Int) - 1) () (g1 (.call1 () (QA a)) (gp λ_=>rfl)) Zgt))
def Zd4(a:k<=60):C (rT (n+2)) s 56 [.int (k:Int)] (.int ((2 ^ k - 1:Nat):Int)):=by
 refine .of (v:=Xx) rfl rfl (.ret ?_);rw[Int.ofNat_sub (Nat.one_le_two_pow)];exact .sub (.call1 () (QA a)) ()
def Bs(F:Nat->Fn)(s:Za)(q:CS)(U:Env)(o:Ot D):Prop:=∀ st,Grw s st->∃ st',ex F q U st=aa (match o with|some d=>.rt d|none=>.nx U,st')/\Grw st st'
theorem Bs.skip:Bs F s .skip U ab:=λst _=>⟨st,rfl,.refl⟩
theorem Bs.ite{o:Ot D}(h:Y F s e U (.bl t))(l:t=ae->Y F s a U d)(k:t=af->Bs F s q U o):Bs F s (.seq (.ite e (.q a) .skip) q) U (if t=ae then aa d else o):=λst g=>by
 obtain⟨s1,j,b⟩:=h st g;cases t with
 |true=>
  obtain⟨c,i,f⟩:=l rfl s1 (g.trans b);exact⟨c,Zn ((ZL j).trans (Zn (ZQ i))),b.trans f⟩
 |false=>
  obtain⟨c,i,f⟩:=k rfl s1 (g.trans b);exact⟨c,(Zc ((YJ j).trans Zf)).trans i,b.trans f⟩
noncomputable def skR{α:Type}(f:α->Ot D):Li α->Ot D
 |[]=>ab
 |x :: l=>match f x with
  |some d=>aa d
  |none=>skR f l
theorem Zff{α:Type}{en:α->D}{f:α->Ot D}{E:Ot D->Env}(c:∀ y d,Zk (E y) i d=E (aa d)):∀ {l:Li α},(∀ x∈l,Bs F s q (E (aa (en x))) (f x))->∀ {y:Ot D}{st:Za},Grw s st->∃ a st',Zj (λd U s=>ex F q (Zk U i d) s) (l.map en) (E y) st=aa (match skR f l with|some d=>.rt d|none=>.nx (E a),st')/\Grw st st'
 |[],_,y,st,_=>⟨y,st,rfl,.refl⟩
 |x :: l,h,y,st,g=>by
  obtain⟨s1,n,b⟩:=h x Ls st g;obtain⟨a,e,m,j⟩:=Zff c (λz k=>h z (Lm _ k)) (y:=aa (en x)) (g.trans b)
  show ∃ a st',(match ex F q (Zk (E y) i (en x)) st with
   |some (.nx U',st')=>Zj (λd U s=>ex F q (Zk U i d) s) (l.map en) U' st'
   |some (.ct U',st')=>Zj (λd U s=>ex F q (Zk U i d) s) (l.map en) U' st'
   |some (.bk U',st')=>aa (.nx U',st')
   |some (.rt v,st')=>aa (.rt v,st')
   |none=>ab)=_/\_
  rw[c,n];unfold skR;cases f x with
  |some d=>exact⟨y,s1,rfl,b⟩
  |none=>exact⟨a,e,m,b.trans j⟩
def R.seekD{l:Li α}{en:α->D}{f:α->Ot D}{y:Ot D}(u:∀ y d,Zk (E y) i d=E (aa d))(r:Y F s it (E y) (.tup (l.map en)))(t:∀ x∈l,Bs F s q (E (aa (en x))) (f x))(o:∀ y,R F s p (E y) d):R F s (.seq (.for1 i af it q) p) (E y) ((skR f l).getD d):=λst g=>by
 obtain⟨s1,j,a⟩:=r st g;obtain⟨k,h,b,e⟩:=Zff u t (y:=y) (g.trans a);cases c:skR f l with
 |some v=>rw[c]at b;exact⟨h,Zn ((for_tup j).trans b),a.trans e⟩
 |none=>
  rw[c]at b;obtain⟨m,w,n⟩:=o k h (g.trans (a.trans e));exact⟨m,(Zc ((for_tup j).trans b)).trans w,a.trans (e.trans n)⟩
def R.seekR{f:Nat->Ot D}{y:Ot D}(A:∀ y d,Zk (E y) i d=E (aa d))(w:Y F s it (E y) (.int (N:Int)))(hN:N<=1000000)(z:∀ x,x < N->Bs F s q (E (jN x)) (f x))(u:∀ y,R F s p (E y) d):R F s (.seq (.for1 i ae it q) p) (E y) ((skR f (aj N)).getD d):=λst g=>by
 obtain⟨s1,C,a⟩:=w st g;obtain⟨n,m,b,h⟩:=Zff (en:=λ(k:Nat)=>D.int (k:Int)) (l:=aj N) A (λx t=>z x (cG.mp t)) (y:=y) (g.trans a)
 have j:=YX (F:=F) (i:=i) (e:=it) (q:=q) (v:=(N:Int)) ∅ ∅ C
 rw[bH]at j;cases c:skR f (aj N) with
 |some v=>rw[c]at b;exact⟨m,Zn (j.trans b),a.trans h⟩
 |none=>
  rw[c]at b;obtain⟨o,B,r⟩:=u n m (g.trans (a.trans h));exact⟨o,(Zc (j.trans b)).trans B,a.trans (h.trans r)⟩
end
noncomputable def ZfO:D:=.tup [.str "end"]
def roD:Ot Rw->D
 |none=>ZfO
 |some r=>rwE r
noncomputable def isE:Ot Rw->Bool
 |none=>ae
 |some (.tell _)=>ae
 |_=>af
noncomputable def XT:Rw->Li (Nat×Op)
 |.put _ y _ z=>[(2,y),(4,z)]
 |.ifr y _ z _=>[(1,y),(3,z)]
 |.tell y=>[(1,y)]
 |_=>[]
noncomputable def inB(b:Nat):Op->Bool
 |.nm i=>b.testBit i
 |.nu _=>ae
def rdO(b:Nat)(r:Rw):Bool:=(XT r).all λp=>inB b p.2
def eaB(b:Nat)(o u:Ot Rw):Bool:=ak (o=u)&&(match o with|none=>ae|some r=>rdO b r)
def caB(b:Nat):Rw->Rw->Bool
 |.ifr y g z t,.ifr c d a _=>Zt [opE y,.str g,opE z] [opE c,.str d,opE a]&&rdO b (.ifr y g z t)
 |_,_=>af
def woX(b:Nat):Rw->Nat
 |.put x _ _ _=>woN b x
 |_=>b
noncomputable def isP:Rw->Bool
 |.put _ _ _ _=>ae
 |_=>af
noncomputable def tgR:Rw->Nat
 |.put x _ _ _=>x
 |_=>0
def stN(b:Nat)(r q:Rw):Nat:=if (isP r&&(ak (aa r=aa q)&&rdO b r))=ae then b ||| 2 ^ tgR r else woX (woX b r) q
noncomputable def pbN(k:Nat):Rw->Li Nat
 |.go t=>[t]
 |.ifr _ _ _ t=>[t,k+1]
 |_=>[k+1]
section
variable{q:Rw}{o u:Ot Rw}
def Zf1:S "put"≠S "end"/\S "if"≠S "end"/\S "go"≠S "end"/\S "tell"≠S "end"/\S "skip"≠S "end":=by decide +kernel
def Zbr(o:Ot Rw):∃ a,roD o=.tup a/\okD 8 (.tup a)=ae:=by
 cases o with
 |none=>exact⟨_,rfl,rfl⟩
 |some r=>exact Qo r
def ZeZ(h:roD o=roD u):o=u:=by
 obtain⟨e,d,c,b,a⟩:=Zf1;have ne:∀ r:Rw,rwE r≠ZfO:=λr h=>by
  cases r with
  |put _ _ _ _=>exact au (ZA h) e
  |ifr _ _ _ _=>exact au (ZA h) d
  |go _=>exact au (ZA h) c
  |tell _=>exact au (ZA h) b
  |skip=>exact au (ZA h) a
 cases o with
 |none=>cases u with
  |none=>rfl
  |some r=>exact au h.symm (ne r)
 |some r=>cases u with
  |none=>exact au h (ne r)
  |some q=>rw[Zbt h]
def Y.eqro(g:Y F s a U (roD o))(f:Y F s b U (roD u)):Y F s (.e a b) U (.bl (ak (o=u))):=by
 obtain⟨j,c,i⟩:=Zbr o;obtain⟨ys,d,k⟩:=Zbr u;have e:ak (o=u)=Zt j ys:=by
  rw[Wy i];refine decide_eq_decide.mpr ⟨λh=>?_,λh=>ZeZ (by rw[c,d,h])⟩
  rw[h,d]at c;injection c with c;exact c.symm
 rw[c]at g;rw[d]at f;rw[e];exact .eqd g f i k
inductive RoP(m:Nat)(rs:List Rw)(k:Nat):Option Rw->Prop where
 |e (h:rs.length<=k):RoP m rs k ab
 |r {r r':Rw} (h:rs[k]?=aa r) (ok:RwOk m rs.length r') (al:Als m k r r'):RoP m rs k (aa r')
def QC(p:Rs m rs):CX 6 115 [pgD tk m rs,.int (k:Int)] (λd=>∃ o,d=roD o/\RoP m rs k o):=by
 have f:∀ n s,Y (rT (n+5)) s (.cmp .GtE (.v 1) (.len (.x 0 2))) [aa (pgD tk m rs),jN k] (.bl (ak ((rs.length:Int)<=(k:Int)))):=λn s=>by
  have:=Y.cmp (F:=rT (n+5)) (s:=s) (op:=.GtE) (a:=.v 1) (b:=.len (.x 0 2)) (U:=[aa (pgD tk m rs),jN k]) (x:=.int (k:Int)) (y:=.int ((rs.map rwE).length:Int)) () (.lnT ()) λ_=>rfl
  rw[aD]at this;exact this
 by_cases h:rs.length<=k
 .exact .of (v:=XF) rfl rfl (.pick f (λ_=>.ret (λn s=>.r rf) ⟨ab,rfl,.e h⟩) λq=>au (am q) ∅)
 .have c:=Lg (l:=rs) (i:=k) ∅
  obtain⟨d,t,g,u,ok,w⟩:=Zd9 (j:=k) (p.ok _ (aX c));subst u;exact .of (v:=XF) rfl rfl (.pick f (λq=>au (ao q) ∅) λ_=>.ret (λn s=>.call (xs:=[rwE rs[k],.int (k:Int)]) (.cons (.ixt (j:=k) (xs:=rs.map rwE) () () (by rw[aV,c];rfl)) ()) (t _ s)) ⟨aa g,rfl,.r c ok w⟩)
def JH:C (rT (n+1)) s 116 [roD o] (.bl (isE o)):=by
 have a:Y (rT n) s (.e (.v 0) (.c (.tup [.str "end"]))) [aa (roD o)] (.bl (ak (o=ab))):=.eqro (u:=ab) () ();cases o with
 |none=>exact .of (v:=YS) rfl rfl (.ret (.or (k:=ae) (m:=af) a λq=>nomatch q))
 |some r=>cases r<;>exact .of (v:=YS) rfl rfl (.ret (.or (k:=af) a λ_=>.r rf))
def ZeQ:∀ p∈XT r,∃ b,rwE r=.tup b/\b[p.1]?=aa (opE p.2):=λp a=>by
 cases r with
 |put x y g z=>
  simp only[XT,aL,dH,or_false]at a;rcases a with rfl|rfl<;>exact⟨_,rfl,rfl⟩
 |ifr y g z t=>
  simp only[XT,aL,dH,or_false]at a;rcases a with rfl|rfl<;>exact⟨_,rfl,rfl⟩
 |tell y=>
  simp only[XT,aL,dH,or_false]at a;subst a;exact⟨_,rfl,rfl⟩
 |go t=>cases a
 |skip=>cases a
def ZeR(h:RwOk m sz r):∀ p∈XT r,Vw m p.2:=λp a=>by
 cases r with
 |put x y g z=>
  simp only[XT,aL,dH,or_false]at a;rcases a with rfl|rfl
  .exact h.2.1
  .exact h.2.2.2
 |ifr y g z t=>
  simp only[XT,aL,dH,or_false]at a;rcases a with rfl|rfl
  .exact h.1
  .exact h.2.2.1
 |tell y=>
  simp only[XT,aL,dH,or_false]at a;subst a;exact h
 |go t=>cases a
 |skip=>cases a
def JJ:C (rT (n+1)) s 113 [rwE r] (.tup ((XT r).map λp=>.int (p.1:Int))):=by
 cases r<;>exact .of (v:=Ye) rfl rfl (.ret ())
def Vt(f:m<=60)(h:RwOk m sz r):C (rT (n+3)) s 117 [rwE r,.int (c:Int)] (.bl (rdO c r)):=by
 have e:D.bl (rdO c r)=(skR (λp:Nat×Op=>if (!inB c p.2)=ae then aa (.bl af) else ab) (XT r)).getD (.bl ae):=by
  unfold rdO
  induction XT r with
  |nil=>rfl
  |cons p l d=>
   unfold skR;rw[cH];cases inB c p.2 with
   |true=>exact d
   |false=>rfl
 rw[e];refine .of (v:=YV) rfl rfl (.seekD (i:=2) (l:=XT r) (en:=λp=>.int (p.1:Int)) (E:=λy=>[aa (rwE r),jN c,y]) (λ_ _=>rfl) (.call (xs:=[rwE r]) () JJ) (λp b=>?_) λy=>.ret ())
 obtain⟨xs,o,g⟩:=ZeQ p b;have a:Y (rT (n+2)) s (.ix (.v 0) (.v 2)) [aa (rwE r),jN c,jN p.1] (opE p.2):=by
  rw[o];exact .ixt (j:=p.1) (xs:=xs) () () g
 have ok:=ZeR h p b;refine .ite (t:=!inB c p.2) ?_ (λ_=>.r rf) λ_=>.skip
 cases q:p.2 with
 |nm x=>
  rw[q]at a ok;exact .and (k:=ae) (.cmp (x:=.str "name") (.ixt (j:=0) a () rfl) () λ_=>rfl) λ_=>.not (.call (xs:=[.int (c:Int),.int (x:Int)]) (.cons () (.cons (.ixt (j:=1) a () rfl) .nil)) (Zd5 (eG (aW ok f))))
 |nu v=>
  rw[q]at a;exact .and (k:=af) (m:=af) (.cmp (x:=.str "number") (.ixt (j:=0) a () rfl) () λ_=>rfl) λq=>nomatch q
def QB(b:m<=60)(h:∀ r,o=aa r->RwOk m sz r):C (rT (n+4)) s 118 [roD o,roD u,.int (c:Int)] (.bl (eaB c o u)):=by
 refine .of (v:=Xc) rfl rfl (.ret (.and (.eqro () ()) λ_=>?_))
 have a:Y (rT (n+3)) s (.e (.v 0) (.c (.tup [.str "end"]))) [aa (roD o),aa (roD u),jN c] (.bl (ak (o=ab))):=.eqro (u:=ab) () ();cases o with
 |none=>exact .or (k:=ae) (m:=af) a λq=>nomatch q
 |some r=>exact .or (k:=af) a λ_=>.call (xs:=[rwE r,.int (c:Int)]) () (Vt b (h r rfl))
def ZbP(d:m<=60)(h:RwOk m sz r):C (rT (n+4)) s 119 [rwE r,rwE q,.int (c:Int)] (.bl (caB c r q)):=by
 cases r with
 |ifr y g z t=>cases q with
  |ifr b e a f=>
   refine .of (v:=ZM) rfl rfl (.ret (.and (k:=ae) () λ_=>.and (k:=ae) () λ_=>.and (.eqd (xs:=[opE y,.str g,opE z]) (ys:=[opE b,.str e,opE a]) () () ?_ ?_) λ_=>.call (xs:=[rwE (.ifr y g z t),.int (c:Int)]) () (Vt d h)))
   .cases y<;>cases z<;>rfl
   .cases b<;>cases a<;>rfl
  |_=>exact .of (v:=ZM) rfl rfl (.ret (.and (k:=ae) () λ_=>.and (k:=af) (m:=af) () λq=>nomatch q))
 |_=>exact .of (v:=ZM) rfl rfl (.ret (.and (k:=af) (m:=af) () λq=>nomatch q))
def Q8{A B y:Ot D}(d:m<=60)(h:RwOk m sz r):∀ st,Grw s st->∃ st',ex (rT (n+3)) Zz [A,B,jN c,aa (rwE r)] st=aa (.nx [A,B,aa (.int ((woX c r:Nat):Int)),aa (rwE r)],st')/\Grw st st':=λst g=>by
 cases r with
 |put x y g z=>
  obtain⟨s1,e,b⟩:=Y.call (F:=rT (n+3)) (s:=st) (f:=57) (a:=.a 2 (.u (.x 3 1))) (U:=[A,B,jN c,aa (rwE (.put x y g z))]) (xs:=[.int (c:Int),.int (x:Int)]) (ds:=[]) () (Zfx (n:=n+1) (eG (aW h.1 d))) st .refl;exact⟨s1,(Zc ((ZL rfl).trans ((Zc (Zh e)).trans Zf))).trans Zf,b⟩
 |_=>exact⟨st,(Zc ((YJ rfl).trans Zf)).trans Zf,.refl⟩
def Zeb(b:m<=60)(h:RwOk m sz r)(p:RwOk m sz q):C (rT (n+4)) s 120 [rwE r,rwE q,.int (c:Int)] (.int ((stN c r q:Nat):Int)):=by
 have f:R (rT (n+3)) s (.seq (.for1 3 af (.g (.a 0 (.s 1))) Zz) (.q (.v 2))) [aa (rwE r),aa (rwE q),jN c,ab] (.int ((woX (woX c r) q:Nat):Int)):=λst g=>by
  obtain⟨s1,E,l⟩:=Q8 (n:=n) (s:=st) (c:=c) (A:=aa (rwE r)) (B:=aa (rwE q)) (y:=ab) b h st .refl;obtain⟨i,D,j⟩:=Q8 (n:=n) (s:=s1) (c:=woX c r) (A:=aa (rwE r)) (B:=aa (rwE q)) (y:=ab) b p s1 .refl;refine⟨i,(Zc (U':=[aa (rwE r),aa (rwE q),aa (.int ((woX (woX c r) q:Nat):Int)),aa (rwE q)]) (s':=i) ((for_tup (xs:=[rwE r,rwE q]) rfl).trans ?_)).trans (Zn (ZQ rfl)),l.trans j⟩
  show(match ex (rT (n+3)) Zz [aa (rwE r),aa (rwE q),jN c,aa (rwE r)] st with
   |some (.nx U',st')=>Zj (λd U s=>ex (rT (n+3)) Zz (Zk U 3 d) s) [rwE q] U' st'
   |some (.ct U',st')=>Zj (λd U s=>ex (rT (n+3)) Zz (Zk U 3 d) s) [rwE q] U' st'
   |some (.bk U',st')=>aa (.nx U',st')
   |some (.rt v,st')=>aa (.rt v,st')
   |none=>ab)=_
  rw[E];show(match ex (rT (n+3)) Zz [aa (rwE r),aa (rwE q),aa (.int ((woX c r:Nat):Int)),aa (rwE q)] s1 with
   |some (.nx U',st')=>Zj (λd U s=>ex (rT (n+3)) Zz (Zk U 3 d) s) [] U' st'
   |some (.ct U',st')=>Zj (λd U s=>ex (rT (n+3)) Zz (Zk U 3 d) s) [] U' st'
   |some (.bk U',st')=>aa (.nx U',st')
   |some (.rt v,st')=>aa (.rt v,st')
   |none=>ab)=_
  rw[D];rfl
 have kp:Y (rT (n+3)) s (.e (.x 0 0) (.t "put")) [aa (rwE r),aa (rwE q),jN c,ab] (.bl (isP r)):=by cases r<;>exact .r rf
 refine .of (v:=X2) rfl rfl (.pick (k:=isP r&&(ak (aa r=aa q)&&rdO c r)) (.and kp λ_=>.and (.eqro (o:=aa r) (u:=aa q) () ()) λ_=>.call (xs:=[rwE r,.int (c:Int)]) () (Vt b h)) (λz=>?_) λz=>?_)
 .unfold stN
  rw[aq z];cases r with
  |put x y g w=>exact .ret (.bor () (.call1 (x:=.int (x:Int)) () (QA (eG (aW h.1 b)))))
  |_=>cases z
 .unfold stN
  rw[ar (by rw[z];decide)]
  exact f
def V2:C (rT (n+1)) s 121 [rwE r,.int (k:Int)] (.tup ((pbN k r).map λ(x:Nat)=>D.int (x:Int))):=by
 have one:∀ {U:Env},U[1]?=aa (jN k)->Y (rT n) s (.p (.v 1) (.i 1)) U (.int ((k+1:Nat):Int)):=λ{U} h=>by
  rw[cK];exact .add (.v h) ()
 cases r with
 |go t=>exact .of (v:=ZI) rfl rfl (.yes () ())
 |ifr y g z t=>
  show C _ _ _ _ (.tup [.int (t:Int),.int ((k+1:Nat):Int)]);exact .of (v:=ZI) rfl rfl (.no () (.yes () (.cons () (.cons (one rfl) .nil))))
 |_=>
  show C _ _ _ _ (.tup [.int ((k+1:Nat):Int)]);exact .of (v:=ZI) rfl rfl (.no () (.no () (.ret (.cons (one rfl) .nil))))
end
noncomputable def trD(t:Nat×Nat×Nat):D:=.tup [.int (t.1:Int),.int (t.2.1:Int),.int (t.2.2:Int)]
def Ag(c:Nat)(vs a:Li Int):Prop:=∀ i,c.testBit i=ae->vs.getD i 0=a.getD i 0
def Mt(a:Li (Nat×Nat×Nat)):Sum D (Nat×Li Int)->Sum D (Nat×Li Int)->Prop
 |.inl o,.inl b=>o=b
 |.inr p,.inr q=>∃ t∈a,t.1=p.1/\t.2.1=q.1/\Ag t.2.2 p.2 q.2
 |_,_=>False
def roM(k:Nat)(vs:Li Int):Ot Rw->Sum D (Nat×Li Int)
 |none=>.inl noD
 |some r=>rv k vs r
structure FolT(m:Nat)(rs rs':List Rw)(k j c:Nat)(ts:List (Nat×Nat×Nat)):Prop where
 l:ts.length<=4
 b:∀ t∈ts,t.1<=rs.length/\t.2.1<=rs'.length/\t.2.2 < 2 ^ m
 s:∀ vs ws,Vs m vs->Vs m ws->Ag c vs ws->Mt ts (mv rs k vs) (mv rs' j ws)
def Zgx(m:Nat)(rs a:Li Rw)(k j c:Nat)(d:D):Prop:=d=.non\/∃ b,d=.tup (b.map trD)/\FolT m rs a k j c b
variable{tk':D}{rs':Li Rw}
section
variable{q:Rw}{o u:Ot Rw}{ws:Li Int}{y:Op}
theorem RoP.mv(h:RoP m rs k o)(a:Vs m vs):mv rs k vs=roM k vs o:=by
 cases h with
 |e h=>unfold Dp.mv;rw[dF h];rfl
 |r h ok b=>rw[ZdO h];exact(b vs a).symm
def Zgr(h:inB c y=ae)(a:Ag c vs ws):woI vs y=woI ws y:=by
 cases y with
 |nm i=>exact a i h
 |nu v=>rfl
def UI(h:rdO c r=ae)(a:Ag c vs ws):∀ p∈XT r,woI vs p.2=woI ws p.2:=λp b=>Zgr (bZ.mp h p b) a
def Zfg(h:eaB c o u=ae)(b:(isE o||isE u)=ae)(a:Ag c vs ws):Mt [] (roM k vs o) (roM j ws u):=by
 unfold eaB at h;rw[Ba,aO]at h;obtain⟨rfl,h⟩:=h;rw[Bool.or_self]at b;cases o with
 |none=>rfl
 |some r=>cases r with
  |tell y=>show teD _=teD _;rw[UI h a (1,y) Ls]
  |_=>cases b
def Qq(h:caB c r q=ae)(a:Ag c vs ws):∃ y g z t b,r=.ifr y g z t/\q=.ifr y g z b/\Mt [(t,b,c),(k+1,j+1,c)] (rv k vs r) (rv j ws q):=by
 cases r with
 |ifr y g z t=>cases q with
  |ifr i l f b=>
   have h:(Zt [opE y,.str g,opE z] [opE i,.str l,opE f]&&rdO c (.ifr y g z t))=ae:=h;rw[Ba]at h;have e:=Wh h.1
   injection e with n e;injection e with d e;injection e with m _;injection d with d
   cases Xm n;cases d;cases Xm m
   refine⟨y,g,z,t,b,rfl,rfl,?_⟩;show ∃ p∈[(t,b,c),(k+1,j+1,c)],p.1=(if soI (woI vs y) g (woI vs z)=ae then t else k+1)/\p.2.1=(if soI (woI ws y) g (woI ws z)=ae then b else j+1)/\Ag p.2.2 vs ws
   rw[UI h.2 a (1,y) Ls,UI h.2 a (3,z) (Lm _ Ls)];split
   .exact⟨_,Ls,rfl,rfl,a⟩
   .exact⟨_,Lm _ Ls,rfl,rfl,a⟩
  |_=>cases h
 |_=>cases h
def ZbL(h:(woX c r).testBit i=ae):c.testBit i=ae/\(isP r=ae->i≠tgR r):=by
 cases r with
 |put x y g z=>
  have h:(woN c x).testBit i=ae:=h;rw[ZbM,Ba]at h;refine⟨h.1,λ_ e=>?_⟩
  have e:i=x:=e;rw[aF e]at h;cases h.2
 |_=>exact⟨h,λq=>nomatch q⟩
def Jb(h:isP r=ae->i≠tgR r):(vsN vs r).getD i 0=vs.getD i 0:=by
 cases r with
 |put x y g z=>
  have h:i≠x:=h rfl;show(vs.set x _).getD i 0=_;rw[aP,aP,bR (Ne.symm h)]
 |_=>rfl
def Zgj(p:Vs m vs)(o:Vs m ws)(ok:RwOk m sz r)(a:Ag c vs ws):Ag (stN c r q) (vsN vs r) (vsN ws q):=λi h=>by
 unfold stN at h;split at h
 .rename_i z
  rw[Ba,Ba,aO]at z;obtain⟨j,f,d⟩:=z;cases f;cases r with
  |put x y g z=>
   have e:rkI (woI vs y) g (woI vs z)=rkI (woI ws y) g (woI ws z):=by
    rw[UI d a (2,y) Ls,UI d a (4,z) (Lm _ Ls)]
   have v:=p.l;have u:=o.l;have w:x < m:=ok.1;show(vs.set x _).getD i 0=(ws.set x _).getD i 0;rw[aP,aP];by_cases b:x=i
   .subst b
    rw[bM ∅,bM ∅,e]
   .rw[bR b,bR b,<-aP,<-aP]
    have h:(c ||| 2 ^ x).testBit i=ae:=h;rw[Nat.testBit_or,eR,aI b,dO]at h;exact a i h
  |_=>cases j
 .obtain⟨t,n⟩:=ZbL h
  obtain⟨s,k⟩:=ZbL t;rw[Jb k,Jb n];exact a i s
def Zd3:woX c r<=c:=by
 cases r with
 |put x y g z=>exact Nat.sub_le _ _
 |_=>exact aB _
def Zgl(a:c < 2 ^ m)(ok:RwOk m sz r):stN c r q < 2 ^ m:=by
 unfold stN;split
 .rename_i z
  rw[Ba]at z;cases r with
  |put x y g w=>exact Nat.or_lt_two_pow a (Nat.pow_lt_pow_right #[] ok.1)
  |_=>cases z.1
 .exact gA (aK Zd3 Zd3) a
def Zbd(a:∀ y,r≠.tell y):∃ x∈pbN k r,rv k vs r=.inr (x,vsN vs r):=by
 cases r with
 |tell y=>exact au rfl (a y)
 |ifr y g z t=>
  show ∃ x∈[t,k+1],Sum.inr (if soI (woI vs y) g (woI vs z)=ae then t else k+1,vs)=Sum.inr (x,vs)
  split
  .exact⟨_,Ls,rfl⟩
  .exact⟨_,Lm _ Ls,rfl⟩
 |_=>exact⟨_,Ls,rfl⟩
def ZdT(a:k < sz)(ok:RwOk m sz r):∀ x∈pbN k r,x<=sz:=λx hx=>by
 cases r with
 |go t=>rw[aQ.mp hx];exact ok
 |ifr y g z t=>
  rcases aL.mp hx with rfl|hx
  .exact ok.2.2.2
  .rw[aQ.mp hx];exact a
 |_=>rw[aQ.mp hx];exact a
def Qj:(pbN k r).length<=2:=by cases r<;>first|exact aB _|exact Nat.le_succ _
noncomputable def tgI:Rw->Nat
 |.ifr _ _ _ t=>t
 |_=>0
def VD(k j c:Nat)(r q:Rw):Li (Nat×Nat×Nat):=(pbN k r).flatMap λp=>(pbN j q).map λa=>(p,a,stN c r q)
def QI:(VD k j c r q).length<=4:=by
 have d:=Qj (k:=j) (r:=q);have h:∀ l:Li Nat,(l.flatMap λp=>(pbN j q).map λa=>(p,a,stN c r q)).length<=2 * l.length:=λl=>by
  induction l with
  |nil=>exact aB _
  |cons x l b=>rw[gE,aG,aD,aY];omega
 have:=h (pbN k r);have:=Qj (k:=k) (r:=r);unfold VD;omega
def Zfh(f:Vs m vs)(e:Vs m ws)(ok:RwOk m sz r)(h:∀ y,r≠.tell y)(g:∀ y,q≠.tell y)(a:Ag c vs ws):Mt (VD k j c r q) (rv k vs r) (rv j ws q):=by
 obtain⟨x,d,l⟩:=Zbd (k:=k) (vs:=vs) h;obtain⟨z,b,i⟩:=Zbd (k:=j) (vs:=ws) g;rw[l,i];exact⟨(x,z,stN c r q),eD.mpr ⟨x,d,aR.mpr ⟨z,b,rfl⟩⟩,rfl,rfl,Zgj f e ok a⟩
def foD:Ot (Li (Nat×Nat×Nat))->D
 |none=>.non
 |some a=>.tup (a.map trD)
def fvO(o u:Ot Rw)(k j c:Nat):Ot (Li (Nat×Nat×Nat)):=
 if (isE o||isE u)=ae then (if eaB c o u=ae then aa [] else ab)
 else match o,u with
  |some r,aa q=>aa (if caB c r q=ae then [(tgI r,tgI q,c),(k+1,j+1,c)] else VD k j c r q)
  |_,_=>ab
def Vc(Z:Rs m rs)(L:Rs m rs')(J:m<=60):∃ o u,RoP m rs k o/\RoP m rs' j u/\∀ c:Nat,c < 2 ^ m->CX 7 122 [pgD tk m rs,pgD tk' m rs',.int (k:Int),.int (j:Int),.int (c:Int)] (λd=>d=foD (fvO o u k j c)/\∀ B,fvO o u k j c=aa B->FolT m rs rs' k j c B):=by
 obtain⟨_,O,o,rfl,F⟩:=QC (tk:=tk) (k:=k) Z;obtain⟨_,N,u,rfl,C⟩:=QC (tk:=tk') (k:=j) L;refine⟨o,u,F,C,λc P=>.of (v:=WB) rfl rfl (.set (d:=roD o) (λn s=>.call (xs:=[pgD tk m rs,.int (k:Int)]) () (O n s)) (.set (d:=roD u) (λn s=>.call (xs:=[pgD tk' m rs',.int (j:Int)]) () (N n s)) ?_))⟩
 have A:∀ r,o=aa r->RwOk m rs.length r:=λr e=>by
  subst e;cases F with|r h ok R=>exact ok
 have K:∀ r,u=aa r->RwOk m rs'.length r:=λr e=>by
  subst e;cases C with|r h ok R=>exact ok
 refine .pick (k:=isE o||isE u) (λn s=>.or (.call1 () JH) λ_=>.call1 () JH) (λw=>?_) λw=>?_
 .cases q:eaB c o u with
  |true=>
   refine .ret (d:=.tup []) (λn s=>.ife (k:=ae) (by rw[<-q];exact .call (xs:=[roD o,roD u,.int (c:Int)]) () (QB J A)) ()) (by
    unfold fvO;rw[aq w,aq q];exact⟨rfl,λB e=>by cases e;exact⟨aS _,λt h=>(nomatch h),λvs ws H G a=>by
     rw[F.mv H,C.mv G];exact Zfg q w a⟩⟩)
  |false=>exact .ret (d:=.non) (λn s=>.ife (k:=af) (by rw[<-q];exact .call (xs:=[roD o,roD u,.int (c:Int)]) () (QB J A)) ()) (by
    unfold fvO;rw[aq w,q];exact⟨rfl,λB e=>nomatch e⟩)
 .have M:=w
  rw[fZ]at w;cases o with
  |none=>cases w.1
  |some r=>cases u with
   |none=>cases w.2
   |some q=>
    have b:=A r rfl;have o2:=K q rfl;have V:k < rs.length:=by cases F with|r h ok R=>exact Zy h
    have T:j < rs'.length:=by cases C with|r h ok R=>exact Zy h
    have ef:fvO (aa r) (aa q) k j c=aa (if caB c r q=ae then [(tgI r,tgI q,c),(k+1,j+1,c)] else VD k j c r q):=by
     unfold fvO;rw[M,ar #[]]
    rw[ef];refine .pick (k:=caB c r q) (λn s=>.call (xs:=[rwE r,rwE q,.int (c:Int)]) () (ZbP J b)) (λI=>?_) λI=>?_
    .obtain⟨y,g,z,t,S,rfl,rfl,_⟩:=Qq (vs:=[]) (ws:=[]) (k:=k) (j:=j) I λ_ _=>rfl
     have Q:FolT m rs rs' k j c [(t,S,c),(k+1,j+1,c)]:=⟨(show 2<=4 by decide),λp hp=>by
      rcases aL.mp hp with rfl|hp
      .exact⟨b.2.2.2,o2.2.2.2,P⟩
      .rw[aQ.mp hp];exact⟨V,T,P⟩,λvs ws H G a=>by
      rw[F.mv H,C.mv G];obtain⟨_,_,_,_,_,e1,e2,e3⟩:=Qq (k:=k) (j:=j) I a;cases e1;cases e2
      exact e3⟩
     refine .ret (d:=.tup [trD (t,S,c),trD (k+1,j+1,c)]) (λn s=>?_) (by
      rw[aq I];exact⟨rfl,λB e=>by cases e;exact Q⟩)
     have one:∀ {i v:Nat}{U:Env},U[i]?=aa (jN v)->Y (rT (n+6)) s (.p (.v i) (.i 1)) U (.int ((v+1:Nat):Int)):=λ{i v U} h=>by
      rw[cK];exact .add (.v h) ()
     exact .cons (.cons () (.cons () (.cons () .nil))) (.cons (.cons (one (i:=2) rfl) (.cons (one (i:=3) rfl) (.cons () .nil))) .nil)
    .have Q:FolT m rs rs' k j c (VD k j c r q):=⟨QI,λp hp=>by
      obtain⟨x,X,hp⟩:=eD.mp hp;obtain⟨z,W,rfl⟩:=aR.mp hp;exact⟨ZdT V b x X,ZdT T o2 z W,Zgl P b⟩,λvs ws H G a=>by
      rw[F.mv H,C.mv G];exact Zfh H G b (λy e=>by subst e;cases w.1) (λy e=>by subst e;cases w.2) a⟩
     refine .set (λn s=>.call (xs:=[rwE r,rwE q,.int (c:Int)]) () (Zeb (sz:=max rs.length rs'.length) J ?_ ?_)) ⟨.tup ((VD k j c r q).map trD),λn s=>?_,by
      rw[I,ar #[]]
      exact⟨rfl,λB e=>by cases e;exact Q⟩⟩
     .cases r<;>first|exact b|exact aK b (Nat.le_max_left _ _)|exact⟨b.1,b.2.1,b.2.2.1,aK b.2.2.2 (Nat.le_max_left _ _)⟩
     .cases q<;>first|exact o2|exact aK o2 (Nat.le_max_right _ _)|exact⟨o2.1,o2.2.1,o2.2.2.1,aK o2.2.2.2 (Nat.le_max_right _ _)⟩
     .have e:(VD k j c r q).map trD=(pbN k r).flatMap λp=>(pbN j q).map λa=>trD (p,a,stN c r q):=by
       unfold VD;rw[List.map_flatMap];exact av (λf=>(pbN k r).flatMap f) (funext λp=>bQ)
      rw[e];refine .gather (i0:=8) (i:=9) (E:=λy l=>[aa (pgD tk m rs),aa (pgD tk' m rs'),jN k,jN j,jN c,aa (rwE r),aa (rwE q),jI (stN c r q:Nat),jL l,y]) (en:=λ(p:Nat)=>D.int (p:Int)) (λ_=>rfl) (λ_ _ _=>rfl) (λ_ _=>rfl) (λl=>.call (xs:=[rwE r,.int (k:Int)]) () V2) (λl hl p hp=>.one (.ext rfl (ZeH (l:=pbN j q) (en:=λ(p:Nat)=>D.int (p:Int)) (g:=λa=>trD (p,a,stN c r q)) (.of (x:=.tup ((pbN j q).map λ(x:Nat)=>D.int (x:Int))) (.call (xs:=[rwE q,.int (j:Int)]) () V2) λst=>rfl) (by have:=Qj (k:=j) (r:=q);omega) λa ha=>.cons () (.cons () (.cons () .nil))))) ?_
      rw[<-e,aD];have:=QI (k:=k) (j:=j) (c:=c) (r:=r) (q:=q);omega
def V3(f:Rs m rs)(a:Rs m rs')(g:m<=60)(l:c < 2 ^ m):CX 7 122 [pgD tk m rs,pgD tk' m rs',.int (k:Int),.int (j:Int),.int (c:Int)] (Zgx m rs rs' k j c):=by
 obtain⟨o,u,_,_,h⟩:=Vc (tk:=tk) (tk':=tk') (k:=k) (j:=j) f a g;obtain⟨d,i,e,n⟩:=h c l;refine⟨d,i,?_⟩;cases q:fvO o u k j c with
 |none=>exact .inl (by rw[e,q];rfl)
 |some b=>exact .inr ⟨b,by rw[e,q];rfl,n b q⟩
def VS{b:Nat}(h:∀ i,b.testBit i=ae->c.testBit i=ae)(d:rdO b r=ae):rdO c r=ae:=bZ.mpr λp a=>by
 have:=bZ.mp d p a;cases e:p.2 with
 |nm i=>rw[e]at this;exact h i this
 |nu v=>rfl
def Zcb{b:Nat}(h:∀ i,b.testBit i=ae->c.testBit i=ae)(a:eaB b o u=ae):eaB c o u=ae:=by
 unfold eaB at a ⊢
 rw[Ba]at a ⊢;refine⟨a.1,?_⟩;cases o with
 |none=>rfl
 |some r=>exact VS h a.2
def Zb3{b:Nat}(h:∀ i,b.testBit i=ae->c.testBit i=ae)(a:caB b r q=ae):caB c r q=ae:=by
 cases r with
 |ifr y g z t=>cases q with
  |ifr e f d j=>
   have a:(Zt [opE y,.str g,opE z] [opE e,.str f,opE d]&&rdO b (.ifr y g z t))=ae:=a;show(Zt [opE y,.str g,opE z] [opE e,.str f,opE d]&&rdO c (.ifr y g z t))=ae;rw[Ba]at a ⊢;exact⟨a.1,VS h a.2⟩
  |_=>cases a
 |_=>cases a
def Wr(i:Nat):(woX c r).testBit i=(c.testBit i&&!(isP r&&ak (i=tgR r))):=by
 cases r with
 |put x y g z=>exact ZbM
 |_=>exact(dZ _).symm
def Zdn{b:Nat}(h:∀ i,b.testBit i=ae->c.testBit i=ae)(i:Nat)(a:(stN b r q).testBit i=ae):(stN c r q).testBit i=ae:=by
 unfold stN at a ⊢
 have w:∀ i,(woX (woX b r) q).testBit i=ae->(woX (woX c r) q).testBit i=ae/\c.testBit i=ae:=λi a=>by
  rw[Wr,Wr,Ba,Ba]at a;rw[Wr,Wr,h i a.1.1,a.1.2,a.2];exact⟨rfl,rfl⟩
 by_cases d:(isP r&&(ak (aa r=aa q)&&rdO b r))=ae
 .rw[aq d]at a
  rw[Ba,Ba]at d;rw[aq (by rw[Ba,Ba];exact⟨d.1,d.2.1,VS h d.2.2⟩)]
  rw[Nat.testBit_or,cB]at a ⊢;exact a.imp (h i) id
 .rw[ar d]at a
  split
  .rw[Nat.testBit_or,(w i a).2];rfl
  .exact(w i a).1
def QJ{b:Nat}(h:∀ i,b.testBit i=ae->c.testBit i=ae):(fvO o u k j c=ab->fvO o u k j b=ab)/\∀ l a,fvO o u k j b=aa l->fvO o u k j c=aa a->∀ p∈a,∃ v∈l,v.1=p.1/\v.2.1=p.2.1/\∀ i,v.2.2.testBit i=ae->p.2.2.testBit i=ae:=by
 unfold fvO;cases n:isE o||isE u with
 |true=>
  rw[aq rfl,aq rfl];refine⟨λe=>?_,λl a _ f p hp=>?_⟩
  .split at e
   .exact nomatch e
   .rename_i q
    exact ar λz=>q (Zcb h z)
  .split at f
   .cases f;exact nomatch hp
   .exact nomatch f
 |false=>
  rw[ar #[],ar #[]]
  rw[fZ]at n;cases o with
  |none=>cases n.1
  |some r=>cases u with
   |none=>cases n.2
   |some q=>
    refine⟨λe=>(nomatch e),λl a B f p hp=>?_⟩
    cases B;cases f
    by_cases m:caB c r q=ae
    .rw[aq m]at hp
     by_cases s:caB b r q=ae
     .rw[aq s]
      rcases aL.mp hp with rfl|hp
      .exact⟨_,Ls,rfl,rfl,h⟩
      .rw[aQ.mp hp];exact⟨_,Lm _ Ls,rfl,rfl,h⟩
     .rw[ar s]
      obtain⟨y,g,z,t,d,rfl,rfl,_⟩:=Qq (vs:=[]) (ws:=[]) (k:=k) (j:=j) m λ_ _=>rfl
      have C:stN b (.ifr y g z t) (.ifr y g z d)=b:=rfl;rcases aL.mp hp with rfl|hp
      .exact⟨(t,d,stN b (.ifr y g z t) (.ifr y g z d)),eD.mpr ⟨t,Ls,aR.mpr ⟨d,Ls,rfl⟩⟩,rfl,rfl,h⟩
      .rw[aQ.mp hp]
       exact⟨(k+1,j+1,stN b (.ifr y g z t) (.ifr y g z d)),eD.mpr ⟨k+1,Lm _ Ls,aR.mpr ⟨j+1,Lm _ Ls,rfl⟩⟩,rfl,rfl,h⟩
    .rw[ar m]at hp
     rw[ar λz=>m (Zb3 h z)]
     obtain⟨x,A,hp⟩:=eD.mp hp;obtain⟨z,w,rfl⟩:=aR.mp hp;exact⟨(x,z,stN b r q),eD.mpr ⟨x,A,aR.mpr ⟨z,w,rfl⟩⟩,rfl,rfl,Zdn h⟩
end
noncomputable abbrev Tr:=Nat×Nat×Nat
def lk:Li Tr->Nat->Nat->Ot Nat
 |[],_,_=>ab
 |t :: a,k,j=>if t.1=k/\t.2.1=j then aa t.2.2 else lk a k j
def pt:Li Tr->Nat->Nat->Nat->Li Tr
 |[],k,j,b=>[(k,j,b)]
 |t :: a,k,j,b=>if t.1=k/\t.2.1=j then (k,j,b) :: a else t :: pt a k j b
def ky(t:Tr):Nat×Nat:=(t.1,t.2.1)
def sb(a:Li Tr):Nat:=(a.map λt=>t.2.2).sum
def Sb(b c:Nat):Prop:=∀ i,b.testBit i=ae->c.testBit i=ae
variable{Lp:Tr->Prop}{M:Nat}
variable{sz':Nat}{ts us:Li Tr}{t u:Tr}{ah:Li (Nat×Nat)}
section
variable{b k' j':Nat}{ws:Li Int}
theorem ZH:∀ {ts:Li Tr},lk ts k j=aa b->(k,j,b)∈ts
 |t :: ts,h=>by
  unfold lk at h;split at h
  .rename_i e;cases h;rw[<-e.1,<-e.2];exact Ls
  .exact Lm _ (ZH h)
theorem Yg:∀ {ts:Li Tr},(k,j)∈ts.map ky->∃ b,lk ts k j=aa b
 |t :: ts,h=>by
  unfold lk;split
  .exact⟨_,rfl⟩
  .rename_i n
   rcases aL.mp h with h|h
   .exact au ⟨(av Prod.fst h).symm,(av Prod.snd h).symm⟩ n
   .exact Yg h
theorem QS:∀ {ts:Li Tr},lk ts k j=ab->∀ t∈ts,¬(t.1=k/\t.2.1=j)
 |t :: ts,h,u,hu=>by
  unfold lk at h;split at h
  .cases h
  .rename_i n
   rcases aL.mp hu with rfl|hu
   .exact n
   .exact QS h u hu
theorem QT:∀ {ts:Li Tr},lk (pt ts k j b) k' j'=if k'=k/\j'=j then aa b else lk ts k' j'
 |[]=>by
  show(if k=k'/\j=j' then aa b else ab)=if k'=k/\j'=j then aa b else ab
  by_cases e:k'=k/\j'=j
  .rw[aq e,aq ⟨e.1.symm,e.2.symm⟩]
  .rw[ar e,ar λh=>e ⟨h.1.symm,h.2.symm⟩]
 |t :: ts=>by
  unfold pt;split
  .rename_i e
   show(if k=k'/\j=j' then aa b else lk ts k' j')=if k'=k/\j'=j then aa b else if t.1=k'/\t.2.1=j' then aa t.2.2 else lk ts k' j'
   rw[e.1,e.2];by_cases c:k'=k/\j'=j
   .rw[aq c,aq ⟨c.1.symm,c.2.symm⟩]
   .have a:¬(k=k'/\j=j'):=λh=>c ⟨h.1.symm,h.2.symm⟩
    rw[ar c,ar a,ar a]
  .rename_i n
   show(if t.1=k'/\t.2.1=j' then aa t.2.2 else lk (pt ts k j b) k' j')=if k'=k/\j'=j then aa b else if t.1=k'/\t.2.1=j' then aa t.2.2 else lk ts k' j'
   rw[QT];by_cases c:t.1=k'/\t.2.1=j'
   .rw[aq c,aq c,ar λh=>n ⟨c.1.trans h.1,c.2.trans h.2⟩]
   .rw[ar c,ar c]
theorem WW:∀ {ts:Li Tr},u∈pt ts k j b->u=(k,j,b)\/u∈ts
 |[],h=>.inl (aQ.mp h)
 |t :: ts,h=>by
  unfold pt at h;split at h
  .rcases aL.mp h with h|h
   .exact .inl h
   .exact .inr (Lm _ h)
  .rcases aL.mp h with rfl|h
   .exact .inr Ls
   .exact(WW h).imp_right (Lm _)
theorem UE:∀ {ts:Li Tr},(ts.map ky).Nodup->((pt ts k j b).map ky).Nodup
 |[],_=>cA.mpr ⟨λh=>(nomatch h),dI⟩
 |t :: ts,h=>by
  have h:(ky t :: ts.map ky).Nodup:=h;unfold pt;split
  .rename_i e
   have e:ky t=(k,j):=by show(t.1,t.2.1)=_;rw[e.1,e.2]
   rw[e]at h;exact h
  .rename_i n
   rw[cA]at h;refine cA.mpr ⟨λq=>?_,UE h.2⟩
   obtain⟨u,hu,a⟩:=aR.mp q;rcases WW hu with rfl|hu
   .exact n ⟨(av Prod.fst a).symm,(av Prod.snd a).symm⟩
   .exact h.1 (aR.mpr ⟨u,hu,a⟩)
theorem WV:∀ {ts:Li Tr}{x:Nat×Nat},x=(k,j)\/x∈ts.map ky->x∈(pt ts k j b).map ky
 |[],x,h=>h.elim (λe=>by rw[e];exact Ls) λh=>nomatch h
 |t :: ts,x,h=>by
  unfold pt;split
  .rename_i e
   have e:ky t=(k,j):=by show(t.1,t.2.1)=_;rw[e.1,e.2]
   rcases h with h|h
   .rw[h];exact Ls
   .rcases aL.mp h with h|h
    .rw[h,e];exact Ls
    .exact Lm _ h
  .rcases h with h|h
   .exact Lm _ (WV (.inl h))
   .rcases aL.mp h with h|h
    .rw[h];exact Ls
    .exact Lm _ (WV (.inr h))
theorem XV:∀ {ts:Li Tr},lk ts k j=aa c->(pt ts k j b).length=ts.length/\sb (pt ts k j b)+c=sb ts+b
 |t :: ts,h=>by
  unfold lk at h;unfold pt;split at h
  .rename_i e
   cases h;rw[aq e];refine⟨rfl,?_⟩;show b+sb ts+t.2.2=t.2.2+sb ts+b;omega
  .rename_i n
   rw[ar n];obtain⟨a,d⟩:=XV h;refine⟨av (·+1) a,?_⟩;show t.2.2+sb (pt ts k j b)+c=t.2.2+sb ts+b;omega
theorem VQ:∀ {ts:Li Tr},lk ts k j=ab->(pt ts k j b).length=ts.length+1/\sb (pt ts k j b)=sb ts+b
 |[],_=>⟨rfl,by show b+0=0+b;omega⟩
 |t :: ts,h=>by
  unfold lk at h;unfold pt;split at h
  .cases h
  .rename_i n
   rw[ar n];obtain⟨a,c⟩:=VQ h;refine⟨av (·+1) a,?_⟩;show t.2.2+sb (pt ts k j b)=t.2.2+sb ts+b;omega
theorem ZdP{α:Type}[DecidableEq α]:∀ {l l':Li α},l.Nodup->(∀ x∈l,x∈l')->l.length<=l'.length
 |[],_,_,_=>aS _
 |x :: l,l',h,c=>by
  rw[cA]at h;have b:=c x Ls;have:=ZdP (l':=l'.erase x) h.2 λz a=>(List.mem_erase_of_ne λe=>h.1 (by rw[<-e];exact a)).mpr (c z (Lm _ a))
  rw[List.length_erase_of_mem b]at this;have:=List.length_pos_of_mem b;rw[aY];omega
noncomputable def Zef(sz sz':Nat):Li (Nat×Nat):=(aj (sz+1)).flatMap λk=>(aj (sz'+1)).map λj=>(k,j)
def JR:(Zef sz sz').length=(sz+1) * (sz'+1):=by
 have h:∀ l:Li Nat,(l.flatMap λk=>(aj (sz'+1)).map λj=>(k,j)).length=l.length * (sz'+1):=λl=>by
  induction l with
  |nil=>exact(Nat.zero_mul _).symm
  |cons x l a=>rw[gE,aG,a,aD,bP,aY,Nat.add_mul,Nat.one_mul,Nat.add_comm]
 unfold Zef;rw[h,bP]
def X9(c:(ts.map ky).Nodup)(d:∀ t∈ts,t.1<=sz/\t.2.1<=sz'/\t.2.2 < 2 ^ m):ts.length<=(sz+1) * (sz'+1):=by
 have:=ZdP (l':=Zef sz sz') c λx a=>by
  obtain⟨t,b,rfl⟩:=aR.mp a;obtain⟨f,e,_⟩:=d t b;exact eD.mpr ⟨t.1,cG.mpr ∅,aR.mpr ⟨t.2.1,cG.mpr ∅,rfl⟩⟩
 rwa [JR,aD]at this
def Cu(ts:Li Tr)(u:Tr):Prop:=∃ b,lk ts u.1 u.2.1=aa b/\Sb b u.2.2
def ZbU(tk tk':D)(m:Nat)(rs rs':Li Rw)(k j b:Nat)(us:Li Tr):Prop:=FolT m rs rs' k j b us/\∀ n s,C (rT (n+7)) s 122 [pgD tk m rs,pgD tk' m rs',.int (k:Int),.int (j:Int),.int (b:Int)] (.tup (us.map trD))
def Cv(tk tk':D)(m:Nat)(rs rs':Li Rw)(ts:Li Tr)(k j b:Nat):Prop:=∃ us,ZbU tk tk' m rs rs' k j b us/\∀ u∈us,Cu ts u
structure Kp(tk tk':D)(m:Nat)(rs rs':List Rw)(K:List Tr):Prop where
 rt:(0,0)∈K.map ky
 bd:∀ t∈K,t.2.2 < 2 ^ m
 cl:∀ k j b,lk K k j=aa b->Cv tk tk' m rs rs' K k j b
def Lw(tk tk':D)(m:Nat)(rs rs':Li Rw)(u:Tr):Prop:=∀ K,Kp tk tk' m rs rs' K->Cu K u
def C.eq{F:Nat->Fn}{s:Za}{f:Nat}{d b:D}(h:C F s f xs d)(c:C F s f xs b):d=b:=by
 obtain⟨_,e,_⟩:=h s .refl;obtain⟨_,a,_⟩:=c s .refl;rw[e]at a;cases a;rfl
theorem Qv:∀ {us vs:Li Tr},us.map trD=vs.map trD->us=vs
 |[],[],_=>rfl
 | (a,b,c) :: us,(k,j,i) :: vs,h=>by
  injection h with d l
  injection d with d
  injection d with g d;injection d with f d;injection d with e _
  injection g with g;injection f with f;injection e with e
  have g:(a:Int)=k:=g;have f:(b:Int)=j:=f;have e:(c:Int)=i:=e;rw[Qv l,show a=k by omega,show b=j by omega,show c=i by omega]
def ZaR:∀ k j b c,Lw tk tk' m rs rs' (k,j,b)->Lw tk tk' m rs rs' (k,j,c)->Lw tk tk' m rs rs' (k,j,b &&& c):=λk j b c l h K f=>by
 obtain⟨x,g,o⟩:=l K f;obtain⟨y,a,n⟩:=h K f;have d:lk K k j=aa x:=g;have a:lk K k j=aa y:=a;rw[d]at a;cases a;exact⟨x,g,λi e=>by show(b &&& c).testBit i=ae;rw[dA,o i e];exact n i e⟩
def ZeJ(z:Rs m rs)(t:Rs m rs')(B:m<=60)(F:c < 2 ^ m)(H:Lw tk tk' m rs rs' (k,j,c)):∃ d,(∀ n s,C (rT (n+7)) s 122 [pgD tk m rs,pgD tk' m rs',.int (k:Int),.int (j:Int),.int (c:Int)] d)/\((d=.non/\∀ K,¬Kp tk tk' m rs rs' K)\/∃ us,d=.tup (us.map trD)/\FolT m rs rs' k j c us/\∀ u∈us,Lw tk tk' m rs rs' u):=by
 obtain⟨o,u,_,_,h⟩:=Vc (tk:=tk) (tk':=tk') (k:=k) (j:=j) z t B;obtain⟨d,E,e,G⟩:=h c F;have g:∀ K,Kp tk tk' m rs rs' K->∃ b us,Sb b c/\fvO o u k j b=aa us/\∀ v∈us,Cu K v:=λK f=>by
  obtain⟨b,y,sb⟩:=H K f;obtain⟨us,⟨_,I⟩,a⟩:=f.cl k j b y;obtain⟨P,w,x,_⟩:=h b (f.bd _ (ZH y));have:=C.eq (w 0 []) (I 0 []);rw[x]at this;cases q:fvO o u k j b with
  |none=>rw[q]at this;exact nomatch this
  |some vs=>
   rw[q]at this
   injection this with this
   exact⟨b,vs,sb,q,λv r=>a v (by rw[<-Qv this];exact r)⟩
 refine⟨d,E,?_⟩;cases q:fvO o u k j c with
 |none=>
  refine .inl ⟨by rw[e,q];rfl,λK f=>?_⟩
  obtain⟨b,us,sb,l,_⟩:=g K f;rw[(QJ sb).1 q]at l;exact nomatch l
 |some us=>
  refine .inr ⟨us,by rw[e,q];rfl,G us q,λp A K f=>?_⟩
  obtain⟨b,vs,sb,l,a⟩:=g K f;obtain⟨v,r,N,x,M⟩:=(QJ sb).2 vs us l q p A;obtain⟨O,L,J⟩:=a v r;exact⟨O,by rw[<-N,<-x];exact L,λi D=>M i (J i D)⟩
def mu(m sz sz':Nat)(ts:Li Tr)(ah:Li (Nat×Nat)):Nat:=2 * (sb ts+2 ^ m * ((sz+1) * (sz'+1) - ts.length))+ah.length
structure In(Lp:Tr->Prop)(tk tk':D)(m sz sz':Nat)(rs rs':List Rw)(p:Tr)(M:Nat)(ts:List Tr)(ah:List (Nat×Nat))(dn:List Tr):Prop where
 nd:(ts.map ky).Nodup
 bd:∀ t∈ts,t.1<=sz/\t.2.1<=sz'/\t.2.2 < 2 ^ m
 ai:∀ x∈ah,x∈ts.map ky
 rt:(0,0)∈ts.map ky
 cv:∀ k j b,lk ts k j=aa b->(k,j)∈ah\/Cv tk tk' m rs rs' ts k j b\/(k,j,b)=p
 dn:∀ u∈dn,Cu ts u
 mu:mu m sz sz' ts ah<=M
 lo:∀ t∈ts,Lp t
def s1(x:Li Tr×Li (Nat×Nat))(u:Tr):Li Tr×Li (Nat×Nat):=
 if lk x.1 u.1 u.2.1=aa (u.2.2 &&& (lk x.1 u.1 u.2.1).getD u.2.2) then x else (pt x.1 u.1 u.2.1 (u.2.2 &&& (lk x.1 u.1 u.2.1).getD u.2.2),x.2++[(u.1,u.2.1)])
def Zfd:Sb (b &&& c) b:=λi h=>by rw[dA,Ba]at h;exact h.1
def Zdk:Sb (b &&& c) c:=λi h=>by rw[dA,Ba]at h;exact h.2
def In.step{p:Tr}{B:Li Tr}(d:∀ k j b c,Lp (k,j,b)->Lp (k,j,c)->Lp (k,j,b &&& c))(h:In Lp tk tk' m sz sz' rs rs' p M ts ah B)(hu:(u.1<=sz/\u.2.1<=sz'/\u.2.2 < 2 ^ m)/\Lp u):In Lp tk tk' m sz sz' rs rs' p M (s1 (ts,ah) u).1 (s1 (ts,ah) u).2 (B++[u]):=by
 have y:=hu.2;replace hu:=hu.1;unfold s1;generalize a:u.2.2 &&& (lk ts u.1 u.2.1).getD u.2.2=b;have E:Sb b u.2.2:=a ▸ Zfd;have bl:b < 2 ^ m:=by
  rw[<-a];exact gA Nat.and_le_left hu.2.2
 dsimp only;split
 .rename_i e
  exact⟨h.nd,h.bd,h.ai,h.rt,h.cv,λv hv=>(bC.mp hv).elim (h.dn v) λq=>by rw[aQ.mp q];exact⟨b,e,E⟩,h.mu,h.lo⟩
 .rename_i e
  have l:∀ c,lk ts u.1 u.2.1=aa c->Sb b c:=λc q=>by rw[<-a,q];exact Zdk
  have C:∀ v,Cu ts v->Cu (pt ts u.1 u.2.1 b) v:=λv ⟨c,n,A⟩=>by
   unfold Cu;rw[QT];by_cases q:v.1=u.1/\v.2.1=u.2.1
   .rw[aq q]
    rw[q.1,q.2]at n;exact⟨b,rfl,λi H=>A i (l c n i H)⟩
   .rw[ar q];exact⟨c,n,A⟩
  have o:=UE (k:=u.1) (j:=u.2.1) (b:=b) h.nd;have D:∀ t∈pt ts u.1 u.2.1 b,t.1<=sz/\t.2.1<=sz'/\t.2.2 < 2 ^ m:=λt ht=>by
   rcases WW ht with rfl|ht
   .exact⟨hu.1,hu.2.1,bl⟩
   .exact h.bd t ht
  have F:=X9 o D;have lo:∀ t∈pt ts u.1 u.2.1 b,Lp t:=λt ht=>by
   rcases WW ht with rfl|ht
   .rw[<-a]
    cases q:lk ts u.1 u.2.1 with
    |none=>show Lp (u.1,u.2.1,u.2.2 &&& u.2.2);rw[Nat.and_self];exact y
    |some c=>exact d _ _ _ _ y (h.lo _ (ZH q))
   .exact h.lo t ht
  refine⟨o,D,λx hx=>?_,WV (.inr h.rt),λk j c q=>?_,λv hv=>?_,?_,lo⟩
  .rcases bC.mp hx with hx|hx
   .exact WV (.inr (h.ai x hx))
   .exact WV (.inl (aQ.mp hx))
  .rw[QT]at q
   split at q
   .rename_i z
    exact .inl (bU _ (by rw[z.1,z.2];exact Ls))
   .rcases h.cv k j c q with z|⟨us,f,z⟩|z
    .exact .inl (eH _ z)
    .exact .inr (.inl ⟨us,f,λv hv=>C v (z v hv)⟩)
    .exact .inr (.inr z)
  .rcases bC.mp hv with hv|hv
   .exact C v (h.dn v hv)
   .rw[aQ.mp hv]
    exact⟨b,by rw[QT,aq ⟨rfl,rfl⟩],E⟩
  .have s:=h.mu
   unfold Dp.mu at s ⊢
   rw[aG];show 2 * (sb (pt ts u.1 u.2.1 b)+2 ^ m * ((sz+1) * (sz'+1) - (pt ts u.1 u.2.1 b).length))+(ah.length+1)<=M;cases q:lk ts u.1 u.2.1 with
   |some c=>
    obtain⟨g,r⟩:=XV (b:=b) q;rw[g];have:b<=c:=by rw[<-a,q];exact Nat.and_le_right
    have:b≠c:=λz=>e (by rw[q,z])
    omega
   |none=>
    obtain⟨g,r⟩:=VQ (b:=b) q;rw[g,r];rw[g]at F;obtain⟨w,G⟩:∃ w,(sz+1) * (sz'+1) - ts.length=w+1:=⟨(sz+1) * (sz'+1) - ts.length - 1,∅⟩
    rw[show(sz+1) * (sz'+1) - (ts.length+1)=w by omega]
    rw[G,Nat.mul_succ]at s;omega
structure Cl(Lp:Tr->Prop)(tk tk':D)(m sz sz':Nat)(rs rs':List Rw)(ts:List Tr):Prop where
 nd:(ts.map ky).Nodup
 bd:∀ t∈ts,t.1<=sz/\t.2.1<=sz'/\t.2.2 < 2 ^ m
 rt:(0,0)∈ts.map ky
 cv:∀ k j b,lk ts k j=aa b->Cv tk tk' m rs rs' ts k j b
 lo:∀ t∈ts,Lp t
def ZdN(h:mv rs k vs=.inl noD):rs.length<=k:=by
 unfold mv at h;cases q:rs[k]? with
 |none=>exact List.getElem?_eq_none_iff.mp q
 |some r=>
  rw[q]at h;cases r with
  |tell y=>
   have h:Sum.inl (teD (woI vs y))=(Sum.inl noD:Sum D (Nat×Li Int)):=h
   injection h with h
   exact au (ZA h) (by decide +kernel)
  |_=>cases h
def ZaU(h:rs.length<=k):mv rs k vs=.inl noD:=by unfold mv;rw[dF h]
theorem Cl.oc{Lp:Tr->Prop}(h:Cl Lp tk tk' m sz sz' rs rs' ts)(t:Rs m rs)(e:Rs m rs'):∀ (L k j b:Nat) (vs ws:Li Int),lk ts k j=aa b->Vs m vs->Vs m ws->Ag b vs ws->oc rs L k vs=oc rs' L j ws
 |0,k,j,b,vs,ws,n,l,g,a=>by
  obtain⟨us,f,_⟩:=h.cv k j b n;have:=f.1.s vs ws l g a;unfold Dp.oc;by_cases c:rs.length<=k
  .rw[aq c]
   rw[ZaU c]at this;cases q:mv rs' j ws with
   |inl o=>rw[q]at this;rw[aq (ZdN (q.trans (av Sum.inl (show noD=o from this).symm)))]
   |inr p=>rw[q]at this;exact this.elim
  .rw[ar c]
   by_cases w:rs'.length<=j
   .rw[ZaU w]at this
    cases q:mv rs k vs with
    |inl o=>rw[q]at this;exact au (ZdN (q.trans (av Sum.inl (show o=noD from this)))) c
    |inr p=>rw[q]at this;exact this.elim
   .rw[ar w]
 |L+1,k,j,b,vs,ws,n,l,g,a=>by
  obtain⟨us,f,D⟩:=h.cv k j b n;have:=f.1.s vs ws l g a;unfold Dp.oc;cases q:mv rs k vs with
  |inl o=>cases d:mv rs' j ws with
   |inl x=>rw[q,d]at this;exact this
   |inr p=>rw[q,d]at this;exact this.elim
  |inr p=>cases d:mv rs' j ws with
   |inl x=>rw[q,d]at this;exact this.elim
   |inr r=>
    rw[q,d]at this;obtain⟨u,y,C,B,E⟩:=this;obtain⟨c,v,A⟩:=D u y;rw[C,B]at v;exact h.oc t e L p.1 r.1 c p.2 r.2 v (QY l t q) (QY g e d) λi z=>E i (A i z)
def Cl.same(h:Cl Lp tk tk' m sz sz' rs rs' ts)(d:Rs m rs)(a:Rs m rs')(c:Vs m vs)(L:Nat):Dp.oc rs L 0 vs=Dp.oc rs' L 0 vs:=by
 obtain⟨b,e⟩:=Yg h.rt;exact h.oc d a L 0 0 b vs vs e c c λ_ _=>rfl
end
noncomputable def prN(p:Nat×Nat):D:=.tup [.int (p.1:Int),.int (p.2:Int)]
noncomputable def iN(b:Nat):D:=.int (b:Int)
def bI:CS:=.y 9 (.bin .BitAnd (.v 8) (.dgN (.v 2) (.g (.a 6 (.s 7))) (.v 8)))
 (.z (.ite (.cmp .NotEq (.dgN (.v 2) (.g (.a 6 (.s 7))) (.c .non)) (.v 9)) (.seq (.dput 2 (.v 6) (.v 7) (.v 9))
 (.z (.app 3 (.g (.a 6 (.s 7)))))) .skip))
def cW:CE:=.cmp .Gt (.len (.v 3)) (.i 0)
def bW:CS:=.y 4 (.pop (.v 3))
 (.y 5 (.f 122 (.a 0 (.a 1 (.aC (.x 4 0) (.aC (.x 4 1) (.u (.ix (.v 2) (.v 4))))))))
 (.seq (.ite (.cmp .Is (.v 5) (.c .non)) (.q (.c .non)) .skip)
 (.z (.for4 6 7 8 (.v 5) bI))))
variable{A B:D}{M:Nat}{dn:Li Tr}{x4 x5 x6 x7 x8 x9:Ot D}
section
variable{b q:Nat}{p:Tr}
noncomputable def En(A B:D)(q w:Nat)(x4 x5 x6 x7 x8 x9:Ot D):Env:=[aa A,aa B,aa (.dic q),jL w,x4,x5,x6,x7,x8,x9]
def isk:isK (k:Int) (j:Int) (trD u)=ak (u.1=k/\u.2.1=j):=by
 show(ak ((u.1:Int)=(k:Int))&&ak ((u.2.1:Int)=(j:Int)))=_;rw[<-Bool.decide_and];exact decide_eq_decide.mpr ⟨λh=>⟨Int.ofNat.inj h.1,Int.ofNat.inj h.2⟩,λh=>⟨av Int.ofNat h.1,av Int.ofNat h.2⟩⟩
theorem Ul:∀ {ts:Li Tr},Yj (ts.map trD) (k:Int) (j:Int)=(lk ts k j).map iN
 |[]=>rfl
 |t :: ts=>by
  unfold Yj lk;rw[aZ,dQ,isk];by_cases h:t.1=k/\t.2.1=j
  .rw[aq h,aF h];rfl
  .rw[ar h,aI h];exact Ul
theorem VP:∀ {ts:Li Tr},lk ts k j=ab->pt ts k j b=ts++[(k,j,b)]
 |[],_=>rfl
 |t :: ts,h=>by
  unfold lk at h;split at h
  .cases h
  .rename_i n
   unfold pt;rw[ar n,VP h];rfl
theorem Zbl:∀ {ts:Li Tr},(ts.map ky).Nodup->lk ts k j=aa c->(ts.map trD).map (λe=>if isK (k:Int) (j:Int) e=ae then D.tup [.int (k:Int),.int (j:Int),.int (b:Int)] else e)=(pt ts k j b).map trD
 |t :: ts,a,h=>by
  have a:(ky t :: ts.map ky).Nodup:=a;rw[cA]at a;unfold lk at h;unfold pt;rw[aZ,aZ,isk];split at h
  .rename_i e
   rw[aq e,aq (aF e),aZ];refine av (D.tup [.int (k:Int),.int (j:Int),.int (b:Int)] :: ·) ?_;rw[bQ];refine List.map_congr_left λu d=>?_
   show(if isK (k:Int) (j:Int) (trD u)=ae then _ else trD u)=trD u
   rw[isk,ar λz=>a.1 ?_]
   have z:=ao z;exact aR.mpr ⟨u,d,by show(u.1,u.2.1)=(t.1,t.2.1);rw[z.1,z.2,e.1,e.2]⟩
  .rename_i n
   rw[ar n,ar (λz=>n (ao z)),aZ,Zbl a.2 h]
def Wl(nd:(ts.map ky).Nodup):XI (ts.map trD) (k:Int) (j:Int) (.int (b:Int))=(pt ts k j b).map trD:=by
 unfold XI;cases h:lk ts k j with
 |none=>
  rw[ar λz=>?_,VP h,cL];rfl
  obtain⟨e,d,z⟩:=List.any_eq_true.mp z;obtain⟨u,a,rfl⟩:=aR.mp d;rw[isk]at z;exact QS h u a (ao z)
 |some c=>
  rw[aq (List.any_eq_true.mpr ⟨trD (k,j,c),aR.mpr ⟨_,ZH h,rfl⟩,by rw[isk];exact aF ⟨rfl,rfl⟩⟩)]
  exact Zbl nd h
def Xg(a:st[q]?=aa (ae,ts.map trD)):dAt [.int (k:Int),.int (j:Int)] q st=aa ((lk ts k j).map iN):=by
 show o2 (λ(p:Int×Int) (c:Y5)=>Yj c.2 p.1 p.2) (aa ((k:Int),(j:Int))) st[q]?=_
 rw[a];show aa (Yj (ts.map trD) (k:Int) (j:Int))=_;rw[Ul]
def Y.dg{a:CE}(l:s[q]?=aa (ae,ts.map trD))(p:Y F s a U (.dic q)){kk:CE}(n:Y F s kk U (.tup [.int (k:Int),.int (j:Int)]))(m:Y F s e U d):Y F s (.dgN a kk e) U (((lk ts k j).map iN).getD d):=λst g=>by
 obtain⟨s1,u,b⟩:=p st g;obtain⟨i,t,f⟩:=n s1 (g.trans b);obtain⟨c,r,h⟩:=m i (g.trans (b.trans f));refine⟨c,?_,b.trans (f.trans h)⟩;show Yl (ev F a) (ev F kk) (ev F e) gtD U st=_;unfold Yl;simp only[u,t,r];show(dAt [.int (k:Int),.int (j:Int)] q c).map (λo=>(o.getD d,c))=_
 rw[Xg ((g.trans (b.trans (f.trans h))).get l)];rfl
def ZP{b:Y5}(g:Grw s st)(h:s.length<=q):Grw s (st.set q b):=⟨λi a=>by rw[bR ∅];exact g.old i a,by rw[bO];exact g.len⟩
def ZcB(nd:(ts.map ky).Nodup)(S:ts.length<=400)(T:ah.length<=19000)(ne:q≠w)(x:st[q]?=aa (ae,ts.map trD))(O:st[w]?=aa (ae,ah.map prN))(L:s.length<=q)(K:s.length<=w)(g:Grw s st) :
  ∃ p st',ex F bI (En A B q w x4 x5 (jN u.1) (jN u.2.1) (jN u.2.2) x9) st=aa (.nx (En A B q w x4 x5 (jN u.1) (jN u.2.1) (jN u.2.2) p),st')/\Grw s st'/\st'[q]?=aa (ae,(s1 (ts,ah) u).1.map trD)/\st'[w]?=aa (ae,(s1 (ts,ah) u).2.map prN):=by
 have N:((lk ts u.1 u.2.1).map iN).getD (.int (u.2.2:Int))=.int (((lk ts u.1 u.2.1).getD u.2.2:Nat):Int):=by cases lk ts u.1 u.2.1<;>rfl
 have C:=Y.dg (F:=F) (s:=st) (a:=.v 2) (kk:=.g (.a 6 (.s 7))) (e:=.v 8) (U:=En A B q w x4 x5 (jN u.1) (jN u.2.1) (jN u.2.2) x9) (k:=u.1) (j:=u.2.1) (d:=.int (u.2.2:Int)) x () () ();rw[N]at C;obtain⟨t,z,l⟩:=Y.band (c:=u.2.2) (a:=.v 8) () C st .refl;generalize M:u.2.2 &&& (lk ts u.1 u.2.1).getD u.2.2=v at z
 have I:=Y.dg (F:=F) (s:=t) (a:=.v 2) (kk:=.g (.a 6 (.s 7))) (e:=.c .non) (U:=En A B q w x4 x5 (jN u.1) (jN u.2.1) (jN u.2.2) (jN v)) (k:=u.1) (j:=u.2.1) (d:=.non) (l.get x) () () ();have H:Y F t (.cmp .NotEq (.dgN (.v 2) (.g (.a 6 (.s 7))) (.c .non)) (.v 9)) (En A B q w x4 x5 (jN u.1) (jN u.2.1) (jN u.2.2) (jN v)) (.bl (!decide (lk ts u.1 u.2.1=aa v))):=.cmp (y:=.int (v:Int)) I () λst=>by
  cases lk ts u.1 u.2.1 with
  |none=>rfl
  |some c=>
   show aa (!decide ((c:Int)=(v:Int)))=aa (!decide (aa c=aa v));have e:ak ((c:Int)=(v:Int))=ak (aa c=aa v):=decide_eq_decide.mpr ⟨λh=>av aa ∅,λh=>by injection h with h;omega⟩
   rw[e]
 obtain⟨b,o,n⟩:=H t .refl;unfold s1;dsimp only;rw[M];have f:=(l.trans n).get x;have m:=(l.trans n).get O;by_cases c:lk ts u.1 u.2.1=aa v
 .rw[aF c]at o
  rw[aq c];exact⟨_,b,(Zc (Zh z)).trans ((Zc ((YJ o).trans Zf)).trans Zf),g.trans (l.trans n),f,m⟩
 .rw[aI c]at o
  rw[ar c];have R:ex F (.dput 2 (.v 6) (.v 7) (.v 9)) (En A B q w x4 x5 (jN u.1) (jN u.2.1) (jN u.2.2) (jN v)) b=aa (.nx (En A B q w x4 x5 (jN u.1) (jN u.2.1) (jN u.2.2) (jN v)),b.set q (ae,(pt ts u.1 u.2.1 v).map trD)):=by
   show(match b[q]? with
    |some (ae,D)=>if D.length < Zg then aa (Fl.nx _,b.set q (ae,XI D (u.1:Int) (u.2.1:Int) (.int (v:Int)))) else ab
    |_=>ab)=_
   rw[f];show(if (ts.map trD).length < Zg then _ else _)=_
   rw[aq (by rw[aD];unfold Zg;omega),Wl nd]
  have G:q < b.length:=Zy f;obtain⟨J,Q,E,P⟩:=Ap.app (F:=F) (s:=b.set q (ae,(pt ts u.1 u.2.1 v).map trD)) (j:=w) (i:=3) (e:=.g (.a 6 (.s 7))) (U:=En A B q w x4 x5 (jN u.1) (jN u.2.1) (jN u.2.2) (jN v)) (d:=prN (u.1,u.2.1)) rfl () _ (ah.map prN) .refl (by rw[bR ne];exact m) (by rw[aD];show _+1<=90000;omega)
  refine⟨_,J,(Zc (Zh z)).trans ((Zc ((ZL o).trans ((Zc R).trans ((Zc Q).trans Zf)))).trans Zf),E.grw K (ZP (g.trans (l.trans n)) L),?_,by rw[P,cL];rfl⟩
  rw[E.old q (by rw[bO];exact G) ne,bM G]
theorem QM{Lp:Tr->Prop}(a:∀ k j b c,Lp (k,j,b)->Lp (k,j,c)->Lp (k,j,b &&& c))(I:(sz+1) * (sz'+1)<=400)(K:M<=19000)(ne:q≠w)(r:s.length<=q)(o:s.length<=w):∀ (us dn ts:Li Tr) (ah:Li (Nat×Nat)) (st:Za) (x6 x7 x8 x9:Ot D),(∀ u∈us,(u.1<=sz/\u.2.1<=sz'/\u.2.2 < 2 ^ m)/\Lp u)->In Lp tk tk' m sz sz' rs rs' p M ts ah dn->st[q]?=aa (ae,ts.map trD)->st[w]?=aa (ae,ah.map prN)->Grw s st->
  ∃ i h f d st',Zj (Xq 6 7 8 (ex F bI)) (us.map trD) (En A B q w x4 x5 x6 x7 x8 x9) st=aa (.nx (En A B q w x4 x5 i h f d),st')/\Grw s st'/\st'[q]?=aa (ae,(us.foldl s1 (ts,ah)).1.map trD)/\st'[w]?=aa (ae,(us.foldl s1 (ts,ah)).2.map prN)
 |[],dn,ts,ah,st,x6,x7,x8,x9,_,_,n,l,g=>⟨x6,x7,x8,x9,st,rfl,g,n,l⟩
 |u :: us,dn,ts,ah,st,x6,x7,x8,x9,t,e,n,l,g=>by
  have S:=X9 e.nd e.bd;have H:=e.mu;unfold mu at H;obtain⟨d,G,N,g1,R,P⟩:=ZcB (F:=F) (A:=A) (B:=B) (x4:=x4) (x5:=x5) (u:=u) (x9:=x9) e.nd ∅ ∅ ne n l r o g
  obtain⟨C,z,y,x,E,L,g2,Q,O⟩:=QM a I K ne r o us (dn++[u]) _ _ G (jN u.1) (jN u.2.1) (jN u.2.2) d (λv J=>t v (Lm _ J)) (e.step a (t u Ls)) R P g1
  refine⟨C,z,y,x,E,?_,g2,Q,O⟩;show(match ex F bI (En A B q w x4 x5 (jN u.1) (jN u.2.1) (jN u.2.2) x9) st with
   |some (.nx U',st')=>Zj (Xq 6 7 8 (ex F bI)) (us.map trD) U' st'
   |some (.ct U',st')=>Zj (Xq 6 7 8 (ex F bI)) (us.map trD) U' st'
   |some (.bk U',st')=>aa (.nx U',st')
   |some (.rt v,st')=>aa (.rt v,st')
   |none=>ab)=_
  rw[N];exact L
theorem In.all(a:∀ k j b c,Lp (k,j,b)->Lp (k,j,c)->Lp (k,j,b &&& c)):∀ {us dn ts:Li Tr}{ah:Li (Nat×Nat)},(∀ u∈us,(u.1<=sz/\u.2.1<=sz'/\u.2.2 < 2 ^ m)/\Lp u)->In Lp tk tk' m sz sz' rs rs' p M ts ah dn->In Lp tk tk' m sz sz' rs rs' p M (us.foldl s1 (ts,ah)).1 (us.foldl s1 (ts,ah)).2 (dn++us)
 |[],dn,ts,ah,_,h=>by rw[bD];exact h
 |u :: us,dn,ts,ah,d,h=>by
  have:=In.all a (us:=us) (λv e=>d v (Lm _ e)) (h.step a (d u Ls))
  rw[aM]at this;exact this
structure Ou(Lp:Tr->Prop)(tk tk':D)(m sz sz':Nat)(rs rs':List Rw)(M:Nat)(ts:List Tr)(ah:List (Nat×Nat)):Prop where
 nd:(ts.map ky).Nodup
 bd:∀ t∈ts,t.1<=sz/\t.2.1<=sz'/\t.2.2 < 2 ^ m
 ai:∀ x∈ah,x∈ts.map ky
 rt:(0,0)∈ts.map ky
 cv:∀ k j b,lk ts k j=aa b->(k,j)∈ah\/Cv tk tk' m rs rs' ts k j b
 mu:mu m sz sz' ts ah<=M
 lo:∀ t∈ts,Lp t
def wl(hz:(sz+1) * (sz'+1)<=400)(hr:Rs m rs)(hr':Rs m rs')(h1:rs.length=sz)(h2:rs'.length=sz')(hm:m<=60):∀ (M:Nat) (ts:Li Tr) (ah:Li (Nat×Nat)),M<=19000->Ou (Lw tk tk' m rs rs') tk tk' m sz sz' rs rs' M ts ah->∃ r:Ot (Li Tr),(∀ E,r=aa E->Cl (Lw tk tk' m rs rs') tk tk' m sz sz' rs rs' E)/\(r=ab->∀ K,¬Kp tk tk' m rs rs' K)/\∀ (n l:Nat),M < l->∀ (s st:Za) (q w:Nat) (x4 x5 x6 x7 x8 x9:Ot D),q≠w->s.length<=q->s.length<=w->st[q]?=aa (ae,ts.map trD)->st[w]?=aa (ae,ah.map prN)->Grw s st->
  ∃ st',Grw s st'/\match r with
   |none=>Z1 (ev (rT (n+7)) cW) (ex (rT (n+7)) bW) l (En (pgD tk m rs) (pgD tk' m rs') q w x4 x5 x6 x7 x8 x9) st=aa (.rt .non,st')
   |some E=>(∃ y4 y5 W V T S,Z1 (ev (rT (n+7)) cW) (ex (rT (n+7)) bW) l (En (pgD tk m rs) (pgD tk' m rs') q w x4 x5 x6 x7 x8 x9) st=aa (.nx (En (pgD tk m rs) (pgD tk' m rs') q w y4 y5 W V T S),st'))/\st'[q]?=aa (ae,E.map trD):=λM=>by
 induction M using Nat.strongRecOn with
 |_ M ih=>
  intro ts ah hM h;rcases List.eq_nil_or_concat ah with rfl|⟨t,p,O⟩
  .refine⟨aa ts,λE e=>by cases e;exact⟨h.nd,h.bd,h.rt,λk j b q=>(h.cv k j b q).resolve_left λz=>(nomatch z),h.lo⟩,λe=>(nomatch e),λn l hf s st q w x4 x5 x6 x7 x8 x9 ne Q J R L g=>?_⟩
   obtain⟨f,rfl⟩:∃ f,l=f+1:=⟨l - 1,∅⟩
   obtain⟨t1,e1,k1⟩:=Y.cmp (F:=rT (n+7)) (s:=st) (op:=.Gt) (a:=.len (.v 3)) (b:=.i 0) (U:=En (pgD tk m rs) (pgD tk' m rs') q w x4 x5 x6 x7 x8 x9) (x:=.int 0) (y:=.int 0) (k:=af) (.lenl L ()) () (λ_=>rfl) st .refl
   refine⟨t1,g.trans k1,⟨x4,x5,x6,x7,x8,x9,?_⟩,k1.get R⟩;show Yb (ev _ cW) _ _ _ st=_;unfold Yb;rw[show ev (rT (n+7)) cW _ st=_ from e1]
  .rw[List.concat_eq_append]at O
   subst O;obtain⟨M,rfl⟩:∃ N,M=N+1:=⟨M - 1,by
    have hm:=h.mu;unfold mu at hm;rw[aG]at hm;show M=M - 1+1;have:[p].length=1:=rfl;omega⟩
   replace ih:=ih M (eI M);obtain⟨c,H⟩:=Yg (h.ai p (bU _ Ls));have hcb:=(h.bd _ (ZH H)).2.2;obtain⟨d,hd,hP⟩:=ZeJ hr hr' hm hcb (h.lo _ (ZH H));have X:=h.mu
   -- a turn up to the triples
   have turn:∀ (n:Nat) (s st:Za) (q w:Nat) (x4 x5 x6 x7 x8 x9:Ot D),q≠w->s.length<=q->s.length<=w->st[q]?=aa (ae,ts.map trD)->st[w]?=aa (ae,(t++[p]).map prN)->Grw s st->∃ o G,ev (rT (n+7)) cW (En (pgD tk m rs) (pgD tk' m rs') q w x4 x5 x6 x7 x8 x9) st=aa (.bl ae,o)/\Grw s G/\G[q]?=aa (ae,ts.map trD)/\G[w]?=aa (ae,t.map prN)/\∀ P,ex (rT (n+7)) (.y 4 (.pop (.v 3)) (.y 5 (.f 122 (.a 0 (.a 1 (.aC (.x 4 0) (.aC (.x 4 1) (.u (.ix (.v 2) (.v 4)))))))) P)) (En (pgD tk m rs) (pgD tk' m rs') q w x4 x5 x6 x7 x8 x9) o=ex (rT (n+7)) P (En (pgD tk m rs) (pgD tk' m rs') q w (aa (prN p)) (aa d) x6 x7 x8 x9) G:=λn s st q w x4 x5 x6 x7 x8 x9 ne Q J R L g=>by
    have hl:((t++[p]).map prN).length=t.length+1:=by rw[aD,aG];rfl
    obtain⟨o,O,k0⟩:=Y.cmp (F:=rT (n+7)) (s:=st) (op:=.Gt) (a:=.len (.v 3)) (b:=.i 0) (U:=En (pgD tk m rs) (pgD tk' m rs') q w x4 x5 x6 x7 x8 x9) (x:=.int (((t++[p]).map prN).length:Int)) (y:=.int 0) (k:=ae) (.lenl L ()) () (λ_=>by
     show aa (ak ((0:Int) < (((t++[p]).map prN).length:Int)))=_;rw[hl,aF ∅]) st .refl
    have b0:=k0.get L;have hw:w < o.length:=Zy b0;have e1:ev (rT (n+7)) (.pop (.v 3)) (En (pgD tk m rs) (pgD tk' m rs') q w x4 x5 x6 x7 x8 x9) o=aa (prN p,o.set w (ae,t.map prN)):=by
     show ZcU (.lst w) o=_;show(match o[w]? with
      |some (ae,xs)=>(xs[xs.length - 1]?).map λd=>(d,o.set w (ae,xs.dropLast))
      |_=>ab)=_
     rw[b0];show(((t++[p]).map prN)[((t++[p]).map prN).length - 1]?).map (λd=>(d,o.set w (ae,((t++[p]).map prN).dropLast)))=_
     rw[hl,cL,List.map_singleton,List.dropLast_concat,bE (by rw[aD];omega),aD,eZ,eP];rfl
    have g2:Grw s (o.set w (ae,t.map prN)):=ZP (g.trans k0) J;have a2:(o.set w (ae,t.map prN))[q]?=aa (ae,ts.map trD):=by rw[bR (Ne.symm ne)];exact k0.get R
    have b2:(o.set w (ae,t.map prN))[w]?=aa (ae,t.map prN):=bM hw;generalize o.set w (ae,t.map prN)=t2 at *
    have yi:Y (rT (n+7)) t2 (.ix (.v 2) (.v 4)) (En (pgD tk m rs) (pgD tk' m rs') q w (aa (prN p)) x5 x6 x7 x8 x9) (.int (c:Int)):=Dp.g2 (a:=.v 2) (b:=.v 4) (x:=.dic q) (y:=prN p) () () (gs λst k=>by
     show ixR (.dic q) (prN p) st=_;unfold ixR;show(match ((dAt [.int (p.1:Int),.int (p.2:Int)] q st).join) with|some d=>aa (d,st)|none=>ab)=_
     rw[Xg (k.get a2),H];rfl)
    obtain⟨G,Z,k3⟩:=Y.call (F:=rT (n+7)) (s:=t2) (f:=122) (a:=.a 0 (.a 1 (.aC (.x 4 0) (.aC (.x 4 1) (.u (.ix (.v 2) (.v 4))))))) (U:=En (pgD tk m rs) (pgD tk' m rs') q w (aa (prN p)) x5 x6 x7 x8 x9) (xs:=[pgD tk m rs,pgD tk' m rs',.int (p.1:Int),.int (p.2:Int),.int (c:Int)]) (ds:=[]) (.cons () (.cons () (.cons () (.cons () (.cons yi .nil))))) (hd n t2) t2 .refl
    exact⟨o,G,O,g2.trans k3,k3.get a2,k3.get b2,λP=>(Zc (Zh e1)).trans (Zc (Zh Z))⟩
   rcases hP with⟨rfl,noK⟩|⟨us,rfl,fT,lw⟩
   .refine⟨ab,λE e=>(nomatch e),λ_=>noK,λn l hf s st q w x4 x5 x6 x7 x8 x9 ne Q J R L g=>?_⟩
    obtain⟨f,rfl⟩:∃ f,l=f+1:=⟨l - 1,∅⟩
    obtain⟨o,G,O,g3,a3,b3,Z⟩:=turn n s st q w x4 x5 x6 x7 x8 x9 ne Q J R L g;refine⟨G,g3,?_⟩;show Yb (ev _ cW) (ZR (ex _ bW) _) _ _ st=_;unfold Yb;rw[O];show ZR (ex _ bW) _ _ o=_;unfold ZR;rw[show ex (rT (n+7)) bW _ o=aa (.rt .non,G) from(Z _).trans (Zn ((ZL rfl).trans (Zn (ZQ rfl))))]
   .have hI:In (Lw tk tk' m rs rs') tk tk' m sz sz' rs rs' (p.1,p.2,c) M ts t []:=⟨h.nd,h.bd,λx hx=>h.ai x (eH _ hx),h.rt,λk j b z=>by
     rcases h.cv k j b z with z2|z2
     .rcases bC.mp z2 with z2|z2
      .exact .inl z2
      .have z2:=aQ.mp z2
       rw[<-z2]at H;have H:lk ts k j=aa c:=H;rw[z]at H
       injection H with H
       exact .inr (.inr (by rw[<-z2,H]))
     .exact .inr (.inl z2),λu I=>(nomatch I),by
     unfold mu at X ⊢
     rw[aG]at X;have:([p]:Li (Nat×Nat)).length=1:=rfl;omega,h.lo⟩
    have I:∀ u∈us,(u.1<=sz/\u.2.1<=sz'/\u.2.2 < 2 ^ m)/\Lw tk tk' m rs rs' u:=λu I=>by
     have:=fT.b u I;rw[h1,h2]at this;exact⟨this,lw u I⟩
    have C:=In.all ZaR I hI;have hO:Ou (Lw tk tk' m rs rs') tk tk' m sz sz' rs rs' M (us.foldl s1 (ts,t)).1 (us.foldl s1 (ts,t)).2:=⟨C.nd,C.bd,C.ai,C.rt,λk j b z=>by
     rcases C.cv k j b z with z2|z2|z2
     .exact .inl z2
     .exact .inr z2
     .cases z2
      exact .inr ⟨us,⟨fT,hd⟩,λu I=>C.dn u (bU _ I)⟩,C.mu,C.lo⟩
    obtain⟨r,hr1,hr0,hr2⟩:=ih _ _ ∅ hO
    refine⟨r,hr1,hr0,λn l hf s st q w x4 x5 x6 x7 x8 x9 ne Q J R L g=>?_⟩
    obtain⟨f,rfl⟩:∃ f,l=f+1:=⟨l - 1,∅⟩
    obtain⟨o,G,O,g3,a3,b3,Z⟩:=turn n s st q w x4 x5 x6 x7 x8 x9 ne Q J R L g;obtain⟨W,V,T,S,t4,e4,g4,a4,b4⟩:=QM ZaR (F:=rT (n+7)) (A:=pgD tk m rs) (B:=pgD tk' m rs') (x4:=aa (prN p)) (x5:=aa (.tup (us.map trD))) hz (show M<=19000 by omega) ne Q J us [] ts t G x6 x7 x8 x9 I hI a3 b3 g3
    obtain⟨t5,g5,h5⟩:=hr2 n f ∅ s t4 q w (aa (prN p)) (aa (.tup (us.map trD))) W V T S ne Q J a4 b4 g4
    have e5:ex (rT (n+7)) (.for4 6 7 8 (.v 5) bI) (En (pgD tk m rs) (pgD tk' m rs') q w (aa (prN p)) (aa (.tup (us.map trD))) x6 x7 x8 x9) G=aa (.nx (En (pgD tk m rs) (pgD tk' m rs') q w (aa (prN p)) (aa (.tup (us.map trD))) W V T S),t4):=e4;have eb:ex (rT (n+7)) bW (En (pgD tk m rs) (pgD tk' m rs') q w x4 x5 x6 x7 x8 x9) o=aa (.nx (En (pgD tk m rs) (pgD tk' m rs') q w (aa (prN p)) (aa (.tup (us.map trD))) W V T S),t4):=(Z _).trans ((Zc ((YJ rfl).trans Zf)).trans ((Zc e5).trans Zf))
    have ew:Z1 (ev (rT (n+7)) cW) (ex (rT (n+7)) bW) (f+1) (En (pgD tk m rs) (pgD tk' m rs') q w x4 x5 x6 x7 x8 x9) st=Z1 (ev (rT (n+7)) cW) (ex (rT (n+7)) bW) f (En (pgD tk m rs) (pgD tk' m rs') q w (aa (prN p)) (aa (.tup (us.map trD))) W V T S) t4:=by
     show Yb (ev _ cW) (ZR (ex _ bW) _) _ _ st=_;unfold Yb;rw[O];show ZR (ex _ bW) _ _ o=_;unfold ZR;rw[eb]
    refine⟨t5,g5,?_⟩;cases r with
    |none=>rw[ew];exact h5
    |some E=>rw[ew];exact h5
end
def UD{β:Type}{b:Li (Int×Int)}{g:α->β}{z:α}{z':β}{a:Li α}(h:a.length=b.length):ZW b z' (a.map g)=(ZW b z a).map g:=by
 unfold ZW;rw[bQ];refine List.map_congr_left λi c=>?_
 have:=XU i c;show(a.map g).getD i z'=g (a.getD i z);rw[aP,aP,aV,Lg ∅];rfl
def JA{b:Li (Int×Int)}{z:α}{a:Li α}(h:a.length=b.length):(ZW b z a).Perm a:=by
 have p:=(Yv b).map λi=>a.getD i z
 have e:(aj b.length).map (λi=>a.getD i z)=a:=List.ext_getElem (by rw[aD,bP,h]) λi d c=>by rw[List.getElem_map,List.getElem_range,aP,Lg c];rfl
 exact p.trans (.of_eq e)
def Ris(ks:Li (Nat×Nat)):Prop:=ks.Pairwise λa b=>a.1 * 1000+a.2 < b.1 * 1000+b.2
theorem QR{α:Type}{a:α->D}{P:α->Prop}:∀ {ys:Li D},(∀ d∈ys,∃ r,d=a r/\P r)->∃ rs:Li α,ys=rs.map a/\∀ r∈rs,P r
 |[],_=>⟨[],rfl,λ_ h=>nomatch h⟩
 |y :: ys,h=>by
  obtain⟨r,rfl,c⟩:=h y Ls;obtain⟨rs,rfl,b⟩:=QR λd e=>h d (Lm _ e)
  exact⟨r :: rs,rfl,λx hx=>by
   rcases aL.mp hx with rfl|hx
   .exact c
   .exact b x hx⟩
def Zgz(e a:D)(m sz f:Nat)(rs b:Li Rw)(d:D):Prop:=(d=.non/\∀ K,¬Kp e a m rs b K)\/∃ c:Li Tr,d=.tup (c.map trD)/\Cl (Lw e a m rs b) e a m sz f rs b c/\Ris (c.map ky)
section
variable{q a b:Nat}{ks:Li (Nat×Nat)}
theorem ZdJ:∀ {ks:Li (Nat×Nat)},lk (ks.map λk=>(k.1,k.2,(lk ts k.1 k.2).getD 0)) a b=if (a,b)∈ks then aa ((lk ts a b).getD 0) else ab
 |[]=>rfl
 |k :: ks=>by
  show(if k.1=a/\k.2=b then aa ((lk ts k.1 k.2).getD 0) else lk (ks.map λk=>(k.1,k.2,(lk ts k.1 k.2).getD 0)) a b)=_
  by_cases c:k.1=a/\k.2=b
  .have e:k=(a,b):=Prod.ext c.1 c.2
   rw[aq c,aq (by rw[e];exact Ls),c.1,c.2]
  .rw[ar c,ZdJ]
   by_cases z:(a,b)∈ks
   .rw[aq z,aq (Lm _ z)]
   .rw[ar z,ar λh=>(aL.mp h).elim (λe=>c ⟨(av Prod.fst e).symm,(av Prod.snd e).symm⟩) z]
def Cl.of(h:Cl Lp tk tk' m sz sz' rs rs' ts)(p:ks.Perm (ts.map ky)):Cl Lp tk tk' m sz sz' rs rs' (ks.map λk=>(k.1,k.2,(lk ts k.1 k.2).getD 0)):=by
 have n:∀ a b,lk (ks.map λk=>(k.1,k.2,(lk ts k.1 k.2).getD 0)) a b=lk ts a b:=λa b=>by
  rw[ZdJ];cases q:lk ts a b with
  |none=>exact ar λz=>by obtain⟨c,i⟩:=Yg (p.mem_iff.mp z);rw[q]at i;cases i
  |some c=>exact aq (p.mem_iff.mpr (aR.mpr ⟨_,ZH q,rfl⟩))
 have l:(ks.map λk=>((k.1,k.2,(lk ts k.1 k.2).getD 0):Tr)).map ky=ks:=by rw[bQ];exact List.map_id _
 refine⟨by rw[l];exact p.nodup_iff.mpr h.nd,λt e=>?_,by rw[l];exact p.mem_iff.mpr h.rt,λk j b q=>?_,λt e=>?_⟩
 .obtain⟨k,g,rfl⟩:=aR.mp e
  obtain⟨b,d⟩:=Yg (p.mem_iff.mp g);show k.1<=sz/\k.2<=sz'/\(lk ts k.1 k.2).getD 0 < 2 ^ m;rw[d];exact h.bd _ (ZH d)
 .rw[n]at q
  obtain⟨o,f,z⟩:=h.cv k j b q;exact⟨o,f,λu r=>by obtain⟨c,v,s⟩:=z u r;exact⟨c,by rw[n];exact v,s⟩⟩
 .obtain⟨k,g,rfl⟩:=aR.mp e
  obtain⟨b,d⟩:=Yg (p.mem_iff.mp g);rw[d];exact h.lo _ (ZH d)
def Wo:Zw (ts.map trD)=(ts.map ky).map λk=>((k.1:Int),(k.2:Int)):=by
 unfold Zw;rw[bQ,bQ];rfl
def ZeG(nd:(ts.map ky).Nodup)(c:∀ k∈ts.map ky,k.1 < 1000/\k.2 < 1000):okP (Zw (ts.map trD))=ae:=by
 rw[Wo];generalize ts.map ky=ks at *
 unfold okP;rw[Ba];refine⟨bZ.mpr λp d=>?_,aF ?_⟩
 .obtain⟨k,f,rfl⟩:=aR.mp d
  have:=c k f;exact aF ⟨∅,by show(k.1:Int) < 1000;omega,by show 0<=(k.2:Int);omega,by show(k.2:Int) < 1000;omega⟩
 .rw[bQ]
  refine fX.mpr ((List.Pairwise.and_mem.mp nd).imp λ{a b} h e=>?_)
  have i:=c a h.1;have g:=c b h.2.1;refine h.2.2 (Prod.ext ?_ ?_)
  all_goals
   simp only[Function.comp,VO]at e;omega
def UP(nd:(ts.map ky).Nodup)(x:∀ k∈ts.map ky,k.1 < 1000/\k.2 < 1000)(r:ts.length<=400):∃ ks:Li (Nat×Nat),ks.Perm (ts.map ky)/\Ris ks/\∀ F s q (U:Env) i,U[i]?=aa (aa (.dic q))->s[q]?=aa (ae,ts.map trD)->Wk F s (.ksrt (.v i)) U Vq (ks.map prN):=by
 have o:(Zw (ts.map trD)).map prD=(ts.map ky).map prN:=by
  rw[Wo,bQ];rfl
 have m:(ts.map ky).length=(Zw (ts.map trD)).length:=by rw[Wo,aD (as:=ts.map ky)]
 have ok:=ZeG nd x;refine⟨ZW (Zw (ts.map trD)) (0,0) (ts.map ky),JA m,?_,λF s q U i n p st g=>?_⟩
 .unfold Ris ZW
  refine fX.mpr ((List.Pairwise.and_mem.mp (Q2 ok)).imp λ{a b} h=>?_)
  have y:=XU a h.1;have n:=XU b h.2.1;have u:=h.2.2;have f:∀ i,i < (ts.map ky).length->atP (Zw (ts.map trD)) i=(((ts.map ky).getD i (0,0)).1:Int) * 1000+(((ts.map ky).getD i (0,0)).2:Int):=λi t=>by
   unfold atP;rw[Wo,aP,aP,aV,Lg t];rfl
  rw[f a ∅,f b ∅]at u
  omega
 rw[<-UD (z':=.non) m,<-o];generalize e:ZW (Zw (ts.map trD)) .non ((Zw (ts.map trD)).map prD)=ds;have l:∀ d∈ds,Jt d=ae:=λd l=>by
  rw[<-e,o,UD (z:=(0,0)) m]at l;obtain⟨k,_,rfl⟩:=aR.mp l;rfl
 refine⟨.lst st.length,st++[(ae,ds)],λs=>s[st.length]?=aa (ae,ds),?_,.push,?_,λst' w=>w.get Zp⟩
 .show Zl (Z4 i) QP U st=_
  unfold Zl Z4;rw[n];show(match st[q]? with
   |some (_,j)=>if j.length<=400/\okP (Zw j)=ae then aa (D.lst st.length,st++[(ae,ZW (Zw j) D.non ((Zw j).map prD))]) else ab
   |none=>ab)=_
  rw[g.get p];show(if (ts.map trD).length<=400/\okP (Zw (ts.map trD))=ae then _ else ab)=_
  rw[aq ⟨by rw[aD];exact r,ok⟩,e]
 .show(match (st++[(ae,ds)])[st.length]? with
   |some c=>if c.2.all Jt=ae then aa (c.2,λs=>s[st.length]?=aa c) else ab
   |none=>ab)=_
  rw[Zp];exact aq (bZ.mpr l)
def Qu(h:Cl Lp tk tk' m sz sz' rs rs' ts)(z:ts.length<=400)(f:sz < 1000/\sz' < 1000):∃ e:Li Tr,(Cl Lp tk tk' m sz sz' rs rs' e/\Ris (e.map ky))/\∀ F s A B q w x4 x5 x6 x7 x8 x9,s[q]?=aa (ae,ts.map trD)->Y F s (.tOf (.compT [2] (.ksrt (.v 2)) (.g (.a 0 (.a 1 (.u (.ix (.v 2) (.g (.a 0 (.s 1)))))))) (.c (.bl ae)))) (En A B q w x4 x5 x6 x7 x8 x9) (.tup (e.map trD)):=by
 obtain⟨ks,i,p,D⟩:=UP h.nd (λk C=>by obtain⟨t,o,rfl⟩:=aR.mp C;have:=h.bd t o;exact⟨by show t.1 < _;omega,by show t.2.1 < _;omega⟩) z
 have n:=i.length_eq;rw[aD]at n;refine⟨_,⟨h.of i,by rw[bQ];exact(List.Pairwise.map _ (λ_ _=>id) p)⟩,λF s A B q w x4 x5 x6 x7 x8 x9 f=>?_⟩
 rw[bQ];refine Lv.tof (Wb (U:=En A B q w x4 x5 x6 x7 x8 x9) (b:=two) (wk:=Vq) (fr:=[2]) (en:=prN) (D F s q _ 2 rfl f) ∅ λk j=>?_)
 obtain⟨b,l⟩:=Yg (i.mem_iff.mp j);show Y F s _ [jN k.1,jN k.2,aa (.dic q)] (trD (k.1,k.2,(lk ts k.1 k.2).getD 0));rw[l];exact .cons () (.cons () (.cons (Dp.g2 (a:=.v 2) (b:=.g (.a 0 (.s 1))) (x:=.dic q) (y:=prN k) () () (gs λst g=>by
  show(match ((dAt [.int (k.1:Int),.int (k.2:Int)] q st).join) with|some d=>aa (d,st)|none=>ab)=_
  rw[Xg (g.get f),l];rfl)) .nil))
def ZfN{e:CE}{v:D}{a:Za}(h:ev F e U (st++[(ae,[])])=aa (v,a))(c:a[st.length]?=aa (ae,[])):ev F (.dd (.i 0) (.i 0) e) U st=aa (.dic st.length,a.set st.length (ae,[.tup [.int 0,.int 0,v]])):=by
 have b:∀ s,ev F (.i 0) U s=aa (.int 0,s):=λ_=>rfl
 show ddE (ev F (.i 0)) (ev F (.i 0)) (ev F e) U st=_;unfold ddE;simp only[b,h,c];rw[aq (by unfold Zg;decide)]
 rfl
def ZaS{b:Nat}:mu m sz sz' [(0,0,b)] [(0,0)]=2 * (b+2 ^ m * ((sz+1) * (sz'+1) - 1))+1:=by
 exact rfl
def ZdM{a:Nat}(h:a * ((sz+1) * (sz'+1))<=9000)(c:1<=a):2 * (a - 1+a * ((sz+1) * (sz'+1) - 1))+1<=19000:=by
 obtain⟨v,b⟩:∃ v,(sz+1) * (sz'+1)=v+1:=⟨(sz+1) * (sz'+1) - 1,by have:1<=(sz+1) * (sz'+1):=eE (Nat.le_add_left 1 sz) (Nat.le_add_left 1 sz');omega⟩
 rw[b,Nat.mul_succ]at h;rw[b,eZ];omega
def ZbT(hr:Rs m rs)(H:Rs m rs')(h1:rs.length=sz)(h2:rs'.length=sz')(X:m<=60)(hz:(sz+1) * (sz'+1)<=400)(hs:sz < 1000/\sz' < 1000)(hB:2 ^ m * ((sz+1) * (sz'+1))<=9000):CX 8 201 [pgD tk m rs,pgD tk' m rs'] (Zgz tk tk' m sz sz' rs rs'):=by
 have p2:1<=2 ^ m:=Nat.one_le_two_pow;obtain⟨M,A⟩:∃ M,M=19000:=⟨_,rfl⟩;have hO:Ou (Lw tk tk' m rs rs') tk tk' m sz sz' rs rs' M [(0,0,2 ^ m - 1)] [(0,0)]:=by
  refine⟨cA.mpr ⟨λh=>(nomatch h),dI⟩,λt D=>?_,λx hx=>hx,Ls,λk j b q=>?_,?_,λt D=>?_⟩
  .rw[aQ.mp D];exact⟨aS _,aS _,by show 2 ^ m - 1 < 2 ^ m;omega⟩
  .have:=ZH q
   have:=aQ.mp this;cases this;exact .inl Ls
  .exact aK (cU ZaS) (A ▸ ZdM hB p2)
  .rw[aQ.mp D]
   intro K hK;obtain⟨c,z⟩:=Yg hK.rt;refine⟨c,z,λi Z=>?_⟩
   have hb:=hK.bd _ (ZH z);show(2 ^ m - 1).testBit i=ae;rw[Nat.testBit_two_pow_sub_one];refine aF ?_;rcases dW i m with q|q
   .exact q
   .rw[Nat.testBit_lt_two_pow (aW hb (gG ∅ q))]at Z
    exact nomatch Z
 obtain⟨r,E,G,o⟩:=wl (tk:=tk) (show(sz+1) * (sz'+1)<=400 by omega) hr H h1 h2 X M _ _ (cU A) hO
 -- up to the loop
 have pre:∀ (n:Nat) (st:Za),∃ t q w,st.length<=q/\st.length<=w/\q≠w/\Grw st t/\t[q]?=aa (ae,[(0,0,2 ^ m - 1)].map trD)/\t[w]?=aa (ae,[(0,0)].map prN)/\∀ P,ex (rT (n+7)) (.y 2 (.dd (.i 0) (.i 0) (.f 56 (.u (.x 0 1)))) (.y 3 (.lstE (.u (.g (.aC (.i 0) (.u (.i 0)))))) P)) [aa (pgD tk m rs),aa (pgD tk' m rs'),ab,ab,ab,ab,ab,ab,ab,ab] st=ex (rT (n+7)) P (En (pgD tk m rs) (pgD tk' m rs') q w ab ab ab ab ab ab) t:=λn st=>by
  obtain⟨d,J,p⟩:=Y.call1 (F:=rT (n+7)) (s:=st++[(ae,[])]) (f:=56) (a:=.x 0 1) (x:=.int (m:Int)) (U:=[aa (pgD tk m rs),aa (pgD tk' m rs'),ab,ab,ab,ab,ab,ab,ab,ab]) () (Zd4 (n:=n+5) X) _ .refl;have c3:d[st.length]?=aa (ae,[]):=p.get Zp;have ed:ev (rT (n+7)) (.dd (.i 0) (.i 0) (.f 56 (.u (.x 0 1)))) [aa (pgD tk m rs),aa (pgD tk' m rs'),ab,ab,ab,ab,ab,ab,ab,ab] st=aa (.dic st.length,d.set st.length (ae,[(0,0,2 ^ m - 1)].map trD)):=by
   exact ZfN J c3
  have hl:st.length < d.length:=Zy c3;have ll:(d.set st.length (ae,[(0,0,2 ^ m - 1)].map trD)).length=d.length:=bO;have gg:Grw st (d.set st.length (ae,[(0,0,2 ^ m - 1)].map trD)):=ZP (Grw.push.trans p) (aB _);have c4:(d.set st.length (ae,[(0,0,2 ^ m - 1)].map trD))[st.length]?=aa (ae,[(0,0,2 ^ m - 1)].map trD):=bM hl
  generalize d.set st.length (ae,[(0,0,2 ^ m - 1)].map trD)=t4 at *
  refine⟨t4++[(ae,[(0,0)].map prN)],st.length,t4.length,aB _,∅,∅,gg.trans .push,Grw.push.get c4,Zp,λP=>?_⟩
  exact(Zc (Zh ed)).trans (Zc (Zh rfl))
 cases r with
 |none=>
  refine⟨.non,λn s=>.of (v:=Yi) rfl rfl λst g=>?_,.inl ⟨rfl,G rfl⟩⟩
  obtain⟨t,q,w,C,B,ne,I,a,b,e⟩:=pre n st;obtain⟨l,g2,L⟩:=o n 20000 (by rw[A];decide) st t q w ab ab ab ab ab ab ne C B a b I
  exact⟨l,(e _).trans (Zn L),g2⟩
 |some ts=>
  have N:=E ts rfl;have tl:=X9 N.nd N.bd;obtain⟨W,z,hu⟩:=Qu N ∅ hs
  refine⟨.tup (W.map trD),λn s=>.of (v:=Yi) rfl rfl λst g=>?_,.inr ⟨W,rfl,z⟩⟩
  obtain⟨t,q,w,C,B,ne,I,a,b,e⟩:=pre n st;obtain⟨l,g2,⟨V,T,S,R,Q,O,L⟩,c2⟩:=o n 20000 (by rw[A];decide) st t q w ab ab ab ab ab ab ne C B a b I
  obtain⟨d,J,p⟩:=hu (rT (n+7)) l (pgD tk m rs) (pgD tk' m rs') q w V T S R Q O c2 l .refl;have e4:ex (rT (n+7)) (.whl cW bW) (En (pgD tk m rs) (pgD tk' m rs') q w ab ab ab ab ab ab) t=aa (.nx (En (pgD tk m rs) (pgD tk' m rs') q w V T S R Q O),l):=L;exact⟨d,(e _).trans ((Zc e4).trans (Zn (ZQ J))),g2.trans p⟩
end
def fwO(d a:D)(m:Nat)(rs b:Li Rw)(t:Tr):Ot (Li Tr):=
 open Classical in if h:∃ c,ZbU d a m rs b t.1 t.2.1 t.2.2 c then aa h.choose else ab
def stB(K:Li Tr)(u:Tr):Bool:=match lk K u.1 u.2.1 with
 |none=>af
 |some b=>ak (b &&& u.2.2=b)
def wkB(d a:D)(m:Nat)(rs b:Li Rw)(K:Li Tr)(t:Tr):Bool:=match fwO d a m rs b t with
 |none=>af
 |some c=>c.all (stB K)
def knW(a:Li Tr):Li Tr:=a.foldl (λK t=>pt K t.1 t.2.1 t.2.2) []
def kB(d b:D)(m:Nat)(rs c:Li Rw)(a:Li Tr):Bool:=(ak ((knW a).length=a.length)&&(lk (knW a) 0 0).isSome)&&a.all (wkB d b m rs c (knW a))
variable{ws K:Li Tr}{bb:Bool}
section
variable{P:D}{q:Nat}{vs:Li Tr}
def ZfU(g:Rs m rs)(a:Rs m rs')(i:m<=60)(l:t.2.2 < 2 ^ m):(∀ n s,C (rT (n+7)) s 122 [pgD tk m rs,pgD tk' m rs',.int (t.1:Int),.int (t.2.1:Int),.int (t.2.2:Int)] (foD (fwO tk tk' m rs rs' t)))/\∀ us,fwO tk tk' m rs rs' t=aa us->FolT m rs rs' t.1 t.2.1 t.2.2 us:=by
 obtain⟨d,c,o⟩:=V3 (tk:=tk) (tk':=tk') (k:=t.1) (j:=t.2.1) g a i l;unfold fwO;split
 .rename_i h
  have b:=h.choose_spec;exact⟨λn s=>b.2 n s,λus e=>by cases e;exact b.1⟩
 .rename_i h
  rcases o with rfl|⟨us,rfl,f⟩
  .exact⟨λn s=>c n s,λus e=>nomatch e⟩
  .exact au ⟨us,f,c⟩ h
def JM:C (rT (n+1)) s 45 [.int (c:Int),.int (k:Int)] (.bl (ak (c &&& k=c))):=.of (v:=YR) rfl rfl (.ret (.cmp (.band () ()) () λ_=>by
 show aa (ak (((c &&& k:Nat):Int)=(c:Int)))=_;rw[decide_eq_decide.mpr Int.ofNat_inj]))
def JK(a:s[q]?=aa (ae,K.map trD)):C (rT (n+2)) s 202 [trD u,.dic q] (.bl (stB K u)):=by
 have f:stB K u=((lk K u.1 u.2.1).isSome&&ak ((lk K u.1 u.2.1).getD 0 &&& u.2.2=(lk K u.1 u.2.1).getD 0)):=by
  unfold stB;cases lk K u.1 u.2.1<;>rfl
 rw[f];refine .of (v:=WD) rfl rfl (.set (x:=prN (u.1,u.2.1)) (.tkT (i:=2) (xs:=[.int (u.1:Int),.int (u.2.1:Int),.int (u.2.2:Int)]) () () (show 2<=3 by decide)) (.ret (.and ?_ λc=>.call (xs:=[.int (((lk K u.1 u.2.1).getD 0:Nat):Int),.int (u.2.2:Int)]) (.cons ?_ (.cons (.ixt (j:=2) (xs:=[.int (u.1:Int),.int (u.2.1:Int),.int (u.2.2:Int)]) () () rfl) .nil)) JM)))
 .exact Dp.g2 (x:=prN (u.1,u.2.1)) (y:=.dic q) () () (gs λst g=>by
   show(match (dAt [.int (u.1:Int),.int (u.2.1:Int)] q st).map Option.isSome with|some k=>aa (D.bl k,st)|none=>ab)=_
   rw[Xg (g.get a)];cases lk K u.1 u.2.1<;>rfl)
 .obtain⟨b,e⟩:=gJ.mp c
  exact Dp.g2 (x:=.dic q) (y:=prN (u.1,u.2.1)) () () (gs λst g=>by
   show(match ((dAt [.int (u.1:Int),.int (u.2.1:Int)] q st).join) with|some d=>aa (d,st)|none=>ab)=_
   rw[Xg (g.get a),e];rfl)
def JL(c:s[q]?=aa (ae,K.map trD))(d:Rs m rs)(a:Rs m rs')(e:m<=60)(o:t.2.2 < 2 ^ m):C (rT (n+8)) s 203 [pgD tk m rs,pgD tk' m rs',trD t,.dic q] (.bl (wkB tk tk' m rs rs' K t)):=by
 obtain⟨w,p⟩:=ZfU (tk:=tk) (tk':=tk') d a e o;refine .of (v:=Xd) rfl rfl (.set (.call (xs:=[pgD tk m rs,pgD tk' m rs',.int (t.1:Int),.int (t.2.1:Int),.int (t.2.2:Int)]) (.cons () (.cons () (.cons (.ixt (j:=0) (xs:=[.int (t.1:Int),.int (t.2.1:Int),.int (t.2.2:Int)]) () () rfl) (.cons (.ixt (j:=1) (xs:=[.int (t.1:Int),.int (t.2.1:Int),.int (t.2.2:Int)]) () () rfl) (.cons (.ixt (j:=2) (xs:=[.int (t.1:Int),.int (t.2.1:Int),.int (t.2.2:Int)]) () () rfl) .nil))))) (w n s)) ?_)
 unfold wkB;cases i:fwO tk tk' m rs rs' t with
 |none=>exact .ret (.and (k:=af) (m:=af) () λh=>nomatch h)
 |some us=>
  have f:=p us i;exact .ret (.and (k:=ae) (m:=us.all (stB K)) () λ_=>Y.all (g:=stB K) (Wb (b:=one) (wk:=YB af) (fr:=[3]) (en:=trD) (.of (x:=.tup (us.map trD)) () λ_=>rfl) (by have:=f.l;omega) λu y=>.call (xs:=[trD u,.dic q]) () (JK (n:=n+5) c)))
theorem WL:∀ {vs ws:Li Tr},(ws.map ky).Nodup->((vs.foldl (λK t=>pt K t.1 t.2.1 t.2.2) ws).map ky).Nodup/\(vs.foldl (λK t=>pt K t.1 t.2.1 t.2.2) ws).length<=ws.length+vs.length
 |[],ws,h=>⟨h,aB _⟩
 |v :: vs,ws,h=>by
  have r:=WL (vs:=vs) (ws:=pt ws v.1 v.2.1 v.2.2) (UE h);refine⟨r.1,aK r.2 ?_⟩;rw[aY];cases z:lk ws v.1 v.2.1 with
  |none=>rw[(VQ (b:=v.2.2) z).1];omega
  |some c=>rw[(XV (b:=v.2.2) z).1];omega
theorem WM{x0 x1 x2:Ot D}{tl:Env}(f:s.length<=q):∀ {vs ws:Li Tr}{y4 y5 y6:Ot D}{st:Za},(ws.map ky).Nodup->ws.length+vs.length<=1000->Grw s st->st[q]?=aa (ae,ws.map trD)->∃ c b a st',Zj (Xq 4 5 6 (ex F (.z (.dput 3 (.v 4) (.v 5) (.v 6))))) (vs.map trD) (x0 :: x1 :: x2 :: aa (.dic q) :: y4 :: y5 :: y6 :: tl) st=aa (.nx (x0 :: x1 :: x2 :: aa (.dic q) :: c :: b :: a :: tl),st')/\Grw s st'/\st'[q]?=aa (ae,(vs.foldl (λK t=>pt K t.1 t.2.1 t.2.2) ws).map trD)
 |[],ws,y4,y5,y6,st,_,_,g,h=>⟨y4,y5,y6,st,rfl,g,h⟩
 |v :: vs,ws,y4,y5,y6,st,d,m,g,h=>by
  rw[aY]at m;have e:ex F (.dput 3 (.v 4) (.v 5) (.v 6)) (x0 :: x1 :: x2 :: aa (.dic q) :: jN v.1 :: jN v.2.1 :: jN v.2.2 :: tl) st=aa (.nx (x0 :: x1 :: x2 :: aa (.dic q) :: jN v.1 :: jN v.2.1 :: jN v.2.2 :: tl),st.set q (ae,(pt ws v.1 v.2.1 v.2.2).map trD)):=by
   show(match st[q]? with
    |some (ae,xs)=>if xs.length < Zg then aa (Fl.nx _,st.set q (ae,XI xs (v.1:Int) (v.2.1:Int) (.int (v.2.2:Int)))) else ab
    |_=>ab)=_
   rw[h];show(if (ws.map trD).length < Zg then _ else _)=_
   rw[aq (by rw[aD];unfold Zg;omega),Wl d]
  have k:=WL (vs:=[v]) d;obtain⟨l,j,i,t,o,g2,n⟩:=WM f (vs:=vs) (ws:=pt ws v.1 v.2.1 v.2.2) (y4:=jN v.1) (y5:=jN v.2.1) (y6:=jN v.2.2) k.1 (aK (Nat.add_le_add_right k.2 _) (by show _+1+_<=_;omega)) (ZP g f) (bM (Zy h))
  refine⟨l,j,i,t,?_,g2,n⟩;show(match ex F (.z (.dput 3 (.v 4) (.v 5) (.v 6))) (x0 :: x1 :: x2 :: aa (.dic q) :: jN v.1 :: jN v.2.1 :: jN v.2.2 :: tl) st with
   |some (.nx U',st')=>Zj (Xq 4 5 6 (ex F (.z (.dput 3 (.v 4) (.v 5) (.v 6))))) (vs.map trD) U' st'
   |some (.ct U',st')=>Zj (Xq 4 5 6 (ex F (.z (.dput 3 (.v 4) (.v 5) (.v 6))))) (vs.map trD) U' st'
   |some (.bk U',st')=>aa (.nx U',st')
   |some (.rt v,st')=>aa (.rt v,st')
   |none=>ab)=_
  rw[show ex F (.z (.dput 3 (.v 4) (.v 5) (.v 6))) _ st=_ from(Zc e).trans Zf];exact o
def Y.lenq(h:s[q]?=aa (ae,K.map trD))(b:Y F s a U (.dic q)):Y F s (.len a) U (.int (K.length:Int)):=Dp.g1 (x:=.dic q) b (gs λst' g=>by
 show Qc (.dic q) st'=_;unfold Qc ZcH;simp only[g.get h,aD])
def Y.noq(h:s[q]?=aa (ae,K.map trD))(d:Y F s a U (prN (k,j)))(c:Y F s b U (.dic q)):Y F s (.cmp .NotIn a b) U (.bl (!(lk K k j).isSome)):=Dp.g2 (x:=prN (k,j)) (y:=.dic q) d c (gs λst' g=>by
 show(match ((dAt [.int (k:Int),.int (j:Int)] q st').map Option.isSome).map Bool.not with|some k=>aa (D.bl k,st')|none=>ab)=_
 rw[Xg (g.get h)];cases lk K k j<;>rfl)
def Zd6(p:Rs m rs)(h:Rs m rs')(w:m<=60)(y:∀ t∈us,t.2.2 < 2 ^ m)(E:us.length<=900):C (rT (n+9)) s 204 [pgD tk m rs,pgD tk' m rs',.tup (us.map trD)] (.bl (kB tk tk' m rs rs' us)):=.of (v:=YU) rfl rfl λst g=>by
 obtain⟨y4,y5,y6,t,D,g1,e⟩:=WM (F:=rT (n+8)) (x0:=aa (pgD tk m rs)) (x1:=aa (pgD tk' m rs')) (x2:=aa (.tup (us.map trD))) (tl:=[]) (s:=st) (q:=st.length) (aB _) (vs:=us) (ws:=[]) (y4:=ab) (y5:=ab) (y6:=ab) (st:=st++[(ae,[])]) dI (by show 0+_<=_;omega) .push Zp
 have e:t[st.length]?=aa (ae,(knW us).map trD):=e;have d:(us.map trD).length=us.length:=aD ..;have f:Y (rT (n+8)) t (.or (.cmp .NotEq (.len (.v 3)) (.len (.v 2))) (.cmp .NotIn (.g (.aC (.i 0) (.u (.i 0)))) (.v 3))) [aa (pgD tk m rs),aa (pgD tk' m rs'),aa (.tup (us.map trD)),aa (.dic st.length),y4,y5,y6] (.bl (!(ak ((knW us).length=us.length)&&(lk (knW us) 0 0).isSome))):=by
  rw[Bool.not_and];exact .or (.cmp (x:=.int ((knW us).length:Int)) (.lenq e ()) (.lnT ()) λ_=>by
   show aa (!decide (((knW us).length:Int)=((us.map trD).length:Int)))=_;rw[d,decide_eq_decide.mpr Int.ofNat_inj]) λ_=>.noq e () ()
 have a:R (rT (n+8)) t (.seq (.ite (.or (.cmp .NotEq (.len (.v 3)) (.len (.v 2))) (.cmp .NotIn (.g (.aC (.i 0) (.u (.i 0)))) (.v 3))) (.q (.c (.bl af))) .skip) (.q (.all Xh))) [aa (pgD tk m rs),aa (pgD tk' m rs'),aa (.tup (us.map trD)),aa (.dic st.length),y4,y5,y6] (.bl (kB tk tk' m rs rs' us)):=by
  unfold kB;cases j:(ak ((knW us).length=us.length)&&(lk (knW us) 0 0).isSome) with
  |false=>rw[j]at f;exact .yes f ()
  |true=>
   rw[j]at f;exact .no f (.ret (Y.all (g:=wkB tk tk' m rs rs' (knW us)) (Wb (b:=one) (wk:=YB af) (fr:=[3,0,1]) (en:=trD) (.of (x:=.tup (us.map trD)) () λ_=>rfl) ∅ λu o=>.call (xs:=[pgD tk m rs,pgD tk' m rs',trD u,.dic st.length]) () (JL (n:=n) e p h w (y u o)))))
 obtain⟨k,B,l⟩:=a t .refl;have A:ex (rT (n+8)) (.for4 4 5 6 (.v 2) (.z (.dput 3 (.v 4) (.v 5) (.v 6)))) [aa (pgD tk m rs),aa (pgD tk' m rs'),aa (.tup (us.map trD)),aa (.dic st.length),ab,ab,ab] (st++[(ae,[])])=aa (.nx [aa (pgD tk m rs),aa (pgD tk' m rs'),aa (.tup (us.map trD)),aa (.dic st.length),y4,y5,y6],t):=D;exact⟨k,(Zc (Zh (v:=.dic st.length) (st':=st++[(ae,[])]) rfl)).trans ((Zc A).trans B),g1.trans l⟩
end
noncomputable def S0(a:Li Int):Za:=[(af,a.map D.int)]
noncomputable def ceI(a:Li Int)(k:Nat):Int:=if k < a.length then a.getD k 0 else if a=[] then ((k:Int) * k+3 * k+1) * 16807 % 2147483629 else (a.getLastD 0 % 1000003+2) * ((k:Int) * k+16807) % 2147483629
noncomputable def smL:Li Int:=[-1000000000,-999999999,-1,0,1,999999998,999999999]
def smI(c:Int):Int:=if c % 4=0 then c / 4 % 9 - 4 else if c % 4=1 then smL.getD (c / 4 % 7).toNat 0 else c / 4 * 69621 % 2000000000 - 1000000000
def opI(c:Int)(m:Nat):Op:=if 0 < m/\0 < c % 3 then .nm (c / 3 % m).toNat else .nu (smI (c / 3))
def UK(a c d b:Int)(m sz:Nat):Rw:=
 if a % 8 < 4/\0 < m then .put (b % m).toNat (opI c m) (psL.getD (a / 8 % 5).toNat (S "")) (opI d m)
 else if a % 8 < 6 then .ifr (opI c m) (isL.getD (a / 8 % 6).toNat (S "")) (opI d m) (b % (sz+1)).toNat
 else if a % 8=6 then .tell (opI c m)
 else if a / 8 % 2=0 then .go (b % (sz+1)).toNat else .skip
section
variable{c c0 c1 c2 c3:Int}{Q:D->Prop}
def Zgd(g:Grw (S0 ns) s):s[0]?=aa (af,ns.map D.int):=g.get rfl
def Y.lts{i j:Int}(d:Y F s a U (.int i))(c:Y F s b U (.int j)):Y F s (.cmp .Lt a b) U (.bl (ak (i < j))):=.cmp d c λ_=>rfl
def Y.gts{i j:Int}(d:Y F s a U (.int i))(c:Y F s b U (.int j)):Y F s (.cmp .Gt a b) U (.bl (ak (j < i))):=.cmp d c λ_=>rfl
def Y.eqi{i j:Int}(d:Y F s a U (.int i))(c:Y F s b U (.int j)):Y F s (.e a b) U (.bl (ak (i=j))):=.cmp d c λ_=>rfl
def Y.lastL(h:Lv s (ev F a U) xs)(e:xs≠[])(f:xs.length<=100000):Y F s (.ix a (.neg (.i 1))) U (xs.getLastD .non):=λst g=>by
 obtain⟨s1,j,b,l,k,c⟩:=h st g;refine⟨s1,?_,c⟩;show ZE (ev F a) (ev F (.neg (.i 1))) ixR U st=_;unfold ZE;simp only[l];show(match (match s1[j]? with
  |some (_,xs)=>atD xs (-1)
  |none=>ab) with|some d=>aa (d,s1)|none=>ab)=_
 rw[k];show(match atD xs (-1) with|some d=>aa (d,s1)|none=>ab)=_
 rw[ZbY e f]
def JF(l:k<=1000)(u:ns.length<=63):C (rT (n+1)) (S0 ns) 27 [.lst 0,.int (k:Int)] (.int (ceI ns k)):=by
 have h:(S0 ns)[0]?=aa (af,ns.map D.int):=rfl;have f:(ns.map D.int).length=ns.length:=aD ..;have b:ZT (k:Int)=ae:=X5 ∅
 have t:(k:Int) * k<=1000000:=by
  have:k * k<=1000 * 1000:=eE l l;omega
 have p:0<=(k:Int) * k:=Int.mul_nonneg ∅ ∅
 unfold ceI;refine .of (v:=Yq) rfl rfl (.pick (k:=ak ((k:Int) < ((ns.map D.int).length:Int))) (.lts () (.lenl h ())) (λq=>?_) λq=>?_)
 .have q:=ao q
  rw[f]at q;rw[aq ∅]
  refine .ret (.ixl (j:=k) h () () ?_);show(ns.map D.int)[k]?=_;rw[aV,aP,Lg ∅];rfl
 .have q:=am q
  rw[f]at q;rw[ar ∅]
  have o:Y (rT n) (S0 ns) (.e (.v 0) (.lstE .aN)) [jL 0,jN k] (.bl (ak (ns=[]))):=λst g=>by
   refine⟨st++[(ae,[])],?_,.push⟩;show(match (o2 (λ(c d:Y5)=>Jo c.2 d.2) (st++[(ae,[])])[0]? (st++[(ae,[])])[st.length]?).join with|some k=>aa (D.bl k,st++[(ae,[])])|none=>ab)=_
   rw[Zgd (g.trans .push),Zp];cases ns with
   |nil=>rfl
   |cons v ns=>rw[aI (fD _ _)];rfl
  refine .pick o (λz=>?_) λz=>?_
  .rw[aq (ao z)]
   exact .ret (.md (.mul (.add (.add (.mul () () b) (.mul () () b)) ()) () rfl) () #[])
  .have z:=am z
   rw[ar z];have m:Y (rT n) (S0 ns) (.ix (.v 0) (.neg (.i 1))) [jL 0,jN k] (.int (ns.getLastD 0)):=by
    have y:=Y.lastL (F:=rT n) (s:=S0 ns) (a:=.v 0) (U:=[jL 0,jN k]) (xs:=ns.map D.int) (.v h ()) (by cases ns with
     |nil=>exact au rfl z
     |cons v ns=>exact fD _ _) (by rw[f];omega)
    have e:(ns.map D.int).getLastD .non=.int (ns.getLastD 0):=by
     cases ns with
     |nil=>exact au rfl z
     |cons v ns=>rw[aZ,List.getLastD_cons,List.getLastD_cons,List.getLastD_map]
    rw[e]at y;exact y
   exact .ret (.md (.mul (.add (.md m () #[]) ()) (.add (.mul () () b) ()) (X5 ∅)) () #[])
def ZbB:Sm (smI c):=by
 unfold smI;split
 .have h:=Zo (c / 4) (j:=9) #[]
  unfold Sm;omega
 .split
  .have h:=Zo (c / 4) (j:=7) #[]
   have:(c / 4 % 7).toNat < 7:=by omega
   generalize (c / 4 % 7).toNat=i at *
   exact(by unfold Sm smL;decide:∀ i:Nat,i < 7->Sm (smL.getD i 0)) i this
  .have h:=Zo (c / 4 * 69621) (j:=2000000000) #[]
   unfold Sm;omega
def Vv:C (rT (n+1)) s 20 [.int c] (.int (smI c)):=by
 unfold smI;refine .of (v:=YQ) rfl rfl (.pick (.eqi (.md () () #[]) ()) (λq=>?_) λq=>.pick (.eqi (.md () () #[]) ()) (λz=>?_) λz=>?_)
 .rw[aq (ao q)]
  exact .ret (.sub (.md (.fd () () #[]) () #[]) ())
 .rw[ar (am q),aq (ao z)]
  have h:=Zo (c / 4) (j:=7) #[]
  have a:(c / 4 % 7).toNat < smL.length:=by show _ < 7;omega
  refine .ret (.ixL (xs:=smL.map D.int) (j:=(c / 4 % 7).toNat) (.mk ()) (by rw[cF h.1];exact .md (.fd () () #[]) () #[]) ?_)
  rw[aV,aP,Lg a];rfl
 .rw[ar (am q),ar (am z)]
  exact .ret (.sub (.md (.mul (.fd () () #[]) () rfl) () #[]) ())
def UC:Vw m (opI c m):=by
 unfold opI;split
 .rename_i h
  have h:=Zo (c / 3) (j:=(m:Int)) ∅
  show(c / 3 % (m:Int)).toNat < m;omega
 .exact ZbB
def Vd(a:m<=1000):C (rT (n+2)) s 28 [.int c,.int (m:Int)] (opE (opI c m)):=by
 unfold opI;refine .of (v:=Ys) rfl rfl (.pick (.and (.gts () ()) λ_=>.gts (.md () () #[]) ()) (λq=>?_) λq=>?_)
 .rw[Ba,aO,aO]at q
  rw[aq ⟨∅,q.2⟩]
  have h:=Zo (c / 3) (j:=(m:Int)) q.1;show R _ _ _ _ (.tup [.str "name",.int ((c / 3 % (m:Int)).toNat:Int)]);rw[cF h.1];exact .ret (.cons () (.cons (.md (.fd () () #[]) () q.1) .nil))
 .rw[Bool.and_eq_false_iff,decide_eq_false_iff_not,decide_eq_false_iff_not]at q
  rw[ar ∅]
  exact .ret (.cons () (.cons (.call1 (.fd () () #[]) Vv) .nil))
def Uq{l:Li Str}{i:Nat}(h:i < l.length):l.getD i (S "")∈l:=by
 rw[aP,Lg h];exact bN h
def Zbs:RwOk m sz (UK c0 c1 c2 c3 m sz):=by
 have c:=Zo c3 (j:=(sz:Int)+1) ∅
 unfold UK;split
 .rename_i h
  have b:=Zo c3 (j:=(m:Int)) ∅
  have a:=Zo (c0 / 8) (j:=5) #[]
  exact⟨∅,UC,Uq (by show _ < 5;omega),UC⟩
 .split
  .have a:=Zo (c0 / 8) (j:=6) #[]
   exact⟨UC,Uq (by show _ < 6;omega),UC,∅⟩
  .split
   .exact UC
   .split
    .show(c3 % ((sz:Int)+1)).toNat<=sz;omega
    .trivial
def Y.sgn{l:Li Str}{i:Int}(d:Lv s (ev F a U) (l.map D.str))(c:Y F s b U (.int i))(e:0<=i)(f:i < l.length):Y F s (.ix a b) U (.str (l.getD i.toNat (S ""))):=by
 refine .ixL d (j:=i.toNat) (by rw[cF e];exact c) ?_
 rw[aV,aP,Lg ∅];rfl
def Zdv(a:s[j]?=aa (bb,[.int c0,.int c1,.int c2,.int c3]))(o:m<=1000)(y:sz<=1000):C (rT (n+3)) s 29 [.lst j,.int (m:Int),.int (sz:Int)] (rwE (UK c0 c1 c2 c3 m sz)):=by
 have l:=Zo c3 (j:=(sz:Int)+1) ∅
 refine .of (v:=Xw) rfl rfl (.set (.call (xs:=[.int c1,.int (m:Int)]) (.cons (.ixl (j:=1) a () () rfl) (.cons () .nil)) (Vd (n:=n) o)) (.set (.call (xs:=[.int c2,.int (m:Int)]) (.cons (.ixl (j:=2) a () () rfl) (.cons () .nil)) (Vd (n:=n) o)) (.pick (.and (.lts (.md (.ixl (j:=0) a () () rfl) () #[]) ()) λ_=>.gts () ()) (λq=>?_) λq=>.pick (.lts (.md (.ixl (j:=0) a () () rfl) () #[]) ()) (λb=>?_) λb=>.pick (.eqi (.md (.ixl (j:=0) a () () rfl) () #[]) ()) (λe=>?_) λe=>?_)))
 .rw[Ba,aO,aO]at q
  unfold UK;rw[aq ⟨q.1,∅⟩]
  have w:=Zo c3 (j:=(m:Int)) q.2;have d:=Zo (c0 / 8) (j:=5) #[]
  show R _ _ _ _ (.tup [.str "put",.int ((c3 % (m:Int)).toNat:Int),opE (opI c1 m),.str (psL.getD (c0 / 8 % 5).toNat (S "")),opE (opI c2 m)]);rw[cF w.1];exact .ret (.cons () (.cons (.md (.ixl (j:=3) a () () rfl) () q.2) (.cons () (.cons (.sgn (.mk ()) (.md (.fd (.ixl (j:=0) a () () rfl) () #[]) () #[]) d.1 (by show _ < (5:Int);omega)) (.cons () .nil)))))
 .have q:¬(c0 % 8 < 4/\0 < m):=λh=>by rw[aF h.1,aF (by omega:(0:Int) < (m:Int))]at q;exact nomatch q
  have b:=ao b;unfold UK;rw[ar q,aq b];have d:=Zo (c0 / 8) (j:=6) #[]
  show R _ _ _ _ (.tup [.str "if",opE (opI c1 m),.str (isL.getD (c0 / 8 % 6).toNat (S "")),opE (opI c2 m),.int ((c3 % ((sz:Int)+1)).toNat:Int)])
  rw[cF l.1];exact .ret (.cons () (.cons () (.cons (.sgn (.mk ()) (.md (.fd (.ixl (j:=0) a () () rfl) () #[]) () #[]) d.1 (by show _ < (6:Int);omega)) (.cons () (.cons (.md (.ixl (j:=3) a () () rfl) (.add () ()) ∅) .nil)))))
 .have q:¬(c0 % 8 < 4/\0 < m):=λh=>by rw[aF h.1,aF (by omega:(0:Int) < (m:Int))]at q;exact nomatch q
  unfold UK;rw[ar q,ar (am b),aq (ao e)];exact .ret (.cons () (.cons () .nil))
 .have q:¬(c0 % 8 < 4/\0 < m):=λh=>by rw[aF h.1,aF (by omega:(0:Int) < (m:Int))]at q;exact nomatch q
  unfold UK;rw[ar q,ar (am b),ar (am e)];have d:=Zo (c0 / 8) (j:=2) #[]
  have c:Y (rT (n+2)) s (.m (.k (.x 0 0) (.i 8)) (.i 2)) [jL j,jN m,jN sz,aa (opE (opI c1 m)),aa (opE (opI c2 m))] (.int (c0 / 8 % 2)):=.md (.fd (.ixl (j:=0) a () () rfl) () #[]) () #[]
  have f:Y (rT (n+2)) s (.aC (.g (.aC (.t "go") (.u (.m (.x 0 3) (.p (.v 2) (.i 1)))))) (.u (.g (.u (.t "skip"))))) [jL j,jN m,jN sz,aa (opE (opI c1 m)),aa (opE (opI c2 m))] (.tup [.tup [.str "go",.int (c3 % ((sz:Int)+1))],.tup [.str "skip"]]):=.cons (.cons () (.cons (.md (.ixl (j:=3) a () () rfl) (.add () ()) ∅) .nil)) (.cons () .nil)
  split
  .rename_i z
   rw[z]at c;show R _ _ _ _ (.tup [.str "go",.int ((c3 % ((sz:Int)+1)).toNat:Int)]);rw[cF l.1];exact .ret (.ixL (j:=0) (.mk f) c rfl)
  .rw[show c0 / 8 % 2=1 by omega]at c
   exact .ret (.ixL (j:=1) (.mk f) c rfl)
end
variable{kb:Bool}
section
variable{c w:Int}
def Zfn{v:Int}(b:v < 2 ^ 62)(a:-(2 ^ 62)<=v)(h:Y F s e U (.int v)):Wk F s e U (YB ae) ((aj v.toNat).map λ(k:Nat)=>D.int (k:Int)):=.of h λst=>by
 unfold YB;rw[ZaG b a]
def n62{v:Int}(a:0<=v)(h:v<=700):v < 2 ^ 62/\-(2 ^ 62)<=v:=⟨∅,∅⟩
def V1(a:N<=700)(h:Y F s e U (.int (N:Int))):Wk F s e U (YB ae) ((aj N).map λ(k:Nat)=>D.int (k:Int)):=by
 have b:=n62 (v:=(N:Int)) ∅ ∅
 have:=Zfn b.1 b.2 h;rw[bH]at this;exact this
def Y.callL(o:Lv s (ev F a U) xs)(n:∀ st,Grw s st->Y F st b U (.tup ys))(l:ys.length < 1000)(m:∀ st j bb,Grw s st->st[j]?=aa (bb,xs)->C F st f (.lst j :: ys++ds) d):Y F s (.call f (.aC a b) ds) U d:=λst g=>by
 obtain⟨s1,j,u,t,p,h⟩:=o st g;obtain⟨c,r,e⟩:=n s1 (g.trans h) s1 .refl;obtain⟨i,q,k⟩:=m c j u (g.trans (h.trans e)) (e.get p) c .refl;refine⟨i,?_,h.trans (e.trans k)⟩;show Zl (ZE (ev F a) (ev F b) _) (XG (F f) ds) U st=_;unfold Zl ZE;simp only[t,r];show(match (if ys.length < 1000 then aa (D.tup (.lst j :: ys),c) else ab) with|some (x,st1)=>XG (F f) ds x st1|none=>ab)=_
 rw[aq l];exact q
theorem VI:∀ {l:Li Str},Z0 g (l.map D.str)=aa (l.any λi=>ak (i=g))
 |[]=>rfl
 |i :: l=>by
  show(Z0 g (l.map D.str)).map _=_;rw[VI];rfl
def Y.inL{l:Li Str}(h:Y F s a U (.str g))(f:∀ st,Grw s st->Lv st (ev F b U) (l.map D.str)):Y F s (.cmp .In a b) U (.bl (l.any λi=>ak (i=g))):=λst k=>by
 obtain⟨s1,o,d⟩:=h st k;obtain⟨c,j,p,n,m,e⟩:=f s1 (k.trans d) s1 .refl;refine⟨c,?_,d.trans e⟩;show ZE (ev F a) (ev F b) (W7 .In) U st=_;unfold ZE;simp only[o,n];show(match (match c[j]? with|some (_,xs)=>Z0 g xs|none=>ab) with|some k=>aa (D.bl k,c)|none=>ab)=_
 rw[m];show(match Z0 g (l.map D.str) with|some k=>aa (D.bl k,c)|none=>ab)=_
 rw[VI]
def Y.noL{l:Li Str}(h:Y F s a U (.str g))(f:∀ st,Grw s st->Lv st (ev F b U) (l.map D.str)):Y F s (.cmp .NotIn a b) U (.bl (!l.any λi=>ak (i=g))):=λst k=>by
 obtain⟨s1,o,d⟩:=h st k;obtain⟨c,j,p,n,m,e⟩:=f s1 (k.trans d) s1 .refl;refine⟨c,?_,d.trans e⟩;show ZE (ev F a) (ev F b) (W7 .NotIn) U st=_;unfold ZE;simp only[o,n];show(match (match c[j]? with|some (_,xs)=>Z0 g xs|none=>ab).map Bool.not with|some k=>aa (D.bl k,c)|none=>ab)=_
 rw[m];show(match (Z0 g (l.map D.str)).map Bool.not with|some k=>aa (D.bl k,c)|none=>ab)=_
 rw[VI];rfl
theorem QL:∀ {l:Li Int},Yu c (l.map D.int)=aa (l.any λi=>ak (i=c))
 |[]=>rfl
 |i :: l=>by
  show(Yu c (l.map D.int)).map _=_;rw[QL];rfl
def Y.inI{l:Li Int}(h:Y F s a U (.int c))(g:∀ st,Grw s st->Lv st (ev F b U) (l.map D.int)):Y F s (.cmp .In a b) U (.bl (l.any λi=>ak (i=c))):=λst k=>by
 obtain⟨s1,o,e⟩:=h st k;obtain⟨d,j,p,n,m,f⟩:=g s1 (k.trans e) s1 .refl;refine⟨d,?_,e.trans f⟩;show ZE (ev F a) (ev F b) (W7 .In) U st=_;unfold ZE;simp only[o,n];show(match (match d[j]? with|some (_,xs)=>Yu c xs|none=>ab) with|some k=>aa (D.bl k,d)|none=>ab)=_
 rw[m];show(match Yu c (l.map D.int) with|some k=>aa (D.bl k,d)|none=>ab)=_
 rw[QL]
def RP.iset(h:Y F s e U (.bl kb))(g:Grw s st)(n:kb=ae->Y F s a U d)(f:kb=af->U=Zk U i d)(c:∀ j,Grw st j->RP F q (Zk U i d) j Q):RP F (.seq (.ite e (.z (.set i a)) .skip) q) U st Q:=by
 obtain⟨s1,l,b⟩:=h st g;cases kb with
 |true=>
  obtain⟨m,o,k⟩:=n rfl s1 (g.trans b);exact .pre (Zc ((ZL l).trans ((Zc (Zh o)).trans Zf))) (b.trans k) (c m (b.trans k))
 |false=>
  have c:=c s1 b;rw[<-f rfl]at c;exact .pre (Zc ((YJ l).trans Zf)) b c
def Zgu{t:Za}(h:ev F e U st=aa (d,t))(c:U[i]?=aa (jL j))(b:t[j]?=aa (ae,xs))(a:xs≠[])(f:xs.length<=1000):ex F (.put i (.neg (.i 1)) e) U st=aa (.nx U,t.set j (ae,xs.set (xs.length - 1) d)):=by
 have g:0 < xs.length:=List.length_pos_iff.mpr a;show VR i (λ_ s=>aa (.int (-1),s)) (ev F e) U st=_
 unfold VR;simp only[h,c];unfold Y1;simp only[b];unfold ixN;rw[ar #[],aq ∅,show(-1+(xs.length:Int)).toNat=xs.length - 1 by omega]
def ZcY(r:Rw):∃ h xs,rwE r=.tup (.str h :: xs):=by cases r<;>exact⟨_,_,rfl⟩
def Q7(h:∀ (t:Nat) d,xs[t]?=aa d->∃ r,d=rwE r/\RwOk m sz r):∃ rs:Li Rw,xs=rs.map rwE/\∀ r∈rs,RwOk m sz r:=QR λd b=>by
 obtain⟨t,a⟩:=List.getElem?_of_mem b;exact h t d a
def RP.fillj{I:Nat->Env->Prop}{P:Nat->D->Prop}{v:Int}{i0:Nat}(B:∀ j,Y F s e (Zk U i0 (.lst j)) (.int v))(u:v=(N:Int))(hN:N<=700)(E:∀ j,I j (Zk U i0 (.lst j)))(g:Grw s st)(A:∀ j,s.length<=j->∀ k,k < N->∀ U,I j U->∃ d a,P k d/\I j a/\Ap F s j q (Zk U i (.int (k:Int))) a [d])(x:∀ j xs a st',xs.length=N->(∀ t d,xs[t]?=aa d->P t d)->I j a->st.length<=j->Grw st st'->st'[j]?=aa (ae,xs)->∃ d t,ex F q' a st'=aa (.rt d,t)/\Grw st t/\Q d t):RP F (.y i0 (.lstE .aN) (.seq (.for1 i ae e q) q')) U st Q:=by
 have m:Grw s (st++[(ae,[])]):=g.trans .push;obtain⟨s1,L,c⟩:=B st.length (st++[(ae,[])]) m;obtain⟨xs,a,z,r,f,w⟩:=WY (I:=I st.length) g.len (A st.length g.len) N 0 ∅ _ (E st.length)
 obtain⟨l,K,o,G⟩:=w s1 [] (m.trans c) (c.get Zp) (by show 0+N<=90000;omega)
 have n:Grw st l:=(c.kj.trans o).grw (aB _) .push;obtain⟨d,t,J,H,C⟩:=x st.length xs a l z (λt d h=>by have:=r t d h;rw[bY]at this;exact this) f (aB _) n G
 refine⟨d,t,(Zc (p:=.set i0 (.lstE .aN)) (s':=st++[(ae,[])]) rfl).trans ((Zc ?_).trans J),H,C⟩;have b:=n62 (v:=v) ∅ ∅
 rw[YX (v:=v) b.1 b.2 L,u,bH,List.range_eq_range'];exact K
def Zdx(m lo:Nat)(st:Za)(a:Nat)(d:D)(st':Za):Prop:=∃ (j:Nat) (rs:Li Rw),d=.lst j/\st.length<=j/\st'[j]?=aa (ae,rs.map rwE)/\(∀ r∈rs,RwOk m rs.length r)/\lo<=rs.length/\rs.length<=a
def VA(b:s=S0 ns)(d:k<=1000)(c:ns.length<=63)(e:Y (rT (n+1)) s a U (.tup [.lst 0,.int (k:Int)])):Y (rT (n+1)) s (.f 27 a) U (.int (ceI ns k)):=by
 subst b;exact .call e (JF d c)
def Zea(K:ns.length<=63)(hm:m<=5)(g:Grw (S0 ns) st):CP (rT (n+5)) 126 [.lst 0,.int (m:Int),.int w] st (λd st'=>Zdx m 0 st (if w=5\/w=6 then 6 else 12) d st'):=by
 have h6:=Zo (ceI ns 6) (j:=13) #[]
 have h7:=Zo (ceI ns 6 % 13) (j:=7) #[]
 obtain⟨sz,c⟩:∃ t:Nat,(if (ak (w=5)||ak (w=6))=ae then ceI ns 6 % 13 % 7 else ceI ns 6 % 13)=(t:Int):=⟨_,(cF (by split<;>omega)).symm⟩
 have G:sz<=(if w=5\/w=6 then 6 else 12):=by
  by_cases q:w=5\/w=6
  .rw[aq q]
   rw[aq (by rw[cB,aO,aO];exact q)]at c
   omega
  .rw[ar q]
   split at c<;>omega
 have Z:sz<=12:=by split at G<;>omega
 refine .of (v:=Xb) rfl rfl (.setY (s:=S0 ns) (.md (VA (k:=6) (n:=n+3) rfl ∅ K ()) () #[]) g λs1 C=>.iset (s:=S0 ns) (kb:=ak (w=5)||ak (w=6)) (d:=.int (sz:Int)) (.or (.eqi () ()) λ_=>.eqi () ()) (g.trans C) (λq=>?_) (λq=>?_) λs2 E=>?_)
 .rw[aq q]at c
  rw[<-c];exact .md () () #[]
 .rw[q,ar #[]]at c
  rw[<-c];rfl
 refine .fillj (s:=S0 ns) (N:=sz) (i0:=4) (i:=5) (I:=λj U=>∃ y,U=[jL 0,jN m,jI w,jN sz,jL j,y]) (P:=λ_ d=>∃ r,d=rwE r/\RwOk m sz r) (λj=>.r rf) rfl ∅ (λj=>⟨ab,rfl⟩) (g.trans (C.trans E)) (λj hj k hk U M=>?_) λj xs U t hl hP M o O H=>?_
 .obtain⟨y,rfl⟩:=M
  refine⟨_,_,⟨_,rfl,Zbs⟩,⟨_,rfl⟩,.one (.app rfl (.callL (xs:=[.int (ceI ns (10+4 * k+0)),.int (ceI ns (10+4 * k+1)),.int (ceI ns (10+4 * k+2)),.int (ceI ns (10+4 * k+3))]) (ys:=[.int (m:Int),.int (sz:Int)]) ?_ (λst g=>.r rf) (by show 2 < 1000;decide) λst j bb g hs=>Zdv (n:=n+1) hs ∅ ∅))⟩
  have lk:ZT (k:Int)=ae:=X5 ∅
  exact Wb (b:=one) (wk:=YB ae) (fr:=[5,0]) (it:=.i 4) (l:=aj 4) (en:=λ(k:Nat)=>D.int (k:Int)) (g:=λi=>.int (ceI ns (10+4 * k+i))) (V1 (N:=4) #[] ()) #[] λi hi=>by
   have:=cG.mp hi;refine VA (k:=10+4 * k+i) (n:=n+3) rfl ∅ K (.cons () (.cons ?_ .nil))
   rw[cK,cK,eQ];exact .add (.add () (.mul () () lk)) ()
 .obtain⟨y,rfl⟩:=M
  obtain⟨rs,rfl,z⟩:=Q7 hP;rw[aD]at hl;subst hl;have k3:Grw st t:=C.trans (E.trans O);have W:st.length<=j:=aK (C.trans E).len o;obtain⟨kb,T,L⟩:∃ kb,Y (rT (n+4)) t (.and (.cmp .In (.v 2) (.lstE (.aC (.i 5) (.u (.i 6))))) (.and (.cmp .Gt (.v 3) (.i 0)) (.cmp .NotIn (.ix (.ix (.v 4) (.neg (.i 1))) (.i 0)) (.lstE (.aC (.t "go") (.u (.t "tell"))))))) [jL 0,jN m,jI w,jN rs.length,jL j,y] (.bl kb)/\(kb=ae->rs≠[]):=by
   cases rs with
   |nil=>exact⟨_,.and (.inI (l:=[5,6]) () λ_ _=>.mk ()) λ_=>.and (m:=af) (.gts () ()) λh=>(nomatch h),λh=>by rw[Ba,Ba]at h;exact nomatch h.2.2⟩
   |cons V rs=>
    obtain⟨h,xs,er⟩:=ZcY (rs.getLastD V);have R:=Y.lastL (F:=rT (n+4)) (s:=t) (a:=.v 4) (U:=[jL 0,jN m,jI w,aa (.int (((V :: rs).length:Nat):Int)),jL j,y]) (.v H ()) (fD _ _) (by rw[aD];omega)
    rw[aZ,List.getLastD_cons,List.getLastD_map,er]at R;exact⟨_,.and (.inI (l:=[5,6]) () λ_ _=>.mk ()) λ_=>.and (.gts () ()) λ_=>.noL (l:=[S "go",S "tell"]) (.ixt (j:=0) R () rfl) λ_ _=>.mk (),λ_=>fD _ _⟩
  cases kb with
  |false=>
   obtain⟨B,Q,e⟩:=T t .refl;exact⟨_,B,(Zc ((YJ Q).trans Zf)).trans (Zn (ZQ rfl)),O.trans e,j,rs,rfl,W,e.get H,z,aS _,G⟩
  |true=>
   have A:=L rfl;have h0:0 < rs.length:=List.length_pos_iff.mpr A;have hv:=Zo (ceI ns (9+4 * rs.length)) (j:=(rs.length:Int)+1) ∅
   obtain⟨v,ev⟩:∃ v:Nat,ceI ns (9+4 * rs.length) % ((rs.length:Int)+1)=(v:Int):=⟨_,(cF hv.1).symm⟩;rw[ev]at hv;obtain⟨B,Q,e⟩:=T t .refl;have gS:Grw (S0 ns) B:=g.trans (k3.trans e);have lk:ZT (rs.length:Int)=ae:=X5 ∅
   have yt:Y (rT (n+4)) (S0 ns) (.g (.aC (.t "go") (.u (.m (.f 27 (.a 0 (.u (.p (.i 9) (.h (.i 4) (.v 3)))))) (.p (.v 3) (.i 1)))))) [jL 0,jN m,jI w,jN rs.length,jL j,y] (rwE (.go v)):=by
    show Y _ _ _ _ (.tup [.str "go",.int (v:Int)]);rw[<-ev];refine .cons () (.cons (.md (VA (k:=9+4 * rs.length) (n:=n+3) rfl ∅ K (.cons () (.cons ?_ .nil))) (.add () ()) ∅) .nil)
    rw[cK,eQ];exact .add () (.mul () () lk)
   obtain⟨t2,e2,X⟩:=yt B gS;have x:=(e.trans X).get H;have ep:=Zgu (i:=4) e2 rfl x (λh=>A (List.map_eq_nil_iff.mp h)) (by rw[aD];omega)
   rw[aD,<-List.map_set]at ep;refine⟨_,t2.set j (ae,(rs.set (rs.length - 1) (.go v)).map rwE),(Zc ((ZL Q).trans ((Zc ep).trans Zf))).trans (Zn (ZQ rfl)),ZP (O.trans (e.trans X)) o,j,rs.set (rs.length - 1) (.go v),rfl,W,bM (Zy x),λr J=>?_,aS _,by rw[bO];exact G⟩
   rw[bO];rcases gO J with J|rfl
   .exact z r J
   .show v<=rs.length;omega
end
noncomputable def jmR(a:Li Nat):Rw->Rw
 |.ifr y g z t=>.ifr y g z (a.getD t 0)
 |.go t=>.go (a.getD t 0)
 |r=>r
noncomputable def inN(a:Li Nat):Li D:=a.map λ(p:Nat)=>D.int (p:Int)
section
variable{c:Int}{ps:Li Nat}
def Y.calT(n:Y F s a U x)(m:∀ st,Grw s st->Lv st (ev F b U) xs)(l:∀ st j bb,Grw s st->st[j]?=aa (bb,xs)->C F st f ([x,.lst j]++ds) d):Y F s (.call f (.aC a (.u b)) ds) U d:=λst g=>by
 obtain⟨s1,r,c⟩:=n st g;obtain⟨e,j,t,q,o,h⟩:=m s1 (g.trans c) s1 .refl;obtain⟨i,p,k⟩:=l e j t (g.trans (c.trans h)) o e .refl;refine⟨i,?_,c.trans (h.trans k)⟩;show Zl (ZE (ev F a) (ZE (ev F b) (ev F .aN) _) _) (XG (F f) ds) U st=_;unfold Zl ZE;simp only[r,q];exact p
def ZdH{t:Nat}(h:t < ps.length):(inN ps)[t]?=aa (.int ((ps.getD t 0:Nat):Int)):=by
 unfold inN;rw[aV,aP,Lg h];rfl
def ZbR(a:s[w]?=aa (bb,inN ps))(h:RwOk m sz r)(b:sz < ps.length):C (rT (n+1)) s 123 [rwE r,.lst w] (rwE (jmR ps r)):=by
 cases r with
 |ifr y g z t=>exact .of (v:=ZG) rfl rfl (.yes () (.adT (xs:=[.str "if",opE y,.str g,opE z]) (.tkT (i:=4) (xs:=[.str "if",opE y,.str g,opE z,.int (t:Int)]) () () (show 4<=5 by decide)) (.cons (.ixl (j:=t) a () () (ZdH (by have:=h.2.2.2;omega))) .nil) (by show 4+1<=100000;decide)))
 |go t=>exact .of (v:=ZG) rfl rfl (.no () (.yes () (.cons () (.cons (.ixl (j:=t) a () () (ZdH (by have:t<=sz:=h;omega))) .nil))))
 |put x y g z=>exact .of (v:=ZG) rfl rfl (.no () (.no () (.ret ())))
 |tell y=>exact .of (v:=ZG) rfl rfl (.no () (.no () (.ret ())))
 |skip=>exact .of (v:=ZG) rfl rfl (.no () (.no () (.ret ())))
def ZfY(h:RwOk m sz r)(c:sz < ps.length)(a:∀ p∈ps,p<=sz'):RwOk m sz' (jmR ps r):=by
 have ok:∀ t,t<=sz->ps.getD t 0<=sz':=λt b=>by
  rw[aP,Lg ∅]
  exact a _ (bN _)
 cases r with
 |ifr y g z t=>exact⟨h.1,h.2.1,h.2.2.1,ok t h.2.2.2⟩
 |go t=>exact ok t h
 |put x y g z=>exact h
 |tell y=>exact h
 |skip=>exact h
def Wu(h:RwOk m sz r):∃ c,RwOk m sz c/\∀ n s,C (rT (n+1)) s 124 [rwE r] (rwE c):=by
 cases r with
 |put x y g z=>
  cases j:([S "+",S "*"].any λi=>ak (i=g)) with
  |true=>exact⟨.put x z g y,⟨h.1,h.2.2.2,h.2.2.1,h.2.1⟩,λn s=>.of (v:=Zr) rfl rfl (.yes (by
    have y:=Y.and (F:=rT n) (s:=s) (k:=ae) (a:=.e (.x 0 0) (.t "put")) (U:=[aa (rwE (.put x y g z)),ab]) () λ_=>Y.inL (l:=[S "+",S "*"]) (a:=.x 0 3) (b:=.lstE (.aC (.t "+") (.u (.t "*")))) (g:=g) () λ_ _=>.mk ()
    rw[j]at y;exact y) ())⟩
  |false=>exact⟨.put x y g z,h,λn s=>.of (v:=Zr) rfl rfl (.no (by
    have y:=Y.and (F:=rT n) (s:=s) (k:=ae) (a:=.e (.x 0 0) (.t "put")) (U:=[aa (rwE (.put x y g z)),ab]) () λ_=>Y.inL (l:=[S "+",S "*"]) (a:=.x 0 3) (b:=.lstE (.aC (.t "+") (.u (.t "*")))) (g:=g) () λ_ _=>.mk ()
    rw[j]at y;exact y) (.no () (.ret ())))⟩
 |ifr y g z t=>
  have go:∀ d,d∈isL->(∀ n s,Y (rT n) s (.dget (.dict [(S "<"),(S "<="),(S ">"),(S ">=")] (.aC (.t ">") (.aC (.t ">=") (.aC (.t "<") (.u (.t "<=")))))) (.x 0 2) (.x 0 2)) [aa (rwE (.ifr y g z t)),ab] (.str d))->∃ c,RwOk m sz c/\∀ n s,C (rT (n+1)) s 124 [rwE (.ifr y g z t)] (rwE c):=λd f o=>⟨.ifr z d y t,⟨h.2.2.1,f,h.1,h.2.2.2⟩,λn s=>.of (v:=Zr) rfl rfl (.no (.and (k:=af) (m:=af) () λh=>(nomatch h)) (.yB () (.set (o n s) (.ret ()))))⟩
  have f:g=S "<"\/g=S "<="\/g=S "="\/g=S ">="\/g=S ">"\/g=S "!=":=by
   have:=h.2.1;unfold isL at this;simpa only[aL,dH,or_false] using this
  rcases f with rfl|rfl|rfl|rfl|rfl|rfl
  .exact go (S ">") (by decide +kernel) λn s=>.r rf
  .exact go (S ">=") (by decide +kernel) λn s=>.r rf
  .exact go (S "=") (by decide +kernel) λn s=>.r rf
  .exact go (S "<=") (by decide +kernel) λn s=>.r rf
  .exact go (S "<") (by decide +kernel) λn s=>.r rf
  .exact go (S "!=") (by decide +kernel) λn s=>.r rf
 |go t=>exact⟨.go t,h,λn s=>.of (v:=Zr) rfl rfl (.no (.and (k:=af) (m:=af) () λh=>(nomatch h)) (.no () (.ret ())))⟩
 |tell y=>exact⟨.tell y,h,λn s=>.of (v:=Zr) rfl rfl (.no (.and (k:=af) (m:=af) () λh=>(nomatch h)) (.no () (.ret ())))⟩
 |skip=>exact⟨.skip,h,λn s=>.of (v:=Zr) rfl rfl (.no (.and (k:=af) (m:=af) () λh=>(nomatch h)) (.no () (.ret ())))⟩
def Zd2:(2:Int) < 2 ^ 62/\-(2 ^ 62)<=(2:Int):=n62 #[] #[]
def Zcf{a b:Env}{s1 c:Za}(f:ex F q (Zk U i (.int 0)) st=aa (.nx a,s1))(e:ex F q (Zk a i (.int 1)) s1=aa (.nx b,c)):ex F (.for1 i ae (.i 2) q) U st=aa (.nx b,c):=by
 rw[YX (v:=2) Zd2.1 Zd2.2 (st1:=st) rfl];show(match ex F q (Zk U i (.int 0)) st with
   |some (.nx U',st')=>Zj (λd U s=>ex F q (Zk U i d) s) [.int 1] U' st'
   |some (.ct U',st')=>Zj (λd U s=>ex F q (Zk U i d) s) [.int 1] U' st'
   |some (.bk U',st')=>aa (.nx U',st')
   |some (.rt v,st')=>aa (.rt v,st')
   |none=>ab)=_
 rw[f];show(match ex F q (Zk a i (.int 1)) s1 with
   |some (.nx U',st')=>Zj (λd U s=>ex F q (Zk U i d) s) [] U' st'
   |some (.ct U',st')=>Zj (λd U s=>ex F q (Zk U i d) s) [] U' st'
   |some (.bk U',st')=>aa (.nx U',st')
   |some (.rt v,st')=>aa (.rt v,st')
   |none=>ab)=_
 rw[e];rfl
def Zaa(K:s[w]?=aa (bb,rs.map rwE))(M:rs.length=sz)(hz:sz<=12)(z:∀ r∈rs,RwOk m sz r)(E:s.length<=j){cp:Int}(R:0<=cp/\cp < 2){y5 y6:Ot D}:∃ xs o f,xs.length=sz/\(∀ (t:Nat) d,xs[t]?=aa d->∃ r,d=rwE r/\RwOk m (2 * sz) r) /\
  ∀ st a,Grw s st->st[j]?=aa (ae,a)->a.length+sz<=90000->∃ st',ex (rT (n+1)) Yd [jL w,jI c,jN sz,jL j,jI cp,y5,y6] st=aa (.nx [jL w,jI c,jN sz,jL j,jI cp,o,f],st')/\Kj j st st'/\st'[j]?=aa (ae,a++xs):=by
 obtain⟨xs,U',Q,J,A,y⟩:=WY (F:=rT (n+1)) (s:=s) (i:=5) (q:=YK) (N:=sz) (I:=λU=>∃ o f,U=[jL w,jI c,jN sz,jL j,jI cp,o,f]) (P:=λ_ d=>∃ r,d=rwE r/\RwOk m (2 * sz) r) E (λk hk U A=>by
  obtain⟨o,f,rfl⟩:=A;have B:=Zo ((c % 1000003+1) * ((k:Int) * k+13 * cp+5) % 10007) (j:=2) #[]
  obtain⟨v,ev⟩:∃ v:Nat,(c % 1000003+1) * ((k:Int) * k+13 * cp+5) % 10007 % 2=(v:Int):=⟨_,(cF B.1).symm⟩;rw[ev]at B;have lk:ZT (k:Int)=ae:=X5 ∅
  have H:ZT cp=ae:=X5 ∅
  have G:ZT (sz:Int)=ae:=X5 ∅
  have X:(k:Int) * k<=144:=by
   have:k * k<=12 * 12:=eE ∅ ∅
   omega
  have W:0<=(k:Int) * k:=Int.mul_nonneg ∅ ∅
  have u:k < rs.length:=by omega
  have y:=z rs[k] (bN u);have O:((aj sz).map (λt=>t+v * sz)++[2 * sz]).length=sz+1:=by rw[aG,aD,bP];rfl
  have L:v * sz<=sz:=by
   have:v=0\/v=1:=by omega
   rcases this with rfl|rfl<;>omega
  refine⟨rwE (jmR ((aj sz).map (λt=>t+v * sz)++[2 * sz]) rs[k]),[jL w,jI c,jN sz,jL j,jI cp,jN k,aa (.int ((v * sz:Nat):Int))],⟨_,rfl,ZfY y ∅ λp hp=>?_⟩,⟨_,_,rfl⟩,.seq E (xs:=[]) (.set ?_) (.one (.app rfl (.calT (x:=rwE rs[k]) (xs:=inN ((aj sz).map (λt=>t+v * sz)++[2 * sz])) (.ixl (j:=k) K () () (by show(rs.map rwE)[k]?=_;rw[aV,Lg u];rfl)) (λst g=>?_) λst Z V g h=>ZbR (n:=n) h y ∅)))⟩
  .rcases bC.mp hp with hp|hp
   .obtain⟨t,C,rfl⟩:=aR.mp hp
    have:=cG.mp C;omega
   .rw[aQ.mp hp];exact aB _
  .rw[eQ,<-ev]
   exact .mul (.md (.md (.mul (.add (.md () () #[]) ()) (.add (.add (.mul () () lk) (.mul () () H)) ()) (X5 ∅)) () #[]) () #[]) () (X5 ∅)
  .unfold inN
   rw[cL,bQ];refine .cat (Wb (b:=one) (wk:=YB ae) (fr:=[6]) (it:=.v 2) (l:=aj sz) (en:=λ(k:Nat)=>D.int (k:Int)) (g:=(λ(p:Nat)=>D.int (p:Int)) ∘ λt=>t+v * sz) (V1 ∅ ()) (by rw[bP];omega) λt C=>?_) ?_ ?_
   .show Y _ _ _ _ (.int ((t+v * sz:Nat):Int))
    rw[cK];exact .add () ()
   .show Lv _ _ [.int ((2 * sz:Nat):Int)]
    rw[show((2 * sz:Nat):Int)=2 * (sz:Int) by omega]
    exact .mk (.cons (.mul () () G) .nil)
   .rw[aD,aD,bP]
    show sz+1<=1000000;omega) sz 0 ∅ [jL w,jI c,jN sz,jL j,jI cp,y5,y6] ⟨_,_,rfl⟩
 obtain⟨o,f,rfl⟩:=A;refine⟨xs,o,f,Q,J,λst a g h S=>?_⟩
 obtain⟨st',e,k,T⟩:=y st a g h S;refine⟨st',?_,k,T⟩;refine(Zc ?_).trans Zf;have b:=n62 (v:=(sz:Int)) ∅ ∅
 rw[YX (v:=(sz:Int)) b.1 b.2 (st1:=st) rfl,bH,List.range_eq_range'];exact e
def Jc(C:rs.length=sz)(H:sz<=12)(k:∀ r∈rs,RwOk m sz r)(I:st[w]?=aa (bb,rs.map rwE)):CP (rT (n+2)) 125 [.lst w,.int c] st (λd st'=>Zdx m 0 st (2 * sz) d st'/\∃ j xs,d=.lst j/\st'[j]?=aa (ae,xs)/\xs.length=2 * sz):=by
 have D:((rs.map rwE).length:Int)=(sz:Int):=by rw[aD,C]
 refine .of (v:=Yr) rfl rfl (.setY (s:=st) (d:=.int (sz:Int)) (by have y:=Y.lenl (F:=rT (n+1)) (a:=.v 0) (U:=[jL w,jI c,ab,ab,ab,ab,ab]) I ();rw[D]at y;exact y) .refl λs1 G=>?_)
 have g:=G.get I;have O:st.length<=s1.length:=G.len;obtain⟨xs,y5,y6,f,B,A⟩:=Zaa (n:=n) (c:=c) (cp:=0) (s:=s1) (j:=s1.length) (y5:=ab) (y6:=ab) g C H k (aB _) ∅
 obtain⟨ys,L,K,z,x,u⟩:=Zaa (n:=n) (c:=c) (cp:=1) (s:=s1) (j:=s1.length) (y5:=y5) (y6:=y6) g C H k (aB _) ∅
 obtain⟨M,W,E,R⟩:=A (s1++[(ae,[])]) [] .push Zp (by show 0+sz<=90000;omega)
 obtain⟨p,V,N,Q⟩:=u M _ (E.grw (aB _) .push) R (by rw[eK,f];omega)
 have T:ex (rT (n+1)) (.for1 4 ae (.i 2) Yd) [jL w,jI c,jN sz,jL s1.length,ab,ab,ab] (s1++[(ae,[])])=aa (.nx [jL w,jI c,jN sz,jL s1.length,jI 1,L,K],p):=Zcf W V;have S:Grw s1 p:=(E.trans N).grw (aB _) .push;have l:(xs++ys).length=2 * sz:=by rw[aG,f,z];omega
 obtain⟨b,J,ok⟩:=Q7 (m:=m) (sz:=2 * sz) (xs:=xs++ys) (λt d h=>by
  by_cases q:t < xs.length
  .rw[bS q]at h;exact B t d h
  .rw[bE ∅]at h;exact x _ d h)
 have e:b.length=2 * sz:=by rw[<-l,J,aD]
 have o:p[s1.length]?=aa (ae,b.map rwE):=by rw[Q,eK,J]
 exact⟨.lst s1.length,p,(Zc (Zh (v:=.lst s1.length) (st':=s1++[(ae,[])]) rfl)).trans ((Zc T).trans (Zn (ZQ rfl))),S,⟨s1.length,b,rfl,O,o,λr P=>by rw[e];exact ok r P,aS _,cU e⟩,s1.length,b.map rwE,rfl,o,by rw[aD];exact e⟩
end
variable{j5 j7:Nat}{hd wy:Int}
variable{os:Li Rw}
section
variable{c:Int}
theorem Wk.lst(b:s[w]?=aa (bb,xs))(h:Y F s e U (.lst w)):Wk F s e U (YB af) xs:=λst g=>by
 obtain⟨s1,d,a⟩:=h st g;refine⟨.lst w,s1,λs=>s[w]?=aa (bb,xs),d,a,?_,λst' k=>k.get ((g.trans a).get b)⟩
 show(match s1[w]? with|some c=>aa (c.2,λs=>s[w]?=aa c)|none=>ab)=_
 rw[(g.trans a).get b]
def Ln(s:Za)(f:Za->Res)(xs:Li D):Prop:=∀ st,Grw s st->∃ st' j,f st=aa (.lst j,st')/\st.length<=j/\st'[j]?=aa (ae,xs)/\Grw st st'
def Ln.rev(b:s[w]?=aa (bb,xs))(h:Y F s e U (.lst w)):Ln s (ev F (.rs af e) U) xs.reverse:=λst g=>by
 obtain⟨s1,c,a⟩:=h st g;refine⟨s1++[(ae,xs.reverse)],s1.length,?_,a.len,Zp,a.trans .push⟩;show Zl (ev F e) (rsD af) U st=_;unfold Zl;simp only[c];show(match s1[w]? with|some (_,xs)=>(match rsL af xs with|some ys=>aa (D.lst s1.length,s1++[(ae,ys)])|none=>ab)|none=>ab)=_
 rw[(g.trans a).get b];rfl
def Ln.lo(b:s[w]?=aa (bb,xs))(h:Y F s e U (.lst w)):Ln s (ev F (.listOf e) U) xs:=λst g=>by
 obtain⟨s1,c,a⟩:=h st g;refine⟨s1++[(ae,xs)],s1.length,?_,a.len,Zp,a.trans .push⟩;show Zl (ev F e) QQ U st=_;unfold Zl;simp only[c];show(match s1[w]? with|some (_,xs)=>aa (D.lst s1.length,s1++[(ae,xs)])|none=>ab)=_
 rw[(g.trans a).get b]
def Ln.comp{b:D->Li (Ot D)}{wk:D->Za->Ot (Li D×(Za->Prop))}{en g:α->D}{l:Li α}(n:Wk F s it U wk (l.map en))(m:l.length<=1000)(h:∀ a∈l,Y F s elt (Z5 b U fr (en a)) (g a)):Ln s (Y2 b wk fr (ev F it) (ev F elt) (ev F (.c (.bl ae))) U) (l.map g):=λst k=>by
 obtain⟨x,s1,ok,r,e,q,j⟩:=n st k;obtain⟨f,p,i⟩:=Wj (s:=s1) (ok:=ok) (fe:=λd=>ev F elt (Z5 b U fr d)) (fc:=λd=>ev F (.c (.bl ae)) (Z5 b U fr d)) (λ_ _=>rfl) j (λa o=>Gv.mono (h a o) (k.trans e)) s1 .refl
 refine⟨f++[(ae,l.map g)],f.length,?_,(e.trans i).len,Zp,(e.trans i).trans .push⟩;unfold Y2;simp only[r,q,aD,aq m,p]
structure Ow(m:Nat)(ns:List Int)(rs os:List Rw)(j5 j7:Nat)(st:Za):Prop where
 g:Grw (S0 ns) st
 h5:st[j5]?=aa (ae,rs.map rwE)
 h7:st[j7]?=aa (ae,os.map rwE)
 ne:j5≠j7
 lo:1<=j7
 ok:∀ r∈os,RwOk m os.length r
 len:os.length<=12
 le:rs.length<=os.length
def Ow.up{t:Za}(h:Ow m ns rs os j5 j7 st)(g:Grw st t):Ow m ns rs os j5 j7 t:=⟨h.g.trans g,g.get h.h5,g.get h.h7,h.ne,h.lo,h.ok,h.len,h.le⟩
def Ow.new{t:Za}{a:Li Rw}(h:Ow m ns rs os j5 j7 st)(g:Grw st t)(d:st.length<=j)(c:t[j]?=aa (ae,a.map rwE))(ok:∀ r∈a,RwOk m a.length r)(len:a.length<=12)(b:rs.length<=a.length):Ow m ns rs a j5 j t:=
 ⟨h.g.trans g,g.get h.h5,c,by have:=Zy h.h5;omega,by have:=Zy h.h7;omega,ok,len,b⟩
noncomputable abbrev E2(hd:Int)(c m:Nat)(wy:Int)(j5 sz j7:Nat)(b a:Ot D):Env:=[jL 0,jI hd,jN c,jN m,jI wy,jL j5,jN sz,jL j7,b,a,ab,ab]
noncomputable def mrF(m sz:Nat)(r:Rw):Rw:=open Classical in if h:RwOk m sz r then (Wu h).choose else r
def ZdL(h:RwOk m sz r):RwOk m sz (mrF m sz r)/\∀ n s,C (rT (n+1)) s 124 [rwE r] (rwE (mrF m sz r)):=by
 unfold mrF;rw[dif_pos h];exact(Wu h).choose_spec
def ZbI{tk:Nat}{e7:CE}(h:Ow m ns rs os j5 j7 st)(o:Y F st e (E2 hd tk m wy j5 rs.length j7 ab ab) (.bl kb))(p:kb=ae->∀ t,Grw st t->∃ (j:Nat) (c:Za) (a:Li Rw),ev F e7 (E2 hd tk m wy j5 rs.length j7 ab ab) t=aa (.lst j,c)/\t.length<=j/\Grw t c/\c[j]?=aa (ae,a.map rwE)/\(∀ r∈a,RwOk m a.length r)/\a.length<=12/\rs.length<=a.length):∃ (j:Nat) (t:Za) (a:Li Rw),ex F (.ite e (.z (.set 7 e7)) .skip) (E2 hd tk m wy j5 rs.length j7 ab ab) st=aa (.nx (E2 hd tk m wy j5 rs.length j ab ab),t)/\Grw st t/\Ow m ns rs a j5 j t:=by
 obtain⟨d,g,b⟩:=o st .refl;cases kb with
 |false=>exact⟨j7,d,os,(YJ g).trans Zf,b,h.up b⟩
 |true=>
  obtain⟨j,i,a,q,n,f,l,ok,len,k⟩:=p rfl d b;exact⟨j,i,a,(ZL g).trans ((Zc (Zh q)).trans Zf),b.trans f,(h.up b).new f n l ok len k⟩
def Zfo{t:Za}{v y:Nat}(b:U[v]?=aa (jN k))(a:U[y]?=aa (aa d))(f:U[i]?=aa (jL j))(e:t[j]?=aa (ae,xs))(c:k < xs.length):ex F (.put i (.v v) (.v y)) U t=aa (.nx U,t.set j (ae,xs.set k d)):=by
 show VR i (Z4 v) (Z4 y) U t=_;unfold VR Z4;simp only[b,a,f];unfold Y1;simp only[e];unfold ixN;rw[aq (dM k),bH,aq (Int.ofNat_lt.mpr c)]
theorem Ow.set(h:Ow m ns rs os j5 j7 st)(c:RwOk m os.length r):Ow m ns rs (os.set k r) j5 j7 (st.set j7 (ae,(os.map rwE).set k (rwE r))):=
 ⟨ZP h.g (by show 1<=j7;exact h.lo),by rw[bR (Ne.symm h.ne)];exact h.h5,by rw[bM (Zy h.h7),List.map_set],h.ne,h.lo,λb a=>by
  rw[bO];rcases gO a with q|rfl
  .exact h.ok b q
  .exact c,by rw[bO];exact h.len,by rw[bO];exact h.le⟩
end
inductive TwP(d:D):Prop where
 |mk (tk tk':D) (m:Nat) (rs rs':List Rw) (e:d=.tup [pgD tk m rs,pgD tk' m rs']) (m5:m<=5) (r:Rs m rs) (r':Rs m rs') (l:rs.length<=12) (l':rs'.length<=12)
variable{Q1:D->Za->Prop}{r':Rw}
section
variable{c:Int}
def Y.cutT{c b:D}(e:Y F s a U (.tup (c :: b :: xs))):Y F s (.slice a (.part (.i 1)) (.part (.i 2))) U (.tup [b]):=λst g=>by
 obtain⟨s1,f,d⟩:=e st g;refine⟨s1,?_,d⟩;show Yl (ev F a) (λ_ st=>aa (.int 1,st)) (λ_ st=>aa (.int 2,st)) Yy U st=_
 unfold Yl;simp only[f];show Yh (.tup (c :: b :: xs)) (aa 1) (aa 2) s1=_;rw[sl_tup]
 congr 3
def RwOk.mono(h:RwOk m sz r)(a:sz<=k):RwOk m k r:=by
 cases r with
 |put x y g z=>exact h
 |ifr y g z t=>exact⟨h.1,h.2.1,h.2.2.1,aK h.2.2.2 a⟩
 |go t=>exact aK (show t<=sz from h) a
 |tell y=>exact h
 |skip=>exact h
noncomputable def tlC:Nat->CS->CS
 |0,q=>q
 |n+1,.seq _ q=>tlC n q
 |_,q=>q
noncomputable def hdC:CS->CS
 |.seq p _=>p
 |q=>q
noncomputable def bdC:CS->CS
 |.ite _ p _=>p
 |q=>q
def YW(g:Grw (S0 ns) st)(c:k<=1000)(b:ns.length<=63)(d:Y (rT (n+1)) st a U (.tup [.lst 0,.int (k:Int)])):Y (rT (n+1)) st (.f 27 a) U (.int (ceI ns k)):=.call d ((JF c b).mono g)
def Jp{tk:Nat}{f:Rw}(q:RwOk m os.length r)(C:os[k]?=aa f)(B:RwOk m os.length f):∃ r',RwOk m os.length r'/\∀ t,t[j7]?=aa (ae,os.map rwE)->∃ d,ex F (hdC (tlC 2 (bdC (hdC (tlC 10 c__law_two.body))))) (E2 hd tk m wy j5 sz j7 (jN k) (aa (rwE r))) t=aa (.nx (E2 hd tk m wy j5 sz j7 (jN k) (aa (rwE r'))),d)/\Grw t d:=by
 have no:(∀ t,t[j7]?=aa (ae,os.map rwE)->Y F t (.and (.e (.x 9 0) (.t "put")) (.e (.ix (.ix (.v 7) (.v 8)) (.i 0)) (.t "put"))) (E2 hd tk m wy j5 sz j7 (jN k) (aa (rwE r))) (.bl af))->∃ r',RwOk m os.length r'/\∀ t,t[j7]?=aa (ae,os.map rwE)->∃ d,ex F (hdC (tlC 2 (bdC (hdC (tlC 10 c__law_two.body))))) (E2 hd tk m wy j5 sz j7 (jN k) (aa (rwE r))) t=aa (.nx (E2 hd tk m wy j5 sz j7 (jN k) (aa (rwE r'))),d)/\Grw t d:=λA=>⟨r,q,λt a=>by
  obtain⟨c,n,l⟩:=A t a t .refl;exact⟨c,(YJ n).trans Zf,l⟩⟩
 have b:∀ {r},∀ t,t[j7]?=aa (ae,os.map rwE)->Y F t (.ix (.v 7) (.v 8)) (E2 hd tk m wy j5 sz j7 (jN k) (aa (rwE r))) (rwE f):=λ{r} t a=>.ixl (j:=k) a () () (by show(os.map rwE)[k]?=_;rw[aV,C];rfl)
 cases r with
 |put x y g z=>
  cases f with
  |put o G H E=>exact⟨.put o y g z,⟨B.1,q.2⟩,λt a=>by
    have s:Y F t (.and (.e (.x 9 0) (.t "put")) (.e (.ix (.ix (.v 7) (.v 8)) (.i 0)) (.t "put"))) (E2 hd tk m wy j5 sz j7 (jN k) (aa (rwE (.put x y g z)))) (.bl ae):=.and (k:=ae) (m:=ae) () λ_=>.cmp (x:=.str "put") (.ixt (j:=0) (b t a) () rfl) () λ_=>rfl
    obtain⟨c,n,l⟩:=s t .refl;have ys:Y F c (.p (.p (.slice (.v 9) .nop (.part (.i 1))) (.slice (.ix (.v 7) (.v 8)) (.part (.i 1)) (.part (.i 2)))) (.slice (.v 9) (.part (.i 2)) .nop)) (E2 hd tk m wy j5 sz j7 (jN k) (aa (rwE (.put x y g z)))) (rwE (.put o y g z)):=.adT (.adT (.tkT (i:=1) (xs:=[.str "put",.int (x:Int),opE y,.str g,opE z]) () () (show 1<=5 by decide)) (.cutT (b c (l.get a))) (by show 1+1<=100000;decide)) (.dpT (i:=2) (xs:=[.str "put",.int (x:Int),opE y,.str g,opE z]) () () (show 2<=5 by decide)) (by show 2+3<=100000;decide)
    obtain⟨u,D,w⟩:=ys c .refl;exact⟨u,(ZL n).trans ((Zc (Zh D)).trans Zf),l.trans w⟩⟩
  |ifr _ _ _ _=>exact no λt a=>.and (k:=ae) (m:=af) () λ_=>.cmp (x:=.str "if") (.ixt (j:=0) (b t a) () rfl) () λ_=>rfl
  |go _=>exact no λt a=>.and (k:=ae) (m:=af) () λ_=>.cmp (x:=.str "go") (.ixt (j:=0) (b t a) () rfl) () λ_=>rfl
  |tell _=>exact no λt a=>.and (k:=ae) (m:=af) () λ_=>.cmp (x:=.str "tell") (.ixt (j:=0) (b t a) () rfl) () λ_=>rfl
  |skip=>exact no λt a=>.and (k:=ae) (m:=af) () λ_=>.cmp (x:=.str "skip") (.ixt (j:=0) (b t a) () rfl) () λ_=>rfl
 |ifr _ _ _ _=>exact no λt a=>.and (k:=af) (m:=af) () λh=>(nomatch h)
 |go _=>exact no λt a=>.and (k:=af) (m:=af) () λh=>(nomatch h)
 |tell _=>exact no λt a=>.and (k:=af) (m:=af) () λh=>(nomatch h)
 |skip=>exact no λt a=>.and (k:=af) (m:=af) () λh=>(nomatch h)
def Zgn{tk:Nat}(h:Ow m ns rs os j5 j7 st)(hm:m<=5)(C:ns.length<=63):∃ (os':Li Rw) (x8 x9:Ot D) (t:Za),ex (rT (n+5)) (hdC (tlC 10 c__law_two.body)) (E2 hd tk m wy j5 rs.length j7 ab ab) st=aa (.nx (E2 hd tk m wy j5 rs.length j7 x8 x9),t)/\Ow m ns rs os' j5 j7 t:=by
 have I:Y (rT (n+5)) st (.and (.cmp .In (.v 4) (.lstE (.aC (.i 2) (.aC (.i 3) (.aC (.i 4) (.u (.i 6))))))) (.cmp .Gt (.v 6) (.i 0))) (E2 hd tk m wy j5 rs.length j7 ab ab) (.bl (([2,3,4,6]:Li Int).any (λi=>ak (i=wy))&&ak ((0:Int) < (rs.length:Int)))):=.and (.inI (l:=[2,3,4,6]) () λ_ _=>.mk ()) λ_=>.gts () ()
 obtain⟨p,o,B⟩:=I st .refl;cases e:(([2,3,4,6]:Li Int).any (λi=>ak (i=wy))&&ak ((0:Int) < (rs.length:Int))) with
 |false=>rw[e]at o;exact⟨os,ab,ab,p,(YJ o).trans Zf,h.up B⟩
 |true=>
  rw[e]at o;rw[Ba,aO]at e;have x:=h.up B;have w:=h.le;have hv:=Zo (ceI ns 1 / 8) (j:=(rs.length:Int)) e.2;obtain⟨v,ev⟩:∃ v:Nat,(os.length:Int) - 1 - ceI ns 1 / 8 % (rs.length:Int)=(v:Int):=⟨_,(cF ∅).symm⟩
  have K:Y (rT (n+5)) p (.l (.l (.len (.v 7)) (.i 1)) (.m (.k (.f 27 (.a 0 (.u (.i 1)))) (.i 8)) (.v 6))) (E2 hd tk m wy j5 rs.length j7 ab ab) (.int (v:Int)):=by
   rw[<-ev];have z:=Y.lenl (F:=rT (n+5)) (a:=.v 7) (U:=E2 hd tk m wy j5 rs.length j7 ab ab) x.h7 ();rw[aD]at z;exact .sub (.sub z ()) (.md (.fd (YW (k:=1) (n:=n+4) x.g ∅ C ()) () #[]) () e.2)
  obtain⟨A,Z,P⟩:=K p .refl;have H:=x.up P;have J:Y (rT (n+5)) A (.f 29 (.aC XL (.a 3 (.s 6)))) (E2 hd tk m wy j5 rs.length j7 (jN v) ab) (rwE (UK (ceI ns (2+0)) (ceI ns (2+1)) (ceI ns (2+2)) (ceI ns (2+3)) m rs.length)):=
   .callL (xs:=[.int (ceI ns (2+0)),.int (ceI ns (2+1)),.int (ceI ns (2+2)),.int (ceI ns (2+3))]) (ys:=[.int (m:Int),.int (rs.length:Int)]) (Wb (b:=one) (wk:=YB ae) (fr:=[0]) (it:=.i 4) (l:=aj 4) (en:=λ(k:Nat)=>D.int (k:Int)) (g:=λi=>.int (ceI ns (2+i))) (V1 (N:=4) #[] ()) #[] λi S=>by
    have:=cG.mp S;refine YW (k:=2+i) (n:=n+4) H.g ∅ C (.cons () (.cons ?_ .nil))
    rw[cK];exact .add () ()) (λst g=>.r rf) (by show 2 < 1000;decide) λst j bb g R=>Zdv (n:=n+2) R ∅ (by have:=h.len;omega)
  obtain⟨L,X,O⟩:=J A .refl;have G:=H.up O;have c:v < os.length:=by omega
  have T:os[v]?=aa os[v]:=Lg c;obtain⟨r',q,Q⟩:=Jp (F:=rT (n+5)) (m:=m) (hd:=hd) (wy:=wy) (tk:=tk) (j5:=j5) (j7:=j7) (sz:=rs.length) (RwOk.mono (Zbs (c0:=ceI ns (2+0)) (c1:=ceI ns (2+1)) (c2:=ceI ns (2+2)) (c3:=ceI ns (2+3)) (m:=m) (sz:=rs.length)) w) T (h.ok _ (bN c));obtain⟨t4,W,M⟩:=Q L G.h7
  have E:=G.up M;have V:=Zfo (F:=rT (n+5)) (i:=7) (v:=8) (y:=9) (U:=E2 hd tk m wy j5 rs.length j7 (jN v) (aa (rwE r'))) (k:=v) (d:=rwE r') rfl rfl rfl E.h7 (by rw[aD];exact c)
  exact⟨os.set v r',_,_,_,(ZL o).trans ((Zc (Zh Z)).trans ((Zc (Zh X)).trans ((Zc W).trans ((Zc V).trans Zf)))),E.set q⟩
end
section
variable{c:Int}
def Y.repT{c:Nat}(e:Y F s a U (.tup [x]))(d:Y F s b U (.int (c:Int)))(h:c<=3):Y F s (.h a b) U (.tup (ag c x)):=g2 e d (gp λst=>by
 show(if (c:Int)<=1000/\-1000<=(c:Int) then aa (D.tup (ag (c:Int).toNat x),st) else ab)=_
 rw[aq ∅,bH])
def Zdq{tk:Nat}{x8 x9:Ot D}(h:Ow m ns rs os j5 j7 st)(y:Rs m rs)(J:ns.length<=63)(C:tk<=3)(z:m<=5):∃ d t,ex (rT (n+5)) (tlC 11 c__law_two.body) (E2 hd tk m wy j5 rs.length j7 x8 x9) st=aa (.rt d,t)/\Grw st t/\TwP d:=by
 have b:Rs m os:=⟨by have:=h.len;omega,h.ok⟩
 have A:=h.len;have K:=h.le;have l:Y (rT (n+5)) st (.g (.aC (.h (.g (.u (.g (.aC (.i 0) (.u (.i 4)))))) (.v 2)) (.a 3 (.u (.tOf (.v 5)))))) (E2 hd tk m wy j5 rs.length j7 x8 x9) (pgD (.tup (ag tk (.tup [.int 0,.int 4]))) m rs):=.cons (.repT () () C) (.cons () (.cons (.tof h.h5 ()) .nil))
 obtain⟨q,G,x⟩:=l st .refl;have E:=h.up x;have j:Y (rT (n+5)) q (.g (.aC (.h (.g (.u (.g (.aC (.neg (.i 9)) (.u (.i 9)))))) (.v 2)) (.a 3 (.u (.tOf (.v 7)))))) [jL 0,jI hd,jN tk,jN m,jI wy,jL j5,jN rs.length,jL j7,x8,x9,aa (pgD (.tup (ag tk (.tup [.int 0,.int 4]))) m rs),ab] (pgD (.tup (ag tk (.tup [.int (-9),.int 9]))) m os):=.cons (.repT () () C) (.cons () (.cons (.tof E.h7 ()) .nil))
 obtain⟨p,F,w⟩:=j q .refl;have L:=E.up w;have H:Y (rT (n+5)) p (.e (.m (.k (.f 27 (.a 0 (.u (.i 1)))) (.i 104)) (.i 2)) (.i 1)) [jL 0,jI hd,jN tk,jN m,jI wy,jL j5,jN rs.length,jL j7,x8,x9,aa (pgD (.tup (ag tk (.tup [.int 0,.int 4]))) m rs),aa (pgD (.tup (ag tk (.tup [.int (-9),.int 9]))) m os)] (.bl (ak (ceI ns 1 / 104 % 2=1))):=.eqi (.md (.fd (YW (k:=1) (n:=n+4) L.g ∅ J ()) () #[]) () #[]) ()
 obtain⟨o,c,I⟩:=H p .refl;have s:Grw st o:=x.trans (w.trans I);cases B:ak (ceI ns 1 / 104 % 2=1) with
 |true=>
  rw[B]at c;exact⟨_,o,(Zc (Zh G)).trans ((Zc (Zh F)).trans (Zn ((ZL c).trans (Zn (ZQ rfl))))),s,_,_,m,os,rs,rfl,z,b,y,A,∅⟩
 |false=>
  rw[B]at c;exact⟨_,o,(Zc (Zh G)).trans ((Zc (Zh F)).trans ((Zc ((YJ c).trans Zf)).trans (Zn (ZQ rfl)))),s,_,_,m,rs,os,rfl,z,y,b,∅,A⟩
def Zdr{tk:Nat}(h:Ow m ns rs os j5 j7 st)(z:Rs m rs)(G:ns.length<=63)(W:tk<=3)(I:m<=5)(L:wy=5\/wy=6->rs.length<=6):∃ d t,ex (rT (n+5)) (tlC 7 c__law_two.body) (E2 hd tk m wy j5 rs.length j7 ab ab) st=aa (.rt d,t)/\Grw (S0 ns) t/\TwP d:=by
 have hl:=h.len;have S:=h.le;obtain⟨R,ta,oa,ea,ka,H⟩:=ZbI (F:=rT (n+5)) (hd:=hd) (wy:=wy) (tk:=tk) (e7:=XJ) (e:=.or (.e (.v 4) (.i 1)) (.e (.v 4) (.i 4))) h (.or (.eqi () ()) λ_=>.eqi () ()) λ_ t g=>by
  obtain⟨D,j,C,A,p,k⟩:=Ln.comp (F:=rT (n+5)) (s:=t) (U:=E2 hd tk m wy j5 rs.length j7 ab ab) (b:=one) (wk:=YB af) (fr:=[]) (it:=.v 5) (elt:=.call 124 (.s 0) []) (l:=rs) (en:=rwE) (g:=λr=>rwE (mrF m rs.length r)) (.lst (g.get h.h5) ()) ∅ (λr o=>.call1 () ((ZdL (z.ok r o)).2 (n+4) _)) t .refl
  exact⟨j,D,rs.map (mrF m rs.length),C,A,k,by rw[p,bQ];rfl,λr o=>by
   rw[aD];obtain⟨O,X,rfl⟩:=aR.mp o;exact(ZdL (z.ok O X)).1,by rw[aD];omega,by rw[aD];exact aB _⟩
 obtain⟨Q,tb,ob,eb,kb,K⟩:=ZbI (F:=rT (n+5)) (hd:=hd) (wy:=wy) (tk:=tk) (kb:=ak (wy=5)||ak (wy=6)) (e7:=.call 125 (.a 5 (.u (.f 27 (.a 0 (.u (.i 2)))))) []) (e:=.or (.e (.v 4) (.i 5)) (.e (.v 4) (.i 6))) H (.or (.eqi () ()) λ_=>.eqi () ()) λJ t g=>by
  rw[cB,aO,aO]at J;have L:=L J;have Z:Grw (S0 ns) t:=H.g.trans g;have q:Y (rT (n+5)) t (.a 5 (.u (.f 27 (.a 0 (.u (.i 2)))))) (E2 hd tk m wy j5 rs.length R ab ab) (.tup [.lst j5,.int (ceI ns 2)]):=.cons () (.cons (YW (k:=2) (n:=n+4) Z ∅ G ()) .nil)
  obtain⟨D,C,E⟩:=q t .refl;obtain⟨d,N,e2,P,⟨j,w,rfl,A,p,ok,_,len⟩,j',M,ej,y,hx⟩:=Jc (n:=n+3) (m:=m) (c:=ceI ns 2) (rs:=rs) (sz:=rs.length) rfl ∅ z.ok ((g.trans E).get H.h5)
  cases ej;rw[p]at y;have:w.length=2 * rs.length:=by
   have e:=av (λx=>(x.map (λc:Y5=>c.2.length)).getD 0) y
   simp only[Option.map_some,fE,aD]at e;omega
  exact⟨j,N,w,by show Zl (ev (rT (n+5)) _) (XG (rT (n+5) 125) []) _ t=_;unfold Zl;rw[C];exact e2,aK E.len A,E.trans P,p,ok,∅,∅⟩
 obtain⟨jc,tc,oc,ec,kc,T⟩:=ZbI (F:=rT (n+5)) (hd:=hd) (wy:=wy) (tk:=tk) (e7:=.rs af (.v 5)) (e:=.e (.v 4) (.i 7)) K (.eqi () ()) λ_ t g=>by
  obtain⟨D,j,C,A,p,k⟩:=Ln.rev (F:=rT (n+5)) (s:=t) (e:=.v 5) (U:=E2 hd tk m wy j5 rs.length Q ab ab) (g.get K.h5) () t .refl;exact⟨j,D,rs.reverse,C,A,k,by rw[p,List.map_reverse],λr o=>by rw[dL];exact z.ok r (List.mem_reverse.mp o),by rw[dL];omega,by rw[dL];exact aB _⟩
 obtain⟨od,x8,x9,td,ed,B⟩:=Zgn (n:=n) (hd:=hd) (wy:=wy) (tk:=tk) T I G;obtain⟨d,t,e,k,V⟩:=Zdq (n:=n) (hd:=hd) (wy:=wy) (tk:=tk) (x8:=x8) (x9:=x9) B z G W I;exact⟨d,t,(Zc ea).trans ((Zc eb).trans ((Zc ec).trans ((Zc ed).trans e))),B.g.trans k,V⟩
def Zfw(z:ns.length<=63):∃ d t,rT (n+6) 47 [.lst 0] (S0 ns)=aa (d,t)/\Grw (S0 ns) t/\TwP d:=by
 have H:=Zo (ceI ns 0) (j:=4) #[]
 obtain⟨tk,o⟩:∃ t:Nat,ceI ns 0 % 4=(t:Int):=⟨_,(cF H.1).symm⟩;rw[o]at H;have hv2:=Zo (ceI ns 0 / 4) (j:=6 - (tk:Int)) ∅
 obtain⟨m,em⟩:∃ t:Nat,(tk:Int)+ceI ns 0 / 4 % (6 - (tk:Int))=(t:Int):=⟨_,(cF ∅).symm⟩
 have I:m<=5:=by omega
 generalize hw:ceI ns 1 % 8=wy;have Q:Y (rT (n+5)) (S0 ns) (.f 27 (.a 0 (.u (.i 0)))) [jL 0,ab,ab,ab,ab,ab,ab,ab,ab,ab,ab,ab] (.int (ceI ns 0)):=VA (k:=0) (n:=n+4) rfl ∅ z ()
 obtain⟨s1,e1,k1⟩:=Q _ .refl;have P:Y (rT (n+5)) s1 (.m (.v 1) (.i 4)) [jL 0,jI (ceI ns 0),ab,ab,ab,ab,ab,ab,ab,ab,ab,ab] (.int (tk:Int)):=by rw[<-o];exact .md () () #[]
 obtain⟨T,e2,Z⟩:=P _ .refl;have O:Y (rT (n+5)) T (.p (.v 2) (.m (.k (.v 1) (.i 4)) (.l (.i 6) (.v 2)))) [jL 0,jI (ceI ns 0),jN tk,ab,ab,ab,ab,ab,ab,ab,ab,ab] (.int (m:Int)):=by rw[<-em];exact .add () (.md (.fd () () #[]) (.sub () ()) ∅)
 obtain⟨E,e3,X⟩:=O _ .refl;have L:Grw (S0 ns) E:=k1.trans (Z.trans X);have N:Y (rT (n+5)) E (.m (.f 27 (.a 0 (.u (.i 1)))) (.i 8)) [jL 0,jI (ceI ns 0),jN tk,jN m,ab,ab,ab,ab,ab,ab,ab,ab] (.int wy):=by rw[<-hw];exact .md (YW (k:=1) (n:=n+4) L ∅ z ()) () #[]
 obtain⟨S,e4,W⟩:=N _ .refl;have K:=L.trans W;obtain⟨d5,D,e5,V,j5,rs,rfl,hj5,B,c,_,b⟩:=Zea (n:=n) (m:=m) (w:=wy) z I K;have g:rs.length<=12:=by split at b<;>omega
 have C:ex (rT (n+5)) (.set 5 (.f 126 (.a 0 (.a 3 (.s 4))))) [jL 0,jI (ceI ns 0),jN tk,jN m,jI wy,ab,ab,ab,ab,ab,ab,ab] S=aa (.nx [jL 0,jI (ceI ns 0),jN tk,jN m,jI wy,jL j5,ab,ab,ab,ab,ab,ab],D):=Zh e5
 have M:Y (rT (n+5)) D (.len (.v 5)) [jL 0,jI (ceI ns 0),jN tk,jN m,jI wy,jL j5,ab,ab,ab,ab,ab,ab] (.int (rs.length:Int)):=by
  have y:=Y.lenl (F:=rT (n+5)) (a:=.v 5) (U:=[jL 0,jI (ceI ns 0),jN tk,jN m,jI wy,jL j5,ab,ab,ab,ab,ab,ab]) B ();rw[aD]at y;exact y
 obtain⟨x,e6,A⟩:=M _ .refl;obtain⟨R,j7,e7,hj7,h7,G⟩:=Ln.lo (F:=rT (n+5)) (s:=x) (e:=.v 5) (U:=[jL 0,jI (ceI ns 0),jN tk,jN m,jI wy,jL j5,jN rs.length,ab,ab,ab,ab,ab]) (A.get B) () x .refl;have J:Grw (S0 ns) x:=K.trans (V.trans A);have h:=A.get B
 have hR:Rs m rs:=⟨∅,c⟩
 obtain⟨d,t,e8,gt,hP⟩:=Zdr (n:=n) (hd:=ceI ns 0) (wy:=wy) (tk:=tk) (st:=R) (j5:=j5) (j7:=j7) (rs:=rs) (os:=rs) (m:=m) (ns:=ns) ⟨J.trans G,G.get h,h7,by have:=Zy h;omega,by have:=J.len;have:1<=x.length:=this;omega,c,g,aB _⟩ hR z ∅ I (λq=>by rw[aq q]at b;exact b)
 refine⟨d,t,UG (v:=c__law_two) rfl rfl ((Zc (Zh e1)).trans ((Zc (Zh e2)).trans ((Zc (Zh e3)).trans ((Zc (Zh e4)).trans ((Zc C).trans ((Zc (Zh e6)).trans ((Zc (Zh e7)).trans e8))))))),gt,hP⟩
end
section
variable{b:Nat}{vs:Li Tr}
def Zgk(h:stB K u=ae):Cu K u:=by
 unfold stB at h;cases q:lk K u.1 u.2.1 with
 |none=>rw[q]at h;exact nomatch h
 |some b=>
  rw[q]at h;have h:=ao h;exact⟨b,q,λi a=>by rw[<-h,dA,Ba]at a;exact a.2⟩
def ZfK(h:Cu K u):stB K u=ae:=by
 obtain⟨b,c,a⟩:=h;unfold stB;rw[c];refine aF (fI λi=>?_)
 rw[dA];cases z:b.testBit i with
 |false=>rfl
 |true=>rw[a i z];rfl
theorem ZaM:∀ {vs ws:Li Tr},∀ x∈vs.foldl (λK t=>pt K t.1 t.2.1 t.2.2) ws,x∈ws\/x∈vs
 |[],ws,x,h=>.inl h
 |v :: vs,ws,x,h=>by
  rcases ZaM (vs:=vs) x h with h|h
  .rcases WW h with rfl|h
   .exact .inr Ls
   .exact .inl h
  .exact .inr (Lm _ h)
theorem ZaL:∀ {vs ws:Li Tr},((ws++vs).map ky).Nodup->vs.foldl (λK t=>pt K t.1 t.2.1 t.2.2) ws=ws++vs
 |[],ws,_=>(bD ws).symm
 |v :: vs,ws,h=>by
  have b:lk ws v.1 v.2.1=ab:=by
   cases z:lk ws v.1 v.2.1 with
   |none=>rfl
   |some c=>
    rw[cL,List.nodup_append]at h;exact au rfl (h.2.2 (ky (v.1,v.2.1,c)) (aR.mpr ⟨_,ZH z,rfl⟩) (ky v) Ls)
  have a:(ws++[v])++vs=ws++v :: vs:=by rw[aM];rfl
  show vs.foldl _ (pt ws v.1 v.2.1 v.2.2)=_;rw[VP b,ZaL (by rw[a];exact h),a]
def ZfZ(h:kB tk tk' m rs rs' us=ae)(g:∀ t∈us,t.2.2 < 2 ^ m):Kp tk tk' m rs rs' (knW us):=by
 unfold kB at h;rw[Ba,Ba]at h;have c:∀ x∈knW us,x∈us:=λx d=>(ZaM x d).resolve_left λz=>nomatch z
 refine⟨?_,λt f=>g t (c t f),λk j b q=>?_⟩
 .obtain⟨b,i⟩:=gJ.mp h.1.2
  exact aR.mpr ⟨_,ZH i,rfl⟩
 .have w:=bZ.mp h.2 (k,j,b) (c _ (ZH q))
  unfold wkB at w;cases a:fwO tk tk' m rs rs' (k,j,b) with
  |none=>rw[a]at w;exact nomatch w
  |some vs=>
   rw[a]at w;refine⟨vs,?_,λu e=>Zgk (bZ.mp w u e)⟩
   unfold fwO at a;split at a
   .rename_i d
    cases a;exact d.choose_spec
   .exact nomatch a
def Zcg(h:∀ n s,C (rT (n+7)) s 122 [pgD tk m rs,pgD tk' m rs',.int (t.1:Int),.int (t.2.1:Int),.int (t.2.2:Int)] (.tup (us.map trD)))(f:FolT m rs rs' t.1 t.2.1 t.2.2 us):fwO tk tk' m rs rs' t=aa us:=by
 unfold fwO;have a:∃ us,ZbU tk tk' m rs rs' t.1 t.2.1 t.2.2 us:=⟨us,f,h⟩;rw[dif_pos a];have e:=C.eq (a.choose_spec.2 0 []) (h 0 [])
 injection e with e
 rw[Qv e]
theorem Qi:∀ {us:Li Tr}{u v:Tr},(us.map ky).Nodup->u∈us->v∈us->ky u=ky v->u=v
 |x :: us,u,v,h,b,a,e=>by
  have h:(ky x :: us.map ky).Nodup:=h;rw[cA]at h;rcases aL.mp b with rfl|h2<;>rcases aL.mp a with rfl|h3
  .rfl
  .exact(h.1 (aR.mpr ⟨v,h3,e.symm⟩)).elim
  .exact(h.1 (aR.mpr ⟨u,h2,e⟩)).elim
  .exact Qi h.2 h2 h3 e
def Cl.wk(h:Cl Lp tk tk' m sz sz' rs rs' us)(a:t∈us):∃ vs,ZbU tk tk' m rs rs' t.1 t.2.1 t.2.2 vs/\∀ u∈vs,Cu us u:=by
 obtain⟨b,c⟩:=Yg (aR.mpr ⟨t,a,rfl⟩:(t.1,t.2.1)∈us.map ky);have e:=Qi h.nd a (ZH c) rfl;have:=h.cv _ _ _ c;rw[e];exact this
theorem Cl.kB(h:Cl Lp tk tk' m sz sz' rs rs' us):Dp.kB tk tk' m rs rs' us=ae:=by
 have e:knW us=us:=ZaL (ws:=[]) h.nd;unfold Dp.kB;rw[e,Ba,Ba,aO];obtain⟨c,d⟩:=Yg h.rt;refine⟨⟨rfl,by rw[d];rfl⟩,bZ.mpr λt b=>?_⟩
 obtain⟨vs,f,z⟩:=h.wk b;unfold wkB;rw[Zcg f.2 f.1];exact bZ.mpr λu a=>ZfK (z u a)
end
section
variable{q:Nat}{vs:Li Tr}{B:D->Env->Za->Ot (Fl×Za)}
theorem WN{α:Type}{en:α->D}{l:Li α}{g:α->Bool}{J:Nat->Env->Za->Prop}(c:∀ i U st,J i U st->st[w]?=aa (bb,l.map en))(j:∀ i x,l[i]?=aa x->∀ U st,J i U st->(g x=ae/\∃ b st',B (en x) U st=aa (.nx b,st')/\J (i+1) b st')\/(g x=af/\∃ st',B (en x) U st=aa (.rt (.bl af),st')/\Grw s st')) :
  ∀ M i U st,i+M=l.length->J i U st->((l.drop i).all g=ae/\∃ b st',ZF B w M i U st=aa (.nx b,st')/\J l.length b st')\/((l.drop i).all g=af/\∃ st',ZF B w M i U st=aa (.rt (.bl af),st')/\Grw s st')
 |0,i,U,st,e,h=>by
  have e:i=l.length:=by omega
  subst e;refine .inl ⟨by rw[fQ];rfl,U,st,?_,h⟩
  unfold ZF;rw[c _ _ _ h];exact aq (by rw[aD];exact aB _)
 |M+1,i,U,st,e,h=>by
  have m:i < l.length:=by omega
  have f:l[i]?=aa l[i]:=Lg m;have hd:l.drop i=l[i] :: l.drop (i+1):=bV m;have k:(l.map en)[i]?=aa (en l[i]):=by rw[aV,f];rfl
  rw[hd,cH];rcases j i _ f U st h with⟨g1,a,s1,d,o⟩|⟨g1,s1,d,n⟩
  .have eq:ZF B w (M+1) i U st=ZF B w M (i+1) a s1:=by
    conv=>lhs;unfold ZF
    simp only[c _ _ _ h,k,d]
   rw[g1,fH,eq];exact WN c j M (i+1) a s1 ∅ o
  .refine .inr ⟨by rw[g1];rfl,s1,?_,n⟩
   conv=>lhs;unfold ZF
   simp only[c _ _ _ h,k,d]
end
section
variable{q A:Nat}{vs:Li Tr}{r:CS}
def Y.shl(a:Y F s b U (.int (m:Int)))(c:m<=60):Y F s (.bin .LShift (.i 1) b) U (.int ((2 ^ m:Nat):Int)):=.bi () a (by
 show(if 0<=(m:Int)/\(m:Int)<=1000/\ZT 1=ae then aa ((1:Int) * 2 ^ (m:Int).toNat) else ab)=_
 rw[aq ⟨∅,∅,rfl⟩,bH,Int.one_mul,Int.natCast_pow];rfl)
def ZeI{i:Nat}(h:U[i]?=aa (aa (pgD tk m rs))):Y F s (.len (.ix (.v i) (.i 2))) U (.int (rs.length:Int)):=by
 have y:=Y.lnT (F:=F) (s:=s) (a:=.ix (.v i) (.i 2)) (U:=U) (xs:=rs.map rwE) (.ixt (j:=2) (xs:=[tk,.int (m:Int),.tup (rs.map rwE)]) (.v h) () rfl);rw[aD]at y;exact y
theorem RL.ret(h:Lv s (ev F e U) xs):RL F s (.seq (.ret e) p) U xs:=λst g=>by
 obtain⟨s1,j,b,d,c,a⟩:=h st g;exact⟨s1,j,b,Zn (ZQ d),c,a⟩
def RL.set{i:Nat}(h:Y F s e U d)(k:RL F s p (Zk U i d) xs):RL F s (.y i e p) U xs:=λst g=>by
 obtain⟨s1,n,a⟩:=h st g;obtain⟨c,j,b,m,l,f⟩:=k s1 (g.trans a);exact⟨c,j,b,(Zc (Zh n)).trans m,l,a.trans f⟩
def RL.no(h:Y F s e U (.bl af))(f:RL F s p U xs):RL F s (.seq (.ite e r .skip) p) U xs:=λst g=>by
 obtain⟨s1,l,a⟩:=h st g;obtain⟨c,j,b,k,i,d⟩:=f s1 (g.trans a);exact⟨c,j,b,(Zc ((YJ l).trans Zf)).trans k,i,a.trans d⟩
def RL.yes(h:Y F s e U (.bl ae))(f:RL F s r U xs):RL F s (.seq (.ite e r .skip) p) U xs:=λst g=>by
 obtain⟨s1,l,a⟩:=h st g;obtain⟨c,j,b,k,i,d⟩:=f s1 (g.trans a);exact⟨c,j,b,Zn ((ZL l).trans k),i,a.trans d⟩
def RL.pick{a:Bool}{P:Li Tr->Prop}(h:Y F s e U (.bl a))(d:a=ae->∃ us,P us/\RL F s r U (us.map trD))(c:a=af->∃ us,P us/\RL F s p U (us.map trD)):∃ us,P us/\RL F s (.seq (.ite e r .skip) p) U (us.map trD):=by
 cases a with
 |true=>obtain⟨us,b,z⟩:=d rfl;exact⟨us,b,.yes h z⟩
 |false=>obtain⟨us,b,z⟩:=c rfl;exact⟨us,b,.no h z⟩
def Lv.tkl(f:s[w]?=aa (bb,xs))(j:Y F s a U (.lst w))(i:Y F s b U (.int (k:Int)))(h:k<=xs.length):Lv s (ev F (.slice a .nop (.part b)) U) (xs.take k):=λst g=>by
 obtain⟨s1,m,d⟩:=j st g;obtain⟨c,l,e⟩:=i s1 (g.trans d);refine⟨c++[(ae,xs.take k)],_,_,?_,Zp,(d.trans e).trans .push⟩;show Yl (ev F a) (evC .non) (Zl (ev F b) WT) Yy U st=_;unfold Yl Zl evC;simp only[m,l];show(match c[w]? with|some (_,xs)=>aa (D.lst c.length,c++[(ae,Y4 xs ab (aa (k:Int)))])|none=>ab)=_
 rw[(g.trans (d.trans e)).get f,<-J8 h]
def Lv.dpl(f:s[w]?=aa (bb,xs))(j:Y F s a U (.lst w))(i:Y F s b U (.int (k:Int)))(h:k<=xs.length):Lv s (ev F (.slice a (.part b) .nop) U) (xs.drop k):=λst g=>by
 obtain⟨s1,m,d⟩:=j st g;obtain⟨c,l,e⟩:=i s1 (g.trans d);refine⟨c++[(ae,xs.drop k)],_,_,?_,Zp,(d.trans e).trans .push⟩;show Yl (ev F a) (Zl (ev F b) WT) (evC .non) Yy U st=_;unfold Yl Zl evC;simp only[m,l];show(match c[w]? with|some (_,xs)=>aa (D.lst c.length,c++[(ae,Y4 xs (aa (k:Int)) ab)])|none=>ab)=_
 rw[(g.trans (d.trans e)).get f,<-J6 h]
def Y.mdN(d:Y F s a U (.int (N:Int)))(c:Y F s b U (.int (M:Int)))(h:0 < M):Y F s (.m a b) U (.int ((N % M:Nat):Int)):=by
 rw[Int.natCast_emod];exact .md d c ∅
def Y.fdN(d:Y F s a U (.int (N:Int)))(c:Y F s b U (.int (M:Int)))(h:0 < M/\M < 1073741824):Y F s (.k a b) U (.int ((N / M:Nat):Int)):=by
 rw[Int.natCast_ediv];exact .fd d c ∅
def Y.muN(d:Y F s a U (.int (N:Int)))(c:Y F s b U (.int (M:Int)))(h:ZT (M:Int)=ae):Y F s (.h a b) U (.int ((N * M:Nat):Int)):=by
 rw[eQ];exact .mul d c h
def Y.adN(d:Y F s a U (.int (N:Int)))(c:Y F s b U (.int (M:Int))):Y F s (.p a b) U (.int ((N+M:Nat):Int)):=by
 rw[cK];exact .add d c
end
def bJ:CS:=hdC (tlC 3 (match hdC (tlC 2 c__law_closed.body) with|.whl _ b=>b|q=>q))
def bK:CS:=match bJ with|.for4 _ _ _ _ b=>b|q=>q
noncomputable def cX:CE:=.cmp .NotEq (.v 4) (.lstE .aN)
def bX:CS:=match hdC (tlC 2 c__law_closed.body) with|.whl _ b=>b|q=>q
variable{S:D}{x10 x11:Ot D}{Lp:Tr->Prop}{NK:Prop}
section
variable{b q:Nat}{p:Tr}
def Ek(A B S:D)(q w:Nat)(x5 x6 x7 x8 x9 x10 x11:Ot D):Env:=[aa A,aa B,aa S,aa (.dic q),jL w,x5,x6,x7,x8,x9,x10,x11]
theorem ZdV:∀ {ts:Li Tr},pt (pt ts k j b) k j c=pt ts k j c
 |[]=>by show(if k=k/\j=j then _ else _)=_;rw[aq ⟨rfl,rfl⟩];rfl
 |t :: ts=>by
  have e:∀ {x:Nat},pt (t :: ts) k j x=if t.1=k/\t.2.1=j then (k,j,x) :: ts else t :: pt ts k j x:=rfl
  by_cases h:t.1=k/\t.2.1=j
  .rw[e,e,aq h,aq h]
   show(if k=k/\j=j then _ else _)=_
   rw[aq ⟨rfl,rfl⟩]
  .rw[e,e,ar h,ar h]
   show(if t.1=k/\t.2.1=j then _ else _)=_
   rw[ar h,ZdV]
def Zfl(h:lk ts k j=aa c):(pt ts k j b).length=ts.length:=(XV h).1
def Qz(g:U[8]?=aa (jN k))(f:U[9]?=aa (jN j))(a:U[3]?=aa (aa (.dic q)))(c:ev F e U st=aa (.int (b:Int),st))(d:st[q]?=aa (ae,ts.map trD))(nd:(ts.map ky).Nodup)(h:ts.length<=400):ex F (.dput 3 (.v 8) (.v 9) e) U st=aa (.nx U,st.set q (ae,(pt ts k j b).map trD)):=by
 show Um 3 (Z4 8) (Z4 9) (ev F e) U st=_;unfold Um Z4;simp only[g,f,a,c];rw[d];show(if (ts.map trD).length < Zg then _ else _)=_
 rw[aq (by rw[aD];unfold Zg;omega),Wl nd]
abbrev Et(A B S:D)(q w:Nat)(x5 x6 x7:Ot D)(u:Tr)(x11:Ot D):Env:=Ek A B S q w x5 x6 x7 (jN u.1) (jN u.2.1) (jN u.2.2) x11
def Uh(nd:(ts.map ky).Nodup)(Q:ts.length<=400)(hh:ah.length<=19000)(ne:q≠w)(X:st[q]?=aa (ae,ts.map trD))(hb:st[w]?=aa (ae,ah.map prN))(N:s.length<=q)(sw:s.length<=w)(g:Grw s st) :
  ∃ E st',ex F bK (Et A B S q w x5 x6 x7 u x11) st=aa (.nx (Et A B S q w x5 x6 x7 u E),st')/\Grw s st'/\st'[q]?=aa (ae,(s1 (ts,ah) u).1.map trD)/\st'[w]?=aa (ae,(s1 (ts,ah) u).2.map prN):=by
 have y1:=Y.dg (F:=F) (s:=st) (a:=.v 3) (kk:=.g (.a 8 (.s 9))) (e:=.c .non) (U:=Et A B S q w x5 x6 x7 u x11) (k:=u.1) (j:=u.2.1) (d:=.non) X () () ();obtain⟨o,n,P⟩:=y1 st .refl;have m:=P.get X;have I:=P.get hb;have g1:=g.trans P
 -- the end of a turn that changes the paper
 have app:∀ {x:Ot D}{t:Za},t[w]?=aa (ae,ah.map prN)->Grw s t->∃ K,ex F (.app 4 (.g (.a 8 (.s 9)))) (Et A B S q w x5 x6 x7 u x) t=aa (.nx (Et A B S q w x5 x6 x7 u x),K)/\Grw s K/\(∀ i,i < t.length->i≠w->K[i]?=t[i]?)/\K[w]?=aa (ae,(ah++[(u.1,u.2.1)]).map prN):=λ{x t} hw gt=>by
  obtain⟨M,p,W,V⟩:=Ap.app (F:=F) (s:=t) (j:=w) (i:=4) (e:=.g (.a 8 (.s 9))) (U:=Et A B S q w x5 x6 x7 u x) (d:=prN (u.1,u.2.1)) rfl () t (ah.map prN) .refl hw (by rw[aD];show _+1<=90000;omega)
  exact⟨M,p,W.grw sw gt,λi hi hn=>W.old i hi hn,by rw[V,cL];rfl⟩
 unfold s1;dsimp only;cases R:lk ts u.1 u.2.1 with
 |none=>
  rw[R]at n;have C:=Qz (F:=F) (st:=o) (ts:=ts) (q:=q) (e:=.v 10) (U:=Et A B S q w x5 x6 x7 u (aa .non)) (k:=u.1) (j:=u.2.1) (b:=u.2.2) rfl rfl rfl rfl m nd Q;have L:q < o.length:=Zy m;obtain⟨M,p,g4,o4,V⟩:=app (x:=aa .non) (t:=o.set q (ae,(pt ts u.1 u.2.1 u.2.2).map trD)) (by rw[bR ne];exact I) (ZP g1 N)
  rw[ar (λz=>nomatch z)]
  refine⟨_,M,(Zc (Zh n)).trans ((Zc ((ZL (e:=.or (.cmp .Is (.v 11) (.c .non)) _) rfl).trans ((Zc C).trans ((Zc ((YJ rfl).trans Zf)).trans ((Zc p).trans Zf))))).trans Zf),g4,?_,V⟩;rw[o4 q (by rw[bO];exact L) ne,bM L]
  show aa (ae,(pt ts u.1 u.2.1 u.2.2).map trD)=aa (ae,(pt ts u.1 u.2.1 (u.2.2 &&& u.2.2)).map trD);rw[Nat.and_self]
 |some c=>
  rw[R]at n;have n:ev F (.dgN (.v 3) (.g (.a 8 (.s 9))) (.c .non)) (Et A B S q w x5 x6 x7 u x11) st=aa (.int (c:Int),o):=n;have Z:Y F o (.or (.cmp .Is (.v 11) (.c .non)) (.cmp .NotEq (.bin .BitAnd (.v 11) (.v 10)) (.v 11))) (Et A B S q w x5 x6 x7 u (jN c)) (.bl (af||!decide (c &&& u.2.2=c))):=.or () λ_=>.cmp (x:=.int ((c &&& u.2.2:Nat):Int)) (y:=.int (c:Int)) (.band () ()) () λ_=>by
   show aa (!decide (((c &&& u.2.2:Nat):Int)=(c:Int)))=_;rw[decide_eq_decide.mpr Int.ofNat_inj]
  obtain⟨f,C,O⟩:=Z o .refl;have l:=O.get m;have H:=O.get I;have g2:=g1.trans O;by_cases h:c &&& u.2.2=c
  .rw[aF h]at C
   rw[aq (by show aa c=aa (u.2.2 &&& c);rw[Nat.and_comm,h])]
   exact⟨_,f,(Zc (Zh n)).trans ((Zc ((YJ C).trans Zf)).trans Zf),g2,l,H⟩
  .rw[aI h]at C
   rw[ar (by show ¬aa c=aa (u.2.2 &&& c);rw[Nat.and_comm];exact λz=>h (aw z).symm)]
   have L:q < f.length:=Zy l;have l1:=Zfl (b:=u.2.2) R;have e3:=Qz (F:=F) (st:=f) (ts:=ts) (q:=q) (e:=.v 10) (U:=Et A B S q w x5 x6 x7 u (jN c)) (k:=u.1) (j:=u.2.1) (b:=u.2.2) rfl rfl rfl rfl l nd Q;have J:(f.set q (ae,(pt ts u.1 u.2.1 u.2.2).map trD))[q]?=aa (ae,(pt ts u.1 u.2.1 u.2.2).map trD):=bM L;have T:(f.set q (ae,(pt ts u.1 u.2.1 u.2.2).map trD))[w]?=aa (ae,ah.map prN):=by rw[bR ne];exact H
   have g3:Grw s (f.set q (ae,(pt ts u.1 u.2.1 u.2.2).map trD)):=ZP g2 N;generalize f.set q (ae,(pt ts u.1 u.2.1 u.2.2).map trD)=t3 at *
   have p:=Qz (F:=F) (st:=t3) (ts:=pt ts u.1 u.2.1 u.2.2) (q:=q) (e:=.bin .BitAnd (.v 10) (.v 11)) (U:=Et A B S q w x5 x6 x7 u (jN c)) (k:=u.1) (j:=u.2.1) (b:=u.2.2 &&& c) rfl rfl rfl (by
    show Vy .BitAnd (.int (u.2.2:Int)) (.int (c:Int)) t3=_;unfold Vy;have e:UZ .BitAnd (u.2.2:Int) (c:Int)=aa ((u.2.2 &&& c:Nat):Int):=by
     show(if 0<=(u.2.2:Int)/\0<=(c:Int) then aa (((u.2.2:Int).toNat &&& (c:Int).toNat:Nat):Int) else if 0<=(u.2.2:Int)/\(c:Int) < 0 then aa ((u.2.2:Int) - (((u.2.2:Int).toNat &&& (-(c:Int) - 1).toNat:Nat):Int)) else ab)=_
     rw[aq ⟨dM _,dM _⟩,bH,bH]
    simp only[e]) J (UE nd) (by rw[l1];exact Q)
   rw[ZdV]at p;have G:q < t3.length:=Zy J;obtain⟨t5,e5,g5,o5,h5⟩:=app (x:=jN c) (t:=t3.set q (ae,(pt ts u.1 u.2.1 (u.2.2 &&& c)).map trD)) (by rw[bR ne];exact T) (ZP g3 N)
   refine⟨_,t5,(Zc (Zh n)).trans ((Zc ((ZL C).trans ((Zc e3).trans ((Zc ((ZL (e:=.cmp .IsNot (.v 11) (.c .non)) rfl).trans ((Zc p).trans Zf))).trans ((Zc e5).trans Zf))))).trans Zf),g5,?_,h5⟩;rw[o5 q (by rw[bO];exact G) ne,bM G]
   rfl
end
section
variable{b q:Nat}{p:Tr}
theorem Wa(a:∀ k j b c,Lp (k,j,b)->Lp (k,j,c)->Lp (k,j,b &&& c))(J:(sz+1) * (sz'+1)<=400)(L:M<=19000)(ne:q≠w)(x:s.length<=q)(t:s.length<=w):∀ (us dn ts:Li Tr) (ah:Li (Nat×Nat)) (st:Za) (x8 x9 x10 x11:Ot D),(∀ u∈us,(u.1<=sz/\u.2.1<=sz'/\u.2.2 < 2 ^ m)/\Lp u)->In Lp tk tk' m sz sz' rs rs' p M ts ah dn->st[q]?=aa (ae,ts.map trD)->st[w]?=aa (ae,ah.map prN)->Grw s st->
  ∃ n l e d st',Zj (Xq 8 9 10 (ex F bK)) (us.map trD) (Ek A B S q w x5 x6 x7 x8 x9 x10 x11) st=aa (.nx (Ek A B S q w x5 x6 x7 n l e d),st')/\Grw s st'/\st'[q]?=aa (ae,(us.foldl s1 (ts,ah)).1.map trD)/\st'[w]?=aa (ae,(us.foldl s1 (ts,ah)).2.map prN)
 |[],dn,ts,ah,st,x8,x9,x10,x11,_,_,r,o,g=>⟨x8,x9,x10,x11,st,rfl,g,r,o⟩
 |u :: us,dn,ts,ah,st,x8,x9,x10,x11,y,f,r,o,g=>by
  have U:=X9 f.nd f.bd;have I:=f.mu;unfold mu at I;obtain⟨E,H,O,g1,T,Q⟩:=Uh (F:=F) (A:=A) (B:=B) (S:=S) (x5:=x5) (x6:=x6) (x7:=x7) (u:=u) (x11:=x11) f.nd ∅ ∅ ne r o x t g
  obtain⟨C,z,i,h,G,N,g2,R,P⟩:=Wa a J L ne x t us (dn++[u]) _ _ H (jN u.1) (jN u.2.1) (jN u.2.2) E (λv K=>y v (Lm _ K)) (f.step a (y u Ls)) T Q g1
  refine⟨C,z,i,h,G,?_,g2,R,P⟩;show(match ex F bK (Et A B S q w x5 x6 x7 u x11) st with
   |some (.nx U',st')=>Zj (Xq 8 9 10 (ex F bK)) (us.map trD) U' st'
   |some (.ct U',st')=>Zj (Xq 8 9 10 (ex F bK)) (us.map trD) U' st'
   |some (.bk U',st')=>aa (.nx U',st')
   |some (.rt v,st')=>aa (.rt v,st')
   |none=>ab)=_
  rw[O];exact N
def wlc(R:∀ k j b c,Lp (k,j,b)->Lp (k,j,c)->Lp (k,j,b &&& c))(hgo:∀ k j c,c < 2 ^ m->Lp (k,j,c)->∃ d,(∀ n s,C (rT (n+7)) s 122 [pgD tk m rs,pgD tk' m rs',.int (k:Int),.int (j:Int),.int (c:Int)] d)/\((d=.non/\NK)\/∃ us,d=.tup (us.map trD)/\FolT m rs rs' k j c us/\∀ u∈us,Lp u))(hz:(sz+1) * (sz'+1)<=400)(h1:rs.length=sz)(h2:rs'.length=sz'):∀ (M:Nat) (ts:Li Tr) (ah:Li (Nat×Nat)),M<=19000->Ou Lp tk tk' m sz sz' rs rs' M ts ah->∃ r:Ot (Li Tr),(∀ E,r=aa E->Cl Lp tk tk' m sz sz' rs rs' E)/\(r=ab->NK)/\∀ (n l:Nat),M < l->∀ (s st:Za) (q w:Nat) (x5 x6 x7 x8 x9 x10 x11:Ot D),q≠w->s.length<=q->s.length<=w->st[q]?=aa (ae,ts.map trD)->st[w]?=aa (ae,ah.map prN)->Grw s st->
  ∃ st',Grw s st'/\match r with
   |none=>Z1 (ev (rT (n+7)) cX) (ex (rT (n+7)) bX) l (Ek (pgD tk m rs) (pgD tk' m rs') S q w x5 x6 x7 x8 x9 x10 x11) st=aa (.rt .non,st')
   |some E=>(∃ y5 y6 y7 X W I H,Z1 (ev (rT (n+7)) cX) (ex (rT (n+7)) bX) l (Ek (pgD tk m rs) (pgD tk' m rs') S q w x5 x6 x7 x8 x9 x10 x11) st=aa (.nx (Ek (pgD tk m rs) (pgD tk' m rs') S q w y5 y6 y7 X W I H),st'))/\st'[q]?=aa (ae,E.map trD):=λM=>by
 induction M using Nat.strongRecOn with
 |_ M ih=>
  intro ts ah hM h
  -- what is waiting told
  have P:∀ {F:Nat->Fn}{U:Env}{w:Nat}{st:Za},U[4]?=aa (jL w)->st[w]?=aa (ae,ah.map prN)->ev F cX U st=aa (.bl (!ah.isEmpty),st++[(ae,[])]):=λ{F U w st} h4 L=>by
   show ZE (Z4 4) (ev F (.lstE .aN)) (W7 .NotEq) U st=_;unfold ZE Z4;simp only[h4];show W7 .NotEq (.lst w) (.lst st.length) (st++[(ae,[])])=_;unfold W7;have e:J4 .NotEq (.lst w) (.lst st.length) (st++[(ae,[])])=aa (!ah.isEmpty):=by
    show((o2 (λ(c d:Y5)=>Jo c.2 d.2) (st++[(ae,([]:Li D))])[w]? (st++[(ae,([]:Li D))])[st.length]?).join).map not=_
    rw[Grw.push.get L,Zp];show(Jo (ah.map prN) []).map not=_;unfold Jo;rw[aq (by show((ah.map prN).isEmpty||true)=ae;rw[Bool.or_true])]
    show aa (!((ah.map prN).isEmpty&&ae))=_;rw[dZ];cases ah<;>rfl
   simp only[e]
  cases ah with
  |nil=>
   refine⟨aa ts,λE e=>by cases e;exact⟨h.nd,h.bd,h.rt,λk j b q=>(h.cv k j b q).resolve_left λz=>(nomatch z),h.lo⟩,λe=>(nomatch e),λn l hf s st q w x5 x6 x7 x8 x9 x10 x11 ne T Q V L g=>?_⟩
   obtain⟨f,rfl⟩:∃ f,l=f+1:=⟨l - 1,∅⟩
   refine⟨st++[(ae,[])],g.trans .push,⟨x5,x6,x7,x8,x9,x10,x11,?_⟩,Grw.push.get V⟩;show Yb (ev _ cX) _ _ _ st=_;unfold Yb;rw[P (F:=rT (n+7)) (U:=Ek (pgD tk m rs) (pgD tk' m rs') S q w x5 x6 x7 x8 x9 x10 x11) rfl L];rfl
  |cons p G=>
   have Z:=h.mu;obtain⟨M,rfl⟩:∃ N,M=N+1:=⟨M - 1,by
    have hm:=h.mu;unfold mu at hm;rw[aY]at hm;omega⟩
   replace ih:=ih M (eI M);obtain⟨c,K⟩:=Yg (h.ai p Ls);have hcb:=(h.bd _ (ZH K)).2.2;obtain⟨d,hd,hP⟩:=hgo p.1 p.2 c hcb (h.lo _ (ZH K))
   -- a turn up to the triples
   have turn:∀ (n:Nat) (s st:Za) (q w:Nat) (x5 x6 x7 x8 x9 x10 x11:Ot D),q≠w->s.length<=q->s.length<=w->st[q]?=aa (ae,ts.map trD)->st[w]?=aa (ae,(p :: G).map prN)->Grw s st->∃ o J,ev (rT (n+7)) cX (Ek (pgD tk m rs) (pgD tk' m rs') S q w x5 x6 x7 x8 x9 x10 x11) st=aa (.bl ae,o)/\Grw s J/\J[q]?=aa (ae,ts.map trD)/\J[w]?=aa (ae,G.map prN)/\ex (rT (n+7)) bX (Ek (pgD tk m rs) (pgD tk' m rs') S q w x5 x6 x7 x8 x9 x10 x11) o=ex (rT (n+7)) (tlC 2 bX) (Ek (pgD tk m rs) (pgD tk' m rs') S q w (jN p.1) (jN p.2) (aa d) x8 x9 x10 x11) J:=λn s st q w x5 x6 x7 x8 x9 x10 x11 ne T Q V L g=>by
    have e0:=P (F:=rT (n+7)) (U:=Ek (pgD tk m rs) (pgD tk' m rs') S q w x5 x6 x7 x8 x9 x10 x11) rfl L;have b0:(st++[(ae,([]:Li D))])[w]?=aa (ae,(p :: G).map prN):=Grw.push.get L;have a0':(st++[(ae,([]:Li D))])[q]?=aa (ae,ts.map trD):=Grw.push.get V;have g0:Grw s (st++[(ae,([]:Li D))]):=g.trans .push;generalize st++[(ae,([]:Li D))]=o at *
    have hw:w < o.length:=Zy b0;have e1:ex (rT (n+7)) (hdC bX) (Ek (pgD tk m rs) (pgD tk' m rs') S q w x5 x6 x7 x8 x9 x10 x11) o=aa (.nx (Ek (pgD tk m rs) (pgD tk' m rs') S q w (jN p.1) (jN p.2) x7 x8 x9 x10 x11),o.set w (ae,G.map prN)):=by
     have ep:ev (rT (n+7)) (.popz (.v 4) (.i 0)) (Ek (pgD tk m rs) (pgD tk' m rs') S q w x5 x6 x7 x8 x9 x10 x11) o=aa (prN p,o.set w (ae,G.map prN)):=by
      show(match o[w]? with
       |some (ae,x :: xs)=>aa (x,o.set w (ae,xs))
       |_=>ab)=_
      rw[b0];rfl
     show WZ 5 6 (ev (rT (n+7)) _) _ o=_;unfold WZ;rw[ep];rfl
    have g2:Grw s (o.set w (ae,G.map prN)):=ZP g0 Q;have a2:(o.set w (ae,G.map prN))[q]?=aa (ae,ts.map trD):=by rw[bR (Ne.symm ne)];exact a0'
    have b2:(o.set w (ae,G.map prN))[w]?=aa (ae,G.map prN):=bM hw;generalize o.set w (ae,G.map prN)=t2 at *
    have yi:Y (rT (n+7)) t2 (.ix (.v 3) (.g (.a 5 (.s 6)))) (Ek (pgD tk m rs) (pgD tk' m rs') S q w (jN p.1) (jN p.2) x7 x8 x9 x10 x11) (.int (c:Int)):=Dp.g2 (a:=.v 3) (b:=.g (.a 5 (.s 6))) (x:=.dic q) (y:=prN p) () () (gs λst k=>by
     show ixR (.dic q) (prN p) st=_;unfold ixR;show(match ((dAt [.int (p.1:Int),.int (p.2:Int)] q st).join) with|some d=>aa (d,st)|none=>ab)=_
     rw[Xg (k.get a2),K];rfl)
    obtain⟨J,e3,k3⟩:=Y.call (F:=rT (n+7)) (s:=t2) (f:=122) (a:=.a 0 (.a 1 (.a 5 (.a 6 (.u (.ix (.v 3) (.g (.a 5 (.s 6))))))))) (U:=Ek (pgD tk m rs) (pgD tk' m rs') S q w (jN p.1) (jN p.2) x7 x8 x9 x10 x11) (xs:=[pgD tk m rs,pgD tk' m rs',.int (p.1:Int),.int (p.2:Int),.int (c:Int)]) (ds:=[]) (.cons () (.cons () (.cons () (.cons () (.cons yi .nil))))) (hd n t2) t2 .refl
    exact⟨o,J,e0,g2.trans k3,k3.get a2,k3.get b2,(Zc e1).trans (Zc (Zh e3))⟩
   rcases hP with⟨rfl,noK⟩|⟨us,rfl,fT,lw⟩
   .refine⟨ab,λE e=>(nomatch e),λ_=>noK,λn l hf s st q w x5 x6 x7 x8 x9 x10 x11 ne T Q V L g=>?_⟩
    obtain⟨f,rfl⟩:∃ f,l=f+1:=⟨l - 1,∅⟩
    obtain⟨o,J,e0,g3,a3,b3,e3⟩:=turn n s st q w x5 x6 x7 x8 x9 x10 x11 ne T Q V L g;refine⟨J,g3,?_⟩;show Yb (ev _ cX) (ZR (ex _ bX) _) _ _ st=_;unfold Yb;rw[e0];show ZR (ex _ bX) _ _ o=_;unfold ZR;rw[show ex (rT (n+7)) bX _ o=aa (.rt .non,J) from e3.trans (Zn ((ZL rfl).trans (Zn (ZQ rfl))))]
   .have hI:In Lp tk tk' m sz sz' rs rs' (p.1,p.2,c) M ts G []:=⟨h.nd,h.bd,λx hx=>h.ai x (Lm _ hx),h.rt,λk j b z=>by
     rcases h.cv k j b z with z2|z2
     .rcases aL.mp z2 with z2|z2
      .rw[<-z2]at K
       have K:lk ts k j=aa c:=K;rw[z]at K
       injection K with K
       exact .inr (.inr (by rw[<-z2,K]))
      .exact .inl z2
     .exact .inr (.inl z2),λu O=>(nomatch O),by
     unfold mu at Z ⊢
     rw[aY]at Z;omega,h.lo⟩
    have O:∀ u∈us,(u.1<=sz/\u.2.1<=sz'/\u.2.2 < 2 ^ m)/\Lp u:=λu O=>by
     have:=fT.b u O;rw[h1,h2]at this;exact⟨this,lw u O⟩
    have t:=In.all R O hI;have hO:Ou Lp tk tk' m sz sz' rs rs' M (us.foldl s1 (ts,G)).1 (us.foldl s1 (ts,G)).2:=⟨t.nd,t.bd,t.ai,t.rt,λk j b z=>by
     rcases t.cv k j b z with z2|z2|z2
     .exact .inl z2
     .exact .inr z2
     .cases z2
      exact .inr ⟨us,⟨fT,hd⟩,λu O=>t.dn u (bU _ O)⟩,t.mu,t.lo⟩
    obtain⟨r,hr1,hr0,hr2⟩:=ih _ _ ∅ hO
    refine⟨r,hr1,hr0,λn l hf s st q w x5 x6 x7 x8 x9 x10 x11 ne T Q V L g=>?_⟩
    obtain⟨f,rfl⟩:∃ f,l=f+1:=⟨l - 1,∅⟩
    obtain⟨o,J,e0,g3,a3,b3,e3⟩:=turn n s st q w x5 x6 x7 x8 x9 x10 x11 ne T Q V L g;obtain⟨X,W,I,H,t4,e4,g4,a4,b4⟩:=Wa (F:=rT (n+7)) (A:=pgD tk m rs) (B:=pgD tk' m rs') (S:=S) (x5:=jN p.1) (x6:=jN p.2) (x7:=aa (.tup (us.map trD))) R hz (show M<=19000 by omega) ne T Q us [] ts G J x8 x9 x10 x11 O hI a3 b3 g3
    obtain⟨t5,g5,h5⟩:=hr2 n f ∅ s t4 q w (jN p.1) (jN p.2) (aa (.tup (us.map trD))) X W I H ne T Q a4 b4 g4
    have e5:ex (rT (n+7)) bJ (Ek (pgD tk m rs) (pgD tk' m rs') S q w (jN p.1) (jN p.2) (aa (.tup (us.map trD))) x8 x9 x10 x11) J=aa (.nx (Ek (pgD tk m rs) (pgD tk' m rs') S q w (jN p.1) (jN p.2) (aa (.tup (us.map trD))) X W I H),t4):=e4;have eb:ex (rT (n+7)) bX (Ek (pgD tk m rs) (pgD tk' m rs') S q w x5 x6 x7 x8 x9 x10 x11) o=aa (.nx (Ek (pgD tk m rs) (pgD tk' m rs') S q w (jN p.1) (jN p.2) (aa (.tup (us.map trD))) X W I H),t4):=e3.trans ((Zc ((YJ rfl).trans Zf)).trans ((Zc e5).trans Zf))
    have ew:Z1 (ev (rT (n+7)) cX) (ex (rT (n+7)) bX) (f+1) (Ek (pgD tk m rs) (pgD tk' m rs') S q w x5 x6 x7 x8 x9 x10 x11) st=Z1 (ev (rT (n+7)) cX) (ex (rT (n+7)) bX) f (Ek (pgD tk m rs) (pgD tk' m rs') S q w (jN p.1) (jN p.2) (aa (.tup (us.map trD))) X W I H) t4:=by
     show Yb (ev _ cX) (ZR (ex _ bX) _) _ _ st=_;unfold Yb;rw[e0];show ZR (ex _ bX) _ _ o=_;unfold ZR;rw[eb]
    refine⟨t5,g5,?_⟩;cases r with
    |none=>rw[ew];exact h5
    |some E=>rw[ew];exact h5
end
section
variable{b b0 q:Nat}{p:Tr}
def UQ(h:Cl Lp tk tk' m sz sz' rs rs' ts)(p:ts.length<=400)(e:sz < 1000/\sz' < 1000):∃ us:Li Tr,(Cl Lp tk tk' m sz sz' rs rs' us/\Ris (us.map ky))/\∀ F s A B S q w x5 x6 x7 x8 x9 x10 x11,s[q]?=aa (ae,ts.map trD)->Lv s (ev F (.compT [3] (.ksrt (.v 3)) (.g (.a 0 (.a 1 (.u (.ix (.v 2) (.g (.a 0 (.s 1)))))))) (.c (.bl ae))) (Ek A B S q w x5 x6 x7 x8 x9 x10 x11)) (us.map trD):=by
 obtain⟨ks,f,o,C⟩:=UP h.nd (λk z=>by obtain⟨t,n,rfl⟩:=aR.mp z;have:=h.bd t n;exact⟨by show t.1 < _;omega,by show t.2.1 < _;omega⟩) p
 have l:=f.length_eq;rw[aD]at l;refine⟨_,⟨h.of f,by rw[bQ];exact(List.Pairwise.map _ (λ_ _=>id) o)⟩,λF s A B S q w x5 x6 x7 x8 x9 x10 x11 e=>?_⟩
 rw[bQ];refine Wb (U:=Ek A B S q w x5 x6 x7 x8 x9 x10 x11) (b:=two) (wk:=Vq) (fr:=[3]) (en:=prN) (C F s q _ 3 rfl e) ∅ λk i=>?_
 obtain⟨b,j⟩:=Yg (f.mem_iff.mp i);show Y F s _ [jN k.1,jN k.2,aa (.dic q)] (trD (k.1,k.2,(lk ts k.1 k.2).getD 0));rw[j];exact .cons () (.cons () (.cons (Dp.g2 (a:=.v 2) (b:=.g (.a 0 (.s 1))) (x:=.dic q) (y:=prN k) () () (gs λst g=>by
  show(match ((dAt [.int (k.1:Int),.int (k.2:Int)] q st).join) with|some d=>aa (d,st)|none=>ab)=_
  rw[Xg (g.get e),j];rfl)) .nil))
def ZeL{a:Nat}(h:a * ((sz+1) * (sz'+1))<=9000)(c:b < a):2 * (b+a * ((sz+1) * (sz'+1) - 1))+1<=19000:=by
 have:=ZdM (sz:=sz) (sz':=sz') h ∅
 omega
def JG(p:∀ k j b c,Lp (k,j,b)->Lp (k,j,c)->Lp (k,j,b &&& c))(G:∀ k j c,c < 2 ^ m->Lp (k,j,c)->∃ d,(∀ n s,C (rT (n+7)) s 122 [pgD tk m rs,pgD tk' m rs',.int (k:Int),.int (j:Int),.int (c:Int)] d)/\((d=.non/\NK)\/∃ us,d=.tup (us.map trD)/\FolT m rs rs' k j c us/\∀ u∈us,Lp u))(h1:rs.length=sz)(h2:rs'.length=sz')(X:(sz+1) * (sz'+1)<=400)(hs:sz < 1000/\sz' < 1000)(hB:2 ^ m * ((sz+1) * (sz'+1))<=9000)(R:b0 < 2 ^ m)(h0:Lp (0,0,b0)) :
  ∃ r:Ot (Li Tr),(r=ab->NK)/\(∀ us,r=aa us->Cl Lp tk tk' m sz sz' rs rs' us/\Ris (us.map ky))/\∀ n st,∃ t d,rT (n+8) 294 [pgD tk m rs,pgD tk' m rs',.int (b0:Int)] st=aa (d,t)/\Grw st t/\match r with
   |none=>d=.non
   |some us=>∃ j b,d=.lst j/\t[j]?=aa (b,us.map trD):=by
 obtain⟨M,y⟩:∃ M,M=19000:=⟨_,rfl⟩;have hO:Ou Lp tk tk' m sz sz' rs rs' M [(0,0,b0)] [(0,0)]:=by
  refine⟨cA.mpr ⟨λh=>(nomatch h),dI⟩,λt B=>?_,λx Y=>Y,Ls,λk j b q=>?_,?_,λt B=>?_⟩
  .rw[aQ.mp B];exact⟨aS _,aS _,R⟩
  .have:=ZH q
   have:=aQ.mp this;cases this;exact .inl Ls
  .exact aK (cU ZaS) (y ▸ ZeL hB R)
  .rw[aQ.mp B];exact h0
 obtain⟨r,D,E,o⟩:=wlc (S:=.int (b0:Int)) p G X h1 h2 M _ _ (cU y) hO
 -- up to the loop
 have pre:∀ (n:Nat) (st:Za),∃ t q w,st.length<=q/\st.length<=w/\q≠w/\Grw st t/\t[q]?=aa (ae,[(0,0,b0)].map trD)/\t[w]?=aa (ae,[(0,0)].map prN)/\ex (rT (n+7)) c__law_closed.body [aa (pgD tk m rs),aa (pgD tk' m rs'),jN b0,ab,ab,ab,ab,ab,ab,ab,ab,ab] st=ex (rT (n+7)) (tlC 2 c__law_closed.body) (Ek (pgD tk m rs) (pgD tk' m rs') (.int (b0:Int)) q w ab ab ab ab ab ab ab) t:=λn st=>by
  have I:=ZfN (F:=rT (n+7)) (U:=[aa (pgD tk m rs),aa (pgD tk' m rs'),jN b0,ab,ab,ab,ab,ab,ab,ab,ab,ab]) (st:=st) (e:=.v 2) (v:=.int (b0:Int)) rfl Zp;have ll:((st++[(ae,[])]).set st.length (ae,[(0,0,b0)].map trD)).length=st.length+1:=by rw[bO,aG];rfl
  have gg:Grw st ((st++[(ae,[])]).set st.length (ae,[(0,0,b0)].map trD)):=ZP Grw.push (aB _);have c4:((st++[(ae,[])]).set st.length (ae,[(0,0,b0)].map trD))[st.length]?=aa (ae,[(0,0,b0)].map trD):=bM (by rw[aG];show _ < _+1;omega)
  have I:ev (rT (n+7)) (.dd (.i 0) (.i 0) (.v 2)) [aa (pgD tk m rs),aa (pgD tk' m rs'),jN b0,ab,ab,ab,ab,ab,ab,ab,ab,ab] st=aa (.dic st.length,(st++[(ae,[])]).set st.length (ae,[(0,0,b0)].map trD)):=I;generalize (st++[(ae,[])]).set st.length (ae,[(0,0,b0)].map trD)=t4 at *
  exact⟨t4++[(ae,[(0,0)].map prN)],st.length,t4.length,aB _,∅,∅,gg.trans .push,Grw.push.get c4,Zp,(Zc (Zh I)).trans (Zc (Zh rfl))⟩
 cases r with
 |none=>
  refine⟨ab,λ_=>E rfl,λus e=>(nomatch e),λn st=>?_⟩
  obtain⟨t,q,w,A,z,ne,H,a,b,e⟩:=pre n st;obtain⟨l,g2,J⟩:=o n 20000 (by rw[y];decide) st t q w ab ab ab ab ab ab ab ne A z a b H
  exact⟨l,.non,UG (v:=c__law_closed) rfl rfl (e.trans (Zn J)),g2,rfl⟩
 |some ts=>
  have K:=D ts rfl;have tl:=X9 K.nd K.bd;obtain⟨us,hc,Z⟩:=UQ K ∅ hs
  refine⟨aa us,λe=>(nomatch e),λT e=>by cases e;exact hc,λn st=>?_⟩
  obtain⟨t,q,w,A,z,ne,H,a,b,e⟩:=pre n st;obtain⟨l,g2,⟨Q,P,O,N,L,g,f,J⟩,c2⟩:=o n 20000 (by rw[y];decide) st t q w ab ab ab ab ab ab ab ne A z a b H
  obtain⟨V,j,b3,e3,h3,W⟩:=Z (rT (n+7)) l (pgD tk m rs) (pgD tk' m rs') (.int (b0:Int)) q w Q P O N L g f c2 l .refl;have e4:ex (rT (n+7)) (hdC (tlC 2 c__law_closed.body)) (Ek (pgD tk m rs) (pgD tk' m rs') (.int (b0:Int)) q w ab ab ab ab ab ab ab) t=aa (.nx (Ek (pgD tk m rs) (pgD tk' m rs') (.int (b0:Int)) q w Q P O N L g f),l):=J
  exact⟨V,.lst j,UG (v:=c__law_closed) rfl rfl (e.trans ((Zc e4).trans (Zn (ZQ e3)))),g2.trans W,j,b3,rfl,h3⟩
def Cl.kp(h:Cl Lp tk tk' m sz sz' rs rs' us):Kp tk tk' m rs rs' us:=⟨h.rt,λt a=>(h.bd t a).2.2,h.cv⟩
end
section
variable{d0:D}{u:Int}
def R.yset(h:Y F s a U (.bl ae))(m:Y F s e U d0)(l:R F s q (Zk U i d0) d):R F s (.seq (.ite a (.z (.set i e)) .skip) q) U d:=λst g=>by
 obtain⟨s1,p,b⟩:=h st g;obtain⟨j,o,c⟩:=m s1 (g.trans b);obtain⟨f,n,k⟩:=l j (g.trans (b.trans c));exact⟨f,(Zc ((ZL p).trans ((Zc (Zh o)).trans Zf))).trans n,b.trans (c.trans k)⟩
def Zf5(a:v≠0)(h:Sm v):∃ w,UZ .Mod u v=aa w/\w=u - v * fdI u v/\Sm w:=by
 unfold Sm at *
 unfold fdI;by_cases c:0 < v
 .refine⟨u % v,?_,?_,?_⟩
  .show(if 0 < v then aa (u % v) else _)=_
   rw[aq c]
  .rw[aq c,Int.emod_def]
  .have:=fG u a
   have:=gC u c;omega
 .refine⟨u.fmod v,?_,?_,?_⟩
  .show(if 0 < v then aa (u % v) else if v < 0 then aa (u.fmod v) else ab)=_
   rw[ar c,aq ∅]
  .rw[ar c,Int.fmod_def]
  .have b:=Int.neg_fmod_neg u v
   rw[Int.fmod_eq_emod_of_nonneg _ (show 0<=-v by omega)]at b
   have e:=fG (-u) (show -v≠0 by omega)
   have d:=gC (-u) (show 0 < -v by omega)
   omega
def Y.anf{k:Bool}(c:Y F s a U (.bl k))(d:Y F s b U (.bl af)):Y F s (.and a b) U (.bl af):=by
 cases k with
 |true=>exact .and (k:=ae) (m:=af) c λ_=>d
 |false=>exact .and (k:=af) (m:=af) c λh=>nomatch h
def JO(d:g∈psL)(hu:Sm u)(c:Sm v):C (rT (n+1)) s 32 [.int u,.str g,.int v] (.int (rkI u g v)):=by
 unfold psL at d;simp only[aL,dH,or_false]at d;have a:∀ {U:Env}{s:Za},U[2]?=aa (jI v)->Y (rT n) s (.cmp .NotEq (.v 2) (.i 0)) U (.bl (!decide (v=0))):=λh=>.cmp (.v h) () λ_=>rfl
 rcases d with rfl|rfl|rfl|rfl|rfl
 .show C _ _ _ _ (.int (arI (u+v)))
  refine .of (v:=Zs) rfl rfl ?_;exact(.set () (.yset () (.add () ()) (.no () (.no () (.no () (.no (.anf (a rfl) ()) (.no (.anf (a rfl) ()) (.ret (.arx ())))))))))
 .show C _ _ _ _ (.int (arI (u - v)))
  refine .of (v:=Zs) rfl rfl ?_;exact(.set () (.no () (.yset () (.sub () ()) (.no () (.no () (.no (.anf (a rfl) ()) (.no (.anf (a rfl) ()) (.ret (.arx ())))))))))
 .show C _ _ _ _ (.int (arI (u * v)))
  refine .of (v:=Zs) rfl rfl ?_;exact(.set () (.no () (.no () (.yset () (.mul () () (Qe c)) (.no () (.no (.anf (a rfl) ()) (.no (.anf (a rfl) ()) (.ret (.arx ())))))))))
 .show C _ _ _ _ (.int (if v=0 then 0 else arI (fdI u v)))
  by_cases h:v=0
  .rw[aq h]
   have a:=@a;rw[aF h]at a;have z:∀ {b:CE}{U:Env}{s:Za},U[2]?=aa (jI v)->Y (rT n) s (.and (.cmp .NotEq (.v 2) (.i 0)) b) U (.bl af):=λh=>.and (k:=af) (m:=af) (a h) λh=>nomatch h
   refine .of (v:=Zs) rfl rfl ?_;exact(.set () (.no () (.no () (.no () (.yset () () (.no (z rfl) (.no (z rfl) (.ret (.arx (i:=0) ())))))))))
  .rw[ar h]
   have a:=@a;rw[aI h]at a;refine .of (v:=Zs) rfl rfl ?_;exact(.set () (.no () (.no () (.no () (.yset () () (.yset (.and (k:=ae) (m:=ae) (a rfl) λ_=>.r rf) (.fdv () () h c) (.no (.and (k:=ae) (m:=af) (a rfl) λ_=>.r rf) (.ret (.arx ())))))))))
 .show C _ _ _ _ (.int (if v=0 then u else u - v * fdI u v))
  by_cases h:v=0
  .rw[aq h]
   have a:=@a;rw[aF h]at a;have z:∀ {b:CE}{U:Env}{s:Za},U[2]?=aa (jI v)->Y (rT n) s (.and (.cmp .NotEq (.v 2) (.i 0)) b) U (.bl af):=λh=>.and (k:=af) (m:=af) (a h) λh=>nomatch h
   rw[<-V5 hu];refine .of (v:=Zs) rfl rfl ?_;exact(.set (x:=.int u) (by rw[V5 hu];exact .r rf) (.no () (.no () (.no () (.no () (.no (z rfl) (.no (z rfl) (.ret (.arx ())))))))))
  .rw[ar h]
   have a:=@a;rw[aI h]at a;obtain⟨w,j,f,e⟩:=Zf5 (u:=u) h c;rw[<-f,<-V5 e];refine .of (v:=Zs) rfl rfl ?_;exact(.set () (.no () (.no () (.no () (.no () (.no (.and (k:=ae) (m:=af) (a rfl) λ_=>.r rf) (.yset (.and (k:=ae) (m:=ae) (a rfl) λ_=>.r rf) (.bi () () j) (.ret (.arx ())))))))))
def Vi{k l:Bool}(d:Y F s a U (.bl k))(c:Y F s b U (.bl l)):Y F s (.e a b) U (.bl (k==l)):=.cmp (x:=.bl k) (y:=.bl l) d c λ_=>rfl
def Zgy(d:g∈isL):C (rT (n+1)) s 33 [.int u,.str g,.int v] (.bl (soI u g v)):=by
 unfold isL at d;simp only[aL,dH,or_false]at d;have lt:∀ {U:Env}{s:Za},U[0]?=aa (jI u)->U[2]?=aa (jI v)->Y (rT n) s (.cmp .Lt (.v 0) (.v 2)) U (.bl (ak (u < v))):=λa b=>.cmp (.v a) (.v b) λ_=>rfl
 have h:∀ {U:Env}{s:Za},U[0]?=aa (jI u)->U[2]?=aa (jI v)->Y (rT n) s (.cmp .Gt (.v 0) (.v 2)) U (.bl (ak (v < u))):=λa b=>.cmp (.v a) (.v b) λ_=>rfl
 have eq:∀ {U:Env}{s:Za},U[0]?=aa (jI u)->U[2]?=aa (jI v)->Y (rT n) s (.e (.v 0) (.v 2)) U (.bl (ak (u=v))):=λa b=>.cmp (.v a) (.v b) λ_=>rfl
 have j:(ak (u < v)==af)=ak (v<=u):=by
  by_cases c:u < v
  .rw[aF c,aI ∅];rfl
  .rw[aI c,aF ∅];rfl
 have i:(ak (v < u)==af)=ak (u<=v):=by
  by_cases c:v < u
  .rw[aF c,aI ∅];rfl
  .rw[aI c,aF ∅];rfl
 have f:∀ b:Bool,(b==ae)=b:=by decide
 have k:∀ b:Bool,(b==af)=!b:=by decide
 rcases d with rfl|rfl|rfl|rfl|rfl|rfl
 .show C _ _ _ _ (.bl (ak (u < v)))
  rw[<-f (ak (u < v))];exact .of (v:=Z3) rfl rfl (.yes () (Vi (l:=ae) (lt rfl rfl) ()))
 .show C _ _ _ _ (.bl (ak (u<=v)))
  rw[<-i];exact .of (v:=Z3) rfl rfl (.no () (.yes () (Vi (l:=af) (h rfl rfl) ())))
 .show C _ _ _ _ (.bl (ak (u=v)))
  rw[<-f (ak (u=v))];exact .of (v:=Z3) rfl rfl (.no () (.no () (.ret (Vi (l:=ae) (eq rfl rfl) ()))))
 .show C _ _ _ _ (.bl (ak (v<=u)))
  rw[<-j];exact .of (v:=Z3) rfl rfl (.yes () (Vi (l:=af) (lt rfl rfl) ()))
 .show C _ _ _ _ (.bl (ak (v < u)))
  rw[<-f (ak (v < u))];exact .of (v:=Z3) rfl rfl (.no () (.yes () (Vi (l:=ae) (h rfl rfl) ())))
 .show C _ _ _ _ (.bl (!decide (u=v)))
  rw[<-k (ak (u=v))];exact .of (v:=Z3) rfl rfl (.no () (.no () (.ret (Vi (l:=af) (eq rfl rfl) ()))))
def XE(a:Vs m vs)(h:Vw m o):C (rT (n+1)) s 34 [opE o,.tup (inZ vs)] (.int (woI vs o)):=by
 cases o with
 |nm i=>exact .of (v:=Ym) rfl rfl (.no () (.ret (.ixt (j:=i) () () (Zgs a h))))
 |nu v=>exact .of (v:=Ym) rfl rfl (.yes () ())
end
section
variable{x:Nat}{ws:Li Int}
def QE(Z:Rs m rs)(hm:m<=1000)(u:Vs m vs)(hk:k<=rs.length):C (rT (n+3)) s 103 [pgD tk m rs,stD k vs] (mvD rs k vs):=by
 suffices h:∀ A d w o:Ot D,R (rT (n+2)) s (tlC 1 c__law_moved.body) [aa (pgD tk m rs),aa (stD k vs),jN k,aa (.tup (inZ vs)),A,d,w,o] (mvD rs k vs) by
  refine .of (v:=c__law_moved) rfl rfl λst g=>?_
  obtain⟨t,e,B⟩:=h ab ab ab ab st g;have e0:ex (rT (n+2)) (hdC c__law_moved.body) [aa (pgD tk m rs),aa (stD k vs),ab,ab,ab,ab,ab,ab] st=aa (.nx [aa (pgD tk m rs),aa (stD k vs),jN k,aa (.tup (inZ vs)),ab,ab,ab,ab],st):=rfl;exact⟨t,(Zc e0).trans e,B⟩
 intro A d w o;have E:Y (rT (n+2)) s (.e (.v 2) (.len (.x 0 2))) [aa (pgD tk m rs),aa (stD k vs),jN k,aa (.tup (inZ vs)),A,d,w,o] (.bl (ak ((k:Int)=(rs.length:Int)))):=.eqi () (ZeI rfl);by_cases hK:k=rs.length
 .rw[aF (by rw[hK])]at E
  have e:mvD rs k vs=noD:=by unfold mvD mv;rw[dF ∅]
  rw[e];exact .yes E ()
 rw[aI ∅]at E
 have q:=Lg (show k < rs.length by omega)
 generalize rs[k]'∅=r at q
 have ok:=Z.ok r (aX q);have T:Y (rT (n+2)) s (.ix (.x 0 2) (.v 2)) [aa (pgD tk m rs),aa (stD k vs),jN k,aa (.tup (inZ vs)),A,d,w,o] (rwE r):=.ixt (j:=k) (xs:=rs.map rwE) () () (by rw[aV,q];rfl)
 have one:∀ {A d w o:Ot D},Y (rT (n+2)) s (.p (.v 2) (.i 1)) [aa (pgD tk m rs),aa (stD k vs),jN k,aa (.tup (inZ vs)),A,d,w,o] (.int ((k+1:Nat):Int)):=λ{A d w o}=>by
  rw[cK];exact .add () ()
 have hlz:(inZ vs).length=m:=by unfold inZ;rw[aD,u.l]
 unfold mvD;rw[ZdO q];refine .no E (.set T ?_);cases r with
 |tell y=>exact .yes () (.cons () (.cons (.call (xs:=[opE y,.tup (inZ vs)]) () (XE u ok)) .nil))
 |put x y g z=>
  obtain⟨X,H,L,G⟩:=ok;refine .no () (.yB () (.set (x:=.int (rkI (woI vs y) g (woI vs z))) (.call (xs:=[.int (woI vs y),.str g,.int (woI vs z)]) (.cons (.call (xs:=[opE y,.tup (inZ vs)]) () (XE (n:=n+1) u H)) (.cons () (.cons (.call (xs:=[opE z,.tup (inZ vs)]) () (XE (n:=n+1) u G)) .nil))) (JO (n:=n+1) L (US u H) (US u G))) (.ret (.cons one (.cons ?_ .nil)))))
  show Y _ _ _ _ (.tup (inZ (vs.set x (rkI (woI vs y) g (woI vs z)))));have ez:inZ (vs.set x (rkI (woI vs y) g (woI vs z)))=(inZ vs).take x++[.int (rkI (woI vs y) g (woI vs z))]++(inZ vs).drop (x+1):=by
   unfold inZ;rw[List.map_set,List.set_eq_take_append_cons_drop,aq (by rw[aD,u.l];exact X),aM];rfl
  rw[ez];exact .adT (.adT (.tkT () () ∅) () (by rw[aU];show _+1<=_;omega)) (.dpT () (by rw[cK];exact .add () ()) ∅) (by rw[aG,aU,cD];show _+1+_<=_;omega)
 |go t=>exact .no () (.no () (.yes () ()))
 |skip=>exact .no () (.no () (.no () (.no () (.ret (.cons one (.cons () .nil))))))
 |ifr y g z t=>
  obtain⟨H,L,G,ht⟩:=ok;refine .no () (.no () (.no () λst gt=>?_))
  obtain⟨O,Q,B⟩:=Y.call (F:=rT (n+2)) (s:=st) (f:=34) (a:=.aC (.x 4 1) (.s 3)) (U:=[aa (pgD tk m rs),aa (stD k vs),jN k,aa (.tup (inZ vs)),aa (rwE (.ifr y g z t)),d,w,o]) (xs:=[opE y,.tup (inZ vs)]) (ds:=[]) () (XE (n:=n+1) u H) st .refl;obtain⟨N,P,K⟩:=Y.call (F:=rT (n+2)) (s:=O) (f:=34) (a:=.aC (.x 4 3) (.s 3)) (U:=[aa (pgD tk m rs),aa (stD k vs),jN k,aa (.tup (inZ vs)),aa (rwE (.ifr y g z t)),d,jI (woI vs y),o]) (xs:=[opE z,.tup (inZ vs)]) (ds:=[]) () (XE (n:=n+1) u G) O .refl
  have ys:Y (rT (n+2)) N (.f 33 (.a 6 (.aC (.x 4 2) (.s 7)))) [aa (pgD tk m rs),aa (stD k vs),jN k,aa (.tup (inZ vs)),aa (rwE (.ifr y g z t)),d,jI (woI vs y),jI (woI vs z)] (.bl (soI (woI vs y) g (woI vs z))):=.call (xs:=[.int (woI vs y),.str g,.int (woI vs z)]) () (Zgy (n:=n+1) L)
  obtain⟨M,I,J⟩:=ys N .refl;show ∃ st',_=aa (Fl.rt (stD (if soI (woI vs y) g (woI vs z)=ae then t else k+1) vs),st')/\Grw st st'
  cases c:soI (woI vs y) g (woI vs z) with
  |true=>
   rw[c]at I;exact⟨M,Zn ((ZL rfl).trans ((Zc (Zh Q)).trans ((Zc (Zh P)).trans (Zn ((ZL I).trans (Zn (ZQ rfl))))))),B.trans (K.trans J)⟩
  |false=>
   rw[c]at I;have S:=Y.cons (F:=rT (n+2)) (s:=s) (a:=.p (.v 2) (.i 1)) (b:=.a 3 .aN) (U:=[aa (pgD tk m rs),aa (stD k vs),jN k,aa (.tup (inZ vs)),aa (rwE (.ifr y g z t)),d,jI (woI vs y),jI (woI vs z)]) one (.cons (x:=.tup (inZ vs)) () .nil);obtain⟨V,e4,W⟩:=S M (gt.trans (B.trans (K.trans J)))
   exact⟨V,(Zc ((ZL rfl).trans ((Zc (Zh Q)).trans ((Zc (Zh P)).trans ((Zc ((YJ I).trans Zf)).trans Zf))))).trans (Zn (ZQ e4)),B.trans (K.trans (J.trans W))⟩
end
section
variable{x q:Nat}{ws:Li Int}{B:D->Env->Za->Ot (Fl×Za)}
theorem Zbz{α:Type}:∀ {l:Li α},skR (λ_=>ab) l=ab
 |[]=>rfl
 |x :: l=>Zbz (l:=l)
def ZdI{v:Int}(h:x < vs.length):(inZ vs)[x]?=jI (vs.getD x 0):=by
 unfold inZ;rw[aV,Lg h,aP,Lg h];rfl
def ZbW(u:Vs m vs)(D:Vs m ws)(J:m<=5)(H:Ag c vs ws):C (rT (n+1)) s 36 [.tup (inZ vs),.tup (inZ ws),.int (c:Int)] (.bl ae):=by
 have h:=R.seekR (F:=rT n) (s:=s) (i:=3) (it:=.len (.v 0)) (q:=Y8) (p:=.seq (.ret (.c (.bl ae))) .skip) (N:=m) (f:=λ_=>ab) (E:=λy=>[aa (.tup (inZ vs)),aa (.tup (inZ ws)),jN c,y]) (y:=ab) (d:=.bl ae) (λ_ _=>rfl) (by
  have y:=Y.lnT (F:=rT n) (s:=s) (a:=.v 0) (U:=[aa (.tup (inZ vs)),aa (.tup (inZ ws)),jN c,ab]) (xs:=inZ vs) ();have e:(inZ vs).length=m:=by unfold inZ;rw[aD,u.l]
  rw[e]at y;exact y) ∅ (λx o=>by
   have G:2 ^ x<=16:=gG #[] (show x<=4 by omega)
   have I:=gH x;have b:Y (rT n) s (.e (.m (.k (.v 2) (.bin .LShift (.i 1) (.v 3))) (.i 2)) (.i 1)) [aa (.tup (inZ vs)),aa (.tup (inZ ws)),jN c,jN x] (.bl (ak (((c / 2 ^ x % 2:Nat):Int)=1))):=.eqi (.mdN (.fdN () (.shl () ∅) ∅) () #[]) ()
   have g:Y (rT n) s (.cmp .NotEq (.ix (.v 0) (.v 3)) (.ix (.v 1) (.v 3))) [aa (.tup (inZ vs)),aa (.tup (inZ ws)),jN c,jN x] (.bl (!decide (vs.getD x 0=ws.getD x 0))):=.cmp (x:=.int (vs.getD x 0)) (y:=.int (ws.getD x 0)) (.ixt (j:=x) () () (ZdI (v:=0) (by rw[u.l];exact o))) (.ixt (j:=x) () () (ZdI (v:=0) (by rw[D.l];exact o))) λ_=>rfl
   have A:Y (rT n) s (.and (.e (.m (.k (.v 2) (.bin .LShift (.i 1) (.v 3))) (.i 2)) (.i 1)) (.cmp .NotEq (.ix (.v 0) (.v 3)) (.ix (.v 1) (.v 3)))) [aa (.tup (inZ vs)),aa (.tup (inZ ws)),jN c,jN x] (.bl af):=by
    by_cases z:c / 2 ^ x % 2=1
    .have B:c.testBit x=ae:=by rw[Nat.testBit_eq_decide_div_mod_eq];exact aF z
     rw[aF (H x B)]at g;exact .anf b g
    .rw[aI (λw=>z ∅)]at b
     exact .and (k:=af) (m:=af) b λh=>nomatch h
   exact .ite (d:=.bl af) (t:=af) A (λh=>nomatch h) λ_=>.skip) λy=>.ret ()
 rw[Zbz]at h;exact .of (v:=YO) rfl rfl h
theorem Zf3{α:Type}{en:α->D}{I:Env->Prop}:∀ {l:Li α},(∀ x∈l,∀ U,I U->∀ st,Grw s st->(∃ b st',B (en x) U st=aa (.nx b,st')/\I b/\Grw st st')\/∃ st',B (en x) U st=aa (.rt (.bl ae),st')/\Grw st st')->
  ∀ U st,I U->Grw s st->(∃ b st',Zj B (l.map en) U st=aa (.nx b,st')/\I b/\Grw st st')\/∃ st',Zj B (l.map en) U st=aa (.rt (.bl ae),st')/\Grw st st'
 |[],_,U,st,g,_=>.inl ⟨U,st,rfl,g,.refl⟩
 |x :: l,h,U,st,g,k=>by
  rw[aZ,Zj];rcases h x Ls U g st k with⟨d,s1,j,o,a⟩|⟨s1,j,a⟩
  .simp only[j]
   rcases Zf3 (λz m=>h z (Lm _ m)) d s1 o (k.trans a) with⟨c,e,i,n,f⟩|⟨e,i,f⟩
   .exact .inl ⟨c,e,i,n,a.trans f⟩
   .exact .inr ⟨e,i,a.trans f⟩
  .simp only[j]
   exact .inr ⟨s1,rfl,a⟩
end
section
variable{o:D}{x q:Nat}{ws:Li Int}
def ZeM(h:mv rs k vs=.inl o):∃ xs,o=.tup xs/\Yo 7 xs=ae/\∃ z,xs[0]?=aa (.str z):=by
 unfold mv at h;cases q:rs[k]? with
 |none=>rw[q]at h;cases h;exact⟨_,rfl,rfl,_,rfl⟩
 |some r=>
  rw[q]at h;cases r with
  |tell y=>cases h;exact⟨_,rfl,rfl,_,rfl⟩
  |_=>cases h
abbrev Eg(tk tk':D)(m:Nat)(rs rs':Li Rw)(q:Nat)(d c:D)(b a:Ot D):Env:=[aa (pgD tk m rs),aa (pgD tk' m rs'),aa (.dic q),aa d,aa c,b,a]
def Zed(hr:Rs m rs)(W:Rs m rs')(hm:m<=5)(hs:s[q]?=aa (ae,K.map trD))(hK:∀ k j b,lk K k j=aa b->Cv tk tk' m rs rs' K k j b)(hl:lk K k j=aa c)(hk:k<=rs.length)(hj:j<=rs'.length)(V:Vs m vs)(S:Vs m ws)(ha:Ag c vs ws):C (rT (n+4)) s 297 [pgD tk m rs,pgD tk' m rs',.dic q,stD k vs,stD j ws] (.bl ae):=.of (v:=Xa) rfl rfl λst g=>by
 have hs:=g.get hs;have r:=Zf3 (s:=st) (l:=aj 4) (en:=λ(k:Nat)=>D.int (k:Int)) (B:=λd U s=>ex (rT (n+3)) YD (Zk U 5 d) s) (I:=λU=>∃ k j c vs ws y5 w,U=Eg tk tk' m rs rs' q (stD k vs) (stD j ws) y5 w/\lk K k j=aa c/\k<=rs.length/\j<=rs'.length/\Vs m vs/\Vs m ws/\Ag c vs ws) (λx hx U hI s1 g1=>by
  obtain⟨k,j,c,vs,ws,y5,w,rfl,hl,hk,hj,V,S,ha⟩:=hI;obtain⟨ts,f,hcu⟩:=hK k j c hl;have G:=f.1.s vs ws V S ha;have y3:Y (rT (n+3)) s1 (.f 103 (.a 0 (.s 3))) (Eg tk tk' m rs rs' q (stD k vs) (stD j ws) (jN x) w) (mvD rs k vs):=.call (xs:=[pgD tk m rs,stD k vs]) () (QE (n:=n) hr ∅ V hk)
  obtain⟨O,H,Q⟩:=y3 s1 .refl;have y4:Y (rT (n+3)) O (.f 103 (.a 1 (.s 4))) (Eg tk tk' m rs rs' q (mvD rs k vs) (stD j ws) (jN x) w) (mvD rs' j ws):=.call (xs:=[pgD tk' m rs',stD j ws]) () (QE (n:=n) W ∅ S hj)
  obtain⟨M,E,k2⟩:=y4 O .refl;have N:=Q.trans k2;unfold mvD at H E;cases z:mv rs k vs with
  |inl o=>cases J:mv rs' j ws with
   |inr p=>rw[z,J]at G;exact G.elim
   |inl o'=>
    rw[z,J]at G;have G:o=o':=G;subst G;rw[z]at H E;rw[J]at E;obtain⟨xs,rfl,ok,sz,h0⟩:=ZeM z;have H:ev (rT (n+3)) (.f 103 (.a 0 (.s 3))) (Eg tk tk' m rs rs' q (stD k vs) (stD j ws) (jN x) w) s1=aa (.tup xs,O):=H;have E:ev (rT (n+3)) (.f 103 (.a 1 (.s 4))) (Eg tk tk' m rs rs' q (.tup xs) (stD j ws) (jN x) w) O=aa (.tup xs,M):=E
    have yc:Y (rT (n+3)) M (.or (.isi .str (.x 3 0)) (.isi .str (.x 4 0))) (Eg tk tk' m rs rs' q (.tup xs) (.tup xs) (jN x) w) (.bl ae):=.or (k:=ae) (m:=af) (Dp.g1 (x:=.str sz) (.ixt (j:=0) () () h0) (gp λ_=>rfl)) λh=>nomatch h
    obtain⟨L,Z,k3⟩:=yc M .refl;have yr:Y (rT (n+3)) L (.e (.v 3) (.v 4)) (Eg tk tk' m rs rs' q (.tup xs) (.tup xs) (jN x) w) (.bl ae):=by
     have y:=Y.eqd (F:=rT (n+3)) (s:=L) (a:=.v 3) (b:=.v 4) (U:=Eg tk tk' m rs rs' q (.tup xs) (.tup xs) (jN x) w) (xs:=xs) (ys:=xs) () () ok ok;rw[Wi (n:=7) ok]at y;exact y
    obtain⟨t4,e4,k4⟩:=yr L .refl;exact .inr ⟨t4,(Zc (Zh H)).trans ((Zc (Zh E)).trans (Zn ((ZL Z).trans (Zn (ZQ e4))))),N.trans (k3.trans k4)⟩
  |inr p=>cases J:mv rs' j ws with
   |inl o'=>rw[z,J]at G;exact G.elim
   |inr A=>
    rw[z,J]at G;obtain⟨u,hu,a1,a2,a3⟩:=G;obtain⟨b,hb,sb⟩:=hcu u hu;rw[a1,a2]at hb;have bd:=f.1.b u hu;have T:=QY V hr z;have R:=QY S W J;have X:Ag b p.2 A.2:=λi hi=>a3 i (sb i hi)
    rw[z]at H E;rw[J]at E;have H:ev (rT (n+3)) (.f 103 (.a 0 (.s 3))) (Eg tk tk' m rs rs' q (stD k vs) (stD j ws) (jN x) w) s1=aa (stD p.1 p.2,O):=H;have E:ev (rT (n+3)) (.f 103 (.a 1 (.s 4))) (Eg tk tk' m rs rs' q (stD p.1 p.2) (stD j ws) (jN x) w) O=aa (stD A.1 A.2,M):=E
    have hs2:=(g1.trans N).get hs;have P:=Y.dg (F:=rT (n+3)) (s:=M) (a:=.v 2) (kk:=.g (.aC (.x 3 0) (.u (.x 4 0)))) (e:=.c .non) (U:=Eg tk tk' m rs rs' q (stD p.1 p.2) (stD A.1 A.2) (jN x) w) (k:=p.1) (j:=A.1) (d:=.non) hs2 () () ();rw[hb]at P;obtain⟨L,Z,k3⟩:=P M .refl
    have Z:ev (rT (n+3)) (.dgN (.v 2) (.g (.aC (.x 3 0) (.u (.x 4 0)))) (.c .non)) (Eg tk tk' m rs rs' q (stD p.1 p.2) (stD A.1 A.2) (jN x) w) M=aa (.int (b:Int),L):=Z;have yc:Y (rT (n+3)) L (.or (.cmp .Is (.v 6) (.c .non)) (.not (.f 36 (.aC (.x 3 1) (.aC (.x 4 1) (.s 6)))))) (Eg tk tk' m rs rs' q (stD p.1 p.2) (stD A.1 A.2) (jN x) (jN b)) (.bl af):=.or (k:=af) (m:=af) () λ_=>.not (k:=ae) (.call (xs:=[.tup (inZ p.2),.tup (inZ A.2),.int (b:Int)]) () (ZbW (n:=n+2) T R hm X))
    obtain⟨t4,e4,k4⟩:=yc L .refl;refine .inl ⟨_,t4,(Zc (Zh H)).trans ((Zc (Zh E)).trans ((Zc ((YJ rfl).trans Zf)).trans ((Zc (Zh Z)).trans ((Zc ((YJ e4).trans Zf)).trans Zf)))),⟨p.1,A.1,b,p.2,A.2,_,_,rfl,hb,by rw[<-a1];exact bd.1,by rw[<-a2];exact bd.2.1,T,R,X⟩,N.trans (k3.trans k4)⟩) (Eg tk tk' m rs rs' q (stD k vs) (stD j ws) ab ab) st ⟨k,j,c,vs,ws,_,_,rfl,hl,hk,hj,V,S,ha⟩ .refl
 have fr:=YX (F:=rT (n+3)) (i:=5) (e:=.i 4) (q:=YD) (v:=4) (U:=Eg tk tk' m rs rs' q (stD k vs) (stD j ws) ab ab) (st:=st) (st1:=st) #[] #[] rfl
 rcases r with⟨U',t,e,_,Q⟩|⟨t,e,Q⟩
 .exact⟨t,(Zc (fr.trans e)).trans (Zn (ZQ rfl)),Q⟩
 .exact⟨t,Zn (fr.trans e),Q⟩
end
section
variable{x K:Nat}{ws:Li Int}
def JQ(g:Grw (S0 ns) s)(c:ns.length<=63)(d:m<=5):∃ vs,Vs m vs/\∀ st,Grw s st->C (rT (n+3)) st 131 [.lst 0,.int (m:Int),.int (K:Int)] (.tup (inZ vs)):=by
 refine⟨(aj m).map λi=>smI (ceI ns (58+(i+K) % 5) / ((K % 7+1:Nat):Int)),⟨by rw[aD,bP],λv a=>by obtain⟨i,_,rfl⟩:=aR.mp a;exact ZbB⟩,λst gs=>?_⟩
 have e:inZ ((aj m).map λi=>smI (ceI ns (58+(i+K) % 5) / ((K % 7+1:Nat):Int)))=(aj m).map λi=>D.int (smI (ceI ns (58+(i+K) % 5) / ((K % 7+1:Nat):Int))):=by unfold inZ;rw[bQ];rfl
 rw[e];have h:=eS K (show 0 < 7 by decide)
 exact .of (v:=YF) rfl rfl (.ret (Lv.tof (Wb (b:=one) (wk:=YB ae) (fr:=[2,0]) (it:=.v 1) (l:=aj m) (en:=λ(k:Nat)=>D.int (k:Int)) (V1 (N:=m) ∅ ()) (by rw[bP];omega) λi f=>.call1 (.fd (YW (k:=58+(i+K) % 5) (n:=n+1) (g.trans gs) (by have:=eS (i+K) (show 0 < 5 by decide);omega) c (.cons () (.cons (.adN (N:=58) () (.mdN (.adN () ()) () #[])) .nil))) (.adN (M:=1) (.mdN (M:=7) () () #[]) ()) ∅) Vv)))
def JP(o:Vs m vs)(hm:m<=5):∃ ws,Vs m ws/\Ag c vs ws/\∀ n st,C (rT (n+2)) st 132 [.tup (inZ vs),.int (c:Int),.int v] (.tup (inZ ws)):=by
 obtain⟨f,L⟩:∃ f:Nat->Int,f=λi=>if c / 2 ^ i % 2=0 then smI (vs.getD i 0+(v % 1000003+3) * ((i:Int) * i+5)) else vs.getD i 0:=⟨_,rfl⟩
 have S:∀ i,i < m->Sm (vs.getD i 0):=λi x=>by
  rw[aP,Lg (by rw[o.l];exact x)]
  exact o.s _ (bN _)
 have hl:((aj m).map f).length=m:=by rw[aD,bP]
 refine⟨(aj m).map f,⟨hl,λw hw=>?_⟩,λi x=>?_,λn st=>.of (v:=YE) rfl rfl λst g=>?_⟩
 .obtain⟨i,x,rfl⟩:=aR.mp hw
  rw[L];show Sm (if c / 2 ^ i % 2=0 then _ else _)
  split
  .exact ZbB
  .exact S i (cG.mp x)
 .rw[aP,aP]
  by_cases h:i < m
  .rw[aV,List.getElem?_range h]
   rw[Nat.testBit_eq_decide_div_mod_eq]at x;have:=ao x;show _=f i;rw[L];show _=if c / 2 ^ i % 2=0 then _ else _
   rw[ar ∅,aP]
  .rw[dF (by rw[o.l];omega),dF (by rw[hl];omega)]
 .have z0:((inZ vs).length:Int)=(m:Int):=by unfold inZ;rw[aD,o.l]
  -- what is done after i turns
  have go:∀ (M i:Nat) (y:Ot D) (t:Za),i+M=m->Grw st t->t[st.length]?=aa (ae,inZ ((aj i).map f++vs.drop i))->∃ B E,Zj (λd U s=>ex (rT (n+1)) Zv (Zk U 4 d) s) (((aj m).map λ(k:Nat)=>D.int (k:Int)).drop i) [aa (.tup (inZ vs)),jN c,jI v,jL st.length,y] t=aa (.nx [aa (.tup (inZ vs)),jN c,jI v,jL st.length,B],E)/\Grw st E/\E[st.length]?=aa (ae,inZ ((aj m).map f)):=by
   intro M
   induction M with
   |zero=>
    intro i y t x O K;have x:i=m:=by omega
    subst x;rw[dU (by rw[aD,bP];exact aB _)]
    rw[dU (by rw[o.l];exact aB _),bD]at K
    exact⟨y,t,rfl,O,K⟩
   |succ M ih=>
    intro i y t x O K;have b:i < m:=by omega
    have hd:((aj m).map λ(k:Nat)=>D.int (k:Int)).drop i=.int (i:Int) :: ((aj m).map λ(k:Nat)=>D.int (k:Int)).drop (i+1):=by
     rw[bV (by rw[aD,bP];exact b),List.getElem_map,List.getElem_range]
    have hp2:2 ^ i<=16:=gG #[] (show i<=4 by omega)
    have hp:=gH i;have y1:Y (rT (n+1)) t (.e (.m (.k (.v 1) (.bin .LShift (.i 1) (.v 4))) (.i 2)) (.i 0)) [aa (.tup (inZ vs)),jN c,jI v,jL st.length,jN i] (.bl (ak (((c / 2 ^ i % 2:Nat):Int)=0))):=.eqi (.mdN (M:=2) (.fdN () (.shl () ∅) ∅) () #[]) ()
    obtain⟨A,H,G⟩:=y1 t .refl;have I:vs.drop i=vs.getD i 0 :: vs.drop (i+1):=by
     rw[bV (by rw[o.l];exact b),aP,Lg (by rw[o.l];exact b)];rfl
    have hr:(aj (i+1)).map f=(aj i).map f++[f i]:=by rw[List.range_succ,cL];rfl
    rw[hd];by_cases h:c / 2 ^ i % 2=0
    .rw[aF ∅]at H
     have W:f i=smI (vs.getD i 0+(v % 1000003+3) * ((i:Int) * i+5)):=by rw[L];exact aq h
     have hb:-(10:Int)<=(i:Int) * i/\(i:Int) * i<=100:=by
      have:i<=4:=by omega
      have:i * i<=4 * 4:=eE this this;have e:((i * i:Nat):Int)=(i:Int) * i:=eQ i i;omega
     have y2:Y (rT (n+1)) A (.f 20 (.u (.p (.ix (.v 0) (.v 4)) (.h (.p (.m (.v 2) (.i 1000003)) (.i 3)) (.p (.h (.v 4) (.v 4)) (.i 5)))))) [aa (.tup (inZ vs)),jN c,jI v,jL st.length,jN i] (.int (f i)):=by
      rw[W];exact .call1 (.add (.ixt (j:=i) () () (by
       unfold inZ;rw[aV,Lg (by rw[o.l];exact b),aP,Lg (by rw[o.l];exact b)];rfl)) (.mul (.add (.md () () #[]) ()) (.add (.mul () () (X5 ∅)) ()) (X5 ∅))) Vv
     obtain⟨z,Q,k2⟩:=y2 A .refl;have N:=k2.get (G.get K);have ll:(inZ ((aj i).map f++vs.drop i)).length=m:=by unfold inZ;rw[aD,aG,aD,bP,cD,o.l];omega
     have P:ex (rT (n+1)) (.put 3 (.v 4) (.f 20 (.u (.p (.ix (.v 0) (.v 4)) (.h (.p (.m (.v 2) (.i 1000003)) (.i 3)) (.p (.h (.v 4) (.v 4)) (.i 5))))))) [aa (.tup (inZ vs)),jN c,jI v,jL st.length,jN i] A=aa (.nx [aa (.tup (inZ vs)),jN c,jI v,jL st.length,jN i],z.set st.length (ae,(inZ ((aj i).map f++vs.drop i)).set i (.int (f i)))):=by
      have es:Y1 st.length (i:Int) (.int (f i)) z=aa (z.set st.length (ae,(inZ ((aj i).map f++vs.drop i)).set i (.int (f i)))):=by
       unfold Y1;simp only[N];unfold ixN;rw[aq (dM i),bH,aq ∅]
      show VR 3 (Z4 4) (ev (rT (n+1)) _) _ A=_;unfold VR;rw[Q];show(match Y1 st.length (i:Int) (.int (f i)) z with|some R=>aa (Fl.nx _,R)|none=>ab)=_
      rw[es]
     have es:(inZ ((aj i).map f++vs.drop i)).set i (.int (f i))=inZ ((aj (i+1)).map f++vs.drop (i+1)):=by
      unfold inZ;rw[<-List.map_set,I,List.set_append_right _ _ (by rw[aD,bP];exact aB _),aD,bP,eP,List.set_cons_zero,hr,aM];rfl
     rw[es]at P;have g3:Grw st (z.set st.length (ae,inZ ((aj (i+1)).map f++vs.drop (i+1)))):=ZP (O.trans (G.trans k2)) (aB _);have h3:(z.set st.length (ae,inZ ((aj (i+1)).map f++vs.drop (i+1))))[st.length]?=aa (ae,inZ ((aj (i+1)).map f++vs.drop (i+1))):=bM (Zy N);obtain⟨B,E,Z,V,T⟩:=ih (i+1) (jN i) _ ∅ g3 h3
     refine⟨B,E,?_,V,T⟩;rw[Zj];have X:ex (rT (n+1)) Zv [aa (.tup (inZ vs)),jN c,jI v,jL st.length,jN i] t=aa (.nx [aa (.tup (inZ vs)),jN c,jI v,jL st.length,jN i],_):=(Zc ((ZL H).trans ((Zc P).trans Zf))).trans Zf;show(match ex (rT (n+1)) Zv [aa (.tup (inZ vs)),jN c,jI v,jL st.length,jN i] t with|some (.nx U',st')=>Zj _ _ U' st'|some (.ct U',st')=>Zj _ _ U' st'|some (.bk U',st')=>aa (.nx U',st')|some (.rt v,st')=>aa (.rt v,st')|none=>ab)=_
     rw[X];exact Z
    .rw[aI ∅]at H
     have W:f i=vs.getD i 0:=by rw[L];exact ar h
     have J:=G.get K;rw[I,<-W,<-List.singleton_append,<-aM,<-hr]at J;obtain⟨B,E,Z,V,T⟩:=ih (i+1) (jN i) A ∅ (O.trans G) J
     refine⟨B,E,?_,V,T⟩;rw[Zj];have X:ex (rT (n+1)) Zv [aa (.tup (inZ vs)),jN c,jI v,jL st.length,jN i] t=aa (.nx [aa (.tup (inZ vs)),jN c,jI v,jL st.length,jN i],A):=(Zc ((YJ H).trans Zf)).trans Zf;show(match ex (rT (n+1)) Zv [aa (.tup (inZ vs)),jN c,jI v,jL st.length,jN i] t with|some (.nx U',st')=>Zj _ _ U' st'|some (.ct U',st')=>Zj _ _ U' st'|some (.bk U',st')=>aa (.nx U',st')|some (.rt v,st')=>aa (.rt v,st')|none=>ab)=_
     rw[X];exact Z
  have e0:ex (rT (n+1)) (.set 3 (.listOf (.v 0))) [aa (.tup (inZ vs)),jN c,jI v,ab,ab] st=aa (.nx [aa (.tup (inZ vs)),jN c,jI v,jL st.length,ab],st++[(ae,inZ vs)]):=Zh rfl;have yl:=Y.lnT (F:=rT (n+1)) (s:=st++[(ae,inZ vs)]) (a:=.v 0) (U:=[aa (.tup (inZ vs)),jN c,jI v,jL st.length,ab]) (xs:=inZ vs) ()
  rw[z0]at yl;obtain⟨A,H,G⟩:=yl _ .refl;have fr:=YX (F:=rT (n+1)) (i:=4) (e:=.len (.v 0)) (q:=Zv) (v:=(m:Int)) ∅ ∅ H
  rw[bH]at fr;obtain⟨B,z,Q,g2,N⟩:=go m 0 ab A (bY _) (Grw.push.trans G) (by rw[cJ];exact G.get Zp)
  rw[cJ]at Q;have y3:Y (rT (n+1)) z (.tOf (.v 3)) [aa (.tup (inZ vs)),jN c,jI v,jL st.length,B] (.tup (inZ ((aj m).map f))):=.tof N ();obtain⟨t3,P,k3⟩:=y3 z .refl;exact⟨t3,(Zc e0).trans ((Zc (fr.trans Q)).trans (Zn (ZQ P))),g2.trans k3⟩
end
section
variable{vs:Li Tr}
theorem ZaK:∀ {vs ws:Li Tr},(ws.map ky).Nodup->(vs.foldl (λK t=>pt K t.1 t.2.1 t.2.2) ws).length=ws.length+vs.length->((ws++vs).map ky).Nodup
 |[],ws,h,_=>by rw[bD];exact h
 |v :: vs,ws,h,e=>by
  have e:(vs.foldl (λK t=>pt K t.1 t.2.1 t.2.2) (pt ws v.1 v.2.1 v.2.2)).length=ws.length+(vs.length+1):=e
  have a:((pt ws v.1 v.2.1 v.2.2).map ky).Nodup:=UE h;have r:=(WL (vs:=vs) a).2;have d:lk ws v.1 v.2.1=ab:=by
   cases z:lk ws v.1 v.2.1 with
   |none=>rfl
   |some c=>rw[(XV (b:=v.2.2) z).1]at r;omega
  have f:(ws++[v])++vs=ws++v :: vs:=by rw[aM];rfl
  rw[VP d]at a e;rw[<-f];exact ZaK a (by rw[e,aG,fN];omega)
def Zf0(h:kB tk tk' m rs rs' us=ae)(g:∀ t∈us,t.2.2 < 2 ^ m):knW us=us/\(us.map ky).Nodup/\(∀ k j b,lk us k j=aa b->Cv tk tk' m rs rs' us k j b)/\∀ t∈us,lk us t.1 t.2.1=aa t.2.2:=by
 have kp:=ZfZ h g;unfold kB at h;rw[Ba,Ba,aO]at h;have a:(us.map ky).Nodup:=ZaK (ws:=[]) (vs:=us) dI (by rw[dD,bY];exact h.1.1)
 have e:knW us=us:=ZaL (ws:=[]) a;have f:=kp.cl;rw[e]at f;refine⟨e,a,f,λt c=>?_⟩
 obtain⟨b,d⟩:=Yg (aR.mpr ⟨t,c,rfl⟩:(t.1,t.2.1)∈us.map ky);have:=Qi a c (ZH d) rfl;have i:t.2.2=b:=av (λt:Tr=>t.2.2) this
 rw[i];exact d
end
abbrev lsD(p:Nat×Li Tr):D:=.lst p.1
def PB(m sz a:Nat)(b:Li Tr):Prop:=(∀ t∈b,t.1<=sz/\t.2.1<=a/\t.2.2 < 2 ^ m)/\0 < b.length
def PL(m sz a N:Nat)(st:Za)(L:Li (Nat×Li Tr)):Prop:=∀ p∈L,(∃ b,st[p.1]?=aa (b,p.2.map trD))/\PB m sz a p.2/\p.2.length<=N
def Po(m sz c:Nat)(st:Za)(d:D):Prop:=d=.non\/∃ a,(d=.tup (a.map trD)\/∃ j b,d=.lst j/\st[j]?=aa (b,a.map trD))/\PB m sz c a/\a.length<=169
variable{w3 w5 w7:Nat}{y3 y4 y5 y6 y7 y8 y9 y10 y11 y12 y13:Ot D}
section
variable{q A:Nat}{L:Li (Nat×Li Tr)}{p:Nat×Li Tr}
def PL.up(h:PL m sz sz' N s L)(g:Grw s st):PL m sz sz' N st L:=λp a=>by
 obtain⟨⟨b,d⟩,c⟩:=h p a;exact⟨⟨b,g.get d⟩,c⟩
def Po.up(h:Po m sz sz' s d)(g:Grw s st):Po m sz sz' st d:=by
 rcases h with h|⟨us,h|⟨j,b,h,c⟩,a⟩
 .exact .inl h
 .exact .inr ⟨us,.inl h,a⟩
 .exact .inr ⟨us,.inr ⟨j,b,h,g.get c⟩,a⟩
theorem WS{ok:Za->Prop}(a:∀ st,Grw s st->ok st):∀ {ds:Li D}{st:Za},Grw s st->(∀ d∈ds,Po m sz sz' s d)->∃ (L:Li (Nat×Li Tr)) (st':Za),Z9 ok (λd s=>ev F (.listOf (.v 0)) (Z5 one U [] d) s) (λd s=>ev F (.cmp .IsNot (.v 0) (.c .non)) (Z5 one U [] d) s) ds st=aa (L.map lsD,st')/\Grw st st'/\PL m sz sz' 169 st' L/\L.length<=ds.length
 |[],st,g,_=>⟨[],st,aq (a st g),.refl,λp hp=>(nomatch hp),aB _⟩
 |d :: ds,st,g,h=>by
  rcases h d Ls with rfl|⟨us,hd,l,k⟩
  .obtain⟨L,s1,i,g1,e,f⟩:=WS a (ds:=ds) g λd hd=>h d (Lm _ hd)
   refine⟨L,s1,?_,g1,e,fR f⟩;rw[Z9,aq (a st g)];exact i
  .have o:∃ s1,ev F (.listOf (.v 0)) (Z5 one U [] d) st=aa (.lst st.length,s1)/\ev F (.cmp .IsNot (.v 0) (.c .non)) (Z5 one U [] d) st=aa (.bl ae,st)/\s1=st++[(ae,us.map trD)]:=by
    rcases hd with rfl|⟨j,b,rfl,n⟩
    .exact⟨_,rfl,rfl,rfl⟩
    .refine⟨_,?_,rfl,rfl⟩
     show(match st[j]? with
      |some (_,xs)=>aa (D.lst st.length,st++[(ae,xs)])
      |none=>ab)=_
     rw[g.get n]
   obtain⟨t,q,r,rfl⟩:=o;obtain⟨L,s1,i,g1,e,f⟩:=WS a (ds:=ds) (st:=st++[(ae,us.map trD)]) (g.trans .push) λd hd=>h d (Lm _ hd)
   refine⟨(st.length,us) :: L,s1,?_,Grw.push.trans g1,λp hp=>?_,eU f⟩
   .rw[Z9,aq (a st g)]
    simp only[r,q,i];rfl
   .rcases aL.mp hp with rfl|hp
    .exact⟨⟨_,g1.get Zp⟩,l,k⟩
    .exact e p hp
def Zb5(b:s[w]?=aa (bb,us.map trD))(c:Y F s a U (.lst w))(d:us.length<=900)(hu:Y F s e U (trD u)):Lv s (ev F (.p a (.lstE (.u e))) U) ((us++[u]).map trD):=by
 rw[cL];exact .cat (.v b c) (.mk (.cons hu .nil)) (by rw[aD];show _+1<=Zg;unfold Zg;omega)
def ZfH(c:s[w]?=aa (bb,us.map trD))(f:Y F s a U (.lst w))(h:us.length<=900)(d:Y F s b U (.int (A:Int)))(j:A < us.length)(hu:Y F s e U (trD u)):Lv s (ev F (.p (.p (.slice a .nop (.part b)) (.lstE (.u e))) (.slice a (.part (.p b (.i 1))) .nop)) U) ((us.take A++[u]++us.drop (A+1)).map trD):=by
 rw[cL,cL,List.map_take,List.map_drop];have g:(us.map trD).length=us.length:=aD ..;refine .cat (.cat (.tkl c f d ∅) (.mk (.cons hu .nil)) ?_) (.dpl c f (by rw[cK];exact .add d ()) ∅) ?_
 .rw[aU];show _+1<=Zg;unfold Zg;omega
 .rw[aG,aU,cD];show _+1+_<=Zg;unfold Zg;omega
def Zac{f e:D}{d c:Za}(h:ev F a U st=aa (f,d))(g:ev F b U d=aa (e,c)):ev F (.lstE (.aC a (.u b))) U st=aa (.lst c.length,c++[(ae,[f,e])]):=by
 show Zl (ZE (ev F _) (ZE (ev F _) (evC (.tup [])) WE) WE) ZaP U st=_;unfold Zl ZE;simp only[h,g];rfl
def Zab{a:Za}{p:CS}{r:Ot (Fl×Za)}(c:ev F e U st=aa (.lst w,a))(b:a[w]?=aa (bb,xs))(h:ZF (λd U s=>ex F p (Zk U i d) s) w xs.length 0 U a=r):ex F (.for1 i af e p) U st=r:=by
 show WF i af (ev F e) (ex F p) U st=r;unfold WF;rw[c];show(match a[w]? with
  |some (_,xs)=>ZF (λd U s=>ex F p (Zk U i d) s) w xs.length 0 U a
  |none=>ab)=r
 rw[b];exact h
def ZcT(b:PB m sz sz' us)(hu:u.1<=sz/\u.2.1<=sz'/\u.2.2 < 2 ^ m):PB m sz sz' (us++[u]):=⟨λt a=>by
 rcases bC.mp a with h|h
 .exact b.1 t h
 .rw[aQ.mp h];exact hu,by rw[aG];exact eY _⟩
def Zf6(a:PB m sz sz' us)(hu:u.1<=sz/\u.2.1<=sz'/\u.2.2 < 2 ^ m):PB m sz sz' (us.take A++[u]++us.drop (A+1)):=⟨λt b=>by
 rcases bC.mp b with h|h
 .rcases bC.mp h with h|h
  .exact a.1 t (cT h)
  .rw[aQ.mp h];exact hu
 .exact a.1 t (cZ h),by rw[aG,aG];show 0 < _+1+_;omega⟩
abbrev Ep(tk tk':D)(m:Nat)(rs rs':Li Rw)(y3 y4 y5 y6 y7 y8 y9 y10 y11 y12 y13:Ot D):Env:=[aa (pgD tk m rs),aa (pgD tk' m rs'),jL 0,y3,y4,y5,y6,y7,y8,y9,y10,y11,y12,y13]
def Zbc(hm:m<=60)(hp:st[p.1]?=aa (bb,p.2.map trD))(z:PB m rs.length rs'.length p.2)(hl:p.2.length<=169)(h7:st[w7]?=aa (ae,L.map lsD))(hL:PL m rs.length rs'.length 170 st L)(h9:L.length<=900):∃ t G L' z8 z9 V T S R,ex F ZY (Ep tk tk' m rs rs' y3 (jL p.1) y5 (jN N) (jL w7) y8 y9 y10 y11 y12 y13) st=aa (.nx (Ep tk tk' m rs rs' y3 (jL p.1) y5 (jN N) (jL G) z8 z9 V T S R),t)/\Grw st t/\t[G]?=aa (ae,L'.map lsD)/\PL m rs.length rs'.length 170 t L'/\L'.length=L.length+2:=by
 obtain⟨w,us⟩:=p;dsimp only at hp z hl ⊢;have hm0:(us.map trD).length=us.length:=aD ..;have K:0 < 2 ^ m:=gH m;have Q:N % us.length < us.length:=eS _ z.2;have yl:=λ{U} (h:Y F st (.v 4) U (.lst w))=>Y.lenl (F:=F) (a:=.v 4) (U:=U) hp h
 simp only[hm0]at yl;have B:Y F st (.m (.v 6) (.len (.v 4))) (Ep tk tk' m rs rs' y3 (jL w) y5 (jN N) (jL w7) y8 y9 y10 y11 y12 y13) (.int ((N % us.length:Nat):Int)):=.mdN () (yl ()) z.2;generalize N % us.length=A at Q B;have gu:us[A]?=aa us[A]:=Lg Q;have P:=z.1 _ (bN Q);generalize us[A]=u at gu P
 obtain⟨k,j,c⟩:=u;obtain⟨W,e1,k1⟩:=B st .refl;have y0:Y F st (.ix (.v 4) (.v 8)) (Ep tk tk' m rs rs' y3 (jL w) y5 (jN N) (jL w7) (jN A) y9 y10 y11 y12 y13) (.tup [.int (k:Int),.int (j:Int),.int (c:Int)]):=.ixl (j:=A) hp () () (by show(us.map trD)[A]?=_;rw[aV,gu];rfl)
 obtain⟨t2,e2,k2⟩:=y0 W k1;have e3:ex F (.set3 9 10 11 (.ix (.v 4) (.v 8))) (Ep tk tk' m rs rs' y3 (jL w) y5 (jN N) (jL w7) (jN A) y9 y10 y11 y12 y13) W=aa (.nx (Ep tk tk' m rs rs' y3 (jL w) y5 (jN N) (jL w7) (jN A) (jN k) (jN j) (jN c) y12 y13),t2):=by
  show UL 9 10 11 (ev F (.ix (.v 4) (.v 8))) _ W=_;unfold UL;rw[e2];rfl
 have J:=k1.trans k2;have E:Y F st (.g (.a 9 (.a 10 (.u (.bin .BitAnd (.v 11) (.m (.h (.p (.v 6) (.i 1)) (.i 48271)) (.i 65537))))))) (Ep tk tk' m rs rs' y3 (jL w) y5 (jN N) (jL w7) (jN A) (jN k) (jN j) (jN c) y12 y13) (trD ((k,j,c &&& (N+1) * 48271 % 65537):Tr)):=.cons () (.cons () (.cons (.band () (.mdN (M:=65537) (.muN (M:=48271) (.adN (M:=1) () ()) () rfl) () #[])) .nil))
 obtain⟨t3,e4,k3⟩:=E t2 J;have I:=J.trans k3;have C:Y F st (.g (.aC (.m (.k (.v 6) (.i 3)) (.p (.len (.x 0 2)) (.i 1))) (.aC (.m (.k (.v 6) (.i 41)) (.p (.len (.x 1 2)) (.i 1))) (.u (.m (.k (.v 6) (.i 7)) (.bin .LShift (.i 1) (.x 0 1))))))) (Ep tk tk' m rs rs' y3 (jL w) y5 (jN N) (jL w7) (jN A) (jN k) (jN j) (jN c) (aa (trD ((k,j,c &&& (N+1) * 48271 % 65537):Tr))) y13) (trD ((N / 3 % (rs.length+1),N / 41 % (rs'.length+1),N / 7 % 2 ^ m):Tr)):=.cons (.mdN (.fdN (M:=3) () () #[]) (.adN (M:=1) (ZeI rfl) ()) ∅) (.cons (.mdN (.fdN (M:=41) () () #[]) (.adN (M:=1) (ZeI rfl) ()) ∅) (.cons (.mdN (.fdN (M:=7) () () #[]) (.shl (.ixt (j:=1) (xs:=[tk,.int (m:Int),.tup (rs.map rwE)]) () () rfl) hm) K) .nil))
 obtain⟨q,e5,k4⟩:=C t3 I;have l:=I.trans k4;generalize hx:((k,j,c &&& (N+1) * 48271 % 65537):Tr)=x at *
 generalize hy:((N / 3 % (rs.length+1),N / 41 % (rs'.length+1),N / 7 % 2 ^ m):Tr)=y at *
 have hx1:x.1<=rs.length/\x.2.1<=rs'.length/\x.2.2 < 2 ^ m:=by rw[<-hx];exact⟨P.1,P.2.1,gA Nat.and_le_left P.2.2⟩
 have hy1:y.1<=rs.length/\y.2.1<=rs'.length/\y.2.2 < 2 ^ m:=by rw[<-hy];exact⟨Nat.le_of_lt_succ (eS _ (eY _)),Nat.le_of_lt_succ (eS _ (eY _)),eS _ K⟩
 generalize d:Ep tk tk' m rs rs' y3 (jL w) y5 (jN N) (jL w7) (jN A) (jN k) (jN j) (jN c) (aa (trD x)) (aa (trD y))=U;obtain⟨t5,o,bA,eA,hA5,Z⟩:=ZfH (F:=F) (s:=q) (a:=.v 4) (b:=.v 8) (e:=.v 12) (U:=U) (u:=x) (l.get hp) (by rw[<-d];exact .r rf) ∅ (by rw[<-d];exact .r rf) Q (by rw[<-d];exact .r rf) q .refl
 obtain⟨f,n,bB,eB,hB6,X⟩:=Zb5 (F:=F) (s:=t5) (a:=.v 4) (e:=.v 13) (U:=U) (u:=y) ((l.trans Z).get hp) (by rw[<-d];exact .r rf) ∅ (by rw[<-d];exact .r rf) t5 .refl
 have h76:=(l.trans (Z.trans X)).get h7;have ec:ev F (.p (.v 7) (.lstE (.aC (.p (.p (.slice (.v 4) .nop (.part (.v 8))) (.lstE (.s 12))) (.slice (.v 4) (.part (.p (.v 8) (.i 1))) .nop)) (.u (.p (.v 4) (.lstE (.s 13))))))) U q=aa (.lst (f.length+1),(f++[(ae,[.lst o,.lst n])])++[(ae,L.map lsD++[.lst o,.lst n])]):=by
  have el:=Zac eA eB;have ev7:ev F (.v 7) U q=aa (.lst w7,q):=by rw[<-d];rfl
  show ZE (ev F (.v 7)) (ev F _) (Vy .Add) U q=_;unfold ZE;simp only[ev7,el];show Ug w7 f.length (f++[(ae,[.lst o,.lst n])])=_;unfold Ug;simp only[Grw.push.get h76,Zp,aG,aD,aY,dD];exact aq (by unfold Zg;omega)
 have O:Grw f ((f++[(ae,[.lst o,.lst n])])++[(ae,L.map lsD++[.lst o,.lst n])]):=Grw.push.trans .push;have H:=l.trans (Z.trans X);refine⟨_,f.length+1,L++[(o,us.take A++[x]++us.drop (A+1)),(n,us++[y])],_,_,_,_,_,_,(Zc (Zh e1)).trans ((Zc e3).trans ((Zc (Zh e4)).trans ((Zc (Zh e5)).trans ((Zc (Zh (i:=7) (st':=_) (by rw[<-d]at ec;exact ec))).trans Zf)))),H.trans O,?_,λp hp=>?_,by rw[aG];rfl⟩
 .have:f.length+1=(f++[(ae,[D.lst o,D.lst n])]).length:=by rw[aG];rfl
  rw[this,Zp,cL];rfl
 .rcases bC.mp hp with hp|hp
  .exact(hL.up (H.trans O)) p hp
  .rcases aL.mp hp with rfl|hp
   .exact⟨⟨_,(X.trans O).get hA5⟩,Zf6 z hx1,by rw[aG,aG,aU,cD];show _+1+_<=170;omega⟩
   .rw[aQ.mp hp]
    exact⟨⟨_,O.get hB6⟩,ZcT z hy1,by rw[aG];show _+1<=170;omega⟩
end
section
variable{q A:Nat}{L:Li (Nat×Li Tr)}{p:Nat×Li Tr}
def ZdZ{a b:Nat}(d:a<=12)(c:b<=12):(a+1) * (b+1)<=169:=eE (eU d) (eU c)
def ZdW(a:m<=5):2 ^ m<=32:=gG #[] a
def Cl.po(h:Cl Lp tk tk' m sz sz' rs rs' us)(a:(sz+1) * (sz'+1)<=169):PB m sz sz' us/\us.length<=169:=⟨⟨h.bd,by
 have:=h.rt;cases us with
 |nil=>exact nomatch this
 |cons _ _=>exact eY _⟩,aK (X9 h.nd h.bd) a⟩
def Zb6{P:D->Za->Prop}(e:Y F st a U (.tup xs))(h:∀ st,∃ t d,F f xs st=aa (d,t)/\Grw st t/\P d t):∃ t d,ev F (.f f a) U st=aa (d,t)/\Grw st t/\P d t:=by
 obtain⟨s1,i,c⟩:=e st .refl;obtain⟨t,d,g,b,p⟩:=h s1;refine⟨t,d,?_,c.trans b,p⟩;show Zl (ev F a) (XG (F f) []) U st=_;unfold Zl;rw[i];show F f (xs++[]) s1=_;rw[bD];exact g
def ZcR(e:Rs m rs)(a:Rs m rs')(g:m<=5)(h:rs.length<=12)(b:rs'.length<=12):∃ d,(∀ n s,C (rT (n+8)) s 201 [pgD tk m rs,pgD tk' m rs'] d)/\∀ s,Po m rs.length rs'.length s d:=by
 have c:=ZdZ h b;have f:=ZdW g;obtain⟨k,hd,i⟩:=ZbT (tk:=tk) (tk':=tk') e a rfl rfl ∅ (show(rs.length+1) * (rs'.length+1)<=400 by omega) ∅ (aK (eE f c) #[])
 refine⟨k,hd,λs=>?_⟩
 rcases i with⟨rfl,_⟩|⟨us,rfl,j,_⟩
 .exact .inl rfl
 .have:=j.po c
  exact .inr ⟨us,.inl rfl,this.1,this.2⟩
def Jz{b0:Nat}(q:Rs m rs)(h:Rs m rs')(u:m<=5)(v:rs.length<=12)(i:rs'.length<=12)(x:b0 < 2 ^ m):∀ n st,∃ t d,rT (n+8) 294 [pgD tk m rs,pgD tk' m rs',.int (b0:Int)] st=aa (d,t)/\Grw st t/\Po m rs.length rs'.length t d:=by
 have l:=ZdZ v i;have s:=ZdW u;obtain⟨r,_,a,g⟩:=JG (Lp:=λ_=>True) (NK:=True) (tk:=tk) (tk':=tk') (b0:=b0) (λ_ _ _ _ _ _=>trivial) (λk j c w _=>by
  obtain⟨d,hd,y⟩:=V3 (tk:=tk) (tk':=tk') (k:=k) (j:=j) q h (show m<=60 by omega) w
  refine⟨d,hd,?_⟩;rcases y with rfl|⟨us,rfl,f⟩
  .exact .inl ⟨rfl,trivial⟩
  .exact .inr ⟨us,rfl,f,λ_ _=>trivial⟩) rfl rfl ∅ ∅ (aK (eE s l) #[]) x trivial
 intro n st;obtain⟨t,d,e,k,o⟩:=g n st;refine⟨t,d,e,k,?_⟩;cases r with
 |none=>exact .inl o
 |some ws=>
  obtain⟨j,b,rfl,p⟩:=o;have:=(a ws rfl).1.po l;exact .inr ⟨ws,.inr ⟨j,b,rfl,p⟩,this.1,this.2⟩
def Zbb(l:ns.length<=63)(o:m<=5)(g:Grw (S0 ns) st):∃ d:Nat,d < 2 ^ m/\Y (rT (n+8)) st (.m (.f 27 (.a 2 (.u (.i 9)))) (.bin .LShift (.i 1) (.x 0 1))) (Ep tk tk' m rs rs' ab ab ab ab ab ab ab ab ab ab ab) (.int (d:Int)):=by
 have c:(0:Int) < ((2 ^ m:Nat):Int):=by
  have:0 < 2 ^ m:=gH m;omega
 have e:=Zo (ceI ns 9) (j:=((2 ^ m:Nat):Int)) c;obtain⟨d,h⟩:∃ b:Nat,ceI ns 9 % ((2 ^ m:Nat):Int)=(b:Int):=⟨_,(cF e.1).symm⟩;rw[h]at e;refine⟨d,∅,?_⟩
 rw[<-h];exact .md (YW (k:=9) (n:=n+7) g ∅ l ()) (.shl (.ixt (j:=1) (xs:=[tk,.int (m:Int),.tup (rs.map rwE)]) () () rfl) ∅) c
def ZcS(x:ns.length<=63)(l:Rs m rs)(c:Rs m rs')(j:m<=5)(o:rs.length<=12)(e:rs'.length<=12)(g:Grw (S0 ns) st):∃ t w b h,ex (rT (n+8)) (hdC c__law_papers.body) (Ep tk tk' m rs rs' ab ab ab ab ab ab ab ab ab ab ab) st=aa (.nx (Ep tk tk' m rs rs' (jL w) ab ab ab ab ab ab ab ab ab ab),t)/\Grw st t/\t[w]?=aa (ae,[b,h])/\∀ d∈[b,h],Po m rs.length rs'.length t d:=by
 obtain⟨b,hd,z⟩:=ZcR (tk:=tk) (tk':=tk') l c j o e;have q:Y (rT (n+8)) st (.f 201 (.a 0 (.s 1))) (Ep tk tk' m rs rs' ab ab ab ab ab ab ab ab ab ab ab) b:=.call (xs:=[pgD tk m rs,pgD tk' m rs']) () (hd n st);obtain⟨D,C,k⟩:=q st .refl;obtain⟨E,y,p⟩:=Zbb (n:=n) (tk:=tk) (tk':=tk') (rs:=rs) (rs':=rs') x j (g.trans k)
 obtain⟨i,h,B,u,A⟩:=Zb6 (Y.cons (a:=.v 0) () (Y.cons (a:=.v 1) () (.cons p .nil))) (Jz (tk:=tk) (tk':=tk') l c j o e y n);refine⟨i++[(ae,[b,h])],i.length,b,h,Zh (Zac C B),(k.trans u).trans .push,Zp,λd hd=>Po.up (s:=i) ?_ .push⟩
 rcases aL.mp hd with rfl|hd
 .exact z i
 .rw[aQ.mp hd]
  exact A
def JN(Z:ns.length<=63)(hr:Rs m rs)(I:Rs m rs')(hm:m<=5)(hl:rs.length<=12)(K:rs'.length<=12)(g:Grw (S0 ns) st):∃ t w L,rT (n+9) 298 [pgD tk m rs,pgD tk' m rs',.lst 0] st=aa (.lst w,t)/\Grw st t/\t[w]?=aa (ae,L.map lsD)/\PL m rs.length rs'.length 170 t L:=by
 obtain⟨x,w3,Q,P,e1,X,h3,hP⟩:=ZcS (n:=n) (tk:=tk) (tk':=tk') Z hr I hm hl K g;obtain⟨L,q,e2,k2,hL,V⟩:=WS (F:=rT (n+8)) (s:=x) (U:=Ep tk tk' m rs rs' (jL w3) ab ab ab ab ab ab ab ab ab ab) (ok:=λs=>s[w3]?=aa (ae,[Q,P])) (λst g=>g.get h3) .refl hP
 have e5:ex (rT (n+8)) (.set 5 Y3) (Ep tk tk' m rs rs' (jL w3) ab ab ab ab ab ab ab ab ab ab) x=aa (.nx (Ep tk tk' m rs rs' (jL w3) ab (jL q.length) ab ab ab ab ab ab ab ab),q++[(ae,L.map lsD)]):=Zh (by
  show Y2 one (YB af) [] (Z4 3) _ _ _ x=_;unfold Y2;have ew:YB af (.lst w3) x=aa ([Q,P],λs=>s[w3]?=aa (ae,[Q,P])):=by
   show(match x[w3]? with
    |some c=>aa (c.2,λs=>s[w3]?=aa c)
    |none=>ab)=_
   rw[h3]
  have e0:Z4 3 (Ep tk tk' m rs rs' (jL w3) ab ab ab ab ab ab ab ab ab ab) x=aa (.lst w3,x):=rfl;simp only[e0,ew,e2];rfl)
 have V:L.length<=2:=V;have W:Grw x (q++[(ae,L.map lsD)]):=k2.trans .push;have M:PL m rs.length rs'.length 169 (q++[(ae,L.map lsD)]) L:=hL.up .push;have h5:(q++[(ae,L.map lsD)])[q.length]?=aa (ae,L.map lsD):=Zp;generalize q.length=w5 at *
 generalize q++[(ae,L.map lsD)]=t3 at *
 have hv:=Zo (ceI ns 8) (j:=1000003) #[]
 obtain⟨N,eN⟩:∃ N:Nat,ceI ns 8 % 1000003=(N:Int):=⟨_,(cF hv.1).symm⟩;have E:Y (rT (n+8)) t3 (.m (.f 27 (.a 2 (.u (.i 8)))) (.i 1000003)) (Ep tk tk' m rs rs' (jL w3) ab (jL w5) ab ab ab ab ab ab ab ab) (.int (N:Int)):=by
  rw[<-eN];exact .md (YW (k:=8) (n:=n+7) (g.trans (X.trans W)) ∅ Z ()) () #[]
 obtain⟨o,e6,H⟩:=E t3 .refl;have e7:ex (rT (n+8)) (.set 7 (.lstE .aN)) (Ep tk tk' m rs rs' (jL w3) ab (jL w5) (jN N) ab ab ab ab ab ab ab) o=aa (.nx (Ep tk tk' m rs rs' (jL w3) ab (jL w5) (jN N) (jL o.length) ab ab ab ab ab ab),o++[(ae,[])]):=Zh rfl;have y:=H.get h5
 have D:=M.up H;have r:=WN (s:=o) (w:=w5) (bb:=ae) (en:=lsD) (l:=L) (g:=λ_=>ae) (B:=λd U s=>ex (rT (n+8)) ZY (Zk U 4 d) s)
  (J:=λi U s1=>∃ w7 z y4 y8 y9 y10 y11 y12 y13,U=Ep tk tk' m rs rs' (jL w3) y4 (jL w5) (jN N) (jL w7) y8 y9 y10 y11 y12 y13/\Grw o s1/\s1[w7]?=aa (ae,z.map lsD)/\PL m rs.length rs'.length 170 s1 z/\z.length=2 * i) (λi U s1 h=>by
   obtain⟨_,_,_,_,_,_,_,_,_,_,g,_⟩:=h;exact g.get y) (λi p hp U s1 h=>by
   obtain⟨w7,z,y4,y8,y9,y10,y11,y12,y13,rfl,g1,T,G,l7⟩:=h;obtain⟨⟨b,S⟩,R,c3⟩:=D p (aX hp);have hi:i < L.length:=(bL.mp hp).1;obtain⟨A,w7',L7',z8,z9,z10,z11,z12,z13,O,C,a8,p8,l8⟩:=Zbc (F:=rT (n+8)) (tk:=tk) (tk':=tk') (y3:=jL w3) (y5:=jL w5) (N:=N) (y8:=y8) (y9:=y9) (y10:=y10) (y11:=y11) (y12:=y12) (y13:=y13) ∅ (g1.get S) R c3 T G ∅
   exact .inl ⟨rfl,_,_,O,_,_,_,_,_,_,_,_,_,rfl,g1.trans C,a8,p8,∅⟩) L.length 0 (Ep tk tk' m rs rs' (jL w3) ab (jL w5) (jN N) (jL o.length) ab ab ab ab ab ab) (o++[(ae,[])]) (bY _) ⟨_,[],_,_,_,_,_,_,_,rfl,.push,Zp,λp hp=>(nomatch hp),rfl⟩
 rcases r with⟨_,U',A,O,w7,z,y4,y8,y9,y10,y11,y12,y13,rfl,C,T,G,l7⟩|⟨r,_⟩
 .have ef:ex (rT (n+8)) (.for1 4 af (.v 5) ZY) (Ep tk tk' m rs rs' (jL w3) ab (jL w5) (jN N) (jL o.length) ab ab ab ab ab ab) (o++[(ae,[])])=aa (.nx (Ep tk tk' m rs rs' (jL w3) y4 (jL w5) (jN N) (jL w7) y8 y9 y10 y11 y12 y13),A):=Zab (e:=.v 5) rfl (Grw.push.get y) (by rw[aD];exact O)
  have ec:ev (rT (n+8)) (.p (.v 5) (.v 7)) (Ep tk tk' m rs rs' (jL w3) y4 (jL w5) (jN N) (jL w7) y8 y9 y10 y11 y12 y13) A=aa (.lst A.length,A++[(ae,(L++z).map lsD)]):=by
   show Ug w5 w7 A=_;unfold Ug;rw[cL];simp only[C.get y,T,aD];exact aq (by unfold Zg;omega)
  refine⟨_,_,L++z,UG (v:=c__law_papers) rfl rfl ((Zc e1).trans ((Zc e5).trans ((Zc (Zh e6)).trans ((Zc e7).trans ((Zc ef).trans (Zn (ZQ ec))))))),X.trans (W.trans (H.trans (C.trans .push))),Zp,λp hp=>?_⟩
  rcases bC.mp hp with hp|hp
  .obtain⟨S,R,c3⟩:=(D.up (C.trans .push)) p hp
   exact⟨S,R,∅⟩
  .exact(G.up .push) p hp
 .rw[cJ]at r
  exact au r (by rw[bZ.mpr λ_ _=>rfl];exact λh=>nomatch h)
end
section
variable{q w4 A:Nat}{L:Li (Nat×Li Tr)}{p:Nat×Li Tr}{x3:Ot D}
abbrev El(tk tk':D)(m:Nat)(rs rs':Li Rw)(x3 x4 x5 x6 x7 x8 x9:Ot D):Env:=[jL 0,aa (pgD tk m rs),aa (pgD tk' m rs'),x3,x4,x5,x6,x7,x8,x9]
def ZcG(h:us[i]?=aa u):knW (us.take (i+1))=pt (knW (us.take i)) u.1 u.2.1 u.2.2:=by
 unfold knW;rw[List.take_add_one,h,List.foldl_append];rfl
def Zf2:((knW us).map ky).Nodup:=(WL (vs:=us) (ws:=[]) dI).1
def ZeF:(knW us).length<=us.length:=by
 have h:=(WL (vs:=us) (ws:=[]) dI).2;rw[dD,bY]at h;exact h
def Zca{r:Res}(b:ev F a U st=aa (.tup xs,st))(h:F f xs st=r):ev F (.f f a) U st=r:=by
 show Zl (ev F a) (XG (F f) []) U st=_;unfold Zl;rw[b];show F f (xs++[]) st=_;rw[bD];exact h
def JS{l:Li α}{P:Prop}(h:(l.drop 0).all (λ_=>ae)=af):P:=au h (by rw[bZ.mpr λ_ _=>rfl];exact λh=>nomatch h)
def ZaN(d:st[w]?=aa (bb,us.map trD))(n:us.length<=900):∃ c b a t,ex F (.for4 5 6 7 (.v 3) (.z (.dput 4 (.v 5) (.v 6) (.v 7)))) (El tk tk' m rs rs' (jL w) (aa (.dic st.length)) x5 x6 x7 x8 x9) (st++[(ae,[])])=aa (.nx (El tk tk' m rs rs' (jL w) (aa (.dic st.length)) c b a x8 x9),t)/\Grw st t/\t[st.length]?=aa (ae,(knW us).map trD):=by
 have r:=WN (s:=st) (w:=w) (bb:=bb) (en:=trD) (l:=us) (g:=λ_=>ae) (B:=Xq 5 6 7 (ex F (.z (.dput 4 (.v 5) (.v 6) (.v 7)))))
  (J:=λi U s1=>∃ c b a,U=El tk tk' m rs rs' (jL w) (aa (.dic st.length)) c b a x8 x9/\Grw st s1/\s1[st.length]?=aa (ae,(knW (us.take i)).map trD)) (λi U s1 h=>by
   obtain⟨_,_,_,_,g,_⟩:=h;exact g.get d) (λi v f U s1 h=>by
   obtain⟨c,b,a,rfl,g,j⟩:=h;have o:i < us.length:=(bL.mp f).1;have k:(knW (us.take i)).length<=900:=aK ZeF (by rw[aU];omega)
   have e:ex F (.dput 4 (.v 5) (.v 6) (.v 7)) (El tk tk' m rs rs' (jL w) (aa (.dic st.length)) (jN v.1) (jN v.2.1) (jN v.2.2) x8 x9) s1=aa (.nx (El tk tk' m rs rs' (jL w) (aa (.dic st.length)) (jN v.1) (jN v.2.1) (jN v.2.2) x8 x9),s1.set st.length (ae,(knW (us.take (i+1))).map trD)):=by
    show(match s1[st.length]? with
     |some (ae,xs)=>if xs.length < Zg then aa (Fl.nx _,s1.set st.length (ae,XI xs (v.1:Int) (v.2.1:Int) (.int (v.2.2:Int)))) else ab
     |_=>ab)=_
    rw[j];show(if ((knW (us.take i)).map trD).length < Zg then _ else _)=_
    rw[aq (by rw[aD];unfold Zg;omega),Wl Zf2,ZcG f]
   exact .inl ⟨rfl,_,_,(Zc e).trans Zf,_,_,_,rfl,ZP g ∅,by rw[bM (Zy j)]⟩) us.length 0 (El tk tk' m rs rs' (jL w) (aa (.dic st.length)) x5 x6 x7 x8 x9) (st++[(ae,[])]) (bY _) ⟨_,_,_,rfl,.push,Zp⟩
 rcases r with⟨_,p,t,e,c,b,a,rfl,g,h⟩|⟨r,_⟩
 .refine⟨c,b,a,t,?_,g,by rw[cR]at h;exact h⟩
  show(match (st++[(ae,([]:Li D))])[w]? with|some (_,xs)=>ZF (Xq 5 6 7 _) w xs.length 0 _ _|none=>ab)=_
  rw[Grw.push.get d];show ZF _ w (us.map trD).length 0 _ _=_;rw[aD];exact e
 .exact JS r
def cut_24:Y4 xs ab (aa 24)=xs.take 24:=by
 have h:sIx xs.length xs.length (aa 24)=min 24 xs.length:=U4 (i:=24);unfold Y4;rw[h,List.take_eq_take_min (i:=24)];rfl
def Qb(D:ns.length<=63)(z:m<=5)(g:Grw (S0 ns) st)(M:Rs m rs)(d:Rs m rs')(L:st[q]?=aa (ae,K.map trD))(S:∀ k j b,lk K k j=aa b->Cv tk tk' m rs rs' K k j b)(O:lk K u.1 u.2.1=aa u.2.2)(P:u.1<=rs.length)(Q:u.2.1<=rs'.length):∃ t G F,ex (rT (n+9)) (match hdC (tlC 2 (match hdC Z2 with|.ite _ b _=>b|q=>q)) with|.for4 _ _ _ _ b=>b|q=>q) (El tk tk' m rs rs' x3 (aa (.dic q)) (jN u.1) (jN u.2.1) (jN u.2.2) x8 x9) st=aa (.nx (El tk tk' m rs rs' x3 (aa (.dic q)) (jN u.1) (jN u.2.1) (jN u.2.2) G F),t)/\Grw st t:=by
 obtain⟨vs,C,U⟩:=JQ (n:=n+6) (K:=u.1+3 * u.2.1) g D z;have o:Y (rT (n+9)) st (.f 131 (.a 0 (.aC (.x 1 1) (.u (.p (.v 5) (.h (.i 3) (.v 6))))))) (El tk tk' m rs rs' x3 (aa (.dic q)) (jN u.1) (jN u.2.1) (jN u.2.2) x8 x9) (.tup (inZ vs)):=.call (xs:=[.lst 0,.int (m:Int),.int ((u.1+3 * u.2.1:Nat):Int)]) (.cons () (.cons (.ixt (j:=1) (xs:=[tk,.int (m:Int),.tup (rs.map rwE)]) () () rfl) (.cons (.adN () (.muN (N:=3) () () (by
  have:=d.l;exact X5 ∅))) .nil))) (U st .refl)
 obtain⟨w,X,y⟩:=o st .refl;obtain⟨ws,J,R,T⟩:=JP (c:=u.2.2) (v:=ceI ns 7) C z;have e:Y (rT (n+9)) w (.f 132 (.a 8 (.a 7 (.u (.f 27 (.a 0 (.u (.i 7)))))))) (El tk tk' m rs rs' x3 (aa (.dic q)) (jN u.1) (jN u.2.1) (jN u.2.2) (aa (.tup (inZ vs))) x9) (.tup (inZ ws)):=.call (xs:=[.tup (inZ vs),.int (u.2.2:Int),.int (ceI ns 7)]) (.cons () (.cons () (.cons (YW (k:=7) (n:=n+8) (g.trans y) ∅ D ()) .nil))) (T (n+7) w)
 obtain⟨A,W,B⟩:=e w .refl;have E:Y (rT (n+9)) A (.not (.f 297 (.a 1 (.a 2 (.a 4 (.aC (.g (.a 5 (.s 8))) (.u (.g (.a 6 (.s 9)))))))))) (El tk tk' m rs rs' x3 (aa (.dic q)) (jN u.1) (jN u.2.1) (jN u.2.2) (aa (.tup (inZ vs))) (aa (.tup (inZ ws)))) (.bl af):=.not (k:=ae) (.call (xs:=[pgD tk m rs,pgD tk' m rs',.dic q,stD u.1 vs,stD u.2.1 ws]) () (Zed (n:=n+5) M d z ((y.trans B).get L) S O P Q C J R))
 obtain⟨H,V,I⟩:=E A .refl;exact⟨H,_,_,(Zc (Zh X)).trans ((Zc (Zh W)).trans ((Zc ((YJ V).trans Zf)).trans Zf)),y.trans (B.trans I)⟩
def Jw(hn:ns.length<=63)(hm:m<=5)(g:Grw (S0 ns) st)(hr:Rs m rs)(D:Rs m rs')(Z:st[w]?=aa (bb,us.map trD))(Q:PB m rs.length rs'.length us)(hl:us.length<=170):∃ t y4 k e d p o,ex (rT (n+9)) Z2 (El tk tk' m rs rs' (jL w) x4 x5 x6 x7 x8 x9) st=aa (.nx (El tk tk' m rs rs' (jL w) y4 k e d p o),t)/\Grw st t:=by
 have yk:Y (rT (n+9)) st (.f 204 (.a 1 (.a 2 (.u (.tOf (.v 3)))))) (El tk tk' m rs rs' (jL w) x4 x5 x6 x7 x8 x9) (.bl (kB tk tk' m rs rs' us)):=.call (xs:=[pgD tk m rs,pgD tk' m rs',.tup (us.map trD)]) (.cons () (.cons () (.cons (.tof Z ()) .nil))) (Zd6 (n:=n) hr D ∅ (λt P=>(Q.1 t P).2.2) ∅)
 obtain⟨K,L,O⟩:=yk st .refl;cases z:kB tk tk' m rs rs' us with
 |false=>rw[z]at L;exact⟨K,_,_,_,_,_,_,(Zc ((YJ L).trans Zf)).trans Zf,O⟩
 |true=>
  rw[z]at L;obtain⟨kn,nd,cv,M⟩:=Zf0 z λt P=>(Q.1 t P).2.2
  have C:=O.get Z;obtain⟨k,e,d,I,e2,X,h2⟩:=ZaN (F:=rT (n+9)) (tk:=tk) (tk':=tk') (m:=m) (rs:=rs) (rs':=rs') (x5:=x5) (x6:=x6) (x7:=x7) (x8:=x8) (x9:=x9) C ∅
  rw[kn]at h2;generalize hq:K.length=q at *
  have e0:ex (rT (n+9)) (.set 4 .dnew) (El tk tk' m rs rs' (jL w) x4 x5 x6 x7 x8 x9) K=aa (.nx (El tk tk' m rs rs' (jL w) (aa (.dic q)) x5 x6 x7 x8 x9),K++[(ae,[])]):=Zh (by rw[<-hq];rfl)
  have lv:Lv I (ev (rT (n+9)) (.slice (.v 3) .nop (.part (.i 24))) (El tk tk' m rs rs' (jL w) (aa (.dic q)) k e d x8 x9)) ((us.take 24).map trD):=by
   have:=Lv.sl (F:=rT (n+9)) (a:=.v 3) (b:=.nop) (c:=.part (.i 24)) (U:=El tk tk' m rs rs' (jL w) (aa (.dic q)) k e d x8 x9) (x:=.non) (y:=.int 24) (lo:=ab) (hi:=aa 24) (X.get C) () () () λ_=>rfl
   rw[show Y4 (bb,us.map trD).2 ab (aa 24)=(us.take 24).map trD from cut_24.trans (List.map_take ..).symm]at this;exact this
  obtain⟨H,j,b3,e3,h3,W⟩:=lv I .refl;have A:=O.trans (X.trans W);have r:=WN (s:=H) (w:=j) (bb:=b3) (en:=trD) (l:=us.take 24) (g:=λ_=>ae) (B:=Xq 5 6 7 (ex (rT (n+9)) (match hdC (tlC 2 (match hdC Z2 with|.ite _ b _=>b|q=>q)) with|.for4 _ _ _ _ b=>b|q=>q)))
   (J:=λi U s1=>∃ k e d p o,U=El tk tk' m rs rs' (jL w) (aa (.dic q)) k e d p o/\Grw H s1) (λi U s1 h=>by
    obtain⟨_,_,_,_,_,_,g⟩:=h;exact g.get h3) (λi v hv U s1 h=>by
    obtain⟨k,e,d,p,o,rfl,R⟩:=h;have E:=cT (aX hv);have bd:=Q.1 v E;obtain⟨G,V,T,S,N⟩:=Qb (n:=n) (x3:=jL w) (x8:=p) (x9:=o) hn hm (g.trans (A.trans R)) hr D ((W.trans R).get h2) cv (M v E) bd.1 bd.2.1;exact .inl ⟨rfl,_,G,S,_,_,_,_,_,rfl,R.trans N⟩) (us.take 24).length 0 (El tk tk' m rs rs' (jL w) (aa (.dic q)) k e d x8 x9) H (bY _) ⟨_,_,_,_,_,rfl,.refl⟩
  rcases r with⟨_,U',G,S,z5,z6,z7,V,T,rfl,N⟩|⟨r,_⟩
  .have e5:ex (rT (n+9)) (hdC (tlC 2 (match hdC Z2 with|.ite _ b _=>b|q=>q))) (El tk tk' m rs rs' (jL w) (aa (.dic q)) k e d x8 x9) I=aa (.nx (El tk tk' m rs rs' (jL w) (aa (.dic q)) z5 z6 z7 V T),G):=by
    show Up 5 6 7 (ev (rT (n+9)) (.slice (.v 3) .nop (.part (.i 24)))) _ _ I=_;unfold Up;rw[e3];show(match H[j]? with|some (_,xs)=>ZF (Xq 5 6 7 _) j xs.length 0 _ _|none=>ab)=_
    rw[h3];show ZF _ j ((us.take 24).map trD).length 0 _ _=_;rw[aD];exact S
   exact⟨G,_,_,_,_,_,_,(Zc ((ZL L).trans ((Zc e0).trans ((Zc e2).trans ((Zc e5).trans Zf))))).trans Zf,A.trans N⟩
  .exact JS r
def Jv(n:Nat)(A:ns.length<=63):∃ st',rT (n+10) 16 [.lst 0] [(af,ns.map .int)]=aa (.bl ae,st'):=by
 obtain⟨d0,o,e0,R,tk,tk',m,rs,rs',rfl,Q,P,c,W,C⟩:=Zfw (n:=n+3) A;have e1:ex (rT (n+9)) (.set2 1 2 (.f 47 (.s 0))) [jL 0,ab,ab,ab,ab,ab,ab,ab,ab,ab] (S0 ns)=aa (.nx (El tk tk' m rs rs' ab ab ab ab ab ab ab),o):=by
  have e:ev (rT (n+9)) (.f 47 (.s 0)) [jL 0,ab,ab,ab,ab,ab,ab,ab,ab,ab] (S0 ns)=aa (.tup [pgD tk m rs,pgD tk' m rs'],o):=e0;show WZ 1 2 (ev (rT (n+9)) _) _ (S0 ns)=_;unfold WZ;rw[e];rfl
 obtain⟨k,w,L,e2,T,O,X⟩:=JN (n:=n) (tk:=tk) (tk':=tk') A P c Q W C R;have Z:ev (rT (n+9)) (.f 298 (.a 1 (.a 2 (.s 0)))) (El tk tk' m rs rs' ab ab ab ab ab ab ab) o=aa (.lst w,k):=Zca (a:=.a 1 (.a 2 (.s 0))) rfl e2;have r:=WN (s:=k) (w:=w) (bb:=ae) (en:=lsD) (l:=L) (g:=λ_=>ae) (B:=λd U s=>ex (rT (n+9)) Z2 (Zk U 3 d) s)
  (J:=λi U s1=>∃ M z y x u t q,U=El tk tk' m rs rs' M z y x u t q/\Grw k s1) (λi U s1 h=>by
   obtain⟨_,_,_,_,_,_,_,_,g⟩:=h;exact g.get O) (λi p V U s1 h=>by
   obtain⟨M,z,y,x,u,t,q,rfl,g1⟩:=h;obtain⟨⟨b,c1⟩,c2,c3⟩:=X p (aX V);obtain⟨j,K,I,H,G,F,E,D,N⟩:=Jw (n:=n) (tk:=tk) (tk':=tk') (x4:=z) (x5:=y) (x6:=x) (x7:=u) (x8:=t) (x9:=q) A Q (R.trans (T.trans g1)) P c (g1.get c1) c2 c3;exact .inl ⟨rfl,_,j,D,_,_,_,_,_,_,_,rfl,g1.trans N⟩) L.length 0 (El tk tk' m rs rs' ab ab ab ab ab ab ab) k (bY _) ⟨_,_,_,_,_,_,_,rfl,.refl⟩
 rcases r with⟨_,U',j,D,S,K,I,H,G,F,E,rfl,N⟩|⟨r,_⟩
 .have Y:ex (rT (n+9)) (hdC (tlC 1 c_law_k44.body)) (El tk tk' m rs rs' ab ab ab ab ab ab ab) o=aa (.nx (El tk tk' m rs rs' S K I H G F E),j):=Zab (e:=.call 298 (.a 1 (.a 2 (.s 0))) []) Z O (by rw[aD];exact D)
  exact⟨j,UG (v:=c_law_k44) rfl rfl ((Zc e1).trans ((Zc Y).trans (Zn (ZQ rfl))))⟩
 .exact JS r
end
end
end Dp
namespace PySem.W.Fast
local macro_rules|`(command|universe $xs*)=>do return Lean.mkNullNode (← xs.mapM fun x=>`(def $x :=hE))
universe tw3719314570051054809 tw4593562324504602586 tw10470732045351430837 tw1866989914736436863 tw7066438073886431382 tw3867669155056863239 tw16314000299577759016 tw16237752446939852757 tw15523169796832330363 tw9423017914885513226 tw12113418281888419293 tw654108917057623758 tw3308667891608869059 tw298733663547715843 tw15061366400288770994 tw7455134682955672241 tw14043941906305820126 tw6576611162914232404 tw15709429323949776234 tw8452009969922853447 tw1394353225185935458 tw7544475959085895690 tw386948428410332491 tw13654643224492983540 tw9108491443776232956 tw9355381256690561667 tw9195374776278600248 tw17887871831471158979 tw1262618287098730313 tw4362252706298096846 tw11209044259910419224 tw16698788635650972777 tw7536643843225060227 tw6246305169034520457 tw8834482459560625302 tw17449764482761773335 tw3703433404306799244 tw7215616668310966366 tw16485347804461608960 tw17405162611178287454 tw18382551141729405167 tw7981874420960331241 tw13920504846551448944 tw9481602326245797751 tw17383874998307813576 tw13126469330502544422 tw5271826765107967131 tw16617131286177688561 tw12946601212521305000 tw7895472950769069315 tw6201350824596575941 tw11394593140750628633 tw16543666560925759940 tw16878010713434569903 tw17041318400007994566 tw5826062018550073519 tw15604701807970744887 tw240592938452826983 tw14300088427019802346 tw9132128695015979222 tw10869786148905750486 tw3358745819950241223 tw14406232614892694522 tw3870182870766718784 tw7305156553824621377 tw17905059366952213437 tw7731565224154118589 tw13321079779145014819 tw17156547237533174146 tw17748032949867535235 tw13576407859464793550 tw6811145620854614223 tw9866585846552081918 tw1666866129176814718 tw4442044599384252527 tw10024887233679829577 tw1730794243244386166 tw15846457001992801145 tw16855798804512344589 tw4320400073847409174 tw14501555084648763163 tw11067228494583312252 tw14127888486381162371 tw7123679650298663116 tw6573992497317294404 tw2650067550890003903 tw14745996995198980036 tw10925880000873967975 tw5370496853872896287 tw11847523038443768521 tw642577709654471716 tw1581756529104865118 tw71814981321436564 tw14185770013572431770 tw3795437975770057905 tw141892669416346981 tw3124382814161337622 tw7258510042196388398 tw8343018789784039279 tw5034458437948315988 tw9529950008704358258 tw17789507378669435613 tw9622900155196182944 tw12623183403713719561 tw2123305094730589625 tw15907499284237369114 tw1651748115878808856 tw5630491000717316991 tw5732850254431248001 tw15199230590561602662 tw3270299142255601561 tw17051809833570036850 tw10850791308515813198 tw10614688662319996105 tw2925980931542878415 tw3369031890377663247 tw17519221635351375174 tw14505304218580499394 tw3702140250524725647 tw10347969544410122934 tw12863537608943037931 tw8276342871124416969 tw9994113688730861305 tw5866686521123586041 tw3829064716335349880 tw2606801776188110786 tw8779351655410351590 tw17707071221936816646 tw6611188183558222394 tw5674132040469246449 tw3067115881919559706 tw1258884889958472674 tw38988393075774549 tw2649412329019676380 tw453049884190458156 tw18335580053411786265 tw6617478841553886467 tw151290625178238703 tw5274305083652432479 tw8534414087126414322 tw9019926446463273085 tw8717493160174460900 tw725882826193526956 tw5595822049651691973 tw18084650370338056018 tw4352583673368051340 tw5189149370952836065 tw2601199183341039384 tw20169256926517741 tw6630335473160013926 tw10845775387737180011 tw2677301913271176631 tw8498517391910691695 tw8016399036183820119 tw12511433540925036814 tw3882561998123188142 tw17805262639953175293 tw9412340372994172095 tw9361870874495930710 tw16645459426665794197 tw17417376598032204167 tw9878844627801961525 tw5220913011799049690 tw7304955399996006657 tw6331522500644706695 tw7979965903802518053 tw11413594580536168811 tw12765010803059981666 tw7261996496489838479 tw2292862525975693658 tw614440401948350056 tw4722593728926860886 tw7572268502238791192 tw5490367313187052623 tw16909671422817723445 tw12220006012327369903 tw17744880850978040720 tw7058378733376919656 tw12351853724962233837 tw14491304710255645878 tw12920417774509594805 tw6995262256042802146 tw16820932910674380497 tw13959426586174205811 tw5451000100330775364 tw15220910467955323239 tw7722377727171531026 tw1699519531758708076 tw9252069327278523476 tw7013344856178905481 tw7077017744709893544 tw9180489198383482711 tw9599823874126474769 tw1472043827732009274 tw18438572701407173344 tw15749830437293930483 tw8636610227201116536 tw2925349962775983815 tw2784266054750450389 tw3528539912863426191 tw4433238964148553270 tw11882747748245869117 tw14372896262884034938 tw8140865851238790271 tw2041412529524949741 tw6201950365086593052 tw17495105751520707486 tw2440759937453179326 tw6707865950280133988 tw5643782027905548 tw10117316168803685015 tw9483703037154560631 tw4941784061219112969 tw3174323178190325207 tw11084737168946657652 tw374863292465130757 tw14478164484864199018 tw2790105674295418767 tw8155065790123462839 tw10579816749217922156 tw13262897633896397448 tw2889076073753830567 tw10645483983510426224 tw15653344755446909127 tw13231428076172495501 tw14101741094140766729 tw6861670796435992144 tw2968491442603603426 tw818190886550981994 tw14274069947955289883 tw16992092366307279987 tw9483406737796137190 tw9488718178147563844 tw2328801130488569423 tw13580045885132544018 tw6188887792949183029 tw13636739180237062166 tw13492012892635953361 tw7914326341062387743 tw1820586489032897195 tw15359255776258013077 tw2419214221617565087 tw15978501029854157961 tw5243355913808772270
end PySem.W.Fast
namespace Dp
open PySem L2
noncomputable def top(i:Nat):Stmt:=PySem.Challenge.pw_fakehunt_k44_whole_any_kept_paper.main.body.getD i (.Pass ⟨0,0,0,0⟩)
def G:Gs:=[(S "OPERAND_PLACES",GV.dct [(S "put"),(S "if"),(S "tell"),(S "go"),(S "skip")] [(.tup [(.int 2),(.int 4)]),(.tup [(.int 1),(.int 3)]),(.tup [(.int 1)]),(.tup []),(.tup [])]),(S "replaced",GV.fn 42 3 []),(S "operand_places",GV.fn 113 1 []),(S "bit_of",GV.fn 43 1 []),(S "all_bits",GV.fn 56 1 []),(S "has_bit",GV.fn 114 2 []),(S "without_bit",GV.fn 57 2 []),(S "are_within",GV.fn 45 2 []),(S "LOWEST",GV.c (.int (-1000000000))),(S "HIGHEST",GV.c (.int 999999999)),(S "HALF",GV.c (.int 1000000000)),(S "RING",GV.c (.int 2000000000)),(S "around",GV.fn 0 1 []),(S "divided",GV.fn 1 2 []),(S "left_over",GV.fn 2 2 []),(S "reckon",GV.fn 3 3 []),(S "is_so",GV.fn 4 3 []),(S "NOUGHT",GV.c (.tup [(.str (S "number")),(.int 0)])),(S "ONE",GV.c (.tup [(.str (S "number")),(.int 1)])),(S "SKIP",GV.c (.tup [(.str (S "skip"))])),(S "are_numbers",GV.fn 73 2 []),(S "lesser_first",GV.fn 74 3 []),(S "less_as_more",GV.fn 75 1 []),(S "without_reckoning",GV.fn 76 1 []),(S "made_put",GV.fn 77 1 []),(S "greater_as_less",GV.fn 78 1 []),(S "is_settled",GV.fn 79 1 []),(S "settled",GV.fn 80 1 []),(S "most_as_less",GV.fn 81 1 []),(S "made_if",GV.fn 82 2 []),(S "made_row",GV.fn 83 2 []),(S "END",GV.c (.tup [(.str (S "end"))])),(S "row_at",GV.fn 115 2 []),(S "ends_run",GV.fn 116 1 []),(S "reads_only",GV.fn 117 2 []),(S "end_alike",GV.fn 118 3 []),(S "choose_alike",GV.fn 119 3 []),(S "staying",GV.fn 120 3 []),(S "places_behind",GV.fn 121 2 []),(S "follow",GV.fn 122 5 []),(S "stands",GV.fn 202 2 []),(S "is_walked",GV.fn 203 4 []),(S "paper_kept",GV.fn 204 3 []),(S "found_paper",GV.fn 201 2 []),(S "_law_cell_at",GV.fn 27 2 []),(S "_law_small",GV.fn 20 1 []),(S "_law_operand",GV.fn 28 2 []),(S "_law_row",GV.fn 29 3 []),(S "_law_jumps",GV.fn 123 2 []),(S "_law_mirrored",GV.fn 124 1 []),(S "_law_doubled",GV.fn 125 2 []),(S "_law_rows",GV.fn 126 3 []),(S "_law_two",GV.fn 47 1 []),(S "_law_reckon",GV.fn 32 3 []),(S "_law_so",GV.fn 33 3 []),(S "_law_worth",GV.fn 34 2 []),(S "_law_moved",GV.fn 103 2 []),(S "_law_alike",GV.fn 36 3 []),(S "_law_closed",GV.fn 294 3 []),(S "_law_values",GV.fn 131 3 []),(S "_law_unlike",GV.fn 132 3 []),(S "_law_goes",GV.fn 297 5 []),(S "_law_papers",GV.fn 298 3 []),(S "law",GV.fn 16 1 []),(S "len",GV.blt),(S "range",GV.blt),(S "tuple",GV.blt),(S "list",GV.blt),(S "int",GV.blt),(S "bool",GV.blt),(S "str",GV.blt),(S "min",GV.blt),(S "max",GV.blt),(S "isinstance",GV.blt),(S "all",GV.blt),(S "any",GV.blt),(S "zip",GV.blt),(S "sorted",GV.blt),(S "enumerate",GV.blt),(S "set",GV.blt)]
def ZgO(i k:Nat):Stmt:=match top i with
 |.ClassDef _ _ _ b _ _ _ _ _ _ _=>b.getD k (.Pass ⟨0,0,0,0⟩)
 |s=>s
abbrev Cmp(i:Nat)(N:Li Str)(k:Nat)(c:FD):Prop:=ZbO G (top i) N (N.take k) c.body
abbrev Cmt(i j:Nat)(N:Li Str)(k:Nat)(c:FD):Prop:=ZbO G (ZgO i j) N (N.take k) c.body
abbrev fA9(K:Fg)(x:Str)(i:Nat):Prop:=FnAt K x (top i)
abbrev kO9(K:Fg)(a b:Ad):Prop:=W.kitOne K (.ref a) (.ref b)=aa ae
abbrev nN9(K:Fg)(x:Str):Prop:=W.nsIn K a9 x=aa ab
abbrev nV9(K:Fg)(x:Str)(v:vL):Prop:=W.nsIn K a9 x=aa (aa v)
local macro_rules
 |`(tactic| trivial)=>`(tactic| exact⟨⟨rfl,rfl,rfl,by decide +kernel,rfl,by decide +kernel,by decide +kernel⟩,by unfold L2.Loc;decide +kernel,by kernel_rfl⟩)
def q_2:Cmp 2 ["things","i","thing"] 3 Xz:=by trivial
def q_3:Cmp 3 ["row"] 1 Ye:=by trivial
def q_4:Cmp 4 ["i","bit","times"] 1 WA:=by trivial
def q_5:Cmp 5 ["many"] 1 Xx:=by trivial
def q_6:Cmp 6 ["bits","i"] 2 XZ:=by trivial
def q_7:Cmp 7 ["bits","i"] 2 YH:=by trivial
def q_8:Cmp 8 ["few","bits"] 2 YR:=by trivial
def ZgR:Cmp 14 ["number"] 1 Wz:=by trivial
def ZgS:Cmp 15 ["one","other"] 2 Xr:=by trivial
def ZgT:Cmp 16 ["one","other"] 2 Yz:=by trivial
def ZgU:Cmp 17 ["one","sign","other"] 3 WC:=by trivial
def ZgV:Cmp 18 ["one","sign","other"] 3 Vz:=by trivial
def ZgW:Cmp 23 ["y","z"] 2 YG:=by trivial
def ZgX:Cmp 24 ["row","i","j"] 3 Z8:=by trivial
def ZgY:Cmp 25 ["row"] 1 Z7:=by trivial
def ZgZ:Cmp 26 ["row","y","sign","z"] 1 ZS:=by trivial
def Zg0:Cmp 27 ["row"] 1 Xy:=by trivial
def Zg1:Cmp 28 ["row"] 1 Z6:=by trivial
def Zg2:Cmp 29 ["row"] 1 YT:=by trivial
def Zg3:Cmp 30 ["row","so"] 1 X1:=by trivial
def Zg4:Cmp 31 ["row","y","z"] 1 Yt:=by trivial
def Zg5:Cmp 32 ["row","k"] 2 X0:=by trivial
def Zg6:Cmp 33 ["row","k"] 2 ZZ:=by trivial
def Zg7:Cmp 36 ["program","k"] 2 XF:=by trivial
def Zg8:Cmp 37 ["row"] 1 YS:=by trivial
def Zg9:Cmp 38 ["row","bits","i"] 2 YV:=by trivial
def Zha:Cmp 39 ["row","beside","bits"] 3 Xc:=by trivial
def Zhb:Cmp 40 ["row","beside","bits"] 3 ZM:=by trivial
def Zhc:Cmp 41 ["row","beside","bits","each"] 3 X2:=by trivial
def Zhd:Cmp 42 ["row","k"] 2 ZI:=by trivial
def Zhe:Cmp 43 ["one","other","k","j","bits","row","beside","stay","triples","place"] 5 WB:=by trivial
def Zhf:Cmp 45 ["triple","known","pair"] 2 WD:=by trivial
def Zhg:Cmp 46 ["one","other","triple","known","triples"] 4 Xd:=by trivial
def Zhh:Cmp 47 ["one","other","paper","known","k","j","bits"] 3 YU:=by trivial
def Zhi:Cmp 49 ["one","other","paper","ahead","pair","triples","k","j","stay","bits"] 2 Yi:=by trivial
def Zhj:Cmp 51 ["_law_script","_law_k"] 2 Yq:=by trivial
def Zhk:Cmp 52 ["_law_cell"] 1 YQ:=by trivial
def Zhl:Cmp 53 ["_law_cell","_law_many"] 2 Ys:=by trivial
def Zhm:Cmp 54 ["_law_cells","_law_many","_law_size","_law_one","_law_other"] 3 Xw:=by trivial
def Zhn:Cmp 55 ["_law_row_here","_law_places"] 2 ZG:=by trivial
def Zho:Cmp 56 ["_law_row_here","_law_sign"] 1 Zr:=by trivial
def Zhp:Cmp 57 ["_law_rows_here","_law_cell","_law_size","_law_found","_law_copy","_law_k","_law_far"] 2 Yr:=by trivial
def Zhq:Cmp 58 ["_law_script","_law_many","_law_way","_law_size","_law_rows_here","_law_k"] 3 Xb:=by trivial
def Zhr:Cmp 59 ["_law_script","_law_head","_law_taken","_law_many","_law_way","_law_rows_here","_law_size","_law_others","_law_at","_law_fresh","_law_one","_law_other"] 1 c__law_two:=by trivial
def Zhs:Cmp 60 ["_law_one","_law_sign","_law_other","_law_found"] 3 Zs:=by trivial
def Zht:Cmp 61 ["_law_one","_law_sign","_law_other"] 3 Z3:=by trivial
def Zhu:Cmp 62 ["_law_operand_here","_law_values_here"] 2 Ym:=by trivial
def Zhv:Cmp 63 ["_law_program","_law_state","_law_k","_law_values_here","_law_row_here","_law_number","_law_here","_law_there"] 2 c__law_moved:=by trivial
def Zhw:Cmp 64 ["_law_here","_law_there","_law_bits","_law_i"] 3 YO:=by trivial
def Zhx:Cmp 65 ["_law_one","_law_other","_law_start","_law_agreed","_law_waiting","_law_k","_law_j","_law_following","_law_at","_law_to","_law_left","_law_old"] 3 c__law_closed:=by trivial
def Zhy:Cmp 66 ["_law_script","_law_many","_law_k"] 3 YF:=by trivial
def Zhz:Cmp 67 ["_law_values_here","_law_bits","_law_cell","_law_found","_law_i"] 3 YE:=by trivial
def ZhA:Cmp 68 ["_law_one","_law_other","_law_agreed","_law_mine","_law_theirs","_law_turn","_law_bits"] 5 Xa:=by trivial
def ZhB:Cmp 69 ["_law_one","_law_other","_law_script","_law_some","_law_paper","_law_papers_here","_law_cell","_law_fresh","_law_at","_law_k","_law_j","_law_bits","_law_fewer","_law_wider"] 3 c__law_papers:=by trivial
def Zga:Cmp 70 ["_law_script","_law_one","_law_other","_law_paper","_law_agreed","_law_k","_law_j","_law_bits","_law_values_here","_law_unlike_here"] 1 c_law_k44:=by trivial
@[reducible] noncomputable def tab (l:Li (Nat×Ad)):ClsTab:=⟨λi=>(l.lookup i).getD 0⟩
section
variable [ct:ClsTab]
def Zeg{Pm:Params}{K:Fg}{h:br}{mg:Str->Ot vL}{fa:Ad}(X:K.In h)(a:h.Ns a9 mg)(hfa:mg "law"=aa (.ref fa)){A0 f e d c b A17 Z Y V:Ad}{E l k j i g D C B A:Obj}{ep0 U R Q P O on17 on18 on19 on31:Nat}{z q p y o n x m w r t8 t9 t10 t11 M L J I H F:Tok}(g0:nV9 K "OPERAND_PLACES" (.ref A0))(d0:K.lookup A0=aa E)(f0c:E.cls=.type "dict")(f0d:E.dict=ab)(f0s:E.slots=#[])(e0:E.data=.dict #[⟨bz Pm "put",.str "put" z,.ref f⟩,⟨bz Pm "if",.str "if" y,.ref e⟩,⟨bz Pm "tell",.str "tell" x,.ref d⟩,⟨bz Pm "go",.str "go" w,.ref c⟩,⟨bz Pm "skip",.str "skip" r,.ref b⟩] ep0)(s0:(A0==bv)=af)(h0_0:K.lookup f=aa l)(i0_0:l.cls=.type "tuple")(j0_0:l.data=.seq #[.int (2) q,.int (4) p] U)(h0_1:K.lookup e=aa k)(i0_1:k.cls=.type "tuple")(j0_1:k.data=.seq #[.int (1) o,.int (3) n] R)(h0_2:K.lookup d=aa j)(i0_2:j.cls=.type "tuple")(j0_2:j.data=.seq #[.int (1) m] Q)(h0_3:K.lookup c=aa i)(i0_3:i.cls=.type "tuple")(j0_3:i.data=.seq #[] P)(h0_4:K.lookup b=aa g)(i0_4:g.cls=.type "tuple")(j0_4:g.data=.seq #[] O)(a1:fA9 K "replaced" 2)(a2:fA9 K "operand_places" 3)(a3:fA9 K "bit_of" 4)(a4:fA9 K "all_bits" 5)(a5:fA9 K "has_bit" 6)(a6:fA9 K "without_bit" 7)(a7:fA9 K "are_within" 8)(g8:nV9 K "LOWEST" (.int (-1000000000) t8))(g9:nV9 K "HIGHEST" (.int (999999999) t9))(g10:nV9 K "HALF" (.int (1000000000) t10))(g11:nV9 K "RING" (.int (2000000000) t11))(a12:fA9 K "around" 14)(a13:fA9 K "divided" 15)(a14:fA9 K "left_over" 16)(a15:fA9 K "reckon" 17)(a16:fA9 K "is_so" 18)(g17:nV9 K "NOUGHT" (.ref A17))(d17:K.lookup A17=aa D)(f17c:D.cls=.type "tuple")(e17:D.data=.seq #[.str ("number") M,.int (0) L] on17)(g18:nV9 K "ONE" (.ref Z))(d18:K.lookup Z=aa C)(f18c:C.cls=.type "tuple")(e18:C.data=.seq #[.str ("number") J,.int (1) I] on18)(g19:nV9 K "SKIP" (.ref Y))(d19:K.lookup Y=aa B)(f19c:B.cls=.type "tuple")(e19:B.data=.seq #[.str ("skip") H] on19)(a20:fA9 K "are_numbers" 23)(a21:fA9 K "lesser_first" 24)(a22:fA9 K "less_as_more" 25)(a23:fA9 K "without_reckoning" 26)(a24:fA9 K "made_put" 27)(a25:fA9 K "greater_as_less" 28)(a26:fA9 K "is_settled" 29)(a27:fA9 K "settled" 30)(a28:fA9 K "most_as_less" 31)(a29:fA9 K "made_if" 32)(a30:fA9 K "made_row" 33)(g31:nV9 K "END" (.ref V))(d31:K.lookup V=aa A)(f31c:A.cls=.type "tuple")(e31:A.data=.seq #[.str ("end") F] on31)(a32:fA9 K "row_at" 36)(a33:fA9 K "ends_run" 37)(a34:fA9 K "reads_only" 38)(a35:fA9 K "end_alike" 39)(a36:fA9 K "choose_alike" 40)(a37:fA9 K "staying" 41)(a38:fA9 K "places_behind" 42)(a39:fA9 K "follow" 43)(a40:fA9 K "stands" 45)(a41:fA9 K "is_walked" 46)(a42:fA9 K "paper_kept" 47)(a43:fA9 K "found_paper" 49)(a44:fA9 K "_law_cell_at" 51)(a45:fA9 K "_law_small" 52)(a46:fA9 K "_law_operand" 53)(a47:fA9 K "_law_row" 54)(a48:fA9 K "_law_jumps" 55)(a49:fA9 K "_law_mirrored" 56)(a50:fA9 K "_law_doubled" 57)(a51:fA9 K "_law_rows" 58)(a52:fA9 K "_law_two" 59)(a53:fA9 K "_law_reckon" 60)(a54:fA9 K "_law_so" 61)(a55:fA9 K "_law_worth" 62)(a56:fA9 K "_law_moved" 63)(a57:fA9 K "_law_alike" 64)(a58:fA9 K "_law_closed" 65)(a59:fA9 K "_law_values" 66)(a60:fA9 K "_law_unlike" 67)(a61:fA9 K "_law_goes" 68)(a62:fA9 K "_law_papers" 69)(a63:fA9 K "law" 70)(z64:nN9 K "len")(z65:nN9 K "range")(z66:nN9 K "tuple")(z67:nN9 K "list")(z68:nN9 K "int")(z69:nN9 K "bool")(z70:nN9 K "str")(z71:nN9 K "min")(z72:nN9 K "max")(z73:nN9 K "isinstance")(z74:nN9 K "all")(z75:nN9 K "any")(z76:nN9 K "zip")(z77:nN9 K "sorted")(z78:nN9 K "enumerate")(z79:nN9 K "set") :
  Text Pm K mg G T/\∃ (fd:bq) (N:Li Str),(∀ (s:Sd) (u:vL),BindsTo s fd ⟨[u],[]⟩ [(S "_law_script",u)])/\DefOk K mg G T "law" 16 [] fa fd [S "_law_script"] N:=by
 exact⟨Zdp (⟨⟨A0,E,#[⟨bz Pm "put",.str "put" z,.ref f⟩,⟨bz Pm "if",.str "if" y,.ref e⟩,⟨bz Pm "tell",.str "tell" x,.ref d⟩,⟨bz Pm "go",.str "go" w,.ref c⟩,⟨bz Pm "skip",.str "skip" r,.ref b⟩],ep0,W.mg_of X a g0,d0,⟨f0c,f0d,f0s⟩,e0,s0,(by decide),(show EsOk Pm K [⟨bz Pm "put",.str "put" z,.ref f⟩,⟨bz Pm "if",.str "if" y,.ref e⟩,⟨bz Pm "tell",.str "tell" x,.ref d⟩,⟨bz Pm "go",.str "go" w,.ref c⟩,⟨bz Pm "skip",.str "skip" r,.ref b⟩] _ _ from .cons (v:=.ref f) (t:=z) rfl rfl (show RelV (.ref f) (.ref f) from rfl) (λ_ _=>.tup (xs:=[.int (2),.int (4)]) (.inr ⟨l,#[.int (2) q,.int (4) p],U,h0_0,i0_0,j0_0,(show(2:Nat)<=ay by decide),.cons ⟨_,rfl⟩ (.cons ⟨_,rfl⟩ (.nil))⟩) (.cons (.int _) (.cons (.int _) (.nil)))) (.cons (v:=.ref e) (t:=y) rfl rfl (show RelV (.ref e) (.ref e) from rfl) (λ_ _=>.tup (xs:=[.int (1),.int (3)]) (.inr ⟨k,#[.int (1) o,.int (3) n],R,h0_1,i0_1,j0_1,(show(2:Nat)<=ay by decide),.cons ⟨_,rfl⟩ (.cons ⟨_,rfl⟩ (.nil))⟩) (.cons (.int _) (.cons (.int _) (.nil)))) (.cons (v:=.ref d) (t:=x) rfl rfl (show RelV (.ref d) (.ref d) from rfl) (λ_ _=>.tup (xs:=[.int (1)]) (.inr ⟨j,#[.int (1) m],Q,h0_2,i0_2,j0_2,(show(1:Nat)<=ay by decide),.cons ⟨_,rfl⟩ (.nil)⟩) (.cons (.int _) (.nil))) (.cons (v:=.ref c) (t:=w) rfl rfl (show RelV (.ref c) (.ref c) from rfl) (λ_ _=>.tup (xs:=[]) (.inr ⟨i,#[],P,h0_3,i0_3,j0_3,(show(0:Nat)<=ay by decide),.nil⟩) (.nil)) (.cons (v:=.ref b) (t:=r) rfl rfl (show RelV (.ref b) (.ref b) from rfl) (λ_ _=>.tup (xs:=[]) (.inr ⟨g,#[],O,h0_4,i0_4,j0_4,(show(0:Nat)<=ay by decide),.nil⟩) (.nil)) (.nil))))))⟩,gD X a a1 q_2 rfl (gD X a a2 q_3 rfl (gD X a a3 q_4 rfl (gD X a a4 q_5 rfl (gD X a a5 q_6 rfl (gD X a a6 q_7 rfl (gD X a a7 q_8 rfl (gI X a g8 (gI X a g9 (gI X a g10 (gI X a g11 (gD X a a12 ZgR rfl (gD X a a13 ZgS rfl (gD X a a14 ZgT rfl (gD X a a15 ZgU rfl (gD X a a16 ZgV rfl (⟨⟨.ref A17,.ref A17,W.mg_of X a g17,rfl,λ_ _=>.tup (xs:=[.str ("number"),.int (0)]) (.inr ⟨D,#[.str ("number") M,.int (0) L],on17,d17,f17c,e17,(show(2:Nat)<=ay by decide),.cons ⟨_,rfl⟩ (.cons ⟨_,rfl⟩ (.nil))⟩) (.cons (.str _) (.cons (.int _) (.nil)))⟩,⟨⟨.ref Z,.ref Z,W.mg_of X a g18,rfl,λ_ _=>.tup (xs:=[.str ("number"),.int (1)]) (.inr ⟨C,#[.str ("number") J,.int (1) I],on18,d18,f18c,e18,(show(2:Nat)<=ay by decide),.cons ⟨_,rfl⟩ (.cons ⟨_,rfl⟩ (.nil))⟩) (.cons (.str _) (.cons (.int _) (.nil)))⟩,⟨⟨.ref Y,.ref Y,W.mg_of X a g19,rfl,λ_ _=>.tup (xs:=[.str ("skip")]) (.inr ⟨B,#[.str ("skip") H],on19,d19,f19c,e19,(show(1:Nat)<=ay by decide),.cons ⟨_,rfl⟩ (.nil)⟩) (.cons (.str _) (.nil))⟩,gD X a a20 ZgW rfl (gD X a a21 ZgX rfl (gD X a a22 ZgY rfl (gD X a a23 ZgZ rfl (gD X a a24 Zg0 rfl (gD X a a25 Zg1 rfl (gD X a a26 Zg2 rfl (gD X a a27 Zg3 rfl (gD X a a28 Zg4 rfl (gD X a a29 Zg5 rfl (gD X a a30 Zg6 rfl (⟨⟨.ref V,.ref V,W.mg_of X a g31,rfl,λ_ _=>.tup (xs:=[.str ("end")]) (.inr ⟨A,#[.str ("end") F],on31,d31,f31c,e31,(show(1:Nat)<=ay by decide),.cons ⟨_,rfl⟩ (.nil)⟩) (.cons (.str _) (.nil))⟩,gD X a a32 Zg7 rfl (gD X a a33 Zg8 rfl (gD X a a34 Zg9 rfl (gD X a a35 Zha rfl (gD X a a36 Zhb rfl (gD X a a37 Zhc rfl (gD X a a38 Zhd rfl (gD X a a39 Zhe rfl (gD X a a40 Zhf rfl (gD X a a41 Zhg rfl (gD X a a42 Zhh rfl (gD X a a43 Zhi rfl (gD X a a44 Zhj rfl (gD X a a45 Zhk rfl (gD X a a46 Zhl rfl (gD X a a47 Zhm rfl (gD X a a48 Zhn rfl (gD X a a49 Zho rfl (gD X a a50 Zhp rfl (gD X a a51 Zhq rfl (gD X a a52 Zhr rfl (gD X a a53 Zhs rfl (gD X a a54 Zht rfl (gD X a a55 Zhu rfl (gD X a a56 Zhv rfl (gD X a a57 Zhw rfl (gD X a a58 Zhx rfl (gD X a a59 Zhy rfl (gD X a a60 Zhz rfl (gD X a a61 ZhA rfl (gD X a a62 ZhB rfl (gD X a a63 Zga rfl (gB X a z64 (gB X a z65 (gB X a z66 (gB X a z67 (gB X a z68 (gB X a z69 (gB X a z70 (gB X a z71 (gB X a z72 (gB X a z73 (gB X a z74 (gB X a z75 (gB X a z76 (gB X a z77 (gB X a z78 (gB X a z79 (trivial))))))))))))))))))))))))))))))))))))))))))))))))⟩)))))))))))⟩⟩⟩))))))))))))))))⟩),gL X a hfa a63 Zga rfl λ_ _ _ _ _ _ _=>rfl⟩
def ZcL:∀ n,Y6 G (run T n):=λ_=>Zb8
end
end Dp
open PySem PySem.W PyProof.Rows
local macro_rules
 |`(∅)=>`(.mk ?_ ?_ ?_ ?_)
set_option maxRecDepth 100000 in
set_option maxHeartbeats 0 in
theorem PySem.Challenge.cw_fakehunt_k44_whole_any_kept_paper_holds : PySem.Challenge.rw_fakehunt_k44_whole_any_kept_paper.Holds := by
 w_on;o_law;k_head;(case hw=>w_witness2)
 k_fill
 refine Dp.Jx (l:=PySem.Challenge.rw_fakehunt_k44_whole_any_kept_paper) (G:=Dp.G) (T:=Dp.T) (n:=10) (i:=16) (x := "_law_script") rfl rfl ⟨rfl,by decide,by decide⟩ (λw h Y=>PySem.W.kIn_of Y) Dp.ZcL ?F (λns hn=>Dp.Jv 0 hn)
 case F=>
  intro w mg fa h KX G0 hmg;refine' ⟨Dp.tab [],Dp.Zeg (ct:=Dp.tab []) (Pm:=w.params)  KX G0 hmg  ?_ ?_ ?_ ?_ ?_ ?_ ?_ ?_ ?_ ?_ ?_ ?_ ?_ ?_ ?_ ?_ ?_ ?_ ?_ ?_ ?_ ?_ ∅ ∅ ∅ ∅ ∅ ∅ ∅ ?_ ?_ ?_ ?_ ∅ ∅ ∅ ∅ ∅ ?_ ?_ ?_ ?_ ?_ ?_ ?_ ?_ ?_ ?_ ?_ ?_ ∅ ∅ ∅ ∅ ∅ ∅ ∅ ∅ ∅ ∅ ∅ ?_ ?_ ?_ ?_ ∅ ∅ ∅ ∅ ∅ ∅ ∅ ∅ ∅ ∅ ∅ ∅ ∅ ∅ ∅ ∅ ∅ ∅ ∅ ∅ ∅ ∅ ∅ ∅ ∅ ∅ ∅ ∅ ∅ ∅ ∅ ∅ ?_ ?_ ?_ ?_ ?_ ?_ ?_ ?_ ?_ ?_ ?_ ?_ ?_ ?_ ?_ ?_⟩
  all_goals (first|k_is|exact rfl|skip)
  all_goals (first|k_is|exact rfl|skip)

import PyProof.Rows.All
import Wide.All
import OpenK.AllK
import Wide.FinOn
import Lean
import PyProof.EqAt
import PyProof.EqKinds
import PyProof.TupleCall
import PyProof.TupleKey
import PyProof.DictWalks
import PyProof.DictItems
import KE.KPairComp
import KE.KUnpack
import KE.KSortAsk
import KE.KSortTup
import KE.KDictSum
import PySem.Challenge.RW_fakehunt_k65_twins_alike
set_option Elab.async false
set_option linter.all false
set_option maxRecDepth 100000
set_option maxHeartbeats 4000000
set_option genSizeOf false
set_option genInjectivity false
set_option compiler.extract_closed false
set_option bootstrap.genMatcherCode false
def fD:=@Nat.le_refl
open PySem renaming sizeLine → aw,Expr → ax,mainGlobals → ay,wpAny → az,model → a0,Program → a1,starEach → a5,bootBuiltins → a6,Scope → a7,FuncData → bc,Heap → bf,World → bg,compareOp → bh,sysModules → bj,Around → bm,binaryOp → bo
open PySem.PyData renaming keyHash → bp
open PySem.Value renaming ref → bq,none → br
open Option renaming some → aa,none → ab
open Bool renaming true → ac,false → ae
open List renaming replicate → af,range → ag
open Decidable renaming decide → aj
def ak:=@of_decide_eq_false
def am:=@of_decide_eq_true
def ao:=@if_pos
def aq:=@if_neg
def ar:=@absurd
def au:=@congrArg
def av:=@Option.some.inj
noncomputable section
def aD:=@List.length_map
def aE:=@Nat.le_refl
def aF:=@List.mem_cons
def aG:=@List.size_toArray
def aH:=@decide_eq_false
def aI:=@List.length_append
def aK:=@List.map_cons
def aL:=@List.mem_map
def aM:=@List.mem_singleton
def aP:=@decide_eq_true
def aQ:=@List.length_cons
def aR:=@Nat.le_trans
def aS:=@Nat.zero_le
def aT:=@List.mem_of_getElem?
def aU:=@Nat.lt_of_lt_of_le
def aV:=@List.getElem?_map
def aW:=@Nat.ne_of_lt
def aY:=@List.length_set
def aZ:=@List.map_map
def bA:=@Int.toNat_natCast
def bB:=@List.not_mem_nil
def bC:=@List.mem_append
def bD:=@List.getD_eq_getElem?_getD
def bE:=@List.all_cons
def bF:=@decide_eq_true_eq
def bG:=@List.append_nil
def bH:=@Nat.zero_add
def bJ:=@List.getElem?_set_ne
def bL:=@Nat.lt_succ_self
def bM:=@List.nodup_cons
def bN:=@List.map_append
def bO:=@Int.natCast_add
def bP:=@List.getElem?_eq_some_iff
def bQ:=@Bool.eq_iff_iff
def bR:=@List.getElem?_set_self
def bS:=@List.getElem?_append_left
def bT:=@List.length_range
def bU:=@Int.toNat_of_nonneg
def bV:=@List.append_assoc
def bX:=@List.drop_eq_getElem_cons
def bY:=@List.flatMap_cons
def bZ:=@Nat.lt_irrefl
def cA:=@List.mem_range
def cB:=@List.getElem?_append_right
def cC:=@List.find?_cons
def cD:=@List.all_eq_true
def cF:=@Bool.false_eq_true
def cG:=@Bool.or_eq_true
def cH:=@List.lookup_cons
def cI:=@Array.length_toList
def cJ:=@List.mem_append_right
def cK:=@List.replicate_succ
def cL:=@beq_eq_false_iff_ne
def cM:=@List.length_take
def cN:=@List.drop_zero
def cP:=@List.any_cons
def cQ:=@List.length_nil
def cR:=@Bool.and_eq_true_iff
def cT:=@List.getElem_mem
def cU:=@List.map_flatMap
def cV:=@Nat.le_of_lt
def cX:=@List.length_replicate
def cY:=@List.flatten_cons
def cZ:=@Bool.true_and
def dA:=@Nat.le_of_eq
def dB:=@Int.ediv_one
def dC:=@List.length_drop
def dD:=@Bool.or_false
def dE:=@List.nil_append
def dF:=@List.map_nil
def dG:=@List.nodup_nil
def dH:=@Option.map_eq_some_iff
def dI:=@Array.getElem?_eq_getElem
def dJ:=@List.cons_ne_nil
def dL:=@Bool.and_true
def dM:=@Option.bind_eq_some_iff
def dO:=@Nat.sub_self
def dP:=@List.mem_flatMap
def dQ:=@Nat.mul_le_mul
def dR:=@List.mem_filter
def dS:=@List.of_mem_zip
def dU:=@Array.getElem?_toList
def dW:=@Nat.le_of_not_lt
def dX:=@List.forIn_cons
def dY:=@List.drop_of_length_le
def dZ:=@List.length_eq_zero_iff
def eA:=@Bool.not_eq_true'
def eB:=@List.getElem?_eq_none_iff
def eC:=@Int.natCast_mul
def eD:=@Int.natCast_nonneg
def eE:=@List.getElem?_replicate
def eG:=@List.length_singleton
def eH:=@Array.getElem?_eq_none
def eI:=@List.getElem?_eq_none
def eJ:=@List.mem_iff_getElem?
def eK:=@List.mem_or_eq_of_mem_set
section
open PySem PySem.Spec PyProof.Rows
def aA:=@wpAny_bind
def aB:=@wpAny_pure
def aJ:=@Heap.lt_size
def aO:=@Heap.get?_push_of_some
def aX:=@Heap.get?_push_size
def bK:=@wpAny_mono
end
abbrev Li.{u}(α:Type u):Type u:=List α
abbrev Ot.{u}(α:Type u):Type u:=Option α
abbrev vL:=PySem.Value
abbrev Ad:=PySem.Addr
abbrev Sd:=PySem.Shared
def Ob{α β:Type}{a:α}{f:α->Ot β}:(aa a).bind f=f a:=rfl
abbrev Fg:=PySem.W.Frag
def Ba(a b:Bool):((a&&b)=ac)=(a=ac/\b=ac):=Bool.and_eq_true a b
def Lg{α:Type _}{l:Li α}{i:Nat}(h:i<l.length):l[i]?=aa l[i]:=List.getElem?_eq_getElem h
def Lm{α:Type _}(y:α){a:α}{l:Li α}(h:a∈l):a∈y::l:=List.mem_cons_of_mem y h
def Ls{α:Type _}{a:α}{l:Li α}:a∈a::l:=List.mem_cons_self
def Bf:¬ae=ac:=Bool.false_ne_true
namespace L2
open PySem PySem.Spec PyProof.Rows
abbrev Key:=Sum Int Str
noncomputable def keyIs:Key->vL->Bool
  |.inl k,v=>Value.isInt k v
  |.inr x,v=>Value.isStrOf x v
noncomputable def keyH(w:bg):Key->Int
  |.inl k=>hashInt k
  |.inr x=>hashStr w x
def keyIs_shape:∀ {k:Key}{v:vL},keyIs k v=ac->(∃ i t,k=Sum.inl i/\v=Value.int i t)\/(∃ x t,k=Sum.inr x/\v=Value.str x t)
  |.inl i,v,h=>by
    obtain⟨t,e⟩:=Value.isInt_shape (k:=i) (v:=v) h;exact .inl ⟨i,t,rfl,e⟩
  |.inr x,v,h=>by
    obtain⟨t,e⟩:=Value.isStrOf_shape (x:=x) (v:=v) h;exact .inr ⟨x,t,rfl,e⟩
def keyIs_int(i:Int)(t:Tok):keyIs (.inl i) (.int i t)=ac:=by simp[keyIs,Value.isInt]
def keyIs_str(x:Str)(t:Tok):keyIs (.inr x) (.str x t)=ac:=by simp[keyIs,Value.isStrOf]
def key_ll(a b:Int):aj ((Sum.inl a:Key)=Sum.inl b)=(a==b):=by
  by_cases e:a=b
  . subst e;simp
  . have h:¬(Sum.inl a:Key)=Sum.inl b:=λq=>e (Sum.inl.inj q)
    rw[aH h];exact(cL.mpr e).symm
def key_rr(a b:Str):aj ((Sum.inr a:Key)=Sum.inr b)=aj (a=b):=by
  by_cases e:a=b
  . subst e;simp
  . have h:¬(Sum.inr a:Key)=Sum.inr b:=λq=>e (Sum.inr.inj q)
    rw[aH h,aH e]
def key_lr(a:Int)(b:Str):aj ((Sum.inl a:Key)=Sum.inr b)=ae:=aH (λq=>nomatch q)
def key_rl(a:Str)(b:Int):aj ((Sum.inr a:Key)=Sum.inl b)=ae:=aH (λq=>nomatch q)
def mixKind(prog:a1)(w:bg):PySem.KeyKind prog w Key where
  is:=keyIs
  hash:=keyH w
  inj:=λv a b l f=>by
    rcases keyIs_shape l with⟨i,t,rfl,rfl⟩|⟨x,t,rfl,rfl⟩
    . rcases keyIs_shape f with⟨j,u,rfl,e⟩|⟨y,u,rfl,e⟩
      . injection e with c _;rw[c]
      . exact nomatch e
    . rcases keyIs_shape f with⟨j,u,rfl,e⟩|⟨y,u,rfl,e⟩
      . exact nomatch e
      . injection e with c _;rw[c]
  byValue:=λk v h=>by
    rcases keyIs_shape h with⟨i,t,rfl,rfl⟩|⟨x,t,rfl,rfl⟩<;>rfl
  pyHash:=λd h=>by
    rcases keyIs_shape d with⟨i,t,rfl,rfl⟩|⟨x,t,rfl,rfl⟩
    . exact wpAny_pyHash_int h
    . exact wpAny_pyHash_str h
  eqBool:=λg d h=>by
    rcases keyIs_shape g with⟨i,t,rfl,rfl⟩|⟨x,t,rfl,rfl⟩
    . rcases keyIs_shape d with⟨j,u,rfl,rfl⟩|⟨y,u,rfl,rfl⟩
      . rw[key_ll]at h;exact wpAny_eqBool_int h
      . rw[key_lr]at h;exact SeqAt.EqAt.int_str i t y u _ _ _ _ h
    . rcases keyIs_shape d with⟨j,u,rfl,rfl⟩|⟨y,u,rfl,rfl⟩
      . rw[key_rl]at h;exact SeqAt.EqAt.str_int x t j u _ _ _ _ h
      . rw[key_rr]at h;exact wpAny_eqBool_str h
  «strs»:=λk x t v h=>by
    rcases keyIs_shape h with⟨i,u,rfl,e⟩|⟨y,u,rfl,e⟩
    . exact nomatch e
    . injection e with c _
      subst c;cases v<;>rfl
def mixKind_int(prog:a1)(w:bg)(i:Int)(t:Tok):(mixKind prog w).is (.inl i) (.int i t)=ac:=keyIs_int i t
def mixKind_str(prog:a1)(w:bg)(x:Str)(t:Tok):(mixKind prog w).is (.inr x) (.str x t)=ac:=keyIs_str x t
set_option genInjectivity true in
inductive V where
  |non|bl (b:Bool)|int (i:Int)|str (x:Str)|byt (b:Array UInt8)|flt (b:UInt64)|ref (a:Addr)|ty (n:String)
  deriving DecidableEq
def RelV:V->vL->Prop
  |.non,u=>u=br
  |.bl b,u=>u=Value.bool b
  |.int i,u=>∃ t,u=Value.int i t
  |.str x,u=>∃ t,u=Value.str x t
  |.byt b,u=>∃ t,u=Value.bytes b t
  |.flt b,u=>∃ t,u=Value.float b t
  |.ref a,u=>u=bq a
  |.ty n,u=>u=Value.type n
abbrev Vals:Li V->Li vL->Prop:=Paired RelV
variable{xs:Li V}{us:Li vL}
theorem Vals.length(r:Vals xs us):xs.length=us.length:=Paired.length r
theorem Vals.get:∀ {xs:Li V}{us:Li vL}{i:Nat}{x:V},Vals xs us->xs[i]?=aa x->∃ u,us[i]?=aa u/\RelV x u
  |_,_,_,_,.nil,e=>by simp at e
  |_,_,0,_,.cons r _,e=>by simp at e;subst e;exact⟨_,rfl,r⟩
  |_,_,i+1,x,.cons _ t,e=>by
    obtain⟨u,b,a⟩:=Vals.get (i:=i) (x:=x) t (by simpa using e)
    exact⟨u,by simpa using b,a⟩
theorem Vals.set{x:V}{u:vL}(r:RelV x u):∀ {xs:Li V}{us:Li vL} (i:Nat),Vals xs us->Vals (xs.set i x) (us.set i u)
  |_,_,_,.nil=>.nil
  |_,_,0,.cons _ t=>.cons r t
  |_,_,i+1,.cons q t=>.cons q (Vals.set r i t)
theorem Vals.append:∀ {xs ys:Li V}{us ws:Li vL},Vals xs us->Vals ys ws->Vals (xs++ys) (us++ws)
  |_,_,_,_,.nil,s=>s
  |_,_,_,_,.cons r t,s=>.cons r (Vals.append t s)
theorem Vals.take:∀ {xs:Li V}{us:Li vL} (n:Nat),Vals xs us->Vals (xs.take n) (us.take n)
  |_,_,0,_=>.nil
  |_,_,_+1,.nil=>.nil
  |_,_,n+1,.cons r t=>.cons r (Vals.take n t)
theorem Vals.drop:∀ {xs:Li V}{us:Li vL} (n:Nat),Vals xs us->Vals (xs.drop n) (us.drop n)
  |_,_,0,r=>r
  |_,_,_+1,.nil=>.nil
  |_,_,n+1,.cons _ t=>Vals.drop n t
def RelO:Ot V->Ot vL->Prop
  |some v,aa u=>RelV v u
  |none,ab=>True
  |_,_=>False
def KV{a:Type}:Li (a×V)->Li (a×vL)->Prop:=Paired λ(p:a×V) (q:a×vL)=>p.1=q.1/\RelV p.2 q.2
noncomputable def kV:Key->V
  |.inl i=>.int i
  |.inr x=>.str x
inductive HO where
    |lst (xs:List V)
    |tup (xs:List V)
    |dK (kvs:List (Key×V))|dT (kvs:List (List Key×V))|dN (f:bg->List DictEntry)
    |set (S:Int->Bool) (n:Nat)
    |ins (C dx:Addr) (fs:List (Str×V))
    |own (x:Addr)
    |xd (fs:List (Str×V))
    |met (f x:Addr)
    |rng (lo hi:Int)
    |frz (o:Obj) (u:HO)
    |tbl (ps:Array Value)
    |ext (φ:bf->Prop)
abbrev Hp:=Ad->Ot HO
noncomputable def upd(H:Hp)(a:Ad)(o:HO):Hp:=λb=>if b=a then aa o else H b
variable{H:Hp}
def upd_same{a:Ad}{o:HO}:upd H a o a=aa o:=by unfold upd;rw[ao rfl]
def upd_ne{a b:Ad}{o:HO}(h:b≠a):upd H a o b=H b:=by unfold upd;rw[aq h]
def ne_of{a b:Ad}{o u:HO}(h:H a=aa o)(c:H b=aa u)(d:o≠u):a≠b:=by
  intro e;subst e;rw[h]at c;exact d (av c)
def ne_of_none{a b:Ad}{o:HO}(h:H a=aa o)(c:H b=ab):a≠b:=by
  intro e;subst e;rw[h]at c;cases c
section
variable (P:a1) (w:bg)
def ObjOk(H:Hp)(h:bf)(a:Ad):HO->Prop
  |.lst xs=>xs.length<=aw/\∃ (c:Li vL) (n:Nat),Vals xs c/\h.get? a=aa { cls:=.type "list",data:=.seq c.toArray n }
  |.tup xs=>xs.length<=aw/\∃ c:Li vL,Vals xs c/\IsTup h a c.toArray
  |.dK b=>b.length<=aw/\(a==bj)=ae/\∃ j,KV b j/\h.DictOf (mixKind P w) a j
  |.dT b=>b.length<=aw/\(a==bj)=ae/\∃ xs:Li (Li Key×Ad×vL),
      Paired (λ(p:Li Key×V) (q:Li Key×Ad×vL)=>p.1=q.1/\H q.2.1=aa (.tup (p.1.map kV))/\RelV p.2 q.2.2) b xs /\
      ∃ o e y,h.get? a=aa o/\o.ExactDict/\o.data=.dict e y/\e.toList=xs.map (entryOfKey (tupleKind (mixKind P w)))/\(xs.map (·.1)).Nodup
  |.dN f=>(a==bj)=ae/\∃ o e,h.get? a=aa o/\o.ExactDict/\o.data=.dict e e.size/\e.toList=f w
  |.set S n=>h.SetOf (intKind P w) a S n
  |.ins C g fs=>H g=aa (.own a)/\fs.length<=1000/\g≠a/\h.get? a=aa (W.instObj C g) /\
      ∃ d,h.Ns1 g d/\(∀ f,RelO (fs.lookup f) (d f))/\PySem.Within d (fs.map (·.1))
  |.own _=>∃ o,h.get? a=aa o
  |.xd fs=>∃ d,h.Ns1 a d/\∀ f,RelO (fs.lookup f) (d f)
  |.rng r s=>∃ t u v,h.get? a=aa { cls:=.type "range",data:=.fields #[.int r t,.int s u,.int 1 v] }
  |.frz o u=>h.get? a=aa o/\ObjOk H h a u
  |.tbl m=>h.get? a=aa { cls:=.none,data:=.fields m }
  |.met f x=>h.get? a=aa (W.methodObj (.ref f) (.ref x))
  |.ext i=>i h/\(∃ o,h.get? a=aa o)/\∀ l k:bf,i l->(∀ o,l.get? a=aa o->k.get? a=aa o)->i k
def HOk(H:Hp)(h:bf):Prop:=∀ a o,H a=aa o->ObjOk P w H h a o
end
variable{P:a1}{w:bg}{H H':Hp}{h h':bf}{a:Ad}
section
variable{o:HO}
theorem ObjOk.lt(x:ObjOk P w H h a o):a < h.objs.size:=by
  cases o with
  |lst xs=>obtain⟨_,_,_,_,e⟩:=x;exact aJ e
  |tup xs=>obtain⟨_,_,_,p⟩:=x;exact p.lt
  |dK b=>obtain⟨_,_,_,_,o,_,_,e,_⟩:=x;exact aJ e
  |dT b=>obtain⟨_,_,_,_,o,_,_,e,_⟩:=x;exact aJ e
  |dN f=>obtain⟨_,o,_,e,_⟩:=x;exact aJ e
  |set S n=>obtain⟨o,_,_,_,e,_⟩:=x;exact aJ e
  |ins C k fs=>obtain⟨_,_,_,e,_⟩:=x;exact aJ e
  |own y=>obtain⟨_,e⟩:=x;exact aJ e
  |xd fs=>obtain⟨_,⟨_,_,_,e,_⟩,_⟩:=x;exact aJ e
  |rng i j=>obtain⟨_,_,_,e⟩:=x;exact aJ e
  |frz g u=>obtain⟨e,_⟩:=x;exact aJ e
  |tbl d=>exact aJ (show h.get? a=aa _ from x)
  |met f y=>exact aJ (show h.get? a=aa _ from x)
  |ext c=>obtain⟨_,⟨_,e⟩,_⟩:=x;exact aJ e
theorem Paired.mapP{d c:Type}{F G:d->c->Prop}:∀ {l₁:Li d}{l₂:Li c},Paired F l₁ l₂->(∀ a b,F a b->G a b)->Paired G l₁ l₂
  |_,_,.nil,_=>.nil
  |_,_,.cons r t,f=>.cons (f _ _ r) (Paired.mapP t f)
def ObjOk.stay(x:ObjOk P w H h a o)(k:∀ b u,(b=a\/H b=aa (.own a))->h.get? b=aa u->h'.get? b=aa u)(J:∀ b,H b=aa (.own a)->H' b=aa (.own a))(I:∀ b xs,H b=aa (.tup xs)->H' b=aa (.tup xs)):ObjOk P w H' h' a o:=by
  induction o with
  |lst xs=>obtain⟨z,l,n,r,e⟩:=x;exact⟨z,l,n,r,k _ _ (.inl rfl) e⟩
  |tup xs=>obtain⟨z,l,r,g,e,c⟩:=x;exact⟨z,l,r,g,k _ _ (.inl rfl) e,c⟩
  |dK A=>obtain⟨z,y,E,r,g,i,j,e,c⟩:=x;exact⟨z,y,E,r,g,i,j,k _ _ (.inl rfl) e,c⟩
  |dT A=>
    obtain⟨z,y,xs,r,g,i,j,e,c⟩:=x;exact⟨z,y,xs,Paired.mapP r λp q z=>⟨z.1,I _ _ z.2.1,z.2.2⟩,g,i,j,k _ _ (.inl rfl) e,c⟩
  |dN f=>obtain⟨z,g,i,e,c⟩:=x;exact⟨z,g,i,k _ _ (.inl rfl) e,c⟩
  |set S n=>obtain⟨g,i,j,t,e,c⟩:=x;exact⟨g,i,j,t,k _ _ (.inl rfl) e,c⟩
  |ins C O fs=>
    obtain⟨d,z,F,e,s,⟨m,i,j,K,c⟩,r⟩:=x;exact⟨J _ d,z,F,k _ _ (.inl rfl) e,s,⟨m,i,j,k _ _ (.inr d) K,c⟩,r⟩
  |own y=>obtain⟨g,e⟩:=x;exact⟨g,k _ _ (.inl rfl) e⟩
  |xd fs=>obtain⟨s,⟨m,i,j,e,c⟩,r⟩:=x;exact⟨s,⟨m,i,j,k _ _ (.inl rfl) e,c⟩,r⟩
  |rng M N=>obtain⟨t,u,v,e⟩:=x;exact⟨t,u,v,k _ _ (.inl rfl) e⟩
  |frz g u G=>obtain⟨e,q⟩:=x;exact⟨k _ _ (.inl rfl) e,G q⟩
  |tbl D=>
    have e:h.get? a=aa { cls:=.none,data:=.fields D }:=x;show h'.get? a=aa { cls:=.none,data:=.fields D };exact k a _ (.inl rfl) e
  |met f y=>
    have e:h.get? a=aa (W.methodObj (.ref f) (.ref y)):=x;show h'.get? a=aa (W.methodObj (.ref f) (.ref y));exact k a _ (.inl rfl) e
  |ext L=>obtain⟨p,⟨o,e⟩,B⟩:=x;exact⟨B _ _ p λo q=>k _ _ (.inl rfl) q,⟨o,k _ _ (.inl rfl) e⟩,B⟩
theorem HOk.lt(x:HOk P w H h)(e:H a=aa o):a < h.objs.size:=(x a o e).lt
def HOk.fresh(x:HOk P w H h)(e:h.objs.size<=a):H a=ab:=by
  cases q:H a with
  |none=>rfl
  |some u=>exact ar (aU (x.lt q) e) (bZ _)
def HOk.kept(x:HOk P w H h)(k:∀ b u,h.get? b=aa u->h'.get? b=aa u):HOk P w H h':=λa o e=>
  (x a o e).stay (λb u _ q=>k b u q) (λ_ q=>q) λ_ _ q=>q
def HOk.laid(x:HOk P w H h)(k:∀ b u,h.get? b=aa u->h'.get? b=aa u)(g:h.objs.size<=a)(new:ObjOk P w (upd H a o) h' a o):HOk P w (upd H a o) h':=λb u e=>by
  have d:=x.fresh g;by_cases f:b=a
  . subst f;rw[upd_same]at e;cases e;exact new
  . rw[upd_ne f]at e
    exact(x b u e).stay (λc v _ q=>k c v q) (λc q=>by rw[upd_ne (ne_of_none q d)];exact q) λc xs q=>by rw[upd_ne (ne_of_none q d)];exact q
end
def Rd(H:Hp)(a:Ad)(u:HO):Prop:=H a=aa u\/∃ o,H a=aa (.frz o u)
variable{w:bg}{h:bf}
def Rd.ok{P:a1}{a:Ad}{u:HO}(r:Rd H a u)(x:HOk P w H h):ObjOk P w H h a u:=by
  rcases r with r|⟨o,r⟩
  . exact x a u r
  . obtain⟨_,q⟩:=x a _ r
    exact q
def Mut:Ot HO->Prop
  |some (.lst _)=>True
  |some (.dK _)=>True
  |some (.dT _)=>True
  |some (.dN _)=>True
  |some (.set _ _)=>True
  |some (.ins _ _ _)=>True
  |some (.ext _)=>True
  |_=>False
variable{x:Ad}
section
variable{e:Ad}{o':HO}
def HOk.write(ok:HOk P w H h)(mu:Mut (H x))(l:e=x\/H e=aa (.own x))(k:∀ b u,b≠e->h.get? b=aa u->h'.get? b=aa u)(i:∃ u,h'.get? e=aa u)(new:ObjOk P w (upd H x o') h' x o'):HOk P w (upd H x o') h':=λb u q=>by
  have d:∀ c y,H c=aa (.own y)->c≠x:=λc y r z=>by subst z;rw[r]at mu;exact mu
  have f:∀ c xs,H c=aa (.tup xs)->c≠x:=λc xs r z=>by subst z;rw[r]at mu;exact mu
  by_cases g:b=x
  . subst g;rw[upd_same]at q;cases q;exact new
  . rw[upd_ne g]at q
    by_cases a:b=e
    . have j:H b=aa (.own x):=by
        rcases l with z|z
        . exact ar (a.trans z) g
        . rw[a];exact z
      rw[q]at j;cases j
      obtain⟨v,m⟩:=i;exact⟨v,by rw[a];exact m⟩
    . refine(ok b u q).stay (λc v hc r=>k c v ?_ r) (λc r=>by rw[upd_ne (d c b r)];exact r) λc xs r=>by rw[upd_ne (f c xs r)];exact r
      rcases hc with rfl|hc
      . exact a
      . rintro rfl
        rcases l with z|z
        . exact d c b hc z
        . rw[hc]at z;cases z;exact g rfl
end
structure Un(fs ex:List Addr)(H H':Hp)(h h':bf):Prop where
  keep:∀ b o,h.get? b=aa o->H b=ab->b∉fs->b∉ex->h'.get? b=aa o
  slot:∀ b o,h.get? b=aa o->H b=ab->b∈fs->b∉ex->∃ sl,h'.get? b=aa { o with slots:=sl }
  free:∀ b o,h.get? b=aa o->H b=ab->b∉ex->H' b=ab
  there:∀ b o,h.get? b=aa o->b∉ex->∃ o',h'.get? b=aa o'
  tups:∀ b xs,H b=aa (.tup xs)->H' b=aa (.tup xs)
  frzs:∀ b o u,H b=aa (.frz o u)->H' b=aa (.frz o u)
  tbls:∀ b ps,H b=aa (.tbl ps)->∃ more,H' b=aa (.tbl (ps++more))
section
variable{fs fs' ex ex':Li Ad}{H1 H2:Hp}{h1 h2:bf}{e:Ad}{o:HO}
def Un.any(u:Un fs ex H H1 h h1){b:Ad}{a:Obj}(q:h.get? b=aa a)(n:H b=ab)(c:b∉ex):∃ sl,h1.get? b=aa { a with slots:=sl }:=by
  by_cases d:b∈fs
  . exact u.slot b a q n d c
  . exact⟨a.slots,u.keep b a q n d c⟩
def Un.kept(k:∀ b u,h.get? b=aa u->h'.get? b=aa u):Un fs ex H H h h':=
  ⟨λb a q _ _ _=>k b a q,λb a q _ _ _=>⟨a.slots,k b a q⟩,λ_ _ _ n _=>n,λb a q _=>⟨a,k b a q⟩,λ_ _ q=>q,λ_ _ _ q=>q,λ_ c q=>⟨#[],by rw[q];simp⟩⟩
def Un.refl:Un fs ex H H h h:=Un.kept λ_ _ q=>q
def Un.laid(k:∀ b u,h.get? b=aa u->h'.get? b=aa u)(d:h.objs.size<=a)(c:H a=ab):Un fs ex H (upd H a o) h h' where
  keep:=λb u q _ _ _=>k b u q
  slot:=λb u q _ _ _=>⟨u.slots,k b u q⟩
  free:=λb u q n _=>by rw[upd_ne (aW (aU (aJ q) d))];exact n
  there:=λb u q _=>⟨u,k b u q⟩
  tups:=λb xs q=>by rw[upd_ne (ne_of_none q c)];exact q
  frzs:=λb u xs q=>by rw[upd_ne (ne_of_none q c)];exact q
  tbls:=λb e q=>⟨#[],by rw[upd_ne (ne_of_none q c),q];simp⟩
def Un.write(mu:Mut (H x))(i:e=x\/H e=aa (.own x))(k:∀ b u,b≠e->h.get? b=aa u->h'.get? b=aa u)(d:∃ u,h'.get? e=aa u):Un fs ex H (upd H x o) h h':=by
  have f:∀ b,H b=ab->b≠x:=λb n z=>by subst z;rw[n]at mu;exact mu
  have g:∀ b,H b=ab->b≠e:=λb n z=>by
    subst z;rcases i with r|r
    . exact f b n r
    . rw[n]at r;cases r
  have c:∀ b u,H b=aa u->¬Mut (aa u)->b≠x:=λb u q nm z=>by subst z;rw[q]at mu;exact nm mu
  refine⟨λb u q n _ _=>k b u (g b n) q,λb u q n _ _=>⟨u.slots,k b u (g b n) q⟩,λb u q n _=>by rw[upd_ne (f b n)];exact n,λb u q _=>?_,
    λb xs q=>by rw[upd_ne (c b _ q λz=>z)];exact q,λb u xs q=>by rw[upd_ne (c b _ q λz=>z)];exact q,λb j q=>⟨#[],by rw[upd_ne (c b _ q λz=>z),q];simp⟩⟩
  by_cases a:b=e
  . subst a;exact d
  . exact⟨u,k b u a q⟩
end
noncomputable def trk(h:bf)(H:Hp):Li Ad:=(ag h.objs.size).filter λa=>(H a).isSome
def hidT(h:bf)(H:Hp):bf:=W.hideAll h (trk h H)
def hidT_size(h:bf)(H:Hp):(hidT h H).objs.size=h.objs.size:=W.hideAll_size _ _
def hidT_get{b:Ad}{o:Obj}(e:h.get? b=aa o)(n:H b=ab):(hidT h H).get? b=aa o:=
  W.hideAll_get _ e λa=>by
    have q:(H b).isSome=ac:=(dR.mp a).2;rw[n]at q;simp at q
def of_hidT{b:Ad}{o:Obj}(e:(hidT h H).get? b=aa o):h.get? b=aa o/\H b=ab:=by
  have a:h.get? b=aa o:=W.of_hideAll (trk h H) e;refine⟨a,?_⟩;cases q:H b with
  |none=>rfl
  |some x=>
    have c:b∈trk h H:=dR.mpr ⟨cA.mpr (aJ a),by simp[q]⟩
    have z:(hidT h H).get? b=ab:=W.hideAll_none (trk h H) c;rw[z]at e;cases e
structure Mod(K:Fg)(mg:Str->Option Value)(base:bf):Prop where
  kin:K.In base
  glob:base.Ns ay mg
  blt:∃ mb,base.Ns builtinsNs mb/\∀ x:Str,x ≠ "__name__"->mb x=a6 x
  nolimit:base.NoLimit
structure Cx where
  prog:a1
  w:bg
  K:Fg
  mg:Str->Option Value
  base:bf
  A:bm
  N:List Str
  s₀:Shared
  H₀:Hp
  env:Env
  outer:List Env
  stack:List Env
  ex:List Addr
  fn:Str->Bool
  calm:Bool
  pn:List (Addr×Obj)
  xe:Value->Shared->Prop
noncomputable def frs(l:Li Env):Li Ad:=l.filterMap (·.frame)
abbrev Cx.fs(X:Cx):Li Ad:=frs X.outer
def Vis(sc:a7)(x:Str):Prop:=sc.names.lookup x=aa .local\/sc.names.lookup x=aa .cell\/sc.names.lookup x=aa .free
def Loc(sc:a7)(x:Str):Prop:=sc.names.lookup x=aa .local\/sc.names.lookup x=aa .cell
def Look(env:Env)(h:bf)(m:Str->Ot vL)(x:Str)(u:vL):Prop:=
  (env.kindOf x=aa .local/\m x=aa u)\/((env.kindOf x=aa .cell\/env.kindOf x=aa .free)/\∃ c,env.cells.lookup x=aa c/\h.IsCell c (aa u))
structure Cx.Ok(X:Cx):Prop where
  mod:Mod X.K X.mg X.base
  kind:X.env.scope.kind=.function
  glob:X.env.globals=ay
  blt:X.env.builtins=builtinsNs
  above:X.s₀.heap.objs.size<=X.env.locals
  inj:∀ x y c,X.env.cells.lookup x=aa c->X.env.cells.lookup y=aa c->x=y
  has:∀ x,(X.env.kindOf x=aa .cell\/X.env.kindOf x=aa .free)->∃ c,X.env.cells.lookup x=aa c
  cab:∀ x c,X.fn x=ac->X.env.cells.lookup x=aa c->X.s₀.heap.objs.size<=c
  hd:X.calm=ac->X.A.handled=ab
  frames:X.A.frames=aa X.stack
  stk:X.stack=X.outer\/(X.stack=X.env :: X.outer/\X.env.frame=aa X.env.locals)
  exf:∀ b∈X.ex,b≠X.env.locals/\∀ x c,X.env.cells.lookup x=aa c->c≠b
  bs:∀ b o,X.base.get? b=aa o->X.s₀.heap.get? b=aa o/\X.H₀ b=ab
  bsz:X.base.objs.size<=X.s₀.heap.objs.size
  noex:∀ b o,X.base.get? b=aa o->b∉X.ex
  exfs:∀ b∈X.ex,b∉X.fs
  funs:X.s₀.heap.FunFrames X.base X.outer
  frf:∀ b∈X.fs,X.H₀ b=ab
structure Inv(X:Cx)(pQ:List (Addr×Obj))(O:List (Option V))(H:Hp)(s:Shared):Prop where
  ok:X.Ok
  os:s.os=X.s₀.os
  bare:AllBare s.gens
  base:Un X.fs X.ex X.H₀ H X.s₀.heap s.heap
  loc:∃ m,s.heap.Ns X.env.locals m/\∀ (i:Nat) (x:Str) (v:V),X.N[i]?=aa x->O[i]?=aa (aa v)->Vis X.env.scope x->∃ u,RelV v u/\Look X.env s.heap m x u
  cell:∀ x c,X.env.cells.lookup x=aa c->∃ v,s.heap.IsCell c v
  free:H X.env.locals=ab
  freeC:∀ x c,X.env.cells.lookup x=aa c->H c=ab
  pin:∀ p∈X.pn++pQ,s.heap.get? p.1=aa p.2/\H p.1=ab/\p.1≠X.env.locals/\p.1∉X.fs/\∀ v,p.2.data≠.cell v
  hok:HOk X.prog X.w H s.heap
  len:O.length=X.N.length
variable{g':Array GenState}{t' i:Nat}{d':Drawn}{N:Li Str}
variable{X:Cx}{pQ:Li (Ad×Obj)}{s:Sd}
section
variable{O:Li (Ot V)}
def Cx.Ok.nofr(ok:X.Ok){b:Ad}{o:Obj}(e:X.base.get? b=aa o):b∉X.fs:=λa=>by
  have:=(ok.funs.mem a).1;rw[e]at this;cases this
theorem Inv.bs(I:Inv X pQ O H s):∀ b o,X.base.get? b=aa o->s.heap.get? b=aa o/\H b=ab:=λb o e=>
  ⟨I.base.keep b o (I.ok.bs b o e).1 (I.ok.bs b o e).2 (I.ok.nofr e) (I.ok.noex b o e),I.base.free b o (I.ok.bs b o e).1 (I.ok.bs b o e).2 (I.ok.noex b o e)⟩
def Inv.bk(I:Inv X pQ O H s):∀ b o,X.base.get? b=aa o->s.heap.get? b=aa o:=λb o e=>(I.bs b o e).1
theorem Inv.mod(I:Inv X pQ O H s):Mod X.K X.mg X.base:=I.ok.mod
def Inv.kIn(I:Inv X pQ O H s):X.K.In s.heap:=I.ok.mod.kin.keeps I.bk
theorem Inv.lt(I:Inv X pQ O H s):X.env.locals < s.heap.objs.size:=let ⟨_,hn,_⟩:=I.loc;hn.lt
def Inv.sz(I:Inv X pQ O H s):X.s₀.heap.objs.size<=s.heap.objs.size:=aR I.ok.above (cV I.lt)
def Inv.nofs(I:Inv X pQ O H s){a:Ad}(h:s.heap.objs.size<=a):a∉X.fs:=λc=>by
  obtain⟨_,o,b,_⟩:=I.ok.funs.mem c;exact ar (aU (aJ b) (aR I.sz h)) (bZ _)
def Inv.cne(I:Inv X pQ O H s):∀ x c,X.env.cells.lookup x=aa c->c≠X.env.locals:=λx c e z=>by
  obtain⟨v,o,d,f⟩:=I.cell x c e;obtain⟨m,⟨g,h,i,a,b,_⟩,_⟩:=I.loc;rw[z,a]at d;cases d;rw[b]at f;cases f
theorem Inv.funs(I:Inv X pQ O H s):s.heap.FunFrames X.base X.outer:=by
  have all:∀ (l:Li Env),(∀ b∈frs l,b∈X.fs)->X.s₀.heap.FunFrames X.base l->s.heap.FunFrames X.base l:=by
    intro l
    induction l with
    |nil=>intro _ _;trivial
    |cons p r g=>
      intro f k;obtain⟨m,⟨L,o,a,j,i,n⟩,h⟩:=k;have d:L∈X.fs:=f L (by unfold frs;rw[List.filterMap_cons,a];exact Ls)
      obtain⟨sl,e⟩:=I.base.slot L o i (I.ok.frf L d) d λz=>I.ok.exfs L z d
      exact⟨m,⟨L,_,a,j,e,n⟩,g (λb c=>f b (by unfold frs;rw[List.filterMap_cons,a];exact Lm _ c)) h⟩
  exact all X.outer (λ_ c=>c) I.ok.funs
theorem Inv.stack(I:Inv X pQ O H s):s.heap.FunFrames X.base X.stack:=by
  rcases I.ok.stk with e|⟨e,b⟩
  . rw[e];exact I.funs
  . rw[e]
    obtain⟨m,a,_⟩:=I.loc;refine .cons (by rw[I.ok.kind];decide) b a ?_ I.funs
    exact Heap.get?_none_of_le (aR I.ok.bsz I.ok.above)
def Inv.stkSub(I:Inv X pQ O H s):∀ b∈frs X.stack,b∈X.env.locals :: X.fs:=λb a=>by
  rcases I.ok.stk with e|⟨e,c⟩
  . rw[e]at a;exact Lm _ a
  . rw[e]at a
    unfold frs at a;rw[List.filterMap_cons,c]at a;exact a
def Inv.stkFree(I:Inv X pQ O H s):∀ b∈frs X.stack,H b=ab:=λb hb=>by
  rcases aF.mp (I.stkSub b hb) with e|hb
  . rw[e];exact I.free
  . obtain⟨_,o,a,_⟩:=I.ok.funs.mem hb
    exact I.base.free b o a (I.ok.frf b hb) λz=>I.ok.exfs b z hb
def Inv.step{ch:Li Ad}(I:Inv X pQ O H s)(g:∀ b∈ch,(b∈X.ex\/X.s₀.heap.objs.size<=b)/\b≠X.env.locals/\(∀ x c,X.env.cells.lookup x=aa c->c≠b)/\∀ p∈X.pn++pQ,p.1≠b)(keep:∀ b o,b≠X.env.locals->b∉X.fs->b∉ch->s.heap.get? b=aa o->H b=ab->h'.get? b=aa o)(slot:∀ b o,b≠X.env.locals->b∈X.fs->b∉ch->s.heap.get? b=aa o->H b=ab->∃ sl,h'.get? b=aa { o with slots:=sl })(free:∀ b o,b∉ch->s.heap.get? b=aa o->H b=ab->H' b=ab)(there:∀ b o,b∉ch->s.heap.get? b=aa o->∃ B,h'.get? b=aa B)(tups:∀ b xs,H b=aa (.tup xs)->H' b=aa (.tup xs))(frzs:∀ b o u,H b=aa (.frz o u)->H' b=aa (.frz o u))(tbls:∀ b E,H b=aa (.tbl E)->∃ more,H' b=aa (.tbl (E++more)))(N:∀ m,s.heap.Ns X.env.locals m->h'.Ns X.env.locals m)(hok:HOk X.prog X.w H' h')(T:AllBare g') :
    Inv X pQ O H' { s with heap:=h',gens:=g',drawn:=d',toks:=t' }:=by
  have C:∀ b o,X.s₀.heap.get? b=aa o->b≠X.env.locals:=λb o e=>aW (aU (aJ e) I.ok.above)
  have j:∀ b o,X.s₀.heap.get? b=aa o->b∉X.ex->b∉ch:=λb o e a y=>by
    rcases (g b y).1 with z|z
    . exact a z
    . exact ar (aU (aJ e) z) (bZ _)
  have h:∀ x c,X.env.cells.lookup x=aa c->∀ v,s.heap.IsCell c v->h'.IsCell c v:=λx c e v ⟨o,A,G⟩=>by
    have f:c∉ch:=λz=>(g c z).2.2.1 x c e rfl
    by_cases M:c∈X.fs
    . obtain⟨sl,q⟩:=slot c o (I.cne x c e) M f A (I.freeC x c e)
      exact⟨_,q,G⟩
    . exact⟨o,keep c o (I.cne x c e) M f A (I.freeC x c e),G⟩
  refine⟨I.ok,I.os,T,⟨λb o e n y a=>?_,λb o e n y a=>?_,λb o e n a=>?_,λb o e a=>?_,λb xs e=>tups b xs (I.base.tups b xs e),λb o xs e=>frzs b o xs (I.base.frzs b o xs e),λb E e=>?_⟩,?_,λx c e=>?_,?_,λx c e=>?_,λp L=>?_,hok,I.len⟩
  . exact keep b o (C b o e) y (j b o e a) (I.base.keep b o e n y a) (I.base.free b o e n a)
  . obtain⟨sl,t⟩:=I.base.slot b o e n y a
    obtain⟨F,D⟩:=slot b _ (C b o e) y (j b o e a) t (I.base.free b o e n a);exact⟨F,D⟩
  . obtain⟨B,t⟩:=I.base.there b o e a
    exact free b B (j b o e a) t (I.base.free b o e n a)
  . obtain⟨B,t⟩:=I.base.there b o e a
    exact there b B (j b o e a) t
  . obtain⟨Q,t⟩:=I.base.tbls b E e
    obtain⟨P,D⟩:=tbls b _ t;exact⟨Q++P,by rw[D,Array.append_assoc]⟩
  . obtain⟨m,R,S⟩:=I.loc
    refine⟨m,N m R,λi x v t D U=>?_⟩
    obtain⟨u,r,l⟩:=S i x v t D U;refine⟨u,r,?_⟩;rcases l with l|⟨k,c,e,z⟩
    . exact .inl l
    . exact .inr ⟨k,c,e,h x c e _ z⟩
  . obtain⟨v,z⟩:=I.cell x c e
    exact⟨v,h x c e v z⟩
  . obtain⟨m,⟨o,_,_,A,_⟩,_⟩:=I.loc
    exact free _ o (λz=>(g _ z).2.1 rfl) A I.free
  . obtain⟨v,o,A,G⟩:=I.cell x c e
    exact free c o (λz=>(g c z).2.2.1 x c e rfl) A (I.freeC x c e)
  . obtain⟨e,n,K,J,d⟩:=I.pin p L
    have f:p.1∉ch:=λz=>(g p.1 z).2.2.2 p L rfl
    exact⟨keep p.1 p.2 K J f e n,free p.1 p.2 f e n,K,J,d⟩
def Inv.un(I:Inv X pQ O H s)(u:Un X.fs [] H H' s.heap h')(hok:HOk X.prog X.w H' h'):Inv X pQ O H' { s with heap:=h',toks:=t' }:=by
  obtain⟨m,⟨o,p,q,g,r⟩,_⟩:=id I.loc;obtain⟨sl,j⟩:=u.any g I.free (by simp)
  exact I.step (g':=s.gens) (d':=s.drawn) (ch:=[]) (λ_ z=>nomatch z) (λb o _ c _ e n=>u.keep b o e n c (by simp)) (λb o _ c _ e n=>u.slot b o e n c (by simp)) (λb o _ e n=>u.free b o e n (by simp)) (λb o _ e=>u.there b o e (by simp)) u.tups u.frzs u.tbls (λl i=>by
    obtain⟨k,d,f,a,h⟩:=i;rw[g]at a;cases a
    exact⟨_,d,f,j,h⟩) hok I.bare
def Inv.call{ch:Li Ad}(I:Inv X pQ O H s)(u:Un (frs X.stack) ch H H' s.heap h')(hok:HOk X.prog X.w H' h')(q:AllBare g')(f:∀ b∈ch,(b∈X.ex\/X.s₀.heap.objs.size<=b)/\b≠X.env.locals/\(∀ x c,X.env.cells.lookup x=aa c->c≠b)/\∀ p∈X.pn++pQ,p.1≠b) :
    Inv X pQ O H' { s with heap:=h',gens:=g',drawn:=d',toks:=t' }:=by
  obtain⟨m,⟨o,A,B,j,r⟩,_⟩:=id I.loc;obtain⟨sl,g⟩:=u.any j I.free λz=>(f _ z).2.1 rfl
  exact I.step (ch:=ch) f (λb o g t a e n=>u.keep b o e n (λz=>(aF.mp (I.stkSub b z)).elim g t) a) (λb o _ _ a e n=>u.any e n a) (λb o a e n=>u.free b o e n a) (λb o a e=>u.there b o e a) u.tups u.frzs u.tbls (λy l=>by
    obtain⟨v,h,i,d,k⟩:=l;rw[j]at d;cases d
    exact⟨_,h,i,g,k⟩) hok q
def Inv.turned{a:Ad}(I:Inv X pQ O H s)(k:∀ b o,b≠a->s.heap.get? b=aa o->h'.get? b=aa o)(i:H a=ab)(g:a≠X.env.locals)(y:a∈X.ex\/X.s₀.heap.objs.size<=a)(w:∀ x c,X.env.cells.lookup x=aa c->c≠a)(t:∀ p∈X.pn++pQ,p.1≠a):Inv X pQ O H { s with heap:=h',toks:=t' }:=by
  have f:∀ b u,H b=aa u->b≠a:=λb u e z=>by rw[z,i]at e;cases e
  refine I.step (g':=s.gens) (d':=s.drawn) (ch:=[a]) (λb l=>?_) (λb o _ _ d e _=>k b o (λz=>d (by simp[z])) e) (λb o _ _ d e _=>⟨o.slots,k b o (λz=>d (by simp[z])) e⟩) (λ_ _ _ _ n=>n)
    (λb o d e=>⟨o,k b o (λz=>d (by simp[z])) e⟩) (λ_ _ e=>e) (λ_ _ _ e=>e) (λb C e=>⟨#[],by rw[e];simp⟩) (λm j=>?_) (λb u e=>?_) I.bare
  . have e:b=a:=by simpa using l
    subst e;exact⟨y,g,w,t⟩
  . obtain⟨o,A,B,h,r⟩:=j
    exact⟨o,A,B,k _ o (Ne.symm g) h,r⟩
  . refine(I.hok b u e).stay (λc v d q=>k c v ?_ q) (λ_ q=>q) λ_ _ q=>q
    rcases d with z|z
    . rw[z];exact f b u e
    . exact f c _ z
def Inv.tok(I:Inv X pQ O H s)(t:Nat):Inv X pQ O H { s with toks:=t }:=I.un (h':=s.heap) (t':=t) Un.refl I.hok
theorem Inv.kept{t':Nat}(I:Inv X pQ O H s)(k:∀ b u,s.heap.get? b=aa u->h'.get? b=aa u):Inv X pQ O H { s with heap:=h',toks:=t' }:=I.un (Un.kept k) (I.hok.kept k)
theorem Inv.laid{a:Ad}{o:HO}{t':Nat}(I:Inv X pQ O H s)(k:∀ b u,s.heap.get? b=aa u->h'.get? b=aa u)(c:s.heap.objs.size<=a)(new:ObjOk X.prog X.w (upd H a o) h' a o) :
    Inv X pQ O (upd H a o) { s with heap:=h',toks:=t' }:=I.un (Un.laid k c (I.hok.fresh c)) (I.hok.laid k c new)
theorem Inv.write{x e:Ad}{o:HO}{t':Nat}(I:Inv X pQ O H s)(mu:Mut (H x))(c:e=x\/H e=aa (.own x))(k:∀ b u,b≠e->s.heap.get? b=aa u->h'.get? b=aa u)(a:∃ u,h'.get? e=aa u)(new:ObjOk X.prog X.w (upd H x o) h' x o):Inv X pQ O (upd H x o) { s with heap:=h',toks:=t' }:=I.un (Un.write mu c k a) (I.hok.write mu c k a new)
def Inv.pins_of{a:Li (Ad×Obj)}(I:Inv X pQ O H s)(h:∀ p∈a,s.heap.get? p.1=aa p.2/\H p.1=ab/\p.1≠X.env.locals/\p.1∉X.fs/\∀ v,p.2.data≠.cell v):Inv X a O H s:=
  ⟨I.ok,I.os,I.bare,I.base,I.loc,I.cell,I.free,I.freeC,λp b=>(bC.mp b).elim (λz=>I.pin p (List.mem_append_left _ z)) (h p),I.hok,I.len⟩
def nodup_ix(hN:N.Nodup){j:Nat}{x:Str}(a:N[i]?=aa x)(b:N[j]?=aa x):i=j:=by
  obtain⟨f,d⟩:=bP.mp a;obtain⟨e,c⟩:=bP.mp b;exact(List.getElem_inj hN).mp (d.trans c.symm)
def store_ok2{M:Model}{A:bm}{E:vL->Sd->Prop}{x:Str}{v:V}{u:vL}{Q:Unit->Sd->Prop}(I:Inv X pQ O H s)(hN:X.N.Nodup)(P:X.N[i]?=aa x)(t:Loc X.env.scope x)(r:RelV v u)(h:∀ s',Inv X pQ (O.set i (aa v)) H s'->(∃ a,Heap.SameBut a s.heap s'.heap/\(a=X.env.locals\/X.env.cells.lookup x=aa a))->Q () s')(hf:X.fn x=ac\/X.env.scope.names.lookup x=aa .local:=by first|exact .inl rfl|exact .inr rfl|assumption):az M A (storeName X.env x u) Q E s:=by
  obtain⟨m,hn,hl⟩:=id I.loc;have R:(X.env.scope.kind==.class||(X.env.scope.kind==.module&&X.env.locals != X.env.globals))=ae:=by rw[I.ok.kind];rfl
  have D:i < O.length:=by rw[I.len];exact(bP.mp P).1
  have cne:=I.cne;have g:∀ {a:Ad}{h':bf},(∃ o,s.heap.get? a=aa o/\H a=ab)->Heap.SameBut a s.heap h'->HOk X.prog X.w H h':=λ{a h'} ha f b ob e=>by
    obtain⟨_,_,B⟩:=ha;refine(I.hok b ob e).stay (λc U hc q=>(f.2 c ?_).trans q) (λ_ q=>q) λ_ _ q=>q
    rintro rfl
    rcases hc with rfl|hc
    . rw[B]at e;cases e
    . rw[B]at hc;cases hc
  rcases t with hk|hk
  . refine wpAny_storeName_local hk hn (λh' hn' f=>?_) R
    obtain⟨oL,_,_,hoL,_⟩:=id hn;refine h _ ⟨I.ok,I.os,I.bare,⟨λb o e n J t=>?_,λb o e n J t=>?_,I.base.free,λb o e t=>?_,I.base.tups,I.base.frzs,I.base.tbls⟩,⟨_,hn',λj y Z l C e3=>?_⟩,λy c e=>?_,I.free,I.freeC,λp hp=>?_,g ⟨oL,hoL,I.free⟩ f,by simpa using I.len⟩ ⟨_,f,.inl rfl⟩
    . exact(f.2 b (aW (aU (aJ e) I.ok.above))).trans (I.base.keep b o e n J t)
    . obtain⟨sl,l⟩:=I.base.slot b o e n J t
      exact⟨sl,(f.2 b (aW (aU (aJ e) I.ok.above))).trans l⟩
    . obtain⟨o',l⟩:=I.base.there b o e t
      exact⟨o',(f.2 b (aW (aU (aJ e) I.ok.above))).trans l⟩
    . by_cases F:j=i
      . subst F
        rw[P]at l;cases l
        rw[bR D]at C;cases C;exact⟨u,r,.inl ⟨hk,by simp⟩⟩
      . rw[bJ (Ne.symm F)]at C
        obtain⟨u',r',q⟩:=hl j y Z l C e3;refine⟨u',r',?_⟩;rcases q with⟨k,e⟩|⟨k,c,e,z⟩
        . refine .inl ⟨k,?_⟩
          have:y≠x:=λe=>F (nodup_ix hN l (e ▸ P))
          simp[this,e]
        . exact .inr ⟨k,c,e,z.sameBut f (cne y c e)⟩
    . obtain⟨U,z⟩:=I.cell y c e
      exact⟨U,z.sameBut f (cne y c e)⟩
    . obtain⟨e,n,W,nf,d⟩:=I.pin p hp
      exact⟨(f.2 p.1 W).trans e,n,W,nf,d⟩
  . have G:X.fn x=ac:=by
      rcases hf with z|z
      . exact z
      . rw[z]at hk;cases hk
    obtain⟨c,hc⟩:=I.ok.has x (.inl hk);obtain⟨U,z⟩:=I.cell x c hc;refine wpAny_storeName_cell I.ok.kind hk hc z (λh' T f=>?_)
    obtain⟨oc,L,K⟩:=id z;refine h { s with heap:=h' } ⟨I.ok,I.os,I.bare,⟨λb o e n J t=>?_,λb o e n J t=>?_,I.base.free,λb o e t=>?_,I.base.tups,I.base.frzs,I.base.tbls⟩,⟨m,hn.sameBut f (Ne.symm (cne x c hc)),λj y Z l C e3=>?_⟩,λy Y e=>?_,I.free,I.freeC,λp hp=>?_,g ⟨oc,L,I.freeC x c hc⟩ f,by simpa using I.len⟩ ⟨c,f,.inr hc⟩
    . exact(f.2 b (aW (aU (aJ e) (I.ok.cab x c G hc)))).trans (I.base.keep b o e n J t)
    . obtain⟨sl,l⟩:=I.base.slot b o e n J t
      exact⟨sl,(f.2 b (aW (aU (aJ e) (I.ok.cab x c G hc)))).trans l⟩
    . obtain⟨o',l⟩:=I.base.there b o e t
      exact⟨o',(f.2 b (aW (aU (aJ e) (I.ok.cab x c G hc)))).trans l⟩
    . by_cases F:j=i
      . subst F
        rw[P]at l;cases l
        rw[bR D]at C;cases C;exact⟨u,r,.inr ⟨.inl hk,c,hc,T⟩⟩
      . rw[bJ (Ne.symm F)]at C
        obtain⟨u',r',q⟩:=hl j y Z l C e3;refine⟨u',r',?_⟩;rcases q with q|⟨k,Y,e,z'⟩
        . exact .inl q
        . refine .inr ⟨k,Y,e,z'.sameBut f ?_⟩
          rintro rfl
          exact F (nodup_ix hN l (I.ok.inj _ _ _ e hc ▸ P))
    . by_cases S:Y=c
      . subst S;exact⟨_,T⟩
      . obtain⟨w2,z2⟩:=I.cell y Y e
        exact⟨w2,z2.sameBut f S⟩
    . obtain⟨e,n,W,nf,d⟩:=I.pin p hp
      refine⟨(f.2 p.1 ?_).trans e,n,W,nf,d⟩;intro q;rw[q,L]at e;have q':oc=p.2:=av e;exact d U (by rw[<-q'];exact K)
def store_ok{M:Model}{A:bm}{E:vL->Sd->Prop}{x:Str}{v:V}{u:vL}{Q:Unit->Sd->Prop}(I:Inv X pQ O H s)(hN:X.N.Nodup)(c:X.N[i]?=aa x)(b:Loc X.env.scope x)(r:RelV v u)(h:∀ a,Inv X pQ (O.set i (aa v)) H a->Q () a)(d:X.fn x=ac\/X.env.scope.names.lookup x=aa .local:=by first|exact .inl rfl|exact .inr rfl|assumption):az M A (storeName X.env x u) Q E s:=
  store_ok2 I hN c b r (λa e _=>h a e) d
def Inv.call'{s':Sd}{ch:Li Ad}(I:Inv X pQ O H s)(f:s'.os=s.os)(u:Un (frs X.stack) ch H H' s.heap s'.heap)(hok:HOk X.prog X.w H' s'.heap)(g:AllBare s'.gens)(a:∀ b∈ch,(b∈X.ex\/X.s₀.heap.objs.size<=b)/\b≠X.env.locals/\(∀ x c,X.env.cells.lookup x=aa c->c≠b)/\∀ p∈X.pn++pQ,p.1≠b):Inv X pQ O H' s':=by
  obtain⟨h',g',d',t',d⟩:=s';have e:d=s.os:=f;subst e;exact I.call (g':=g') (t':=t') (d':=d') u hok g a
end
abbrev XK:=vL->Ot Ad->Hp->Prop
abbrev St:=Li (Ot V)
abbrev VK:=V->Hp->Prop
abbrev TE:=St->Hp->VK->Prop
abbrev TT:=St->Hp->(Bool->Hp->Prop)->Prop
abbrev TA:=St->Hp->(Li V->Hp->Prop)->Prop
structure Ends where
  nx:St->Hp->Prop
  rt:VK
  bk:St->Hp->Prop:=λ_ _=>False
  ct:St->Hp->Prop:=λ_ _=>False
abbrev TS:=Ends->St->Hp->Prop
def EP(X:Cx)(c:Li (Ad×Obj))(O:St)(Q:VK)(u:vL)(b:Sd):Prop:=∃ v a,Inv X c O a b/\RelV v u/\Q v a
def TP(X:Cx)(d:Li (Ad×Obj))(O:St)(Q:Bool->Hp->Prop)(b:Bool)(c:Sd):Prop:=∃ a,Inv X d O a c/\Q b a
def AP(X:Cx)(d:Li (Ad×Obj))(O:St)(Q:Li V->Hp->Prop)(us:Li vL)(c:Sd):Prop:=∃ a b,Inv X d O b c/\Vals a us/\Q a b
def SP(X:Cx)(d:Li (Ad×Obj))(D:Ends)(f:Flow)(c:Sd):Prop:=
  match f with
  |.next=>∃ b a,Inv X d b a c/\D.nx b a
  |.brk=>∃ b a,Inv X d b a c/\D.bk b a
  |.cont=>∃ b a,Inv X d b a c/\D.ct b a
  |.ret u=>∃ v b a,Inv X d b a c/\RelV v u/\D.rt v a
def PE(X:Cx)(e:ax)(t:TE):Prop:=
  ∀ (pQ:Li (Ad×Obj)) (s:Sd) (O:St) (H:Hp) (Q:VK),Inv X pQ O H s->t O H Q->az (a0 X.prog X.w) X.A (eval e X.env) (EP X pQ O Q) X.xe s
def PT(X:Cx)(e:ax)(t:TT):Prop:=
  ∀ (pQ:Li (Ad×Obj)) (s:Sd) (O:St) (H:Hp) (Q:Bool->Hp->Prop),Inv X pQ O H s->t O H Q->az (a0 X.prog X.w) X.A (isTrue e X.env (eval e X.env)) (TP X pQ O Q) X.xe s
def PW(X:Cx)(e:ax)(t:TT):Prop:=
  ∀ (whole:Sem vL) (pQ:Li (Ad×Obj)) (s:Sd) (O:St) (H:Hp) (Q:Bool->Hp->Prop),Inv X pQ O H s->t O H Q->az (a0 X.prog X.w) X.A (isTrue e X.env whole) (TP X pQ O Q) X.xe s
variable{X:Cx}
def PW.pt{e:ax}{t:TT}(h:PW X e t):PT X e t:=h _
def PA(X:Cx)(a:Li ax)(t:TA):Prop:=
  ∀ (pos:Pos) (pQ:Li (Ad×Obj)) (s:Sd) (O:St) (H:Hp) (Q:Li V->Hp->Prop),Inv X pQ O H s->t O H Q->az (a0 X.prog X.w) X.A (spliced (backTo pos (a5 a X.env))) (AP X pQ O Q) X.xe s
def PS(X:Cx)(a:Stmt)(t:TS):Prop:=
  ∀ (pQ:Li (Ad×Obj)) (s:Sd) (O:St) (H:Hp) (D:Ends),Inv X pQ O H s->t D O H->az (a0 X.prog X.w) X.A (exec a X.env) (SP X pQ D) X.xe s
def PSs(X:Cx)(a:Li Stmt)(t:TS):Prop:=
  ∀ (pQ:Li (Ad×Obj)) (s:Sd) (O:St) (H:Hp) (D:Ends),Inv X pQ O H s->t D O H->az (a0 X.prog X.w) X.A (execs a X.env) (SP X pQ D) X.xe s
variable{M:Model}{A:bm}
def thn{b:Type}{t:Sem b}{Q c:b->Sd->Prop}{E:vL->Sd->Prop}{s:Sd}(h:az M A t Q E s)(d:∀ a s,Q a s->c a s):az M A t c E s:=bK h d λ_ _ x=>x
variable{pQ:Li (Ad×Obj)}{s:Sd}{Q:vL->Sd->Prop}
variable{b:ax}{ta tb:TE}{pos:Pos}
section
def tVar(i:Nat):TE:=λO H Q=>∃ v,O[i]?=aa (aa v)/\Q v H
def tC(v:V):TE:=λ_ H Q=>Q v H
def pe_var{x:Str}{d:Pos}(hN:X.N[i]?=aa x)(j:Vis X.env.scope x)(hd:(x==("__debug__":Str))=ae:=by decide)(f:(x==("__classdict__":Str))=ae:=by decide):PE X (.Name x d) (tVar i):=by
  intro pQ s O H Q I h;obtain⟨v,e,h⟩:=h;obtain⟨m,k,o⟩:=I.loc;obtain⟨u,r,l⟩:=o i x v hN e j;have b:EP X pQ O Q u s:=⟨v,H,I,r,h⟩;rcases l with⟨hk,n⟩|⟨hk,c,g,a⟩
  . exact wpAny_Name (wpAny_loadName_local I.ok.kind hk k n b) hd
  . rcases hk with hk|hk
    . exact wpAny_Name (wpAny_loadName_cell I.ok.kind hk g a b) hd
    . exact wpAny_Name (wpAny_loadName_free I.ok.kind hk g a b f) hd
def pe_int{i j pos}:PE X (.Constant (.int i) j pos) (tC (.int i)):=λ_ _ _ H _ I h=>wpAny_Constant_int ⟨.int i,H,I.tok _,⟨_,rfl⟩,h⟩
def pe_bl{b j pos}:PE X (.Constant (.bool b) j pos) (tC (.bl b)):=λ_ _ _ H _ I h=>Constant_bool ⟨.bl b,H,I,rfl,h⟩
def pe_non{j pos}:PE X (.Constant .none j pos) (tC .non):=λ_ _ _ H _ I h=>Constant_none ⟨.non,H,I,rfl,h⟩
def pe_str{x j pos}:PE X (.Constant (.str x) j pos) (tC (.str x)):=λ_ _ _ H _ I h=>Calls.Constant_str ⟨.str x,H,I.tok _,⟨_,rfl⟩,h⟩
def Gl(X:Cx)(x:Str):Prop:=X.env.kindOf x=aa .globalImplicit
def ld_glob{E:vL->Sd->Prop}{O:St}{x:Str}{u:vL}{a:Pos}(I:Inv X pQ O H s)(c:Gl X x)(b:X.mg x=aa u)(h:Q u s)(hd:(x==("__debug__":Str))=ae:=by decide):az (a0 X.prog X.w) X.A (eval (.Name x a) X.env) Q E s:=
  Calls.Name_function_global I.ok.kind c (Calls.loadGlobal_global (by rw[I.ok.glob];exact I.mod.glob.keeps I.bk) b h) hd
def ld_blt{E:vL->Sd->Prop}{O:St}{x:Str}{u:vL}{a:Pos}(I:Inv X pQ O H s)(e:Gl X x)(d:X.mg x=ab)(b:a6 x=aa u)(h:Q u s)(c:x ≠ "__name__":=by decide)(hd:(x==("__debug__":Str))=ae:=by decide):az (a0 X.prog X.w) X.A (eval (.Name x a) X.env) Q E s:=by
  obtain⟨i,g,f⟩:=I.mod.blt;exact Calls.Name_function_global I.ok.kind e (Calls.loadGlobal_builtin (by rw[I.ok.glob];exact I.mod.glob.keeps I.bk) d (by rw[I.ok.blt];exact g.keeps I.bk) ((f x c).trans b) h) hd
def pe_glob{x:Str}{v:V}{u:vL}{a:Pos}(c:Gl X x)(b:X.mg x=aa u)(r:RelV v u)(hd:(x==("__debug__":Str))=ae:=by decide):PE X (.Name x a) (tC v):=
  λ_ _ _ H _ I h=>ld_glob I c b ⟨v,H,I,r,h⟩ hd
def pe_bltn{x:Str}{v:V}{u:vL}{a:Pos}(e:Gl X x)(d:X.mg x=ab)(b:a6 x=aa u)(r:RelV v u)(c:x ≠ "__name__":=by decide)(hd:(x==("__debug__":Str))=ae:=by decide):PE X (.Name x a) (tC v):=
  λ_ _ _ H _ I h=>ld_blt I e d b ⟨v,H,I,r,h⟩ c hd
variable{a:ax}
def PC(X:Cx)(e:CmpOp)(a b:ax)(t:TE):Prop:=
  ∀ (pQ:Li (Ad×Obj)) (s:Sd) (O:St) (H:Hp) (Q:VK),Inv X pQ O H s->t O H Q->
    az (a0 X.prog X.w) X.A (eval a X.env) (λv d=>az (a0 X.prog X.w) X.A (eval b X.env) (λu c=>az (a0 X.prog X.w) X.A (bh e v u) (EP X pQ O Q) X.xe c) X.xe d) X.xe s
def tB(t:TE):TT:=λO H Q=>t O H λx a=>∃ c,x=.bl c/\Q c a
def pt_val{e:ax}{t:TE}(h:PE X e t)(g:∀ a,isTrue e X.env a=(do let v <-a;standAt e.pos;holding [v] (truthy v)):=by intro _;rfl):PT X e (tB t):=by
  intro pQ s O H Q I f;refine isTrue_plain (thn (h pQ s O H _ I f) λv s1 ⟨x,j,i,b,c⟩=>?_) (g _)
  obtain⟨d,rfl,q⟩:=c;cases b;exact wpAny_truthy_bool ⟨j,i,q⟩
variable{tA tB':TT}{rest:Li ax}
def tAnd(t u:TT):TT:=λO H Q=>t O H λc a=>if c=ac then u O a Q else Q ae a
def tOr(t u:TT):TT:=λO H Q=>t O H λc a=>if c=ac then Q ac a else u O a Q
def tNot(t:TT):TT:=λO H Q=>t O H λc a=>Q (!c) a
def pw_and1(b:PT X a tA):PW X (.BoolOp .And [a] pos) tA:=by
  intro d pQ s O H Q I h;refine isTrue_and (thn (b pQ s O H Q I h) λc s1 e=>?_)
  cases c with
  |true=>exact isTrue_and_nil e
  |false=>exact e
def pw_or1(b:PT X a tA):PW X (.BoolOp .Or [a] pos) tA:=by
  intro d pQ s O H Q I h;refine isTrue_or (thn (b pQ s O H Q I h) λc s1 e=>?_)
  cases c with
  |false=>exact isTrue_or_nil e
  |true=>exact e
def pw_and(j:PT X a tA)(i:PW X (.BoolOp .And (b :: rest) pos) tB'):PW X (.BoolOp .And (a :: b :: rest) pos) (tAnd tA tB'):=by
  intro g pQ s O H Q I h;refine isTrue_and (thn (j pQ s O H _ I h) λc s1 ⟨f,e,d⟩=>?_)
  cases c with
  |true=>exact i g pQ s1 O f Q e d
  |false=>exact⟨f,e,d⟩
def pw_or(j:PT X a tA)(i:PW X (.BoolOp .Or (b :: rest) pos) tB'):PW X (.BoolOp .Or (a :: b :: rest) pos) (tOr tA tB'):=by
  intro g pQ s O H Q I h;refine isTrue_or (thn (j pQ s O H _ I h) λc s1 ⟨f,e,d⟩=>?_)
  cases c with
  |true=>exact⟨f,e,d⟩
  |false=>exact i g pQ s1 O f Q e d
def pt_not(b:PT X a tA):PT X (.UnaryOp .Not a pos) (tNot tA):=by
  intro pQ s O H Q I h;exact isTrue_not (b pQ s O H (λc d=>Q (!c) d) I h)
def tAndV(ta tb:TE):TE:=λO H Q=>ta O H λx a=>∃ c,x=.bl c/\if c=ac then tb O a Q else Q (.bl ae) a
def tOrV(ta tb:TE):TE:=λO H Q=>ta O H λx a=>∃ c,x=.bl c/\if c=ac then Q (.bl ac) a else tb O a Q
def tNotV(ta:TE):TE:=λO H Q=>ta O H λx a=>∃ c,x=.bl c/\Q (.bl (!c)) a
def pe_one{op}{t:TE}(h:PE X a t):PE X (.BoolOp op [a] pos) t:=λpQ s O H Q I b=>BoolOp_one (h pQ s O H Q I b)
def pe_and(j:PE X a ta)(i:PE X (.BoolOp .And (b :: rest) pos) tb):PE X (.BoolOp .And (a :: b :: rest) pos) (tAndV ta tb):=by
  intro pQ s O H Q I h;refine BoolOp_and (thn (j pQ s O H _ I h) λv s1 ⟨x,f,e,g,d⟩=>?_)
  obtain⟨c,rfl,d⟩:=d;cases g;refine wpAny_truthy_bool ?_;cases c with
  |true=>exact i pQ s1 O f Q e d
  |false=>exact⟨.bl ae,f,e,rfl,d⟩
def pe_or(j:PE X a ta)(i:PE X (.BoolOp .Or (b :: rest) pos) tb):PE X (.BoolOp .Or (a :: b :: rest) pos) (tOrV ta tb):=by
  intro pQ s O H Q I h;refine BoolOp_or (thn (j pQ s O H _ I h) λv s1 ⟨x,f,e,g,d⟩=>?_)
  obtain⟨c,rfl,d⟩:=d;cases g;refine wpAny_truthy_bool ?_;cases c with
  |false=>exact i pQ s1 O f Q e d
  |true=>exact⟨.bl ac,f,e,rfl,d⟩
def pe_not(e:PE X a ta):PE X (.UnaryOp .Not a pos) (tNotV ta):=by
  intro pQ s O H Q I h;refine UnaryOp_ (thn (e pQ s O H _ I h) λv s1 ⟨x,g,f,d,b⟩=>?_)
  obtain⟨c,rfl,b⟩:=b;cases d;exact not_of (wpAny_truthy_bool ⟨.bl (!c),g,f,rfl,b⟩)
def tIf(t:TT)(ta tb:TE):TE:=λO H Q=>t O H λc a=>if c=ac then ta O a Q else tb O a Q
def pe_ifExp{c:ax}(i:PT X c tA)(k:PE X a ta)(j:PE X b tb):PE X (.IfExp c a b pos) (tIf tA ta tb):=by
  intro pQ s O H Q I h;refine wpAny_IfExp (thn (i pQ s O H _ I h) λd s1 ⟨g,f,e⟩=>?_)
  cases d with
  |true=>exact k pQ s1 O g Q f e
  |false=>exact j pQ s1 O g Q f e
end
def SqL(K:Fg)(H:Hp)(a:Ad)(xs:Li V):Prop:=
  Rd H a (.lst xs) \/
    ∃ (o:Obj) (its:Array vL) (n:Nat),K.lookup a=aa o/\o.cls=.type "list"/\o.dict=ab/\o.data=.seq its n/\its.size<=aw/\Vals xs its.toList
def SqT(K:Fg)(H:Hp)(a:Ad)(xs:Li V):Prop:=
  Rd H a (.tup xs) \/
    ∃ (o:Obj) (its:Array vL) (n:Nat),K.lookup a=aa o/\o.cls=.type "tuple"/\o.data=.seq its n/\its.size<=aw/\Vals xs its.toList
noncomputable def absV:vL->Ot V
  |.none=>aa .non
  |.bool b=>aa (.bl b)
  |.int i _=>aa (.int i)
  |.str x _=>aa (.str x)
  |.bytes b _=>aa (.byt b)
  |.float b _=>aa (.flt b)
  |.ref a=>aa (.ref a)
  |.type n=>aa (.ty n)
  |_=>ab
def RelV.abs{x:V}{u:vL}(r:RelV x u):absV u=aa x:=by
  cases x with
  |non=>cases r;rfl
  |bl _=>cases r;rfl
  |int _=>obtain⟨t,rfl⟩:=r;rfl
  |str _=>obtain⟨t,rfl⟩:=r;rfl
  |byt _=>obtain⟨t,rfl⟩:=r;rfl
  |flt _=>obtain⟨t,rfl⟩:=r;rfl
  |ref _=>cases r;rfl
  |ty _=>cases r;rfl
theorem RelV.inj{x y:V}{u:vL}(r:RelV x u)(q:RelV y u):x=y:=av (r.abs.symm.trans q.abs)
theorem Vals.inj:∀ {xs ys:Li V}{us:Li vL},Vals xs us->Vals ys us->xs=ys
  |_,_,_,.nil,.nil=>rfl
  |_,_,_,.cons r t,.cons a t'=>by rw[r.inj a,Vals.inj t t']
variable{K:Fg}
variable{O:St}{xs:Li V}
section
variable{ys:Li V}
def SqT.of(h:H a=aa (.tup xs)):SqT K H a xs:=.inl (.inl h)
def Inv.list(I:Inv X pQ O H s)(h:SqL X.K H a xs):∃ b:Li vL,Vals xs b/\PlainL s.heap a b.toArray/\xs.length<=aw:=by
  rcases h with h|⟨o,b,n,d,g,f,c,i,r⟩
  . obtain⟨z,b,n,r,e⟩:=h.ok I.hok
    exact⟨b,r,⟨_,n,e,rfl,rfl,rfl⟩,z⟩
  . refine⟨b.toList,r,⟨o,n,I.kIn a o d,g,f,by simpa using c⟩,?_⟩
    have e:=r.length;simp only[cI]at e;omega
def Inv.tuple(I:Inv X pQ O H s)(h:SqT X.K H a xs):∃ b:Li vL,Vals xs b/\IsTup s.heap a b.toArray/\xs.length<=aw:=by
  rcases h with h|⟨o,b,n,d,f,c,g,r⟩
  . obtain⟨z,b,r,p⟩:=h.ok I.hok
    exact⟨b,r,p,z⟩
  . refine⟨b.toList,r,⟨o,I.kIn a o d,f,n,by simpa using c⟩,?_⟩
    have e:=r.length;simp only[cI]at e;omega
def Inv.list_inj(I:Inv X pQ O H s)(h:SqL X.K H a xs)(i:SqL X.K H a ys):xs=ys:=by
  obtain⟨c,r,⟨o,n,e,_,_,d⟩,_⟩:=I.list h;obtain⟨b,g,⟨k,l,f,_,_,d'⟩,_⟩:=I.list i;rw[e]at f;cases f
  rw[d]at d'
  injection d' with j _
  have:c=b:=by simpa using au Array.toList j
  subst this;exact r.inj g
def Inv.tuple_inj(I:Inv X pQ O H s)(h:SqT X.K H a xs)(i:SqT X.K H a ys):xs=ys:=by
  obtain⟨c,r,⟨o,e,_,n,d⟩,_⟩:=I.tuple h;obtain⟨b,g,⟨k,f,_,l,d'⟩,_⟩:=I.tuple i;rw[e]at f;cases f
  rw[d]at d'
  injection d' with j _
  have:c=b:=by simpa using au Array.toList j
  subst this;exact r.inj g
end
noncomputable abbrev Cx.wish(X:Cx)(E:vL->Sd->Prop):Cx:={ X with xe:=E }
noncomputable abbrev Cx.nox(X:Cx):Cx:=X.wish λ_ _=>False
theorem Cx.Ok.wish(ok:X.Ok)(E:vL->Sd->Prop):(X.wish E).Ok:=
  ⟨ok.mod,ok.kind,ok.glob,ok.blt,ok.above,ok.inj,ok.has,ok.cab,ok.hd,ok.frames,ok.stk,ok.exf,ok.bs,ok.bsz,ok.noex,ok.exfs,ok.funs,ok.frf⟩
def Cx.Ok.unwish{E:vL->Sd->Prop}(ok:(X.wish E).Ok):X.Ok:=
  ⟨ok.mod,ok.kind,ok.glob,ok.blt,ok.above,ok.inj,ok.has,ok.cab,ok.hd,ok.frames,ok.stk,ok.exf,ok.bs,ok.bsz,ok.noex,ok.exfs,ok.funs,ok.frf⟩
variable{E:vL->Sd->Prop}
theorem Inv.wish(I:Inv X pQ O H s)(E:vL->Sd->Prop):Inv (X.wish E) pQ O H s:=⟨I.ok.wish E,I.os,I.bare,I.base,I.loc,I.cell,I.free,I.freeC,I.pin,I.hok,I.len⟩
theorem Inv.unwish(I:Inv (X.wish E) pQ O H s):Inv X pQ O H s:=⟨I.ok.unwish,I.os,I.bare,I.base,I.loc,I.cell,I.free,I.freeC,I.pin,I.hok,I.len⟩
theorem SP.unwish{D:Ends}{f:Flow}{c:Sd}(h:SP (X.wish E) pQ D f c):SP X pQ D f c:=by
  cases f with
  |next=>obtain⟨a,b,I,q⟩:=h;exact⟨a,b,I.unwish,q⟩
  |brk=>obtain⟨a,b,I,q⟩:=h;exact⟨a,b,I.unwish,q⟩
  |cont=>obtain⟨a,b,I,q⟩:=h;exact⟨a,b,I.unwish,q⟩
  |ret u=>obtain⟨v,a,b,I,r,q⟩:=h;exact⟨v,a,b,I.unwish,r,q⟩
theorem PSs.nox{a:Li Stmt}{t:TS}(h:PSs X.nox a t):PSs X a t:=λpQ s O H D I b=>
  bK (h pQ s O H D (I.wish _) b) (λ_ _ q=>q.unwish) λ_ _ z=>False.elim z
variable{e:ax}{te:TE}
section
variable{st:Stmt}{rest:Li Stmt}{t u:TS}
def tNext:TS:=λD O H=>D.nx O H
def tSeq(t u:TS):TS:=λD O H=>t { D with nx:=u D } O H
def pss_nil:PSs X [] tNext:=λ_ _ O H _ I h=>wpAny_execs_nil ⟨O,H,I,h⟩
def pss_cons(b:PS X st t)(a:PSs X rest u):PSs X (st :: rest) (tSeq t u):=by
  intro pQ s O H D I h;refine wpAny_execs_cons (thn (b pQ s O H { D with nx:=u D } I h) λf s1 q=>?_)
  cases f with
  |next=>
    obtain⟨c,e,d,q⟩:=q;exact a pQ s1 c e D d q
  |ret v=>exact q
  |brk=>exact q
  |cont=>exact q
def tBreak:TS:=λD O H=>D.bk O H
def tCont:TS:=λD O H=>D.ct O H
def ps_pass:PS X (.Pass pos) tNext:=λ_ _ O H _ I h=>wpAny_Pass ⟨O,H,I,h⟩
def ps_break:PS X (.Break pos) tBreak:=λ_ _ O H _ I h=>wpAny_Break ⟨O,H,I,h⟩
def ps_continue:PS X (.Continue pos) tCont:=λ_ _ O H _ I h=>wpAny_Continue ⟨O,H,I,h⟩
def Inv.quiet{O:St}(I:Inv X pQ O H s):interactive X.env=ae:=by simp[interactive,I.ok.kind]
def tDrop(te:TE):TS:=λD O H=>te O H λ_ a=>D.nx O a
def ps_expr(c:PE X e te)(b:swapsWith e ab pos.line X.env=pure ae:=by rfl):PS X (.Expr e pos) (tDrop te):=by
  intro pQ s O H D I h;exact wpAny_Expr_any (thn (c pQ s O H _ I h) λv s1 ⟨x,f,d,g,a⟩=>⟨O,f,d,a⟩) I.quiet b
def tRet(te:TE):TS:=λD O H=>te O H D.rt
def ps_ret(c:PE X e te):PS X (.Return (aa e) pos) (tRet te):=by
  intro pQ s O H D I h;exact wpAny_Return_some (thn (c pQ s O H _ I h) λv s1 ⟨x,f,d,a,b⟩=>⟨x,O,f,d,a,b⟩)
def tIfS(c:TT)(t u:TS):TS:=λD O H=>c O H λb a=>if b=ac then t D O a else u D O a
def ps_if{c:ax}{a b:Li Stmt}{e:TT}(j:PT X c e)(l:PSs X a t)(k:PSs X b u):PS X (.If c a b pos) (tIfS e t u):=by
  intro pQ s O H D I h;refine wpAny_If (thn (j pQ s O H _ I h) λd s1 ⟨i,g,f⟩=>?_)
  cases d with
  |true=>exact l pQ s1 O i D g f
  |false=>exact k pQ s1 O i D g f
end
abbrev TG:=V->St->Hp->(St->Hp->Prop)->Prop
abbrev TGs:=Li V->St->Hp->(St->Hp->Prop)->Prop
def PG(X:Cx)(a:ax)(t:TG):Prop:=
  ∀ (pQ:Li (Ad×Obj)) (s:Sd) (O:St) (H:Hp) (v:V) (u:vL) (Q:St->Hp->Prop),Inv X pQ O H s->RelV v u->t v O H Q->
    az (a0 X.prog X.w) X.A (assign a X.env u) (λ_ d=>∃ b c,Inv X pQ b c d/\Q b c) X.xe s
def PGs(X:Cx)(c:Li ax)(t:TGs):Prop:=
  ∀ (pQ:Li (Ad×Obj)) (s:Sd) (O:St) (H:Hp) (vs:Li V) (us:Li vL) (Q:St->Hp->Prop),Inv X pQ O H s->Vals vs us->t vs O H Q->
    az (a0 X.prog X.w) X.A (assignInOrder ((assignEach c X.env).map (·.2)) us) (λ_ d=>∃ a b,Inv X pQ a b d/\Q a b) X.xe s
abbrev TSet:=V->V->V->Hp->(Hp->Prop)->Prop
def PSet(X:Cx)(t:TSet):Prop:=
  ∀ (pQ:Li (Ad×Obj)) (s:Sd) (O:St) (H:Hp) (o i v:V) (ov iv u:vL) (Q:Hp->Prop),Inv X pQ O H s->RelV o ov->RelV i iv->RelV v u->t o i v H Q->
    az (a0 X.prog X.w) X.A (setItem ov iv u) (λ_ b=>∃ a,Inv X pQ O a b/\Q a) X.xe s
variable{es:Li ax}{n:Nat}{tg:ax}
def gName(i:Nat):TG:=λv O H Q=>Q (O.set i (aa v)) H
def pg_name{x:Str}(hN:X.N.Nodup)(b:X.N[i]?=aa x)(a:Loc X.env.scope x)(c:X.fn x=ac\/X.env.scope.names.lookup x=aa .local:=by first|exact .inl rfl|exact .inr rfl|assumption):PG X (.Name x pos) (gName i):=by
  intro pQ s O H v u Q I r h;exact wpAny_assign_Name (store_ok I hN b a r (λe d=>⟨_,H,d,h⟩) c)
def gNil:TGs:=λa O H Q=>a=[]/\Q O H
def gCons(t:TG)(u:TGs):TGs:=λa O H Q=>∃ v r,a=v :: r/\t v O H λb c=>u r b c Q
def pgs_nil:PGs X [] gNil:=by
  intro pQ s O H a us Q I r h;obtain⟨e,h⟩:=h;subst e;cases r;exact assignInOrder_nil ⟨O,H,I,h⟩
def pgs_cons{e:ax}{t:TG}{u:TGs}(g:PG X e t)(f:PGs X es u)(d:(assignEach (e :: es) X.env).map (·.2)=assign e X.env :: (assignEach es X.env).map (·.2):=by rfl):PGs X (e :: es) (gCons t u):=by
  intro pQ s O H l us Q I r h;obtain⟨v,m,i,h⟩:=h;subst i;cases r with
  |cons r b=>
    rw[d];refine assignInOrder_cons (thn (g pQ s O H _ _ _ I r h) λ_ s1 ⟨a,k,j,c⟩=>?_)
    exact f pQ s1 a k _ _ Q j b c
def gTup(K:Fg)(n:Nat)(t:TGs):TG:=λv O H Q=>∃ a xs,v=.ref a/\SqT K H a xs/\xs.length=n/\t xs O H Q
def pg_tup{k:Nat}{t:TGs}(p:X.calm=ac)(h:PGs X es t)(l:(assignEach es X.env).length=n:=by rfl)(d:(assignEach es X.env).findIdx? (·.1)=ab:=by rfl):PG X (.Tuple es k pos) (gTup X.K n t):=by
  intro pQ s O H v u Q I r c;obtain⟨a,xs,w,j,m,c⟩:=c;subst w;cases r;obtain⟨f,rv,i,y⟩:=I.tuple j;refine assign_Tuple_tuple (I.ok.hd p) i (by simp[l,<-m,rv.length]) d λq g=>?_
  have x:Inv X pQ O H { s with heap:=q }:=I.kept (t':=s.toks) λb o e=>g b o (aW (aJ e)) e
  exact h pQ _ O H xs _ Q x (by simpa using rv) c
def gSub(a b:TE)(t:TSet):TG:=λv O H Q=>a O H λo e=>b O e λi d=>t o i v d λc=>Q O c
def pg_sub{o i:ax}{c d:TE}{t:TSet}(n:PE X o c)(p:PE X i d)(m:PSet X t)(q:∀ v,assign (.Subscript o i pos) X.env v=(do
      let a <-holding [v] (eval o X.env)
      let b <-holding [v,a] (eval i X.env)
      standAt pos
      holding [v,a,b] (setItem a b v)
      release [v,a,b] []):=by intro _;rfl):PG X (.Subscript o i pos) (gSub c d t):=by
  intro pQ s O H v u Q I r h;rw[q];refine aA (wpAny_holding (thn (n pQ s O H _ I h) λa s1 ⟨x,D,A,g,l⟩=>?_))
  refine aA (wpAny_holding (thn (p pQ s1 O D _ A l) λb e ⟨y,C,z,f,k⟩=>?_))
  refine aA (wpAny_standAt (aA (wpAny_holding (thn (m pQ e O C x y v a b u _ z g f r k) λ_ E ⟨B,w,j⟩=>?_))))
  exact wpAny_release ⟨O,B,w,j⟩
def tAsg(a:TE)(g:TG):TS:=λD O H=>a O H λx b=>g x O b D.nx
def ps_asg{e:ax}{a:TE}{g:TG}(j:PE X e a)(i:PG X tg g)(f:swapsWithSole [tg] e pos.line X.env=pure ae:=by rfl)(d:swappedStores [tg] e X.env=pure ab:=by rfl)(k:(assignEach [tg] X.env).map (·.2)=[assign tg X.env]:=by rfl):PS X (.Assign [tg] e pos) (tAsg a g):=by
  intro pQ s O H D I h;refine wpAny_Assign_stores (thn (j pQ s O H _ I h) λv s1 ⟨x,m,l,b,c⟩=>?_) f d
  rw[k];exact thn (i pQ s1 O m x v _ l b c) λ_ n q=>q
def ps_set{x:Str}{e:ax}{b:TE}{a:Pos}(hN:X.N.Nodup)(j:X.N[i]?=aa x)(f:Loc X.env.scope x)(l:PE X e b)(g:swapsWith e (aa (.Name x a)) pos.line X.env=pure ae:=by rfl)(k:X.fn x=ac\/X.env.scope.names.lookup x=aa .local:=by first|exact .inl rfl|exact .inr rfl|assumption) :
    PS X (.Assign [.Name x a] e pos) (tAsg b (gName i)):=by
  intro pQ s O H D I h;refine wpAny_Assign_Name (thn (l pQ s O H _ I h) λv s1 ⟨y,o,n,c,d⟩=>?_) g
  exact store_ok n hN j f c (λp m=>⟨_,o,m,d⟩) k
variable{body:Li Stmt}
def tWhile(c:TT)(g:TS):TS:=λD O H=>∃ W:Nat->St->Hp->Prop,(∃ m,W m O H)/\∀ m O H,W m O H->
  c O H λb e=>if b=ac then ∃ N:St->Hp->Prop,(∀ d f,N d f->∃ a,a < m/\W a d f)/\g { D with nx:=N,ct:=N,bk:=D.nx } O e else D.nx O e
def ps_while{c:ax}{p:TT}{q:TS}(r:PassesOwn (a0 X.prog X.w) X.A X.env X.xe)(K:PT X c p)(L:PSs X body q):PS X (.While c body [] pos) (tWhile p q):=by
  intro pQ s O H D I h;obtain⟨W,⟨J,E⟩,turn⟩:=h;refine wpAny_While (codeAny_whileLoop (λn G=>∃ u B,Inv X pQ u B G/\W n u B) ?_ J ⟨O,H,I,E⟩)
  rintro n s1 ⟨d,z,M,C⟩
  refine wpAny_passesOwn r (thn (K pQ s1 d z _ M (turn n d z C)) λb F ⟨y,x,i⟩=>?_)
  cases b with
  |true=>
    obtain⟨N,t,i⟩:=i;rw[ao rfl];refine wpAny_passesOwn r (thn (L pQ F d y _ x i) λf P g=>?_)
    cases f with
    |next=>
      obtain⟨a,e,o,k⟩:=g;obtain⟨l,m,j⟩:=t a e k;exact⟨l,m,a,e,o,j⟩
    |cont=>
      obtain⟨a,e,o,k⟩:=g;obtain⟨l,m,j⟩:=t a e k;exact⟨l,m,a,e,o,j⟩
    |brk=>exact g
    |ret v=>exact g
  |false=>
    rw[aq Bf];exact wpAny_execs_nil ⟨d,y,x,i⟩
structure It where
  go:Nat->Hp->Prop
  yld:Nat->Hp->V->Hp->Prop
  stop:Nat->Hp->Prop
def FpOk(X:Cx)(pQ:Li (Ad×Obj))(H:Hp)(b:Ad):Prop:=
  H b=ab/\b≠X.env.locals/\b∉X.fs/\(b∈X.ex\/X.s₀.heap.objs.size<=b)/\(∀ x c,X.env.cells.lookup x=aa c->c≠b)/\∀ p∈X.pn++pQ,p.1≠b
def Inv.fpOk{O:St}{d:Hp}{b:Ad}(I:Inv X pQ O H s)(a:s.heap.objs.size<=b)(g:d b=ab):FpOk X pQ d b:=by
  refine⟨g,Nat.ne_of_gt (aU I.lt a),I.nofs a,.inr (aR I.sz a),λx c e z=>?_,λp f z=>?_⟩
  . obtain⟨v,q⟩:=I.cell x c e
    exact ar (aU q.lt (by rw[z];exact a)) (bZ _)
  . exact ar (aU (aJ (I.pin p f).1) (by rw[z];exact a)) (bZ _)
structure Turn(P:a1)(w:bg)(K:Fg)(tg:ax)(J:It)(fp:List Addr)(it:Addr)(tn:Nat->bf->Prop):Prop where
  mem:it∈fp
  obj:∀ i h,tn i h->∀ b∈fp,∃ o,h.get? b=aa o/\∀ v,o.data≠.cell v
  keep:∀ i h h',tn i h->(∀ b∈fp,∀ o,h.get? b=aa o->h'.get? b=aa o)->tn i h'
  item:∀ (X:Cx),X.prog=P->X.w=w->X.K=K->X.calm=ac->∀ (i:Nat) (pQ:List (Addr×Obj)) (s:Shared) (O:St) (H:Hp) (E:Value->Shared->Prop),Inv X pQ O H s->(∀ b∈fp,FpOk X pQ H b)->tn i s.heap->J.go i H->
    az (a0 P w) X.A (pyNext (.ref it)) (λr s1=>∃ u,r=aa u /\
      az (a0 P w) X.A (letOwnedTupleGo tg (.ref it) u) (λ_ s2=>∃ x H',Inv X pQ O H' s2/\RelV x u/\J.yld i H x H'/\tn (i+1) s2.heap/\∀ b∈fp,H' b=ab) E s1) E s
  done:∀ (X:Cx),X.prog=P->X.w=w->X.K=K->X.calm=ac->∀ (i:Nat) (pQ:List (Addr×Obj)) (s:Shared) (O:St) (H:Hp) (E:Value->Shared->Prop),Inv X pQ O H s->(∀ b∈fp,FpOk X pQ H b)->tn i s.heap->J.stop i H->
    az (a0 P w) X.A (pyNext (.ref it)) (λr s1=>r=ab/\Inv X pQ O H s1) E s
  self:∀ (A:bm) (i:Nat) (s:Shared) (Q:Value->Shared->Prop) (E:Value->Shared->Prop),tn i s.heap->Q (.ref it) s->az (a0 P w) A (pyIter (.ref it)) Q E s
abbrev TI:=St->Hp->(It->Hp->Prop)->Prop
def PIE(X:Cx)(pQ:Li (Ad×Obj))(O:St)(tg:ax)(R:It->Hp->Prop)(a:vL)(c:Sd):Prop:=
  ∃ (it:Ad) (fp:Li Ad) (tn:Nat->bf->Prop) (J:It) (H':Hp),a=.ref it/\Inv X pQ O H' c/\Turn X.prog X.w X.K tg J fp it tn/\tn 0 c.heap/\(∀ b∈fp,FpOk X pQ H' b)/\R J H'
def PI(X:Cx)(tg iter:ax)(a:TI):Prop:=
  ∀ (pQ:Li (Ad×Obj)) (s:Sd) (O:St) (H:Hp) (R:It->Hp->Prop),Inv X pQ O H s->a O H R->
    az (a0 X.prog X.w) X.A (eval iter X.env) (λv s1=>az (a0 X.prog X.w) X.A (pyIter v) (PIE X pQ O tg R) X.xe s1) X.xe s
def go_of{E:vL->Sd->Prop}{c:Ad}{u:vL}{o:Obj}{n:String}{b:Array vL}{Q:Unit->Sd->Prop}(d:s.heap.get? c=aa o)(f:o.cls=.type n)(hd:o.data=.fields b)(e:["enumerate", "zip", "dict_itemiterator", "dict_reverseitemiterator", "odict_iterator", "itertools.zip_longest", "itertools.pairwise"].contains n=ae)(a:Q () s):az M A (letOwnedTupleGo tg (.ref c) u) Q E s:=by
  unfold letOwnedTupleGo;cases tg<;>first
    |exact aB a
    | (cases u<;>first
        |exact aB a
        | (refine aA (wpAny_load d ?_)
           rw[f,hd];show az M A (if (["enumerate", "zip", "dict_itemiterator", "dict_reverseitemiterator", "odict_iterator", "itertools.zip_longest", "itertools.pairwise"].contains n&&b[0]?==aa (rawInt _))=ac then _ else _) Q E s
           rw[aq (by intro h;rw[e,Bool.false_and]at h;cases h)]
           exact aB a))
noncomputable def Itl(K:Fg)(a:Ad):It:=
  ⟨λi H=>∃ xs x,SqL K H a xs/\xs[i]?=aa x,λi H x b=>b=H/\∀ xs,SqL K H a xs->xs[i]?=aa x,λi H=>∃ xs,SqL K H a xs/\xs.length<=i⟩
noncomputable def Itt(K:Fg)(a:Ad):It:=
  ⟨λi H=>∃ xs x,SqT K H a xs/\xs[i]?=aa x,λi H x b=>b=H/\∀ xs,SqT K H a xs->xs[i]?=aa x,λi H=>∃ xs,SqT K H a xs/\xs.length<=i⟩
noncomputable def Itr(a:Int)(n:Nat):It:=⟨λi _=>i < n,λi H x b=>b=H/\x=.int (a+i),λi _=>n<=i⟩
def turn_list{P:a1}(a g:Ad):Turn P w K tg (Itl K a) [g] g (λi h=>h.IsListIter g a i) where
  mem:=by simp
  obj:=λi h f b j=>by
    have e:b=g:=by simpa using j
    subst e;obtain⟨o,e,c,d⟩:=f;exact⟨o,e,λv z=>by rw[d]at z;cases z⟩
  keep:=λi h q f k=>f.at λo e=>k g (by simp) o e
  item:=by
    intro X B y C M i pQ s O H E I n f A;subst B y C;obtain⟨xs,x,m,t⟩:=A;obtain⟨r,rv,p,Q⟩:=I.list m;obtain⟨u,S,N⟩:=rv.get t;obtain⟨L,J,T,G,F,D⟩:=n g (by simp)
    refine wpAny_pyNext_list_item f p.isList (x:=u) (by simpa using S) λq l sb=>?_
    have V:Inv X pQ O H { s with heap:=q }:=I.turned (t':=s.toks) (λb o j e=>(sb.2 b j).trans e) L J G F D
    obtain⟨o,e,c,d⟩:=id l;exact⟨u,rfl,go_of (s:={ s with heap:=q }) e c d (by decide) ⟨x,H,V,N,⟨rfl,λW R=>by rw[I.list_inj R m];exact t⟩,l,λb j=>(n b j).1⟩⟩
  done:=by
    intro X B y C M i pQ s O H E I n f A;subst B y C;obtain⟨xs,m,t⟩:=A;obtain⟨r,rv,p,Q⟩:=I.list m;obtain⟨L,J,T,G,F,D⟩:=n g (by simp)
    have Y:=rv.length;exact wpAny_pyNext_list_end (I.ok.hd M) f p.isList (by simp;omega) λq U=>⟨rfl,I.turned (t':=s.toks) (λb o j e=>U b o j e) L J G F D⟩
  self:=λ_ _ _ _ _ f h=>wpAny_pyIter_listiter f h
def turn_tuple{P:a1}(a j:Ad):Turn P w K tg (Itt K a) [j] j (λi h=>h.IsTupleIter j a i) where
  mem:=by simp
  obj:=λi h f b l=>by
    have e:b=j:=by simpa using l
    subst e;obtain⟨o,e,c,d⟩:=f;exact⟨o,e,λv z=>by rw[d]at z;cases z⟩
  keep:=λi h r f k=>f.at λo e=>k j (by simp) o e
  item:=by
    intro X B y C M i pQ s O H E I q f A;subst B y C;obtain⟨xs,x,n,t⟩:=A;obtain⟨g,rv,p,Q⟩:=I.tuple n;obtain⟨u,S,N⟩:=rv.get t;obtain⟨L,J,T,G,F,D⟩:=q j (by simp)
    refine wpAny_pyNext_tuple_item f (show s.heap.IsTuple a g.toArray from p) (x:=u) (by simpa using S) λr m sb=>?_
    have V:Inv X pQ O H { s with heap:=r }:=I.turned (t':=s.toks) (λb o l e=>(sb.2 b l).trans e) L J G F D
    obtain⟨o,e,c,d⟩:=id m;exact⟨u,rfl,go_of (s:={ s with heap:=r }) e c d (by decide) ⟨x,H,V,N,⟨rfl,λW R=>by rw[I.tuple_inj R n];exact t⟩,m,λb l=>(q b l).1⟩⟩
  done:=by
    intro X B y C M i pQ s O H E I q f A;subst B y C;obtain⟨xs,n,t⟩:=A;obtain⟨g,rv,p,Q⟩:=I.tuple n;obtain⟨L,J,T,G,F,D⟩:=q j (by simp)
    have Y:=rv.length;exact wpAny_pyNext_tuple_end (I.ok.hd M) f (show s.heap.IsTuple a g.toArray from p) (by simp;omega) λr U=>⟨rfl,I.turned (t':=s.toks) (λb o l e=>U b o l e) L J G F D⟩
  self:=λ_ _ _ _ _ f h=>wpAny_pyIter_tupleiter f h
def turn_range{P:a1}(c:Ad)(g:Int)(n:Nat):Turn P w K tg (Itr g n) [c] c (λi h=>IsRangeIter h c (g+(i:Nat) * 1) ((n:Int) - (i:Nat)) 1) where
  mem:=by simp
  obj:=λi h a b d=>by
    have e:b=c:=by simpa using d
    subst e;exact⟨_,a,λv z=>by
      have F:Data.fields _=Data.cell v:=z;cases F⟩
  keep:=λi h l a k=>k c (by simp) _ a
  item:=by
    intro X r m u q i pQ s O H E I j a p;subst r m u;obtain⟨C,B,L,A,y,x⟩:=j c (by simp)
    have W:=Walks.range (prog:=X.prog) (w:=X.w) (I.ok.hd q) c g 1 n;refine W.item i s _ _ p a λv l D J f G=>?_
    obtain⟨t,rfl⟩:=J;have N:Inv X pQ O H { s with heap:=l,toks:=D }:=I.turned (λb o d e=>G b o (by simpa using d) e) C B A y x
    refine⟨_,rfl,go_of (s:={ s with heap:=l,toks:=D }) (n := "range_iterator") f rfl rfl (by decide) ⟨.int (g+i),H,N,⟨t,?_⟩,⟨rfl,rfl⟩,f,λb d=>(j b d).1⟩⟩
    rw[Int.mul_one]
  done:=by
    intro X r m u q i pQ s O H E I j a p;subst r m u;obtain⟨C,B,L,A,y,x⟩:=j c (by simp)
    exact wpAny_pyNext_range_end (I.ok.hd q) a (by have:n<=i:=p;omega) λl M=>⟨rfl,I.turned (t':=s.toks) (λb o d e=>M b o d e) C B A y x⟩
  self:=λ_ _ _ _ _ a h=>wpAny_pyIter_rangeiter a h
variable{l:ax}{lo:Int}{fp:Li Ad}
variable{tg:ax}
def iList(K:Fg)(tl:TE):TI:=λO H R=>tl O H λx b=>∃ a,x=.ref a/\(∃ xs,SqL K b a xs)/\R (Itl K a) b
def iTup(K:Fg)(tl:TE):TI:=λO H R=>tl O H λx b=>∃ a,x=.ref a/\(∃ xs,SqT K b a xs)/\R (Itt K a) b
def pi_list{tl:TE}(j:PE X l tl):PI X tg l (iList X.K tl):=by
  intro pQ s O H R I h;refine thn (j pQ s O H _ I h) λv s1 ⟨x,m,c,d,f⟩=>?_
  obtain⟨a,e,⟨xs,i⟩,q⟩:=f;subst e;cases d;obtain⟨g,rv,p,n⟩:=c.list i;refine wpAny_pyIter_list p.isList ?_;refine⟨s1.heap.objs.size,[s1.heap.objs.size],_,_,m,rfl,c.kept (t':=s1.toks) λb o e=>aO _ e,turn_list a _,⟨_,aX _ rfl,rfl,rfl⟩,λb k=>?_,q⟩
  have e:b=s1.heap.objs.size:=by simpa using k
  subst e;exact c.fpOk (aE _) (c.hok.fresh (aE _))
def pi_tup{tl:TE}(j:PE X l tl):PI X tg l (iTup X.K tl):=by
  intro pQ s O H R I h;refine thn (j pQ s O H _ I h) λv s1 ⟨x,m,c,f,g⟩=>?_
  obtain⟨a,e,⟨xs,i⟩,q⟩:=g;subst e;cases f;obtain⟨d,rv,p,n⟩:=c.tuple i;refine wpAny_pyIter_tuple (show s1.heap.IsTuple a d.toArray from p) ?_;refine⟨s1.heap.objs.size,[s1.heap.objs.size],_,_,m,rfl,c.kept (t':=s1.toks) λb o e=>aO _ e,turn_tuple a _,⟨_,aX _ rfl,rfl,rfl⟩,λb k=>?_,q⟩
  have e:b=s1.heap.objs.size:=by simpa using k
  subst e;exact c.fpOk (aE _) (c.hok.fresh (aE _))
def range_it{O:St}{R:It->Hp->Prop}{E:vL->Sd->Prop}{a:Int}{t u v:Tok}{c:Nat}(I:Inv X pQ O H s)(j:-(2 ^ 62)<=lo)(i:lo < 2 ^ 62)(h:-(2 ^ 62)<=a)(g:a < 2 ^ 62)(q:R (Itr lo (a - lo).toNat) H):az (a0 X.prog X.w) X.A (pyIter (.ref s.heap.objs.size)) (PIE X pQ O tg R) E { s with heap:=s.heap.push { cls:=.type "range",data:=.fields #[.int lo t,.int a u,.int 1 v] },toks:=c }:=by
  refine wpAny_pyIter_range (IsRange.new ..) (small_one j i h g) ?_;have d:Inv X pQ O H { s with heap:=s.heap.push { cls:=.type "range",data:=.fields #[.int lo t,.int a u,.int 1 v] },toks:=c }:=I.kept λb o e=>aO _ e
  refine⟨(s.heap.push { cls:=.type "range",data:=.fields #[.int lo t,.int a u,.int 1 v] }).objs.size,[(s.heap.push { cls:=.type "range",data:=.fields #[.int lo t,.int a u,.int 1 v] }).objs.size],_,_,H,rfl,
    d.kept (t':=c) λb o e=>aO _ e,turn_range _ lo (a - lo).toNat,?_,λb f=>?_,q⟩
  . have l:lo+((0:Nat):Int) * 1=lo:=by simp
    have k:(((a - lo).toNat:Nat):Int) - ((0:Nat):Int)=Builtin.Range.rangeSize lo a 1:=by rw[rangeSize_one];split<;>omega
    show IsRangeIter _ _ (lo+((0:Nat):Int) * 1) ((((a - lo).toNat:Nat):Int) - ((0:Nat):Int)) 1;rw[l,k];exact aX _ rfl
  . have e:b=(s.heap.push { cls:=.type "range",data:=.fields #[.int lo t,.int a u,.int 1 v] }).objs.size:=by simpa using f
    subst e;exact d.fpOk (aE _) (d.hok.fresh (aE _))
def iRng1(b:TA):TI:=λO H R=>b O H λa c=>∃ j:Int,a=[.int j]/\-(2 ^ 62)<=j/\j < 2 ^ 62/\R (Itr 0 j.toNat) c
def pi_range1{a:ax}{d:TA}{p b:Pos}(m:Gl X "range")(l:X.mg "range"=ab)(n:PA X [a] d)(k:a5 [a] X.env=[(ae,eval a X.env)]:=by rfl):PI X tg (.Call (.Name "range" p) [a] [] b) (iRng1 d):=by
  intro pQ s O H R I h;refine Call_ (ld_blt I m l boot_range (PyProof.Rows.callWith_type1 (thn (n b pQ s O H _ I h) λus s1 ⟨u,v,o,g,c⟩=>?_) k rfl))
  obtain⟨j,e,c,i,q⟩:=c;subst e;cases g with
  |cons r f=>
    cases f;obtain⟨t,rfl⟩:=r;exact call_range_1 (range_it o (by omega) (by omega) c i (by simpa using q))
def tFor(e:TI)(g:TG)(f:TS):TS:=λD O H=>e O H λJ j=>∃ W:Nat->Nat->St->Hp->Prop,(∃ m,W 0 m O j)/\∀ i m O H,W i m O H->
  (J.stop i H/\D.nx O H)\/(J.go i H/\∃ N:St->Hp->Prop,(∀ d a,N d a->∃ c,c < m/\W (i+1) c d a)/\∀ x a,J.yld i H x a->g x O a λb h=>f { D with nx:=N,ct:=N,bk:=D.nx } b h)
noncomputable def pinsAt(fp:Li Ad)(h:bf):Li (Ad×Obj):=fp.filterMap λb=>(h.get? b).map λo=>(b,o)
def mem_pinsAt{b:Ad}{o:Obj}(a:b∈fp)(e:h.get? b=aa o):(b,o)∈pinsAt fp h:=List.mem_filterMap.mpr ⟨b,a,by rw[e];rfl⟩
def of_pinsAt{p:Ad×Obj}(a:p∈pinsAt fp h):p.1∈fp/\h.get? p.1=aa p.2:=by
  obtain⟨b,c,e⟩:=List.mem_filterMap.mp a;cases q:h.get? b with
  |none=>rw[q]at e;cases e
  |some o=>
    rw[q]at e;have d:(b,o)=p:=av e;subst d;exact⟨c,q⟩
def Inv.pinned{O:St}{fp:Li Ad}(I:Inv X pQ O H s)(h:∀ b∈fp,FpOk X pQ H b)(g:∀ b∈fp,∃ o,s.heap.get? b=aa o/\∀ v,o.data≠.cell v):Inv X (pQ++pinsAt fp s.heap) O H s:=
  I.pins_of λp f=>(bC.mp f).elim (λz=>I.pin p (cJ _ z)) λz=>by
    obtain⟨a,e⟩:=of_pinsAt z;obtain⟨k,j,i,_⟩:=h p.1 a;obtain⟨o,c,d⟩:=g p.1 a;rw[e]at c;cases c
    exact⟨e,k,j,i,d⟩
def Inv.unpinned{a:Li (Ad×Obj)}{O:St}(I:Inv X (pQ++a) O H s):Inv X pQ O H s:=I.pins_of λp b=>I.pin p (cJ _ (List.mem_append_left _ b))
def ps_for{iter:ax}{V:TI}{g:TG}{Z:TS}{Q:Pos}(E:PassesOwn (a0 X.prog X.w) X.A X.env X.xe)(hc:X.calm=ac)(hi:PI X tg iter V)(hg:PG X tg g)(k:PSs X body Z)(hs:∀ x,foldedSetIterable iter X.env x=pure x:=by intro _;rfl):PS X (.For tg iter body [] Q) (tFor V g Z):=by
  intro pQ s O H D I h;refine wpAny_For (thn (hi pQ s O H _ I h) λv s1 h1=>thn h1 λitv s2 h2=>?_) hs
  obtain⟨it,fp,Y,J,H2,e,I2,T,M,f2,W,⟨m0,w0⟩,turn⟩:=h2;subst e
  -- what stays ac of the iterator's objects through the loop
  have j:∀ {t:Hp},(∀ b∈fp,t b=ab)->∀ b∈fp,FpOk X pQ t b:=λhn b k=>⟨hn b k,(f2 b k).2⟩
  refine codeAny_forLoop_any (λn s'=>∃ i G t,Inv X pQ G t s'/\Y i s'.heap/\(∀ b∈fp,t b=ab)/\W i n G t) ?_ m0 ⟨0,O,H2,I2,M,λb k=>(f2 b k).1,w0⟩
  rintro n s3 ⟨i,c,K,I3,B,F,w3⟩
  rcases turn i n c K w3 with⟨stop,qn⟩|⟨go,N,hN,step⟩
  . refine wpAny_passesOwn E (thn (T.done X rfl rfl rfl hc i pQ s3 c K X.xe I3 (j F) B stop) λr s4 ⟨R,I4⟩=>?_)
    subst R;exact wpAny_execs_nil ⟨c,K,I4,qn⟩
  . refine wpAny_passesOwn E (thn (T.item X rfl rfl rfl hc i pQ s3 c K X.xe I3 (j F) B go) λr s4 ⟨u,R,h4⟩=>?_)
    subst R;refine wpAny_passesOwn E (thn h4 λ_ s5 ⟨x,H5,I5,r5,y5,z,S⟩=>?_)
    have U:=I5.pinned (j S) (T.obj _ _ z);refine wpAny_passesOwn E (thn (hg _ s5 c H5 x u _ U r5 (step x H5 y5)) λ_ s6 ⟨L,H6,I6,q6⟩=>?_)
    refine wpAny_passesOwn E (thn (k _ s6 L H6 _ I6 q6) λf P y=>?_)
    have l:∀ {a:St}{q:Hp},Inv X (pQ++pinsAt fp s5.heap) a q P->N a q->∃ m,m < n/\∃ i G t,Inv X pQ G t P/\Y i P.heap/\(∀ b∈fp,t b=ab)/\W i m G t:=λ{a q} p C=>by
      obtain⟨m',hm,w7⟩:=hN a q C;refine⟨m',hm,i+1,a,q,p.unpinned,T.keep _ _ _ z λb k o e=>(p.pin (b,o) (cJ _ (cJ _ (mem_pinsAt k e)))).1,λb k=>?_,w7⟩
      obtain⟨o,e,d⟩:=T.obj _ _ z b k;exact(p.pin (b,o) (cJ _ (cJ _ (mem_pinsAt k e)))).2.1
    cases f with
    |next=>obtain⟨a,q,p,C⟩:=y;exact l p C
    |cont=>obtain⟨a,q,p,C⟩:=y;exact l p C
    |brk=>obtain⟨a,q,p,y⟩:=y;exact⟨a,q,p.unpinned,y⟩
    |ret v=>obtain⟨x7,a,q,p,r7,y⟩:=y;exact⟨x7,a,q,p.unpinned,r7,y⟩
def for_tup{a:Ad}{g:TG}{k:TS}{D:Ends}{O:St}{H:Hp}(b:Nat->St->Hp->Prop)(t:b 0 O H)(r:∀ i O H,i<=xs.length->b i O H->SqT K H a xs)(o:∀ i x O H,xs[i]?=aa x->b i O H->g x O H λc j=>k { D with nx:=b (i+1),ct:=b (i+1),bk:=D.nx } c j)(hd:∀ O H,b xs.length O H->D.nx O H) :
    ∃ W:Nat->Nat->St->Hp->Prop,(∃ m,W 0 m O H)/\∀ i m O H,W i m O H->
      ((Itt K a).stop i H/\D.nx O H)\/((Itt K a).go i H/\∃ N:St->Hp->Prop,(∀ h d,N h d->∃ l,l < m/\W (i+1) l h d)/\∀ x d,(Itt K a).yld i H x d->g x O d λc j=>k { D with nx:=N,ct:=N,bk:=D.nx } c j):=by
  refine⟨λi m O H=>m=xs.length - i/\i<=xs.length/\b i O H,⟨xs.length,by simp,aS _,t⟩,?_⟩
  rintro i m O H ⟨rfl,s,p⟩
  have q:=r i O H s p;by_cases f:i < xs.length
  . refine .inr ⟨⟨xs,xs[i],q,by simp[f]⟩,b (i+1),λh d n=>⟨xs.length - (i+1),by omega,rfl,f,n⟩,λx d y=>?_⟩
    obtain⟨e,y⟩:=y;subst e;exact o i x O _ (y xs q) p
  . have e:i=xs.length:=by omega
    subst e;exact .inl ⟨⟨xs,q,aE _⟩,hd O H p⟩
def for_range{g:TG}{j:TS}{D:Ends}{O:St}{H:Hp}(c:Nat->St->Hp->Prop)(q:c 0 O H)(o:∀ i O H,i < n->c i O H->g (.int (lo+i)) O H λa h=>j { D with nx:=c (i+1),ct:=c (i+1),bk:=D.nx } a h)(hd:∀ O H,c n O H->D.nx O H) :
    ∃ W:Nat->Nat->St->Hp->Prop,(∃ m,W 0 m O H)/\∀ i m O H,W i m O H->
      ((Itr lo n).stop i H/\D.nx O H)\/((Itr lo n).go i H/\∃ N:St->Hp->Prop,(∀ f d,N f d->∃ k,k < m/\W (i+1) k f d)/\∀ x d,(Itr lo n).yld i H x d->g x O d λa h=>j { D with nx:=N,ct:=N,bk:=D.nx } a h):=by
  refine⟨λi m O H=>m=n - i/\i<=n/\c i O H,⟨n,by simp,aS _,q⟩,?_⟩
  rintro i m O H ⟨rfl,r,p⟩
  by_cases b:i < n
  . refine .inr ⟨b,c (i+1),λf d l=>⟨n - (i+1),by omega,rfl,b,l⟩,λx d y=>?_⟩
    obtain⟨e,y⟩:=y;subst e y;exact o i O _ b p
  . have e:i=n:=by omega
    subst e;exact .inl ⟨aE _,hd O H p⟩
abbrev R2:=V->V->Hp->VK->Prop
def OpR(X:Cx)(f:vL->vL->Sem vL)(r:R2):Prop:=
  ∀ (pQ:Li (Ad×Obj)) (s:Sd) (O:St) (H:Hp) (x y:V) (v u:vL) (Q:VK),Inv X pQ O H s->RelV x v->RelV y u->r x y H Q->
    az (a0 X.prog X.w) X.A (f v u) (EP X pQ O Q) X.xe s
def UnR(X:Cx)(f:vL->Sem vL)(r:V->Hp->VK->Prop):Prop:=
  ∀ (pQ:Li (Ad×Obj)) (s:Sd) (O:St) (H:Hp) (x:V) (v:vL) (Q:VK),Inv X pQ O H s->RelV x v->r x H Q->
    az (a0 X.prog X.w) X.A (f v) (EP X pQ O Q) X.xe s
def CallR(X:Cx)(f:vL)(r:Li V->Hp->VK->Prop):Prop:=
  ∀ (pQ:Li (Ad×Obj)) (s:Sd) (O:St) (H:Hp) (xs:Li V) (us:Li vL) (Q:VK),Inv X pQ O H s->Vals xs us->r xs H Q->
    az (a0 X.prog X.w) X.A (call f us) (EP X pQ O Q) X.xe s
def tOp(r:R2)(b a:TE):TE:=λO H Q=>b O H λx d=>a O d λy c=>r x y c Q
def tUn(r:V->Hp->VK->Prop)(a:TE):TE:=λO H Q=>a O H λx b=>r x b Q
def rI(C:Int->Int->Prop)(g:Int->Int->V):R2:=λx y H Q=>∃ i j,x=.int i/\y=.int j/\C i j/\Q (g i j) H
def rI0(g:Int->Int->V):R2:=λx y H Q=>∃ i j,x=.int i/\y=.int j/\Q (g i j) H
def rU(g:Int->V):V->Hp->VK->Prop:=λx H Q=>∃ i,x=.int i/\Q (g i) H
variable{c:ax}{tc:TE}
section
variable{a:ax}
def binT(p:PE X a ta)(o:PE X b tb){O:St}{R:V->V->Hp->Prop}(I:Inv X pQ O H s)(h:ta O H λx i=>tb O i λy c=>R x y c){f:vL->vL->Sem vL}(n:∀ v u g x y c,Inv X pQ O c g->RelV x v->RelV y u->R x y c->az (a0 X.prog X.w) X.A (f v u) Q X.xe g) :
    az (a0 X.prog X.w) X.A (eval a X.env) (λv e=>az (a0 X.prog X.w) X.A (eval b X.env) (λu d=>az (a0 X.prog X.w) X.A (f v u) Q X.xe d) X.xe e) X.xe s:=by
  refine thn (p pQ s O H _ I h) λv s1 ⟨x,i,r,k,m⟩=>?_
  refine thn (o pQ s1 O i _ r m) λu g ⟨y,c,q,j,l⟩=>?_
  exact n v u g x y c q k j l
def pe_op{c:Operator}{r:R2}(g:OpR X (bo c) r)(j:PE X a ta)(i:PE X b tb):PE X (.BinOp a c b pos) (tOp r ta tb):=by
  intro pQ s O H Q I h;exact wpAny_BinOp (binT j i I h λv u d x y l k f e q=>g pQ d O l x y v u Q k f e q)
def pe_un{b:UnaryOp}{r:V->Hp->VK->Prop}(e:UnR X (unaryOp b) r)(f:PE X a ta):PE X (.UnaryOp b a pos) (tUn r ta):=by
  intro pQ s O H Q I h;exact UnaryOp_ (thn (f pQ s O H _ I h) λv s1 ⟨x,i,g,c,d⟩=>e pQ s1 O i x v Q g c d)
def opI{f:vL->vL->Sem vL}{C:Int->Int->Prop}{g:Int->Int->Int}(a:∀ (i j:Int) (t u:Tok) (s:Sd) (Q:vL->Sd->Prop) (E:vL->Sd->Prop),C i j->Q (.int (g i j) s.toks) { s with toks:=s.toks+1 }->az (a0 X.prog X.w) X.A (f (.int i t) (.int j u)) Q E s) :
    OpR X f (rI C λi j=>.int (g i j)):=by
  intro pQ s O H x y v u Q I c b h;obtain⟨i,j,rfl,rfl,d,q⟩:=h;obtain⟨t,rfl⟩:=c;obtain⟨t',rfl⟩:=b;exact a i j t t' s _ _ d ⟨.int (g i j),H,I.tok _,⟨_,rfl⟩,q⟩
def opI0{f:vL->vL->Sem vL}{g:Int->Int->Int}(a:∀ (i j:Int) (t u:Tok) (s:Sd) (Q:vL->Sd->Prop) (E:vL->Sd->Prop),Q (.int (g i j) s.toks) { s with toks:=s.toks+1 }->az (a0 X.prog X.w) X.A (f (.int i t) (.int j u)) Q E s) :
    OpR X f (rI0 λi j=>.int (g i j)):=by
  intro pQ s O H x y v u Q I c b h;obtain⟨i,j,rfl,rfl,q⟩:=h;obtain⟨t,rfl⟩:=c;obtain⟨t',rfl⟩:=b;exact a i j t t' s _ _ ⟨.int (g i j),H,I.tok _,⟨_,rfl⟩,q⟩
def opB0{f:vL->vL->Sem vL}{g:Int->Int->Bool}(a:∀ (i j:Int) (t u:Tok) (s:Sd) (Q:vL->Sd->Prop) (E:vL->Sd->Prop),Q (.bool (g i j)) s->az (a0 X.prog X.w) X.A (f (.int i t) (.int j u)) Q E s) :
    OpR X f (rI0 λi j=>.bl (g i j)):=by
  intro pQ s O H x y v u Q I c b h;obtain⟨i,j,rfl,rfl,q⟩:=h;obtain⟨t,rfl⟩:=c;obtain⟨t',rfl⟩:=b;exact a i j t t' s _ _ ⟨.bl (g i j),H,I,rfl,q⟩
def CDiv(i j:Int):Prop:=0 < j/\j < 1073741824
def CDivN(i j:Int):Prop:=j≠0/\j.natAbs < 1073741824
def CMul(i j:Int):Prop:=(-(2 ^ 64) < i/\i < 2 ^ 64)\/(-(2 ^ 64) < j/\j < 2 ^ 64)
def CMul.ok{i j:Int}(h:CMul i j):IntMulOk i j:=by
  rcases h with⟨b,a⟩|⟨b,a⟩
  . exact .of_left (intBits_le_64 b a)
  . exact .of_right (intBits_le_64 b a)
def op_add:OpR X (bo .Add) (rI0 λi j=>.int (i+j)):=opI0 λ_ _ _ _ _ _ _ q=>add_int q
def op_sub:OpR X (bo .Sub) (rI0 λi j=>.int (i - j)):=opI0 λ_ _ _ _ _ _ _ q=>sub_int q
def op_mul:OpR X (bo .Mult) (rI CMul λi j=>.int (i * j)):=opI λ_ _ _ _ _ _ _ a q=>mul_int q a.ok
def op_fdiv:OpR X (bo .FloorDiv) (rI CDiv λi j=>.int (i / j)):=opI λi j _ _ _ _ _ a q=>by
  have c:(0:Int) < j:=a.1;have b:j < 1073741824:=a.2;exact floordiv_int (by omega) (by rw[Int.fdiv_eq_ediv_of_nonneg i (by omega)];exact q) (.inl (PyProof.noPylong_small (by omega)))
def op_fdivN:OpR X (bo .FloorDiv) (rI CDivN λi j=>.int (i.fdiv j)):=opI λ_ _ _ _ _ _ _ a q=>floordiv_int a.1 q (.inl (PyProof.noPylong_small a.2))
def op_mod:OpR X (bo .Mod) (rI (λ_ j=>0 < j) λi j=>.int (i % j)):=opI λi j _ _ _ _ _ a q=>by
  have b:(0:Int) < j:=a;exact mod_int' (by omega) (by rw[Int.fmod_eq_emod_of_nonneg i (by omega)];exact q)
def op_modN:OpR X (bo .Mod) (rI (λ_ j=>j≠0) λi j=>.int (i.fmod j)):=opI λ_ _ _ _ _ _ _ a q=>mod_int' a q
def op_and:OpR X (bo .BitAnd) (rI0 λi j=>.int (Builtin.bitAnd i j)):=opI0 λ_ _ _ _ _ _ _ q=>and_int q
def op_or:OpR X (bo .BitOr) (rI0 λi j=>.int (Builtin.bitOr i j)):=opI0 λ_ _ _ _ _ _ _ q=>or_int q
def unI{f:vL->Sem vL}{g:Int->Int}(a:∀ (i:Int) (t:Tok) (s:Sd) (Q:vL->Sd->Prop) (E:vL->Sd->Prop),Q (.int (g i) s.toks) { s with toks:=s.toks+1 }->az (a0 X.prog X.w) X.A (f (.int i t)) Q E s) :
    UnR X f (rU λi=>.int (g i)):=by
  intro pQ s O H x v Q I b h;obtain⟨i,rfl,q⟩:=h;obtain⟨t,rfl⟩:=b;exact a i t s _ _ ⟨.int (g i),H,I.tok _,⟨_,rfl⟩,q⟩
def un_neg:UnR X (unaryOp .USub) (rU λi=>.int (-i)):=unI λ_ _ _ _ _ q=>neg_int q
def un_inv:UnR X (unaryOp .Invert) (rU λi=>.int (Builtin.bitNot i)):=unI λ_ _ _ _ _ q=>invert_int q
end
noncomputable def scal:V->V->Bool
  |.non,.non=>ac|.non,.int _=>ac|.int _,.non=>ac|.non,.bl _=>ac|.bl _,.non=>ac|.non,.str _=>ac|.str _,.non=>ac
  |.int _,.int _=>ac|.bl _,.bl _=>ac|.str _,.str _=>ac|.byt _,.byt _=>ac
  |.int _,.str _=>ac|.str _,.int _=>ac|.bl _,.str _=>ac|.str _,.bl _=>ac
  |_,_=>ae
def rEq:R2:=λx y H Q=>scal x y=ac/\Q (.bl (aj (x=y))) H
def rNe:R2:=λx y H Q=>scal x y=ac/\Q (.bl (!decide (x=y))) H
def dec_int{i j:Int}:aj (V.int i=V.int j)=(i==j):=by
  rw[bQ];simp
def dec_bl{i j:Bool}:aj (V.bl i=V.bl j)=(i==j):=by
  rw[bQ];simp
def dec_str{i j:Str}:aj (V.str i=V.str j)=(i==j):=by
  rw[bQ];simp
def dec_byt{i j:Array UInt8}:aj (V.byt i=V.byt j)=(i.toList==j.toList):=by
  rw[bQ];cases i;cases j;simp
variable{op:CmpOp}
section
variable{a:ax}
def fin_bl{O:St}{Q:VK}{k a:Bool}(I:Inv X pQ O H s)(q:Q (.bl k) H)(e:k=a):EP X pQ O Q (.bool a) s:=by
  subst e;exact⟨.bl k,H,I,rfl,q⟩
def op_eq:OpR X (bh .Eq) rEq:=by
  intro pQ s O H x y v u Q I c a h;obtain⟨b,q⟩:=h;cases x with
  |non=>
    cases c;cases y with
    |non=>cases a;exact PySem.EqNone.eq_none_none (fin_bl I q (by simp))
    |bl j=>cases a;exact PySem.EqNone.eq_none_bool (fin_bl I q (by simp))
    |int j=>obtain⟨t',rfl⟩:=a;exact PySem.EqNone.eq_none_int (fin_bl I q (by simp))
    |str j=>obtain⟨t',rfl⟩:=a;exact PySem.EqNone.eq_none_str (fin_bl I q (by simp))
    |_=>exact ar (show ae=ac from b) Bf
  |bl i=>
    cases c;cases y with
    |non=>cases a;exact PySem.EqNone.eq_bool_none (fin_bl I q (by simp))
    |bl j=>cases a;exact eq_bool (fin_bl I q dec_bl)
    |str j=>obtain⟨t',rfl⟩:=a;exact PySem.EqMixed.eq_bool_str (fin_bl I q (by simp))
    |_=>exact ar (show ae=ac from b) Bf
  |int i=>
    obtain⟨t,rfl⟩:=c;cases y with
    |non=>cases a;exact PySem.EqNone.eq_int_none (fin_bl I q (by simp))
    |int j=>obtain⟨t',rfl⟩:=a;exact eq_int (fin_bl I q dec_int)
    |str j=>obtain⟨t',rfl⟩:=a;exact PySem.EqMixed.eq_int_str (fin_bl I q (by simp))
    |_=>exact ar (show ae=ac from b) Bf
  |str i=>
    obtain⟨t,rfl⟩:=c;cases y with
    |non=>cases a;exact PySem.EqNone.eq_str_none (fin_bl I q (by simp))
    |bl j=>cases a;exact PySem.EqMixed.eq_str_bool (fin_bl I q (by simp))
    |int j=>obtain⟨t',rfl⟩:=a;exact PySem.EqMixed.eq_str_int (fin_bl I q (by simp))
    |str j=>obtain⟨t',rfl⟩:=a;exact eq_str (fin_bl I q dec_str)
    |_=>exact ar (show ae=ac from b) Bf
  |byt i=>
    obtain⟨t,rfl⟩:=c;cases y with
    |byt j=>obtain⟨t',rfl⟩:=a;exact W.eq_bytes (fin_bl I q dec_byt)
    |_=>exact ar (show ae=ac from b) Bf
  |_=>cases y<;>exact ar (show ae=ac from b) Bf
def op_ne:OpR X (bh .NotEq) rNe:=by
  intro pQ s O H x y v u Q I c a h;obtain⟨b,q⟩:=h;cases x with
  |non=>
    cases c;cases y with
    |non=>cases a;exact PySem.EqNone.ne_none_none (fin_bl I q (by simp))
    |bl j=>cases a;exact PySem.EqNone.ne_none_bool (fin_bl I q (by simp))
    |int j=>obtain⟨t',rfl⟩:=a;exact PySem.EqNone.ne_none_int (fin_bl I q (by simp))
    |str j=>obtain⟨t',rfl⟩:=a;exact PySem.EqNone.ne_none_str (fin_bl I q (by simp))
    |_=>exact ar (show ae=ac from b) Bf
  |bl i=>
    cases c;cases y with
    |non=>cases a;exact PySem.EqNone.ne_bool_none (fin_bl I q (by simp))
    |bl j=>cases a;exact ne_bool (fin_bl I q (au not dec_bl))
    |str j=>obtain⟨t',rfl⟩:=a;exact PySem.EqMixed.ne_bool_str (fin_bl I q (by simp))
    |_=>exact ar (show ae=ac from b) Bf
  |int i=>
    obtain⟨t,rfl⟩:=c;cases y with
    |non=>cases a;exact PySem.EqNone.ne_int_none (fin_bl I q (by simp))
    |int j=>obtain⟨t',rfl⟩:=a;exact ne_int (fin_bl I q (au not dec_int))
    |str j=>obtain⟨t',rfl⟩:=a;exact PySem.EqMixed.ne_int_str (fin_bl I q (by simp))
    |_=>exact ar (show ae=ac from b) Bf
  |str i=>
    obtain⟨t,rfl⟩:=c;cases y with
    |non=>cases a;exact PySem.EqNone.ne_str_none (fin_bl I q (by simp))
    |bl j=>cases a;exact PySem.EqMixed.ne_str_bool (fin_bl I q (by simp))
    |int j=>obtain⟨t',rfl⟩:=a;exact PySem.EqMixed.ne_str_int (fin_bl I q (by simp))
    |str j=>obtain⟨t',rfl⟩:=a;exact ne_str (fin_bl I q (au not dec_str))
    |_=>exact ar (show ae=ac from b) Bf
  |byt i=>
    obtain⟨t,rfl⟩:=c;cases y with
    |byt j=>obtain⟨t',rfl⟩:=a;exact W.ne_bytes (fin_bl I q (au not dec_byt))
    |_=>exact ar (show ae=ac from b) Bf
  |_=>cases y<;>exact ar (show ae=ac from b) Bf
def op_lt:OpR X (bh .Lt) (rI0 λi j=>.bl (aj (i < j))):=opB0 λ_ _ _ _ _ _ _ q=>lt_int q
def op_le:OpR X (bh .LtE) (rI0 λi j=>.bl (aj (i<=j))):=opB0 λ_ _ _ _ _ _ _ q=>le_int q
def op_gt:OpR X (bh .Gt) (rI0 λi j=>.bl (aj (j < i))):=opB0 λ_ _ _ _ _ _ _ q=>gt_int q
def op_ge:OpR X (bh .GtE) (rI0 λi j=>.bl (aj (j<=i))):=opB0 λ_ _ _ _ _ _ _ q=>ge_int q
def op_in_str:OpR X (bh .In) (λx y H Q=>∃ i j,x=.str i/\y=.str j/\Q (.bl (!(Builtin.Str.occurrences j i 0 j.length 1).isEmpty)) H):=by
  intro pQ s O H x y v u Q I b a h;obtain⟨i,j,rfl,rfl,q⟩:=h;obtain⟨t,rfl⟩:=b;obtain⟨t',rfl⟩:=a;exact in_str (fin_bl I q rfl)
def op_isN:OpR X (bh .Is) (λx y H Q=>y=.non/\Q (.bl (aj (x=.non))) H):=by
  intro pQ s O H x y v u Q I a b h;obtain⟨rfl,q⟩:=h;cases b;refine is_none_gen (fin_bl I q ?_);cases x<;>first
    | (cases a;rfl)
    | (obtain⟨t,rfl⟩:=a;rfl)
def op_notN:OpR X (bh .IsNot) (λx y H Q=>y=.non/\Q (.bl (!decide (x=.non))) H):=by
  intro pQ s O H x y v u Q I a b h;obtain⟨rfl,q⟩:=h;cases b;refine isnot_none_gen (fin_bl I q ?_);cases x<;>first
    | (cases a;rfl)
    | (obtain⟨t,rfl⟩:=a;rfl)
def pe_cmpR{r:R2}(f:OpR X (bh op) r)(j:PE X a ta)(i:PE X b tb)(g:behindInMarks op b=ae):PE X (.Compare a [op] [b] pos) (tOp r ta tb):=by
  intro pQ s O H Q I h;exact wpAny_Compare1 (binT j i I h λv u c x y l k e d q=>f pQ c O l x y v u Q k e d q) g
def tTest(t:TE):TT:=λO H Q=>t O H λx a=>∃ k,x=.bl k/\Q k a
def pt_cmpR{r:R2}(n:OpR X (bh op) r)(q:PE X a ta)(p:PE X b tb)(o:behindInMarks op b=ae):PT X (.Compare a [op] [b] pos) (tTest (tOp r ta tb)):=by
  intro pQ s O H Q I h;refine wpAny_isTrue_Compare1 (thn (q pQ s O H _ I h) λv s1 ⟨x,D,A,i,m⟩=>thn (p pQ s1 O D _ A m) λu d ⟨y,C,w,g,l⟩=>
    thn (n pQ d O C x y v u _ w i g l) λc E ⟨z,B,t,f,k,e,j⟩=>?_) o
  subst e;cases f;exact wpAny_truthy_bool ⟨B,t,j⟩
def line63:(aw:Nat) < 2 ^ 63:=by rw[sizeLine_eq];decide
def op_add_str:OpR X (bo .Add) (λx y H Q=>∃ i j,x=.str i/\y=.str j/\i.length+j.length<=aw/\Q (.str (i++j)) H):=by
  intro pQ s O H x y v u Q I b a h;obtain⟨i,j,rfl,rfl,c,q⟩:=h;obtain⟨t,rfl⟩:=b;obtain⟨t',rfl⟩:=a;exact add_str (λt' d=>⟨.str (i++j),H,I.tok _,⟨_,rfl⟩,q⟩) c
def vals1{x:V}(r:Vals [x] us):∃ u,us=[u]/\RelV x u:=by
  cases r with
  |cons b a=>cases a;exact⟨_,rfl,b⟩
def vals2{x y:V}(r:Vals [x,y] us):∃ u a,us=[u,a]/\RelV x u/\RelV y a:=by
  cases r with
  |cons e d=>
    cases d with
    |cons c b=>cases b;exact⟨_,_,rfl,e,c⟩
def call_max2(b:X.calm=ac):CallR X (.builtin "max") (λxs H Q=>∃ i j,xs=[.int i,.int j]/\Q (.int (if j > i then j else i)) H):=by
  intro pQ s O H xs us Q I r h;obtain⟨i,j,rfl,q⟩:=h;obtain⟨u,c,rfl,⟨t,rfl⟩,⟨t',rfl⟩⟩:=vals2 r;refine max_two_ints (I.ok.hd b) λe d k=>⟨_,H,I.kept k,?_,q⟩
  by_cases a:j > i
  . rw[ao a,ao a];exact⟨_,rfl⟩
  . rw[aq a,aq a];exact⟨_,rfl⟩
def call_min2(b:X.calm=ac):CallR X (.builtin "min") (λxs H Q=>∃ i j,xs=[.int i,.int j]/\Q (.int (if j < i then j else i)) H):=by
  intro pQ s O H xs us Q I r h;obtain⟨i,j,rfl,q⟩:=h;obtain⟨u,c,rfl,⟨t,rfl⟩,⟨t',rfl⟩⟩:=vals2 r;refine min_two_ints (I.ok.hd b) λe d k=>⟨_,H,I.kept k,?_,q⟩
  by_cases a:j < i
  . rw[ao a,ao a];exact⟨_,rfl⟩
  . rw[aq a,aq a];exact⟨_,rfl⟩
def call_int1:CallR X (.type "int") (λxs H Q=>(∃ i,xs=[.int i]/\Q (.int i) H)\/∃ k,xs=[.bl k]/\Q (.int (if k then 1 else 0)) H):=by
  intro pQ s O H xs us Q I r h;rcases h with⟨i,rfl,q⟩|⟨k,rfl,q⟩
  . obtain⟨u,rfl,t,rfl⟩:=vals1 r
    exact call_int_int ⟨.int i,H,I,⟨_,rfl⟩,q⟩
  . obtain⟨u,rfl,a⟩:=vals1 r
    cases a;exact call_int_bool ⟨.int (if k then 1 else 0),H,I.tok _,⟨_,rfl⟩,q⟩
def LenV(K:Fg)(x:V)(H:Hp)(n:Nat):Prop:=
  match x with
  |.str y=>y.length<=aw/\n=y.length
  |.byt y=>y.size<=aw/\n=y.size
  |.ref p=>(∃ xs,SqL K H p xs/\n=xs.length)\/∃ xs,SqT K H p xs/\n=xs.length
  |_=>False
def call_len:CallR X (.builtin "len") (λxs H Q=>∃ x n,xs=[x]/\LenV X.K x H n/\Q (.int n) H):=by
  intro pQ s O H xs us Q I r h;obtain⟨x,n,rfl,e,q⟩:=h;obtain⟨u,rfl,c⟩:=vals1 r;have m:=line63;have l:aw=16777216:=sizeLine_eq;cases x with
  |str y=>
    obtain⟨t,rfl⟩:=c;obtain⟨k,b⟩:y.length<=aw/\n=y.length:=e;subst b;exact len_str (by omega) ⟨.int _,H,I.tok _,⟨_,rfl⟩,q⟩
  |byt y=>
    obtain⟨t,rfl⟩:=c;obtain⟨k,b⟩:y.size<=aw/\n=y.size:=e;subst b;exact W.len_bytes (by omega) ⟨.int _,H,I.tok _,⟨_,rfl⟩,q⟩
  |ref p=>
    cases c;have b:(∃ xs,SqL X.K H p xs/\n=xs.length)\/∃ xs,SqT X.K H p xs/\n=xs.length:=e;rcases b with⟨xs,i,b⟩|⟨xs,i,b⟩
    . subst b
      obtain⟨g,d,f,j⟩:=I.list i;have a:=d.length;exact Calls.call_len_list f.isList (by simp only[aG];omega) ⟨.int xs.length,H,I.tok _,⟨_,by simp only[aG];rw[a]⟩,q⟩
    . subst b
      obtain⟨g,d,f,j⟩:=I.tuple i;have a:=d.length;exact len_tuple f (by simp only[aG];omega) ⟨.int xs.length,H,I.tok _,⟨_,by simp only[aG];rw[a]⟩,q⟩
  |_=>exact(show False from e).elim
end
structure ObjM(h:bf)(x dx C:Addr)(mA:Str->Option Value):Prop where
  obj:h.get? x=aa (W.instObj C dx)
  ns:h.Ns1 dx mA
  ne:dx≠x
variable{mA:Str->Ot vL}
def lookIn_ns{f:Ad}(n:h.Ns1 f mA):∃ d,h.get? f=aa d/\∀ b,W.lookIn b d=aa (mA b):=by
  obtain⟨o,es,p,i,l,k,_,j⟩:=n;refine⟨o,i,λb=>?_⟩
  have e:=j b;unfold nsFind findBy at e;rw[<-Array.find?_toList]at e;unfold W.lookIn;rw[l];dsimp only;split
  . rename_i y q
    rw[q]at e;exact au aa e
  . rename_i q
    rw[q]at e;have a:es.toList.any (·.refKey)=ae:=by
      rw[List.any_eq_false];intro y g;obtain⟨z,t,c⟩:=k y (Array.mem_toList_iff.mp g);simp[DictEntry.refKey,c]
    have m:¬es.toList.any (·.refKey)=ac:=by rw[a];exact Bf
    rw[aq m];exact au aa e
def ObjM.look{x c C:Ad}(I:ObjM h x c C mA):∃ b,W.InstAt h x (W.instObj C c) C (aa b)/\∀ a,W.lookIn a b=aa (mA a):=
  let ⟨b,ho,hl⟩:=lookIn_ns I.ns
  ⟨b,⟨I.obj,rfl,rfl,ho⟩,hl⟩
variable{pl:Sem Bool}
variable{A:bm}{K:Fg}{dx C f:Ad}{mA:Str->Ot vL}
section
variable{prog:a1}{name:Str}{v:vL}
def get_meth{Q:vL×Li vL->Sd->Prop}(X:K.In s.heap)(I:ObjM s.heap x dx C mA)(a:W.plainGet K C name=ac)(g:W.findIn K (.ref C) name=aa (aa (.ref f)))(d:W.isFn K (.ref f)=ac)(c:mA name=ab)(h:Q (.ref f,[.ref x]) s) :
    az (a0 prog w) A (getMethod (.ref x) name pl) Q E s:=by
  obtain⟨b,J,e⟩:=I.look;exact W.method_fn X J (W.plainGet_of a).1 (W.plainGet_of a).2 g (beq_iff_eq.mp d) (by show(W.lookIn name b).map (·.isSome)=aa ae;rw[e,c];rfl) h
end
def RelO.some_of{v:V}{o:Ot vL}(r:RelO (aa v) o):∃ u,o=aa u/\RelV v u:=by
  cases o with
  |none=>exact(show False from r).elim
  |some u=>exact⟨u,rfl,r⟩
def RelO.none_of{o:Ot vL}(r:RelO ab o):o=ab:=by
  cases o with
  |none=>rfl
  |some u=>exact(show False from r).elim
variable{fs:Li (Str×V)}
section
variable{fs':Li (Str×V)}
def ins_get(hok:HOk P w H h)(e:H a=aa (.ins C dx fs)):∃ mA,ObjM h a dx C mA/\(∀ f,RelO (fs.lookup f) (mA f))/\PySem.Within mA (fs.map (·.1))/\fs.length<=1000/\H dx=aa (.own a):=by
  obtain⟨d,z,c,b,mA,n,r,q⟩:=(show ObjOk P w H h a (.ins C dx fs) from hok a _ e);exact⟨mA,⟨b,n,c⟩,r,q,z,d⟩
end
structure Cls(K:Fg)(C:Addr):Prop where
  pg:W.plainGet K C Str.empty=ac
  hd:W.hasDictIn K C=ac
  po:W.plainOver K C=ac
  sa:W.findIn K (.ref C) "__setattr__"=aa (aa (.builtin "object.__setattr__"))
def Cls.get{C:Ad}(c:Cls K C)(f:Str):W.plainGet K C f=ac:=c.pg
structure Con(K:Fg)(C:Addr)(f:Str)(v:V)(u:Value):Prop where
  at_:W.findIn K (.ref C) f=aa (aa u)
  rel:RelV v u
  get:W.specialIn K u "__get__"=aa ab
  cp:W.copiedNames.contains f=ae
structure Meth(K:Fg)(C:Addr)(m:Str)(f:Addr):Prop where
  at_:W.findIn K (.ref C) m=aa (aa (.ref f))
  fn:W.isFn K (.ref f)=ac
  kp:W.keepIn K (.ref f)=ac
section
variable{f:Str}{v:V}
def getmeth_ok{m:Str}{g:Ad}{Q:vL×Li vL->Sd->Prop}(I:Inv X pQ O H s)(e:H a=aa (.ins C dx fs))(c:Cls X.K C)(k:Meth X.K C m g)(l:fs.lookup m=ab)(h:Q (.ref g,[.ref a]) s):az (a0 X.prog X.w) A (getMethod (.ref a) m pl) Q E s:=by
  obtain⟨mA,d,r,_,_,_⟩:=ins_get I.hok e;have b:mA m=ab:=RelO.none_of (by rw[<-l];exact r m)
  exact get_meth I.kIn d (c.get m) k.at_ k.fn b h
def Inv.made(I:Inv X pQ O H s):Inv X pQ O (upd (upd H s.heap.objs.size (.own (s.heap.objs.size+1))) (s.heap.objs.size+1) (.ins C s.heap.objs.size []))
    { s with heap:=(s.heap.push W.emptyDict).push (W.instObj C s.heap.objs.size) }:=by
  have d:(s.heap.push W.emptyDict).get? s.heap.objs.size=aa W.emptyDict:=aX s.heap rfl;have i:((s.heap.push W.emptyDict).push (W.instObj C s.heap.objs.size)).get? (s.heap.objs.size+1)=aa (W.instObj C s.heap.objs.size):=by
    have:=aX (s.heap.push W.emptyDict) (o:=W.instObj C s.heap.objs.size) rfl
    rwa [Heap.size_push]at this
  have h:(s.heap.push W.emptyDict).Ns s.heap.objs.size (λ_=>ab):=⟨W.emptyDict,#[],_,d,rfl,(λe g=>ar g (by simp)),λ_=>rfl⟩
  have j:=I.laid (a:=s.heap.objs.size) (o:=.own (s.heap.objs.size+1)) (h':=s.heap.push W.emptyDict) (t':=s.toks) (λb u q=>aO _ q) (aE _) ⟨_,d⟩
  refine j.laid (a:=s.heap.objs.size+1) (o:=.ins C s.heap.objs.size []) (t':=s.toks) (λb u q=>aO _ q) (dA (Heap.size_push _ _)) ?_
  have c:s.heap.objs.size≠s.heap.objs.size+1:=aW (bL _);refine⟨by rw[upd_ne c,upd_same],aS _,c,i,λ_=>ab,(Heap.Ns1.of_empty h).at λo q=>aO _ q,λ_=>True.intro,λy f=>ar rfl f⟩
end
variable{o:ax}
section
variable{value:ax}{f:Str}{pos' tpos:Pos}{tv:TE}
end
variable{Q:vL->Sd->Prop}
section
variable{c:vL}{b:Bool}
inductive TyOf(K:Fg)(H:Hp):V->Value->Prop where
  |non:TyOf K H .non (.type "NoneType")
  |bl (x:Bool):TyOf K H (.bl x) (.type "bool")
  |int (i:Int):TyOf K H (.int i) (.type "int")
  |str (x:Str):TyOf K H (.str x) (.type "str")
  |flt (x:UInt64):TyOf K H (.flt x) (.type "float")
  |lst {a:Addr}{xs:List V} (e:H a=aa (.lst xs)):TyOf K H (.ref a) (.type "list")
  |frz {a:Addr}{o:Obj}{xs:List V} (e:H a=aa (.frz o (.lst xs))):TyOf K H (.ref a) (.type "list")
  |tup {a:Addr}{xs:List V} (e:H a=aa (.tup xs)):TyOf K H (.ref a) (.type "tuple")
  |dK {a:Addr}{kvs:List (Key×V)} (e:H a=aa (.dK kvs)):TyOf K H (.ref a) (.type "dict")
  |dT {a:Addr}{kvs:List (List Key×V)} (e:H a=aa (.dT kvs)):TyOf K H (.ref a) (.type "dict")
  |ins {a C dx:Addr}{fs:List (Str×V)} (e:H a=aa (.ins C dx fs)) (cl:Cls K C) (ha:W.findIn K (.ref C) "__class__"=aa (aa (.builtin "object.__class__")))
      (hn:W.specialIn K (.builtin "object.__class__") "__get__"=aa (aa (.builtin "getset_descriptor.__get__"))) (htk:W.takesIn K (.builtin "object.__class__")=aa ac)
      (hm:W.mroIn K C (.type "object")=aa ac):TyOf K H (.ref a) (.ref C)
def isinst_ok{x:V}{u t:vL}(I:Inv X pQ O H s)(d:RelV x u)(ty:TyOf X.K H x t)(e:W.kitOne X.K t c=aa b)(h:∀ r,Q (.bool b) { s with toks:=r }) :
    az (a0 X.prog X.w) A (call (.builtin "isinstance") [u,c]) Q E s:=by
  cases ty with
  |non=>cases (show u=br from d);exact W.kia_one W.kitx_none I.kIn True.intro e (λz=>nomatch z) h
  |bl y=>cases (show u=Value.bool y from d);exact W.kia_one W.kitx_bool I.kIn True.intro e (λz=>nomatch z) h
  |int i=>obtain⟨t,q⟩:=(show ∃ t,u=Value.int i t from d);cases q;exact W.kia_one W.kitx_int I.kIn True.intro e (λz=>nomatch z) h
  |str y=>obtain⟨t,q⟩:=(show ∃ t,u=Value.str y t from d);cases q;exact W.kia_one W.kitx_str I.kIn True.intro e (λz=>nomatch z) h
  |flt y=>obtain⟨t,q⟩:=(show ∃ t,u=Value.float y t from d);cases q;exact W.kia_one W.kitx_float I.kIn True.intro e (λz=>nomatch z) h
  |@lst a xs f=>
    cases (show u=bq a from d)
    obtain⟨_,_,n,_,g⟩:=(show ObjOk X.prog X.w H s.heap a (.lst xs) from I.hok a _ f);exact W.kia_one W.kitx_list I.kIn ⟨_,g,rfl⟩ e (λz=>nomatch z) h
  |@frz a v xs f=>
    cases (show u=bq a from d)
    obtain⟨_,_,_,n,_,g⟩:=(show ObjOk X.prog X.w H s.heap a (.frz v (.lst xs)) from I.hok a _ f);exact W.kia_one W.kitx_list I.kIn ⟨_,g,rfl⟩ e (λz=>nomatch z) h
  |@tup a xs f=>
    cases (show u=bq a from d)
    obtain⟨_,_,_,p⟩:=(show ObjOk X.prog X.w H s.heap a (.tup xs) from I.hok a _ f);obtain⟨o,g,k,_⟩:=p;exact W.kia_one W.kitx_tuple I.kIn ⟨o,g,k⟩ e (λz=>nomatch z) h
  |@dK a j f=>
    cases (show u=bq a from d)
    obtain⟨_,_,M,_,p⟩:=(show ObjOk X.prog X.w H s.heap a (.dK j) from I.hok a _ f);obtain⟨o,es,G,g,k,_⟩:=p;exact W.kia_one W.kitx_dict I.kIn ⟨o,g,k.1⟩ e (λz=>nomatch z) h
  |@dT a j f=>
    cases (show u=bq a from d)
    obtain⟨_,_,xs,_,o,es,G,g,k,_⟩:=(show ObjOk X.prog X.w H s.heap a (.dT j) from I.hok a _ f);exact W.kia_one W.kitx_dict I.kIn ⟨o,g,k.1⟩ e (λz=>nomatch z) h
  |@ins a C P fs f m F B l D=>
    cases (show u=bq a from d)
    obtain⟨mA,L,_⟩:=ins_get I.hok f;obtain⟨N,J,_⟩:=L.look;exact W.kia_one (W.kitx_own (m.get _) m.hd F B l D) I.kIn J e (λz=>nomatch z) h
end
structure Room(k:Nat)(A:bm):Prop where
  hd:A.handled=ab
  dp:A.depth+3 * k+5 < recursionLimit
  un:A.units+16 * k+200 < cLine
variable{k:Nat}
theorem Room.deeper(r:Room (k+1) A)(env:Env):Room k (A.deeper env):=
  ⟨r.hd,by have:=r.dp;show A.depth+1+3 * k+5 < _;omega,by have:=r.un;show A.units+3+16 * k+200 < _;omega⟩
theorem Room.depth(r:Room k A):A.depth < recursionLimit:=by have:=r.dp;omega
theorem Room.units(r:Room k A):A.units+64 < cLine:=by have:=r.un;omega
def tNil:TA:=λ_ H Q=>Q [] H
def tCons(a:TE)(tr:TA):TA:=λO H Q=>a O H λx c=>tr O c λxs b=>Q (x :: xs) b
variable{es:Li ax}{t:TA}
def pa_nil:PA X [] tNil:=λ_ _ _ _ H Q I h=>Calls.spliced_nil ⟨[],H,I,.nil,h⟩
def pa_cons(i:PE X e te)(g:PA X es t)(f:a5 (e :: es) X.env=(ae,eval e X.env) :: a5 es X.env:=by rfl):PA X (e :: es) (tCons te t):=by
  intro pos pQ s O H Q I h;rw[f];show az _ _ (spliced ((ae,eval e X.env) :: backTo pos (a5 es X.env))) _ _ s;refine Calls.spliced_cons (thn (i pQ s O H _ I h) λu s1 ⟨x,m,k,b,d⟩=>?_)
  exact thn (g pos pQ s1 O m _ k d) λus n ⟨xs,l,j,a,c⟩=>⟨x :: xs,l,j,.cons b a,c⟩
def tTup(t:TA):TE:=λO H Q=>t O H λxs a=>xs.length<=aw/\∀ p,a p=ab->Q (.ref p) (upd a p (.tup xs))
def tLst(t:TA):TE:=λO H Q=>t O H λxs a=>xs.length<=aw/\∀ p,a p=ab->Q (.ref p) (upd a p (.lst xs))
def pe_tup{x1}(h:PA X es t):PE X (.Tuple es x1 pos) (tTup t):=by
  intro pQ s O H Q I d;refine wpAny_Tuple_spliced (thn (h pos pQ s O H _ I d) λus s1 ⟨xs,c,a,r,z,q⟩=>⟨by rw[<-r.length];exact z,?_⟩)
  have f:c s1.heap.objs.size=ab:=a.hok.fresh (aE _);refine⟨.ref s1.heap.objs.size,upd c s1.heap.objs.size (.tup xs),a.laid (t':=s1.toks) (λb u e=>aO _ e) (aE _) ?_,rfl,q _ f⟩
  exact⟨z,us,r,⟨_,aX _ rfl,rfl,_,rfl⟩⟩
def pe_lst(h:PA X es t):PE X (.List es pos) (tLst t):=by
  intro pQ s O H Q I d;refine wpAny_List_spliced (thn (h pos pQ s O H _ I d) λus s1 ⟨xs,c,a,r,z,q⟩=>⟨by rw[<-r.length];exact z,?_⟩)
  have f:c s1.heap.objs.size=ab:=a.hok.fresh (aE _);refine⟨.ref s1.heap.objs.size,upd c s1.heap.objs.size (.lst xs),a.laid (t':=s1.toks) (λb u e=>aO _ e) (aE _) ?_,rfl,q _ f⟩
  exact⟨z,us,0,r,aX _ rfl⟩
abbrev Sp:=Li V->Hp->VK->XK->Prop
abbrev CXT:=Li Env->Hp->Sd->XK->vL->Sd->Prop
structure Env0(P:a1)(w:bg)(K:Fg)(mg:Str->Option Value)(base:bf)(A:bm)(outer:List Env)(s:Shared)(H:Hp):Prop where
  frames:A.frames=aa outer
  mod:Mod K mg base
  bs:∀ b o,base.get? b=aa o->s.heap.get? b=aa o/\H b=ab
  bsz:base.objs.size<=s.heap.objs.size
  funs:s.heap.FunFrames base outer
  frf:∀ b∈frs outer,H b=ab
  hok:HOk P w H s.heap
  bare:AllBare s.gens
def CE(outer:Li Env)(P:a1)(w:bg)(H:Hp)(s:Sd)(Q:VK)(u:vL)(a:Sd):Prop:=
  ∃ v b,a.os=s.os/\AllBare a.gens/\Un (frs outer) [] H b s.heap a.heap/\HOk P w b a.heap/\RelV v u/\Q v b
def CR(CX:CXT)(outer:Li Env)(P:a1)(w:bg)(H:Hp)(s:Sd)(Q:VK)(E:XK)(r:Result)(a:Sd):Prop:=
  match r with
  |.ok (.ret u)=>CE outer P w H s Q u a
  |.ok _=>False
  |.error e=>CX outer H s E e a
structure FnOk(P:a1)(w:bg)(K:Fg)(mg:Str->Option Value)(base:bf)(CX:CXT)(k:Nat)(f:Addr)(fd:bc)(ps:List Str)(sp:Sp):Prop where
  len:∀ vs H Q E,sp vs H Q E->vs.length=ps.length
  run:∀ (A:bm) (outer:List Env) (s:Shared) (H:Hp) (args:Args) (us:List Value) (vs:List V) (Q:VK) (E:XK),Room k A->Env0 P w K mg base A outer s H->BindsTo s fd args (ps.zip us)->Vals vs us->sp vs H Q E->
    codeAny (a0 P w) A (.call (.ref f) args) (CR CX outer P w H s Q E) s
section
variable{s':Sd}
def Inv.env0(I:Inv X pQ O H s):Env0 X.prog X.w X.K X.mg X.base X.A X.stack s H:=
  ⟨I.ok.frames,I.ok.mod,I.bs,aR I.ok.bsz I.sz,I.stack,I.stkFree,I.hok,I.bare⟩
def Inv.after{Q:VK}{u:vL}(I:Inv X pQ O H s)(h:CE X.stack X.prog X.w H s Q u s'):EP X pQ O Q u s':=by
  obtain⟨v,j,f,a,un,e,r,q⟩:=h;obtain⟨i,g,d,t,c⟩:=s';obtain rfl:c=s.os:=f;exact⟨v,j,I.call (h':=i) (g':=g) (d':=d) (t':=t) (ch:=[]) un e a (λb z=>ar z (by simp)),r,q⟩
end
def tCall(c:Sp)(a:Li V)(E:XK)(t:TA):TE:=λO H Q=>t O H λb d=>c (b++a) d Q E
def Binds(K:Fg)(fd:bc)(a:Li Str)(b:Li vL):Prop:=
  ∀ (s:Sd) (us:Li vL),K.In s.heap->(us++b).length=a.length->BindsTo s fd ⟨us,[]⟩ (a.zip (us++b))
variable{ps:Li Str}
def Binds.all{fd:bc}(h:∀ us:Li vL,us.length=ps.length->bindArgs fd ⟨us,[]⟩=pure (ps.zip us)):Binds K fd ps []:=λs us _ a=>by
  rw[bG]at a ⊢;exact .of_eq (h us a)
def Passes(CX:CXT)(X:Cx)(E:XK):Prop:=∀ (pQ:Li (Ad×Obj)) (O:St) (H:Hp) (s:Sd) (e:vL) (s':Sd),Inv X pQ O H s->CX X.stack H s E e s'->X.xe e s'
variable{vs:Li V}
variable{CX:CXT}{k:Nat}{fd:bc}{ps:Li Str}{sp:Sp}{m:Str}{p apos:Pos}
section
variable{dvs:Li V}{ds:Li vL}{E:XK}{x:Str}
def run_fn{O:St}{Q:VK}(F:FnOk X.prog X.w X.K X.mg X.base CX k f fd ps sp)(g:Room k X.A)(j:Binds X.K fd ps ds)(hd:Vals dvs ds)(d:Passes CX X E)(I:Inv X pQ O H s)(r:Vals vs us)(h:sp (vs++dvs) H Q E):az (a0 X.prog X.w) X.A (call (.ref f) us) (EP X pQ O Q) X.xe s:=by
  have b:Vals (vs++dvs) (us++ds):=r.append hd;have i:(us++ds).length=ps.length:=by rw[<-b.length];exact F.len _ _ _ _ h
  refine wpAny_call (codeAny_mono (F.run X.A X.stack s H ⟨us,[]⟩ (us++ds) (vs++dvs) Q E g I.env0 (j s us I.kIn i) b h) λr c a=>?_)
  cases r with
  |error e=>exact d pQ O H s e c I a
  |ok l=>
    cases l with
    |ret u=>exact I.after a
    |next=>exact False.elim a
    |brk=>exact False.elim a
    |cont=>exact False.elim a
def pe_call(F:FnOk X.prog X.w X.K X.mg X.base CX k f fd ps sp)(g:Room k X.A)(l:Gl X x)(i:X.mg x=aa (.ref f))(j:W.keepIn X.K (.ref f)=ac)(n:Binds X.K fd ps ds)(hd:Vals dvs ds)(d:Passes CX X E)(o:PA X (e :: es) t)(b:(x==("__debug__":Str))=ae:=by decide)(m:a5 (e :: es) X.env=(ae,eval e X.env) :: a5 es X.env:=by rfl)(a:(backTo pos (a5 es X.env)).any (·.1)=ae:=by rfl) :
    PE X (.Call (.Name x p) (e :: es) [] pos) (tCall sp dvs E t):=by
  intro pQ s O H Q I h;refine wpAny_Call_Name_kw (ld_glob I l i ?_ b);refine W.callWith_K (h₀:=X.base) I.ok.mod.kin j (thn (o pos pQ s O H _ I h) λus s1 ⟨vs,u,c,r,q⟩=>⟨c.kIn,?_⟩) m a
  exact run_fn F g n hd d c r q
def pe_call0(F:FnOk X.prog X.w X.K X.mg X.base CX k f fd ps sp)(c:Room k X.A)(g:Gl X x)(d:X.mg x=aa (.ref f))(e:W.keepIn X.K (.ref f)=ac)(i:Binds X.K fd ps ds)(hd:Vals dvs ds)(b:Passes CX X E)(a:(x==("__debug__":Str))=ae:=by decide):PE X (.Call (.Name x p) [] [] pos) (tCall sp dvs E tNil):=by
  intro pQ s O H Q I h;refine wpAny_Call_Name_kw (ld_glob I g d ?_ a);exact W.callWith_K0 I.kIn e (run_fn (us:=[]) F c i hd b I .nil h)
structure Mk(K:Fg)(C f:Addr):Prop where
  makes:W.makesIn K C=ac
  init:W.findIn K (.ref C) "__init__"=aa (aa (.ref f))
  fn:W.isFn K (.ref f)=ac
  kp:W.keepIn K (.ref C)=ac
end
section
variable{ks:Li Str}{E:XK}{x:Str}{kpos:Pos}{kws:Li Keyword}{tk:TA}{nm:Ot Str}
structure KBinds(K:Fg)(fd:bc)(ps ks:List Str)(g:List Value->List Value->List Value)(gV:List V->List V->List V):Prop where
  to:∀ (s:Shared) (us ws:List Value),K.In s.heap->(g us ws).length=ps.length->BindsTo s fd ⟨us,ks.zip ws⟩ (ps.zip (g us ws))
  rel:∀ {vs:List V}{us:List Value}{zs:List V}{ws:List Value},Vals vs us->Vals zs ws->Vals (gV vs zs) (g us ws)
variable{g:Li vL->Li vL->Li vL}{gV:Li V->Li V->Li V}
end
structure FnScope(N P:List Str)(sc:a7):Prop where
  kind:sc.kind=.function
  co:sc.isCoroutine=ae
  gen:sc.isGenerator=ae
  nd:N.Nodup
  pre:N.take P.length=P
  par:∀ x∈P,sc.names.lookup x=aa .local\/sc.names.lookup x=aa .cell
  nofree:∀ y∈sc.names,y.2≠.free
theorem bindL_out{a:Str->Ot NameKind}{x:Str}:∀ {binds:Li (Str×vL)}{m:Str->Ot vL},(∀ v,(x,v)∉binds)->bindL a binds m x=m x
  |[],_,_=>rfl
  | (n,v) :: r,m,h=>by
    unfold bindL;rw[bindL_out λw b=>h w (Lm _ b)]
    split
    . have:x≠n:=by rintro rfl;exact h v Ls
      simp[this]
    . rfl
theorem bindC_out{a:Str->Ot NameKind}{x:Str}:∀ {binds:Li (Str×vL)}{m:Str->Ot vL},(∀ v,(x,v)∉binds)->bindC a binds m x=m x
  |[],_,_=>rfl
  | (n,v) :: r,m,h=>by
    unfold bindC;rw[bindC_out λw b=>h w (Lm _ b)]
    split
    . rfl
    . have:x≠n:=by rintro rfl;exact h v Ls
      simp[this]
theorem bindL_get{a:Str->Ot NameKind}{x:Str}{v:vL}:∀ {P:Li Str}{vs:Li vL}{i:Nat}{m:Str->Ot vL},P.Nodup->P[i]?=aa x->vs[i]?=aa v->a x=aa .local->
    bindL a (P.zip vs) m x=aa v
  |[],_,_,_,_,h,_,_=>by simp at h
  |_ :: _,[],_,_,_,_,h,_=>by simp at h
  |p :: P,w :: vs,0,m,d,c,b,e=>by
    simp at c b;subst c;subst b;show bindL a ((p,w) :: P.zip vs) m p=_;unfold bindL;rw[bindL_out λv f=>(bM.mp d).1 (dS f).1,ao e]
    simp
  |p :: P,w :: vs,i+1,m,d,c,b,e=>by
    show bindL a ((p,w) :: P.zip vs) m x=_;unfold bindL;exact bindL_get (i:=i) (bM.mp d).2 (by simpa using c) (by simpa using b) e
theorem bindC_get{a:Str->Ot NameKind}{x:Str}{v:vL}:∀ {P:Li Str}{vs:Li vL}{i:Nat}{m:Str->Ot vL},P.Nodup->P[i]?=aa x->vs[i]?=aa v->a x≠aa .local->
    bindC a (P.zip vs) m x=aa v
  |[],_,_,_,_,h,_,_=>by simp at h
  |_ :: _,[],_,_,_,_,h,_=>by simp at h
  |p :: P,w :: vs,0,m,d,c,b,e=>by
    simp at c b;subst c;subst b;show bindC a ((p,w) :: P.zip vs) m p=_;unfold bindC;rw[bindC_out λv f=>(bM.mp d).1 (dS f).1,aq e]
    simp
  |p :: P,w :: vs,i+1,m,d,c,b,e=>by
    show bindC a ((p,w) :: P.zip vs) m x=_;unfold bindC;exact bindC_get (i:=i) (bM.mp d).2 (by simpa using c) (by simpa using b) e
noncomputable def start(N:Li Str)(vs:Li V):St:=vs.map aa++af (N.length - vs.length) ab
noncomputable def cxOf(CX:CXT)(P:a1)(w:bg)(K:Fg)(mg:Str->Ot vL)(base:bf)(N:Li Str)(a:Str)(scope:a7)(f:Ad)(c:vL)(A:bm)(outer:Li Env)(s:Sd)(H:Hp)(E:XK):Cx where
  prog:=P
  w:=w
  K:=K
  mg:=mg
  base:=base
  A:=A.deeper (envOfC a scope s.heap.objs.size f c)
  N:=N
  s₀:=s
  H₀:=H
  env:=envOfC a scope s.heap.objs.size f c
  outer:=outer
  stack:=envOfC a scope s.heap.objs.size f c :: outer
  ex:=[]
  calm:=ac
  fn:=λ_=>ac
  pn:=[]
  xe:=λe d=>az (a0 P w) (A.deeper (envOfC a scope s.heap.objs.size f c)) (leaving (envOfC a scope s.heap.objs.size f c) e) (λ_ b=>CX outer H s E e b) (λg b=>CX outer H s E g b) d
def cell_has{sc:a7}{x:Str}(h:sc.names.lookup x=aa .cell):∃ c,(cellsFrom n sc.names []).lookup x=aa c:=by
  have q:=W.cellsFrom_some sc.names n [] (.inl h);exact Option.isSome_iff_exists.mp q
variable{mg:Str->Ot vL}{base:bf}
def inv_start{CX:CXT}{P:a1}{d:Str}{scope:a7}{f:Ad}{C:vL}{outer:Li Env}{s1:Sd}{E:XK}(S:FnScope N ps scope)(hd:A.handled=ab)(j:Env0 P w K mg base A outer s H)(L:vs.length=ps.length)(r:Vals vs us)(x:InCallC s s.heap.objs.size (bindL (envOfC d scope s.heap.objs.size f C).kindOf (ps.zip us) λ_=>ab) (cellsFrom (s.heap.objs.size+1) scope.names []) (bindC (envOfC d scope s.heap.objs.size f C).kindOf (ps.zip us) λ_=>ab) s1) :
    Inv (cxOf CX P w K mg base N d scope f C A outer s H E) [] (start N vs) H s1:=by
  have G:ps.length<=N.length:=by have:=au List.length S.pre;rw[cM]at this;omega
  obtain⟨B,J,rfl,F⟩:=x.done;have l:∀ b:Ad,b∉(cxOf CX P w K mg base N d scope f C A outer s H E).ex:=λb z=>ar (show b∈([]:Li Ad) from z) (by simp)
  refine⟨⟨j.mod,S.kind,rfl,rfl,aE _,λy z c B g=>?_,λy hy=>?_,λy c _ h=>?_,λ_=>hd,Around.frames_deeper j.frames,.inr ⟨rfl,rfl⟩,λb z=>ar z (l b),j.bs,j.bsz,λb _ _=>l b,λb z=>ar z (l b),j.funs,j.frf⟩,
    rfl,j.bare,Un.kept F,⟨_,x.toInCall.ns,λi y v B g M=>?_⟩,λy c h=>⟨_,x.cell y c h⟩,j.hok.fresh (aE _),λy c h=>?_,λp o=>ar (show p∈([]:Li (Ad×Obj)) from o) (by simp),j.hok.kept F,?_⟩
  . exact name_of_addr x.apart (PySem.mem_of_lookup B) (PySem.mem_of_lookup g)
  . have hy:scope.names.lookup y=aa .cell\/scope.names.lookup y=aa .free:=hy
    rcases hy with hy|hy
    . exact cell_has hy
    . exact ar rfl (S.nofree _ (PySem.mem_of_lookup hy))
  . exact cV (x.above y c (PySem.mem_of_lookup h))
  . have t:i < vs.length:=by
      unfold start at g;by_cases t:i < vs.length
      . exact t
      . rw[cB (by simpa using t)]at g
        rw[eE]at g;split at g<;>cases g
    have I:vs[i]?=aa v:=by
      unfold start at g;rw[bS (by simpa using t),aV]at g
      cases e:vs[i]? with
      |none=>rw[e]at g;cases g
      |some a=>rw[e]at g;cases g;rfl
    obtain⟨u,D,rv⟩:=r.get I;have o:ps[i]?=aa y:=by
      rw[<-S.pre,List.getElem?_take_of_lt (by omega)];exact B
    have m:ps.Nodup:=by rw[<-S.pre];exact S.nd.sublist (List.take_sublist _ _)
    refine⟨u,rv,?_⟩;rcases S.par y (aT o) with k|k
    . exact .inl ⟨k,bindL_get m o D k⟩
    . obtain⟨c,e⟩:=cell_has (n:=s.heap.objs.size+1) k
      refine .inr ⟨.inl k,c,e,?_⟩;have q:=x.cell y c e;rw[bindC_get m o D (by show scope.names.lookup y≠_;rw[k];decide)]at q
      exact q
  . exact j.hok.fresh (cV (x.above y c (PySem.mem_of_lookup h)))
  . unfold start
    show _=N.length;rw[aI,aD,cX];omega
def fn_of{CX:CXT}{P:a1}{f:Ad}{g a:Str}{d:Arguments}{body:Li Stmt}{scope:a7}{T kV B R c ct oc:vL}{X Z:Ot Ad}{G:Array (Ot vL)}{D:Sp}(lk:K.lookup f=aa ⟨oc,Z,.func (W.fnOf g a d body scope T kV B R X c ct),G⟩)(O:W.codeIn K c a=ac)(S:FnScope N ps scope)(len:∀ vs H Q E,D vs H Q E->vs.length=ps.length)(j:∀ (A:bm) (outer:Li Env) (s:Sd) (H:Hp) (vs:Li V) (Q:VK) (E:XK),Room k (A.deeper (envOfC a scope s.heap.objs.size f c))->D vs H Q E->
      ∃ t,PSs (cxOf CX P w K mg base N a scope f c A outer s H E) body t/\t { nx:=λ_ h=>Q .non h,rt:=Q } (start N vs) H) :
    FnOk P w K mg base CX (k+1) f (W.fnOf g a d body scope T kV B R X c ct) ps D:=by
  refine⟨len,λA outer s H U us vs Q E M z hb r m=>?_⟩
  have hl:=len _ _ _ _ m;have Y:K.In s.heap:=z.mod.kin.keeps λb o e=>(z.bs b o e).1
  have L:s.heap.NoLimit:=z.mod.nolimit.keeps λb o e=>(z.bs b o e).1
  have i:∀ y∈ps.zip us,scope.names.lookup y.1=aa .local\/(scope.names.lookup y.1=aa .cell/\((cellsFrom (s.heap.objs.size+1) scope.names []).lookup y.1).isSome=ac):=λ⟨n,v⟩ hy=>by
    rcases S.par n (dS hy).1 with q|q
    . exact .inl q
    . exact .inr ⟨q,W.cellsFrom_some _ _ _ (.inl q)⟩
  refine codeAny_call_function M.depth (Y _ _ lk) rfl S.co S.gen rfl (W.codeRec_of Y O) (hb _ _ _ _ ?_);refine wpAny_newFunctionEnv_cells S.kind i λenv he s1 x=>?_
  subst he;refine⟨L.keeps x.toInCall.keep,codeAny_func ?_⟩;obtain⟨t,ht,hq⟩:=j A outer s H vs Q E (M.deeper _) m;have I:Inv (cxOf CX P w K mg base N a scope f c A outer s H E) [] (start N vs) H s1:=inv_start S M.hd z hl r x;refine bK (ht [] s1 (start N vs) H _ I hq) (λfl F l=>?_) λe F l=>l
  have p:∀ {C:St}{h:Hp}{v:V}{u:vL},Inv (cxOf CX P w K mg base N a scope f c A outer s H E) [] C h F->RelV v u->Q v h->CE outer P w H s Q u F:=
    λ{C h v u} J rv q=>⟨v,h,J.os,J.bare,J.base,J.hok,rv,q⟩
  cases fl with
  |ret u=>
    obtain⟨v,C,h,J,rv,q⟩:=l;exact p J rv q
  |next=>
    obtain⟨C,h,J,q⟩:=l;exact p (v:=V.non) (u:=br) J rfl q
  |brk=>
    obtain⟨_,_,_,q⟩:=l;exact False.elim q
  |cont=>
    obtain⟨_,_,_,q⟩:=l;exact False.elim q
section
variable{x:Str}{id T:String}{r:Li V->Hp->VK->Prop}
def tCB(r:Li V->Hp->VK->Prop)(t:TA):TE:=λO H Q=>t O H λvs a=>r vs a Q
def pe_callB(l:CallR X (.builtin id) r)(j:Gl X x)(i:X.mg x=ab)(f:a6 x=aa (.builtin id))(m:PA X (e :: es) t)(g:x ≠ "__name__":=by decide)(b:(x==("__debug__":Str))=ae:=by decide)(k:a5 (e :: es) X.env=(ae,eval e X.env) :: a5 es X.env:=by rfl)(a:(backTo pos (a5 es X.env)).any (·.1)=ae:=by rfl):PE X (.Call (.Name x p) (e :: es) [] pos) (tCB r t):=by
  intro pQ s O H Q I h;refine wpAny_Call_Name_kw (ld_blt I j i f ?_ g b);exact PyProof.Rows.callWith_builtin1 (thn (m pos pQ s O H _ I h) λus s1 ⟨vs,o,n,c,d⟩=>l pQ s1 O o vs us Q n c d) k a
def pe_callTy(l:CallR X (.type T) r)(j:Gl X x)(i:X.mg x=ab)(f:a6 x=aa (.type T))(m:PA X (e :: es) t)(g:x ≠ "__name__":=by decide)(b:(x==("__debug__":Str))=ae:=by decide)(k:a5 (e :: es) X.env=(ae,eval e X.env) :: a5 es X.env:=by rfl)(a:(backTo pos (a5 es X.env)).any (·.1)=ae:=by rfl):PE X (.Call (.Name x p) (e :: es) [] pos) (tCB r t):=by
  intro pQ s O H Q I h;refine wpAny_Call_Name_kw (ld_blt I j i f ?_ g b);exact PyProof.Rows.callWith_type1 (thn (m pos pQ s O H _ I h) λus s1 ⟨vs,o,n,c,d⟩=>l pQ s1 O o vs us Q n c d) k a
end
end L2
namespace HT
open PySem PyProof.Rows
section
open PySem.SeqAt
open PySem.AutoSeq1 (wpAny_loadPart')
open PySem.MeetsSeq PySem.MeetsSeq2 PySem.MeetsSeq3
end
variable{Q:vL->Sd->Prop}{lo hi:Ot Int}
section
variable{prog:a1}{w:bg}{A:bm}{E:vL->Sd->Prop}{s:Sd}
def cat_tup{t b:Ad}{d a:Li vL}(v:IsTup s.heap t d.toArray)(x:IsTup s.heap b a.toArray)(p:d≠[])(z:a=[]->Q (.ref t) s)(y:a≠[]->Q (.ref s.heap.objs.size) { s with heap:=s.heap.push { cls:=.type "tuple",data:=.seq (d++a).toArray } })(l:d.length+a.length<=aw):az (a0 prog w) A (bo .Add (.ref t) (.ref b)) Q E s:=by
  obtain⟨⟨cls,dd,data,sl⟩,k,r,n,q⟩:=id v;obtain⟨⟨u,i,m,f⟩,c,h,o,g⟩:=id x;simp only at r q h g;subst r q h g;have e:d.toArray++a.toArray=(d++a).toArray:=by simp
  by_cases j:a=[]
  . exact concat_meets ⟨_,k,rfl⟩ ⟨_,c,rfl⟩ noFill_tuple_add seq_tuple_add PySem.F.slot_tuple_add PySem.F.entry_tuple_add (PySem.F.args_tuple_add_2 _ _)
      (tuple_addW1 t b d.toArray a.toArray n o dd i sl f (by simpa using p) (by simp[j])) ⟨k,c,z j⟩
  . refine concat_meets ⟨_,k,rfl⟩ ⟨_,c,rfl⟩ noFill_tuple_add seq_tuple_add PySem.F.slot_tuple_add PySem.F.entry_tuple_add (PySem.F.args_tuple_add_2 _ _)
      (tuple_addW2 t b d.toArray a.toArray n o dd i sl f (by simpa using p) (by simpa using j) (by rw[aG,aG];exact l)) ⟨k,c,?_⟩
    rw[e];exact y j
noncomputable def sIx(n d:Nat):Ot Int->Nat
  |none=>d
  |some v=>if v < 0 then (v+(n:Int)).toNat else min v.toNat n
def sIx_le(n d:Nat)(hd:d<=n)(o:Ot Int):sIx n d o<=n:=by
  cases o with
  |none=>exact hd
  |some v=>
    show(if v < 0 then (v+(n:Int)).toNat else min v.toNat n)<=n
    by_cases a:v < 0
    . rw[ao a];omega
    . rw[aq a];exact Nat.min_le_right _ _
def clip_eq(v:Int)(n d:Nat):(if v < 0 then max (v+(n:Int)) 0 else min v (n:Int))=((sIx n d (aa v):Nat):Int):=by
  show(if v < 0 then max (v+(n:Int)) 0 else min v (n:Int))=(((if v < 0 then (v+(n:Int)).toNat else min v.toNat n):Nat):Int)
  by_cases a:v < 0
  . simp only[ao a];omega
  . simp only[aq a];omega
def adjust_gen(lo hi:Ot Int)(n:Nat):Builtin.Slice.sliceAdjust lo hi 1 (n:Int)=(((sIx n 0 lo:Nat):Int),((sIx n n hi:Nat):Int)):=by
  have a:¬((1:Int) < 0):=by omega
  unfold Builtin.Slice.sliceAdjust;simp only[a,if_false];refine Prod.ext ?_ ?_
  . cases lo with
    |none=>rfl
    |some v=>exact clip_eq v n 0
  . cases hi with
    |none=>rfl
    |some v=>exact clip_eq v n n
def places_gen(i j:Nat):Builtin.Slice.slicePlaces (i:Int) (j:Int) 1=j - i:=by
  unfold Builtin.Slice.slicePlaces;have a:(1:Int) > 0:=by omega
  simp only[a,if_true,dB];split<;>omega
def slicePart_{v:vL}{o:Ot Int}{Q:Ot Int->Sd->Prop}(p:IsPart v o)(h:Q o s):az (a0 prog w) A (Builtin.Slice.slicePartIndex v) Q E s:=by
  cases p with
  |none=>exact slicePart_none h
  |int i t=>exact slicePart_int h
def sliceApplied_gen{sl:Ad}{d c:vL}{n:Nat}{Q:Int×Int×Nat->Sd->Prop}(g:s.heap.IsSliceOf sl d c .none)(f:IsPart d lo)(e:IsPart c hi)(h:Q (((sIx n 0 lo:Nat):Int),1,sIx n n hi - sIx n 0 lo) s):az (a0 prog w) A (Builtin.Slice.sliceApplied (.ref sl) (pure (n:Int))) Q E s:=by
  obtain⟨j,a,i,b⟩:=id g;unfold Builtin.Slice.sliceApplied Builtin.Slice.sliceFields;refine aA (aA (wpAny_field a b (x:=d) rfl (aA (wpAny_field a b (x:=c) rfl (aA (wpAny_field a b (x:=.none) rfl (aB ?_)))))));refine aA (slicePart_none ?_);show az _ _ (if ((1:Int)==0)=ac then _ else _) _ _ s
  rw[aq (by decide)]
  refine aA (slicePart_ f (aA (slicePart_ e (aA (aB ?_)))));show az _ _ (match Builtin.Slice.sliceAdjust lo hi 1 (n:Int) with | (lo,hi)=>pure (lo,(1:Int),Builtin.Slice.slicePlaces lo hi 1)) _ _ s
  rw[adjust_gen lo hi n];show az _ _ (pure (((sIx n 0 lo:Nat):Int),(1:Int),Builtin.Slice.slicePlaces ((sIx n 0 lo:Nat):Int) ((sIx n n hi:Nat):Int) 1)) _ _ s;rw[places_gen];exact aB h
def pick_gen(a:Array vL)(i k:Nat):((ag k).filterMap λ(m:Nat)=>a[((i:Int)+(m:Int) * 1).toNat]?).toArray=((a.toList.drop i).take k).toArray:=by
  have e:(λ(m:Nat)=>a[((i:Int)+(m:Int) * 1).toNat]?)=λm=>a[i+m]?:=by
    funext m
    have:((i:Int)+(m:Int) * 1).toNat=i+m:=by omega
    rw[this]
  rw[e];have:=pick_run a i k;rw[List.filterMap_map]at this;have b:((λx=>a[x]?) ∘ λx=>i+x)=λm=>a[i+m]?:=rfl
  rw[b]at this;rw[this]
def getItem_tuple_cut{t sl:Ad}{a:Array vL}{j i:vL}(c:IsTup s.heap t a)(k:s.heap.IsSliceOf sl j i .none)(n:IsPart j lo)(l:IsPart i hi)(p:¬(sIx a.size 0 lo=0/\sIx a.size a.size hi=a.size))(h:Q (.ref s.heap.objs.size) { s with heap:=s.heap.push { cls:=.type "tuple",data:=.seq ((a.toList.drop (sIx a.size 0 lo)).take (sIx a.size a.size hi - sIx a.size 0 lo)).toArray } })(r:a.size<=aw):az (a0 prog w) A (getItem (.ref t) (.ref sl)) Q E s:=by
  have b:sizeOk (.seq ((a.toList.drop (sIx a.size 0 lo)).take (sIx a.size a.size hi - sIx a.size 0 lo)).toArray):=by
    show((a.toList.drop (sIx a.size 0 lo)).take (sIx a.size a.size hi - sIx a.size 0 lo)).toArray.size<=aw;rw[aG,cM,dC,cI];omega
  have y:sIx a.size a.size hi<=a.size:=sIx_le _ _ (aE _) hi;obtain⟨o,d,f,u⟩:=id k;have g:s.TypeIs (.ref sl) "slice":=⟨o,d,f⟩;unfold getItem
  try with_reducible refine wpAny_holding ?_
  first|refine aA (aB ?_)|skip
  refine aA (wpAny_sequenceKey c.typeIs (by decide) ?_)
  refine aA (wpAny_callSpecial?_slot (name:=Str.ofString "__getitem__") c.typeIs PyProof.Rows.slot_tuple_getitem
    (wpAny_call_entry PyProof.Rows.slot_tuple_getitem c.typeIs entry_tuple_getitem ?_ (args_tuple_getitem _ _)))
  show az _ _ (Builtin.Tuple.tupleItemsOf (.ref t) >>= _) _ _ s;refine aA (tupleItemsOf_ c ?_);refine aA (wpAny_typeOf g ?_);rw[ao (by decide)]
  refine aA (sliceApplied_gen k n l ?_);have e:¬((((sIx a.size 0 lo:Nat):Int)==0&&(1:Int)==1&&(sIx a.size a.size hi - sIx a.size 0 lo)==a.size)=ac):=by
    intro q;rw[Ba,Ba]at q;have x:((sIx a.size 0 lo:Nat):Int)=0:=eq_of_beq q.1.1;have v:sIx a.size a.size hi - sIx a.size 0 lo=a.size:=eq_of_beq q.2;exact p ⟨by omega,by omega⟩
  show az _ _ (if (((sIx a.size 0 lo:Nat):Int)==0&&(1:Int)==1&&(sIx a.size a.size hi - sIx a.size 0 lo)==a.size)=ac then _ else _) _ _ s
  rw[aq e,pick_gen]
  first
    |exact aA (m:=Builtin.Tuple.tupleExact _) (wpAny_newObj_type (aB ⟨_,rfl,aB h⟩) b)
    |exact aA (m:=Builtin.Tuple.tupleExact _) (wpAny_newObj_type (aA (aB (aB ⟨_,rfl,aB h⟩))) b)
    |exact aA (aA (m:=Builtin.Tuple.tupleExact _) (wpAny_newObj_type (aB (aB ⟨_,rfl,aB h⟩)) b))
    |exact aA (aA (m:=Builtin.Tuple.tupleExact _) (wpAny_newObj_type (aB ⟨_,rfl,aB h⟩) b))
end
end HT
namespace L2
open PySem PySem.Spec PyProof.Rows
abbrev TO:=St->Hp->(Ot Int->Hp->Prop)->Prop
def PO(X:Cx)(e:Ot ax)(t:TO):Prop:=
  ∀ (pQ:Li (Ad×Obj)) (s:Sd) (O:St) (H:Hp) (Q:Ot Int->Hp->Prop),Inv X pQ O H s->t O H Q->
    az (a0 X.prog X.w) X.A (evalPart e X.env) (λu b=>∃ o a,Inv X pQ O a b/\IsPart u o/\Q o a) X.xe s
def tNoPart:TO:=λ_ H Q=>Q ab H
def tPart(t:TE):TO:=λO H Q=>t O H λx a=>∃ i,x=.int i/\Q (aa i) a
variable{xs:Li V}{us:Li vL}
variable{X:Cx}{e:ax}{pos:Pos}
section
variable{te:TE}{lo hi:Ot ax}{tl th:TO}{p2:Pos}
def po_none:PO X ab tNoPart:=by
  intro a s O H Q I h;rw[evalPart_none];exact aB ⟨ab,H,I,.none,h⟩
def po_some(h:PE X e te):PO X (aa e) (tPart te):=by
  intro c s O H Q I d;rw[evalPart_some];refine thn (h c s O H _ I d) λu s1 ⟨x,g,f,a,b⟩=>?_
  obtain⟨i,rfl,q⟩:=b;obtain⟨t,rfl⟩:=a;exact⟨aa i,g,f,.int i t,q⟩
def SlR(X:Cx)(r:V->Ot Int->Ot Int->Hp->VK->Prop):Prop:=
  ∀ (pQ:Li (Ad×Obj)) (s:Sd) (O:St) (H:Hp) (x:V) (v vl vu:vL) (lo hi:Ot Int) (sl:Ad) (Q:VK),Inv X pQ O H s->RelV x v->s.heap.IsSliceOf sl vl vu .none->IsPart vl lo->IsPart vu hi->r x lo hi H Q->
    ∃ T id,typeLookup (.type T) "__getitem__"=pure (aa (.builtin id))/\s.TypeIs v T/\az (a0 X.prog X.w) X.A (getItem v (.ref sl)) (EP X pQ O Q) X.xe s
def tSl(r:V->Ot Int->Ot Int->Hp->VK->Prop)(te:TE)(tl th:TO):TE:=λO H Q=>te O H λx c=>tl O c λl b=>th O b λu a=>r x l u a Q
def pe_slice{r:V->Ot Int->Ot Int->Hp->VK->Prop}(y:SlR X r)(C:PE X e te)(z:PO X lo tl)(hu:PO X hi th):PE X (.Subscript e (.Slice lo hi ab p2) pos) (tSl r te tl th):=by
  intro c s O H Q I h;refine Subscript_ (thn (C c s O H _ I h) λv s1 ⟨x,L,J,j,n⟩=>?_)
  refine wpAny_Slice (thn (z c s1 O L _ J n) λf i ⟨l,K,G,p,m⟩=>thn (hu c i O K _ G m) λd a ⟨u,g,F,o,k⟩=>?_)
  rw[evalPart_none];refine aB ?_;have E:Inv X c O g { a with heap:=a.heap.push { cls:=.type "slice",data:=.fields #[f,d,.none] } }:=F.kept (t':=a.toks) λb M q=>aO _ q
  obtain⟨T,id,D,t,B⟩:=y c { a with heap:=a.heap.push { cls:=.type "slice",data:=.fields #[f,d,.none] } } O g x v f d l u a.heap.objs.size Q E j (Heap.IsSliceOf.new ..) p o k
  show az (a0 X.prog X.w) X.A (subscriptTail e (.Slice lo hi ab p2) v (.ref a.heap.objs.size)) (EP X c O Q) X.xe { a with heap:=a.heap.push { cls:=.type "slice",data:=.fields #[f,d,.none] } }
  exact tail_any (ops:=[.ref a.heap.objs.size,v]) t D B (by with_unfolding_all rfl)
noncomputable def cutV(xs:Li V)(lo hi:Ot Int):Li V:=(xs.drop (HT.sIx xs.length 0 lo)).take (HT.sIx xs.length xs.length hi - HT.sIx xs.length 0 lo)
def cutV_length(xs:Li V)(lo hi:Ot Int):(cutV xs lo hi).length<=xs.length:=by
  unfold cutV;rw[cM,dC];omega
def rSlT(K:Fg):V->Ot Int->Ot Int->Hp->VK->Prop:=λx lo hi H Q=>∃ a xs,x=.ref a/\SqT K H a xs /\
  ¬(HT.sIx xs.length 0 lo=0/\HT.sIx xs.length xs.length hi=xs.length)/\∀ p,H p=ab->Q (.ref p) (upd H p (.tup (cutV xs lo hi)))
def sl_tup:SlR X (rSlT X.K):=by
  intro t s O H x v p n lo hi sl Q I g m j i h;obtain⟨a,xs,rfl,k,l,q⟩:=h;cases g;obtain⟨d,r,f,e⟩:=I.tuple k;have c:d.toArray.size=xs.length:=by rw[aG];exact r.length.symm
  refine⟨"tuple",_,PyProof.Rows.slot_tuple_getitem.lookup,f.typeIs,?_⟩;refine HT.getItem_tuple_cut f m j i (by rw[c];exact l) ?_ (by rw[c];exact e)
  rw[c];refine⟨.ref s.heap.objs.size,_,I.laid (t':=s.toks) (o:=.tup (cutV xs lo hi)) (λb u q=>aO _ q) (aE _) ?_,rfl,q _ (I.hok.fresh (aE _))⟩
  exact⟨aR (cutV_length xs lo hi) e,_,(r.drop (HT.sIx xs.length 0 lo)).take (HT.sIx xs.length xs.length hi - HT.sIx xs.length 0 lo),IsTup.new _ _⟩
def rCatT(K:Fg):R2:=λx y H Q=>∃ a b xs c,x=.ref a/\y=.ref b/\SqT K H a xs/\SqT K H b c/\xs≠[]/\xs.length+c.length<=aw /\
  (c=[]->Q (.ref a) H)/\(c≠[]->∀ p,H p=ab->Q (.ref p) (upd H p (.tup (xs++c))))
def Vals.nil_iff(r:Vals xs us):us=[]↔xs=[]:=by
  cases r with
  |nil=>simp
  |cons _ _=>simp
def op_catT:OpR X (bo .Add) (rCatT X.K):=by
  intro A s O H x y v u Q I j i h;obtain⟨a,b,xs,g,rfl,rfl,t,r,p,f,l,k⟩:=h;cases j;cases i;obtain⟨n,d,m,_⟩:=I.tuple t;obtain⟨e,c,p2,_⟩:=I.tuple r;refine HT.cat_tup m p2 (λz=>p (d.nil_iff.mp z)) (λz=>⟨.ref a,H,I,rfl,l (c.nil_iff.mp z)⟩) (λz=>?_) (by rw[<-d.length,<-c.length];exact f)
  refine⟨.ref s.heap.objs.size,_,I.laid (t':=s.toks) (o:=.tup (xs++g)) (λb B q=>aO _ q) (aE _) ?_,rfl,k (λw=>z (c.nil_iff.mpr w)) _ (I.hok.fresh (aE _))⟩
  exact⟨by rw[aI];exact f,_,d.append c,IsTup.new _ _⟩
end
noncomputable def ixN(n:Nat)(i:Int):Ot Nat:=if 0<=i then (if i < n then aa i.toNat else ab) else if -(n:Int)<=i then aa (i+n).toNat else ab
def atI{a:Type}(xs:Li a)(i:Int):Ot a:=(ixN xs.length i).bind λj=>xs[j]?
variable{n:Nat}
def ixN_seq{i:Int}{j:Nat}(h:ixN n i=aa j):seqIndex? i n=aa j/\j < n/\-(n:Int)<=i/\i < n:=by
  unfold ixN at h;by_cases b:0<=i
  . rw[ao b]at h
    by_cases a:i < n
    . rw[ao a]at h
      have e:i.toNat=j:=av h;exact⟨by rw[seqIndex_of b a,e],by omega,by omega,a⟩
    . rw[aq a]at h;cases h
  . rw[aq b]at h
    by_cases a:-(n:Int)<=i
    . rw[ao a]at h
      have e:(i+n).toNat=j:=av h;exact⟨by rw[seqIndex_neg (by omega) a,e],by omega,a,by omega⟩
    . rw[aq a]at h;cases h
variable{α:Type}
def atI_get{xs:Li α}{i:Int}{v:α}(h:atI xs i=aa v):∃ j,seqIndex? i xs.length=aa j/\xs[j]?=aa v/\j < xs.length/\-(xs.length:Int)<=i/\i < xs.length:=by
  unfold atI at h;cases e:ixN xs.length i with
  |none=>rw[e]at h;cases h
  |some j=>
    rw[e]at h;obtain⟨d,c,b,a⟩:=ixN_seq e;exact⟨j,d,h,c,b,a⟩
def PlainIx(b:ax):Prop:=∀ o i,subscripted b ae o i=operate [o,i] (getItem o i)
def IxR(X:Cx)(r:R2):Prop:=
  ∀ (value slice:ax) (pQ:Li (Ad×Obj)) (s:Sd) (O:St) (H:Hp) (x y:V) (v u:vL) (Q:VK),Inv X pQ O H s->RelV x v->RelV y u->r x y H Q->
    subscripted slice ae v u=operate [v,u] (getItem v u)->az (a0 X.prog X.w) X.A (subscriptTail value slice v u) (EP X pQ O Q) X.xe s
def MtR(X:Cx)(id:String)(r:V->Li V->Hp->VK->Prop):Prop:=
  ∀ (pQ:Li (Ad×Obj)) (s:Sd) (O:St) (H:Hp) (x:V) (xs:Li V) (v:vL) (us:Li vL) (Q:VK),Inv X pQ O H s->RelV x v->Vals xs us->r x xs H Q->
    az (a0 X.prog X.w) X.A (call (.builtin id) (v :: us)) (EP X pQ O Q) X.xe s
variable{pQ:Li (Ad×Obj)}{s:Sd}{its its':Li vL}{y x:V}
section
variable{a b:ax}{ta tb:TE}
def pe_ix{r:R2}(g:IxR X r)(j:PE X a ta)(i:PE X b tb)(f:PlainIx b):PE X (.Subscript a b pos) (tOp r ta tb):=by
  intro pQ s O H Q I h;exact Subscript_ (binT j i I h λv u c x y l k e d q=>g a b pQ c O l x y v u Q k e d q (f _ _))
def rIxL(K:Fg):R2:=λx y H Q=>∃ p xs i v,x=.ref p/\y=.int i/\SqL K H p xs/\atI xs i=aa v/\Q v H
def rIxT(K:Fg):R2:=λx y H Q=>∃ p xs i v,x=.ref p/\y=.int i/\SqT K H p xs/\atI xs i=aa v/\Q v H
def rIxS:R2:=λx y H Q=>∃ z i c,x=.str z/\y=.int i/\z.length<=aw/\atI z.cps.toList i=aa c/\Q (.str ⟨#[c]⟩) H
def ix_list:IxR X (rIxL X.K):=by
  intro c slice pQ s O H x y v u Q I o n h g;obtain⟨p,xs,i,z,rfl,rfl,A,C,q⟩:=h;cases o;obtain⟨t,rfl⟩:=n;obtain⟨its,r,e,G⟩:=I.list A;obtain⟨j,b,F,L,E,D⟩:=atI_get C;obtain⟨w,l,d⟩:=r.get F;have B:=r.length;have J:=line63;have a:EP X pQ O Q w s:=⟨z,H,I,d,q⟩;by_cases k:0<=i
  . have f:i.toNat=j:=by
      rw[seqIndex_of k D]at b;exact av b
    exact item_listR e.isList k (by omega) (by rw[f];simpa using l) a g
  . have f:(i+(its.toArray.size:Int)).toNat=j:=by
      rw[seqIndex_neg (by omega) E]at b
      rw[aG,<-B];exact av b
    exact subscriptTail_builtinR (x:=w) e.isList.typeIs slot_list_getitem.lookup
      (wpAny_getItem_list_neg (Q:=λr m=>r=w/\EP X pQ O Q r m) e.isList (by omega) (by rw[aG]<;>omega) (by omega) (by rw[f];simpa using l) ⟨rfl,a⟩) g
def ix_tup:IxR X (rIxT X.K):=by
  intro a slice pQ s O H x y v u Q I g f h k;obtain⟨p,xs,i,z,rfl,rfl,l,n,q⟩:=h;cases g;obtain⟨t,rfl⟩:=f;obtain⟨its,r,d,C⟩:=I.tuple l;obtain⟨j,A,o,G,F,E⟩:=atI_get n;obtain⟨w,B,b⟩:=r.get o;have m:=r.length;have D:=line63;have c:EP X pQ O Q w s:=⟨z,H,I,b,q⟩;exact subscriptTail_builtinR (x:=w) d.typeIs slot_tuple_getitem.lookup
    (getItem_tuple (j:=j) (Q:=λr e=>r=w/\EP X pQ O Q r e) d (by omega) (by omega) (by rw[aG,<-m];exact A) (by simpa using B) ⟨rfl,c⟩) k
def ix_str:IxR X rIxS:=by
  intro a slice pQ s O H x y v u Q I e d h f;obtain⟨z,i,c,rfl,rfl,w,k,q⟩:=h;obtain⟨t,rfl⟩:=e;obtain⟨r,rfl⟩:=d;obtain⟨j,b,n,B,m,l⟩:=atI_get k;have g:z.cps.toList.length=z.length:=by simp[Str.length]
  rw[g]at b m l;have A:=line63;exact tail_any (typeIs_str s z t) slot_str_getitem.lookup (getItem_str (c:=c) (by
    have p:aj (i < -(2 ^ 63:Int))=ae:=aH (by omega)
    have o:aj (i>=2 ^ 63)=ae:=aH (by omega)
    rw[p,o,dD]) (by rw[b];simpa using n) ⟨.str ⟨#[c]⟩,H,I.tok _,⟨_,rfl⟩,q⟩) f
def mapSeq_set(its:Li vL)(n j:Nat)(u:vL):Obj.mapSeq (·.setIfInBounds j u) { cls:=.type "list",data:=.seq its.toArray n }={ cls:=.type "list",data:=.seq (its.set j u).toArray n }:=by
  simp[Obj.mapSeq]
theorem Inv.lst{pQ:Li (Ad×Obj)}{O:St}{H:Hp}{s:Sd}{p:Ad}{xs:Li V}(I:Inv X pQ O H s)(h:H p=aa (.lst xs)) :
    ∃ (its:Li vL) (n:Nat),Vals xs its/\s.heap.get? p=aa { cls:=.type "list",data:=.seq its.toArray n }/\xs.length<=aw:=by
  obtain⟨z,its,n,r,e⟩:=I.hok p _ h;exact⟨its,n,r,e,z⟩
def Inv.lstUpd{O:St}{H:Hp}{p:Ad}{a:Li V}{c:Nat}{f:Obj->Obj}(I:Inv X pQ O H s)(h:H p=aa (.lst xs))(i:s.heap.get? p=aa { cls:=.type "list",data:=.seq its.toArray n })(d:f { cls:=.type "list",data:=.seq its.toArray n }={ cls:=.type "list",data:=.seq its'.toArray c })(r:Vals a its')(g:a.length<=aw)(t:Nat) :
    Inv X pQ O (upd H p (.lst a)) { s with heap:=s.heap.update p f,toks:=t }:=by
  have e:(s.heap.update p f).get? p=aa { cls:=.type "list",data:=.seq its'.toArray c }:=by
    rw[Heap.get?_update_self f i (by rw[d]<;>rfl),d]
  refine I.write (x:=p) (e:=p) (by rw[h];trivial) (.inl rfl) (λb u j q=>(Heap.get?_update_other _ _ (Ne.symm j)).trans q) ⟨_,e⟩ ?_
  exact⟨g,its',c,r,e⟩
def rSetL:V->V->V->Hp->(Hp->Prop)->Prop:=λo i v H Q=>∃ p xs k j,o=.ref p/\i=.int k/\H p=aa (.lst xs)/\ixN xs.length k=aa j/\Q (upd H p (.lst (xs.set j v)))
def set_list:PSet X rSetL:=by
  intro pQ s O H o i v A B u Q I w x rv h;obtain⟨p,xs,k,j,rfl,rfl,e,z,q⟩:=h;cases w;obtain⟨t,rfl⟩:=x;obtain⟨its,n,r,b,y⟩:=I.lst e;obtain⟨a,D,g,f⟩:=ixN_seq z;have c:=r.length;have C:=line63;have m:Inv X pQ O (upd H p (.lst (xs.set j v))) { s with heap:=s.heap.update p (Obj.mapSeq (·.setIfInBounds j u)) }:=
    I.lstUpd e b (mapSeq_set its n j u) (r.set rv j) (by rw[aY];exact y) s.toks
  by_cases l:0<=k
  . have d:k.toNat=j:=by
      rw[seqIndex_of l f]at a;exact av a
    exact W.ki_setAt b l (by omega) (by rw[aG,<-c];exact f) (by rw[d];exact⟨_,m,q⟩)
  . have d:(k+(its.toArray.size:Int)).toNat=j:=by
      rw[seqIndex_neg (by omega) g]at a
      rw[aG,<-c];exact av a
    exact W.ki_setBack b (by omega) (by rw[aG,<-c];exact g) (by omega) (by rw[d];exact⟨_,m,q⟩)
def slice_bounds(a b:Ot Int)(n:Nat):(sliceBounds a b ab n).1=((HT.sIx n 0 a:Nat):Int)/\(sliceBounds a b ab n).2.1=((HT.sIx n n b:Nat):Int)/\(sliceBounds a b ab n).2.2=1:=by
  refine⟨?_,?_,rfl⟩
  . cases a with
    |none=>simp[sliceBounds,HT.sIx]
    |some i=>
      simp only[sliceBounds,HT.sIx,Option.getD_none,show(1:Int) > 0 by decide,if_true]
      by_cases h:i < 0
      . simp only[h,if_true]<;>omega
      . simp only[h,if_false]<;>omega
  . cases b with
    |none=>simp[sliceBounds,HT.sIx]
    |some i=>
      simp only[sliceBounds,HT.sIx,Option.getD_none,show(1:Int) > 0 by decide,if_true]
      by_cases h:i < 0
      . simp only[h,if_true]<;>omega
      . simp only[h,if_false]<;>omega
def slicePick_cut(its:Li vL)(a b:Ot Int):slicePick its.toArray a b ab=((its.drop (HT.sIx its.length 0 a)).take (HT.sIx its.length its.length b - HT.sIx its.length 0 a)).toArray:=by
  obtain⟨e,d,c⟩:=slice_bounds a b its.toArray.size;unfold slicePick;rw[e,d,c];simp only[sliceRange_one,pick_run,aG]<;>rfl
def rSlL(K:Fg):V->Ot Int->Ot Int->Hp->VK->Prop:=λx b c H Q=>∃ a xs,x=.ref a/\SqL K H a xs/\∀ p,H p=ab->Q (.ref p) (upd H p (.lst (cutV xs b c)))
def sl_list:SlR X (rSlL X.K):=by
  intro pQ s O H x v p n d e sl Q I g m j i h;obtain⟨a,xs,rfl,l,q⟩:=h;cases g;obtain⟨its,r,f,k⟩:=I.list l;have c:=r.length;refine⟨"list",_,slot_list_getitem.lookup,f.isList.typeIs,?_⟩;refine wpAny_getItem_list_slice f.isList m j i .none (by simp) ?_ (by rw[aG]<;>omega)
  rw[slicePick_cut,<-c];refine⟨.ref s.heap.objs.size,_,I.laid (t':=s.toks) (o:=.lst (cutV xs d e)) (λb t q=>aO _ q) (aE _) ?_,rfl,q _ (I.hok.fresh (aE _))⟩
  exact⟨aR (cutV_length xs d e) k,_,0,(r.drop (HT.sIx xs.length 0 d)).take (HT.sIx xs.length xs.length e - HT.sIx xs.length 0 d),aX _ rfl⟩
noncomputable def flatV:V->Bool
  |.non=>ac
  |.bl _=>ac
  |.int _=>ac
  |.str _=>ac
  |_=>ae
noncomputable def eqV:V->V->Bool
  |.non,.non=>ac
  |.bl a,.bl b=>a==b
  |.bl a,.int b=>(if a then 1 else 0)==b
  |.int a,.bl b=>a==(if b then 1 else 0)
  |.int a,.int b=>a==b
  |.str a,.str b=>a==b
  |_,_=>ae
def eqAt_V{A:bm}{u v:vL}(e:RelV y u)(c:RelV x v)(g:flatV y=ac)(f:flatV x=ac):SeqAt.EqAt A s u v (eqV y x):=by
  cases y with
  |non=>
    cases e;cases x with
    |non=>cases c;exact SeqAt.EqAt.same _
    |bl b=>cases c;exact SeqAt.EqAt.none_bool b
    |int b=>obtain⟨t,rfl⟩:=c;exact SeqAt.EqAt.none_int b t
    |str b=>obtain⟨t,rfl⟩:=c;exact SeqAt.EqAt.none_str b t
    |_=>exact ar (show ae=ac from f) Bf
  |bl a=>
    cases e;cases x with
    |non=>cases c;exact SeqAt.EqAt.bool_none a
    |bl b=>cases c;exact SeqAt.EqAt.bool_bool a b
    |int b=>obtain⟨t,rfl⟩:=c;exact SeqAt.EqAt.bool_int a b t
    |str b=>obtain⟨t,rfl⟩:=c;exact SeqAt.EqAt.bool_str a b t
    |_=>exact ar (show ae=ac from f) Bf
  |int a=>
    obtain⟨d,rfl⟩:=e;cases x with
    |non=>cases c;exact SeqAt.EqAt.int_none a d
    |bl b=>cases c;exact SeqAt.EqAt.int_bool a d b
    |int b=>obtain⟨t,rfl⟩:=c;exact SeqAt.EqAt.int_int a d b t
    |str b=>obtain⟨t,rfl⟩:=c;exact SeqAt.EqAt.int_str a d b t
    |_=>exact ar (show ae=ac from f) Bf
  |str a=>
    obtain⟨d,rfl⟩:=e;cases x with
    |non=>cases c;exact SeqAt.EqAt.str_none a d
    |bl b=>cases c;exact SeqAt.EqAt.str_bool a d b
    |int b=>obtain⟨t,rfl⟩:=c;exact SeqAt.EqAt.str_int a d b t
    |str b=>obtain⟨t,rfl⟩:=c;exact SeqAt.EqAt.str_str a d b t
    |_=>exact ar (show ae=ac from f) Bf
  |_=>exact ar (show ae=ac from g) Bf
def eqU(x:V)(u:vL):Bool:=match u with
  |.none=>eqV .non x
  |.bool b=>eqV (.bl b) x
  |.int i _=>eqV (.int i) x
  |.str z _=>eqV (.str z) x
  |_=>ae
def eqU_of{u:vL}(r:RelV y u)(f:flatV y=ac):eqU x u=eqV y x:=by
  cases y with
  |non=>cases r;rfl
  |bl b=>cases r;rfl
  |int i=>obtain⟨t,rfl⟩:=r;rfl
  |str z=>obtain⟨t,rfl⟩:=r;rfl
  |_=>exact ar (show ae=ac from f) Bf
theorem any_eqU{x:V}:∀ {xs:Li V}{us:Li vL},Vals xs us->xs.all flatV=ac->us.any (eqU x)=xs.any λy=>eqV y x
  |_,_,.nil,_=>rfl
  |y :: xs,u :: us,.cons r t,f=>by
    rw[bE,Ba]at f;rw[cP,cP,eqU_of r f.1,any_eqU t f.2]
theorem mem_eqAt{A:bm}{s:Sd}{x:V}{v:vL}(a:RelV x v)(b:flatV x=ac):∀ {xs:Li V}{us:Li vL},Vals xs us->xs.all flatV=ac->∀ u∈us,SeqAt.EqAt A s u v (eqU x u)
  |_,_,.nil,_=>λu hu=>by cases hu
  |y :: xs,u :: us,.cons r t,f=>λc hu=>by
    rw[bE,Ba]at f;rcases aF.mp hu with rfl|hu
    . rw[eqU_of r f.1];exact eqAt_V r a f.1 b
    . exact mem_eqAt a b t f.2 c hu
def inV(x:V)(xs:Li V):Bool:=xs.any λy=>eqV y x
def rIn(K:Fg)(neg:Bool):R2:=λx y H Q=>∃ p xs,y=.ref p/\(SqL K H p xs\/SqT K H p xs)/\flatV x=ac/\xs.all flatV=ac/\Q (.bl (if neg then !inV x xs else inV x xs)) H
def op_in_seq:OpR X (bh .In) (rIn X.K ae):=by
  intro pQ s O H x y v u Q I c e h;obtain⟨p,xs,rfl,hq,d,fs,q⟩:=h;cases e;rcases hq with hq|hq
  . obtain⟨its,r,a,f⟩:=I.list hq
    refine SeqAt.in_listAt (eqU x) a.isList (λw b=>mem_eqAt c d r fs w (by simpa using b)) ⟨.bl _,H,I,rfl,?_⟩
    rw[show its.toArray.any (eqU x)=its.any (eqU x) by simp,any_eqU r fs]
    exact q
  . obtain⟨its,r,a,f⟩:=I.tuple hq
    refine SeqAt.in_tupleAt (eqU x) a (λw b=>mem_eqAt c d r fs w (by simpa using b)) ⟨.bl _,H,I,rfl,?_⟩
    rw[show its.toArray.any (eqU x)=its.any (eqU x) by simp,any_eqU r fs]
    exact q
def op_notIn_seq:OpR X (bh .NotIn) (rIn X.K ac):=by
  intro pQ s O H x y v u Q I c e h;obtain⟨p,xs,rfl,hq,d,fs,q⟩:=h;cases e;rcases hq with hq|hq
  . obtain⟨its,r,a,f⟩:=I.list hq
    refine SeqAt.notIn_listAt (eqU x) a.isList (λw b=>mem_eqAt c d r fs w (by simpa using b)) ⟨.bl _,H,I,rfl,?_⟩
    rw[show its.toArray.any (eqU x)=its.any (eqU x) by simp,any_eqU r fs]
    exact q
  . obtain⟨its,r,a,f⟩:=I.tuple hq
    refine SeqAt.notIn_tupleAt (eqU x) a (λw b=>mem_eqAt c d r fs w (by simpa using b)) ⟨.bl _,H,I,rfl,?_⟩
    rw[show its.toArray.any (eqU x)=its.any (eqU x) by simp,any_eqU r fs]
    exact q
def op_notIn_str:OpR X (bh .NotIn) (λx y H Q=>∃ i j,x=.str i/\y=.str j/\Q (.bl (!(!(Builtin.Str.occurrences j i 0 j.length 1).isEmpty))) H):=by
  intro pQ s O H x y v u Q I b a h;obtain⟨i,j,rfl,rfl,q⟩:=h;obtain⟨t,rfl⟩:=b;obtain⟨c,rfl⟩:=a;exact notIn_str ⟨.bl _,H,I,rfl,q⟩
def call_len_seq:CallR X (.builtin "len") (λxs H Q=>∃ p b,xs=[.ref p]/\(SqL X.K H p b\/SqT X.K H p b)/\Q (.int b.length) H):=by
  intro pQ s O H xs us Q I r h;obtain⟨p,b,rfl,hq,q⟩:=h;obtain⟨u,rfl,e⟩:=vals1 r;cases e;have g:=line63;rcases hq with hq|hq
  . obtain⟨its,c,d,f⟩:=I.list hq
    have a:=c.length;exact Calls.call_len_list d.isList (by simp only[aG]<;>omega) ⟨.int b.length,H,I.tok _,⟨s.toks+1,by rw[aG,a]⟩,q⟩
  . obtain⟨its,c,d,f⟩:=I.tuple hq
    have a:=c.length;exact len_tuple d (by simp only[aG]<;>omega) ⟨.int b.length,H,I.tok _,⟨s.toks+1,by rw[aG,a]⟩,q⟩
def call_list_of:CallR X (.type "list") (λxs H Q=>∃ p c,xs=[.ref p]/\(SqL X.K H p c\/SqT X.K H p c)/\∀ l,H l=ab->Q (.ref l) (upd H l (.lst c))):=by
  intro pQ s O H xs us Q I r h;obtain⟨p,c,rfl,hq,q⟩:=h;obtain⟨u,rfl,z⟩:=vals1 r;cases z;have k:∀ (its:Li vL),Vals c its->c.length<=aw->∀ (a:bf) (f:Nat),(∀ b y,s.heap.get? b=aa y->a.get? b=aa y)->
      a.get? s.heap.objs.size=aa { cls:=.type "list",dict:=ab,data:=.seq its.toArray f,slots:=#[] }->EP X pQ O Q (.ref s.heap.objs.size) { s with heap:=a }:=λits d i a f g e=>
    ⟨.ref s.heap.objs.size,_,I.laid (t':=s.toks) g (aE _) (show ObjOk X.prog X.w _ a _ (.lst c) from⟨i,its,f,d,e⟩),rfl,q _ (I.hok.fresh (aE _))⟩
  rcases hq with hq|hq
  . obtain⟨its,d,m,i⟩:=I.list hq
    have j:=d.length;obtain⟨o,t,x,n,v⟩:=m.isList;exact call_list_seq p (.inl rfl) t x v (λa f g e=>k its d i a f g e) (by simp only[aG]<;>omega)
  . obtain⟨its,d,m,i⟩:=I.tuple hq
    have j:=d.length;obtain⟨o,t,x,n,v⟩:=m;exact call_list_seq p (.inr rfl) t x v (λa f g e=>k its d i a f g e) (by simp only[aG]<;>omega)
def call_tuple_of:CallR X (.type "tuple") (λxs H Q=>∃ p a,xs=[.ref p]/\((SqL X.K H p a/\∀ l,H l=ab->Q (.ref l) (upd H l (.tup a)))\/(SqT X.K H p a/\Q (.ref p) H))):=by
  intro pQ s O H xs us Q I r h;obtain⟨p,a,rfl,h⟩:=h;obtain⟨u,rfl,m⟩:=vals1 r;cases m;rcases h with⟨g,q⟩|⟨g,q⟩
  . obtain⟨its,d,f,i⟩:=I.list g
    have j:=d.length;refine call_tuple_list f.isList (λc n=>?_) (by simp only[aG]<;>omega)
    have k:Inv X pQ O H { s with heap:=c }:=I.kept (t':=s.toks) n
    have t:Inv X pQ O (upd H c.objs.size (.tup a)) { s with heap:=c.push { cls:=.type "tuple",data:=.seq its.toArray } }:=
      k.laid (t':=s.toks) (λb o e=>aO _ e) (aE _) (show ObjOk X.prog X.w _ _ _ (.tup a) from⟨i,its,d,IsTup.new _ _⟩)
    exact⟨.ref c.objs.size,_,t,rfl,q _ (k.hok.fresh (aE _))⟩
  . obtain⟨its,d,f,i⟩:=I.tuple g
    exact call_tuple_same f ⟨.ref p,H,I,rfl,q⟩
def tyV(K:Fg)(T:String)(x:V)(H:Hp):Prop:=match x with
  |.str _=>T = "str"
  |.int _=>T = "int"
  |.ref p=>(T = "list"/\∃ xs,SqL K H p xs)\/(T = "tuple"/\∃ o,K.lookup p=aa o/\o.cls=.type "tuple"/\o.dict=ab) \/
      (T = "dict"/\((∃ a,H p=aa (.dK a))\/∃ a,H p=aa (.dT a)))\/(T = "set"/\∃ S n,H p=aa (.set S n))\/(T = "dict"/\∃ f,H p=aa (.dN f))
  |_=>False
def tyV_is{O:St}{H:Hp}{T:String}{v:vL}(I:Inv X pQ O H s)(r:RelV x v)(ty:tyV X.K T x H) :
    s.TypeIs v T/\∀ a,v=.ref a->∃ k,s.heap.get? a=aa k/\k.dict=ab:=by
  cases x with
  |str z=>
    obtain⟨t,rfl⟩:=r;cases (show T = "str" from ty)
    exact⟨typeIs_str s z t,λ_ e=>nomatch e⟩
  |int i=>
    obtain⟨t,rfl⟩:=r;cases (show T = "int" from ty)
    exact⟨typeIs_int s i t,λ_ e=>nomatch e⟩
  |ref p=>
    cases r;rcases ty with⟨rfl,xs,l⟩|⟨rfl,o,b,m,h⟩|⟨rfl,b⟩|⟨rfl,S,n,b⟩|⟨rfl,f,b⟩
    . obtain⟨its,_,j,_⟩:=I.list l
      refine⟨j.isList.typeIs,λa e=>?_⟩
      cases e;obtain⟨o,n,e,c,h,_⟩:=j;exact⟨o,e,h⟩
    . refine⟨⟨o,I.kIn p o b,m⟩,λa e=>?_⟩
      cases e;exact⟨o,I.kIn _ o b,h⟩
    . have z:∃ o,s.heap.get? p=aa o/\o.ExactDict:=by
        rcases b with⟨g,b⟩|⟨g,b⟩
        . obtain⟨_,_,_,_,o,_,_,e,ex,_⟩:=I.hok p _ b
          exact⟨o,e,ex⟩
        . obtain⟨_,_,_,_,o,_,_,e,ex,_⟩:=I.hok p _ b
          exact⟨o,e,ex⟩
      obtain⟨o,e,ex⟩:=z;refine⟨⟨o,e,ex.1⟩,λa d=>?_⟩
      cases d;exact⟨o,e,ex.2.1⟩
    . obtain⟨o,_,_,_,e,ex,_⟩:=I.hok p _ b
      refine⟨⟨o,e,ex.1⟩,λa d=>?_⟩
      cases d;exact⟨o,e,ex.2.1⟩
    . obtain⟨_,o,_,e,ex,_⟩:=I.hok p _ b
      refine⟨⟨o,e,ex.1⟩,λa d=>?_⟩
      cases d;exact⟨o,e,ex.2.1⟩
  |_=>exact False.elim ty
def tBM0(K:Fg)(T:String)(r:V->Li V->Hp->VK->Prop)(b:TE):TE:=λO H Q=>b O H λx a=>tyV K T x a/\r x [] a Q
def tBM(K:Fg)(T:String)(r:V->Li V->Hp->VK->Prop)(b:TE)(t:TA):TE:=λO H Q=>b O H λx a=>tyV K T x a/\t O a λxs c=>r x xs c Q
variable{o:ax}{es:Li ax}{to:TE}{t:TA}{name:Str}{apos cpos:Pos}{T id:String}{r:V->Li V->Hp->VK->Prop}
def pe_bm0(g:PlainAttrs T)(slot:Slot T name id)(c:typeOf (.builtin id)=pure (.type "method_descriptor"))(j:MtR X id r)(i:PE X o to)(b:attributeBase o name X.env (eval o X.env)=eval o X.env:=by rfl)(a:(apos.endLine==cpos.line)=ac:=by rfl):PE X (.Call (.Attribute o name apos) [] [] cpos) (tBM0 X.K T r to):=by
  intro pQ s O H Q I h;refine wpAny_Call_method0_late b a (thn (i pQ s O H _ I h) λv s1 ⟨x,m,e,d,ty,f⟩=>?_)
  obtain⟨l,k⟩:=tyV_is e d ty;exact⟨T,id,g,slot,c,l,k,Calls.callWith_builtin rfl (PySem.evalArgs_none (j pQ s1 O m x [] v [] Q e d .nil f))⟩
def pe_bm(q:PlainAttrs T)(slot:Slot T name id)(f:typeOf (.builtin id)=pure (.type "method_descriptor"))(y:MtR X id r)(w:PE X o to)(z:PA X (e :: es) t)(c:attributeBase o name X.env (eval o X.env)=eval o X.env:=by rfl)(d:((backTo cpos (a5 (e :: es) X.env)).all (λx=>!x.1)&&(backToKw cpos (keywordEach [] X.env)).all (λx=>x.1.isSome)
     &&aj ((e :: es).length+([]:Li Keyword).length+(if ([]:Li Keyword).isEmpty then 0 else 1) < 30))=ac:=by rfl)(b:(apos.endLine==cpos.line)=ac:=by rfl)(u:a5 (e :: es) X.env=(ae,eval e X.env) :: a5 es X.env:=by rfl)(a:(backTo cpos (a5 es X.env)).any (·.1)=ae:=by rfl) :
    PE X (.Call (.Attribute o name apos) (e :: es) [] cpos) (tBM X.K T r to t):=by
  intro pQ s O H Q I h;refine wpAny_Call_method_late c d b rfl (thn (w pQ s O H _ I h) λv s1 ⟨x,E,j,g,ty,p⟩=>?_)
  obtain⟨B,A⟩:=tyV_is j g ty;refine⟨T,id,q,slot,f,B,A,?_⟩;have i:=z cpos pQ s1 O E _ j p;rw[u]at i ⊢;refine Calls.callWith_builtin (by show(ae||(backTo cpos (a5 es X.env)).any (·.1))=ae;rw[a]<;>rfl) (Calls.evalArgs_plain ?_)
  exact thn i λus l ⟨k,D,C,m,n⟩=>y pQ l O D x k v us Q C g m n
end
def MtM(X:Cx)(id:String)(r:V->Li V->Hp->VK->Prop):Prop:=
  ∀ (pQ:Li (Ad×Obj)) (s:Sd) (O:St) (H:Hp) (x:V) (xs:Li V) (v:vL) (us:Li vL) (Q:VK),Inv X pQ O H s->RelV x v->Vals xs us->r x xs H Q->
    az (a0 X.prog X.w) X.A (call (.builtin id) (v :: us)) (EP X pQ O Q) X.xe s
def Vals.one(h:Vals [x] us):∃ u,us=[u]/\RelV x u:=by
  cases h with
  |cons r h=>cases h;exact⟨_,rfl,r⟩
def Vals.two(h:Vals [x,y] us):∃ u v,us=[u,v]/\RelV x u/\RelV y v:=by
  cases h with
  |cons r h=>cases h with
    |cons q h=>cases h;exact⟨_,_,rfl,r,q⟩
def Vals.zero:∀ {us:Li vL},Vals [] us->us=[]
  |_,.nil=>rfl
theorem Vals.dropLast(h:Vals xs us):Vals xs.dropLast us.dropLast:=by
  induction h with
  |nil=>exact .nil
  |cons r t a=>
    cases t with
    |nil=>exact .nil
    |cons q b=>exact .cons r a
theorem Vals.rep(h:Vals xs us):∀ k:Nat,Vals (af k xs).flatten (af k us).flatten
  |0=>.nil
  |k+1=>by
    rw[cK,cK,cY,cY];exact Vals.append h (Vals.rep h k)
def erase_last(l:Li α):l.eraseIdx (l.length - 1)=l.dropLast:=by
  induction l with
  |nil=>rfl
  |cons a r c=>
    cases r with
    |nil=>rfl
    |cons b r=>
      have e:(a :: b :: r).length - 1=((b :: r).length - 1)+1:=by
        have f:(a :: b :: r).length=r.length+2:=rfl;have d:(b :: r).length=r.length+1:=rfl;omega
      rw[e,List.eraseIdx_cons_succ,c]
      all_goals rfl
theorem foldl_rep(its:Li vL):∀ (k:Nat) (a:Li vL),
    List.foldl (λc b=>c++b) a.toArray (af k its.toArray)=(a++(af k its).flatten).toArray
  |0,a=>by simp
  |k+1,a=>by
    have e:a.toArray++its.toArray=(a++its).toArray:=by simp
    have d:(a++its)++(af k its).flatten=a++(af (k+1) its).flatten:=by
      rw[cK,cY,bV]
    rw[<-d,<-foldl_rep its k (a++its),<-e,cK,List.foldl_cons]
variable{pQ:Li (Ad×Obj)}{s:Sd}{xs:Li V}
section
variable{O:St}{H:Hp}{l b:Ad}{ys zs:Li V}
def Inv.lset{f:Array vL->Array vL}{a:Nat}(I:Inv X pQ O H s)(i:H l=aa (.lst xs))(e:s.heap.get? l=aa { cls:=.type "list",data:=.seq its.toArray n })(g:f its.toArray=its'.toArray)(c:Vals ys its')(b:ys.length<=aw) :
    Inv X pQ O (upd H l (.lst ys)) { s with heap:=s.heap.update l (Obj.mapSeq f),toks:=a }:=by
  have q:=PySem.IsL.update e f;rw[g]at q;refine I.write (x:=l) (e:=l) (by rw[i];exact trivial) (.inl rfl) (λj u h d=>(Heap.get?_update_other s.heap (Obj.mapSeq f) (Ne.symm h)).trans d) ⟨_,q⟩ ?_
  exact⟨b,its',_,c,q⟩
def Inv.lnew{t':Nat}(I:Inv X pQ O H s)(b:Vals ys its)(a:ys.length<=aw) :
    Inv X pQ O (upd H s.heap.objs.size (.lst ys)) { s with heap:=s.heap.push { cls:=.type "list",data:=.seq its.toArray },toks:=t' }:=
  I.laid (λ_ _ q=>aO _ q) (aE _) ⟨a,its,0,b,aX _ rfl⟩
theorem Inv.fresh(I:Inv X pQ O H s):H s.heap.objs.size=ab:=I.hok.fresh (aE _)
def Inv.lstM(I:Inv X pQ O H s)(a:H l=aa (.lst xs)):xs.length<=aw/\∃ (its:Li vL) (n:Nat),Vals xs its/\xs.length=its.length/\s.heap.get? l=aa { cls:=.type "list",data:=.seq its.toArray n }:=by
  obtain⟨z,its,n,r,e⟩:=I.hok l _ a;exact⟨z,its,n,r,r.length,e⟩
def notLongL(h:n<=aw):Builtin.List.listTooLong n=ae:=by
  unfold Builtin.List.listTooLong;exact aH (by omega)
end
def rAppend:V->Li V->Hp->VK->Prop:=λx a H Q=>∃ l xs y,x=.ref l/\a=[y]/\H l=aa (.lst xs)/\xs.length < aw/\Q .non (upd H l (.lst (xs++[y])))
theorem mt_append:MtM X "list.append" rAppend:=by
  intro pQ s O H x d v us Q I b rv h;obtain⟨l,xs,y,rfl,rfl,a,f,q⟩:=h;cases b;obtain⟨u,rfl,c⟩:=rv.one;obtain⟨z,its,n,r,g,e⟩:=I.lstM a;refine call_meets F.slot_list_append ⟨_,e,rfl⟩ F.entry_list_append (F.args_list_append_2 _ _) (PySem.list_append l its.toArray n u (by rw[aG];omega)) ⟨e,?_⟩
  refine⟨.non,_,I.lset (its':=its++[u]) a e (by simp) (r.append (.cons c .nil)) ?_,rfl,q⟩
  rw[aI,eG];omega
def rExtend:V->Li V->Hp->VK->Prop:=λx c H Q=>∃ l b xs a,x=.ref l/\c=[.ref b]/\H l=aa (.lst xs)/\H b=aa (.lst a)/\xs.length+a.length<=aw/\Q .non (upd H l (.lst (xs++a)))
theorem mt_extend:MtM X "list.extend" rExtend:=by
  intro pQ s O H x y v us Q I g rv h;obtain⟨l,b,xs,t,rfl,rfl,f,o,A,q⟩:=h;cases g;obtain⟨u,rfl,i⟩:=rv.one;cases i;obtain⟨z,its,n,r,B,e⟩:=I.lstM f;obtain⟨w,a,k,j,m,p⟩:=I.lstM o;have d:its.toArray.size+a.toArray.size<=aw:=by rw[aG,aG];omega
  have c:¬(!its.toArray.isEmpty&&Builtin.List.listTooLong (its.toArray.size+a.toArray.size))=ac:=by
    rw[notLongL d,Bool.and_false];exact Bf
  refine call_meets F.slot_list_extend ⟨_,e,rfl⟩ F.entry_list_extend (F.args_list_extend_2 _ _)
    (AutoSeq1.list_extend_list_list_0 l its.toArray n b a.toArray k c (by rw[aG];omega) (by omega)) ⟨e,p,?_⟩
  refine⟨.non,_,I.lset (its':=its++a) f e (by simp) (r.append j) ?_,rfl,q⟩
  rw[aI];omega
def rPop:V->Li V->Hp->VK->Prop:=λx a H Q=>∃ l xs y,x=.ref l/\a=[]/\H l=aa (.lst xs)/\xs[xs.length - 1]?=aa y/\Q y (upd H l (.lst xs.dropLast))
theorem mt_pop:MtM X "list.pop" rPop:=by
  intro pQ s O H x k v us Q I d rv h;obtain⟨l,xs,y,rfl,rfl,c,g,q⟩:=h;cases d;have b:=rv.zero;subst b;obtain⟨z,its,n,r,j,e⟩:=I.lstM c;obtain⟨u,i,f⟩:=r.get g;have a:its.toArray[its.toArray.size - 1]?=aa u:=by
    show its.toArray[its.length - 1]?=aa u;rw[<-dU,<-j];exact i
  refine call_meets F.slot_list_pop ⟨_,e,rfl⟩ F.entry_list_pop (F.args_list_pop_1 _) (MeetsSeq.list_pop_last l its.toArray n u a (by rw[aG];omega)) ⟨e,?_⟩
  refine⟨y,_,I.lset (its':=its.dropLast) c e ?_ r.dropLast ?_,f,q⟩
  . show its.toArray.eraseIdxIfInBounds (its.toArray.size - 1)=its.dropLast.toArray
    rw[aG,List.eraseIdxIfInBounds_toArray,erase_last]
  . rw[List.length_dropLast]
    omega
def rRep:R2:=λx y H Q=>∃ l k xs,x=.ref l/\y=.int k/\H l=aa (.lst xs)/\-(2 ^ 63)<=k/\k < 2 ^ 63/\xs.length * k.toNat<=aw /\
  ∀ p,H p=ab->Q (.ref p) (upd H p (.lst (af k.toNat xs).flatten))
def len_rep(xs:Li α)(k:Nat):(af k xs).flatten.length=k * xs.length:=by
  induction k with
  |zero=>simp
  |succ k a=>rw[cK,cY,aI,a,Nat.succ_mul,Nat.add_comm]
theorem op_rep:OpR X (bo .Mult) rRep:=by
  intro pQ s O H x y v u Q I A w h;obtain⟨l,k,xs,rfl,rfl,C,E,D,o,q⟩:=h;cases A;obtain⟨t,rfl⟩:=w;obtain⟨z,its,n,r,B,e⟩:=I.lstM C;have d:its.toArray.size * k.toNat<=aw:=by rw[aG,<-B];exact o
  have g:¬its.toArray.size * k.toNat > (2 ^ 63 - 1) / 8:=by
    have:(aw:Nat)<=(2 ^ 63 - 1) / 8:=by decide
    omega
  have f:¬(!Builtin.List.listFitsIndex k)=ac:=by
    rw[fitsIndex_both E D];exact Bf
  have b:¬Builtin.List.listTooLong (its.toArray.size * k.toNat)=ac:=by
    rw[notLongL d];exact Bf
  have c:List.foldl (λj i=>j++i) #[] (af (if its.toArray.isEmpty=ac then 0 else k.toNat) its.toArray)=(af k.toNat its).flatten.toArray:=by
    have G:∀ m:Nat,List.foldl (λj i=>j++i) #[] (af m its.toArray)=(af m its).flatten.toArray:=λm=>by
      have:=foldl_rep its m [];rw[dE]at this;exact this
    rw[G];cases its with
    |nil=>simp
    |cons a J=>rw[aq (by simp)]
  refine wpAny_binaryOp_repeat_ref (T := "list") (U := "int") (by decide) ⟨_,e,rfl⟩ (λp=>typeIs_int p k t) noFill_list_mul F.fills_int_mul F.slot_int_rmul repeat_list F.slot_int_index.lookup
    (call_meets F.slot_int_rmul (typeIs_int s k t) F.entry_int_rmul (F.args_int_rmul_2 _ _) (int___rmul___int_list k t l its.toArray n)
      ⟨e,rfl,⟨_,e,rfl⟩,call_meets F.slot_list_mul ⟨_,e,rfl⟩ F.entry_list_mul (F.args_list_mul_2 _ _) (AutoListH.list___mul___list_int_3 l its.toArray n k t f g b) ⟨e,?_⟩⟩)
  rw[c];exact⟨.ref _,_,I.lnew (t':=s.toks) (r.rep k.toNat) (by rw[len_rep,Nat.mul_comm];exact o),rfl,q _ I.fresh⟩
section
variable{prog:a1}{w:bg}{A:bm}{E:vL->Sd->Prop}
end
end L2
namespace Att
open PySem PySem.W PySem.Calls PyProof.Rows
variable{h:bf}
def ints_of_wellAll{P:Params}:∀ (c:Li Int) (d:Li vL),WellAll P h d (c.map WData.int)->IntsAre d c:=by
  intro c
  induction c with
  |nil=>
    intro d w;rw[dF]at w;cases w;exact .nil
  |cons n c e=>
    intro d w;rw[aK]at w;cases w with
    |cons a b=>
      cases a;exact .cons _ _ (e _ b)
variable{l:OpenLaw}
def script_of{n:Nat}(w:l.most=aa n){P:Params}{args:Li WData}{c:Li vL}(e:l.row.toRowW.claim.pre args=ac)(k:WellAll P h c args) :
    ∃ a o b,c=[bq a]/\args=[WData.list (b.map WData.int)]/\h.get? a=aa { cls:=.type "list",data:=.seq o.toArray }/\IntsAre o b/\b.length<=n:=by
  have m:WShape.hasAll [] args [.list .int]=ac:=(pre_splitW e).1;have p:l.pre.holds [] { args:=args }=ac:=(pre_splitW e).2;obtain⟨d,r,rfl,z,y⟩:=hasAllW_cons m;obtain rfl:=hasAllW_nil y;obtain⟨A,rfl,x⟩:=hasW_list z;obtain⟨b,rfl⟩:=items_int x;have f:b.length<=n:=by
    unfold OpenLaw.pre at p;have j:(WTm.not (.lt (.lit (.int (n:Int))) (.len (.arg 0)))).holds [] { args:=[.list (b.map .int)] }=ac:=by
      have j:=(holds_andW p).1;rw[w]at j;exact j
    have i:=condW_of j (w_not (w_lt w_lit (w_len_list (w_arg rfl))));rw[aD]at i;refine dW λq=>?_
    have u:(n:Int) < ((b.length:Nat):Int):=by omega
    first
      | (rw[aP u]at i;exact ar i (by decide))
      | (simp at i;omega)
  cases k with
  |cons t s=>
    cases s;cases t with
    |list v g=>exact⟨_,_,b,rfl,rfl,v,ints_of_wellAll b _ g,f⟩
def post_true(l:OpenLaw)(args:Li WData):l.row.toRowW.claim.post args (.bool ac) args=ac:=
  postW_of (r:=l.row.toRowW) (X:=(ac==ac))
    (show WShape.has [] (.bool ac) .bool=ac by first|rfl|decide|simp[WShape.has,WShape.arms,WShape.armsAll])
    (show(WTm.eq .res (.lit (.bool ac))).value [] { args:=args,res:=aa (.bool ac),after:=args }=aa (.bool (ac==ac)) from w_eq_bool (w_res rfl) w_lit) rfl
def attach_call{n:Nat}{q:a1}{c:Li Str}{H:(Str->Ot vL)->bf->Prop}{F:bg->bf->Prop}{d:DefRec}(L:l.most=aa n)(z:d.params.defaults=[])(call:∀ (w:bg) (s₀ b:Sd) (mg v:Str->Ot vL) (m:Ad) (o:Obj) (u t g:vL) (a:Ad) (h:Li vL) (s:Li Int),
      Ground q c [] H w s₀ mg v b.heap->F w b.heap->
      b.heap.get? m=aa o->o.data=.func (docDef d.name d.params d.body d.scope u t g)->b.heap.CodeRec t d.name->mg d.name=aa (.ref m)->
      b.heap.get? a=aa { cls:=.type "list",data:=.seq h.toArray }->IntsAre h s->s.length<=n->b.gens=#[]->
      codeAny (a0 l.prog w) callerA (.call (.ref m) ⟨[.ref a],[]⟩) (λr p=>r=.ok (.ret (.bool ac))/\OldK b.heap p.heap/\p.os=b.os/\AllBare p.gens) b) :
    WalkO q c H F l.row.toRowW d [] (λf h=>PySem.call f h):=by
  intro w s₀ b mg v G Y m o u t g T kV K P A D y O E B U i C I x N;obtain rfl:T=.none:=Dflts.none D z;obtain rfl:kV=.none:=Dflts.noKw D;obtain⟨a,h,s,rfl,rfl,j,e,k⟩:=script_of L i x;refine enter_call (codeAny_mono (call w s₀ b mg v m o u t g a h s G Y K (fd_plain P) A y j e k O) λr p J=>?_)
  obtain⟨rfl,S,R,Q⟩:=J;exact⟨.inl ⟨.bool ac,.bool ac,[],rfl,λ_=>rfl,.bool ac,post_true l _,λ_=>⟨List.Pairwise.nil,λ_ M=>(nomatch M)⟩⟩,S,R,Q⟩
section
variable{prog:a1}{w:bg}{A:bm}{E:vL->Sd->Prop}{s:Sd}{K:Frag}
end
end Att
namespace L2
open PySem PySem.Spec PyProof.Rows
theorem vals_ints:∀ {vs:Li vL}{ns:Li Int},IntsAre vs ns->Vals (ns.map V.int) vs
  |_,_,.nil=>.nil
  |_,_,.cons n t h=>.cons ⟨t,rfl⟩ (vals_ints h)
def Only(H:Hp):Prop:=∀ b,H b=ab\/∃ o a,H b=aa (.frz o (.lst a))
variable{w:bg}
def law_call{P:a1}{K:Fg}{mg Q:Str->Ot vL}{CX:CXT}{k:Nat}{W a:Ad}{fd:bc}{x:Str}{Y:Sp}{c:Sd}{p:Li vL}{A:Li Int}(KX:K.In c.heap)(E:c.heap.Ns ay mg)(g:c.heap.Ns builtinsNs Q)(T:∀ x:Str,x ≠ "__name__"->Q x=a6 x)(G:c.heap.NoLimit)(hg:c.gens=#[])(N:c.heap.get? a=aa { cls:=.type "list",data:=.seq p.toArray })(hi:IntsAre p A)(Z:A.length<=aw)(hr:Room k callerA)(F:∀ base:bf,K.In base->base.Ns ay mg->FnOk P w K mg base CX k W fd [x] Y)(t:∀ (s:Sd) (u:vL),BindsTo s fd ⟨[u],[]⟩ [(x,u)])(R:∀ H:Hp,Only H->SqL K H a (A.map V.int)->Y [.ref a] H (λv _=>v=.bl ac) λ_ _ _=>False)(U:∀ H e i,CX [] H c (λ_ _ _=>False) e i->False) :
    codeAny (a0 P w) callerA (.call (.ref W) ⟨[.ref a],[]⟩) (λr i=>r=.ok (.ret (.bool ac))/\OldK c.heap i.heap/\i.os=c.os/\AllBare i.gens) c:=by
  have rv:=vals_ints hi;have B:=hi.length
  -- from an abstract heap in which nothing but the script may be tracked
  have l:∀ H:Hp,Only H->SqL K H a (A.map V.int)->HOk P w H c.heap->(∀ b,H b≠ab->b=a)->(H a≠ab->K.lookup a=ab)->
      codeAny (a0 P w) callerA (.call (.ref W) ⟨[.ref a],[]⟩) (λr i=>r=.ok (.ret (.bool ac))/\OldK c.heap i.heap/\i.os=c.os/\AllBare i.gens) c:=by
    intro H hO hS D hA hK;have f:∀ {b:Ad}{o:Obj},c.heap.get? b=aa o->H b=ab->(hidT c.heap H).get? b=aa o:=λe n=>hidT_get e n
    have O:∀ {b:Ad}{o:Obj}{J:Array DictEntry}{L:Nat},c.heap.get? b=aa o->o.data=.dict J L->H b=ab:=λ{b o J L} e d=>by
      cases q:H b with
      |none=>rfl
      |some u=>
        have X:b=a:=hA b (by rw[q];simp)
        subst X;rw[N]at e;cases e
        have d':Data.seq p.toArray _=Data.dict J L:=d;cases d'
    have j:∀ {b:Ad}{m:Str->Ot vL},c.heap.Ns b m->(hidT c.heap H).Ns b m:=λ{b m} ⟨o,J,L,e,d,r⟩=>⟨o,J,L,f e (O e d),d,r⟩
    have I:K.In (hidT c.heap H):=λb o e=>f (KX b o e) (by
      cases q:H b with
      |none=>rfl
      |some u=>
        have X:b=a:=hA b (by rw[q];simp)
        subst X;rw[hK (by rw[q];simp)]at e;cases e)
    have hM:Mod K mg (hidT c.heap H):=⟨I,j E,⟨Q,j g,T⟩,let ⟨mc,h1,h2⟩:=G;⟨mc,j h1,h2⟩⟩
    have e0:Env0 P w K mg (hidT c.heap H) callerA [] c H:=⟨rfl,hM,λb o e=>of_hidT e,dA (hidT_size _ _),trivial,λb g=>ar (show b∈([]:Li Ad) from g) (by simp),D,.of_eq hg⟩
    refine codeAny_mono ((F _ I (j E)).run callerA [] c H ⟨[.ref a],[]⟩ [.ref a] [.ref a] _ _ hr e0 (t c (.ref a)) (.cons rfl .nil) (R H hO hS)) λr i h=>?_
    cases r with
    |error e=>exact(U H e i h).elim
    |ok fl=>
      cases fl with
      |next=>exact False.elim h
      |brk=>exact False.elim h
      |cont=>exact False.elim h
      |ret u=>
        obtain⟨v,H',os,M,un,C,r',q⟩:=h;have q':v=.bl ac:=q;subst q';obtain rfl:u=Value.bool ac:=r';refine⟨rfl,OldK.of_keep λb o e=>?_,os,M⟩
        cases q:H b with
        |none=>exact un.keep b o e q (by intro z;exact ar (show b∈([]:Li Ad) from z) (by simp)) (by simp)
        |some u=>
          rcases hO b with z|⟨ob,xs,z⟩
          . rw[q]at z;cases z
          . have z2:=un.frzs b ob _ z
            obtain⟨e1,_⟩:=D b _ z;obtain⟨e2,_⟩:=C b _ z2;rw[e]at e1;cases e1
            exact e2
  cases S:K.lookup a with
  |some o=>
    -- the script is one of the module's own objects
    have e:=KX a o S;rw[N]at e;cases e;refine l (λ_=>ab) (λ_=>.inl rfl) (.inr ⟨_,p.toArray,_,S,rfl,rfl,rfl,by rw[aG,B];exact Z,by simpa using rv⟩) (λb u z=>by have y:(ab:Ot HO)=aa u:=z;cases y) (λb z=>ar rfl z) λz=>ar rfl z
  |none=>
    refine l (λb=>if b=a then aa (.frz { cls:=.type "list",data:=.seq p.toArray } (.lst (A.map V.int))) else ab) (λb=>?_) (.inl (.inr ⟨{ cls:=.type "list",data:=.seq p.toArray },ao rfl⟩)) (λb u z=>?_) (λb z=>?_) λ_=>S
    . by_cases g:b=a
      . exact .inr ⟨_,_,ao g⟩
      . exact .inl (aq g)
    . by_cases g:b=a
      . have y:=(ao g).symm.trans z
        cases y;subst g;exact⟨N,by rw[aD];exact Z,p,_,rv,N⟩
      . have y:=(aq g).symm.trans z
        cases y
    . by_cases g:b=a
      . exact g
      . exact ar (aq g) z
def walk_of{l:W.OpenLaw}{n k:Nat}{q:a1}{i:Li Str}{XP:(Str->Ot vL)->bf->Prop}{J:bg->bf->Prop}{d:DefRec}{K:Params->Fg}{CX:bg->CXT}{sp:bg->Sp}{x:Str}(N:l.most=aa n)(A:n<=aw)(C:d.params.defaults=[])(M:Room k callerA)(R:∀ (w:bg) (h:bf),J w h->(K w.params).In h)(F:∀ (w:bg) (mg:Str->Ot vL) (t:Ad) (h:bf),(K w.params).In h->h.Ns ay mg->mg d.name=aa (.ref t)->
      ∃ fd:bc,(∀ (s:Sd) (u:vL),BindsTo s fd ⟨[u],[]⟩ [(x,u)]) /\
        ∀ base:bf,(K w.params).In base->base.Ns ay mg->FnOk l.prog w (K w.params) mg base (CX w) k t fd [x] (sp w))(z:∀ (w:bg) (H:Hp) (a:Ad) (r:Li Int),r.length<=n->Only H->SqL (K w.params) H a (r.map V.int)->sp w [.ref a] H (λv _=>v=.bl ac) λ_ _ _=>False)(D:∀ (w:bg) (H:Hp) (s:Sd) (e:vL) (y:Sd),CX w [] H s (λ_ _ _=>False) e y->False) :
    W.WalkO q i XP J l.row.toRowW d [] (λf E=>PySem.call f E):=by
  refine Att.attach_call N C λw I m mg mb t o pm cd Z a E r G Y ho hd P B p j c O=>?_
  have L:=R w _ Y;obtain⟨fd,Q,X⟩:=F w mg t _ L G.T.g B;exact law_call L G.T.g G.T.b G.T.builtins G.T.nolimit O p j (aR c A) M X Q (λH U S=>z w H a r c U S) λH e y=>D w H m e y
noncomputable def defArgs(s:Stmt):Arguments:=match s with
  |.FunctionDef _ a _ _ _ _ _ _ _ _=>a
  |_=>{ posonlyargs:=[],args:=[],vararg:=ab,kwonlyargs:=[],kw_defaults:=[],kwarg:=ab,defaults:=[] }
noncomputable def defBody(s:Stmt):Li Stmt:=match s with
  |.FunctionDef _ _ b _ _ _ _ _ _ _=>b
  |_=>[]
noncomputable def defScope(s:Stmt):a7:=match s with
  |.FunctionDef _ _ _ _ _ _ sc _ _ _=>sc
  |_=>{ kind:=.function,names:=[],isGenerator:=ae,isCoroutine:=ae }
noncomputable abbrev CX0:CXT:=λ_ _ _ _ _ _=>False
abbrev E0:XK:=λ_ _ _=>False
variable{X:Cx}
def pass0:Passes CX0 X E0:=λ_ _ _ _ _ _ _ h=>h.elim
structure Fun(K:Fg)(x qual:Str)(st:Stmt)(f:Addr)(fd:bc):Prop where
  ex:∃ (oc:Value) (od:Option Addr) (kV doc pm:Value) (an:Option Addr) (cdv ct:Value) (osl:Array (Option Value)),
    fd=W.fnOf x qual (defArgs st) (defBody st) (defScope st) .none kV doc pm an cdv ct/\K.lookup f=aa ⟨oc,od,.func fd,osl⟩/\W.codeIn K cdv qual=ac
  kp:W.keepIn K (.ref f)=ac
variable{P:a1}{w:bg}
section
variable{K:Fg}{mg:Str->Ot vL}{base:bf}
end
variable{X:Cx}
variable{y:V}{u:vL}
section
variable {κ:Type} [DecidableEq κ]
noncomputable def valV(a:Li (κ×V))(k:κ):Ot V:=(a.find? λb=>aj (b.1=k)).map (·.2)
noncomputable def putK(a:Li (κ×V))(k:κ)(v:V):Li (κ×V):=
 if (a.any λb=>aj (b.1=k))=ac then a.map (λb=>if b.1=k then (b.1,v) else b) else a++[(k,v)]
def valV_pos{p:κ×V}{r:Li (κ×V)}{k:κ}(e:p.1=k):valV (p :: r) k=aa p.2:=by simp[valV,cC,e]
def valV_neg{p:κ×V}{r:Li (κ×V)}{k:κ}(e:¬p.1=k):valV (p :: r) k=valV r k:=by simp[valV,cC,e]
def length_putK(a:Li (κ×V))(k:κ)(v:V):(putK a k v).length<=a.length+1:=by
 unfold putK;split
 .rw[aD];omega
 .rw[aI,aQ,cQ];omega
def RelO.isSome_eq{o:Ot V}{u:Ot vL}(r:RelO o u):o.isSome=u.isSome:=by
 cases o with
 |none=>cases u with
  |none=>rfl
  |some _=>exact(show False from r).elim
 |some _=>cases u with
  |none=>exact(show False from r).elim
  |some _=>rfl
def KV.val{a:Li (κ×V)}{f:Li (κ×vL)}(r:KV a f)(k:κ):RelO (valV a k) (valueAt f k):=by
 unfold KV at r
 induction r with
 |nil=>exact True.intro
 |@cons p q l c h t i=>
  obtain⟨g,j⟩:=h;by_cases e:p.1=k
  .have d:q.1=k:=g.symm.trans e
   have b:valueAt (q :: c) k=aa q.2:=by simp[valueAt,cC,d]
   rw[valV_pos e,b];exact j
  .have d:¬q.1=k:=λz=>e (g.trans z)
   have b:valueAt (q :: c) k=valueAt c k:=by simp[valueAt,cC,d]
   rw[valV_neg e,b];exact i
theorem KV.any{a:Li (κ×V)}{c:Li (κ×vL)}(r:KV a c)(k:κ):(a.any λb=>aj (b.1=k))=c.any λb=>aj (b.1=k):=by
 unfold KV at r
 induction r with
 |nil=>rfl
 |cons h t d=>rw[cP,cP,d,h.1]
def KV.repl{b:Li (κ×V)}{d:Li (κ×vL)}(r:KV b d)(k:κ)(f:RelV y u) :
  KV (b.map λa=>if a.1=k then (a.1,y) else a) (d.map λa=>if a.1=k then (a.1,u) else a):=by
 unfold KV at r ⊢
 induction r with
 |nil=>exact .nil
 |@cons p q l j h t g=>
  rw[aK,aK];refine .cons ?_ g;obtain⟨c,i⟩:=h;by_cases e:p.1=k
  .rw[ao e,ao (c.symm.trans e)];exact⟨c,f⟩
  .rw[aq e,aq (λz=>e (c.trans z))];exact⟨c,i⟩
def KV.put{a:Li (κ×V)}{b:Li (κ×vL)}(r:KV a b)(k:κ)(c:RelV y u):KV (putK a k y) (stored b k u):=by
 unfold putK stored;rw[r.any k];by_cases e:(b.any λd=>aj (d.1=k))=ac
 .rw[ao e,ao e];exact r.repl k c
 .rw[aq e,aq e];exact Paired.snoc r ⟨rfl,c⟩
end
def kV_is{P:a1}{k:Key}(r:RelV (kV k) u):(mixKind P w).is k u=ac:=by
 cases k with
 |inl i=>obtain⟨t,e⟩:=(show ∃ t,u=Value.int i t from r);subst e;exact mixKind_int P w i t
 |inr x=>obtain⟨t,e⟩:=(show ∃ t,u=Value.str x t from r);subst e;exact mixKind_str P w x t
variable{H:Hp}{h:bf}{a:Ad}
def rd_of{u:HO}(ok:HOk P w H h)(e:Rd H a u):ObjOk P w H h a u:=e.ok ok
def dk_rd{b:Li (Key×V)}(ok:HOk P w H h)(e:Rd H a (.dK b)):b.length<=aw/\(a==bj)=ae/\∃ c,KV b c/\h.DictOf (mixKind P w) a c:=
 show ObjOk P w H h a (.dK b) from rd_of ok e
def dk_of{b:Li (Key×V)}(ok:HOk P w H h)(e:H a=aa (.dK b)):b.length<=aw/\(a==bj)=ae/\∃ c,KV b c/\h.DictOf (mixKind P w) a c:=dk_rd ok (.inl e)
variable{h':bf}
variable{y:V}{u:vL}
section
variable{pQ:Li (Ad×Obj)}{O:St}{s:Sd}{v:V}{r:vL}{o:Ot V}{A:bm}{E:vL->Sd->Prop}
def Inv.big(I:Inv X pQ O H s):bj < s.heap.objs.size:=by
 have h:ay < s.heap.objs.size:=(I.mod.glob.keeps I.bk).lt;exact Nat.lt_trans (by decide) h
def d_write{d:Nat}{c:HO}(I:Inv X pQ O H s)(mu:Mut (H a))(f:Heap.SameBut a s.heap h')(g:∃ q,h'.get? a=aa q)(new:ObjOk X.prog X.w (upd H a c) h' a c) :
  Inv X pQ O (upd H a c) { s with heap:=h',toks:=d }:=
 I.write (x:=a) (e:=a) mu (.inl rfl) (λb q h z=>(f.2 b h).trans z) g new
def dk_new{P:a1}{e:Hp}{b:Li (Key×V)}{c:Li (Key×vL)}(z:b.length<=aw)(hd:(a==bj)=ae)(d:KV b c)(dd:h'.DictOf (mixKind P w) a c) :
  ObjOk P w e h' a (.dK b):=⟨z,hd,c,d,dd⟩
end
variable{H:Hp}
def dk_empty{P:a1}(h:bf)(a:bj < h.objs.size):ObjOk P w H (h.push { cls:=.type "dict",data:=.dict #[] }) h.objs.size (.dK []):=
 ⟨aS _,cL.mpr (Ne.symm (aW a)),[],.nil,Heap.DictOf.new h⟩
def tPairs:Li (TE×TE)->St->Hp->(Li (V×V)->Hp->Prop)->Prop
 |[],_,H,Q=>Q [] H
 | (b,a) :: r,O,H,Q=>b O H λx f=>a O f λy e=>tPairs r O e λc d=>Q ((x,y) :: c) d
abbrev VV:Li (V×V)->Li (vL×vL)->Prop:=Paired λp q=>RelV p.1 q.1/\RelV p.2 q.2
def PPs(X:Cx)(c:Pos)(keys:Li (Ot ax))(a:Li ax)(b:Li (TE×TE)):Prop:=
 ∀ (pQ:Li (Ad×Obj)) (s:Sd) (O:St) (H:Hp) (Q:Li (V×V)->Hp->Prop),Inv X pQ O H s->tPairs b O H Q->
  az (a0 X.prog X.w) X.A (evalPairs (pairTrees keys a X.env c)) (λf g=>∃ d e,Inv X pQ O e g/\VV d f/\Q d e) X.xe s
variable{pos:Pos}
def pps_nil:PPs X pos [] [] []:=λa s O H Q I h=>pairTrees_nil_walk ⟨[],H,I,.nil,h⟩
variable{trs:Li (TE×TE)}
def pps_cons{k v:ax}{f:Li (Ot ax)}{c:Li ax}{e d:TE}(r:PE X k e)(p:PE X v d)(q:PPs X pos f c trs) :
  PPs X pos (aa k :: f) (v :: c) ((e,d) :: trs):=λb s O H Q I h=>
 pairTrees_cons_walk (thn (r b s O H _ I h) λu s1 ⟨x,C,z,j,n⟩=>thn (p b s1 O C _ z n) λE g ⟨y,B,w,i,m⟩=>
  thn (q b g O B _ w m) λD F ⟨o,A,t,a,l⟩=>⟨(x,y) :: o,A,t,.cons ⟨j,i⟩ a,l⟩)
def mergeK(a more:Li (Key×V)):Li (Key×V):=more.foldl (λb c=>putK b c.1 c.2) a
def KV.merge:∀ {more:Li (Key×V)}{rs:Li (Key×vL)}{a:Li (Key×V)}{b:Li (Key×vL)},KV more rs->KV a b->KV (mergeK a more) (merged b rs):=by
 intro more rs a b r;unfold KV at r
 induction r generalizing a b with
 |nil=>intro q;exact q
 |@cons p q g f h t d=>
  intro c;have e:KV (putK a p.1 p.2) (stored b q.1 q.2):=by
   have:=c.put p.1 h.2;rw[<-h.1];exact this
  exact d e
theorem length_mergeK:∀ (more a:Li (Key×V)),(mergeK a more).length<=a.length+more.length
 |[],a=>by show a.length<=a.length+0;omega
 |p :: r,a=>by
  have c:=length_mergeK r (putK a p.1 p.2);have b:=length_putK a p.1 p.2;show(mergeK (putK a p.1 p.2) r).length<=_;rw[aQ];omega
theorem carries_of{P:a1}{w:bg}:∀ {d:Li (Key×V)}{ws:Li (vL×vL)},VV (d.map λe=>(kV e.1,e.2)) ws->∃ rs,Carries (mixKind P w) ws rs/\KV d rs
 |[],_,r=>by rw[dF]at r;cases r;exact⟨[],True.intro,.nil⟩
 |p :: d,_,r=>by
  rw[aK]at r;cases r with
  |@cons a b i bs h t=>
   obtain⟨rs,c,q⟩:=carries_of (P:=P) (w:=w) t;obtain⟨g,f⟩:=b;exact⟨(p.1,f) :: rs,⟨kV_is h.1,rfl,c⟩,.cons ⟨rfl,h.2⟩ q⟩
def tDisp(K:Fg)(trs:Li (TE×TE)):TE:=λO H Q=>∀ p,H p=ab->(∀ o,K.lookup p≠aa o)->tPairs trs O (upd H p (.dK [])) λd c=>c p=aa (.dK [])/\∃ a:Li (Key×V),d=a.map (λb=>(kV b.1,b.2))/\a.length<=15/\Q (.ref p) (upd c p (.dK (mergeK [] a)))
def pe_disp{keys:Li (Ot ax)}{b:Li ax}(h:PPs X pos keys b trs)(f:keys.all (·.isSome)=ac)(x:keys.length=b.length)(C:keys≠[])(j:keys.length<=15):PE X (.Dict keys b pos) (tDisp X.K trs):=by
 intro r s O H Q I q;have v:=I.hok.fresh (aE s.heap.objs.size);have E:=I.laid (a:=s.heap.objs.size) (o:=.dK []) (h':=s.heap.push { cls:=.type "dict",data:=.dict #[] }) (t':=s.toks) (λ_ _ q=>aO _ q) (aE _) (dk_empty s.heap I.big)
 refine wpAny_Dict_walk (knd:=mixKind X.prog X.w) f x C j (thn (h r _ O _ _ E (q _ v λo z=>ar (aJ (I.kIn _ o z)) (bZ _))) λF G ⟨J,L,k,i,e,d,D,lk,p⟩=>?_)
 subst D;obtain⟨rs,c,m⟩:=carries_of (P:=X.prog) (w:=X.w) i;obtain⟨z,A,l,n,dd⟩:=dk_of k.hok e;cases n;refine⟨rs,c,dd,λh' g u=>⟨.ref s.heap.objs.size,_,?_,rfl,p⟩⟩
 have t:(mergeK [] d).length<=aw:=by
  have B:=length_mergeK d [];rw[cQ]at B;rw[sizeLine_eq];omega
 have y:∃ q,h'.get? s.heap.objs.size=aa q:=let ⟨q,_,_,hq,_⟩:=g;⟨q,hq⟩
 exact d_write k (by rw[e];exact True.intro) u y (dk_new t A (m.merge .nil) g)
def rIxD:R2:=λx y H Q=>∃ p a k v,x=.ref p/\y=kV k/\H p=aa (.dK a)/\valV a k=aa v/\Q v H
def ix_dct:IxR X rIxD:=by
 intro a slice t s O H x y v u Q I f e h j;obtain⟨p,g,k,z,rfl,rfl,l,m,q⟩:=h;cases f;obtain⟨n,w,d,c,dd⟩:=dk_of I.hok l;obtain⟨r,i,b⟩:=RelO.some_of (v:=z) (o:=valueAt d k) (by rw[<-m];exact c.val k)
 exact tail_any dd.typeIs PySem.F.slot_dict_getitem.lookup (wpAny_getItem_of (kV_is e) dd.mapOf i ⟨z,H,I.tok _,b,q⟩) j
def rInD:R2:=λx y H Q=>∃ p a k,y=.ref p/\x=kV k/\H p=aa (.dK a)/\Q (.bl (valV a k).isSome) H
def op_in_dct:OpR X (bh .In) rInD:=by
 intro j s O H x y v u Q I d c h;obtain⟨p,b,k,rfl,rfl,e,q⟩:=h;cases c;obtain⟨g,f,i,a,dd⟩:=dk_of I.hok e;refine wpAny_in_of (kV_is d) f dd.mapOf ?_;rw[<-(a.val k).isSome_eq];exact⟨.bl (valV b k).isSome,H,I.tok _,rfl,q⟩
section
variable {κ:Type} [DecidableEq κ]
theorem valV_any(k:κ):∀ a:Li (κ×V),(a.any λb=>aj (b.1=k))=(valV a k).isSome
 |[]=>rfl
 |p :: r=>by
  rw[cP];by_cases e:p.1=k
  .simp only[valV_pos e,aP e,Bool.true_or,Option.isSome_some]
  .rw[valV_neg e,aH e,Bool.false_or];exact valV_any k r
end
theorem items_are{P:a1}{w:bg}:∀ {a:Li Key}{us:Li vL},Vals (a.map kV) us->ItemsAre (mixKind P w) a us
 |[],_,r=>by rw[dF]at r;cases r;exact .nil
 |k :: a,_,r=>by
  rw[aK]at r;cases r with
  |cons h t=>exact .cons (kV_is h) (items_are t)
abbrev KTp(H:Hp):Li (Li Key×V)->Li (Li Key×Ad×vL)->Prop:=Paired λp q=>p.1=q.1/\H q.2.1=aa (.tup (p.1.map kV))/\RelV p.2 q.2.2
variable{kvs:Li (Li Key×V)}{xs:Li (Li Key×Ad×vL)}
def KTp.val(r:KTp H kvs xs)(k:Li Key):RelO (valV kvs k) ((atKey xs k).map (·.2)):=by
 induction r with
 |nil=>exact True.intro
 |@cons p q i a h t f=>
  obtain⟨d,_,g⟩:=h;by_cases e:p.1=k
  .have c:q.1=k:=d.symm.trans e
   have b:atKey (q :: a) k=aa q.2:=by simp[atKey,cC,c]
   rw[valV_pos e,b];exact g
  .have c:¬q.1=k:=λz=>e (d.trans z)
   have b:atKey (q :: a) k=atKey a k:=by simp[atKey,cC,c]
   rw[valV_neg e,b];exact f
def KTp.repl(r:KTp H kvs xs)(k:Li Key)(d:RelV y u) :
  KTp H (kvs.map λb=>if b.1=k then (b.1,y) else b) (xs.map (putAt k u)):=by
 induction r with
 |nil=>exact .nil
 |@cons p q j i h t f=>
  rw[aK,aK];refine .cons ?_ f;obtain⟨a,c,g⟩:=h;unfold putAt;by_cases e:p.1=k
  .rw[ao e,ao (a.symm.trans e)];exact⟨a,c,d⟩
  .rw[aq e,aq (λz=>e (a.trans z))];exact⟨a,c,g⟩
def KTp.put(r:KTp H kvs xs)(k:Li Key){b:Ad}(d:H b=aa (.tup (k.map kV)))(a:RelV y u) :
  KTp H (putK kvs k y) (storedH xs k b u):=by
 have e:(kvs.any λc=>aj (c.1=k))=(atKey xs k).isSome:=by
  rw[valV_any,(r.val k).isSome_eq,Option.isSome_map]
 unfold putK storedH;rw[e];by_cases q:(atKey xs k).isSome=ac
 .rw[ao q,ao q];exact r.repl k a
 .rw[aq q,aq q];exact Paired.snoc r ⟨rfl,d,a⟩
def KTp.keeps{c:Hp}(r:KTp H kvs xs)(d:∀ b a,H b=aa (.tup a)->c b=aa (.tup a)):KTp c kvs xs:=
 Paired.mapP r λ_ _ z=>⟨z.1,d _ _ z.2.1,z.2.2⟩
variable{ks:Li Key}
def key_at{b:Li vL}(r:Vals (ks.map kV) b)(t:IsTup h a b.toArray):(tupleKind (mixKind P w)).is h ks a:=by
 obtain⟨o,e,d,n,c⟩:=t;exact⟨o,b.toArray,n,e,d,c,by simpa using items_are r⟩
def key_of(ok:HOk P w H h)(e:H a=aa (.tup (ks.map kV))):(tupleKind (mixKind P w)).is h ks a:=by
 obtain⟨_,b,r,o,f,d,n,c⟩:=(show ObjOk P w H h a (.tup (ks.map kV)) from ok a _ e);exact⟨o,b.toArray,n,f,d,c,by simpa using items_are r⟩
def dt_rd(ok:HOk P w H h)(e:Rd H a (.dT kvs)):kvs.length<=aw/\(a==bj)=ae /\
  ∃ xs,KTp H kvs xs/\h.DictOfH (tupleKind (mixKind P w)) a xs:=by
 obtain⟨z,y,xs,r,o,k,n,j,i,g,f,d⟩:=(show ObjOk P w H h a (.dT kvs) from rd_of ok e);refine⟨z,y,xs,r,o,k,n,j,i,g,f,λx hx=>?_,d⟩
 have all:∀ {l:Li (Li Key×V)}{m:Li (Li Key×Ad×vL)},KTp H l m->∀ x∈m,(tupleKind (mixKind P w)).is h x.1 x.2.1:=by
  intro l m q
  induction q with
  |nil=>intro x hx;exact nomatch hx
  |@cons p q u s b t c=>
   intro x hx;rcases aF.mp hx with e|hx
   .subst e
    exact key_of ok (by rw[<-b.1];exact b.2.1)
   .exact c x hx
 exact all r x hx
def dt_of(ok:HOk P w H h)(e:H a=aa (.dT kvs)):kvs.length<=aw/\(a==bj)=ae /\
  ∃ xs,KTp H kvs xs/\h.DictOfH (tupleKind (mixKind P w)) a xs:=dt_rd ok (.inl e)
def dt_empty{P:a1}(h:bf)(a:bj < h.objs.size):ObjOk P w H (h.push { cls:=.type "dict",data:=.dict #[] }) h.objs.size (.dT []):=
 ⟨aS _,cL.mpr (Ne.symm (aW a)),[],.nil,_,#[],0,aX _ rfl,⟨rfl,rfl,rfl⟩,rfl,rfl,dG⟩
def rSetT:V->V->V->Hp->(Hp->Prop)->Prop:=λo i v H Q=>∃ p b kvs k,o=.ref p/\i=.ref b/\H p=aa (.dT kvs)/\H b=aa (.tup (k.map kV))/\kvs.length < aw/\Q (upd H p (.dT (putK kvs k v)))
def set_dT(hu:X.A.units+1 < cLine):PSet X rSetT:=by
 intro K s O H o i v L M u Q I p r rv h;obtain⟨a,b,kvs,k,rfl,rfl,e,n,l,q⟩:=h;cases p;cases r;obtain⟨z,y,xs,d,dd⟩:=dt_of I.hok e;have t:xs.length<=aw:=by rw[<-Paired.length d];exact z
 have x:(putK kvs k v).length<=aw:=by have:=length_putK kvs k v;omega
 refine wpAny_setItem_heap (hsz:=t) (tupleKind_room_in1 hu) (key_of I.hok n) dd λh' f w=>?_
 obtain⟨g,F,G,j,E,D,C,_,B⟩:=f;refine⟨upd H a (.dT (putK kvs k v)),d_write I (by rw[e];exact True.intro) w ⟨g,j⟩ ⟨x,y,_,(d.put k n rv).keeps λc J m=>?_,g,F,G,j,E,D,C,B⟩,q⟩
 rw[upd_ne (ne_of m e (λz=>nomatch z))]
 exact m
def rIxdT(K:Fg):R2:=λx y H Q=>∃ p b kvs k v,x=.ref p/\y=.ref b/\SqT K H b (k.map kV)/\H p=aa (.dT kvs)/\valV kvs k=aa v/\Q v H
def ix_dT(hu:X.A.units+1 < cLine):IxR X (rIxdT X.K):=by
 intro a slice E s O H x y v u Q I i g h n;obtain⟨p,b,kvs,k,z,rfl,rfl,B,r,w,q⟩:=h;cases i;cases g;obtain⟨C,J,xs,d,dd⟩:=dt_of I.hok r;obtain⟨l,j,f,_⟩:=I.tuple B;obtain⟨D,m,c⟩:=RelO.some_of (v:=z) (o:=(atKey xs k).map (·.2)) (by rw[<-w];exact d.val k)
 obtain⟨G,t,e⟩:=dH.mp m;refine tail_any dd.typeIs PySem.F.slot_dict_getitem.lookup (wpAny_getItem_heap (tupleKind_room_in1 hu) (key_at j f) dd t ?_) n;rw[e];exact⟨z,H,I.tok _,c,q⟩
def in_dT(hu:X.A.units+1 < cLine){c:Li (Ad×Obj)}{O:St}{s:Sd}{p b:Ad}{k:Li Key}{Q:VK}(I:Inv X c O H s)(i:H p=aa (.dT kvs))(j:SqT X.K H b (k.map kV)) :
  (Q (.bl (valV kvs k).isSome) H->az (a0 X.prog X.w) X.A (bh .In (.ref b) (.ref p)) (EP X c O Q) X.xe s)/\(Q (.bl (!(valV kvs k).isSome)) H->az (a0 X.prog X.w) X.A (bh .NotIn (.ref b) (.ref p)) (EP X c O Q) X.xe s):=by
 obtain⟨l,g,xs,a,dd⟩:=dt_of I.hok i;obtain⟨h,f,d,_⟩:=I.tuple j;have e:=(a.val k).isSome_eq;rw[Option.isSome_map]at e;rw[e];exact⟨λq=>wpAny_in_heap (tupleKind_room_in1 hu) (key_at f d) g dd ⟨.bl _,H,I.tok _,rfl,q⟩,λq=>wpAny_notIn_heap (tupleKind_room_in1 hu) (key_at f d) g dd ⟨.bl _,H,I.tok _,rfl,q⟩⟩
end L2
namespace Dp
open PySem
variable{α:Type}
def Zb{x:α}{C:Prop}(h:(ab:Ot α)=aa x):C:=nomatch h
noncomputable abbrev S(x:String):Str:=Str.ofString x
set_option genInjectivity true in
inductive D where
 |non|bl (b:Bool)|int (i:Int)|str (x:Str)|tup (xs:List D)|lst (id:Nat)|dct (ks:List Str) (vs:List D)|obj (i:Nat)|kt (ks:List Str)|dic (id:Nat)
abbrev Env:=Li (Ot D)
abbrev Xg:=Bool×Li D
abbrev Za:=Li Xg
abbrev Res:=Ot (D×Za)
abbrev Fn:=Li D->Za->Res
noncomputable def o2{α b a:Type}(f:α->b->a):Ot α->Ot b->Ot a
 |some x,aa y=>aa (f x y)
 |_,_=>ab
noncomputable def og{α:Type}(p:Prop)[Decidable p](o:Ot α):Ot α:=if p then o else ab
mutual
noncomputable def Zn:D->D->Bool
 |.non,.non=>ac
 |.bl a,.bl b=>a==b
 |.int a,.int b=>aj (a=b)
 |.str a,.str b=>aj (a=b)
 |.tup a,.tup b=>Zq a b
 |_,_=>ae
noncomputable def Zq:Li D->Li D->Bool
 |[],[]=>ac
 |x :: b,y :: a=>Zn x y&&Zq b a
 |_,_=>ae
end
mutual
noncomputable def okD:Nat->D->Bool
 |_,.non=>ac
 |_,.int _=>ac
 |_,.str _=>ac
 |n+1,.tup a=>ZX n a
 |_,_=>ae
noncomputable def ZX:Nat->Li D->Bool
 |_,[]=>ac
 |n,x :: a=>okD n x&&ZX n a
end
inductive Sc where
 |non|bl (b:Bool)|int (i:Int)|str (x:Str)
noncomputable def scD:D->Ot Sc
 |.non=>aa .non
 |.bl b=>aa (.bl b)
 |.int i=>aa (.int i)
 |.str x=>aa (.str x)
 |_=>ab
noncomputable def ZiB:Sc->Sc->Ot Bool
 |.non,.non=>aa ac
 |.non,.bl _=>aa ae
 |.non,.int _=>aa ae
 |.non,.str _=>aa ae
 |.bl _,.non=>aa ae
 |.bl a,.bl b=>aa (a==b)
 |.bl _,.int _=>ab
 |.bl _,.str _=>aa ae
 |.int _,.non=>aa ae
 |.int _,.bl _=>ab
 |.int a,.int b=>aa (aj (a=b))
 |.int _,.str _=>aa ae
 |.str _,.non=>aa ae
 |.str _,.bl _=>aa ae
 |.str _,.int _=>aa ae
 |.str a,.str b=>aa (aj (a=b))
def eqT(b:Li D):D->Ot Bool
 |.tup a=>if okD 8 (.tup b)&&okD 8 (.tup a) then aa (Zq b a) else ab
 |_=>ab
def eqD(x y:D):Ot Bool:=match x with
 |.tup a=>eqT a y
 |x=>(o2 ZiB (scD x) (scD y)).join
inductive Ty where
 |int|bool|str|tuple
 deriving DecidableEq
inductive CE where
 |v (i:Nat)|c (d:D)
 |bin (op:Operator) (a b:CE)|neg (a:CE)
 |cmp (op:CmpOp) (a b:CE)
 |not (a:CE)|and (a b:CE)|or (a b:CE)|ife (c a b:CE)
 |tupE (a:CE)|lstE (a:CE)|aN|aC (a r:CE)
 |ix (a b:CE)|slice (a lo hi:CE)|nop|part (a:CE)
 |call (f:Nat) (args:CE) (ds:List D)
 |len (a:CE)|tOf (a:CE)|listOf (a:CE)|intOf (a:CE)|min (a b:CE)|max (a b:CE)|isi (T:Ty) (a:CE)
 |comp (rng:Bool) (fr:List Nat) (it elt Xt:CE)|comp2 (fr:List Nat) (it elt Xt:CE)|compT (fr:List Nat) (it elt Xt:CE)|lstR (a b:CE)|new (i:Nat)|meth (tab:List (Nat×Nat)) (o a:CE)|isc (l:List Nat) (a:CE)|tix (o a:CE)
 |rs (k:Bool) (a:CE)
 |inv (a:CE)|tupR (a:CE)|look (ks:List Str) (ds:List D) (a:CE)|dget (a k d:CE)|all (a:CE)|any (a:CE)|inR (ng:Bool) (a b:CE)
 |dict (ks:List Str) (a:CE)|dnew|strOf (a:CE)|joinE (a b:CE)|starts (a b:CE)|rng2 (a b:CE)|srt (a:CE)
 |comp3 (fr:List Nat) (it elt Xt:CE)|dd (a b e:CE)|dgN (o k d:CE)|pop (o:CE)|ksrt (o:CE)
inductive CS where
 |skip|seq (a b:CS)|ret (e:CE)|set (i:Nat) (e:CE)|app (i:Nat) (e:CE)|ext (i:Nat) (e:CE)|sda (i:Nat) (k e:CE)|put (i:Nat) (k e:CE)
 |ite (c:CE) (a b:CS)|for1 (i:Nat) (rng:Bool) (it:CE) (b:CS)|for3 (i:Nat) (it:CE) (b:CS)|forP (i j:Nat) (it:CE) (b:CS)|forE (i j:Nat) (it:CE) (b:CS)|set2 (i j:Nat) (e:CE)|for4 (i j l:Nat) (it:CE) (b:CS)|for2 (i j:Nat) (it:CE) (b:CS)|whl (c:CE) (b:CS)|brk|cont|stop|set3 (i j l:Nat) (e:CE)|act (e:CE)|dput (i:Nat) (a b e:CE)|app2 (o e:CE)
noncomputable def Z9(i:Int):Bool:=aj (-(2 ^ 64) < i)&&aj (i < 2 ^ 64)
noncomputable def Zp:Nat:=1000000
def ZbH(a:Operator)(i j:Int):Ot Int:=
 match a with
 |.Add=>aa (i+j)
 |.Sub=>aa (i - j)
 |.Mult=>if Z9 i||Z9 j then aa (i * j) else ab
 |.FloorDiv=>if 0 < j/\j < 1073741824 then aa (i / j) else if j < 0/\-1073741824 < j then aa (i.fdiv j) else ab
 |.Mod=>if 0 < j then aa (i % j) else if j < 0 then aa (i.fmod j) else ab
 |.BitAnd=>if 0<=i/\0<=j then aa ((i.toNat &&& j.toNat:Nat):Int) else if 0<=i/\j < 0 then aa (i - ((i.toNat &&& (-j - 1).toNat:Nat):Int)) else ab
 |.BitOr=>if 0<=i/\0<=j then aa ((i.toNat ||| j.toNat:Nat):Int) else ab
 |_=>ab
noncomputable def Qy:Operator->Bool
 |.Add=>ac
 |_=>ae
noncomputable def ZcC:Operator->Bool
 |.Mult=>ac
 |_=>ae
def Zd4(a b:Nat)(c:Za):Res:=match c[a]?,c[b]? with
 |some (_,e),aa (_,d)=>if e.length+d.length<=Zp then aa (.lst c.length,c++[(ac,e++d)]) else ab
 |_,_=>ab
noncomputable def Zi8(a:Nat)(j:Int)(b:Za):Res:=match b[a]? with
 |some (ac,[x])=>if j<=1000/\-1000<=j then aa (.lst b.length,b++[(ac,af j.toNat x)]) else ab
 |_=>ab
noncomputable def ZkL(a:Li D)(j:Int)(b:Za):Res:=match a with
 |[x]=>if j<=1000/\-1000<=j then aa (.tup (af j.toNat x),b) else ab
 |_=>ab
def Q8(d:Operator)(x y:D)(c:Za):Res:=
 match x,y with
 |.int i,.int j=>match ZbH d i j with
  |some k=>aa (.int k,c)
  |none=>ab
 |.tup e,.tup f=>if Qy d=ac/\e.length+f.length<=Zp then aa (.tup (e++f),c) else ab
 |.tup e,.int j=>if ZcC d=ac then ZkL e j c else ab
 |.lst a,.lst b=>if Qy d=ac then Zd4 a b c else ab
 |.lst a,.int j=>if ZcC d=ac then Zi8 a j c else ab
 |.str x,.str y=>if Qy d=ac/\x.length+y.length<=Zp then aa (.str (x++y),c) else ab
 |_,_=>ab
noncomputable def ZjQ(x k:Str):Bool:=!(PySem.Builtin.Str.occurrences x k 0 x.length 1).isEmpty
noncomputable def chS(x:Str):Li Str:=x.cps.toList.map λc=>⟨#[c]⟩
noncomputable def Zav(_:Za)(_ _:Li D):Ot Bool:=ab
def ZgM(a ys:Li D):Ot Bool:=if (a.isEmpty||ys.isEmpty)=ac then aa (a.isEmpty&&ys.isEmpty) else if ZX 7 a&&ZX 7 ys then aa (Zq a ys) else ab
def ZiC(c:Za)(b:Li D):D->Ot Bool
 |.tup a=>(match eqT b (.tup a) with
  |some k=>aa k
  |none=>Zav c b a)
 |_=>ab
def ZiA(e:Za)(a:Nat):D->Ot Bool
 |.lst b=>(o2 (λ(c d:Xg)=>ZgM c.2 d.2) e[a]? e[b]?).join
 |_=>ab
def eqS(b:Za)(x y:D):Ot Bool:=match x with
 |.lst a=>ZiA b a y
 |.tup c=>ZiC b c y
 |x=>eqD x y
noncomputable def Y7:Int->Li D->Ot Bool
 |_,[]=>aa ae
 |k,.int i :: r=>(Y7 k r).map λb=>aj (i=k)||b
 |_,_=>ab
noncomputable def X8:Str->Li D->Ot Bool
 |_,[]=>aa ae
 |k,.str i :: r=>(X8 k r).map λb=>aj (i=k)||b
 |_,_=>ab
noncomputable def ZgW:D->Ot Int
 |.int i=>aa i
 |_=>ab
noncomputable def iB(i:Int):D->Bool
 |.int a=>aj (a=i)
 |_=>ae
def isK(i j:Int):D->Bool
 |.tup [x,y,_]=>iB i x&&iB j y
 |_=>ae
noncomputable def ZkN:D->Ot D
 |.tup [_,_,v]=>aa v
 |_=>ab
def Yf(a:Li D)(i j:Int):Ot D:=(a.find? (isK i j)).bind ZkN
def Vv(a:Li D)(i j:Int)(v:D):Li D:=if a.any (isK i j)=ac then a.map (λe=>if isK i j e=ac then .tup [.int i,.int j,v] else e) else a++[.tup [.int i,.int j,v]]
noncomputable def okH:Li D->Bool
 |.non :: _=>ae
 |_=>ac
def J2:Ot Xg->Ot Xg
 |some c=>if okH c.2=ac then aa c else ab
 |none=>ab
def dAt(d:Li D)(a:Nat)(b:Za):Ot (Ot D):=match d with
 |[x,y]=>o2 (λ(p:Int×Int) (c:Xg)=>Yf c.2 p.1 p.2) (o2 Prod.mk (ZgW x) (ZgW y)) (J2 b[a]?)
 |_=>ab
noncomputable def Ya:Li Str->Li D->Str->Ot D
 |k :: b,v :: a,x=>if k=x then aa v else Ya b a x
 |_,_,_=>ab
noncomputable def Zbj(f:Int->Int->Bool):D->D->Ot Bool
 |.int i,.int j=>aa (f i j)
 |_,_=>ab
def UT:Li D->Li D->Ot Bool
 |x :: d,y :: c=>if Zn x y=ac then UT d c else match x,y with
  |.int i,.int j=>aa (aj (i < j))
  |.str a,.str b=>aa (aj (a.cps.toList < b.cps.toList))
  |_,_=>ab
 |[],c=>aa (aj (0 < c.length))
 |_ :: _,[]=>aa ae
def ltD(x y:D):Ot Bool:=match x,y with
 |.tup b,.tup a=>if okD 8 (.tup b)&&okD 8 (.tup a) then UT b a else ab
 |x,y=>Zbj (λi j=>aj (i < j)) x y
def ltS(_:Za)(x y:D):Ot Bool:=ltD x y
def inS(c:Za)(x y:D):Ot Bool:=match x,y with
 |.int k,.lst a=>match c[a]? with
  |some (_,b)=>Y7 k b
  |none=>ab
 |.str k,.lst a=>match c[a]? with
  |some (_,b)=>X8 k b
  |none=>ab
 |.int k,.tup b=>Y7 k b
 |.str k,.tup b=>X8 k b
 |.str k,.dct d e=>aa (Ya d e k).isSome
 |.tup d,.dic a=>(dAt d a c).map Option.isSome
 |.str k,.str x=>aa (ZjQ x k)
 |_,_=>ab
def niS(a:Za)(x y:D):Ot Bool:=match y with
 |.dct _ _=>ab
 |y=>(inS a x y).map not
noncomputable def isN:D->Ot Bool
 |.non=>aa ac
 |.int _=>aa ae
 |.str _=>aa ae
 |.bl _=>aa ae
 |.tup _=>aa ae
 |.lst _=>aa ae
 |.dct _ _=>ab
 |.obj _=>ab
 |.kt _=>ab
 |.dic _=>ab
noncomputable def isB(b:Bool):D->Ot Bool
 |.bl a=>aa (a==b)
 |_=>ab
def isD(x:D):D->Ot Bool
 |.non=>isN x
 |.bl b=>isB b x
 |_=>ab
def Zd6(b:CmpOp)(x y:D)(a:Za):Ot Bool:=
 match b with
 |.Lt=>ltS a x y
 |.LtE=>Zbj (λi j=>aj (i<=j)) x y
 |.Gt=>Zbj (λi j=>aj (j < i)) x y
 |.GtE=>Zbj (λi j=>aj (j<=i)) x y
 |.Eq=>eqS a x y
 |.NotEq=>(eqS a x y).map not
 |.In=>inS a x y
 |.NotIn=>niS a x y
 |.Is=>isD x y
 |.IsNot=>(isD x y).map not
noncomputable def ixN(n:Nat)(i:Int):Ot Nat:=if 0<=i then (if i < n then aa i.toNat else ab) else if -(n:Int)<=i then aa (i+n).toNat else ab
def atD(a:Li D)(i:Int):Ot D:=(ixN a.length i).bind λj=>a[j]?
def ixD(x y:D)(d:Za):Ot D:=
 match x,y with
 |.tup c,.int i=>atD c i
 |.lst a,.int i=>match d[a]? with
  |some (_,c)=>atD c i
  |none=>ab
 |.dct b e,.str k=>Ya b e k
 |.kt b,.int i=>atD (b.map .str) i
 |.dic a,.tup b=>(dAt b a d).join
 |.str x,.int i=>if x.length<=Zp then atD ((chS x).map .str) i else ab
 |_,_=>ab
noncomputable def sIx(n d:Nat):Ot Int->Nat
 |none=>d
 |some i=>if i < 0 then (i+n).toNat else Nat.min i.toNat n
def Xu(a:Li D)(b c:Ot Int):Li D:=(a.drop (sIx a.length 0 b)).take (sIx a.length a.length c - sIx a.length 0 b)
def Ym(x:D)(d e:Ot Int)(c:Za):Res:=
 match x with
 |.tup b=>if sIx b.length 0 d=0/\sIx b.length b.length e=b.length then aa (.tup b,c) else aa (.tup (Xu b d e),c)
 |.lst a=>match c[a]? with
  |some (_,b)=>aa (.lst c.length,c++[(ac,Xu b d e)])
  |none=>ab
 |_=>ab
def Zg2(x:D)(c:Za):Ot Int:=
 match x with
 |.tup b=>aa b.length
 |.lst a=>match c[a]? with
  |some (_,b)=>aa b.length
  |none=>ab
 |.kt d=>aa d.length
 |.str x=>if x.length<=Zp then aa x.length else ab
 |_=>ab
noncomputable def ZgZ(T:Ty):D->Ot Bool
 |.int _=>aa (aj (T=.int))
 |.bl _=>aa (aj (T=.int)||aj (T=.bool))
 |.str _=>aa (aj (T=.str))
 |.tup _=>aa (aj (T=.tuple))
 |.non=>aa ae
 |_=>ab
noncomputable def VF(rng:Bool)(x:D):Ot (Li D):=
 match rng,x with
 |true,.int n=>if n < 2 ^ 62/\-(2 ^ 62)<=n then aa ((ag n.toNat).map λ(k:Nat)=>D.int (k:Int)) else ab
 |false,.tup a=>aa a
 |_,_=>ab
noncomputable def YT(a b c:Int):Nat:=if 0 < c then (if a < b then ((b - a - 1) / c+1).toNat else 0) else (if b < a then ((a - b - 1) / (-c)+1).toNat else 0)
noncomputable def Vb(a b c:Int):Bool:=aj ((-(2 ^ 30) < a/\a < 2 ^ 30)/\(-(2 ^ 30) < b/\b < 2 ^ 30)/\(c=1\/c=-1\/c=2\/c=3\/c=4))
def VQ(a b c:Int):Li Int:=(ag (YT a b c)).map λ(k:Nat)=>a+k * c
noncomputable def Z8(ok:Za->Prop)(f:D->Za->Res)(c:D->Za->Res):Li D->Za->Ot (Li D×Za)
 |[],b=>open Classical in if ok b then aa ([],b) else ab
 |x :: g,b=>open Classical in if ok b then (match c x b with
  |some (.bl ac,a)=>match f x a with
   |some (y,e)=>match Z8 ok f c g e with
    |some (h,d)=>aa (y :: h,d)
    |none=>ab
   |none=>ab
  |some (.bl ae,a)=>Z8 ok f c g a
  |_=>ab) else ab
def Xf(rng:Bool)(x:D)(b:Za):Ot (Li D×(Za->Prop)):=match VF rng x with
 |some d=>aa (d,λ_=>True)
 |none=>match rng,x with
  |false,.lst a=>match b[a]? with
   |some c=>aa (c.2,λs=>s[a]?=aa c)
   |none=>ab
  |false,.dct [] (.dic a :: e)=>match b[a]? with
   |some c=>aa (e,λs=>s[a]?=aa c)
   |none=>ab
  |_,_=>ab
noncomputable def Xd:Nat->Li D->Li D
 |_,[]=>[]
 |k,x :: a=>.tup [.int (k:Int),x] :: Xd (k+1) a
def QR(x:D)(d:Za):Ot (Li D×(Za->Prop)):=match x with
 |.tup b=>aa (Xd 0 b,λ_=>True)
 |.lst a=>match d[a]? with
  |some c=>aa (Xd 0 c.2,λs=>s[a]?=aa c)
  |none=>ab
 |_=>ab
noncomputable def ZcD:D->Bool
 |.tup [_,_]=>ac
 |_=>ae
def VX(x:D)(d:Za):Ot (Li D×(Za->Prop)):=match x with
 |.tup b=>if b.all ZcD=ac then aa (b,λ_=>True) else ab
 |.lst a=>match d[a]? with
  |some c=>if c.2.all ZcD=ac then aa (c.2,λs=>s[a]?=aa c) else ab
  |none=>ab
 |_=>ab
abbrev Ev:=Env->Za->Res
noncomputable def Zr(c:Ev)(g:D->Za->Res):Ev:=λU b=>match c U b with
 |some (x,a)=>g x a
 |none=>ab
noncomputable def ZT(e d:Ev)(g:D->D->Za->Res):Ev:=λU c=>match e U c with
 |some (x,b)=>match d U b with
  |some (y,a)=>g x y a
  |none=>ab
 |none=>ab
noncomputable def Y9(h f e:Ev)(g:D->D->D->Za->Res):Ev:=λU d=>match h U d with
 |some (x,c)=>match f U c with
  |some (y,b)=>match e U b with
   |some (z,a)=>g x y z a
   |none=>ab
  |none=>ab
 |none=>ab
noncomputable def Xt(e c d:Ev):Ev:=λU b=>match e U b with
 |some (.bl ac,a)=>c U a
 |some (.bl ae,a)=>d U a
 |_=>ab
noncomputable def Yh(i:Nat):Ev:=λU a=>match U[i]? with
 |some (aa d)=>aa (d,a)
 |_=>ab
noncomputable def evC(d:D):Ev:=λ_ a=>aa (d,a)
noncomputable def Zg8:D->Za->Res
 |.int i,a=>aa (.int (-i),a)
 |_,_=>ab
noncomputable def ZcZ:D->Za->Res
 |.bl k,a=>aa (.bl (!k),a)
 |_,_=>ab
def Zd7(b:CmpOp)(x y:D)(a:Za):Res:=match Zd6 b x y a with
 |some k=>aa (.bl k,a)
 |none=>ab
noncomputable def ZeG:D->Za->Res
 |.tup b,a=>aa (.lst a.length,a++[(ac,b)])
 |_,_=>ab
noncomputable def V8:D->D->Za->Res
 |x,.tup a,b=>if a.length < 1000 then aa (.tup (x :: a),b) else ab
 |_,_,_=>ab
def ixR(x y:D)(a:Za):Res:=match ixD x y a with
 |some d=>aa (d,a)
 |none=>ab
def XH:D->D->D->Za->Res
 |x,.non,.non,a=>Ym x ab ab a
 |x,.int i,.non,a=>Ym x (aa i) ab a
 |x,.non,.int j,a=>Ym x ab (aa j) a
 |x,.int i,.int j,a=>Ym x (aa i) (aa j) a
 |_,_,_,_=>ab
noncomputable def QH:D->Za->Res
 |.int i,a=>aa (.int i,a)
 |_,_=>ab
noncomputable def Qg(g:Fn)(c:Li D):D->Za->Res
 |.tup a,b=>g (a++c) b
 |_,_=>ab
noncomputable def ZcT(F:Nat->Fn)(tab:Li (Nat×Nat)):D->D->Za->Res
 |.obj i,.tup a,b=>match tab.lookup i with
  |some j=>F j (.obj i :: a) b
  |none=>ab
 |_,_,_=>ab
noncomputable def Zcc(k:Str):Li Str->Ot Nat
 |[]=>ab
 |a :: r=>if a=k then aa 0 else (Zcc k r).map (·+1)
def ZhY:D->D->Za->Res
 |.kt b,.tup [.str k],a=>match Zcc k b with
  |some i=>aa (.int (i:Int),a)
  |none=>ab
 |_,_,_=>ab
def ZcK(x:D)(a:Za):Res:=match Zg2 x a with
 |some n=>aa (.int n,a)
 |none=>ab
noncomputable def U9:D->Za->Res
 |.tup b,a=>aa (.tup b,a)
 |.lst l,a=>match a[l]? with
  |some (_,b)=>aa (.tup b,a)
  |none=>ab
 |_,_=>ab
noncomputable def ZcN:D->Za->Res
 |.tup b,a=>aa (.lst a.length,a++[(ac,b)])
 |.lst l,a=>match a[l]? with
  |some (_,b)=>aa (.lst a.length,a++[(ac,b)])
  |none=>ab
 |_,_=>ab
noncomputable def ZgV:D->Za->Res
 |.int i,a=>aa (.int i,a)
 |.bl ac,a=>aa (.int 1,a)
 |.bl ae,a=>aa (.int 0,a)
 |_,_=>ab
noncomputable def XI:Li D->Ot (Li D)
 |[]=>aa []
 |.tup [_,.lst j] :: r=>(XI r).map (.lst j :: ·)
 |_=>ab
def Zdn:D->D->Za->Res
 |.dic a,.tup [],b=>(match b[a]? with
  |some (ac,.non :: d)=>(XI d).map λc=>(.dct [] (.dic a :: c),b)
  |_=>ab)
 |_,_,_=>ab
noncomputable def Zg4:D->D->Za->Res
 |.int i,.int j,a=>aa (.int (if j < i then j else i),a)
 |_,_,_=>ab
noncomputable def Zg3:D->D->Za->Res
 |.int i,.int j,a=>aa (.int (if j > i then j else i),a)
 |_,_,_=>ab
def ZcE(T:Ty)(x:D)(a:Za):Res:=match ZgZ T x with
 |some k=>aa (.bl k,a)
 |none=>ab
noncomputable def ZgX:D->Za->Res
 |.int i,a=>aa (.int (-i - 1),a)
 |_,_=>ab
def ZcQ:D->D->Za->Res
 |.int a,.int b,c=>if Vb a b 1=ac/\b - a<=1000 then aa (.lst c.length,c++[(ac,(VQ a b 1).map .int)]) else ab
 |_,_,_=>ab
def ZcO(b:Li Str)(c:Li D):D->Za->Res
 |.str k,a=>match Ya b c k with
  |some d=>aa (d,a)
  |none=>ab
 |_,_=>ab
def getD:D->D->D->Za->Res
 |.dct c a,.str k,d,b=>aa ((Ya c a k).getD d,b)
 |_,_,_,_=>ab
noncomputable def ZjH(b:Bool):D->D->Za->Res
 |.int x,.int n,a=>if -(2 ^ 62)<=n/\n < 2 ^ 62 then aa (.bl (b != aj (0<=x/\x < n)),a) else ab
 |_,_,_=>ab
noncomputable def ZfE(a:Li Str):D->Za->Res
 |.tup b,c=>if a.length=b.length/\(a.Nodup/\a≠[])/\a.length<=15 then aa (.dct a b,c) else ab
 |_,_=>ab
noncomputable def one(d:D):Li (Ot D):=[aa d]
noncomputable def two:D->Li (Ot D)
 |.tup [a,b]=>[aa a,aa b]
 |_=>[]
noncomputable def ZaF:D->Li (Ot D)
 |.tup [a,b,c]=>[aa a,aa b,aa c]
 |_=>[]
noncomputable def ZgY:D->Bool
 |.tup [_,_,_]=>ac
 |_=>ae
def ZdK(x:D)(_:Za):Ot (Li D×(Za->Prop)):=match x with
 |.tup a=>if a.all ZgY=ac then aa (a,λ_=>True) else ab
 |_=>ab
def ddE(h g f:Env->Za->Res):Env->Za->Res:=λU b=>match h U (b++[(ac,[])]) with
 |some (.int i,e)=>match g U e with
  |some (.int j,d)=>match f U d with
   |some (v,a)=>match a[b.length]? with
    |some (ac,c)=>if c.length < Zp/\okH c=ac then aa (.dic b.length,a.set b.length (ac,Vv c i j v)) else ab
    |_=>ab
   |none=>ab
  |_=>ab
 |_=>ab
def gtD:D->D->D->Za->Res
 |.dic a,.tup c,d,b=>(dAt c a b).map λo=>(o.getD d,b)
 |_,_,_,_=>ab
noncomputable def ZeS:D->Za->Res
 |.lst a,c=>match c[a]? with
  |some (ac,b)=>(b[b.length - 1]?).map λd=>(d,c.set a (ac,b.dropLast))
  |_=>ab
 |_,_=>ab
noncomputable def kOf:D->Ot (Int×Int)
 |.tup [.int i,.int j,_]=>aa (i,j)
 |_=>ab
noncomputable def kLt(p q:Int×Int):Bool:=if p.1=q.1 then aj (p.2 < q.2) else aj (p.1 < q.1)
noncomputable def goT{b:Type}(f:Nat->Nat->Bool):W.KasT b->b
 |.ret a=>a
 |.ask i j k=>goT f (k (f i j))
def ZY(a:Li D):Li (Int×Int):=a.map λe=>(kOf e).getD (0,0)
noncomputable def prD(p:Int×Int):D:=.tup [.int p.1,.int p.2]
def Uy(a:Li (Int×Int))(i j:Nat):Bool:=kLt (a.getD i (0,0)) (a.getD j (0,0))
def pick{b:Type}(f:Nat->Nat->Bool)(z:b)(a:Li b):Li b:=if a.length < 2 then a else (goT f (W.kas_sort a.length)).toList.map λi=>a.getD i z
def Zaj:D->Za->Res
 |.dic a,c=>match c[a]? with
  |some (_,b)=>if b.length < 64/\okH b=ac then aa (.lst c.length,c++[(ac,pick (Uy (ZY b)) .non ((ZY b).map prD))]) else ab
  |none=>ab
 |_,_=>ab
noncomputable def Yg(b:D->Li (Ot D))(U:Env)(a:Li Nat)(d:D):Env:=b d++a.map λi=>(U[i]?).join
def YZ(b:D->Li (Ot D))(w:D->Za->Ot (Li D×(Za->Prop)))(f:Li Nat)(i j k:Ev):Ev:=λU h=>match i U h with
 |some (x,c)=>match w x c with
  |some (e,ok)=>if e.length<=1000 then
    match Z8 ok (λd s=>j (Yg b U f d) s) (λd s=>k (Yg b U f d) s) e c with
    |some (g,a)=>aa (.lst a.length,a++[(ac,g)])
    |none=>ab
   else ab
  |none=>ab
 |none=>ab
noncomputable def ZfF:Ev:=λ_ a=>aa (.dic a.length,a++[(ac,[.non])])
def ev(F:Nat->Fn):CE->Ev
 |.v i=>Yh i
 |.c d=>evC d
 |.bin m a b=>ZT (ev F a) (ev F b) (Q8 m)
 |.neg a=>Zr (ev F a) Zg8
 |.cmp m a b=>ZT (ev F a) (ev F b) (Zd7 m)
 |.not a=>Zr (ev F a) ZcZ
 |.and a b=>Xt (ev F a) (ev F b) (evC (.bl ae))
 |.or a b=>Xt (ev F a) (evC (.bl ac)) (ev F b)
 |.ife c a b=>Xt (ev F c) (ev F a) (ev F b)
 |.tupE a=>ev F a
 |.lstE a=>Zr (ev F a) ZeG
 |.aN=>evC (.tup [])
 |.aC a r=>ZT (ev F a) (ev F r) V8
 |.ix a b=>ZT (ev F a) (ev F b) ixR
 |.slice a s t=>Y9 (ev F a) (ev F s) (ev F t) XH
 |.nop=>evC .non
 |.part a=>Zr (ev F a) QH
 |.call f a p=>Zr (ev F a) (Qg (F f) p)
 |.len a=>Zr (ev F a) ZcK
 |.tOf a=>Zr (ev F a) U9
 |.listOf a=>Zr (ev F a) ZcN
 |.intOf a=>Zr (ev F a) ZgV
 |.min a b=>ZT (ev F a) (ev F b) Zg4
 |.max a b=>ZT (ev F a) (ev F b) Zg3
 |.isi T a=>Zr (ev F a) (ZcE T)
 |.rs _ _=>λ_ _=>ab
 |.inv a=>Zr (ev F a) ZgX
 |.tupR _=>λ_ _=>ab
 |.look n p a=>Zr (ev F a) (ZcO n p)
 |.dget a k d=>Y9 (ev F a) (ev F k) (ev F d) getD
 |.inR q a b=>ZT (ev F a) (ev F b) (ZjH q)
 |.all _=>λ_ _=>ab
 |.any _=>λ_ _=>ab
 |.comp rng l j g h=>YZ one (Xf rng) l (ev F j) (ev F g) (ev F h)
 |.comp2 l j g h=>YZ two QR l (ev F j) (ev F g) (ev F h)
 |.compT l j g h=>YZ two VX l (ev F j) (ev F g) (ev F h)
 |.lstR a b=>ZT (ev F a) (ev F b) ZcQ
 |.new i=>evC (.obj i)
 |.meth tab o a=>ZT (ev F o) (ev F a) (ZcT F tab)
 |.isc _ _=>λ_ _=>ab
 |.tix o a=>ZT (ev F o) (ev F a) ZhY
 |.dict n a=>Zr (ev F a) (ZfE n)
 |.dnew=>ZfF
 |.strOf _=>λ_ _=>ab
 |.joinE _ _=>λ_ _=>ab
 |.starts _ _=>λ_ _=>ab
 |.rng2 a b=>ZT (ev F a) (ev F b) Zdn
 |.srt _=>λ_ _=>ab
 |.comp3 l j g h=>YZ ZaF ZdK l (ev F j) (ev F g) (ev F h)
 |.dd a b e=>ddE (ev F a) (ev F b) (ev F e)
 |.dgN o k d=>Y9 (ev F o) (ev F k) (ev F d) gtD
 |.pop o=>Zr (ev F o) ZeS
 |.ksrt o=>Zr (ev F o) Zaj
inductive Fl where
 |nx (U:Env)|rt (d:D)|bk (U:Env)|ct (U:Env)
noncomputable def Zf(U:Env)(i:Nat)(d:D):Env:=U.set i (aa d)
noncomputable def Zj(b:D->Env->Za->Ot (Fl×Za)):Li D->Env->Za->Ot (Fl×Za)
 |[],U,c=>aa (.nx U,c)
 |d :: e,U,c=>match b d U c with
  |some (.nx U',a)=>Zj b e U' a
  |some (.ct U',a)=>Zj b e U' a
  |some (.bk U',a)=>aa (.nx U',a)
  |some (.rt v,a)=>aa (.rt v,a)
  |none=>ab
noncomputable def ZI(c:D->Env->Za->Ot (Fl×Za))(a:Nat):Nat->Nat->Env->Za->Ot (Fl×Za)
 |0,i,U,e=>match e[a]? with
  |some (_,f)=>if f.length<=i then aa (.nx U,e) else ab
  |none=>ab
 |n+1,i,U,e=>match e[a]? with
  |some (_,f)=>match f[i]? with
   |none=>aa (.nx U,e)
   |some d=>match c d U e with
    |some (.nx U',b)=>ZI c a n (i+1) U' b
    |some (.ct U',b)=>ZI c a n (i+1) U' b
    |some (.bk U',b)=>aa (.nx U',b)
    |some (.rt v,b)=>aa (.rt v,b)
    |none=>ab
  |none=>ab
abbrev Ex:=Env->Za->Ot (Fl×Za)
noncomputable def YV(f g:Ex):Ex:=λU b=>match f U b with
 |some (.nx U',a)=>g U' a
 |r=>r
noncomputable def JD(f:Ev):Ex:=λU b=>match f U b with
 |some (d,a)=>aa (.rt d,a)
 |none=>ab
def VS(i:Nat)(f:Ev):Ex:=λU b=>match f U b with
 |some (d,a)=>aa (.nx (Zf U i d),a)
 |none=>ab
def QM(i j:Nat)(f:Ev):Ex:=λU b=>match f U b with
 |some (.tup [x,y],a)=>aa (.nx (Zf (Zf U i x) j y),a)
 |_=>ab
def Zdu(i j l:Nat)(f:Ev):Ex:=λU b=>match f U b with
 |some (.tup [x,y,z],a)=>aa (.nx (Zf (Zf (Zf U i x) j y) l z),a)
 |_=>ab
noncomputable def Zby(f:Ev):Ex:=λU b=>match f U b with
 |some (_,a)=>aa (.nx U,a)
 |none=>ab
def VY(a:Nat)(d:D)(c:Za):Ot Za:=match c[a]? with
 |some (ac,b)=>if b.length < Zp then aa (c.set a (ac,b++[d])) else ab
 |_=>ab
def U8(a:Nat)(j:Int)(d:D)(c:Za):Ot Za:=match c[a]? with
 |some (ac,b)=>match ixN b.length j with
  |some p=>aa (c.set a (ac,b.set p d))
  |none=>ab
 |_=>ab
noncomputable def okN:Nat->D->Bool
 |_,.int _=>ac
 |_,.str _=>ac
 |n+1,.tup a=>a.all (okN n)
 |_,_=>ae
noncomputable def VE:D->Bool
 |.tup _=>ac
 |_=>ae
def Xw(k:D):Li D->Ot Nat
 |[]=>ab
 |.tup [x,.lst j] :: r=>if Zn x k=ac then aa j else Xw k r
 |_=>ab
def JH(i:Nat)(h f:Ev):Ex:=λU g=>match U[i]? with
 |some (aa (.dic a))=>match h U g with
  |some (k,b)=>if (okN 8 k&&VE k)=ac then (match b[a]? with
   |some (ac,.non :: e)=>if e.length < 1000 then (match Xw k e with
    |some j=>(match f U b with
     |some (v,d)=>(match VY j v d with
      |some c=>aa (.nx U,c)
      |none=>ab)
     |none=>ab)
    |none=>(match f U (b.set a (ac,.non :: (e++[.tup [k,.lst b.length]]))++[(ac,[])]) with
     |some (v,d)=>(match VY b.length v d with
      |some c=>aa (.nx U,c)
      |none=>ab)
     |none=>ab)) else ab
   |_=>ab) else ab
  |none=>ab
 |_=>ab
def Q0(i:Nat)(f:Ev):Ex:=λU e=>match U[i]? with
 |some (aa (.lst a))=>match f U e with
  |some (d,c)=>match VY a d c with
   |some b=>aa (.nx U,b)
   |none=>ab
  |none=>ab
 |_=>ab
def ZbC(o f:Ev):Ex:=λU g=>match o U g with
 |some (.lst a,e)=>match f U e with
  |some (d,c)=>match VY a d c with
   |some b=>aa (.nx U,b)
   |none=>ab
  |none=>ab
 |_=>ab
def ZgO(a b:Nat)(c:Za):Ot Za:=match c[a]?,c[b]? with
 |some (ac,e),aa (ac,d)=>if e.length+d.length<=Zp then aa (c.set a (ac,e++d)) else ab
 |_,_=>ab
def Zb6(i:Nat)(f:Ev):Ex:=λU e=>match U[i]? with
 |some (aa (.lst a))=>match f U e with
  |some (.lst b,d)=>match ZgO a b d with
   |some c=>aa (.nx U,c)
   |none=>ab
  |_=>ab
 |_=>ab
def Zdk(i:Nat)(k f:Ev):Ex:=λU g=>match f U g with
 |some (d,e)=>match U[i]? with
  |some (aa (.lst a))=>match k U e with
   |some (.int j,c)=>match U8 a j d c with
    |some b=>aa (.nx U,b)
    |none=>ab
   |_=>ab
  |_=>ab
 |none=>ab
def ZbY(i:Nat)(k j f:Ev):Ex:=λU h=>match f U h with
 |some (d,g)=>match U[i]? with
  |some (aa (.dic a))=>match k U g with
   |some (.int x,e)=>match j U e with
    |some (.int y,b)=>match b[a]? with
     |some (ac,c)=>if c.length < Zp/\okH c=ac then aa (.nx U,b.set a (ac,Vv c x y d)) else ab
     |_=>ab
    |_=>ab
   |_=>ab
  |_=>ab
 |none=>ab
noncomputable def YG(c:Ev)(f g:Ex):Ex:=λU b=>match c U b with
 |some (.bl ac,a)=>f U a
 |some (.bl ae,a)=>g U a
 |_=>ab
def VA(i:Nat)(rng:Bool)(g:Ev)(b:Ex):Ex:=λU f=>match g U f with
 |some (x,c)=>match VF rng x with
  |some e=>Zj (λd U s=>b (Zf U i d) s) e U c
  |none=>match rng,x with
   |false,.lst a=>match c[a]? with
    |some (_,e)=>ZI (λd U s=>b (Zf U i d) s) a e.length 0 U c
    |none=>ab
   |_,_=>ab
 |none=>ab
noncomputable def Z3(ok:Za->Prop)(b:D->D->Env->Za->Ot (Fl×Za)):Li (D×D)->Env->Za->Ot (Fl×Za)
 |[],U,c=>open Classical in if ok c then aa (.nx U,c) else ab
 |p :: d,U,c=>open Classical in if ok c then (match b p.1 p.2 U c with
  |some (.nx U',a)=>Z3 ok b d U' a
  |some (.ct U',a)=>Z3 ok b d U' a
  |some (.bk U',a)=>aa (.nx U',a)
  |some (.rt v,a)=>aa (.rt v,a)
  |none=>ab) else ab
def ZkO(i j:Nat)(f:Ev)(b:Ex):Ex:=λU e=>match f U e with
 |some (.tup [.tup d,.tup c],a)=>Z3 (λ_=>True) (λx y U s=>b (Zf (Zf U i x) j y) s) (d.zip c) U a
 |_=>ab
noncomputable def Xv:Nat->Li D->Li (D×D)
 |_,[]=>[]
 |k,x :: a=>(.int (k:Int),x) :: Xv (k+1) a
noncomputable def Zge(x:D)(d:Za):Ot (Li D×(Za->Prop)):=match x with
 |.tup b=>aa (b,λ_=>True)
 |.lst a=>match d[a]? with
  |some c=>aa (c.2,λs=>s[a]?=aa c)
  |none=>ab
 |_=>ab
def Vz(i j:Nat)(e:Ev)(b:Ex):Ex:=λU d=>match e U d with
 |some (x,a)=>match Zge x a with
  |some (c,ok)=>Z3 ok (λx y U s=>b (Zf (Zf U i x) j y) s) (Xv 0 c) U a
  |none=>ab
 |none=>ab
def VN(i j:Nat)(b:Ex)(d:D)(U:Env)(s:Za):Ot (Fl×Za):=match d with
 |.tup [x,y]=>b (Zf (Zf U i x) j y) s
 |_=>ab
def ZdC(i j l:Nat)(b:Ex)(d:D)(U:Env)(s:Za):Ot (Fl×Za):=match d with
 |.tup [x,y,z]=>b (Zf (Zf (Zf U i x) j y) l z) s
 |_=>ab
def Zca(i j l:Nat)(e:Ev)(b:Ex):Ex:=λU d=>match e U d with
 |some (.tup c,a)=>Zj (ZdC i j l b) c U a
 |_=>ab
def Zb9(i j:Nat)(f:Ev)(b:Ex):Ex:=λU e=>match f U e with
 |some (.lst a,c)=>match c[a]? with
  |some (_,d)=>ZI (VN i j b) a d.length 0 U c
  |none=>ab
 |some (.tup d,c)=>Zj (VN i j b) d U c
 |_=>ab
noncomputable def YM(f g:Ex):Ex:=λU b=>match f U b with
 |some (.nx U',a)=>g U' a
 |some (.ct U',a)=>g U' a
 |some (.bk U',a)=>aa (.nx U',a)
 |some (.rt v,a)=>aa (.rt v,a)
 |none=>ab
def YF(c:Ev)(b:Ex):Nat->Ex
 |0=>λ_ _=>ab
 |n+1=>YG c (YM b (YF c b n)) λU a=>aa (.nx U,a)
def ex(F:Nat->Fn):CS->Ex
 |.skip=>λU f=>aa (.nx U,f)
 |.seq a b=>YV (ex F a) (ex F b)
 |.ret e=>JD (ev F e)
 |.set i e=>VS i (ev F e)
 |.app i e=>Q0 i (ev F e)
 |.ext i e=>Zb6 i (ev F e)
 |.put i k e=>Zdk i (ev F k) (ev F e)
 |.ite c a b=>YG (ev F c) (ex F a) (ex F b)
 |.for1 i rng d b=>VA i rng (ev F d) (ex F b)
 |.forP _ _ _ _=>λ_ _=>ab
 |.forE i j d b=>Vz i j (ev F d) (ex F b)
 |.for3 _ _ _=>λ_ _=>ab
 |.set2 i j e=>QM i j (ev F e)
 |.for4 i j l d b=>Zca i j l (ev F d) (ex F b)
 |.for2 i j d b=>Zb9 i j (ev F d) (ex F b)
 |.whl c b=>YF (ev F c) (ex F b) 20000
 |.brk=>λU f=>aa (.bk U,f)
 |.cont=>λU f=>aa (.ct U,f)
 |.stop=>λ_ _=>ab
 |.set3 i j l e=>Zdu i j l (ev F e)
 |.act e=>Zby (ev F e)
 |.dput i a b e=>ZbY i (ev F a) (ev F b) (ev F e)
 |.sda i a b=>JH i (ev F a) (ev F b)
 |.app2 o e=>ZbC (ev F o) (ev F e)
structure FD where
 ps:Nat
 ns:Nat
 body:CS
def fnD(F:Nat->Fn)(f:FD):Fn:=λb c=>
 if b.length=f.ps then
  match ex F f.body (b.map aa++af (f.ns - b.length) ab) c with
  |some (.rt d,a)=>aa (d,a)
  |some (.nx _,a)=>aa (.non,a)
  |_=>ab
 else ab
def run(T:Nat->Ot FD):Nat->Nat->Fn
 |0,_=>λ_ _=>ab
 |n+1,i=>match T i with
  |some f=>fnD (run T n) f
  |none=>λ_ _=>ab
inductive GV where
 |fn (i:Nat) (ps:Nat) (ds:List D)|c (d:D)|blt|dct (ks:List Str) (ds:List D)|cls (i:Nat) (ms:List (Str×Nat×Nat)) (subs:List Nat)
abbrev Gs:=Li (Str×GV)
noncomputable def CE.ofConst:Const->Ot CE
 |.none=>aa (.c .non)
 |.bool b=>aa (.c (.bl b))
 |.int i=>aa (.c (.int i))
 |.str x=>aa (.c (.str x))
 |_=>ab
noncomputable def XA(sc:a7)(x:Str):Bool:=!(x==("__debug__":Str))&&!(x==("__classdict__":Str))&&match sc.names.lookup x with
 |some .local=>ac
 |some .cell=>ac
 |some .free=>ac
 |_=>ae
noncomputable def ZC(sc:a7)(x:Str):Bool:=!(x==("__debug__":Str))&&match sc.names.lookup x with
 |some .globalImplicit=>ac
 |_=>ae
noncomputable def Zjl(x:Str):Ot Ty:=
 if x = "int" then aa .int else if x = "bool" then aa .bool else if x = "str" then aa .str else if x = "tuple" then aa .tuple else ab
noncomputable def ZN(sc:a7):Li Str:=(sc.names.filter λp=>aj (p.2=.free)).map (·.1)
noncomputable def Zgy(f:Str)(x:CE):Ot CE:=
 if f = "len" then aa (.len x) else if f = "tuple" then aa (.tOf x) else if f = "list" then aa (.listOf x) else if f = "int" then aa (.intOf x) else if f = "sorted" then aa (.ksrt x) else ab
noncomputable def Zgz(f:Str)(x y:CE):Ot CE:=if f = "min" then aa (.min x y) else if f = "max" then aa (.max x y) else ab
noncomputable def Zai(G:Gs)(x:Str):Bool:=match G.lookup x with
 |some .blt=>ac
 |_=>ae
def ZhZ(G:Gs)(sc:a7)(t:Str):Ot Ty:=if ZC sc t&&Zai G t then Zjl t else ab
def ZaK(G:Gs)(sc:a7):ax->Ot Ty
 |.Name t _=>ZhZ G sc t
 |_=>ab
noncomputable def Jd(_:Gs)(_:a7)(_:ax):Ot (Li Nat):=ab
noncomputable def ZfP(m:Str)(k:Nat)(G:Gs)(x:Str):Ot (Nat×Nat):=match G.lookup x with
 |some (.cls i b _)=>(match b.lookup m with
  |some (j,a)=>if a=k+1 then aa (i,j) else ab
  |none=>ab)
 |_=>ab
def XR(m:Str)(k:Nat)(G:Gs):Li (Nat×Nat):=(G.map Prod.fst).filterMap (ZfP m k G)
noncomputable def ZO:Li (Ot ax)->Ot (Li Str)
 |[]=>aa []
 |some (.Constant (.str k) _ _) :: r=>(ZO r).map (k :: ·)
 |_=>ab
noncomputable def ZfB:ax->Ot (Str×Li ax)
 |.Call (.Name f _) a [] _=>aa (f,a)
 |_=>ab
def fnA(G:Gs)(sc:a7)(nm:Str)(e:ax):Ot (Li ax):=(ZfB e).bind λp=>og (p.1=nm/\ZC sc p.1=ac/\Zai G p.1=ac) (aa p.2)
noncomputable def Zhb:Li ax->Ot ax
 |[a]=>aa a
 |_=>ab
def ZS(G:Gs)(sc:a7)(e:ax):Ot ax:=(fnA G sc "range" e).bind Zhb
noncomputable def JP(_:Gs)(_:a7)(_:Str)(_:ax):Ot ax:=ab
noncomputable def Zjk:Li ax->Ot (ax×ax)
 |[a,b]=>aa (a,b)
 |_=>ab
def US(G:Gs)(sc:a7)(f:Str)(e:ax):Ot (ax×ax):=if f = "list" then (fnA G sc "range" e).bind Zjk else ab
def o3{g e d a:Type}(f:g->e->d->a):Ot g->Ot e->Ot d->Ot a
 |some x,b,c=>o2 (f x) b c
 |none,_,_=>ab
variable{γ:Type}
def VL{P:γ->Prop}{f:α->γ}{a:Ot α}{c:γ}(h:a.map f=aa c)(k:∀ x,a=aa x->P (f x)):P c:=by
 cases a with
 |none=>exact Zb h
 |some x=>cases h;exact k x rfl
variable{β:Type}
def Z0{P:γ->Prop}{f:α->β->γ}{a:Ot α}{b:Ot β}{c:γ}(h:o2 f a b=aa c)(k:∀ x y,a=aa x->b=aa y->P (f x y)):P c:=by
 cases a with
 |none=>exact Zb h
 |some x=>cases b with
  |none=>exact Zb h
  |some y=>cases h;exact k x y rfl rfl
def XB{g:Type}{P:g->Prop}{f:α->β->γ->g}{a:Ot α}{b:Ot β}{d:Ot γ}{c:g}(h:o3 f a b d=aa c)(k:∀ x y z,a=aa x->b=aa y->d=aa z->P (f x y z)):P c:=by
 cases a with
 |none=>exact Zb h
 |some x=>exact Z0 (P:=P) h λy z e i=>k x y z rfl e i
def XC{P:Prop}{p:Prop}[Decidable p]{o:Ot α}{c:α}(h:og p o=aa c)(k:p->o=aa c->P):P:=by
 unfold og at h;by_cases a:p
 .rw[ao a]at h;exact k a h
 .rw[aq a]at h;cases h
def j_e{P:Prop}{o:Ot (Ot α)}{c:α}(h:o.join=aa c)(k:o=aa (aa c)->P):P:=by
 cases o with
 |none=>exact Zb h
 |some x=>cases h;exact k rfl
def ZbK(G:Gs)(sc:a7)(f:Str)(a:ax)(r:ax->Ot CE):Ot CE:=match JP G sc f a with
 |some e=>(r e).map .tupR
 |none=>match US G sc f a with
  |some (u,v)=>o2 .lstR (r u) (r v)
  |none=>((r a).map (Zgy f)).join
def ZbL(G:Gs)(sc:a7)(f:Str)(a b:ax)(r:ax->Ot CE):Ot CE:=if f = "isinstance" then (match Jd G sc b with
  |some l=>(r a).map (.isc l)
  |none=>o2 (λx T=>.isi T x) (r a) (ZaK G sc b)) else (o2 (Zgz f) (r a) (r b)).join
def ZbQ(G:Gs)(sc:a7)(f:Str)(d:Li ax)(h:Ot CE)(r:ax->Ot CE):Ot CE:=
 if ZC sc f then (match G.lookup f with
   |some (.fn i e g)=>og (d.length<=e/\e<=d.length+g.length) (h.map λc=>.call i c (g.drop (d.length+g.length - e)))
   |some .blt=>match d with
    |[a]=>ZbK G sc f a r
    |[a,b]=>ZbL G sc f a b r
    |_=>ab
   |some (.cls i _ _)=>match d with
    |[]=>aa (.new i)
    |_=>ab
   |_=>ab) else ab
def ZjG(o:Ot CE)(d:Li ax)(r:ax->Ot CE):Ot CE:=match d with
 |[a]=>o2 (λx y=>.dgN x y (.c .non)) o (r a)
 |[a,b]=>o3 .dgN o (r a) (r b)
 |_=>ab
def Zfz(G:Gs)(c:ax)(m:Str)(g:Pos)(d:Li ax)(f:Pos)(e:Ot CE)(r:ax->Ot CE):Ot CE:=match c with
 |.Dict _ _ _=>(match d with
  |[a,b]=>og (m = "get"/\(g.endLine==f.line)=ac) (o3 .dget (r c) (r a) (r b))
  |_=>ab)
 |.Name _ _=>og ((g.endLine==f.line)=ac/\d.length < 20) (if m = "pop" then og (d.length=0) ((r c).map .pop) else if m = "get" then ZjG (r c) d r else if m = "index" then og (d.length=1) (o2 .tix (r c) e) else o2 (.meth (XR m d.length G)) (r c) e)
 |_=>ab
def Zil(G:Gs)(sc:a7)(f:ax)(b:Li ax)(d:Pos)(a:Ot CE)(r:ax->Ot CE):Ot CE:=match f with
 |.Name f _=>ZbQ G sc f b a r
 |.Attribute c m e=>Zfz G c m e b d a r
 |_=>ab
noncomputable def ZjJ:ax->Bool
 |.Slice ..=>ac
 |_=>ae
noncomputable def cVs(f:ax->Ot CE):Li ax->Ot CE
 |[]=>aa .aN
 |e :: a=>match f e,cVs f a with
  |some x,aa r=>aa (.aC x r)
  |_,_=>ab
noncomputable def Ul:ax->Ot (ax×ax)
 |.Tuple [a,b] _ _=>aa (a,b)
 |_=>ab
def Zau:Li (Ot ax)->Ot (ax×ax)
 |[aa e]=>Ul e
 |_=>ab
noncomputable def ZeM:Li ax->Ot ax
 |[e]=>aa e
 |_=>ab
def ZjC(f:ax->Ot CE)(keys:Li (Ot ax))(a:Li ax):Ot CE:=match keys with
 |[]=>og (a.length=0) (aa .dnew)
 |_=>match Zau keys with
  |some p=>o3 .dd (f p.1) (f p.2) ((ZeM a).bind f)
  |none=>og (keys.length=a.length/\keys≠[]/\keys.length<=15) (o2 .dict (ZO keys) (cVs f a))
noncomputable def WK(_:Gs)(_:a7)(_:ax):Ot (Li ax):=ab
noncomputable def Vf(_:Gs)(_:a7)(_:ax):Ot (Li ax):=ab
def XN(G:Gs)(sc:a7)(e:ax):Ot ax:=(fnA G sc "enumerate" e).bind Zhb
def W5(G:Gs)(sc:a7)(e:ax):Ot ax:=XN G sc e
noncomputable def nmE:ax->Ot Str
 |.Name x _=>aa x
 |_=>ab
def nmL:Li ax->Ot (Li Str)
 |[a,b]=>o2 (λx y=>[x,y]) (nmE a) (nmE b)
 |[a,b,c]=>o3 (λx y z=>[x,y,z]) (nmE a) (nmE b) (nmE c)
 |_=>ab
def tgN:ax->Ot (Li Str)
 |.Name x _=>aa [x]
 |.Tuple a _ _=>nmL a
 |_=>ab
noncomputable def mkC(n:Nat)(r:Ot (Ot Bool))(a:Li Nat)(c d e:CE):CE:=if n=3 then .comp3 a c d e else match r with
 |some (aa b)=>.comp b a c d e
 |some ab=>.comp2 a c d e
 |none=>.compT a c d e
noncomputable def XE(N:Li Str):Li Str->Ot (Li Nat)
 |[]=>aa []
 |x :: r=>match N.idxOf? x,XE N r with
  |some i,aa a=>aa (i :: a)
  |_,_=>ab
def ZcV(G:Gs)(sc:a7)(N:Li Str)(x:Str):Ot CE:=
 if XA sc x then (N.idxOf? x).map .v else if ZC sc x then (match G.lookup x with
  |some (.c d)=>aa (.c d)
  |_=>ab) else ab
def Zan(G:Gs)(sc:a7):ax->Ot (Li Str×Li D)
 |.Name x _=>if ZC sc x then (match G.lookup x with
  |some (.dct a b)=>aa (a,b)
  |_=>ab) else ab
 |_=>ab
noncomputable def Vc:ax->Ot (Ot ax×Ot ax)
 |.Slice a b ab _=>aa (a,b)
 |_=>ab
noncomputable def Zf5(_:ax):Ot ax:=ab
noncomputable def ZjI:CE->Bool
 |.neg (.c (.int 1))=>ac
 |_=>ae
noncomputable def VD(sc:a7)(x:Str):Bool:=match sc.names.lookup x with
 |some .cell=>ac
 |some .free=>ac
 |_=>ae
def Xs(sc a:a7)(b:Li Str):Bool:=
 aj (a.kind=.function)&&(a.names.all λp=>aj (p.2≠.cell))&&(b.all λx=>aj (a.names.lookup x=aa .local))&&(a.names.all λp=>!decide (p.2=.local)||aj (a.names.lookup p.1=aa .local)) &&
 aj (b++ZN a).Nodup&&(ZN a).all (λy=>VD sc y&&aj (a.names.lookup y=aa .free))
noncomputable def ZgT(_:CmpOp):Ot Bool:=ab
noncomputable def unC(b:UnaryOp)(a:Ot CE):Ot CE:=match b with
 |.Not=>a.map .not
 |.USub=>a.map .neg
 |.Invert=>a.map .inv
 |_=>ab
def Zin(G:Gs)(sc:a7)(f:ax->Ot CE)(a:Ot CE):Li CmpOp->Li ax->Ot CE
 |[c],[b]=>(match ZS G sc b with
  |some e=>o3 .inR (ZgT c) a (f e)
  |none=>o2 (.cmp c) a (f b))
 |_,_=>ab
def ZfA(f:ax->Ot CE)(d:BoolOp)(c:Pos):Li ax->Ot CE
 |[]=>ab
 |[a]=>f a
 |a :: b :: r=>match d with
  |.And=>o2 .and (f a) (f (.BoolOp .And (b :: r) c))
  |.Or=>o2 .or (f a) (f (.BoolOp .Or (b :: r) c))
def ZhW(G:Gs)(sc:a7)(f:ax->Ot CE)(c:Ot ax->Ot CE)(a b:ax):Ot CE:=match Vc b with
 |some (d,g)=>o3 .slice (f a) (c d) (c g)
 |none=>match Zf5 b with
  |some s=>(o2 (λx y=>og (ZjI y=ac) (aa (.rs ae x))) (f a) (f s)).join
  |none=>match Zan G sc a with
   |some (e,h)=>(f b).map (.look e h)
   |none=>o2 .ix (f a) (f b)
def Ve:ax->Ot ax
 |.Call (.Attribute (.Name x p) m b) [] [] a=>og (m = "values"/\(b.endLine==a.line)=ac) (aa (.Name x p))
 |_=>ab
def itC(G:Gs)(sc:a7)(b:ax)(f:ax->Ot CE):Li Str->Ot (Ot (Ot Bool)×CE)
 |[_]=>(match ZS G sc b with
  |some a=>(f a).map λc=>(aa (aa ac),c)
  |none=>match Ve b with
   |some x=>(f x).map λc=>(aa (aa ae),.rng2 c .aN)
   |none=>(f b).map λc=>(aa (aa ae),c))
 |[_,_]=>(match XN G sc b with
  |some a=>(f a).map λc=>(aa ab,c)
  |none=>(f b).map λc=>(ab,c))
 |_=>(match XN G sc b with
  |some _=>ab
  |none=>(f b).map λc=>(ab,c))
noncomputable def ifC(f:ax->Ot CE):Li ax->Ot CE
 |[]=>aa (CE.c (.bl ac))
 |[c]=>f c
 |_=>ab
def ZfC(G:Gs)(sc a:a7)(N:Li Str)(f:ax->Ot CE)(g:Li Str->ax->Ot CE)(d:ax):Li Comprehension->Ot CE
 |[⟨e,h,c,0⟩]=>(match tgN e with
  |none=>ab
  |some b=>og (Xs sc a b=ac) (o3 (λi p (q:CE×CE)=>mkC b.length p.1 i p.2 q.1 q.2) (XE N (ZN a)) (itC G sc h f b) (o2 Prod.mk (g (b++ZN a) d) (ifC (g (b++ZN a)) c))))
 |_=>ab
mutual
def cE(G:Gs):Nat->a7->Li Str->ax->Ot CE
 |0,_,_,_=>ab
 |n+1,sc,N,e=>match e with
  |.Constant c _ _=>CE.ofConst c
  |.Name x _=>ZcV G sc N x
  |.BinOp a h b _=>o2 (.bin h) (cE G n sc N a) (cE G n sc N b)
  |.UnaryOp h a _=>unC h (cE G n sc N a)
  |.Compare a k bs _=>Zin G sc (cE G n sc N) (cE G n sc N a) k bs
  |.BoolOp h p j=>ZfA (cE G n sc N) h j p
  |.IfExp c a b _=>o3 .ife (cE G n sc N c) (cE G n sc N a) (cE G n sc N b)
  |.Tuple l _ _=>(cEs G n sc N l).map .tupE
  |.List l _=>(cEs G n sc N l).map .lstE
  |.Dict keys d _=>ZjC (cE G n sc N) keys d
  |.Subscript a b _=>ZhW G sc (cE G n sc N) (cO G n sc N) a b
  |.Call f o [] q=>Zil G sc f o q (cEs G n sc N o) (cE G n sc N)
  |.ListComp m i g _=>ZfC G sc g N (cE G n sc N) (cE G n g) m i
  |_=>ab
def cEs(G:Gs):Nat->a7->Li Str->Li ax->Ot CE
 |0,_,_,_=>ab
 |_+1,_,_,[]=>aa .aN
 |n+1,sc,N,e :: a=>o2 .aC (cE G n sc N e) (cEs G n sc N a)
def cO(G:Gs):Nat->a7->Li Str->Ot ax->Ot CE
 |0,_,_,_=>ab
 |_+1,_,_,ab=>aa .nop
 |n+1,sc,N,aa e=>(cE G n sc N e).map .part
end
noncomputable def Xz:ax->Bool
 |.ListComp ..=>ac
 |.SetComp ..=>ac
 |.DictComp ..=>ac
 |_=>ae
noncomputable def Qz:ax->Bool
 |.Tuple ..=>ac
 |_=>ae
def Zij(N:Li Str)(a e:ax)(c:Ot CE):Ot CS:=match a with
 |.Name x _=>o2 .set (N.idxOf? x) c
 |.Tuple [.Name x _,.Name y _] _ _=>og ((Xz e||Qz e)=ae) (o3 (λi j c=>og (i≠j) (aa (.set2 i j c))) (N.idxOf? x) (N.idxOf? y) c).join
 |.Tuple [.Name x _,.Name y _,.Name z _] _ _=>og ((Xz e||Qz e)=ae) (o3 (λi j (p:Nat×CE)=>.set3 i j p.1 p.2) (N.idxOf? x) (N.idxOf? y) (o2 Prod.mk (N.idxOf? z) c))
 |_=>ab
def ZiV(sc:a7)(N:Li Str)(x:Str)(k e:ax)(f:ax->Ot CE):Ot CS:=og (Xz e=ae/\ZjJ k=ae/\XA sc x=ac) (match Ul k with
 |some (a,b)=>o3 (λi (p:CE×CE) c=>.dput i p.1 p.2 c) (N.idxOf? x) (o2 Prod.mk (f a) (f b)) (f e)
 |none=>o3 .put (N.idxOf? x) (f k) (f e))
def ZgQ(G:Gs)(sc:a7)(N:Li Str)(f:ax->Ot CE)(fs:Li ax->Ot CE)(h d:ax)(b:Ot CS):Ot CS:=match h with
 |.Name x _=>(match WK G sc d with
  |some g=>o3 .for3 (N.idxOf? x) (fs g) b
  |none=>match ZS G sc d with
   |some a=>o3 (λi c b=>.for1 i ac c b) (N.idxOf? x) (f a) b
   |none=>o3 (λi c b=>.for1 i ae c b) (N.idxOf? x) (f d) b)
 |.Tuple [.Name x _,.Name y _] _ _=>(o2 (λi j=>og (i≠j) (aa (i,j))) (N.idxOf? x) (N.idxOf? y)).join.bind λp=>(match Vf G sc d with
  |some g=>o2 (.forP p.1 p.2) (fs g) b
  |none=>match W5 G sc d with
   |some e=>o2 (.forE p.1 p.2) (f e) b
   |none=>o2 (.for2 p.1 p.2) (f d) b)
 |.Tuple [.Name x _,.Name y _,.Name z _] _ _=>o3 (λ(p:Nat×Nat) (q:Nat×CE) b=>.for4 p.1 p.2 q.1 q.2 b) (o2 Prod.mk (N.idxOf? x) (N.idxOf? y)) (o2 Prod.mk (N.idxOf? z) (f d)) b
 |_=>ab
def Zii(sc:a7)(N:Li Str)(x m:Str)(b a:Pos)(c:Ot CE):Ot CS:=og (XA sc x=ac/\(b.endLine==a.line)=ac) (if m = "append" then o2 .app (N.idxOf? x) c else if m = "extend" then o2 .ext (N.idxOf? x) c else ab)
def Zig(sc:a7)(N:Li Str)(f:ax->Ot CE):ax->Ot CS
 |.Call (.Name g d) h c a=>(f (.Call (.Name g d) h c a)).map .act
 |.Call (.Attribute (.Name x _) m b) [e] [] a=>Zii sc N x m b a (f e)
 |.Call (.Attribute (.Call (.Attribute (.Name x _) m2 ap2) [k,.List [] _] [] cp2) m b) [e] [] a=>og (XA sc x=ac/\m2 = "setdefault"/\(ap2.endLine==cp2.line)=ac/\m = "append"/\(b.endLine==a.line)=ac) (o3 .sda (N.idxOf? x) (f k) (f e))
 |.Call (.Attribute (.Subscript o k p) m b) [e] [] a=>og (m = "append"/\(b.endLine==a.line)=ac) (o2 .app2 (f (.Subscript o k p)) (f e))
 |_=>ab
mutual
def cS(G:Gs):Nat->a7->Li Str->Stmt->Ot CS
 |0,_,_,_=>ab
 |n+1,sc,N,s=>match s with
  |.Assign [.Subscript (.Name x _) k _] e _=>ZiV sc N x k e (cE G n sc N)
  |.Assign [d] e _=>Zij N d e (cE G n sc N e)
  |.Expr e _=>Zig sc N (cE G n sc N) e
  |.Return (aa e) _=>(cE G n sc N e).map .ret
  |.If c a b _=>o3 .ite (cE G n sc N c) (cSs G n sc N a) (cSs G n sc N b)
  |.For d f b [] _=>ZgQ G sc N (cE G n sc N) (cEs G n sc N) d f (cSs G n sc N b)
  |.While c b [] _=>o2 .whl (cE G n sc N c) (cSs G n sc N b)
  |.Pass _=>aa .skip
  |.Break _=>aa .brk
  |.Continue _=>aa .cont
  |.Raise _ _ _=>aa .stop
  |_=>ab
def cSs(G:Gs):Nat->a7->Li Str->Li Stmt->Ot CS
 |0,_,_,_=>ab
 |_+1,_,_,[]=>aa .skip
 |n+1,sc,N,s :: r=>o2 .seq (cS G n sc N s) (cSs G n sc N r)
end
end Dp
namespace Dp
open PySem PySem.Spec PyProof.Rows L2 PySem.SeqAt
noncomputable instance decD:DecidableEq D:=λa b=>Classical.propDecidable (a=b)
def IsV(h:bf):Nat->D->vL->Prop
 |_,.int i,u=>∃ t,u=.int i t
 |_,.str x,u=>∃ t,u=.str x t
 |n+1,.tup c,u=>∃ a b,u=.ref a/\h.IsTuple a b/\Paired (IsV h n) c b.toList
 |_,_,_=>False
def Xe(w:bg):Nat->D->Int
 |_,.int i=>keyH w (.inl i)
 |_,.str x=>keyH w (.inr x)
 |n+1,.tup a=>reduceHash (Builtin.Tuple.tupleHashOf (a.map (Xe w n)))
 |_,_=>0
noncomputable def Vw:Nat->D->Nat
 |n+1,.tup a=>(a.map (Vw n)).sum+1
 |_,_=>1
variable {prog:a1}{w:bg}{A:bm}{E:vL->Sd->Prop}{s:Sd}{h h':bf}
inductive IsW(h:bf):Nat->D->Value->Prop where
 |int (n:Nat) (i:Int) (t:Tok):IsW h n (.int i) (.int i t)
 |str (n:Nat) (i:Str) (t:Tok):IsW h n (.str i) (.str i t)
 |tup {m:Nat}{ds:List D}{a:Addr}{its:Array Value} (p:h.IsTuple a its) (r:Paired (IsV h m) ds its.toList):IsW h (m+1) (.tup ds) (.ref a)
variable{n:Nat}
def IsV.view{d:D}{u:vL}(x:IsV h n d u):IsW h n d u:=by
 cases d with
 |int i=>
  obtain⟨t,rfl⟩:∃ t,u=.int i t:=by cases n<;>exact x
  exact .int n i t
 |str i=>
  obtain⟨t,rfl⟩:∃ t,u=.str i t:=by cases n<;>exact x
  exact .str n i t
 |tup c=>cases n with
  |zero=>exact False.elim x
  |succ m=>obtain⟨a,b,rfl,p,r⟩:=x;exact .tup p r
 |_=>exact False.elim (by cases n<;>exact x)
variable{i:Int}
def ZeC{t:Tok}:IsV h n (.int i) (.int i t):=by cases n<;>exact⟨t,rfl⟩
def ZeD{i:Str}{t:Tok}:IsV h n (.str i) (.str i t):=by cases n<;>exact⟨t,rfl⟩
def IsV.inj:∀ {n:Nat}{x y:D}{u:vL},IsV h n x u->IsV h n y u->x=y:=by
 intro n
 induction n using Nat.strongRecOn with
 |_ n t=>
  intro x y u v j;cases v.view with
  |int=>cases j.view;rfl
  |str=>cases j.view;rfl
  |@tup m e a s p r=>
   cases j.view with
   |tup l g=>
    obtain⟨o,w,F,k,z⟩:=p;obtain⟨C,b,A,E,c⟩:=l;rw[w]at b;cases b
    rw[z]at c;injection c with B _;subst B
    have go:∀ {e d:Li D}{f:Li vL},Paired (IsV h m) e f->Paired (IsV h m) d f->e=d:=λ{e d f} p=>by
     induction p generalizing d with
     |nil=>intro q;cases q;rfl
     |cons r p i=>intro q;cases q with
      |cons g q=>rw[t m (bL m) r g,i q]
    rw[go r g]
def IsV.map(k:∀ a b,h.IsTuple a b->h'.IsTuple a b):∀ {n:Nat}{x:D}{u:vL},IsV h n x u->IsV h' n x u:=by
 intro n
 induction n using Nat.strongRecOn with
 |_ n c=>
  intro x u d;cases d.view with
  |int=>exact ZeC
  |str=>exact ZeD
  |@tup m e a b p r=>exact⟨a,b,rfl,k _ _ p,Paired.mapP r λx y q=>c m (bL m) q⟩
def Zgs{d c:Li D}:((ag (min d.length c.length)).all (λi=>aj ((d[i]?).getD .non=(c[i]?).getD .non))&&d.length==c.length)=aj (d=c):=by
 rw[bQ,Ba,cD,decide_eq_true_iff,beq_iff_eq];constructor
 .rintro⟨f,e⟩
  refine List.ext_getElem e λi a b=>?_
  have:=f i (cA.mpr (by omega))
  rw[decide_eq_true_iff,Lg a,Lg b]at this;exact this
 .rintro rfl
  exact⟨λi _=>aP rfl,rfl⟩
theorem Wa{m:Nat}:∀ {ds:Li D}{vs:Li vL},Paired (IsV h m) ds vs->ds.length=vs.length/\∀ i (a:i < ds.length) (b:i < vs.length),IsV h m ds[i] vs[i]
 |_,_,.nil=>⟨rfl,λi a=>nomatch a⟩
 |_,_,.cons r p=>by
  obtain⟨l,g⟩:=Wa p;refine⟨au (·+1) l,λi a b=>?_⟩
  cases i with
  |zero=>exact r
  |succ i=>exact g i _ _
def dec_int{j:Int}:aj (D.int i=D.int j)=(i==j):=by rw[bQ,decide_eq_true_iff,beq_iff_eq];exact⟨D.int.inj,au _⟩
def dec_str{i j:Str}:aj (D.str i=D.str j)=(i==j):=by rw[bQ,decide_eq_true_iff,beq_iff_eq];exact⟨D.str.inj,au _⟩
def Zeb{i j:Li D}:aj (D.tup i=D.tup j)=aj (i=j):=by rw[bQ,decide_eq_true_iff,decide_eq_true_iff];exact⟨D.tup.inj,au _⟩
def eqV:∀ {n:Nat}{x y:D}{A:bm}{u v:vL},A.units+n < cLine->IsV s.heap n x u->IsV s.heap n y v->EqAt A s u v (aj (x=y)):=by
 intro n
 induction n using Nat.strongRecOn with
 |_ n I=>
  intro x y A u v J z g;cases z.view with
  |int _ i t=>
   cases g.view with
   |int _ j c=>exact dec_int ▸ EqAt.int_int i t j c
   |str _ j c=>rw[aH (λe=>nomatch e)];exact EqAt.int_str i t j c
   |tup p r=>rw[aH (λe=>nomatch e)];exact EqAt.int_tuple i t p (by omega)
  |str _ i t=>
   cases g.view with
   |int _ j c=>rw[aH (λe=>nomatch e)];exact EqAt.str_int i t j c
   |str _ j c=>exact dec_str ▸ EqAt.str_str i t j c
   |tup p r=>rw[aH (λe=>nomatch e)];exact EqAt.str_tuple i t p (by omega)
  |@tup m l a h p r=>
   cases g.view with
   |int _ j c=>rw[aH (λe=>nomatch e)];exact EqAt.tuple_int j c p (by omega)
   |str _ j c=>rw[aH (λe=>nomatch e)];exact EqAt.tuple_str j c p (by omega)
   |@tup _ k b d H G=>
    by_cases f:a=b
    .subst f
     rw[aP (z.inj g)];exact EqAt.same _
    .obtain⟨w,g1⟩:=Wa r
     obtain⟨o,g2⟩:=Wa G;refine EqAt.of_refs f ?_;have q:=RcAt.tuples (A:=A) (s:=s) (e:=λi=>aj ((l[i]?).getD .non=(k[i]?).getD .non)) p H (by omega) λj C B=>?_
     .rw[show h.size=l.length from w.symm,show d.size=k.length from o.symm,Zgs]at q
      rw[Zeb];exact q
     .have F:j < l.length:=w ▸ C
      have E:j < k.length:=o ▸ B;rw[Lg F,Lg E];exact I m (bL m) (A:=A.in1) (by show A.units+1+m < cLine;omega) (g1 j F C) (g2 j E B)
variable {prog:a1}{w:bg}{A:bm}{E:vL->Sd->Prop}{s:Sd}{h h':bf}
def Zba:Xe w n (.int i)=keyH w (.inl i):=by cases n<;>rfl
def Zbb{i:Str}:Xe w n (.str i)=keyH w (.inr i):=by cases n<;>rfl
def Za4:Vw n (.int i)=1:=by cases n<;>rfl
def Za5{i:Str}:Vw n (.str i)=1:=by cases n<;>rfl
theorem ZeT:∀ {n:Nat}{d:D}{A:bm}{u:vL}{s:Sd}{Q:Int->Sd->Prop},A.units+n < cLine->IsV s.heap n d u->Q (Xe w n d) { s with toks:=s.toks+Vw n d }->az (a0 prog w) A (pyHash u) Q E s:=by
 intro n
 induction n using Nat.strongRecOn with
 |_ n G=>
  intro d A u s Q L H h;cases H.view with
  |int _ i t=>
   rw[Zba,Za4]at h;exact(mixKind prog w).pyHash (mixKind_int prog w i t) h
  |str _ i t=>
   rw[Zbb,Za5]at h;exact(mixKind prog w).pyHash (mixKind_str prog w i t) h
  |@tup m B a C p r=>
   obtain⟨o,z,J,k,I⟩:=p;have l:s.TypeIs (.ref a) "tuple":=⟨o,z,J⟩;unfold pyHash
   first|unfold pyHashByItsType|skip
   first|refine aA (wpAny_cRoomFor_or (.inr (by omega)) ?_)|skip
   refine aA (wpAny_specialOf l F.slot_tuple_hash.lookup ?_);show az _ _ (if (aa (Value.builtin "tuple.__hash__")==aa br)=ac then _ else _) Q E s
   rw[aq (by rw[beq_builtin_none];exact Bf)]
   refine aA (wpAny_specialOf l F.slot_tuple_hash.lookup ?_);show az _ _ (callSpecialIfBoundUnlessNone? (.ref a) "__hash__" _ >>= _) Q E s;refine aA (wpAny_callSpecialIfBoundUnlessNone?_slot l F.slot_tuple_hash (wpAny_call_entry F.slot_tuple_hash l F.entry_tuple_hash ?_ (F.args_tuple_hash_1 _)));show az _ _ (Builtin.Tuple.tupleItemsOf (.ref a) >>= _) _ _ s;refine aA (wpAny_tupleItemsOf z I ?_)
   refine aA ?_;rw[<-Array.forIn_toList];refine wpAny_forIn_list _
    (λc (b:Array Int) q=>∃ done left,B=done++left/\Paired (IsV s.heap m) left c/\b.toList=done.map (Xe w m)/\q={ s with toks:=s.toks+(done.map (Vw m)).sum })
    _ ?_ ?_ _ _ ⟨[],B,rfl,r,rfl,rfl⟩
   .rintro x c b q ⟨done,left,rfl,v,j,rfl⟩
    cases v with
    |@cons y _ e _ K f=>
     refine aA (G m (bL m) (by show A.units+1+m < cLine;omega) K ?_)
     first
      |exact aB ⟨done++[y],e,by simp,f,by simp[j],by simp[Nat.add_assoc]⟩
      |exact aA (aB (aB ⟨done++[y],e,by simp,f,by simp[j],by simp[Nat.add_assoc]⟩))
   .rintro b q ⟨done,left,rfl,v,j,rfl⟩
    cases v;rw[bG]at h;show az _ _ (retInt (Builtin.Tuple.tupleHashOf b.toList)) _ _ _;rw[j];refine wpAny_ret_mkInt ?_;show az _ _ (if (aj (-(2:Int) ^ 63<=Builtin.Tuple.tupleHashOf (done.map (Xe w m)))&&aj (Builtin.Tuple.tupleHashOf (done.map (Xe w m)) < 2 ^ 63))=ac then _ else _) Q E _
    have h:Q (reduceHash (Builtin.Tuple.tupleHashOf (done.map (Xe w m)))) { s with toks:=s.toks+((done.map (Vw m)).sum+1) }:=h
    unfold reduceHash at h;by_cases g:(aj (-(2:Int) ^ 63<=Builtin.Tuple.tupleHashOf (done.map (Xe w m)))&&aj (Builtin.Tuple.tupleHashOf (done.map (Xe w m)) < 2 ^ 63))=ac
    .rw[ao g]
     rw[ao g]at h;exact aB (by simpa[Nat.add_assoc] using h)
    .rw[aq g]
     rw[aq g]at h;exact aA (wpAny_rule (aB (by simpa[Nat.add_assoc] using h)))
theorem Zhu{M:Model}:∀ {n:Nat}{d:D}{u:vL}{s:Sd}{Q:Bool->Sd->Prop},IsV s.heap n d u->Q ac s->az M A (eqIsQuiet n u) Q E s:=by
 intro n
 induction n using Nat.strongRecOn with
 |_ n w=>
  intro d u s Q x h;cases x.view with
  |int _ i t=>
   rw[eqIsQuiet_byValue _ rfl];exact aB h
  |str _ i t=>
   rw[eqIsQuiet_byValue _ rfl];exact aB h
  |@tup m G a f p r=>
   obtain⟨o,l,B,k,z⟩:=p;have q:s.TypeIs (.ref a) "tuple":=⟨o,l,B⟩;unfold eqIsQuiet;refine aA (wpAny_specialOf q F.slot_tuple_eq.lookup ?_);show az _ _ (isInstance (.ref a) (.type "tuple") >>= _) _ _ s;refine aA (wpAny_isInstance q isSubtype_tuple_tuple ?_);simp only[Bool.not_true,cF,if_false];refine aA (wpAny_seqItems l z ?_);refine aA ?_
   show az _ _ (forIn f _ _) _ _ s;rw[<-Array.forIn_toList];refine wpAny_forIn_list _ (λb r c=>r.1=ab/\c=s/\∃ left,Paired (IsV s.heap m) left b) _ ?_ ?_ _ _ ⟨rfl,rfl,G,r⟩
   .rintro v b r c ⟨g,rfl,left,y⟩
    cases y with
    |@cons J _ e _ C j=>
     refine aA (w m (bL m) C ?_);simp only[Bool.not_true,cF,if_false];exact aB ⟨rfl,rfl,e,j⟩
   .rintro⟨I,H⟩ c ⟨g,rfl,_⟩
    simp only at g;subst g;exact aB h
def ZfS(prog:a1)(w:bg):HeapKind prog w D where
 is:=λh d a=>IsV h 8 d (.ref a)
 hash:=Xe w 8
 draws:=Vw 8
 room:=λA=>A.units+8 < cLine
 inj:=λc b=>c.inj b
 keeps:=λx n p m=>x.map λa l ⟨o,j,q,k,i⟩=>⟨o,(m.2 a λe=>by subst e;rw[n]at j;cases j;rw[p]at i;exact nomatch i).trans j,q,k,i⟩
 pyHash:=λf g h=>ZeT f g h
 eqBool:=λf c b h=>eqV f c b _ _ _ _ h
 quiet:=λg h=>Zhu g h
variable{d:Ad}
section
variable {prog:a1}{w:bg}{K:Type} [DecidableEq K] {knd:HeapKind prog w K}{A:bm}{E:vL->Sd->Prop}{s:Sd}
def DictE(knd:HeapKind prog w K)(h:bf)(d:Ad)(a:Li (K×Ad×vL)):Prop:=∃ o b,h.get? d=aa o/\o.ExactDict/\o.data=.dict b b.size/\b.toList=a.map (entryOfKey knd)/\(∀ x∈a,knd.is h x.1 x.2.1)/\(a.map (·.1)).Nodup
def DictE.typeIs{a:Li (K×Ad×vL)}(b:DictE knd s.heap d a):s.TypeIs (.ref d) "dict":=let ⟨o,_,ho,hc,_⟩:=b;⟨o,ho,hc.1⟩
def ZhP{a:Ad}{f:Li (K×Ad×vL)}{k:K}{v:vL}{Q:vL->Sd->Prop}(hu:knd.room A)(b:knd.is s.heap k a)(C:DictE knd s.heap d f)(hz:f.length<=aw)(G:∀ p,atKey f k=aa p->Q p.2 { s with toks:=s.toks+knd.draws k })(F:atKey f k=ab->∀ h',DictE knd h' d (f++[(k,a,v)])->Heap.SameBut d s.heap h'->Q v { s with heap:=h',toks:=s.toks+knd.draws k }) :
  az (a0 prog w) A (dictSetDefault d (.ref a) v) Q E s:=by
 obtain⟨o,B,g,D,c,m,l,r⟩:=C;have H:=size_of_entries m;unfold dictSetDefault
 try with_reducible refine wpAny_holding ?_
 refine aA (knd.pyHash hu b (aA (wpAny_dictFind_heap (s:={ s with toks:=s.toks+knd.draws k }) hu b g c m l r (λi=>?_) (λj p u=>?_))))
 .have h:k∉f.map (·.1):=not_mem_keys_of_get i
  have q:B.size+1=(B.push ⟨knd.hash k,.ref a,v⟩).size:=(Array.size_push _).symm;refine aA (wpAny_rule (aA (wpAny_updateDictKeys (hz:=by omega) (s:={ s with toks:=s.toks+knd.draws k }) g c (aB (F (atKey_none_of_get i) _ ⟨_,_,Heap.get?_update_self _ g (Obj.isFreed_of_dict (Obj.data_mapDictKeys c _)),D.mapDictKeys _,(Obj.data_mapDictKeys c _).trans (by rw[q]),by simp[m,entryOfKey],λx n=>?_,?_⟩ (Heap.SameBut.update ..))))))
  .rcases bC.mp n with z|z
   .exact knd.keeps (l x z) g c (Heap.SameBut.update ..)
   .rw[aM.mp z]
    exact knd.keeps b g c (Heap.SameBut.update ..)
  .rw[bN,List.nodup_append]
   refine⟨r,by simp,λx n y t e=>?_⟩
   rw[aK,dF]at t;rw[aM.mp t]at e;exact h ((show x=k from e) ▸ n)
 .refine aA (wpAny_dictEntries (s:={ s with toks:=s.toks+knd.draws k }) g c ?_)
  rw[entry_at m j,u];exact aA (wpAny_rule (aB (G p (atKey_of_get r u))))
def UW(knd:HeapKind prog w K){k:K}{a:Ad}(d:Ad)(hd:(d==bj)=ae)(v:vL) :
  MeetsIn prog w (Builtin.«dict.setdefault» ⟨[.ref d,.ref a,v],[]⟩) (λA R s=>∃ b,DictE knd s.heap d b/\b.length<=aw/\knd.room A.in1/\knd.is s.heap k a /\
   (∀ p,atKey b k=aa p->R (.ok (.ret p.2)) { s with toks:=s.toks+knd.draws k }) /\
   (atKey b k=ab->∀ h',DictE knd h' d (b++[(k,a,v)])->Heap.SameBut d s.heap h'->R (.ok (.ret v)) { s with heap:=h',toks:=s.toks+knd.draws k })):=
 .of_wp λA R s ⟨b,f,g,h,l,n,m⟩=>by
  unfold Builtin.«dict.setdefault»
  refine aA ?_;unfold Builtin.Dict.keyAndDefault;refine aA (wpAny_notOrdered_dict f.typeIs (aB ?_));show az _ _ (if (d==bj)=ac then _ else (dictSetDefault d (.ref a) v >>= _)) _ _ s
  rw[aq (by rw[hd];exact Bf)]
  exact aA (ZhP h l f g (λp i=>aB ⟨_,rfl,n p i⟩) λj h' e c=>aB ⟨_,rfl,m j h' e c⟩)
end
variable{es:Array DictEntry}{ep:Nat}{Q:Ot vL->Sd->Prop}
variable{prog:a1}{w:bg}{A:bm}{E:vL->Sd->Prop}{s:Sd}
def Raw(h:bf)(d:Ad)(es:Array DictEntry)(ep:Nat):Prop:=∃ o,h.get? d=aa o/\o.ExactDict/\o.data=.dict es ep
def Raw.typeIs(x:Raw s.heap d es ep):s.TypeIs (.ref d) "dict":=let ⟨o,ho,hc,_⟩:=x;⟨o,ho,hc.1⟩
def Jw:Builtin.Dict_items.ownsTuple "dict_valueiterator"=ae:=by decide
def Ju(d:Ad)(hd:(d==bj)=ae) :
  MeetsIn prog w (Builtin.«dict.values» ⟨[.ref d],[]⟩) (λ_ R s=>(∃ es ep,Raw s.heap d es ep) /\
   R (.ok (.ret (.ref s.heap.objs.size))) { s with heap:=s.heap.push { cls:=.type "dict_values",data:=.fields #[.ref d] } }):=
 .of_wp λA R s ⟨⟨es,ep,a⟩,h⟩=>by
  refine aA ?_;unfold Builtin.Dict.noArgs;refine aA (wpAny_notOrdered_dict a.typeIs (aB ?_));show az _ _ (Builtin.Dict.showsAll d >>= _) _ _ s;unfold Builtin.Dict.showsAll;rw[aq (by rw[hd];exact Bf)]
  exact aA (aB (aA (wpAny_newObj_type (aB ⟨_,rfl,h⟩))))
theorem Zbf{v:Ad}{Q:vL->Sd->Prop}(b:s.heap.IsValuesView v d)(g:Raw s.heap d es ep)(i:Q (.ref s.heap.objs.size) { s with heap:=s.heap.push { cls:=.type "dict_valueiterator",data:=.fields #[.ref d,.int 0 0,.int es.size 0,.int ep 0] } }) :
  az (a0 prog w) A (pyIter (.ref v)) Q E s:=by
 obtain⟨j,c,h,e⟩:=id b;obtain⟨o,f,k,a⟩:=id g;refine wpAny_pyIter_slot b.typeIs F.slot_dict_values_iter (wpAny_call_entry F.slot_dict_values_iter b.typeIs F.entry_dict_values_iter ?_ (F.args_dict_values_iter_1 _));unfold Builtin.«dict_values.__iter__»
 refine aA (aB (aA ?_));unfold Builtin.Dict_items.dictOf;refine aA (wpAny_field c e (x:=.ref d) rfl (aB (aA ?_)));unfold Builtin.Dict_items.newIterator;refine aA (wpAny_dictEntries f a (aA (wpAny_dictEpoch f a ?_)));simp only[Jw,cF,if_false];refine wpAny_newObj_type (aB ⟨_,rfl, "dict_valueiterator",_,⟨_,aX _ rfl,rfl⟩,F.slot_dict_valueiterator_next.lookup,?_⟩)
 exact i
theorem Zbi{c:Ad}{i:Nat}(a:s.heap.IsValIter c d i es.size ep)(k:Raw s.heap d es ep)(j:i < es.size)(n:∀ h',h'.IsValIter c d (i+1) es.size ep->Heap.SameBut c s.heap h'->Q (aa es[i].val) { s with heap:=h' }) :
  az (a0 prog w) A (pyNext (.ref c)) Q E s:=by
 obtain⟨o,h,m,g⟩:=id a;obtain⟨p,e,l,f⟩:=id k;unfold pyNext;refine aA (wpAny_attempt (wpAny_callSpecial?_slot (name:=Str.ofString "__next__") a.typeIs F.slot_dict_valueiterator_next (wpAny_call_entry F.slot_dict_valueiterator_next a.typeIs F.entry_dict_valueiterator_next ?_ (F.args_dict_valueiterator_next_1 _))));refine aA (aB (aA (aA ?_)))
 first|refine aA (wpAny_typeNameOfWhole_valiter a.typeIs (aB ?_))|refine aA (wpAny_typeNameOf_valiter a.typeIs (aB ?_))
 refine aA (wpAny_fieldsOf h g ?_);simp only[Jw,cF,if_false];show az _ _ (if (bq d==br)=ac then _ else _) _ _ s
 rw[aq (show ¬((bq d==br)=ac) from Bf)];refine aA (aB (aA (wpAny_dictEntries e f ?_)));rw[aq (by simp)]
 refine aA (aB (aA (wpAny_dictEpoch e f ?_)));rw[aq (by simp)]
 refine aB ?_;simp only[show ¬((i:Int) < 0) from by omega,if_false,bA,dI j]
 refine aA ?_
 first|refine aA (wpAny_typeNameOfWhole_valiter a.typeIs (aB ?_))|refine aA (wpAny_typeNameOf_valiter a.typeIs (aB ?_))
 refine aA (wpAny_isOneOf_valiter a.typeIs ?_);show az _ _ (setField (.ref c) 1 (rawInt ((i:Int)+1)) >>= _) _ _ s;refine aA (wpAny_setField h g (by simp) ?_)
 have b:(s.heap.update c (Obj.mapFields (·.setIfInBounds 1 (rawInt ((i:Int)+1))))).IsValIter c d (i+1) es.size ep:=
  ⟨_,Heap.get?_update_self _ h (Obj.isFreed_of_fields (Obj.data_mapFields g _)),(Obj.cls_mapFields ..).trans m,by rw[Obj.data_mapFields g];simp[rawInt]⟩
 refine aA (wpAny_holding (aA (wpAny_isOneOf_valiter (s:={ s with heap:=s.heap.update c (Obj.mapFields (·.setIfInBounds 1 (rawInt ((i:Int)+1)))) }) b.typeIs ?_)))
 refine aA (wpAny_isOneOf_valiter (s:={ s with heap:=s.heap.update c (Obj.mapFields (·.setIfInBounds 1 (rawInt ((i:Int)+1)))) }) b.typeIs ?_)
 show az _ _ (pure es[i].val) _ _ _;exact aB (aB ⟨_,rfl,aB (n _ b (Heap.SameBut.update ..))⟩)
theorem ZcW{g:Ad}(k:A.handled=ab)(c:s.heap.IsValIter g d es.size es.size ep)(j:Raw s.heap d es ep)(n:∀ h',Heap.ExtBut g s.heap h'->Q ab { s with heap:=h' }):az (a0 prog w) A (pyNext (.ref g)) Q E s:=by
 obtain⟨o,h,q,i⟩:=id c;obtain⟨p,e,l,f⟩:=id j;unfold pyNext;refine aA (wpAny_attempt (wpAny_callSpecial?_slot (name:=Str.ofString "__next__") c.typeIs F.slot_dict_valueiterator_next (wpAny_call_entry F.slot_dict_valueiterator_next c.typeIs F.entry_dict_valueiterator_next ?_ (F.args_dict_valueiterator_next_1 _))));refine aA (aB (aA (aA ?_)))
 first|refine aA (wpAny_typeNameOfWhole_valiter c.typeIs (aB ?_))|refine aA (wpAny_typeNameOf_valiter c.typeIs (aB ?_))
 refine aA (wpAny_fieldsOf h i ?_);simp only[Jw,cF,if_false];show az _ _ (if (bq d==br)=ac then _ else _) _ _ s
 rw[aq (show ¬((bq d==br)=ac) from Bf)];refine aA (aB (aA (wpAny_dictEntries e f ?_)));rw[aq (by simp)]
 refine aA (aB (aA (wpAny_dictEpoch e f ?_)));rw[aq (by simp)]
 refine aB ?_;simp only[show ¬((es.size:Int) < 0) from by omega,if_false,bA,eH (aE es.size)]
 refine aA ?_
 first|refine aA (wpAny_typeNameOfWhole_valiter c.typeIs (aB ?_))|refine aA (wpAny_typeNameOf_valiter c.typeIs (aB ?_))
 show az _ _ (setField (.ref g) 0 .none >>= _) _ _ s;refine aA (wpAny_setField h i (by simp) ?_)
 show az _ _ (newExc (.type "StopIteration") [] >>= _) _ _ _;refine aA ?_;simp only[newExc,newTuple];refine aA (wpAny_newObj_type ?_ (by size_fits))
 refine aA (m:=firstArgMember _ _) (wpAny_of_eq (a:=br) (by first|rfl | (simp only[firstArgMember];rfl)) ?_)
 refine wpAny_newObj_type ?_ (by size_fits)
 simp only[raiseNew];refine aA (wpAny_handled ?_);rw[show A.in1.handled=ab from k];refine aA (aB (wpAny_throw ?_));refine aA (wpAny_isInstance (T := "StopIteration") (b:=ac) ⟨_,aX _ rfl,rfl⟩ isSubtype_stop ?_);exact aB (n _ (((Heap.SameBut.update ..).extBut.push _).push _))
def ZdB(K:Fg):TE:=λ_ H Q=>∀ p,H p=ab->(∀ o,K.lookup p≠aa o)->Q (.ref p) (upd H p (.dN λ_=>[]))
def Zdd{X:Cx}{b:Pos}:PE X (.Dict [] [] b) (ZdB X.K):=λc s O H Q I h=>
 wpAny_Dict_empty ⟨.ref s.heap.objs.size,_,I.laid (a:=s.heap.objs.size) (o:=.dN λ_=>[]) (t':=s.toks) (λ_ _ q=>aO _ q) (aE _) ⟨cL.mpr (Ne.symm (aW I.big)),_,#[],aX _ rfl,⟨rfl,rfl,rfl⟩,rfl,rfl⟩,rfl,h _ (I.hok.fresh (aE _)) λo z=>ar (aJ (I.kIn _ o z)) (bZ _)⟩
end Dp
namespace Dp
open PySem PySem.Spec PyProof.Rows L2
class ClsTab where
 ca:Nat->Addr
variable [ClsTab]
variable{X:Cx}{e:ax}
def Zi{t a:TE}(h:PE X e t)(i:∀ O H Q,a O H Q->t O H Q):PE X e a:=λb s O H Q I q=>h b s O H Q I (i O H Q q)
def VP{t a:TT}(h:PT X e t)(i:∀ O H Q,a O H Q->t O H Q):PT X e a:=λb s O H Q I q=>h b s O H Q I (i O H Q q)
def Zda{e:Li ax}{t b:TA}(h:PA X e t)(i:∀ O H Q,b O H Q->t O H Q):PA X e b:=λa c s O H Q I q=>h a c s O H Q I (i O H Q q)
def Zdf{e:Ot ax}{t a:TO}(h:PO X e t)(i:∀ O H Q,a O H Q->t O H Q):PO X e a:=λb s O H Q I q=>h b s O H Q I (i O H Q q)
def Zv{e:Stmt}{t a:TS}(h:PS X e t)(i:∀ D O H,a D O H->t D O H):PS X e a:=λb s O H D I q=>h b s O H D I (i D O H q)
def Zaw{e:Li Stmt}{t a:TS}(h:PSs X e t)(i:∀ D O H,a D O H->t D O H):PSs X e a:=λb s O H D I q=>h b s O H D I (i D O H q)
def KT(K:Fg)(a:Ad)(b:Li V):Prop:=
 ∃ (o:Obj) (its:Array vL) (n:Nat),K.lookup a=aa o/\o.cls=.type "tuple"/\o.data=.seq its n/\its.size<=aw/\Vals b its.toList
def TupAt(K:Fg)(H:Hp)(a:Ad)(b:Li V):Prop:=H a=aa (.tup b)\/KT K a b
variable{K:Fg}{H:Hp}{xs:Li V}
def TupAt.sq{a:Ad}(h:TupAt K H a xs):SqT K H a xs:=by
 rcases h with h|h
 .exact .inl (.inl h)
 .exact .inr h
noncomputable def Jl:HO->Bool
 |.dT _=>ac
 |.dN _=>ac
 |_=>ae
def Z4(H:Hp)(a:Ad):Prop:=∃ o,H a=aa o/\Jl o=ac
def LA(b:Li Ad)(H:Hp)(i:Nat)(a:Ad):Prop:=b[i]?=aa a/\¬Z4 H a
variable{o:HO}
def WX{a:Ad}(h:H a=aa o)(n:Jl o=ae):¬Z4 H a:=λ⟨b,z,d⟩=>by rw[h]at z;cases z;rw[n]at d;cases d
mutual
inductive Den(K:Fg)(ad:List Addr)(H:Hp):V->D->Prop where
 |non:Den K ad H .non .non
 |bl (b:Bool):Den K ad H (.bl b) (.bl b)
 |int (i:Int):Den K ad H (.int i) (.int i)
 |str (x:Str):Den K ad H (.str x) (.str x)
 |tup {a:Addr}{xs:List V}{ds:List D} (h:TupAt K H a xs) (r:Dens K ad H xs ds):Den K ad H (.ref a) (.tup ds)
 |lst {a:Addr}{i:Nat} (h:LA ad H i a):Den K ad H (.ref a) (.lst i)
 |dic {a:Addr}{i:Nat} (h:ad[i]?=aa a) (n:Z4 H a):Den K ad H (.ref a) (.dic i)
 |dct {a:Addr}{kvs:List (Key×V)}{ks:List Str}{vs:List V}{ds:List D} (h:H a=aa (.dK kvs)) (hk:kvs=(ks.zip vs).map λp=>(Sum.inr p.1,p.2)) (nd:ks.Nodup/\ks≠[]) (hl:ks.length=vs.length) (r:Dens K ad H vs ds):Den K ad H (.ref a) (.dct ks ds)
 |obj {a dx:Addr}{i:Nat} (h:H a=aa (.ins (ClsTab.ca i) dx [])) (n:a∉ad):Den K ad H (.ref a) (.obj i)
 |kt {a:Addr}{ks:List Str}{o:Obj}{its:Array Value}{n:Nat} (l:K.lookup a=aa o) (c:o.cls=.type "tuple") (g:o.dict=ab) (e:o.data=.seq its n) (z:its.size<=aw) (r:Vals (ks.map V.str) its.toList):Den K ad H (.ref a) (.kt ks)
inductive Dens(K:Fg)(ad:List Addr)(H:Hp):List V->List D->Prop where
 |nil:Dens K ad H [] []
 |cons {v:V}{d:D}{vs:List V}{ds:List D} (h:Den K ad H v d) (r:Dens K ad H vs ds):Dens K ad H (v :: vs) (d :: ds)
end
structure Ext(ad:List Addr)(H:Hp)(ad':List Addr)(H':Hp):Prop where
 pre:∀ (i:Nat) (a:Addr),ad[i]?=aa a->ad'[i]?=aa a
 tup:∀ b xs,H b=aa (.tup xs)->H' b=aa (.tup xs)
 dk:∀ b kvs,H b=aa (.dK kvs)->H' b=aa (.dK kvs)
 keep:∀ b o,H b=aa o->b∉ad->H' b=aa o
 new:∀ b,b∈ad'->b∈ad\/H b=ab
 kd:∀ (i:Nat) (a:Addr),ad[i]?=aa a->(Z4 H a↔Z4 H' a)
def Ext.refl(a:Li Ad)(H:Hp):Ext a H a H:=⟨λ_ _ h=>h,λ_ _ h=>h,λ_ _ h=>h,λ_ _ h _=>h,λ_ h=>.inl h,λ_ _ _=>Iff.rfl⟩
theorem Ext.trans{d j g:Li Ad}{f l k:Hp}(x:Ext d f j l)(y:Ext j l g k):Ext d f g k:=by
 refine⟨λi a h=>y.pre i a (x.pre i a h),λb c h=>y.tup b c (x.tup b c h),λb c h=>y.dk b c (x.dk b c h),λb o h n=>?_,λb h=>?_,λi a h=>(x.kd i a h).trans (y.kd i a (x.pre i a h))⟩
 .refine y.keep b o (x.keep b o h n) λz=>?_
  rcases x.new b z with z|z
  .exact n z
  .rw[h]at z;cases z
 .rcases y.new b h with z|z
  .exact x.new b z
  .cases e:f b with
   |none=>exact .inr rfl
   |some o=>
    by_cases q:b∈d
    .exact .inl q
    .rw[x.keep b o e q]at z;cases z
variable{ad ad':Li Ad}{H':Hp}
def TupAt.mono{a:Ad}(x:Ext ad H ad' H')(h:TupAt K H a xs):TupAt K H' a xs:=h.imp (x.tup _ _) id
def TupAt.upd{K:Fg}{H:Hp}{a p:Ad}{b:Li V}{o d:HO}(c:H p=aa o)(e:∀ b,o≠.tup b)(h:TupAt K H a b):TupAt K (upd H p d) a b:=by
 rcases h with h|h
 .refine .inl ?_
  have n:a≠p:=λz=>by subst z;rw[h]at c;cases c;exact e _ rfl
  rw[upd_ne n];exact h
 .exact .inr h
variable{ks:Li Str}{vs ys:Li V}{d:D}{ds es:Li D}{i:Nat}{kvs kvs':Li (Li Key×V)}{st:Za}{p:Ad}{α:Type}{O:L2.St}{U:Env}
variable{K:Fg}{ad ad':Li Ad}{H H':Hp}
def Zh1(h:ks≠[])(a:ks.length=vs.length):(ks.zip vs).map (λp=>((Sum.inr p.1:Key),p.2))≠[]:=by
 cases ks with
 |nil=>exact ar rfl h
 |cons k ks=>cases vs with
  |nil=>cases a
  |cons v vs=>exact dJ _ _
structure Keeps(K:Fg)(ad ad':List Addr)(H H':Hp):Prop where
 t:∀ {a xs},TupAt K H a xs->TupAt K H' a xs
 l:∀ {i:Nat}{a:Addr},ad[i]?=aa a->ad'[i]?=aa a/\(Z4 H a↔Z4 H' a)
 k:∀ {a kvs},kvs≠[]->H a=aa (.dK kvs)->H' a=aa (.dK kvs)
 o:∀ {a C dx},H a=aa (.ins C dx [])->a∉ad->H' a=aa (.ins C dx [])/\a∉ad'
def Den.map(x:Keeps K ad ad' H H'){v:V}(h:Den K ad H v d):Den K ad' H' v d:=
 Den.rec (motive_1:=λv d _=>Den K ad' H' v d) (motive_2:=λvs ds _=>Dens K ad' H' vs ds) .non .bl .int .str (λh _ r=>.tup (x.t h) r) (λh=>.lst ⟨(x.l h.1).1,λz=>h.2 ((x.l h.1).2.mpr z)⟩) (λh n=>.dic (x.l h).1 ((x.l h).2.mp n)) (λh f c e _ r=>.dct (x.k (λz=>Zh1 c.2 e (f.symm.trans z)) h) f c e r) (λh n=>.obj (x.o h n).1 (x.o h n).2) .kt .nil (λ_ _ a b=>.cons a b) h
theorem Dens.map(x:Keeps K ad ad' H H')(h:Dens K ad H vs ds):Dens K ad' H' vs ds:=
 Dens.rec (motive_1:=λ_ _ _=>True) (motive_2:=λvs ds _=>Dens K ad' H' vs ds) trivial (λ_=>trivial) (λ_=>trivial) (λ_=>trivial) (λ_ _ _=>trivial) (λ_=>trivial) (λ_ _=>trivial) (λ_ _ _ _ _ _=>trivial) (λ_ _=>trivial) (λ_ _ _ _ _ _=>trivial) .nil (λa _ _ b=>.cons (a.map x) b) h
def Ext.keeps(x:Ext ad H ad' H'):Keeps K ad ad' H H':=⟨λh=>h.mono x,λh=>⟨x.pre _ _ h,x.kd _ _ h⟩,λ_ h=>x.dk _ _ h,λh n=>⟨x.keep _ _ h n,λz=>(x.new _ z).elim n λq=>by rw[h]at q;cases q⟩⟩
def Den.mono(x:Ext ad H ad' H'){v:V}(h:Den K ad H v d):Den K ad' H' v d:=h.map x.keeps
def Dens.mono(x:Ext ad H ad' H')(h:Dens K ad H vs ds):Dens K ad' H' vs ds:=h.map x.keeps
def Zg0(x:∀ (i:Nat) (a:Ad),ad[i]?=aa a->ad'[i]?=aa a)(y:∀ b,b∈ad'->b∈ad\/∃ c,H b=aa (.lst c)):Keeps K ad ad' H H:=⟨id,λh=>⟨x _ _ h,Iff.rfl⟩,λ_ h=>h,λh n=>⟨h,λz=>(y _ z).elim n λ⟨c,q⟩=>by rw[h]at q;cases q⟩⟩
theorem Dens.length:∀ {vs:Li V}{ds:Li D},Dens K ad H vs ds->vs.length=ds.length
 |_,_,.nil=>rfl
 |_,_,.cons _ r=>au (·+1) (Dens.length r)
theorem Dens.get:∀ {vs:Li V}{ds:Li D}{i:Nat}{d:D},Dens K ad H vs ds->ds[i]?=aa d->∃ v,vs[i]?=aa v/\Den K ad H v d
 |_,_,_,_,.nil,e=>by simp at e
 |_,_,0,_,.cons h _,e=>by simp at e;subst e;exact⟨_,rfl,h⟩
 |_,_,i+1,d,.cons _ r,e=>by
  obtain⟨v,b,a⟩:=Dens.get (i:=i) (d:=d) r (by simpa using e)
  exact⟨v,by simpa using b,a⟩
theorem Dens.append:∀ {vs ws:Li V}{ds es:Li D},Dens K ad H vs ds->Dens K ad H ws es->Dens K ad H (vs++ws) (ds++es)
 |_,_,_,_,.nil,s=>s
 |_,_,_,_,.cons h r,s=>.cons h (Dens.append r s)
theorem Dens.take:∀ {vs:Li V}{ds:Li D} (n:Nat),Dens K ad H vs ds->Dens K ad H (vs.take n) (ds.take n)
 |_,_,0,_=>.nil
 |_,_,_+1,.nil=>.nil
 |_,_,n+1,.cons h r=>.cons h (Dens.take n r)
theorem Dens.drop:∀ {vs:Li V}{ds:Li D} (n:Nat),Dens K ad H vs ds->Dens K ad H (vs.drop n) (ds.drop n)
 |_,_,0,r=>r
 |_,_,_+1,.nil=>.nil
 |_,_,n+1,.cons _ r=>Dens.drop n r
theorem Dens.set{v:V}(h:Den K ad H v d):∀ {vs:Li V}{ds:Li D} (n:Nat),Dens K ad H vs ds->Dens K ad H (vs.set n v) (ds.set n d)
 |_,_,_,.nil=>.nil
 |_,_,0,.cons _ r=>.cons h r
 |_,_,n+1,.cons q r=>.cons q (Dens.set h n r)
theorem Dens.rep{v:V}(h:Den K ad H v d):∀ n:Nat,Dens K ad H (af n v) (af n d)
 |0=>.nil
 |n+1=>.cons h (Dens.rep h n)
def Den.ofInt{v:V}{i:Int}(h:Den K ad H v (.int i)):v=.int i:=by cases h;rfl
def Den.ofStr{v:V}{x:Str}(h:Den K ad H v (.str x)):v=.str x:=by cases h;rfl
def Den.ofBl{v:V}{b:Bool}(h:Den K ad H v (.bl b)):v=.bl b:=by cases h;rfl
def Den.ofDct{v:V}(h:Den K ad H v (.dct ks ds)):∃ a vs,v=.ref a/\H a=aa (.dK ((ks.zip vs).map λp=>(Sum.inr p.1,p.2)))/\ks.length=vs.length/\Dens K ad H vs ds:=by
 cases h with
 |dct h c d b r=>subst c;exact⟨_,_,rfl,h,b,r⟩
def Den.ofTup{v:V}(h:Den K ad H v (.tup ds)):∃ a b,v=.ref a/\TupAt K H a b/\Dens K ad H b ds:=by
 cases h with
 |tup h r=>exact⟨_,_,rfl,h,r⟩
def Den.ofLst{v:V}(h:Den K ad H v (.lst i)):∃ a,v=.ref a/\LA ad H i a:=by
 cases h with
 |lst h=>exact⟨_,rfl,h⟩
def Den.ofDic{v:V}(h:Den K ad H v (.dic i)):∃ a,v=.ref a/\ad[i]?=aa a/\Z4 H a:=by
 cases h with
 |dic h n=>exact⟨_,rfl,h,n⟩
def Den.newL{a:Ad}(h:ad[i]?=aa a):Den K ad (upd H a (.lst xs)) (.ref a) (.lst i):=.lst ⟨h,WX upd_same rfl⟩
def LA.mono{a:Ad}(x:Ext ad H ad' H')(h:LA ad H i a):LA ad' H' i a:=⟨x.pre _ _ h.1,λz=>h.2 ((x.kd _ _ h.1).mpr z)⟩
def Den.ofKt{v:V}(h:Den K ad H v (.kt ks)):∃ a o b n,v=.ref a/\K.lookup a=aa o/\(o.cls=.type "tuple"/\o.dict=ab)/\o.data=.seq b n/\b.size<=aw/\Vals (ks.map V.str) b.toList:=by
 cases h with
 |kt l c g e z r=>exact⟨_,_,_,_,rfl,l,⟨c,g⟩,e,z,r⟩
theorem Up:∀ ks:Li Str,Dens K ad H (ks.map V.str) (ks.map D.str)
 |[]=>.nil
 |k :: ks=>.cons (.str k) (Up ks)
def Den.ofObj{v:V}(h:Den K ad H v (.obj i)):∃ a b,v=.ref a/\H a=aa (.ins (ClsTab.ca i) b []):=by
 cases h with
 |obj h n=>exact⟨_,_,rfl,h⟩
def KL(K:Fg)(a:Ad)(b:Li V):Prop:=
 ∃ (o:Obj) (its:Array vL) (n:Nat),(K.lookup a=aa o/\o.cls=.type "list")/\(o.dict=ab/\o.data=.seq its n)/\its.size<=aw/\Vals b its.toList
inductive Ents(K:Fg)(ad:List Addr)(H:Hp):List (List Key×V)->List D->Prop where
 |nil:Ents K ad H [] []
 |cons {i j:Int}{v:V}{d:D}{kvs:List (List Key×V)}{ds:List D} (h:Den K ad H v d) (r:Ents K ad H kvs ds):Ents K ad H (([.inl i,.inl j],v) :: kvs) (.tup [.int i,.int j,d] :: ds)
theorem Ents.map(x:Keeps K ad ad' H H')(h:Ents K ad H kvs ds):Ents K ad' H' kvs ds:=by
 induction h with
 |nil=>exact .nil
 |cons h _ a=>exact .cons (h.map x) a
def Ents.mono(x:Ext ad H ad' H')(h:Ents K ad H kvs ds):Ents K ad' H' kvs ds:=h.map x.keeps
inductive EntN(K:Fg)(ad:List Addr)(H:Hp):List (D×Addr×Addr)->List D->Prop where
 |nil:EntN K ad H [] []
 |cons {k:D}{ka la:Addr}{j:Nat}{xs:List (D×Addr×Addr)}{ds:List D} (h:Den K ad H (.ref ka) k) (ok:(okN 8 k&&VE k)=ac) (l:LA ad H j la) (r:EntN K ad H xs ds):EntN K ad H ((k,ka,la) :: xs) (.tup [k,.lst j] :: ds)
def Yq(a:Li (D×Ad×Ad)):bg->Li DictEntry:=λw=>a.map λx=>⟨Xe w 8 x.1,.ref x.2.1,.ref x.2.2⟩
def LA.map{a:Ad}(x:Keeps K ad ad' H H')(h:LA ad H i a):LA ad' H' i a:=⟨(x.l h.1).1,λz=>h.2 ((x.l h.1).2.mpr z)⟩
theorem EntN.map(x:Keeps K ad ad' H H'){a:Li (D×Ad×Ad)}(h:EntN K ad H a ds):EntN K ad' H' a ds:=by
 induction h with
 |nil=>exact .nil
 |cons h ok l _ b=>exact .cons (h.map x) ok (l.map x) b
def EntN.mono(x:Ext ad H ad' H'){a:Li (D×Ad×Ad)}(h:EntN K ad H a ds):EntN K ad' H' a ds:=h.map x.keeps
inductive CellOk(K:Fg)(ad:List Addr)(H:Hp)(a:Addr)(c:Xg):Prop where
 |l {xs:List V} (n:¬Z4 H a) (r:Dens K ad H xs c.2) (h:(c.1=ac/\H a=aa (.lst xs))\/(c.1=ae/\((∃ o,H a=aa (.frz o (.lst xs)))\/KL K a xs)))
 |d {kvs:List (List Key×V)} (r:Ents K ad H kvs c.2) (e:c.1=ac) (h:H a=aa (.dT kvs))
 |n {xs:List (D×Addr×Addr)}{es:List D} (z:c=(ac,.non :: es)) (r:EntN K ad H xs es) (h:H a=aa (.dN (Yq xs))) (nd:(xs.map (·.1)).Nodup)
structure StOk(K:Fg)(ad:List Addr)(H:Hp)(st:Za):Prop where
 len:ad.length=st.length
 nd:∀ (i j:Nat) (a:Addr) (c d:List D),ad[i]?=aa a->ad[j]?=aa a->st[i]?=aa (ac,c)->st[j]?=aa (ac,d)->i=j
 cell:∀ (i:Nat) (c:Xg),st[i]?=aa c->∃ a,ad[i]?=aa a/\CellOk K ad H a c
def CellOk.sq{a:Ad}{c:Xg}(h:CellOk K ad H a c)(n:¬Z4 H a):∃ f,Dens K ad H f c.2/\SqL K H a f:=by
 cases h with
 |l _ r h=>
  obtain⟨_,e⟩|⟨_,⟨o,e⟩|⟨o,b,n,⟨p,m⟩,⟨k,j⟩,i,g⟩⟩:=h
  .exact⟨_,r,.inl (.inl e)⟩
  .exact⟨_,r,.inl (.inr ⟨o,e⟩)⟩
  .exact⟨_,r,.inr ⟨o,b,n,p,m,k,j,i,g⟩⟩
 |d r e h=>exact ar ⟨_,h,rfl⟩ n
 |n z r h q=>exact ar ⟨_,h,rfl⟩ n
def StOk.list{a:Ad}{b:Bool}(S:StOk K ad H st)(h:LA ad H i a)(e:st[i]?=aa (b,ds)):∃ d,Dens K ad H d ds/\SqL K H a d:=by
 obtain⟨g,f,c⟩:=S.cell i _ e;rw[h.1]at f;cases f
 exact c.sq h.2
def StOk.listM{a:Ad}(S:StOk K ad H st)(h:LA ad H i a)(e:st[i]?=aa (ac,ds)):∃ b,Dens K ad H b ds/\H a=aa (.lst b):=by
 obtain⟨j,f,c⟩:=S.cell i _ e;rw[h.1]at f;cases f
 cases c with
 |l _ r q=>
  obtain⟨_,q⟩|⟨q,_⟩:=q
  .exact⟨_,r,q⟩
  .cases q
 |d r _ q=>exact ar ⟨_,q,rfl⟩ h.2
 |n z r q g=>exact ar ⟨_,q,rfl⟩ h.2
def Zb3:∀ {kvs:Li (Li Key×V)}{ds:Li D},Ents K ad H kvs ds->okH ds=ac
 |_,_,.nil=>rfl
 |_,_,.cons _ _=>rfl
def StOk.dict{a:Ad}{b:Bool}(S:StOk K ad H st)(h:ad[i]?=aa a)(n:Z4 H a)(e:st[i]?=aa (b,ds))(ok:okH ds=ac):∃ kvs,Ents K ad H kvs ds/\H a=aa (.dT kvs)/\b=ac:=by
 obtain⟨j,f,c⟩:=S.cell i _ e;rw[h]at f;cases f
 cases c with
 |l z=>exact ar n z
 |d r e q=>exact⟨_,r,q,e⟩
 |n z r q g=>cases z;cases ok
def StOk.dicN{a:Ad}{b:Bool}(S:StOk K ad H st)(h:ad[i]?=aa a)(n:Z4 H a)(e:st[i]?=aa (b,.non :: es)):∃ f,(EntN K ad H f es/\(f.map (·.1)).Nodup)/\H a=aa (.dN (Yq f))/\b=ac:=by
 obtain⟨k,g,c⟩:=S.cell i _ e;rw[h]at g;cases g
 cases c with
 |l z=>exact ar n z
 |d r e q=>exact nomatch (Zb3 r)
 |n z r q j=>cases z;exact⟨_,⟨r,j⟩,q,rfl⟩
def VW{a:Ad}(b:¬Z4 H p)(c:Jl o=ae):Z4 H a↔Z4 (upd H p o) a:=by
 by_cases z:a=p
 .subst z
  exact⟨λq=>ar q b,λq=>ar q (WX upd_same c)⟩
 .unfold Z4
  rw[upd_ne z]
def Zar(a:H p=ab):¬Z4 H p:=λ⟨_,z,_⟩=>by rw[a]at z;cases z
def Ext.laid(a:H p=ab)(d:Jl o=ae:=by rfl):Ext ad H ad (upd H p o):=
 ⟨λ_ _ h=>h,λb c h=>by rw[upd_ne (ne_of_none h a)];exact h,λb c h=>by rw[upd_ne (ne_of_none h a)];exact h,λb o h _=>by rw[upd_ne (ne_of_none h a)];exact h,λ_ h=>.inl h,λ_ _ _=>VW (Zar a) d⟩
def CellOk.laid{a:Ad}{c:Xg}(j:ad[i]?=aa a)(f:H p=ab)(x:Ext ad H ad' (upd H p o))(h:CellOk K ad H a c):CellOk K ad' (upd H p o) a c:=by
 cases h with
 |l n r h=>
  refine .l (λz=>n ((x.kd i a j).mpr z)) (r.mono x) ?_
  rcases h with⟨b,e⟩|⟨b,⟨o,e⟩|e⟩
  .exact .inl ⟨b,by rw[upd_ne (ne_of_none e f)];exact e⟩
  .exact .inr ⟨b,.inl ⟨o,by rw[upd_ne (ne_of_none e f)];exact e⟩⟩
  .exact .inr ⟨b,.inr e⟩
 |d r e h=>exact .d (r.mono x) e (by rw[upd_ne (ne_of_none h f)];exact h)
 |n z r h g=>exact .n z (r.mono x) (by rw[upd_ne (ne_of_none h f)];exact h) g
theorem StOk.laid(S:StOk K ad H st)(b:H p=ab)(d:Jl o=ae:=by rfl):StOk K ad (upd H p o) st:=
 ⟨S.len,S.nd,λi c e=>let ⟨a,h,q⟩:=S.cell i c e;⟨a,h,q.laid h b (Ext.laid b d)⟩⟩
def Wh{l:Li α}{x y:α}(h:(l++[x])[i]?=aa y):l[i]?=aa y\/(i=l.length/\y=x):=by
 by_cases a:i < l.length
 .rw[bS a]at h
  exact .inl h
 .rw[cB (by omega)]at h
  have:i - l.length=0:=by
   cases e:i - l.length with
   |zero=>rfl
   |succ k=>rw[e]at h;simp at h
  rw[this]at h;simp at h;exact .inr ⟨by omega,h.symm⟩
def YE{l:Li α}{x y:α}(h:l[i]?=aa y):(l++[x])[i]?=aa y:=by
 rw[bS (bP.mp h).1];exact h
def Zo{l:Li α}{x:α}:(l++[x])[l.length]?=aa x:=by simp
def Ext.pushG(c:H p=ab)(e:∀ (i:Nat) (a:Ad),ad[i]?=aa a->(Z4 H a↔Z4 (upd H p o) a)):Ext ad H (ad++[p]) (upd H p o):=
 ⟨λ_ _ h=>YE h,λb d h=>by rw[upd_ne (ne_of_none h c)];exact h,λb d h=>by rw[upd_ne (ne_of_none h c)];exact h,λb o h _=>by rw[upd_ne (ne_of_none h c)];exact h,λb h=>(bC.mp h).elim .inl λz=>.inr (by rw[aM.mp z];exact c),e⟩
def Ext.push(a:H p=ab):Ext ad H (ad++[p]) (upd H p (.lst xs)):=Ext.pushG a λ_ _ _=>VW (Zar a) rfl
def StOk.more(S:StOk K ad H st)(o:∀ (i:Nat) (c:Li D),ad[i]?=aa p->st[i]?=aa (ac,c)->False)(u:∀ (i:Nat) (c:Xg) (a:Ad),ad[i]?=aa a->CellOk K ad H a c->CellOk K (ad++[p]) H' a c)(t:CellOk K (ad++[p]) H' p (ac,ds)):StOk K (ad++[p]) H' (st++[(ac,ds)]):=by
 have b:∀ (i:Nat) (c:Li D) (a:Ad),(ad++[p])[i]?=aa a->st[i]?=aa (ac,c)->ad[i]?=aa a:=λi c a h e=>by
  obtain⟨z,k,_⟩:=S.cell i _ e;have n:=YE (x:=p) k;rw[h]at n;cases n;exact k
 refine⟨by rw[aI,aI,S.len];rfl,λi j a c d m l g f=>?_,λi c e=>?_⟩
 .rcases Wh g with g|⟨v,_⟩
  .rcases Wh f with f|⟨r,_⟩
   .exact S.nd i j a c d (b i c a m g) (b j d a l f) g f
   .have k:=b i c a m g
    rw[r,<-S.len,Zo]at l;cases l;exact(o i c k g).elim
  .rcases Wh f with f|⟨r,_⟩
   .have s:=b j d a l f
    rw[v,<-S.len,Zo]at m;cases m;exact(o j d s f).elim
   .omega
 .rcases Wh e with e|⟨y,w⟩
  .obtain⟨a,h,q⟩:=S.cell i c e
   exact⟨a,YE h,u i c a h q⟩
  .subst w
   exact⟨p,by rw[y,<-S.len];exact Zo,t⟩
def StOk.noNew(S:StOk K ad H st)(a:H p=ab)(i:Nat)(c:Li D)(h:ad[i]?=aa p)(e:st[i]?=aa (ac,c)):False:=by
 obtain⟨f,b,q⟩:=S.cell i _ e;rw[h]at b;cases b
 cases q with
 |l _ _ q=>
  obtain⟨_,q⟩|⟨q,_⟩:=q
  .rw[a]at q;cases q
  .cases q
 |d _ _ q=>rw[a]at q;cases q
 |n _ _ q=>rw[a]at q;cases q
theorem StOk.push(S:StOk K ad H st)(a:H p=ab)(r:Dens K ad H xs ds):StOk K (ad++[p]) (upd H p (.lst xs)) (st++[(ac,ds)]):=
 S.more (S.noNew a) (λ_ _ _ h q=>q.laid h a (Ext.push a)) (.l (WX upd_same rfl) (r.mono (Ext.push a)) (.inl ⟨rfl,upd_same⟩))
def StOk.wrG(S:StOk K ad H st)(g:Keeps K ad ad H (upd H p o))(k:p∉ad):StOk K ad (upd H p o) st:=
 ⟨S.len,S.nd,λi c e=>by
  obtain⟨a,h,q⟩:=S.cell i c e;have f:a≠p:=λz=>k (by rw[<-z];exact aT h)
  refine⟨a,h,?_⟩;cases q with
  |l n r q=>
   refine .l (λz=>n ((g.l h).2.mpr z)) (r.map g) ?_
   rcases q with⟨b,q⟩|⟨b,⟨o,q⟩|q⟩
   .exact .inl ⟨b,by rw[upd_ne f];exact q⟩
   .exact .inr ⟨b,.inl ⟨o,by rw[upd_ne f];exact q⟩⟩
   .exact .inr ⟨b,.inr q⟩
  |d r t q=>exact .d (r.map g) t (by rw[upd_ne f];exact q)
  |n z r q j=>exact .n z (r.map g) (by rw[upd_ne f];exact q) j⟩
def StOk.has{a:Ad}(S:StOk K ad H st)(b:ad[i]?=aa a):(∃ o,H a=aa o)\/∃ o,K.lookup a=aa o:=by
 obtain⟨h,c,q⟩:=S.cell i _ (Lg (show i < st.length by rw[<-S.len];exact(bP.mp b).1))
 rw[b]at c;cases c
 cases q with
 |l _ _ q=>
  obtain⟨_,q⟩|⟨_,⟨o,q⟩|⟨o,e,m,⟨f,g⟩,_⟩⟩:=q
  .exact .inl ⟨_,q⟩
  .exact .inl ⟨_,q⟩
  .exact .inr ⟨_,f⟩
 |d _ _ q=>exact .inl ⟨_,q⟩
 |n _ _ q=>exact .inl ⟨_,q⟩
def StOk.extD{o:HO}(S:StOk K ad H st)(b:H p=ab)(c:∀ o,K.lookup p≠aa o):Ext ad H (ad++[p]) (upd H p o):=
 Ext.pushG b λi a h=>by
  have n:a≠p:=λz=>(S.has h).elim (λ⟨o,q⟩=>by rw[z,b]at q;cases q) λ⟨o,q⟩=>c o (z ▸ q)
  unfold Z4;rw[upd_ne n]
def StOk.pushD(S:StOk K ad H st)(a:H p=ab)(b:∀ o,K.lookup p≠aa o):StOk K (ad++[p]) (upd H p (.dT [])) (st++[(ac,[])]):=
 S.more (S.noNew a) (λ_ _ _ h q=>q.laid h a (S.extD a b)) (.d .nil rfl upd_same)
def StOk.pushN(S:StOk K ad H st)(a:H p=ab)(b:∀ o,K.lookup p≠aa o):StOk K (ad++[p]) (upd H p (.dN (Yq []))) (st++[(ac,[.non])]):=
 S.more (S.noNew a) (λ_ _ _ h q=>q.laid h a (S.extD a b)) (.n rfl .nil upd_same dG)
def StOk.adopt(S:StOk K ad H st)(c:H p=aa (.lst xs))(g:p∉ad)(r:Dens K ad H xs ds):StOk K (ad++[p]) H (st++[(ac,ds)]):=by
 have a:Keeps K ad (ad++[p]) H H:=Zg0 (λ_ _ h=>YE h) (λb j=>(bC.mp j).imp id λz=>⟨xs,by rw[aM.mp z];exact c⟩)
 exact S.more (λi _ h _=>g (aT h)) (λ_ _ _ _ q=>by
  cases q with
  |l n r h=>exact .l n (r.map a) h
  |d r e h=>exact .d (r.map a) e h
  |n z r h f=>exact .n z (r.map a) h f) (.l (WX c rfl) (r.map a) (.inl ⟨rfl,c⟩))
def Ext.writeG{a:Ad}{d:HO}(h:H a=aa o)(i:a∈ad)(k:∀ c,o≠.tup c)(j:∀ c,o≠.dK c)(g:Z4 H a↔Z4 (upd H a d) a):Ext ad H ad (upd H a d):=
 ⟨λ_ _ h=>h,λb f e=>by rw[upd_ne (ne_of e h (λz=>k _ z.symm))];exact e,λb f e=>by rw[upd_ne (ne_of e h (λz=>j _ z.symm))];exact e,λb o e n=>by rw[upd_ne (show b≠a from λz=>n (by rw[z];exact i))];exact e,λ_ h=>.inl h,λ_ b _=>by
  by_cases z:b=a
  .rw[z];exact g
  .unfold Z4;rw[upd_ne z]⟩
def Ext.write{a:Ad}(h:H a=aa (.lst xs))(b:a∈ad):Ext ad H ad (upd H a (.lst ys)):=
 Ext.writeG h b (λ_ z=>nomatch z) (λ_ z=>nomatch z) ⟨λz=>ar z (WX h rfl),λz=>ar z (WX upd_same rfl)⟩
def StOk.writeG{a:Ad}{g:HO}(S:StOk K ad H st)(h:ad[i]?=aa a)(e:st[i]?=aa (ac,ds))(B:H a=aa o)(E:∀ q u,o≠.frz q u)(x:Ext ad H ad (upd H a g))(r:CellOk K ad (upd H a g) a (ac,es)) :
  StOk K ad (upd H a g) (st.set i (ac,es)):=by
 have C:i < st.length:=(bP.mp e).1;refine⟨by rw[aY];exact S.len,λj k b c d G F v s=>?_,λj c q=>?_⟩
 .have up:∀ (j:Nat) (c:Li D),(st.set i (ac,es))[j]?=aa (ac,c)->∃ y,st[j]?=aa (ac,y):=λj c q=>by
   by_cases z:i=j
   .subst z;exact⟨_,e⟩
   .rw[bJ z]at q;exact⟨_,q⟩
  obtain⟨y,v⟩:=up j c v;obtain⟨I,s⟩:=up k d s;exact S.nd j k b y I G F v s
 .by_cases z:i=j
  .subst z
   rw[bR C]at q;cases q;exact⟨a,h,r⟩
  .rw[bJ z]at q
   obtain⟨b,p,hz⟩:=S.cell j c q;refine⟨b,p,?_⟩;have m:c.1=ac->b≠a:=λt w=>by
    obtain⟨L,J⟩:=c;cases (show L=ac from t)
    exact z (S.nd i j a ds J h (w ▸ p) e q)
   cases hz with
   |l n f hz=>
    refine .l (λz=>n ((x.kd j b p).mpr z)) (f.mono x) ?_
    rcases hz with⟨t,hz⟩|⟨t,⟨o,hz⟩|hz⟩
    .exact .inl ⟨t,by rw[upd_ne (m t)];exact hz⟩
    .exact .inr ⟨t,.inl ⟨o,by rw[upd_ne (ne_of hz B (λz=>E _ _ z.symm))];exact hz⟩⟩
    .exact .inr ⟨t,.inr hz⟩
   |d f t hz=>exact .d (f.mono x) t (by rw[upd_ne (m t)];exact hz)
   |n z f hz A=>exact .n z (f.mono x) (by rw[upd_ne (m (by rw[z]))];exact hz) A
theorem StOk.write{a:Ad}(S:StOk K ad H st)(h:LA ad H i a)(e:st[i]?=aa (ac,ds))(b:H a=aa (.lst xs))(r:Dens K ad H ys es) :
  StOk K ad (upd H a (.lst ys)) (st.set i (ac,es)):=
 S.writeG h.1 e b (λ_ _ z=>nomatch z) (Ext.write b (aT h.1)) (.l (WX upd_same rfl) (r.mono (Ext.write b (aT h.1))) (.inl ⟨rfl,upd_same⟩))
def Ext.writeD{a:Ad}(h:H a=aa (.dT kvs))(b:a∈ad):Ext ad H ad (upd H a (.dT kvs')):=
 Ext.writeG h b (λ_ z=>nomatch z) (λ_ z=>nomatch z) ⟨λ_=>⟨_,upd_same,rfl⟩,λ_=>⟨_,h,rfl⟩⟩
theorem StOk.writeD{a:Ad}(S:StOk K ad H st)(h:ad[i]?=aa a)(e:st[i]?=aa (ac,ds))(b:H a=aa (.dT kvs))(r:Ents K ad H kvs' es) :
  StOk K ad (upd H a (.dT kvs')) (st.set i (ac,es)):=
 S.writeG h e b (λ_ _ z=>nomatch z) (Ext.writeD b (aT h)) (.d (r.mono (Ext.writeD b (aT h))) rfl upd_same)
def Ext.writeN{a:Ad}{f f':bg->Li DictEntry}(h:H a=aa (.dN f))(b:a∈ad):Ext ad H ad (upd H a (.dN f')):=
 Ext.writeG h b (λ_ z=>nomatch z) (λ_ z=>nomatch z) ⟨λ_=>⟨_,upd_same,rfl⟩,λ_=>⟨_,h,rfl⟩⟩
theorem StOk.writeN{a:Ad}{c ys:Li (D×Ad×Ad)}(S:StOk K ad H st)(h:ad[i]?=aa a)(e:st[i]?=aa (ac,ds))(b:H a=aa (.dN (Yq c)))(r:EntN K ad H ys es)(n:(ys.map (·.1)).Nodup) :
  StOk K ad (upd H a (.dN (Yq ys))) (st.set i (ac,.non :: es)):=
 S.writeG h e b (λ_ _ z=>nomatch z) (Ext.writeN b (aT h)) (.n rfl (r.mono (Ext.writeN b (aT h))) upd_same n)
structure EnvOk(K:Fg)(ad:List Addr)(H:Hp)(O:L2.St)(U:Env):Prop where
 len:O.length=U.length
 at_:∀ (i:Nat) (d:D),U[i]?=aa (aa d)->∃ v,O[i]?=aa (aa v)/\Den K ad H v d
theorem EnvOk.mono(x:Ext ad H ad' H')(h:EnvOk K ad H O U):EnvOk K ad' H' O U:=⟨h.len,λi d e=>let ⟨v,e1,e2⟩:=h.at_ i d e;⟨v,e1,e2.mono x⟩⟩
theorem EnvOk.set{v:V}(h:EnvOk K ad H O U)(i:Nat)(r:Den K ad H v d):EnvOk K ad H (O.set i (aa v)) (Zf U i d):=by
 refine⟨by unfold Zf;rw[aY,aY];exact h.len,λj e q=>?_⟩
 unfold Zf at q;by_cases z:i=j
 .subst z
  by_cases a:i < U.length
  .rw[bR a]at q
   cases q;exact⟨v,by rw[bR (by rw[h.len];exact a)],r⟩
  .rw[eI (by rw[aY];omega)]at q
   cases q
 .rw[bJ z]at q
  obtain⟨w,c,b⟩:=h.at_ j e q;exact⟨w,by rw[bJ z];exact c,b⟩
def Post(K:Fg)(ad:Li Ad)(H:Hp)(d:D)(a:Za)(Q:VK):Prop:=∀ v ad' H',Ext ad H ad' H'->StOk K ad' H' a->Den K ad' H' v d->Q v H'
def tE(K:Fg)(f:Env->Za->Res):TE:=λO H Q=>∃ ad U st d a,EnvOk K ad H O U/\StOk K ad H st/\f U st=aa (d,a)/\Post K ad H d a Q
def tT(K:Fg)(f:Env->Za->Res):TT:=λO H Q=>∃ ad U st k a,EnvOk K ad H O U/\StOk K ad H st/\f U st=aa (.bl k,a)/\∀ ad' H',Ext ad H ad' H'->StOk K ad' H' a->Q k H'
def tA(K:Fg)(f:Env->Za->Res):TA:=λO H Q=>∃ ad U st ds a,EnvOk K ad H O U/\StOk K ad H st/\f U st=aa (.tup ds,a)/\∀ vs ad' H',Ext ad H ad' H'->StOk K ad' H' a->Dens K ad' H' vs ds->Q vs H'
def rD(K:Fg)(f:D->D->Za->Res):R2:=λx y H Q=>∃ ad st c b d a,StOk K ad H st/\Den K ad H x c/\Den K ad H y b/\f c b st=aa (d,a)/\Post K ad H d a Q
noncomputable def spD(K:Fg)(g:Fn):Sp:=λvs H Q _=>∃ ad ds st d a,StOk K ad H st/\Dens K ad H vs ds/\g ds st=aa (d,a)/\Post K ad H d a Q
def tS(K:Fg)(f:Env->Za->Ot (Fl×Za)):TS:=λD O H=>∃ ad U st r a,EnvOk K ad H O U/\StOk K ad H st/\f U st=aa (r,a) /\
 match r with
 |.nx U'=>∀ b ad' H',Ext ad H ad' H'->StOk K ad' H' a->EnvOk K ad' H' b U'->D.nx b H'
 |.bk U'=>∀ b ad' H',Ext ad H ad' H'->StOk K ad' H' a->EnvOk K ad' H' b U'->D.bk b H'
 |.ct U'=>∀ b ad' H',Ext ad H ad' H'->StOk K ad' H' a->EnvOk K ad' H' b U'->D.ct b H'
 |.rt d=>Post K ad H d a D.rt
def Post.at{Q:VK}(p:Post K ad H d st Q)(S:StOk K ad H st){v:V}(h:Den K ad H v d):Q v H:=p v ad H (Ext.refl _ _) S h
def Post.later{Q:VK}(p:Post K ad H d st Q)(x:Ext ad H ad' H'):Post K ad' H' d st Q:=λv a b y S h=>p v a b (x.trans y) S h
variable [ClsTab]
variable{x:D}{st':Za}
variable{X:Cx}
section
variable{a b c:ax}{fa fb fc:Ev}{pos:Pos}
def Zey(O:L2.St)(H:Hp)(Q:VK)(h:tE K (Yh i) O H Q):tVar i O H Q:=by
 obtain⟨ad,U,st,d,st',E,S,e,p⟩:=h;unfold Yh at e;split at e
 .rename_i q
  obtain⟨v,b,a⟩:=E.at_ i _ q;cases e;exact⟨v,b,p.at S a⟩
 .exact Zb e
def Qr{v:V}(hd:∀ ad H,Den K ad H v d)(O:L2.St)(H:Hp)(Q:VK)(h:tE K (evC d) O H Q):tC v O H Q:=by
 obtain⟨ad,U,st,a,st',E,S,e,p⟩:=h;cases e;exact p.at S (hd _ _)
def UM{g:D->D->Za->Res}(O:L2.St)(H:Hp)(Q:VK)(h:tE K (ZT fa fb g) O H Q):tOp (rD K g) (tE K fa) (tE K fb) O H Q:=by
 obtain⟨ad,U,st,d,st',E,S,e,p⟩:=h;unfold ZT at e;split at e
 .rename_i x b l
  split at e
  .rename_i y a k
   refine⟨ad,U,st,x,b,E,S,l,λs f u j q n=>⟨f,U,b,y,a,E.mono j,q,k,λr c t i o m=>?_⟩⟩
   exact⟨c,a,x,y,d,st',o,n.mono i,m,e,p.later (j.trans i)⟩
  .exact Zb e
 .exact Zb e
def rU1(K:Fg)(g:D->Za->Res):V->Hp->VK->Prop:=λx H Q=>∃ ad st a d st',StOk K ad H st/\Den K ad H x a/\g a st=aa (d,st')/\Post K ad H d st' Q
def Zcx{g:D->Za->Res}(O:L2.St)(H:Hp)(Q:VK)(h:tE K (Zr fa g) O H Q):tUn (rU1 K g) (tE K fa) O H Q:=by
 obtain⟨ad,U,st,d,st',E,S,e,p⟩:=h;unfold Zr at e;split at e
 .rename_i x a f
  exact⟨ad,U,st,x,a,E,S,f,λk b l c j i=>⟨b,a,x,d,st',j,i,e,p.later c⟩⟩
 .exact Zb e
def Zcw(O:L2.St)(H:Hp)(Q:Bool->Hp->Prop)(h:tT K fa O H Q):tE K fa O H λx d=>∃ c,x=.bl c/\Q c d:=by
 obtain⟨ad,U,st,k,st',E,S,e,p⟩:=h;exact⟨ad,U,st,.bl k,st',E,S,e,λv ad' H' x b a=>⟨k,a.ofBl,p ad' H' x b⟩⟩
def Yc{b c:Ev}{r:D×Za}(h:Xt fc b c U st=aa r):∃ k a,fc U st=aa (.bl k,a)/\(if k=ac then b U a else c U a)=aa r:=by
 unfold Xt at h;split at h
 .rename_i a q
  exact⟨ac,a,q,by rw[ao rfl];exact h⟩
 .rename_i a q
  exact⟨ae,a,q,by rw[aq Bf];exact h⟩
 .exact Zb h
def ZgS(O:L2.St)(H:Hp)(Q:VK)(h:tE K (Xt fc fa fb) O H Q):tIf (tT K fc) (tE K fa) (tE K fb) O H Q:=by
 obtain⟨ad,U,st,d,st',E,S,e,p⟩:=h;obtain⟨k,a,q,e⟩:=Yc e;refine⟨ad,U,st,k,a,E,S,q,λb g c f=>?_⟩
 cases k with
 |true=>
  rw[ao rfl]at e ⊢;exact⟨b,U,a,d,st',E.mono c,f,e,p.later c⟩
 |false=>
  rw[aq Bf]at e ⊢;exact⟨b,U,a,d,st',E.mono c,f,e,p.later c⟩
def Zcf(O:L2.St)(H:Hp)(Q:VK)(h:tE K (Xt fa fb (evC (.bl ae))) O H Q):tAndV (tE K fa) (tE K fb) O H Q:=by
 obtain⟨ad,U,st,d,st',E,S,e,p⟩:=h;obtain⟨k,a,q,e⟩:=Yc e;refine⟨ad,U,st,.bl k,a,E,S,q,λi c j b f g=>⟨k,g.ofBl,?_⟩⟩
 cases k with
 |true=>
  rw[ao rfl]at e ⊢;exact⟨c,U,a,d,st',E.mono b,f,e,p.later b⟩
 |false=>
  rw[aq Bf]at e ⊢;cases e;exact(p.later b).at f (.bl ae)
def Zer(O:L2.St)(H:Hp)(Q:VK)(h:tE K (Xt fa (evC (.bl ac)) fb) O H Q):tOrV (tE K fa) (tE K fb) O H Q:=by
 obtain⟨ad,U,st,d,st',E,S,e,p⟩:=h;obtain⟨k,a,q,e⟩:=Yc e;refine⟨ad,U,st,.bl k,a,E,S,q,λi c j b f g=>⟨k,g.ofBl,?_⟩⟩
 cases k with
 |true=>
  rw[ao rfl]at e ⊢;cases e;exact(p.later b).at f (.bl ac)
 |false=>
  rw[aq Bf]at e ⊢;exact⟨c,U,a,d,st',E.mono b,f,e,p.later b⟩
def Zce(O:L2.St)(H:Hp)(Q:Bool->Hp->Prop)(h:tT K (Xt fa fb (evC (.bl ae))) O H Q):tAnd (tT K fa) (tT K fb) O H Q:=by
 obtain⟨ad,U,st,d,st',E,S,e,p⟩:=h;obtain⟨k,a,q,e⟩:=Yc e;refine⟨ad,U,st,k,a,E,S,q,λb m c g=>?_⟩
 cases k with
 |true=>
  rw[ao rfl]at e ⊢;exact⟨b,U,a,d,st',E.mono c,g,e,λf l i j=>p f l (c.trans i) j⟩
 |false=>
  rw[aq Bf]at e ⊢;cases e;exact p b m c g
def Zeq(O:L2.St)(H:Hp)(Q:Bool->Hp->Prop)(h:tT K (Xt fa (evC (.bl ac)) fb) O H Q):tOr (tT K fa) (tT K fb) O H Q:=by
 obtain⟨ad,U,st,d,st',E,S,e,p⟩:=h;obtain⟨k,a,q,e⟩:=Yc e;refine⟨ad,U,st,k,a,E,S,q,λb m c g=>?_⟩
 cases k with
 |true=>
  rw[ao rfl]at e ⊢;cases e;exact p b m c g
 |false=>
  rw[aq Bf]at e ⊢;exact⟨b,U,a,d,st',E.mono c,g,e,λf l i j=>p f l (c.trans i) j⟩
def Zcs(O:L2.St)(H:Hp)(Q:Bool->Hp->Prop)(h:tT K (Zr fa ZcZ) O H Q):tNot (tT K fa) O H Q:=by
 obtain⟨ad,U,st,d,st',E,S,e,p⟩:=h;unfold Zr at e;split at e
 .rename_i x a f
  cases x with
  |bl k=>
   cases (show aa (D.bl (!k),a)=_ from e)
   exact⟨ad,U,st,k,_,E,S,f,λb i c g=>p b i c g⟩
  |_=>simp[ZcZ]at e
 .exact Zb e
def Zct(O:L2.St)(H:Hp)(Q:VK)(h:tE K (Zr fa ZcZ) O H Q):tNotV (tE K fa) O H Q:=by
 obtain⟨ad,U,st,d,st',E,S,e,p⟩:=h;unfold Zr at e;split at e
 .rename_i x a c
  cases x with
  |bl k=>
   cases (show aa (D.bl (!k),a)=_ from e)
   exact⟨ad,U,st,.bl k,_,E,S,c,λj g l b i f=>⟨k,f.ofBl,(p.later b).at i (.bl _)⟩⟩
  |_=>simp[ZcZ]at e
 .exact Zb e
def VB(O:L2.St)(H:Hp)(Q:Li V->Hp->Prop)(h:tA K (evC (.tup [])) O H Q):tNil O H Q:=by
 obtain⟨ad,U,st,d,st',E,S,e,p⟩:=h;cases e;exact p [] ad H (Ext.refl _ _) S .nil
def Ue(O:L2.St)(H:Hp)(Q:Li V->Hp->Prop)(h:tA K (ZT fa fb V8) O H Q):tCons (tE K fa) (tA K fb) O H Q:=by
 obtain⟨ad,U,st,d,st',E,S,e,p⟩:=h;unfold ZT at e;split at e
 .rename_i x a l
  split at e
  .rename_i y c k
   cases y with
   |tup b=>
    have e:(if b.length < 1000 then aa (D.tup (x :: b),c) else ab)=aa (D.tup d,st'):=e
    split at e
    .cases e
     refine⟨ad,U,st,_,a,E,S,l,λt g u j q n=>⟨g,U,a,b,_,E.mono j,q,k,λs f r i o m=>?_⟩⟩
     exact p _ f r (j.trans i) o (.cons (n.mono i) m)
    .cases e
   |_=>simp[V8]at e
  .cases e
 .cases e
def Zex(i:∀ U st ds st',fa U st=aa (.tup ds,st')->ds.length<=1000)(g:∀ U st d st',fa U st=aa (d,st')->∃ ds,d=.tup ds)(O:L2.St)(H:Hp)(Q:VK)(h:tE K fa O H Q):tTup (tA K fa) O H Q:=by
 obtain⟨ad,U,st,d,st',E,S,e,p⟩:=h;obtain⟨ds,rfl⟩:=g _ _ _ _ e;refine⟨ad,U,st,ds,st',E,S,e,λvs b k f j c=>⟨?_,λq a=>?_⟩⟩
 .rw[c.length]
  exact aR (i _ _ _ _ e) (by decide)
 .exact p _ b _ (f.trans (Ext.laid a)) (j.laid a) (.tup (.inl upd_same) (c.mono (Ext.laid a)))
def Zeo(k:∀ U st ds st',fa U st=aa (.tup ds,st')->ds.length<=1000)(O:L2.St)(H:Hp)(Q:VK)(h:tE K (Zr fa ZeG) O H Q):tLst (tA K fa) O H Q:=by
 obtain⟨ad,U,st,d,st',E,S,e,p⟩:=h;unfold Zr at e;split at e
 .rename_i x a c
  cases x with
  |tup ds=>
   cases (show aa (D.lst a.length,a++[(ac,ds)])=_ from e)
   refine⟨ad,U,st,ds,_,E,S,c,λvs b l j i g=>⟨?_,λq f=>?_⟩⟩
   .rw[g.length]
    exact aR (k _ _ _ _ c) (by decide)
   .refine p _ (b++[q]) _ (j.trans (Ext.push f)) (i.push f g) (.newL ?_)
    rw[<-i.len];exact Zo
  |_=>simp[ZeG]at e
 .exact Zb e
def Qs{g:Fn}{a:Li V}{E:XK}(hd:∀ ad H,Dens K ad H a ds)(O:L2.St)(H:Hp)(Q:VK)(h:tE K (Zr fa (Qg g ds)) O H Q):tCall (spD K g) a E (tA K fa) O H Q:=by
 obtain⟨ad,U,st,d,st',E,S,e,p⟩:=h;unfold Zr at e;split at e
 .rename_i x i j
  cases x with
  |tup c=>exact⟨ad,U,st,c,_,E,S,j,λvs b m f l k=>⟨b,c++ds,_,d,st',l,k.append (hd _ _),e,p.later f⟩⟩
  |_=>simp[Qg]at e
 .exact Zb e
def rC(K:Fg)(g:Li D->Za->Res):Li V->Hp->VK->Prop:=λvs H Q=>∃ ad st ds d st',StOk K ad H st/\Dens K ad H vs ds/\g ds st=aa (d,st')/\Post K ad H d st' Q
noncomputable def on1(g:D->Za->Res):Li D->Za->Res
 |[x],st=>g x st
 |_,_=>ab
noncomputable def on2(g:D->D->Za->Res):Li D->Za->Res
 |[x,y],st=>g x y st
 |_,_=>ab
def Xy{g:D->Za->Res}(O:L2.St)(H:Hp)(Q:VK)(h:tE K (Zr fa g) O H Q):tCB (rC K (on1 g)) (tCons (tE K fa) tNil) O H Q:=by
 obtain⟨ad,U,st,d,st',E,S,e,p⟩:=h;unfold Zr at e;split at e
 .rename_i x a f
  exact⟨ad,U,st,x,a,E,S,f,λk b l c j i=>⟨b,a,[x],d,st',j,.cons i .nil,e,p.later c⟩⟩
 .exact Zb e
def Qq{g:D->D->Za->Res}(O:L2.St)(H:Hp)(Q:VK)(h:tE K (ZT fa fb g) O H Q):tCB (rC K (on2 g)) (tCons (tE K fa) (tCons (tE K fb) tNil)) O H Q:=by
 obtain⟨ad,U,st,d,st',E,S,e,p⟩:=h;unfold ZT at e;split at e
 .rename_i x b l
  split at e
  .rename_i y a k
   refine⟨ad,U,st,x,b,E,S,l,λs f u j q n=>⟨f,U,b,y,a,E.mono j,q,k,λr c t i o m=>?_⟩⟩
   exact⟨c,a,[x,y],d,st',o,.cons (n.mono i) (.cons m .nil),e,p.later (j.trans i)⟩
  .exact Zb e
 .exact Zb e
def tO(K:Fg)(f:Ev):TO:=λO H Q=>∃ ad U st d st',EnvOk K ad H O U/\StOk K ad H st/\f U st=aa (d,st') /\
 ((d=.non/\∀ ad' H',Ext ad H ad' H'->StOk K ad' H' st'->Q ab H')\/∃ i,d=.int i/\∀ ad' H',Ext ad H ad' H'->StOk K ad' H' st'->Q (aa i) H')
def rSl(K:Fg):V->Ot Int->Ot Int->Hp->VK->Prop:=λx b c H Q=>∃ ad st a d st',StOk K ad H st/\Den K ad H x a/\Ym a b c st=aa (d,st')/\Post K ad H d st' Q
noncomputable def part:D->Ot (Ot Int)
 |.non=>aa ab
 |.int i=>aa (aa i)
 |_=>ab
def U5{l h:D}{r:D×Za}(e:XH x l h st=aa r):∃ a b,part l=aa a/\part h=aa b/\Ym x a b st=aa r:=by
 unfold XH at e;split at e
 .exact⟨_,_,rfl,rfl,e⟩
 .exact⟨_,_,rfl,rfl,e⟩
 .exact⟨_,_,rfl,rfl,e⟩
 .exact⟨_,_,rfl,rfl,e⟩
 .exact Zb e
def Zgb{f:Ev}{Q:Ot Int->Hp->Prop}{o:Ot Int}(E:EnvOk K ad H O U)(S:StOk K ad H st)(e:f U st=aa (d,st'))(a:part d=aa o)(q:∀ ad' H',Ext ad H ad' H'->StOk K ad' H' st'->Q o H'):tO K f O H Q:=by
 refine⟨ad,U,st,d,st',E,S,e,?_⟩;cases d with
 |non=>cases a;exact .inl ⟨rfl,q⟩
 |int i=>cases a;exact .inr ⟨i,rfl,q⟩
 |_=>exact Zb a
def Zbc(O:L2.St)(H:Hp)(Q:VK)(h:tE K (Y9 fa fb fc XH) O H Q):tSl (rSl K) (tE K fa) (tO K fb) (tO K fc) O H Q:=by
 obtain⟨ad,U,st,d,st',E,S,e,p⟩:=h;unfold Y9 at e;split at e
 .rename_i x f m
  split at e
  .rename_i y j l
   split at e
   .rename_i z c k
    obtain⟨A,B,n,o,e⟩:=U5 e;refine⟨ad,U,st,x,f,E,S,m,λw s F b v q=>Zgb (E.mono b) v l n λr D a u=>Zgb (E.mono (b.trans a)) u k o λg C i t=>?_⟩
    exact⟨g,c,x,d,st',t,q.mono (a.trans i),e,p.later (b.trans (a.trans i))⟩
   .exact Zb e
  .exact Zb e
 .exact Zb e
def Zep(O:L2.St)(H:Hp)(Q:Ot Int->Hp->Prop)(h:tO K (evC .non) O H Q):tNoPart O H Q:=by
 obtain⟨ad,U,st,d,st',E,S,e,p⟩:=h;cases e;rcases p with⟨_,p⟩|⟨i,z,_⟩
 .exact p ad H (Ext.refl _ _) S
 .cases z
end
variable [ClsTab]
def PostS(K:Fg)(ad:Li Ad)(H:Hp)(r:Fl)(st':Za)(D:Ends):Prop:=match r with
 |.nx U'=>∀ a ad' H',Ext ad H ad' H'->StOk K ad' H' st'->EnvOk K ad' H' a U'->D.nx a H'
 |.bk U'=>∀ a ad' H',Ext ad H ad' H'->StOk K ad' H' st'->EnvOk K ad' H' a U'->D.bk a H'
 |.ct U'=>∀ a ad' H',Ext ad H ad' H'->StOk K ad' H' st'->EnvOk K ad' H' a U'->D.ct a H'
 |.rt d=>Post K ad H d st' D.rt
theorem PostS.later{r:Fl}{D:Ends}(x:Ext ad H ad' H')(p:PostS K ad H r st D):PostS K ad' H' r st D:=by
 cases r with
 |nx U=>exact λa b c y S E=>p a b c (x.trans y) S E
 |bk U=>exact λa b c y S E=>p a b c (x.trans y) S E
 |ct U=>exact λa b c y S E=>p a b c (x.trans y) S E
 |rt d=>exact Post.later p x
def ZP{f:Ex}{D:Ends}{r:Fl}(E:EnvOk K ad H O U)(S:StOk K ad H st)(e:f U st=aa (r,st'))(p:PostS K ad H r st' D):tS K f D O H:=by
 refine⟨ad,U,st,r,st',E,S,e,?_⟩;cases r<;>exact p
def ZR{f:Ex}{D:Ends}(h:tS K f D O H):∃ ad U st r st',EnvOk K ad H O U/\StOk K ad H st/\f U st=aa (r,st')/\PostS K ad H r st' D:=by
 obtain⟨ad,U,st,r,st',E,S,e,p⟩:=h;refine⟨ad,U,st,r,st',E,S,e,?_⟩;cases r<;>exact p
variable{j l m:Nat}{E:Ends}{B:D->Env->Za->Ot (Fl×Za)}
section
variable{f g:Ex}{fe fi fk:Ev}
def Qu(D:Ends)(O:L2.St)(H:Hp)(h:tS K (λU st=>aa (.nx U,st)) D O H):tNext D O H:=by
 obtain⟨ad,U,st,r,st',E,S,e,p⟩:=ZR h;cases e;exact p O ad H (Ext.refl _ _) S E
def Zei(D:Ends)(O:L2.St)(H:Hp)(h:tS K (λU st=>aa (.bk U,st)) D O H):tBreak D O H:=by
 obtain⟨ad,U,st,r,st',E,S,e,p⟩:=ZR h;cases e;exact p O ad H (Ext.refl _ _) S E
def Zch(D:Ends)(O:L2.St)(H:Hp)(h:tS K (λU st=>aa (.ct U,st)) D O H):tCont D O H:=by
 obtain⟨ad,U,st,r,st',E,S,e,p⟩:=ZR h;cases e;exact p O ad H (Ext.refl _ _) S E
def Zew(D:Ends)(O:L2.St)(H:Hp)(h:tS K (YV f g) D O H):tSeq (tS K f) (tS K g) D O H:=by
 obtain⟨ad,U,st,r,st',E,S,e,p⟩:=ZR h;unfold YV at e;split at e
 .rename_i a i q
  exact ZP E S q λb j m c k l=>ZP l k e (p.later c)
 .rename_i q
  refine ZP E S e ?_;cases r with
  |nx a=>exact ar e (q a st')
  |bk a=>exact p
  |ct a=>exact p
  |rt d=>exact p
def Zeu(D:Ends)(O:L2.St)(H:Hp)(h:tS K (JD fe) D O H):tRet (tE K fe) D O H:=by
 obtain⟨ad,U,st,r,st',E,S,e,p⟩:=ZR h;unfold JD at e;split at e
 .rename_i d a q
  cases e;exact⟨ad,U,st,d,_,E,S,q,p⟩
 .exact Zb e
def UN(D:Ends)(O:L2.St)(H:Hp)(h:tS K (VS i fe) D O H):tAsg (tE K fe) (gName i) D O H:=by
 obtain⟨ad,U,st,r,st',E,S,e,p⟩:=ZR h;unfold VS at e;split at e
 .rename_i d c q
  cases e;exact⟨ad,U,st,d,_,E,S,q,λv a j b g f=>p _ a j b g ((E.mono b).set i f)⟩
 .exact Zb e
def Zcu(D:Ends)(O:L2.St)(H:Hp)(h:tS K (QM i j fe) D O H):tAsg (tE K fe) (gTup K 2 (gCons (gName i) (gCons (gName j) gNil))) D O H:=by
 obtain⟨ad,U,st,r,st',E,S,e,p⟩:=ZR h;unfold QM at e;split at e
 .rename_i x y f q
  cases e;refine⟨ad,U,st,_,_,E,S,q,λv c m d l b=>?_⟩
  obtain⟨a,vs,rfl,g,rv⟩:=b.ofTup;cases rv with
  |cons b rv=>
   cases rv with
   |cons k rv=>
    cases rv;exact⟨a,_,rfl,(g).sq,rfl,_,_,rfl,_,_,rfl,rfl,p _ c m d l (((E.mono d).set i b).set j k)⟩
 .exact Zb e
def Zcv(D:Ends)(O:L2.St)(H:Hp)(h:tS K (Zdu i j l fe) D O H):tAsg (tE K fe) (gTup K 3 (gCons (gName i) (gCons (gName j) (gCons (gName l) gNil)))) D O H:=by
 obtain⟨ad,U,st,r,st',E,S,e,p⟩:=ZR h;unfold Zdu at e;split at e
 .rename_i x y z f q
  cases e;refine⟨ad,U,st,_,_,E,S,q,λv c o d n b=>?_⟩
  obtain⟨a,vs,rfl,g,rv⟩:=b.ofTup;cases rv with
  |cons b rv=>
   cases rv with
   |cons m rv=>
    cases rv with
    |cons k rv=>
     cases rv;exact⟨a,_,rfl,(g).sq,rfl,_,_,rfl,_,_,rfl,_,_,rfl,rfl,p _ c o d n ((((E.mono d).set i b).set j m).set l k)⟩
 .exact Zb e
def Zeg(D:Ends)(O:L2.St)(H:Hp)(h:tS K (Zby fe) D O H):tDrop (tE K fe) D O H:=by
 obtain⟨ad,U,st,r,st',E,S,e,p⟩:=ZR h;unfold Zby at e;split at e
 .rename_i d c q
  cases e;exact⟨ad,U,st,d,_,E,S,q,λv a g b f i=>p _ a g b f (E.mono b)⟩
 .exact Zb e
def Zen(D:Ends)(O:L2.St)(H:Hp)(h:tS K (YG fe f g) D O H):tIfS (tT K fe) (tS K f) (tS K g) D O H:=by
 obtain⟨ad,U,st,r,st',E,S,e,p⟩:=ZR h;unfold YG at e;split at e
 .rename_i a q
  refine⟨ad,U,st,ac,a,E,S,q,λc i b d=>?_⟩
  dsimp only;rw[ao rfl];exact ZP (E.mono b) d e (p.later b)
 .rename_i a q
  refine⟨ad,U,st,ae,a,E,S,q,λc i b d=>?_⟩
  dsimp only;rw[aq Bf];exact ZP (E.mono b) d e (p.later b)
 .exact Zb e
def WL{a:Ad}(S:StOk K ad H st)(h:LA ad H i a):∃ b ds,st[i]?=aa (b,ds):=by
 have c:i < st.length:=by rw[<-S.len];exact(bP.mp h.1).1
 exact⟨st[i].1,st[i].2,by rw[Lg c]⟩
def WY{c:Za}{a:Ad}{v:V}(S:StOk K ad H st)(h:LA ad H i a)(hd:Den K ad H v d)(e:VY i d st=aa c) :
  ∃ b,H a=aa (.lst b)/\b.length < aw/\Ext ad H ad (upd H a (.lst (b++[v])))/\StOk K ad (upd H a (.lst (b++[v]))) c:=by
 unfold VY at e;split at e
 .rename_i ds q
  split at e
  .rename_i g
   cases e;obtain⟨b,r,f⟩:=S.listM h q;refine⟨b,f,?_,Ext.write f (aT h.1),S.write h q f (r.append (.cons hd .nil))⟩;rw[r.length];exact aU g (by decide)
  .exact Zb e
 .exact Zb e
def Zeh(D:Ends)(O:L2.St)(H:Hp)(h:tS K (Q0 i fe) D O H):tDrop (tBM K "list" rAppend (tVar i) (tCons (tE K fe) tNil)) D O H:=by
 obtain⟨ad,U,st,r,st',E,S,e,p⟩:=ZR h;unfold Q0 at e;split at e
 .rename_i a s
  split at e
  .rename_i d f q
   split at e
   .rename_i n o
    cases e;obtain⟨v,z,y⟩:=E.at_ i _ s;obtain⟨l,rfl,g⟩:=y.ofLst;obtain⟨b,ds,x⟩:=WL S g;obtain⟨m,_,sq⟩:=S.list g x;refine⟨_,z,.inl ⟨rfl,m,sq⟩,ad,U,st,d,f,E,S,q,λw j F c C A=>?_⟩
    obtain⟨ys,u,t,k,B⟩:=WY C (g.mono c) A o;exact⟨l,ys,w,rfl,rfl,u,t,p _ j _ (c.trans k) B (E.mono (c.trans k))⟩
   .exact Zb e
  .exact Zb e
 .exact Zb e
def Zcg{o:Ev}(D:Ends)(O:L2.St)(H:Hp)(h:tS K (ZbC o fe) D O H):tDrop (tBM K "list" rAppend (tE K o) (tCons (tE K fe) tNil)) D O H:=by
 obtain⟨ad,U,st,r,st',E,S,e,p⟩:=ZR h;unfold ZbC at e;split at e
 .rename_i a c x
  split at e
  .rename_i d i u
   split at e
   .rename_i s t
    cases e;refine⟨ad,U,st,.lst a,c,E,S,x,λv m J g S0 C=>?_⟩
    obtain⟨l,rfl,j⟩:=C.ofLst;obtain⟨b,ds,A⟩:=WL S0 j;obtain⟨q,_,sq⟩:=S0.list j A;refine⟨.inl ⟨rfl,q,sq⟩,m,U,c,d,i,E.mono g,S0,u,λw k I f G B=>?_⟩
    obtain⟨ys,z,y,n,F⟩:=WY G (j.mono f) B t;exact⟨l,ys,w,rfl,rfl,z,y,p _ k _ ((g.trans f).trans n) F (E.mono ((g.trans f).trans n))⟩
   .exact Zb e
  .exact Zb e
 .exact Zb e
def Zej(D:Ends)(O:L2.St)(H:Hp)(h:tS K (Zb6 i fe) D O H):tDrop (tBM K "list" rExtend (tVar i) (tCons (tE K fe) tNil)) D O H:=by
 obtain⟨ad,U,st,r,st',E,S,e,p⟩:=ZR h;unfold Zb6 at e;split at e
 .rename_i a C
  split at e
  .rename_i b g B
   split at e
   .rename_i A d
    cases e;obtain⟨v,M,L⟩:=E.at_ i _ C;obtain⟨l,rfl,n⟩:=L.ofLst;obtain⟨Q,ds,I⟩:=WL S n;obtain⟨z,_,sq⟩:=S.list n I;refine⟨_,M,.inl ⟨rfl,z,sq⟩,ad,U,st,.lst b,g,E,S,B,λw o R f q N=>?_⟩
    obtain⟨m,rfl,G⟩:=N.ofLst;unfold ZgO at d;split at d
    .rename_i P es y J
     split at d
     .rename_i F
      cases d;have c:=n.mono f;obtain⟨ys,x,k⟩:=q.listM c y;obtain⟨s,u,j⟩:=q.listM G J;have t:=Ext.write (ys:=ys++s) k (aT c.1);refine⟨l,m,ys,s,rfl,rfl,k,j,?_,p _ o _ (f.trans t) (q.write c y k (x.append u)) (E.mono (f.trans t))⟩;rw[x.length,u.length];exact aR F (by decide)
     .exact Zb d
    .exact Zb d
   .exact Zb e
  .exact Zb e
 .exact Zb e
def Zet(D:Ends)(O:L2.St)(H:Hp)(h:tS K (Zdk i fk fe) D O H):tAsg (tE K fe) (gSub (tVar i) (tE K fk) rSetL) D O H:=by
 obtain⟨ad,U,st,r,st',E,S,e,p⟩:=ZR h;unfold Zdk at e;split at e
 .rename_i d g F
  split at e
  .rename_i a G
   split at e
   .rename_i j o C
    split at e
    .rename_i A f
     cases e;obtain⟨v,L,J⟩:=E.at_ i _ G;obtain⟨l,rfl,I⟩:=J.ofLst;refine⟨ad,U,st,d,g,E,S,F,λw s R n P N=>⟨_,L,s,U,g,.int j,o,E.mono n,P,C,λQ c z m y M=>?_⟩⟩
     cases M.ofInt;unfold U8 at f;split at f
     .rename_i ds x
      split at f
      .rename_i k B
       cases f;have b:=I.mono (n.trans m);obtain⟨t,r,q⟩:=y.listM b x;have u:Ext c z c (upd z l (.lst (t.set k w))):=Ext.write q (aT b.1);refine⟨l,t,j,k,rfl,rfl,q,?_,p _ c _ (n.trans (m.trans u)) (y.write b x q (r.set (N.mono m) k)) (E.mono (n.trans (m.trans u)))⟩;rw[r.length];exact B
      .exact Zb f
     .exact Zb f
    .exact Zb e
   .exact Zb e
  .exact Zb e
 .exact Zb e
def Jn(a b i j:Int):aj (([.inl a,.inl b]:Li Key)=[.inl i,.inl j])=(aj (a=i)&&aj (b=j)):=by
 rw[bQ];simp
def Zb2{i j:Int}(r:Ents K ad H kvs ds):(kvs.any λa=>aj (a.1=[.inl i,.inl j]))=ds.any (isK i j):=by
 induction r with
 |nil=>rfl
 |cons h _ b=>rw[cP,cP,b,Jn];rfl
def Qn{i j:Int}{v:V}(hd:Den K ad H v d)(r:Ents K ad H kvs ds):Ents K ad H (putK kvs [.inl i,.inl j] v) (Vv ds i j d):=by
 unfold putK Vv;rw[Zb2 r];by_cases e:ds.any (isK i j)=ac
 .rw[ao e,ao e]
  clear e
  induction r with
  |nil=>exact .nil
  |@cons a b w c _ _ h _ f=>
   rw[aK,aK];have z:=Jn a b i j;by_cases q:(aj (a=i)&&aj (b=j))=ac
   .rw[ao (am (z.trans q)),ao (show isK i j (.tup [.int a,.int b,c])=ac from q)]
    rw[Ba,bF,bF]at q;rw[q.1,q.2];exact .cons hd f
   .rw[aq (λt=>q (z.symm.trans (aP t))),aq (show ¬isK i j (.tup [.int a,.int b,c])=ac from q)]
    exact .cons h f
 .rw[aq e,aq e]
  clear e
  induction r with
  |nil=>exact .cons hd .nil
  |cons h _ f=>exact .cons h f
def XM{i j:Int}(r:Ents K ad H kvs ds):(∃ v d,valV kvs [.inl i,.inl j]=aa v/\Yf ds i j=aa d/\Den K ad H v d)\/(valV kvs [.inl i,.inl j]=ab/\Yf ds i j=ab):=by
 induction r with
 |nil=>exact .inr ⟨rfl,rfl⟩
 |@cons a b w c kvs ds h _ e=>
  have z:=Jn a b i j;by_cases q:(aj (a=i)&&aj (b=j))=ac
  .exact .inl ⟨w,c,valV_pos (am (z.trans q)),by unfold Yf;rw[List.find?_cons_of_pos (show isK i j (.tup [.int a,.int b,c])=ac from q)];rfl,h⟩
  .have g:valV ((([.inl a,.inl b]:Li Key),w) :: kvs) [.inl i,.inl j]=valV kvs [.inl i,.inl j]:=valV_neg λt=>q (z.symm.trans (aP t))
   have f:Yf (.tup [.int a,.int b,c] :: ds) i j=Yf ds i j:=by unfold Yf;rw[List.find?_cons_of_neg (show ¬isK i j (.tup [.int a,.int b,c])=ac from q)]
   rw[g,f];exact e
def Za8{i j:Int}(r:Ents K ad H kvs ds):(valV kvs [.inl i,.inl j]).isSome=(Yf ds i j).isSome:=by
 rcases XM r with⟨w,d,b,a,c⟩|⟨b,a⟩
 .rw[b,a];rfl
 .rw[b,a];rfl
def WO(r:Ents K ad H kvs ds):kvs.length=ds.length:=by
 induction r with
 |nil=>rfl
 |cons _ _ a=>rw[aQ,aQ,a]
def Zcj(O:L2.St)(H:Hp)(Q:VK)(h:tE K ZfF O H Q):ZdB K O H Q:=by
 obtain⟨ad,U,st,d,st',E,S,e,p⟩:=h;cases e;intro q a b;exact p _ (ad++[q]) _ (S.extD a b) (S.pushN a b) (.dic (by rw[<-S.len];exact Zo) ⟨_,upd_same,rfl⟩)
def Zck{L J:Ev}(D:Ends)(O:L2.St)(H:Hp)(h:tS K (ZbY i L J fe) D O H):tAsg (tE K fe) (gSub (tVar i) (tTup (tCons (tE K L) (tCons (tE K J) tNil))) rSetT) D O H:=by
 obtain⟨ad,U,st,r,st',E,S,e,p⟩:=ZR h;unfold ZbY at e;split at e
 .rename_i d g Q
  split at e
  .rename_i a R
   split at e
   .rename_i x f P
    split at e
    .rename_i y c N
     split at e
     .rename_i ds G
      split at e
      .rename_i q
       obtain⟨q,u⟩:=q;cases e;obtain⟨v,V,T⟩:=E.at_ i _ R;obtain⟨l,rfl,j,n⟩:=T.ofDic;refine⟨ad,U,st,d,g,E,S,Q,λw A H1 o S1 Z=>⟨_,V,A,U,g,.int x,f,E.mono o,S1,P,λw2 z H2 m S2 Y=>⟨z,U,f,.int y,c,E.mono (o.trans m),S2,N,λw3 b k F S3 W=>⟨show 2<=aw by decide,λt I=>?_⟩⟩⟩⟩
       cases Y.ofInt;cases W.ofInt;have C:Ext b k b (upd k t (.tup [.int x,.int y])):=Ext.laid I;have X:=o.trans (m.trans (F.trans C));have M:StOk K b (upd k t (.tup [.int x,.int y])) c:=S3.laid I;obtain⟨kvs,r,s,_⟩:=M.dict (X.pre _ _ j) ((X.kd _ _ j).mp n) G u;have B:Ext b _ b (upd (upd k t (.tup [.int x,.int y])) l (.dT (putK kvs [.inl x,.inl y] w))):=Ext.writeD s (aT (X.pre _ _ j))
       exact⟨l,t,kvs,[.inl x,.inl y],rfl,rfl,s,upd_same,by rw[WO r];exact aU q (by decide),p _ b _ (X.trans B) (M.writeD (X.pre _ _ j) G s (Qn (Z.mono (m.trans (F.trans C))) r)) (E.mono (X.trans B))⟩
      .exact Zb e
     .exact Zb e
    .exact Zb e
   .exact Zb e
  .exact Zb e
 .exact Zb e
def Left(K:Fg)(b:D->Env->Za->Ot (Fl×Za))(E:Ends)(a:Li D)(O:L2.St)(H:Hp):Prop:=∃ ad U st r st',EnvOk K ad H O U/\StOk K ad H st/\Zj b a U st=aa (r,st')/\PostS K ad H r st' E
def Left.turn{b:Ex}{n:Li D}{H:Hp}{v:V}(t:∀ ad H,Den K ad H v x)(h:Left K (λd U s=>b (Zf U i d) s) E (x :: n) O H) :
  tS K b { E with nx:=Left K (λd U s=>b (Zf U i d) s) E n,ct:=Left K (λd U s=>b (Zf U i d) s) E n,bk:=E.nx } (O.set i (aa v)) H:=by
 obtain⟨ad,U,st,r,st',En,S,e,p⟩:=h;unfold Zj at e;have g:=En.set i (t ad H);split at e
 .rename_i f a q
  exact ZP g S q λj c o k l m=>⟨c,f,a,r,st',m,l,e,p.later k⟩
 .rename_i f a q
  exact ZP g S q λj c o k l m=>⟨c,f,a,r,st',m,l,e,p.later k⟩
 .rename_i f a q
  cases e;exact ZP g S q λj c o k l m=>p j c o k l m
 .rename_i d a q
  cases e;exact ZP g S q p
 .exact Zb e
def Left.turnD{b:Ex}{n:Li D}{U:Env}{r:Fl}{v:V}(En:EnvOk K ad H O U)(S:StOk K ad H st)(t:Den K ad H v x)(e:Zj (λd U s=>b (Zf U i d) s) (x :: n) U st=aa (r,st'))(p:PostS K ad H r st' E)(L:L2.St->Hp->Prop)(o:∀ c a h g f,Ext ad H a h->StOk K a h f->EnvOk K a h c g->Zj (λd U s=>b (Zf U i d) s) n g f=aa (r,st')->L c h) :
  tS K b { E with nx:=L,ct:=L,bk:=E.nx } (O.set i (aa v)) H:=by
 unfold Zj at e;have j:=En.set i t;split at e
 .rename_i g f q
  exact ZP j S q λc a h k l m=>o c a h g f k l m e
 .rename_i g f q
  exact ZP j S q λc a h k l m=>o c a h g f k l m e
 .rename_i g f q
  cases e;exact ZP j S q λc a h k l m=>p c a h k l m
 .rename_i d f q
  cases e;exact ZP j S q p
 .exact Zb e
def Left.done{b:D->Env->Za->Ot (Fl×Za)}(h:Left K b E [] O H):E.nx O H:=by
 obtain⟨ad,U,st,r,st',En,S,e,p⟩:=h;cases e;exact p O ad H (Ext.refl _ _) S En
def JA(n k:Nat)(h:k < n):((ag n).map λ(j:Nat)=>D.int (j:Int)).drop k=D.int (k:Int) :: ((ag n).map λ(j:Nat)=>D.int (j:Int)).drop (k+1):=by
 rw[bX (by simpa using h)]
 simp
def Zcp(E:Ends)(O:L2.St)(H:Hp)(h:tS K (VA i ac fi f) E O H):tFor (iRng1 (tCons (tE K fi) tNil)) (gName i) (tS K f) E O H:=by
 obtain⟨ad,U,st,r,st',En,S,e,p⟩:=ZR h;unfold VA at e;split at e
 .rename_i x a m
  cases x with
  |int n=>
   have e:(match (if n < 2 ^ 62/\-(2 ^ 62)<=n then aa ((ag n.toNat).map λ(k:Nat)=>D.int (k:Int)) else ab) with
    |some l=>Zj (λd U s=>f (Zf U i d) s) l U a
    |none=>ab)=aa (r,st'):=e
   by_cases b:n < 2 ^ 62/\-(2 ^ 62)<=n
   .rw[ao b]at e
    refine⟨ad,U,st,.int n,a,En,S,m,λv c u j t q=>⟨n,by rw[q.ofInt],b.2,b.1,?_⟩⟩
    refine for_range (λk g H'=>Left K (λd U s=>f (Zf U i d) s) E (((ag n.toNat).map λ(k:Nat)=>D.int (k:Int)).drop k) g H') ⟨c,U,a,r,st',En.mono j,t,e,p.later j⟩ (λk g H' o L=>?_) λg H' L=>?_
    .rw[JA _ _ o]at L
     have z:(0:Int)+(k:Int)=(k:Int):=Int.zero_add _;rw[z];exact L.turn λ_ _=>.int _
    .rw[List.drop_eq_nil_of_le (by simp)]at L
     exact L.done
   .rw[aq b]at e
    cases e
  |_=>simp[VF]at e
 .exact Zb e
def Zag{i:Int}(h:ZgW d=aa i):d=.int i:=by cases d<;>first | (cases h;done) | (cases h;rfl)
def Zfx(K:Fg)(b:D->Env->Za->Ot (Fl×Za))(E:Ends)(a:Ad)(vs:Li V)(c:Li D)(k:Nat)(O:L2.St)(H:Hp):Prop:=
 ∃ ad U st r st',EnvOk K ad H O U/\StOk K ad H st/\(TupAt K H a vs/\Dens K ad H vs c)/\Zj b (c.drop k) U st=aa (r,st')/\PostS K ad H r st' E
def Zcq(E:Ends)(O:L2.St)(H:Hp){U:Env}{g:Za}{r:Fl}{xs:Li D}(En:EnvOk K ad H O U)(S:StOk K ad H st)(R:fi U st=aa (.tup xs,g))(e:Zj (λd U s=>f (Zf U i d) s) xs U g=aa (r,st'))(p:PostS K ad H r st' E):tFor (iTup K (tE K fi)) (gName i) (tS K f) E O H:=by
 refine⟨ad,U,st,.tup xs,g,En,S,R,λv F H1 I Z X=>?_⟩
 obtain⟨a,vs,rfl,M,rv⟩:=X.ofTup;refine⟨a,rfl,⟨vs,(M).sq⟩,?_⟩;refine for_tup (xs:=vs) (λk u H'=>Zfx K (λd U s=>f (Zf U i d) s) E a vs xs k u H') ⟨F,U,g,r,st',En.mono I,Z,⟨M,rv⟩,by rw[cN];exact e,p.later I⟩ (λk u H' _ L=>?_) (λk y u H' J L=>?_) λu H' L=>?_
 .obtain⟨_,_,_,_,_,_,_,⟨h,_⟩,_⟩:=L
  exact(h).sq
 .obtain⟨q,l,m,B,b,j,G,⟨N,c⟩,o,t⟩:=L
  have n:k < xs.length:=by rw[<-c.length];exact(bP.mp J).1
  have T:xs[k]?=aa xs[k]:=Lg n;obtain⟨w,P,W⟩:=c.get T;rw[J]at P;cases P
  rw[bX n]at o;exact Left.turnD j G W o t _ λQ C H3 x A z Y E3 V=>⟨C,x,A,B,b,E3,Y,⟨N.mono z,c.mono z⟩,V,t.later z⟩
 .obtain⟨q,l,m,B,b,j,G,⟨N,c⟩,o,t⟩:=L
  rw[c.length,List.drop_length]at o;exact Left.done ⟨q,l,m,B,b,j,G,o,t⟩
def Qt{G:TG}(E:Ends)(O:L2.St)(H:Hp){ad:Li Ad}{U:Env}{st i:Za}{r:Fl}{bb:Bool}{X:Li D}(En:EnvOk K ad H O U)(S:StOk K ad H st)(q1:fi U st=aa (.lst l,i))(q2:i[l]?=aa (bb,X))(e:ZI B l X.length 0 U i=aa (r,st'))(p:PostS K ad H r st' E)(R:∀ (x:D) (v:V) (O:L2.St) (H:Hp) (ad:Li Ad) (U:Env) (st i:Za) (r1:Fl) (E':Ends),EnvOk K ad H O U->StOk K ad H st->Den K ad H v x->B x U st=aa (r1,i)->PostS K ad H r1 i E'->G v O H λW H2=>tS K f E' W H2) :
  tFor (iList K (tE K fi)) G (tS K f) E O H:=by
 refine⟨ad,U,st,.lst l,i,En,S,q1,λv ad1 H1 x1 S1 d1=>?_⟩
 obtain⟨a,rfl,ha⟩:=d1.ofLst;obtain⟨vs,rv,sq⟩:=S1.list ha q2;refine⟨a,rfl,⟨vs,sq⟩,?_⟩;refine⟨λk m O' H'=>∃ b c g,(EnvOk K b H' O' c/\StOk K b H' g/\LA b H' l a)/\ZI B l m k c g=aa (r,st')/\PostS K b H' r st' E,⟨X.length,ad1,U,i,⟨En.mono x1,S1,ha⟩,e,p.later x1⟩,?_⟩
 rintro k m O' H' ⟨b,c,g,⟨s,C,t⟩,n,M⟩
 obtain⟨b2,ys,N⟩:=WL C t;obtain⟨Y,L,A⟩:=C.list t N;have stop:ys.length<=k->ZI B l m k c g=aa (.nx c,g):=λF=>by
  cases m with
  |zero=>unfold ZI;simp only[N];rw[ao F]
  |succ m=>unfold ZI;simp only[N,eI F]
 by_cases F:ys.length<=k
 .refine .inl ⟨⟨Y,A,by rw[L.length];exact F⟩,?_⟩
  rw[stop F]at n;cases n;exact M O' b H' (Ext.refl _ _) C s
 .have hk':k < ys.length:=by omega
  have hy:ys[k]?=aa ys[k]:=Lg hk';obtain⟨w,ew,T⟩:=L.get hy;cases m with
  |zero=>
   unfold ZI at n;simp only[N]at n;rw[aq F]at n;cases n
  |succ m=>
   unfold ZI at n;simp only[N,hy]at n;refine .inr ⟨⟨Y,w,A,ew⟩,λJ I=>∃ u j h,(EnvOk K u I J j/\StOk K u I h/\LA u I l a)/\ZI B l m (k+1) j h=aa (r,st')/\PostS K u I r st' E,λJ I h3=>⟨m,bL m,h3⟩,λx I Z=>?_⟩
   obtain⟨rfl,Z⟩:=Z;have ex:=Z Y A;rw[ew]at ex;cases ex
   split at n
   .rename_i j h q
    exact R _ _ _ _ b c g _ _ _ s C T q λy o H4 z P Q=>⟨o,j,h,⟨Q,P,t.mono z⟩,n,M.later z⟩
   .rename_i j h q
    exact R _ _ _ _ b c g _ _ _ s C T q λy o H4 z P Q=>⟨o,j,h,⟨Q,P,t.mono z⟩,n,M.later z⟩
   .rename_i j h q
    cases n;exact R _ _ _ _ b c g _ _ _ s C T q λy o H4 z P Q=>M y o H4 z P Q
   .rename_i d h q
    cases n;exact R _ _ _ _ b c g _ _ _ s C T q M
   .exact Zb n
def Zco(E:Ends)(O:L2.St)(H:Hp)(h:tS K (VA i ae fi f) E O H):tFor (iTup K (tE K fi)) (gName i) (tS K f) E O H\/tFor (iList K (tE K fi)) (gName i) (tS K f) E O H:=by
 obtain⟨ad,U,st,r,st',En,S,e,p⟩:=ZR h;unfold VA at e;split at e
 .rename_i x a c
  cases x with
  |tup b=>exact .inl (Zcq E O H En S c e p)
  |lst l=>
   have e:(match a[l]? with
    |some (_,b)=>ZI (λd U s=>f (Zf U i d) s) l b.length 0 U a
    |none=>ab)=aa (r,st'):=e
   split at e
   .rename_i o b g
    refine .inr (Qt E O H En S c g e p λx v O H ad U st a n q En S m k j=>?_)
    exact ZP (En.set i m) S k j
   .exact Zb e
  |_=>simp[VF]at e
 .exact Zb e
def Uf{G:TG}(E:Ends)(O:L2.St)(H:Hp){ad:Li Ad}{U:Env}{st b:Za}{r:Fl}{xs:Li D}(En:EnvOk K ad H O U)(S:StOk K ad H st)(q1:fi U st=aa (.tup xs,b))(e:Zj B xs U b=aa (r,st'))(p:PostS K ad H r st' E)(N:∀ (x:D) (v:V) (O:L2.St) (H:Hp) (ad:Li Ad) (U:Env) (st b:Za) (Z:Fl) (E':Ends),EnvOk K ad H O U->StOk K ad H st->Den K ad H v x->B x U st=aa (Z,b)->PostS K ad H Z b E'->G v O H λR H2=>tS K f E' R H2) :
  tFor (iTup K (tE K fi)) G (tS K f) E O H:=by
 refine⟨ad,U,st,.tup xs,b,En,S,q1,λv W H1 Y S1 d1=>?_⟩
 obtain⟨a,vs,rfl,ha,rv⟩:=d1.ofTup;refine⟨a,rfl,⟨vs,(ha).sq⟩,?_⟩;refine for_tup (xs:=vs) (λk Q H'=>Zfx K B E a vs xs k Q H') ⟨W,U,b,r,st',En.mono Y,S1,⟨ha,rv⟩,by rw[cN];exact e,p.later Y⟩ (λk Q H' _ L=>?_) (λk y Q H' hk L=>?_) λQ H' L=>?_
 .obtain⟨_,_,_,_,_,_,_,⟨h,_⟩,_⟩:=L
  exact(h).sq
 .obtain⟨l,g,i,M,c,m,C,⟨T,j⟩,o,A⟩:=L
  have F:k < xs.length:=by rw[<-j.length];exact(bP.mp hk).1
  have hx:xs[k]?=aa xs[k]:=Lg F;obtain⟨w,ew,P⟩:=j.get hx;rw[hk]at ew;cases ew
  rw[bX F]at o;unfold Zj at o;split at o
  .rename_i t n q
   exact N _ _ _ _ l g i _ _ _ m C P q λz s X u I J=>⟨s,t,n,M,c,J,I,⟨T.mono u,j.mono u⟩,o,A.later u⟩
  .rename_i t n q
   exact N _ _ _ _ l g i _ _ _ m C P q λz s X u I J=>⟨s,t,n,M,c,J,I,⟨T.mono u,j.mono u⟩,o,A.later u⟩
  .rename_i t n q
   cases o;exact N _ _ _ _ l g i _ _ _ m C P q λz s X u I J=>A z s X u I J
  .rename_i d n q
   cases o;exact N _ _ _ _ l g i _ _ _ m C P q A
  .exact Zb o
 .obtain⟨l,g,i,M,c,m,C,⟨T,j⟩,o,A⟩:=L
  rw[j.length,List.drop_length]at o;exact Left.done ⟨l,g,i,M,c,m,C,o,A⟩
def Zcm(E:Ends)(O:L2.St)(H:Hp)(h:tS K (Zca i j l fi f) E O H):tFor (iTup K (tE K fi)) (gTup K 3 (gCons (gName i) (gCons (gName j) (gCons (gName l) gNil)))) (tS K f) E O H:=by
 obtain⟨ad,U,st,r,st',En,S,e,p⟩:=ZR h;unfold Zca at e;split at e
 .rename_i s c d
  refine Uf E O H En S d e p λx v O H ad U st c t w En S m b g=>?_
  unfold ZdC at b;split at b
  .rename_i y z u
   obtain⟨a,vs,rfl,k,rv⟩:=m.ofTup;cases rv with
   |cons q rv=>
    cases rv with
    |cons o rv=>
     cases rv with
     |cons n rv=>
      cases rv;exact⟨a,_,rfl,(k).sq,rfl,_,_,rfl,_,_,rfl,_,_,rfl,rfl,ZP (((En.set i q).set j o).set l n) S b g⟩
  .exact Zb b
 .exact Zb e
def Zcl(E:Ends)(O:L2.St)(H:Hp)(h:tS K (Zb9 i j fi f) E O H):tFor (iTup K (tE K fi)) (gTup K 2 (gCons (gName i) (gCons (gName j) gNil))) (tS K f) E O H\/tFor (iList K (tE K fi)) (gTup K 2 (gCons (gName i) (gCons (gName j) gNil))) (tS K f) E O H:=by
 obtain⟨ad,U,st,r,st',En,S,e,p⟩:=ZR h;unfold Zb9 at e;split at e
 .rename_i l c d
  split at e
  .rename_i w q t
   right
   refine Qt E O H En S d t e p λx v O H ad U st c s u En S m b g=>?_
   unfold VN at b;split at b
   .rename_i y z
    obtain⟨a,vs,rfl,k,rv⟩:=m.ofTup;cases rv with
    |cons o rv=>
     cases rv with
     |cons n rv=>
      cases rv;exact⟨a,_,rfl,(k).sq,rfl,_,_,rfl,_,_,rfl,rfl,ZP ((En.set i o).set j n) S b g⟩
   .exact Zb b
  .exact Zb e
 .rename_i q c d
  left
  refine Uf E O H En S d e p λx v O H ad U st c s u En S m b g=>?_
  unfold VN at b;split at b
  .rename_i y z
   obtain⟨a,vs,rfl,k,rv⟩:=m.ofTup;cases rv with
   |cons o rv=>
    cases rv with
    |cons n rv=>
     cases rv;exact⟨a,_,rfl,(k).sq,rfl,_,_,rfl,_,_,rfl,rfl,ZP ((En.set i o).set j n) S b g⟩
  .exact Zb b
 .exact Zb e
def Zbd(E:Ends)(O:L2.St)(H:Hp)(h:tS K (YF fe f m) E O H):tWhile (tT K fe) (tS K f) E O H:=by
 obtain⟨ad,U,st,r,st',En,S,e,p⟩:=ZR h;refine⟨λm O H=>∃ ad U st,(EnvOk K ad H O U/\StOk K ad H st)/\YF fe f m U st=aa (r,st')/\PostS K ad H r st' E,⟨m,ad,U,st,⟨En,S⟩,e,p⟩,?_⟩
 rintro m O H ⟨ad,U,st,⟨En,S⟩,e,p⟩
 cases m with
 |zero=>exact Zb e
 |succ m=>
  have e:YG fe (YM f (YF fe f m)) (λU st=>aa (.nx U,st)) U st=aa (r,st'):=e
  unfold YG at e;split at e
  .rename_i i q
   refine⟨ad,U,st,ac,i,En,S,q,λn u a k=>?_⟩
   dsimp only;rw[ao rfl];refine⟨λO H=>∃ ad U st,(EnvOk K ad H O U/\StOk K ad H st)/\YF fe f m U st=aa (r,st')/\PostS K ad H r st' E,λw H' h=>⟨m,bL m,h⟩,?_⟩
   have e:YM f (YF fe f m) U i=aa (r,st'):=e;unfold YM at e;split at e
   .rename_i d b j
    exact ZP (En.mono a) k j λg c t l o s=>⟨c,d,b,⟨s,o⟩,e,p.later (a.trans l)⟩
   .rename_i d b j
    exact ZP (En.mono a) k j λg c t l o s=>⟨c,d,b,⟨s,o⟩,e,p.later (a.trans l)⟩
   .rename_i d b j
    cases e;exact ZP (En.mono a) k j λg c t l o s=>p g c t (a.trans l) o s
   .rename_i v b j
    cases e;exact ZP (En.mono a) k j (Post.later p a)
   .exact Zb e
  .rename_i i q
   cases e;refine⟨ad,U,st,ae,_,En,S,q,λn u a k=>?_⟩
   dsimp only;rw[aq Bf];exact p O n u a k (En.mono a)
  .exact Zb e
def ZcP{ok:Za->Prop}{B:D->D->Env->Za->Ot (Fl×Za)}{l:Li (D×D)}{z:Fl×Za}(e:Z3 ok B l U st=aa z):ok st:=by
 cases l with
 |nil=>
  unfold Z3 at e;by_cases h:ok st
  .exact h
  .rw[aq h]at e;cases e
 |cons _ _=>
  unfold Z3 at e;by_cases h:ok st
  .exact h
  .rw[aq h]at e;cases e
inductive LK(K:Fg)(ok:Za->Prop)(B:D->D->Env->Za->Option (Fl×Za))(qs:List (D×D))(Good:List Addr->Hp->Prop)(r:Fl)(st':Za)(E:Ends)(k m:Nat)(O:L2.St)(H:Hp):Prop
 |mk {ad:List Addr}{U:Env}{st:Za} (hk:k+m=qs.length) (En:EnvOk K ad H O U) (S:StOk K ad H st) (g:Good ad H) (e:Z3 ok B (qs.drop k) U st=aa (r,st')) (p:PostS K ad H r st' E):LK K ok B qs Good r st' E k m O H
def Zif(K:Fg)(f:Ex)(i j:Nat)(J:It)(E:Ends)(O:L2.St)(g:Hp):Prop:=∃ W:Nat->Nat->L2.St->Hp->Prop,(∃ m,W 0 m O g)/\∀ a m O H,W a m O H->(J.stop a H/\E.nx O H)\/(J.go a H/\∃ N:L2.St->Hp->Prop,(∀ d H',N d H'->∃ c,c < m/\W (a+1) c d H')/\∀ x H',J.yld a H x H'->gTup K 2 (gCons (gName i) (gCons (gName j) gNil)) x O H' λb e=>tS K f { E with nx:=N,ct:=N,bk:=E.nx } b e)
def Js{ok:Za->Prop}{c:Li (D×D)}{a:Li Ad->Hp->Prop}{r:Fl}{J:It}(gm:∀ ad H ad' H',Ext ad H ad' H'->a ad H->a ad' H')(stop:∀ ad H st,a ad H->StOk K ad H st->ok st->J.stop c.length H)(go:∀ k ad H st q,a ad H->StOk K ad H st->ok st->c[k]?=aa q->∃ w v,J.go k H/\Den K ad H w q.1/\Den K ad H v q.2/\∀ x H',J.yld k H x H'->∃ pt,x=.ref pt/\H pt=ab/\H'=upd H pt (.tup [w,v]))(k m:Nat)(O:L2.St)(H:Hp)(h:LK K ok (λx y U s=>f (Zf (Zf U i x) j y) s) c a r st' E k m O H) :
  (J.stop k H/\E.nx O H)\/(J.go k H/\∃ N:L2.St->Hp->Prop,(∀ W H',N W H'->∃ R,R < m/\LK K ok (λx y U s=>f (Zf (Zf U i x) j y) s) c a r st' E (k+1) R W H')/\∀ x H',J.yld k H x H'->gTup K 2 (gCons (gName i) (gCons (gName j) gNil)) x O H' λt P=>tS K f { E with nx:=N,ct:=N,bk:=E.nx } t P):=by
 cases h with
 |@mk ad U st L En S g e p=>
  have n:=ZcP e;by_cases V:c.length<=k
  .have l:k=c.length:=by omega
   subst l;rw[List.drop_length]at e;unfold Z3 at e;rw[ao n]at e;cases e;exact .inl ⟨stop _ _ _ g S n,p O _ H (Ext.refl _ _) S En⟩
  .have l:k < c.length:=Nat.lt_of_not_le V
   obtain⟨w,v,C,G,F,T⟩:=go k _ _ _ c[k] g S n (Lg l);rw[bX l]at e;unfold Z3 at e;rw[ao n]at e;generalize c[k]=q at e G F;refine .inr ⟨C,LK K ok (λx y U s=>f (Zf (Zf U i x) j y) s) c a r st' E (k+1) (m - 1),λY X h3=>⟨m - 1,by omega,h3⟩,λx X hx=>?_⟩
   obtain⟨pt,rfl,B,rfl⟩:=T x X hx;have u:Ext ad H ad (upd H pt (.tup [w,v])):=Ext.laid B;have o:∀ {rr:Fl}{s3:Za}{E':Ends},f (Zf (Zf U i q.1) j q.2) st=aa (rr,s3)->PostS K ad (upd H pt (.tup [w,v])) rr s3 E'->gTup K 2 (gCons (gName i) (gCons (gName j) gNil)) (.ref pt) O (upd H pt (.tup [w,v])) λt P=>tS K f E' t P:=λq Z=>
    ⟨pt,_,rfl,SqT.of upd_same,rfl,_,_,rfl,_,_,rfl,rfl,ZP (((En.mono u).set i (G.mono u)).set j (F.mono u)) (S.laid B) q Z⟩
   have nxt:∀ {ρ3:Env}{st3:Za},Z3 ok (λx y U s=>f (Zf (Zf U i x) j y) s) (c.drop (k+1)) ρ3 st3=aa (r,st')->∀ (d:L2.St) (b:Li Ad) (A:Hp),Ext ad (upd H pt (.tup [w,v])) b A->StOk K b A st3->EnvOk K b A d ρ3->LK K ok (λx y U s=>f (Zf (Zf U i x) j y) s) c a r st' E (k+1) (m - 1) d A:=λe3 d b A I M Q=>
    .mk (by omega) Q M (gm _ _ _ _ (u.trans I) g) e3 (p.later (u.trans I))
   clear T go stop L V l C;split at e
   .rename_i z
    exact o z (nxt e)
   .rename_i z
    exact o z (nxt e)
   .rename_i z
    cases e;exact o z λd b A I M Q=>p d b A (u.trans I) M Q
   .rename_i z
    cases e;exact o z (p.later u)
   .exact Zb e
end
variable [ClsTab]
mutual
theorem JZ:∀ {x y:D},Zn x y=ac->x=y
 |.non,y,h=>by cases y<;>simp[Zn]at h ⊢
 |.bl a,y,h=>by cases y<;>simp[Zn]at h ⊢;exact h
 |.int a,y,h=>by cases y<;>simp[Zn]at h ⊢;exact h
 |.str a,y,h=>by cases y<;>simp[Zn]at h ⊢;exact h
 |.tup a,y,h=>by
  cases y with
  |tup b=>rw[Qe (x:=a) (y:=b) (by simpa[Zn] using h)]
  |_=>simp[Zn]at h
 |.lst a,y,h=>by cases y<;>simp[Zn]at h
 |.dct a b,y,h=>by cases y<;>simp[Zn]at h
 |.obj a,y,h=>by cases y<;>simp[Zn]at h
 |.kt a,y,h=>by cases y<;>simp[Zn]at h
 |.dic a,y,h=>by cases y<;>simp[Zn]at h
theorem Qe:∀ {x y:Li D},Zq x y=ac->x=y
 |[],y,h=>by cases y<;>simp[Zq]at h ⊢
 |a :: x,y,h=>by
  cases y with
  |nil=>simp[Zq]at h
  |cons b y=>
   have h:(Zn a b&&Zq x y)=ac:=h;rw[Ba]at h;rw[JZ h.1,Qe h.2]
end
mutual
theorem Ws:∀ {n:Nat}{x:D},okD n x=ac->Zn x x=ac
 |_,.non,_=>rfl
 |_,.bl a,_=>by simp[Zn]
 |_,.int a,_=>by simp[Zn]
 |_,.str a,_=>by simp[Zn]
 |0,.tup a,h=>by simp[okD]at h
 |n+1,.tup a,h=>Vj (n:=n) (x:=a) h
 |_,.lst a,h=>by simp[okD]at h
 |_,.dct a b,h=>by simp[okD]at h
 |_,.obj a,h=>by simp[okD]at h
 |_,.kt a,h=>by simp[okD]at h
 |_,.dic a,h=>by simp[okD]at h
theorem Vj:∀ {n:Nat}{x:Li D},ZX n x=ac->Zq x x=ac
 |_,[],_=>rfl
 |n,a :: x,h=>by
  have h:(okD n a&&ZX n x)=ac:=h;rw[Ba]at h;show(Zn a a&&Zq x x)=ac;rw[Ws h.1,Vj h.2];rfl
end
theorem XD:∀ {n:Nat}{a:Li D}{i:Nat}{d:D},ZX n a=ac->a[i]?=aa d->okD n d=ac
 |_,[],_,_,_,e=>by simp at e
 |n,x :: a,i,d,h,e=>by
  have h:(okD n x&&ZX n a)=ac:=h;rw[Ba]at h;cases i with
  |zero=>simp at e;subst e;exact h.1
  |succ i=>exact XD (i:=i) h.2 (by simpa using e)
theorem YY:∀ {a ys:Li D},Zq a ys=((ag (min a.length ys.length)).all (λi=>Zn ((a[i]?).getD .non) ((ys[i]?).getD .non))&&a.length==ys.length)
 |[],[]=>rfl
 |[],_ :: _=>by simp[Zq]
 |_ :: _,[]=>by simp[Zq]
 |x :: a,y :: ys=>by
  have b:=@YY a ys;show(Zn x y&&Zq a ys)=_;rw[b];have e:min (x :: a).length (y :: ys).length=min a.length ys.length+1:=by simp only[aQ];omega
  rw[e,List.range_succ_eq_map,bE,List.all_map];simp only[aQ];have z:(a.length+1==ys.length+1)=(a.length==ys.length):=by
   rw[bQ];simp
  rw[z,Bool.and_assoc];rfl
variable{n:Nat}{pQ:Li (Ad×Obj)}{s:Sd}{A:bm}
def Zie(X:Cx)(ad:Li Ad)(H:Hp)(v:V)(x:D):Prop:=∀ n m y,okD n x=ac->okD m y=ac->Den X.K ad H v y->x=y
def XT{n:Nat}{P:Prop}(h:okD n x=ac)(a:∀ n,okD n x=ae):P:=by rw[a]at h;cases h
def Zc4(i n:Nat):okD n (.lst i)=ae:=by cases n<;>rfl
def Zc2(ks:Li Str)(vs:Li D)(n:Nat):okD n (.dct ks vs)=ae:=by cases n<;>rfl
def Zc3(i n:Nat):okD n (.dic i)=ae:=by cases n<;>rfl
def Zc5(i n:Nat):okD n (.obj i)=ae:=by cases n<;>rfl
def ZfU(ks:Li Str)(n:Nat):okD n (.kt ks)=ae:=by cases n<;>rfl
def Zc6{a:Li D}(h:okD n (.tup a)=ac):∃ m,ZX m a=ac:=by
 cases n with
 |zero=>cases h
 |succ n=>exact⟨n,h⟩
def Den.injP(J:∀ (a:Ad) (d ys:Li V),TupAt X.K H a d->TupAt X.K H a ys->d=ys){v:V}(h:Den X.K ad H v x):Zie X ad H v x:=
 Den.rec (motive_1:=λv x _=>Zie X ad H v x) (motive_2:=λvs d _=>∀ n m ys,ZX n d=ac->ZX m ys=ac->Dens X.K ad H vs ys->d=ys)
  (λ_ _ _ _ _ h=>by cases h;rfl) (λ_ _ _ _ _ _ h=>by cases h;rfl) (λ_ _ _ _ _ _ h=>by cases h;rfl) (λ_ _ _ _ _ _ h=>by cases h;rfl)
  (λe _ j n m y b c h=>by
   obtain⟨g,b⟩:=Zc6 b;cases h with
   |tup o f=>
    cases J _ _ _ e o
    obtain⟨i,c⟩:=Zc6 c;rw[j g i _ b c f]
   |lst _=>exact XT c (Zc4 _)
   |dic _ _=>exact XT c (Zc3 _)
   |dct _ _ _ _ _=>exact XT c (Zc2 _ _)
   |obj _ _=>exact XT c (Zc5 _)
   |kt _ _ _ _ _ _=>exact XT c (ZfU _))
  (λ_ _ _ _ b _ _=>XT b (Zc4 _)) (λ_ _ _ _ _ b _ _=>XT b (Zc3 _)) (λ_ _ _ _ _ _ _ _ _ b _ _=>XT b (Zc2 _ _)) (λ_ _ _ _ _ b _ _=>XT b (Zc5 _)) (λ_ _ _ _ _ _ _ _ _ b _ _=>XT b (ZfU _))
  (λ_ _ _ _ _ h=>by cases h;rfl)
  (λ_ _ l k n m ys b c h=>by
   cases h with
   |cons p f=>
    have b:=cR.mp b;have c:=cR.mp c;rw[l n m _ b.1 c.1 p,k n m _ b.2 c.2 f]) h
def Den.inj(J:∀ (a:Ad) (b ys:Li V),TupAt X.K H a b->TupAt X.K H a ys->b=ys){v:V}{y:D}(d:okD n x=ac)(c:okD m y=ac)(h:Den X.K ad H v x)(e:Den X.K ad H v y):x=y:=h.injP J n m y d c e
theorem Dens.inj(J:∀ (a:Ad) (b ys:Li V),TupAt X.K H a b->TupAt X.K H a ys->b=ys){b ys:Li D}(d:ZX n b=ac)(c:ZX m ys=ac)(h:Dens X.K ad H vs b)(e:Dens X.K ad H vs ys):b=ys:=by
 induction vs generalizing b ys with
 |nil=>cases h;cases e;rfl
 |cons v vs g=>
  cases h with
  |cons a r=>cases e with
   |cons i f=>
    have d:=cR.mp d;have c:=cR.mp c;rw[a.inj J d.1 c.1 i,g d.2 c.2 r f]
open PySem.SeqAt in
def ZgL(I:Inv X pQ O H s):∀ (n:Nat) (x y:D) (A:bm) (B w:V) (E C:vL),okD n x=ac->okD n y=ac->A.units+n < cLine->Den X.K ad H B x->Den X.K ad H w y->RelV B E->RelV w C->EqAt A s E C (Zn x y):=by
 intro n
 induction n with
 |zero=>
  intro x y A B w E C u h hu J l k d;cases J with
  |non=>
   cases k;cases l with
   |non=>cases d;exact EqAt.same _
   |int j=>obtain⟨c,rfl⟩:=d;exact EqAt.none_int j c
   |str j=>obtain⟨c,rfl⟩:=d;exact EqAt.none_str j c
   |_=>simp[okD]at h
  |int i=>
   obtain⟨t,rfl⟩:=k;cases l with
   |non=>cases d;exact EqAt.int_none i t
   |int j=>obtain⟨c,rfl⟩:=d;exact(show Zn (.int i) (.int j)=(i==j) from by rw[bQ];simp[Zn]) ▸ EqAt.int_int i t j c
   |str j=>obtain⟨c,rfl⟩:=d;exact EqAt.int_str i t j c
   |_=>simp[okD]at h
  |str i=>
   obtain⟨t,rfl⟩:=k;cases l with
   |non=>cases d;exact EqAt.str_none i t
   |int j=>obtain⟨c,rfl⟩:=d;exact EqAt.str_int i t j c
   |str j=>obtain⟨c,rfl⟩:=d;exact(show Zn (.str i) (.str j)=(i==j) from by rw[bQ];simp[Zn]) ▸ EqAt.str_str i t j c
   |_=>simp[okD]at h
  |_=>simp[okD]at u
 |succ n ih=>
  intro x y A B w E C u h hu J l k d;cases J with
  |non=>
   cases k;cases l with
   |non=>cases d;exact EqAt.same _
   |int j=>obtain⟨c,rfl⟩:=d;exact EqAt.none_int j c
   |str j=>obtain⟨c,rfl⟩:=d;exact EqAt.none_str j c
   |tup e r=>
    cases d;obtain⟨f,_,p,_⟩:=I.tuple ((e).sq);exact EqAt.none_tuple p (by omega)
   |_=>simp[okD]at h
  |int i=>
   obtain⟨t,rfl⟩:=k;cases l with
   |non=>cases d;exact EqAt.int_none i t
   |int j=>obtain⟨c,rfl⟩:=d;exact(show Zn (.int i) (.int j)=(i==j) from by rw[bQ];simp[Zn]) ▸ EqAt.int_int i t j c
   |str j=>obtain⟨c,rfl⟩:=d;exact EqAt.int_str i t j c
   |tup e r=>
    cases d;obtain⟨f,_,p,_⟩:=I.tuple ((e).sq);exact EqAt.int_tuple i t p (by omega)
   |_=>simp[okD]at h
  |str i=>
   obtain⟨t,rfl⟩:=k;cases l with
   |non=>cases d;exact EqAt.str_none i t
   |int j=>obtain⟨c,rfl⟩:=d;exact EqAt.str_int i t j c
   |str j=>obtain⟨c,rfl⟩:=d;exact(show Zn (.str i) (.str j)=(i==j) from by rw[bQ];simp[Zn]) ▸ EqAt.str_str i t j c
   |tup e r=>
    cases d;obtain⟨f,_,p,_⟩:=I.tuple ((e).sq);exact EqAt.str_tuple i t p (by omega)
   |_=>simp[okD]at h
  |@tup a xs ds e r=>
   cases k;obtain⟨f,rv,p,_⟩:=I.tuple ((e).sq);cases l with
   |non=>cases d;exact EqAt.tuple_none p (by omega)
   |int j=>obtain⟨c,rfl⟩:=d;exact EqAt.tuple_int j c p (by omega)
   |str j=>obtain⟨c,rfl⟩:=d;exact EqAt.tuple_str j c p (by omega)
   |@tup b ys es Q F=>
    cases d;by_cases v:a=b
    .subst v
     have z:=Den.inj (λ_ _ _ e G=>I.tuple_inj e.sq G.sq) (n:=n+1) (m:=n+1) u h (Den.tup e r) (Den.tup Q F)
     cases z;rw[Ws u];exact EqAt.same _
    .obtain⟨g,o,p',_⟩:=I.tuple ((Q).sq)
     refine EqAt.of_refs v ?_;have q:=RcAt.tuples (A:=A) (s:=s) (e:=λi=>Zn ((ds[i]?).getD .non) ((es[i]?).getD .non)) p p' (by omega) λj P N=>?_
     .have e1:f.toArray.size=ds.length:=by rw[aG,<-rv.length,r.length]
      have G:g.toArray.size=es.length:=by rw[aG,<-o.length,F.length]
      rw[e1,G]at q;show RcAt A s (.ref a) (.ref b) (Zq ds es);rw[YY];exact q
     .have l1:j < ds.length:=by rw[<-r.length,rv.length];simpa using P
      have l2:j < es.length:=by rw[<-F.length,o.length];simpa using N
      have g1:ds[j]?=aa ds[j]:=Lg l1;have g2:es[j]?=aa es[j]:=Lg l2;obtain⟨U,q1,d1⟩:=r.get g1;obtain⟨T,Z,d2⟩:=F.get g2;obtain⟨M,S,Y⟩:=rv.get q1;obtain⟨L,R,W⟩:=o.get Z;have f1:f.toArray[j]=M:=by
       have:f[j]?=aa (f[j]'(by simpa using P)):=Lg _
       rw[S]at this;simpa using(av this).symm
      have f2:g.toArray[j]=L:=by
       have:g[j]?=aa (g[j]'(by simpa using N)):=Lg _
       rw[R]at this;simpa using(av this).symm
      rw[f1,f2,g1,g2];exact ih ds[j] es[j] A.in1 U T M L (XD u g1) (XD h g2) (by show A.units+1+n < cLine;omega) d1 d2 Y W
   |_=>simp[okD]at h
  |_=>simp[okD]at u
open PySem.SeqAt in
def UP(I:Inv X pQ O H s){a b:Ad}{d c:Li vL}(z:ZX n ds=ac)(y:ZX n es=ac)(hu:A.units+n+1 < cLine)(r:Dens X.K ad H xs ds)(h:Dens X.K ad H ys es)(rv:Vals xs d)(e:Vals ys c)(j:Nat)(k:j < d.toArray.size)(i:j < c.toArray.size):EqAt A.in1 s d.toArray[j] c.toArray[j] (Zn ((ds[j]?).getD .non) ((es[j]?).getD .non)):=by
 have x:j < ds.length:=by rw[<-r.length,rv.length];simpa using k
 have w:j < es.length:=by rw[<-h.length,e.length];simpa using i
 have g1:ds[j]?=aa ds[j]:=Lg x;have g2:es[j]?=aa es[j]:=Lg w;obtain⟨p,v,E⟩:=r.get g1;obtain⟨o,u,D⟩:=h.get g2;obtain⟨g,m,t⟩:=rv.get v;obtain⟨f,l,q⟩:=e.get u;have C:d.toArray[j]=g:=by
  have:d[j]?=aa (d[j]'(by simpa using k)):=Lg _
  rw[m]at this;simpa using(av this).symm
 have B:c.toArray[j]=f:=by
  have:c[j]?=aa (c[j]'(by simpa using i)):=Lg _
  rw[l]at this;simpa using(av this).symm
 rw[C,B,g1,g2];exact ZgL I n ds[j] es[j] A.in1 p o g f (XD z g1) (XD y g2) (by show A.units+1+n < cLine;omega) E D t q
open PySem.SeqAt in
def ZeV(I:Inv X pQ O H s){a b:Ad}(t:ZX n ds=ac)(o:ZX n es=ac)(hu:A.units+n+1 < cLine)(e:TupAt X.K H a xs)(r:Dens X.K ad H xs ds)(w:TupAt X.K H b ys)(f:Dens X.K ad H ys es):RcAt A s (.ref a) (.ref b) (Zq ds es)/\RcNeAt A s (.ref a) (.ref b) (!Zq ds es):=by
 obtain⟨g,rv,p,_⟩:=I.tuple (e.sq);obtain⟨d,c,m,_⟩:=I.tuple (w.sq);have v:g.toArray.size=ds.length:=by rw[aG,<-rv.length,r.length]
 have u:d.toArray.size=es.length:=by rw[aG,<-c.length,f.length]
 have q:=RcAt.tuples (A:=A) (s:=s) (e:=λi=>Zn ((ds[i]?).getD .non) ((es[i]?).getD .non)) p m (by omega) λj k h=>UP (a:=a) (b:=b) I t o hu r f rv c j k h
 have l:=RcNeAt.tuples (A:=A) (s:=s) (e:=λi=>Zn ((ds[i]?).getD .non) ((es[i]?).getD .non)) p m (by omega) λj k h=>UP (a:=a) (b:=b) I t o hu r f rv c j k h
 rw[v,u]at q l;rw[YY];exact⟨q,l⟩
end Dp
namespace Dp
open PySem PySem.Spec PyProof.Rows L2 Builtin Builtin.Str
variable [ClsTab]
section
variable{X:Cx}{tg:ax}
end
end Dp
namespace Dp
open PySem PySem.Spec PyProof.Rows L2
variable [ClsTab]
variable{X:Cx}{pQ:Li (Ad×Obj)}{s:Sd}{O:L2.St}{H:Hp}{a:Ad}{Q:VK}
section
open Builtin
open AutoSeq1 (wpAny_loadPart')
theorem WH:fillsNumberSlot (.type "tuple") "mul"=pure ae:=
 PySem.fillsNumberSlot_seq (id := "tuple.__mul__") (r:=aa (.builtin "tuple.__rmul__")) F.slot_tuple_mul.lookup (by decide +kernel) F.slot_tuple_rmul.lookup (by decide +kernel)
theorem U2:seqRepeat? (.type "tuple")=pure (aa (.builtin "tuple.__mul__")):=by
 unfold seqRepeat?
 rw[PySem.seqSlot_of (T := "tuple") (name := "__mul__") (id := "tuple.__mul__") F.slot_tuple_mul.lookup (by decide +kernel),PySem.seqSlot_of (T := "tuple") (name := "__rmul__") (id := "tuple.__rmul__") F.slot_tuple_rmul.lookup (by decide +kernel)]
 rfl
def JE(a:Int)(t:Tok)(l:Ad)(b:Array vL)(n:Nat)(dd:Ot Ad)(sl:Array (Ot vL)):Meets (Builtin.«int.__rmul__» ⟨[.int a t,.ref l],[]⟩) (λ_ R s=>s.heap.get? l=aa { cls:=.type "tuple",dict:=dd,data:=.seq b n,slots:=sl }/\R (.ok (.ret Value.notImplemented)) s):=
 .of_wp λc w A R s h=>by obtain⟨i,g,d,e,f⟩:=s;obtain⟨j,h⟩:=h;wp_walk;exact⟨_,rfl,h⟩
def ZdE(l:Ad)(a:Array vL)(n:Nat)(dd:Ot Ad)(sl:Array (Ot vL))(u:Tok) :
  Meets (Builtin.«tuple.__mul__» ⟨[.ref l,.int 1 u],[]⟩) (λ_ R s=>s.heap.get? l=aa { cls:=.type "tuple",dict:=dd,data:=.seq a n,slots:=sl }/\R (.ok (.ret (bq l))) s):=
 .of_wp λb w A R s h=>by
  obtain⟨i,g,d,e,f⟩:=s;obtain⟨c,h⟩:=h;have j:=AutoSeq1.idx_int;wp_walk using wpAny_loadPart' c;exact⟨_,rfl,h⟩
def ZdD(l:Ad)(items:Array vL)(n:Nat)(dd:Ot Ad)(sl:Array (Ot vL))(k:Int)(u:Tok)(e:¬items.isEmpty=ac)(c:k<=0)(p:-1000<=k) :
  Meets (Builtin.«tuple.__mul__» ⟨[.ref l,.int k u],[]⟩) (λ_ R s=>s.heap.get? l=aa { cls:=.type "tuple",dict:=dd,data:=.seq items n,slots:=sl }/\R (.ok (.ret (bq s.heap.objs.size))) { s with heap:=s.heap.push { cls:=.type "tuple",data:=.seq #[] } }):=
 .of_wp λb w A R s h=>by
  obtain⟨o,g,d,j,m⟩:=s;obtain⟨a,h⟩:=h;have q:=AutoSeq1.idx_int;have i:(aj (k < -(2 ^ 63))||aj (k>=2 ^ 63))=ae:=by rw[aH (by omega),aH (by omega)];rfl
  have f:(items.isEmpty||k==1)=ae:=by
   have:(k==1)=ae:=by rw[cL];omega
   rw[this,dD];simpa using e
  have r:(aj (k<=0)||items.isEmpty)=ac:=by rw[aP c];rfl
  wp_walk using wpAny_loadPart' a
  refine wpAny_ite_false (by rw[i];rfl) ?_
  wp_walk using wpAny_loadPart' a
  refine wpAny_ite_false (by rw[f];rfl) ?_
  wp_walk using wpAny_loadPart' a
  exact⟨_,rfl,h⟩
def ZdF(l:Ad)(items:Array vL)(n:Nat)(dd:Ot Ad)(sl:Array (Ot vL))(k:Int)(u:Tok)(b:items.size=1)(y:2<=k)(x:k<=1000) :
  Meets (Builtin.«tuple.__mul__» ⟨[.ref l,.int k u],[]⟩) (λ_ R s=>s.heap.get? l=aa { cls:=.type "tuple",dict:=dd,data:=.seq items n,slots:=sl }/\R (.ok (.ret (bq s.heap.objs.size))) { s with heap:=s.heap.push { cls:=.type "tuple",data:=.seq ((af k.toNat items).foldl (λe c=>e++c) #[]) } }):=
 .of_wp λf w A R s h=>by
  obtain⟨v,g,d,r,t⟩:=s;obtain⟨a,h⟩:=h;have B:=AutoSeq1.idx_int;have q:(aj (k < -(2 ^ 63))||aj (k>=2 ^ 63))=ae:=by rw[aH (by omega),aH (by omega)];rfl
  have i:items.isEmpty=ae:=by
   rw[Array.isEmpty_eq_false_iff];intro z;rw[z]at b;simp at b
  have p:(items.isEmpty||k==1)=ae:=by
   have:(k==1)=ae:=by rw[cL];omega
   rw[this,dD];exact i
  have o:(aj (k<=0)||items.isEmpty)=ae:=by rw[aH (by omega),i];rfl
  have m:aj ((items.size:Int) * k > (2 ^ 63 - 1) / 8)=ae:=by rw[b];exact aH (by omega)
  have j:Tuple.tupleTooMany ((items.size:Int) * k)=ae:=by
   unfold Tuple.tupleTooMany;rw[b];exact aH (by have:(aw:Int)>=1000:=(by decide);omega)
  have C:aj (((af k.toNat items).foldl (λe c=>e++c) #[]).size > aw)=ae:=by
   rw[AutoListH.size_joined];refine aH ?_;have:aw>=1000:=by decide
   simp only[b,Array.size_empty];omega
  wp_walk using wpAny_loadPart' a
  refine wpAny_ite_false (by rw[q];rfl) ?_
  wp_walk using wpAny_loadPart' a
  refine wpAny_ite_false (by rw[p];rfl) ?_
  wp_walk using wpAny_loadPart' a
  refine wpAny_ite_false (by rw[o];rfl) ?_
  wp_walk using wpAny_loadPart' a
  refine wpAny_ite_false m ?_
  wp_walk using wpAny_loadPart' a
  refine wpAny_ite_false (by rw[j];rfl) ?_
  wp_walk using wpAny_loadPart' a
  exact⟨_,rfl,h⟩
theorem ZeW{v:V}{k:Int}{t:Tok}(I:L2.Inv X pQ O H s)(L:TupAt X.K H a [v])(N:k<=1000)(M:-1000<=k)(E:k=1->Q (.ref a) H)(D:∀ p,H p=ab->Q (.ref p) (upd H p (.tup (af k.toNat v)))):az (a0 X.prog X.w) X.A (bo .Mult (.ref a) (.int k t)) (EP X pQ O Q) X.xe s:=by
 obtain⟨J,r,G,_⟩:=I.tuple (L.sq);obtain⟨u,rfl,B⟩:=r.one;obtain⟨⟨Y,dd,W,sl⟩,d,l,n,i⟩:=id G;simp only at l i;subst l i;have f:∀ c:Li vL,Vals (af k.toNat v) c->EP X pQ O Q (.ref s.heap.objs.size) { s with heap:=s.heap.push { cls:=.type "tuple",data:=.seq c.toArray } }:=λc C=>
  ⟨.ref s.heap.objs.size,_,I.laid (t':=s.toks) (o:=.tup (af k.toNat v)) (λb S q=>aO _ q) (aE _) ⟨by rw[cX];exact aR (show k.toNat<=1000 by omega) (by decide),c,C,IsTup.new _ _⟩,rfl,D _ (I.hok.fresh (aE _))⟩
 refine wpAny_binaryOp_repeat_ref (T := "tuple") (U := "int") (by decide) ⟨_,d,rfl⟩ (λy=>typeIs_int y k t) WH F.fills_int_mul F.slot_int_rmul U2 F.slot_int_index.lookup
  (call_meets F.slot_int_rmul (typeIs_int s k t) F.entry_int_rmul (F.args_int_rmul_2 _ _) (JE k t a _ n dd sl) ⟨d,rfl,⟨_,d,rfl⟩,?_⟩)
 by_cases P:k=1
 .subst P
  exact call_meets F.slot_tuple_mul ⟨_,d,rfl⟩ F.entry_tuple_mul (F.args_tuple_mul_2 _ _) (ZdE a _ n dd sl t) ⟨d,⟨.ref a,H,I,rfl,E rfl⟩⟩
 .by_cases R:k<=0
  .refine call_meets F.slot_tuple_mul ⟨_,d,rfl⟩ F.entry_tuple_mul (F.args_tuple_mul_2 _ _) (ZdD a _ n dd sl k t (by simp) R M) ⟨d,?_⟩
   have z:k.toNat=0:=by omega
   exact f [] (by rw[z];exact .nil)
  .refine call_meets F.slot_tuple_mul ⟨_,d,rfl⟩ F.entry_tuple_mul (F.args_tuple_mul_2 _ _) (ZdF a _ n dd sl k t (by simp) (by omega) N) ⟨d,?_⟩
   have e:List.foldl (λx m=>x++m) #[] (af k.toNat [u].toArray)=(af k.toNat u).toArray:=by
    have h:=foldl_rep [u] k.toNat [];rw[dE]at h;rw[show([]:Li vL).toArray=#[] from rfl]at h;rw[h]
    congr 1
    generalize k.toNat=j
    induction j with
    |zero=>rfl
    |succ j g=>rw[cK,cY,g,cK];rfl
   rw[e];refine f _ ?_;generalize k.toNat=j
   induction j with
   |zero=>exact .nil
   |succ j g=>exact .cons B g
end
def YD:Zp<=aw:=by decide
variable{i j:Int}{ys vs:Li V}{op:Operator}{ds:Li D}{ad:Li Ad}{d:D}{st:Za}{lo hi:Ot Int}{w:bg}{K:Fg}
variable{X:Cx}
def ZcL(h:Z9 i=ac):-(2 ^ 64) < i/\i < 2 ^ 64:=by
 unfold Z9 at h;rw[Ba]at h;exact⟨am h.1,am h.2⟩
def Zd5{b:Ad}{c:Li V}(I:Inv X pQ O H s)(r:TupAt X.K H a c)(q:TupAt X.K H b ys)(C:c.length+ys.length<=aw)(x:c=[]->Q (.ref b) H)(v:ys=[]->Q (.ref a) H)(u:∀ p,H p=ab->Q (.ref p) (upd H p (.tup (c++ys)))):az (a0 X.prog X.w) X.A (bo .Add (.ref a) (.ref b)) (EP X pQ O Q) X.xe s:=by
 by_cases j:c=[]
 .obtain⟨i,t,z,_⟩:=I.tuple (r.sq)
  obtain⟨d,G,y,_⟩:=I.tuple (q.sq);have D:i=[]:=t.nil_iff.mpr j;subst D;obtain⟨⟨M,dd,J,sl⟩,l,o,n,m⟩:=id z;obtain⟨⟨L,k,E,h⟩,e,g,B,f⟩:=id y;simp only at o m g f;subst o m g f;exact concat_meets ⟨_,l,rfl⟩ ⟨_,e,rfl⟩ noFill_tuple_add seq_tuple_add PySem.F.slot_tuple_add PySem.F.entry_tuple_add (PySem.F.args_tuple_add_2 _ _)
   (tuple_addW0 a b #[] d.toArray n B dd k sl h rfl) ⟨l,e,⟨.ref b,H,I,rfl,x j⟩⟩
 .exact op_catT pQ s O H (.ref a) (.ref b) _ _ Q I rfl rfl ⟨a,b,c,ys,rfl,rfl,(r).sq,(q).sq,j,C,v,λ_=>u⟩
def ZaS(hi:0<=i)(a:0<=j):Builtin.bitAnd i j=((i.toNat &&& j.toNat:Nat):Int):=by
 unfold Builtin.bitAnd;simp[hi,a]
def ZaT(hi:0<=i)(a:j < 0):Builtin.bitAnd i j=i - ((i.toNat &&& (-j - 1).toNat:Nat):Int):=by
 unfold Builtin.bitAnd;rw[aP hi,aH (by omega)]
 rfl
def ZbJ(hi:0<=i)(b:0<=j):Builtin.bitOr i j=((i.toNat ||| j.toNat:Nat):Int):=by
 unfold Builtin.bitOr;have n:∀ {k:Int},0<=k->aj (0<=Builtin.bitNot k)=ae:=λ{k} h=>by unfold Builtin.bitNot;exact aH (by omega)
 have a:∀ k:Int,Builtin.bitNot (Builtin.bitNot k)=k:=λk=>by unfold Builtin.bitNot;omega
 have e:Builtin.bitAnd (Builtin.bitNot i) (Builtin.bitNot j)=Builtin.bitNot ((Builtin.bitNot (Builtin.bitNot i)).toNat ||| (Builtin.bitNot (Builtin.bitNot j)).toNat:Nat):=by
  unfold Builtin.bitAnd;rw[n hi,n b]
 rw[e,a,a,a]
def ZeO{k:Int}{v u:vL}(I:L2.Inv X pQ O H s)(c:RelV (.int i) v)(b:RelV (.int j) u)(e:ZbH op i j=aa k)(p:Q (.int k) H) :
  az (a0 X.prog X.w) X.A (bo op v u) (EP X pQ O Q) X.xe s:=by
 unfold ZbH at e;split at e
 .cases e
  exact op_add pQ s O H _ _ v u Q I c b ⟨_,_,rfl,rfl,p⟩
 .cases e
  exact op_sub pQ s O H _ _ v u Q I c b ⟨_,_,rfl,rfl,p⟩
 .split at e
  .rename_i a
   cases e;refine op_mul pQ s O H _ _ v u Q I c b ⟨_,_,rfl,rfl,?_,p⟩;rw[cG]at a;exact a.elim (λz=>.inl (ZcL z)) λz=>.inr (ZcL z)
  .cases e
 .split at e
  .rename_i a
   cases e;exact op_fdiv pQ s O H _ _ v u Q I c b ⟨_,_,rfl,rfl,a,p⟩
  .split at e
   .rename_i a
    cases e;exact op_fdivN pQ s O H _ _ v u Q I c b ⟨_,_,rfl,rfl,⟨by omega,by omega⟩,p⟩
   .cases e
 .split at e
  .rename_i a
   cases e;exact op_mod pQ s O H _ _ v u Q I c b ⟨_,_,rfl,rfl,a,p⟩
  .split at e
   .rename_i a
    cases e;exact op_modN pQ s O H _ _ v u Q I c b ⟨_,_,rfl,rfl,(by omega),p⟩
   .cases e
 .split at e
  .rename_i a
   cases e;refine op_and pQ s O H _ _ v u Q I c b ⟨_,_,rfl,rfl,?_⟩;dsimp only;rw[ZaS a.1 a.2];exact p
  .split at e
   .rename_i a
    cases e;refine op_and pQ s O H _ _ v u Q I c b ⟨_,_,rfl,rfl,?_⟩;dsimp only;rw[ZaT a.1 a.2];exact p
   .cases e
 .split at e
  .rename_i a
   cases e;refine op_or pQ s O H _ _ v u Q I c b ⟨_,_,rfl,rfl,?_⟩;dsimp only;rw[ZbJ a.1 a.2];exact p
  .cases e
 .cases e
def Za1{b:Ad}{i:Li V}(I:L2.Inv X pQ O H s)(D:SqL X.K H a i)(C:SqL X.K H b ys)(J:i.length+ys.length<=aw)(q:∀ p,H p=ab->Q (.ref p) (upd H p (.lst (i++ys)))):az (a0 X.prog X.w) X.A (bo .Add (.ref a) (.ref b)) (EP X pQ O Q) X.xe s:=by
 obtain⟨d,r,z,_⟩:=I.list D;obtain⟨c,m,y,_⟩:=I.list C;obtain⟨⟨cls,dd,v,sl⟩,o,u,n,t⟩:=id z.isList;obtain⟨⟨x,k,l,j⟩,f,h,B,g⟩:=id y.isList;simp only at u t h g;subst u t h g;have e:d.toArray++c.toArray=(d++c).toArray:=by simp
 have G:=r.length;have E:=m.length;refine concat_meets ⟨_,o,rfl⟩ ⟨_,f,rfl⟩ noFill_list_add seq_list_add PySem.F.slot_list_add PySem.F.entry_list_add (PySem.F.args_list_add_2 _ _) (list_addW a b d.toArray c.toArray n B dd k sl j (by simp;omega)) ⟨o,f,?_⟩
 rw[e];exact⟨.ref _,_,I.lnew (t':=s.toks) (r.append m) (by rw[aI];omega),rfl,q _ I.fresh⟩
def QY(h:Qy op=ac):op=.Add:=by cases op<;>first|rfl|cases h
def ZcU(h:ZcC op=ac):op=.Mult:=by cases op<;>first|rfl|cases h
def ZeN:OpR X (bo op) (rD X.K (Q8 op)):=by
 intro pQ s O H x y v u Q I r o h;obtain⟨ad,st,T,R,d,st',S,m,l,e,p⟩:=h;unfold Q8 at e;split at e
 .split at e
  .rename_i k q
   cases e;cases m;cases l
   exact ZeO I r o q (p.at S (.int _))
  .exact Zb e
 .split at e
  .rename_i i
   cases QY i.1
   have g:=i.2;cases e;obtain⟨a,G,rfl,j,c⟩:=m.ofTup;obtain⟨b,ys,rfl,E,A⟩:=l.ofTup;cases r;cases o
   refine Zd5 I j E (by rw[c.length,A.length];exact aR g YD) (λz=>?_) (λz=>?_) λq f=>?_
   .subst z;cases c
    exact p.at S l
   .subst z;cases A
    rw[bG]at p;exact p.at S m
   .exact p _ ad _ (Ext.laid f) (S.laid f) (.tup (.inl upd_same) ((c.append A).mono (Ext.laid f)))
  .exact Zb e
 .split at e
  .rename_i i
   cases ZcU i
   obtain⟨a,G,rfl,j,c⟩:=m.ofTup;cases l;cases r;obtain⟨t,rfl⟩:=o;cases c with
   |nil=>exact Zb e
   |cons B c=>cases c with
    |cons _ _=>exact Zb e
    |nil=>
     have e:(if _/\_ then aa (D.tup (af _ _),st) else ab)=aa (d,st'):=e
     split at e
     .rename_i g
      cases e;refine ZeW I j g.1 g.2 (λz=>?_) λq f=>p _ ad _ (Ext.laid f) (S.laid f) (.tup (.inl upd_same) ((Dens.rep B _).mono (Ext.laid f)))
      subst z;exact p.at S (.tup j (.cons B .nil))
     .exact Zb e
  .exact Zb e
 .split at e
  .rename_i n
   cases QY n
   unfold Zd4 at e;split at e
   .rename_i G ys C J
    split at e
    .rename_i g
     cases e;obtain⟨a,rfl,j⟩:=m.ofLst;obtain⟨b,rfl,E⟩:=l.ofLst;obtain⟨vs,c,F⟩:=S.list j C;obtain⟨P,A,M⟩:=S.list E J;cases r;cases o
     refine Za1 I F M (by rw[c.length,A.length];exact aR g YD) λq f=>?_
     refine p _ (ad++[q]) _ (Ext.push f) (S.push f (c.append A)) (.newL ?_);rw[<-S.len];exact Zo
    .exact Zb e
   .exact Zb e
  .exact Zb e
 .split at e
  .rename_i n
   cases ZcU n
   unfold Zi8 at e;split at e
   .rename_i z C
    split at e
    .rename_i g
     cases e;obtain⟨a,rfl,j⟩:=m.ofLst;obtain⟨vs,c,F⟩:=S.listM j C;cases l;cases c with
     |cons B c=>
      cases c;rename_i w;refine op_rep pQ s O H _ _ v u Q I r o ⟨a,_,[w],rfl,rfl,F,by omega,by omega,?_,λq f=>?_⟩
      .rw[eG,Nat.one_mul]
       exact aR (show _<=1000 by omega) (by decide)
      .have N:∀ k:Nat,(af k [w]).flatten=af k w:=λk=>by
        induction k with
        |zero=>rfl
        |succ k L=>rw[cK,cY,L,cK];rfl
       rw[N];refine p _ (ad++[q]) _ (Ext.push f) (S.push f (Dens.rep B _)) (.newL ?_);rw[<-S.len];exact Zo
    .exact Zb e
   .exact Zb e
  .exact Zb e
 .split at e
  .rename_i g
   cases QY g.1
   cases e;cases m;cases l
   exact op_add_str pQ s O H _ _ v u Q I r o ⟨_,_,rfl,rfl,aR g.2 YD,p.at S (.str _)⟩
  .exact Zb e
 .exact Zb e
def Zft:UnR X (unaryOp .USub) (rU1 X.K Zg8):=by
 intro pQ s O H x v Q I a h;obtain⟨ad,st,c,d,st',S,b,e,p⟩:=h;unfold Zg8 at e;split at e
 .cases e;cases b
  exact un_neg pQ s O H _ v Q I a ⟨_,rfl,p.at S (.int _)⟩
 .exact Zb e
def Zfs:UnR X (unaryOp .Invert) (rU1 X.K ZgX):=by
 intro pQ s O H x v Q I a h;obtain⟨ad,st,c,d,st',S,b,e,p⟩:=h;unfold ZgX at e;split at e
 .cases e;cases b
  exact un_inv pQ s O H _ v Q I a ⟨_,rfl,p.at S (.int _)⟩
 .exact Zb e
def Q3{a:Li V}(r:Dens X.K ad H a ds)(e:atD ds i=aa d):∃ v,atI a i=aa v/\Den X.K ad H v d:=by
 unfold atD at e;have b:L2.ixN a.length i=Dp.ixN ds.length i:=by rw[r.length];rfl
 cases q:Dp.ixN ds.length i with
 |none=>rw[q]at e;cases e
 |some j=>
  rw[q]at e;obtain⟨v,f,c⟩:=r.get (i:=j) e;refine⟨v,?_,c⟩;unfold atI;rw[b,q];exact f
theorem Wl{ad:Li Ad}{H:Hp}{k:Str}:∀ {ks:Li Str}{vs:Li V}{ds:Li D},Dens X.K ad H vs ds->ks.length=vs.length->
  (∃ v d,valV ((ks.zip vs).map λp=>((Sum.inr p.1:Key),p.2)) (Sum.inr k)=aa v/\Ya ks ds k=aa d/\Den X.K ad H v d)\/(valV ((ks.zip vs).map λp=>((Sum.inr p.1:Key),p.2)) (Sum.inr k)=ab/\Ya ks ds k=ab)
 |[],_,_,.nil,_=>.inr ⟨rfl,rfl⟩
 |[],_,_,.cons _ _,h=>by simp at h
 |_ :: _,_,_,.nil,h=>by simp at h
 |x :: ks,v :: vs,d :: ds,.cons b r,h=>by
  by_cases e:x=k
  .subst e
   exact .inl ⟨v,d,valV_pos rfl,by simp[Ya],b⟩
  .have a:=Wl (k:=k) r (by simpa using h)
   have f:valV (((x :: ks).zip (v :: vs)).map λp=>((Sum.inr p.1:Key),p.2)) (Sum.inr k)=valV ((ks.zip vs).map λp=>((Sum.inr p.1:Key),p.2)) (Sum.inr k):=valV_neg (p:=(Sum.inr x,v)) (by intro z;exact e (Sum.inr.inj z))
   have c:Ya (x :: ks) (d :: ds) k=Ya ks ds k:=by simp[Ya,e]
   rw[f,c];exact a
def Jf{ks:Li D}{a:Nat}{o:Ot D}(h:dAt ks a st=aa o):∃ i j b d,ks=[.int i,.int j]/\(st[a]?=aa (b,d)/\okH d=ac)/\o=Yf d i j:=by
 cases ks with
 |nil=>exact Zb h
 |cons x ks=>cases ks with
  |nil=>exact Zb h
  |cons y ks=>cases ks with
   |cons _ _=>exact Zb h
   |nil=>
    refine Z0 (P:=λo=>∃ i j b d,[x,y]=[D.int i,.int j]/\(st[a]?=aa (b,d)/\okH d=ac)/\o=Yf d i j) h λp c f e=>?_
    refine Z0 (P:=λp:Int×Int=>∃ i j b d,[x,y]=[D.int i,.int j]/\(st[a]?=aa (b,d)/\okH d=ac)/\Yf c.2 p.1 p.2=Yf d i j) f λi j hi g=>?_
    have e:st[a]?=aa c/\okH c.2=ac:=by
     unfold J2 at e;split at e
     .split at e
      .rename_i z;cases e;exact⟨by assumption,z⟩
      .exact Zb e
     .exact Zb e
    exact⟨i,j,c.1,c.2,by rw[Zag hi,Zag g],e,rfl⟩
def Wf{y:V}(a:Den X.K ad H y (.tup [.int i,.int j])):∃ b,y=.ref b/\SqT X.K H b (([.inl i,.inl j]:Li Key).map kV):=by
 obtain⟨b,f,rfl,c,r⟩:=a.ofTup;cases r with
 |cons e r=>cases r with
  |cons d r=>cases r;cases e;cases d;exact⟨b,rfl,c.sq⟩
def Zim{x:Str}(q:atD ((chS x).map D.str) i=aa d):∃ c,atI x.cps.toList i=aa c/\d=.str ⟨#[c]⟩:=by
 unfold atD at q;unfold atI;have b:((chS x).map D.str).length=x.cps.toList.length:=by simp[chS]
 rw[b]at q;show ∃ c,(Dp.ixN x.cps.toList.length i).bind (λj=>x.cps.toList[j]?)=aa c/\_
 cases e:Dp.ixN x.cps.toList.length i with
 |none=>rw[e]at q;cases q
 |some j=>
  rw[e]at q;have q:((chS x).map D.str)[j]?=aa d:=q;unfold chS at q;rw[aV,aV]at q;show ∃ c,x.cps.toList[j]?=aa c/\_;cases a:x.cps.toList[j]? with
  |none=>rw[a]at q;cases q
  |some c=>rw[a]at q;cases q;exact⟨c,rfl,rfl⟩
def ZjK(hu:X.A.units+64 < cLine):IxR X (rD X.K ixR):=by
 intro f slice pQ s O H x y v u Q I t m h C;obtain⟨ad,st,dx,dy,d,st',S,B,z,e,p⟩:=h;unfold ixR at e;split at e
 .rename_i d' q
  cases e;unfold ixD at q;split at q
  .obtain⟨a,D,rfl,l,r⟩:=B.ofTup
   cases z;obtain⟨w,k,g⟩:=Q3 r q;exact ix_tup f slice pQ s O H _ _ v u Q I t m ⟨a,D,_,w,rfl,rfl,(l).sq,k,p.at S g⟩ C
  .split at q
   .rename_i E
    obtain⟨a,rfl,l⟩:=B.ofLst;cases z;obtain⟨D,r,sq⟩:=S.list l E;obtain⟨w,k,g⟩:=Q3 r q;exact ix_list f slice pQ s O H _ _ v u Q I t m ⟨a,D,_,w,rfl,rfl,sq,k,p.at S g⟩ C
   .exact Zb q
  .obtain⟨a,vs,rfl,l,N,r⟩:=B.ofDct
   cases z;rcases Wl r N with⟨w,Z,k,g,J⟩|⟨_,g⟩
   .rw[g]at q
    cases q;exact ix_dct f slice pQ s O H _ _ v u Q I t m ⟨a,_,Sum.inr _,w,rfl,rfl,l,k,p.at S J⟩ C
   .rw[g]at q;cases q
  .obtain⟨a,o,F,n,rfl,Y,W,V,U,T⟩:=B.ofKt
   cases z;obtain⟨w,k,g⟩:=Q3 (Up _) q;exact ix_tup f slice pQ s O H _ _ v u Q I t m ⟨a,_,_,w,rfl,rfl,.inr ⟨o,F,n,Y,W.1,V,U,T⟩,k,p.at S g⟩ C
  .refine j_e q λq=>?_
   obtain⟨i,j,bb,es,rfl,⟨E,G⟩,q⟩:=Jf q;obtain⟨a,rfl,l,M⟩:=B.ofDic;obtain⟨kvs,r,P,_⟩:=S.dict l M E G;obtain⟨b,rfl,R⟩:=Wf z;rcases XM r with⟨w,Z,k,g,J⟩|⟨_,g⟩
   .rw[g]at q
    cases q;exact ix_dT (by omega) f slice pQ s O H _ _ v u Q I t m ⟨a,b,kvs,_,w,rfl,rfl,R,P,k,p.at S J⟩ C
   .rw[g]at q;cases q
  .split at q
   .rename_i L
    cases B;cases z
    obtain⟨c,k,rfl⟩:=Zim q;exact ix_str f slice pQ s O H _ _ v u Q I t m ⟨_,_,c,rfl,rfl,aR L YD,k,p.at S (.str _)⟩ C
   .exact Zb q
  .exact Zb q
 .exact Zb e
def Y1(n d:Nat)(o:Ot Int):Dp.sIx n d o=HT.sIx n d o:=by cases o<;>rfl
def ZbW{a:Li V}(r:Dens X.K ad H a ds):Dens X.K ad H (cutV a lo hi) (Xu ds lo hi):=by
 unfold cutV Xu;rw[<-r.length,Y1,Y1];exact(r.drop _).take _
def V2{prog:a1}{A:bm}{E:vL->Sd->Prop}{t sl:Ad}{a:Array vL}{i g:vL}{Q:vL->Sd->Prop}(c:IsTup s.heap t a)(k:s.heap.IsSliceOf sl i g .none)(m:IsPart i lo)(l:IsPart g hi)(j:HT.sIx a.size 0 lo=0/\HT.sIx a.size a.size hi=a.size)(h:Q (.ref t) s):az (a0 prog w) A (getItem (.ref t) (.ref sl)) Q E s:=by
 obtain⟨n,d,e,o⟩:=id k;have f:s.TypeIs (.ref sl) "slice":=⟨n,d,e⟩;unfold getItem
 try with_reducible refine wpAny_holding ?_
 first|refine aA (aB ?_)|skip
 refine aA (wpAny_sequenceKey c.typeIs (by decide) ?_)
 refine aA (wpAny_callSpecial?_slot (name:=Str.ofString "__getitem__") c.typeIs PyProof.Rows.slot_tuple_getitem
  (wpAny_call_entry PyProof.Rows.slot_tuple_getitem c.typeIs PyProof.Rows.entry_tuple_getitem ?_ (PyProof.Rows.args_tuple_getitem _ _)))
 show az _ _ (Builtin.Tuple.tupleItemsOf (.ref t) >>= _) _ _ s;refine aA (tupleItemsOf_ c ?_);refine aA (wpAny_typeOf f ?_);rw[ao (by decide)]
 refine aA (HT.sliceApplied_gen k m l ?_);rw[j.1,j.2];have b:(((0:Nat):Int)==0&&(1:Int)==1&&(a.size - 0)==a.size)=ac:=by simp
 show az _ _ (if (((0:Nat):Int)==0&&(1:Int)==1&&(a.size - 0)==a.size)=ac then _ else _) _ _ s
 rw[ao b];unfold Builtin.Tuple.tupleIsExact
 wp_walk using wpAny_typeOf c.typeIs
 exact⟨_,rfl,aB h⟩
def Zdw:SlR X (λx lo hi H Q=>∃ a b,x=.ref a/\SqT X.K H a b/\(HT.sIx b.length 0 lo=0/\HT.sIx b.length b.length hi=b.length)/\Q (.ref a) H):=by
 intro pQ s O H x v n m lo hi sl Q I f l i g h;obtain⟨a,b,rfl,j,k,q⟩:=h;cases f;obtain⟨d,r,e,o⟩:=I.tuple j;have c:d.toArray.size=b.length:=by rw[aG];exact r.length.symm
 refine⟨"tuple",_,PyProof.Rows.slot_tuple_getitem.lookup,e.typeIs,?_⟩;exact V2 e l i g (by rw[c];exact k) ⟨.ref a,H,I,rfl,q⟩
def ZkM:SlR X (rSl X.K):=by
 intro pQ s O H x v j i lo hi sl Q I k o m l h;obtain⟨ad,st,u,d,st',S,g,e,p⟩:=h;unfold Ym at e;split at e
 .rename_i ds
  split at e
  .rename_i n
   cases e;obtain⟨a,c,rfl,f,r⟩:=g.ofTup;refine Zdw pQ s O H _ v j i lo hi sl Q I k o m l ⟨a,c,rfl,f.sq,?_,p.at S g⟩;rw[r.length,<-Y1,<-Y1];exact n
  .rename_i n
   cases e;obtain⟨a,c,rfl,f,r⟩:=g.ofTup;refine sl_tup pQ s O H _ v j i lo hi sl Q I k o m l ⟨a,c,rfl,(f).sq,?_,λq b=>p _ ad _ (Ext.laid b) (S.laid b) (.tup (.inl upd_same) ((ZbW r).mono (Ext.laid b)))⟩
   rw[r.length,<-Y1,<-Y1];exact n
 .split at e
  .rename_i t
   cases e;obtain⟨a,rfl,f⟩:=g.ofLst;obtain⟨c,r,sq⟩:=S.list f t;refine sl_list pQ s O H _ v j i lo hi sl Q I k o m l ⟨a,c,rfl,sq,λq b=>p _ (ad++[q]) _ (Ext.push b) (S.push b (ZbW r)) (.newL ?_)⟩
   rw[<-S.len];exact Zo
  .exact Zb e
 .exact Zb e
def Vu(h:Dens X.K ad H vs [d]):∃ v,vs=[v]/\Den X.K ad H v d:=by
 cases h with
 |cons h r=>cases r;exact⟨_,rfl,h⟩
def ZfD{e:D}(h:Dens X.K ad H vs [d,e]):∃ v w,vs=[v,w]/\Den X.K ad H v d/\Den X.K ad H w e:=by
 cases h with
 |cons h r=>
  cases r with
  |cons a r=>cases r;exact⟨_,_,rfl,h,a⟩
def Yt{g:D->Za->Res}{r:D×Za}(h:on1 g ds st=aa r):∃ d,ds=[d]/\g d st=aa r:=by
 unfold on1 at h;split at h
 .exact⟨_,rfl,h⟩
 .exact Zb h
def Uk{g:D->D->Za->Res}{r:D×Za}(h:on2 g ds st=aa r):∃ d e,ds=[d,e]/\g d e st=aa r:=by
 unfold on2 at h;split at h
 .exact⟨_,_,rfl,h⟩
 .exact Zb h
def ZaW:CallR X (.builtin "len") (rC X.K (on1 ZcK)):=by
 intro pQ s O H A b Q I r h;obtain⟨ad,st,ds,d,st',S,l,e,p⟩:=h;obtain⟨x,rfl,z⟩:=Yt e;have e:=z;obtain⟨v,rfl,c⟩:=Vu l;unfold ZcK at e;split at e
 .rename_i n q
  cases e;unfold Zg2 at q;split at q
  .cases q
   obtain⟨a,ys,rfl,i,f⟩:=c.ofTup;refine call_len_seq pQ s O H _ b Q I r ⟨a,ys,rfl,.inr ((i).sq),?_⟩;rw[f.length];exact p.at S (.int _)
  .split at q
   .rename_i j
    cases q;obtain⟨a,rfl,i⟩:=c.ofLst;obtain⟨ys,f,sq⟩:=S.list i j;refine call_len_seq pQ s O H _ b Q I r ⟨a,ys,rfl,.inl sq,?_⟩;rw[f.length];exact p.at S (.int _)
   .cases q
  .cases q
   obtain⟨a,o,g,n,rfl,y,w,u,t,m⟩:=c.ofKt;refine call_len_seq pQ s O H _ b Q I r ⟨a,_,rfl,.inr (.inr ⟨o,g,n,y,w.1,u,t,m⟩),?_⟩;rw[aD];exact p.at S (.int _)
  .split at q
   .rename_i k
    cases q;cases c
    exact call_len pQ s O H _ b Q I r ⟨_,_,rfl,⟨aR k YD,rfl⟩,p.at S (.int _)⟩
   .cases q
  .cases q
 .exact Zb e
def Qh:CallR X (.type "tuple") (rC X.K (on1 U9)):=by
 intro pQ s O H n g Q I r h;obtain⟨ad,st,ds,d,st',S,k,e,p⟩:=h;obtain⟨x,rfl,m⟩:=Yt e;have e:=m;obtain⟨v,rfl,b⟩:=Vu k;unfold U9 at e;split at e
 .cases e
  obtain⟨a,ys,rfl,f,i⟩:=b.ofTup;exact call_tuple_of pQ s O H _ g Q I r ⟨a,ys,rfl,.inr ⟨(f).sq,p.at S b⟩⟩
 .split at e
  .rename_i j
   cases e;obtain⟨a,rfl,f⟩:=b.ofLst;obtain⟨ys,i,sq⟩:=S.list f j;exact call_tuple_of pQ s O H _ g Q I r ⟨a,ys,rfl,.inl ⟨sq,λl c=>p _ ad _ (Ext.laid c) (S.laid c) (.tup (.inl upd_same) (i.mono (Ext.laid c)))⟩⟩
  .cases e
 .cases e
def Jc:CallR X (.type "list") (rC X.K (on1 ZcN)):=by
 intro pQ s O H n g Q I r h;obtain⟨ad,st,ds,d,st',S,k,e,p⟩:=h;obtain⟨x,rfl,m⟩:=Yt e;have e:=m;obtain⟨v,rfl,i⟩:=Vu k;unfold ZcN at e;split at e
 .cases e
  obtain⟨a,ys,rfl,f,c⟩:=i.ofTup;refine call_list_of pQ s O H _ g Q I r ⟨a,ys,rfl,.inr ((f).sq),λl b=>p _ (ad++[l]) _ (Ext.push b) (S.push b c) (.newL ?_)⟩
  rw[<-S.len];exact Zo
 .split at e
  .rename_i j
   cases e;obtain⟨a,rfl,f⟩:=i.ofLst;obtain⟨ys,c,sq⟩:=S.list f j;refine call_list_of pQ s O H _ g Q I r ⟨a,ys,rfl,.inl sq,λl b=>p _ (ad++[l]) _ (Ext.push b) (S.push b c) (.newL ?_)⟩
   rw[<-S.len];exact Zo
  .cases e
 .cases e
def ZaV:CallR X (.type "int") (rC X.K (on1 ZgV)):=by
 intro pQ s O H g a Q I r h;obtain⟨ad,st,ds,d,st',S,c,e,p⟩:=h;obtain⟨x,rfl,f⟩:=Yt e;have e:=f;obtain⟨v,rfl,b⟩:=Vu c;unfold ZgV at e;split at e
 .cases e;cases b
  exact call_int1 pQ s O H _ a Q I r (.inl ⟨_,rfl,p.at S (.int _)⟩)
 .cases e;cases b
  exact call_int1 pQ s O H _ a Q I r (.inr ⟨ac,rfl,p.at S (.int _)⟩)
 .cases e;cases b
  exact call_int1 pQ s O H _ a Q I r (.inr ⟨ae,rfl,p.at S (.int _)⟩)
 .exact Zb e
def ZaY(g:X.calm=ac):CallR X (.builtin "min") (rC X.K (on2 Zg4)):=by
 intro pQ s O H j a Q I r h;obtain⟨ad,st,ds,d,st',S,f,e,p⟩:=h;obtain⟨x,y,rfl,i⟩:=Uk e;have e:=i;obtain⟨v,w,rfl,c,b⟩:=ZfD f;unfold Zg4 at e;split at e
 .cases e;cases c;cases b
  exact call_min2 g pQ s O H _ a Q I r ⟨_,_,rfl,p.at S (.int _)⟩
 .exact Zb e
def ZaX(g:X.calm=ac):CallR X (.builtin "max") (rC X.K (on2 Zg3)):=by
 intro pQ s O H j a Q I r h;obtain⟨ad,st,ds,d,st',S,f,e,p⟩:=h;obtain⟨x,y,rfl,i⟩:=Uk e;have e:=i;obtain⟨v,w,rfl,c,b⟩:=ZfD f;unfold Zg3 at e;split at e
 .cases e;cases c;cases b
  exact call_max2 g pQ s O H _ a Q I r ⟨_,_,rfl,p.at S (.int _)⟩
 .exact Zb e
noncomputable def tyN:Ty->String
 |.int => "int"
 |.bool => "bool"
 |.str => "str"
 |.tuple => "tuple"
noncomputable def ZcH:D->String
 |.int _ => "int"
 |.bl _ => "bool"
 |.str _ => "str"
 |.tup _ => "tuple"
 |.non => "NoneType"
 |_ => "list"
def ZcI(K:Fg){T:Ty}{k:Bool}(h:ZgZ T d=aa k):W.kitOne K (.type (ZcH d)) (.type (tyN T))=aa k:=by
 cases d<;>first | (cases h;done) | (cases T<;>(cases h;rfl))
def Zjm{v:V}{T:Ty}{k:Bool}(h:ZgZ T d=aa k)(f:Den K ad H v d):TyOf K H v (.type (ZcH d))\/∃ a c,v=.ref a/\SqT K H a c/\ZcH d = "tuple":=by
 cases f with
 |non=>exact .inl .non
 |bl b=>exact .inl (.bl b)
 |int i=>exact .inl (.int i)
 |str x=>exact .inl (.str x)
 |tup e r=>exact .inr ⟨_,_,rfl,e.sq,rfl⟩
 |lst e=>exact Zb h
 |dic _ _=>exact Zb h
 |dct _ _ _ _ _=>exact Zb h
 |obj _ _=>exact Zb h
 |kt _ _ _ _ _ _=>exact Zb h
def ZbR{T:Ty}:CallR X (.builtin "isinstance") (λvs H Q=>∃ v,vs=[v,.ty (tyN T)]/\rC X.K (on1 (ZcE T)) [v] H Q):=by
 intro pQ s O H D E Q I r h;obtain⟨v,rfl,ad,st,ds,d,st',S,u,e,p⟩:=h;obtain⟨x,rfl,B⟩:=Yt e;have e:=B;obtain⟨w,n,t⟩:=Vu u;cases n;unfold ZcE at e;split at e
 .rename_i k q
  cases e;cases r with
  |cons b i=>
   cases i with
   |cons g f=>
    cases f;cases g;rcases Zjm q t with ty|⟨a,C,rfl,sq,l⟩
    .exact isinst_ok I b ty (ZcI X.K q) λc=>⟨.bl k,H,I.tok _,rfl,p.at S (.bl k)⟩
    .have kt:=ZcI X.K q
     rw[l]at kt;cases b;obtain⟨m,_,j,_⟩:=I.tuple sq;obtain⟨o,A,y,_⟩:=j;exact W.kia_one W.kitx_tuple I.kIn ⟨o,A,y⟩ kt (λz=>nomatch z) λc=>⟨.bl k,H,I.tok _,rfl,p.at S (.bl k)⟩
 .exact Zb e
variable [ClsTab]
def tDd(K:Fg)(c d:TE):TE:=λO H Q=>∀ p,H p=ab->(∀ o,K.lookup p≠aa o)->c O (upd H p (.dT [])) λx e=>d O e λv a=>∃ kvs b k,a p=aa (.dT kvs)/\kvs.length < aw/\x=.ref b/\a b=aa (.tup (k.map kV))/\Q (.ref p) (upd a p (.dT (putK kvs k v)))
def ZiT(hu:X.A.units+1 < cLine){f:Pos}{a e:ax}{j l:TE}(M:PE X a j)(J:PE X e l):PE X (.Dict [aa a] [e] f) (tDd X.K j l):=by
 intro pQ s O H Q I q;have G:=I.hok.fresh (aE s.heap.objs.size);have V:=I.laid (a:=s.heap.objs.size) (o:=.dT []) (h':=s.heap.push { cls:=.type "dict",data:=.dict #[] }) (t':=s.toks) (λ_ _ q=>aO _ q) (aE _) (dt_empty s.heap I.big)
 refine wpAny_Dict_any rfl rfl (by simp) (by show 1<=15;decide) (pairTrees_cons_walk (thn (M pQ _ O _ _ V (q _ G λo z=>ar (aJ (I.kIn _ o z)) (bZ _))) λy s1 ⟨x,Y,U,B,D⟩=>thn (J pQ s1 O Y _ U D) λZ s2 ⟨v,W,i,rv,kvs,b,k,g,p,ex,t,C⟩=>pairTrees_nil_walk ?_))
 subst ex;cases (show y=bq b from B)
 obtain⟨z,L,u,d,dd⟩:=dt_of i.hok g;have E:u.length<=aw:=by rw[<-Paired.length d];exact z
 have p:(putK kvs k v).length<=aw:=by have:=length_putK kvs k v;omega
 unfold storeAll;rw[dX];refine aA (aA (wpAny_dictSet_heap (hsz:=E) (show(tupleKind (mixKind X.prog X.w)).room X.A from Nat.lt_of_succ_lt hu) (key_of i.hok t) dd λh' h F=>aB ?_))
 dsimp only;rw[List.forIn_nil];refine aB ?_;obtain⟨m,es,T,n,S,R,P,_,N⟩:=h;refine⟨.ref _,upd W _ (.dT (putK kvs k v)),d_write i (by rw[g];exact True.intro) F ⟨m,n⟩ ⟨p,L,_,(d.put k t rv).keeps λc ys r=>?_,m,es,T,n,S,R,P,N⟩,rfl,C⟩
 rw[upd_ne (ne_of r g (λz=>nomatch z))]
 exact r
variable{fa:Ev}
def ZgR{I G:Ev}(O:L2.St)(H:Hp)(Q:VK)(h:tE X.K (ddE fa I G) O H Q):tDd X.K (tTup (tCons (tE X.K fa) (tCons (tE X.K I) tNil))) (tE X.K G) O H Q:=by
 obtain⟨ad,U,st,d,st',E,S,e,p⟩:=h;unfold ddE at e;split at e
 .rename_i i g V
  split at e
  .rename_i j f T
   split at e
   .rename_i z m R
    split at e
    .rename_i xs A
     split at e
     .rename_i n
      obtain⟨n,u⟩:=n;cases e;intro q C F;have k:=S.extD (o:=.dT []) C F;refine⟨ad++[q],U,st++[(ac,[])],.int i,g,E.mono k,S.pushD C F,V,λw1 v H1 l S1 Z=>⟨v,U,g,.int j,f,E.mono (k.trans l),S1,T,λw2 c M y S2 Y=>⟨show 2<=aw by decide,λt B=>?_⟩⟩⟩
      cases Z.ofInt;cases Y.ofInt;have x:Ext c M c (upd M t (.tup [.int i,.int j])):=Ext.laid B;refine⟨c,U,f,z,m,E.mono (k.trans (l.trans (y.trans x))),S2.laid B,R,λP b L w J W=>?_⟩
      have X:=l.trans (y.trans (x.trans w));have D:(ad++[q])[st.length]?=aa q:=by rw[<-S.len];exact Zo
      have a:=X.pre _ _ D;obtain⟨kvs,r,s,_⟩:=J.dict a ((X.kd _ _ D).mp ⟨_,upd_same,rfl⟩) A u;have N:Ext b L b (upd L q (.dT (putK kvs [.inl i,.inl j] P))):=Ext.writeD s (aT a);exact⟨kvs,t,[.inl i,.inl j],s,by rw[WO r];exact aU n (by decide),rfl,w.tup t _ upd_same,p _ b _ (k.trans (X.trans N)) (J.writeD a A s (Qn W r)) (.dic a ⟨_,upd_same,rfl⟩)⟩
     .exact Zb e
    .exact Zb e
   .exact Zb e
  .exact Zb e
 .exact Zb e
def Zes(O:L2.St)(H:Hp)(Q:VK)(h:tE K (Zr fa ZeS) O H Q):tBM0 K "list" rPop (tE K fa) O H Q:=by
 obtain⟨ad,U,st,d,st',E,S,e,p⟩:=h;unfold Zr at e;split at e
 .rename_i x f s
  unfold ZeS at e;split at e
  .rename_i i
   split at e
   .rename_i ds k
    obtain⟨z,q,e⟩:=dH.mp e;cases e;refine⟨ad,U,st,.lst i,f,E,S,s,λv a n o m w=>?_⟩
    obtain⟨l,rfl,g⟩:=w.ofLst;obtain⟨c,r,b⟩:=m.listM g k;obtain⟨y,t,u⟩:=r.get q;have j:Ext a n a (upd n l (.lst c.dropLast)):=Ext.write b (aT g.1);refine⟨.inl ⟨rfl,c,.inl (.inl b)⟩,l,c,y,rfl,rfl,b,by rw[r.length];exact t,p _ a _ (o.trans j) (m.write g k b ?_) (u.mono j)⟩
    rw[List.dropLast_eq_take,List.dropLast_eq_take,r.length];exact r.take _
   .exact Zb e
  .exact Zb e
 .exact Zb e
def Zdl(K:Fg):V->Li V->Hp->VK->Prop:=λx vs H Q=>∃ p kvs b k,x=.ref p/\H p=aa (.dT kvs)/\SqT K H b (k.map kV)/\((vs=[.ref b]/\Q ((valV kvs k).getD .non) H)\/∃ a,vs=[.ref b,a]/\Q ((valV kvs k).getD a) H)
def Um{a:Ot V}{b:Ot vL}{x:V}{u:vL}(h:L2.RelO a b)(r:L2.RelV x u):L2.RelV (a.getD x) (b.getD u):=by
 cases a with
 |none=>cases b with
  |none=>exact r
  |some _=>exact h.elim
 |some _=>cases b with
  |none=>exact h.elim
  |some _=>exact h
def Zaq(hu:X.A.units+1 < cLine):MtM X "dict.get" (Zdl X.K):=by
 intro pQ s O H x vs v y Q I l rv h;obtain⟨p,kvs,b,k,rfl,r,t,h⟩:=h;cases l;obtain⟨u,f,d,a,dd⟩:=dt_of I.hok r;obtain⟨o,m,j,_⟩:=I.tuple t;have e:=key_at (P:=X.prog) (w:=X.w) m j;rcases h with⟨rfl,q⟩|⟨z,rfl,q⟩
 .obtain⟨i,rfl,c⟩:=rv.one
  cases c;exact call_meetsIn PySem.F.slot_dict_get dd.typeIs PySem.F.entry_dict_get (PySem.F.args_dict_get_2 _ _) (meetsH_dict_get (tupleKind (mixKind X.prog X.w)) p b f) ⟨tupleKind_room_in1 hu,k,d,e,dd,⟨_,H,I.tok _,Um (x:=V.non) (a.val k) (show L2.RelV .non .none from rfl),q⟩⟩
 .obtain⟨i,g,rfl,c,n⟩:=rv.two
  cases c;exact call_meetsIn PySem.F.slot_dict_get dd.typeIs PySem.F.entry_dict_get (PySem.F.args_dict_get_3 _ _ _) (meetsH_dict_get_default (tupleKind (mixKind X.prog X.w)) p b f g) ⟨tupleKind_room_in1 hu,k,d,e,dd,⟨_,H,I.tok _,Um (a.val k) n,q⟩⟩
def ZdH(h:Z4 H a):tyV K "dict" (.ref a) H:=by
 obtain⟨o,e,d⟩:=h;cases o with
 |dT kvs=>exact .inr (.inr (.inl ⟨rfl,.inr ⟨_,e⟩⟩))
 |dN f=>exact .inr (.inr (.inr (.inr ⟨rfl,_,e⟩)))
 |_=>cases d
def ZfI{x y z:D}{st':Za}(h:gtD x y z st=aa (d,st')):∃ a i j b ds,x=.dic a/\y=.tup [.int i,.int j]/\(st[a]?=aa (b,ds)/\okH ds=ac)/\d=(Yf ds i j).getD z/\st'=st:=by
 unfold gtD at h;split at h
 .obtain⟨o,f,c⟩:=dH.mp h
  cases c;obtain⟨i,j,b,ds,rfl,e,rfl⟩:=Jf f;exact⟨_,i,j,b,ds,rfl,rfl,e,rfl,rfl⟩
 .exact Zb h
def Zel{D fd:Ev}(O:L2.St)(H:Hp)(Q:VK)(h:tE X.K (Y9 fa D fd gtD) O H Q):tBM X.K "dict" (Zdl X.K) (tE X.K fa) (tCons (tE X.K D) (tCons (tE X.K fd) tNil)) O H Q:=by
 obtain⟨ad,U,st,d,st',E,S,e,p⟩:=h;unfold Y9 at e;split at e
 .rename_i x g M
  split at e
  .rename_i y f L
   split at e
   .rename_i z I J
    obtain⟨a,i,j,bb,ds,rfl,rfl,B,rfl,rfl⟩:=ZfI e;refine⟨ad,U,st,_,g,E,S,M,λv1 t H1 m Z W=>?_⟩
    obtain⟨l,rfl,C,n⟩:=W.ofDic;refine⟨ZdH n,t,U,g,_,f,E.mono m,Z,L,λv2 s H2 A Y V=>⟨s,U,f,_,_,E.mono (m.trans A),Y,J,λG k F v u T=>?_⟩⟩
    have c:=A.trans v;obtain⟨kvs,r,N,_⟩:=u.dict (c.pre _ _ C) ((c.kd _ _ C).mp n) B.1 B.2;obtain⟨b,rfl,P⟩:=Wf (V.mono v);refine⟨l,kvs,b,_,rfl,N,P,.inr ⟨G,rfl,?_⟩⟩;rcases XM r with⟨w,d0,q,o,R⟩|⟨q,o⟩
    .rw[q];rw[o]at p
     exact p _ k F (m.trans c) u R
    .rw[q];rw[o]at p
     exact p _ k F (m.trans c) u T
   .exact Zb e
  .exact Zb e
 .exact Zb e
def Zek{z:Ev}(O:L2.St)(H:Hp)(Q:VK)(h:tE X.K (Y9 fa z (evC .non) gtD) O H Q):tBM X.K "dict" (Zdl X.K) (tE X.K fa) (tCons (tE X.K z) tNil) O H Q:=by
 obtain⟨ad,U,st,d,st',E,S,e,p⟩:=h;unfold Y9 at e;split at e
 .rename_i x c C
  split at e
  .rename_i y m B
   obtain⟨a,i,j,R,ds,rfl,rfl,u,rfl,rfl⟩:=ZfI (show gtD x y .non m=aa (d,st') from e);refine⟨ad,U,st,_,c,E,S,C,λN s T k L J=>?_⟩
   obtain⟨l,rfl,v,n⟩:=J.ofDic;refine⟨ZdH n,s,U,c,_,_,E.mono k,L,B,λM f A g t I=>?_⟩
   obtain⟨kvs,r,D,_⟩:=t.dict (g.pre _ _ v) ((g.kd _ _ v).mp n) u.1 u.2;obtain⟨b,rfl,F⟩:=Wf I;refine⟨l,kvs,b,_,rfl,D,F,.inl ⟨rfl,?_⟩⟩;rcases XM r with⟨w,P,q,o,G⟩|⟨q,o⟩
   .rw[q];rw[o]at p
    exact p _ f A (k.trans g) t G
   .rw[q];rw[o]at p
    exact p _ f A (k.trans g) t .non
  .exact Zb e
 .exact Zb e
variable [ClsTab]
variable{k:D}
variable{pQ:Li (Ad×Obj)}{O:L2.St}{H:Hp}{s:Sd}{ad:Li Ad}
inductive OkW:Nat->D->Prop where
 |int (n:Nat) (i:Int):OkW n (.int i)
 |str (n:Nat) (x:Str):OkW n (.str x)
 |tup {n:Nat}{ds:List D} (h:ds.all (okN n)=ac):OkW (n+1) (.tup ds)
def okW{n:Nat}(h:okN n d=ac):OkW n d:=by
 cases d with
 |int i=>exact .int n i
 |str i=>exact .str n i
 |tup ds=>cases n with
  |zero=>exact nomatch h
  |succ n=>exact .tup h
 |_=>cases n<;>exact nomatch h
def J7(I:L2.Inv X pQ O H s):∀ {n:Nat}{d:D}{v:V}{u:vL},okN n d=ac->Den X.K ad H v d->RelV v u->IsV s.heap n d u:=by
 intro n
 induction n using Nat.strongRecOn with
 |_ n l=>
  intro d v u ok h r;cases okW ok with
  |int _ i=>cases h;cases n<;>exact r
  |str _ i=>cases h;cases n<;>exact r
  |@tup n ds ok=>
   obtain⟨a,c,rfl,e,j⟩:=h.ofTup;cases r;obtain⟨k,rv,p,_⟩:=I.tuple e.sq;refine⟨a,_,rfl,p,?_⟩;have go:∀ {ds:Li D}{c:Li V}{f:Li vL},ds.all (okN n)=ac->Dens X.K ad H c ds->Vals c f->Paired (IsV s.heap n) ds f:=by
    intro ds
    induction ds with
    |nil=>intro c f _ a b;cases a;cases b;exact .nil
    |cons d ds g=>
     intro c f o a b;rw[bE,Ba]at o;cases a with
     |cons w t=>cases b with
      |cons q m=>exact .cons (l n (bL n) o.1 w q) (g o.2 t m)
   exact go ok j rv
def rSd(K:Fg):V->Li V->Hp->VK->Prop:=λx vs H Q=>∃ a c l b k ad,(x=.ref a/\vs=[.ref c,.ref l]/\H a=aa (.dN (Yq b))/\b.length < 2000/\(b.map (·.1)).Nodup)/\(Den K ad H (.ref c) k/\okN 8 k=ac)/\(∀ x∈b,Den K ad H (.ref x.2.1) x.1/\okN 8 x.1=ac) /\
 (∀ x∈b,x.1=k->Q (.ref x.2.2) H)/\((∀ x∈b,x.1≠k)->Q (.ref l) (upd H a (.dN (Yq (b++[(k,c,l)])))))
noncomputable def toE(x:D×Ad×Ad):D×Ad×vL:=(x.1,x.2.1,.ref x.2.2)
def ZbE{c:Li (D×Ad×Ad)}:(∀ p,atKey (c.map toE) k=aa p->∃ x∈c,x.1=k/\p.2=.ref x.2.2)/\(atKey (c.map toE) k=ab->∀ x∈c,x.1≠k):=by
 induction c with
 |nil=>exact⟨λp h=>(nomatch h),λ_ x hx=>(nomatch hx)⟩
 |cons y c d=>
  have e:atKey ((y :: c).map toE) k=if y.1=k then aa (y.2.1,.ref y.2.2) else atKey (c.map toE) k:=by
   rw[aK];unfold atKey;rw[cC];by_cases h:y.1=k
   .rw[ao h,show aj ((toE y).1=k)=ac from aP h];rfl
   .rw[aq h,show aj ((toE y).1=k)=ae from aH h]
  rw[e];by_cases h:y.1=k
  .rw[ao h]
   exact⟨λp q=>⟨y,Ls,h,by cases q;rfl⟩,λq=>nomatch q⟩
  .rw[aq h]
   refine⟨λp q=>let ⟨x,a,b⟩:=d.1 p q;⟨x,Lm _ a,b⟩,λq x hx=>?_⟩
   rcases aF.mp hx with rfl|hx
   .exact h
   .exact d.2 q x hx
def ZiQ(hu:X.A.units+16 < cLine):MtM X "dict.setdefault" (rSd X.K):=by
 intro pQ s O H x vs v us Q I J rv h;obtain⟨a,P,l,g,k,ad,⟨rfl,rfl,G,hz,N⟩,⟨dk,ok⟩,C,Y,W⟩:=h;cases J;obtain⟨u1,u2,rfl,M,L⟩:=rv.two;cases M;cases L
 obtain⟨E,o,es,S,U,d,T⟩:=(show ObjOk X.prog X.w H s.heap a (.dN (Yq g)) from I.hok a _ G);have D:DictE (ZfS X.prog X.w) s.heap a (g.map toE):=⟨o,es,S,U,d,by rw[T,aZ];rfl,λx i=>by
  obtain⟨y,f,rfl⟩:=aL.mp i;exact J7 I (C y f).2 (C y f).1 rfl,by rw[aZ];exact N⟩
 have hl:aw=16777216:=sizeLine_eq;refine call_meetsIn PySem.F.slot_dict_setdefault D.typeIs PySem.F.entry_dict_setdefault (PySem.F.args_dict_setdefault_3 _ _ _) (UW (ZfS X.prog X.w) (k:=k) a E (.ref l)) ⟨_,D,by rw[aD];omega,(show X.A.units+1+8 < cLine by omega),J7 I ok dk rfl,λp j=>?_,λj h' m R=>?_⟩
 .obtain⟨y,f,Z,e2⟩:=ZbE.1 p j
  rw[e2];exact⟨.ref y.2.2,H,I.tok _,rfl,Y y f Z⟩
 .obtain⟨B,u,c,t,r,n,_,_⟩:=m
  refine⟨.ref l,_,I.write (x:=a) (e:=a) (o:=.dN (Yq (g++[(k,P,l)]))) (by rw[G];exact True.intro) (.inl rfl) (λb q V z=>(R.2 b V).trans z) ⟨B,c⟩ ⟨E,B,u,c,t,r,?_⟩,rfl,W (ZbE.2 j)⟩
  rw[n];unfold Yq;rw[bN,bN,aZ];rfl
variable{xs:Li (D×Ad×Ad)}
variable{K:Fg}
section
variable{fk fe:Ev}
theorem EntN.length(r:EntN K ad H xs ds):xs.length=ds.length:=by
 induction r with
 |nil=>rfl
 |cons _ _ _ _ a=>rw[aQ,aQ,a]
def EntN.keys{xs:Li (D×Ad×Ad)}(r:EntN K ad H xs ds):∀ x∈xs,Den K ad H (.ref x.2.1) x.1/\okN 8 x.1=ac:=by
 induction r with
 |nil=>exact λx hx=>(nomatch hx)
 |cons h ok _ _ a=>
  intro x hx;rcases aF.mp hx with rfl|hx
  .exact⟨h,(cR.mp ok).1⟩
  .exact a x hx
def EntN.snoc{e d:Ad}{j:Nat}(r:EntN K ad H xs ds)(h:Den K ad H (.ref e) k)(ok:(okN 8 k&&VE k)=ac)(l:LA ad H j d):EntN K ad H (xs++[(k,e,d)]) (ds++[.tup [k,.lst j]]):=by
 induction r with
 |nil=>exact .cons h ok l .nil
 |cons a b c _ f=>exact .cons a b c f
def ZeL:∀ {n:Nat}{d:D},okN n d=ac->okD n d=ac:=by
 intro n
 induction n using Nat.strongRecOn with
 |_ n b=>
  intro d h;cases okW h with
  |int _ i=>cases n<;>rfl
  |str _ i=>cases n<;>rfl
  |@tup n ds ok=>
   show ZX n ds=ac;clear h
   induction ds with
   |nil=>rfl
   |cons d ds a=>
    rw[bE,Ba]at ok;show(okD n d&&ZX n ds)=ac;rw[b n (bL n) ok.1,a ok.2];rfl
def EntN.find{xs:Li (D×Ad×Ad)}(ok:okN 8 k=ac)(r:EntN K ad H xs ds):(∀ j,Xw k ds=aa j->∀ x∈xs,x.1=k->(xs.map (·.1)).Nodup->LA ad H j x.2.2)/\(∀ j,Xw k ds=aa j->∃ x∈xs,x.1=k)/\(Xw k ds=ab->∀ x∈xs,x.1≠k):=by
 induction r with
 |nil=>exact⟨λj h=>(nomatch h),λj h=>(nomatch h),λ_ x hx=>(nomatch hx)⟩
 |@cons b n m g xs ds h i l r c=>
  have e:Xw k (.tup [b,.lst g] :: ds)=if Zn b k=ac then aa g else Xw k ds:=rfl
  rw[e];by_cases q:Zn b k=ac
  .rw[ao q]
   have d:=JZ q;refine⟨λj z x hx ex a=>?_,λj z=>⟨_,Ls,d⟩,λz=>(nomatch z)⟩
   cases z;rcases aF.mp hx with rfl|hx
   .exact l
   .rw[aK,bM]at a
    exact ar (aL.mpr ⟨x,hx,ex.trans d.symm⟩) a.1
  .rw[aq q]
   have f:b≠k:=λz=>q (by rw[z];exact Ws (ZeL ok))
   refine⟨λj z x hx ex a=>?_,λj z=>?_,λz x hx=>?_⟩
   .rcases aF.mp hx with rfl|hx
    .exact ar ex f
    .rw[aK,bM]at a
     exact c.1 j z x hx ex a.2
   .obtain⟨x,hx,ex⟩:=c.2.1 j z
    exact⟨x,Lm _ hx,ex⟩
   .rcases aF.mp hx with rfl|hx
    .exact f
    .exact c.2.2 z x hx
def Zev{i:Nat}(D:Ends)(O:L2.St)(H:Hp)(h:tS K (JH i fk fe) D O H):tDrop (tBM K "list" rAppend (tBM K "dict" (rSd K) (tVar i) (tCons (tE K fk) (tCons (tLst tNil) tNil))) (tCons (tE K fe) tNil)) D O H:=by
 obtain⟨ad,U,st,r,st',E,S,e,p⟩:=ZR h;unfold JH at e;split at e
 .rename_i a q0
  split at e
  .rename_i k c q1
   split at e
   .rename_i ok
    have F:=(cR.mp ok).1;obtain⟨v,e1,e2⟩:=E.at_ i _ q0;obtain⟨g,rfl,hg,ng⟩:=e2.ofDic;refine⟨_,e1,ZdH ng,ad,U,st,k,c,E,S,q1,λw b d m R P=>?_⟩
    refine⟨aS _,λl M=>?_⟩
    split at e
    .rename_i es q2
     split at e
     rotate_left
     .exact Zb e
     rename_i hz1;obtain⟨ds,hk⟩:∃ ds,k=.tup ds:=by
      have z:=(cR.mp ok).2;cases k<;>first|exact⟨_,rfl⟩|cases z
     obtain⟨I,rfl⟩:∃ I,w=.ref I:=by
      rw[hk]at P;cases P with
      |tup _ _=>exact⟨_,rfl⟩
     obtain⟨xs,⟨Z,nd⟩,hG,_⟩:=R.dicN (m.pre _ _ hg) ((m.kd _ _ hg).mp ng) q2;have A:Ext b d b (upd d l (.lst [])):=Ext.laid M;have ngl:g≠l:=ne_of_none hG M;have q:upd d l (.lst []) g=aa (.dN (Yq xs)):=by rw[upd_ne ngl];exact hG
     have C:=Z.mono A;have fd:=C.find F;refine⟨g,I,l,xs,k,b,⟨rfl,rfl,q,?_,nd⟩,⟨P.mono A,F⟩,C.keys,λx N ex=>?_,λL=>?_⟩
     .rw[Z.length];omega
     .split at e
      .rename_i j t
       have o:=fd.1 j t x N ex nd;have Sl:StOk K b (upd d l (.lst [])) c:=R.laid M;split at e
       .rename_i v n q4
        split at e
        .rename_i Y q5
         cases e;obtain⟨bb,ds',hc⟩:=WL Sl o;obtain⟨T,_,sq⟩:=Sl.list o hc;refine⟨.inl ⟨rfl,T,sq⟩,b,U,c,v,n,E.mono (m.trans A),Sl,q4,λX s H2 f S2 d2=>?_⟩
         obtain⟨ys,J,hz,B,S3⟩:=WY S2 (o.mono f) d2 q5;exact⟨_,ys,X,rfl,rfl,J,hz,p _ s _ (((m.trans A).trans f).trans B) S3 (E.mono (((m.trans A).trans f).trans B))⟩
        .exact Zb e
       .exact Zb e
      .rename_i t
       exact ar ex (fd.2.2 t x N)
     .split at e
      .rename_i j t
       obtain⟨x,N,ex⟩:=fd.2.1 j t;exact ar ex (L x N)
      .rename_i t
       have W:Ext b d (b++[l]) (upd d l (.lst [])):=Ext.push M;have Sp:StOk K (b++[l]) (upd d l (.lst [])) (c++[(ac,[])]):=R.push M .nil;have G:LA (b++[l]) (upd d l (.lst [])) c.length l:=⟨by rw[<-R.len];exact Zo,WX upd_same rfl⟩
       have ha:(b++[l])[a]?=aa g:=YE (m.pre _ _ hg);have hlt:a < c.length:=(bP.mp q2).1;have rN:=(Z.mono W).snoc (P.mono W) ok G;have ndN:((xs++[(k,I,l)]).map (·.1)).Nodup:=by
        rw[bN,List.nodup_append];refine⟨nd,by simp,λu hu v hv z=>?_⟩
        obtain⟨y,J,rfl⟩:=aL.mp hu;rw[aK,dF]at hv;rw[aM.mp hv]at z;exact L y J z
       have xw:=Ext.writeN (f':=Yq (xs++[(k,I,l)])) q (aT ha);have Q:=Sp.writeN ha (YE q2) q rN ndN;rw[List.set_append_left _ _ hlt]at Q;split at e
       .rename_i v n q4
        split at e
        .rename_i Y q5
         cases e;have o:=G.mono xw;obtain⟨bb,ds',hc⟩:=WL Q o;obtain⟨T,_,sq⟩:=Q.list o hc;have V:=(m.trans W).trans xw;refine⟨.inl ⟨rfl,T,sq⟩,b++[l],U,_,v,n,E.mono V,Q,q4,λX s H2 f S2 d2=>?_⟩
         obtain⟨ys,J,hz,B,S3⟩:=WY S2 (o.mono f) d2 q5;exact⟨_,ys,X,rfl,rfl,J,hz,p _ s _ ((V.trans f).trans B) S3 (E.mono ((V.trans f).trans B))⟩
        .exact Zb e
       .exact Zb e
    .exact Zb e
   .exact Zb e
  .exact Zb e
 .exact Zb e
end
variable{tg:ax}
def Itv(a:Ad)(n:Nat):It:=
 ⟨λi H=>i < n/\∃ xs,H a=aa (.dN (Yq xs))/\xs.length=n,λi H x H'=>H'=H/\∀ xs,H a=aa (.dN (Yq xs))->xs.length=n->∃ e,xs[i]?=aa e/\x=.ref e.2.2,λi H=>i=n/\∃ xs,H a=aa (.dN (Yq xs))/\xs.length=n⟩
def JC(I:L2.Inv X pQ O H s)(e:H a=aa (.dN (Yq xs))):(a==bj)=ae/\∃ es:Array DictEntry,Raw s.heap a es es.size/\es.toList=Yq xs X.w:=by
 obtain⟨f,o,es,c,g,b,d⟩:=(show ObjOk X.prog X.w H s.heap a (.dN (Yq xs)) from I.hok a _ e);exact⟨f,es,⟨o,c,g,b⟩,d⟩
def WD{es:Array DictEntry}(h:es.toList=Yq xs w):es.size=xs.length:=by
 rw[<-cI,h];unfold Yq;rw[aD]
def Zbl{P:a1}(a f:Ad)(n:Nat):Turn P w K tg (Itv a n) [f] f (λi h=>h.IsValIter f a i n n) where
 mem:=by simp
 obj:=λi h st b m=>by
  have e:b=f:=by simpa using m
  subst e;obtain⟨o,e,c,d⟩:=st;exact⟨o,e,λv z=>by rw[d]at z;cases z⟩
 keep:=λi h y st k=>let ⟨o,e,r⟩:=st;⟨o,k f (by simp) o e,r⟩
 item:=by
  intro X F A G U i pQ s O H E I u st D;subst F A G;obtain⟨hi,xs,t,C⟩:=D;obtain⟨Z,es,j,x⟩:=JC I t;have B:=WD x;have g:es.size=n:=B.trans C;have q:i < es.size:=by omega
  obtain⟨Q,N,f2,M,L,J⟩:=u f (by simp)
  have st':s.heap.IsValIter f a i es.size es.size:=by rw[g];exact st
  refine Zbi st' j q λy st' sb=>?_
  have I1:L2.Inv X pQ O H { s with heap:=y }:=I.turned (t':=s.toks) (λb o m e=>(sb.2 b m).trans e) Q N M L J
  obtain⟨o,e,c,d⟩:=id st';have T:i < xs.length:=by omega
  have ev:es[i].val=.ref xs[i].2.2:=by
   have z:es.toList[i]?=aa es[i]:=by rw[dU,dI q]
   rw[x]at z;unfold Yq at z;rw[aV,Lg T]at z;have z:=av z;rw[<-z]
  rw[ev];refine⟨_,rfl,go_of (s:={ s with heap:=y }) e c d (by decide) ⟨.ref xs[i].2.2,H,I1,rfl,⟨rfl,λys S Y=>?_⟩,by rw[g]at st';exact st',λb m=>(u b m).1⟩⟩
  rw[t]at S
  injection av S with z
  have z:=congrFun z X.w;unfold Yq at z;have p:i < ys.length:=by omega
  have R:=au (λl=>l[i]?) z
  simp only[aV,Lg T,Lg p,Option.map_some]at R
  injection av R with z3 z4 W
  exact⟨ys[i],Lg p,by rw[V.ref.injEq];injection W⟩
 done:=by
  intro X F A G U i pQ s O H E I u st D;subst F A G;obtain⟨hi,xs,t,C⟩:=D;obtain⟨Z,es,j,x⟩:=JC I t;have B:=WD x;have g:es.size=n:=B.trans C;obtain⟨Q,N,f2,M,L,J⟩:=u f (by simp)
  have st':s.heap.IsValIter f a es.size es.size es.size:=by rw[g,<-hi];rw[hi];rw[hi]at st;exact st
  exact ZcW (I.ok.hd U) st' j λy eb=>⟨rfl,I.turned (t':=s.toks) (λb o m e=>eb b o m e) Q N M L J⟩
 self:=λ_ _ _ _ _ st h=>wpAny_pyIter_valiter st h
def ZfJ(c:TE):TI:=λO H R=>c O H λx b=>∃ a xs,x=.ref a/\b a=aa (.dN (Yq xs))/\R (Itv a xs.length) b
def ZeR{o:ax}{tl:TE}{m l:Pos}(w:PE X o tl)(f:attributeBase o "values" X.env (eval o X.env)=eval o X.env)(d:(m.endLine==l.line)=ac):PI X tg (.Call (.Attribute o "values" m) [] [] l) (ZfJ tl):=by
 intro pQ s O H R I h;refine wpAny_Call_method0_late f d (thn (w pQ s O H _ I h) λv s1 ⟨x,p,n,r,t⟩=>?_)
 obtain⟨a,xs,rfl,e,q⟩:=t;cases r;obtain⟨A,es,c,y⟩:=JC n e;have u:=WD y;obtain⟨i,k,j,C⟩:=id c;refine⟨"dict", "dict.values",PySem.F.plainAttrs_dict,PySem.F.slot_dict_values,PySem.F.type_dict_values,c.typeIs,λb z=>by cases z;exact⟨i,k,j.2.1⟩,Calls.callWith_builtin rfl (PySem.evalArgs_none ?_)⟩
 refine call_meetsIn PySem.F.slot_dict_values c.typeIs PySem.F.entry_dict_values (PySem.F.args_dict_values_1 _) (Ju a A) ⟨⟨es,es.size,c⟩,?_⟩;have g:L2.Inv X pQ O p { s1 with heap:=s1.heap.push { cls:=.type "dict_values",data:=.fields #[.ref a] } }:=n.kept (t':=s1.toks) λb o e=>aO _ e
 refine Zbf (s:={ s1 with heap:=s1.heap.push { cls:=.type "dict_values",data:=.fields #[.ref a] } }) (es:=es) (ep:=es.size) ⟨_,aX _ rfl,rfl,rfl⟩ ⟨i,aO _ k,j,C⟩ ?_
 refine⟨_,[_],_,_,p,rfl,g.kept (t':=s1.toks) λb o e=>aO _ e,Zbl a _ _,⟨_,aX _ rfl,rfl,by rw[u];rfl⟩,λb B=>?_,q⟩
 rw[aM.mp B];exact g.fpOk (aE _) (g.hok.fresh (aE _))
end Dp
namespace Dp
open PySem PySem.Spec PyProof.Rows L2 PySem.W
variable [ClsTab]
variable{n:Nat}
section
variable{α β:Type}{ok:α->Prop}{ok':β->Prop}
def TOk(n:Nat)(ok:α->Prop):KasT α->Prop
 |.ret a=>ok a
 |.ask i j k=>i < n/\j < n/\∀ b,TOk n ok (k b)
omit [ClsTab] in
theorem TOk.bind{f:α->KasT β}(h:∀ a,ok a->TOk n ok' (f a)):∀ {t:KasT α},TOk n ok t->TOk n ok' (t.bind f)
 |.ret a,x=>h a x
 |.ask _ _ _,x=>⟨x.1,x.2.1,λb=>TOk.bind h (x.2.2 b)⟩
omit [ClsTab] in
theorem TOk.go{f:Nat->Nat->Bool}:∀ {t:KasT α},TOk n ok t->ok (goT f t)
 |.ret _,x=>x
 |.ask i j k,x=>TOk.go (t:=k (f i j)) (x.2.2 (f i j))
omit [ClsTab] in
theorem TOk.wp{f:Nat->Nat->Bool}{cmp:Nat->Nat->(Bool->Sd->Prop)->Sd->Prop}{G:α->Sd->Prop}{s:Sd}(a:∀ i j C,i < n->j < n->C (f i j) s->cmp i j C s):∀ {t:KasT α},TOk n ok t->G (goT f t) s->t.kasWp cmp G s
 |.ret _,_,h=>h
 |.ask i j _,x,h=>a i j _ x.1 x.2.1 (TOk.wp a (x.2.2 (f i j)) h)
end
abbrev PrA(n:Nat)(p:Array Nat):Prop:=p.Perm (ag n).toArray
section
variable{p:Array Nat}
omit [ClsTab] in
def PrA.lt(h:PrA n p)(b:0 < n)(i:Nat):p.getD i 0 < n:=by
 by_cases a:i < p.size
 .have m:p[i]∈(ag n).toArray:=(Array.Perm.mem_iff h).mp (Array.getElem_mem a)
  have e:p.getD i 0=p[i]:=by simp[Array.getD,a]
  rw[e];simpa using m
 .have e:p.getD i 0=0:=by simp[Array.getD,a]
  rw[e];exact b
omit [ClsTab] in
def PrA.rev(h:PrA n p)(i j:Nat):PrA n (kas_rev p i j):=(mirror_perm _ _ _ _).trans h
omit [ClsTab] in
theorem Q2(h:PrA n p)(a:0 < n):∀ (f k:Nat),TOk n (λ_=>True) (kas_asc p f k)
 |0,_=>trivial
 |f+1,k=>⟨h.lt a _,h.lt a _,λb=>by
  cases b with
  |true=>exact trivial
  |false=>exact Q2 h a f (k+1)⟩
omit [ClsTab] in
theorem W4(a:0 < n):∀ (f:Nat) {p:Array Nat} (k q:Nat),PrA n p->TOk n (λr=>PrA n r.1) (kas_desc f p k q)
 |0,_,_,_,h=>h
 |f+1,p,k,q,h=>⟨h.lt a _,h.lt a _,λb=>by
  cases b with
  |true=>
   show TOk n _ (if q > 0 then _ else _)
   split
   .exact W4 a f _ _ (h.rev _ _)
   .exact W4 a f _ _ h
  |false=>exact⟨h.lt a _,h.lt a _,λd=>by
    cases d with
    |true=>exact h
    |false=>exact W4 a f _ _ h⟩⟩
omit [ClsTab] in
def ZaE(h:PrA n p)(a:0 < n)(k m:Nat):TOk n (λr=>PrA n r.2) (kas_tail3 k m p):=TOk.bind (ok':=λr:Nat×Array Nat=>PrA n r.2) (f:=λm=>.ret (m,kas_rev p 0 k)) (λ_ _=>h.rev 0 k) (Q2 (h.rev _ _) a _ _)
omit [ClsTab] in
def Qm(h:PrA n p)(a:0 < n)(k m:Nat):TOk n (λr=>PrA n r.2) (kas_descPart k m p):=(W4 a _ _ _ h).bind λr b=>by
 split
 .exact ZaE (b.rev _ _) a _ _
 .exact ZaE b a _ _
omit [ClsTab] in
def ZbU(h:PrA n p)(a:0 < n)(m:Nat):TOk n (λr=>PrA n r.2) (kas_count m p):=(Q2 h a _ _).bind λk _=>by
 split
 .exact h
 .split
  .exact⟨h.lt a _,h.lt a _,λc=>by
    cases c with
    |true=>exact h
    |false=>exact Qm (h.rev _ _) a _ _⟩
  .exact Qm h a _ _
omit [ClsTab] in
theorem VO(h:PrA n p)(a:0 < n)(k:Nat):∀ (f l r:Nat),TOk n (λ_=>True) (kas_place p k f l r)
 |0,_,_=>trivial
 |f+1,l,r=>by
  unfold kas_place;split
  .exact trivial
  .exact⟨h.lt a _,h.lt a _,λc=>by
    cases c with
    |true=>exact VO h a k f _ _
    |false=>exact VO h a k f _ _⟩
omit [ClsTab] in
theorem ZbI(a:0 < n):∀ (f:Nat) {p:Array Nat} (k:Nat),PrA n p->TOk n (PrA n) (kas_bin f p k)
 |0,_,_,h=>h
 |f+1,p,k,h=>(VO h a k _ _ _).bind λl _=>ZbI a f _ ((bubble_perm _ _ _).trans h)
omit [ClsTab] in
def U6(b:0 < n):TOk n (PrA n) (kas_sort n):=(ZbU (Array.Perm.refl _) b _).bind λr a=>by
 split
 .exact ZbI b _ _ a
 .exact a
end
variable{prog:a1}{w:bg}{A:bm}{E:vL->Sd->Prop}{s:Sd}
omit [ClsTab] in
def Zfm{a:Ad}{vs:Li vL}{n:Nat}{P:PySem.Fin->Sd->Prop}{κ:SortKind}{f:Nat->Nat->Bool}(t:s.heap.get? a=aa (seqObj "list" vs.toArray n))(v:vs.length < 64)(K:∀ k,(∀ b o,b≠a->s.heap.get? b=aa o->k.get? b=aa o)->2<=vs.length->∀ (Q:SortKind->Sd->Prop),Q κ { s with heap:=k }->az (a0 prog w) A (keyKind' vs.toArray) Q (λ_ _=>False) { s with heap:=k })(M:∀ k,(∀ b o,b≠a->s.heap.get? b=aa o->k.get? b=aa o)->∀ i j C,i < vs.length->j < vs.length->C (f i j) { s with heap:=k }->kas_ask prog w A κ vs i j C { s with heap:=k })(h:P (.done (.ret .none)) { s with heap:=sortedHeap s.heap a vs (pick f br vs).toArray }) :
  az (a0 prog w) A (Builtin.«list.sort» ⟨[.ref a],[]⟩) P E s:=by
 rw[list_sort_plain];have J:a < s.heap.objs.size:=aJ t;refine aA (listItems_at t rfl ?_);refine aA (listUpdate_at t rfl ?_ (by rw[aG,sizeLine_eq];omega) (aS _))
 obtain⟨z,m⟩:∃ z,(s.heap.update a (Obj.mapSeq λ_=>#[])).get? a=aa (seqObj "list" #[] z):=⟨_,get?_update_seq t (λ_=>#[])⟩
 refine aA (seqEpoch_at m rfl ?_);refine aA (wpAny_newTuple ?_ (by show vs.length<=_;rw[sizeLine_eq];omega))
 refine aA (wpAny_newList ?_ (aS _));refine wpAny_holding ?_;have c:(((s.heap.update a (Obj.mapSeq λ_=>#[])).push (seqObj "tuple" vs.toArray 0)).push (seqObj "list" #[] 0)).get? a=aa (seqObj "list" #[] z):=aO _ (aO _ m)
 have B:∀ b o,b≠a->s.heap.get? b=aa o->(((s.heap.update a (Obj.mapSeq λ_=>#[])).push (seqObj "tuple" vs.toArray 0)).push (seqObj "list" #[] 0)).get? b=aa o:=λb o F q=>
  aO _ (aO _ (by rw[Heap.get?_update_ne _ _ _ _ F];exact q))
 show az (a0 prog w) A _ P E { s with heap:=((s.heap.update a (Obj.mapSeq λ_=>#[])).push (seqObj "tuple" vs.toArray 0)).push (seqObj "list" #[] 0) }
 dsimp only;by_cases d:vs.toArray.size < 2
 .rw[ao d,ao d]
  refine aA (aB ?_);rw[StateT.run_pure];refine aA (aB ?_);dsimp only;have y:(arrOf (SortSt.mk' general' (vs.toArray.zip vs.toArray) #[] 7 ab)).map (·.2)=(pick f br vs).toArray:=by
   unfold pick;rw[ao (by simpa using d)]
   show(vs.toArray.zip vs.toArray).map (·.2)=_;apply Array.toList_inj.mp
   simp only[Array.toList_map,Array.toList_zip,List.toList_toArray];exact List.map_snd_zip (aE _)
  rw[y];refine aA (seqEpoch_at c rfl ?_);refine aA (listUpdate_at c rfl ?_ (aS _) (by unfold pick;rw[ao (by simpa using d),aG,sizeLine_eq];omega))
  simp only[bne_self_eq_false,cF,if_false];exact aB h
 .rw[aq d,aq d]
  have r:2<=vs.length:=by rw[aG]at d;omega
  refine aA (bK (K _ B r (λl g=>l=κ/\g=_) ⟨rfl,rfl⟩) (λl g I=>?_) λ_ _ x=>x.elim)
  obtain⟨rfl,rfl⟩:=I;have T:=U6 (n:=vs.length) (by omega)
  refine aA (bK (kat_run (Q:=λst' g=>g={ s with heap:=((s.heap.update a (Obj.mapSeq λ_=>#[])).push (seqObj "tuple" vs.toArray 0)).push (seqObj "list" #[] 0) }/\arrOf st'=(goT f (kas_sort vs.length)).map (kas_item (vs.toArray.zip vs.toArray))/\failedOf st'=ab)
   (G:=λp g=>p=goT f (kas_sort vs.length)/\g={ s with heap:=((s.heap.update a (Obj.mapSeq λ_=>#[])).push (seqObj "tuple" vs.toArray 0)).push (seqObj "list" #[] 0) })
   rfl r v (λp st' g _ S R D=>⟨D.2,by rw[S,D.1],R⟩) (T.wp (λi j C O d N=>M _ B i j C O d N) ⟨rfl,rfl⟩)) ?_ λ_ _ e=>e)
  rintro⟨⟨⟩,st'⟩ g ⟨rfl,u,L⟩
  dsimp only;have y:(arrOf st').map (·.2)=(pick f br vs).toArray:=by
   rw[kat_snds rfl u];unfold pick;rw[aq (by omega)]
  rw[y];have H:(pick f br vs).toArray.size<=aw:=by
   unfold pick;rw[aq (by omega),aG,aD,cI,(T.go (f:=f)).size_eq,aG,bT,sizeLine_eq]
   omega
  refine aA (seqEpoch_at c rfl ?_);refine aA (listUpdate_at c rfl ?_ (aS _) (Nat.le_succ_of_le H));rw[L];simp only[bne_self_eq_false,cF,if_false];exact aB h
section
variable{d:Ad}{es:Array DictEntry}{ep:Nat}
omit [ClsTab] in
def Zc9:Builtin.Dict_items.ownsTuple "dict_keyiterator"=ae:=by decide
omit [ClsTab] in
theorem ZcX{b:Ad}{i:Nat}{Q:Ot vL->Sd->Prop}(a:s.heap.IsKeyIter b d i es.size ep)(l:Raw s.heap d es ep)(j:i < es.size)(p:∀ k,k.IsKeyIter b d (i+1) es.size ep->Heap.SameBut b s.heap k->Q (aa es[i].key) { s with heap:=k }):az (a0 prog w) A (pyNext (.ref b)) Q E s:=by
 obtain⟨o,h,n,g⟩:=id a;obtain⟨q,e,m,f⟩:=id l;unfold pyNext;refine aA (wpAny_attempt (wpAny_callSpecial?_slot (name:=Str.ofString "__next__") a.typeIs F.slot_dict_keyiterator_next (wpAny_call_entry F.slot_dict_keyiterator_next a.typeIs F.entry_dict_keyiterator_next ?_ (F.args_dict_keyiterator_next_1 _))));refine aA (aB (aA (aA ?_)))
 refine aA (wpAny_typeNameOfWhole_keyiter a.typeIs (aB (aA (wpAny_fieldsOf h g ?_))));simp only[Zc9,cF,if_false];show az _ _ (if (bq d==br)=ac then _ else _) _ _ s
 rw[aq (show ¬((bq d==br)=ac) from Bf)];refine aA (aB (aA (wpAny_dictEntries e f ?_)));rw[aq (by simp)]
 refine aA (aB (aA (wpAny_dictEpoch e f ?_)));rw[aq (by simp)]
 refine aB ?_;simp only[show ¬((i:Int) < 0) from by omega,if_false,bA,dI j]
 refine aA (aA (wpAny_typeNameOfWhole_keyiter a.typeIs (aB (aA (wpAny_isOneOf_keyiter a.typeIs ?_)))));show az _ _ (setField (.ref b) 1 (rawInt ((i:Int)+1)) >>= _) _ _ s;refine aA (wpAny_setField h g (by simp) ?_)
 have c:(s.heap.update b (Obj.mapFields (·.setIfInBounds 1 (rawInt ((i:Int)+1))))).IsKeyIter b d (i+1) es.size ep:=
  ⟨_,Heap.get?_update_self _ h (Obj.isFreed_of_fields (Obj.data_mapFields g _)),(Obj.cls_mapFields ..).trans n,by rw[Obj.data_mapFields g];simp[rawInt]⟩
 refine aA (wpAny_holding (aA (wpAny_isOneOf_keyiter (s:={ s with heap:=s.heap.update b (Obj.mapFields (·.setIfInBounds 1 (rawInt ((i:Int)+1)))) }) c.typeIs ?_)))
 show az _ _ (pure es[i].key) _ _ _;exact aB (aB ⟨_,rfl,aB (p _ c (Heap.SameBut.update ..))⟩)
omit [ClsTab] in
theorem Zed{g:Ad}{Q:Ot vL->Sd->Prop}(l:A.handled=ab)(c:s.heap.IsKeyIter g d es.size es.size ep)(k:Raw s.heap d es ep)(p:∀ j,Heap.ExtBut g s.heap j->Q ab { s with heap:=j }):az (a0 prog w) A (pyNext (.ref g)) Q E s:=by
 obtain⟨o,h,r,i⟩:=id c;obtain⟨q,e,n,f⟩:=id k;unfold pyNext;refine aA (wpAny_attempt (wpAny_callSpecial?_slot (name:=Str.ofString "__next__") c.typeIs F.slot_dict_keyiterator_next (wpAny_call_entry F.slot_dict_keyiterator_next c.typeIs F.entry_dict_keyiterator_next ?_ (F.args_dict_keyiterator_next_1 _))));refine aA (aB (aA (aA ?_)))
 refine aA (wpAny_typeNameOfWhole_keyiter c.typeIs (aB (aA (wpAny_fieldsOf h i ?_))));simp only[Zc9,cF,if_false];show az _ _ (if (bq d==br)=ac then _ else _) _ _ s
 rw[aq (show ¬((bq d==br)=ac) from Bf)];refine aA (aB (aA (wpAny_dictEntries e f ?_)));rw[aq (by simp)]
 refine aA (aB (aA (wpAny_dictEpoch e f ?_)));rw[aq (by simp)]
 refine aB ?_;simp only[show ¬((es.size:Int) < 0) from by omega,if_false,bA,eH (aE es.size)]
 refine aA (aA (wpAny_typeNameOfWhole_keyiter c.typeIs (aB ?_)));show az _ _ (setField (.ref g) 0 .none >>= _) _ _ s;refine aA (wpAny_setField h i (by simp) ?_)
 show az _ _ (newExc (.type "StopIteration") [] >>= _) _ _ _;refine aA ?_;simp only[newExc,newTuple];refine aA (wpAny_newObj_type ?_ (by size_fits))
 refine aA (m:=firstArgMember _ _) (wpAny_of_eq (a:=br) (by first|rfl | (simp only[firstArgMember];rfl)) (wpAny_newObj_type ?_ (by size_fits)))
 simp only[raiseNew];refine aA (wpAny_handled ?_);rw[show A.in1.handled=ab from l];refine aA (aB (wpAny_throw ?_));exact aA (wpAny_isInstance (T := "StopIteration") (b:=ac) ⟨_,aX _ rfl,rfl⟩ isSubtype_stop (aB (p _ (((Heap.SameBut.update ..).extBut.push _).push _))))
omit [ClsTab] in
def Raw.at{h a:bf}(x:Raw h d es ep)(e:∀ o,h.get? d=aa o->a.get? d=aa o):Raw a d es ep:=let ⟨o,ho,r⟩:=x;⟨o,e _ ho,r⟩
omit [ClsTab] in
def Raw.lt{h:bf}(x:Raw h d es ep):d < h.objs.size:=let ⟨_,ho,_⟩:=x;aJ ho
omit [ClsTab] in
def Zbo(p:A.handled=ab)(I:Ad)(j:d≠I):Walks prog w A I [I,d] [I] es.size (λi v=>∃ e,es[i]?=aa e/\v=e.key) (λi h=>h.IsKeyIter I d i es.size ep/\Raw h d es ep) where
 sub:=λb a=>by simp at a;simp[a]
 frame:=λ_ _ _ st m=>⟨st.1.at λo e=>m I (by simp) o e,st.2.at λo e=>m d (by simp) o e⟩
 item:=λi s Q E n st g=>ZcX st.1 st.2 n λl f c=>g _ l s.toks ⟨_,dI n,rfl⟩ ⟨f,st.2.at λo e=>c.extBut d o j e⟩ λb o a e=>c.extBut b o (λh=>a (by simp[h])) e
 done:=λs Q E st g=>Zed p st.1 st.2 λl k=>g l s.toks λb o a e=>k b o (λh=>a (by simp[h])) e
 self:=λ_ _ _ _ st g=>wpAny_pyIter_keyiter st.1 g
omit [ClsTab] in
theorem Zbe{Q:vL->Sd->Prop}(hd:(d==bj)=ae)(e:Raw s.heap d es ep)(f:Q (.ref s.heap.objs.size) { s with heap:=s.heap.push { cls:=.type "dict_keyiterator",data:=.fields #[.ref d,.int 0 0,.int es.size 0,.int ep 0] } }) :
  az (a0 prog w) A (pyIter (.ref d)) Q E s:=by
 obtain⟨o,c,g,a⟩:=id e;have b:s.TypeIs (.ref d) "dict":=e.typeIs;refine wpAny_pyIter_slot b F.slot_dict_iter (wpAny_call_entry F.slot_dict_iter b F.entry_dict_iter ?_ (F.args_dict_iter_1 _));unfold Builtin.«dict.__iter__»
 refine aA ?_;unfold Builtin.Dict.dictSlotNone;refine aA (wpAny_notOrdered_dict b ?_);show az _ _ (pure (bq d)) _ _ s;refine aB ?_;show az _ _ (Builtin.Dict.showsAll d >>= _) _ _ s;unfold Builtin.Dict.showsAll;rw[aq (by rw[hd];exact Bf)]
 refine aA (aB ?_);refine aA (wpAny_dictEntries c a ?_);refine aA (wpAny_dictEpoch c a ?_);refine aA (wpAny_newObj_type (aB ⟨_,rfl, "dict_keyiterator",_,⟨_,aX _ rfl,rfl⟩,F.slot_dict_keyiterator_next.lookup,?_⟩));simpa[rawInt] using f
omit [ClsTab] in
def Zdz(hd:(d==bj)=ae):KdlSrc prog w "dict" d d es.size (λi v=>∃ e,es[i]?=aa e/\v=e.key) (λh=>Raw h d es ep) where
 type:=λ_ a=>a.typeIs
 there:=λ_ a=>⟨a.lt,a.lt⟩
 keep:=λ_ _ a c=>a.at λo e=>c d (.inl rfl) o e
 notList:=by decide
 notTuple:=by decide
 hint:=λ_ _ _ _ a b=>kdl_hint_dict a.typeIs b
 iter:=λ_ _ f a=>⟨_,_,(λ_ _ b=>Zbe hd a b),Zbo f _ (aW a.lt),⟨⟨_,aX _ rfl,rfl,rfl⟩,a.at λo e=>aO _ e⟩⟩
omit [ClsTab] in
def JJ{vs:Li vL}{κ:SortKind}{f:Nat->Nat->Bool}{Q:vL->Sd->Prop}(H:A.handled=ab)(hd:(d==bj)=ae)(F:Raw s.heap d es ep)(B:es.toList.map (·.key)=vs)(x:vs.length < 64)(G:∀ a g,(∀ b o,s.heap.get? b=aa o->a.get? b=aa o)->2<=vs.length->∀ (Q:SortKind->Sd->Prop),Q κ { s with heap:=a,toks:=g }->az (a0 prog w) A.in1.in1 (keyKind' vs.toArray) Q (λ_ _=>False) { s with heap:=a,toks:=g })(J:∀ a g,(∀ b o,s.heap.get? b=aa o->a.get? b=aa o)->∀ i j C,i < vs.length->j < vs.length->C (f i j) { s with heap:=a,toks:=g }->kas_ask prog w A.in1.in1 κ vs i j C { s with heap:=a,toks:=g })(h:∀ (r a:bf) (g c:Nat),(∀ b o,s.heap.get? b=aa o->r.get? b=aa o)->(∀ b o,r.get? b=aa o->a.get? b=aa o)->a.get? r.objs.size=aa (seqObj "list" (pick f br vs).toArray c)->Q (.ref r.objs.size) { s with heap:=a,toks:=g }) :
  az (a0 prog w) A (call (.builtin "sorted") [.ref d]) Q E s:=by
 refine Calls.call_function_entry kind_sorted plain_sorted entry_sorted (args_sorted1 _) ?_;unfold Builtin.«sorted»
 refine aA (m:=checkCount "sorted" 1 1 _) (aB ?_);have t:es.size=vs.length:=by rw[<-B,aD,cI]
 refine aA (kdu_collect (A:=A.in1) (Zdz (es:=es) (ep:=ep) hd) H F (by rw[t,sizeLine_eq];omega) λa g q p n=>?_)
 have M:q.toList=vs:=by
  rw[<-B];apply List.ext_getElem?
  intro i;rw[dU,aV,dU];cases e:q[i]? with
  |none=>
   have:q.size<=i:=Array.getElem?_eq_none_iff.mp e;rw[n.1]at this;rw[eH this];rfl
  |some v=>
   obtain⟨O,N,rfl⟩:=n.2 i v e;rw[N];rfl
 rw[M];refine aA (wpAny_newList ?_ (by rw[sizeLine_eq];omega))
 have u:(a.push { cls:=.type "list",data:=.seq vs.toArray }).get? a.objs.size=aa (seqObj "list" vs.toArray 0):=aX _ rfl;have z:∀ (l:bf),(∀ b o,b≠a.objs.size->(a.push { cls:=.type "list",data:=.seq vs.toArray }).get? b=aa o->l.get? b=aa o)->∀ b o,s.heap.get? b=aa o->l.get? b=aa o:=λl k b o e=>
  k b o (aW (aJ (p b o e))) (aO _ (p b o e))
 refine aA (wpAny_holding (wpAny_call_entry slot_list_sort ⟨_,u,rfl⟩ entry_list_sort ?_ (args_list_sort _)));refine Zfm (s:={ s with heap:=a.push { cls:=.type "list",data:=.seq vs.toArray },toks:=g }) (κ:=κ) (f:=f) u x (λl k D Q K=>G l g (z l k) D Q K) (λl k i j C r y L=>J l g (z l k) i j C r y L) ?_
 refine⟨_,rfl,aB ⟨_,rfl,?_⟩⟩;obtain⟨c,I⟩:=sortedHeap_at (out:=(pick f br vs).toArray) u;refine h a _ g c p (λb o e=>?_) I
 rw[sortedHeap_old (aW (aJ e)) (by rw[size_push'];exact Nat.lt_succ_of_lt (aJ e))]
 exact aO _ e
end
def XW(h:bf)(p:Int×Int)(v:vL):Prop:=∃ a o n t u,v=.ref a/\h.get? a=aa o/\o.cls=.type "tuple"/\o.data=.seq #[.int p.1 t,.int p.2 u] n
omit [ClsTab] in
def ZeP{h:bf}{i j:Int}{a:Ad}(x:(tupleKind (mixKind prog w)).is h [.inl i,.inl j] a):XW h (i,j) (.ref a):=by
 obtain⟨o,c,n,p,m,g,f⟩:=(show IsTupleKey (mixKind prog w) h [.inl i,.inl j] a from x);have b:∀ {k:Int}{v:vL},(mixKind prog w).is (.inl k) v=ac->∃ t,v=.int k t:=λ{k v} z=>by
  rcases keyIs_shape (show keyIs (.inl k) v=ac from z) with⟨i,t,e,rfl⟩|⟨x,t,e,_⟩
  .cases e;exact⟨t,rfl⟩
  .exact nomatch e
 obtain⟨l,d⟩:∃ l,c.toList=l:=⟨_,rfl⟩;rw[d]at f;cases f with
 |cons s r=>cases r with
  |cons q r=>
   cases r;obtain⟨t,rfl⟩:=b s;obtain⟨u,rfl⟩:=b q;refine⟨a,o,n,t,u,rfl,p,m,?_⟩;rw[g,<-d]
omit [ClsTab] in
def ZbD{p q:Int×Int}{v u:vL}{C:Bool->Sd->Prop}(f:XW s.heap p v)(d:XW s.heap q u)(h:C (kLt p q) s):az (a0 prog w) A (keyLt' (tuples' ac) v u) C E s:=by
 obtain⟨a,o,n,t,k,rfl,i,y,g⟩:=f;obtain⟨b,x,m,r,l,rfl,g1,g2,j⟩:=d;refine kat_lt i g g1 j ?_;unfold kLt at h;refine kat_cons (wpAny_eqBool_int ?_);by_cases e:p.1=q.1
 .rw[ao e]at h
  rw[show(p.1==q.1)=ac from beq_iff_eq.mpr e];refine kat_yes (kat_cons (wpAny_eqBool_int ?_));by_cases c:p.2=q.2
  .rw[show(p.2==q.2)=ac from beq_iff_eq.mpr c]
   refine kat_yes (kat_nil ?_);rw[show aj (p.2 < q.2)=ae from aH (by omega)]at h
   exact h
  .rw[show(p.2==q.2)=ae from cL.mpr c]
   exact kat_no (kat_one _ _ (wpAny_lt_int h))
 .rw[aq e]at h
  rw[show(p.1==q.1)=ae from cL.mpr e];exact kat_no (oneLt_int h)
omit [ClsTab] in
def Jo{vs:Li vL}{Q:SortKind->Sd->Prop}(b:∀ v∈vs,∃ p,XW s.heap p v)(f:2<=vs.length)(h:Q (tuples' ac) s):az (a0 prog w) A (keyKind' vs.toArray) Q E s:=by
 have all:∀ {l:Li vL},(∀ v∈l,∃ p,XW s.heap p v)->∃ fs,KatTups s.heap l fs/\fs.length=l.length/\∀ v∈fs,∃ i t,v=Value.int i t:=by
  intro l
  induction l with
  |nil=>intro _;exact⟨[],.nil,rfl,λ_ z=>nomatch z⟩
  |cons v l j=>
   intro e;obtain⟨fs,d,g,c⟩:=j λv b=>e v (Lm _ b)
   obtain⟨p,a,o,n,t,u,rfl,m,f,k⟩:=e v Ls;refine⟨.int p.1 t :: fs,.cons m f k rfl d,by rw[aQ,aQ,g],λx hx=>?_⟩
   rcases aF.mp hx with rfl|hx
   .exact⟨_,_,rfl⟩
   .exact c x hx
 obtain⟨fs,d,g,c⟩:=all b;refine kat_kind (T:=.type "int") d (by omega) (λv b=>?_) (by decide) h
 obtain⟨i,t,rfl⟩:=c v b;exact Looks.now
section
variable{K:Fg}{ad:Li Ad}{H:Hp}
def ZeE{kvs:Li (Li Key×V)}{ds:Li D}{ys:Li (Li Key×Ad×vL)}(e:Ents K ad H kvs ds)(r:KTp H kvs ys):Dens K ad H (ys.map λy=>V.ref y.2.1) ((ZY ds).map prD)/\∀ (i:Nat) (y:Li Key×Ad×vL),ys[i]?=aa y->y.1=[.inl ((ZY ds).getD i (0,0)).1,.inl ((ZY ds).getD i (0,0)).2]:=by
 induction e generalizing ys with
 |nil=>cases r;exact⟨.nil,λi y h=>nomatch h⟩
 |cons _ _ c=>cases r with
  |cons h r=>
   obtain⟨a,b⟩:=c r;refine⟨.cons (.tup (.inl h.2.1) (.cons (.int _) (.cons (.int _) .nil))) a,λi y e=>?_⟩
   cases i with
   |zero=>cases e;exact h.1.symm
   |succ i=>exact b i y e
theorem V9{vs:Li V}{ds:Li D}(r:Dens K ad H vs ds):∀ (l:Li Nat),(∀ i∈l,i < ds.length)->Dens K ad H (l.map λi=>vs.getD i .non) (l.map λi=>ds.getD i .non)
 |[],_=>.nil
 |i :: l,h=>by
  refine .cons ?_ (V9 r l λj d=>h j (Lm _ d))
  have a:=h i Ls;obtain⟨v,f,e⟩:=r.get (Lg a);have c:vs.getD i .non=v:=by rw[bD,f];rfl
  have b:ds.getD i .non=ds[i]:=by rw[bD,Lg a];rfl
  show Den K ad H (vs.getD i .non) (ds.getD i .non);rw[c,b];exact e
omit [ClsTab] in
theorem Us{vs:Li V}{a:Li vL}(r:Vals vs a):∀ (l:Li Nat),(∀ i∈l,i < vs.length)->Vals (l.map λi=>vs.getD i .non) (l.map λi=>a.getD i .none)
 |[],_=>.nil
 |i :: l,h=>by
  refine .cons ?_ (Us r l λj e=>h j (Lm _ e))
  have b:=h i Ls;obtain⟨u,g,f⟩:=r.get (Lg b);have d:a.getD i .none=u:=by rw[bD,g];rfl
  have c:vs.getD i .non=vs[i]:=by rw[bD,Lg b];rfl
  show L2.RelV (vs.getD i .non) (a.getD i .none);rw[d,c];exact f
omit [ClsTab] in
def UZ{n:Nat}{f:Nat->Nat->Bool}(a:0 < n):∀ i∈(goT f (kas_sort n)).toList,i < n:=λi b=>by
 have m:=(Array.Perm.mem_iff ((U6 a).go (f:=f))).mp (Array.mem_toList_iff.mp b);simpa using m
omit [ClsTab] in
def QJ{α:Type}{f:Nat->Nat->Bool}{z:α}{a:Li α}:(pick f z a).length=a.length:=by
 unfold pick;split
 .rfl
 .rw[aD,cI,((U6 (by omega)).go (f:=f)).size_eq,aG,bT]
end
omit [ClsTab] in
theorem VR:∀ {ys:Li (Li Key×Ad×vL)},Vals (ys.map λy=>V.ref y.2.1) (ys.map λy=>bq y.2.1)
 |[]=>.nil
 |_ :: _=>.cons rfl VR
def Jb{X:Cx}(hc:X.calm=ac):CallR X (.builtin "sorted") (rC X.K (on1 Zaj)):=by
 intro pQ s O H xs us Q I r h;obtain⟨ad,st,ds,d,st',S,hd,e,p⟩:=h;obtain⟨x,rfl,A⟩:=Yt e;obtain⟨v,rfl,M⟩:=Vu hd;unfold Zaj at A;split at A
 .rename_i a
  split at A
  .rename_i b m q0
   split at A
   .rename_i Y
    cases A;obtain⟨l,rfl,hl,n⟩:=M.ofDic;obtain⟨Y,P⟩:=Y;obtain⟨kvs,W,hx,_⟩:=S.dict hl n q0 P;obtain⟨u1,rfl,r1⟩:=r.one;cases r1;obtain⟨_,F,ys,J,o,es,ep,h1,U,h3,h4,T,_⟩:=dt_of I.hok hx;obtain⟨L,kk⟩:=ZeE W J;have G:ys.length=(ZY m).length:=by have:=L.length;rwa [aD,aD]at this
    have hl0:(ZY m).length=m.length:=by unfold ZY;rw[aD]
    have N:∀ (q:bf),(∀ b o,s.heap.get? b=aa o->q.get? b=aa o)->∀ (i:Nat),i < ys.length->XW q ((ZY m).getD i (0,0)) ((ys.map λy=>bq y.2.1).getD i .none):=λq k i B=>by
     have z:(ys.map λy=>bq y.2.1).getD i .none=.ref ys[i].2.1:=by rw[bD,aV,Lg B];rfl
     have w:=T ys[i] (cT B);rw[kk i _ (Lg B)]at w;obtain⟨a,o,n,t,u,A,e2,e3,e4⟩:=ZeP w;rw[z];exact⟨a,o,n,t,u,A,k _ _ e2,e3,e4⟩
    have hm:∀ (q:bf),(∀ b o,s.heap.get? b=aa o->q.get? b=aa o)->∀ v∈(ys.map λy=>bq y.2.1),∃ p,XW q p v:=λq k v M=>by
     obtain⟨i,B,rfl⟩:=List.mem_iff_getElem.mp M;have R:i < ys.length:=by rwa [aD]at B
     have zz:(ys.map λy=>bq y.2.1).getD i .none=(ys.map λy=>bq y.2.1)[i]:=by rw[bD,Lg B];rfl
     rw[<-zz];exact⟨_,N q k i R⟩
    refine JJ (vs:=ys.map λy=>bq y.2.1) (κ:=tuples' ac) (f:=Uy (ZY m)) (I.ok.hd hc) F ⟨o,h1,U,h3⟩ (by rw[h4,aZ];rfl) (by rw[aD];omega)
     (λq E k U Q hQ=>Jo (s:={ s with heap:=q,toks:=E }) (hm q k) U hQ)
     (λq E k i j C B hj hC=>ZbD (s:={ s with heap:=q,toks:=E }) (N q k i (by rwa [aD]at B)) (N q k j (by rwa [aD]at hj)) hC)
     λg g' E c k k' hg=>?_
    have I2:L2.Inv X pQ O H { s with heap:=g,toks:=E }:=I.kept (t':=E) k
    have Z:=I2.hok.fresh (aE _);have hV:Vals (pick (Uy (ZY m)) V.non (ys.map λy=>V.ref y.2.1)) (pick (Uy (ZY m)) br (ys.map λy=>bq y.2.1)):=by
     unfold pick;rw[aD,aD];split
     .exact VR
     .exact Us VR _ (by rw[aD];exact UZ (by omega))
    have hD:Dens X.K ad H (pick (Uy (ZY m)) V.non (ys.map λy=>V.ref y.2.1)) (pick (Uy (ZY m)) D.non ((ZY m).map prD)):=by
     unfold pick;rw[aD,aD,G];split
     .exact L
     .exact V9 L _ (by rw[aD];exact UZ (by omega))
    refine⟨.ref g.objs.size,upd H g.objs.size (.lst (pick (Uy (ZY m)) V.non (ys.map λy=>V.ref y.2.1))),I2.laid (t':=E) k' (aE _) (show ObjOk X.prog X.w _ _ _ (.lst _) from⟨?_,_,c,hV,hg⟩),rfl,p _ (ad++[_]) _ (Ext.push Z) (S.push Z hD) (.newL ?_)⟩
    .rw[QJ,aD,sizeLine_eq];omega
    .rw[<-S.len];exact Zo
   .exact Zb A
  .exact Zb A
 .exact Zb A
end Dp
namespace Dp
open PySem PySem.Spec PyProof.Rows L2
variable [ClsTab]
variable{A:bm}
section
open PySem.SeqAt PySem.MeetsSeq PySem.MeetsSeq2 PySem.MeetsSeq3 PySem.SeqRoads2
open AutoSeq1 (wpAny_loadPart')
def LtAt(A:bm)(s:Sd)(y x:vL)(b:Bool):Prop:=
 ∀ (prog:a1) (w:bg) (E:vL->Sd->Prop) (Q:vL->Sd->Prop),Q (.bool b) s->az (a0 prog w) A (richCompare .Lt y x) Q E s
noncomputable def ltR(e lt:Nat->Bool)(f:Bool):Li Nat->Bool
 |[]=>f
 |j :: r=>if e j=ac then ltR e lt f r else lt j
def JQ(l b:Ad)(items items2:Array vL)(n n2:Nat)(dd dd2:Ot Ad)(sl sl2:Array (Ot vL))(e lt:Nat->Bool) :
  Meets (Builtin.«tuple.__lt__» ⟨[.ref l,.ref b],[]⟩)
   (λA R s=>s.heap.get? l=aa { cls:=.type "tuple",dict:=dd,data:=.seq items n,slots:=sl }/\s.heap.get? b=aa { cls:=.type "tuple",dict:=dd2,data:=.seq items2 n2,slots:=sl2 } /\
    (∀ j (h1:j < items.size) (h2:j < items2.size),EqAt A.in1 s items[j] items2[j] (e j))/\(∀ j (h1:j < items.size) (h2:j < items2.size),(∀ i,i < j->e i=ac)->e j=ae->LtAt A.in1 s items[j] items2[j] (lt j)) /\
    R (.ok (.ret (.bool (ltR e lt (aj (items.size < items2.size)) (ag (min items.size items2.size)))))) s):=
 .of_wp λprog w A R s h=>by
  obtain⟨hp,g,d,tk,os⟩:=s;obtain⟨hl,hb,he,hq,h⟩:=h;have f2:=AutoSeq1.sub_tuple_tuple;have hZ:(items.toList.zip items2.toList).length=min items.size items2.size:=by simp
  wp_walk using wpAny_loadPart' hl,wpAny_loadPart' hb,wpAny_forIn_list _ (λrest b s'=>b.1=ab/\s'=⟨hp,g,d,tk,os⟩/\∃ i,rest=(items.toList.zip items2.toList).drop i/\(∀ k,k < i->e k=ac) /\
   R (.ok (.ret (.bool (ltR e lt (aj (items.size < items2.size)) ((ag (min items.size items2.size)).drop i))))) ⟨hp,g,d,tk,os⟩) _
  case turn=>
   rintro⟨y,x⟩ rest b s' ⟨hb',rfl,i,hz,hk,hR⟩
   have hlt:i < (items.toList.zip items2.toList).length:=by
    rcases Nat.lt_or_ge i (items.toList.zip items2.toList).length with h'|h'
    .exact h'
    .rw[dY h']at hz;cases hz
   have hm:i < min items.size items2.size:=hZ ▸ hlt;have h1:i < items.size:=aU hm (Nat.min_le_left _ _);have h2:i < items2.size:=aU hm (Nat.min_le_right _ _);rw[bX hlt]at hz
   injection hz with hyx hrest
   have hy:y=items[i]:=by have:=au Prod.fst hyx;simpa using this
   have hx:x=items2[i]:=by have:=au Prod.snd hyx;simpa using this
   subst hy hx;have hd:(ag (min items.size items2.size)).drop i=i :: (ag (min items.size items2.size)).drop (i+1):=by simp[bX,hm]
   rw[hd]at hR;have hR:R (.ok (.ret (.bool (if e i=ac then ltR e lt (aj (items.size < items2.size)) ((ag (min items.size items2.size)).drop (i+1)) else lt i)))) ⟨hp,g,d,tk,os⟩:=hR
   refine aA (he i h1 h2 prog w _ _ ?_);cases hy:e i with
   |true=>
    rw[hy]at hR
    wp_walk
    refine⟨rfl,rfl,i+1,hrest,λk hk'=>?_,by simpa using hR⟩
    rcases Nat.lt_or_ge k i with h|h
    .exact hk k h
    .rw[show k=i by omega];exact hy
   |false=>
    rw[hy]at hR;have hz:∀ (E:vL->Sd->Prop) (Q:vL->Sd->Prop),Q (.bool (lt i)) ⟨hp,g,d,tk,os⟩->az (a0 prog w) A.in1 (richCompare .Lt items[i] items2[i]) Q E ⟨hp,g,d,tk,os⟩:=λE Q=>hq i h1 h2 hk hy prog w E Q
    generalize richCompare .Lt items[i] items2[i]=rc at hz ⊢
    wp_walk using hz _ _
    exact⟨_,rfl,by simpa using hR⟩
  case fin=>
   rintro⟨b1,b2⟩ s' ⟨hb',rfl,i,hz,_,hR⟩
   simp only at hb';subst hb';have hge:min items.size items2.size<=i:=by
    rcases Nat.lt_or_ge i (items.toList.zip items2.toList).length with h'|h'
    .rw[bX h']at hz;cases hz
    .exact hZ ▸ h'
   rw[dY (by simpa using hge)]at hR
   wp_walk
   exact⟨_,rfl,by simpa[Builtin.Tuple.tupleCompareSizes,ltR] using hR⟩
  case h=>
   exact⟨rfl,rfl,0,rfl,λk hk=>ar hk (by omega),by simpa using h⟩
theorem LtAt.tuples{s:Sd}{l b:Ad}{c a:Array vL}{e lt:Nat->Bool}(B:s.heap.IsTuple l c)(D:s.heap.IsTuple b a)(hu:A.units < cLine)(C:∀ j (H:j < c.size) (G:j < a.size),EqAt A.in1 s c[j] a[j] (e j))(z:∀ j (H:j < c.size) (G:j < a.size),(∀ i,i < j->e i=ac)->e j=ae->LtAt A.in1 s c[j] a[j] (lt j)):LtAt A s (.ref l) (.ref b) (ltR e lt (aj (c.size < a.size)) (ag (min c.size a.size))):=λp w E Q h=>by
 obtain⟨⟨cls,dd,u,sl⟩,q,t,n,r⟩:=id B;obtain⟨⟨v,m,o,k⟩,d,g,y,f⟩:=id D;simp only at t r g f;subst t r g f;exact richCompare_meets_room (op:=.Lt) ⟨_,q,rfl⟩ ⟨_,d,rfl⟩ F.slot_tuple_lt F.entry_tuple_lt (F.args_tuple_lt_2 _ _) (JQ l b c a n y dd m sl k e lt)
  ⟨q,d,C,z,show Value.bool (ltR e lt (aj (c.size < a.size)) (ag (min c.size a.size)))≠Value.notImplemented/\Q (.bool (ltR e lt (aj (c.size < a.size)) (ag (min c.size a.size)))) s from⟨(λx=>nomatch x),h⟩⟩ hu
end
def eF(ds es:Li D)(i:Nat):Bool:=Zn ((ds[i]?).getD .non) ((es[i]?).getD .non)
noncomputable def lF(ds es:Li D)(i:Nat):Bool:=match ds[i]?,es[i]? with
 |some (.int a),aa (.int b)=>aj (a < b)
 |some (.str a),aa (.str b)=>aj (a.cps.toList < b.cps.toList)
 |_,_=>ae
theorem Zao{e lt:Nat->Bool}{f:Bool}:∀ {l:Li Nat},ltR e lt f (l.map Nat.succ)=ltR (λi=>e (i+1)) (λi=>lt (i+1)) f l
 |[]=>rfl
 |i :: l=>by
  show(if e (i+1)=ac then ltR e lt f (l.map Nat.succ) else lt (i+1))=_
  rw[Zao];rfl
theorem ZcR:∀ {ds es:Li D}{k:Bool},UT ds es=aa k->ltR (eF ds es) (lF ds es) (aj (ds.length < es.length)) (ag (min ds.length es.length))=k
 |[],[],k,h=>by cases h;rfl
 |[],y :: ys,k,h=>by
  have h:aa (aj (0 < ys.length+1))=aa k:=h;cases h;simp[ltR]
 |x :: a,[],k,h=>by cases h;simp[ltR]
 |x :: a,y :: ys,k,h=>by
  have e:min (x :: a).length (y :: ys).length=min a.length ys.length+1:=by simp only[aQ];omega
  rw[e,List.range_succ_eq_map];show(if Zn x y=ac then ltR (eF (x :: a) (y :: ys)) (lF (x :: a) (y :: ys)) _ ((ag (min a.length ys.length)).map Nat.succ) else lF (x :: a) (y :: ys) 0)=k
  unfold UT at h;by_cases c:Zn x y=ac
  .rw[ao c]at h ⊢
   rw[Zao,show aj ((x :: a).length < (y :: ys).length)=aj (a.length < ys.length) by simp]
   exact ZcR h
  .rw[aq c]at h ⊢
   split at h
   .cases h;rfl
   .cases h;rfl
   .exact Zb h
theorem Zap:∀ {ds es:Li D}{k:Bool}{j:Nat},UT ds es=aa k->j < ds.length->j < es.length->(∀ i,i < j->eF ds es i=ac)->eF ds es j=ae->(∃ a b,ds[j]?=aa (.int a)/\es[j]?=aa (.int b))\/(∃ a b,ds[j]?=aa (.str a)/\es[j]?=aa (.str b))
 |[],_,_,_,_,f,_,_,_=>ar f (by simp)
 |_ :: _,[],_,_,_,_,d,_,_=>ar d (by simp)
 |x :: l,y :: ys,k,0,h,_,_,_,e=>by
  have e:Zn x y=ae:=e;unfold UT at h;rw[aq (by rw[e];simp)]at h
  split at h
  .exact .inl ⟨_,_,rfl,rfl⟩
  .exact .inr ⟨_,_,rfl,rfl⟩
  .exact Zb h
 |x :: l,y :: ys,k,j+1,h,f,d,g,e=>by
  have c:Zn x y=ac:=g 0 (by omega)
  unfold UT at h;rw[ao c]at h;exact Zap (j:=j) h (by simpa using f) (by simpa using d) (λi m=>g (i+1) (by omega)) e
variable{X:Cx}{H:Hp}{ad:Li Ad}{ys:Li V}{ds es:Li D}{k:Bool}
open PySem.SeqAt in
def ZeH{s:Sd}{f:Li V}{a b:Li vL}(r:Dens X.K ad H f ds)(x:Dens X.K ad H ys es)(rv:Vals f a)(e:Vals ys b)(h:UT ds es=aa k) :
  ∀ j (l:j < a.toArray.size) (y:j < b.toArray.size),(∀ i,i < j->eF ds es i=ac)->eF ds es j=ae->LtAt A s a.toArray[j] b.toArray[j] (lF ds es j):=λj l y M N=>by
 have R:a.toArray.size=ds.length:=by rw[aG,<-rv.length,r.length]
 have P:b.toArray.size=es.length:=by rw[aG,<-e.length,x.length]
 have get:∀ {f:Li V}{ds:Li D}{a:Li vL}{d:D} (l:j < a.toArray.size),Dens X.K ad H f ds->Vals f a->ds[j]?=aa d->∃ v,Den X.K ad H v d/\RelV v a.toArray[j]:=λ{f ds a d} l r rv g=>by
  obtain⟨v,J,o⟩:=r.get g;obtain⟨u,B,m⟩:=rv.get J;have O:a.toArray[j]=u:=by
   have:a[j]?=aa (a[j]'(by simpa using l)):=Lg _
   rw[B]at this;simpa using(av this).symm
  exact⟨v,o,by rw[O];exact m⟩
 rcases Zap h (by omega) (by omega) M N with⟨i,L,g1,g2⟩|⟨i,L,g1,g2⟩
 .obtain⟨F,o,m⟩:=get l r rv g1
  obtain⟨C,z,t⟩:=get y x e g2;cases o;cases z
  obtain⟨I,q⟩:=m;obtain⟨G,p⟩:=t;rw[q,p];intro n w E Q c;have c:Q (.bool (lF ds es j)) s:=c;unfold lF at c;rw[g1,g2]at c;exact lt_int c
 .obtain⟨F,o,m⟩:=get l r rv g1
  obtain⟨C,z,t⟩:=get y x e g2;cases o;cases z
  obtain⟨I,q⟩:=m;obtain⟨G,p⟩:=t;rw[q,p];intro n w E Q c;have c:Q (.bool (lF ds es j)) s:=c;unfold lF at c;rw[g1,g2]at c;exact lt_str c
variable{pQ:Li (Ad×Obj)}{O:L2.St}{n:Nat}
open PySem.SeqAt in
def ZeI{s:Sd}(I:Inv X pQ O H s){a b:Ad}{i:Li V}(o:ZX n ds=ac)(m:ZX n es=ac)(hu:A.units+n+1 < cLine)(e:TupAt X.K H a i)(r:Dens X.K ad H i ds)(x:TupAt X.K H b ys)(f:Dens X.K ad H ys es)(h:UT ds es=aa k):LtAt A s (.ref a) (.ref b) k:=by
 obtain⟨g,rv,p,_⟩:=I.tuple (e.sq);obtain⟨d,c,l,_⟩:=I.tuple (x.sq);have w:g.toArray.size=ds.length:=by rw[aG,<-rv.length,r.length]
 have v:d.toArray.size=es.length:=by rw[aG,<-c.length,f.length]
 have q:=LtAt.tuples (A:=A) (s:=s) (e:=eF ds es) (lt:=lF ds es) p l (by omega) (λj u t=>UP (a:=a) (b:=b) I o m hu r f rv c j u t) (ZeH r f rv c h)
 rw[w,v,ZcR h]at q;exact q
variable{dx dy:D}{u:vL}{Q:VK}{st:Za}{op:CmpOp}
variable{X:Cx}
section
theorem Zcz{ad:Li Ad}{H:Hp}{k:Int}:∀ {xs:Li V}{ds:Li D}{b:Bool},Dens X.K ad H xs ds->Y7 k ds=aa b->xs.all flatV=ac/\inV (.int k) xs=b
 |_,_,_,.nil,e=>by cases e;exact⟨rfl,rfl⟩
 |_,_,b,.cons (d:=d) h r,e=>by
  cases d with
  |int i=>
   cases h;unfold Y7 at e;cases q:Y7 k _ with
   |none=>rw[q]at e;cases e
   |some b'=>
    rw[q]at e;cases e;obtain⟨c,a⟩:=Zcz r q;refine⟨by rw[bE,c];rfl,?_⟩
    show((i==k)||inV (.int k) _)=(aj (i=k)||b');rw[a];rfl
  |_=>simp[Y7]at e
theorem Jk{ad:Li Ad}{H:Hp}{k:Str}:∀ {xs:Li V}{ds:Li D}{b:Bool},Dens X.K ad H xs ds->X8 k ds=aa b->xs.all flatV=ac/\inV (.str k) xs=b
 |_,_,_,.nil,e=>by cases e;exact⟨rfl,rfl⟩
 |_,_,b,.cons (d:=d) h r,e=>by
  cases d with
  |str i=>
   cases h;unfold X8 at e;cases q:X8 k _ with
   |none=>rw[q]at e;cases e
   |some b'=>
    rw[q]at e;cases e;obtain⟨c,a⟩:=Jk r q;refine⟨by rw[bE,c];rfl,?_⟩
    show((i==k)||inV (.str k) _)=(aj (i=k)||b');rw[a]
    congr 1
  |_=>simp[X8]at e
def CW(X:Cx)(pQ:Li (Ad×Obj))(O:L2.St)(Q:VK)(s:Sd)(op:CmpOp)(v u:vL):Prop:=az (a0 X.prog X.w) X.A (bh op v u) (EP X pQ O Q) X.xe s
def CW2(X:Cx)(pQ:Li (Ad×Obj))(O:L2.St)(Q:VK)(s:Sd)(H:Hp)(op a:CmpOp)(v u:vL)(k:Bool):Prop:=(Q (.bl k) H->CW X pQ O Q s op v u)/\(Q (.bl (!k)) H->CW X pQ O Q s a v u)
noncomputable def vSc:Sc->V
 |.non=>.non
 |.bl b=>.bl b
 |.int i=>.int i
 |.str x=>.str x
def Den.vSc{K:Fg}{ad:Li Ad}{H:Hp}{x:V}{d:D}{a:Sc}(h:Den K ad H x d)(e:scD d=aa a):x=vSc a:=by
 cases h<;>cases e<;>rfl
def Zef{a b:Sc}(h:ZiB a b=aa k):scal (vSc a) (vSc b)=ac/\aj (vSc a=vSc b)=k:=by
 cases a<;>cases b<;>first
  | (cases h;done)
  | (cases h;exact⟨rfl,rfl⟩)
  | (cases h;exact⟨rfl,dec_bl⟩)
  | (cases h;exact⟨rfl,by simp[vSc]⟩)
inductive EqD(x y:V):D->D->Bool->Prop
 |sc {dx dy:D}{k:Bool} (h3:scal x y=ac) (h4:aj (x=y)=k):EqD x y dx dy k
 |tup {xs ys:List D} (h:(okD 8 (.tup xs)&&okD 8 (.tup ys))=ac):EqD x y (.tup xs) (.tup ys) (Zq xs ys)
def Zee{K:Fg}{x y:V}(i:Den K ad H x dx)(g:Den K ad H y dy)(e:eqD dx dy=aa k):EqD x y dx dy k:=by
 unfold eqD at e;split at e
 .unfold eqT at e
  split at e
  .split at e
   .rename_i c
    cases e;exact .tup c
   .exact Zb e
  .exact Zb e
 .refine j_e e λe=>Z0 (P:=λo=>o=aa k->EqD x y dx dy k) e (λa b l j h=>?_) rfl
  obtain⟨f,d⟩:=Zef h;rw[<-i.vSc l,<-g.vSc j]at f d;exact .sc f d
def ZiD(hu:X.A.units+64 < cLine){s:Sd}{x y:V}{v:vL}(I:Inv X pQ O H s)(f:RelV x v)(d:RelV y u)(S:StOk X.K ad H st)(h:Den X.K ad H x dx)(g:Den X.K ad H y dy)(e:eqD dx dy=aa k):CW2 X pQ O Q s H .Eq .NotEq v u k:=by
 cases Zee h g e with
 |sc i p=>
  subst p;exact⟨λq=>op_eq pQ s O H x y v u Q I f d ⟨i,q⟩,λq=>op_ne pQ s O H x y v u Q I f d ⟨i,q⟩⟩
 |tup c=>
  rw[Ba]at c;obtain⟨a,r,rfl,o,l⟩:=h.ofTup;obtain⟨b,ys,rfl,m,j⟩:=g.ofTup;cases f;cases d
  obtain⟨g1,g2⟩:=ZeV (ad:=ad) (A:=X.A) I (n:=7) c.1 c.2 (by omega) o l m j
  exact⟨λq=>g1 X.prog X.w X.xe _ ⟨.bl _,H,I,rfl,q⟩,λq=>g2 X.prog X.w X.xe _ ⟨.bl _,H,I,rfl,q⟩⟩
open PySem.SeqAt in
def ZeU{s:Sd}(I:Inv X pQ O H s){a b:Ad}{m:Li V}{d c:Li vL}(w:ZX n ds=ac)(v:ZX n es=ac)(hu:A.units+n+1 < cLine)(r:Dens X.K ad H m ds)(o:Dens X.K ad H ys es)(rv:Vals m d)(f:Vals ys c)(p:s.heap.IsList a d.toArray)(h:s.heap.IsList b c.toArray):RcAt A s (.ref a) (.ref b) (Zq ds es)/\RcNeAt A s (.ref a) (.ref b) (!Zq ds es):=by
 have l:d.toArray.size=ds.length:=by rw[aG,<-rv.length,r.length]
 have u:c.toArray.size=es.length:=by rw[aG,<-f.length,o.length]
 by_cases k:ds.length=es.length
 .have t:=λj y x=>UP (a:=a) (b:=b) I w v hu r o rv f j y x
  have q:=RcAt.lists (A:=A) (s:=s) (e:=λi=>Zn ((ds[i]?).getD .non) ((es[i]?).getD .non)) p h (by omega) (by omega) t
  have g:=RcNeAt.lists (A:=A) (s:=s) (e:=λi=>Zn ((ds[i]?).getD .non) ((es[i]?).getD .non)) p h (by omega) (by omega) t
  rw[l]at q g;rw[YY,show min ds.length es.length=ds.length by omega,show(ds.length==es.length)=ac by simpa using k,dL]
  exact⟨q,g⟩
 .have q:=RcAt.lists_lengths (A:=A) (s:=s) p h (by rw[l,u];simpa using k) (by omega)
  have g:=RcNeAt.lists_lengths (A:=A) (s:=s) p h (by rw[l,u];simpa using k) (by omega)
  rw[YY,show(ds.length==es.length)=ae by simpa using k,Bool.and_false]
  exact⟨q,g⟩
open PySem.SeqAt in
def ZjE(hu:X.A.units+64 < cLine){s:Sd}{x y:V}{v:vL}(I:Inv X pQ O H s)(b:RelV x v)(a:RelV y u)(S:StOk X.K ad H st)(d:Den X.K ad H x (.tup ds))(c:Den X.K ad H y (.tup es))(e:Zav st ds es=aa k):CW2 X pQ O Q s H .Eq .NotEq v u k:=by cases e
def ZiE(hu:X.A.units+64 < cLine){s:Sd}{x y:V}{v:vL}(I:Inv X pQ O H s)(r:RelV x v)(p:RelV y u)(S:StOk X.K ad H st)(M:Den X.K ad H x dx)(L:Den X.K ad H y dy)(e:eqS st dx dy=aa k):CW2 X pQ O Q s H .Eq .NotEq v u k:=by
 have sc:scal x y=ac->(aj (x=y))=k->CW2 X pQ O Q s H .Eq .NotEq v u k:=λC h2=>by
  subst h2;exact⟨λq=>op_eq pQ s O H x y v u Q I r p ⟨C,q⟩,λq=>op_ne pQ s O H x y v u Q I r p ⟨C,q⟩⟩
 unfold eqS at e;split at e
 .unfold ZiA at e
  split at e
  case h_2=>exact Zb e
  obtain⟨a,rfl,ha⟩:=M.ofLst;obtain⟨b,rfl,hb⟩:=L.ofLst;cases r;cases p
  have two:∀ {ba bb:Bool}{i ys:Li D},st[_]?=aa (ba,i)->st[_]?=aa (bb,ys)->(i=[]\/ys=[])->(i.isEmpty&&ys.isEmpty)=k->CW2 X pQ O Q s H .Eq .NotEq (.ref a) (.ref b) k:=λ{ba bb i ys} J G E hk=>by
   obtain⟨vs,T,s1⟩:=S.list ha J;obtain⟨ws,R,N⟩:=S.list hb G;obtain⟨h,rv,B,_⟩:=I.list s1;obtain⟨g,l,t,_⟩:=I.list N;have Z:h.toArray.size=i.length:=by rw[aG,<-rv.length,T.length]
   have Y:g.toArray.size=ys.length:=by rw[aG,<-l.length,R.length]
   by_cases n:i.length=ys.length
   .have W:i=[]:=by
     rcases E with z|z
     .exact z
     .rw[z]at n;exact dZ.mp n
    have z2:ys=[]:=by rw[W]at n;exact dZ.mp n.symm
    subst W z2;cases hk;have f:h=[]:=dZ.mp (by simpa using Z)
    have f':g=[]:=dZ.mp (by simpa using Y)
    subst f f';refine⟨λq=>SeqAt.RcAt.lists (e:=λ_=>ac) B.isList t.isList rfl (by omega) (λj C _=>ar C (by simp)) X.prog X.w X.xe _ ⟨.bl ac,H,I,rfl,q⟩,λq=>SeqAt.RcNeAt.lists (e:=λ_=>ac) B.isList t.isList rfl (by omega) (λj C _=>ar C (by simp)) X.prog X.w X.xe _ ⟨.bl ae,H,I,rfl,q⟩⟩
   .have U:k=ae:=by
     rw[<-hk];rcases E with z|z
     .subst z
      cases ys with
      |nil=>exact ar rfl n
      |cons _ _=>rfl
     .subst z
      cases i with
      |nil=>exact ar rfl n
      |cons _ _=>rfl
    subst U;have F:(h.toArray.size != g.toArray.size)=ac:=by rw[Z,Y];simpa using n
    exact⟨λq=>SeqAt.RcAt.lists_lengths B.isList t.isList F (by omega) X.prog X.w X.xe _ ⟨.bl ae,H,I,rfl,q⟩,λq=>SeqAt.RcNeAt.lists_lengths B.isList t.isList F (by omega) X.prog X.w X.xe _ ⟨.bl ac,H,I,rfl,q⟩⟩
  refine j_e e λe=>Z0 (P:=λo=>o=aa k->CW2 X pQ O Q s H .Eq .NotEq (.ref a) (.ref b) k) e (λc d J G e=>?_) rfl
  obtain⟨c1,c2⟩:=c;obtain⟨d1,d2⟩:=d;unfold ZgM at e;split at e
  .rename_i E
   cases e;rw[cG]at E;exact two J G (E.imp List.isEmpty_iff.mp List.isEmpty_iff.mp) rfl
  .split at e
   .rename_i m
    cases e;rw[Ba]at m;obtain⟨vs,T,s1⟩:=S.list ha J;obtain⟨ws,R,N⟩:=S.list hb G;obtain⟨h,rv,B,_⟩:=I.list s1;obtain⟨g,l,t,_⟩:=I.list N;obtain⟨g1,g2⟩:=ZeU (ad:=ad) (A:=X.A) I m.1 m.2 (by omega) T R rv l B.isList t.isList
    exact⟨λq=>g1 X.prog X.w X.xe _ ⟨.bl _,H,I,rfl,q⟩,λq=>g2 X.prog X.w X.xe _ ⟨.bl _,H,I,rfl,q⟩⟩
   .exact Zb e
 .unfold ZiC at e
  split at e
  .split at e
   .rename_i k' q
    cases e;exact ZiD hu I r p S M L (show eqD (.tup _) (.tup _)=aa _ from q)
   .exact ZjE hu I r p S M L e
  .exact Zb e
 .exact ZiD hu I r p S M L e
open Classical in
def ZkP(K:Fg)(ad:Li Ad)(H:Hp)(d:D)(u:vL):Bool:=aj (∃ y e,RelV y u/\Den K ad H y e/\okD 8 e=ac/\Zn e d=ac)
section
variable{pQ:Li (Ad×Obj)}{s:Sd}{O:L2.St}{H:Hp}{x y:V}{v u:vL}{Q:VK}{ad:Li Ad}{st:Za}{dx dy:D}{k:Bool}
def UO{a:Ad}{b:Li V}(I:Inv X pQ O H s)(e:RelV x v)(d:RelV y u)(i:y=.ref a)(sq:SqL X.K H a b\/SqT X.K H a b)(g:flatV x=ac)(h:b.all flatV=ac/\inV x b=k):CW2 X pQ O Q s H .In .NotIn v u k:=by
 obtain⟨f,j⟩:=h;subst j;exact⟨λc=>op_in_seq pQ s O H _ _ v u Q I e d ⟨a,b,i,sq,g,f,c⟩,λc=>op_notIn_seq pQ s O H _ _ v u Q I e d ⟨a,b,i,sq,g,f,c⟩⟩
def InW(X:Cx)(pQ:Li (Ad×Obj))(O:L2.St)(Q:VK)(s:Sd)(H:Hp)(v u:vL)(dy:D)(k:Bool):Prop:=(Q (.bl k) H->CW X pQ O Q s .In v u)/\((∀ ks vs,dy≠.dct ks vs)->Q (.bl (!k)) H->CW X pQ O Q s .NotIn v u)
def CW2.inW(h:CW2 X pQ O Q s H .In .NotIn v u k):InW X pQ O Q s H v u dy k:=⟨h.1,λ_=>h.2⟩
def ZiH(hu:X.A.units+64 < cLine)(I:Inv X pQ O H s)(f:RelV x v)(d:RelV y u)(S:StOk X.K ad H st)(l:Den X.K ad H x dx)(h:Den X.K ad H y dy)(q:inS st dx dy=aa k):InW X pQ O Q s H v u dy k:=by
 unfold inS at q;split at q
 .split at q
  .rename_i m
   obtain⟨a,e,c⟩:=h.ofLst;obtain⟨n,r,sq⟩:=S.list c m;cases l;exact(UO I f d e (.inl sq) rfl (Zcz r q)).inW
  .exact Zb q
 .split at q
  .rename_i m
   obtain⟨a,e,c⟩:=h.ofLst;obtain⟨n,r,sq⟩:=S.list c m;cases l;exact(UO I f d e (.inl sq) rfl (Jk r q)).inW
  .exact Zb q
 .obtain⟨a,n,e,c,r⟩:=h.ofTup
  cases l;exact(UO I f d e (.inr c.sq) rfl (Zcz r q)).inW
 .obtain⟨a,n,e,c,r⟩:=h.ofTup
  cases l;exact(UO I f d e (.inr c.sq) rfl (Jk r q)).inW
 .obtain⟨a,vs,rfl,c,E,r⟩:=h.ofDct
  cases l;cases q;refine⟨λg=>op_in_dct pQ s O H _ _ v u Q I f d ⟨a,_,Sum.inr _,rfl,rfl,c,?_⟩,λz=>ar rfl (z _ _)⟩
  rcases Wl r E with⟨w,L,B,t,J⟩|⟨B,t⟩
  .rw[B];rw[t]at g;exact g
  .rw[B];rw[t]at g;exact g
 .obtain⟨o,C,rfl⟩:=dH.mp q
  obtain⟨i,j,M,es,rfl,⟨m,p⟩,rfl⟩:=Jf C;obtain⟨a,rfl,c,D⟩:=h.ofDic;obtain⟨kvs,r,F,_⟩:=S.dict c D m p;obtain⟨b,rfl,G⟩:=Wf l;cases f;cases d
  have z:=in_dT (X:=X) (Q:=Q) (by omega) I F G
  rw[Za8 r]at z;exact⟨z.1,λ_=>z.2⟩
 .cases l;cases h;cases q
  exact⟨λg=>op_in_str pQ s O H _ _ v u Q I f d ⟨_,_,rfl,rfl,g⟩,λ_ g=>op_notIn_str pQ s O H _ _ v u Q I f d ⟨_,_,rfl,rfl,g⟩⟩
 .exact Zb q
def ZeB(a:Den X.K ad H x dx)(q:isN dx=aa k):aj (x=V.non)=k:=by
 cases a<;>cases q<;>rfl
def ZiI(I:Inv X pQ O H s)(f:RelV x v)(d:RelV y u)(h:Den X.K ad H x dx)(g:Den X.K ad H y dy)(q:isD dx dy=aa k):CW2 X pQ O Q s H .Is .IsNot v u k:=by
 unfold isD at q;split at q
 .cases g
  have z:=ZeB h q;subst z;exact⟨λc=>op_isN pQ s O H _ _ v u Q I f d ⟨rfl,c⟩,λc=>op_notN pQ s O H _ _ v u Q I f d ⟨rfl,c⟩⟩
 .unfold isB at q
  split at q
  .cases q
   cases h;cases g
   cases f;cases d
   have e:∀ a b:Bool,(Value.bool a==Value.bool b)=(a==b):=λa b=>by cases a<;>cases b<;>rfl
   exact⟨λc=>wpAny_is_plain rfl (by rw[e];exact⟨.bl _,H,I,rfl,c⟩),λc=>wpAny_isNot_plain rfl (by rw[e];exact⟨.bl _,H,I,rfl,c⟩)⟩
  .cases q
 .cases q
def Va{f:Int->Int->Bool}(b:Den X.K ad H x dx)(a:Den X.K ad H y dy)(q:Zbj f dx dy=aa k):∃ i j,x=.int i/\y=.int j/\f i j=k:=by
 unfold Zbj at q;split at q
 .cases q;cases b;cases a;exact⟨_,_,rfl,rfl,rfl⟩
 .exact Zb q
def ZjP(hu:X.A.units+64 < cLine)(I:Inv X pQ O H s)(e:RelV x v)(d:RelV y u)(S:StOk X.K ad H st)(h:Den X.K ad H x dx)(g:Den X.K ad H y dy)(q:ltS st dx dy=aa k)(f:Q (.bl k) H):CW X pQ O Q s .Lt v u:=by
   have q:ltD dx dy=aa k:=q;unfold ltD at q;split at q
   .split at q
    .rename_i ds es c
     rw[Ba]at c;obtain⟨a,r,rfl,p,m⟩:=h.ofTup;obtain⟨b,ys,rfl,o,l⟩:=g.ofTup;cases e;cases d
     exact ZeI (ad:=ad) (A:=X.A) I (n:=7) c.1 c.2 (by omega) p m o l q X.prog X.w X.xe _ ⟨.bl _,H,I,rfl,f⟩
    .exact Zb q
   obtain⟨i,j,rfl,rfl,z⟩:=Va h g q;exact op_lt pQ s O H _ _ v u Q I e d ⟨_,_,rfl,rfl,by cases z;exact f⟩
def UU{o:Ot Bool}(q:o.map not=aa k):o=aa (!k):=by
 cases o with
 |none=>exact Zb q
 |some a=>cases q;rw[Bool.not_not]
def Zc0{a:CmpOp}(h:CW2 X pQ O Q s H op a v u (!k))(b:Q (.bl k) H):CW X pQ O Q s a v u:=h.2 (by rw[Bool.not_not];exact b)
end
def Zat(hu:X.A.units+64 < cLine):OpR X (bh op) (rD X.K (Zd7 op)):=by
 intro pQ s O H x y v u Q I b a h;obtain⟨ad,st,dx,dy,d,st',S,g,f,e,p⟩:=h
 change CW X pQ O Q s op v u;unfold Zd7 at e;cases q:Zd6 op dx dy st with
 |none=>rw[q]at e;cases e
 |some k=>
  rw[q]at e;cases e;have c:=p.at S (.bl k);clear p;cases op with
  |Lt=>exact ZjP hu I b a S g f q c
  |LtE=>
   obtain⟨i,j,rfl,rfl,z⟩:=Va g f q;exact op_le pQ s O H _ _ v u Q I b a ⟨_,_,rfl,rfl,by cases z;exact c⟩
  |Gt=>
   obtain⟨i,j,rfl,rfl,z⟩:=Va g f q;exact op_gt pQ s O H _ _ v u Q I b a ⟨_,_,rfl,rfl,by cases z;exact c⟩
  |GtE=>
   obtain⟨i,j,rfl,rfl,z⟩:=Va g f q;exact op_ge pQ s O H _ _ v u Q I b a ⟨_,_,rfl,rfl,by cases z;exact c⟩
  |Eq=>exact(ZiE hu I b a S g f q).1 c
  |NotEq=>exact Zc0 (ZiE hu I b a S g f (UU q)) c
  |In=>exact(ZiH hu I b a S g f q).1 c
  |NotIn=>
   have q:niS st dx dy=aa k:=q;unfold niS at q;split at q
   .exact Zb q
   .rename_i l
    exact(ZiH hu I b a S g f (UU q)).2 l (by rw[Bool.not_not];exact c)
  |Is=>exact(ZiI I b a g f q).1 c
  |IsNot=>exact Zc0 (ZiI I b a g f (UU q)) c
end
variable [ClsTab]
noncomputable def Zg:ax->Bool
 |.Starred ..=>ae
 |.Set ..=>ae
 |.Slice ..=>ae
 |_=>ac
variable{sc:a7}{N:Li Str}{e:ax}
def Zd{G:Gs}{c:CE}(h:cE G n sc N e=aa c):Zg e=ac:=by
 cases n with
 |zero=>exact nomatch (show(ab:Ot CE)=aa c from h)
 |succ n=>cases e<;>first|rfl|exact nomatch (show(ab:Ot CE)=aa c from h)
variable{env:PySem.Env}
def Zc{es:Li ax}(h:Zg e=ac):a5 (e :: es) env=(ae,eval e env) :: a5 es env:=by
 cases e<;>first|rfl|cases h
def WP{b:ax}(h:Zg b=ac):behindInMarks op b=ae:=by
 cases b<;>first|rfl|cases h
def QA{b:ax}(h:Zg b=ac):PlainIx b:=by
 cases b<;>first | (intro o i;rfl)|cases h
theorem YX{pos:Pos}{env:PySem.Env}:∀ {es:Li ax},es.all Zg=ac->(backTo pos (a5 es env)).any (·.1)=ae
 |[],_=>rfl
 |e :: es,h=>by
  rw[bE,Ba]at h;rw[Zc h.1];show(ae||(backTo pos (a5 es env)).any (·.1))=ae;rw[YX h.2];rfl
inductive EsOk(Pm:Params)(K:Fg):List DictEntry->List Str->List D->Prop where
 |nil:EsOk Pm K [] [] []
 |cons {e:DictEntry}{es:List DictEntry}{k:Str}{ks:List Str}{d:D}{ds:List D}{v:V}{t:Tok} (h1:e.hash=bp Pm k) (h2:e.key=.str k t) (h3:RelV v e.val) (h4:∀ ad H,Den K ad H v d) (r:EsOk Pm K es ks ds):EsOk Pm K (e :: es) (k :: ks) (d :: ds)
def JY(b:Params)(K:Fg)(mg:Str->Ot vL)(x:Str)(ks:Li Str)(ds:Li D):Prop:=
 ∃ A o es a,mg x=aa (.ref A)/\K.lookup A=aa o/\o.ExactDict/\o.data=.dict es a/\(A==bj)=ae/\ks.Nodup/\EsOk b K es.toList ks ds
variable{w:bg}
theorem EsOk.open{P:a1}{K:Fg}:∀ {es:Li DictEntry}{ks:Li Str}{ds:Li D},EsOk w.params K es ks ds->∃ kvs:Li (Key×vL),Pairs (mixKind P w) es kvs/\kvs.map (·.1)=ks.map Sum.inr/\(∀ e∈es,∃ k,(mixKind P w).is k e.key=ac/\e.hash=(mixKind P w).hash k) /\
  ∀ k d,Ya ks ds k=aa d->∃ u v,valueAt kvs (Sum.inr k)=aa u/\RelV v u/\∀ ad H,Den K ad H v d
 |_,_,_,.nil=>⟨[],.nil,rfl,(λ_ h=>nomatch h),λk d h=>by simp[Ya]at h⟩
 |e :: es,a :: ks,n :: ds,.cons (v:=v) (t:=t) m l j i r=>by
  obtain⟨kvs,B,A,y,s⟩:=EsOk.open (P:=P) r;have b:(mixKind P w).is (Sum.inr a) e.key=ac:=by rw[l];exact mixKind_str P w a t
  refine⟨(Sum.inr a,e.val) :: kvs,.cons b rfl B,by rw[aK,aK,A],λx hx=>?_,λk d h=>?_⟩
  .rcases aF.mp hx with rfl|hx
   .exact⟨Sum.inr a,b,m⟩
   .exact y x hx
  .unfold valueAt
   by_cases c:a=k
   .subst c
    have h:Ya (a :: ks) (n :: ds) a=aa d:=h;simp only[Ya,ao]at h;cases h;exact⟨e.val,v,by simp,j,i⟩
   .have h:Ya ks ds k=aa d:=by
     simp only[Ya,aq c]at h;exact h
    obtain⟨u,f,q,p,o⟩:=s k d h;refine⟨u,f,?_,p,o⟩;have g:¬(Sum.inr a:Key)=Sum.inr k:=λz=>c (Sum.inr.inj z)
    rw[List.find?_cons_of_neg (by simpa using g)]
    exact q
structure SubOk(K:Fg)(C B:Addr):Prop where
 cl:Cls K C
 ha:W.findIn K (.ref C) "__class__"=aa (aa (.builtin "object.__class__"))
 hn:W.specialIn K (.builtin "object.__class__") "__get__"=aa (aa (.builtin "getset_descriptor.__get__"))
 ht:W.takesIn K (.builtin "object.__class__")=aa ac
 hm:W.mroIn K C (.type "object")=aa ac
 kit:W.kitOne K (.ref C) (.ref B)=aa ac
structure NewOk(K:Fg)(C:Addr):Prop where
 makes:W.makesIn K C=ac
 init:W.findIn K (.ref C) "__init__"=aa (aa (.builtin "object.__init__"))
 kp:W.keepIn K (.ref C)=ac
 cl:Cls K C
def GOk(P:a1)(w:bg)(K:Fg)(mg:Str->Ot vL)(base:bf)(A:bm)(F:Nat->Fn)(x:Str):GV->Prop
 |.c d=>∃ v u,mg x=aa u/\RelV v u/\∀ ad H,Den K ad H v d
 |.blt=>mg x=ab
 |.dct ks ds=>JY w.params K mg x ks ds
 |.cls i l a=>mg x=aa (.ref (ClsTab.ca i))/\NewOk K (ClsTab.ca i)/\(∀ h,a.contains h=ac->SubOk K (ClsTab.ca h) (ClsTab.ca i)) /\
   ∀ m j g,l.lookup m=aa (j,g)->∃ (k:Nat) (f:Ad) (fd:bc) (pn:Li Str),FnOk P w K mg base CX0 k f fd pn (spD K (F j))/\Room k A/\Meth K (ClsTab.ca i) m f/\Binds K fd pn []
 |.fn i g ds=>∃ (k:Nat) (f:Ad) (fd:bc) (pn:Li Str),FnOk P w K mg base CX0 k f fd pn (spD K (F i))/\Room k A/\mg x=aa (.ref f)/\W.keepIn K (.ref f)=ac /\
   ∀ m,m<=ds.length->∃ b e,(∀ ad H,Dens K ad H b (ds.drop m))/\Vals b e/\Binds K fd pn e
structure Cxt(X:Cx)(G:Gs)(F:Nat->Fn)(sc:a7)(N:List Str):Prop where
 hN:X.N=N
 vis:∀ x,XA sc x=ac->Vis X.env.scope x
 glb:∀ x,ZC sc x=ac->Gl X x
 calm:X.calm=ac
 hu:X.A.units+64 < cLine
 gl:∀ x g,G.lookup x=aa g->GOk X.prog X.w X.K X.mg X.base X.A F x g
 cel:∀ x,VD sc x=ac->X.env.scope.names.lookup x=aa .cell\/X.env.scope.names.lookup x=aa .free
 nx:X.xe=λ_ _=>False
variable{i:Nat}
def X7{x:Str}(h:N.idxOf? x=aa i):N[i]?=aa x:=by
 unfold List.idxOf? at h
 rw[List.findIdx?_eq_some_iff_getElem]at h;obtain⟨a,b,_⟩:=h;rw[Lg a];rw[beq_iff_eq.mp b]
def UR{x:Str}(h:XA sc x=ac):(x==("__debug__":Str))=ae/\(x==("__classdict__":Str))=ae:=by
 unfold XA at h;rw[Ba,Ba,eA,eA]at h;exact h.1
def Xx{x:Str}(h:ZC sc x=ac):(x==("__debug__":Str))=ae:=by
 unfold ZC at h;rw[Ba,eA]at h;exact h.1
variable{fa:Ev}{pos:Pos}{U:Env}{st':Za}{d:D}
variable{F:Nat->Fn}
def ZiU{f:Ev}(h:PE X e (tE X.K f))(b:∀ a,isTrue e X.env a=(do let v <-a;standAt e.pos;holding [v] (truthy v)):=by intro _;rfl):PT X e (tT X.K f):=VP (pt_val h b) Zcw
def Zhf{c a b:ax}{u v:Ev}(y:PT X c (tT X.K u))(A:PT X a (tT X.K fa))(z:PT X b (tT X.K v)):PT X (.IfExp c a b pos) (tT X.K (Xt u fa v)):=by
 intro pQ s O H Q I h;obtain⟨ad,U,st,d,st',E,S,e,p⟩:=h;obtain⟨k,g,q,e⟩:=Yc e;show az _ _ (isTrue c X.env (eval c X.env) >>= λt=>if t then isTrue a X.env (eval a X.env) else isTrue b X.env (eval b X.env)) _ _ s
 refine aA (thn (y pQ s O H (λx l=>x=k/\∃ f,Ext ad H f l/\StOk X.K f l g) I ⟨ad,U,st,k,g,E,S,q,λf l j m=>⟨rfl,f,j,m⟩⟩) λt s1 ⟨l,w,B,f,j,m⟩=>?_)
 subst B;cases t with
 |true=>
  rw[ao rfl]at e ⊢;exact A pQ s1 O l Q w ⟨f,U,g,d,st',E.mono j,m,e,λi r n o=>p i r (j.trans n) o⟩
 |false=>
  rw[aq Bf]at e ⊢;exact z pQ s1 O l Q w ⟨f,U,g,d,st',E.mono j,m,e,λi r n o=>p i r (j.trans n) o⟩
def QT:CE->Prop
 |.aN=>True
 |.aC _ _=>True
 |_=>False
def WZ{c:CE}(h:QT c)(e:ev F c U st=aa (d,st')):∃ ds,d=.tup ds/\ds.length<=1000:=by
 cases c with
 |aN=>cases e;exact⟨[],rfl,by decide⟩
 |aC a r=>
  have e:ZT (ev F a) (ev F r) V8 U st=aa (d,st'):=e;unfold ZT at e;split at e
  .split at e
   .rename_i y b _
    cases y with
    |tup f=>
     have e:(if f.length < 1000 then aa (D.tup (_ :: f),b) else ab)=aa (d,st'):=e
     split at e
     .rename_i g
      cases e;exact⟨_,rfl,g⟩
     .exact Zb e
    |_=>simp[V8]at e
   .exact Zb e
  .exact Zb e
 |_=>exact False.elim h
structure SE(X:Cx)(F:Nat->Fn)(e:ax)(c:CE):Prop where
 pe:PE X e (tE X.K (ev F c))
 pt:PT X e (tT X.K (ev F c))
def SE.of{c:CE}(h:PE X e (tE X.K (ev F c)))(b:∀ a,isTrue e X.env a=(do let v <-a;standAt e.pos;holding [v] (truthy v)):=by intro _;rfl):SE X F e c:=⟨h,ZiU h b⟩
def QK{op:BoolOp}{es:Li ax}{t:TT}(h:PT X (.BoolOp op es pos) t):PW X (.BoolOp op es pos) t:=λ_ pQ s O H Q I q=>h pQ s O H Q I q
variable{vs:Li V}{ad0:Li Ad}
variable{ad:Li Ad}{H:Hp}{p:Ad}
section
variable{o:HO}
variable (ho:Jl o=ae)
include ho
def ZcG{K:Fg}(a:H p=aa (.dK [])):Keeps K ad ad H (upd H p o):=⟨λh=>h.upd a (by intro b z;cases z),λh=>⟨h,VW (WX a rfl) ho⟩,λn h=>by rw[upd_ne (ne_of h a (by intro z;injection z with z;exact n z))];exact h,λh n=>⟨by rw[upd_ne (ne_of h a (by intro z;cases z))];exact h,n⟩⟩
def Dens.wrK{K:Fg}(a:H p=aa (.dK []))(h:Dens K ad H vs ds):Dens K ad (upd H p o) vs ds:=h.map (ZcG ho a)
def StOk.wrK{K:Fg}(S:StOk K ad H st)(a:H p=aa (.dK []))(b:p∉ad):StOk K ad (upd H p o) st:=
 S.wrG (ZcG ho a) b
def Ext.wrK{e:Hp}(x:Ext ad0 e ad H)(f:H p=aa (.dK []))(d:e p=ab):Ext ad0 e ad (upd H p o):=by
 refine⟨x.pre,λb c h=>?_,λb c h=>?_,λb o h n=>?_,x.new,λi a h=>(x.kd i a h).trans (VW (WX f rfl) ho)⟩
 .rw[upd_ne (ne_of_none h d)];exact x.tup b c h
 .rw[upd_ne (ne_of_none h d)];exact x.dk b c h
 .rw[upd_ne (ne_of_none h d)];exact x.keep b o h n
end
theorem Uh:∀ (kvs a:Li (Key×V)),(∀ p∈kvs,∀ q∈a,q.1≠p.1)->(kvs.map (·.1)).Nodup->mergeK a kvs=a++kvs
 |[],a,_,_=>by show a=a++[];rw[bG]
 |p :: r,a,h,n=>by
  rw[aK,bM]at n;have e:putK a p.1 p.2=a++[p]:=by
   unfold putK;rw[aq];intro z;rw[List.any_eq_true]at z;obtain⟨q,hq,z⟩:=z;exact h p (Ls ..) q hq (am z)
  show mergeK (putK a p.1 p.2) r=_;rw[e,Uh r (a++[p]) (λx b q hq=>?_) n.2,bV];rfl
  rcases bC.mp hq with hq|hq
  .exact h x (Lm _ b) q hq
  .rw[aM]at hq
   subst hq;intro z;exact n.1 (by rw[z];exact List.mem_map_of_mem b)
theorem VG:∀ {ks:Li Str}{vs:Li V},ks.Nodup->(((ks.zip vs).map λp=>((Sum.inr p.1:Key),p.2)).map (·.1)).Nodup
 |[],_,_=>by simp
 |_ :: _,[],_=>by simp
 |k :: ks,v :: vs,h=>by
  rw[bM]at h;show((Sum.inr k:Key) :: ((ks.zip vs).map λp=>((Sum.inr p.1:Key),p.2)).map (·.1)).Nodup
  rw[bM];refine⟨λz=>h.1 ?_,VG h.2⟩
  rw[aZ,aL]at z;obtain⟨q,a,e⟩:=z;have e:(Sum.inr q.1:Key)=Sum.inr k:=e;rw[<-Sum.inr.inj e];exact(dS a).1
theorem Wj:∀ {keys:Li (Ot ax)}{ks:Li Str},ZO keys=aa ks->keys.length=ks.length/\keys.all (·.isSome)=ac
 |[],_,h=>by cases h;exact⟨rfl,rfl⟩
 |some (.Constant (.str k) a b) :: r,ks,h=>by
  have h:(ZO r).map (k :: ·)=aa ks:=h;cases q:ZO r with
  |none=>rw[q]at h;cases h
  |some c=>
   rw[q]at h;cases h;obtain⟨f,d⟩:=Wj q;exact⟨by rw[aQ,aQ,f],by rw[bE,d];rfl⟩
 |none :: _,_,h=>by simp[ZO]at h
 |some e :: r,ks,h=>by
  cases e with
  |Constant v a b=>cases v with
   |str k=>
    have h:(ZO r).map (k :: ·)=aa ks:=h;cases q:ZO r with
    |none=>rw[q]at h;cases h
    |some c=>
     rw[q]at h;cases h;obtain⟨f,d⟩:=Wj q;exact⟨by rw[aQ,aQ,f],by rw[bE,d];rfl⟩
   |_=>simp[ZO]at h
  |_=>simp[ZO]at h
variable{vals:Li ax}{ks:Li Str}
variable{pos:Pos}
section
variable{f:ax->Ot CE}
theorem Zdg(n:∀ e c,f e=aa c->PE X e (tE X.K (ev F c))):∀ {vals:Li ax}{keys:Li (Ot ax)}{ks:Li Str}{c:CE},ZO keys=aa ks->cVs f vals=aa c->ks.length=vals.length->
  QT c/\∃ i,PPs X pos keys vals i/\∀ O H (Q:Li (V×V)->Hp->Prop),tA X.K (ev F c) O H (λvs H'=>Q ((ks.zip vs).map λp=>(V.str p.1,p.2)) H')->tPairs i O H Q
 |[],keys,ks,c,g,j,l=>by
  cases j;cases ks with
  |cons _ _=>simp at l
  |nil=>
   have A:=(Wj g).1;cases keys with
   |cons _ _=>simp at A
   |nil=>exact⟨trivial,[],pps_nil,λO H Q h=>VB O H _ h⟩
 |v :: vals,keys,ks,c,g,j,l=>by
  cases ks with
  |nil=>simp at l
  |cons k ks=>
   have j:(match f v,cVs f vals with
    |some x,aa r=>aa (CE.aC x r)
    |_,_=>ab)=aa c:=j
   split at j
   .rename_i x r u w
    cases j;cases keys with
    |nil=>cases g
    |cons m keys=>
     cases m with
     |none=>simp[ZO]at g
     |some e=>
      cases e with
      |Constant C a b=>
       cases C with
       |str t=>
        have g:(ZO keys).map (t :: ·)=aa (k :: ks):=g;cases q:ZO keys with
        |none=>rw[q]at g;cases g
        |some s=>
         rw[q]at g;cases g;obtain⟨_,i,z,y⟩:=Zdg n q w (by simpa using l)
         refine⟨trivial,(tC (.str k),tE X.K (ev F x)) :: i,pps_cons pe_str (n v x u) z,λO H Q h=>?_⟩
         have h:=Ue O H _ h;obtain⟨ad,U,st,d,st',E,S,e,p⟩:=h;exact⟨ad,U,st,d,st',E,S,e,λv ad' H' o D B=>y O H' _ (p v ad' H' o D B)⟩
       |_=>simp[ZO]at g
      |_=>simp[ZO]at g
   .exact Zb j
def Zdc(L:∀ e c,f e=aa c->PE X e (tE X.K (ev F c))){keys:Li (Ot ax)}{c:CE}(x:ZO keys=aa ks)(M:cVs f vals=aa c)(I:keys.length=vals.length)(T:keys≠[])(u:keys.length<=15) :
  PE X (.Dict keys vals pos) (tE X.K (ev F (.dict ks c))):=by
 obtain⟨Z,C⟩:=Wj x;obtain⟨N,B,R,P⟩:=Zdg (pos:=pos) L x M (by omega)
 refine Zi (pe_disp R C I T u) λO H Q h=>?_
 obtain⟨ad,U,st,d,st',E,S,e,p⟩:=h;have e:Zr (ev F c) (ZfE ks) U st=aa (d,st'):=e;unfold Zr at e;split at e
 .rename_i y m w
  obtain⟨ds,rfl,_⟩:=WZ N w;have e:(if ks.length=ds.length/\(ks.Nodup/\ks≠[])/\ks.length<=15 then aa (D.dct ks ds,m) else ab)=aa (d,st'):=e
  split at e
  .rename_i v
   cases e;intro a b t;refine P O _ _ ⟨ad,U,st,ds,_,E.mono (Ext.laid b),S.laid b,w,λvs g Y k W A=>?_⟩
   have j:Y a=aa (.dK []):=k.dk a [] upd_same;have n:∀ {l:Li (Key×V)},Jl (HO.dK l)=ae:=λ{l}=>rfl
   have s:ks.length=vs.length:=by rw[A.length];exact v.1
   have r:a∉g:=λz=>by
    rcases k.new a z with z|z
    .obtain⟨i,J⟩:=eJ.mp z
     rcases S.has J with⟨o,q⟩|⟨o,q⟩
     .rw[b]at q;cases q
     .exact t o q
    .rw[upd_same]at z;cases z
   refine⟨j,(ks.zip vs).map λp=>((Sum.inr p.1:Key),p.2),by rw[aZ];rfl,by rw[aD,List.length_zip];omega,?_⟩
   rw[Uh _ [] (λ_ _ q G=>nomatch G) (VG v.2.1.1),dE]
   exact p _ g _ ((((Ext.laid b).trans k)).wrK n j b) (W.wrK n j r) (.dct upd_same rfl v.2.1 s (A.wrK n j))
  .exact Zb e
 .exact Zb e
end
variable [ClsTab]
def Qf:a6 "tuple"=aa (.type "tuple"):=by decide +kernel
def J0:a6 "list"=aa (.type "list"):=by decide +kernel
def ZbM:a6 "int"=aa (.type "int"):=by decide +kernel
def Zd2:a6 "bool"=aa (.type "bool"):=by decide +kernel
def ZgD:a6 "str"=aa (.type "str"):=by decide +kernel
def ZgC:a6 "min"=aa (.builtin "min"):=by decide +kernel
def ZgB:a6 "max"=aa (.builtin "max"):=by decide +kernel
def VZ:a6 "isinstance"=aa (.builtin "isinstance"):=by decide +kernel
def ZaU:a6 "sorted"=aa (.builtin "sorted"):=by decide +kernel
def ZgA:a6 "len"=aa (.builtin "len"):=by decide +kernel
variable{as:Li ax}{cs:CE}{ap cp yp:Pos}{prog:a1}{ms:Li (Str×Nat×Nat)}{subs:Li Nat}{m:Str}{j:Nat}
variable{G:Gs}
section
def Zl(G:Gs)(F:Nat->Fn)(n:Nat):Prop:=∀ X sc N,Cxt X G F sc N->∀ e c,cE G n sc N e=aa c->SE X F e c
def YL(G:Gs)(F:Nat->Fn)(n:Nat):Prop:=∀ X sc N,Cxt X G F sc N->∀ es c,cEs G n sc N es=aa c->PA X es (tA X.K (ev F c))/\QT c/\es.all Zg=ac/\(es=[]->c=.aN)
def Uw(G:Gs)(F:Nat->Fn)(n:Nat):Prop:=∀ X sc N,Cxt X G F sc N->∀ e c,cO G n sc N e=aa c->PO X e (tO X.K (ev F c))
def Zds{v:Const}{k:Nat}{c:CE}(h:CE.ofConst v=aa c):SE X F (.Constant v k pos) c:=by
 cases v with
 |none=>cases h;exact .of (Zi pe_non (Qr λ_ _=>.non))
 |bool b=>cases h;exact .of (Zi pe_bl (Qr λ_ _=>.bl b))
 |int i=>cases h;exact .of (Zi pe_int (Qr λ_ _=>.int i))
 |str x=>cases h;exact .of (Zi pe_str (Qr λ_ _=>.str x))
 |_=>exact Zb h
def Ze8{x:Str}{c:CE}(K:Cxt X G F sc N)(h:ZcV G sc N x=aa c):SE X F (.Name x pos) c:=by
 unfold ZcV at h;split at h
 .rename_i a
  cases q:N.idxOf? x with
  |none=>rw[q]at h;cases h
  |some i=>
   rw[q]at h;cases h;obtain⟨j,g⟩:=UR a;exact .of (Zi (pe_var (i:=i) (by rw[K.hN];exact X7 q) (K.vis x a) j g) Zey)
 .split at h
  .rename_i b
   split at h
   .rename_i d q
    cases h;obtain⟨v,u,e,r,f⟩:=K.gl x _ q;exact .of (Zi (pe_glob (K.glb x b) e r (Xx b)) (Qr f))
   .exact Zb h
  .exact Zb h
def pa1{a:ax}{t:TE}(b:Zg a=ac)(c:PE X a t):PA X [a] (tCons t tNil):=pa_cons c pa_nil (Zc b)
def pa2{a b:ax}{t u:TE}(d:Zg a=ac)(c:Zg b=ac)(f:PE X a t)(e:PE X b u):PA X [a,b] (tCons t (tCons u tNil)):=pa_cons f (pa1 c e) (Zc d)
def Ze0{f:Str}{a:ax}{x c:CE}{p:Pos}(K:Cxt X G F sc N)(i:ZC sc f=ac)(d:X.mg f=ab)(b:Zg a=ac)(A:PE X a (tE X.K (ev F x)))(h:Zgy f x=aa c) :
  PE X (.Call (.Name f p) [a] [] pos) (tE X.K (ev F c)):=by 
 have g:=K.glb f i;unfold Zgy at h;split at h
 .rename_i e;subst e;cases h
  exact Zi (pe_callB ZaW g d ZgA (pa1 b A) (by decide) (by decide) (Zc b) rfl) Xy
 .split at h
  .rename_i e;subst e;cases h
   exact Zi (pe_callTy Qh g d Qf (pa1 b A) (by decide) (by decide) (Zc b) rfl) Xy
  .split at h
   .rename_i e;subst e;cases h
    exact Zi (pe_callTy Jc g d J0 (pa1 b A) (by decide) (by decide) (Zc b) rfl) Xy
   .split at h
    .rename_i e;subst e;cases h
     exact Zi (pe_callTy ZaV g d ZbM (pa1 b A) (by decide) (by decide) (Zc b) rfl) Xy
    .split at h
     .rename_i e;subst e;cases h
      exact Zi (pe_callB (Jb K.calm) g d ZaU (pa1 b A) (by decide) (by decide) (Zc b) rfl) Xy
     .exact Zb h
def ZbB{b:ax}(a:Zg b=ac):(backTo pos (a5 [b] X.env)).any (·.1)=ae:=YX (by rw[bE,a];rfl)
def Ze1{f:Str}{a b:ax}{x y c:CE}{p:Pos}(K:Cxt X G F sc N)(k:ZC sc f=ac)(i:X.mg f=ab)(g:Zg a=ac)(d:Zg b=ac)(A:PE X a (tE X.K (ev F x)))(B:PE X b (tE X.K (ev F y)))(h:Zgz f x y=aa c):PE X (.Call (.Name f p) [a,b] [] pos) (tE X.K (ev F c)):=by
 have j:=K.glb f k;unfold Zgz at h;split at h
 .rename_i e;subst e;cases h
  exact Zi (pe_callB (ZaY K.calm) j i ZgC (pa2 g d A B) (by decide) (by decide) (Zc g) (ZbB d)) Qq
 .split at h
  .rename_i e;subst e;cases h
   exact Zi (pe_callB (ZaX K.calm) j i ZgB (pa2 g d A B) (by decide) (by decide) (Zc g) (ZbB d)) Qq
  .exact Zb h
def Zem{K:Fg}{T:Ty}(O:L2.St)(H:Hp)(Q:VK)(h:tE K (Zr fa (ZcE T)) O H Q) :
  tCB (λvs H Q=>∃ v,vs=[v,.ty (tyN T)]/\rC K (on1 (ZcE T)) [v] H Q) (tCons (tE K fa) (tCons (tC (.ty (tyN T))) tNil)) O H Q:=by
 obtain⟨ad,U,st,d,st',E,S,e,p⟩:=h;unfold Zr at e;split at e
 .rename_i x a g
  exact⟨ad,U,st,x,a,E,S,g,λf b k c j i=>⟨f,rfl,b,a,[x],d,st',j,.cons i .nil,e,p.later c⟩⟩
 .exact Zb e
def ZdG{b:ax}{T:Ty}(K:Cxt X G F sc N)(h:ZaK G sc b=aa T):Zg b=ac/\PE X b (tC (.ty (tyN T))):=by
 cases b with
 |Name t p=>
  have a:ZhZ G sc t=aa T:=h;clear h;unfold ZhZ at a;split at a
  .rename_i f
   rw[Ba]at f;have c:X.mg t=ab:=by
    have z:=f.2;unfold Zai at z;split at z
    .rename_i q;exact K.gl t _ q
    .cases z
   have d:=K.glb t f.1;refine⟨rfl,?_⟩;unfold Zjl at a;split at a
   .rename_i e;subst e;cases a
    exact pe_bltn d c ZbM rfl
   .split at a
    .rename_i e;subst e;cases a
     exact pe_bltn d c Zd2 rfl
    .split at a
     .rename_i e;subst e;cases a
      exact pe_bltn d c ZgD rfl
     .split at a
      .rename_i e;subst e;cases a
       exact pe_bltn d c Qf rfl
      .exact Zb a
  .exact Zb a
 |_=>simp[ZaK]at h
def ZhD{a b:ax}{x:CE}{T:Ty}{p:Pos}(K:Cxt X G F sc N)(f:ZC sc "isinstance"=ac)(e:X.mg "isinstance"=ab)(d:Zg a=ac)(A:PE X a (tE X.K (ev F x)))(g:ZaK G sc b=aa T) :
  PE X (.Call (.Name "isinstance" p) [a,b] [] pos) (tE X.K (ev F (.isi T x))):=by
 obtain⟨c,B⟩:=ZdG K g;exact Zi (pe_callB (ZbR (T:=T)) (K.glb _ f) e VZ (pa2 d c A B) (by decide) (by decide) (Zc d) (ZbB c)) Zem
def Ze3{f:Str}{a:Nat}{p:Pos}(K:Cxt X G F sc N)(c:ZC sc f=ac)(t:G.lookup f=aa (.fn i a ds))(x:as.length<=a/\a<=as.length+ds.length)(A:PA X as (tA X.K (ev F cs))/\QT cs/\as.all Zg=ac/\(as=[]->cs=.aN)):PE X (.Call (.Name f p) as [] pos) (tE X.K (ev F (.call i cs (ds.drop (as.length+ds.length - a))))):=by
 obtain⟨k,fa,fd,w,q,l,m,n,s⟩:=K.gl f _ t;obtain⟨u,v,o,j,b⟩:=s (as.length+ds.length - a) (by omega)
 obtain⟨g,_,d,r⟩:=A;cases as with
 |nil=>
  refine Zi (pe_call0 (E:=E0) q l (K.glb f c) m n b j pass0 (Xx c)) λO H Q h=>?_
  rw[r rfl]at h;exact VB O H _ (Qs (E:=E0) o O H Q h)
 |cons e es=>
  rw[bE,Ba]at d;exact Zi (pe_call (E:=E0) q l (K.glb f c) m n b j pass0 g (Xx c) (Zc d.1) (YX d.2)) (Qs o)
def Ji{nm:Str}{b:ax}(K:Cxt X G F sc N)(h:fnA G sc nm b=aa as):∃ p pos,b=.Call (.Name nm p) as [] pos/\Gl X nm/\X.mg nm=ab:=by
 obtain⟨q,a,g⟩:=dM.mp h;refine XC g λe f=>?_
 obtain⟨rfl,d,c⟩:=e;cases f;unfold ZfB at a;split at a
 .cases a
  refine⟨_,_,rfl,K.glb _ d,?_⟩;unfold Zai at c;split at c
  .rename_i q;exact K.gl _ _ q
  .cases c
 .cases a
def Zas{a:ax}(h:Zhb as=aa a):as=[a]:=by
 cases as with
 |nil=>exact Zb h
 |cons x as=>cases as with
  |nil=>cases h;rfl
  |cons _ _=>exact Zb h
def V4{b:ax}(K:Cxt X G F sc N)(h:ZS G sc b=aa e):∃ p pos,b=.Call (.Name "range" p) [e] [] pos/\Gl X "range"/\X.mg "range"=ab:=by
 obtain⟨as,a,c⟩:=dM.mp h;rw[Zas c]at a;exact Ji K a
def ZhB{a b:ax}{x y:CE}{c:Bool}(K:Cxt X G F sc N)(g:ZS G sc b=aa e)(d:ZgT op=aa c)(f:Zg e=ac)(A:PE X a (tE X.K (ev F x)))(B:PE X e (tE X.K (ev F y))):SE X F (.Compare a [op] [b] pos) (.inR c x y):=by cases d
def ZhH{f:Str}{a:ax}{o:Ot CE}{c:CE}{p:Pos}(K:Cxt X G F sc N)(g:ZC sc f=ac)(d:X.mg f=ab)(b:JP G sc f a=aa e)(B:∀ c,o=aa c->Zg e=ac/\PE X e (tE X.K (ev F c)))(h:o.map CE.tupR=aa c):SE X F (.Call (.Name f p) [a] [] pos) c:=by cases b
def rLk(K:Fg)(A:Ad)(ks:Li Str)(ds:Li D):R2:=λx y H Q=>x=.ref A/\∃ k d,y=.str k/\Ya ks ds k=aa d/\∀ v,(∀ ad H,Den K ad H v d)->Q v H
def ZiJ{A:Ad}{o:Obj}{es:Array DictEntry}{f:Nat}(lk:X.K.lookup A=aa o)(ex:o.ExactDict)(hd:o.data=.dict es f)(t:(A==bj)=ae)(nd:ks.Nodup)(p:EsOk X.w.params X.K es.toList ks ds):IxR X (rLk X.K A ks ds):=by
 intro a slice pQ s O H x y v u Q I i g h n;obtain⟨rfl,k,d,rfl,c,q⟩:=h;cases i;obtain⟨kvs,pr,j,l,val⟩:=p.open (P:=X.prog);have dd:s.heap.DictOf (mixKind X.prog X.w) A kvs:=by
  refine⟨o,es,f,I.kIn A o lk,ex,hd,λe c=>l e (by simpa using c),pr,?_⟩
  rw[j];exact List.pairwise_map.mpr (nd.imp λh z=>h (Sum.inr.inj z))
 obtain⟨w,z,m,b,r⟩:=val k d c;exact tail_any dd.typeIs PySem.F.slot_dict_getitem.lookup (wpAny_getItem_of (kV_is (k:=Sum.inr k) g) dd.mapOf m ⟨z,H,I.tok _,b,q z r⟩) n
def Zcr{K:Fg}{A:Ad}(O:L2.St)(H:Hp)(Q:VK)(h:tE K (Zr fa (ZcO ks ds)) O H Q):tOp (rLk K A ks ds) (tC (.ref A)) (tE K fa) O H Q:=by
 obtain⟨ad,U,st,d,st',E,S,e,p⟩:=h;unfold Zr at e;split at e
 .rename_i x f g
  unfold ZcO at e;split at e
  .rename_i k
   split at e
   .rename_i n i
    cases e;exact⟨ad,U,st,.str k,_,E,S,g,λv a b c m l=>⟨rfl,k,d,l.ofStr,i,λw j=>p w a b c m (j a b)⟩⟩
   .exact Zb e
  .exact Zb e
 .exact Zb e
def JB{d:ax}{l f:TE}{p:Pos}{s:Sd}{n:vL->Sd->Prop}(E:Gl X "range")(D:X.mg "range"=ab)(m:Zg e=ac)(g:Zg d=ac)(F:PE X e l)(k:PE X d f)(I:L2.Inv X pQ O H s)(h:tCons l (tCons f tNil) O H λvs x=>∃ a b:Int,vs=[.int a,.int b]/\∀ i r t u v,L2.Inv X pQ O x i->IsRange i.heap r a b 1 t u v->n (.ref r) i):az (a0 X.prog X.w) X.A (eval (.Call (.Name "range" p) [e,d] [] pos) X.env) n X.xe s:=by
 have c:a5 [d] X.env=[(ae,eval d X.env)]:=Zc g;have C:a5 [e,d] X.env=[(ae,eval e X.env),(ae,eval d X.env)]:=by rw[Zc m,c]
 refine Call_ (ld_blt I E D boot_range (PyProof.Rows.callWith_type1 (thn (pa2 m g F k pos pQ s O H _ I h) λJ s1 ⟨vs,x,G,y,B⟩=>?_) (by rw[C,c]) (by rw[c];rfl)))
 obtain⟨a,b,rfl,q⟩:=B;cases y with
 |cons r j=>
  cases j with
  |cons z j=>
   cases j;obtain⟨t,rfl⟩:=r;obtain⟨t',rfl⟩:=z;exact call_range_2 (q _ _ _ _ _ (G.kept (t':=_) λb o e=>aO _ e) (IsRange.new ..))
def Jt{i h:Ev}(e:ZT i h ZcQ U st=aa (d,st')):∃ a b g f,i U st=aa (.int a,g)/\h U g=aa (.int b,f)/\(Vb a b 1=ac/\b - a<=1000)/\d=.lst f.length/\st'=f++[(ac,(VQ a b 1).map .int)]:=by
 unfold ZT at e;split at e
 .rename_i dx g k
  split at e
  .rename_i dy f j
   unfold ZcQ at e;split at e
   .split at e
    .rename_i c
     cases e;exact⟨_,_,_,_,k,j,c,rfl,rfl⟩
    .exact Zb e
   .exact Zb e
  .exact Zb e
 .exact Zb e
def Jz{a b:Int}(h:Vb a b 1=ac):Builtin.Range.rangeSize a b 1=((YT a b 1:Nat):Int)/\Builtin.Range.small a b 1=ac/\((YT a b 1:Nat):Int)=if a < b then b - a else 0:=by
 have h:=am h;obtain⟨⟨g,f⟩,⟨e,d⟩,c⟩:=h;unfold YT Builtin.Range.small Builtin.Range.rangeSize;simp only[Builtin.Range.rangeFitsLong,Ba,cG,bF,beq_iff_eq,gt_iff_lt,Int.neg_neg,dB];refine⟨?_,?_,?_⟩
 .split
  .split<;>omega
  .split<;>omega
 .refine⟨⟨by omega,?_⟩,.inr ?_⟩
  .constructor
   .repeat' split
    all_goals omega
   .repeat' split
    all_goals omega
  .simp
   omega
 .split
  .split<;>omega
  .omega
theorem WT{a:Int}:∀ {m k:Nat}{b:Li vL},b.length=m->(∀ (i:Nat) v,b[i]?=aa v->∃ t,v=.int (a+((k+i:Nat):Int) * 1) t)->Vals ((List.range' k m).map λ(k:Nat)=>V.int (a+(k:Int) * 1)) b
 |0,k,b,c,h=>by
  cases b with
  |nil=>exact .nil
  |cons _ _=>cases c
 |m+1,k,b,c,h=>by
  cases b with
  |nil=>cases c
  |cons u b=>
   obtain⟨t,rfl⟩:=h 0 u rfl;refine .cons ⟨t,rfl⟩ (WT (k:=k+1) (Nat.succ.inj c) λi v e=>?_)
   obtain⟨t,q⟩:=h (i+1) v e;exact⟨t,by rw[q,show k+1+i=k+(i+1) by omega]⟩
theorem WS{K:Fg}{ad:Li Ad}{H:Hp}{a:Int}:∀ l:Li Nat,Dens K ad H (l.map λ(k:Nat)=>V.int (a+(k:Int) * 1)) ((l.map λ(k:Nat)=>a+(k:Int) * 1).map D.int)
 |[]=>.nil
 |k :: l=>.cons (.int _) (WS l)
def Zfr{p:ax×ax}(h:Zjk as=aa p):as=[p.1,p.2]:=by
 cases as with
 |nil=>exact Zb h
 |cons x as=>cases as with
  |nil=>exact Zb h
  |cons y as=>cases as with
   |nil=>cases h;rfl
   |cons _ _=>exact Zb h
def Ze6{f:Str}{a u v:ax}{x y:CE}{p:Pos}(K:Cxt X G F sc N)(hg:ZC sc f=ac)(hm:X.mg f=ab)(o:US G sc f a=aa (u,v))(hu:Zg u=ac)(D:Zg v=ac)(A:PE X u (tE X.K (ev F x)))(B:PE X v (tE X.K (ev F y))):PE X (.Call (.Name f p) [a] [] pos) (tE X.K (ev F (.lstR x y))):=by
 unfold US at o;split at o
 .rename_i m
  subst m;obtain⟨as,h1,h2⟩:=dM.mp o;obtain⟨T,c,rfl,J,E⟩:=Ji K h1;cases Zfr h2
  .intro pQ s O H Q I h
   obtain⟨ad,U,st,d,st',En,S,e1,pq⟩:=h;obtain⟨a,b,j,q,q1,q2,Y,rfl,rfl⟩:=Jt e1;obtain⟨z1,z2,z3⟩:=Jz Y.1;have W:a5 [.Call (.Name "range" T) [u,v] [] c] X.env=[(ae,eval (.Call (.Name "range" T) [u,v] [] c) X.env)]:=Zc rfl;refine Call_ (ld_blt I (K.glb _ hg) hm J0 (PyProof.Rows.callWith_type1 ?_ W rfl));rw[W];refine Calls.spliced_cons (JB J E hu D A B I ⟨ad,U,st,_,j,En,S,q1,λv1 M H1 R S1 d1=>⟨M,U,j,_,q,En.mono R,S1,q2,λv2 L H2 x2 Z d2=>⟨a,b,by rw[d1.ofInt,d2.ofInt],λC r t u w P hr=>?_⟩⟩⟩)
   refine Calls.spliced_nil ?_;have hz:YT a b 1<=1000:=by
    have:=Y.2;split at z3<;>omega
   refine call_list_range (n:=YT a b 1) (P.ok.hd K.calm) hr z2 z1 (by omega) λh' tk l c' hk hS g=>?_
   have D:Vals ((ag (YT a b 1)).map λ(k:Nat)=>V.int (a+(k:Int) * 1)) l.toList:=by
    rw[List.range_eq_range'];refine WT (by rw[cI,g.1]) λi v e=>?_
    obtain⟨t,z⟩:=g.2 i v (by rw[<-e];simp)
    exact⟨t,by rw[z];simp⟩
   have m:=P.hok.fresh (aE _);refine⟨.ref C.heap.objs.size,upd H2 C.heap.objs.size (.lst ((ag (YT a b 1)).map λ(k:Nat)=>V.int (a+(k:Int) * 1))),P.laid (t':=tk) hk (aE _) (show ObjOk X.prog X.w _ _ _ (.lst _) from⟨?_,l.toList,c',D,?_⟩),rfl,pq _ (L++[C.heap.objs.size]) _ ((R.trans x2).trans (Ext.push m)) (Z.push m (WS _)) (.newL ?_)⟩
   .rw[aD,bT,sizeLine_eq];omega
   .rw[Array.toArray_toList]
    exact hS
   .rw[<-Z.len]
    exact Zo
 .exact Zb o
def Ze5{a b:ax}{y:CE}(K:Cxt X G F sc N)(c:Zan G sc a=aa (ks,ds))(g:Zg b=ac)(B:PE X b (tE X.K (ev F y))):PE X (.Subscript a b pos) (tE X.K (ev F (.look ks ds y))):=by
 unfold Zan at c;split at c
 .split at c
  .rename_i d
   split at c
   .rename_i q
    cases c;obtain⟨A,o,es,k,h,lk,ex,i,f,e,j⟩:=K.gl _ _ q;exact Zi (pe_ix (ZiJ lk ex i f e j) (pe_glob (K.glb _ d) h (show RelV (.ref A) (.ref A) from rfl) (Xx d)) B (QA g)) Zcr
   .exact Zb c
  .exact Zb c
 .exact Zb c
def Zi6:V->Li V->Hp->VK->Prop:=λx vs H Q=>∃ p kvs k a,x=.ref p/\vs=[kV k,a]/\H p=aa (.dK kvs)/\Q ((valV kvs k).getD a) H
def Zg6:MtM X "dict.get" Zi6:=by
 intro pQ s O H x vs v r Q I g rv h;obtain⟨p,kvs,k,n,rfl,rfl,l,q⟩:=h;cases g;obtain⟨t,f,rfl,j,i⟩:=rv.two;obtain⟨o,m,e,d,dd⟩:=dk_of I.hok l;refine call_meetsIn PySem.F.slot_dict_get dd.typeIs PySem.F.entry_dict_get (PySem.F.args_dict_get_3 _ _ _) (meets_dict_get_default (mixKind X.prog X.w) p (kV_is j) m f) ⟨_,dd.mapOf,?_⟩;have a:=d.val k;cases b:valV kvs k with
 |none=>
  cases c:valueAt e k with
  |none=>rw[b]at q;exact⟨n,H,I.tok _,i,q⟩
  |some w=>rw[b,c]at a;exact a.elim
 |some z=>
  cases c:valueAt e k with
  |none=>rw[b,c]at a;exact a.elim
  |some w=>rw[b]at q;rw[b,c]at a;exact⟨z,H,I.tok _,a,q⟩
def Zci{t fd:Ev}(O:L2.St)(H:Hp)(Q:VK)(h:tE X.K (Y9 fa t fd getD) O H Q):tBM X.K "dict" Zi6 (tE X.K fa) (tCons (tE X.K t) (tCons (tE X.K fd) tNil)) O H Q:=by
 obtain⟨ad,U,st,d,st',E,S,e,p⟩:=h;unfold Y9 at e;split at e
 .rename_i x c J
  split at e
  .rename_i y b I
   split at e
   .rename_i z D G
    unfold getD at e;split at e
    .rename_i ks vs k
     cases e;refine⟨ad,U,st,_,c,E,S,J,λv1 s H1 j W v=>?_⟩
     obtain⟨a,Y,rfl,L,hl,F⟩:=v.ofDct;refine⟨.inr (.inr (.inl ⟨rfl,.inl ⟨_,L⟩⟩)),s,U,c,_,b,E.mono j,W,I,λZ r H2 i V T=>⟨r,U,b,_,_,E.mono (j.trans i),V,G,λC f A g w R=>?_⟩⟩
     obtain⟨a',B,N,n,m,l⟩:=(v.mono (i.trans g)).ofDct;cases N;have M:=(T.mono g).ofStr;refine⟨a,_,Sum.inr k,C,rfl,by rw[M];rfl,n,?_⟩
     rcases Wl (k:=k) l m with⟨u,d0,q,o,P⟩|⟨q,o⟩
     .rw[q]
      rw[o]at p;exact p _ f A (j.trans (i.trans g)) w P
     .rw[q]
      rw[o]at p;exact p _ f A (j.trans (i.trans g)) w R
    .exact Zb e
   .exact Zb e
  .exact Zb e
 .exact Zb e
def Ze4{ks:Li (Ot ax)}{vs:Li ax}{a b:ax}{x y z:CE}{f:Pos}(K:Cxt X G F sc N)(c:(ap.endLine==cp.line)=ac)(e:Zg a=ac)(d:Zg b=ac)(D:PE X (.Dict ks vs f) (tE X.K (ev F x)))(A:PE X a (tE X.K (ev F y)))(B:PE X b (tE X.K (ev F z))) :
  PE X (.Call (.Attribute (.Dict ks vs f) "get" ap) [a,b] [] cp) (tE X.K (ev F (.dget x y z))):=by
 refine Zi (pe_bm PySem.F.plainAttrs_dict PySem.F.slot_dict_get PySem.F.type_dict_get Zg6 D (pa2 e d A B) rfl ?_ c (Zc e) (ZbB d)) Zci;rw[Zc e,Zc d];rfl
def ZhA{u:Str}{a b:ax}{x y z:CE}{up:Pos}(K:Cxt X G F sc N)(c:(ap.endLine==cp.line)=ac)(e:Zg a=ac)(d:Zg b=ac)(D:PE X (.Name u up) (tE X.K (ev F x)))(A:PE X a (tE X.K (ev F y)))(B:PE X b (tE X.K (ev F z))) :
  PE X (.Call (.Attribute (.Name u up) "get" ap) [a,b] [] cp) (tE X.K (ev F (.dgN x y z))):=by
 refine Zi (pe_bm PySem.F.plainAttrs_dict PySem.F.slot_dict_get PySem.F.type_dict_get (Zaq (by have:=K.hu;omega)) D (pa2 e d A B) rfl ?_ c (Zc e) (ZbB d)) Zel
 rw[Zc e,Zc d];rfl
def Zhz{u:Str}{a:ax}{x y:CE}{up:Pos}(K:Cxt X G F sc N)(b:(ap.endLine==cp.line)=ac)(d:Zg a=ac)(D:PE X (.Name u up) (tE X.K (ev F x)))(A:PE X a (tE X.K (ev F y))) :
  PE X (.Call (.Attribute (.Name u up) "get" ap) [a] [] cp) (tE X.K (ev F (.dgN x y (.c .non)))):=
 Zi (pe_bm PySem.F.plainAttrs_dict PySem.F.slot_dict_get PySem.F.type_dict_get (Zaq (by have:=K.hu;omega)) D (pa1 d A) rfl (by rw[Zc d];rfl) b (Zc d) rfl) Zek
def Zja{keys:Li (Ot ax)}{p:ax×ax}{x y z:CE}(K:Cxt X G F sc N)(d:∀ e c,cE G n sc N e=aa c->PE X e (tE X.K (ev F c)))(a:Zau keys=aa p)(h:cE G n sc N p.1=aa x)(g:cE G n sc N p.2=aa y)(f:(ZeM vals).bind (cE G n sc N)=aa z)(j:Zg p.1=ac)(i:Zg p.2=ac) :
  PE X (.Dict keys vals pos) (tE X.K (ev F (.dd x y z))):=by
 obtain⟨e,b,k⟩:=dM.mp f;obtain rfl:vals=[e]:=by
  unfold ZeM at b;split at b
  .cases b;rfl
  .exact Zb b
 unfold Zau at a;split at a
 .unfold Ul at a
  split at a
  .obtain rfl:=av a
   exact Zi (ZiT (by have:=K.hu;omega) (pe_tup (pa2 j i (d _ x h) (d _ y g))) (d e z k)) ZgR
  .exact Zb a
 .exact Zb a
def ZcS{K:Fg}{C:Ad}{s:Sd}{R:Result->Sd->Prop}(X:K.In s.heap)(k:W.makesIn K C=ac)(l:W.findIn K (.ref C) "__init__"=aa (aa (.builtin "object.__init__")))(h:R (.ok (.ret (.ref (s.heap.objs.size+1)))) { s with heap:=(s.heap.push W.emptyDict).push (W.instObj C s.heap.objs.size) }):codeAny (a0 prog w) A (.call (.ref C) ⟨[],[]⟩) R s:=by
 obtain⟨a,g,d,t,m⟩:=s;have Y:=W.makes_of (M:=a0 prog w) X k;have j:((a.push W.emptyDict).push (W.instObj C a.objs.size)).get? (a.objs.size+1)=aa (W.instObj C a.objs.size):=by
  have:=aX (a.push W.emptyDict) (o:=W.instObj C a.objs.size) rfl
  rwa [Heap.size_push]at this
 refine W.make_core Y (W.looks_findIn X l) (λc=>W.Looks.of_pure (W.oi_bind c)) (.inr ⟨rfl,rfl⟩) ?_
 have i:W.Looks (a0 prog w) ((a.push W.emptyDict).push (W.instObj C a.objs.size)) (typeOf (.ref (a.objs.size+1))) (.ref C):=(W.Looks.ld j).andThen .now;have f:W.Looks (a0 prog w) ((a.push W.emptyDict).push (W.instObj C a.objs.size)) (isInstance (.ref (a.objs.size+1)) (.type "object")) ac:=i.andThen (Y.top.keeps λb o e=>aO _ (aO _ e))
 refine codeAny_call_builtin W.oi_plain W.entry_oi (@W.check_slot (a0 prog w) _ _ _ "object.__init__" "object" "__init__" (.ref (a.objs.size+1)) [] [] _ W.oi_kind W.oi_split f (W.oi_args (.ref (a.objs.size+1))) ?_);rw[W.oi_run];exact aB (And.intro rfl h)
def Zcb{s:Sd}(I:L2.Inv X pQ O H s)(S:StOk X.K ad H st){a:Ad}(h:s.heap.objs.size<=a):a∉ad:=λb=>by
 obtain⟨i,c⟩:=List.getElem?_of_mem b;rcases S.has c with⟨o,q⟩|⟨o,q⟩
 .rw[I.hok.fresh h]at q;cases q
 .exact ar (aJ (I.kIn a o q)) (Nat.not_lt.mpr h)
def ZhE{f:Str}{p:Pos}(K:Cxt X G F sc N)(b:ZC sc f=ac)(k:G.lookup f=aa (.cls i ms subs)):PE X (.Call (.Name f p) [] [] pos) (tE X.K (ev F (.new i))):=by
 obtain⟨j,a,_,_⟩:=K.gl f _ k;intro pQ s O H Q I h;obtain⟨ad,U,st,d,st',E,S,e,q⟩:=h;have e:aa (D.obj i,st)=aa (d,st'):=e;cases e;refine wpAny_Call_Name_kw (ld_glob I (K.glb f b) j ?_ (Xx b));refine W.callWith_K0 I.kIn a.kp (wpAny_call (ZcS I.kIn a.makes a.init ?_));have g:H s.heap.objs.size=ab:=I.hok.fresh (aE _);have c:upd H s.heap.objs.size (.own (s.heap.objs.size+1)) (s.heap.objs.size+1)=ab:=by
  rw[upd_ne (Nat.ne_of_gt (bL _))];exact I.hok.fresh (Nat.le_succ _)
 exact⟨.ref (s.heap.objs.size+1),_,I.made,rfl,q _ ad _ ((Ext.laid g).trans (Ext.laid c)) ((S.laid g).laid c) (.obj upd_same (Zcb I S (Nat.le_succ _)))⟩
def ZhC{a b:ax}{x:CE}{l:Li Nat}{p:Pos}(K:Cxt X G F sc N)(f:ZC sc "isinstance"=ac)(e:X.mg "isinstance"=ab)(d:Zg a=ac)(A:PE X a (tE X.K (ev F x)))(c:Jd G sc b=aa l) :
  PE X (.Call (.Name "isinstance" p) [a,b] [] pos) (tE X.K (ev F (.isc l x))):=by cases c
def ZiO{α:Type}:∀ {us:Li α},us.length=1->∃ a,us=[a]
 |[a],_=>⟨a,rfl⟩
def Ud(h:as.all Zg=ac)(d:as.length < 20):((backTo pos (a5 as env)).all (λx=>!x.1)&&(backToKw pos (keywordEach [] env)).all (λx=>x.1.isSome)
  &&aj (as.length+([]:Li Keyword).length+(if ([]:Li Keyword).isEmpty then 0 else 1) < 30))=ac:=by
 have a:=YX (pos:=pos) (env:=env) h;have b:(backTo pos (a5 as env)).all (λx=>!x.1)=ac:=by
  rw[cD];intro x c;have:=List.any_eq_false.mp a x c;simpa using this
 rw[b,aP (show as.length+([]:Li Keyword).length+(if ([]:Li Keyword).isEmpty then 0 else 1) < 30 by simp;omega)]
 rfl
def ZeJ{o:ax}{a:Str}{b:Pos}{args:Li ax}{Q:vL->Sd->Prop}{s:Sd}(i:attributeBase o a X.env (eval o X.env)=eval o X.env)(m:((backTo pos (a5 args X.env)).all (λx=>!x.1)&&(backToKw pos (keywordEach [] X.env)).all (λx=>x.1.isSome)&&aj (args.length+([]:Li Keyword).length+(if ([]:Li Keyword).isEmpty then 0 else 1) < 30))=ac)(f:(b.endLine==pos.line)=ac)(h:az (a0 X.prog X.w) X.A (eval o X.env) (λp d=>∀ q,az (a0 X.prog X.w) X.A (getMethod p a q) (λn c=>az (a0 X.prog X.w) X.A (callWith pos n.1 n.2 (backTo pos (a5 args X.env)) (backToKw pos (keywordEach [] X.env))) Q X.xe c) X.xe d) X.xe s) :
  az (a0 X.prog X.w) X.A (eval (.Call (.Attribute o a b) args [] pos) X.env) Q X.xe s:=by
 rw[arm_eval_Call,i];refine aA (bK h (λp d k=>?_) λ_ _ e=>e)
 refine aA (wpAny_standAt ?_);have g:methodCallForm (args.length+([]:Li Keyword).length) (backTo pos (a5 args X.env)) (backToKw pos (keywordEach [] X.env))=ac:=m;have l:methodCallPos ac o X.env b pos=pure pos:=by unfold methodCallPos;simp[f]
 unfold methodCall;rw[g];refine aA (wpAny_holding ?_);exact bK (k _) (λn c j=>aA (wpAny_of_eq l j)) λ_ _ e=>e
def ZhX{k:Nat}(h:(XR m k G).lookup i=aa j):∃ x ms subs,G.lookup x=aa (.cls i ms subs)/\ms.lookup m=aa (j,k+1):=by
 have g:(i,j)∈XR m k G:=by
  generalize XR m k G=l at h
  induction l with
  |nil=>exact Zb h
  |cons p l f=>
   obtain⟨a,b⟩:=p;rw[cH]at h;split at h
   .rename_i z
    cases h;rw[beq_iff_eq.mp z];exact Ls
   .exact Lm _ (f h)
 obtain⟨x,_,c⟩:=List.mem_filterMap.mp g;unfold ZfP at c;split at c
 .rename_i r ms subs q
  split at c
  .rename_i o n d
   split at c
   .rename_i e
    subst e;cases c;exact⟨x,ms,subs,q,d⟩
   .exact Zb c
  .exact Zb c
 .exact Zb c
section
open PySem.SeqAt PySem.MeetsSeq PySem.MeetsSeq2 PySem.MeetsSeq3 PySem.SeqRoads2
theorem Qp{prog:a1}{w:bg}{A:bm}{E:vL->Sd->Prop}{s:Sd}{a:Array vL}{x:vL}{e:vL->Bool}{j:Nat}(l:j < a.size)(d:e a[j]=ac)(c:∀ m (p:m < a.size),m < j->e a[m]=ae)(g:∀ y,y∈a->EqAt A s y x (e y)):∀ (k i:Nat) (Q:Ot Fin×Unit->Sd->Prop),i<=j->i+k=a.size->Q (aa (.done (.ret (.int j s.toks))),()) { s with toks:=s.toks+1 }->
  az (a0 prog w) A (forIn (List.range' i k) ((ab,()):Ot Fin×Unit) λ(i:Nat) __s=>
      match a[i]? with
      |some y=>do
       let __do_lift <-eqBool y x
       if __do_lift=ac then do
         let __do_lift <-retInt (i:Int)
         pure (ForInStep.done (aa __do_lift,()))
        else pure (ForInStep.yield (ab,()))
      |x=>pure (ForInStep.yield (ab,()))) Q E s
 |0,i,Q,o,n,_=>by omega
 |k+1,i,Q,o,n,h=>by
  have b:i < a.size:=by omega
  rw[List.range'_succ,dX];refine aA ?_;rw[dI b];refine aA (g _ (Array.getElem_mem b) prog w _ _ ?_);by_cases f:i=j
  .subst f
   rw[d]
   wp_walk
   exact h
  .rw[c i b (by omega)]
   wp_walk
   exact Qp l d c g k (i+1) Q (by omega) (by omega) h
def V5(l:Ad)(a:Array vL)(n:Nat)(o:Obj)(x:vL)(e:vL->Bool)(j:Nat)(k:j < a.size)(c:e a[j]=ac)(b:∀ m (v:m < a.size),m < j->e a[m]=ae)(hd:o.data=.seq a n) :
  Meets (Builtin.«tuple.index» ⟨[.ref l,x],[]⟩)
   (λA R s=>s.heap.get? l=aa o/\(∀ y,y∈a->EqAt A.in1 s y x (e y))/\R (.ok (.ret (.int j s.toks))) { s with toks:=s.toks+1 }):=by
 refine .of_wp λprog w A R s h=>?_
 obtain⟨u,g,d,q,r⟩:=s;obtain⟨i,p,h⟩:=h;obtain⟨oc,t,z,f⟩:=o;cases hd;unfold Builtin.«tuple.index»
 simp only[Std.Legacy.Range.forIn_eq_forIn_range',Std.Legacy.Range.size,Nat.sub_zero,Nat.add_sub_cancel,Nat.div_one]
 wp_walk using wpAny_loadPart' i
 refine Qp k c b p (min a.size a.size - 0) 0 _ (aS _) (by simp) ?_
 exact aB ⟨_,rfl,h⟩
end
def Zcd{k:Str}{tk:Tok}{i:Nat}:∀ {ks:Li Str}{b:Li vL},Vals (ks.map V.str) b->Zcc k ks=aa i->∃ h:i < b.length,(λy:vL=>match y with
   |.str a _=>a==k
   |_=>ae) b[i]=ac/\∀ m (c:m < b.length),m < i->(λy:vL=>match y with
   |.str a _=>a==k
   |_=>ae) b[m]=ae:=by
 intro ks
 induction ks generalizing i with
 |nil=>intro b _ h;cases h
 |cons a ks l=>
  intro b r h;cases r with
  |@cons v u vs f j g=>
   obtain⟨t,rfl⟩:=j;have h:(if a=k then aa 0 else (Zcc k ks).map (·+1))=aa i:=h
   split at h
   .rename_i e
    cases h;refine⟨by simp,by simpa using e,λm _ c=>ar c (Nat.not_lt_zero m)⟩
   .rename_i e
    cases q:Zcc k ks with
    |none=>rw[q]at h;cases h
    |some n=>
     rw[q]at h;cases h;obtain⟨s,p,o⟩:=l g q;refine⟨by simpa using s,by simpa using p,λm c d=>?_⟩
     cases m with
     |zero=>simpa using e
     |succ m=>
      have d:m+1 < n+1:=d;simpa using o m (by simpa using c) (by omega)
def ZbA{b:Li vL}(r:Vals (ks.map V.str) b):∀ y∈b,∃ a t,y=.str a t:=by
 induction ks generalizing b with
 |nil=>cases r;intro y hy;exact nomatch hy
 |cons a ks f=>
  cases r with
  |@cons v u vs c e d=>
   intro y hy;rcases aF.mp hy with rfl|hy
   .obtain⟨t,rfl⟩:=e;exact⟨a,t,rfl⟩
   .exact f d y hy
def ZhG{y:Str}{x:CE}(K:Cxt X G F sc N)(l:(ap.endLine==cp.line)=ac)(C:as.length=1)(B:PE X (.Name y yp) (tE X.K (ev F x)))(A:PA X as (tA X.K (ev F cs))/\QT cs/\as.all Zg=ac/\(as=[]->cs=.aN)):PE X (.Call (.Attribute (.Name y yp) "index" ap) as [] cp) (tE X.K (ev F (.tix x cs))):=by
 obtain⟨PAs,_,P,_⟩:=A;obtain⟨e0,rfl⟩:=ZiO C;intro pQ s O H Q I h;obtain⟨ad,U,st,d,st',E,S,e,p⟩:=h;replace e:ZT (ev F x) (ev F cs) ZhY U st=aa (d,st'):=e;unfold ZT at e;split at e
 .rename_i dx g q1
  split at e
  .rename_i dy st2 q2
   unfold ZhY at e;split at e
   .rename_i ks k
    split at e
    .rename_i i hi
     cases e;rw[bE,Ba]at P;refine wpAny_Call_method_late rfl (Ud (by rw[bE,P.1];rfl) (by simp)) l rfl (thn (B pQ s O H (λv r=>∃ c,Ext ad H c r/\StOk X.K c r g/\Den X.K c r v (.kt ks)) I ⟨ad,U,st,.kt ks,g,E,S,q1,λv c r J S1 Y=>⟨c,J,S1,Y⟩⟩) λu s1 ⟨v,r,I1,rv,c,J,S1,Y⟩=>?_)
     obtain⟨a,o,j,n,rfl,h1,V,h3,h4,h5⟩:=Y.ofKt;cases (show u=bq a from rv)
     have ga:s1.heap.get? a=aa o:=I1.kIn a o h1;refine⟨"tuple", "tuple.index",PySem.F.plainAttrs_tuple,PySem.F.slot_tuple_index,PySem.F.type_tuple_index,⟨o,ga,V.1⟩,λb eb=>by cases eb;exact⟨o,ga,V.2⟩,?_⟩
     have hA:=PAs cp pQ s1 O r (λvs q=>∃ f,Ext c r f q/\StOk X.K f q st'/\Dens X.K f q vs [.str k]) I1 ⟨c,U,g,[.str k],st',E.mono J,S1,q2,λvs f q L Z W=>⟨f,L,Z,W⟩⟩
     rw[Zc P.1]at hA ⊢;refine Calls.callWith_builtin rfl (Calls.evalArgs_plain (thn hA λus s2 ⟨vs,q,I2,r2,f,L,Z,W⟩=>?_))
     obtain⟨w,rfl,dw⟩:=Vu W;cases dw;obtain⟨u1,rfl,M,rfl⟩:=r2.one;have D:s2.heap.get? a=aa o:=I2.kIn a o h1;obtain⟨hj,T,R⟩:=Zcd (k:=k) (tk:=M) h5 hi;have sz:j.toList.length=j.size:=cI;refine call_meets PySem.F.slot_tuple_index ⟨o,D,V.1⟩ PySem.F.entry_tuple_index (PySem.F.args_tuple_index_2 _ _) (V5 a j n o (.str k M) (λy:vL=>match y with
      |.str a _=>a==k
      |_=>ae) i (by rw[<-sz];exact hj) (by simpa using T) (λm hm hl=>by
      have z:=R m (by rw[sz];exact hm) hl
      simp only[Array.getElem_toList]at z;exact z) h3) ⟨D,λy hy=>?_,?_⟩
     .obtain⟨b,t,rfl⟩:=ZbA h5 y (by simpa using hy)
      exact PySem.SeqAt.EqAt.str_str b t k M
     .exact⟨.int (i:Int),q,I2.tok _,⟨_,rfl⟩,p.later (J.trans L) _ f q (Ext.refl _ _) Z (.int _)⟩
    .exact Zb e
   .exact Zb e
  .exact Zb e
 .exact Zb e
def Ze7{y:Str}{x:CE}(K:Cxt X G F sc N)(o:(ap.endLine==cp.line)=ac)(z:as.length < 20)(B:PE X (.Name y yp) (tE X.K (ev F x)))(A:PA X as (tA X.K (ev F cs))/\QT cs/\as.all Zg=ac/\(as=[]->cs=.aN)):PE X (.Call (.Attribute (.Name y yp) m ap) as [] cp) (tE X.K (ev F (.meth (XR m as.length G) x cs))):=by
 obtain⟨PAs,_,P,hn⟩:=A;intro pQ s O H Q I h;obtain⟨ad,U,st,d,st',E,S,e,p⟩:=h;replace e:ZT (ev F x) (ev F cs) (ZcT F (XR m as.length G)) U st=aa (d,st'):=e;unfold ZT at e;split at e
 .rename_i dx g q1
  split at e
  .rename_i dy l M
   unfold ZcT at e;split at e
   .rename_i i J
    split at e
    .rename_i j hj
     obtain⟨cx,ms,subs,hG,hl⟩:=ZhX hj;obtain⟨_,nw,_,V⟩:=K.gl cx _ hG;obtain⟨k,f,fd,pn,Fk,hr,n,hb⟩:=V m j _ hl;refine ZeJ rfl (Ud P z) o (thn (B pQ s O H (λv q=>∃ b,Ext ad H b q/\StOk X.K b q g/\Den X.K b q v (.obj i)) I ⟨ad,U,st,.obj i,g,E,S,q1,λv b q w R C=>⟨b,w,R,C⟩⟩) λu s1 ⟨v,q,T,rv,b,w,R,C⟩ pl=>?_)
     obtain⟨a,dx,rfl,ha⟩:=C.ofObj;cases (show u=bq a from rv)
     refine getmeth_ok T ha nw.cl n rfl ?_;cases as with
     |nil=>
      have hc:=hn rfl;subst hc;have M:aa (D.tup [],g)=aa (.tup J,l):=M;cases M;exact W.callWith_K0 (first:=[.ref a]) T.kIn n.kp (run_fn (us:=[.ref a]) (vs:=[.ref a]) (E:=E0) Fk hr hb .nil pass0 T (.cons rfl .nil) ⟨b,[.obj i],g,d,st',R,.cons C .nil,e,p.later w⟩)
     |cons e0 es=>
      rw[bE,Ba]at P;refine W.callWith_K (first:=[.ref a]) (h₀:=X.base) I.ok.mod.kin n.kp (thn (PAs cp pQ s1 O q _ T ⟨b,U,g,J,l,E.mono w,R,M,λvs c t L Z Y=>(show(λvs t=>∃ c,Ext b q c t/\StOk X.K c t l/\Dens X.K c t vs J) vs t from⟨c,L,Z,Y⟩)⟩) λus s2 ⟨vs,t,I2,r,c,L,Z,Y⟩=>⟨I2.kIn,?_⟩) (Zc P.1) (YX P.2)
      refine run_fn (us:=.ref a :: us) (vs:=.ref a :: vs) (E:=E0) Fk hr hb .nil pass0 I2 (.cons rfl r) ?_;rw[bG];exact⟨c,.obj i :: J,l,d,st',Z,.cons (C.mono L) Y,e,p.later (w.trans L)⟩
    .exact Zb e
   .exact Zb e
  .exact Zb e
 .exact Zb e
def JI{b:ax}{p:Ot ax×Ot ax}(q:Vc b=aa p):∃ a,b=.Slice p.1 p.2 ab a:=by
 unfold Vc at q;split at q
 .cases q;exact⟨_,rfl⟩
 .exact Zb q
def Zjb{op:UnaryOp}{a:ax}{o:Ot CE}{c:CE}(A:∀ x,o=aa x->SE X F a x)(h:unC op o=aa c):SE X F (.UnaryOp op a pos) c:=by
 cases op with
 |Not=>exact VL (P:=SE X F _) (show o.map CE.not=aa c from h) λx b=>⟨Zi (pe_not (A x b).pe) Zct,VP (pt_not (A x b).pt) Zcs⟩
 |USub=>exact VL (P:=SE X F _) (show o.map CE.neg=aa c from h) λx b=>.of (Zi (pe_un Zft (A x b).pe) Zcx)
 |Invert=>exact VL (P:=SE X F _) (show o.map CE.inv=aa c from h) λx b=>.of (Zi (pe_un Zfs (A x b).pe) Zcx)
 |_=>exact Zb h
section
variable {X:Cx}{sc:a7}{N:Li Str}{n:Nat}{c:CE} (K:Cxt X G F sc N) (hf:∀ e c,cE G n sc N e=aa c->SE X F e c)
include K hf
def Zhy{a:ax}{d:Li CmpOp}{bs:Li ax}(h:Zin G sc (cE G n sc N) (cE G n sc N a) d bs=aa c):SE X F (.Compare a d bs pos) c:=by
 cases d with
 |nil=>exact Zb h
 |cons op d=>cases bs with
  |nil=>cases d with
   |nil=>exact Zb h
   |cons _ r=>cases r<;>cases h
  |cons b bs=>cases d with
   |nil=>cases bs with
    |cons _ _=>exact Zb h
    |nil=>
     replace h:(match ZS G sc b with
      |some e=>o3 CE.inR (ZgT op) (cE G n sc N a) (cE G n sc N e)
      |none=>o2 (CE.cmp op) (cE G n sc N a) (cE G n sc N b))=aa c:=h
     cases i:ZS G sc b with
     |some e=>
      rw[i]at h;exact XB (P:=SE X F _) h λl x y k g f=>ZhB K i k (Zd f) (hf a x g).pe (hf e y f).pe
     |none=>
      rw[i]at h;exact Z0 (P:=SE X F _) h λx y g f=>⟨Zi (pe_cmpR (Zat K.hu) (hf a x g).pe (hf b y f).pe (WP (Zd f))) UM,VP (pt_cmpR (Zat K.hu) (hf a x g).pe (hf b y f).pe (WP (Zd f))) λO H Q q=>UM O H _ (Zcw O H Q q)⟩
   |cons j d=>exact Zb h
omit K in
def Ze2{op:BoolOp}{vs:Li ax}{pos:Pos}(h:ZfA (cE G n sc N) op pos vs=aa c):SE X F (.BoolOp op vs pos) c:=by
 cases vs with
 |nil=>exact Zb h
 |cons a r=>cases r with
  |nil=>
   have A:=hf a c h;refine⟨pe_one A.pe,?_⟩;cases op with
   |And=>exact(pw_and1 A.pt).pt
   |Or=>exact(pw_or1 A.pt).pt
  |cons b r=>cases op with
   |And=>exact Z0 (P:=SE X F _) (show o2 CE.and (cE G n sc N a) (cE G n sc N (.BoolOp .And (b :: r) pos))=aa c from h) λx y e d=>⟨Zi (pe_and (hf a x e).pe (hf _ y d).pe) Zcf,VP (pw_and (hf a x e).pt (QK (hf _ y d).pt)).pt Zce⟩
   |Or=>exact Z0 (P:=SE X F _) (show o2 CE.or (cE G n sc N a) (cE G n sc N (.BoolOp .Or (b :: r) pos))=aa c from h) λx y e d=>⟨Zi (pe_or (hf a x e).pe (hf _ y d).pe) Zer,VP (pw_or (hf a x e).pt (QK (hf _ y d).pt)).pt Zeq⟩
def ZhF(d:Uw G F n){a b:ax}(h:ZhW G sc (cE G n sc N) (cO G n sc N) a b=aa c):SE X F (.Subscript a b pos) c:=by
 unfold ZhW at h;cases q:Vc b with
 |some p=>
  obtain⟨j,o⟩:=p;rw[q]at h;obtain⟨r,rfl⟩:=JI q;exact XB (P:=SE X F _) h λx l u f m k=>.of (Zi (pe_slice ZkM (hf a x f).pe (d X sc N K j l m) (d X sc N K o u k)) Zbc)
 |none=>
  rw[q]at h;dsimp only at h;cases i:Zf5 b with
  |some s=>
   cases i
  |none=>
   rw[i]at h;dsimp only at h;cases g:Zan G sc a with
   |some p=>
    obtain⟨ks,ds⟩:=p;rw[g]at h;exact VL (P:=SE X F _) h λy e=>.of (Ze5 K g (Zd e) (hf b y e).pe)
   |none=>
    rw[g]at h;exact Z0 (P:=SE X F _) h λx y f e=>.of (Zi (pe_ix (ZjK K.hu) (hf a x f).pe (hf b y e).pe (QA (Zd e))) UM)
def Zdp{f:Str}{a:ax}{p:Pos}(i:ZC sc f=ac)(d:X.mg f=ab)(h:ZbK G sc f a (cE G n sc N)=aa c):SE X F (.Call (.Name f p) [a] [] pos) c:=by
 unfold ZbK at h;cases j:JP G sc f a with
 |some e=>
  rw[j]at h;exact ZhH K i d j (λc l=>⟨Zd l,(hf e c l).pe⟩) h
 |none=>
  rw[j]at h;dsimp only at h;cases g:US G sc f a with
  |some q=>
   obtain⟨u,v⟩:=q;rw[g]at h;exact Z0 (P:=SE X F _) h λx y b k=>.of (Ze6 K i d g (Zd b) (Zd k) (hf u x b).pe (hf v y k).pe)
  |none=>
   rw[g]at h;exact j_e h λh=>VL (P:=λo=>o=aa c->SE X F _ c) h (λx b h=>.of (Ze0 K i d (Zd b) (hf a x b).pe h)) rfl
def Zdq{f:Str}{a b:ax}{p:Pos}(i:ZC sc f=ac)(e:X.mg f=ab)(h:ZbL G sc f a b (cE G n sc N)=aa c):SE X F (.Call (.Name f p) [a,b] [] pos) c:=by
 unfold ZbL at h;by_cases k:f = "isinstance"
 .subst k
  rw[ao rfl]at h;cases g:Jd G sc b with
  |some l=>
   rw[g]at h;exact VL (P:=SE X F _) h λx q=>.of (ZhC K i e (Zd q) (hf a x q).pe g)
  |none=>
   rw[g]at h;exact Z0 (P:=SE X F _) h λx T d m=>.of (ZhD K i e (Zd d) (hf a x d).pe m)
 .rw[aq k]at h
  exact j_e h λh=>Z0 (P:=λo=>o=aa c->SE X F _ c) h (λx y d j h=>.of (Ze1 K i e (Zd d) (Zd j) (hf a x d).pe (hf b y j).pe h)) rfl
def Zdr(j:YL G F n){f:Str}{p:Pos}(h:ZbQ G sc f as (cEs G n sc N as) (cE G n sc N)=aa c):SE X F (.Call (.Name f p) as [] pos) c:=by
 unfold ZbQ at h;cases d:ZC sc f with
 |false=>rw[d]at h;cases h
 |true=>
 rw[d,ao rfl]at h;cases e:G.lookup f with
 |none=>rw[e]at h;cases h
 |some g=>
  rw[e]at h;cases g with
  |fn i o ds=>exact XC h λm h=>VL (P:=SE X F _) h λcs k=>.of (Ze3 K d e m (j X sc N K as cs k))
  |blt=>
   have l:X.mg f=ab:=K.gl f _ e;cases as with
   |nil=>exact Zb h
   |cons a as=>cases as with
    |nil=>exact Zdp K hf d l h
    |cons b as=>cases as with
     |nil=>exact Zdq K hf d l h
     |cons _ _=>exact Zb h
  |cls i ms subs=>cases as with
   |cons _ _=>exact Zb h
   |nil=>cases h;exact .of (ZhE K d e)
  |_=>exact Zb h
def ZeZ(j:YL G F n){o:ax}(h:Zfz G o m ap as pos (cEs G n sc N as) (cE G n sc N)=aa c):SE X F (.Call (.Attribute o m ap) as [] pos) c:=by
 cases o with
 |Dict ks vs t=>cases as with
  |nil=>exact Zb h
  |cons a as=>cases as with
   |nil=>exact Zb h
   |cons b as=>cases as with
    |cons _ _=>exact Zb h
    |nil=>
     refine XC h λf h=>XB (P:=SE X F _) h λx y z d q e=>?_
     obtain⟨rfl,g⟩:=f;exact .of (Ze4 K g (Zd q) (Zd e) (hf _ x d).pe (hf a y q).pe (hf b z e).pe)
 |Name y yp=>
  refine XC h λf h=>?_
  by_cases k:m = "pop"
  .subst k
   rw[ao rfl]at h;refine XC h λp h=>VL (P:=SE X F _) h λx d=>?_
   cases as with
   |cons _ _=>exact nomatch p
   |nil=>exact .of (Zi (pe_bm0 PySem.F.plainAttrs_list PySem.F.slot_list_pop PySem.F.type_list_pop mt_pop (hf _ x d).pe rfl f.1) Zes)
  .rw[aq k]at h
   by_cases l:m = "get"
   .subst l
    rw[ao rfl]at h;cases as with
    |nil=>exact Zb h
    |cons a as=>cases as with
     |nil=>exact Z0 (P:=SE X F _) h λx z d e=>.of (Zhz K f.1 (Zd e) (hf _ x d).pe (hf a z e).pe)
     |cons b as=>cases as with
      |cons _ _=>exact Zb h
      |nil=>exact XB (P:=SE X F _) h λx u z d r e=>.of (ZhA K f.1 (Zd r) (Zd e) (hf _ x d).pe (hf a u r).pe (hf b z e).pe)
   .rw[aq l]at h
    by_cases s:m = "index"
    .subst s
     rw[ao rfl]at h;exact XC h λp h=>Z0 (P:=SE X F _) h λx cs d i=>.of (ZhG K f.1 p (hf _ x d).pe (j X sc N K as cs i))
    .rw[aq s]at h
     exact Z0 (P:=SE X F _) h λx cs d i=>.of (Ze7 K f.1 f.2 (hf _ x d).pe (j X sc N K as cs i))
 |_=>exact Zb h
end
def JK(H:Zl G F n)(j:YL G F n)(E:Uw G F n)(u:∀ X sc N,Cxt X G F sc N->∀ o gens i pos c,cE G (n+1) sc N (.ListComp o gens i pos)=aa c->SE X F (.ListComp o gens i pos) c):Zl G F (n+1):=by
 intro X sc N K e c h;have g:=H X sc N K;have no:∀ {P:Prop},(ab:Ot CE)=aa c->P:=λz=>nomatch z
 cases e with
 |Constant v k pos=>exact Zds h
 |Name x pos=>exact Ze8 K h
 |BinOp a op b pos=>exact Z0 (P:=SE X F _) (show o2 (CE.bin op) (cE G n sc N a) (cE G n sc N b)=aa c from h) λx y s r=>.of (Zi (pe_op ZeN (g a x s).pe (g b y r).pe) UM)
 |UnaryOp op a pos=>exact Zjb (g a) h
 |Compare a L bs pos=>exact Zhy K g h
 |BoolOp op vs pos=>exact Ze2 g h
 |IfExp t a b pos=>exact XB (P:=SE X F _) (show o3 CE.ife (cE G n sc N t) (cE G n sc N a) (cE G n sc N b)=aa c from h) λz x y l s r=>⟨Zi (pe_ifExp (g t z l).pt (g a x s).pe (g b y r).pe) ZgS,Zhf (g t z l).pt (g a x s).pt (g b y r).pt⟩
 |Tuple es k pos=>
  refine VL (P:=SE X F _) (show(cEs G n sc N es).map CE.tupE=aa c from h) λx q=>?_
  obtain⟨A,C,_,_⟩:=j X sc N K es x q;exact .of (Zi (pe_tup A) (Zex (λU st ds st' e=>by obtain⟨w,z,l⟩:=WZ C e;cases z;exact l) λU st d st' e=>by obtain⟨w,z,l⟩:=WZ C e;exact⟨w,z⟩))
 |List es pos=>
  refine VL (P:=SE X F _) (show(cEs G n sc N es).map CE.lstE=aa c from h) λx q=>?_
  obtain⟨A,C,_,_⟩:=j X sc N K es x q;exact .of (Zi (pe_lst A) (Zeo λU st ds st' e=>by obtain⟨w,z,l⟩:=WZ C e;cases z;exact l))
 |Dict keys vals pos=>cases keys with
  |nil=>cases vals with
   |nil=>cases h;exact .of (Zi Zdd Zcj)
   |cons _ _=>exact Zb h
  |cons B keys=>
   have h:(match Zau (B :: keys) with
    |some p=>o3 .dd (cE G n sc N p.1) (cE G n sc N p.2) ((ZeM vals).bind (cE G n sc N))
    |none=>og ((B :: keys).length=vals.length/\(B :: keys)≠[]/\(B :: keys).length<=15) (o2 CE.dict (ZO (B :: keys)) (cVs (cE G n sc N) vals)))=aa c:=h
   split at h
   .rename_i p I
    exact XB (P:=SE X F _) h λx y z s r l=>.of (Zja K (λe c h=>(g e c h).pe) I s r l (Zd s) (Zd r))
   .exact XC h λJ h=>Z0 (P:=SE X F _) h λks cs I M=>.of (Zdc (λe c h=>(g e c h).pe) I M J.1 J.2.1 J.2.2)
 |Subscript a b pos=>exact ZhF K g E h
 |Call f as D pos=>cases D with
  |cons _ _=>exact no h
  |nil=>cases f with
   |Attribute O m ap=>exact ZeZ K g j h
   |Name f p=>exact Zdr K g j h
   |_=>exact no h
 |ListComp o gens i pos=>exact u X sc N K o gens i pos c h
 |_=>exact no h
def QN(a:Zl G F n)(b:YL G F n):YL G F (n+1):=by
 intro X sc N K es c h;cases es with
 |nil=>
  simp only[cEs]at h;cases h;exact⟨Zda pa_nil VB,trivial,rfl,λ_=>rfl⟩
 |cons e es=>
  refine Z0 (P:=λc=>PA X _ (tA X.K (ev F c))/\QT c/\_/\(_->c=.aN)) (show o2 CE.aC (cE G n sc N e) (cEs G n sc N es)=aa c from h) λx r d f=>?_
  obtain⟨A,i,g,_⟩:=b X sc N K es r f;exact⟨Zda (pa_cons (a X sc N K e x d).pe A (Zc (Zd d))) Ue,trivial,by rw[bE,g,Zd d];rfl,λz=>nomatch z⟩
def QO(b:Zl G F n):Uw G F (n+1):=by
 intro X sc N K e c h;cases e with
 |none=>
  simp only[cO]at h;cases h;exact Zdf po_none Zep
 |some e=>
  simp only[cO]at h;cases q:cE G n sc N e with
  |none=>rw[q]at h;cases h
  |some x=>
   rw[q]at h;cases h;refine Zdf (po_some (b X sc N K e x q).pe) λO H Q k=>?_
   obtain⟨ad,U,st,d,st',E,S,a,p⟩:=k;have a:Zr (ev F x) QH U st=aa (d,st'):=a;unfold Zr at a;split at a
   .rename_i y f g
    cases y with
    |int i=>
     cases a;rcases p with⟨z,_⟩|⟨j,z,p⟩
     .cases z
     .cases z
      exact⟨ad,U,st,.int i,_,E,S,g,λv ad' H' x m l=>⟨i,l.ofInt,p ad' H' x m⟩⟩
    |_=>simp[QH]at a
   .exact Zb a
end
variable [ClsTab]
variable{α β:Type}
def b_e{P:Prop}{o:Ot α}{f:α->Ot β}{c:β}(h:o.bind f=aa c)(k:∀ x,o=aa x->f x=aa c->P):P:=by
 cases o with
 |none=>exact Zb h
 |some x=>exact k x rfl h
def Zf1{s:Stmt}{t u:TS}(b:PS X s t)(a:PS X s u):PS X s (λD O H=>t D O H\/u D O H):=λpQ s O H D I q=>q.elim (b pQ s O H D I) (a pQ s O H D I)
variable{l:Nat}
def WU{a:Ot ax}(h:Xz e=ae):swapsWith e a l env=pure ae:=by
 cases e<;>first|rfl|cases h
variable{tg:ax}
def Xa(h:Xz e=ae):swapsWithSole [tg] e l env=pure ae:=WU h
def Vh{o k:ax}{p:Pos}(h:Zg k=ac):∀ v,assign (.Subscript o k p) env v=(do
   let a <-holding [v] (eval o env)
   let b <-holding [v,a] (eval k env)
   standAt p
   holding [v,a,b] (setItem a b v)
   release [v,a,b] []):=by
 cases k<;>first | (intro _;rfl)|cases h
def VT{o k:ax}{p:Pos}:swappedStores [.Subscript o k p] e env=pure ab:=by
 cases e<;>rfl
def ZW(h:Zg e=ac):∀ x,foldedSetIterable e env x=pure x:=by
 cases e<;>first | (intro _;rfl)|cases h
structure CxtS(X:Cx)(G:Gs)(F:Nat->Fn)(sc:a7)(N:List Str):Prop extends Cxt X G F sc N where
 nd:N.Nodup
 loc:∀ x∈N,Loc X.env.scope x
 fn:∀ x,X.fn x=ac
variable{it elt:ax}{gens:Li Comprehension}{sc2:a7}{tp p2 p3:Pos}{ctx t' kk:Nat}{h' h:bf}{items:Array vL}{elts:Li ax}
section
def QX(G:Gs)(F:Nat->Fn)(n:Nat):Prop:=∀ X sc N,CxtS X G F sc N->∀ s c,cS G n sc N s=aa c->PS X s (tS X.K (ex F c))
def ZU(G:Gs)(F:Nat->Fn)(n:Nat):Prop:=∀ X sc N,CxtS X G F sc N->∀ s c,cSs G n sc N s=aa c->PSs X s (tS X.K (ex F c))
def UL{x:Str}(h:N.idxOf? x=aa i):x∈N:=aT (X7 h)
def Yi{x:Str}{p:Pos}(K:CxtS X G F sc N)(h:N.idxOf? x=aa i):PG X (.Name x p) (gName i):=
 pg_name (by rw[K.hN];exact K.nd) (by rw[K.hN];exact X7 h) (K.loc x (UL h)) (.inl (K.fn x))
def XF(K:CxtS X G F sc N):PassesOwn (a0 X.prog X.w) X.A X.env X.xe:=by
 rw[K.nx];exact PassesOwn.never
def QI{x:Str}{p:Pos}(K:Cxt X G F sc N)(a:XA sc x=ac)(b:N.idxOf? x=aa i):PE X (.Name x p) (tVar i):=
 pe_var (by rw[K.hN];exact X7 b) (K.vis _ a) (UR a).1 (UR a).2
def WR{a:ax}{x:CE}(K:Cxt X G F sc N)(h:ZS G sc it=aa a)(b:Zg a=ac)(A:PE X a (tE X.K (ev F x))):Zg it=ac/\PI X tg it (iRng1 (tCons (tE X.K (ev F x)) tNil)):=by
 obtain⟨_,_,rfl,d,c⟩:=V4 K h;exact⟨rfl,pi_range1 d c (pa1 b A) (Zc b)⟩
def Vg(G:Gs)(F:Nat->Fn)(n:Nat):Prop:=∀ X sc N,CxtS X G F sc N->∀ (x:Str) (i:Nat) (p:Pos) elt gens sc2 epos (pos:Pos) c,N.idxOf? x=aa i->cE G n sc N (.ListComp elt gens sc2 epos)=aa c->
 swapsWith (.ListComp elt gens sc2 epos) (aa (.Name x p)) pos.line X.env=pure ac->PS X (.Assign [.Name x p] (.ListComp elt gens sc2 epos) pos) (tAsg (tE X.K (ev F c)) (gName i))
def JL{epos p:Pos}{x:Str}:∃ b:Bool,swapsWith (.ListComp elt gens sc2 epos) (aa (.Name x p)) l env=pure b:=⟨_,rfl⟩
def Zc1{c:CE}(h:cE G n sc N e=aa c):Xz e=ae\/∃ elt gens sc2 a,e=.ListComp elt gens sc2 a:=by
 cases n with
 |zero=>exact nomatch (show(ab:Ot CE)=aa c from h)
 |succ n=>cases e<;>first|exact .inl rfl|exact .inr ⟨_,_,_,_,rfl⟩|exact nomatch (show(ab:Ot CE)=aa c from h)
def ZhK(a:Zl G F n)(o:Vg G F n)(K:CxtS X G F sc N){c:CS}{x:Str}{p:Pos}(h:o2 CS.set (N.idxOf? x) (cE G n sc N e)=aa c):PS X (.Assign [.Name x p] e pos) (tS X.K (ex F c)):=by
 refine Z0 (P:=λc=>PS X _ (tS X.K (ex F c))) h λi y f d=>?_
 have g:∀ j,PS X (.Assign [.Name x p] e pos) (tAsg (tE X.K (ev F y)) (gName i)):=λj=>ps_set (by rw[K.hN];exact K.nd) (by rw[K.hN];exact X7 f) (K.loc _ (UL f)) (a X sc N K.toCxt _ y d).pe j (.inl (K.fn _))
 rcases Zc1 d with m|⟨elt,gens,sc2,epos,rfl⟩
 .exact Zv (g (WU m)) UN
 .obtain⟨b,k⟩:=JL (elt:=elt) (gens:=gens) (sc2:=sc2) (epos:=epos) (p:=p) (x:=x) (l:=pos.line) (env:=X.env)
  cases b with
  |false=>exact Zv (g k) UN
  |true=>exact Zv (o X sc N K _ i p elt gens sc2 epos pos y f d k) UN
def VU{a:Li ax}{k:Nat}(h:Qz e=ae):swappedStores [.Tuple a k tp] e env=pure ab:=by
 cases e with
 |Tuple=>cases h
 |_=>rfl
def Zfj(a:Zl G F n)(K:CxtS X G F sc N){c:CS}{x y:Str}{p:Pos}(h:og ((Xz e||Qz e)=ae) (o3 (λi j c=>og (i≠j) (aa (CS.set2 i j c))) (N.idxOf? x) (N.idxOf? y) (cE G n sc N e)).join=aa c):PS X (.Assign [.Tuple [.Name x p,.Name y p2] ctx tp] e pos) (tS X.K (ex F c)):=by
 refine XC h λb h=>j_e h λh=>XB (P:=λo=>o=aa c->PS X _ (tS X.K (ex F c))) h (λi j k g f d h=>XC h λ_ h=>?_) rfl
 cases h;rw[Bool.or_eq_false_iff]at b;exact Zv (ps_asg (a X sc N K.toCxt _ k d).pe (pg_tup K.calm (pgs_cons (Yi K g) (pgs_cons (Yi K f) pgs_nil))) (Xa b.1) (VU b.2)) Zcu
def Zfk(a:Zl G F n)(K:CxtS X G F sc N){c:CS}{x y z:Str}{p:Pos}(h:og ((Xz e||Qz e)=ae) (o3 (λi j (p:Nat×CE)=>CS.set3 i j p.1 p.2) (N.idxOf? x) (N.idxOf? y) (o2 Prod.mk (N.idxOf? z) (cE G n sc N e)))=aa c):PS X (.Assign [.Tuple [.Name x p,.Name y p2,.Name z p3] ctx tp] e pos) (tS X.K (ex F c)):=by
 refine XC h λb h=>XB (P:=λc=>PS X _ (tS X.K (ex F c))) h λi j q m k f=>Z0 (P:=λq=>PS X _ (tS X.K (ex F (.set3 i j q.1 q.2)))) f λl o g d=>?_
 rw[Bool.or_eq_false_iff]at b;exact Zv (ps_asg (a X sc N K.toCxt _ o d).pe (pg_tup K.calm (pgs_cons (Yi K m) (pgs_cons (Yi K k) (pgs_cons (Yi K g) pgs_nil)))) (Xa b.1) (VU b.2)) Zcv
def ZhI(a:Zl G F n)(K:CxtS X G F sc N){c:CS}{f:Str}{d:Pos}{b:Li Keyword}(h:(cE G n sc N (.Call (.Name f d) as b cp)).map CS.act=aa c):PS X (.Expr (.Call (.Name f d) as b cp) pos) (tS X.K (ex F c)):=by
 obtain⟨g,e,rfl⟩:=dH.mp h;exact Zv (ps_expr (a X sc N K.toCxt _ g e).pe rfl) Zeg
def Zdb{k a b:ax}(h:Ul k=aa (a,b)):∃ c p,k=.Tuple [a,b] c p:=by
 unfold Ul at h;split at h
 .cases h;exact⟨_,_,rfl⟩
 .exact Zb h
def ZhL(d:Zl G F n)(K:CxtS X G F sc N){c:CS}{x:Str}{k:ax}{p q:Pos}(h:ZiV sc N x k e (cE G n sc N)=aa c):PS X (.Assign [.Subscript (.Name x p) k q] e pos) (tS X.K (ex F c)):=
 XC h λl h=>by
 cases o:Ul k with
 |some u=>
  rw[o]at h;obtain⟨a,b⟩:=u;obtain⟨_,_,rfl⟩:=Zdb o;refine XB (P:=λc=>PS X _ (tS X.K (ex F c))) h λ_ j y r f m=>?_
  exact Z0 (P:=λj:CE×CE=>PS X _ (tS X.K (ex F (.dput _ j.1 j.2 y)))) f λt s i g=>Zv (ps_asg (d X sc N K.toCxt _ y m).pe (pg_sub (QI K.toCxt l.2.2 r) (pe_tup (pa_cons (d X sc N K.toCxt _ t i).pe (pa_cons (d X sc N K.toCxt _ s g).pe pa_nil (Zc (Zd g))) (Zc (Zd i)))) (set_dT (by have:=K.toCxt.hu;omega)) (Vh rfl)) (Xa l.1) VT) Zck
 |none=>
 rw[o]at h;exact XB (P:=λc=>PS X _ (tS X.K (ex F c))) h λ_ j y r f m=>Zv (ps_asg (d X sc N K.toCxt _ y m).pe (pg_sub (QI K.toCxt l.2.2 r) (d X sc N K.toCxt _ j f).pe set_list (Vh (Zd f))) (Xa l.1) VT) Zet
def ZhM(a:Zl G F n)(K:CxtS X G F sc N){c:CS}(h:(cE G n sc N e).map CS.ret=aa c):PS X (.Return (aa e) pos) (tS X.K (ex F c)):=
 VL (P:=λc=>PS X _ (tS X.K (ex F c))) h λx q=>Zv (ps_ret (a X sc N K.toCxt _ x q).pe) Zeu
def Zjc(f:Zl G F n)(d:ZU G F n)(K:CxtS X G F sc N){c:CS}{a b:Li Stmt}(h:o3 CS.ite (cE G n sc N e) (cSs G n sc N a) (cSs G n sc N b)=aa c):PS X (.If e a b pos) (tS X.K (ex F c)):=
 XB (P:=λc=>PS X _ (tS X.K (ex F c))) h λk m l g j i=>Zv (ps_if (f X sc N K.toCxt _ k g).pt (d X sc N K _ m j) (d X sc N K _ l i)) Zen
def Zfe(d:YL G F n)(a:ZU G F n)(K:CxtS X G F sc N){c:CS}{x:Str}{b:Li Stmt}{p:Pos}(e:WK G sc it=aa as)(h:o3 CS.for3 (N.idxOf? x) (cEs G n sc N as) (cSs G n sc N b)=aa c):PS X (.For (.Name x p) it b [] pos) (tS X.K (ex F c)):=by cases e
def Zfc(e:Zl G F n)(d:ZU G F n)(K:CxtS X G F sc N){c:CS}{x:Str}{b:Li Stmt}{p:Pos}(h:(match ZS G sc it with
   |some a=>o3 (λi c b=>CS.for1 i ac c b) (N.idxOf? x) (cE G n sc N a) (cSs G n sc N b)
   |none=>o3 (λi c b=>CS.for1 i ae c b) (N.idxOf? x) (cE G n sc N it) (cSs G n sc N b))=aa c):PS X (.For (.Name x p) it b [] pos) (tS X.K (ex F c)):=by
 cases k:ZS G sc it with
 |some a=>
  rw[k]at h;refine XB (P:=λc=>PS X _ (tS X.K (ex F c))) h λi r j f q g=>?_
  obtain⟨o,m⟩:=WR K.toCxt k (Zd q) (e X sc N K.toCxt a _ q).pe;exact Zv (ps_for (XF K) K.calm m (Yi K f) (d X sc N K _ j g) (ZW o)) Zcp
 |none=>
  rw[k]at h;refine XB (P:=λc=>PS X _ (tS X.K (ex F c))) h λi r j f q g=>?_
  have A:=(e X sc N K.toCxt _ _ q).pe;have l:=ZW (env:=X.env) (Zd q);exact Zv (Zf1 (ps_for (XF K) K.calm (pi_tup A) (Yi K f) (d X sc N K _ j g) l) (ps_for (XF K) K.calm (pi_list A) (Yi K f) (d X sc N K _ j g) l)) Zco
def Qx{s:Sd}{wr:Li Ad}(I:L2.Inv X pQ O H s)(d:∀ b∈wr,FpOk X pQ H b)(k:∀ b o,b∉wr->s.heap.get? b=aa o->h'.get? b=aa o):L2.Inv X pQ O H { s with heap:=h',toks:=t' }:=by
 have g:∀ b u,H b=aa u->b∉wr:=λb u e f=>by have:=(d b f).1;rw[e]at this;cases this
 refine I.step (g':=s.gens) (d':=s.drawn) (ch:=wr) (λb f=>⟨(d b f).2.2.2.1,(d b f).2.1,(d b f).2.2.2.2.1,(d b f).2.2.2.2.2⟩) (λb o _ _ a e _=>k b o a e) (λb o _ _ a e _=>⟨o.slots,k b o a e⟩)
  (λb o _ e n=>n) (λb o a e=>⟨o,k b o a e⟩) (λb ys e=>e) (λb o u e=>e) (λb l e=>⟨#[],by rw[e];simp⟩) (λm i=>?_) (λb u e=>?_) I.bare
 .obtain⟨o,es,j,h,r⟩:=i
  exact⟨o,es,j,k _ o (λz=>(d _ z).2.1 rfl) h,r⟩
 .refine(I.hok b u e).stay (λc v a q=>k c v ?_ q) (λc q=>q) λc ys q=>q
  rcases a with z|z
  .rw[z];exact g b u e
  .exact g c _ z
def V3{s:Sd}{wr:Li Ad}{T:Ad}{h:Li V}(I:L2.Inv X pQ O H s)(f:∀ b∈wr,FpOk X pQ H b)(k:∀ b o,b∉wr->s.heap.get? b=aa o->h'.get? b=aa o)(j:s.heap.objs.size<=T)(new:ObjOk X.prog X.w (upd H T (.tup h)) h' T (.tup h)):L2.Inv X pQ O (upd H T (.tup h)) { s with heap:=h',toks:=t' }:=by
 have g:H T=ab:=I.hok.fresh j;have l:∀ b u,s.heap.get? b=aa u->b≠T:=λb u e=>aW (aU (aJ e) j)
 have i:∀ b u,H b=aa u->b∉wr:=λb u e a=>by have:=(f b a).1;rw[e]at this;cases this
 refine I.step (g':=s.gens) (d':=s.drawn) (ch:=wr) (λb a=>⟨(f b a).2.2.2.1,(f b a).2.1,(f b a).2.2.2.2.1,(f b a).2.2.2.2.2⟩) (λb o _ _ d e _=>k b o d e) (λb o _ _ d e _=>⟨o.slots,k b o d e⟩)
  (λb o _ e n=>by rw[upd_ne (l b o e)];exact n) (λb o d e=>⟨o,k b o d e⟩) (λb ys e=>by rw[upd_ne (ne_of_none e g)];exact e) (λb o u e=>by rw[upd_ne (ne_of_none e g)];exact e) (λb y e=>⟨#[],by rw[upd_ne (ne_of_none e g),e];simp⟩) (λm t=>?_) (λb u e=>?_) I.bare
 .obtain⟨o,es,x,p,r⟩:=t
  exact⟨o,es,x,k _ o (λz=>(f _ z).2.1 rfl) p,r⟩
 .by_cases a:b=T
  .subst a;rw[upd_same]at e;cases e;exact new
  .rw[upd_ne a]at e
   refine(I.hok b u e).stay (λc v d q=>k c v ?_ q) (λc q=>by rw[upd_ne (ne_of_none q g)];exact q) λc ys q=>by rw[upd_ne (ne_of_none q g)];exact q
   rcases d with z|z
   .rw[z];exact i b u e
   .exact i c _ z
def Zfn{s:Sd}{a:Ad}{b:Li V}(I:L2.Inv X pQ O H s)(j:SqL X.K H a b)(i:SqL X.K H a ys):ys=b:=by
 obtain⟨d,h,⟨l,n,g1,_,_,k⟩,_⟩:=I.list j;obtain⟨c,g,⟨o2,m,g2,_,_,f⟩,_⟩:=I.list i;rw[g1]at g2;cases g2;rw[k]at f;have e:d.toArray=c.toArray:=by injection f
 have e:d=c:=by simpa using e
 subst e;exact Vals.inj g h
def ZcY{a b:String}{p:Prop}(h:Value.type a=Value.type b)(n:¬a=b):p:=by
 injection h with h
 exact ar h n
section
variable{prog:a1}{w:bg}{A:bm}{E:vL->Sd->Prop}{s:Sd}
open Sem (wp)
open AutoSeq1 (wpAny_loadPart')
def QE{it l:Ad}{Q:vL->Sd->Prop}(j:A.handled=ab)(b:s.heap.IsTupleIter it l i)(k:s.heap.IsTuple l items)(p:∀ x h',items[i]?=aa x->h'.IsTupleIter it l (i+1)->Heap.SameBut it s.heap h'->Q x { s with heap:=h' })(q:items[i]?=ab->∀ h' e,Heap.ExtBut it s.heap h'->(∃ o,h'.get? e=aa o/\o.cls=.type "StopIteration")->E (.ref e) { s with heap:=h' }) :
  az (a0 prog w) A (Builtin.SmallTypes.nextOf (.ref it)) Q E s:=by
 obtain⟨o,d,n,c⟩:=id b;obtain⟨r,g,_,nl,h⟩:=k;unfold Builtin.SmallTypes.nextOf;refine aA (wpAny_callSpecial?_slot (name:=Str.ofString "__next__") b.typeIs PySem.F.slot_tuple_iterator_next
  (wpAny_call_entry PySem.F.slot_tuple_iterator_next b.typeIs PySem.F.entry_tuple_iterator_next ?_ (PySem.F.args_tuple_iterator_next_1 _)))
 show az _ _ (field (.ref it) 0 >>= _) _ _ s;refine aA (wpAny_field d c (x:=.ref l) rfl ?_);show az _ _ (if (bq l==br)=ac then _ else _) _ _ s
 rw[aq (show ¬((bq l==br)=ac) from Bf)];show az _ _ (field (.ref it) 1 >>= _) _ _ s;refine aA (wpAny_field d c (x:=.int i 0) rfl ?_);show az _ _ (seqItems? (.ref l) >>= _) _ _ s;refine aA (wpAny_seqItems g h ?_);cases f:items[i]? with
 |some x=>
  simp only[bA,f];refine aA (wpAny_setField d c (by simp) (aB ⟨x,rfl,aB (p _ _ f ?_ (Heap.SameBut.update ..))⟩))
  exact⟨_,Heap.get?_update_self _ d (Obj.isFreed_of_fields (Obj.data_mapFields c _)),(Obj.cls_mapFields ..).trans n,by
   rw[Obj.data_mapFields c];simp[rawInt]⟩
 |none=>
  simp only[bA,f];refine aA (wpAny_rule (aA (wpAny_setField d c (by simp) ?_)))
  show az _ _ (newExc (.type "StopIteration") [] >>= _) _ _ _;refine aA ?_;simp only[newExc,newTuple];refine aA (wpAny_newObj_type ?_ (by size_fits))
  refine aA (m:=firstArgMember _ _) (wpAny_of_eq (a:=br) (by first|rfl | (simp only[firstArgMember];rfl)) ?_)
  refine wpAny_newObj_type ?_ (by size_fits)
  simp only[raiseNew];refine aA (wpAny_handled ?_)
  first|rw[show A.in1.handled=ab from j]|rw[j]
  refine aA (aB (wpAny_throw ?_));exact q f _ _ (((Heap.SameBut.update ..).extBut.push _).push _) ⟨_,aX _ rfl,rfl⟩
end
structure ZD(z TI TO i1 i2:Addr):Prop where
 a:TI≠z
 b:TO≠z
 c:i1≠z
 d:i2≠z
 e:TI≠TO
 f:TI≠i1
 g:TI≠i2
 h:TO≠i1
 i:TO≠i2
 j:i1≠i2
section
variable{prog:a1}{w:bg}{A:bm}{s:Sd}{z TI TO i1 i2:Ad}{x y a b:vL}{S1 S2:bf->Prop}
open Builtin.SmallTypes
def KB(l:Li Ad)(h h':bf):Prop:=∀ c o,c∉l->h.get? c=aa o->h'.get? c=aa o
def KB.of{l:Li Ad}{p:Ad}(k:Heap.SameBut p h h')(m:p∈l):KB l h h':=λc o n e=>k.extBut c o (λq=>n (q ▸ m)) e
def KB.trans{l:Li Ad}{d b a:bf}(x:KB l d b)(y:KB l b a):KB l d a:=λc o n e=>y c o n (x c o n e)
end
structure ZSt(z TI TO i1 i2 a b:Addr)(i:Nat)(h:bf):Prop where
 hz:IsZip h z TI TO .none
 hI:IsPair h TI (.ref i1) (.ref i2)
 hO:∃ u v,IsPair h TO u v
 h1:h.IsTupleIter i1 a i
 h2:h.IsTupleIter i2 b i
section
variable{X:Cx}{z TI TO i1 i2 a b:Ad}{i:Nat}{pQ:Li (Ad×Obj)}{s:Sd}{O:L2.St}{H:Hp}{E:vL->Sd->Prop}
def nl{l:Li Ad}{c:Ad}(h:∀ d∈l,c≠d):c∉l:=λm=>h c m rfl
end
section
variable{prog:a1}{w:bg}{A:bm}{E:vL->Sd->Prop}{s:Sd}
open Sem (wp)
open AutoSeq1 (wpAny_loadPart')
def Za6(f:A.handled=ab)(it l:Ad)(c:l≠it)(items:Array vL) :
  Draws prog w A it [it,l] items.size (λi v=>items[i]?=aa v) (λi h=>h.IsTupleIter it l i/\h.IsTuple l items) where
 live:=λ_ _ st=>let ⟨o,ho,_⟩:=st.1;⟨o,ho⟩
 frame:=λ_ _ _ st d=>⟨st.1.at λo e=>d it (by simp) o e,st.2.at λo e=>d l (by simp) o e⟩
 item:=λi s Q E g st j=>QE f st.1 st.2 (λx h' e b a=>j x h' s.toks e ⟨b,st.2.extBut a.extBut c⟩ a) λe=>ar e (by simp[g])
 done:=λs Q E st k=>QE f st.1 st.2 (λx h' e=>ar e (by simp)) λ_=>k
def VJ(l:Ad)(items:Array vL)(n:Nat)(dct:Ot Ad)(sl:Array (Ot vL)) :
  Meets (Builtin.«enumerate.__new__» ⟨[.type "enumerate",.ref l],[]⟩) (λ_ R s=>s.heap.get? l=aa { cls:=.type "tuple",dict:=dct,data:=.seq items n,slots:=sl } /\
   R (.ok (.ret (.ref (s.heap.push { cls:=.type "tuple_iterator",data:=.fields #[.ref l,.int 0 0] }).objs.size)))
    { s with heap:=(s.heap.push { cls:=.type "tuple_iterator",data:=.fields #[.ref l,.int 0 0] }).push { cls:=.type "enumerate",data:=.fields #[.none,.bool ae,.ref s.heap.objs.size,rawInt 0,.none,.none] } }):=
 .of_wp λprog w A R s h=>by
  obtain⟨j,g,d,f,i⟩:=s;obtain⟨a,h⟩:=h;have e:=sub_enumerate;have b:Heap.IsTuple (Shared.heap ⟨j,g,d,f,i⟩) l items:=⟨_,a,rfl,n,rfl⟩
  wp_walk using wpAny_loadPart' a
  refine wpAny_stack_any λst=>aB ?_
  split
  .rename_i c _ _ _ _ _
   cases (c==Value.type "enumerate")
   .wp_walk using wpAny_loadPart' a,wpAny_pyIter_tuple b
    exact⟨_,rfl,h⟩
   .wp_walk using wpAny_loadPart' a,wpAny_pyIter_tuple b
    exact⟨_,rfl,h⟩
  .wp_walk using wpAny_loadPart' a,wpAny_pyIter_tuple b
   exact⟨_,rfl,h⟩
def V0{l:Ad}{Q:vL->Sd->Prop}(i:s.heap.IsTuple l items)(h:∀ h',IsEnum h' (s.heap.objs.size+1) s.heap.objs.size 0 .none->h'.IsTupleIter s.heap.objs.size l 0->h'.objs.size=s.heap.objs.size+2->
   (∀ b o,s.heap.get? b=aa o->h'.get? b=aa o)->Q (.ref (s.heap.objs.size+1)) { s with heap:=h' }) :
  az (a0 prog w) A (call (.type "enumerate") [.ref l]) Q E s:=by
 obtain⟨⟨c,dct,j,sl⟩,g,e,n,d⟩:=i;replace e:c=.type "tuple":=e;replace d:j=.seq items n:=d;subst e d;refine callType_new PySem.F.called_enumerate (by decide) (PySem.F.typeCall_enumerate_1 _) (PySem.F.newCall_enumerate_1 _) (λobj=>PySem.F.args_object_init_2 obj _) PySem.F.entry_enumerate_new
  (VJ l items n dct sl) ⟨g,?_⟩
 have a:(s.heap.push { cls:=.type "tuple_iterator",data:=.fields #[.ref l,.int 0 0] }).objs.size=s.heap.objs.size+1:=Heap.size_push ..;show _/\_;rw[a];have f:IsEnum ((s.heap.push { cls:=.type "tuple_iterator",data:=.fields #[.ref l,.int 0 0] }).push
   { cls:=.type "enumerate",data:=.fields #[.none,.bool ae,.ref s.heap.objs.size,rawInt 0,.none,.none] }) (s.heap.objs.size+1) s.heap.objs.size 0 .none:=by
  have:=aX (s.heap.push { cls:=.type "tuple_iterator",data:=.fields #[.ref l,.int 0 0] })
   (o:={ cls:=.type "enumerate",data:=.fields #[.none,.bool ae,.ref s.heap.objs.size,rawInt 0,.none,.none] }) rfl
  rw[a]at this;exact this
 refine⟨⟨_,f,rfl⟩,h _ f ⟨_,aO _ (aX _ rfl),rfl,rfl⟩ (by rw[Heap.size_push,a]) λb o x=>aO _ (aO _ x)⟩
end
def Ite(sq:Hp->Li V->Prop):It:=
 ⟨λi H=>∃ a x,sq H a/\a[i]?=aa x,λi H v H'=>∃ T x,v=.ref T/\H T=ab/\H'=upd H T (.tup [.int (i:Int),x])/\∀ a,sq H a->a[i]?=aa x,λi H=>∃ a,sq H a/\a.length=i⟩
def Zad(K:Fg)(d:TA):TI:=λO H R=>d O H λvs b=>∃ a,vs=[.ref a]/\(((∃ c,SqL K b a c)/\R (Ite λH=>SqL K H a) b)\/((∃ c,SqT K b a c)/\R (Ite λH=>SqT K H a) b))
def Uq{P:a1}{K:Fg}{sq:Hp->Li V->Prop}{it1:Nat->bf->Prop}(e it a:Ad)(d:e≠it)(hi:∀ i h,it1 i h->∃ o,h.get? it=aa o/\∀ v,o.data≠.cell v)(hk:∀ i h h',it1 i h->(∀ o,h.get? it=aa o->h'.get? it=aa o)->it1 i h')(hD:∀ (X:Cx),X.prog=P->X.w=w->X.K=K->X.calm=ac->∀ (pQ:Li (Ad×Obj)) (s:Sd) (O:L2.St) (H:Hp) (i:Nat) (j:Li V),L2.Inv X pQ O H s->(∃ f,IsEnum s.heap e it i f)->it1 i s.heap->sq H j->
   (∀ ys,sq H ys->ys=j)/\∃ (b:Li vL) (N:bf->Prop),Vals j b/\a≠e/\N s.heap/\Draws P w X.A.in1 it [it,a] b.toArray.size (λi v=>b.toArray[i]?=aa v) (λi h=>it1 i h/\N h)) :
  Turn P w K (.Tuple elts kk pos) (Ite sq) [e,it] e (λi h=>(∃ f,IsEnum h e it i f)/\it1 i h) where
 mem:=by simp
 obj:=λi h st c p=>by
  obtain⟨⟨f,m⟩,M⟩:=st;simp only[aF,bB,or_false]at p;rcases p with rfl|rfl
  .exact⟨_,m,λv q=>by cases (show Data.fields _=Data.cell v from q)⟩
  .exact hi i h M
 keep:=λi h h' st k=>by
  obtain⟨⟨f,m⟩,M⟩:=st;exact⟨⟨f,k e (by simp) _ m⟩,hk i h h' M λo g=>k it (by simp) o g⟩
 item:=by
  intro X G C J p i pQ s O H E I Q st Z;obtain⟨j,x,Y,ex⟩:=Z;obtain⟨l,b,N,r,U,S,D⟩:=hD X G C J p pQ s O H i j I st.1 st.2 Y;subst G C J;have W:=WalksT.enumerateD D e d (by simp only[aF,bB,or_false];exact λq=>q.elim d λq=>U q.symm) (by simp)
  have l1:=r.length;have ix:i < j.length:=(bP.mp ex).1;refine W.item i s _ _ (by simp;omega) ⟨st.1,st.2,S⟩ λT vals h' tk hv hT tup B k1=>?_
  obtain⟨t,u,eu,rfl⟩:=hv;refine⟨.ref T,rfl,W.go elts kk pos i T _ _ _ B λL z k2=>?_⟩
  have nT:=W.apart i T h' B;have ru:RelV x u:=by
   obtain⟨u',R,e2⟩:=r.get ex;have:b[i]?=aa u:=by simpa using eu
   rw[this]at R;cases R;exact e2
  have y:L.IsTuple T #[.int i t,u]:=tup.at λo g=>k2 T o nT g
  have I2:L2.Inv X pQ O (upd H T (.tup [.int (i:Int),x])) { s with heap:=L,toks:=tk }:=V3 (wr:=[e,it]) I Q (λc o F g=>k2 c o F (k1 c o F g)) hT ⟨show 2<=aw by decide,[.int i t,u],.cons ⟨t,rfl⟩ (.cons ru .nil),y⟩
  refine⟨.ref T,_,I2,rfl,⟨T,x,rfl,I.hok.fresh hT,rfl,λxs' q=>by rw[l _ q];exact ex⟩,⟨z.1,z.2.1⟩,λc n=>?_⟩
  have:c≠T:=λq=>by
   have lt:∀ {o},s.heap.get? c=aa o->False:=λg=>ar (aJ g) (Nat.not_lt.mpr (by rw[q];exact hT))
   obtain⟨⟨_,m⟩,M⟩:=st;obtain⟨_,g,_⟩:=hi _ _ M;simp only[aF,bB,or_false]at n;rcases n with rfl|rfl
   .exact lt m
   .exact lt g
  rw[upd_ne this];exact(Q c n).1
 done:=by
  intro X G C J p i pQ s O H E I Q st Z;obtain⟨j,Y,hle⟩:=Z;obtain⟨l,b,N,r,U,S,D⟩:=hD X G C J p pQ s O H i j I st.1 st.2 Y;subst G C J;have W:=WalksT.enumerateD D e d (by simp only[aF,bB,or_false];exact λq=>q.elim d λq=>U q.symm) (by simp)
  have l1:=r.length;have R:i=b.toArray.size:=by simp;omega
  subst R;exact W.done s _ _ ⟨st.1,st.2,S⟩ λh' tk k=>⟨rfl,Qx (wr:=[e,it]) I Q k⟩
 self:=λ_ _ _ _ _ st h=>let ⟨⟨_,m⟩,_⟩:=st;wpAny_pyIter_enum m h
def QF{e it:Ad}{i:Int}{d:vL}{a:Ad}{o:Obj}{n:String}(b:IsEnum h e it i d)(g:h.get? a=aa o)(c:o.cls=.type n)(f:¬n = "enumerate"):a≠e:=λq=>by
 subst q;have b:h.get? a=aa _:=b;rw[g]at b;cases b;exact ZcY c λz=>f z.symm
def QG{a b:Ad}{o u:Obj}{n m:String}(g:h.get? a=aa o)(c:o.cls=.type n)(g2:h.get? b=aa u)(d:u.cls=.type m)(e:¬n=m):a≠b:=λq=>by
 subst q;rw[g]at g2;cases g2;rw[c]at d;exact ZcY d e
def Zd3:a6 "enumerate"=aa (.type "enumerate"):=by decide +kernel
def ZeQ{x:ax}{E:TA}{p:Pos}(P:Gl X "enumerate")(N:X.mg "enumerate"=ab)(Q:PA X [x] E)(M:a5 [x] X.env=[(ae,eval x X.env)]):PI X (.Tuple elts kk tp) (.Call (.Name "enumerate" p) [x] [] pos) (Zad X.K E):=by
 intro pQ s O H R I h;refine Call_ (ld_blt I P N Zd3 (PyProof.Rows.callWith_type1 (thn (Q pos pQ s O H _ I h) λS s1 ⟨vs,D,l,J,L⟩=>?_) M rfl))
 obtain⟨a,rfl,q⟩:=L;have F:∀ c∈[s1.heap.objs.size+1,s1.heap.objs.size],FpOk X pQ D c:=λc m=>by
  have j:s1.heap.objs.size<=c:=by
   simp only[aF,bB,or_false]at m;rcases m with rfl|rfl
   .exact Nat.le_add_right _ _
   .exact aE _
  exact l.fpOk j (l.hok.fresh j)
 cases J with
 |cons r G=>
  cases G;cases r;rcases q with⟨⟨n,sq⟩,q⟩|⟨⟨n,sq⟩,q⟩
  .obtain⟨b,_,t,_⟩:=l.list sq
   refine call_enumerate_list t.isList λh' d e y k=>wpAny_pyIter_enum d ?_
   refine⟨s1.heap.objs.size+1,[s1.heap.objs.size+1,s1.heap.objs.size],_,_,D,rfl,l.kept (t':=s1.toks) k,Uq (it1:=λi h=>h.IsListIter _ a i) _ _ a (Nat.succ_ne_self _) (λi h st=>?_) (λi h h' st k=>st.at k) (λX z w B j pQ s O H i n I d e sq=>?_),⟨⟨_,d⟩,e⟩,F,q⟩
   .obtain⟨o,g,_,f⟩:=st
    exact⟨o,g,λv q=>by rw[f]at q;cases q⟩
   .rw[<-z,<-w]
    rw[<-B]at sq ⊢;obtain⟨b,r,p,_⟩:=I.list sq;obtain⟨⟨_,d⟩,⟨o2,g2,C,_⟩⟩:=And.intro d e;obtain⟨o,g,c,_⟩:=p.isList;exact⟨λys u=>Zfn I sq u,b,λh=>h.IsList a b.toArray,r,QF d g c (by decide),p.isList,Draws.list (show X.A.in1.handled=ab from I.ok.hd j) _ a (QG g c g2 C (by decide)) b.toArray⟩
  .obtain⟨b,_,t,_⟩:=l.tuple sq
   refine V0 (show s1.heap.IsTuple a b.toArray from t) λh' d e y k=>wpAny_pyIter_enum d ?_
   refine⟨s1.heap.objs.size+1,[s1.heap.objs.size+1,s1.heap.objs.size],_,_,D,rfl,l.kept (t':=s1.toks) k,Uq (it1:=λi h=>h.IsTupleIter _ a i) _ _ a (Nat.succ_ne_self _) (λi h st=>?_) (λi h h' st k=>st.at k) (λX z w B j pQ s O H i n I d e sq=>?_),⟨⟨_,d⟩,e⟩,F,q⟩
   .obtain⟨o,g,_,f⟩:=st
    exact⟨o,g,λv q=>by rw[f]at q;cases q⟩
   .rw[<-z,<-w]
    rw[<-B]at sq ⊢;obtain⟨b,r,p,_⟩:=I.tuple sq;have p:s.heap.IsTuple a b.toArray:=p;obtain⟨⟨_,d⟩,⟨o2,g2,C,_⟩⟩:=And.intro d e;obtain⟨o,g,c,_⟩:=id p;exact⟨λys u=>I.tuple_inj u sq,b,λh=>h.IsTuple a b.toArray,r,QF d g c (by decide),p,Za6 (show X.A.in1.handled=ab from I.ok.hd j) _ a (QG g c g2 C (by decide)) b.toArray⟩
theorem Uc:∀ {a:Li D}{k i:Nat}{x:D},a[i]?=aa x->(Xv k a)[i]?=aa (.int ((k+i:Nat):Int),x)
 |[],_,_,_,h=>nomatch h
 |x :: a,k,0,_,h=>by cases h;rfl
 |x :: a,k,i+1,y,h=>by
  show(Xv (k+1) a)[i]?=_;rw[Uc (show a[i]?=aa y from h),show k+1+i=k+(i+1) by omega]
theorem WF:∀ {a:Li D}{k:Nat},(Xv k a).length=a.length
 |[],_=>rfl
 |x :: a,k=>au (·+1) WF
def Zcn{K:Fg}{L:Ev}{f:Ex}(E:Ends)(O:L2.St)(H:Hp)(h:tS K (Vz i j L f) E O H):tFor (Zad K (tCons (tE K L) tNil)) (gTup K 2 (gCons (gName i) (gCons (gName j) gNil))) (tS K f) E O H:=by
 obtain⟨ad,U,st,r,st',En,S,e,p⟩:=ZR h;unfold Vz at e;split at e
 .rename_i x d P
  split at e
  .rename_i C ok n
   have t:∀ {sq:Hp->Li V->Prop}{m:Li Ad}{B:Hp} (b:Li Ad->Hp->Prop),(∀ ad H ad' H',Ext ad H ad' H'->b ad H->b ad' H')->b m B->
     (∀ ad H st,b ad H->StOk K ad H st->ok st->∃ vs,Dens K ad H vs C/\sq H vs)->Ext ad H m B->StOk K m B d->Zif K f i j (Ite sq) E O B:=λb T g1 I u A=>
    ⟨_,⟨_,.mk (bH _) (En.mono u) A g1 e (p.later u)⟩,Js T (λad H st g S o=>by
      obtain⟨vs,rv,D⟩:=I ad H st g S o;exact⟨vs,D,by rw[rv.length,WF]⟩) λk ad H st q g S o F=>by
      obtain⟨vs,rv,D⟩:=I ad H st g S o;have R:k < C.length:=by rw[<-WF (k:=0)];exact(bP.mp F).1
      have J:=Lg R;rw[Uc (k:=0) J,bH]at F;cases F;obtain⟨w,M,Z⟩:=rv.get J;exact⟨_,w,⟨vs,w,D,M⟩,.int _,Z,λx H' ⟨pt,y1,Y,X,W,Q⟩=>⟨pt,Y,X,by have z:=Q vs D;rw[M]at z;cases z;exact W⟩⟩⟩
   refine⟨ad,U,st,x,d,En,S,P,λv m B u A N=>?_⟩
   cases x with
   |tup ys=>
    cases n;obtain⟨a,vs,rfl,y,rv⟩:=N.ofTup;exact⟨a,rfl,.inr ⟨⟨vs,y.sq⟩,t (λad H=>TupAt K H a vs/\Dens K ad H vs C) (λ_ _ _ _ x g=>⟨g.1.mono x,g.2.mono x⟩) ⟨y,rv⟩ (λad H st g _ _=>⟨vs,g.2,g.1.sq⟩) u A⟩⟩
   |lst l=>
    have n:(match d[l]? with
     |some c=>aa (c.2,λs=>s[l]?=aa c)
     |none=>ab)=aa (C,ok):=n
    cases G:d[l]? with
    |none=>rw[G]at n;cases n
    |some c=>
     rw[G]at n;cases n;obtain⟨a,rfl,y⟩:=N.ofLst;obtain⟨vs,rv,sq⟩:=A.list y (show d[l]?=aa (c.1,c.2) from G);exact⟨a,rfl,.inl ⟨⟨vs,sq⟩,t (λad H=>LA ad H l a) (λ_ _ _ _ x g=>g.mono x) y (λad H st g S e=>S.list g (show st[l]?=aa (c.1,c.2) from e)) u A⟩⟩
   |_=>exact Zb n
  .exact Zb e
 .exact Zb e
def Vy{a:ax}{x:CE}(K:Cxt X G F sc N)(h:XN G sc it=aa a)(b:Zg a=ac)(A:PE X a (tE X.K (ev F x))):Zg it=ac/\PI X (.Tuple elts kk tp) it (Zad X.K (tCons (tE X.K (ev F x)) tNil)):=by
 obtain⟨as,c,f⟩:=dM.mp h;rw[Zas f]at c;obtain⟨_,_,rfl,e,d⟩:=Ji K c;exact⟨rfl,ZeQ e d (pa1 b A) (Zc b)⟩
def Zdt(d:Zl G F n)(a:ZU G F n)(K:CxtS X G F sc N){c:CS}{b:Li Stmt}(h:o2 CS.whl (cE G n sc N e) (cSs G n sc N b)=aa c):PS X (.While e b [] pos) (tS X.K (ex F c)):=
 Z0 (P:=λc=>PS X _ (tS X.K (ex F c))) h λi j f g=>Zv (ps_while (XF K) (d X sc N K.toCxt _ i f).pt (a X sc N K _ j g)) Zbd
def Zfi(d:YL G F n)(a:ZU G F n)(K:CxtS X G F sc N){c:CS}{x y:Str}{b:Li Stmt}{p:Pos}(g:N.idxOf? x=aa i)(f:N.idxOf? y=aa j)(e:Vf G sc it=aa as)(h:o2 (CS.forP i j) (cEs G n sc N as) (cSs G n sc N b)=aa c):PS X (.For (.Tuple [.Name x p,.Name y p2] ctx tp) it b [] pos) (tS X.K (ex F c)):=by cases e
def Zfh(d:Zl G F n)(a:ZU G F n)(K:CxtS X G F sc N){c:CS}{x y:Str}{b:Li Stmt}{p:Pos}(m:N.idxOf? x=aa i)(l:N.idxOf? y=aa j)(k:W5 G sc it=aa e)(h:o2 (CS.forE i j) (cE G n sc N e) (cSs G n sc N b)=aa c):PS X (.For (.Tuple [.Name x p,.Name y p2] ctx tp) it b [] pos) (tS X.K (ex F c)):=by
 refine Z0 (P:=λc=>PS X _ (tS X.K (ex F c))) h λq r f o=>?_
 obtain⟨g,A⟩:=Vy (elts:=[.Name x p,.Name y p2]) (kk:=ctx) (tp:=tp) K.toCxt k (Zd f) (d X sc N K.toCxt _ q f).pe;exact Zv (ps_for (XF K) K.calm A (pg_tup K.calm (pgs_cons (Yi K m) (pgs_cons (Yi K l) pgs_nil))) (a X sc N K _ r o) (ZW g)) Zcn
def Zff(d:Zl G F n)(a:ZU G F n)(K:CxtS X G F sc N){c:CS}{x y z:Str}{b:Li Stmt}{p:Pos}(h:o3 (λ(p:Nat×Nat) (q:Nat×CE) b=>CS.for4 p.1 p.2 q.1 q.2 b) (o2 Prod.mk (N.idxOf? x) (N.idxOf? y)) (o2 Prod.mk (N.idxOf? z) (cE G n sc N it)) (cSs G n sc N b)=aa c):PS X (.For (.Tuple [.Name x p,.Name y p2,.Name z p3] ctx tp) it b [] pos) (tS X.K (ex F c)):=
 XB (P:=λc=>PS X _ (tS X.K (ex F c))) h λu v e k g s=>Z0 (P:=λu:Nat×Nat=>PS X _ (tS X.K (ex F (.for4 u.1 u.2 v.1 v.2 e)))) k λi j r o=>Z0 (P:=λv:Nat×CE=>PS X _ (tS X.K (ex F (.for4 i j v.1 v.2 e)))) g λl t m f=>
  Zv (ps_for (XF K) K.calm (pi_tup (d X sc N K.toCxt _ t f).pe) (pg_tup K.calm (pgs_cons (Yi K r) (pgs_cons (Yi K o) (pgs_cons (Yi K m) pgs_nil)))) (a X sc N K _ e s) (ZW (Zd f))) Zcm
def Zfd(d:Zl G F n)(a:ZU G F n)(K:CxtS X G F sc N){c:CS}{x y:Str}{b:Li Stmt}{p:Pos}(f:N.idxOf? x=aa i)(e:N.idxOf? y=aa j)(h:o2 (CS.for2 i j) (cE G n sc N it) (cSs G n sc N b)=aa c):PS X (.For (.Tuple [.Name x p,.Name y p2] ctx tp) it b [] pos) (tS X.K (ex F c)):=by
 refine Z0 (P:=λc=>PS X _ (tS X.K (ex F c))) h λo m k l=>?_
 have A:=(d X sc N K.toCxt _ o k).pe;have g:=ZW (env:=X.env) (Zd k);exact Zv (Zf1 (ps_for (XF K) K.calm (pi_tup A) (pg_tup K.calm (pgs_cons (Yi K f) (pgs_cons (Yi K e) pgs_nil))) (a X sc N K _ m l) g) (ps_for (XF K) K.calm (pi_list A) (pg_tup K.calm (pgs_cons (Yi K f) (pgs_cons (Yi K e) pgs_nil))) (a X sc N K _ m l) g)) Zcl
def ZhJ(b:Zl G F n)(K:CxtS X G F sc N){c:CS}{x:Str}{p:Pos}(h:Zii sc N x m ap cp (cE G n sc N e)=aa c):PS X (.Expr (.Call (.Attribute (.Name x p) m ap) [e] [] cp) pos) (tS X.K (ex F c)):=by
 refine XC h λd h=>?_
 by_cases j:m = "append"
 .subst j
  rw[ao rfl]at h;exact Z0 (P:=λc=>PS X _ (tS X.K (ex F c))) h λi y f a=>Zv (ps_expr (pe_bm PySem.F.plainAttrs_list PySem.F.slot_list_append PySem.F.type_list_append mt_append (QI K.toCxt d.1 f) (pa1 (Zd a) (b X sc N K.toCxt _ y a).pe) rfl (by rw[Zc (Zd a)];rfl) d.2 (Zc (Zd a)) rfl) rfl) Zeh
 .rw[aq j]at h
  by_cases g:m = "extend"
  .subst g
   rw[ao rfl]at h;exact Z0 (P:=λc=>PS X _ (tS X.K (ex F c))) h λi y f a=>Zv (ps_expr (pe_bm PySem.F.plainAttrs_list PySem.F.slot_list_extend PySem.F.type_list_extend mt_extend (QI K.toCxt d.1 f) (pa1 (Zd a) (b X sc N K.toCxt _ y a).pe) rfl (by rw[Zc (Zd a)];rfl) d.2 (Zc (Zd a)) rfl) rfl) Zej
  .rw[aq g]at h;cases h
def Zfb(d:Zl G F n)(f:Vg G F n)(K:CxtS X G F sc N){c:CS}(h:Zij N tg e (cE G n sc N e)=aa c):PS X (.Assign [tg] e pos) (tS X.K (ex F c)):=by
 have no:∀ {P:Prop},(ab:Ot CS)=aa c->P:=λz=>nomatch z
 cases tg with
 |Name x p=>exact ZhK d f K h
 |Tuple es ctx tp=>cases es with
  |nil=>exact no h
  |cons a es=>cases a with
   |Name _ _=>cases es with
    |nil=>exact no h
    |cons b es=>cases b with
     |Name _ _=>cases es with
      |nil=>exact Zfj d K h
      |cons g es=>cases g with
       |Name _ _=>cases es with
        |nil=>exact Zfk d K h
        |cons _ _=>exact no h
       |_=>exact no h
     |_=>exact no h
   |_=>exact no h
 |_=>exact no h
def Zfg(f:Zl G F n)(g:YL G F n)(d:ZU G F n)(K:CxtS X G F sc N){c:CS}{b:Li Stmt}(h:ZgQ G sc N (cE G n sc N) (cEs G n sc N) tg it (cSs G n sc N b)=aa c):PS X (.For tg it b [] pos) (tS X.K (ex F c)):=by
 have no:∀ {P:Prop},(ab:Ot CS)=aa c->P:=λz=>nomatch z
 cases tg with
 |Name x p=>
  unfold ZgQ at h;cases l:WK G sc it with
  |some as=>
   rw[l]at h;exact Zfe g d K l h
  |none=>
   rw[l]at h;exact Zfc f d K h
 |Tuple es ctx tp=>cases es with
  |nil=>exact no h
  |cons a es=>cases a with
   |Name x p=>cases es with
    |nil=>exact no h
    |cons v es=>cases v with
     |Name y p2=>cases es with
      |nil=>
       replace h:((o2 (λi j=>og (i≠j) (aa (i,j))) (N.idxOf? x) (N.idxOf? y)).join.bind λp=>(match Vf G sc it with
        |some as=>o2 (CS.forP p.1 p.2) (cEs G n sc N as) (cSs G n sc N b)
        |none=>match W5 G sc it with
         |some e=>o2 (CS.forE p.1 p.2) (cE G n sc N e) (cSs G n sc N b)
         |none=>o2 (CS.for2 p.1 p.2) (cE G n sc N it) (cSs G n sc N b)))=aa c:=h
       refine b_e h λq m h=>j_e m λm=>Z0 (P:=λo=>o=aa q->PS X _ (tS X.K (ex F c))) m (λi j s r e=>XC e λ_ e=>?_) rfl
       cases e;cases k:Vf G sc it with
       |some as=>
        rw[k]at h;exact Zfi g d K s r k h
       |none=>
        rw[k]at h;dsimp only at h;cases t:W5 G sc it with
        |some e=>
         rw[t]at h;exact Zfh f d K s r t h
        |none=>
         rw[t]at h;exact Zfd f d K s r h
      |cons u es=>cases u with
       |Name _ _=>cases es with
        |nil=>exact Zff f d K h
        |cons _ _=>exact no h
       |_=>exact no h
     |_=>exact no h
   |_=>exact no h
 |_=>exact no h
def Zfa(a:Zl G F n)(K:CxtS X G F sc N){c:CS}{o k:ax}{p:Pos}(h:og (m = "append"/\(ap.endLine==cp.line)=ac) (o2 CS.app2 (cE G n sc N (.Subscript o k p)) (cE G n sc N e))=aa c):PS X (.Expr (.Call (.Attribute (.Subscript o k p) m ap) [e] [] cp) pos) (tS X.K (ex F c)):=by
 refine XC h λg h'=>?_
 obtain⟨i,f⟩:=g;subst i;exact Z0 (P:=λc=>PS X _ (tS X.K (ex F c))) h' λz y d b=>Zv (ps_expr (pe_bm PySem.F.plainAttrs_list PySem.F.slot_list_append PySem.F.type_list_append mt_append (a X sc N K.toCxt _ z d).pe (pa1 (Zd b) (a X sc N K.toCxt _ y b).pe) rfl (by rw[Zc (Zd b)];rfl) f (Zc (Zd b)) rfl) rfl) Zcg
def ZhN(a:Zl G F n)(K:CxtS X G F sc N){c:CS}{x j:Str}{k:ax}{p d b l:Pos}(h:og (XA sc x=ac/\j = "setdefault"/\(d.endLine==b.line)=ac/\m = "append"/\(ap.endLine==cp.line)=ac) (o3 CS.sda (N.idxOf? x) (cE G n sc N k) (cE G n sc N e))=aa c):PS X (.Expr (.Call (.Attribute (.Call (.Attribute (.Name x p) j d) [k,.List [] l] [] b) m ap) [e] [] cp) pos) (tS X.K (ex F c)):=by
 refine XC h λt h'=>?_
 obtain⟨r,v,q,u,o⟩:=t;subst v;subst u
 have w:=K.toCxt.hu;exact XB (P:=λc=>PS X _ (tS X.K (ex F c))) h' λi y z s g f=>Zv (ps_expr (pe_bm PySem.F.plainAttrs_list PySem.F.slot_list_append PySem.F.type_list_append mt_append (pe_bm PySem.F.plainAttrs_dict PySem.F.slot_dict_setdefault PySem.F.type_dict_setdefault (ZiQ (by omega)) (QI K.toCxt r s) (pa2 (Zd g) rfl (a X sc N K.toCxt _ y g).pe (pe_lst pa_nil)) rfl (by rw[Zc (Zd g)];rfl) q (Zc (Zd g)) rfl) (pa1 (Zd f) (a X sc N K.toCxt _ z f).pe) rfl (by rw[Zc (Zd f)];rfl) o (Zc (Zd f)) rfl) rfl) Zev
def Ze9(b:Zl G F n)(K:CxtS X G F sc N){c:CS}{v:ax}(h:Zig sc N (cE G n sc N) v=aa c):PS X (.Expr v pos) (tS X.K (ex F c)):=by
 have no:∀ {P:Prop},(ab:Ot CS)=aa c->P:=λz=>nomatch z
 cases v with
 |Call f as g cp=>cases f with
  |Attribute o m ap=>cases o with
   |Name x p=>cases as with
    |nil=>exact no h
    |cons e es=>cases es with
     |nil=>cases g with
      |nil=>exact ZhJ b K h
      |cons _ _=>exact no h
     |cons _ _=>exact no h
   |Subscript o k p=>cases as with
    |nil=>exact no h
    |cons e es=>cases es with
     |nil=>cases g with
      |nil=>exact Zfa b K h
      |cons _ _=>exact no h
     |cons _ _=>exact no h
   |Call j a d q=>cases j with
    |Attribute o2 s r=>cases o2 with
     |Name x p=>cases a with
      |nil=>exact no h
      |cons k a=>cases a with
       |nil=>exact no h
       |cons l a=>cases l with
        |List i t=>cases i with
         |cons _ _=>exact no h
         |nil=>cases a with
          |cons _ _=>exact no h
          |nil=>cases d with
           |cons _ _=>exact no h
           |nil=>cases as with
            |nil=>exact no h
            |cons e es=>cases es with
             |cons _ _=>exact no h
             |nil=>cases g with
              |cons _ _=>exact no h
              |nil=>exact ZhN b K h
        |_=>exact no h
     |_=>exact no h
    |_=>exact no h
   |_=>exact no h
  |Name f u=>exact ZhI b K h
  |_=>exact no h
 |_=>exact no h
def QP(d:Zl G F n)(j:YL G F n)(f:ZU G F n)(m:Vg G F n):QX G F (n+1):=by
 intro X sc N K s c h;have no:∀ {P:Prop},(ab:Ot CS)=aa c->P:=λz=>nomatch z
 cases s with
 |Assign g e pos=>cases g with
  |nil=>exact no h
  |cons t l=>cases l with
   |cons _ _=>cases t with
    |Subscript o k p=>cases o<;>exact no h
    |_=>exact no h
   |nil=>cases t with
    |Subscript o k p=>cases o with
     |Name x q=>exact ZhL d K h
     |_=>exact no h
    |_=>exact Zfb d m K h
 |Return e pos=>cases e with
  |none=>exact no h
  |some e=>exact ZhM d K h
 |If e a b pos=>exact Zjc d f K h
 |While e b i pos=>cases i with
  |cons _ _=>exact no h
  |nil=>exact Zdt d f K h
 |For t it b i pos=>cases i with
  |cons _ _=>exact no h
  |nil=>exact Zfg d j f K h
 |Expr v pos=>exact Ze9 d K h
 |Pass pos=>
  cases (show aa CS.skip=aa c from h)
  exact Zv ps_pass Qu
 |Break pos=>
  cases (show aa CS.brk=aa c from h)
  exact Zv ps_break Zei
 |Raise a b pos=>
  cases (show aa CS.stop=aa c from h)
  exact λpQ s O H D I q=>by
   obtain⟨_,_,_,_,_,_,_,e,_⟩:=ZR q;cases e
 |Continue pos=>
  cases (show aa CS.cont=aa c from h)
  exact Zv ps_continue Zch
 |_=>exact no h
def U7(e:QX G F n)(d:ZU G F n):ZU G F (n+1):=by
 intro X sc N K s c h;cases s with
 |nil=>
  simp only[cSs]at h;cases h;exact Zaw pss_nil Qu
 |cons s r=>
  exact Z0 (P:=λc=>PSs X _ (tS X.K (ex F c))) (show o2 CS.seq (cS G n sc N s) (cSs G n sc N r)=aa c from h) λa b g f=>Zaw (pss_cons (e X sc N K s a g) (d X sc N K r b f)) Zew
end
variable [ClsTab]
def Xi(G:Gs)(F:Nat->Fn):Prop:=∀ n,Zl G F n->(∀ X sc N,Cxt X G F sc N->∀ elt gens sc2 pos c,cE G (n+1) sc N (.ListComp elt gens sc2 pos)=aa c->SE X F (.ListComp elt gens sc2 pos) c)/\Vg G F (n+1)
theorem Uo{G:Gs}{F:Nat->Fn}(d:Xi G F):∀ n,(Zl G F n/\YL G F n/\Uw G F n)/\QX G F n/\ZU G F n/\Vg G F n
 |0=>⟨⟨λX sc N K e c h=>(nomatch (show(ab:Ot CE)=aa c from h)),λX sc N K e c h=>(nomatch (show(ab:Ot CE)=aa c from h)),λX sc N K e c h=>(nomatch (show(ab:Ot CE)=aa c from h))⟩,λX sc N K e c h=>(nomatch (show(ab:Ot CS)=aa c from h)),λX sc N K e c h=>(nomatch (show(ab:Ot CS)=aa c from h)),λX sc N K x i p elt gens sc2 j pos c _ h=>(nomatch (show(ab:Ot CE)=aa c from h))⟩
 |n+1=>by
  obtain⟨⟨a,g,l⟩,k,b,f⟩:=Uo d n;exact⟨⟨JK a g l (d n a).1,QN a g,QO a⟩,QP a g b f,U7 k b,(d n a).2⟩
def ZaR(K:Fg)(G:Gs)(T:Nat->Ot FD)(x y:Str)(i:Nat)(f:Ad)(fd:bc)(pn N:Li Str):Prop:=∃ (st:Stmt) (oc:vL) (od:Ot Ad) (dV kV doc pm:vL) (an:Ot Ad) (cdv ct:vL) (osl:Array (Ot vL)) (code:CS),
  fd=W.fnOf x y (defArgs st) (defBody st) (defScope st) dV kV doc pm an cdv ct/\K.lookup f=aa ⟨oc,od,.func fd,osl⟩/\W.codeIn K cdv y=ac/\FnScope N pn (defScope st)/\(∀ y∈N,Loc (defScope st) y) /\
  cSs G 60 (defScope st) N (defBody st)=aa code/\T i=aa ⟨pn.length,N.length,code⟩
def ZdZ(K:Fg)(mg:Str->Ot vL)(G:Gs)(T:Nat->Ot FD)(i:Nat)(f:Ad)(fd:bc)(pn:Li Str):Prop:=∀ (P:a1) (w:bg) (base:bf) (n:Nat),(∀ m,m<=n->∀ A,Room m A->∀ y g,G.lookup y=aa g->GOk P w K mg base A (run T m) y g)->FnOk P w K mg base CX0 (n+1) f fd pn (spD K (run T (n+1) i))
structure DefOk(K:Fg)(mg:Str->Option Value)(G:Gs)(T:Nat->Option FD)(x:Str)(i:Nat)(ds:List D)(f:Addr)(fd:bc)(pn N:List Str):Prop where
 ob:ZaR K G T x x i f fd pn N\/ZdZ K mg G T i f fd pn
 kp:W.keepIn K (.ref f)=ac
 at_:mg x=aa (.ref f)
 bn:∀ m,m<=ds.length->∃ dvs us,(∀ ad H,Dens K ad H dvs (ds.drop m))/\Vals dvs us/\Binds K fd pn us
structure MethOk(K:Fg)(G:Gs)(T:Nat->Option FD)(C:Addr)(x y:Str)(i:Nat)(f:Addr)(fd:bc)(pn N:List Str):Prop where
 ob:ZaR K G T x y i f fd pn N
 mt:Meth K C x f
 bn:Binds K fd pn []
structure Text(Pm:Params)(K:Fg)(mg:Str->Option Value)(G:Gs)(T:Nat->Option FD):Prop where
 cst:∀ x d,G.lookup x=aa (.c d)->∃ v u,mg x=aa u/\RelV v u/\∀ ad H,Den K ad H v d
 blt:∀ x,G.lookup x=aa .blt->mg x=ab
 dct:∀ x ks ds,G.lookup x=aa (.dct ks ds)->JY Pm K mg x ks ds
 fn:∀ x i ps ds,G.lookup x=aa (.fn i ps ds)->∃ f fd pn N,DefOk K mg G T x i ds f fd pn N
 cls:∀ x i ms subs,G.lookup x=aa (.cls i ms subs)->(mg x=aa (.ref (ClsTab.ca i))/\NewOk K (ClsTab.ca i)/\∀ i',subs.contains i'=ac->SubOk K (ClsTab.ca i') (ClsTab.ca i)) /\
  ∀ m j ps,ms.lookup m=aa (j,ps)->∃ y f fd pn N,MethOk K G T (ClsTab.ca i) m y j f fd pn N
variable{pn:Li Str}
variable{P:a1}{w:bg}{K:Fg}{mg:Str->Ot vL}{base:bf}{T:Nat->Ot FD}
def ZdJ{x:Str}(h:XA sc x=ac):Vis sc x:=by
 unfold XA at h;rw[Ba]at h;have h:=h.2;split at h
 .rename_i q;exact .inl q
 .rename_i q;exact .inr (.inl q)
 .rename_i q;exact .inr (.inr q)
 .cases h
def Zac{x:Str}(h:ZC sc x=ac):sc.names.lookup x=aa .globalImplicit:=by
 unfold ZC at h;rw[Ba]at h;have h:=h.2;split at h
 .rename_i q;exact q
 .cases h
def J3{x:Str}(h:VD sc x=ac):sc.names.lookup x=aa .cell\/sc.names.lookup x=aa .free:=by
 unfold VD at h;split at h
 .rename_i q;exact .inl q
 .rename_i q;exact .inr q
 .cases h
def Za9(h:Dens K ad H vs ds)(j:ds.length<=N.length):EnvOk K ad H (L2.start N vs) (ds.map aa++af (N.length - ds.length) ab):=by
 have e:=h.length;refine⟨by unfold L2.start;simp[e],λi d q=>?_⟩
 by_cases a:i < ds.length
 .rw[bS (by simpa using a),aV,Lg a]at q
  have b:ds[i]=d:=by simpa using q
  have g:ds[i]?=aa d:=by rw[Lg a,b]
  obtain⟨v,f,c⟩:=h.get g;refine⟨v,?_,c⟩;unfold L2.start;rw[bS (by simpa[e] using a),aV,f]
  rfl
 .rw[cB (by simpa using a),eE]at q
  split at q<;>cases q
def Zhc{n:Nat}(M:∀ n,Xi G (run T n))(gl:∀ A,Room n A->∀ y g,G.lookup y=aa g->GOk P w K mg base A (run T n) y g){x y:Str}{f:Ad}{fd:bc}(L:ZaR K G T x y i f fd pn N):FnOk P w K mg base CX0 (n+1) f fd pn (spD K (run T (n+1) i)):=by
 obtain⟨st,oc,Z,dV,kV,R,Y,an,z,ct,J,l,rfl,lk,v,S,k,c,O⟩:=L;have a:run T (n+1) i=fnD (run T n) ⟨pn.length,N.length,l⟩:=by
  show(match T i with|some f=>fnD (run T n) f|none=>λ_ _=>ab)=_
  rw[O]
 refine fn_of lk v S (λvs H Q E h=>?_) (λA b s H vs Q E D h=>?_)
 .obtain⟨ad,es,st,d,st',_,u,e,_⟩:=h
  rw[a]at e;unfold fnD at e;split at e
  .rename_i t
   rw[u.length];exact t
  .exact Zb e
 .obtain⟨ad,es,X,d,st',S0,u,e,p⟩:=h
  rw[a]at e;unfold fnD at e;split at e
  .rename_i t
   have C:CxtS (cxOf CX0 P w K mg base N y (defScope st) f z A b s H E).nox G (run T n) (defScope st) N:={
    hN:=rfl
    vis:=λy j=>ZdJ j
    glb:=λy j=>Zac j
    calm:=rfl
    hu:=D.units
    gl:=gl _ D
    cel:=λy j=>J3 j
    nx:=rfl
    nd:=S.nd
    loc:=k
    fn:=λ_=>rfl }
   have B:=(Uo (M n) 60).2.2.1 _ _ _ C _ _ c;have r:pn.length<=N.length:=by have:=au List.length S.pre;rw[cM]at this;omega
   have m:=Za9 (N:=N) u (by rw[show es.length=pn.length from t];exact r)
   refine⟨_,B.nox,?_⟩;split at e
   .rename_i d' o q
    cases e;exact ZP m S0 q p
   .rename_i U o q
    cases e;exact ZP m S0 q λF V H1 I W E1=>(p.later I).at W .non
   .exact Zb e
  .exact Zb e
def Zfu{f:Ad}{fd:bc}:FnOk P w K mg base CX0 0 f fd pn (spD K (run T 0 i)):=by
 refine⟨λvs H Q E h=>?_,λA a s H b c vs Q E _ _ _ _ h=>?_⟩
 .obtain⟨_,_,_,_,_,_,_,e,_⟩:=h;cases e
 .obtain⟨_,_,_,_,_,_,_,e,_⟩:=h;cases e
def ZfH(X:Text w.params K mg G T)(h:∀ {x y:Str}{i:Nat}{f:Ad}{fd:bc}{pn N:Li Str},ZaR K G T x y i f fd pn N\/ZdZ K mg G T i f fd pn->FnOk P w K mg base CX0 n f fd pn (spD K (run T n i)))(A:bm)(e:Room n A):∀ y g,G.lookup y=aa g->GOk P w K mg base A (run T n) y g:=λy g a=>by
 cases g with
 |c d=>exact X.cst y d a
 |blt=>exact X.blt y a
 |dct ks ds=>exact X.dct y ks ds a
 |fn j k es=>
  obtain⟨f,fd,pn,N,b⟩:=X.fn y j k es a;exact⟨n,f,fd,pn,h b.ob,e,b.at_,b.kp,b.bn⟩
 |cls i ms subs=>
  obtain⟨⟨s,r,q⟩,p⟩:=X.cls y i ms subs a;refine⟨s,r,q,λm j l o=>?_⟩
  obtain⟨z,f,fd,pn,N,Mk⟩:=p m j l o;exact⟨n,f,fd,pn,h (.inl Mk.ob),e,Mk.mt,Mk.bn⟩
theorem QZ(c:∀ n,Xi G (run T n))(X:Text w.params K mg G T):∀ (n m:Nat),m<=n->∀ {x y:Str}{i:Nat}{f:Ad}{fd:bc}{pn N:Li Str},ZaR K G T x y i f fd pn N\/ZdZ K mg G T i f fd pn->FnOk P w K mg base CX0 m f fd pn (spD K (run T m i))
 |n,0,_,_,_,_,_,_,_,_,_=>Zfu
 |n+1,m+1,h,_,_,_,_,_,_,_,.inl a=>Zhc c (λA b=>ZfH X (λa=>QZ c X n m (Nat.le_of_succ_le_succ h) a) A b) a
 |n+1,m+1,h,_,_,_,_,_,_,_,.inr e=>e P w base m λl d A b=>ZfH X (λa=>QZ c X n l (aR d (Nat.le_of_succ_le_succ h)) a) A b
def Zgu(a:∀ n,Xi G (run T n))(X:Text w.params K mg G T)(n:Nat){x y:Str}{f:Ad}{fd:bc}(h:ZaR K G T x y i f fd pn N\/ZdZ K mg G T i f fd pn):FnOk P w K mg base CX0 n f fd pn (spD K (run T n i)):=QZ a X n n (aE _) h
variable [ClsTab]
variable{ys:Li V}
section
variable{xs:Li V}
def VI(b:H p=aa (.lst xs)){a:Ad}:Z4 H a↔Z4 (upd H p (.lst ys)) a:=VW (WX b rfl) rfl
def Jm{K:Fg}(a:H p=aa (.lst xs)):Keeps K ad ad H (upd H p (.lst ys)):=⟨λh=>h.upd a (by intro xs z;cases z),λh=>⟨h,VI a⟩,λ_ h=>by rw[upd_ne (ne_of h a (by intro z;cases z))];exact h,λh n=>⟨by rw[upd_ne (ne_of h a (by intro z;cases z))];exact h,n⟩⟩
def Den.wr{K:Fg}(a:H p=aa (.lst xs)){v:V}(h:Den K ad H v d):Den K ad (upd H p (.lst ys)) v d:=h.map (Jm a)
def Dens.wr{K:Fg}(a:H p=aa (.lst xs))(h:Dens K ad H vs ds):Dens K ad (upd H p (.lst ys)) vs ds:=h.map (Jm a)
theorem EnvOk.wr{K:Fg}(a:H p=aa (.lst xs))(h:EnvOk K ad H O U):EnvOk K ad (upd H p (.lst ys)) O U:=⟨h.len,λi d e=>let ⟨v,e1,e2⟩:=h.at_ i d e;⟨v,e1,e2.wr a⟩⟩
def StOk.wr{K:Fg}(S:StOk K ad H st)(a:H p=aa (.lst xs))(b:p∉ad):StOk K ad (upd H p (.lst ys)) st:=
 S.wrG (Jm a) b
def Ext.wr{e:Hp}(x:Ext ad0 e ad H)(f:H p=aa (.lst xs))(d:e p=ab):Ext ad0 e ad (upd H p (.lst ys)):=by
 refine⟨x.pre,λb c h=>?_,λb c h=>?_,λb o h n=>?_,x.new,λi a h=>(x.kd i a h).trans (VI f)⟩
 .rw[upd_ne (ne_of_none h d)];exact x.tup b c h
 .rw[upd_ne (ne_of_none h d)];exact x.dk b c h
 .rw[upd_ne (ne_of_none h d)];exact x.keep b o h n
end
theorem VH{c:Str->NameKind->Bool}:∀ {l:Li (Str×NameKind)}{y:Str},(l.map λ(n,k)=>if c n k=ac then (n,NameKind.cell) else (n,k)).lookup y=(l.lookup y).map λk=>if c y k=ac then NameKind.cell else k
 |[],_=>rfl
 | (n,k) :: r,y=>by
  have a:=@VH c r y;rw[aK];have e:(if c n k=ac then (n,NameKind.cell) else (n,k))=(n,if c n k=ac then NameKind.cell else k):=by split<;>rfl
  show List.lookup y ((if c n k=ac then (n,NameKind.cell) else (n,k)) :: _)=_
  rw[e,cH,cH];cases q:y==n with
  |true=>rw[beq_iff_eq.mp q];rfl
  |false=>exact a
def YC{env:PySem.Env}{y:Str}:(relabel sc env).names.lookup y=(sc.names.lookup y).map λk=>if (k==NameKind.free&&env.scope.kind==.function&&env.kindOf y==aa .cell)=ac then NameKind.cell else k:=
 VH (c:=λn k=>k==NameKind.free&&env.scope.kind==.function&&env.kindOf n==aa .cell)
def YU{y:Str}{k:NameKind}(h:sc.names.lookup y=aa k)(a:k≠.free):(relabel sc env).names.lookup y=aa k:=by
 rw[YC,h];have:(k==NameKind.free)=ae:=by simpa using a
 show aa (if (k==NameKind.free&&_&&_)=ac then NameKind.cell else k)=aa k
 rw[this,Bool.false_and,Bool.false_and,aq Bf]
def Y8{y:Str}(h:sc.names.lookup y=aa .free):(relabel sc env).names.lookup y=aa .cell\/(relabel sc env).names.lookup y=aa .free:=by
 rw[YC,h];show(aa (if _ then NameKind.cell else NameKind.free))=_\/(aa (if _ then NameKind.cell else NameKind.free))=_
 split
 .exact .inl rfl
 .exact .inr rfl
def U1{sc:a7}{y:Str}(d:∀ p∈sc.names,p.2≠.cell)(h:(relabel sc env).names.lookup y=aa .cell\/(relabel sc env).names.lookup y=aa .free):sc.names.lookup y=aa .free:=by
 rw[YC]at h;cases q:sc.names.lookup y with
 |none=>rw[q]at h;rcases h with h|h<;>cases h
 |some k=>
  rw[q]at h;cases k with
  |free=>rfl
  |cell=>
   have:∀ {l:Li (Str×NameKind)},l.lookup y=aa .cell->∃ p∈l,p.2=.cell:=λ{l} e=>by
    induction l with
    |nil=>exact Zb e
    |cons a l c=>
     obtain⟨n,k⟩:=a;rw[cH]at e;split at e
     .cases e;exact⟨_,Ls,rfl⟩
     .obtain⟨p,b,f⟩:=c e;exact⟨p,Lm _ b,f⟩
   obtain⟨p,b,e⟩:=this q;exact ar e (d p b)
  |_=>rcases h with h|h<;>simp at h
theorem X6{env:PySem.Env}:∀ (l:Li (Str×NameKind)) (b:Li (Str×Ad)),(∀ p∈l,p.2=.free->∃ c,env.cells.lookup p.1=aa c)->
  ∃ d,(forIn l b λ(x:Str×NameKind) (r:Li (Str×Ad))=>(do
   if (x.2==NameKind.free)=ac then
    let a <-cellOf env x.1
    pure (ForInStep.yield ((x.1,a) :: r))
   else pure (ForInStep.yield r):Sem (ForInStep (Li (Str×Ad)))))=pure d /\
   (∀ y c,d.lookup y=aa c->b.lookup y=aa c\/((y,NameKind.free)∈l/\env.cells.lookup y=aa c))/\(∀ y,(y,NameKind.free)∈l\/(b.lookup y).isSome->(d.lookup y).isSome)
 |[],b,_=>⟨b,by simp only[List.forIn_nil],λy c h=>.inl h,λy h=>by simpa using h⟩
 | (n,k) :: l,b,h=>by
  by_cases m:k=.free
  .subst m
   obtain⟨t,f⟩:=h (n,.free) Ls rfl;obtain⟨d,e,s,o⟩:=X6 (env:=env) l ((n,t) :: b) λp j=>h p (Lm _ j)
   refine⟨d,?_,λy c q=>?_,λy q=>?_⟩
   .rw[dX]
    simp only[beq_self_eq_true,if_true];have:cellOf env n=pure t:=by unfold cellOf;rw[f]
    simp only[this,pure_bind];exact e
   .rcases s y c q with z|⟨i,g⟩
    .rw[cH]at z
     split at z
     .rename_i u
      cases z;rw[beq_iff_eq.mp u];exact .inr ⟨Ls,f⟩
     .exact .inl z
    .exact .inr ⟨Lm _ i,g⟩
   .refine o y ?_
    rcases q with q|q
    .rcases aF.mp q with z|z
     .cases z
      exact .inr (by rw[cH];simp)
     .exact .inl z
    .refine .inr ?_
     rw[cH];split
     .rfl
     .exact q
  .obtain⟨d,e,s,o⟩:=X6 (env:=env) l b λp j=>h p (Lm _ j)
   refine⟨d,?_,λy c q=>?_,λy q=>?_⟩
   .rw[dX]
    have:(k==NameKind.free)=ae:=by simpa using m
    simp only[this,cF,if_false,pure_bind];exact e
   .rcases s y c q with z|⟨i,g⟩
    .exact .inl z
    .exact .inr ⟨Lm _ i,g⟩
   .refine o y ?_
    rcases q with q|q
    .rcases aF.mp q with z|z
     .cases z;exact ar rfl m
     .exact .inl z
    .exact .inr q
def Qj{sc:a7}(h:∀ p∈sc.names,p.2=.free->∃ c,env.cells.lookup p.1=aa c):∃ a,closureFor sc env=pure a/\(∀ y c,a.lookup y=aa c->env.cells.lookup y=aa c)/\∀ y,(y,NameKind.free)∈sc.names->(a.lookup y).isSome:=by
 obtain⟨a,e,d,b⟩:=X6 (env:=env) sc.names [] h;refine⟨a,?_,λy c q=>?_,λy q=>b y (.inl q)⟩
 .unfold closureFor
  rw[show(λ(x:Str×NameKind) (r:Li (Str×Ad))=>_)=_ from rfl]at e
  first|exact(by simp only[e,pure_bind]) | (simp only[bind_pure]at *;exact e)|exact e
 .rcases d y c q with z|⟨_,z⟩
  .exact Zb z
  .exact z
variable [ClsTab]
variable{iter:ax}{ifs:Li ax}
def Qk{R:Result->Sd->Prop}{s:Sd}{a:ax}{scope:a7}{it p:vL}(I:Nat->Sd->Prop)(turn:∀ n s,I n s->az (a0 prog w) A (pyNext it) (λr g=>match r with
   |none=>R (.ok .next) g
   |some v=>az (a0 prog w) A (letOwnedTupleGo a it v) (λ_ f=>az (a0 prog w) A (assign a env v) (λ_ l=>
     az (a0 prog w) A (forIn ifs ac λc r=>if r=ac then do let ok <-isTrue c env (eval c env);pure (ForInStep.yield ok) else pure (ForInStep.yield r)) (λok d=>
      if ok=ac then az (a0 prog w) A (eval elt env) (λx k=>
       az (a0 prog w) A (call (.builtin "list.append") [p,x]) (λ_ j=>∃ m,m < n/\I m j) (notedBy (a0 prog w) A env λe i=>R (.error e) i) k) (notedBy (a0 prog w) A env λe i=>R (.error e) i) d
      else ∃ m,m < n/\I m d) (notedBy (a0 prog w) A env λe i=>R (.error e) i) l) (notedBy (a0 prog w) A env λe i=>R (.error e) i) f) (notedBy (a0 prog w) A env λe i=>R (.error e) i) g) (notedBy (a0 prog w) A env λe i=>R (.error e) i) s)(n:Nat)(h:I n s):codeAny (a0 prog w) A (.compLoop (.ListComp elt [⟨a,iter,ifs,0⟩] scope pos) 0 it p env) R s:=by
 refine codeAny_loop rfl I (λn s y=>?_) n h
 show az _ A ((compTurn (.ListComp elt [⟨a,iter,ifs,0⟩] scope pos) 0 it p env).onRaise (λx=>do noteFrame x env;theTreesLotGoes x)) _ _ s
 refine wpAny_noted ?_;rw[compTurn_list];refine aA (wpAny_standAt (aA (bK (turn n s y) (λr g b=>?_) λ_ _ h'=>h')))
 cases r with
 |none=>exact aB b
 |some v=>
  refine aA (bK b (λ_ f b=>?_) λ_ _ h'=>h')
  refine aA (bK b (λ_ l u=>aA (bK u (λok d o=>?_) λ_ _ h'=>h')) λ_ _ h'=>h')
  cases ok with
  |false=>exact aB ⟨rfl,o⟩
  |true=>
   exact aA (aA (bK o (λx k t=>aA (bK t (λ_ j q=>aB (aB ⟨rfl,q⟩)) λ_ _ h'=>h')) λ_ _ h'=>h'))
def cxC(X:Cx)(N:Li Str)(env:PySem.Env)(a:Sd)(c:Hp)(b:Li Ad)(pQ:Li (Ad×Obj)):Cx:=
 { X with N:=N,s₀:=a,H₀:=c,env:=env,outer:=X.stack,ex:=b,fn:=λ_=>ae,pn:=X.pn++pQ,xe:=λ_ _=>False }
variable{m0:Str->Ot vL}{tk:Nat}{O':L2.St}
variable{pQ:Li (Ad×Obj)}{O:L2.St}{sc2:a7}{cl:Li (Str×Ad)}{N:Li Str}
section
variable{H3:Hp}{s3:Sd}{fp:Li Ad}
def ZcB(a:L2.Inv X pQ O H3 s3){G:bf}(R:sc2.kind=.function)(f:∀ p∈sc2.names,p.2≠.cell)(E:G.Ns s3.heap.objs.size m0)(up:∀ b u,s3.heap.get? b=aa u->G.get? b=aa u)(k:∀ y c,cl.lookup y=aa c->X.env.cells.lookup y=aa c)(J:∀ y,sc2.names.lookup y=aa .free->(cl.lookup y).isSome)(s:∀ b∈fp,FpOk X pQ H3 b)(S:∀ b∈fp,b < s3.heap.objs.size)(A:∀ (i:Nat) (y:Str) (v:V),N[i]?=aa y->O'[i]?=aa (aa v)->∃ j:Nat,X.N[j]?=aa y/\O[j]?=aa (aa v)/\sc2.names.lookup y=aa .free/\(X.env.scope.names.lookup y=aa .cell\/X.env.scope.names.lookup y=aa .free))(Q:O'.length=N.length) :
  L2.Inv (cxC X N (compEnvC sc2 cl s3.heap.objs.size X.env) s3 H3 fp pQ) [] O' H3 { s3 with heap:=G,toks:=tk } where
 ok:={
  mod:=a.ok.mod
  kind:=R
  glob:=a.ok.glob
  blt:=a.ok.blt
  above:=aE _
  inj:=λx y c e W=>a.ok.inj x y c (k _ _ e) (k _ _ W)
  has:=λx h=>by
   have e:=U1 (env:=X.env) f h;have:=J x e;cases q:cl.lookup x with
   |none=>rw[q]at this;cases this
   |some c=>exact⟨c,q⟩
  cab:=λx c h=>nomatch h
  hd:=a.ok.hd
  frames:=a.ok.frames
  stk:=.inl rfl
  exf:=λb g=>⟨aW (S b g),λx c e=>(s b g).2.2.2.2.1 x c (k _ _ e)⟩
  bs:=a.bs
  bsz:=aR a.ok.bsz a.sz
  noex:=λb o e g=>by
   rcases (s b g).2.2.2.1 with z|z
   .exact a.ok.noex b o e z
   .exact ar (aU (aJ e) (aR a.ok.bsz z)) (bZ _)
  exfs:=λb g B=>by
   rcases aF.mp (a.stkSub b B) with z|z
   .exact(s b g).2.1 z
   .exact(s b g).2.2.1 z
  funs:=a.stack
  frf:=a.stkFree }
 os:=rfl
 bare:=a.bare
 base:=Un.kept up
 loc:=⟨m0,E,λi y v U T Z=>by
  obtain⟨j,g1,g2,I,H⟩:=A i y v U T;obtain⟨m,Y,F⟩:=a.loc;obtain⟨u,r,l⟩:=F j y v g1 g2 (.inr H);refine⟨u,r,.inr ⟨Y8 I,?_⟩⟩;rcases l with⟨z,_⟩|⟨_,c,e,z⟩
  .have K:X.env.scope.names.lookup y=aa .local:=z
   rcases H with w|w<;>(rw[K]at w;cases w)
  .have q:=J y I
   cases t:cl.lookup y with
   |none=>rw[t]at q;cases q
   |some c'=>
    have:=k _ _ t;rw[e]at this;cases this
    obtain⟨o,D,hd⟩:=z;exact⟨c,t,o,up c o D,hd⟩⟩
 cell:=λy c e=>by
  obtain⟨v,o,D,hd⟩:=a.cell y c (k _ _ e);exact⟨v,o,up c o D,hd⟩
 free:=a.hok.fresh (aE _)
 freeC:=λy c e=>a.freeC y c (k _ _ e)
 pin:=λp P=>by
  have C:p∈X.pn++pQ:=by simpa[cxC] using P
  obtain⟨e,n,M,L,d⟩:=a.pin p C;refine⟨up _ _ e,n,aW (aJ e),λB=>?_,d⟩
  rcases aF.mp (a.stkSub _ B) with z|z
  .exact M z
  .exact L z
 hok:=a.hok.kept up
 len:=Q
def ZcA(r:L2.Inv X pQ O H3 s3){d:Li (Ad×Obj)}{H':Hp}{s':Sd}(p:env.locals=s3.heap.objs.size)(g:L2.Inv (cxC X N env s3 H3 fp pQ) d O' H' s')(sb:Heap.SameBut s3.heap.objs.size s'.heap h')(h:∀ b∈fp,FpOk X pQ H3 b):L2.Inv X pQ O H' { s' with heap:=h' }:=by
 have u:Un (frs X.stack) fp H3 H' s3.heap s'.heap:=g.base;have i:∀ b o,s3.heap.get? b=aa o->b≠s3.heap.objs.size:=λb o e=>aW (aJ e)
 have k:H' s3.heap.objs.size=ab:=by have:=g.free;rw[show(cxC X N env s3 H3 fp pQ).env.locals=s3.heap.objs.size from p]at this;exact this
 refine r.call' (s':={ s' with heap:=h' }) (ch:=fp) g.os ⟨λb o e n a f=>?_,λb o e n a f=>?_,u.free,λb o e f=>?_,u.tups,u.frzs,u.tbls⟩ (λb l e=>?_) g.bare (λb a=>?_)
 .exact(sb.2 b (i b o e)).trans (u.keep b o e n a f)
 .obtain⟨sl,j⟩:=u.slot b o e n a f
  exact⟨sl,(sb.2 b (i b o e)).trans j⟩
 .obtain⟨m,j⟩:=u.there b o e f
  exact⟨m,(sb.2 b (i b o e)).trans j⟩
 .refine(g.hok b l e).stay (λc s hc q=>(sb.2 c ?_).trans q) (λ_ q=>q) λ_ _ q=>q
  rintro rfl
  rcases hc with rfl|hc
  .rw[k]at e;cases e
  .rw[k]at hc;cases hc
 .exact⟨(h b a).2.2.2.1,(h b a).2.1,(h b a).2.2.2.2.1,(h b a).2.2.2.2.2⟩
end
variable [ClsTab]
theorem VM{N:Li Str}:∀ {l:Li Str}{b:Li Nat},XE N l=aa b->b.length=l.length/\∀ (i:Nat) (k:Nat),b[i]?=aa k->∃ y,l[i]?=aa y/\N[k]?=aa y
 |[],b,h=>by cases h;exact⟨rfl,λi k e=>by simp at e⟩
 |x :: r,b,h=>by
  unfold XE at h;split at h
  .rename_i a as g f
   cases h;obtain⟨d,c⟩:=VM f;refine⟨by simp[d],λi k e=>?_⟩
   cases i with
   |zero=>simp at e;subst e;exact⟨x,rfl,X7 g⟩
   |succ i=>exact c i k (by simpa using e)
  .exact Zb h
theorem StOk.lt{s:Sd}{a:Ad}(I:L2.Inv X pQ O H s)(S:StOk X.K ad H st)(h:a∈ad):a < s.heap.objs.size:=by
 obtain⟨i,b,e⟩:=List.getElem_of_mem h;rcases S.has (show ad[i]?=aa a by rw[Lg b,e]) with⟨o,q⟩|⟨o,q⟩
 .exact I.hok.lt q
 .exact aJ (I.kIn a o q)
variable{fr:Li Nat}
def Zb5{K:Fg}{bs:L2.St}{b:D->Li (Ot D)}(E:EnvOk K ad H O U)(hd:EnvOk K ad H bs (b d)):EnvOk K ad H (bs++fr.map λi=>(O[i]?).join) (Yg b U fr d):=by
 refine⟨by simp[Yg,hd.len],λi e h=>?_⟩
 unfold Yg at h;by_cases a:i < (b d).length
 .rw[bS a]at h
  rw[bS (by rw[hd.len];exact a)]
  exact hd.at_ i e h
 .have a:(b d).length<=i:=dW a
  rw[cB a,aV]at h;rw[cB (by rw[hd.len];exact a),aV,hd.len]
  cases q:fr[i - (b d).length]? with
  |none=>rw[q]at h;cases h
  |some k=>
   rw[q]at h;have h:(U[k]?).join=aa e:=by simpa using h
   have c:U[k]?=aa (aa e):=by
    cases z:U[k]? with
    |none=>rw[z]at h;cases h
    |some o=>rw[z]at h;rw[show o=aa e from h]
   obtain⟨w,g,f⟩:=E.at_ k e c;exact⟨w,by simp[g],f⟩
def XU(K:Fg)(tg:ax)(a:Li Str)(b:D->Li (Ot D))(ds:Li D):Prop:=
 ∀ X:Cx,X.K=K->X.calm=ac->X.N.Nodup->(∀ (i:Nat) x,a[i]?=aa x->X.N[i]?=aa x)->(∀ y∈a,X.env.scope.names.lookup y=aa .local)->∀ (pQ:Li (Ad×Obj)) (s:Sd) (os fv:L2.St) (H:Hp) (ad:Li Ad) (v:V) (u:vL) (d:D),os.length=a.length->L2.Inv X pQ (os++fv) H s->RelV v u->Den K ad H v d->d∈ds->
  az (a0 X.prog X.w) X.A (assign tg X.env u) (λ_ c=>∃ bs,bs.length=a.length/\EnvOk K ad H bs (b d)/\L2.Inv X pQ (bs++fv) H c) X.xe s
variable{px:Pos}
def Vl{K:Fg}{x:Str}:XU K (.Name x px) [x] one ds:=by
 intro X w t k f j pQ s a l H ad v u d g I r n _;obtain⟨o,rfl⟩:∃ o,a=[o]:=by match a,g with|[o],_=>exact⟨o,rfl⟩
 have b:=j x Ls;have c:PG X (.Name x px) (gName 0):=pg_name k (f 0 x rfl) (.inl b) (.inr b);refine thn (c pQ s _ H v u (λO' H'=>O'=[aa v]++l/\H'=H) I r ⟨rfl,rfl⟩) λ_ q ⟨O',H',p,e,m⟩=>?_
 subst e;subst m
 exact⟨[aa v],rfl,⟨rfl,λi e h=>by
  cases i with
  |zero=>cases h;exact⟨v,rfl,n⟩
  |succ i=>exact nomatch (show(ab:Ot (Ot D))=aa (aa e) from h)⟩,p⟩
variable{py:Pos}
def Vm{K:Fg}{x y:Str}{k:Nat}{ds:Li D}(j:∀ d∈ds,∃ a b,d=.tup [a,b]):XU K (.Tuple [.Name x px,.Name y py] k tp) [x,y] two ds:=by
 intro X F C w q t pQ s l G H ad v u d A I r L B;obtain⟨o,g,rfl⟩:∃ o g,l=[o,g]:=by match l,A with|[o,g],_=>exact⟨o,g,rfl⟩
 obtain⟨a,b,rfl⟩:=j d B;have n:=t x Ls;have m:=t y (Lm _ Ls);have g1:PG X (.Name x px) (gName 0):=pg_name w (q 0 x rfl) (.inl n) (.inr n);have g2:PG X (.Name y py) (gName 1):=pg_name w (q 1 y rfl) (.inl m) (.inr m);have z:PG X (.Tuple [.Name x px,.Name y py] k tp) _:=pg_tup C (pgs_cons g1 (pgs_cons g2 pgs_nil))
 obtain⟨p,vs,rfl,E,rv⟩:=L.ofTup;cases rv with
 |cons N rv=>cases rv with
  |cons M rv=>
   cases rv;rename_i f c;refine thn (z pQ s _ H _ u (λO' H'=>O'=[aa f,aa c]++G/\H'=H) I r ⟨p,[f,c],rfl,by rw[F];exact E.sq,rfl,f,[c],rfl,c,[],rfl,rfl,rfl,rfl⟩) λ_ P ⟨O',H',O,e,J⟩=>?_
   subst e;subst J
   exact⟨[aa f,aa c],rfl,⟨rfl,λi e h=>by
    cases i with
    |zero=>cases h;exact⟨f,rfl,N⟩
    |succ i=>cases i with
     |zero=>cases h;exact⟨c,rfl,M⟩
     |succ i=>exact nomatch (show(ab:Ot (Ot D))=aa (aa e) from h)⟩,O⟩
def Q9{K:Fg}{x y z:Str}{m:Pos}{k:Nat}{ds:Li D}(t:∀ d∈ds,∃ a b c,d=.tup [a,b,c]):XU K (.Tuple [.Name x px,.Name y py,.Name z m] k tp) [x,y,z] ZaF ds:=by
 intro X N L w n q pQ s A P H ad v u d G I r R J;obtain⟨o,l,o2,rfl⟩:∃ o l o2,A=[o,l,o2]:=by match A,G with|[o,l,o2],_=>exact⟨o,l,o2,rfl⟩
 obtain⟨a,b,c,rfl⟩:=t d J;have E:=q x Ls;have C:=q y (Lm _ Ls);have B:=q z (Lm _ (Lm _ Ls));have g1:PG X (.Name x px) (gName 0):=pg_name w (n 0 x rfl) (.inl E) (.inr E);have g2:PG X (.Name y py) (gName 1):=pg_name w (n 1 y rfl) (.inl C) (.inr C);have O:PG X (.Name z m) (gName 2):=pg_name w (n 2 z rfl) (.inl B) (.inr B)
 have F:PG X (.Tuple [.Name x px,.Name y py,.Name z m] k tp) _:=pg_tup L (pgs_cons g1 (pgs_cons g2 (pgs_cons O pgs_nil)));obtain⟨p,vs,rfl,M,rv⟩:=R.ofTup;cases rv with
 |cons U rv=>cases rv with
  |cons T rv=>cases rv with
   |cons S rv=>
    cases rv;rename_i j g f;refine thn (F pQ s _ H _ u (λO' H'=>O'=[aa j,aa g,aa f]++P/\H'=H) I r ⟨p,[j,g,f],rfl,by rw[N];exact M.sq,rfl,j,[g,f],rfl,g,[f],rfl,f,[],rfl,rfl,rfl,rfl⟩) λ_ W ⟨O',H',V,e,Q⟩=>?_
    subst e;subst Q
    exact⟨[aa j,aa g,aa f],rfl,⟨rfl,λi e h=>by
     cases i with
     |zero=>cases h;exact⟨j,rfl,U⟩
     |succ i=>cases i with
      |zero=>cases h;exact⟨g,rfl,T⟩
      |succ i=>cases i with
       |zero=>cases h;exact⟨f,rfl,S⟩
       |succ i=>exact nomatch (show(ab:Ot (Ot D))=aa (aa e) from h)⟩,V⟩
variable{cl:Li (Str×Ad)}{ce cc:CE}{bd:D->Li (Ot D)}{J:It}{tn:Nat->bf->Prop}{Good:Li Ad->Hp->Prop}{ad2:Li Ad}{H2:Hp}{use:Ot (vL->Sem Unit)}{R0:vL->Sd->Prop}{st1:Za}
variable{sc:a7}
section
variable{xs:Li Str}
def Yp(h:Xs sc sc2 xs=ac):sc2.kind=.function/\(∀ p∈sc2.names,p.2≠.cell)/\(∀ x∈xs,sc2.names.lookup x=aa .local)/\(∀ p∈sc2.names,p.2=.local->sc2.names.lookup p.1=aa .local)/\(xs++ZN sc2).Nodup/\∀ y∈ZN sc2,VD sc y=ac/\sc2.names.lookup y=aa .free:=by
 unfold Xs at h;simp only[Ba,bF,cD,cG,eA,decide_eq_false_iff_not]at h;obtain⟨⟨⟨⟨⟨i,g⟩,f⟩,d⟩,c⟩,b⟩:=h;exact⟨i,g,f,λp a e=>(d p a).elim (λz=>ar e z) id,c,b⟩
def mem_frees{y:Str}:y∈ZN sc2↔(y,NameKind.free)∈sc2.names:=by
 unfold ZN;rw[aL];constructor
 .rintro⟨⟨n,k⟩,h,rfl⟩
  rw[dR]at h;have:k=.free:=am h.2;rw[<-this];exact h.1
 .intro h
  exact⟨(y,.free),dR.mpr ⟨h,by simp⟩,rfl⟩
theorem mem_of_lookup{y:Str}{k:NameKind}:∀ {l:Li (Str×NameKind)},l.lookup y=aa k->(y,k)∈l
 |[],h=>by cases h
 | (n,q) :: l,h=>by
  rw[cH]at h;split at h
  .rename_i e
   cases h;rw[beq_iff_eq.mp e];exact Ls
  .exact Lm _ (mem_of_lookup h)
def ZbX(c:Cxt X G F sc N)(b:Xs sc sc2 xs=ac){C:Ad}{s3:Sd}{H3:Hp}{fp:Li Ad}:Cxt (cxC X (xs++ZN sc2) (compEnvC sc2 cl C X.env) s3 H3 fp pQ) G F sc2 (xs++ZN sc2):=by
 obtain⟨i,d,h,g,f,e⟩:=Yp b;exact {
  hN:=rfl
  vis:=λy a=>by
   rcases ZdJ a with z|z|z
   .exact .inl (YU z (by intro q;cases q))
   .exact ar rfl (d _ (mem_of_lookup z))
   .rcases Y8 (env:=X.env) z with w|w
    .exact .inr (.inl w)
    .exact .inr (.inr w)
  glb:=λy a=>YU (Zac a) (by intro q;cases q)
  calm:=c.calm
  hu:=c.hu
  gl:=c.gl
  cel:=λy a=>by
   rcases J3 a with z|z
   .exact ar rfl (d _ (mem_of_lookup z))
   .exact Y8 z
  nx:=rfl }
def ZbT{ok:Za->Prop}{f c:D->Za->Res}{xs:Li D}{r:Li D×Za}(h:Z8 ok f c xs st=aa r):ok st:=by
 unfold Z8 at h;split at h
 .split at h
  .assumption
  .exact Zb h
 .split at h
  .assumption
  .exact Zb h
def evB(F:Nat->Fn)(c:CE)(b:D->Li (Ot D))(U:Env)(fr:Li Nat):D->Za->Res:=λd s=>ev F c (Yg b U fr d) s
inductive CI(X:Cx)(tn:Nat->bf->Prop)(fp:List Addr)(fv O:L2.St)(U:Env)(w:Nat)(ds:List D)(go:List D->Za->Option (List D×Za))(Good:List Addr->Hp->Prop)(dd:Addr)(ad2:List Addr)(H2:Hp)(st':Za)(ys:List D)(m:Nat)(s:Shared):Prop
 |mk (i:Nat) (o0:L2.St) (H:Hp) (ad:List Addr) (st:Za) (vs:List V) (es zs:List D) (him:i+m=ds.length) (hol:o0.length=w) (I:L2.Inv X [] (o0++fv) H s) (ti:tn i s.heap) (fi:∀ b∈fp,H b=ab) (En:EnvOk X.K ad H O U) (S:StOk X.K ad H st) (Gd:Good ad H) (nd:dd∉ad) (hv:H dd=aa (.lst vs)) (rv:Dens X.K ad H vs es) (hel:es.length<=i)
  (hcp:go (ds.drop i) st=aa (zs,st')) (hys:es++zs=ys) (ex:Ext ad2 H2 ad H):CI X tn fp fv O U w ds go Good dd ad2 H2 st' ys m s
def Za3(Kx:Cxt X G F sc2 N)(ihE:Zl G F n)(hce:cE G n sc2 N elt=aa ce)(hcc:(ifs=[]/\cc=.c (.bl ac))\/∃ e,ifs=[e]/\cE G n sc2 N e=aa cc){fp:Li Ad}{it:Ad}{ok:Za->Prop}(gm:∀ ad H ad' H',Ext ad H ad' H'->Good ad H->Good ad' H')(gw:∀ ad H p xs ys,H p=aa (.lst xs)->Good ad H->Good ad (upd H p (.lst ys)))(go:∀ i ad H st,Good ad H->StOk X.K ad H st->ok st->i < ds.length->J.go i H)(stop:∀ i ad H st,Good ad H->StOk X.K ad H st->ok st->ds.length=i->J.stop i H)(yl:∀ i ad H st v H',Good ad H->StOk X.K ad H st->ok st->J.yld i H v H'->i < ds.length->Ext ad H ad H'/\StOk X.K ad H' st/\∃ d,ds[i]?=aa d/\Den X.K ad H' v d)(T:Turn X.prog X.w X.K tg J fp it tn)(B:XU X.K tg xs bd ds)(hN:X.N.Nodup)(hx:∀ (i:Nat) x,xs[i]?=aa x->X.N[i]?=aa x)(hl:∀ y∈xs,X.env.scope.names.lookup y=aa .local)(exx:X.xe=λ_ _=>False)(fpk:∀ {H:Hp},(∀ b∈fp,H b=ab)->∀ b∈fp,FpOk X [] H b){fv:L2.St}(ec:∀ {ad H bs d},EnvOk X.K ad H O U->EnvOk X.K ad H bs (bd d)->EnvOk X.K ad H (bs++fv) (Yg bd U fr d)){dd:Ad}{ys:Li D}(D0:H2 dd=ab)(hz:ds.length<=1000){R:Result->Sd->Prop}(done:∀ s5 σ5 H ad vs,L2.Inv X [] σ5 H s5->StOk X.K ad H st'->dd∉ad->H dd=aa (.lst vs)->Dens X.K ad H vs ys->Ext ad2 H2 ad H->R (.ok .next) s5){s:Sd}{m:Nat}(h0:CI X tn fp fv O U xs.length ds (Z8 ok (evB F ce bd U fr) (evB F cc bd U fr)) Good dd ad2 H2 st' ys m s) :
  codeAny (a0 X.prog X.w) X.A (.compLoop (.ListComp elt [⟨tg,iter,ifs,0⟩] sc2 pos) 0 (.ref it) (.ref dd) X.env) R s:=by
 refine Qk _ (λm s h=>?_) m h0
 cases h with
 |mk i o0 H ad st vs es zs him hol I ti fi En S Gd nd hv rv hel a Z ex=>
 have W:=ZbT a;have none_of:∀ {E:vL->Sd->Prop}{α:Type}{t:Sem α}{R:α->Sd->Prop}{s0:Sd},az (a0 X.prog X.w) X.A t R X.xe s0->az (a0 X.prog X.w) X.A t R E s0:=λh=>by
  rw[exx]at h;exact bK h (λ_ _ q=>q) λ_ _ q=>q.elim
 by_cases hi:i < ds.length
 .refine thn (T.item X rfl rfl rfl Kx.calm i [] s _ H _ I (fpk fi) ti (go i ad H st Gd S W hi)) λr s5 ⟨u,hr,h5'⟩=>?_
  subst hr;refine thn h5' λ_ s6 ⟨v,H',I6,r6,y6,t6,f6⟩=>?_
  obtain⟨x6,S6,d,ed,dv⟩:=yl i ad H st v H' Gd S W y6 hi;have hd:ds.drop i=d :: ds.drop (i+1):=by
   rw[bX hi];rw[Lg hi]at ed;cases ed;rfl
  refine thn (none_of (B X rfl Kx.calm hN hx hl _ s6 o0 _ H' ad v u _ hol (I6.pinned (fpk f6) (T.obj _ _ t6)) r6 dv (aT ed))) λ_ s7 ⟨bs,lb,Eb,I7⟩=>?_
  have En6:=En.mono x6;have En7:=ec En6 Eb
  -- behind the item's turn
  have Y:∀ {M:Hp}{s9:Sd}{g:Li Ad}{st9:Za}{vs9:Li V}{es9 zs9:Li D},L2.Inv X ([]++pinsAt fp s6.heap) (bs++fv) M s9->StOk X.K g M st9->Good g M->dd∉g->M dd=aa (.lst vs9)->Dens X.K g M vs9 es9->es9.length<=i+1->
    Z8 ok (evB F ce bd U fr) (evB F cc bd U fr) (ds.drop (i+1)) st9=aa (zs9,st')->es9++zs9=ys->Ext ad2 H2 g M->EnvOk X.K g M O U->
    ∃ m',m' < m/\CI X tn fp fv O U xs.length ds (Z8 ok (evB F ce bd U fr) (evB F cc bd U fr)) Good dd ad2 H2 st' ys m' s9:=
   λI9 S9 G9 n9 v9 r9 l9 c9 y9 x9 e9=>
    have pk:=λb hb o e=>I9.pin (b,o) (cJ _ (cJ _ (mem_pinsAt hb e)))
    ⟨m - 1,by omega,.mk (i+1) bs _ _ _ _ _ _ (by omega) lb I9.unpinned (T.keep _ _ _ t6 λb hb o e=>(pk b hb o e).1) (λb hb=>let ⟨o,e,_⟩:=T.obj _ _ t6 b hb;(pk b hb o e).2.1) e9 S9 G9 n9 v9 r9 l9 c9 y9 x9⟩
  -- the L
  have L:∀ {k:Bool}{j:Za},evB F cc bd U fr d st=aa (.bl k,j)->∀ {R:Bool->Sd->Prop}{E:vL->Sd->Prop},(∀ s8 l f,L2.Inv X ([]++pinsAt fp s6.heap) (bs++fv) l s8->Ext ad H' f l->StOk X.K f l j->R k s8)->
    az (a0 X.prog X.w) X.A (forIn ifs ac λc r=>if r=ac then do let ok <-isTrue c X.env (eval c X.env);pure (ForInStep.yield ok) else pure (ForInStep.yield r)) R E s7:=λ{k j} q {R E} hR=>by
   rcases hcc with⟨rfl,rfl⟩|⟨e,rfl,he⟩
   .cases q
    exact wpAny_tests_nil (hR s7 H' ad I7 (Ext.refl _ _) S6)
   .refine wpAny_tests_one (thn (none_of ((ihE X sc2 _ Kx e cc he).pt _ s7 _ H' (λk' l=>k'=k/\∃ f,Ext ad H' f l/\StOk X.K f l j) I7 ⟨ad,Yg bd U fr d,st,k,j,En7,S6,q,λad' H' x S'=>⟨rfl,ad',x,S'⟩⟩)) λk' s8 ⟨l,I8,e8,f,C,S8⟩=>?_)
    subst e8;exact hR s8 l f I8 C S8
  have n8:∀ {f l},Ext ad H' f l->dd∉f:=λC z=>((x6.trans C).new dd z).elim nd λw=>by rw[hv]at w;cases w
  have v8:∀ {f l},Ext ad H' f l->l dd=aa (.lst vs):=λC=>(x6.trans C).keep dd _ hv nd
  have rv6:=rv.mono x6;have ex6:=ex.trans x6;have G6:=gm _ _ _ _ x6 Gd;clear x6 En Eb ex Gd S I hv rv;rw[hd]at a;unfold Z8 at a;rw[ao W]at a;split at a
  .rename_i j q1
   split at a
   .rename_i y st3 q2
    split at a
    .rename_i zs' st4 q3
     cases a;refine L q1 λs8 l f I8 C S8=>?_
     rw[ao rfl];refine thn (none_of ((ihE X sc2 _ Kx elt ce hce).pe _ s8 _ l (λv8 M=>∃ g,Ext f l g M/\StOk X.K g M st3/\Den X.K g M v8 y) I8 ⟨f,Yg bd U fr d,j,y,st3,En7.mono C,S8,q2,λv8 ad' H' x S' dn=>⟨ad',x,S',dn⟩⟩)) λu9 s9 ⟨v9,M,I9,r9,g,x9,S9,d9⟩=>?_
     have P:=C.trans x9;have Q:=v8 P;have hlen:vs.length=es.length:=rv6.length;refine thn (none_of (mt_append (X:=X) _ s9 _ M (.ref dd) [v9] (.ref dd) [u9] (λ_ H10=>H10=upd M dd (.lst (vs++[v9]))) I9 rfl (.cons r9 .nil) ⟨dd,vs,v9,rfl,rfl,Q,Nat.lt_of_le_of_lt (show vs.length<=1000 by omega) (by decide),rfl⟩)) λu10 s10 ⟨v10,H10,I10,r10,e10⟩=>?_
     subst e10;have nd9:=n8 P;exact Y (vs9:=vs++[v9]) (es9:=es++[y]) (zs9:=zs') I10 (S9.wr Q nd9) (gw _ _ _ _ _ Q (gm _ _ _ _ P G6)) nd9 upd_same (((rv6.mono P).append (.cons d9 .nil)).wr Q) (by rw[aI,eG];omega) q3 (by rw[<-Z,bV];rfl) ((ex6.trans P).wr Q D0) ((En6.mono P).wr Q)
    .exact Zb a
   .exact Zb a
  .rename_i j q1
   refine L q1 λs8 l f I8 C S8=>?_
   rw[aq Bf];exact Y I8 S8 (gm _ _ _ _ C G6) (n8 C) (v8 C) (rv6.mono C) (by omega) a Z (ex6.trans C) (En6.mono C)
  .exact Zb a
 .refine thn (T.done X rfl rfl rfl Kx.calm i [] s _ H _ I (fpk fi) ti (stop i ad H st Gd S W (by omega))) λr s5 ⟨hr,I5⟩=>?_
  subst hr;rw[List.drop_eq_nil_of_le (dW hi)]at a;unfold Z8 at a;rw[ao W]at a;cases a;rw[bG]at Z;subst Z;exact done s5 _ H ad vs I5 S nd hv rv ex
def Je(Kx:Cxt X G F sc N)(ihE:Zl G F n)(P:Xs sc sc2 xs=ac)(hfr:XE N (ZN sc2)=aa fr)(hce:cE G n sc2 (xs++ZN sc2) elt=aa ce)(hcc:(ifs=[]/\cc=.c (.bl ac))\/∃ e,ifs=[e]/\cE G n sc2 (xs++ZN sc2) e=aa cc)(c1:∀ y c,cl.lookup y=aa c->X.env.cells.lookup y=aa c)(c2:∀ y,(y,NameKind.free)∈sc2.names->(cl.lookup y).isSome){fp:Li Ad}{it:Ad}{ok:Za->Prop}(gm:∀ ad H ad' H',Ext ad H ad' H'->Good ad H->Good ad' H')(gw:∀ ad H p xs ys,H p=aa (.lst xs)->Good ad H->Good ad (upd H p (.lst ys)))(go:∀ i ad H st,Good ad H->StOk X.K ad H st->ok st->i < ds.length->J.go i H)(stop:∀ i ad H st,Good ad H->StOk X.K ad H st->ok st->ds.length=i->J.stop i H)(yl:∀ i ad H st v H',Good ad H->StOk X.K ad H st->ok st->J.yld i H v H'->i < ds.length->Ext ad H ad H'/\StOk X.K ad H' st/\∃ d,ds[i]?=aa d/\Den X.K ad H' v d){s2 s3:Sd}{dd:Ad}{h:bf}{ys:Li D}(B:XU X.K tg xs bd ds)(T:Turn X.prog X.w X.K tg J fp it tn)(t2:tn 0 s2.heap)(I:∀ b∈fp,FpOk X pQ H2 b)(fb:∀ b∈fp,b < dd)(E2:EnvOk X.K ad2 H2 O U)(S2:StOk X.K ad2 H2 st1)(g2:Good ad2 H2)(r:Z8 ok (λd s=>ev F ce (Yg bd U fr d) s) (λd s=>ev F cc (Yg bd U fr d) s) ds st1=aa (ys,st'))(hz:ds.length<=1000)(hp:Post X.K ad2 H2 (.lst st'.length) (st'++[(ac,ys)]) Q)(V:∀ C dd t H5 Z,t.heap.Ns C Z->(∀ h',Heap.SameBut C t.heap h'->L2.Inv X pQ O H5 { t with heap:=h' })->FpOk X pQ H5 C->Q (.ref dd) H5->compPost (a0 X.prog X.w) X.A X.xe use R0 (.ref dd) C (.ok .next) t)  (L:H2 dd=ab) (W:L2.Inv X pQ O (upd H2 dd (.lst [])) s3) (z3:s3.heap.objs.size=dd+1) (Y:dd∉ad2) (l:h.Ns s3.heap.objs.size m0) (up:∀ b u,s3.heap.get? b=aa u->h.get? b=aa u) (M:∀ b u,s2.heap.get? b=aa u->s3.heap.get? b=aa u) :
  codeAny (a0 X.prog X.w) X.A (.compStart (.ListComp elt [⟨tg,iter,ifs,0⟩] sc2 pos) 0 (.ref it) (.ref dd) (compEnvC sc2 cl s3.heap.objs.size X.env)) (compPost (a0 X.prog X.w) X.A X.xe use R0 (.ref dd) s3.heap.objs.size) { s3 with heap:=h,toks:=tk }:=by
 obtain⟨h1,h2,h3,h4,h5,h6⟩:=Yp P;have f3:∀ b∈fp,FpOk X pQ (upd H2 dd (.lst [])) b:=λb f=>⟨by rw[upd_ne (aW (fb b f))];exact(I b f).1,(I b f).2⟩
 obtain⟨fl,fg⟩:=VM hfr;have I4:=ZcB (N:=xs++ZN sc2) (cl:=cl) (fp:=fp) (tk:=tk) (O':=af xs.length ab++fr.map λi=>(O[i]?).join) W h1 h2 l up c1 (λy e=>c2 y (mem_of_lookup e)) f3 (λb f=>by rw[z3];exact Nat.lt_succ_of_lt (fb b f)) (λi y v e1 g=>by
  by_cases E:i < xs.length
  .rw[bS (by simpa using E),eE,ao E]at g;cases g
  .have E:xs.length<=i:=dW E
   rw[cB (by simpa using E),aV,cX]at g
   rw[cB E]at e1;cases q:fr[i - xs.length]? with
   |none=>rw[q]at g;cases g
   |some k=>
    rw[q]at g;have g:(O[k]?).join=aa v:=by simpa using g
    have e3:O[k]?=aa (aa v):=by
     cases w:O[k]? with
     |none=>rw[w]at g;cases g
     |some o=>rw[w]at g;rw[show o=aa v from g]
    obtain⟨y',g1,g2⟩:=fg _ k q;rw[e1]at g1;cases g1
    obtain⟨k1,k2⟩:=h6 y (aT e1);exact⟨k,by rw[Kx.hN];exact g2,e3,k2,Kx.cel y k1⟩) (by simp[fl])
 have K':=ZbX (cl:=cl) (C:=s3.heap.objs.size) (s3:=s3) (H3:=upd H2 dd (.lst [])) (fp:=fp) (pQ:=pQ) Kx P;have m:=Za3 (R:=compPost (a0 X.prog X.w) X.A X.xe use R0 (.ref dd) s3.heap.objs.size) (pos:=pos) (iter:=iter) K' ihE hce hcc gm gw go stop yl T B h5 (λi x e=>by show(xs++ZN sc2)[i]?=aa x;rw[bS (bP.mp e).1];exact e) (λy hy=>YU (h3 y hy) (by intro q;cases q)) rfl (λ{H} hn b f=>⟨hn b f,by
  show b≠s3.heap.objs.size;rw[z3];exact aW (Nat.lt_succ_of_lt (fb b f)),λhs=>(aF.mp (W.stkSub b hs)).elim (I b f).2.1 (I b f).2.2.1,.inl f,λy c e=>(I b f).2.2.2.2.1 y c (c1 _ _ e),λp hp=>(I b f).2.2.2.2.2 p (by simpa[cxC] using hp)⟩) (O:=O) (U:=U) (fr:=fr) (λa b=>Zb5 a b) (dd:=dd) (ad2:=ad2) (H2:=H2) (st':=st') (ys:=ys) L hz (λt σ5 H ad vs I5 S nd hv rv ex=>by
   obtain⟨Z,hn,_⟩:=I5.loc;refine V s3.heap.objs.size dd t H Z hn (λh' sb=>ZcA W rfl I5 sb f3) (W.fpOk (aE _) I5.free) (hp (.ref dd) (ad++[dd]) H ⟨λj a e=>YE (ex.pre j a e),ex.tup,ex.dk,ex.keep,λb f=>?_,ex.kd⟩ (S.adopt hv nd rv) (.lst ⟨by rw[<-S.len];exact Zo,WX hv rfl⟩))
   rcases bC.mp f with z|z
   .exact ex.new b z
   .rw[aM.mp z];exact .inr L)
  (.mk 0 (af xs.length ab) (upd H2 dd (.lst [])) ad2 st1 [] [] ys (bH _) (cX ..) I4 (T.keep _ _ _ t2 λb _ o e=>up b o (M b o e)) (λb f=>(f3 b f).1) (E2.mono (Ext.laid L)) (S2.laid L) (gm _ _ _ _ (Ext.laid L) g2) Y upd_same .nil (aE _) r rfl (Ext.laid L))
 exact codeAny_compStart_list m (T.self X.A 0 _ _ _ (T.keep _ _ _ t2 λb _ o e=>up b o (M b o e)) m)
def Za2(Kx:Cxt X G F sc N)(x:Zl G F n)(m:Xs sc sc2 xs=ac)(E:XE N (ZN sc2)=aa fr)(I:cE G n sc2 (xs++ZN sc2) elt=aa ce)(L:(ifs=[]/\cc=.c (.bl ac))\/∃ e,ifs=[e]/\cE G n sc2 (xs++ZN sc2) e=aa cc)(c1:∀ y c,cl.lookup y=aa c->X.env.cells.lookup y=aa c)(c2:∀ y,(y,NameKind.free)∈sc2.names->(cl.lookup y).isSome){M:Li Ad}{it:Ad}{ok:Za->Prop}(Good:Li Ad->Hp->Prop)(gm:∀ ad H ad' H',Ext ad H ad' H'->Good ad H->Good ad' H')(gw:∀ ad H p xs ys,H p=aa (.lst xs)->Good ad H->Good ad (upd H p (.lst ys)))(go:∀ i ad H st,Good ad H->StOk X.K ad H st->ok st->i < ds.length->J.go i H)(stop:∀ i ad H st,Good ad H->StOk X.K ad H st->ok st->ds.length=i->J.stop i H)(Y:∀ i ad H st v H',Good ad H->StOk X.K ad H st->ok st->J.yld i H v H'->i < ds.length->Ext ad H ad H'/\StOk X.K ad H' st/\∃ d,ds[i]?=aa d/\Den X.K ad H' v d){g:Sd}{ys:Li D}(P:L2.Inv X pQ O H2 g)(B:XU X.K tg xs bd ds)(T:Turn X.prog X.w X.K tg J M it tn)(S:tn 0 g.heap)(f2:∀ b∈M,FpOk X pQ H2 b)(E2:EnvOk X.K ad2 H2 O U)(W:StOk X.K ad2 H2 st1)(g2:Good ad2 H2)(j:Z8 ok (λd s=>ev F ce (Yg bd U fr d) s) (λd s=>ev F cc (Yg bd U fr d) s) ds st1=aa (ys,st'))(hz:ds.length<=1000)(hp:Post X.K ad2 H2 (.lst st'.length) (st'++[(ac,ys)]) Q)(q:∀ C dd t R Z,t.heap.Ns C Z->(∀ h',Heap.SameBut C t.heap h'->L2.Inv X pQ O R { t with heap:=h' })->FpOk X pQ R C->Q (.ref dd) R->compPost (a0 X.prog X.w) X.A X.xe use R0 (.ref dd) C (.ok .next) t) :
  az (a0 X.prog X.w) X.A (newList []) (λr l=>az (a0 X.prog X.w) X.A (newFunctionEnv sc2 X.env.globals cl [] X.env.qual ab .none (aa X.env)) (λh k=>
   codeAny (a0 X.prog X.w) X.A (.compStart (.ListComp elt [⟨tg,iter,ifs,0⟩] sc2 pos) 0 (.ref it) r { h with scope:=relabel sc2 X.env }) (compPost (a0 X.prog X.w) X.A X.xe use R0 r h.locals) k) X.xe l) X.xe g:=by
 obtain⟨h1,h2,h3,h4,h5,h6⟩:=Yp m;have fb:∀ b∈M,b < g.heap.objs.size:=λb hb=>let ⟨o,e,_⟩:=T.obj 0 _ S b hb;aJ e
 refine wpAny_newObj_type (wpAny_newFunctionEnv h2 (by intro y hy;simp at hy) (λV f a=>?_) h1)
 dsimp only at f a ⊢;have I3:L2.Inv X pQ O (upd H2 g.heap.objs.size (.lst [])) { g with heap:=g.heap.push { cls:=.type "list",dict:=ab,data:=.seq ([]:Li vL).toArray } }:=P.lnew (its:=[]) (t':=g.toks) .nil (aS _)
 have e3:g.heap.push { cls:=.type "list",dict:=ab,data:=.seq ([]:Li vL).toArray }=({ g with heap:=g.heap.push { cls:=.type "list",dict:=ab,data:=.seq ([]:Li vL).toArray } }:Sd).heap:=rfl
 exact Je Kx x m E I L c1 c2 gm gw go stop Y B T S f2 fb E2 W g2 j hz hp q (P.hok.fresh (aE _)) I3 (Heap.size_push ..) (λz=>ar (W.lt P z) (bZ _)) f (λb u e=>a.extBut b u (aW (aJ e)) (aO _ e)) (λb u e=>aO _ e)
end
variable [ClsTab]
def QU(X:Cx)(O:L2.St)(U:Env)(ds:Li D)(ok:Za->Prop)(st1 a:Za)(ys:Li D)(Q:VK)(J:It)(b:Hp):Prop:=
 ∃ (ad1:Li Ad) (Good:Li Ad->Hp->Prop),(∀ ad H ad' H',Ext ad H ad' H'->Good ad H->Good ad' H')/\(∀ ad H p c ys,H p=aa (.lst c)->Good ad H->Good ad (upd H p (.lst ys))) /\
  (∀ i ad H st,Good ad H->StOk X.K ad H st->ok st->i < ds.length->J.go i H)/\(∀ i ad H st,Good ad H->StOk X.K ad H st->ok st->ds.length=i->J.stop i H)/\(∀ i ad H st v H',Good ad H->StOk X.K ad H st->ok st->J.yld i H v H'->i < ds.length->Ext ad H ad H'/\StOk X.K ad H' st/\∃ d,ds[i]?=aa d/\Den X.K ad H' v d) /\
  EnvOk X.K ad1 b O U/\StOk X.K ad1 b st1/\Good ad1 b/\Post X.K ad1 b (.lst a.length) (a++[(ac,ys)]) Q
variable{st2:Za}
def Vt{ys:Li D}{f:Ev}(E:EnvOk X.K ad H O U)(S:StOk X.K ad H st)(q:f U st=aa (.tup ds,st1))(p:Post X.K ad H (.lst st2.length) (st2++[(ac,ys)]) Q) :
  iTup X.K (tE X.K f) O H (QU X O U ds (λ_=>True) st1 st2 ys Q):=by
 refine⟨ad,U,st,.tup ds,st1,E,S,q,λv c o d n m=>?_⟩
 obtain⟨a,vs,rfl,j,rv⟩:=m.ofTup;refine⟨a,rfl,⟨vs,(j).sq⟩,c,λad H=>TupAt X.K H a vs/\Dens X.K ad H vs ds,λ_ _ _ _ x g=>⟨g.1.mono x,g.2.mono x⟩,λ_ H p k ys h g=>⟨g.1.upd h (by intro k z;cases z),g.2.wr h⟩,λi ad H st g _ _ b=>?_,λi ad H st g _ _ b=>⟨vs,(g.1).sq,by rw[g.2.length];exact dA b⟩,
  λi ad H st v H' g S _ y b=>?_,E.mono d,n,⟨j,rv⟩,p.later d⟩
 .obtain⟨v,e,_⟩:=g.2.get (Lg b)
  exact⟨vs,v,(g.1).sq,e⟩
 .obtain⟨w,e,l⟩:=g.2.get (Lg b)
  have:=y.2 vs ((g.1).sq);rw[e]at this;cases this
  cases y.1;exact⟨Ext.refl _ _,S,_,Lg b,l⟩
def ZbS{n:Int}{ys:Li D}{f:Ev}(e:n < 2 ^ 62/\-(2 ^ 62)<=n)(E:EnvOk X.K ad H O U)(S:StOk X.K ad H st)(q:f U st=aa (.int n,st1))(p:Post X.K ad H (.lst st2.length) (st2++[(ac,ys)]) Q) :
  iRng1 (tCons (tE X.K f) tNil) O H (QU X O U ((ag n.toNat).map λ(k:Nat)=>D.int (k:Int)) (λ_=>True) st1 st2 ys Q):=by
 refine⟨ad,U,st,.int n,st1,E,S,q,λv c j d h g=>?_⟩
 cases g.ofInt;refine⟨n,rfl,e.2,e.1,c,λ_ _=>True,λ_ _ _ _ _ _=>trivial,λ_ _ _ _ _ _ _=>trivial,λi ad H st _ _ _ a=>(show i < n.toNat by simpa using a),λi ad H st _ _ _ a=>(show n.toNat<=i by simpa using dA a),λi ad H st v H' _ S _ y a=>?_,E.mono d,h,trivial,p.later d⟩
 cases y.1;have b:i < n.toNat:=by simpa using a
 refine⟨Ext.refl _ _,S,.int (i:Int),?_,?_⟩
 .rw[aV,List.getElem?_range b];rfl
 .rw[y.2,Int.zero_add];exact .int _
def Qi{c:Xg}{ys:Li D}{f:Ev}(E:EnvOk X.K ad H O U)(S:StOk X.K ad H st)(q:f U st=aa (.lst l,st1))(m:st1[l]?=aa c)(p:Post X.K ad H (.lst st2.length) (st2++[(ac,ys)]) Q) :
  iList X.K (tE X.K f) O H (QU X O U c.2 (λs=>s[l]?=aa c) st1 st2 ys Q):=by
 refine⟨ad,U,st,.lst l,st1,E,S,q,λv d r h k o=>?_⟩
 obtain⟨a,rfl,j⟩:=o.ofLst;obtain⟨vs,rv,sq⟩:=k.list j (show st1[l]?=aa (c.1,c.2) from m);refine⟨a,rfl,⟨vs,sq⟩,d,λad H=>LA ad H l a,λ_ _ _ _ x g=>g.mono x,λ_ _ _ _ _ e g=>⟨g.1,λz=>g.2 ((VI e).mpr z)⟩,λi ad H st g S e b=>?_,λi ad H st g S e b=>?_,λi ad H st v H' g S e y b=>?_,E.mono h,k,j,p.later h⟩
 .obtain⟨vs,rv,sq⟩:=S.list g (show st[l]?=aa (c.1,c.2) from e)
  obtain⟨v,e,_⟩:=rv.get (Lg b);exact⟨vs,v,sq,e⟩
 .obtain⟨vs,rv,sq⟩:=S.list g (show st[l]?=aa (c.1,c.2) from e)
  exact⟨vs,sq,by rw[rv.length];exact dA b⟩
 .obtain⟨vs,rv,sq⟩:=S.list g (show st[l]?=aa (c.1,c.2) from e)
  obtain⟨w,e,n⟩:=rv.get (Lg b);have:=y.2 vs sq;rw[e]at this;cases this
  cases y.1;exact⟨Ext.refl _ _,S,_,Lg b,n⟩
theorem Ur:∀ {es vs:Li D},XI es=aa vs->vs.length=es.length/\∀ (i:Nat) (k:D) (j:Nat),es[i]?=aa (.tup [k,.lst j])->vs[i]?=aa (.lst j)
 |[],vs,h=>by cases h;exact⟨rfl,λi k j h=>by simp at h⟩
 |e :: es,vs,h=>by
  unfold XI at h;split at h
  .rename_i z;cases z
  .rename_i b c r z
   cases z;cases q:XI es with
   |none=>rw[q]at h;cases h
   |some a=>
    rw[q]at h;cases h;obtain⟨l,g⟩:=Ur q;refine⟨au (·+1) l,λi k j h=>?_⟩
    cases i with
    |zero=>cases h;rfl
    |succ i=>exact g i k j h
  .exact Zb h
def EntN.get{K:Fg}{a:Li (D×Ad×Ad)}(r:EntN K ad H a ds):∀ (i:Nat) (e:D×Ad×Ad),a[i]?=aa e->∃ j,ds[i]?=aa (.tup [e.1,.lst j])/\LA ad H j e.2.2:=by
 induction r with
 |nil=>exact λi e h=>by simp at h
 |cons h ok l r b=>
  intro i e q;cases i with
  |zero=>cases q;exact⟨_,rfl,l⟩
  |succ i=>exact b i e q
variable{F:Nat->Fn}
def Za0{m:D}{ok:Za->Prop}{ys:Li D}(E:EnvOk X.K ad H O U)(S:StOk X.K ad H st)(q:ZT fa (ev F .aN) Zdn U st=aa (m,st1))(h:Xf ae m st1=aa (ds,ok))(p:Post X.K ad H (.lst st2.length) (st2++[(ac,ys)]) Q) :
  ZfJ (tE X.K fa) O H (QU X O U ds ok st1 st2 ys Q):=by
 unfold ZT at q;split at q
 .rename_i L s1 N
  have q:Zdn L (.tup []) s1=aa (m,st1):=q;cases L with
  |dic a=>
   have q:(match s1[a]? with
    |some (ac,.non :: es)=>(XI es).map λvs=>(D.dct [] (.dic a :: vs),s1)
    |_=>ab)=aa (m,st1):=q
   split at q
   .rename_i es C
    cases r:XI es with
    |none=>rw[r]at q;cases q
    |some vs=>
     rw[r]at q;cases q;have h:(match st1[a]? with
      |some c=>aa (vs,λs=>s[a]?=aa c)
      |none=>ab)=aa (ds,ok):=h
     rw[C]at h;cases h;obtain⟨lv,V⟩:=Ur r;refine⟨ad,U,st,.dic a,st1,E,S,N,λv u H1 A M Z=>?_⟩
     obtain⟨g,rfl,J,G⟩:=Z.ofDic;obtain⟨o,⟨B,_⟩,T,_⟩:=M.dicN J G C;have f:∀ (ad:Li Ad) (H:Hp) (st:Za),(ad[a]?=aa g/\Z4 H g)->StOk X.K ad H st->st[a]?=aa (ac,.non :: es)->∃ b,EntN X.K ad H b es/\H g=aa (.dN (Yq b))/\b.length=o.length:=λad H st d S e=>by
      obtain⟨b,⟨n,_⟩,t,_⟩:=S.dicN d.1 d.2 e;exact⟨b,n,t,by rw[n.length,B.length]⟩
     have ln:ds.length=o.length:=by rw[lv,B.length]
     refine⟨g,o,rfl,T,u,λad H=>ad[a]?=aa g/\Z4 H g,λ_ _ _ _ x z=>⟨x.pre _ _ z.1,(x.kd _ _ z.1).mp z.2⟩,λ_ _ _ _ _ e z=>⟨z.1,(VI e).mp z.2⟩,λi ad H st d S e I=>?_,λi ad H st d S e I=>?_,λi ad H st v H' d S e y I=>?_,E.mono A,M,⟨J,G⟩,p.later A⟩
     .obtain⟨b,_,l,k⟩:=f ad H st d S e
      exact⟨by omega,b,l,k⟩
     .obtain⟨b,_,l,k⟩:=f ad H st d S e
      exact⟨by omega,b,l,k⟩
     .obtain⟨b,n,l,k⟩:=f ad H st d S e
      obtain⟨Y,W⟩:=y;obtain⟨w,h,rfl⟩:=W b l k;obtain⟨j,R,P⟩:=n.get i w h;cases Y;exact⟨Ext.refl _ _,S,_,V i _ j R,.lst P⟩
   .exact Zb q
  |_=>exact Zb q
 .exact Zb q
def JR{x:ax}(h:Ve it=aa x):∃ y p ap cp,it=.Call (.Attribute (.Name y p) "values" ap) [] [] cp/\x=.Name y p/\(ap.endLine==cp.line)=ac:=by
 unfold Ve at h;split at h
 .refine XC h λa b=>?_
  obtain⟨e,l⟩:=a;subst e;exact⟨_,_,_,_,rfl,(av b).symm,l⟩
 .exact Zb h
theorem Ub:∀ {a:Li D}{k i:Nat},(Xd k a)[i]?=(a[i]?).map λx=>.tup [.int ((k+i:Nat):Int),x]
 |[],_,_=>rfl
 |x :: a,k,0=>rfl
 |x :: a,k,i+1=>by
  show(Xd (k+1) a)[i]?=_;rw[Ub,show k+1+i=k+(i+1) by omega]
  rfl
theorem XO:∀ {a:Li D}{k:Nat},(Xd k a).length=a.length
 |[],_=>rfl
 |x :: a,k=>au (·+1) XO
theorem WE:∀ {c:Li D}{k:Nat},∀ d∈Xd k c,∃ a b,d=.tup [a,b]
 |[],_,_,h=>nomatch h
 |x :: c,k,d,h=>by
  rcases aF.mp h with rfl|h
  .exact⟨_,_,rfl⟩
  .exact WE d h
def ZaZ{x:D}{ok:Za->Prop}{ys:Li D}{f:Ev}(E:EnvOk X.K ad H O U)(S:StOk X.K ad H st)(q:f U st=aa (x,st1))(j:QR x st1=aa (ds,ok))(p:Post X.K ad H (.lst st2.length) (st2++[(ac,ys)]) Q) :
  Zad X.K (tCons (tE X.K f) tNil) O H (QU X O U ds ok st1 st2 ys Q):=by
 have k:∀ {sq:Hp->Li V->Prop}{d:Li D}{ok:Za->Prop}{b:Li Ad}{m:Hp} (Good:Li Ad->Hp->Prop),(∀ ad H ad' H',Ext ad H ad' H'->Good ad H->Good ad' H')->(∀ ad H p d ys,H p=aa (.lst d)->Good ad H->Good ad (upd H p (.lst ys)))->Good b m->
   (∀ ad H st,Good ad H->StOk X.K ad H st->ok st->∃ vs,Dens X.K ad H vs d/\sq H vs)->EnvOk X.K b m O U->StOk X.K b m st1->Post X.K b m (.lst st2.length) (st2++[(ac,ys)]) Q->QU X O U (Xd 0 d) ok st1 st2 ys Q (Ite sq) m:=
  λ{sq d ok b m} Good J I g1 t M o F=>by
   refine⟨b,Good,J,I,λi ad H st g S e h=>?_,λi ad H st g S e h=>?_,λi ad H st v H' g S e y h=>?_,M,o,g1,F⟩
   .rw[XO]at h
    obtain⟨vs,rv,sq⟩:=t ad H st g S e;obtain⟨v,e,_⟩:=rv.get (Lg h);exact⟨vs,v,sq,e⟩
   .rw[XO]at h
    obtain⟨vs,rv,sq⟩:=t ad H st g S e;exact⟨vs,sq,by rw[rv.length];exact h⟩
   .rw[XO]at h
    obtain⟨vs,rv,sq⟩:=t ad H st g S e;obtain⟨w,e,L⟩:=rv.get (Lg h);obtain⟨T,x,rfl,A,rfl,G⟩:=y;have:=G vs sq;rw[e]at this;cases this
    refine⟨Ext.laid A,S.laid A,_,by rw[Ub,Lg h];rfl,.tup (.inl upd_same) (.cons ?_ (.cons (L.mono (Ext.laid A)) .nil))⟩
    rw[bH];exact .int _
 refine⟨ad,U,st,x,st1,E,S,q,λv b m r o C=>?_⟩
 cases x with
 |tup d=>
  cases j;obtain⟨a,vs,rfl,n,rv⟩:=C.ofTup;exact⟨a,rfl,.inr ⟨⟨vs,n.sq⟩,k (λad H=>TupAt X.K H a vs/\Dens X.K ad H vs d) (λ_ _ _ _ x g=>⟨g.1.mono x,g.2.mono x⟩) (λ_ H p d ys B g=>⟨g.1.upd B (by intro d z;cases z),g.2.wr B⟩) ⟨n,rv⟩ (λad H st g _ _=>⟨vs,g.2,g.1.sq⟩) (E.mono r) o (p.later r)⟩⟩
 |lst l=>
  have j:(match st1[l]? with
   |some c=>aa (Xd 0 c.2,λs=>s[l]?=aa c)
   |none=>ab)=aa (ds,ok):=j
  cases u:st1[l]? with
  |none=>rw[u]at j;cases j
  |some c=>
   rw[u]at j;cases j;obtain⟨a,rfl,n⟩:=C.ofLst;obtain⟨vs,rv,sq⟩:=o.list n (show st1[l]?=aa (c.1,c.2) from u);exact⟨a,rfl,.inl ⟨⟨vs,sq⟩,k (λad H=>LA ad H l a) (λ_ _ _ _ x g=>g.mono x) (λ_ _ _ _ _ e g=>⟨g.1,λz=>g.2 ((VI e).mpr z)⟩) n (λad H st g S e=>S.list g (show st[l]?=aa (c.1,c.2) from e)) (E.mono r) o (p.later r)⟩⟩
 |_=>exact Zb j
def Zbm{x:D}{ds:Li D}{ok:Za->Prop}(h:QR x st=aa (ds,ok)):∀ d∈ds,∃ a b,d=.tup [a,b]:=by
 cases x with
 |tup c=>cases h;exact WE
 |lst l=>
  unfold QR at h;simp only at h;split at h
  .cases h;exact WE
  .exact Zb h
 |_=>exact Zb h
def Zdh{ds:Li D}(e:ds.all ZcD=ac):∀ d∈ds,∃ a b,d=.tup [a,b]:=λd c=>by
 have:=cD.mp e d c;unfold ZcD at this;split at this
 .exact⟨_,_,rfl⟩
 .cases this
def Zbn{x:D}{ds:Li D}{ok:Za->Prop}(h:VX x st=aa (ds,ok)):((x=.tup ds/\ok=λ_=>True)\/∃ l c,x=.lst l/\st[l]?=aa c/\ds=c.2/\ok=λs=>s[l]?=aa c)/\∀ d∈ds,∃ a b,d=.tup [a,b]:=by
 unfold VX at h;split at h
 .split at h
  .rename_i e
   cases h;exact⟨.inl ⟨rfl,rfl⟩,Zdh e⟩
  .exact Zb h
 .split at h
  .rename_i c f
   split at h
   .rename_i e
    cases h;exact⟨.inr ⟨_,c,rfl,f,rfl,rfl⟩,Zdh e⟩
   .exact Zb h
  .exact Zb h
 .exact Zb h
def Zbk{d:Li Str}(h:tgN tg=aa d):(∃ x px,tg=.Name x px/\d=[x])\/(∃ x y px py k tp,tg=.Tuple [.Name x px,.Name y py] k tp/\d=[x,y])\/∃ x y z px py g k tp,tg=.Tuple [.Name x px,.Name y py,.Name z g] k tp/\d=[x,y,z]:=by
 unfold tgN at h;split at h
 .cases h;exact .inl ⟨_,_,rfl,rfl⟩
 .rename_i es k tp
  have nm:∀ {e:ax}{x:Str},nmE e=aa x->∃ p,e=.Name x p:=λ{e x} h=>by
   unfold nmE at h;split at h
   .cases h;exact⟨_,rfl⟩
   .exact Zb h
  cases es with
  |nil=>exact Zb h
  |cons a es=>cases es with
   |nil=>exact Zb h
   |cons b es=>cases es with
    |cons c es=>cases es with
     |cons _ _=>exact Zb h
     |nil=>
      refine XB (P:=λd=>_\/_\/∃ x y z px py g i f,Expr.Tuple [a,b,c] k tp=.Tuple [.Name x px,.Name y py,.Name z g] i f/\d=[x,y,z]) h λx y z l j m=>?_
      obtain⟨px,rfl⟩:=nm l;obtain⟨py,rfl⟩:=nm j;obtain⟨g,rfl⟩:=nm m;exact .inr (.inr ⟨x,y,z,px,py,g,k,tp,rfl,rfl⟩)
    |nil=>
     refine Z0 (P:=λd=>_\/(∃ x y px py i f,Expr.Tuple [a,b] k tp=.Tuple [.Name x px,.Name y py] i f/\d=[x,y])\/_) h λx y l j=>?_
     obtain⟨px,rfl⟩:=nm l;obtain⟨py,rfl⟩:=nm j;exact .inr (.inl ⟨x,y,px,py,k,tp,rfl,rfl⟩)
 .exact Zb h
inductive CSh(G:Gs)(n:Nat)(sc:a7)(N:List Str)(elt:ax)(sc2:a7):List Comprehension->CE->Prop
 |mk {tg it:ax}{ifs:List ax}{xs:List Str}{fr:List Nat}{r:Option (Option Bool)}{ci ce cc:CE} (htg:tgN tg=aa xs) (hsc:Xs sc sc2 xs=ac) (hfr:XE N (ZN sc2)=aa fr) (hi:itC G sc it (cE G n sc N) xs=aa (r,ci)) (hce:cE G n sc2 (xs++ZN sc2) elt=aa ce) (hcc:(ifs=[]/\cc=.c (.bl ac))\/∃ e,ifs=[e]/\cE G n sc2 (xs++ZN sc2) e=aa cc):CSh G n sc N elt sc2 [⟨tg,it,ifs,0⟩] (mkC xs.length r fr ci ce cc)
def Zea{G:Gs}{c:CE}(h:cE G (n+1) sc N (.ListComp elt gens sc2 pos)=aa c):CSh G n sc N elt sc2 gens c:=by
 replace h:ZfC G sc sc2 N (cE G n sc N) (cE G n sc2) elt gens=aa c:=h;have no:∀ {P:Prop},(ab:Ot CE)=aa c->P:=λz=>nomatch z
 cases gens with
 |nil=>exact no h
 |cons g gs=>
  obtain⟨tg,it,ifs,k⟩:=g;cases k with
  |negSucc _=>cases gs<;>exact no h
  |ofNat m=>cases m with
   |succ _=>cases gs<;>exact no h
   |zero=>cases gs with
    |cons _ _=>exact no h
    |nil=>
     replace h:(match tgN tg with
      |none=>ab
      |some b=>og (Xs sc sc2 b=ac) (o3 (λfr p (q:CE×CE)=>mkC b.length p.1 fr p.2 q.1 q.2) (XE N (ZN sc2)) (itC G sc it (cE G n sc N) b) (o2 Prod.mk (cE G n sc2 (b++ZN sc2) elt) (ifC (cE G n sc2 (b++ZN sc2)) ifs))))=aa c:=h
     cases d:tgN tg with
     |none=>rw[d]at h;cases h
     |some b=>
      rw[d]at h;refine XC h λf h=>XB (P:=CSh G n sc N elt sc2 _) h λfr p q i r o=>Z0 (P:=λq:CE×CE=>CSh G n sc N elt sc2 _ (mkC b.length p.1 fr p.2 q.1 q.2)) o λce cc j e=>.mk d f i r j ?_
      cases ifs with
      |nil=>cases e;exact .inl ⟨rfl,rfl⟩
      |cons a l=>cases l with
       |nil=>exact .inr ⟨a,rfl,e⟩
       |cons _ _=>exact Zb e
inductive CR(b:D->List (Option D))(w:D->Za->Option (List D×(Za->Prop)))(fr:List Nat)(fi fe fc:Ev)(U:Env)(st:Za):D->Za->Prop
 |mk {x:D}{st1 st2:Za}{ds ys:List D}{ok:Za->Prop} (q1:fi U st=aa (x,st1)) (q2:w x st1=aa (ds,ok)) (hz:ds.length<=1000) (q3:Z8 ok (λd s=>fe (Yg b U fr d) s) (λd s=>fc (Yg b U fr d) s) ds st1=aa (ys,st2)):CR b w fr fi fe fc U st (.lst st2.length) (st2++[(ac,ys)])
def Ys{b:D->Li (Ot D)}{w:D->Za->Ot (Li D×(Za->Prop))}{a c f:Ev}(e:YZ b w fr a c f U st=aa (d,st')):CR b w fr a c f U st d st':=by
 unfold YZ at e;split at e
 .split at e
  .split at e
   .split at e
    .cases e;exact .mk ‹_› ‹_› ‹_› ‹_›
    .exact Zb e
   .exact Zb e
  .exact Zb e
 .exact Zb e
inductive CIt(X:Cx)(pQ:List (Addr×Obj))(s:Shared)(O:L2.St)(U:Env)(tg it:ax)(xs:List Str)(F:Nat->Fn)(fr:List Nat)(ce cc:CE)(Q:VK):Prop
 |mk {bd:D->List (Option D)}{ds:List D}{ok:Za->Prop}{st1 st2:Za}{ys:List D} (B:XU X.K tg xs bd ds) (hz:ds.length<=1000) (q3:Z8 ok (λd s=>ev F ce (Yg bd U fr d) s) (λd s=>ev F cc (Yg bd U fr d) s) ds st1=aa (ys,st2)) (hp:Zg it=ac) (pi:az (a0 X.prog X.w) X.A (eval it X.env) (λv s1=>az (a0 X.prog X.w) X.A (pyIter v) (PIE X pQ O tg (QU X O U ds ok st1 st2 ys Q)) X.xe s1) X.xe s):CIt X pQ s O U tg it xs F fr ce cc Q
def XQ{f:α->β}{o:Ot α}{b:β}(h:o.map f=aa b):∃ a,o=aa a/\f a=b:=by
 cases o with
 |none=>exact Zb h
 |some a=>exact⟨a,rfl,by cases h;rfl⟩
def Zd8{G:Gs}(h:Zl G F n)(o:Cxt X G F sc N){t:Li Str}{r:Ot (Ot Bool)}{C:CE}(P:tgN tg=aa t)(g:itC G sc it (cE G n sc N) t=aa (r,C)){s:Sd}(I:L2.Inv X pQ O H s)(E:EnvOk X.K ad H O U)(S:StOk X.K ad H st)(e:ev F (mkC t.length r fr C ce cc) U st=aa (d,st'))(p:Post X.K ad H d st' Q):CIt X pQ s O U tg it t F fr ce cc Q:=by
 rcases Zbk P with⟨x,px,rfl,rfl⟩|⟨x,y,px,py,k,tp,rfl,rfl⟩|⟨x,y,z,px,py,pz,k,tp,rfl,rfl⟩
 .replace g:(match ZS G sc it with
   |some a=>(cE G n sc N a).map λc=>(aa (aa ac),c)
   |none=>match Ve it with
    |some x=>(cE G n sc N x).map λc=>(aa (aa ae),.rng2 c .aN)
    |none=>(cE G n sc N it).map λc=>(aa (aa ae),c))=aa (r,C):=g
  split at g
  .rename_i a Y
   obtain⟨J,q,g⟩:=XQ g;cases g;obtain⟨R,M⟩:=WR (tg:=.Name x px) o Y (Zd q) (h X sc N o a _ q).pe;cases Ys e with
   |@mk A st1 st2 ds ys ok i f m j=>
    refine .mk Vl m j R (M pQ s O H _ I ?_);cases A with
    |int k=>
     have f:(match (if k < 2 ^ 62/\-(2 ^ 62)<=k then aa ((ag k.toNat).map λ(k:Nat)=>D.int (k:Int)) else ab) with
      |some t=>aa (t,λ_=>True)
      |none=>ab)=aa (ds,ok):=f
     by_cases W:k < 2 ^ 62/\-(2 ^ 62)<=k
     .rw[ao W]at f
      cases f;exact ZbS W E S i p
     .rw[aq W]at f
      cases f
    |_=>exact Zb f
  .split at g
   .rename_i y hy
    obtain⟨J,q,g⟩:=XQ g;cases g;obtain⟨y,yp,ap,cp,rfl,rfl,T⟩:=JR hy;cases Ys e with
    |@mk A st1 st2 ds ys ok i f m j=>exact .mk Vl m j rfl (ZeR (h X sc N o _ _ q).pe rfl T pQ s O H _ I (Za0 E S i f p))
   .obtain⟨J,q,g⟩:=XQ g
    cases g;cases Ys e with
    |@mk A st1 st2 ds ys ok i f m j=>
     refine .mk Vl m j (Zd q) ?_;cases A with
     |tup t=>cases f;exact pi_tup (h X sc N o it _ q).pe pQ s O H _ I (Vt E S i p)
     |lst l=>
      have f:(match st1[l]? with
       |some c=>aa (c.2,λs=>s[l]?=aa c)
       |none=>ab)=aa (ds,ok):=f
      cases B:st1[l]? with
      |none=>rw[B]at f;cases f
      |some c0=>
       rw[B]at f;cases f;exact pi_list (h X sc N o it _ q).pe pQ s O H _ I (Qi E S i B p)
     |str z=>exact Zb f
     |dct ks vs=>
      have no:∀ {v:V}{u:Li Ad}{L:Hp},Den X.K u L v (.dct ks vs)->False:=λ{v u L} Z=>by
       obtain⟨a,ws,_,_,T,r⟩:=Z.ofDct;cases ks with
       |cons _ _=>exact Zb f
       |nil=>
        cases ws with
        |cons _ _=>cases T
        |nil=>cases r;cases f
      exact thn ((h X sc N o it _ q).pe pQ s O H (λ_ _=>False) I ⟨ad,U,st,_,st1,E,S,i,λv u L x1 S1 Z=>no Z⟩) λv s1 ⟨x,L,I1,r1,z⟩=>z.elim
     |_=>exact Zb f
 .replace g:(match XN G sc it with
   |some a=>(cE G n sc N a).map λc=>(aa ab,c)
   |none=>(cE G n sc N it).map λc=>(ab,c))=aa (r,C):=g
  split at g
  .rename_i a Y
   obtain⟨J,q,g⟩:=XQ g;cases g;cases Ys e with
   |mk i f m j=>
    obtain⟨R,M⟩:=Vy (elts:=[.Name x px,.Name y py]) (kk:=k) (tp:=tp) o Y (Zd q) (h X sc N o a _ q).pe;exact .mk (Vm (Zbm f)) m j R (M pQ s O H _ I (ZaZ E S i f p))
  .obtain⟨J,q,g⟩:=XQ g
   cases g;cases Ys e with
   |mk i f m j=>
    obtain⟨hw,hm⟩:=Zbn f;rcases hw with⟨rfl,rfl⟩|⟨l,c0,rfl,B,rfl,rfl⟩
    .exact .mk (Vm hm) m j (Zd q) (pi_tup (h X sc N o it _ q).pe pQ s O H _ I (Vt E S i p))
    .exact .mk (Vm hm) m j (Zd q) (pi_list (h X sc N o it _ q).pe pQ s O H _ I (Qi E S i B p))
 .replace g:(match XN G sc it with
   |some _=>ab
   |none=>(cE G n sc N it).map λc=>(ab,c))=aa (r,C):=g
  split at g
  .exact Zb g
  .obtain⟨J,q,g⟩:=XQ g
   cases g;cases Ys (b:=ZaF) (w:=ZdK) e with
   |@mk A st1 st2 ds ys ok i f m j=>
    cases A with
    |tup t=>
     have f:(if t.all ZgY=ac then aa (t,λ(_:Za)=>True) else ab)=aa (ds,ok):=f
     split at f
     .rename_i ht
      cases f;exact .mk (Q9 λd hd=>by
       have:=cD.mp ht d hd;unfold ZgY at this;split at this
       .exact⟨_,_,_,rfl⟩
       .cases this) m j (Zd q) (pi_tup (h X sc N o it _ q).pe pQ s O H _ I (Vt E S i p))
     .exact Zb f
    |_=>exact Zb f
def J4{G:Gs}(b:Zl G F n)(t:Cxt X G F sc N){c:CE}(h:cE G (n+1) sc N (.ListComp elt gens sc2 pos)=aa c){s:Sd}(I:L2.Inv X pQ O H s)(Y:tE X.K (ev F c) O H Q)(g:∀ C dd i u M,i.heap.Ns C M->(∀ h',Heap.SameBut C i.heap h'->L2.Inv X pQ O u { i with heap:=h' })->FpOk X pQ u C->Q (.ref dd) u->compPost (a0 X.prog X.w) X.A X.xe use R0 (.ref dd) C (.ok .next) i) :
  ∃ tg it ifs,gens=[⟨tg,it,ifs,0⟩]/\∀ a,az (a0 X.prog X.w) X.A (comprehension (.ListComp elt [⟨tg,it,ifs,0⟩] sc2 pos) sc2 X.env a (newList []) ae (eval it X.env) use) R0 X.xe s:=by
 cases Zea h with
 |@mk tg it ifs xs fr r ci ce cc j f k hi l m=>
  obtain⟨h1,h2,h3,h4,h5,h6⟩:=Yp f;obtain⟨ad,U,st,d,st',E,S,e,p⟩:=Y;obtain⟨cl,ec,c1,c2⟩:=Qj (env:=X.env) (sc:=sc2) (λy W hf=>by
   have hm:(y.1,NameKind.free)∈sc2.names:=by rw[<-hf];exact W
   exact I.ok.has y.1 (t.cel y.1 (h6 y.1 (mem_frees.mpr hm)).1))
  refine⟨tg,it,ifs,rfl,λa=>?_⟩
  cases Zd8 b t j hi I E S e p with
  |mk B V D Z L=>
   refine wpAny_comprehension_free (use:=use) rfl (ZW Z) ec h1 h4 (thn L λv s1 q=>thn q λP s2 o=>?_)
   obtain⟨R,fp,tn,J,H2,rfl,I2,T,z,f2,ad1,Good,gm,gw,go,stop,x,E2,S2,g2,p2⟩:=o;exact Za2 t b f k l m c1 c2 Good gm gw go stop x I2 B T z f2 E2 S2 g2 D V p2 g
def Zd9{G:Gs}:Xi G F:=by
 intro n f;refine⟨λX sc N R elt gens sc2 pos c h=>SE.of ?_,λX sc N K y i p elt gens sc2 j pos c E h r=>?_⟩
 .intro pQ s O H Q I g
  obtain⟨tg,it,ifs,rfl,go⟩:=J4 f R h I g (use:=ab) (R0:=EP X pQ O Q) λC dd l x m t u _ q=>⟨m,t,λh' sb=>⟨.ref dd,x,u h' sb,rfl,q⟩⟩
  rw[eval_ListComp];exact go _
 .intro pQ s O H D I g
  obtain⟨tg,it,ifs,rfl,go⟩:=J4 f K.toCxt h I g (use:=aa (assign (.Name y p) X.env)) (R0:=λ_ B=>SP X pQ D .next B) λC dd l x m t u d q=>by
   have T:=u l.heap (Heap.SameBut.refl _ _);show az _ X.A (assign (.Name y p) X.env (.ref dd)) _ _ l;refine wpAny_assign_Name (store_ok2 (v:=.ref dd) T (by rw[K.hN];exact K.nd) (by rw[K.hN];exact X7 E) (K.loc _ (UL E)) rfl (λJ S ⟨a,sb,P⟩=>?_) (.inl (K.fn _)))
   have L:C≠a:=by
    rcases P with z|z
    .rw[z];exact d.2.1
    .exact λw=>d.2.2.2.2.1 _ _ z w.symm
   exact⟨m,t.sameBut sb L,λU k=>⟨_,x,S.turned (t':=J.toks) (λb o M e=>k.extBut b o M e) d.1 d.2.1 d.2.2.2.1 d.2.2.2.2.1 d.2.2.2.2.2,q⟩⟩
  rw[exec_Assign_Name_used _ _ _ _ r];refine aA (wpAny_standAt (aA ?_));show az _ X.A (do let _ <-comprehension (.ListComp elt [⟨tg,it,ifs,0⟩] sc2 j) sc2 X.env _ (newList []) ae (eval it X.env) (aa (assign (.Name y p) X.env))) _ _ s
  exact aA (bK (go _) (λ_ B g=>aB (aB g)) λ_ _ e=>e)
variable [ClsTab]
def ZjL{α:Type}:∀ {us:Li α},us.length=0->us=[]
 |[],_=>rfl
def ZiN{α:Type}:∀ {us:Li α},us.length=1->∃ a,us=[a]
 |[a],_=>⟨a,rfl⟩
def ZiP{α:Type}:∀ {us:Li α},us.length=2->∃ a b,us=[a,b]
 |[a,b],_=>⟨a,b,rfl⟩
def ZeF{α:Type}:∀ {us:Li α},us.length=3->∃ a b c,us=[a,b,c]
 |[a,b,c],_=>⟨a,b,c,rfl⟩
def Zg1{α:Type}:∀ {us:Li α},us.length=4->∃ a b c d,us=[a,b,c,d]
 |[a,b,c,d],_=>⟨a,b,c,d,rfl⟩
def ZjM{α:Type}:∀ {us:Li α},us.length=5->∃ a b c d e,us=[a,b,c,d,e]
 |[a,b,c,d,e],_=>⟨a,b,c,d,e,rfl⟩
def ZjN{α:Type}:∀ {us:Li α},us.length=6->∃ a b c d e f,us=[a,b,c,d,e,f]
 |[a,b,c,d,e,f],_=>⟨a,b,c,d,e,f,rfl⟩
def XV(K:Fg)(G:Gs)(T:Nat->Ot FD)(C:Ad):Li (Str×Nat×Nat)->Prop
 |[]=>True
 | (m,j,_) :: r=>(∃ y f fd pn N,MethOk K G T C m y j f fd pn N)/\XV K G T C r
def XX(K:Fg)(B:Ad):Li Nat->Prop
 |[]=>True
 |i :: r=>SubOk K (ClsTab.ca i) B/\XX K B r
def Xh(a:Params)(K:Fg)(mg:Str->Ot vL)(G:Gs)(T:Nat->Ot FD):Gs->Prop
 |[]=>True
 | (x,.c d) :: r=>(∃ v u,mg x=aa u/\RelV v u/\∀ ad H,Den K ad H v d)/\Xh a K mg G T r
 | (x,.blt) :: r=>mg x=ab/\Xh a K mg G T r
 | (x,.dct ks ds) :: r=>JY a K mg x ks ds/\Xh a K mg G T r
 | (x,.fn i _ ds) :: r=>(∃ f fd pn N,DefOk K mg G T x i ds f fd pn N)/\Xh a K mg G T r
 | (x,.cls i ms subs) :: r=>((mg x=aa (.ref (ClsTab.ca i))/\NewOk K (ClsTab.ca i)/\XX K (ClsTab.ca i) subs)/\XV K G T (ClsTab.ca i) ms)/\Xh a K mg G T r
def Zgq(a:Params)(K:Fg)(mg:Str->Ot vL)(G:Gs)(T:Nat->Ot FD)(x:Str):GV->Prop
 |.c d=>∃ v u,mg x=aa u/\RelV v u/\∀ ad H,Den K ad H v d
 |.blt=>mg x=ab
 |.dct ks ds=>JY a K mg x ks ds
 |.fn i _ ds=>∃ f fd pn N,DefOk K mg G T x i ds f fd pn N
 |.cls i ms subs=>(mg x=aa (.ref (ClsTab.ca i))/\NewOk K (ClsTab.ca i)/\XX K (ClsTab.ca i) subs)/\XV K G T (ClsTab.ca i) ms
theorem Y0{b:Params}:∀ {l:Gs}{x:Str}{g:GV},Xh b K mg G T l->l.lookup x=aa g->Zgq b K mg G T x g
 |[],_,_,_,h=>by cases h
 | (y,v) :: r,x,g,a,h=>by
  have tl:Xh b K mg G T r/\Zgq b K mg G T y v:=by
   cases v with
   |c d=>exact⟨a.2,a.1⟩
   |blt=>exact⟨a.2,a.1⟩
   |dct ks ds=>exact⟨a.2,a.1⟩
   |fn i f ds=>exact⟨a.2,a.1⟩
   |cls i ms subs=>exact⟨a.2,a.1⟩
  rw[cH]at h;cases e:x==y with
  |true=>
   rw[e]at h;cases h;rw[beq_iff_eq.mp e];exact tl.2
  |false=>
   rw[e]at h;exact Y0 tl.1 h
theorem ZaD{B:Ad}:∀ {l:Li Nat},XX K B l->∀ i,l.contains i=ac->SubOk K (ClsTab.ca i) B
 |[],_,_,h=>by cases h
 |j :: r,a,i,h=>by
  rw[List.contains_cons,cG]at h;rcases h with h|h
  .rw[beq_iff_eq.mp h];exact a.1
  .exact ZaD a.2 i h
theorem QD{C:Ad}:∀ {l:Li (Str×Nat×Nat)},XV K G T C l->∀ m j b,l.lookup m=aa (j,b)->∃ y f fd pn N,MethOk K G T C m y j f fd pn N
 |[],_,_,_,_,h=>by cases h
 | (d,g,c) :: r,a,m,j,b,h=>by
  rw[cH]at h;cases e:m==d with
  |true=>
   rw[e]at h;cases h;rw[beq_iff_eq.mp e];exact a.1
  |false=>
   rw[e]at h;exact QD a.2 m j b h
def Zfo{a:Params}(h:Xh a K mg G T G):Text a K mg G T:=
 ⟨λ_ _ e=>Y0 h e,λ_ e=>Y0 h e,λ_ _ _ e=>Y0 h e,λ_ _ _ _ e=>Y0 h e,λx i ms subs e=>by
  have g:Zgq a K mg G T x (.cls i ms subs):=Y0 h e;exact⟨⟨g.1.1,g.1.2.1,ZaD g.1.2.2⟩,QD g.2⟩⟩
def ZgI(a:∀ n,Xi G (run T n))(X:Text w.params K mg G T)(n:Nat){x:Str}{f:Ad}{fd:bc}(b:DefOk K mg G T x i ds f fd pn N):FnOk P w K mg base CX0 n f fd pn (spD K (run T n i)):=Zgu a X n b.ob
def ZhT{a:Ad}{f:Li Int}(r:Only H)(u:SqL K H a (f.map V.int))(h:∃ st',run T n i [.lst 0] [(ae,f.map .int)]=aa (.bl ac,st')):spD K (run T n i) [.ref a] H (λv _=>v=.bl ac) λ_ _ _=>False:=by
 obtain⟨st',e⟩:=h;have ds:∀ f:Li Int,Dens K [a] H (f.map V.int) (f.map D.int):=λf=>by
  induction f with
  |nil=>exact .nil
  |cons n l t=>exact .cons (.int n) t
 have p:¬Z4 H a:=λ⟨kvs,q,d⟩=>by
  rcases r a with z|⟨o,s,z⟩<;>(rw[q]at z;cases z)
  cases d
 refine⟨[a],[.lst 0],[(ae,f.map .int)],.bl ac,st',⟨rfl,λi j b c d _ _ k _=>?_,λi c g=>?_⟩,.cons (.lst ⟨rfl,p⟩) .nil,e,λv ad' H' x S h=>h.ofBl⟩
 .cases i with
  |zero=>simp at k
  |succ i=>simp at k
 .cases i with
  |succ i=>simp at g
  |zero=>
   have g:(ae,f.map D.int)=c:=by simpa using g
   subst g;refine⟨a,rfl,.l p (ds f) (.inr ⟨rfl,?_⟩)⟩;rcases u with(h|⟨o,h⟩)|⟨o,m,n,C,B,k,A,y,w⟩
   .rcases r a with z|⟨o,s,z⟩
    .rw[h]at z;cases z
    .rw[h]at z;cases z
   .exact .inl ⟨o,h⟩
   .exact .inr ⟨o,m,n,⟨C,B⟩,⟨k,A⟩,y,w⟩
abbrev fnS(x y:Str)(s:Stmt)(c kV b a:vL)(e:Ot Ad)(d ct:vL):bc:=W.fnOf x y (defArgs s) (defBody s) (defScope s) c kV b a e d ct
inductive FnAt(K:Fg)(x:Str)(s:Stmt):Prop
 |mk {f:Addr}{oc kV dc pm cd ct:Value}{od an:Option Addr}{sl:Array (Option Value)} (a:W.nsIn K ay x=aa (aa (.ref f))) (l:K.lookup f=aa ⟨oc,od,.func (W.fnOf x x (defArgs s) (defBody s) (defScope s) .none kV dc pm an cd ct),sl⟩) (e:W.codeIn K cd x=ac) (k:W.keepIn K (.ref f)=ac):FnAt K x s
inductive FnAtE(K:Fg)(x:Str)(s:Stmt)(v:Int):Prop
 |mk {f E:Addr}{eo:Obj}{en:Nat}{et:Tok}{oc kV dc pm cd ct:Value}{od an:Option Addr}{sl:Array (Option Value)} (a:W.nsIn K ay x=aa (aa (.ref f))) (l:K.lookup f=aa ⟨oc,od,.func (W.fnOf x x (defArgs s) (defBody s) (defScope s) (.ref E) kV dc pm an cd ct),sl⟩) (e:W.codeIn K cd x=ac) (k:W.keepIn K (.ref f)=ac) (d:K.lookup E=aa eo) (g:eo.data=.seq #[.int v et] en):FnAtE K x s v
inductive MtAt(K:Fg)(C:Addr)(x y:Str)(s:Stmt):Prop
 |mk {f:Addr}{oc kV dc pm cd ct:Value}{od an:Option Addr}{sl:Array (Option Value)} (m:W.findIn K (.ref C) x=aa (aa (.ref f))) (l:K.lookup f=aa ⟨oc,od,.func (W.fnOf x y (defArgs s) (defBody s) (defScope s) .none kV dc pm an cd ct),sl⟩) (e:W.codeIn K cd y=ac) (k:W.keepIn K (.ref f)=ac) (i:W.isFn K (.ref f)=ac):MtAt K C x y s
structure ClsAt(K:Fg)(x:Str)(C:Addr):Prop where
 ya:W.nsIn K ay x=aa (aa (.ref C))
 yb:W.makesIn K C=ac
 yc:W.findIn K (.ref C) "__init__"=aa (aa (.builtin "object.__init__"))
 yd:W.keepIn K (.ref C)=ac
 ye:W.plainGet K C Str.empty=ac
 yf:W.hasDictIn K C=ac
 yg:W.plainOver K C=ac
 yh:W.findIn K (.ref C) "__setattr__"=aa (aa (.builtin "object.__setattr__"))
 yi:W.findIn K (.ref C) "__class__"=aa (aa (.builtin "object.__class__"))
 yj:W.mroIn K C (.type "object")=aa ac
 yk:W.specialIn K (.builtin "object.__class__") "__get__"=aa (aa (.builtin "getset_descriptor.__get__"))
 yl:W.takesIn K (.builtin "object.__class__")=aa ac
abbrev ZaM(G:Gs)(s:Stmt)(N a:Li Str)(c:CS):Prop:=FnScope N a (defScope s)/\(∀ y∈N,L2.Loc (defScope s) y)/\cSs G 60 (defScope s) N (defBody s)=aa c
variable{ps:Li Str}
section
variable{fd:bc}
def bd1(b:ps.length=1)(h:∀ a,bindArgs fd ⟨[a],[]⟩=pure (ps.zip [a])):Binds K fd ps []:=.all λc e=>by obtain⟨_,rfl⟩:=ZiN (e.trans b);exact h _
def bd2(c:ps.length=2)(h:∀ a b,bindArgs fd ⟨[a,b],[]⟩=pure (ps.zip [a,b])):Binds K fd ps []:=.all λd e=>by obtain⟨_,_,rfl⟩:=ZiP (e.trans c);exact h _ _
def bd3(d:ps.length=3)(h:∀ a b c,bindArgs fd ⟨[a,b,c],[]⟩=pure (ps.zip [a,b,c])):Binds K fd ps []:=.all λf e=>by obtain⟨_,_,_,rfl⟩:=ZeF (e.trans d);exact h _ _ _
def bd4(f:ps.length=4)(h:∀ a b c d,bindArgs fd ⟨[a,b,c,d],[]⟩=pure (ps.zip [a,b,c,d])):Binds K fd ps []:=.all λg e=>by obtain⟨_,_,_,_,rfl⟩:=Zg1 (e.trans f);exact h _ _ _ _
def bd5(f:ps.length=5)(h:∀ a b c d k,bindArgs fd ⟨[a,b,c,d,k],[]⟩=pure (ps.zip [a,b,c,d,k])):Binds K fd ps []:=.all λg e=>by obtain⟨_,_,_,_,_,rfl⟩:=ZjM (e.trans f);exact h _ _ _ _ _
def bd6(f:ps.length=6)(h:∀ a b c d k l,bindArgs fd ⟨[a,b,c,d,k,l],[]⟩=pure (ps.zip [a,b,c,d,k,l])):Binds K fd ps []:=.all λg e=>by obtain⟨_,_,_,_,_,_,rfl⟩:=ZjN (e.trans f);exact h _ _ _ _ _ _
def bd0(a:ps.length=0)(h:bindArgs fd ⟨[],[]⟩=pure []):Binds K fd ps []:=.all λb e=>by rw[ZjL (e.trans a),List.zip_nil_right];exact h
end
variable{h:bf}{i:Nat}
section
variable{Pm:Params}{x y:Str}{p:Nat}{s:Stmt}{c:CS}{r:Gs}
def gD(X:K.In h)(o:h.Ns ay mg)(F:FnAt K x s)(q:ZaM G s N ps c)(f:T i=aa ⟨ps.length,N.length,c⟩)(t:Xh Pm K mg G T r)(d:∀ kV g b n j ct,Binds K (fnS x x s .none kV g b n j ct) ps []:=by intros;(first|refine bd0 rfl ?_|refine bd1 rfl ?_|refine bd2 rfl ?_|refine bd3 rfl ?_|refine bd4 rfl ?_|refine bd5 rfl ?_|refine bd6 rfl ?_);intros;rfl):Xh Pm K mg G T ((x,.fn i p []) :: r):=by
 cases F with
 |mk a l e k=>exact⟨⟨_,_,ps,N,.inl ⟨s,_,_,_,_,_,_,_,_,_,_,c,rfl,l,e,q.1,q.2.1,q.2.2,f⟩,k,W.mg_of X o a,λm u=>⟨[],[],λ_ _=>by rw[List.drop_nil];exact .nil,.nil,d _ _ _ _ _ _⟩⟩,t⟩
def gE{v:Int}(X:K.In h)(B:h.Ns ay mg)(F:FnAtE K x s v)(q:ZaM G s N ps c)(z:T i=aa ⟨ps.length,N.length,c⟩)(f:∀ E kV o b w u ct n j A,K.lookup E=aa n->n.data=.seq #[.int v j] A->Binds K (fnS x x s (.ref E) kV o b w u ct) ps []/\Binds K (fnS x x s (.ref E) kV o b w u ct) ps [.int v j])(t:Xh Pm K mg G T r):Xh Pm K mg G T ((x,.fn i p [.int v]) :: r):=by
 cases F with
 |mk a l e k d g=>
  refine⟨⟨_,_,ps,N,.inl ⟨s,_,_,_,_,_,_,_,_,_,_,c,rfl,l,e,q.1,q.2.1,q.2.2,z⟩,k,W.mg_of X B a,λm y=>?_⟩,t⟩
  match m,y with
  |0,_=>exact⟨[.int v],[.int v _],λ_ _=>.cons (.int _) .nil,.cons ⟨_,rfl⟩ .nil,(f _ _ _ _ _ _ _ _ _ _ d g).2⟩
  |1,_=>exact⟨[],[],λ_ _=>.nil,.nil,(f _ _ _ _ _ _ _ _ _ _ d g).1⟩
def gM{C:Ad}{r:Li (Str×Nat×Nat)}(F:MtAt K C x y s)(q:ZaM G s N ps c)(d:T i=aa ⟨ps.length,N.length,c⟩)(t:XV K G T C r)(b:∀ kV f a h g ct,Binds K (fnS x y s .none kV f a h g ct) ps []:=by intros;(first|refine bd0 rfl ?_|refine bd1 rfl ?_|refine bd2 rfl ?_|refine bd3 rfl ?_|refine bd4 rfl ?_|refine bd5 rfl ?_|refine bd6 rfl ?_);intros;rfl):XV K G T C ((x,i,p) :: r):=by
 cases F with
 |mk m l e k j=>exact⟨⟨y,_,_,ps,N,⟨s,_,_,_,_,_,_,_,_,_,_,c,rfl,l,e,q.1,q.2.1,q.2.2,d⟩,⟨m,j,k⟩,b _ _ _ _ _ _⟩,t⟩
def gS{C B:Ad}{l:Li Nat}(a:ClsTab.ca i=C)(F:ClsAt K x C)(m:W.kitOne K (.ref C) (.ref B)=aa ac)(t:XX K B l):XX K B (i :: l):=by
 subst a;exact⟨⟨⟨F.ye,F.yf,F.yg,F.yh⟩,F.yi,F.yk,F.yl,F.yj,m⟩,t⟩
def gC{C:Ad}(X:K.In h)(d:h.Ns ay mg)(c:ClsTab.ca i=C)(F:ClsAt K x C)(a:XX K C subs)(b:XV K G T C ms)(t:Xh Pm K mg G T r):Xh Pm K mg G T ((x,.cls i ms subs) :: r):=by
 subst c;exact⟨⟨⟨W.mg_of X d F.ya,⟨F.yb,F.yc,F.yd,⟨F.ye,F.yf,F.yg,F.yh⟩⟩,a⟩,b⟩,t⟩
def gB(X:K.In h)(a:h.Ns ay mg)(z:W.nsIn K ay x=aa ab)(t:Xh Pm K mg G T r):Xh Pm K mg G T ((x,.blt) :: r):=⟨W.mg_none_of X a z,t⟩
def gI{v:Int}{k:Tok}(X:K.In h)(a:h.Ns ay mg)(g:W.nsIn K ay x=aa (aa (.int v k)))(t:Xh Pm K mg G T r):Xh Pm K mg G T ((x,.c (.int v)) :: r):=⟨⟨.int v,_,W.mg_of X a g,⟨_,rfl⟩,λ_ _=>.int _⟩,t⟩
def gL{fa:Ad}{z:Str}(X:K.In h)(j:h.Ns ay mg)(b:mg x=aa (.ref fa))(F:FnAt K x s)(q:ZaM G s N [z] c)(p:T i=aa ⟨1,N.length,c⟩)(g:∀ kV r n v t ct u,bindArgs (fnS x x s .none kV r n v t ct) ⟨[u],[]⟩=pure [(z,u)]):∃ (fd:bc) (N:Li Str),(∀ (s:Sd) (u:vL),BindsTo s fd ⟨[u],[]⟩ [(z,u)])/\DefOk K mg G T x i [] fa fd [z] N:=by
 cases F with
 |@mk f _ _ _ _ _ _ _ _ _ a l e k=>
  have d:=b.symm.trans (W.mg_of X j a);have d:fa=f:=by cases d;rfl
  rw[d];exact⟨_,N,λ_ u=>.of_eq (g _ _ _ _ _ _ u),.inl ⟨s,_,_,_,_,_,_,_,_,_,_,c,rfl,l,e,q.1,q.2.1,q.2.2,p⟩,k,W.mg_of X j a,λm y=>⟨[],[],λ_ _=>by rw[List.drop_nil];exact .nil,.nil,.all λw o=>by obtain⟨u,rfl⟩:=ZiN o;exact g _ _ _ _ _ _ u⟩⟩
end
omit [ClsTab] in
def Zbh{l:W.OpenLaw}{q:a1}{e:Li Str}{V:(Str->Ot vL)->bf->Prop}{r:bg->bf->Prop}{d:DefRec}{K:Params->Fg}{G:Gs}{T:Nat->Ot FD}{n i:Nat}{x:Str}(y:l.most=aa 63)(o:d.params.defaults=[])(v:Room n callerA)(I:∀ (w:bg) (h:bf),r w h->(K w.params).In h)(C:∀ [ClsTab] n,Xi G (run T n))(F:∀ (w:bg) (mg:Str->Ot vL) (fa:Ad) (h:bf),(K w.params).In h->h.Ns ay mg->mg d.name=aa (.ref fa)->
   ∃ _:ClsTab,Text w.params (K w.params) mg G T/\∃ (fd:bc) (N:Li Str),(∀ (s:Sd) (u:vL),BindsTo s fd ⟨[u],[]⟩ [(x,u)])/\DefOk (K w.params) mg G T d.name i [] fa fd [x] N)(L:∀ j:Li Int,j.length<=63->∃ st',run T n i [.lst 0] [(ae,j.map .int)]=aa (.bl ac,st')) :
  W.WalkO q e V r l.row.toRowW d [] (λf vs=>PySem.call f vs):=
 L2.walk_of (n:=63) (k:=n) (x:=x) (CX:=λ_=>CX0) (sp:=λw vs H Q E=>∀ c:ClsTab,@spD c (K w.params) (run T n i) vs H Q E) y (by decide) o v I
  (λw mg fa h Y Z m=>by
   obtain⟨c,X,fd,N,D,Dk⟩:=F w mg fa h Y Z m;refine⟨fd,D,λbase _ _=>?_⟩
   have p:=ZgI (P:=l.prog) (w:=w) (base:=base) (λn=>C n) X n Dk
   exact⟨λvs H Q E z=>p.len vs H Q E (z c),λA b s H g t vs Q E U S R O z=>p.run A b s H g t vs Q E U S R O (z c)⟩)
  (λw H a j B M J c=>ZhT M J (L j B)) λ_ _ _ _ _ z=>z
end Dp
namespace Dp
open PySem
noncomputable def X4:FD:=⟨3,3,(.seq (.ret (.bin .Add (.bin .Add (.slice (.v 0) .nop (.part (.v 1))) (.tupE (.aC (.v 2) .aN))) (.slice (.v 0) (.part (.bin .Add (.v 1) (.c (.int 1)))) .nop)))
 .skip)⟩
def ZV:FD:=⟨1,1,(.seq (.ret (.look [(S "put"),(S "if"),(S "tell"),(S "go"),(S "skip")] [(.tup [(.int 2),(.int 4)]),(.tup [(.int 1),(.int 3)]),(.tup [(.int 1)]),(.tup []),(.tup [])] (.ix (.v 0) (.c (.int 0)))))
 .skip)⟩
noncomputable def XY:CS:=(.seq (.set 1 (.bin .Mult (.v 1) (.c (.int 2))))
 .skip)
def Vp:FD:=⟨1,3,(.seq (.set 1 (.c (.int 1)))
 (.seq (.for1 2 ac (.v 0) XY)
 (.seq (.ret (.v 1))
 .skip)))⟩
noncomputable def X2:FD:=⟨1,1,(.seq (.ret (.bin .Sub (.call 43 (.aC (.v 0) .aN) []) (.c (.int 1))))
 .skip)⟩
noncomputable def Wu:FD:=⟨2,2,(.seq (.ret (.cmp .NotEq (.bin .BitAnd (.v 0) (.call 43 (.aC (.v 1) .aN) [])) (.c (.int 0))))
 .skip)⟩
noncomputable def YS:FD:=⟨2,2,(.seq (.ret (.bin .BitAnd (.v 0) (.inv (.call 43 (.aC (.v 1) .aN) []))))
 .skip)⟩
noncomputable def Vn:FD:=⟨1,1,(.seq (.ret (.bin .Sub (.bin .Mod (.bin .Add (.v 0) (.c (.int 1000000000))) (.c (.int 2000000000))) (.c (.int 1000000000))))
 .skip)⟩
noncomputable def XL:FD:=⟨2,2,(.seq (.ite (.cmp .Eq (.v 1) (.c (.int 0))) (.seq (.ret (.c (.int 0)))
 .skip) .skip)
 (.seq (.ret (.call 0 (.aC (.bin .FloorDiv (.v 0) (.v 1)) .aN) []))
 .skip))⟩
noncomputable def YI:FD:=⟨2,2,(.seq (.ite (.cmp .Eq (.v 1) (.c (.int 0))) (.seq (.ret (.v 0))
 .skip) .skip)
 (.seq (.ret (.bin .Sub (.v 0) (.bin .Mult (.v 1) (.bin .FloorDiv (.v 0) (.v 1)))))
 .skip))⟩
def Vq:FD:=⟨3,3,(.seq (.ite (.cmp .Eq (.v 1) (.c (.str (S "+")))) (.seq (.ret (.call 0 (.aC (.bin .Add (.v 0) (.v 2)) .aN) []))
 .skip) .skip)
 (.seq (.ite (.cmp .Eq (.v 1) (.c (.str (S "-")))) (.seq (.ret (.call 0 (.aC (.bin .Sub (.v 0) (.v 2)) .aN) []))
 .skip) .skip)
 (.seq (.ite (.cmp .Eq (.v 1) (.c (.str (S "*")))) (.seq (.ret (.call 0 (.aC (.bin .Mult (.v 0) (.v 2)) .aN) []))
 .skip) .skip)
 (.seq (.ite (.cmp .Eq (.v 1) (.c (.str (S "/")))) (.seq (.ret (.call 1 (.aC (.v 0) (.aC (.v 2) .aN)) []))
 .skip) .skip)
 (.seq (.ret (.call 2 (.aC (.v 0) (.aC (.v 2) .aN)) []))
 .skip)))))⟩
def UD:FD:=⟨3,3,(.seq (.ite (.cmp .Eq (.v 1) (.c (.str (S "<")))) (.seq (.ret (.cmp .Lt (.v 0) (.v 2)))
 .skip) .skip)
 (.seq (.ite (.cmp .Eq (.v 1) (.c (.str (S "<=")))) (.seq (.ret (.cmp .LtE (.v 0) (.v 2)))
 .skip) .skip)
 (.seq (.ite (.cmp .Eq (.v 1) (.c (.str (S "=")))) (.seq (.ret (.cmp .Eq (.v 0) (.v 2)))
 .skip) .skip)
 (.seq (.ite (.cmp .Eq (.v 1) (.c (.str (S ">=")))) (.seq (.ret (.cmp .GtE (.v 0) (.v 2)))
 .skip) .skip)
 (.seq (.ite (.cmp .Eq (.v 1) (.c (.str (S ">")))) (.seq (.ret (.cmp .Gt (.v 0) (.v 2)))
 .skip) .skip)
 (.seq (.ret (.cmp .NotEq (.v 0) (.v 2)))
 .skip))))))⟩
noncomputable def Wd:FD:=⟨2,2,(.seq (.ret (.ix (.v 0) (.bin .Mod (.bin .Add (.tix (.v 0) (.aC (.v 1) .aN)) (.c (.int 1))) (.len (.v 0)))))
 .skip)⟩
def WN:FD:=⟨1,1,(.seq (.ret (.c (.str (S "none"))))
 .skip)⟩
noncomputable def XS:FD:=⟨3,3,(.seq (.ret (.tupE .aN))
 .skip)⟩
def Xm:FD:=⟨1,1,(.seq (.ret (.c (.str (S "sign"))))
 .skip)⟩
def Zz:FD:=⟨3,3,(.seq (.ite (.cmp .Eq (.ix (.v 1) (.c (.int 0))) (.c (.str (S "put")))) (.seq (.ret (.tupE (.aC (.call 42 (.aC (.v 1) (.aC (.c (.int 3)) (.aC (.call 70 (.aC (.c (.kt [(S "+"),(S "-"),(S "*"),(S "/"),(S "mod")])) (.aC (.ix (.v 1) (.c (.int 3))) .aN)) []) .aN))) []) .aN)))
 .skip) .skip)
 (.seq (.ite (.cmp .Eq (.ix (.v 1) (.c (.int 0))) (.c (.str (S "if")))) (.seq (.ret (.tupE (.aC (.call 42 (.aC (.v 1) (.aC (.c (.int 2)) (.aC (.call 70 (.aC (.c (.kt [(S "<"),(S "<="),(S "="),(S ">="),(S ">"),(S "!=")])) (.aC (.ix (.v 1) (.c (.int 2))) .aN)) []) .aN))) []) .aN)))
 .skip) .skip)
 (.seq (.ret (.tupE .aN))
 .skip)))⟩
def Xl:FD:=⟨1,1,(.seq (.ret (.c (.str (S "more"))))
 .skip)⟩
def Yj:CS:=(.seq (.ite (.cmp .Eq (.ix (.ix (.v 1) (.v 4)) (.c (.int 0))) (.c (.str (S "number")))) (.seq (.app 3 (.call 42 (.aC (.v 1) (.aC (.v 4) (.aC (.tupE (.aC (.c (.str (S "number"))) (.aC (.call 0 (.aC (.bin .Add (.ix (.ix (.v 1) (.v 4)) (.c (.int 1))) (.c (.int 1))) .aN) []) .aN))) .aN))) []))
 .skip) .skip)
 .skip)
def YO:FD:=⟨3,5,(.seq (.set 3 (.lstE .aN))
 (.seq (.for1 4 ae (.call 113 (.aC (.v 1) .aN) []) Yj)
 (.seq (.ret (.tOf (.v 3)))
 .skip)))⟩
def Xo:FD:=⟨1,1,(.seq (.ret (.c (.str (S "turn"))))
 .skip)⟩
def ZB:FD:=⟨3,3,(.seq (.ite (.cmp .NotEq (.ix (.v 1) (.c (.int 0))) (.c (.str (S "if")))) (.seq (.ret (.tupE .aN))
 .skip) .skip)
 (.seq (.ret (.tupE (.aC (.call 42 (.aC (.v 1) (.aC (.c (.int 2)) (.aC (.look [(S "<"),(S ">="),(S "<="),(S ">"),(S "="),(S "!=")] [(.str (S ">=")),(.str (S "<")),(.str (S ">")),(.str (S "<=")),(.str (S "!=")),(.str (S "="))] (.ix (.v 1) (.c (.int 2)))) .aN))) []) .aN)))
 .skip))⟩
def X0:FD:=⟨1,1,(.seq (.ret (.c (.str (S "out"))))
 .skip)⟩
def ZK:FD:=⟨3,3,(.seq (.ite (.cmp .Eq (.ix (.v 1) (.c (.int 0))) (.c (.str (S "skip")))) (.seq (.ret (.tupE .aN))
 .skip) .skip)
 (.seq (.ret (.tupE (.aC (.tupE (.aC (.c (.str (S "skip"))) .aN)) .aN)))
 .skip))⟩
def Xn:FD:=⟨1,1,(.seq (.ret (.c (.str (S "swap"))))
 .skip)⟩
def ZA:FD:=⟨3,3,(.seq (.ite (.and (.cmp .Eq (.ix (.v 1) (.c (.int 0))) (.c (.str (S "put")))) (.cmp .NotEq (.ix (.v 1) (.c (.int 2))) (.ix (.v 1) (.c (.int 4))))) (.seq (.ret (.tupE (.aC (.tupE (.aC (.c (.str (S "put"))) (.aC (.ix (.v 1) (.c (.int 1))) (.aC (.ix (.v 1) (.c (.int 4))) (.aC (.ix (.v 1) (.c (.int 3))) (.aC (.ix (.v 1) (.c (.int 2))) .aN)))))) .aN)))
 .skip) .skip)
 (.seq (.ite (.and (.cmp .Eq (.ix (.v 1) (.c (.int 0))) (.c (.str (S "if")))) (.cmp .NotEq (.ix (.v 1) (.c (.int 1))) (.ix (.v 1) (.c (.int 3))))) (.seq (.ret (.tupE (.aC (.tupE (.aC (.c (.str (S "if"))) (.aC (.ix (.v 1) (.c (.int 3))) (.aC (.ix (.v 1) (.c (.int 2))) (.aC (.ix (.v 1) (.c (.int 1))) (.aC (.ix (.v 1) (.c (.int 4))) .aN)))))) .aN)))
 .skip) .skip)
 (.seq (.ret (.tupE .aN))
 .skip)))⟩
def XZ:FD:=⟨1,1,(.seq (.ret (.c (.str (S "far"))))
 .skip)⟩
def ZJ:FD:=⟨3,3,(.seq (.ite (.or (.cmp .NotIn (.ix (.v 1) (.c (.int 0))) (.tupE (.aC (.c (.str (S "go"))) (.aC (.c (.str (S "if"))) .aN)))) (.cmp .GtE (.ix (.v 1) (.neg (.c (.int 1)))) (.v 2))) (.seq (.ret (.tupE .aN))
 .skip) .skip)
 (.seq (.ret (.tupE (.aC (.bin .Add (.slice (.v 1) .nop (.part (.neg (.c (.int 1))))) (.tupE (.aC (.bin .Add (.ix (.v 1) (.neg (.c (.int 1)))) (.c (.int 1))) .aN))) .aN)))
 .skip))⟩
noncomputable def Za7:CE:=(.comp ae [4,6] (.meth [(146,148),(169,171),(149,151),(157,159),(152,154),(160,162),(163,165)] (.v 6) (.aC (.v 5) (.aC (.len (.v 1)) .aN))) (.tupE (.aC (.v 1) (.aC (.meth [(146,147),(169,170),(149,150),(157,158),(152,153),(160,161),(163,164)] (.v 2) .aN) (.aC (.v 0) .aN)))) (.c (.bl ac)))
def Wp:CS:=(.seq (.ext 3 Za7)
 .skip)
def Wq:CS:=(.seq (.for1 6 ae (.v 2) Wp)
 .skip)
def UC:FD:=⟨1,7,(.seq (.set 1 (.ix (.v 0) (.c (.int 2))))
 (.seq (.set 2 (.lstE (.aC (.new 169) (.aC (.new 149) (.aC (.new 157) (.aC (.new 152) (.aC (.new 160) (.aC (.new 163) .aN))))))))
 (.seq (.set 3 (.lstE .aN))
 (.seq (.forE 4 5 (.v 1) Wq)
 (.seq (.ret (.tOf (.v 3)))
 .skip)))))⟩
noncomputable def Wt:FD:=⟨3,3,(.seq (.ret (.tupE (.aC (.ix (.v 0) (.c (.int 0))) (.aC (.ix (.v 0) (.c (.int 1))) (.aC (.call 42 (.aC (.ix (.v 0) (.c (.int 2))) (.aC (.v 1) (.aC (.v 2) .aN))) []) .aN)))))
 .skip)⟩
def W3:FD:=⟨2,2,(.seq (.ite (.cmp .Eq (.ix (.v 0) (.c (.int 0))) (.c (.str (S "name")))) (.seq (.ret (.ix (.v 1) (.ix (.v 0) (.c (.int 1)))))
 .skip) .skip)
 (.seq (.ret (.ix (.v 0) (.c (.int 1))))
 .skip))⟩
noncomputable def UB:FD:=⟨2,2,(.seq (.ret (.tupE (.aC (.c (.int 0)) (.aC (.bin .Add (.v 1) (.bin .Mult (.tupE (.aC (.c (.int 0)) .aN)) (.bin .Sub (.ix (.v 0) (.c (.int 1))) (.len (.v 1))))) .aN))))
 .skip)⟩
noncomputable def Vo:FD:=⟨2,2,(.seq (.ret (.cmp .GtE (.ix (.v 1) (.c (.int 0))) (.len (.ix (.v 0) (.c (.int 2))))))
 .skip)⟩
def Zw:FD:=⟨2,3,(.seq (.ite (.cmp .NotEq (.ix (.v 0) (.c (.int 0))) (.c (.str (S "put")))) (.seq (.ret (.v 1))
 .skip) .skip)
 (.seq (.set 2 (.call 3 (.aC (.call 5 (.aC (.ix (.v 0) (.c (.int 2))) (.aC (.v 1) .aN)) []) (.aC (.ix (.v 0) (.c (.int 3))) (.aC (.call 5 (.aC (.ix (.v 0) (.c (.int 4))) (.aC (.v 1) .aN)) []) .aN))) []))
 (.seq (.ret (.call 42 (.aC (.v 1) (.aC (.ix (.v 0) (.c (.int 1))) (.aC (.v 2) .aN))) []))
 .skip)))⟩
def ZG:FD:=⟨3,3,(.seq (.ite (.cmp .Eq (.ix (.v 0) (.c (.int 0))) (.c (.str (S "go")))) (.seq (.ret (.ix (.v 0) (.c (.int 1))))
 .skip) .skip)
 (.seq (.ite (.and (.cmp .Eq (.ix (.v 0) (.c (.int 0))) (.c (.str (S "if")))) (.call 4 (.aC (.call 5 (.aC (.ix (.v 0) (.c (.int 1))) (.aC (.v 2) .aN)) []) (.aC (.ix (.v 0) (.c (.int 2))) (.aC (.call 5 (.aC (.ix (.v 0) (.c (.int 3))) (.aC (.v 2) .aN)) []) .aN))) [])) (.seq (.ret (.ix (.v 0) (.c (.int 4))))
 .skip) .skip)
 (.seq (.ret (.bin .Add (.v 1) (.c (.int 1))))
 .skip)))⟩
def W1:FD:=⟨2,5,(.seq (.ite (.call 7 (.aC (.v 0) (.aC (.v 1) .aN)) []) (.seq (.ret (.tupE (.aC (.c (.str (S "none"))) .aN)))
 .skip) .skip)
 (.seq (.set 2 (.ix (.v 1) (.c (.int 0))))
 (.seq (.set 3 (.ix (.v 1) (.c (.int 1))))
 (.seq (.set 4 (.ix (.ix (.v 0) (.c (.int 2))) (.v 2)))
 (.seq (.ite (.cmp .Eq (.ix (.v 4) (.c (.int 0))) (.c (.str (S "tell")))) (.seq (.ret (.tupE (.aC (.c (.str (S "told"))) (.aC (.call 5 (.aC (.ix (.v 4) (.c (.int 1))) (.aC (.v 3) .aN)) []) .aN))))
 .skip) .skip)
 (.seq (.ret (.tupE (.aC (.call 9 (.aC (.v 4) (.aC (.v 2) (.aC (.v 3) .aN))) []) (.aC (.call 8 (.aC (.v 4) (.aC (.v 3) .aN)) []) .aN))))
 .skip))))))⟩
noncomputable def Yo:FD:=⟨1,1,(.seq (.ret (.isi .str (.ix (.v 0) (.c (.int 0)))))
 .skip)⟩
noncomputable def ZF:CS:=(.seq (.set 6 (.call 10 (.aC (.v 0) (.aC (.v 3) .aN)) []))
 (.seq (.app 4 (.v 6))
 (.seq (.ite (.call 11 (.aC (.v 6) .aN) []) (.seq (.ret (.tOf (.v 4)))
 .skip) .skip)
 (.seq (.set 3 (.v 6))
 .skip))))
def W2:FD:=⟨3,7,(.seq (.set 3 (.call 6 (.aC (.v 0) (.aC (.v 1) .aN)) []))
 (.seq (.set 4 (.lstE (.aC (.v 3) .aN)))
 (.seq (.for1 5 ac (.v 2) ZF)
 (.seq (.app 4 (.ife (.call 7 (.aC (.v 0) (.aC (.v 3) .aN)) []) (.tupE (.aC (.c (.str (S "none"))) .aN)) (.tupE (.aC (.c (.str (S "late"))) .aN))))
 (.seq (.ret (.tOf (.v 4)))
 .skip)))))⟩
noncomputable def Wx:FD:=⟨3,3,(.seq (.ret (.ix (.call 12 (.aC (.v 0) (.aC (.v 1) (.aC (.v 2) .aN))) []) (.neg (.c (.int 1)))))
 .skip)⟩
noncomputable def YA:FD:=⟨1,1,(.seq (.ite (.cmp .Gt (.len (.v 0)) (.c (.int 10))) (.seq .stop
 .skip) .skip)
 .skip)⟩
noncomputable def Yb:CS:=(.seq (.set 1 (.bin .Mult (.v 1) (.bin .Add (.bin .Sub (.v 3) (.v 2)) (.c (.int 1)))))
 .skip)
def UH:FD:=⟨1,4,(.seq (.set 1 (.c (.int 1)))
 (.seq (.for2 2 3 (.ix (.v 0) (.c (.int 0))) Yb)
 (.seq (.ret (.v 1))
 .skip)))⟩
noncomputable def V1:CE:=(.comp ae [4] (.v 2) (.bin .Add (.v 1) (.tupE (.aC (.v 0) .aN))) (.c (.bl ac)))
def YN:CS:=(.seq (.ext 3 V1)
 .skip)
def Zy:CS:=(.seq (.set 3 (.lstE .aN))
 (.seq (.for1 4 ae (.v 1) YN)
 (.seq (.set 1 (.v 3))
 .skip)))
def Xq:FD:=⟨1,5,(.seq (.set 1 (.lstE (.aC (.tupE .aN) .aN)))
 (.seq (.for1 2 ae (.v 0) Zy)
 (.seq (.ret (.tOf (.v 1)))
 .skip)))⟩
noncomputable def Wv:FD:=⟨1,1,(.seq (.ret (.cmp .Gt (.call 133 (.aC (.v 0) .aN) []) (.c (.int 64))))
 .skip)⟩
noncomputable def ZbO:FD:=⟨1,1,(.seq (.ite (.call 135 (.aC (.v 0) .aN) []) (.seq .stop
 .skip) .skip)
 (.seq (.ret (.call 134 (.aC (.compT [] (.ix (.v 0) (.c (.int 0))) (.lstR (.v 0) (.bin .Add (.v 1) (.c (.int 1)))) (.c (.bl ac))) .aN) []))
 .skip))⟩
noncomputable def Wr:CS:=(.seq (.ite (.cmp .NotIn (.v 3) (.v 2)) (.seq (.app 2 (.v 3))
 .skip) .skip)
 .skip)
def Xr:FD:=⟨2,4,(.seq (.set 2 (.lstE .aN))
 (.seq (.for1 3 ae (.tupE (.aC (.v 0) (.aC (.bin .FloorDiv (.bin .Add (.v 0) (.v 1)) (.c (.int 2))) (.aC (.v 1) .aN)))) Wr)
 (.seq (.ret (.v 2))
 .skip)))⟩
noncomputable def ZbP:FD:=⟨1,1,(.seq (.ret (.call 134 (.aC (.compT [] (.ix (.v 0) (.c (.int 0))) (.call 137 (.aC (.v 0) (.aC (.v 1) .aN)) []) (.c (.bl ac))) .aN) []))
 .skip)⟩
noncomputable def UF:FD:=⟨1,1,(.seq (.ret (.ife (.call 135 (.aC (.v 0) .aN) []) (.call 138 (.aC (.v 0) .aN) []) (.call 136 (.aC (.v 0) .aN) [])))
 .skip)⟩
def YR:FD:=⟨2,2,(.seq (.ret (.and (.cmp .Eq (.ix (.v 0) (.c (.int 0))) (.c (.str (S "number")))) (.cmp .Eq (.ix (.v 1) (.c (.int 0))) (.c (.str (S "number"))))))
 .skip)⟩
noncomputable def Z7:FD:=⟨3,3,(.seq (.ite (.cmp .Lt (.ix (.v 0) (.v 2)) (.ix (.v 0) (.v 1))) (.seq (.ret (.call 42 (.aC (.call 42 (.aC (.v 0) (.aC (.v 1) (.aC (.ix (.v 0) (.v 2)) .aN))) []) (.aC (.v 2) (.aC (.ix (.v 0) (.v 1)) .aN))) []))
 .skip) .skip)
 (.seq (.ret (.v 0))
 .skip))⟩
def Z6:FD:=⟨1,1,(.seq (.ite (.and (.cmp .Eq (.ix (.v 0) (.c (.int 3))) (.c (.str (S "-")))) (.cmp .Eq (.ix (.ix (.v 0) (.c (.int 4))) (.c (.int 0))) (.c (.str (S "number"))))) (.seq (.ret (.bin .Add (.slice (.v 0) .nop (.part (.c (.int 3)))) (.tupE (.aC (.c (.str (S "+"))) (.aC (.tupE (.aC (.c (.str (S "number"))) (.aC (.call 0 (.aC (.neg (.ix (.ix (.v 0) (.c (.int 4))) (.c (.int 1)))) .aN) []) .aN))) .aN)))))
 .skip) .skip)
 (.seq (.ret (.v 0))
 .skip))⟩
def ZZ:FD:=⟨1,4,(.seq (.set 1 (.ix (.v 0) (.c (.int 2))))
 (.seq (.set 2 (.ix (.v 0) (.c (.int 3))))
 (.seq (.set 3 (.ix (.v 0) (.c (.int 4))))
 (.seq (.ite (.or (.and (.cmp .Eq (.v 2) (.c (.str (S "*")))) (.cmp .Eq (.v 3) (.c (.tup [(.str (S "number")),(.int 0)])))) (.or (.and (.cmp .Eq (.v 2) (.c (.str (S "mod")))) (.cmp .Eq (.v 3) (.c (.tup [(.str (S "number")),(.int 1)])))) (.and (.cmp .Eq (.v 2) (.c (.str (S "-")))) (.cmp .Eq (.v 1) (.v 3))))) (.seq (.ret (.tupE (.aC (.c (.str (S "put"))) (.aC (.ix (.v 0) (.c (.int 1))) (.aC (.c (.tup [(.str (S "number")),(.int 0)])) (.aC (.c (.str (S "+"))) (.aC (.c (.tup [(.str (S "number")),(.int 0)])) .aN)))))))
 .skip) .skip)
 (.seq (.ite (.and (.cmp .In (.v 2) (.tupE (.aC (.c (.str (S "*"))) (.aC (.c (.str (S "/"))) .aN)))) (.cmp .Eq (.v 3) (.c (.tup [(.str (S "number")),(.int 1)])))) (.seq (.ret (.tupE (.aC (.c (.str (S "put"))) (.aC (.ix (.v 0) (.c (.int 1))) (.aC (.v 1) (.aC (.c (.str (S "+"))) (.aC (.c (.tup [(.str (S "number")),(.int 0)])) .aN)))))))
 .skip) .skip)
 (.seq (.ret (.v 0))
 .skip))))))⟩
def X3:FD:=⟨1,1,(.seq (.ite (.call 73 (.aC (.ix (.v 0) (.c (.int 2))) (.aC (.ix (.v 0) (.c (.int 4))) .aN)) []) (.seq (.ret (.tupE (.aC (.c (.str (S "put"))) (.aC (.ix (.v 0) (.c (.int 1))) (.aC (.tupE (.aC (.c (.str (S "number"))) (.aC (.call 3 (.aC (.ix (.ix (.v 0) (.c (.int 2))) (.c (.int 1))) (.aC (.ix (.v 0) (.c (.int 3))) (.aC (.ix (.ix (.v 0) (.c (.int 4))) (.c (.int 1))) .aN))) []) .aN))) (.aC (.c (.str (S "+"))) (.aC (.c (.tup [(.str (S "number")),(.int 0)])) .aN)))))))
 .skip) .skip)
 (.seq (.set 0 (.call 75 (.aC (.v 0) .aN) []))
 (.seq (.ite (.cmp .In (.ix (.v 0) (.c (.int 3))) (.tupE (.aC (.c (.str (S "+"))) (.aC (.c (.str (S "*"))) .aN)))) (.seq (.set 0 (.call 74 (.aC (.v 0) (.aC (.c (.int 2)) (.aC (.c (.int 4)) .aN))) []))
 .skip) .skip)
 (.seq (.set 0 (.call 76 (.aC (.v 0) .aN) []))
 (.seq (.ite (.cmp .Eq (.v 0) (.tupE (.aC (.c (.str (S "put"))) (.aC (.ix (.v 0) (.c (.int 1))) (.aC (.tupE (.aC (.c (.str (S "name"))) (.aC (.ix (.v 0) (.c (.int 1))) .aN))) (.aC (.c (.str (S "+"))) (.aC (.c (.tup [(.str (S "number")),(.int 0)])) .aN))))))) (.seq (.ret (.c (.tup [(.str (S "skip"))])))
 .skip) .skip)
 (.seq (.ret (.v 0))
 .skip))))))⟩
def Z5:FD:=⟨1,1,(.seq (.ite (.cmp .Eq (.ix (.v 0) (.c (.int 2))) (.c (.str (S ">")))) (.seq (.ret (.tupE (.aC (.c (.str (S "if"))) (.aC (.ix (.v 0) (.c (.int 3))) (.aC (.c (.str (S "<"))) (.aC (.ix (.v 0) (.c (.int 1))) (.aC (.ix (.v 0) (.c (.int 4))) .aN)))))))
 .skip) .skip)
 (.seq (.ite (.cmp .Eq (.ix (.v 0) (.c (.int 2))) (.c (.str (S ">=")))) (.seq (.ret (.tupE (.aC (.c (.str (S "if"))) (.aC (.ix (.v 0) (.c (.int 3))) (.aC (.c (.str (S "<="))) (.aC (.ix (.v 0) (.c (.int 1))) (.aC (.ix (.v 0) (.c (.int 4))) .aN)))))))
 .skip) .skip)
 (.seq (.ret (.v 0))
 .skip)))⟩
noncomputable def Y4:FD:=⟨1,1,(.seq (.ret (.or (.call 73 (.aC (.ix (.v 0) (.c (.int 1))) (.aC (.ix (.v 0) (.c (.int 3))) .aN)) []) (.cmp .Eq (.ix (.v 0) (.c (.int 1))) (.ix (.v 0) (.c (.int 3))))))
 .skip)⟩
def Wz:FD:=⟨1,2,(.seq (.set 1 (.call 4 (.aC (.ix (.ix (.v 0) (.c (.int 1))) (.c (.int 1))) (.aC (.ix (.v 0) (.c (.int 2))) (.aC (.ix (.ix (.v 0) (.c (.int 3))) (.c (.int 1))) .aN))) []))
 (.seq (.ret (.ife (.v 1) (.tupE (.aC (.c (.str (S "go"))) (.aC (.ix (.v 0) (.c (.int 4))) .aN))) (.c (.tup [(.str (S "skip"))]))))
 .skip))⟩
def YB:FD:=⟨1,3,(.seq (.set 1 (.ix (.v 0) (.c (.int 1))))
 (.seq (.set 2 (.ix (.v 0) (.c (.int 3))))
 (.seq (.ite (.cmp .NotEq (.ix (.v 0) (.c (.int 2))) (.c (.str (S "<=")))) (.seq (.ret (.v 0))
 .skip) .skip)
 (.seq (.ite (.and (.cmp .Eq (.ix (.v 2) (.c (.int 0))) (.c (.str (S "number")))) (.cmp .Lt (.ix (.v 2) (.c (.int 1))) (.c (.int 999999999)))) (.seq (.ret (.tupE (.aC (.c (.str (S "if"))) (.aC (.v 1) (.aC (.c (.str (S "<"))) (.aC (.tupE (.aC (.c (.str (S "number"))) (.aC (.bin .Add (.ix (.v 2) (.c (.int 1))) (.c (.int 1))) .aN))) (.aC (.ix (.v 0) (.c (.int 4))) .aN)))))))
 .skip) .skip)
 (.seq (.ite (.and (.cmp .Eq (.ix (.v 1) (.c (.int 0))) (.c (.str (S "number")))) (.cmp .Gt (.ix (.v 1) (.c (.int 1))) (.c (.int (-1000000000))))) (.seq (.ret (.tupE (.aC (.c (.str (S "if"))) (.aC (.tupE (.aC (.c (.str (S "number"))) (.aC (.bin .Sub (.ix (.v 1) (.c (.int 1))) (.c (.int 1))) .aN))) (.aC (.c (.str (S "<"))) (.aC (.v 2) (.aC (.ix (.v 0) (.c (.int 4))) .aN)))))))
 .skip) .skip)
 (.seq (.ret (.v 0))
 .skip))))))⟩
def Ww:FD:=⟨2,2,(.seq (.ite (.cmp .Eq (.ix (.v 0) (.c (.int 4))) (.bin .Add (.v 1) (.c (.int 1)))) (.seq (.ret (.c (.tup [(.str (S "skip"))])))
 .skip) .skip)
 (.seq (.set 0 (.call 78 (.aC (.v 0) .aN) []))
 (.seq (.ite (.call 79 (.aC (.v 0) .aN) []) (.seq (.ret (.call 80 (.aC (.v 0) .aN) []))
 .skip) .skip)
 (.seq (.ite (.cmp .In (.ix (.v 0) (.c (.int 2))) (.tupE (.aC (.c (.str (S "="))) (.aC (.c (.str (S "!="))) .aN)))) (.seq (.set 0 (.call 74 (.aC (.v 0) (.aC (.c (.int 1)) (.aC (.c (.int 3)) .aN))) []))
 .skip) .skip)
 (.seq (.ret (.call 81 (.aC (.v 0) .aN) []))
 .skip)))))⟩
def Z1:FD:=⟨2,2,(.seq (.ite (.cmp .Eq (.ix (.v 0) (.c (.int 0))) (.c (.str (S "put")))) (.seq (.ret (.call 77 (.aC (.v 0) .aN) []))
 .skip) .skip)
 (.seq (.ite (.cmp .Eq (.ix (.v 0) (.c (.int 0))) (.c (.str (S "if")))) (.seq (.ret (.call 82 (.aC (.v 0) (.aC (.v 1) .aN)) []))
 .skip) .skip)
 (.seq (.ite (.cmp .Eq (.v 0) (.tupE (.aC (.c (.str (S "go"))) (.aC (.bin .Add (.v 1) (.c (.int 1))) .aN)))) (.seq (.ret (.c (.tup [(.str (S "skip"))])))
 .skip) .skip)
 (.seq (.ret (.v 0))
 .skip))))⟩
noncomputable def Vx:CE:=(.comp2 [] (.ix (.v 0) (.c (.int 2))) (.call 83 (.aC (.v 1) (.aC (.v 0) .aN)) []) (.c (.bl ac)))
def Ja:FD:=⟨1,2,(.seq (.set 1 Vx)
 (.seq (.ret (.tupE (.aC (.ix (.v 0) (.c (.int 0))) (.aC (.ix (.v 0) (.c (.int 1))) (.aC (.tOf (.v 1)) .aN)))))
 .skip))⟩
def We:FD:=⟨2,2,(.seq (.ite (.cmp .GtE (.v 1) (.len (.ix (.v 0) (.c (.int 2))))) (.seq (.ret (.c (.tup [(.str (S "end"))])))
 .skip) .skip)
 (.seq (.ret (.call 83 (.aC (.ix (.ix (.v 0) (.c (.int 2))) (.v 1)) (.aC (.v 1) .aN)) []))
 .skip))⟩
def Y3:FD:=⟨1,1,(.seq (.ret (.or (.cmp .Eq (.v 0) (.c (.tup [(.str (S "end"))]))) (.cmp .Eq (.ix (.v 0) (.c (.int 0))) (.c (.str (S "tell"))))))
 .skip)⟩
def Vi:CS:=(.seq (.ite (.and (.cmp .Eq (.ix (.ix (.v 0) (.v 2)) (.c (.int 0))) (.c (.str (S "name")))) (.not (.call 114 (.aC (.v 1) (.aC (.ix (.ix (.v 0) (.v 2)) (.c (.int 1))) .aN)) []))) (.seq (.ret (.c (.bl ae)))
 .skip) .skip)
 .skip)
def Y5:FD:=⟨2,3,(.seq (.for1 2 ae (.call 113 (.aC (.v 0) .aN) []) Vi)
 (.seq (.ret (.c (.bl ac)))
 .skip))⟩
def Xp:FD:=⟨3,3,(.seq (.ret (.and (.cmp .Eq (.v 0) (.v 1)) (.or (.cmp .Eq (.v 0) (.c (.tup [(.str (S "end"))]))) (.call 117 (.aC (.v 0) (.aC (.v 2) .aN)) []))))
 .skip)⟩
def ZQ:FD:=⟨3,3,(.seq (.ret (.and (.cmp .Eq (.ix (.v 0) (.c (.int 0))) (.c (.str (S "if")))) (.and (.cmp .Eq (.ix (.v 1) (.c (.int 0))) (.c (.str (S "if")))) (.and (.cmp .Eq (.slice (.v 0) (.part (.c (.int 1))) (.part (.c (.int 4)))) (.slice (.v 1) (.part (.c (.int 1))) (.part (.c (.int 4))))) (.call 117 (.aC (.v 0) (.aC (.v 2) .aN)) [])))))
 .skip)⟩
def Zx:CS:=(.seq (.ite (.cmp .Eq (.ix (.v 3) (.c (.int 0))) (.c (.str (S "put")))) (.seq (.set 2 (.call 57 (.aC (.v 2) (.aC (.ix (.v 3) (.c (.int 1))) .aN)) []))
 .skip) .skip)
 .skip)
def WA:FD:=⟨3,4,(.seq (.ite (.and (.cmp .Eq (.ix (.v 0) (.c (.int 0))) (.c (.str (S "put")))) (.and (.cmp .Eq (.v 0) (.v 1)) (.call 117 (.aC (.v 0) (.aC (.v 2) .aN)) []))) (.seq (.ret (.bin .BitOr (.v 2) (.call 43 (.aC (.ix (.v 0) (.c (.int 1))) .aN) [])))
 .skip) .skip)
 (.seq (.for1 3 ae (.tupE (.aC (.v 0) (.aC (.v 1) .aN))) Zx)
 (.seq (.ret (.v 2))
 .skip)))⟩
def ZM:FD:=⟨2,2,(.seq (.ite (.cmp .Eq (.ix (.v 0) (.c (.int 0))) (.c (.str (S "go")))) (.seq (.ret (.tupE (.aC (.ix (.v 0) (.c (.int 1))) .aN)))
 .skip) .skip)
 (.seq (.ite (.cmp .Eq (.ix (.v 0) (.c (.int 0))) (.c (.str (S "if")))) (.seq (.ret (.tupE (.aC (.ix (.v 0) (.c (.int 4))) (.aC (.bin .Add (.v 1) (.c (.int 1))) .aN))))
 .skip) .skip)
 (.seq (.ret (.tupE (.aC (.bin .Add (.v 1) (.c (.int 1))) .aN)))
 .skip)))⟩
noncomputable def Jh:CE:=(.comp ae [9,7] (.call 121 (.aC (.v 6) (.aC (.v 3) .aN)) []) (.tupE (.aC (.v 1) (.aC (.v 0) (.aC (.v 2) .aN)))) (.c (.bl ac)))
def Q5:CS:=(.seq (.ext 8 Jh)
 .skip)
abbrev jN(n:Nat):Option D:=aa (.int n)
abbrev jI(n:Int):Option D:=aa (.int n)
abbrev jL(n:Nat):Option D:=aa (.lst n)
noncomputable abbrev CE.i(n:Int):CE:=.c (.int n)
noncomputable abbrev CE.t(s:String):CE:=.c (.str (S s))
noncomputable abbrev CE.u(a:CE):CE:=.aC a .aN
noncomputable abbrev CS.z(a:CS):CS:=.seq a .skip
noncomputable abbrev CS.w(c:CE)(a:CS):CS:=.ite c a .skip
abbrev CE.f(n:Nat)(a:CE):CE:=.call n a []
abbrev CE.x(n:Nat)(i:Int):CE:=.ix (.v n) (.i i)
abbrev CE.a(n:Nat)(b:CE):CE:=.aC (.v n) b
abbrev CE.s(n:Nat):CE:=.u (.v n)
abbrev CE.e(a b:CE):CE:=.cmp .Eq a b
abbrev CE.p(a b:CE):CE:=.bin .Add a b
abbrev CE.m(a b:CE):CE:=.bin .Mod a b
abbrev CE.h(a b:CE):CE:=.bin .Mult a b
abbrev CE.k(a b:CE):CE:=.bin .FloorDiv a b
abbrev CE.l(a b:CE):CE:=.bin .Sub a b
abbrev CE.g(a:CE):CE:=.tupE a
abbrev CS.y(n:Nat)(a:CE)(b:CS):CS:=.seq (.set n a) b
abbrev CS.k(a:CE)(b c:CS):CS:=.seq (.w a b) c
abbrev CS.q(a:CE):CS:=.z (.ret a)
def c_follow:FD:=⟨5,10,(.y 5 (.f 115 (.a 0 (.s 2)))
 (.y 6 (.f 115 (.a 1 (.s 3)))
 (.k (.or (.f 116 (.s 5)) (.f 116 (.s 6))) (.q (.ife (.f 118 (.a 5 (.a 6 (.s 4)))) (.g .aN) (.c .non)))
 (.k (.f 119 (.a 5 (.a 6 (.s 4)))) (.q (.g (.aC (.g (.aC (.x 5 4) (.aC (.x 6 4) (.s 4)))) (.u (.g (.aC (.p (.v 2) (.i 1)) (.aC (.p (.v 3) (.i 1)) (.s 4))))))))
 (.y 7 (.f 120 (.a 5 (.a 6 (.s 4))))
 (.y 8 (.lstE .aN)
 (.seq (.for1 9 ae (.f 121 (.a 5 (.s 2))) Q5)
 (.q (.tOf (.v 8))))))))))⟩
def Ye:FD:=⟨2,10,(.y 2 (.dd (.i 0) (.i 0) (.f 56 (.u (.x 0 1))))
 (.y 3 (.lstE (.u (.g (.aC (.i 0) (.u (.i 0))))))
 (.seq (.whl (.cmp .Gt (.len (.v 3)) (.i 0)) (.y 4 (.pop (.v 3))
 (.y 5 (.f 122 (.a 0 (.a 1 (.aC (.x 4 0) (.aC (.x 4 1) (.u (.ix (.v 2) (.v 4))))))))
 (.k (.cmp .Is (.v 5) (.c .non)) (.q (.c .non))
 (.z (.for4 6 7 8 (.v 5) (.y 9 (.bin .BitAnd (.v 8) (.dgN (.v 2) (.g (.a 6 (.s 7))) (.v 8)))
 (.z (.w (.cmp .NotEq (.dgN (.v 2) (.g (.a 6 (.s 7))) (.c .non)) (.v 9)) (.seq (.dput 2 (.v 6) (.v 7) (.v 9))
 (.z (.app 3 (.g (.a 6 (.s 7)))))))))))))))
 (.q (.tOf (.compT [2] (.ksrt (.v 2)) (.g (.a 0 (.a 1 (.u (.ix (.v 2) (.g (.a 0 (.s 1)))))))) (.c (.bl ac))))))))⟩
def Qd:CS:=(.z (.w (.cmp .NotEq (.ix (.v 4) (.v 6)) (.ix (.v 5) (.v 6))) (.q (.g (.a 6 (.aC (.ix (.v 4) (.v 6)) (.u (.ix (.v 5) (.v 6)))))))))
def Wy:FD:=⟨4,7,(.y 4 (.f 12 (.a 0 (.a 2 (.s 3))))
 (.y 5 (.f 12 (.a 1 (.a 2 (.s 3))))
 (.seq (.for1 6 ac (.min (.len (.v 4)) (.len (.v 5))) Qd)
 (.q (.c .non)))))⟩
noncomputable def UE:FD:=⟨4,4,(.q (.cmp .NotEq (.f 13 (.a 0 (.a 2 (.s 3)))) (.f 13 (.a 1 (.a 2 (.s 3))))))⟩
def Q6:CS:=(.z (.w (.f 99 (.a 0 (.a 1 (.a 3 (.s 2))))) (.q (.v 3))))
def Vr:FD:=⟨3,4,(.seq (.for1 3 ae (.f 139 (.s 0)) Q6)
 (.q (.c .non)))⟩
def Wc:CS:=(.z (.w (.f 99 (.a 0 (.a 1 (.a 5 (.s 3))))) (.q (.v 4))))
def Yl:FD:=⟨4,6,(.seq (.forE 4 5 (.v 2) Wc)
 (.q (.c .non)))⟩
def WB:FD:=⟨4,7,(.k (.e (.f 106 (.s 1)) (.f 106 (.s 0))) (.q (.g (.u (.t "same"))))
 (.y 4 (.f 281 (.a 0 (.a 1 (.a 2 (.s 3)))))
 (.k (.cmp .IsNot (.v 4) (.c .non)) (.q (.g (.aC (.t "trial") (.a 4 (.u (.ix (.f 98 (.a 0 (.a 1 (.aC (.ix (.v 2) (.v 4)) (.s 3))))) (.i 0)))))))
 (.y 5 (.f 201 (.a 0 (.s 1)))
 (.k (.cmp .IsNot (.v 5) (.c .non)) (.q (.g (.aC (.t "paper") (.s 5))))
 (.y 6 (.f 140 (.a 0 (.a 1 (.s 3))))
 (.k (.cmp .IsNot (.v 6) (.c .non)) (.q (.g (.aC (.t "found") (.a 6 (.u (.ix (.f 98 (.a 0 (.a 1 (.a 6 (.s 3))))) (.i 0)))))))
 (.q (.ife (.f 135 (.s 0)) (.g (.u (.t "unknown"))) (.g (.u (.t "table"))))))))))))⟩
noncomputable def X5:FD:=⟨3,3,(.seq (.act (.f 181 (.s 1)))
 (.q (.tOf (.comp3 [2,0,1] (.f 172 (.s 0)) (.f 282 (.a 4 (.aC (.f 180 (.a 4 (.a 0 (.s 2)))) (.a 5 (.s 3))))) (.c (.bl ac))))))⟩
noncomputable def Ua:CE:=(.comp ae [] (.rng2 (.v 3) .aN) (.tOf (.v 0)) (.c (.bl ac)))
def Yr:CS:=(.y 6 (.f 106 (.u (.f 180 (.a 0 (.aC (.x 5 0) (.u (.x 5 2)))))))
 (.z (.ite (.e (.v 6) (.v 1)) (.z (.app 2 (.v 4))) (.z (.sda 3 (.v 6) (.v 4))))))
def UG:FD:=⟨1,7,(.y 1 (.f 106 (.s 0))
 (.y 2 (.lstE .aN)
 (.y 3 .dnew
 (.seq (.forE 4 5 (.f 172 (.s 0)) Yr)
 (.q (.g (.aC (.tOf (.v 2)) (.u (.tOf Ua)))))))))⟩
noncomputable def UA:FD:=⟨1,1,(.q (.and (.isi .int (.v 0)) (.not (.isi .bool (.v 0)))))⟩
def Yv:FD:=⟨2,2,(.k (.cmp .Lt (.v 1) (.len (.v 0))) (.q (.ix (.v 0) (.v 1)))
 (.k (.e (.v 0) (.lstE .aN)) (.q (.m (.h (.p (.h (.v 1) (.v 1)) (.i 7)) (.i 48271)) (.i 2147483629)))
 (.q (.m (.h (.p (.m (.x 0 0) (.i 2147483647)) (.i 7)) (.p (.h (.v 1) (.v 1)) (.i 48271))) (.i 2147483629)))))⟩
def Yk:FD:=⟨1,2,(.y 1 (.lstE (.aC (.neg (.i 1000000000)) (.aC (.neg (.i 999999999)) (.aC (.neg (.i 2)) (.aC (.neg (.i 1)) (.aC (.i 0) (.aC (.i 1) (.aC (.i 2) (.u (.i 999999999))))))))))
 (.k (.e (.m (.v 0) (.i 8)) (.i 0)) (.q (.ix (.v 1) (.m (.k (.v 0) (.i 8)) (.i 8))))
 (.k (.e (.m (.v 0) (.i 8)) (.i 1)) (.q (.l (.m (.h (.k (.v 0) (.i 8)) (.i 48271)) (.i 2000000000)) (.i 1000000000)))
 (.q (.l (.m (.k (.v 0) (.i 8)) (.i 7)) (.i 3))))))⟩
def Yx:FD:=⟨2,2,(.k (.cmp .Gt (.m (.v 0) (.i 3)) (.i 0)) (.q (.g (.aC (.t "name") (.u (.m (.k (.v 0) (.i 3)) (.v 1))))))
 (.q (.g (.aC (.t "number") (.u (.f 19 (.u (.k (.v 0) (.i 3)))))))))⟩
def X1:FD:=⟨4,9,(.y 4 (.f 28 (.aC (.m (.h (.v 1) (.i 48271)) (.i 2147483647)) (.s 2)))
 (.y 5 (.f 28 (.aC (.m (.h (.p (.v 1) (.i 5)) (.i 1226874159)) (.i 2147483647)) (.s 2)))
 (.y 6 (.m (.h (.v 0) (.i 48271)) (.i 2147483647))
 (.y 7 (.m (.m (.h (.p (.v 0) (.i 1)) (.i 742938285)) (.i 2147483647)) (.p (.v 3) (.i 1)))
 (.k (.cmp .Lt (.m (.v 0) (.i 8)) (.i 4)) (.y 8 (.m (.m (.h (.p (.v 1) (.i 3)) (.i 950706376)) (.i 2147483647)) (.v 2))
 (.q (.g (.aC (.t "put") (.a 8 (.a 4 (.aC (.ix (.lstE (.aC (.t "+") (.aC (.t "-") (.aC (.t "*") (.aC (.t "/") (.u (.t "mod"))))))) (.m (.v 6) (.i 5))) (.s 5))))))))
 (.k (.cmp .Lt (.m (.v 0) (.i 8)) (.i 6)) (.q (.g (.aC (.t "if") (.a 4 (.aC (.ix (.lstE (.aC (.t "<") (.aC (.t "<=") (.aC (.t "=") (.aC (.t ">=") (.aC (.t ">") (.u (.t "!=")))))))) (.m (.v 6) (.i 6))) (.a 5 (.s 7)))))))
 (.k (.e (.m (.v 0) (.i 8)) (.i 6)) (.q (.ix (.lstE (.aC (.g (.aC (.t "go") (.s 7))) (.u (.g (.u (.t "skip")))))) (.m (.v 6) (.i 2))))
 (.q (.g (.aC (.t "tell") (.s 4)))))))))))⟩
def Yz:FD:=⟨1,2,(.y 1 (.l (.m (.k (.v 0) (.i 8)) (.i 7)) (.i 3))
 (.q (.g (.a 1 (.u (.p (.v 1) (.m (.k (.v 0) (.i 56)) (.i 3))))))))⟩
def Yd:CE:=(.comp ac [0] (.v 3) (.f 284 (.u (.f 27 (.a 1 (.u (.p (.i 2) (.v 0))))))) (.c (.bl ac)))
def Wo:CS:=(.y 8 (.f 27 (.a 0 (.u (.p (.i 5) (.h (.i 2) (.v 7))))))
 (.z (.app 6 (.f 29 (.a 8 (.aC (.f 27 (.a 0 (.u (.p (.i 6) (.h (.i 2) (.v 7)))))) (.a 4 (.s 5))))))))
def Yy:FD:=⟨2,10,(.y 2 (.m (.f 27 (.a 0 (.u (.i 0)))) (.i 2147483647))
 (.y 3 (.m (.v 2) (.i 4))
 (.y 4 (.max (.i 1) (.p (.v 3) (.h (.m (.k (.v 2) (.i 4)) (.i 2)) (.intOf (.cmp .Lt (.v 3) (.i 4))))))
 (.y 5 (.m (.f 27 (.a 0 (.u (.i 1)))) (.p (.v 1) (.i 1)))
 (.y 6 (.lstE .aN)
 (.seq (.for1 7 ac (.v 5) Wo)
 (.k (.and (.cmp .Gt (.v 5) (.i 0)) (.cmp .Gt (.m (.k (.v 2) (.i 8)) (.i 4)) (.i 0))) (.z (.put 6 (.neg (.i 1)) (.g (.aC (.t "tell") (.u (.g (.aC (.t "name") (.u (.m (.k (.v 2) (.i 32)) (.v 4))))))))))
 (.y 9 Yd
 (.q (.g (.aC (.tOf (.v 9)) (.a 4 (.u (.tOf (.v 6)))))))))))))))⟩
def Xb:CE:=(.comp ac [4,0,1,2] (.v 2) (.f 27 (.a 2 (.u (.p (.p (.p (.v 3) (.i 1)) (.h (.v 1) (.v 4))) (.v 0))))) (.c (.bl ac)))
noncomputable def Xc:CE:=(.comp ae [] (.v 5) (.f 19 (.s 0)) (.c (.bl ac)))
def WV:CS:=(.y 5 Xb
 (.z (.app 3 (.tOf Xc))))
def YQ:FD:=⟨3,6,(.y 3 (.lstE .aN)
 (.seq (.for1 4 ac (.m (.f 27 (.a 0 (.s 1))) (.i 4)) WV)
 (.q (.tOf (.v 3)))))⟩
def Y2:FD:=⟨1,1,(.k (.e (.m (.k (.v 0) (.i 11)) (.i 8)) (.i 3)) (.q (.i 30))
 (.q (.m (.v 0) (.i 11))))⟩
def ZL:FD:=⟨2,2,(.k (.e (.x 0 0) (.t "if")) (.q (.p (.slice (.v 0) .nop (.part (.i 4))) (.g (.u (.p (.x 0 4) (.intOf (.cmp .Gt (.x 0 4) (.v 1))))))))
 (.k (.e (.x 0 0) (.t "go")) (.q (.g (.aC (.t "go") (.u (.p (.x 0 1) (.intOf (.cmp .Gt (.x 0 1) (.v 1))))))))
 (.q (.v 0))))⟩
def WC:CE:=(.comp ae [] (.x 0 2) (.f 103 (.a 0 (.u (.i 0)))) (.c (.bl ac)))
def Yw:FD:=⟨1,2,(.y 1 WC
 (.q (.p (.slice (.v 0) .nop (.part (.i 2))) (.g (.u (.tOf (.p (.slice (.v 1) .nop (.part (.i 1))) (.v 1))))))))⟩
def Xk:CS:=(.z (.w (.or (.cmp .NotEq (.ix (.v 6) (.v 9)) (.ix (.v 6) (.x 10 0))) (.e (.ix (.ix (.v 6) (.v 9)) (.i 0)) (.t "same"))) (.q (.c (.bl ae)))))
def WM:CS:=(.z (.for1 9 ae (.v 10) Xk))
def YH:CS:=(.z (.w (.or (.not (.isi .tuple (.ix (.v 6) (.v 9)))) (.cmp .NotEq (.e (.ix (.v 6) (.v 9)) (.g (.u (.t "same")))) (.cmp .In (.v 9) (.v 7)))) (.q (.c (.bl ae)))))
def Z2:CS:=(.y 6 (.f 283 (.a 5 (.a 4 (.s 3))))
 (.seq (.set2 7 8 (.f 231 (.s 5)))
 (.k (.not (.isi .tuple (.v 6))) (.q (.c (.bl ae)))
 (.seq (.for1 9 ac (.len (.v 6)) YH)
 (.z (.for1 10 ae (.v 8) WM))))))
def c_law_k65:FD:=⟨1,11,(.y 1 (.f 30 (.a 0 (.u (.i 4))))
 (.y 2 (.p (.i 5) (.h (.i 2) (.len (.x 1 2))))
 (.y 3 (.f 102 (.u (.f 27 (.a 0 (.s 2)))))
 (.k (.cmp .Gt (.len (.x 1 0)) (.i 2)) (.z (.set 3 (.m (.v 3) (.i 11))))
 (.y 4 (.f 51 (.a 0 (.aC (.p (.v 2) (.i 1)) (.u (.len (.x 1 0))))))
 (.seq (.for1 5 ae (.lstE (.a 1 (.u (.f 125 (.s 1))))) Z2)
 (.q (.c (.bl ac)))))))))⟩
end Dp
noncomputable section
namespace Dp
open PySem
def T:Nat->Ot FD
 |42=>aa X4
 |113=>aa ZV
 |43=>aa Vp
 |56=>aa X2
 |114=>aa Wu
 |57=>aa YS
 |0=>aa Vn
 |1=>aa XL
 |2=>aa YI
 |3=>aa Vq
 |4=>aa UD
 |70=>aa Wd
 |147=>aa WN
 |148=>aa XS
 |170=>aa Xm
 |171=>aa Zz
 |150=>aa Xl
 |151=>aa YO
 |158=>aa Xo
 |159=>aa ZB
 |153=>aa X0
 |154=>aa ZK
 |161=>aa Xn
 |162=>aa ZA
 |164=>aa XZ
 |165=>aa ZJ
 |172=>aa UC
 |180=>aa Wt
 |5=>aa W3
 |6=>aa UB
 |7=>aa Vo
 |8=>aa Zw
 |9=>aa ZG
 |10=>aa W1
 |11=>aa Yo
 |12=>aa W2
 |13=>aa Wx
 |181=>aa YA
 |133=>aa UH
 |134=>aa Xq
 |135=>aa Wv
 |136=>aa ZbO
 |137=>aa Xr
 |138=>aa ZbP
 |139=>aa UF
 |73=>aa YR
 |74=>aa Z7
 |75=>aa Z6
 |76=>aa ZZ
 |77=>aa X3
 |78=>aa Z5
 |79=>aa Y4
 |80=>aa Wz
 |81=>aa YB
 |82=>aa Ww
 |83=>aa Z1
 |106=>aa Ja
 |115=>aa We
 |116=>aa Y3
 |117=>aa Y5
 |118=>aa Xp
 |119=>aa ZQ
 |120=>aa WA
 |121=>aa ZM
 |122=>aa c_follow
 |201=>aa Ye
 |98=>aa Wy
 |99=>aa UE
 |140=>aa Vr
 |281=>aa Yl
 |282=>aa WB
 |283=>aa X5
 |231=>aa UG
 |17=>aa UA
 |27=>aa Yv
 |19=>aa Yk
 |28=>aa Yx
 |29=>aa X1
 |284=>aa Yz
 |30=>aa Yy
 |51=>aa YQ
 |102=>aa Y2
 |103=>aa ZL
 |125=>aa Yw
 |16=>aa c_law_k65
 |_=>ab
abbrev rT:=run T
structure Grw(s s':Za):Prop where
 old:∀ i,i < s.length->s'[i]?=s[i]?
 len:s.length<=s'.length
variable{α:Type}{U':Env}{wk:D->Za->Ot (Li D×(Za->Prop))}{fr:Li Nat}{it elt:CE}{lo hi:Ot Int}
variable{F:Nat->Fn}{s st:Za}{e a b c:CE}{U:Env}{d x y:D}{q p:CS}{n f i j w:Nat}{xs ds:Li D}
section
variable{s' s1 s2:Za}{z:D}{k m:Bool}{t:Xg}
def Zk{l:Li α}{x:α}(h:l[i]?=aa x):i < l.length:=(bP.mp h).1
def Grw.refl:Grw s s:=⟨λ_ _=>rfl,aE _⟩
theorem Grw.trans(a:Grw s s1)(b:Grw s1 s2):Grw s s2:=⟨λi h=>(b.old i (aU h a.len)).trans (a.old i h),aR a.len b.len⟩
def Grw.get(g:Grw s s')(h:s[i]?=aa t):s'[i]?=aa t:=(g.old i (Zk h)).trans h
def Grw.push:Grw s (s++[t]):=⟨λi h=>bS h,by rw[aI];omega⟩
def Grw.nil:Grw [] s:=⟨λ_ h=>ar h (Nat.not_lt_zero _),aS _⟩
def Gv(s:Za)(f:Za->Res)(d:D):Prop:=∀ st,Grw s st->∃ st',f st=aa (d,st')/\Grw st st'
def Y(F:Nat->Fn)(s:Za)(e:CE)(U:Env)(d:D):Prop:=Gv s (ev F e U) d
def C(F:Nat->Fn)(s:Za)(f:Nat)(ds:Li D)(d:D):Prop:=Gv s (F f ds) d
def R(F:Nat->Fn)(s:Za)(q:CS)(U:Env)(d:D):Prop:=∀ st,Grw s st->∃ st',ex F q U st=aa (.rt d,st')/\Grw st st'
def rf{f:Za->Res}(x:Za):f x=f x:=rfl
def Y.r(h:∀ st,ev F e U st=aa (d,st)):Y F s e U d:=λst _=>⟨st,h st,.refl⟩
def Y.at(h:∀ st,Grw s st->ev F e U st=aa (d,st)):Y F s e U d:=λst g=>⟨st,h st g,.refl⟩
def Gv.mono{f:Za->Res}(h:Gv s f d)(g:Grw s s'):Gv s' f d:=λst k=>h st (g.trans k)
def C.up(h:C F [] f ds d):C F s f ds d:=Gv.mono h .nil
def g1{g:D->Za->Res}(e:Y F s a U x)(h:Gv s (g x) d):Gv s (Zr (ev F a) g U) d:=λst k=>by
 obtain⟨s1,i,b⟩:=e st k;obtain⟨s2,f,c⟩:=h s1 (k.trans b);exact⟨s2,by unfold Zr;rw[i];exact f,b.trans c⟩
def g2{g:D->D->Za->Res}(l:Y F s a U x)(j:Y F s b U y)(h:Gv s (g x y) d):Gv s (ZT (ev F a) (ev F b) g U) d:=λst k=>by
 obtain⟨s1,o,c⟩:=l st k;obtain⟨s2,n,e⟩:=j s1 (k.trans c);obtain⟨f,m,i⟩:=h s2 (k.trans (c.trans e));exact⟨f,by unfold ZT;rw[o];simp only[n];exact m,c.trans (e.trans i)⟩
def gp{f:Za->Res}(h:∀ st,f st=aa (d,st)):Gv s f d:=λst _=>⟨st,h st,.refl⟩
def gs{f:Za->Res}(h:∀ st,Grw s st->f st=aa (d,st)):Gv s f d:=λst k=>⟨st,h st k,.refl⟩
theorem Y.cmp{op:CmpOp}(d:Y F s a U x)(c:Y F s b U y)(h:∀ st,Zd6 op x y st=aa k):Y F s (.cmp op a b) U (.bl k):=g2 d c (gp λst=>by unfold Zd7;rw[h])
def gc{e b c:Ev}(i:Gv s (e U) (.bl k))(h:Gv s ((if k then b else c) U) d):Gv s (Xt e b c U) d:=λst g=>by
 obtain⟨s1,l,a⟩:=i st g;obtain⟨s2,j,f⟩:=h s1 (g.trans a);exact⟨s2,by unfold Xt;rw[l];cases k<;>exact j,a.trans f⟩
theorem Y.and(c:Y F s a U (.bl k))(d:k=ac->Y F s b U (.bl m)):Y F s (.and a b) U (.bl (k&&m)):=by
 cases k
 .exact gc c (gp λ_=>rfl)
 .exact gc c (d rfl)
theorem Y.or(c:Y F s a U (.bl k))(d:k=ae->Y F s b U (.bl m)):Y F s (.or a b) U (.bl (k||m)):=by
 cases k
 .exact gc c (d rfl)
 .exact gc c (gp λ_=>rfl)
theorem Y.not(b:Y F s a U (.bl k)):Y F s (.not a) U (.bl (!k)):=g1 b (gp λ_=>rfl)
theorem Y.ife(e:Y F s c U (.bl k))(h:Y F s (if k then a else b) U d):Y F s (.ife c a b) U d:=by
 cases k<;>exact gc e h
theorem Y.call(b:Y F s a U (.tup xs))(h:C F s f (xs++ds) d):Y F s (.call f a ds) U d:=g1 b h
def Y.cons(e:Y F s a U x)(d:Y F s b U (.tup xs))(c:xs.length < 1000:=by first|decide | (simp only[aQ,cQ];decide)):Y F s (.aC a b) U (.tup (x :: xs)):=g2 e d (gp λst=>ao c)
def Y.nil:Y F s .aN U (.tup []):=.r rf
def Y.call1(b:Y F s a U x)(h:C F s f [x] d):Y F s (.f f (.u a)) U d:=.call (.cons b .nil) h
theorem R.ret(h:Y F s e U d):R F s (.seq (.ret e) q) U d:=λst g=>by
 obtain⟨s1,b,a⟩:=h st g;exact⟨s1,by show YV (JD (ev F e)) (ex F q) U st=_;unfold YV JD;rw[b],a⟩
def R.set(h:Y F s e U x)(c:R F s q (Zf U i x) d):R F s (.y i e q) U d:=λst g=>by
 obtain⟨s1,j,a⟩:=h st g;obtain⟨s2,f,b⟩:=c s1 (g.trans a);exact⟨s2,by show YV (VS i (ev F e)) (ex F q) U st=_;unfold YV VS;rw[j];exact f,a.trans b⟩
def R.no(h:Y F s e U (.bl ae))(c:R F s q U d):R F s (.seq (.ite e p .skip) q) U d:=λst g=>by
 obtain⟨s1,i,a⟩:=h st g;obtain⟨s2,f,b⟩:=c s1 (g.trans a);exact⟨s2,by show YV (YG (ev F e) (ex F p) (ex F .skip)) (ex F q) U st=_;unfold YV YG;rw[i];exact f,a.trans b⟩
def R.yB(h:Y F s e U (.bl ac))(c:R F s p U d):R F s (.seq (.ite e p .skip) q) U d:=λst g=>by
 obtain⟨s1,i,a⟩:=h st g;obtain⟨s2,f,b⟩:=c s1 (g.trans a);exact⟨s2,by show YV (YG (ev F e) (ex F p) (ex F .skip)) (ex F q) U st=_;unfold YV YG;rw[i];simp only[f],a.trans b⟩
def R.yes(h:Y F s e U (.bl ac))(b:Y F s a U d):R F s (.seq (.ite e (.q a) .skip) q) U d:=.yB h (.ret b)
def Zi7{v:FD}(h:T f=aa v)(a:ds.length=v.ps):rT (n+1) f ds st=match ex (rT n) v.body (ds.map aa++af (v.ns - ds.length) ab) st with
  |some (.rt d,st')=>aa (d,st')
  |some (.nx _,st')=>aa (.non,st')
  |_=>ab:=by
 show(match T f with|some f=>fnD (rT n) f|none=>λ_ _=>ab) ds st=_
 rw[h];exact ao a
def QL{v:FD}(h:T f=aa v)(b:ds.length=v.ps)(a:ex (rT n) v.body (ds.map aa++af (v.ns - ds.length) ab) st=aa (.rt d,s')):rT (n+1) f ds st=aa (d,s'):=by rw[Zi7 h b,a]
def ZkK{v:FD}(h:T f=aa v)(b:ds.length=v.ps)(a:ex (rT n) v.body (ds.map aa++af (v.ns - ds.length) ab) st=aa (.nx U',s')):rT (n+1) f ds st=aa (.non,s'):=by rw[Zi7 h b,a]
def C.of{v:FD}(h:T f=aa v)(c:ds.length=v.ps)(b:R (rT n) s v.body (ds.map aa++af (v.ns - ds.length) ab) d):C (rT (n+1)) s f ds d:=λst g=>by
 obtain⟨s1,e,a⟩:=b st g;exact⟨s1,QL h c e,a⟩
def Ze(h:ex F p U st=aa (.nx U',s')):ex F (.seq p q) U st=ex F q U' s':=by
 show YV (ex F p) (ex F q) U st=_;unfold YV;rw[h]
def Zt(h:ex F p U st=aa (.rt d,s')):ex F (.seq p q) U st=aa (.rt d,s'):=by
 show YV (ex F p) (ex F q) U st=_;unfold YV;rw[h]
theorem UI{α:Type}{f g:α->D}{ok:Za->Prop}{fe fc:D->Za->Res}(e:∀ d st,fc d st=aa (.bl ac,st))(b:∀ st,Grw s st->ok st):∀ {l:Li α},(∀ a∈l,Gv s (fe (f a)) (g a))->∀ st,Grw s st->∃ st',Z8 ok fe fc (l.map f) st=aa (l.map g,st')/\Grw st st'
 |[],_,st,k=>⟨st,ao (b st k),.refl⟩
 |x :: xs,h,st,k=>by
  obtain⟨s1,n,c⟩:=h x Ls st k;obtain⟨s2,m,i⟩:=UI e b (λd j=>h d (Lm _ j)) s1 (k.trans c)
  refine⟨s2,?_,c.trans i⟩;rw[aK,Z8,ao (b st k),e];simp only[n,m,aK]
def Lv(s:Za)(f:Za->Res)(xs:Li D):Prop:=∀ st,Grw s st->∃ st' j b,f st=aa (.lst j,st')/\st'[j]?=aa (b,xs)/\Grw st st'
def ZE:(s++[t])[s.length]?=aa t:=by rw[cB (aE _),dO];rfl
def Wk(F:Nat->Fn)(s:Za)(it:CE)(U:Env)(wk:D->Za->Ot (Li D×(Za->Prop)))(xs:Li D):Prop:=∀ st,Grw s st->∃ x a ok,ev F it U st=aa (x,a)/\Grw st a/\wk x a=aa (xs,ok)/\∀ st',Grw a st'->ok st'
def Wk.of(hi:Y F s e U x)(h:∀ st,wk x st=aa (xs,λ_=>True)):Wk F s e U wk xs:=λst k=>by
 obtain⟨s1,b,a⟩:=hi st k;exact⟨x,s1,_,b,a,h s1,λ_ _=>trivial⟩
def Ug{b:D->Li (Ot D)}{en g:α->D}{l:Li α}(hi:Wk F s it U wk (l.map en))(j:l.length<=1000)(h:∀ a∈l,Y F s elt (Yg b U fr (en a)) (g a)):Lv s (YZ b wk fr (ev F it) (ev F elt) (ev F (.c (.bl ac))) U) (l.map g):=λst k=>by
 obtain⟨x,s1,ok,p,e,o,i⟩:=hi st k;obtain⟨s2,n,f⟩:=UI (s:=s1) (ok:=ok) (fe:=λd=>ev F elt (Yg b U fr d)) (fc:=λd=>ev F (.c (.bl ac)) (Yg b U fr d)) (λ_ _=>rfl) i (λa m=>Gv.mono (h a m) (k.trans e)) s1 .refl
 refine⟨s2++[(ac,l.map g)],_,_,?_,ZE,(e.trans f).trans .push⟩;unfold YZ;simp only[p,o,aD,ao j,n]
def Q4(h:xs[j]?=aa d):atD xs (j:Int)=aa d:=by
 have:=Zk h;unfold atD ixN;rw[ao (by omega),ao (by omega),Ob,bA,h]
def Y.ixl(c:s[w]?=aa t)(f:Y F s a U (.lst w))(e:Y F s b U (.int (j:Int)))(h:t.2[j]?=aa d):Y F s (.ix a b) U d:=g2 f e (gs λst k=>by
 show ixR (.lst w) (.int (j:Int)) st=_;unfold ixR ixD;simp only[k.get c,Q4 h])
def Y.ixt(e:Y F s a U (.tup xs))(c:Y F s b U (.int (j:Int)))(h:xs[j]?=aa d):Y F s (.ix a b) U d:=g2 e c (gp λst=>by
 show ixR (.tup xs) (.int (j:Int)) st=_;unfold ixR ixD;simp only[Q4 h])
def Y.lenl(b:s[w]?=aa t)(c:Y F s a U (.lst w)):Y F s (.len a) U (.int (t.2.length:Int)):=g1 c (gs λst k=>by
 show ZcK (.lst w) st=_;unfold ZcK Zg2;simp only[k.get b])
def Lv.sl(i:s[w]?=aa t)(m:Y F s a U (.lst w))(l:Y F s b U x)(j:Y F s c U y)(h:∀ st,XH (.lst w) x y st=Ym (.lst w) lo hi st):Lv s (ev F (.slice a b c) U) (Xu t.2 lo hi):=λst k=>by
 obtain⟨s1,p,d⟩:=m st k;obtain⟨s2,o,e⟩:=l s1 (k.trans d);obtain⟨g,n,f⟩:=j s2 (k.trans (d.trans e));refine⟨g++[(ac,Xu t.2 lo hi)],_,_,?_,ZE,(d.trans (e.trans f)).trans .push⟩;show Y9 (ev F a) (ev F b) (ev F c) XH U st=_;unfold Y9;simp only[p,o,n,h];unfold Ym;simp only[(k.trans (d.trans (e.trans f))).get i]
def Lv.mk(h:Y F s e U (.tup xs)):Lv s (ev F (.lstE e) U) xs:=λst k=>by
 obtain⟨s1,b,a⟩:=h st k;exact⟨_,_,_,by show Zr (ev F e) ZeG U st=_;unfold Zr;rw[b];rfl,ZE,a.trans .push⟩
def R.setL(h:Lv s (ev F e U) xs)(f:∀ s' j b,Grw s s'->s'[j]?=aa (b,xs)->R F s' q (Zf U i (.lst j)) d):R F s (.y i e q) U d:=λst g=>by
 obtain⟨s1,j,b,m,k,a⟩:=h st g;obtain⟨s2,l,c⟩:=f s1 j b (g.trans a) k s1 .refl;exact⟨s2,by show YV (VS i (ev F e)) (ex F q) U st=_;unfold YV VS;rw[m];exact l,a.trans c⟩
def YJ{c:Xg}(h:ev F e U st=aa (.lst j,s'))(a:s'[j]?=aa c):ev F (.tOf e) U st=aa (.tup c.2,s'):=by
 show Zr (ev F e) U9 U st=_;unfold Zr;rw[h];show(match s'[j]? with
  |some (_,xs)=>aa (D.tup xs,s')
  |none=>ab)=_
 rw[a]
def Yn(h:ev F e U st=aa (d,s')):ex F (.ret e) U st=aa (.rt d,s'):=by
 show JD (ev F e) U st=_;unfold JD;rw[h]
def Zs(h:ev F e U st=aa (v,st')):ex F (.set i e) U st=aa (.nx (Zf U i v),st'):=by
 show VS i (ev F e) U st=_;unfold VS;rw[h]
def Wm(h:ev F e U st=aa (.bl ae,st')):ex F (.ite e p q) U st=ex F q U st':=by
 show YG (ev F e) (ex F p) (ex F q) U st=_;unfold YG;rw[h]
def XJ(h:ev F e U st=aa (.bl ac,st')):ex F (.ite e p q) U st=ex F p U st':=by
 show YG (ev F e) (ex F p) (ex F q) U st=_;unfold YG;rw[h]
def Zh:ex F .skip U st=aa (.nx U,st):=rfl
def Zjq(h:ev F e U st=aa (d,s')):ex F (.act e) U st=aa (.nx U,s'):=by
 show Zby (ev F e) U st=_;unfold Zby;rw[h]
end
section
local macro_rules|`(())=>`(.r rf)
local macro_rules|`(∅)=>`(by omega)
local macro_rules|`(#[])=>`(by decide)
variable{st' st1:Za}{U':Env}{ys:Li D}
section
variable{U'':Env}{k:Bool}
structure Kj(j:Nat)(st st':Za):Prop where
 old:∀ i,i < st.length->i≠j->st'[i]?=st[i]?
 len:st.length<=st'.length
def Grw.kj(g:Grw st st'):Kj j st st':=⟨λi h _=>g.old i h,g.len⟩
theorem Kj.trans(a:Kj j st st1)(b:Kj j st1 st'):Kj j st st':=⟨λi h c=>(b.old i (aU h a.len) c).trans (a.old i h c),aR a.len b.len⟩
def Kj.grw(k:Kj j st st')(a:s.length<=j)(g:Grw s st):Grw s st':=⟨λi h=>(k.old i (aU h g.len) ∅).trans (g.old i h),aR g.len k.len⟩
def W8{c:Xg}(h:i < st.length):(st.set i c)[j]?=if i=j then aa c else st[j]?:=by
 rw[List.getElem?_set];split
 .rename_i e;subst e
  first|rfl|rw[ao h]
 .rfl
def Ap(F:Nat->Fn)(s:Za)(j:Nat)(q:CS)(U U':Env)(xs:Li D):Prop:=∀ st a,Grw s st->st[j]?=aa (ac,a)->a.length+xs.length<=90000->∃ st',ex F q U st=aa (.nx U',st')/\Kj j st st'/\st'[j]?=aa (ac,a++xs)
theorem Ap.skip:Ap F s j .skip U U []:=λst a g h _=>⟨st,rfl,Grw.refl.kj,by rw[bG];exact h⟩
theorem Ap.seq(f:s.length<=j)(k:Ap F s j q U U' xs)(i:Ap F s j p U' U'' ys):Ap F s j (.seq q p) U U'' (xs++ys):=λst a g h e=>by
 rw[aI]at e;obtain⟨s1,m,g1,d⟩:=k st a g h ∅
 obtain⟨b,l,g2,c⟩:=i s1 _ (g1.grw f g) d (by rw[aI];omega)
 exact⟨b,by show YV (ex F q) (ex F p) U st=_;unfold YV;rw[m];exact l,g1.trans g2,by rw[<-bV];exact c⟩
def Ap.one(h:Ap F s j q U U' xs):Ap F s j (.z q) U U' xs:=λst a g d c=>by
 obtain⟨s1,e,g1,b⟩:=h st a g d c;exact⟨s1,by show YV (ex F q) (ex F .skip) U st=_;unfold YV;rw[e];rfl,g1,b⟩
theorem Ap.app(hi:U[i]?=aa (jL j))(h:Y F s e U d):Ap F s j (.app i e) U U [d]:=λst a g n f=>by
 obtain⟨s1,o,b⟩:=h st g;have c:=b.get n;have f:a.length+1<=90000:=f;refine⟨s1.set j (ac,a++[d]),?_,⟨λm l k=>?_,by rw[aY];exact b.len⟩,by rw[W8 (Zk c),ao rfl]⟩
 .show Q0 i (ev F e) U st=_
  unfold Q0 VY;simp only[hi,o,c];rw[ao (by unfold Zp;omega)]
 .rw[W8 (Zk c),aq (Ne.symm k)]
  exact b.old m l
theorem Ap.ite(h:Y F s e U (.bl k))(f:Ap F s j (if k then q else p) U U' xs):Ap F s j (.ite e q p) U U' xs:=λst b g l i=>by
 obtain⟨s1,n,a⟩:=h st g;obtain⟨c,m,g2,d⟩:=f s1 b (g.trans a) (a.get l) i;exact⟨c,by show YG (ev F e) (ex F q) (ex F p) U st=_;unfold YG;rw[n];cases k<;>exact m,a.kj.trans g2,d⟩
theorem Ap.set(h:Y F s e U d):Ap F s j (.set i e) U (Zf U i d) []:=λst f g b k=>by
 obtain⟨s1,c,a⟩:=h st g;exact⟨s1,by show VS i (ev F e) U st=_;unfold VS;rw[c],a.kj,by rw[bG];exact a.get b⟩
end
variable{q':CS}
variable{Q:D->Za->Prop}
section
variable{st2:Za}{m:Bool}{c:Nat}{tx:Str}
def Lv.v(b:s[j]?=aa (m,xs))(h:Y F s e U (.lst j)):Lv s (ev F e U) xs:=λst g=>by
 obtain⟨s1,c,a⟩:=h st g;exact⟨s1,j,m,c,(g.trans a).get b,a⟩
def Lv.mono{f:Za->Res}(h:Lv s f xs)(g:Grw s st):Lv st f xs:=λst1 k=>h st1 (g.trans k)
def Lv.cat(k:Lv s (ev F a U) xs)(j:Lv s (ev F b U) ys)(i:xs.length+ys.length<=Zp):Lv s (ev F (.p a b) U) (xs++ys):=λst g=>by
 obtain⟨s1,h,r,o,m,e⟩:=k st g;obtain⟨c,f,q,n,l,d⟩:=j s1 (g.trans e);refine⟨c++[(ac,xs++ys)],_,_,?_,ZE,(e.trans d).trans .push⟩;show ZT (ev F a) (ev F b) (Q8 .Add) U st=_;unfold ZT;simp only[o,n];show Zd4 h f c=_;unfold Zd4;simp only[d.get m,l];exact ao i
def RP(F:Nat->Fn)(q:CS)(U:Env)(st:Za)(Q:D->Za->Prop):Prop:=∃ d st',ex F q U st=aa (.rt d,st')/\Grw st st'/\Q d st'
def RP.pre(h:ex F q U st=ex F q' U' st1)(g:Grw st st1)(a:RP F q' U' st1 Q):RP F q U st Q:=by
 obtain⟨d,st',e,b,k⟩:=a;exact⟨d,st',h.trans e,g.trans b,k⟩
def RP.setL(h:Lv s (ev F e U) xs)(g:Grw s st)(d:∀ a j b,Grw st a->a[j]?=aa (b,xs)->RP F q (Zf U i (.lst j)) a Q):RP F (.y i e q) U st Q:=by
 obtain⟨s1,j,b,k,f,c⟩:=h st g;exact .pre (Ze (Zs k)) c (d s1 j b c f)
def RP.setY(h:Y F s e U d)(g:Grw s st)(c:∀ a,Grw st a->RP F q (Zf U i d) a Q):RP F (.y i e q) U st Q:=by
 obtain⟨s1,f,b⟩:=h st g;exact .pre (Ze (Zs f)) b (c s1 b)
def RP.no{p:CS}(h:Y F s e U (.bl ae))(g:Grw s st)(c:∀ a,Grw st a->RP F q U a Q):RP F (.seq (.ite e p .skip) q) U st Q:=by
 obtain⟨s1,d,b⟩:=h st g;exact .pre (Ze ((Wm d).trans Zh)) b (c s1 b)
theorem RP.ret(h:Y F s e U d)(g:Grw s st)(c:∀ a,Grw st a->Q d a):RP F (.seq (.ret e) q) U st Q:=by
 obtain⟨s1,f,b⟩:=h st g;exact⟨d,s1,Zt (Yn f),b,c s1 b⟩
def RP.yes{p:CS}(h:Y F s e U (.bl ac))(g:Grw s st)(i:∀ a,Grw st a->RP F p U a Q):RP F (.seq (.ite e p .skip) q) U st Q:=by
 obtain⟨s1,l,b⟩:=h st g;obtain⟨d,c,k,f,j⟩:=i s1 b;exact⟨d,c,Zt ((XJ l).trans k),b.trans f,j⟩
def CP(F:Nat->Fn)(f:Nat)(ds:Li D)(st:Za)(Q:D->Za->Prop):Prop:=∃ d st',F f ds st=aa (d,st')/\Grw st st'/\Q d st'
def CP.of{v:FD}{f:Nat}{ds:Li D}(h:T f=aa v)(c:ds.length=v.ps)(b:RP (rT n) v.body (ds.map aa++af (v.ns - ds.length) ab) st Q):CP (rT (n+1)) f ds st Q:=by
 obtain⟨d,s1,g,a,e⟩:=b;exact⟨d,s1,QL h c g,a,e⟩
end
def Sm(a:Int):Prop:=-1000000000<=a/\a<=999999999
variable{m sz:Nat}{ns:Li Int}
section
variable{i j k c:Int}{op:Operator}
def Y.bi(d:Y F s a U (.int i))(c:Y F s b U (.int j))(h:ZbH op i j=aa k):Y F s (.bin op a b) U (.int k):=g2 d c (gp λst=>by
 show Q8 op (.int i) (.int j) st=_;unfold Q8;simp only[h])
def Y.add(d:Y F s a U (.int i))(c:Y F s b U (.int j)):Y F s (.p a b) U (.int (i+j)):=.bi d c rfl
def Y.sub(d:Y F s a U (.int i))(c:Y F s b U (.int j)):Y F s (.l a b) U (.int (i - j)):=.bi d c rfl
def Y.mul(d:Y F s a U (.int i))(c:Y F s b U (.int j))(h:Z9 j=ac):Y F s (.h a b) U (.int (i * j)):=.bi d c (by show(if Z9 i||Z9 j then aa (i * j) else ab)=_;rw[h,Bool.or_true];rfl)
def Y.md(d:Y F s a U (.int i))(c:Y F s b U (.int j))(h:0 < j):Y F s (.m a b) U (.int (i % j)):=.bi d c (ao h)
def Y.fd(d:Y F s a U (.int i))(c:Y F s b U (.int j))(h:0 < j/\j < 1073741824):Y F s (.k a b) U (.int (i / j)):=.bi d c (ao h)
def Y.ixL{j:Nat}(k:Lv s (ev F a U) xs)(i:Y F s b U (.int (j:Int)))(h:xs[j]?=aa d):Y F s (.ix a b) U d:=λst g=>by
 obtain⟨s1,q,t,n,l,f⟩:=k st g;obtain⟨c,m,e⟩:=i s1 (g.trans f);refine⟨c,?_,f.trans e⟩;show ZT (ev F a) (ev F b) ixR U st=_;unfold ZT;simp only[n,m];show ixR (.lst q) (.int (j:Int)) c=_;unfold ixR ixD;simp only[e.get l,Q4 h]
def Zm(i:Int)(h:0 < j):0<=i % j/\i % j < j:=⟨Int.emod_nonneg _ ∅,Int.emod_lt_of_pos _ h⟩
def Jp(h:-(2 ^ 64) < i/\i < 2 ^ 64):Z9 i=ac:=by unfold Z9;rw[aP h.1,aP h.2];rfl
end
variable{N:Nat}
def ZcF{v:Int}(b:v < 2 ^ 62)(a:-(2 ^ 62)<=v):VF ac (.int v)=aa ((ag v.toNat).map λ(k:Nat)=>D.int (k:Int)):=by
 show(if v < 2 ^ 62/\-(2 ^ 62)<=v then aa ((ag v.toNat).map λ(k:Nat)=>D.int (k:Int)) else ab)=_
 rw[ao ⟨b,a⟩]
def Wg{v:Int}{a:Za}(c:v < 2 ^ 62)(b:-(2 ^ 62)<=v)(f:ev F e U st=aa (.int v,a)):ex F (.for1 i ac e q) U st=Zj (λd U s=>ex F q (Zf U i d) s) ((ag v.toNat).map λ(k:Nat)=>D.int (k:Int)) U a:=by
 show VA i ac (ev F e) (ex F q) U st=_;unfold VA;rw[f];simp only[ZcF c b]
noncomputable def arI(x:Int):Int:=(x+1000000000) % 2000000000 - 1000000000
noncomputable def fdI(i j:Int):Int:=if 0 < j then i / j else i.fdiv j
def rkI(a:Int)(g:Str)(b:Int):Int:=if g=S "+" then arI (a+b) else if g=S "-" then arI (a - b) else if g=S "*" then arI (a * b) else if g=S "/" then (if b=0 then 0 else arI (fdI a b)) else if b=0 then a else a - b * fdI a b
def soI(a:Int)(g:Str)(b:Int):Bool:=if g=S "<" then aj (a < b) else if g=S "<=" then aj (a<=b) else if g=S "=" then aj (a=b) else if g=S ">=" then aj (b<=a) else if g=S ">" then aj (b < a) else !decide (a=b)
def psL:Li Str:=[S "+",S "-",S "*",S "/",S "mod"]
def isL:Li Str:=[S "<",S "<=",S "=",S ">=",S ">",S "!="]
inductive Op where
 |nm (i:Nat)|nu (v:Int)
 deriving DecidableEq
noncomputable def opE:Op->D
 |.nm i=>.tup [.str "name",.int (i:Int)]
 |.nu v=>.tup [.str "number",.int v]
def Wn(m:Nat):Op->Prop
 |.nm i=>i < m
 |.nu v=>Sm v
inductive Rw where
 |put (x:Nat) (y:Op) (g:Str) (z:Op)|ifr (y:Op) (g:Str) (z:Op) (t:Nat)|go (t:Nat)|tell (y:Op)|skip
 deriving DecidableEq
def rwE:Rw->D
 |.put x y g z=>.tup [.str "put",.int (x:Int),opE y,.str g,opE z]
 |.ifr y g z t=>.tup [.str "if",opE y,.str g,opE z,.int (t:Int)]
 |.go t=>.tup [.str "go",.int (t:Int)]
 |.tell y=>.tup [.str "tell",opE y]
 |.skip=>.tup [.str "skip"]
def Zu(m sz:Nat):Rw->Prop
 |.put x y g z=>x < m/\Wn m y/\g∈psL/\Wn m z
 |.ifr y g z t=>Wn m y/\g∈isL/\Wn m z/\t<=sz
 |.go t=>t<=sz
 |.tell y=>Wn m y
 |.skip=>True
noncomputable def woI(vs:Li Int):Op->Int
 |.nm i=>vs.getD i 0
 |.nu v=>v
structure Vs(m:Nat)(vs:List Int):Prop where
 l:vs.length=m
 s:∀ v∈vs,Sm v
noncomputable def inZ(vs:Li Int):Li D:=vs.map D.int
variable{vs:Li Int}{g:Str}{o:Op}{r:Rw}
section
variable{i j:Int}
def V7:Sm (arI i):=by
 have:=Zm (i+1000000000) (j:=2000000000) #[]
 unfold Sm arI;omega
def ZjF(h:j≠0):(0 < j/\j * fdI i j<=i/\i < j * fdI i j+j)\/(j < 0/\i<=j * fdI i j/\j * fdI i j+j < i):=by
 unfold fdI;by_cases a:0 < j
 .rw[ao a]
  have b:=Int.mul_ediv_add_emod i j;have d:=Int.emod_nonneg i h;have e:=Int.emod_lt_of_pos i a;exact .inl ⟨a,∅,∅⟩
 .rw[aq a]
  have b:=Int.fmod_def i j;have d:j < 0:=by omega
  have e:=Int.emod_nonneg i h;have g:i % j < -j:=by have:=Int.emod_lt i h;omega
  rw[Int.fmod_eq_emod]at b;by_cases c:j ∣ i
  .rw[ao (.inr c),Int.emod_eq_zero_of_dvd c]at b
   exact .inr ⟨d,∅,∅⟩
  .have f:i % j≠0:=λz=>c (Int.dvd_of_emod_eq_zero z)
   rw[aq ∅]at b
   exact .inr ⟨d,∅,∅⟩
def Zf6(a:Sm i)(e:Sm j):Sm (rkI i g j):=by
 unfold rkI;split
 .exact V7
 .split
  .exact V7
  .split
   .exact V7
   .split
    .split
     .exact⟨#[],#[]⟩
     .exact V7
    .split
     .exact a
     .rename_i h
      have:=ZjF (i:=i) h;unfold Sm at *
      rcases this with⟨d,c,b⟩|⟨d,c,b⟩
      .generalize j * fdI i j=q at *
       omega
      .generalize j * fdI i j=q at *
       omega
theorem Y.v{i:Nat}(h:U[i]?=aa (aa d)):Y F s (.v i) U d:=.r λst=>by show Yh i U st=_;unfold Yh;rw[h]
def Y.fdv(f:Y F s a U (.int i))(e:Y F s b U (.int j))(h:j≠0)(d:Sm j):Y F s (.k a b) U (.int (fdI i j)):=.bi f e (by
 unfold Sm at d;show(if 0 < j/\j < 1073741824 then aa (i / j) else if j < 0/\-1073741824 < j then aa (i.fdiv j) else ab)=_
 unfold fdI;by_cases c:0 < j
 .rw[ao c,ao ⟨c,∅⟩]
 .rw[aq c,aq ∅,ao ⟨∅,∅⟩])
def ZcM(h:Sm j):Z9 j=ac:=Jp (by unfold Sm at h;omega)
def Y.arx(b:Y F s a U (.int i)):Y F s (.l (.m (.p a (.i 1000000000)) (.i 2000000000)) (.i 1000000000)) U (.int (arI i)):=.sub (.md (.add b ()) () #[]) ()
def YW:C (rT (n+1)) s 0 [.int i] (.int (arI i)):=.of (v:=Vn) rfl rfl (.ret (.arx ()))
def Zh3(a:Sm j):C (rT (n+2)) s 1 [.int i,.int j] (.int (if j=0 then 0 else arI (fdI i j))):=by
 by_cases h:j=0
 .subst h;exact .of (v:=XL) rfl rfl (.yes () ())
 .rw[aq h]
  exact .of (v:=XL) rfl rfl (.no (.cmp () () λ_=>au aa (aH h)) (.ret (.call1 (.fdv () () h a) YW)))
def Zgk(a:Sm j):C (rT (n+1)) s 2 [.int i,.int j] (.int (if j=0 then i else i - j * fdI i j)):=by
 by_cases h:j=0
 .subst h;exact .of (v:=YI) rfl rfl (.yes () ())
 .rw[aq h]
  refine .of (v:=YI) rfl rfl (.no (.cmp () () λ_=>au aa (aH h)) (.ret (.sub () (.bi (i:=j) (j:=fdI i j) () (.fdv () () h a) ?_))))
  show(if Z9 j||Z9 (fdI i j) then aa (j * fdI i j) else ab)=_
  rw[ZcM a];rfl
def Y.eqs{x y:Str}(d:Y F s a U (.str x))(c:Y F s b U (.str y)):Y F s (.e a b) U (.bl (aj (x=y))):=.cmp d c λ_=>rfl
def R.pick{k:Bool}{q p:CS}(h:Y F s e U (.bl k))(b:k=ac->R F s p U d)(a:k=ae->R F s q U d):R F s (.seq (.ite e p .skip) q) U d:=by
 cases k
 .exact .no h (a rfl)
 .exact .yB h (b rfl)
def Zh9(hi:Sm i)(c:Sm j):C (rT (n+3)) s 3 [.int i,.str g,.int j] (.int (rkI i g j)):=by
 unfold rkI;refine .of (v:=Vq) rfl rfl (.pick (.eqs () ()) (λh=>?_) λh=>.pick (.eqs () ()) (λa=>?_) λa=>.pick (.eqs () ()) (λb=>?_) λb=>.pick (.eqs () ()) (λd=>?_) λd=>?_)
 .rw[ao (am h)];exact .ret (.call1 (.add () ()) YW)
 .rw[aq (ak h),ao (am a)];exact .ret (.call1 (.sub () ()) YW)
 .rw[aq (ak h),aq (ak a),ao (am b)];exact .ret (.call1 (.mul () () (ZcM c)) YW)
 .rw[aq (ak h),aq (ak a),aq (ak b),ao (am d)];exact .ret (.call (xs:=[.int i,.int j]) () (Zh3 c))
 .rw[aq (ak h),aq (ak a),aq (ak b),aq (ak d)];exact .ret (.call (xs:=[.int i,.int j]) () (Zgk c))
def Zib:C (rT (n+1)) s 4 [.int i,.str g,.int j] (.bl (soI i g j)):=by
 unfold soI;refine .of (v:=UD) rfl rfl (.pick (.eqs () ()) (λh=>?_) λh=>.pick (.eqs () ()) (λa=>?_) λa=>.pick (.eqs () ()) (λb=>?_) λb=>.pick (.eqs () ()) (λc=>?_) λc=>.pick (.eqs () ()) (λd=>?_) λd=>?_)
 .rw[ao (am h)];exact .ret ()
 .rw[aq (ak h),ao (am a)];exact .ret ()
 .rw[aq (ak h),aq (ak a),ao (am b)];exact .ret ()
 .rw[aq (ak h),aq (ak a),aq (ak b),ao (am c)];exact .ret ()
 .rw[aq (ak h),aq (ak a),aq (ak b),aq (ak c),ao (am d)];exact .ret ()
 .rw[aq (ak h),aq (ak a),aq (ak b),aq (ak c),aq (ak d)];exact .ret ()
def Zjo{i:Nat}(a:Vs m vs)(h:i < m):(inZ vs)[i]?=aa (.int (woI vs (.nm i))):=by
 have b:=a.l;unfold inZ;rw[aV,Lg ∅]
 show aa (D.int vs[i])=aa (D.int (vs.getD i 0));rw[bD,Lg ∅];rfl
def QS(a:Vs m vs)(h:Wn m o):Sm (woI vs o):=by
 cases o with
 |nm i=>
  have b:=a.l;have hi:i < m:=h;show Sm (vs.getD i 0);rw[bD,Lg ∅]
  exact a.s _ (cT _)
 |nu v=>exact h
def Wb(a:Vs m vs)(h:Wn m o):C (rT (n+1)) s 5 [opE o,.tup (inZ vs)] (.int (woI vs o)):=by
 cases o with
 |nm i=>exact .of (v:=W3) rfl rfl (.yes () (.ixt (j:=i) () () (Zjo a h)))
 |nu v=>exact .of (v:=W3) rfl rfl (.no () (.ret ()))
end
def pgD(a:D)(m:Nat)(rs:Li Rw):D:=.tup [a,.int (m:Int),.tup (rs.map rwE)]
def stD(k:Nat)(vs:Li Int):D:=.tup [.int (k:Int),.tup (inZ vs)]
noncomputable def noD:D:=.tup [.str "none"]
noncomputable def laD:D:=.tup [.str "late"]
noncomputable def teD(v:Int):D:=.tup [.str "told",.int v]
def vsN(vs:Li Int):Rw->Li Int
 |.put x y g z=>vs.set x (rkI (woI vs y) g (woI vs z))
 |_=>vs
def pkN(k:Nat)(vs:Li Int):Rw->Nat
 |.go t=>t
 |.ifr y g z t=>if soI (woI vs y) g (woI vs z)=ac then t else k+1
 |_=>k+1
def mv(rs:Li Rw)(k:Nat)(vs:Li Int):Sum D (Nat×Li Int):=match rs[k]? with
 |none=>.inl noD
 |some (.tell y)=>.inl (teD (woI vs y))
 |some r=>.inr (pkN k vs r,vsN vs r)
def oc(rs:Li Rw):Nat->Nat->Li Int->D
 |0,k,_=>if rs.length<=k then noD else laD
 |n+1,k,vs=>match mv rs k vs with
  |.inl o=>o
  |.inr p=>oc rs n p.1 p.2
def tl(rs:Li Rw):Nat->Nat->Li Int->Li D
 |0,k,_=>[if rs.length<=k then noD else laD]
 |n+1,k,vs=>match mv rs k vs with
  |.inl o=>[o]
  |.inr p=>stD p.1 p.2 :: tl rs n p.1 p.2
structure Rs(m:Nat)(rs:List Rw):Prop where
 l:rs.length<=50
 ok:∀ r∈rs,Zu m rs.length r
noncomputable def v0(m:Nat)(ins:Li Int):Li Int:=ins++af (m - ins.length) 0
variable{tk:D}{k:Nat}{ins:Li Int}{rs:Li Rw}
def ZbV{j:Nat}:sIx w j (aa (i:Int))=Nat.min i w:=by
 show(if (i:Int) < 0 then ((i:Int)+(w:Int)).toNat else Nat.min (i:Int).toNat w)=_
 rw[aq ∅,bA]
def ZgG(h:i<=xs.length):Xu xs ab (aa (i:Int))=xs.take i:=by
 unfold Xu;rw[ZbV,show Nat.min i xs.length=i from Nat.min_eq_left h];rfl
def ZgF(h:i<=xs.length):Xu xs (aa (i:Int)) ab=xs.drop i:=by
 unfold Xu;rw[ZbV,show Nat.min i xs.length=i from Nat.min_eq_left h];exact List.take_of_length_le (by rw[dC];exact aE _)
def sl_tup:Ym (.tup xs) lo hi st=aa (.tup (Xu xs lo hi),st):=by
 show(if sIx xs.length 0 lo=0/\sIx xs.length xs.length hi=xs.length then aa (D.tup xs,st) else aa (.tup (Xu xs lo hi),st))=_
 split
 .rename_i h
  unfold Xu;rw[h.1,h.2,cN,Nat.sub_zero,List.take_length]
 .rfl
def Y.tkT(j:Y F s a U (.tup xs))(f:Y F s b U (.int (i:Int)))(h:i<=xs.length):Y F s (.slice a .nop (.part b)) U (.tup (xs.take i)):=λst g=>by
 obtain⟨s1,l,d⟩:=j st g;obtain⟨c,k,e⟩:=f s1 (g.trans d);refine⟨c,?_,d.trans e⟩;show Y9 (ev F a) (evC .non) (Zr (ev F b) QH) XH U st=_;unfold Y9 Zr evC;simp only[l,k];show Ym (.tup xs) ab (aa (i:Int)) c=_;rw[sl_tup,ZgG h]
def Y.dpT(j:Y F s a U (.tup xs))(f:Y F s b U (.int (i:Int)))(h:i<=xs.length):Y F s (.slice a (.part b) .nop) U (.tup (xs.drop i)):=λst g=>by
 obtain⟨s1,l,d⟩:=j st g;obtain⟨c,k,e⟩:=f s1 (g.trans d);refine⟨c,?_,d.trans e⟩;show Y9 (ev F a) (Zr (ev F b) QH) (evC .non) XH U st=_;unfold Y9 Zr evC;simp only[l,k];show Ym (.tup xs) (aa (i:Int)) ab c=_;rw[sl_tup,ZgF h]
def Y.adT(d:Y F s a U (.tup xs))(c:Y F s b U (.tup ys))(h:xs.length+ys.length<=100000):Y F s (.p a b) U (.tup (xs++ys)):=g2 d c (gp λst=>by
 show(if Qy .Add=ac/\xs.length+ys.length<=Zp then aa (D.tup (xs++ys),st) else ab)=_
 exact ao ⟨rfl,by unfold Zp;omega⟩)
def Y.rep(e:Y F s a U d)(c:Y F s b U (.int (i:Int)))(h:i<=1000):Y F s (.h (.g (.u a)) b) U (.tup (af i d)):=g2 (x:=.tup [d]) (.cons e .nil) c (gp λst=>by
 show(if (i:Int)<=1000/\-1000<=(i:Int) then aa (D.tup (af (i:Int).toNat d),st) else ab)=_
 rw[ao ⟨∅,∅⟩,bA])
def Y.lnT(b:Y F s a U (.tup xs)):Y F s (.len a) U (.int (xs.length:Int)):=g1 b (gp λst=>rfl)
def YK(h:i < xs.length)(a:xs.length<=1000):C (rT (n+1)) s 42 [.tup xs,.int (i:Int),d] (.tup (xs.set i d)):=by
 rw[show xs.set i d=(xs.take i++[d])++xs.drop (i+1) by rw[bV];exact List.set_eq_take_append_cons_drop.trans (ao h)]
 refine .of (v:=X4) rfl rfl (.ret (.adT (.adT (.tkT () () ∅) (.cons () .nil) ?_) (.dpT (i:=i+1) () (by rw[bO];exact .add () ()) ∅) ?_))
 .rw[cM];show _+1<=_;omega
 .rw[aI,cM,dC];show _+1+_<=_;omega
def Zgd(a:ins.length<=m)(h:∀ v∈ins,Sm v):Vs m (v0 m ins):=by
 unfold v0;refine⟨by rw[aI,cX];omega,λv hv=>?_⟩
 rcases bC.mp hv with hv|hv
 .exact h v hv
 .rw[(List.mem_replicate.mp hv).2];exact⟨#[],#[]⟩
def ZdM(b:ins.length<=m)(d:m<=1000):C (rT (n+1)) s 6 [pgD tk m rs,.tup (inZ ins)] (stD 0 (v0 m ins)):=by
 unfold stD v0 inZ;rw[bN,List.map_replicate];refine .of (v:=UB) rfl rfl (.ret (.cons () (.cons (.adT () (.rep (i:=m - ins.length) () ?_ ∅) (by rw[aD,cX];omega)) .nil)))
 have c:Y (rT n) s (.len (.v 1)) [aa (pgD tk m rs),aa (.tup (ins.map D.int))] (.int (ins.length:Int)):=by
  have:=Y.lnT (F:=rT n) (s:=s) (a:=.v 1) (U:=[aa (pgD tk m rs),aa (.tup (ins.map D.int))]) (xs:=ins.map D.int) ();rw[aD]at this;exact this
 rw[Int.natCast_sub b];exact .sub () c
def Zfv:C (rT (n+1)) s 7 [pgD tk m rs,stD k vs] (.bl (aj (rs.length<=k))):=by
 have b:Y (rT n) s (.len (.x 0 2)) [aa (pgD tk m rs),aa (stD k vs)] (.int (rs.length:Int)):=by
  have:=Y.lnT (F:=rT n) (s:=s) (a:=.x 0 2) (U:=[aa (pgD tk m rs),aa (stD k vs)]) (xs:=rs.map rwE) ();rw[aD]at this;exact this
 exact .of (v:=Vo) rfl rfl (.ret (.cmp () b λ_=>by show aa (aj ((rs.length:Int)<=(k:Int)))=_;exact au aa (decide_eq_decide.mpr ∅)))
def Zdv{j:Int}:(inZ vs).set i (.int j)=inZ (vs.set i j):=by unfold inZ;rw[List.map_set]
def Zgp(a:Vs m vs)(j:m<=1000)(h:Zu m w r)(e:∀ y,r≠.tell y):C (rT (n+4)) s 8 [rwE r,.tup (inZ vs)] (.tup (inZ (vsN vs r))):=by
 cases r with
 |put x y g z=>
  obtain⟨f,c,o,b⟩:=h;have k:=a.l;refine .of (v:=Zw) rfl rfl (.no () (.set (.call (xs:=[.int (woI vs y),.str g,.int (woI vs z)]) (.cons (.call (xs:=[opE y,.tup (inZ vs)]) () (Wb a c)) (.cons () (.cons (.call (xs:=[opE z,.tup (inZ vs)]) () (Wb a b)) .nil))) (Zh9 (QS a c) (QS a b))) (.ret (.call (xs:=[.tup (inZ vs),.int (x:Int),.int (rkI (woI vs y) g (woI vs z))]) () ?_))))
  have:=YK (n:=n+2) (s:=s) (xs:=inZ vs) (i:=x) (d:=.int (rkI (woI vs y) g (woI vs z))) (by unfold inZ;rw[aD];omega) (by unfold inZ;rw[aD];omega)
  rw[Zdv]at this;exact this
 |ifr y g z t=>exact .of (v:=Zw) rfl rfl (.yes () ())
 |go t=>exact .of (v:=Zw) rfl rfl (.yes () ())
 |tell y=>exact ar rfl (e y)
 |skip=>exact .of (v:=Zw) rfl rfl (.yes () ())
def ZdV(a:Vs m vs)(h:Zu m w r)(d:∀ y,r≠.tell y):C (rT (n+2)) s 9 [rwE r,.int (k:Int),.tup (inZ vs)] (.int (pkN k vs r:Int)):=by
 have one:∀ {U:Env},U[1]?=aa (jN k)->Y (rT (n+1)) s (.p (.v 1) (.i 1)) U (.int ((k+1:Nat):Int)):=λ{U} h=>by
  rw[bO];exact .add (.v h) ()
 cases r with
 |put x y g z=>exact .of (v:=ZG) rfl rfl (.no () (.no () (.ret (one rfl))))
 |go t=>exact .of (v:=ZG) rfl rfl (.yes () ())
 |skip=>exact .of (v:=ZG) rfl rfl (.no () (.no () (.ret (one rfl))))
 |tell y=>exact ar rfl (d y)
 |ifr y g z t=>
  obtain⟨c,f,b,e⟩:=h;refine .of (v:=ZG) rfl rfl (.no () (.pick (k:=ac&&soI (woI vs y) g (woI vs z)) (.and () λ_=>.call (xs:=[.int (woI vs y),.str g,.int (woI vs z)]) (.cons (.call (xs:=[opE y,.tup (inZ vs)]) () (Wb a c)) (.cons () (.cons (.call (xs:=[opE z,.tup (inZ vs)]) () (Wb a b)) .nil))) Zib) (λq=>?_) λq=>?_))
  .rw[cZ]at q
   show R _ _ _ _ (.int ((if soI (woI vs y) g (woI vs z)=ac then t else k+1:Nat):Int))
   rw[ao q];exact .ret ()
  .rw[cZ]at q
   show R _ _ _ _ (.int ((if soI (woI vs y) g (woI vs z)=ac then t else k+1:Nat):Int))
   rw[aq (by rw[q];decide)]
   exact .ret (one rfl)
def mvD(rs:Li Rw)(k:Nat)(vs:Li Int):D:=match mv rs k vs with
 |.inl o=>o
 |.inr p=>stD p.1 p.2
def ZdT(i:Rs m rs)(l:m<=1000)(d:Vs m vs):C (rT (n+5)) s 10 [pgD tk m rs,stD k vs] (mvD rs k vs):=by
 have c:=Y.call (F:=rT (n+4)) (s:=s) (a:=.a 0 (.s 1)) (U:=[aa (pgD tk m rs),aa (stD k vs),ab,ab,ab]) (xs:=[pgD tk m rs,stD k vs]) (ds:=[]) () (Zfv (n:=n+3));unfold mvD mv;cases q:rs[k]? with
 |none=>
  rw[aP (eB.mp q)]at c;exact .of (v:=W1) rfl rfl (.yes c ())
 |some r=>
  have o:=Zk q;rw[aH ∅]at c
  have ok:=i.ok r (aT q);have h:Y (rT (n+4)) s (.ix (.x 0 2) (.v 2)) [aa (pgD tk m rs),aa (stD k vs),jN k,aa (.tup (inZ vs)),ab] (rwE r):=.ixt (j:=k) (xs:=rs.map rwE) () () (by rw[aV,q];rfl)
  refine .of (v:=W1) rfl rfl (.no c (.set () (.set () (.set h ?_))));have b:(∀ y,r≠.tell y)->R (rT (n+4)) s (.q (.g (.aC (.f 9 (.a 4 (.a 2 (.s 3)))) (.u (.f 8 (.a 4 (.s 3))))))) [aa (pgD tk m rs),aa (stD k vs),jN k,aa (.tup (inZ vs)),aa (rwE r)] (stD (pkN k vs r) (vsN vs r)):=λe=>.ret (.cons (.call (xs:=[rwE r,.int (k:Int),.tup (inZ vs)]) () (ZdV (n:=n+2) d ok e)) (.cons (.call (xs:=[rwE r,.tup (inZ vs)]) () (Zgp d l ok e)) .nil))
  cases r with
  |tell y=>exact .yes () (.cons () (.cons (.call (xs:=[opE y,.tup (inZ vs)]) () (Wb d ok)) .nil))
  |put x y g z=>exact .no () (b λy z=>nomatch z)
  |ifr y g z t=>exact .no () (b λy z=>nomatch z)
  |go t=>exact .no () (b λy z=>nomatch z)
  |skip=>exact .no () (b λy z=>nomatch z)
variable{L:Nat}{acc:Li D}
def enD(rs:Li Rw)(k:Nat):D:=if rs.length<=k then noD else laD
noncomputable def isO:D->Bool
 |.tup (.str _ :: _)=>ac
 |_=>ae
def ZfQ(a:Vs m vs)(d:Rs m rs){p:Nat×Li Int}(h:mv rs k vs=.inr p):Vs m p.2:=by
 unfold mv at h;cases q:rs[k]? with
 |none=>rw[q]at h;cases h
 |some r=>
  rw[q]at h;have ok:=d.ok r (aT q);cases r with
  |tell y=>cases h
  |put x y g z=>
   cases h;obtain⟨e,c,f,b⟩:=ok;refine⟨by show(vs.set x _).length=m;rw[aY];exact a.l,λv h=>?_⟩
   rcases eK h with h|h
   .exact a.s v h
   .rw[h];exact Zf6 (QS a c) (QS a b)
  |ifr y g z t=>cases h;exact a
  |go t=>cases h;exact a
  |skip=>cases h;exact a
def Zg7{o:D}(h:mv rs k vs=.inl o):isO o=ac/\∃ a,o=.tup (.str (if rs.length<=k then S "none" else S "told") :: a):=by
 unfold mv at h;cases q:rs[k]? with
 |none=>rw[q]at h;cases h;exact⟨rfl,[],by rw[ao (eB.mp q)];rfl⟩
 |some r=>
  rw[q]at h;have:=Zk q;cases r with
  |tell y=>cases h;exact⟨rfl,[.int (woI vs y)],by rw[aq ∅];rfl⟩
  |_=>cases h
def Zfw{k:Bool}(h:(∃ x a,d=.tup (.str x :: a)/\k=ac)\/(∃ i a,d=.tup (.int i :: a)/\k=ae)):C (rT (n+1)) s 11 [d] (.bl k):=by
 rcases h with⟨x,a,rfl,rfl⟩|⟨i,a,rfl,rfl⟩
 .exact .of (v:=Yo) rfl rfl (.ret (g1 (x:=.str x) (.ixt (j:=0) () () rfl) (gp λ_=>rfl)))
 .exact .of (v:=Yo) rfl rfl (.ret (g1 (x:=.int i) (.ixt (j:=0) () () rfl) (gp λ_=>rfl)))
def Zfp{y z:Ot D}(H:Rs m rs)(J:m<=1000)(G:Vs m vs)(N:s.length<=j)(g:Grw s st)(h:st[j]?=aa (ac,acc))(M:acc.length < 900){x0 x2:Ot D}:match mv rs k vs with
  |.inl o=>∃ st',Kj j st st'/\ex (rT (n+5)) ZF [aa (pgD tk m rs),x0,x2,aa (stD k vs),jL j,y,z] st=aa (.rt (.tup (acc++[o])),st')
  |.inr p=>∃ st',Kj j st st'/\st'[j]?=aa (ac,acc++[stD p.1 p.2])/\ex (rT (n+5)) ZF [aa (pgD tk m rs),x0,x2,aa (stD k vs),jL j,y,z] st=aa (.nx [aa (pgD tk m rs),x0,x2,aa (stD p.1 p.2),jL j,y,aa (stD p.1 p.2)],st'):=by
 obtain⟨s1,L,u⟩:=Y.call (F:=rT (n+5)) (s:=s) (a:=.a 0 (.s 3)) (U:=[aa (pgD tk m rs),x0,x2,aa (stD k vs),jL j,y,z]) (xs:=[pgD tk m rs,stD k vs]) (ds:=[]) () (ZdT H J G) st g;obtain⟨b,K,E,l⟩:=Ap.app (F:=rT (n+5)) (s:=s) (j:=j) (i:=4) (e:=.v 6) (U:=[aa (pgD tk m rs),x0,x2,aa (stD k vs),jL j,y,aa (mvD rs k vs)]) (d:=mvD rs k vs) rfl () s1 acc (g.trans u) (u.get h) (by show _+1<=90000;omega)
 have pre:∀ {r},ex (rT (n+5)) (.seq (.ite (.f 11 (.s 6)) (.q (.tOf (.v 4))) .skip) (.z (.set 3 (.v 6)))) [aa (pgD tk m rs),x0,x2,aa (stD k vs),jL j,y,aa (mvD rs k vs)] b=r->ex (rT (n+5)) ZF [aa (pgD tk m rs),x0,x2,aa (stD k vs),jL j,y,z] st=r:=λh=>(Ze (Zs L)).trans ((Ze K).trans h)
 have B:=u.kj.trans E;cases q:mv rs k vs with
 |inl o=>
  have w:mvD rs k vs=o:=by unfold mvD;rw[q]
  rw[w]at l pre;obtain⟨_,C,I⟩:=Zg7 q;obtain⟨t,A,c⟩:=Y.call1 (F:=rT (n+5)) (s:=b) (f:=11) (a:=.v 6) (x:=o) (U:=[aa (pgD tk m rs),x0,x2,aa (stD k vs),jL j,y,aa o]) () (Zfw (n:=n+4) (.inl ⟨_,C,I,rfl⟩)) b .refl;exact⟨t,B.trans c.kj,pre (Zt ((XJ A).trans (Zt (Yn (YJ rfl (c.get l))))))⟩
 |inr p=>
  have w:mvD rs k vs=stD p.1 p.2:=by unfold mvD;rw[q]
  rw[w]at l pre;obtain⟨t,A,c⟩:=Y.call1 (F:=rT (n+5)) (s:=b) (f:=11) (a:=.v 6) (x:=stD p.1 p.2) (U:=[aa (pgD tk m rs),x0,x2,aa (stD k vs),jL j,y,aa (stD p.1 p.2)]) () (Zfw (n:=n+4) (.inr ⟨_,_,rfl,rfl⟩)) b .refl;exact⟨t,B.trans c.kj,c.get l,pre ((Ze ((Wm A).trans Zh)).trans ((Ze (Zs rfl)).trans Zh))⟩
theorem ZaI(F:Rs m rs)(I:m<=1000)(H:s.length<=j){x0 x2:Ot D}:∀ (M a k:Nat) (vs:Li Int) (acc:Li D) (st:Za) (y z:Ot D),Vs m vs->Grw s st->st[j]?=aa (ac,acc)->acc.length+M<=900->
  (∃ l b c x w st',Vs m b/\tl rs M k vs=c++[enD rs l]/\Zj (λd U s=>ex (rT (n+5)) ZF (Zf U 5 d) s) ((List.range' a M).map λ(k:Nat)=>D.int (k:Int)) [aa (pgD tk m rs),x0,x2,aa (stD k vs),jL j,y,z] st=aa (.nx [aa (pgD tk m rs),x0,x2,aa (stD l b),jL j,x,w],st')/\Kj j st st'/\st'[j]?=aa (ac,acc++c)) \/
  (∃ st',Zj (λd U s=>ex (rT (n+5)) ZF (Zf U 5 d) s) ((List.range' a M).map λ(k:Nat)=>D.int (k:Int)) [aa (pgD tk m rs),x0,x2,aa (stD k vs),jL j,y,z] st=aa (.rt (.tup (acc++tl rs M k vs)),st')/\Kj j st st')
 |0,a,k,vs,acc,st,y,z,t,g,h,_=>.inl ⟨k,vs,[],y,z,st,t,rfl,rfl,Grw.refl.kj,by rw[bG];exact h⟩
 |M+1,a,k,vs,acc,st,y,z,t,g,h,O=>by
  have i:=Zfp (n:=n) (tk:=tk) (k:=k) (y:=jN a) (z:=z) (x0:=x0) (x2:=x2) F I t H g h ∅
  rw[List.range'_succ,aK];have E:∀ {r},ex (rT (n+5)) ZF [aa (pgD tk m rs),x0,x2,aa (stD k vs),jL j,jN a,z] st=r->Zj (λd U s=>ex (rT (n+5)) ZF (Zf U 5 d) s) (D.int (a:Int) :: (List.range' (a+1) M).map λ(k:Nat)=>D.int (k:Int)) [aa (pgD tk m rs),x0,x2,aa (stD k vs),jL j,y,z] st=match r with
    |some (.nx U',st')=>Zj (λd U s=>ex (rT (n+5)) ZF (Zf U 5 d) s) ((List.range' (a+1) M).map λ(k:Nat)=>D.int (k:Int)) U' st'
    |some (.ct U',st')=>Zj (λd U s=>ex (rT (n+5)) ZF (Zf U 5 d) s) ((List.range' (a+1) M).map λ(k:Nat)=>D.int (k:Int)) U' st'
    |some (.bk U',st')=>aa (.nx U',st')
    |some (.rt v,st')=>aa (.rt v,st')
    |none=>ab:=λ{r} e=>by rw[<-e];rfl
  unfold tl;cases q:mv rs k vs with
  |inl o=>
   rw[q]at i;obtain⟨st',f,u⟩:=i;exact .inr ⟨st',E u,f⟩
  |inr p=>
   rw[q]at i;obtain⟨C,f,N,u⟩:=i;have G:(acc++[stD p.1 p.2]).length+M<=900:=by rw[aI];show _+1+M<=900;omega
   rcases ZaI F I H M (a+1) p.1 p.2 _ C (jN a) (aa (stD p.1 p.2)) (ZfQ t F q) (f.grw H g) N G with⟨l,b,c,x,w,st',L,K,B,A,J⟩|⟨st',B,A⟩
   .exact .inl ⟨l,b,stD p.1 p.2 :: c,x,w,st',L,by show stD p.1 p.2 :: tl rs M p.1 p.2=_;rw[K];rfl,(E u).trans B,f.trans A,by rw[J,bV];rfl⟩
   .exact .inr ⟨st',(E u).trans (B.trans (by rw[bV];rfl)),f.trans A⟩
def ZdW(T:Rs m rs)(I:m<=1000)(hi:ins.length<=m)(S:∀ v∈ins,Sm v)(hL:L<=800):C (rT (n+6)) s 12 [pgD tk m rs,.tup (inZ ins),.int (L:Int)] (.tup (stD 0 (v0 m ins) :: tl rs L 0 (v0 m ins))):=λst g=>by
 have R:=Zgd hi S;obtain⟨s1,N,x⟩:=Y.call (F:=rT (n+5)) (s:=s) (f:=6) (a:=.a 0 (.s 1)) (U:=[aa (pgD tk m rs),aa (.tup (inZ ins)),jN L,ab,ab,ab,ab]) (xs:=[pgD tk m rs,.tup (inZ ins)]) (ds:=[]) () (ZdM hi I) st g;have H:ex (rT (n+5)) (.set 4 (.lstE (.s 3))) [aa (pgD tk m rs),aa (.tup (inZ ins)),jN L,aa (stD 0 (v0 m ins)),ab,ab,ab] s1=aa (.nx [aa (pgD tk m rs),aa (.tup (inZ ins)),jN L,aa (stD 0 (v0 m ins)),jL s1.length,ab,ab],s1++[(ac,[stD 0 (v0 m ins)])]):=Zs rfl
 have g2:Grw s (s1++[(ac,[stD 0 (v0 m ins)])]):=(g.trans x).trans .push;have K:Grw st (s1++[(ac,[stD 0 (v0 m ins)])]):=x.trans .push;have fr:=Wg (F:=rT (n+5)) (i:=5) (e:=.v 2) (q:=ZF) (U:=[aa (pgD tk m rs),aa (.tup (inZ ins)),jN L,aa (stD 0 (v0 m ins)),jL s1.length,ab,ab]) (st:=s1++[(ac,[stD 0 (v0 m ins)])]) (v:=(L:Int)) ∅ ∅ rfl
 rw[bA,List.range_eq_range']at fr;have J:s.length<=s1.length:=aR g.len x.len;have o:st.length<=s1.length:=x.len;rcases ZaI (n:=n) (tk:=tk) (x0:=aa (.tup (inZ ins))) (x2:=jN L) T I J L 0 0 (v0 m ins) [stD 0 (v0 m ins)] _ ab ab R g2 ZE (by show 1+L<=900;omega) with⟨h,b,l,B,A,z,w1,E,y,w,O⟩|⟨z,y,w⟩
 .obtain⟨G,Z,P,V⟩:=Ap.app (F:=rT (n+5)) (s:=s) (j:=s1.length) (i:=4) (e:=.ife (.f 7 (.a 0 (.s 3))) (.g (.u (.t "none"))) (.g (.u (.t "late")))) (U:=[aa (pgD tk m rs),aa (.tup (inZ ins)),jN L,aa (stD h b),jL s1.length,B,A]) (d:=enD rs h) rfl (.ife (.call (xs:=[pgD tk m rs,stD h b]) () (Zfv (n:=n+4))) (by
   unfold enD;by_cases c:rs.length<=h
   .rw[ao c,aP c];exact .r rf
   .rw[aq c,aH c];exact .r rf)) z _ (w.grw J g2) O (by
    have:l.length<=L:=by
     have X:=au List.length E;rw[aI]at X;have W:∀ {M k:Nat}{vs:Li Int},(tl rs M k vs).length<=M+1:=λ{M}=>by
      induction M with
      |zero=>intro k vs;exact aE _
      |succ M Q=>
       intro k vs;unfold tl;split
       .show 1<=_;omega
       .rename_i p _;have:=Q (k:=p.1) (vs:=p.2);rw[aQ];omega
     have:=W (M:=L) (k:=0) (vs:=v0 m ins);have h3:([enD rs h]:Li D).length=1:=rfl;omega
    rw[aI];show 1+l.length+1<=90000;omega)
  refine⟨G,QL (v:=W2) rfl rfl ((Ze (Zs N)).trans ((Ze H).trans ((Ze (fr.trans y)).trans ((Ze Z).trans (Zt (Yn ?_)))))),(w.trans P).grw o K⟩;have:=YJ (F:=rT (n+5)) (e:=.v 4) (U:=[aa (pgD tk m rs),aa (.tup (inZ ins)),jN L,aa (stD h b),jL s1.length,B,A]) (st:=G) rfl V;rw[this,E];rfl
 .exact⟨z,QL (v:=W2) rfl rfl ((Ze (Zs N)).trans ((Ze H).trans (Zt (fr.trans y)))),w.grw o K⟩
noncomputable def hdD:D->D
 |.tup (x :: _)=>x
 |_=>.non
variable{l:Li Nat}
def Zgc:tl rs n k vs≠[]:=by
 cases n with
 |zero=>exact dJ _ _
 |succ n=>unfold tl;split<;>exact dJ _ _
theorem ZaG:∀ {n k:Nat}{vs:Li Int},(tl rs n k vs).getLastD .non=oc rs n k vs
 |0,k,vs=>rfl
 |n+1,k,vs=>by
  unfold tl oc;cases q:mv rs k vs with
  |inl o=>rfl
  |inr p=>
   show(stD p.1 p.2 :: tl rs n p.1 p.2).getLastD .non=oc rs n p.1 p.2;rw[<-ZaG (n:=n)];cases h:tl rs n p.1 p.2 with
   |nil=>exact ar h Zgc
   |cons z a=>rfl
def Zd1(h:xs≠[])(a:xs.length<=100000):atD xs (-1)=aa (xs.getLastD .non):=by
 have b:0 < xs.length:=List.length_pos_iff.mpr h;unfold atD ixN;rw[aq #[],ao ∅,Ob,show(-1+(xs.length:Int)).toNat=xs.length - 1 by omega,<-List.getLast?_eq_getElem?,List.getLastD_eq_getLast?]
 cases q:xs.getLast? with
 |none=>exact ar (List.getLast?_eq_none_iff.mp q) h
 |some z=>rfl
def Y.lastT(c:Y F s a U (.tup xs))(h:xs≠[])(b:xs.length<=100000):Y F s (.ix a (.neg (.i 1))) U (xs.getLastD .non):=g2 (y:=.int (-1)) c () (gp λst=>by
 show ixR (.tup xs) (.int (-1)) st=_;unfold ixR ixD;simp only[Zd1 h b])
theorem JM:∀ {M k:Nat}{vs:Li Int},(tl rs M k vs).length<=M+1
 |0,k,vs=>aE _
 |M+1,k,vs=>by
  unfold tl;split
  .show 1<=_;omega
  .rename_i p _;have:=JM (M:=M) (k:=p.1) (vs:=p.2);rw[aQ];omega
theorem QC{I:Nat->Env->Prop}{body:D->Env->Za->Ot (Fl×Za)}:∀ {xs:Li D} (a:Nat) (U:Env) (st1:Za),(∀ i d U b,xs[i]?=aa d->I (a+i) U->Grw st1 b->∃ U' c,body d U b=aa (.nx U',c)/\Grw b c/\I (a+i+1) U')->I a U->∃ U' b,Zj body xs U st1=aa (.nx U',b)/\Grw st1 b/\I (a+xs.length) U'
 |[],a,U,st1,_,h=>⟨U,st1,rfl,.refl,h⟩
 |x :: xs,a,U,st1,k,h=>by
  obtain⟨f,m,r,j,t⟩:=k 0 x U st1 rfl h .refl;obtain⟨e,l,q,n,s⟩:=QC (xs:=xs) (a+1) f m (λi d U b p o g=>by
   have:=k (i+1) d U b p (by rw[show a+(i+1)=a+1+i by omega];exact o) (j.trans g)
   rw[show a+(i+1)+1=a+1+i+1 by omega]at this
   exact this) t
  refine⟨e,l,?_,j.trans n,by rw[aQ,show a+(xs.length+1)=a+1+xs.length by omega];exact s⟩
  show(match body x U st1 with
   |some (.nx U',st')=>Zj body xs U' st'
   |some (.ct U',st')=>Zj body xs U' st'
   |some (.bk U',st')=>aa (.nx U',st')
   |some (.rt v,st')=>aa (.rt v,st')
   |none=>ab)=_
  rw[r];exact q
def W7{bb:Bool}(a:ev F e U st=aa (.lst j,st1))(h:st1[j]?=aa (bb,xs)):ex F (.for1 i ae e q) U st=ZI (λd U s=>ex F q (Zf U i d) s) j xs.length 0 U st1:=by
 show VA i ae (ev F e) (ex F q) U st=_;unfold VA;rw[a];show(match st1[j]? with
  |some (_,xs)=>ZI (λd U s=>ex F q (Zf U i d) s) j xs.length 0 U st1
  |none=>ab)=_
 rw[h]
def for_tup(a:ev F e U st=aa (.tup xs,st1)):ex F (.for1 i ae e q) U st=Zj (λd U s=>ex F q (Zf U i d) s) xs U st1:=by
 show VA i ae (ev F e) (ex F q) U st=_;unfold VA;rw[a];rfl
def JS(t:k<=60):C (rT (n+1)) s 43 [.int (k:Int)] (.int ((2 ^ k:Nat):Int)):=λst g=>by
 obtain⟨U',j,f,m,y,rfl⟩:=QC (st1:=st) (I:=λi U=>∃ y,U=[jN k,aa (.int ((2 ^ i:Nat):Int)),y]) (body:=λd U s=>ex (rT n) XY (Zf U 2 d) s) (xs:=(ag k).map λ(k:Nat)=>D.int (k:Int)) 0 [jN k,aa (.int ((2 ^ 0:Nat):Int)),ab] (λi d U c u o g2=>by
  obtain⟨y,rfl⟩:=o;obtain⟨h,p,l⟩:=Y.mul (F:=rT n) (s:=c) (a:=.v 1) (b:=.i 2) (U:=[jN k,aa (.int ((2 ^ (0+i):Nat):Int)),aa d]) () () rfl c .refl;refine⟨_,h,(Ze (Zs p)).trans Zh,l,aa d,?_⟩;rw[show((2 ^ (0+i+1):Nat):Int)=((2 ^ (0+i):Nat):Int) * 2 by rw[Nat.pow_succ,eC];rfl]
  rfl) ⟨ab,rfl⟩
 have fr:=Wg (F:=rT n) (i:=2) (e:=.v 0) (q:=XY) (U:=[jN k,aa (.int ((2 ^ 0:Nat):Int)),ab]) (st:=st) (v:=(k:Int)) ∅ ∅ rfl
 rw[bA]at fr;rw[aD,bT,bH]at f;exact⟨j,QL (v:=Vp) rfl rfl ((Ze (Zs rfl)).trans ((Ze (fr.trans f)).trans (Zt (Yn rfl)))),m⟩
def nxt(l:Li Str)(g:Str):Str:=l.getD ((l.idxOf g+1) % l.length) (S "")
def cnt(g:Str):Str:=if g=S "<" then S ">=" else if g=S ">=" then S "<" else if g=S "<=" then S ">" else if g=S ">" then S "<=" else if g=S "=" then S "!=" else S "="
def Wi:Op->Li Op
 |.nu v=>[.nu (arI (v+1))]
 |.nm _=>[]
def sgR:Rw->Li Rw
 |.put x y g z=>[.put x y (nxt psL g) z]
 |.ifr y g z t=>[.ifr y (nxt isL g) z t]
 |_=>[]
def moR:Rw->Li Rw
 |.put x y g z=>(Wi y).map (λq=>.put x q g z)++(Wi z).map (λq=>.put x y g q)
 |.ifr y g z t=>(Wi y).map (λq=>.ifr q g z t)++(Wi z).map (λq=>.ifr y g q t)
 |.tell y=>(Wi y).map .tell
 |_=>[]
def tuR:Rw->Li Rw
 |.ifr y g z t=>[.ifr y (cnt g) z t]
 |_=>[]
noncomputable def ouR:Rw->Li Rw
 |.skip=>[]
 |_=>[.skip]
noncomputable def swR:Rw->Li Rw
 |.put x y g z=>if y=z then [] else [.put x z g y]
 |.ifr y g z t=>if y=z then [] else [.ifr z g y t]
 |_=>[]
noncomputable def faR(sz:Nat):Rw->Li Rw
 |.ifr y g z t=>if sz<=t then [] else [.ifr y g z (t+1)]
 |.go t=>if sz<=t then [] else [.go (t+1)]
 |_=>[]
variable{z:Op}{obj:D}
def Zh2(h:(xs=[.kt psL,.str g]/\g∈psL/\d=.str (nxt psL g))\/(xs=[.kt isL,.str g]/\g∈isL/\d=.str (nxt isL g))):C (rT (n+1)) s 70 xs d:=by
 rcases h with⟨rfl,h,rfl⟩|⟨rfl,h,rfl⟩
 .simp only[psL,aF,bB,or_false]at h
  rcases h with rfl|rfl|rfl|rfl|rfl<;>exact .of (v:=Wd) rfl rfl (.ret (.r λst=>by rfl))
 .simp only[isL,aF,bB,or_false]at h
  rcases h with rfl|rfl|rfl|rfl|rfl|rfl<;>exact .of (v:=Wd) rfl rfl (.ret (.r λst=>by rfl))
def Zjx(h:Zu m sz r):C (rT (n+2)) s 171 [obj,rwE r,.int (sz:Int)] (.tup ((sgR r).map rwE)):=by
 cases r with
 |put x y g z=>
  obtain⟨_,_,a,_⟩:=h;exact .of (v:=Zz) rfl rfl (.yes () (.cons (.call (xs:=[rwE (.put x y g z),.int ((3:Nat):Int),.str (nxt psL g)]) (.cons () (.cons () (.cons (.call (xs:=[.kt psL,.str g]) () (Zh2 (.inl ⟨rfl,a,rfl⟩))) .nil))) (YK (i:=3) (by show 3 < 5;decide) (by show 5<=1000;decide))) .nil))
 |ifr y g z t=>
  obtain⟨_,a,_,_⟩:=h;exact .of (v:=Zz) rfl rfl (.no () (.yes () (.cons (.call (xs:=[rwE (.ifr y g z t),.int ((2:Nat):Int),.str (nxt isL g)]) (.cons () (.cons () (.cons (.call (xs:=[.kt isL,.str g]) () (Zh2 (.inr ⟨rfl,a,rfl⟩))) .nil))) (YK (i:=2) (by show 2 < 5;decide) (by show 5<=1000;decide))) .nil)))
 |go t=>exact .of (v:=Zz) rfl rfl (.no () (.no () (.ret ())))
 |tell y=>exact .of (v:=Zz) rfl rfl (.no () (.no () (.ret ())))
 |skip=>exact .of (v:=Zz) rfl rfl (.no () (.no () (.ret ())))
def Zjz(h:Zu m sz r):C (rT (n+2)) s 159 [obj,rwE r,.int (sz:Int)] (.tup ((tuR r).map rwE)):=by
 cases r with
 |ifr y g z t=>
  obtain⟨_,a,_,_⟩:=h;refine .of (v:=ZB) rfl rfl (.no () (.ret (.cons (.call (xs:=[rwE (.ifr y g z t),.int ((2:Nat):Int),.str (cnt g)]) (.cons () (.cons () (.cons ?_ .nil))) (YK (i:=2) (by show 2 < 5;decide) (by show 5<=1000;decide))) .nil)))
  simp only[isL,aF,bB,or_false]at a;rcases a with rfl|rfl|rfl|rfl|rfl|rfl<;>exact .r λst=>rfl
 |put x y g z=>exact .of (v:=ZB) rfl rfl (.yes () ())
 |go t=>exact .of (v:=ZB) rfl rfl (.yes () ())
 |tell y=>exact .of (v:=ZB) rfl rfl (.yes () ())
 |skip=>exact .of (v:=ZB) rfl rfl (.yes () ())
def Zjw:C (rT (n+1)) s 154 [obj,rwE r,.int (sz:Int)] (.tup ((ouR r).map rwE)):=by
 cases r with
 |skip=>exact .of (v:=ZK) rfl rfl (.yes () ())
 |put x y g z=>exact .of (v:=ZK) rfl rfl (.no () (.ret ()))
 |ifr y g z t=>exact .of (v:=ZK) rfl rfl (.no () (.ret ()))
 |go t=>exact .of (v:=ZK) rfl rfl (.no () (.ret ()))
 |tell y=>exact .of (v:=ZK) rfl rfl (.no () (.ret ()))
def op_eq:eqS st (opE o) (opE z)=aa (aj (o=z)):=by
 cases o with
 |nm i=>cases z with
  |nm j=>
   show aa (aj (S "name"=S "name")&&(aj ((i:Int)=(j:Int))&&ac))=_;rw[aP rfl,cZ,dL];exact au aa (decide_eq_decide.mpr ⟨λh=>by rw[Int.ofNat_inj.mp h],λh=>by cases h;rfl⟩)
  |nu v=>
   show aa (aj (S "name"=S "number")&&(aj ((i:Int)=v)&&ac))=_;rw[show aj (S "name"=S "number")=ae by decide +kernel]
   exact au aa (aH λh=>nomatch h).symm
 |nu u=>cases z with
  |nm j=>
   show aa (aj (S "number"=S "name")&&(aj (u=(j:Int))&&ac))=_;rw[show aj (S "number"=S "name")=ae by decide +kernel]
   exact au aa (aH λh=>nomatch h).symm
  |nu v=>
   show aa (aj (S "number"=S "number")&&(aj (u=v)&&ac))=_;rw[aP rfl,cZ,dL];exact au aa (decide_eq_decide.mpr ⟨λh=>by rw[h],λh=>by cases h;rfl⟩)
def Y.neO(d:Y F s a U (opE o))(c:Y F s b U (opE z)):Y F s (.cmp .NotEq a b) U (.bl (!decide (o=z))):=.cmp d c λst=>by
 show(eqS st (opE o) (opE z)).map Bool.not=_;rw[op_eq];rfl
def Zjy:C (rT (n+1)) s 162 [obj,rwE r,.int (sz:Int)] (.tup ((swR r).map rwE)):=by
 cases r with
 |put x y g z=>
  refine .of (v:=ZA) rfl rfl (.pick (k:=ac&&!decide (y=z)) (.and () λ_=>.neO () ()) (λh=>?_) λh=>.no () ?_)
  .have:¬y=z:=λe=>by rw[aP e]at h;cases h
   show R _ _ _ _ (.tup ((if y=z then [] else [Rw.put x z g y]).map rwE))
   rw[aq this];exact .ret ()
  .have:y=z:=by
    by_cases e:y=z
    .exact e
    .rw[aH e]at h;cases h
   show R _ _ _ _ (.tup ((if y=z then [] else [Rw.put x z g y]).map rwE))
   rw[ao this];exact .ret ()
 |ifr y g z t=>
  refine .of (v:=ZA) rfl rfl (.no () (.pick (k:=ac&&!decide (y=z)) (.and () λ_=>.neO () ()) (λh=>?_) λh=>?_))
  .have:¬y=z:=λe=>by rw[aP e]at h;cases h
   show R _ _ _ _ (.tup ((if y=z then [] else [Rw.ifr z g y t]).map rwE))
   rw[aq this];exact .ret ()
  .have:y=z:=by
    by_cases e:y=z
    .exact e
    .rw[aH e]at h;cases h
   show R _ _ _ _ (.tup ((if y=z then [] else [Rw.ifr z g y t]).map rwE))
   rw[ao this];exact .ret ()
 |go t=>exact .of (v:=ZA) rfl rfl (.no () (.no () (.ret ())))
 |tell y=>exact .of (v:=ZA) rfl rfl (.no () (.no () (.ret ())))
 |skip=>exact .of (v:=ZA) rfl rfl (.no () (.no () (.ret ())))
def Zju:C (rT (n+1)) s 165 [obj,rwE r,.int (sz:Int)] (.tup ((faR sz r).map rwE)):=by
 have a:∀ {t:Nat},aj ((sz:Int)<=(t:Int))=aj (sz<=t):=λ{t}=>decide_eq_decide.mpr ∅
 cases r with
 |go t=>
  refine .of (v:=ZJ) rfl rfl (.pick (k:=ae||aj (sz<=t)) (.or () λ_=>.cmp (x:=.int (t:Int)) () () λ_=>au aa a) (λh=>?_) λh=>?_)
  .show R _ _ _ _ (.tup ((if sz<=t then [] else [Rw.go (t+1)]).map rwE))
   rw[ao (am h)];exact .ret ()
  .show R _ _ _ _ (.tup ((if sz<=t then [] else [Rw.go (t+1)]).map rwE))
   rw[aq (ak h)];exact .ret (.cons (.adT (xs:=[.str "go"]) (ys:=[.int ((t+1:Nat):Int)]) () (.cons (by rw[bO];exact .add (i:=(t:Int)) () ()) .nil) (by show 1+1<=_;decide)) .nil)
 |ifr y g z t=>
  refine .of (v:=ZJ) rfl rfl (.pick (k:=ae||aj (sz<=t)) (.or () λ_=>.cmp (x:=.int (t:Int)) () () λ_=>au aa a) (λh=>?_) λh=>?_)
  .show R _ _ _ _ (.tup ((if sz<=t then [] else [Rw.ifr y g z (t+1)]).map rwE))
   rw[ao (am h)];exact .ret ()
  .show R _ _ _ _ (.tup ((if sz<=t then [] else [Rw.ifr y g z (t+1)]).map rwE))
   rw[aq (ak h)];exact .ret (.cons (.adT (xs:=[.str "if",opE y,.str g,opE z]) (ys:=[.int ((t+1:Nat):Int)]) () (.cons (by rw[bO];exact .add (i:=(t:Int)) () ()) .nil) (by show 4+1<=_;decide)) .nil)
 |put x y g z=>exact .of (v:=ZJ) rfl rfl (.yes (.or (k:=ac) (m:=ae) () λh=>nomatch h) ())
 |tell y=>exact .of (v:=ZJ) rfl rfl (.yes (.or (k:=ac) (m:=ae) () λh=>nomatch h) ())
 |skip=>exact .of (v:=ZJ) rfl rfl (.yes (.or (k:=ac) (m:=ae) () λh=>nomatch h) ())
variable{i0:Nat}
section
variable{g0:Str}
theorem Zih{α:Type}{b:α->D}{g:α->Li D}{E:Ot D->Env}(n:∀ y d,Zf (E y) i d=E (aa d))(m:s.length<=j):∀ {l:Li α},(∀ a∈l,Ap F s j q (E (aa (b a))) (E (aa (b a))) (g a))->∀ {y:Ot D}{st:Za}{acc:Li D},Grw s st->st[j]?=aa (ac,acc)->acc.length+(l.flatMap g).length<=90000->∃ e st',Zj (λd U s=>ex F q (Zf U i d) s) (l.map b) (E y) st=aa (.nx (E e),st')/\Kj j st st'/\st'[j]?=aa (ac,acc++l.flatMap g)
 |[],_,y,st,acc,k,f,_=>⟨y,st,rfl,Grw.refl.kj,by rw[List.flatMap_nil,bG];exact f⟩
 |a :: l,h,y,st,acc,k,f,t=>by
  rw[bY,aI]at t;obtain⟨s1,x,g1,r⟩:=h a Ls st acc k f ∅
  obtain⟨e,o,w,g2,p⟩:=Zih n m (λc u=>h c (Lm _ u)) (y:=aa (b a)) (g1.grw m k) r (by rw[aI];omega)
  refine⟨e,o,?_,g1.trans g2,by rw[bY,<-bV];exact p⟩
  rw[aK];show(match ex F q (Zf (E y) i (b a)) st with
   |some (.nx U',st')=>Zj _ (l.map b) U' st'
   |some (.ct U',st')=>Zj _ (l.map b) U' st'
   |some (.bk U',st')=>aa (.nx U',st')
   |some (.rt v,st')=>aa (.rt v,st')
   |none=>ab)=_
  rw[n,x];exact w
theorem Zgv{α:Type}{en:α->D}{g:α->Li D}{E:Ot D->Env}{la:Nat}{bb:Bool}{all:Li α}(m:∀ y d,Zf (E y) i d=E (aa d))(l:s.length<=j)(f:la≠j)(h:∀ a∈all,Ap F s j q (E (aa (en a))) (E (aa (en a))) (g a)):∀ (M t:Nat) {y:Ot D}{st:Za}{acc:Li D},t+M=all.length->Grw s st->st[la]?=aa (bb,all.map en)->st[j]?=aa (ac,acc)->acc.length+((all.drop t).flatMap g).length<=90000->∃ c st',ZI (λd U s=>ex F q (Zf U i d) s) la M t (E y) st=aa (.nx (E c),st')/\Kj j st st'/\st'[j]?=aa (ac,acc++(all.drop t).flatMap g)
 |0,t,y,st,acc,u,k,b,e,_=>⟨y,st,by unfold ZI;rw[b];exact ao (by rw[aD];omega),Grw.refl.kj,by rw[dY ∅,List.flatMap_nil,bG];exact e⟩
 |M+1,t,y,st,acc,u,k,b,e,v=>by
  have hi:t < all.length:=by omega
  rw[bX hi,bY,aI]at v;obtain⟨s1,x,g1,p⟩:=h _ (cT hi) st acc k e ∅
  obtain⟨c,n,w,g2,o⟩:=Zgv m l f h M (t+1) (y:=aa (en all[t])) ∅ (g1.grw l k) ((g1.old _ (Zk b) f).trans b) p (by rw[aI];omega)
  refine⟨c,n,?_,g1.trans g2,by rw[bX hi,bY,<-bV];exact o⟩
  conv=>lhs;unfold ZI
  have r:(all.map en)[t]?=aa (en all[t]):=by rw[aV,Lg hi];rfl
  simp only[b,r,m,x];exact w
def ZjB{u v:α->D}{g:α->Li D}{E:Ot D->Ot D->Ot D->Env}{i':Nat}(H:∀ y z w u v,Zf (Zf (E y z w) i u) i' v=E (aa u) (aa v) w)(C:s.length<=j){l:Li α}:(∀ a∈l,∀ w st acc,Grw s st->st[j]?=aa (ac,acc)->acc.length+(g a).length<=90000->∃ U' st',(∃ y z w,U'=E y z w)/\ex F q (E (aa (u a)) (aa (v a)) w) st=aa (.nx U',st')/\Kj j st st'/\st'[j]?=aa (ac,acc++g a))->∀ {y z w:Ot D}{st:Za}{acc:Li D},Grw s st->st[j]?=aa (ac,acc)->acc.length+(l.flatMap g).length<=90000->∃ d b e st',Z3 (λ_=>True) (λx y U S=>ex F q (Zf (Zf U i x) i' y) S) (l.map λa=>(u a,v a)) (E y z w) st=aa (.nx (E d b e),st')/\Kj j st st'/\st'[j]?=aa (ac,acc++l.flatMap g):=by
 induction l with
 |nil=>intro _ y z w st acc k f _;exact⟨y,z,w,st,ao trivial,Grw.refl.kj,by rw[List.flatMap_nil,bG];exact f⟩
 |cons a l A=>
  intro h y z w st acc k f B;rw[bY,aI]at B;obtain⟨_,s1,⟨n,m,o,rfl⟩,J,g1,t⟩:=h a Ls w st acc k f ∅
  obtain⟨d,b,e,p,I,g2,r⟩:=A (λc G=>h c (Lm _ G)) (y:=n) (z:=m) (w:=o) (g1.grw C k) t (by rw[aI];omega)
  refine⟨d,b,e,p,?_,g1.trans g2,by rw[bY,<-bV];exact r⟩
  rw[aK,Z3,ao trivial];simp only[H,J];exact I
def Lf(s:Za)(f:Za->Res)(xs:Li D):Prop:=∀ st,Grw s st->∃ st' j,f st=aa (.lst j,st')/\st'[j]?=aa (ac,xs)/\Grw st st'
def Lf.lv{f:Za->Res}(h:Lf s f xs):Lv s f xs:=λst g=>by
 obtain⟨s1,j,c,b,a⟩:=h st g;exact⟨s1,j,ac,c,b,a⟩
def UQ{b:D->Li (Ot D)}{en g:α->D}{l:Li α}(hi:Wk F s it U wk (l.map en))(m:l.length<=1000)(h:∀ a∈l,Y F s elt (Yg b U fr (en a)) (g a)):Lf s (YZ b wk fr (ev F it) (ev F elt) (ev F (.c (.bl ac))) U) (l.map g):=λst k=>by
 obtain⟨x,s1,ok,q,e,p,j⟩:=hi st k;obtain⟨f,o,i⟩:=UI (s:=s1) (ok:=ok) (fe:=λd=>ev F elt (Yg b U fr d)) (fc:=λd=>ev F (.c (.bl ac)) (Yg b U fr d)) (λ_ _=>rfl) j (λa n=>Gv.mono (h a n) (k.trans e)) s1 .refl
 refine⟨f++[(ac,l.map g)],_,?_,ZE,(e.trans i).trans .push⟩;unfold YZ;simp only[q,p,aD,ao m,o]
theorem Ap.ext(hi:U[i]?=aa (jL j))(h:Lf s (ev F e U) xs):Ap F s j (.ext i e) U U xs:=λst acc g f n=>by
 obtain⟨s1,q,l,k,a⟩:=h st g;have b:=a.get f;refine⟨s1.set j (ac,acc++xs),?_,⟨λm d c=>?_,by rw[aY];exact a.len⟩,by rw[W8 (Zk b),ao rfl]⟩
 .show Zb6 i (ev F e) U st=_
  unfold Zb6 ZgO;simp only[hi,l,b,k];rw[ao (by unfold Zp;omega)]
 .rw[W8 (Zk b),aq (Ne.symm c)]
  exact a.old m d
def R.gather{l:Li α}{en:α->D}{g:α->Li D}{E:Ot D->Nat->Env}(w:∀ j,Zf U i0 (.lst j)=E ab j)(t:∀ y j d,Zf (E y j) i d=E (aa d) j)(n:∀ y j,(E y j)[i0]?=aa (jL j))(p:∀ j,Y F s e (E ab j) (.tup (l.map en)))(r:∀ j,s.length<=j->∀ a∈l,Ap F s j q (E (aa (en a)) j) (E (aa (en a)) j) (g a))(o:(l.flatMap g).length<=90000):R F s (.y i0 (.lstE .aN) (.seq (.for1 i ae e q) (.q (.tOf (.v i0))))) U (.tup (l.flatMap g)):=λst b=>by
 obtain⟨s1,z,f⟩:=p st.length (st++[(ac,[])]) (b.trans .push);obtain⟨A,h,x,m,u⟩:=Zih (i:=i) (E:=λy=>E y st.length) (λy d=>t y st.length d) b.len (r st.length b.len) (y:=ab) ((b.trans .push).trans f) (f.get ZE) (by rw[cQ,bH];exact o)
 refine⟨h,?_,(f.kj.trans m).grw (aE _) .push⟩;have k:ex F (.set i0 (.lstE .aN)) U st=aa (.nx (E ab st.length),st++[(ac,[])]):=by rw[<-w];exact Zs rfl
 exact(Ze k).trans ((Ze ((for_tup z).trans x)).trans (Zt (Yn (YJ (c:=(ac,[]++l.flatMap g)) (by show Yh i0 _ _=_;unfold Yh;rw[n]) u))))
def Zjv(h:Zu m sz r):C (rT (n+2)) s 151 [obj,rwE r,.int (sz:Int)] (.tup ((moR r).map rwE)):=by
 have c:∀ (l:Li (Nat×Li Rw)),(∀ {s:Za},C (rT (n+1)) s 113 [rwE r] (.tup (l.map λp=>D.int (p.1:Int))))->(l.flatMap λp=>p.2.map rwE)=(moR r).map rwE->((moR r).map rwE).length<=90000->(∀ p∈l,∀ j,s.length<=j->Ap (rT (n+1)) s j Yj [aa obj,aa (rwE r),jN sz,jL j,jN p.1] [aa obj,aa (rwE r),jN sz,jL j,jN p.1] (p.2.map rwE))->C (rT (n+2)) s 151 [obj,rwE r,.int (sz:Int)] (.tup ((moR r).map rwE)):=λl J I F H=>by
  rw[<-I]at F ⊢;exact .of (v:=YO) rfl rfl (.gather (i0:=3) (i:=4) (E:=λy j=>[aa obj,aa (rwE r),jN sz,jL j,y]) (en:=λp:Nat×Li Rw=>D.int (p.1:Int)) (g:=λp=>p.2.map rwE) (λ_=>rfl) (λ_ _ _=>rfl) (λ_ _=>rfl) (λj=>.call1 () J) (λj A p b=>H p b j A) F)
 have one:∀ {a:Li D}{p j:Nat}{o:Op}{f:Op->Rw},rwE r=.tup a->a.length<=5->a[p]?=aa (opE o)->(∀ q,.tup (a.set p (opE q))=rwE (f q))->Ap (rT (n+1)) s j Yj [aa obj,aa (rwE r),jN sz,jL j,jN p] [aa obj,aa (rwE r),jN sz,jL j,jN p] (((Wi o).map f).map rwE):=λ{a p j o f} L M G K=>by
  rw[L];have B:∀ {s:Za},Y (rT (n+1)) s (.ix (.v 1) (.v 4)) [aa obj,aa (.tup a),jN sz,jL j,jN p] (opE o):=.ixt (j:=p) () () G;cases o with
  |nm i=>exact .one (.ite (k:=ae) (.cmp (x:=.str "name") (.ixt (j:=0) B () rfl) () λ_=>rfl) .skip)
  |nu v=>
   refine .one (.ite (k:=ac) (.cmp (x:=.str "number") (.ixt (j:=0) B () rfl) () λ_=>rfl) (.one (.app rfl ?_)))
   have:=YK (n:=n) (s:=s) (xs:=a) (i:=p) (d:=opE (.nu (arI (v+1)))) (Zk G) ∅
   rw[K]at this;exact .call (xs:=[.tup a,.int (p:Int),opE (.nu (arI (v+1)))]) (.cons () (.cons () (.cons (.cons () (.cons (.call1 (.add (.ixt (j:=1) B () rfl) ()) YW) .nil)) .nil))) this
 have w:∀ {o:Op},(Wi o).length<=1:=λ{o}=>by cases o with
  |nm i=>exact aS _
  |nu v=>exact aE _
 have u:∀ {s:Za}{l:Li D},(match r with|.put _ _ _ _=>[D.int 2,.int 4]|.ifr _ _ _ _=>[.int 1,.int 3]|.tell _=>[.int 1]|_=>[])=l->C (rT (n+1)) s 113 [rwE r] (.tup l):=λ{s l} e=>by
  rw[<-e];cases r<;>exact .of (v:=ZV) rfl rfl (.ret ())
 cases r with
 |put x y g z=>
  refine c [(2,(Wi y).map λq=>.put x q g z),(4,(Wi z).map λq=>.put x y g q)] (u rfl) (by show _++(_++[])=List.map rwE (_++_);rw[bG,bN]) (by show(List.map rwE (_++_)).length<=90000;rw[aD,aI,aD,aD];have:=w (o:=y);have:=w (o:=z);omega) λp b j A=>?_
  simp only[aF,bB,or_false]at b;rcases b with rfl|rfl
  .exact one (f:=λq=>.put x q g z) rfl (by show 5<=5;decide) rfl λq=>rfl
  .exact one (f:=λq=>.put x y g q) rfl (by show 5<=5;decide) rfl λq=>rfl
 |ifr y g z t=>
  refine c [(1,(Wi y).map λq=>.ifr q g z t),(3,(Wi z).map λq=>.ifr y g q t)] (u rfl) (by show _++(_++[])=List.map rwE (_++_);rw[bG,bN]) (by show(List.map rwE (_++_)).length<=90000;rw[aD,aI,aD,aD];have:=w (o:=y);have:=w (o:=z);omega) λp b j A=>?_
  simp only[aF,bB,or_false]at b;rcases b with rfl|rfl
  .exact one (f:=λq=>.ifr q g z t) rfl (by show 5<=5;decide) rfl λq=>rfl
  .exact one (f:=λq=>.ifr y g q t) rfl (by show 5<=5;decide) rfl λq=>rfl
 |tell y=>
  refine c [(1,(Wi y).map .tell)] (u rfl) (by show _++[]=_;rw[bG];rfl) (by show(List.map rwE (List.map _ _)).length<=90000;rw[aD,aD];have:=w (o:=y);omega) λp b j A=>?_
  rw[aM.mp b];exact one (f:=.tell) rfl (by show 2<=5;decide) rfl λq=>rfl
 |go t=>exact c [] (u rfl) rfl (aS _) λp b=>nomatch b
 |skip=>exact c [] (u rfl) rfl (aS _) λp b=>nomatch b
end
structure Stp where
 c:Nat
 t:Nat
 v:Nat
 w:Str
 f:Rw->List Rw
def stp(sz:Nat):Li Stp:=[⟨169,171,170,S "sign",sgR⟩,⟨149,151,150,S "more",moR⟩,⟨157,159,158,S "turn",tuR⟩,⟨152,154,153,S "out",ouR⟩,⟨160,162,161,S "swap",swR⟩,⟨163,165,164,S "far",faR sz⟩]
def tD(p:Nat×Str×Rw):D:=.tup [.int (p.1:Int),.str p.2.1,rwE p.2.2]
def fkR(sz k:Nat)(r:Rw):Li (Nat×Str×Rw):=(stp sz).flatMap λp=>(p.f r).map λq=>(k,p.w,q)
def fkL(rs:Li Rw):Li (Nat×Str×Rw):=rs.zipIdx.flatMap λp=>fkR rs.length p.2 p.1
def Y.methO{b:Nat}{tab:Li (Nat×Nat)}(g:Y F s e U (.obj b))(f:tab.lookup b=aa j)(i:Y F s a U (.tup xs))(h:C F s j (.obj b :: xs) d):Y F s (.meth tab e a) U d:=g2 g i λst k=>by
 obtain⟨s1,l,c⟩:=h st k;refine⟨s1,?_,c⟩;show(match tab.lookup b with
  |some j=>F j (.obj b :: xs) st
  |none=>ab)=_
 rw[f];exact l
def Zg5:(moR r).length<=2:=by
 have a:∀ {o:Op},(Wi o).length<=1:=λ{o}=>by
  cases o with
  |nm i=>exact aS _
  |nu v=>exact aE _
 cases r with
 |put x y g z=>show(_++_:Li Rw).length<=2;rw[aI,aD,aD];have:=a (o:=y);have:=a (o:=z);omega
 |ifr y g z t=>show(_++_:Li Rw).length<=2;rw[aI,aD,aD];have:=a (o:=y);have:=a (o:=z);omega
 |tell y=>show(List.map _ _).length<=2;rw[aD];have:=a (o:=y);omega
 |go t=>exact aS _
 |skip=>exact aS _
def ZaC{p:Stp}(a:p∈stp sz):(p.f r).length<=2:=by
 simp only[stp,aF,bB,or_false]at a;rcases a with rfl|rfl|rfl|rfl|rfl|rfl
 .cases r<;>first|exact aS _|exact(by decide:1<=2)
 .exact Zg5
 .cases r<;>first|exact aS _|exact(by decide:1<=2)
 .cases r<;>first|exact aS _|exact(by decide:1<=2)
 .cases r with
  |put x y g z=>show(if y=z then [] else [Rw.put x z g y]).length<=2;split<;>first|exact aS _|exact(by decide:1<=2)
  |ifr y g z t=>show(if y=z then [] else [Rw.ifr z g y t]).length<=2;split<;>first|exact aS _|exact(by decide:1<=2)
  |_=>exact aS _
 .cases r with
  |go t=>show(if sz<=t then [] else [Rw.go (t+1)]).length<=2;split<;>first|exact aS _|exact(by decide:1<=2)
  |ifr y g z t=>show(if sz<=t then [] else [Rw.ifr y g z (t+1)]).length<=2;split<;>first|exact aS _|exact(by decide:1<=2)
  |_=>exact aS _
def Uv{p:Stp}(a:p∈stp sz)(h:Zu m sz r):C (rT (n+2)) s p.t [.obj p.c,rwE r,.int (sz:Int)] (.tup ((p.f r).map rwE))/\C (rT (n+2)) s p.v [.obj p.c] (.str p.w)/\List.lookup p.c [(146,148),(169,171),(149,151),(157,159),(152,154),(160,162),(163,165)]=aa p.t/\List.lookup p.c [(146,147),(169,170),(149,150),(157,158),(152,153),(160,161),(163,164)]=aa p.v:=by
 simp only[stp,aF,bB,or_false]at a;rcases a with rfl|rfl|rfl|rfl|rfl|rfl
 .exact⟨Zjx h,.of (v:=Xm) rfl rfl (.ret ()),rfl,rfl⟩
 .exact⟨Zjv h,.of (v:=Xl) rfl rfl (.ret ()),rfl,rfl⟩
 .exact⟨Zjz h,.of (v:=Xo) rfl rfl (.ret ()),rfl,rfl⟩
 .exact⟨Zjw,.of (v:=X0) rfl rfl (.ret ()),rfl,rfl⟩
 .exact⟨Zjy,.of (v:=Xn) rfl rfl (.ret ()),rfl,rfl⟩
 .exact⟨Zju,.of (v:=XZ) rfl rfl (.ret ()),rfl,rfl⟩
def ZiF{e:Nat}{p:Stp}(i:Rs m rs)(d:p∈stp rs.length)(h:Zu m rs.length r):Ap (rT (n+3)) s j Wp [aa (pgD tk m rs),aa (.tup (rs.map rwE)),jL e,jL j,jN k,aa (rwE r),aa (.obj p.c)] [aa (pgD tk m rs),aa (.tup (rs.map rwE)),jL e,jL j,jN k,aa (rwE r),aa (.obj p.c)] (((p.f r).map λq=>(k,p.w,q)).map tD):=by
 refine .one (.ext rfl ?_);rw[aZ];refine UQ (b:=one) (en:=rwE) (g:=tD ∘ λq=>(k,p.w,q)) (l:=p.f r) (.of (x:=.tup ((p.f r).map rwE)) (.methO (xs:=[rwE r,.int (rs.length:Int)]) () (Uv (n:=n) (s:=s) d h).2.2.1 (.cons () (.cons ?_ .nil)) ?_) λst=>rfl) (by have:=ZaC (r:=r) d;omega) λq o=>.cons () (.cons (.methO (xs:=[]) () (Uv (n:=n) (s:=s) d h).2.2.2 () ?_) (.cons () .nil))
 .have:=Y.lnT (F:=rT (n+3)) (s:=s) (a:=.v 1) (U:=[aa (pgD tk m rs),aa (.tup (rs.map rwE)),jL e,jL j,jN k,aa (rwE r),aa (.obj p.c)]) (xs:=rs.map rwE) ()
  rw[aD]at this;exact this
 .exact(Uv (n:=n+1) d h).1
 .exact(Uv (n:=n+1) d h).2.1
def ZgP:(fkR sz k r).length<=12:=by
 have h:∀ l:Li Stp,(∀ p∈l,(p.f r).length<=2)->(l.flatMap λp=>(p.f r).map λq=>(k,p.w,q)).length<=2 * l.length:=λl=>by
  induction l with
  |nil=>intro _;exact aE _
  |cons p l a=>
   intro h;rw[bY,aI,aD,aQ];have e:=h p Ls;have d:=a λq b=>h q (Lm _ b)
   omega
 exact h (stp sz) λp c=>ZaC c
theorem Zb4:∀ {rs:Li Rw}{k:Nat},Xv k (rs.map rwE)=(rs.zipIdx k).map λp=>(D.int (p.2:Int),rwE p.1)
 |[],_=>rfl
 |r :: rs,k=>by
  rw[aK,Xv,Zb4,List.zipIdx_cons,aK]
def W6:(fkL rs).length<=12 * rs.length:=by
 have h:∀ {l:Li (Rw×Nat)},(l.flatMap λp=>fkR rs.length p.2 p.1).length<=12 * l.length:=λ{l}=>by
  induction l with
  |nil=>exact aE _
  |cons p l a=>
   rw[bY,aI,aQ];have:=ZgP (sz:=rs.length) (k:=p.2) (r:=p.1);omega
 have:=h (l:=rs.zipIdx);rw[List.length_zipIdx]at this;exact this
def JU(h:Rs m rs):C (rT (n+4)) s 172 [pgD tk m rs] (.tup ((fkL rs).map tD)):=λst g=>by
 have S:=W6 (rs:=rs);have R:=h.l;have r:ex (rT (n+3)) (.set 2 (.lstE (.aC (.new 169) (.aC (.new 149) (.aC (.new 157) (.aC (.new 152) (.aC (.new 160) (.u (.new 163))))))))) [aa (pgD tk m rs),aa (.tup (rs.map rwE)),ab,ab,ab,ab,ab] st=aa (.nx [aa (pgD tk m rs),aa (.tup (rs.map rwE)),jL st.length,ab,ab,ab,ab],st++[(ac,(stp rs.length).map λp=>.obj p.c)]):=Zs rfl
 have b:(st++[(ac,(stp rs.length).map λp=>D.obj p.c)])[st.length]?=aa (ac,(stp rs.length).map λp=>.obj p.c):=ZE
 obtain⟨a,d⟩:∃ a,st++[(ac,(stp rs.length).map λp=>D.obj p.c)]=a:=⟨_,rfl⟩
 rw[d]at r b;have g2:Grw st a:=by rw[<-d];exact .push
 have H:ex (rT (n+3)) (.set 3 (.lstE .aN)) [aa (pgD tk m rs),aa (.tup (rs.map rwE)),jL st.length,ab,ab,ab,ab] a=aa (.nx [aa (pgD tk m rs),aa (.tup (rs.map rwE)),jL st.length,jL a.length,ab,ab,ab],a++[(ac,[])]):=Zs rfl;have M:=Zk b;obtain⟨B,A,e,o,Q,J,x⟩:=ZjB (F:=rT (n+3)) (s:=a) (j:=a.length) (q:=Wq) (i:=4) (i':=5) (E:=λy z w=>[aa (pgD tk m rs),aa (.tup (rs.map rwE)),jL st.length,jL a.length,y,z,w]) (u:=λp:Rw×Nat=>D.int (p.2:Int)) (v:=λp=>rwE p.1) (g:=λp=>(fkR rs.length p.2 p.1).map tD) (l:=rs.zipIdx) (λ_ _ _ _ _=>rfl) (aE _) (λp L w st1 acc g1 N k=>by
  have ok:Zu m rs.length p.1:=h.ok _ (List.fst_mem_of_mem_zipIdx L);obtain⟨e,G,P,I,t⟩:=Zgv (F:=rT (n+3)) (s:=a) (j:=a.length) (q:=Wp) (i:=6) (la:=st.length) (bb:=ac) (E:=λw=>[aa (pgD tk m rs),aa (.tup (rs.map rwE)),jL st.length,jL a.length,jN p.2,aa (rwE p.1),w]) (en:=λp:Stp=>D.obj p.c) (g:=λq=>((q.f p.1).map λz=>(p.2,q.w,z)).map tD) (all:=stp rs.length) (λ_ _=>rfl) (aE _) ∅ (λq K=>ZiF h K ok) 6 0 (y:=w) rfl g1 (g1.get b) N (by rw[cN];rw[show(stp rs.length).flatMap (λq=>((q.f p.1).map λz=>(p.2,q.w,z)).map tD)=(fkR rs.length p.2 p.1).map tD from(cU ..).symm];exact k)
  rw[cN,show(stp rs.length).flatMap (λq=>((q.f p.1).map λz=>(p.2,q.w,z)).map tD)=(fkR rs.length p.2 p.1).map tD from(cU ..).symm]at t
  exact⟨_,G,⟨_,_,e,rfl⟩,(Ze ((W7 (bb:=ac) (xs:=(stp rs.length).map λp=>.obj p.c) rfl (g1.get b)).trans P)).trans Zh,I,t⟩) (y:=ab) (z:=ab) (w:=ab) (.push:Grw a (a++[(ac,[])])) ZE (by rw[cQ,bH,<-cU,aD];show(fkL rs).length<=90000;omega)
 rw[dE,<-cU]at x;have O:ex (rT (n+3)) (.forE 4 5 (.v 1) Wq) [aa (pgD tk m rs),aa (.tup (rs.map rwE)),jL st.length,jL a.length,ab,ab,ab] (a++[(ac,[])])=aa (.nx [aa (pgD tk m rs),aa (.tup (rs.map rwE)),jL st.length,jL a.length,B,A,e],o):=by
  rw[<-Q,<-Zb4];rfl
 refine⟨o,QL (v:=UC) rfl rfl ((Ze (Zs rfl)).trans ((Ze r).trans ((Ze H).trans ((Ze O).trans (Zt (Yn (YJ (c:=(ac,(fkL rs).map tD)) rfl x))))))),?_⟩;exact g2.trans (J.grw (aE _) .push)
variable{v:Int}
section
variable{q:Rw}
def ZgU(h:Sm v):arI (v+1)≠v:=by
 unfold Sm at h;unfold arI;have:=Zm (v+1+1000000000) (j:=2000000000) #[]
 intro e;have a:=Int.mul_ediv_add_emod (v+1+1000000000) 2000000000;generalize (v+1+1000000000) / 2000000000=u at *
 omega
def VC(h:Wn m o):∀ q∈Wi o,Wn m q/\q≠o:=λq a=>by
 cases o with
 |nm i=>cases a
 |nu v=>
  rw[aM.mp a];exact⟨V7,λe=>ZgU h (by injection e)⟩
def ZhR:(∀ g∈psL,nxt psL g∈psL/\nxt psL g≠g)/\∀ g∈isL,(nxt isL g∈isL/\nxt isL g≠g)/\(cnt g∈isL/\cnt g≠g)/\nxt isL g≠cnt g:=by decide +kernel
def ZhV(h:Zu m sz r){p:Stp}(b:p∈stp sz):∀ q∈p.f r,Zu m sz q:=λq hq=>by
 simp only[stp,aF,bB,or_false]at b;rcases b with rfl|rfl|rfl|rfl|rfl|rfl
 .cases r with
  |put x y g z=>rw[aM.mp hq];exact⟨h.1,h.2.1,(ZhR.1 g h.2.2.1).1,h.2.2.2⟩
  |ifr y g z t=>rw[aM.mp hq];exact⟨h.1,(ZhR.2 g h.2.1).1.1,h.2.2⟩
  |_=>cases hq
 .cases r with
  |put x y g z=>
   rcases bC.mp hq with hq|hq
   .obtain⟨u,a,rfl⟩:=aL.mp hq;exact⟨h.1,(VC h.2.1 u a).1,h.2.2⟩
   .obtain⟨u,a,rfl⟩:=aL.mp hq;exact⟨h.1,h.2.1,h.2.2.1,(VC h.2.2.2 u a).1⟩
  |ifr y g z t=>
   rcases bC.mp hq with hq|hq
   .obtain⟨u,a,rfl⟩:=aL.mp hq;exact⟨(VC h.1 u a).1,h.2⟩
   .obtain⟨u,a,rfl⟩:=aL.mp hq;exact⟨h.1,h.2.1,(VC h.2.2.1 u a).1,h.2.2.2⟩
  |tell y=>obtain⟨u,a,rfl⟩:=aL.mp hq;exact(VC h u a).1
  |_=>cases hq
 .cases r with
  |ifr y g z t=>rw[aM.mp hq];exact⟨h.1,(ZhR.2 g h.2.1).2.1.1,h.2.2⟩
  |_=>cases hq
 .cases r with
  |skip=>cases hq
  |_=>rw[aM.mp hq];trivial
 .cases r with
  |put x y g z=>
   have hq:q∈if y=z then [] else [Rw.put x z g y]:=hq
   split at hq
   .cases hq
   .rw[aM.mp hq];exact⟨h.1,h.2.2.2,h.2.2.1,h.2.1⟩
  |ifr y g z t=>
   have hq:q∈if y=z then [] else [Rw.ifr z g y t]:=hq
   split at hq
   .cases hq
   .rw[aM.mp hq];exact⟨h.2.2.1,h.2.1,h.1,h.2.2.2⟩
  |_=>cases hq
 .cases r with
  |go t=>
   have hq:q∈if sz<=t then [] else [Rw.go (t+1)]:=hq
   split at hq
   .cases hq
   .rw[aM.mp hq];show t+1<=sz;omega
  |ifr y g z t=>
   have hq:q∈if sz<=t then [] else [Rw.ifr y g z (t+1)]:=hq
   split at hq
   .cases hq
   .rw[aM.mp hq];exact⟨h.1,h.2.1,h.2.2.1,∅⟩
  |_=>cases hq
def WG{p:Nat×Str×Rw}(d:Rs m rs)(h:p∈fkL rs):p.1 < rs.length/\Zu m rs.length p.2.2:=by
 obtain⟨u,b,f⟩:=dP.mp h;obtain⟨t,c,e⟩:=dP.mp f;obtain⟨q,a,rfl⟩:=aL.mp e;exact⟨by have:=List.snd_lt_of_mem_zipIdx b;simpa using this,ZhV (d.ok _ (List.fst_mem_of_mem_zipIdx b)) c q a⟩
theorem Rs.set(a:Rs m rs)(h:Zu m rs.length q):Rs m (rs.set k q):=by
 refine⟨by rw[aY];exact a.l,λr h'=>?_⟩
 rw[aY];rcases eK h' with h'|h'
 .exact a.ok r h'
 .rw[h'];exact h
end
mutual
theorem Q7:∀ {x y:D},Zn x y=ac->x=y
 |.non,.non,_=>rfl
 |.bl a,.bl b,h=>by have h:(a==b)=ac:=h;rw[eq_of_beq h]
 |.int a,.int b,h=>by rw[am (p:=a=b) h]
 |.str a,.str b,h=>by rw[am (p:=a=b) h]
 |.tup a,.tup b,h=>by rw[Uz (xs:=a) (ys:=b) h]
theorem Uz:∀ {xs ys:Li D},Zq xs ys=ac->xs=ys
 |[],[],_=>rfl
 |x :: xs,y :: ys,h=>by
  have h:(Zn x y&&Zq xs ys)=ac:=h;rw[Ba]at h;rw[Q7 h.1,Uz h.2]
end
variable{xs:Li D}
def ZH{a b:Str}{ys:Li D}(h:D.tup (.str a :: xs)=.tup (.str b :: ys)):a=b:=by injection h with h;injection h with h _;injection h
def WI{o z:Op}(h:opE o=opE z):o=z:=by
 cases o with
 |nm i=>cases z with
  |nm j=>
   have h:D.tup [.str "name",.int (i:Int)]=.tup [.str "name",.int (j:Int)]:=h
   injection h with h;injection h with _ h;injection h with h _;injection h with h;rw[Int.ofNat.inj h]
  |nu v=>exact ar (ZH h) (by decide +kernel)
 |nu u=>cases z with
  |nm j=>exact ar (ZH h) (by decide +kernel)
  |nu v=>
   have h:D.tup [.str "number",.int u]=.tup [.str "number",.int v]:=h
   injection h with h;injection h with _ h;injection h with h _;injection h with h;rw[h]
def JF{r q:Rw}(h:rwE r=rwE q):r=q:=by
 have B:S "put"≠S "if"/\S "put"≠S "go"/\S "put"≠S "tell"/\S "put"≠S "skip"/\S "if"≠S "go"/\S "if"≠S "tell"/\S "if"≠S "skip"/\S "go"≠S "tell"/\S "go"≠S "skip"/\S "tell"≠S "skip":=by decide +kernel
 obtain⟨w,v,u,s,p,o,n,m,l,f⟩:=B;cases r with
 |put x y g z=>cases q with
  |put A a k i=>
   have h:D.tup [.str "put",.int (x:Int),opE y,.str g,opE z]=.tup [.str "put",.int (A:Int),opE a,.str k,opE i]:=h
   injection h with h;injection h with _ h;injection h with e h;injection h with d h;injection h with c h;injection h with b _;injection e with e;injection c with c
   rw[Int.ofNat.inj e,WI d,c,WI b]
  |ifr _ _ _ _=>exact ar (ZH h) w
  |go _=>exact ar (ZH h) v
  |tell _=>exact ar (ZH h) u
  |skip=>exact ar (ZH h) s
 |ifr y g z t=>cases q with
  |put _ _ _ _=>exact ar (ZH h) w.symm
  |ifr a k i j=>
   have h:D.tup [.str "if",opE y,.str g,opE z,.int (t:Int)]=.tup [.str "if",opE a,.str k,opE i,.int (j:Int)]:=h
   injection h with h;injection h with _ h;injection h with e h;injection h with d h;injection h with c h;injection h with b _;injection b with b;injection d with d
   rw[WI e,d,WI c,Int.ofNat.inj b]
  |go _=>exact ar (ZH h) p
  |tell _=>exact ar (ZH h) o
  |skip=>exact ar (ZH h) n
 |go t=>cases q with
  |put _ _ _ _=>exact ar (ZH h) v.symm
  |ifr _ _ _ _=>exact ar (ZH h) p.symm
  |go j=>
   have h:D.tup [.str "go",.int (t:Int)]=.tup [.str "go",.int (j:Int)]:=h
   injection h with h;injection h with _ h;injection h with h _;injection h with h;rw[Int.ofNat.inj h]
  |tell _=>exact ar (ZH h) m
  |skip=>exact ar (ZH h) l
 |tell y=>cases q with
  |put _ _ _ _=>exact ar (ZH h) u.symm
  |ifr _ _ _ _=>exact ar (ZH h) o.symm
  |go _=>exact ar (ZH h) m.symm
  |tell a=>
   have h:D.tup [.str "tell",opE y]=.tup [.str "tell",opE a]:=h
   injection h with h;injection h with _ h;injection h with h _;rw[WI h]
  |skip=>exact ar (ZH h) f
 |skip=>cases q with
  |put _ _ _ _=>exact ar (ZH h) s.symm
  |ifr _ _ _ _=>exact ar (ZH h) n.symm
  |go _=>exact ar (ZH h) l.symm
  |tell _=>exact ar (ZH h) f.symm
  |skip=>rfl
theorem Qw:∀ {a b:Li Int},a.map D.int=b.map D.int->a=b
 |[],[],_=>rfl
 |x :: a,y :: b,h=>by
  rw[aK,aK]at h
  injection h with c d;injection c with c
  rw[c,Qw d]
mutual
theorem ZbF:∀ {n:Nat}{x:D},okD n x=ac->Zn x x=ac
 |_,.non,_=>rfl
 |_,.int i,_=>aP rfl
 |_,.str i,_=>aP rfl
 |n+1,.tup xs,h=>W0 (n:=n) (xs:=xs) h
 |0,.tup xs,h=>nomatch h
 |0,.bl _,h=>nomatch h
 |_+1,.bl _,h=>nomatch h
 |0,.lst _,h=>nomatch h
 |_+1,.lst _,h=>nomatch h
 |0,.dic _,h=>nomatch h
 |_+1,.dic _,h=>nomatch h
 |0,.dct _ _,h=>nomatch h
 |_+1,.dct _ _,h=>nomatch h
 |0,.obj _,h=>nomatch h
 |_+1,.obj _,h=>nomatch h
 |0,.kt _,h=>nomatch h
 |_+1,.kt _,h=>nomatch h
theorem W0:∀ {n:Nat}{xs:Li D},ZX n xs=ac->Zq xs xs=ac
 |_,[],_=>rfl
 |n,x :: xs,h=>by
  have h:(okD n x&&ZX n xs)=ac:=h;rw[Ba]at h;show(Zn x x&&Zq xs xs)=ac;rw[ZbF h.1,W0 h.2];rfl
end
def Zc8(o:Op):∃ a,opE o=.tup a/\okD 8 (.tup a)=ac:=by cases o<;>exact⟨_,rfl,rfl⟩
def JG(r:Rw):∃ a,rwE r=.tup a/\okD 8 (.tup a)=ac:=by
 cases r with
 |put x y g z=>exact⟨_,rfl,by cases y<;>cases z<;>rfl⟩
 |ifr y g z t=>exact⟨_,rfl,by cases y<;>cases z<;>rfl⟩
 |go t=>exact⟨_,rfl,rfl⟩
 |tell y=>exact⟨_,rfl,by cases y<;>rfl⟩
 |skip=>exact⟨_,rfl,rfl⟩
def Y.eqd(d:Y F s a U (.tup xs))(c:Y F s b U (.tup ys))(g:okD 8 (.tup xs)=ac)(f:okD 8 (.tup ys)=ac):Y F s (.e a b) U (.bl (Zq xs ys)):=.cmp d c λst=>by
 have e:eqT xs (.tup ys)=aa (Zq xs ys):=ao (by rw[g,f];rfl)
 show(match eqT xs (.tup ys) with
  |some k=>aa k
  |none=>Zav st xs ys)=_
 rw[e]
open Classical in
def Yu(a:okD 8 (.tup xs)=ac):Zq xs ys=aj (xs=ys):=by
 by_cases c:xs=ys
 .subst c;rw[aP rfl];exact W0 (n:=7) a
 .rw[aH c]
  cases q:Zq xs ys with
  |false=>rfl
  |true=>exact ar (Uz q) c
def Y.ned(d:Y F s a U (.tup xs))(c:Y F s b U (.tup ys))(g:okD 8 (.tup xs)=ac)(f:okD 8 (.tup ys)=ac):Y F s (.cmp .NotEq a b) U (.bl (!Zq xs ys)):=.cmp d c λst=>by
 have e:eqT xs (.tup ys)=aa (Zq xs ys):=ao (by rw[g,f];rfl)
 show Option.map Bool.not (match eqT xs (.tup ys) with
  |some k=>aa k
  |none=>Zav st xs ys)=_
 rw[e];rfl
def rv(k:Nat)(vs:Li Int):Rw->Sum D (Nat×Li Int)
 |.tell y=>.inl (teD (woI vs y))
 |r=>.inr (pkN k vs r,vsN vs r)
def ZiS(h:rs[k]?=aa r):mv rs k vs=rv k vs r:=by unfold mv;rw[h];cases r<;>rfl
def Als(m j:Nat)(r a:Rw):Prop:=∀ vs,Vs m vs->rv j vs a=rv j vs r
section
variable{a b:Int}{x:Nat}
def Zfy(h:Sm a):arI a=a:=by unfold Sm at h;unfold arI;omega
def Zgw:arI (a+arI (-b))=arI (a - b):=by unfold arI;omega
def XG:rkI a (S "+") b=arI (a+b):=ao rfl
def Zdm:rkI a (S "-") b=arI (a - b):=by
 unfold rkI;rw[aq (by decide +kernel),ao rfl]
def U3:rkI a (S "*") b=arI (a * b):=by
 unfold rkI;rw[aq (by decide +kernel),aq (by decide +kernel),ao rfl]
def Zhv:rkI a (S "/") b=if b=0 then 0 else arI (fdI a b):=by
 unfold rkI;rw[aq (by decide +kernel),aq (by decide +kernel),aq (by decide +kernel),ao rfl]
def Zhw:rkI a (S "mod") b=if b=0 then a else a - b * fdI a b:=by
 unfold rkI;rw[aq (by decide +kernel),aq (by decide +kernel),aq (by decide +kernel),aq (by decide +kernel)]
def Zb7:fdI a 1=a:=by unfold fdI;rw[ao #[],dB]
def ZhO(a:Vs m vs)(b:x < m)(h:v=woI vs (.nm x)):vs.set x v=vs:=by
 have c:=a.l;subst h;show vs.set x (vs.getD x 0)=vs;rw[bD,Lg ∅,Option.getD_some,List.set_getElem_self]
def Zdy:soI a (S "<") b=aj (a < b):=ao rfl
def Zdx:soI a (S "<=") b=aj (a<=b):=by
 unfold soI;rw[aq (by decide +kernel),ao rfl]
def Zf9:soI a (S "=") b=aj (a=b):=by
 unfold soI;rw[aq (by decide +kernel),aq (by decide +kernel),ao rfl]
def Zjf:soI a (S ">=") b=aj (b<=a):=by
 unfold soI;rw[aq (by decide +kernel),aq (by decide +kernel),aq (by decide +kernel),ao rfl]
def Zjg:soI a (S ">") b=aj (b < a):=by
 unfold soI;rw[aq (by decide +kernel),aq (by decide +kernel),aq (by decide +kernel),aq (by decide +kernel),ao rfl]
def Zga:soI a (S "!=") b=!decide (a=b):=by
 unfold soI;rw[aq (by decide +kernel),aq (by decide +kernel),aq (by decide +kernel),aq (by decide +kernel),aq (by decide +kernel)]
def Zfl:soI a g a=soI b g b:=by
 unfold soI;rw[aH (Int.lt_irrefl a),aH (Int.lt_irrefl b),aP (Int.le_refl a),aP (Int.le_refl b),aP (rfl:a=a),aP (rfl:b=b)]
end
def RX(c:Nat)(q:CS)(U:Env)(P:D->Prop):Prop:=∃ d,(∀ n s,R (rT (n+c)) s q U d)/\P d
def CX(c f:Nat)(ds:Li D)(P:D->Prop):Prop:=∃ d,(∀ n s,C (rT (n+c)) s f ds d)/\P d
variable{P:D->Prop}
section
variable{c c':Nat}{k:Bool}{Q:D->Prop}
theorem CX.of{v:FD}(h:T f=aa v)(b:ds.length=v.ps)(a:RX c v.body (ds.map aa++af (v.ns - ds.length) ab) P):CX (c+1) f ds P:=by
 obtain⟨d,g,e⟩:=a;exact⟨d,λn s=>.of h b (g n s),e⟩
def RX.pick(h:∀ n s,Y (rT (n+c)) s e U (.bl k))(g:k=ac->RX c p U P)(f:k=ae->RX c q U P):RX c (.seq (.ite e p .skip) q) U P:=by
 cases k with
 |true=>obtain⟨d,a,b⟩:=g rfl;exact⟨d,λn s=>.yB (h n s) (a n s),b⟩
 |false=>obtain⟨d,a,b⟩:=f rfl;exact⟨d,λn s=>.no (h n s) (a n s),b⟩
theorem RX.ret(h:∀ n s,Y (rT (n+c)) s e U d)(a:P d):RX c (.seq (.ret e) q) U P:=⟨d,λn s=>.ret (h n s),a⟩
theorem RX.set(h:∀ n s,Y (rT (n+c)) s e U d)(f:RX c q (Zf U i d) P):RX c (.y i e q) U P:=by
 obtain⟨d,a,b⟩:=f;exact⟨d,λn s=>.set (h n s) (a n s),b⟩
def CX.mono(h:CX c f ds P)(e:∀ d,P d->Q d):CX c f ds Q:=let ⟨d,a,b⟩:=h;⟨d,a,e d b⟩
def CX.up(h:CX c' f ds P)(e:c'<=c):CX c f ds P:=let ⟨d,a,b⟩:=h;⟨d,λn s=>by have:=a (n+(c - c')) s;rwa [show n+(c - c')+c'=n+c by omega]at this,b⟩
def RX.iset{l:CE}(h:∀ n s,Y (rT (n+c)) s e U (.bl k))(u:k=ac->∃ d,(∀ n s,Y (rT (n+c)) s l U d)/\RX c q (Zf U i d) P)(t:k=ae->RX c q U P):RX c (.seq (.ite e (.z (.set i l)) .skip) q) U P:=by
 cases k with
 |true=>
  obtain⟨y,r,d,a,b⟩:=u rfl;refine⟨d,λn s st g=>?_,b⟩
  obtain⟨s1,x,f⟩:=h n s st g;obtain⟨o,w,j⟩:=r n s s1 (g.trans f);obtain⟨m,v,p⟩:=a n s o (g.trans (f.trans j));exact⟨m,(Ze ((XJ x).trans ((Ze (Zs w)).trans Zh))).trans v,f.trans (j.trans p)⟩
 |false=>obtain⟨d,a,b⟩:=t rfl;exact⟨d,λn s=>.no (h n s) (a n s),b⟩
end
noncomputable def WW:Op->Bool
 |.nm _=>ae
 |.nu _=>ac
variable{g:Str}
section
variable{k:Bool}{Q:D->Prop}
def Y.eqo{u:Op}(f:∀ s,Y F s a U (opE o))(d:∀ s,Y F s b U (opE u)):∀ s,Y F s (.e a b) U (.bl (aj (o=u))):=λs=>by
 obtain⟨xs,c,i⟩:=Zc8 o;obtain⟨ys,g,j⟩:=Zc8 u;have e:aj (o=u)=Zq xs ys:=by
  rw[Yu i];refine decide_eq_decide.mpr ⟨λh=>?_,λh=>WI (by rw[c,g,h])⟩
  rw[h,g]at c;injection c with c;exact c.symm
 have f:=f s;have d:=d s;rw[c]at f;rw[g]at d;rw[e];exact .eqd f d i j
def Y.eqr{o u:Rw}(f:∀ s,Y F s a U (rwE o))(d:∀ s,Y F s b U (rwE u)):∀ s,Y F s (.e a b) U (.bl (aj (o=u))):=λs=>by
 obtain⟨xs,c,i⟩:=JG o;obtain⟨ys,g,j⟩:=JG u;have e:aj (o=u)=Zq xs ys:=by
  rw[Yu i];refine decide_eq_decide.mpr ⟨λh=>?_,λh=>JF (by rw[c,g,h])⟩
  rw[h,g]at c;injection c with c;exact c.symm
 have f:=f s;have d:=d s;rw[c]at f;rw[g]at d;rw[e];exact .eqd f d i j
noncomputable def opV:Op->Int
 |.nm i=>i
 |.nu v=>v
noncomputable def ltO:Op->Op->Bool
 |.nm i,.nm j=>aj ((i:Int) < j)
 |.nm _,.nu _=>ac
 |.nu _,.nm _=>ae
 |.nu a,.nu b=>aj (a < b)
noncomputable def inG(g a b:Str):Bool:=aj (a=g)||(aj (b=g)||false)
def ZhQ:Rw->Str
 |.put _ _ g _=>g
 |.ifr _ g _ _=>g
 |_=>S ""
def lmR:Rw->Rw
 |.put x y g (.nu v)=>if g=S "-" then .put x y (S "+") (.nu (arI (-v))) else .put x y g (.nu v)
 |r=>r
def lfR:Rw->Rw
 |.put x y g z=>if ltO z y=ac then .put x z g y else .put x y g z
 |.ifr y g z t=>if ltO z y=ac then .ifr z g y t else .ifr y g z t
 |r=>r
def lcR(a b:Str)(r:Rw):Rw:=if inG (ZhQ r) a b=ac then lfR r else r
def noK(y:Op)(g:Str)(z:Op):Bool:=(aj (g=S "*")&&aj (z=.nu 0))||((aj (g=S "mod")&&aj (z=.nu 1))||(aj (g=S "-")&&aj (y=z)))
def Zc7(g:Str)(z:Op):Bool:=(aj (S "*"=g)||(aj (S "/"=g)||false))&&aj (z=.nu 1)
def wrR:Rw->Rw
 |.put x y g z=>if noK y g z=ac then .put x (.nu 0) (S "+") (.nu 0) else if Zc7 g z=ac then .put x y (S "+") (.nu 0) else .put x y g z
 |r=>r
def snR:Rw->Rw
 |.put x y g z=>if Rw.put x y g z=.put x (.nm x) (S "+") (.nu 0) then .skip else .put x y g z
 |r=>r
def mpR:Rw->Rw
 |.put x y g z=>if (WW y&&WW z)=ac then .put x (.nu (rkI (opV y) g (opV z))) (S "+") (.nu 0) else snR (wrR (lcR (S "+") (S "*") (lmR (.put x y g z))))
 |r=>r
def R.iset{n:CE}(h:Y F s e U (.bl k))(r:k=ac->Y F s n U x)(p:k=ae->Zf U i x=U)(l:R F s q (Zf U i x) d):R F s (.seq (.ite e (.z (.set i n)) .skip) q) U d:=λst g=>by
 obtain⟨s1,m,a⟩:=h st g;cases k with
 |true=>
  obtain⟨o,t,j⟩:=r rfl s1 (g.trans a);obtain⟨c,b,f⟩:=l o (g.trans (a.trans j));exact⟨c,(Ze ((XJ m).trans ((Ze (Zs t)).trans Zh))).trans b,a.trans (j.trans f)⟩
 |false=>
  obtain⟨c,b,f⟩:=l s1 (g.trans a);rw[p rfl]at b;exact⟨c,(Ze ((Wm m).trans Zh)).trans b,a.trans f⟩
def Zbs(y z:Op):C (rT (n+1)) s 73 [opE y,opE z] (.bl (WW y&&WW z)):=by
 cases y<;>cases z<;>exact .of (v:=YR) rfl rfl (.ret ())
def ZfO(o u:Op):∀ st,Zd6 .Lt (opE o) (opE u) st=aa (ltO o u):=by
 have c:∀ (i j:Int),(if Zn (.int i) (.int j)=ac then aa (aj (0 < ([]:Li D).length)) else aa (aj (i < j)))=aa (aj (i < j)):=λi j=>by
  by_cases h:i=j
  .subst h
   rw[ao (ZbF (n:=1) rfl),aH (Int.lt_irrefl i)];rfl
  .rw[aq λq=>h (by injection Q7 q)]
 intro st;cases o with
 |nm i=>cases u with
  |nm j=>exact c i j
  |nu _=>rfl
 |nu a=>cases u with
  |nm _=>rfl
  |nu b=>exact c a b
def ZdS{x:Nat}{y z:Op}:C (rT (n+2)) s 75 [rwE (.put x y g z)] (rwE (lmR (.put x y g z))):=by
 cases z with
 |nm j=>exact .of (v:=Z6) rfl rfl (.pick (k:=aj (g=S "-")&&ae) (.and (.eqs () ()) λ_=>.r rf) (λq=>by rw[Bool.and_false]at q;cases q) λ_=>.ret ())
 |nu v=>
  refine .of (v:=Z6) rfl rfl (.pick (k:=aj (g=S "-")&&ac) (.and (.eqs () ()) λ_=>.r rf) (λq=>?_) λq=>?_)<;>rw[dL]at q
  .rw[show lmR (.put x y g (.nu v))=_ from ao (am q)]
   exact .ret (.adT (xs:=[.str "put",.int (x:Int),opE y]) (.tkT (i:=3) (xs:=[.str "put",.int (x:Int),opE y,.str g,opE (.nu v)]) () () (show 3<=5 by decide)) (.cons () (.cons (.cons () (.cons (.call1 (g1 (.ixt (j:=1) (xs:=[.str "number",.int v]) () () rfl) (d:=.int (-v)) (gp λ_=>rfl)) YW) .nil)) .nil)) (show 3+2<=100000 by decide))
  .rw[show lmR (.put x y g (.nu v))=_ from aq (ak q)]
   exact .ret ()
def Zh6{x:Nat}{y z:Op}:C (rT (n+2)) s 74 [rwE (.put x y g z),.int 2,.int 4] (rwE (lfR (.put x y g z))):=by
 refine .of (v:=Z7) rfl rfl (.pick (.cmp (x:=opE z) (y:=opE y) () () (ZfO z y)) (λq=>?_) λq=>?_)
 .rw[show lfR (.put x y g z)=_ from ao q]
  exact .ret (.call (xs:=[.tup [.str "put",.int (x:Int),opE z,.str g,opE z],.int 4,opE y]) (.cons (.call (xs:=[rwE (.put x y g z),.int 2,opE z]) () (YK (xs:=[.str "put",.int (x:Int),opE y,.str g,opE z]) (i:=2) (show 2 < 5 by decide) (show 5<=1000 by decide))) (.cons () (.cons () .nil))) (YK (xs:=[.str "put",.int (x:Int),opE z,.str g,opE z]) (i:=4) (show 4 < 5 by decide) (show 5<=1000 by decide)))
 .rw[show lfR (.put x y g z)=_ from aq (by rw[q];decide)]
  exact .ret ()
def Zh5{t:Nat}{y z:Op}:C (rT (n+2)) s 74 [rwE (.ifr y g z t),.int 1,.int 3] (rwE (lfR (.ifr y g z t))):=by
 refine .of (v:=Z7) rfl rfl (.pick (.cmp (x:=opE z) (y:=opE y) () () (ZfO z y)) (λq=>?_) λq=>?_)
 .rw[show lfR (.ifr y g z t)=_ from ao q]
  exact .ret (.call (xs:=[.tup [.str "if",opE z,.str g,opE z,.int (t:Int)],.int 3,opE y]) (.cons (.call (xs:=[rwE (.ifr y g z t),.int 1,opE z]) () (YK (xs:=[.str "if",opE y,.str g,opE z,.int (t:Int)]) (i:=1) (show 1 < 5 by decide) (show 5<=1000 by decide))) (.cons () (.cons () .nil))) (YK (xs:=[.str "if",opE z,.str g,opE z,.int (t:Int)]) (i:=3) (show 3 < 5 by decide) (show 5<=1000 by decide)))
 .rw[show lfR (.ifr y g z t)=_ from aq (by rw[q];decide)]
  exact .ret ()
def Zid{x:Nat}{y z:Op}:C (rT (n+2)) s 76 [rwE (.put x y g z)] (rwE (wrR (.put x y g z))):=by
 refine .of (v:=ZZ) rfl rfl (.set (x:=opE y) () (.set (x:=.str g) () (.set (x:=opE z) () (.pick (k:=noK y g z) (.or (.and (.eqs () ()) λ_=>Y.eqo (o:=z) (u:=.nu 0) (λs=>.r rf) (λs=>.r rf) s) λ_=>.or (.and (.eqs () ()) λ_=>Y.eqo (o:=z) (u:=.nu 1) (λs=>.r rf) (λs=>.r rf) s) λ_=>.and (.eqs () ()) λ_=>Y.eqo (o:=y) (u:=z) (λs=>.r rf) (λs=>.r rf) s) (λq=>?_) λq=>.pick (k:=Zc7 g z) (.and (.cmp (x:=.str g) () () λst=>rfl) λ_=>Y.eqo (o:=z) (u:=.nu 1) (λs=>.r rf) (λs=>.r rf) s) (λa=>?_) λa=>?_))))
 .rw[show wrR (.put x y g z)=_ from ao q];exact .ret ()
 .rw[show wrR (.put x y g z)=_ from(aq (by rw[q];decide)).trans (ao a)];exact .ret ()
 .rw[show wrR (.put x y g z)=_ from(aq (by rw[q];decide)).trans (aq (by rw[a];decide))];exact .ret ()
def ZfN{x:Nat}{y z:Op}:∃ b d a,lmR (.put x y g z)=.put x b d a:=by
 cases z with
 |nm j=>exact⟨_,_,_,rfl⟩
 |nu v=>
  by_cases c:g=S "-"
  .exact⟨_,_,_,ao c⟩
  .exact⟨_,_,_,aq c⟩
def ZfM{x:Nat}{y z:Op}{a b:Str}:∃ f h e,lcR a b (.put x y g z)=.put x f h e:=by
 by_cases c:inG g a b=ac
 .by_cases d:ltO z y=ac
  .exact⟨_,_,_,(ao c).trans (ao d)⟩
  .exact⟨_,_,_,(ao c).trans (aq d)⟩
 .exact⟨_,_,_,aq c⟩
def Zgh{x:Nat}{y z:Op}:∃ d e b,wrR (.put x y g z)=.put x d e b:=by
 by_cases c:noK y g z=ac
 .exact⟨_,_,_,ao c⟩
 .by_cases a:Zc7 g z=ac
  .exact⟨_,_,_,(aq c).trans (ao a)⟩
  .exact⟨_,_,_,(aq c).trans (aq a)⟩
def Zgl{x:Nat}{y z:Op}(w:WW y=ac->Sm (opV y))(p:WW z=ac->Sm (opV z)):C (rT (n+4)) s 77 [rwE (.put x y g z)] (rwE (mpR (.put x y g z))):=by
 refine .of (v:=X3) rfl rfl (.pick (k:=WW y&&WW z) (.call (xs:=[opE y,opE z]) () (Zbs y z)) (λq=>?_) λq=>?_)
 .rw[show mpR (.put x y g z)=_ from ao q]
  rw[Ba]at q;have d:Y (rT (n+3)) s (.f 3 (.aC (.ix (.x 0 2) (.i 1)) (.aC (.x 0 3) (.u (.ix (.x 0 4) (.i 1)))))) [aa (rwE (.put x y g z))] (.int (rkI (opV y) g (opV z))):=by
   cases y<;>cases z<;>exact .call () (Zh9 (w q.1) (p q.2))
  exact .ret (.cons () (.cons () (.cons (.cons () (.cons d .nil)) (.cons () (.cons () .nil)))))
 .rw[show mpR (.put x y g z)=_ from aq (by rw[q];decide)]
  have m:∀ {y z:Op}{g:Str},R (rT (n+3)) s (.y 0 (.f 76 (.s 0))
 (.seq (.ite (.e (.v 0) (.g (.aC (.t "put") (.aC (.x 0 1) (.aC (.g (.aC (.t "name") (.u (.x 0 1)))) (.aC (.t "+") (.u (.c (.tup [(.str "number"),(.int 0)]))))))))) (.q (.c (.tup [(.str "skip")]))) .skip)
 (.q (.v 0)))) [aa (rwE (.put x y g z))] (rwE (snR (wrR (.put x y g z)))):=λ{y z g}=>by
   refine .set (.call1 () Zid) ?_;obtain⟨l,g2,j,B⟩:=Zgh (x:=x) (y:=y) (g:=g) (z:=z);rw[B];refine .pick (Y.eqr (o:=.put x l g2 j) (u:=.put x (.nm x) (S "+") (.nu 0)) (λs=>.r rf) (λs=>.r rf) s) (λq=>?_) λq=>?_
   .rw[show snR (.put x l g2 j)=_ from ao (am q)];exact .ret ()
   .rw[show snR (.put x l g2 j)=_ from aq (ak q)];exact .ret ()
  refine .set (.call1 () ZdS) ?_;obtain⟨d,g1,h,D⟩:=ZfN (x:=x) (y:=y) (g:=g) (z:=z);rw[D];obtain⟨F,G,E,A⟩:=ZfM (x:=x) (y:=d) (g:=g1) (z:=h) (a:=S "+") (b:=S "*");refine .iset (k:=inG g1 (S "+") (S "*")) (x:=rwE (lcR (S "+") (S "*") (.put x d g1 h))) (.cmp (x:=.str g1) (y:=.tup [.str "+",.str "*"]) () () λst=>rfl) (λq=>?_) (λq=>?_) (by rw[A];exact m)
  .rw[show lcR (S "+") (S "*") (.put x d g1 h)=_ from ao q]
   exact .call (xs:=[rwE (.put x d g1 h),.int 2,.int 4]) () Zh6
  .rw[show lcR (S "+") (S "*") (.put x d g1 h)=_ from aq (by rw[show inG (ZhQ (.put x d g1 h)) (S "+") (S "*")=ae from q];decide)]
   rfl
end
def glR:Rw->Rw
 |.ifr y g z t=>if g=S ">" then .ifr z (S "<") y t else if g=S ">=" then .ifr z (S "<=") y t else .ifr y g z t
 |r=>r
def stK(y z:Op):Bool:=(WW y&&WW z)||aj (y=z)
def seR(y:Op)(g:Str)(z:Op)(t:Nat):Rw:=if soI (opV y) g (opV z)=ac then .go t else .skip
def maY(y z:Op)(t:Nat):Rw:=match y with
 |.nu v=>if -1000000000 < v then .ifr (.nu (v - 1)) (S "<") z t else .ifr y (S "<=") z t
 |.nm _=>.ifr y (S "<=") z t
def maZ(y z:Op)(t:Nat):Rw:=match z with
 |.nu v=>if v < 999999999 then .ifr y (S "<") (.nu (v+1)) t else maY y z t
 |.nm _=>maY y z t
def maR:Rw->Rw
 |.ifr y g z t=>if g=S "<=" then maZ y z t else .ifr y g z t
 |r=>r
def m2R:Rw->Rw
 |.ifr y g z t=>if stK y z=ac then seR y g z t else maR (lcR (S "=") (S "!=") (.ifr y g z t))
 |r=>r
def miR(j:Nat):Rw->Rw
 |.ifr y g z t=>if t=j+1 then .skip else m2R (glR (.ifr y g z t))
 |r=>r
def mdR(j:Nat):Rw->Rw
 |.put x y g z=>mpR (.put x y g z)
 |.ifr y g z t=>miR j (.ifr y g z t)
 |.go t=>if t=j+1 then .skip else .go t
 |r=>r
variable{t:Nat}
section
variable{k:Bool}{y:Op}
def Zh4:C (rT (n+1)) s 78 [rwE (.ifr y g z t)] (rwE (glR (.ifr y g z t))):=by
 refine .of (v:=Z5) rfl rfl (.pick (.eqs () ()) (λq=>?_) λq=>.pick (.eqs () ()) (λa=>?_) λa=>?_)
 .rw[show glR (.ifr y g z t)=_ from ao (am q)];exact .ret ()
 .rw[show glR (.ifr y g z t)=_ from(aq (ak q)).trans (ao (am a))];exact .ret ()
 .rw[show glR (.ifr y g z t)=_ from(aq (ak q)).trans (aq (ak a))];exact .ret ()
def ZdQ:C (rT (n+2)) s 79 [rwE (.ifr y g z t)] (.bl (stK y z)):=
 .of (v:=Y4) rfl rfl (.ret (.or (.call (xs:=[opE y,opE z]) () (Zbs y z)) λ_=>Y.eqo (o:=y) (u:=z) (λs=>.r rf) (λs=>.r rf) s))
def ZaO:C (rT (n+2)) s 80 [rwE (.ifr y g z t)] (rwE (seR y g z t)):=by
 have c:Y (rT (n+1)) s (.f 4 (.aC (.ix (.x 0 1) (.i 1)) (.aC (.x 0 2) (.u (.ix (.x 0 3) (.i 1)))))) [aa (rwE (.ifr y g z t)),ab] (.bl (soI (opV y) g (opV z))):=by
  cases y<;>cases z<;>exact .call () Zib
 refine .of (v:=Wz) rfl rfl (.set c ?_);unfold seR;cases q:soI (opV y) g (opV z) with
 |true=>exact .ret (.ife (k:=ac) () ())
 |false=>exact .ret (.ife (k:=ae) () ())
def Zh7:C (rT (n+1)) s 81 [rwE (.ifr y g z t)] (rwE (maR (.ifr y g z t))):=by
 refine .of (v:=YB) rfl rfl (.set (x:=opE y) () (.set (x:=opE z) () (.pick (k:=!decide (g=S "<=")) (.cmp (x:=.str g) (y:=.str "<=") () () λ_=>rfl) (λq=>?_) λq=>?_)))
 .rw[show maR (.ifr y g z t)=_ from aq (ak (by cases c:aj (g=S "<=") with|false=>rfl|true=>rw[c]at q;cases q))]
  exact .ret ()
 have d:g=S "<=":=am (by cases c:aj (g=S "<=") with|true=>rfl|false=>rw[c]at q;cases q)
 rw[show maR (.ifr y g z t)=_ from ao d];subst d;have b:R (rT n) s (.seq (.ite (.and (.e (.x 1 0) (.t "number")) (.cmp .Gt (.x 1 1) (.i (-1000000000)))) (.q (.g (.aC (.t "if") (.aC (.g (.aC (.t "number") (.u (.l (.x 1 1) (.i 1))))) (.aC (.t "<") (.a 2 (.u (.x 0 4)))))))) .skip)
 (.q (.v 0))) [aa (rwE (.ifr y (S "<=") z t)),aa (opE y),aa (opE z)] (rwE (maY y z t)):=by
  cases y with
  |nm i=>exact .pick (k:=ae) (.and (k:=ae) (m:=ae) () λq=>nomatch q) (λq=>nomatch q) λ_=>.ret ()
  |nu v=>
   refine .pick (k:=ac&&aj (-1000000000 < v)) (.and () λ_=>.cmp (x:=.int v) (y:=.int (-1000000000)) () () λ_=>rfl) (λq=>?_) λq=>?_<;>rw[cZ]at q
   .rw[show maY (.nu v) z t=_ from ao (am q)];exact .ret ()
   .rw[show maY (.nu v) z t=_ from aq (ak q)];exact .ret ()
 cases z with
 |nm i=>exact .pick (k:=ae) (.and (k:=ae) (m:=ae) () λq=>nomatch q) (λq=>nomatch q) λ_=>b
 |nu v=>
  refine .pick (k:=ac&&aj (v < 999999999)) (.and () λ_=>.cmp (x:=.int v) (y:=.int 999999999) () () λ_=>rfl) (λq=>?_) λq=>?_<;>rw[cZ]at q
  .rw[show maZ y (.nu v) t=_ from ao (am q)];exact .ret ()
  .rw[show maZ y (.nu v) t=_ from aq (ak q)];exact b
def ZfG:∃ d e b,∀ t,glR (.ifr y g z t)=.ifr d e b t:=by
 unfold glR;by_cases c:g=S ">"
 .exact⟨_,_,_,λt=>ao c⟩
 .by_cases a:g=S ">="
  .exact⟨_,_,_,λt=>(aq c).trans (ao a)⟩
  .exact⟨_,_,_,λt=>(aq c).trans (aq a)⟩
def ZfL{a b:Str}:∃ f h e,∀ t,lcR a b (.ifr y g z t)=.ifr f h e t:=by
 by_cases c:inG g a b=ac
 .by_cases d:ltO z y=ac
  .exact⟨_,_,_,λt=>(ao c).trans (ao d)⟩
  .exact⟨_,_,_,λt=>(ao c).trans (aq d)⟩
 .exact⟨_,_,_,λt=>aq c⟩
def Zh8:C (rT (n+3)) s 82 [rwE (.ifr y g z t),.int (j:Int)] (rwE (miR j (.ifr y g z t))):=by
 refine .of (v:=Ww) rfl rfl (.pick (k:=aj ((t:Int)=(j:Int)+1)) (.cmp (x:=.int (t:Int)) (y:=.int ((j:Int)+1)) () (.add () ()) λ_=>rfl) (λq=>?_) λq=>?_)
 .rw[show miR j (.ifr y g z t)=_ from ao (by have:=am q;omega)];exact .ret ()
 .rw[show miR j (.ifr y g z t)=_ from aq (by have:=ak q;omega)]
  refine .set (.call1 () Zh4) ?_;obtain⟨d,g1,c,f⟩:=ZfG (y:=y) (g:=g) (z:=z);rw[f];refine .pick (.call1 () ZdQ) (λq=>?_) λq=>?_
  .rw[show m2R (.ifr d g1 c t)=_ from ao q];exact .ret (.call1 () ZaO)
  .rw[show m2R (.ifr d g1 c t)=_ from aq (by rw[q];decide)]
   obtain⟨i,l,h,e⟩:=ZfL (y:=d) (g:=g1) (z:=c) (a:=S "=") (b:=S "!=");refine .iset (k:=inG g1 (S "=") (S "!=")) (x:=rwE (lcR (S "=") (S "!=") (.ifr d g1 c t))) (.cmp (x:=.str g1) (y:=.tup [.str "=",.str "!="]) () () λst=>rfl) (λq=>?_) (λq=>?_) (by rw[e];exact .ret (.call1 () Zh7))
   .rw[show lcR (S "=") (S "!=") (.ifr d g1 c t)=_ from ao q]
    exact .call (xs:=[rwE (.ifr d g1 c t),.int 1,.int 3]) () Zh5
   .rw[show lcR (S "=") (S "!=") (.ifr d g1 c t)=_ from aq (by rw[show inG (ZhQ (.ifr d g1 c t)) (S "=") (S "!=")=ae from q];decide)]
    rfl
def Zbr(h:Zu m sz r):C (rT (n+5)) s 83 [rwE r,.int (j:Int)] (rwE (mdR j r)):=by
 have go:R (rT (n+4)) s (.seq (.ite (.e (.v 0) (.g (.aC (.t "go") (.u (.p (.v 1) (.i 1)))))) (.q (.c (.tup [(.str "skip")]))) .skip)
 (.q (.v 0))) [aa (rwE r),jN j] (rwE (if r=.go (j+1) then .skip else r)):=by
  refine .pick (k:=aj (r=.go (j+1))) (Y.eqr (o:=r) (u:=.go (j+1)) (λs=>.r rf) (λs=>by
   show Y _ _ _ _ (.tup [.str "go",.int ((j+1:Nat):Int)]);rw[bO];exact .cons () (.cons (.add () ()) .nil)) s) (λq=>?_) λq=>?_
  .rw[ao (am q)];exact .ret ()
  .rw[aq (ak q)];exact .ret ()
 cases r with
 |put x y g z=>exact .of (v:=Z1) rfl rfl (.yes () (.call1 () (Zgl (λq=>by cases y with|nm _=>cases q|nu v=>exact h.2.1) λq=>by cases z with|nm _=>cases q|nu v=>exact h.2.2.2)))
 |ifr y g z t=>exact .of (v:=Z1) rfl rfl (.no () (.yes () (.call (xs:=[rwE (.ifr y g z t),.int (j:Int)]) () Zh8)))
 |go t=>
  have e:(if Rw.go t=.go (j+1) then Rw.skip else .go t)=mdR j (.go t):=by
   show _=if t=j+1 then Rw.skip else .go t
   by_cases c:t=j+1
   .rw[ao c,ao (by rw[c])]
   .rw[aq c,aq λh=>c (by injection h)]
  rw[<-e];exact .of (v:=Z1) rfl rfl (.no () (.no () go))
 |tell y=>exact .of (v:=Z1) rfl rfl (.no () (.no () go))
 |skip=>exact .of (v:=Z1) rfl rfl (.no () (.no () go))
end
def Dz(m sz j:Nat)(r a:Rw):Prop:=Zu m sz a/\Als m j r a
variable{g':Str}
section
variable{x:Nat}{r' r'':Rw}{y:Op}
def Dz.id(h:Zu m sz r):Dz m sz j r r:=⟨h,λ_ _=>rfl⟩
def Dz.tr(h:Dz m sz j r r')(g:Zu m sz r'->Dz m sz j r' r''):Dz m sz j r r'':=⟨(g h.1).1,λvs a=>((g h.1).2 vs a).trans (h.2 vs a)⟩
def Zb1{c:Nat}{b a:Op}(ok:Zu m sz (.put c b g' a))(h:∀ vs,Vs m vs->vs.set c (rkI (woI vs b) g' (woI vs a))=vs.set x (rkI (woI vs y) g (woI vs z))):Dz m sz j (.put x y g z) (.put c b g' a):=⟨ok,λvs d=>au (λw=>Sum.inr (j+1,w)) (h vs d)⟩
def ZbZ{c:Nat}{b a:Op}(ok:Zu m sz (.ifr b g' a c))(h:∀ vs,Vs m vs->(if soI (woI vs b) g' (woI vs a)=ac then c else j+1)=if soI (woI vs y) g (woI vs z)=ac then t else j+1):Dz m sz j (.ifr y g z t) (.ifr b g' a c):=⟨ok,λvs d=>au (λw=>Sum.inr (w,vs)) (h vs d)⟩
def Zir(h:Zu m sz (.put x y g z)):Dz m sz j (.put x y g z) (lmR (.put x y g z)):=by
 cases z with
 |nm j=>exact .id h
 |nu v=>
  by_cases c:g=S "-"
  .rw[show lmR (.put x y g (.nu v))=_ from ao c]
   refine Zb1 ⟨h.1,h.2.1,#[],V7⟩ λvs _=>?_
   subst c;show vs.set x (rkI (woI vs y) (S "+") (arI (-v)))=vs.set x (rkI (woI vs y) (S "-") v);rw[XG,Zdm,Zgw]
  .rw[show lmR (.put x y g (.nu v))=_ from aq c];exact .id h
def ZfK{a b:Str}(h:inG g a b=ac):g=a\/g=b:=by
 unfold inG at h;rw[cG,bF,dD,bF]at h;exact h.imp Eq.symm Eq.symm
def ZgK(h:Zu m sz (.put x y g z)):Dz m sz j (.put x y g z) (lcR (S "+") (S "*") (.put x y g z)):=by
 by_cases c:inG g (S "+") (S "*")=ac
 .rw[show lcR (S "+") (S "*") (.put x y g z)=_ from ao c]
  by_cases a:ltO z y=ac
  .rw[show lfR (.put x y g z)=_ from ao a]
   refine Zb1 ⟨h.1,h.2.2.2,h.2.2.1,h.2.1⟩ λvs _=>?_
   rcases ZfK c with rfl|rfl
   .rw[XG,XG,Int.add_comm]
   .rw[U3,U3,Int.mul_comm]
  .rw[show lfR (.put x y g z)=_ from aq a];exact .id h
 .rw[show lcR (S "+") (S "*") (.put x y g z)=_ from aq c];exact .id h
def ZgJ(h:Zu m sz (.ifr y g z t)):Dz m sz j (.ifr y g z t) (lcR (S "=") (S "!=") (.ifr y g z t)):=by
 by_cases c:inG g (S "=") (S "!=")=ac
 .rw[show lcR (S "=") (S "!=") (.ifr y g z t)=_ from ao c]
  by_cases a:ltO z y=ac
  .rw[show lfR (.ifr y g z t)=_ from ao a]
   refine ZbZ ⟨h.2.2.1,h.2.1,h.1,h.2.2.2⟩ λvs _=>?_
   rcases ZfK c with rfl|rfl
   .rw[Zf9,Zf9,decide_eq_decide.mpr ⟨Eq.symm,Eq.symm⟩]
   .rw[Zga,Zga,decide_eq_decide.mpr ⟨Eq.symm,Eq.symm⟩]
  .rw[show lfR (.ifr y g z t)=_ from aq a];exact .id h
 .rw[show lcR (S "=") (S "!=") (.ifr y g z t)=_ from aq c];exact .id h
def Ziy(h:Zu m sz (.put x y g z)):Dz m sz j (.put x y g z) (wrR (.put x y g z)):=by
 by_cases q:noK y g z=ac
 .rw[show wrR (.put x y g z)=_ from ao q]
  refine Zb1 ⟨h.1,⟨#[],#[]⟩,#[],⟨#[],#[]⟩⟩ λvs _=>?_
  show vs.set x (rkI 0 (S "+") 0)=vs.set x (rkI (woI vs y) g (woI vs z));have b:rkI 0 (S "+") 0=0:=XG;unfold noK at q;rw[cG,cG,Ba,Ba,Ba,bF,bF,bF,bF,bF,bF]at q;rcases q with⟨rfl,rfl⟩|⟨rfl,rfl⟩|⟨rfl,rfl⟩
  .rw[b,U3]
   show vs.set x 0=vs.set x (arI (_ * 0));rw[Int.mul_zero];rfl
  .rw[b,Zhw]
   show vs.set x 0=vs.set x (if (1:Int)=0 then _ else _ - 1 * fdI _ 1);rw[aq #[],Zb7,Int.one_mul,Int.sub_self]
  .rw[b,Zdm,Int.sub_self];rfl
 .by_cases a:Zc7 g z=ac
  .rw[show wrR (.put x y g z)=_ from(aq q).trans (ao a)]
   refine Zb1 ⟨h.1,h.2.1,#[],⟨#[],#[]⟩⟩ λvs _=>?_
   show vs.set x (rkI (woI vs y) (S "+") 0)=vs.set x (rkI (woI vs y) g (woI vs z));unfold Zc7 at a;rw[dD,Ba,cG,bF,bF,bF]at a;rcases a with⟨rfl|rfl,rfl⟩
   .rw[XG,U3,Int.add_zero]
    show _=vs.set x (arI (_ * 1));rw[Int.mul_one]
   .rw[XG,Zhv,Int.add_zero]
    show _=vs.set x (if (1:Int)=0 then 0 else arI (fdI _ 1));rw[aq #[],Zb7]
  .rw[show wrR (.put x y g z)=_ from(aq q).trans (aq a)];exact .id h
def Zix(h:Zu m sz (.put x y g z)):Dz m sz j (.put x y g z) (snR (.put x y g z)):=by
 by_cases q:Rw.put x y g z=.put x (.nm x) (S "+") (.nu 0)
 .rw[show snR (.put x y g z)=_ from ao q]
  injection q with _ d c b
  subst d;subst c;subst b
  refine⟨trivial,λvs a=>?_⟩
  show Sum.inr (j+1,vs)=Sum.inr (j+1,vs.set x (rkI (woI vs (.nm x)) (S "+") 0));rw[XG,Int.add_zero,Zfy (QS (o:=.nm x) a h.1),ZhO a h.1 rfl]
 .rw[show snR (.put x y g z)=_ from aq q];exact .id h
def Ziv(h:Zu m sz (.put x y g z)):Dz m sz j (.put x y g z) (mpR (.put x y g z)):=by
 by_cases q:(WW y&&WW z)=ac
 .rw[show mpR (.put x y g z)=_ from ao q]
  rw[Ba]at q;cases y with
  |nm _=>exact nomatch q.1
  |nu a=>cases z with
   |nm _=>exact nomatch q.2
   |nu b=>
    have s:=Zf6 (g:=g) h.2.1 h.2.2.2;refine Zb1 ⟨h.1,s,#[],⟨#[],#[]⟩⟩ λvs _=>?_
    show vs.set x (rkI (rkI a g b) (S "+") 0)=vs.set x (rkI a g b);rw[XG,Int.add_zero,Zfy s]
 .rw[show mpR (.put x y g z)=_ from aq q]
  refine .tr (Zir h) λe=>?_
  obtain⟨l,g1,i,p⟩:=ZfN (x:=x) (y:=y) (g:=g) (z:=z);rw[p]at e ⊢;refine .tr (ZgK e) λd=>?_
  obtain⟨k,g2,f,o⟩:=ZfM (x:=x) (y:=l) (g:=g1) (z:=i) (a:=S "+") (b:=S "*");rw[o]at d ⊢;refine .tr (Ziy d) λc=>?_
  obtain⟨t,u,r,n⟩:=Zgh (x:=x) (y:=k) (g:=g2) (z:=f);rw[n]at c ⊢;exact Zix c
def Ziq(h:Zu m sz (.ifr y g z t)):Dz m sz j (.ifr y g z t) (glR (.ifr y g z t)):=by
 by_cases c:g=S ">"
 .rw[show glR (.ifr y g z t)=_ from ao c]
  refine ZbZ ⟨h.2.2.1,#[],h.1,h.2.2.2⟩ λvs _=>?_
  subst c;rw[Zdy,Zjg]
 .by_cases a:g=S ">="
  .rw[show glR (.ifr y g z t)=_ from(aq c).trans (ao a)]
   refine ZbZ ⟨h.2.2.1,#[],h.1,h.2.2.2⟩ λvs _=>?_
   subst a;rw[Zdx,Zjf]
  .rw[show glR (.ifr y g z t)=_ from(aq c).trans (aq a)];exact .id h
def Zjj(h:stK y z=ac)(vs:Li Int):soI (woI vs y) g (woI vs z)=soI (opV y) g (opV z):=by
 unfold stK at h;rw[cG,Ba,bF]at h;rcases h with h|rfl
 .cases y with
  |nm _=>exact nomatch h.1
  |nu a=>cases z with
   |nm _=>exact nomatch h.2
   |nu b=>rfl
 .exact Zfl
def Ziw(h:Zu m sz (.ifr y g z t))(q:stK y z=ac):Dz m sz j (.ifr y g z t) (seR y g z t):=by
 have e:=Zjj (g:=g) q;unfold seR;cases c:soI (opV y) g (opV z) with
 |true=>exact⟨h.2.2.2,λvs _=>by show Sum.inr (t,vs)=Sum.inr (if soI (woI vs y) g (woI vs z)=ac then t else j+1,vs);rw[e,c];rfl⟩
 |false=>exact⟨trivial,λvs _=>by show Sum.inr (j+1,vs)=Sum.inr (if soI (woI vs y) g (woI vs z)=ac then t else j+1,vs);rw[e,c];rfl⟩
def Zio{a b:Int}:aj (a - 1 < b)=aj (a<=b):=decide_eq_decide.mpr ⟨λh=>by omega,λh=>by omega⟩
def Zip{a b:Int}:aj (a < b+1)=aj (a<=b):=decide_eq_decide.mpr ⟨λh=>by omega,λh=>by omega⟩
def Zb0(h:Zu m sz (.ifr y (S "<=") z t)):Dz m sz j (.ifr y (S "<=") z t) (maY y z t):=by
 cases y with
 |nm i=>exact .id h
 |nu v=>
  by_cases c:-1000000000 < v
  .rw[show maY (.nu v) z t=_ from ao c]
   have a:Sm v:=h.1;refine ZbZ ⟨(show Sm (v - 1) by unfold Sm at *;omega),#[],h.2.2.1,h.2.2.2⟩ λvs _=>?_
   show(if soI (v - 1) (S "<") (woI vs z)=ac then t else j+1)=if soI v (S "<=") (woI vs z)=ac then t else j+1
   rw[Zdy,Zdx,Zio]
  .rw[show maY (.nu v) z t=_ from aq c];exact .id h
def Zis(h:Zu m sz (.ifr y g z t)):Dz m sz j (.ifr y g z t) (maR (.ifr y g z t)):=by
 by_cases c:g=S "<="
 .rw[show maR (.ifr y g z t)=_ from ao c]
  subst c;cases z with
  |nm i=>exact Zb0 h
  |nu v=>
   by_cases c:v < 999999999
   .rw[show maZ y (.nu v) t=_ from ao c]
    have a:Sm v:=h.2.2.1;refine ZbZ ⟨h.1,#[],(show Sm (v+1) by unfold Sm at *;omega),h.2.2.2⟩ λvs _=>?_
    show(if soI (woI vs y) (S "<") (v+1)=ac then t else j+1)=if soI (woI vs y) (S "<=") v=ac then t else j+1
    rw[Zdy,Zdx,Zip]
   .rw[show maZ y (.nu v) t=_ from aq c];exact Zb0 h
 .rw[show maR (.ifr y g z t)=_ from aq c];exact .id h
def Ziu(h:Zu m sz (.ifr y g z t)):Dz m sz j (.ifr y g z t) (miR j (.ifr y g z t)):=by
 by_cases c:t=j+1
 .rw[show miR j (.ifr y g z t)=_ from ao c]
  exact⟨trivial,λvs _=>by
   show Sum.inr (j+1,vs)=Sum.inr (if soI (woI vs y) g (woI vs z)=ac then t else j+1,vs)
   rw[c];split<;>rfl⟩
 .rw[show miR j (.ifr y g z t)=_ from aq c]
  refine .tr (Ziq h) λf=>?_
  obtain⟨e,g1,d,l⟩:=ZfG (y:=y) (g:=g) (z:=z);rw[l]at f ⊢;by_cases q:stK e d=ac
  .rw[show m2R (.ifr e g1 d t)=_ from ao q];exact Ziw f q
  .rw[show m2R (.ifr e g1 d t)=_ from aq q]
   refine .tr (ZgJ f) λi=>?_
   obtain⟨o,g2,n,k⟩:=ZfL (y:=e) (g:=g1) (z:=d) (a:=S "=") (b:=S "!=");rw[k]at i ⊢;exact Zis i
def Zit(h:Zu m sz r):Dz m sz j r (mdR j r):=by
 cases r with
 |put x y g z=>exact Ziv h
 |ifr y g z t=>exact Ziu h
 |go t=>
  by_cases c:t=j+1
  .rw[show mdR j (.go t)=_ from ao c,c];exact⟨trivial,λ_ _=>rfl⟩
  .rw[show mdR j (.go t)=_ from aq c];exact .id h
 |tell y=>exact .id h
 |skip=>exact .id h
end
noncomputable def tlC:Nat->CS->CS
 |0,q=>q
 |n+1,.seq _ q=>tlC n q
 |_,q=>q
section
variable{k t:Bool}{Q:D->Prop}
open Classical in
def Y.tof(b:s[j]?=aa (t,xs))(h:Y F s e U (.lst j)):Y F s (.tOf e) U (.tup xs):=λst g=>by
 obtain⟨s1,c,a⟩:=h st g;exact⟨s1,YJ c ((g.trans a).get b),a⟩
def Lv.tof(h:Lv s (ev F e U) xs):Y F s (.tOf e) U (.tup xs):=λst g=>by
 obtain⟨s1,j,b,d,c,a⟩:=h st g;exact⟨s1,YJ d c,a⟩
noncomputable def enm{α:Type}:Nat->Li α->Li (Nat×α)
 |_,[]=>[]
 |k,x :: xs=>(k,x) :: enm (k+1) xs
theorem J9{α:Type}:∀ {k:Nat}{l:Li α},(enm k l).length=l.length
 |_,[]=>rfl
 |k,_ :: l=>by show(enm (k+1) l).length+1=_;rw[J9];rfl
theorem UJ{α:Type}{x:Nat×α}:∀ {k:Nat}{l:Li α},x∈enm k l->x.2∈l
 |k,y :: l,h=>by
  rcases aF.mp (show x∈(k,y) :: enm (k+1) l from h) with rfl|h
  .exact Ls
  .exact Lm _ (UJ h)
theorem Zaa{α:Type}{f:α->D}:∀ {k:Nat}{l:Li α},Xd k (l.map f)=(enm k l).map λp=>.tup [.int (p.1:Int),f p.2]
 |_,[]=>rfl
 |k,x :: l=>by show _ :: Xd (k+1) (l.map f)=_;rw[Zaa];rfl
theorem J8{α:Type}:∀ {k i:Nat}{l:Li α},(enm k l)[i]?=(l[i]?).map λx=>(k+i,x)
 |_,_,[]=>rfl
 |k,0,x :: l=>rfl
 |k,i+1,x :: l=>by show(enm (k+1) l)[i]?=(l[i]?).map _;rw[J8,show k+1+i=k+(i+1) by omega]
def mdL(rs:Li Rw):Li Rw:=(enm 0 rs).map λp=>mdR p.1 p.2
def UV{k:Nat}:(mdL rs)[k]?=(rs[k]?).map (mdR k):=by
 unfold mdL;rw[aV,J8,Option.map_map];cases rs[k]? with
 |none=>rfl
 |some r=>show aa (mdR (0+k) r)=_;rw[bH];rfl
def Ut(c:∀ r∈rs,Zu m sz r)(f:rs.length<=1000):C (rT (n+6)) s 106 [pgD tk m rs] (pgD tk m (mdL rs)):=by
 have h:Lv s (ev (rT (n+5)) Vx [aa (pgD tk m rs),ab]) ((enm 0 rs).map λp=>rwE (mdR p.1 p.2)):=Ug (U:=[aa (pgD tk m rs),ab]) (b:=two) (wk:=QR) (fr:=[]) (it:=.x 0 2) (elt:=.call 83 (.a 1 (.s 0)) []) (en:=λp:Nat×Rw=>.tup [.int (p.1:Int),rwE p.2]) (l:=enm 0 rs) (.of (x:=.tup (rs.map rwE)) () λst=>by show aa (Xd 0 (rs.map rwE),_)=_;rw[Zaa]) (by rw[J9];exact f) λp d=>.call (xs:=[rwE p.2,.int (p.1:Int)]) () (Zbr (c _ (UJ d)))
 refine .of (v:=Ja) rfl rfl (.setL (e:=Vx) h λi j b _ g=>.ret (.cons () (.cons () (.cons ?_ .nil))))
 have e:D.tup ((mdL rs).map rwE)=.tup ((enm 0 rs).map λp=>rwE (mdR p.1 p.2)):=by unfold mdL;rw[aZ];rfl
 rw[e];exact .tof g ()
end
noncomputable def woN(c i:Nat):Nat:=c - (c &&& 2 ^ i)
def Zd0{a k:Nat}:aj (((a &&& 2 ^ k:Nat):Int)=0)=!a.testBit k:=by
 have:(a &&& 2 ^ k=0)↔a.testBit k=ae:=by
  constructor
  .intro h
   have:=au (λz=>z.testBit k) h
   simp only[Nat.testBit_and,Nat.testBit_two_pow_self,dL,Nat.zero_testBit]at this;exact this
  .intro h
   refine Nat.eq_of_testBit_eq λi=>?_
   rw[Nat.testBit_and,Nat.testBit_two_pow,Nat.zero_testBit];by_cases c:k=i
   .rw[<-c,h];rfl
   .rw[aH c,Bool.and_false]
 cases q:a.testBit k with
 |false=>rw[aP (by rw[this.mpr q];rfl)];rfl
 |true=>rw[aH (λh=>by have:=this.mp (Int.ofNat.inj h);rw[q]at this;cases this)];rfl
variable{E:Ot D->Env}
variable{it:CE}{u:Ot Rw}
section
variable{i' c:Nat}{t:Bool}{o:Ot Rw}
def Y.band(e:Y F s a U (.int (c:Int)))(d:Y F s b U (.int (k:Int))):Y F s (.bin .BitAnd a b) U (.int ((c &&& k:Nat):Int)):=.bi e d (by
 show(if 0<=(c:Int)/\0<=(k:Int) then aa (((c:Int).toNat &&& (k:Int).toNat:Nat):Int) else if 0<=(c:Int)/\(k:Int) < 0 then aa ((c:Int) - (((c:Int).toNat &&& (-(k:Int) - 1).toNat:Nat):Int)) else ab)=_
 rw[ao ⟨eD _,eD _⟩,bA,bA])
def Y.bor(e:Y F s a U (.int (c:Int)))(d:Y F s b U (.int (k:Int))):Y F s (.bin .BitOr a b) U (.int ((c ||| k:Nat):Int)):=.bi e d (by
 show(if 0<=(c:Int)/\0<=(k:Int) then aa (((c:Int).toNat ||| (k:Int).toNat:Nat):Int) else ab)=_
 rw[ao ⟨eD _,eD _⟩,bA,bA])
def Zgj(a:k<=60):C (rT (n+2)) s 114 [.int (c:Int),.int (k:Int)] (.bl (c.testBit k)):=
 .of (v:=Wu) rfl rfl (.ret (.cmp (.band () (.call1 () (JS a))) () λst=>by
  show(aa (aj (((c &&& 2 ^ k:Nat):Int)=0))).map Bool.not=_;rw[Zd0];show aa (!!c.testBit k)=_;rw[Bool.not_not]))
def Zjp{v:Nat}:ZbH .BitAnd (c:Int) (-(v:Int) - 1)=aa ((c - (c &&& v):Nat):Int):=by
 have a:c &&& v<=c:=Nat.and_le_left;show(if 0<=(c:Int)/\0<=-(v:Int) - 1 then aa (((c:Int).toNat &&& (-(v:Int) - 1).toNat:Nat):Int) else if 0<=(c:Int)/\-(v:Int) - 1 < 0 then aa ((c:Int) - (((c:Int).toNat &&& (-(-(v:Int) - 1) - 1).toNat:Nat):Int)) else ab)=_
 rw[aq ∅,ao ∅,bA,show(-(-(v:Int) - 1) - 1).toNat=v by omega,Int.ofNat_sub a]
def Zic(a:k<=60):C (rT (n+2)) s 57 [.int (c:Int),.int (k:Int)] (.int ((woN c k:Nat):Int)):=
 .of (v:=YS) rfl rfl (.ret (.bi (i:=(c:Int)) (j:=-((2 ^ k:Nat):Int) - 1) () (g1 (.call1 () (JS a)) (gp λ_=>rfl)) Zjp))
def Zgi(a:k<=60):C (rT (n+2)) s 56 [.int (k:Int)] (.int ((2 ^ k - 1:Nat):Int)):=by
 refine .of (v:=X2) rfl rfl (.ret ?_);rw[Int.ofNat_sub (Nat.one_le_two_pow)];exact .sub (.call1 () (JS a)) ()
def Bs(F:Nat->Fn)(s:Za)(q:CS)(U:Env)(o:Ot D):Prop:=∀ st,Grw s st->∃ st',ex F q U st=aa (match o with|some d=>.rt d|none=>.nx U,st')/\Grw st st'
theorem Bs.skip:Bs F s .skip U ab:=λst _=>⟨st,rfl,.refl⟩
theorem Bs.ite{o:Ot D}(h:Y F s e U (.bl t))(l:t=ac->Y F s a U d)(k:t=ae->Bs F s q U o):Bs F s (.seq (.ite e (.q a) .skip) q) U (if t=ac then aa d else o):=λst g=>by
 obtain⟨s1,j,b⟩:=h st g;cases t with
 |true=>
  obtain⟨c,i,f⟩:=l rfl s1 (g.trans b);exact⟨c,Zt ((XJ j).trans (Zt (Yn i))),b.trans f⟩
 |false=>
  obtain⟨c,i,f⟩:=k rfl s1 (g.trans b);exact⟨c,(Ze ((Wm j).trans Zh)).trans i,b.trans f⟩
noncomputable def skR{α:Type}(f:α->Ot D):Li α->Ot D
 |[]=>ab
 |x :: l=>match f x with
  |some d=>aa d
  |none=>skR f l
theorem ZhS{α:Type}{en:α->D}{f:α->Ot D}{E:Ot D->Env}(c:∀ y d,Zf (E y) i d=E (aa d)):∀ {l:Li α},(∀ x∈l,Bs F s q (E (aa (en x))) (f x))->∀ {y:Ot D}{st:Za},Grw s st->∃ a st',Zj (λd U s=>ex F q (Zf U i d) s) (l.map en) (E y) st=aa (match skR f l with|some d=>.rt d|none=>.nx (E a),st')/\Grw st st'
 |[],_,y,st,_=>⟨y,st,rfl,.refl⟩
 |x :: l,h,y,st,g=>by
  obtain⟨s1,n,b⟩:=h x Ls st g;obtain⟨a,e,m,j⟩:=ZhS c (λz k=>h z (Lm _ k)) (y:=aa (en x)) (g.trans b)
  show ∃ a st',(match ex F q (Zf (E y) i (en x)) st with
   |some (.nx U',st')=>Zj (λd U s=>ex F q (Zf U i d) s) (l.map en) U' st'
   |some (.ct U',st')=>Zj (λd U s=>ex F q (Zf U i d) s) (l.map en) U' st'
   |some (.bk U',st')=>aa (.nx U',st')
   |some (.rt v,st')=>aa (.rt v,st')
   |none=>ab)=_/\_
  rw[c,n];unfold skR;cases f x with
  |some d=>exact⟨y,s1,rfl,b⟩
  |none=>exact⟨a,e,m,b.trans j⟩
def R.seekD{l:Li α}{en:α->D}{f:α->Ot D}{y:Ot D}(u:∀ y d,Zf (E y) i d=E (aa d))(r:Y F s it (E y) (.tup (l.map en)))(t:∀ x∈l,Bs F s q (E (aa (en x))) (f x))(o:∀ y,R F s p (E y) d):R F s (.seq (.for1 i ae it q) p) (E y) ((skR f l).getD d):=λst g=>by
 obtain⟨s1,j,a⟩:=r st g;obtain⟨k,h,b,e⟩:=ZhS u t (y:=y) (g.trans a);cases c:skR f l with
 |some v=>rw[c]at b;exact⟨h,Zt ((for_tup j).trans b),a.trans e⟩
 |none=>
  rw[c]at b;obtain⟨m,w,n⟩:=o k h (g.trans (a.trans e));exact⟨m,(Ze ((for_tup j).trans b)).trans w,a.trans (e.trans n)⟩
def R.seekR{N:Nat}{f:Nat->Ot D}{y:Ot D}(A:∀ y d,Zf (E y) i d=E (aa d))(w:Y F s it (E y) (.int (N:Int)))(hN:N<=1000000)(z:∀ x,x < N->Bs F s q (E (jN x)) (f x))(u:∀ y,R F s p (E y) d):R F s (.seq (.for1 i ac it q) p) (E y) ((skR f (ag N)).getD d):=λst g=>by
 obtain⟨s1,C,a⟩:=w st g;obtain⟨n,m,b,h⟩:=ZhS (en:=λ(k:Nat)=>D.int (k:Int)) (l:=ag N) A (λx t=>z x (cA.mp t)) (y:=y) (g.trans a)
 have j:=Wg (F:=F) (i:=i) (e:=it) (q:=q) (v:=(N:Int)) ∅ ∅ C
 rw[bA]at j;cases c:skR f (ag N) with
 |some v=>rw[c]at b;exact⟨m,Zt (j.trans b),a.trans h⟩
 |none=>
  rw[c]at b;obtain⟨o,B,r⟩:=u n m (g.trans (a.trans h));exact⟨o,(Ze (j.trans b)).trans B,a.trans (h.trans r)⟩
theorem Zje{α:Type}{ok:Za->Prop}{u v:α->D}{f:α->Ot D}{E:Ot D->Ot D->Env}(j:∀ st,Grw s st->ok st)(k:∀ y z c d,Zf (Zf (E y z) i c) i' d=E (aa c) (aa d)):∀ {l:Li α},(∀ x∈l,Bs F s q (E (aa (u x)) (aa (v x))) (f x))->∀ {y z:Ot D}{st:Za},Grw s st->∃ b a st',Z3 ok (λx y U s=>ex F q (Zf (Zf U i x) i' y) s) (l.map λx=>(u x,v x)) (E y z) st=aa (match skR f l with|some d=>.rt d|none=>.nx (E b a),st')/\Grw st st'
 |[],_,y,z,st,g=>⟨y,z,st,ao (j st g),.refl⟩
 |x :: l,h,y,z,st,g=>by
  obtain⟨s1,r,e⟩:=h x Ls st g;obtain⟨b,a,m,p,n⟩:=Zje j k (λz o=>h z (Lm _ o)) (y:=aa (u x)) (z:=aa (v x)) (g.trans e)
  rw[aK,Z3,ao (j st g)];simp only[k];rw[r];unfold skR;cases f x with
  |some d=>exact⟨y,z,s1,rfl,e⟩
  |none=>exact⟨b,a,m,p,e.trans n⟩
theorem Qo{α:Type}{f:α->D}:∀ {k:Nat}{l:Li α},Xv k (l.map f)=(enm k l).map λp=>(D.int (p.1:Int),f p.2)
 |_,[]=>rfl
 |k,x :: l=>by show _ :: Xv (k+1) (l.map f)=_;rw[Qo];rfl
def R.seekE{α:Type}{l:Li α}{en:α->D}{f:Nat×α->Ot D}{E:Ot D->Ot D->Env}{y z:Ot D}(H:∀ y z c d,Zf (Zf (E y z) i c) i' d=E (aa c) (aa d))(C:Wk F s it (E y z) Zge (l.map en))(G:∀ x∈enm 0 l,Bs F s q (E (jN x.1) (aa (en x.2))) (f x))(A:∀ y z,R F s p (E y z) d):R F s (.seq (.forE i i' it q) p) (E y z) ((skR f (enm 0 l)).getD d):=λst g=>by
 obtain⟨x,s1,ok,K,a,I,B⟩:=C st g;obtain⟨n,m,j,b,e⟩:=Zje (s:=s1) (u:=λp:Nat×α=>D.int (p.1:Int)) (v:=λp=>en p.2) B H (λx t st h=>G x t st ((g.trans a).trans h)) (y:=y) (z:=z) .refl
 have k:ex F (.forE i i' it q) (E y z) st=Z3 ok (λx y U s=>ex F q (Zf (Zf U i x) i' y) s) ((enm 0 l).map λp=>(D.int (p.1:Int),en p.2)) (E y z) s1:=by
  rw[<-Qo];show Vz i i' (ev F it) (ex F q) (E y z) st=_;unfold Vz;simp only[K,I]
 cases c:skR f (enm 0 l) with
 |some w=>rw[c]at b;exact⟨j,Zt (k.trans b),a.trans e⟩
 |none=>
  rw[c]at b;obtain⟨o,J,r⟩:=A n m j (g.trans (a.trans e));exact⟨o,(Ze (k.trans b)).trans J,a.trans (e.trans r)⟩
theorem ZaA{α:Type}{f:α->Ot D}:∀ {l:Li α},skR f l=aa d->∃ x∈l,f x=aa d
 |x :: l,h=>by
  unfold skR at h;cases c:f x with
  |some v=>rw[c]at h;cases h;exact⟨x,Ls,c⟩
  |none=>rw[c]at h;obtain⟨z,a,e⟩:=ZaA h;exact⟨z,Lm _ a,e⟩
end
noncomputable def Ziz:D:=.tup [.str "end"]
def roD:Ot Rw->D
 |none=>Ziz
 |some r=>rwE r
noncomputable def isE:Ot Rw->Bool
 |none=>ac
 |some (.tell _)=>ac
 |_=>ae
noncomputable def WJ:Rw->Li (Nat×Op)
 |.put _ y _ z=>[(2,y),(4,z)]
 |.ifr y _ z _=>[(1,y),(3,z)]
 |.tell y=>[(1,y)]
 |_=>[]
noncomputable def inB(b:Nat):Op->Bool
 |.nm i=>b.testBit i
 |.nu _=>ac
def rdO(b:Nat)(r:Rw):Bool:=(WJ r).all λp=>inB b p.2
def eaB(b:Nat)(o u:Ot Rw):Bool:=aj (o=u)&&(match o with|none=>ac|some r=>rdO b r)
def caB(b:Nat):Rw->Rw->Bool
 |.ifr y g z t,.ifr c g' a _=>Zq [opE y,.str g,opE z] [opE c,.str g',opE a]&&rdO b (.ifr y g z t)
 |_,_=>ae
def woX(b:Nat):Rw->Nat
 |.put x _ _ _=>woN b x
 |_=>b
noncomputable def isP:Rw->Bool
 |.put _ _ _ _=>ac
 |_=>ae
noncomputable def tgR:Rw->Nat
 |.put x _ _ _=>x
 |_=>0
def stN(b:Nat)(r q:Rw):Nat:=if (isP r&&(aj (aa r=aa q)&&rdO b r))=ac then b ||| 2 ^ tgR r else woX (woX b r) q
noncomputable def pbN(k:Nat):Rw->Li Nat
 |.go t=>[t]
 |.ifr _ _ _ t=>[t,k+1]
 |_=>[k+1]
section
variable{c:Nat}{q:Rw}{o:Ot Rw}
def ZiK:S "put"≠S "end"/\S "if"≠S "end"/\S "go"≠S "end"/\S "tell"≠S "end"/\S "skip"≠S "end":=by decide +kernel
def Zdo(o:Ot Rw):∃ a,roD o=.tup a/\okD 8 (.tup a)=ac:=by
 cases o with
 |none=>exact⟨_,rfl,rfl⟩
 |some r=>exact JG r
def Zhx(h:roD o=roD u):o=u:=by
 obtain⟨f,e,d,c,b⟩:=ZiK;have a:∀ r:Rw,rwE r≠Ziz:=λr h=>by
  cases r with
  |put _ _ _ _=>exact ar (ZH h) f
  |ifr _ _ _ _=>exact ar (ZH h) e
  |go _=>exact ar (ZH h) d
  |tell _=>exact ar (ZH h) c
  |skip=>exact ar (ZH h) b
 cases o with
 |none=>cases u with
  |none=>rfl
  |some r=>exact ar h.symm (a r)
 |some r=>cases u with
  |none=>exact ar h (a r)
  |some q=>rw[JF h]
def Y.eqro(g:Y F s a U (roD o))(f:Y F s b U (roD u)):Y F s (.e a b) U (.bl (aj (o=u))):=by
 obtain⟨j,c,i⟩:=Zdo o;obtain⟨ys,d,k⟩:=Zdo u;have e:aj (o=u)=Zq j ys:=by
  rw[Yu i];refine decide_eq_decide.mpr ⟨λh=>?_,λh=>Zhx (by rw[c,d,h])⟩
  rw[h,d]at c;injection c with c;exact c.symm
 rw[c]at g;rw[d]at f;rw[e];exact .eqd g f i k
inductive RoP(m:Nat)(rs:List Rw)(k:Nat):Option Rw->Prop where
 |e (h:rs.length<=k):RoP m rs k ab
 |r {r r':Rw} (h:rs[k]?=aa r) (ok:Zu m rs.length r') (al:Als m k r r'):RoP m rs k (aa r')
def rm(rs:Li Rw)(k:Nat):Ot Rw:=(rs[k]?).map (mdR k)
def ZeX(a:Rs m rs):RoP m rs k (rm rs k):=by
 unfold rm;cases q:rs[k]? with
 |none=>exact .e (eB.mp q)
 |some r=>
  have d:=Zit (j:=k) (a.ok _ (aT q));exact .r q d.1 d.2
def JV(e:Rs m rs):C (rT (n+6)) s 115 [pgD tk m rs,.int (k:Int)] (roD (rm rs k)):=by
 have d:Y (rT (n+5)) s (.cmp .GtE (.v 1) (.len (.x 0 2))) [aa (pgD tk m rs),jN k] (.bl (aj ((rs.length:Int)<=(k:Int)))):=by
  have:=Y.cmp (F:=rT (n+5)) (s:=s) (op:=.GtE) (a:=.v 1) (b:=.len (.x 0 2)) (U:=[aa (pgD tk m rs),jN k]) (x:=.int (k:Int)) (y:=.int ((rs.map rwE).length:Int)) () (.lnT ()) λ_=>rfl
  rw[aD]at this;exact this
 unfold rm;cases c:rs[k]? with
 |none=>
  have:=eB.mp c;exact .of (v:=We) rfl rfl (.pick d (λ_=>.ret ()) λq=>ar (ak q) ∅)
 |some r=>
  have:=Zk c;exact .of (v:=We) rfl rfl (.pick d (λq=>ar (am q) ∅) λ_=>.ret (.call (xs:=[rwE r,.int (k:Int)]) (.cons (.ixt (j:=k) (xs:=rs.map rwE) () () (by rw[aV,c];rfl)) ()) (Zbr (e.ok _ (aT c)))))
def Zbp:C (rT (n+1)) s 116 [roD o] (.bl (isE o)):=by
 have a:Y (rT n) s (.e (.v 0) (.c (.tup [.str "end"]))) [aa (roD o)] (.bl (aj (o=ab))):=.eqro (u:=ab) () ();cases o with
 |none=>exact .of (v:=Y3) rfl rfl (.ret (.or (k:=ac) (m:=ae) a λq=>nomatch q))
 |some r=>cases r<;>exact .of (v:=Y3) rfl rfl (.ret (.or (k:=ae) a λ_=>.r rf))
def Zhd:∀ p∈WJ r,∃ b,rwE r=.tup b/\b[p.1]?=aa (opE p.2):=λp a=>by
 cases r with
 |put x y g z=>
  simp only[WJ,aF,bB,or_false]at a;rcases a with rfl|rfl<;>exact⟨_,rfl,rfl⟩
 |ifr y g z t=>
  simp only[WJ,aF,bB,or_false]at a;rcases a with rfl|rfl<;>exact⟨_,rfl,rfl⟩
 |tell y=>
  simp only[WJ,aF,bB,or_false]at a;subst a;exact⟨_,rfl,rfl⟩
 |go t=>cases a
 |skip=>cases a
def Zhe(h:Zu m sz r):∀ p∈WJ r,Wn m p.2:=λp a=>by
 cases r with
 |put x y g z=>
  simp only[WJ,aF,bB,or_false]at a;rcases a with rfl|rfl
  .exact h.2.1
  .exact h.2.2.2
 |ifr y g z t=>
  simp only[WJ,aF,bB,or_false]at a;rcases a with rfl|rfl
  .exact h.1
  .exact h.2.2.1
 |tell y=>
  simp only[WJ,aF,bB,or_false]at a;subst a;exact h
 |go t=>cases a
 |skip=>cases a
def Zbu:C (rT (n+1)) s 113 [rwE r] (.tup ((WJ r).map λp=>.int (p.1:Int))):=by
 cases r<;>exact .of (v:=ZV) rfl rfl (.ret ())
def Uu(f:m<=60)(h:Zu m sz r):C (rT (n+3)) s 117 [rwE r,.int (c:Int)] (.bl (rdO c r)):=by
 have e:D.bl (rdO c r)=(skR (λp:Nat×Op=>if (!inB c p.2)=ac then aa (.bl ae) else ab) (WJ r)).getD (.bl ac):=by
  unfold rdO
  induction WJ r with
  |nil=>rfl
  |cons p l d=>
   unfold skR;rw[bE];cases inB c p.2 with
   |true=>exact d
   |false=>rfl
 rw[e];refine .of (v:=Y5) rfl rfl (.seekD (i:=2) (l:=WJ r) (en:=λp=>.int (p.1:Int)) (E:=λy=>[aa (rwE r),jN c,y]) (λ_ _=>rfl) (.call (xs:=[rwE r]) () Zbu) (λp b=>?_) λy=>.ret ())
 obtain⟨xs,o,g⟩:=Zhd p b;have a:Y (rT (n+2)) s (.ix (.v 0) (.v 2)) [aa (rwE r),jN c,jN p.1] (opE p.2):=by
  rw[o];exact .ixt (j:=p.1) (xs:=xs) () () g
 have ok:=Zhe h p b;refine .ite (t:=!inB c p.2) ?_ (λ_=>.r rf) λ_=>.skip
 cases q:p.2 with
 |nm x=>
  rw[q]at a ok;exact .and (k:=ac) (.cmp (x:=.str "name") (.ixt (j:=0) a () rfl) () λ_=>rfl) λ_=>.not (.call (xs:=[.int (c:Int),.int (x:Int)]) (.cons () (.cons (.ixt (j:=1) a () rfl) .nil)) (Zgj (cV (aU ok f))))
 |nu v=>
  rw[q]at a;exact .and (k:=ae) (m:=ae) (.cmp (x:=.str "number") (.ixt (j:=0) a () rfl) () λ_=>rfl) λq=>nomatch q
def JT(b:m<=60)(h:∀ r,o=aa r->Zu m sz r):C (rT (n+4)) s 118 [roD o,roD u,.int (c:Int)] (.bl (eaB c o u)):=by
 refine .of (v:=Xp) rfl rfl (.ret (.and (.eqro () ()) λ_=>?_))
 have a:Y (rT (n+3)) s (.e (.v 0) (.c (.tup [.str "end"]))) [aa (roD o),aa (roD u),jN c] (.bl (aj (o=ab))):=.eqro (u:=ab) () ();cases o with
 |none=>exact .or (k:=ac) (m:=ae) a λq=>nomatch q
 |some r=>exact .or (k:=ae) a λ_=>.call (xs:=[rwE r,.int (c:Int)]) () (Uu b (h r rfl))
def ZdO(d:m<=60)(h:Zu m sz r):C (rT (n+4)) s 119 [rwE r,rwE q,.int (c:Int)] (.bl (caB c r q)):=by
 cases r with
 |ifr y g z t=>cases q with
  |ifr b g' a e=>
   refine .of (v:=ZQ) rfl rfl (.ret (.and (k:=ac) () λ_=>.and (k:=ac) () λ_=>.and (.eqd (xs:=[opE y,.str g,opE z]) (ys:=[opE b,.str g',opE a]) () () ?_ ?_) λ_=>.call (xs:=[rwE (.ifr y g z t),.int (c:Int)]) () (Uu d h)))
   .cases y<;>cases z<;>rfl
   .cases b<;>cases a<;>rfl
  |_=>exact .of (v:=ZQ) rfl rfl (.ret (.and (k:=ac) () λ_=>.and (k:=ae) (m:=ae) () λq=>nomatch q))
 |_=>exact .of (v:=ZQ) rfl rfl (.ret (.and (k:=ae) (m:=ae) () λq=>nomatch q))
def ZaB{A B y:Ot D}(d:m<=60)(h:Zu m sz r):∀ st,Grw s st->∃ st',ex (rT (n+3)) Zx [A,B,jN c,aa (rwE r)] st=aa (.nx [A,B,aa (.int ((woX c r:Nat):Int)),aa (rwE r)],st')/\Grw st st':=λst g=>by
 cases r with
 |put x y g z=>
  obtain⟨s1,e,b⟩:=Y.call (F:=rT (n+3)) (s:=st) (f:=57) (a:=.a 2 (.u (.x 3 1))) (U:=[A,B,jN c,aa (rwE (.put x y g z))]) (xs:=[.int (c:Int),.int (x:Int)]) (ds:=[]) () (Zic (n:=n+1) (cV (aU h.1 d))) st .refl;exact⟨s1,(Ze ((XJ rfl).trans ((Ze (Zs e)).trans Zh))).trans Zh,b⟩
 |_=>exact⟨st,(Ze ((Wm rfl).trans Zh)).trans Zh,.refl⟩
def Zgo(b:m<=60)(h:Zu m sz r)(D:Zu m sz q):C (rT (n+4)) s 120 [rwE r,rwE q,.int (c:Int)] (.int ((stN c r q:Nat):Int)):=by
 have f:R (rT (n+3)) s (.seq (.for1 3 ae (.g (.a 0 (.s 1))) Zx) (.q (.v 2))) [aa (rwE r),aa (rwE q),jN c,ab] (.int ((woX (woX c r) q:Nat):Int)):=λst g=>by
  obtain⟨s1,F,p⟩:=ZaB (n:=n) (s:=st) (c:=c) (A:=aa (rwE r)) (B:=aa (rwE q)) (y:=ab) b h st .refl;obtain⟨i,E,l⟩:=ZaB (n:=n) (s:=s1) (c:=woX c r) (A:=aa (rwE r)) (B:=aa (rwE q)) (y:=ab) b D s1 .refl;refine⟨i,(Ze (U':=[aa (rwE r),aa (rwE q),aa (.int ((woX (woX c r) q:Nat):Int)),aa (rwE q)]) (s':=i) ((for_tup (xs:=[rwE r,rwE q]) rfl).trans ?_)).trans (Zt (Yn rfl)),p.trans l⟩
  show(match ex (rT (n+3)) Zx [aa (rwE r),aa (rwE q),jN c,aa (rwE r)] st with
   |some (.nx U',st')=>Zj (λd U s=>ex (rT (n+3)) Zx (Zf U 3 d) s) [rwE q] U' st'
   |some (.ct U',st')=>Zj (λd U s=>ex (rT (n+3)) Zx (Zf U 3 d) s) [rwE q] U' st'
   |some (.bk U',st')=>aa (.nx U',st')
   |some (.rt v,st')=>aa (.rt v,st')
   |none=>ab)=_
  rw[F];show(match ex (rT (n+3)) Zx [aa (rwE r),aa (rwE q),aa (.int ((woX c r:Nat):Int)),aa (rwE q)] s1 with
   |some (.nx U',st')=>Zj (λd U s=>ex (rT (n+3)) Zx (Zf U 3 d) s) [] U' st'
   |some (.ct U',st')=>Zj (λd U s=>ex (rT (n+3)) Zx (Zf U 3 d) s) [] U' st'
   |some (.bk U',st')=>aa (.nx U',st')
   |some (.rt v,st')=>aa (.rt v,st')
   |none=>ab)=_
  rw[E];rfl
 have j:Y (rT (n+3)) s (.e (.x 0 0) (.t "put")) [aa (rwE r),aa (rwE q),jN c,ab] (.bl (isP r)):=by cases r<;>exact .r rf
 refine .of (v:=WA) rfl rfl (.pick (k:=isP r&&(aj (aa r=aa q)&&rdO c r)) (.and j λ_=>.and (.eqro (o:=aa r) (u:=aa q) () ()) λ_=>.call (xs:=[rwE r,.int (c:Int)]) () (Uu b h)) (λz=>?_) λz=>?_)
 .unfold stN
  rw[ao z];cases r with
  |put x y g w=>exact .ret (.bor () (.call1 (x:=.int (x:Int)) () (JS (cV (aU h.1 b)))))
  |_=>cases z
 .unfold stN
  rw[aq (by rw[z];decide)]
  exact f
def Qa:C (rT (n+1)) s 121 [rwE r,.int (k:Int)] (.tup ((pbN k r).map λ(x:Nat)=>D.int (x:Int))):=by
 have one:∀ {U:Env},U[1]?=aa (jN k)->Y (rT n) s (.p (.v 1) (.i 1)) U (.int ((k+1:Nat):Int)):=λ{U} h=>by
  rw[bO];exact .add (.v h) ()
 cases r with
 |go t=>exact .of (v:=ZM) rfl rfl (.yes () ())
 |ifr y g z t=>
  show C _ _ _ _ (.tup [.int (t:Int),.int ((k+1:Nat):Int)]);exact .of (v:=ZM) rfl rfl (.no () (.yes () (.cons () (.cons (one rfl) .nil))))
 |_=>
  show C _ _ _ _ (.tup [.int ((k+1:Nat):Int)]);exact .of (v:=ZM) rfl rfl (.no () (.no () (.ret (.cons (one rfl) .nil))))
end
noncomputable def trD(t:Nat×Nat×Nat):D:=.tup [.int (t.1:Int),.int (t.2.1:Int),.int (t.2.2:Int)]
def roM(k:Nat)(vs:Li Int):Ot Rw->Sum D (Nat×Li Int)
 |none=>.inl noD
 |some r=>rv k vs r
structure FolB(m sz sz':Nat)(ts:List (Nat×Nat×Nat)):Prop where
 l:ts.length<=4
 b:∀ t∈ts,t.1<=sz/\t.2.1<=sz'/\t.2.2 < 2 ^ m
variable{tk':D}{rs':Li Rw}{ws:Li Int}
section
variable{c:Nat}{q:Rw}{o:Ot Rw}{y:Op}
theorem RoP.mv(h:RoP m rs k o)(a:Vs m vs):mv rs k vs=roM k vs o:=by
 cases h with
 |e h=>unfold Dp.mv;rw[eI h];rfl
 |r h ok b=>rw[ZiS h];exact(b vs a).symm
def Zgg:woX c r<=c:=by
 cases r with
 |put x y g z=>exact Nat.sub_le _ _
 |_=>exact aE _
def Zjh(a:c < 2 ^ m)(ok:Zu m sz r):stN c r q < 2 ^ m:=by
 unfold stN;split
 .rename_i z
  rw[Ba]at z;cases r with
  |put x y g w=>exact Nat.or_lt_two_pow a (Nat.pow_lt_pow_right #[] ok.1)
  |_=>cases z.1
 .exact Nat.lt_of_le_of_lt (aR Zgg Zgg) a
def Zf0(a:k < sz)(ok:Zu m sz r):∀ x∈pbN k r,x<=sz:=λx hx=>by
 cases r with
 |go t=>rw[aM.mp hx];exact ok
 |ifr y g z t=>
  rcases aF.mp hx with rfl|hx
  .exact ok.2.2.2
  .rw[aM.mp hx];exact a
 |_=>rw[aM.mp hx];exact a
def Jx:(pbN k r).length<=2:=by cases r<;>first|exact aE _|exact Nat.le_succ _
noncomputable def tgI:Rw->Nat
 |.ifr _ _ _ t=>t
 |_=>0
def Jj(k j c:Nat)(r q:Rw):Li (Nat×Nat×Nat):=(pbN k r).flatMap λp=>(pbN j q).map λa=>(p,a,stN c r q)
def Zab:(Jj k j c r q).length<=4:=by
 have d:=Jx (k:=j) (r:=q);have h:∀ l:Li Nat,(l.flatMap λp=>(pbN j q).map λa=>(p,a,stN c r q)).length<=2 * l.length:=λl=>by
  induction l with
  |nil=>exact aE _
  |cons x l b=>rw[bY,aI,aD,aQ];omega
 have:=h (pbN k r);have:=Jx (k:=k) (r:=r);unfold Jj;omega
def foD:Ot (Li (Nat×Nat×Nat))->D
 |none=>.non
 |some a=>.tup (a.map trD)
def fvO(o u:Ot Rw)(k j c:Nat):Ot (Li (Nat×Nat×Nat)):=
 if (isE o||isE u)=ac then (if eaB c o u=ac then aa [] else ab)
 else match o,u with
  |some r,aa q=>aa (if caB c r q=ac then [(tgI r,tgI q,c),(k+1,j+1,c)] else Jj k j c r q)
  |_,_=>ab
def Zik(h:caB c r q=ac):∃ y g z t b g' a d,r=.ifr y g z t/\q=.ifr b g' a d:=by
 cases r with
 |ifr y g z t=>cases q with
  |ifr b g' a d=>exact⟨_,_,_,_,_,_,_,_,rfl,rfl⟩
  |_=>cases h
 |_=>cases h
def Qc(V:Rs m rs)(F:Rs m rs')(H:m<=60)(N:c < 2 ^ m):C (rT (n+7)) s 122 [pgD tk m rs,pgD tk m rs',.int (k:Int),.int (j:Int),.int (c:Int)] (foD (fvO (rm rs k) (rm rs' j) k j c))/\∀ w,fvO (rm rs k) (rm rs' j) k j c=aa w->FolB m rs.length rs'.length w:=by
 have Q:=ZeX (k:=k) V;have P:=ZeX (k:=j) F;have M:=JV (n:=n) (s:=s) (tk:=tk) (k:=k) V;have L:=JV (n:=n) (s:=s) (tk:=tk) (k:=j) F;generalize rm rs k=o at *
 generalize rm rs' j=u at *
 have B:∀ r,o=aa r->Zu m rs.length r:=λr e=>by
  subst e;cases Q with|r h ok O=>exact ok
 have I:∀ r,u=aa r->Zu m rs'.length r:=λr e=>by
  subst e;cases P with|r h ok O=>exact ok
 suffices h:R (rT (n+6)) s (tlC 2 c_follow.body) [aa (pgD tk m rs),aa (pgD tk m rs'),jN k,jN j,jN c,aa (roD o),aa (roD u),ab,ab,ab] (foD (fvO o u k j c))/\∀ w,fvO o u k j c=aa w->FolB m rs.length rs'.length w from
  ⟨.of (v:=c_follow) rfl rfl (.set (.call (xs:=[pgD tk m rs,.int (k:Int)]) () M) (.set (.call (xs:=[pgD tk m rs',.int (j:Int)]) () L) h.1)),h.2⟩
 have b:Y (rT (n+6)) s (.or (.f 116 (.s 5)) (.f 116 (.s 6))) [aa (pgD tk m rs),aa (pgD tk m rs'),jN k,jN j,jN c,aa (roD o),aa (roD u),ab,ab,ab] (.bl (isE o||isE u)):=.or (.call1 () Zbp) λ_=>.call1 () Zbp
 cases A:isE o||isE u with
 |true=>
  rw[A]at b;cases q:eaB c o u with
  |true=>
   rw[show fvO o u k j c=aa [] by unfold fvO;rw[ao A,ao q]]
   exact⟨.yB b (.ret (.ife (k:=ac) (by rw[<-q];exact .call (xs:=[roD o,roD u,.int (c:Int)]) () (JT H B)) ())),λw e=>by cases e;exact⟨aS _,λt h=>nomatch h⟩⟩
  |false=>
   rw[show fvO o u k j c=ab by unfold fvO;rw[ao A,q];rfl]
   exact⟨.yB b (.ret (.ife (k:=ae) (by rw[<-q];exact .call (xs:=[roD o,roD u,.int (c:Int)]) () (JT H B)) ())),λw e=>nomatch e⟩
 |false=>
  rw[A]at b;have K:=A;rw[Bool.or_eq_false_iff]at A;cases o with
  |none=>cases A.1
  |some r=>cases u with
   |none=>cases A.2
   |some q=>
    have d:=B r rfl;have o2:=I q rfl;have T:k < rs.length:=by cases Q with|r h ok O=>exact Zk h
    have S:j < rs'.length:=by cases P with|r h ok O=>exact Zk h
    have ef:fvO (aa r) (aa q) k j c=aa (if caB c r q=ac then [(tgI r,tgI q,c),(k+1,j+1,c)] else Jj k j c r q):=by
     unfold fvO;rw[K,aq #[]]
    rw[ef];have G:Y (rT (n+6)) s (.f 119 (.a 5 (.a 6 (.s 4)))) [aa (pgD tk m rs),aa (pgD tk m rs'),jN k,jN j,jN c,aa (rwE r),aa (rwE q),ab,ab,ab] (.bl (caB c r q)):=.call (xs:=[rwE r,rwE q,.int (c:Int)]) () (ZdO H d);cases J:caB c r q with
    |true=>
     rw[J]at G;obtain⟨y,g,z,t,y',g',z',W,rfl,rfl⟩:=Zik J;have one:∀ {i v:Nat}{U:Env},U[i]?=aa (jN v)->Y (rT (n+6)) s (.p (.v i) (.i 1)) U (.int ((v+1:Nat):Int)):=λ{i v U} h=>by
      rw[bO];exact .add (.v h) ()
     show R _ _ _ _ (.tup [trD (t,W,c),trD (k+1,j+1,c)])/\_;refine⟨.no b (.yB G (.ret (.cons (.cons () (.cons () (.cons () .nil))) (.cons (.cons (one (i:=2) rfl) (.cons (one (i:=3) rfl) (.cons () .nil))) .nil)))),λw e=>?_⟩
     cases e;exact⟨(show 2<=4 by decide),λp hp=>by
      rcases aF.mp hp with rfl|hp
      .exact⟨d.2.2.2,o2.2.2.2,N⟩
      .rw[aM.mp hp];exact⟨T,S,N⟩⟩
    |false=>
     rw[J]at G;refine⟨.no b (.no G (.set (.call (xs:=[rwE r,rwE q,.int (c:Int)]) () (Zgo (sz:=max rs.length rs'.length) H ?_ ?_)) ?_)),λw e=>?_⟩
     .cases r<;>first|exact d|exact aR d (Nat.le_max_left _ _)|exact⟨d.1,d.2.1,d.2.2.1,aR d.2.2.2 (Nat.le_max_left _ _)⟩
     .cases q<;>first|exact o2|exact aR o2 (Nat.le_max_right _ _)|exact⟨o2.1,o2.2.1,o2.2.2.1,aR o2.2.2.2 (Nat.le_max_right _ _)⟩
     .have e:(Jj k j c r q).map trD=(pbN k r).flatMap λp=>(pbN j q).map λa=>trD (p,a,stN c r q):=by
       unfold Jj;rw[cU];exact au (λf=>(pbN k r).flatMap f) (funext λp=>aZ)
      show R _ _ _ _ (.tup ((Jj k j c r q).map trD));rw[e];refine .gather (i0:=8) (i:=9) (E:=λy l=>[aa (pgD tk m rs),aa (pgD tk m rs'),jN k,jN j,jN c,aa (rwE r),aa (rwE q),jI (stN c r q:Nat),jL l,y]) (en:=λ(p:Nat)=>D.int (p:Int)) (λ_=>rfl) (λ_ _ _=>rfl) (λ_ _=>rfl) (λl=>.call (xs:=[rwE r,.int (k:Int)]) () Qa) (λl hl p hp=>.one (.ext rfl (UQ (l:=pbN j q) (en:=λ(p:Nat)=>D.int (p:Int)) (g:=λa=>trD (p,a,stN c r q)) (.of (x:=.tup ((pbN j q).map λ(x:Nat)=>D.int (x:Int))) (.call (xs:=[rwE q,.int (j:Int)]) () Qa) λst=>rfl) (by have:=Jx (k:=j) (r:=q);omega) λa ha=>.cons () (.cons () (.cons () .nil))))) ?_
      rw[<-e,aD];have:=Zab (k:=k) (j:=j) (c:=c) (r:=r) (q:=q);omega
     .cases e
      exact⟨Zab,λp hp=>by
       obtain⟨x,Z,hp⟩:=dP.mp hp;obtain⟨z,X,rfl⟩:=aL.mp hp;exact⟨Zf0 T d x Z,Zf0 S o2 z X,Zjh N d⟩⟩
structure Sa(m:Nat)(q0 q:List Rw):Prop where
 r:Rs m q
 l:q.length=q0.length
 rm:∀ k,rm q k=rm q0 k
theorem Sa.mv(h:Sa m rs' rs)(b:Rs m rs')(a:Vs m vs):Dp.mv rs k vs=Dp.mv rs' k vs:=by rw[(ZeX h.r).mv a,(ZeX b).mv a,h.rm]
theorem Sa.tl(h:Sa m rs' rs)(a:Rs m rs'):∀ {L k:Nat}{vs:Li Int},Vs m vs->Dp.tl rs L k vs=Dp.tl rs' L k vs
 |0,k,vs,_=>by unfold Dp.tl;rw[h.l]
 |L+1,k,vs,b=>by
  unfold Dp.tl;rw[h.mv a b];cases q:Dp.mv rs' k vs with
  |inl o=>rfl
  |inr p=>exact au (stD p.1 p.2 :: ·) (h.tl a (ZfQ b a q))
end
noncomputable abbrev Tr:=Nat×Nat×Nat
def lk:Li Tr->Nat->Nat->Ot Nat
 |[],_,_=>ab
 |t :: a,k,j=>if t.1=k/\t.2.1=j then aa t.2.2 else lk a k j
def pt:Li Tr->Nat->Nat->Nat->Li Tr
 |[],k,j,b=>[(k,j,b)]
 |t :: a,k,j,b=>if t.1=k/\t.2.1=j then (k,j,b) :: a else t :: pt a k j b
def ky(t:Tr):Nat×Nat:=(t.1,t.2.1)
def sb(a:Li Tr):Nat:=(a.map λt=>t.2.2).sum
variable{sz':Nat}{ts us:Li Tr}{ah:Li (Nat×Nat)}
section
variable{b c k' j':Nat}{t u:Tr}
theorem Jr:∀ {ts:Li Tr},lk ts k j=aa b->(k,j,b)∈ts
 |t :: ts,h=>by
  unfold lk at h;split at h
  .rename_i e;cases h;rw[<-e.1,<-e.2];exact Ls
  .exact Lm _ (Jr h)
theorem Jq:∀ {ts:Li Tr},(k,j)∈ts.map ky->∃ b,lk ts k j=aa b
 |t :: ts,h=>by
  unfold lk;split
  .exact⟨_,rfl⟩
  .rename_i n
   rcases aF.mp h with h|h
   .exact ar ⟨(au Prod.fst h).symm,(au Prod.snd h).symm⟩ n
   .exact Jq h
theorem Zam:∀ {ts:Li Tr},lk ts k j=ab->∀ t∈ts,¬(t.1=k/\t.2.1=j)
 |t :: ts,h,u,hu=>by
  unfold lk at h;split at h
  .cases h
  .rename_i n
   rcases aF.mp hu with rfl|hu
   .exact n
   .exact Zam h u hu
theorem Jy:∀ {ts:Li Tr},u∈pt ts k j b->u=(k,j,b)\/u∈ts
 |[],h=>.inl (aM.mp h)
 |t :: ts,h=>by
  unfold pt at h;split at h
  .rcases aF.mp h with h|h
   .exact .inl h
   .exact .inr (Lm _ h)
  .rcases aF.mp h with rfl|h
   .exact .inr Ls
   .exact(Jy h).imp_right (Lm _)
theorem Zf2:∀ {ts:Li Tr},(ts.map ky).Nodup->((pt ts k j b).map ky).Nodup
 |[],_=>bM.mpr ⟨λh=>(nomatch h),dG⟩
 |t :: ts,h=>by
  have h:(ky t :: ts.map ky).Nodup:=h;unfold pt;split
  .rename_i e
   have e:ky t=(k,j):=by show(t.1,t.2.1)=_;rw[e.1,e.2]
   rw[e]at h;exact h
  .rename_i n
   rw[bM]at h;refine bM.mpr ⟨λq=>?_,Zf2 h.2⟩
   obtain⟨u,hu,a⟩:=aL.mp q;rcases Jy hu with rfl|hu
   .exact n ⟨(au Prod.fst a).symm,(au Prod.snd a).symm⟩
   .exact h.1 (aL.mpr ⟨u,hu,a⟩)
theorem U0:∀ {ts:Li Tr}{x:Nat×Nat},x=(k,j)\/x∈ts.map ky->x∈(pt ts k j b).map ky
 |[],x,h=>h.elim (λe=>by rw[e];exact Ls) λh=>nomatch h
 |t :: ts,x,h=>by
  unfold pt;split
  .rename_i e
   have e:ky t=(k,j):=by show(t.1,t.2.1)=_;rw[e.1,e.2]
   rcases h with h|h
   .rw[h];exact Ls
   .rcases aF.mp h with h|h
    .rw[h,e];exact Ls
    .exact Lm _ h
  .rcases h with h|h
   .exact Lm _ (U0 (.inl h))
   .rcases aF.mp h with h|h
    .rw[h];exact Ls
    .exact Lm _ (U0 (.inr h))
theorem Zay:∀ {ts:Li Tr},lk ts k j=aa c->(pt ts k j b).length=ts.length/\sb (pt ts k j b)+c=sb ts+b
 |t :: ts,h=>by
  unfold lk at h;unfold pt;split at h
  .rename_i e
   cases h;rw[ao e];refine⟨rfl,?_⟩;show b+sb ts+t.2.2=t.2.2+sb ts+b;omega
  .rename_i n
   rw[aq n];obtain⟨a,d⟩:=Zay h;refine⟨au (·+1) a,?_⟩;show t.2.2+sb (pt ts k j b)+c=t.2.2+sb ts+b;omega
theorem Zax:∀ {ts:Li Tr},lk ts k j=ab->(pt ts k j b).length=ts.length+1/\sb (pt ts k j b)=sb ts+b
 |[],_=>⟨rfl,by show b+0=0+b;omega⟩
 |t :: ts,h=>by
  unfold lk at h;unfold pt;split at h
  .cases h
  .rename_i n
   rw[aq n];obtain⟨a,c⟩:=Zax h;refine⟨au (·+1) a,?_⟩;show t.2.2+sb (pt ts k j b)=t.2.2+sb ts+b;omega
theorem ZfR{α:Type}[DecidableEq α]:∀ {l l':Li α},l.Nodup->(∀ x∈l,x∈l')->l.length<=l'.length
 |[],_,_,_=>aS _
 |x :: l,l',h,c=>by
  rw[bM]at h;have b:=c x Ls;have:=ZfR (l':=l'.erase x) h.2 λz a=>(List.mem_erase_of_ne λe=>h.1 (by rw[<-e];exact a)).mpr (c z (Lm _ a))
  rw[List.length_erase_of_mem b]at this;have:=List.length_pos_of_mem b;rw[aQ];omega
noncomputable def Zgr(sz sz':Nat):Li (Nat×Nat):=(ag (sz+1)).flatMap λk=>(ag (sz'+1)).map λj=>(k,j)
def Zbz:(Zgr sz sz').length=(sz+1) * (sz'+1):=by
 have h:∀ l:Li Nat,(l.flatMap λk=>(ag (sz'+1)).map λj=>(k,j)).length=l.length * (sz'+1):=λl=>by
  induction l with
  |nil=>exact(Nat.zero_mul _).symm
  |cons x l a=>rw[bY,aI,a,aD,bT,aQ,Nat.add_mul,Nat.one_mul,Nat.add_comm]
 unfold Zgr;rw[h,bT]
def JO(c:(ts.map ky).Nodup)(d:∀ t∈ts,t.1<=sz/\t.2.1<=sz'/\t.2.2 < 2 ^ m):ts.length<=(sz+1) * (sz'+1):=by
 have:=ZfR (l':=Zgr sz sz') c λx a=>by
  obtain⟨t,b,rfl⟩:=aL.mp a;obtain⟨f,e,_⟩:=d t b;exact dP.mpr ⟨t.1,cA.mpr ∅,aL.mpr ⟨t.2.1,cA.mpr ∅,rfl⟩⟩
 rwa [Zbz,aD]at this
def mu(m sz sz':Nat)(ts:Li Tr)(ah:Li (Nat×Nat)):Nat:=2 * (sb ts+2 ^ m * ((sz+1) * (sz'+1) - ts.length))+ah.length
structure Ou(m sz sz' M:Nat)(ts:List Tr)(ah:List (Nat×Nat)):Prop where
 nd:(ts.map ky).Nodup
 bd:∀ t∈ts,t.1<=sz/\t.2.1<=sz'/\t.2.2 < 2 ^ m
 ai:∀ x∈ah,x∈ts.map ky
 mu:mu m sz sz' ts ah<=M
def s1(x:Li Tr×Li (Nat×Nat))(u:Tr):Li Tr×Li (Nat×Nat):=
 if lk x.1 u.1 u.2.1=aa (u.2.2 &&& (lk x.1 u.1 u.2.1).getD u.2.2) then x else (pt x.1 u.1 u.2.1 (u.2.2 &&& (lk x.1 u.1 u.2.1).getD u.2.2),x.2++[(u.1,u.2.1)])
def Ou.step{M:Nat}(h:Ou m sz sz' M ts ah)(hu:u.1<=sz/\u.2.1<=sz'/\u.2.2 < 2 ^ m):Ou m sz sz' M (s1 (ts,ah) u).1 (s1 (ts,ah) u).2:=by
 unfold s1;generalize i:u.2.2 &&& (lk ts u.1 u.2.1).getD u.2.2=b;dsimp only;split
 .exact h
 .rename_i e
  have bl:b < 2 ^ m:=by rw[<-i];exact Nat.lt_of_le_of_lt Nat.and_le_left hu.2.2
  have d:=Zf2 (k:=u.1) (j:=u.2.1) (b:=b) h.nd;have l:∀ t∈pt ts u.1 u.2.1 b,t.1<=sz/\t.2.1<=sz'/\t.2.2 < 2 ^ m:=λt ht=>by
   rcases Jy ht with rfl|ht
   .exact⟨hu.1,hu.2.1,bl⟩
   .exact h.bd t ht
  have n:=JO d l;refine⟨d,l,λx hx=>?_,?_⟩
  .rcases bC.mp hx with hx|hx
   .exact U0 (.inr (h.ai x hx))
   .exact U0 (.inl (aM.mp hx))
  .have g:=h.mu
   unfold Dp.mu at g ⊢
   rw[aI];show 2 * (sb (pt ts u.1 u.2.1 b)+2 ^ m * ((sz+1) * (sz'+1) - (pt ts u.1 u.2.1 b).length))+(ah.length+1)<=M;cases q:lk ts u.1 u.2.1 with
   |some c=>
    obtain⟨a,f⟩:=Zay (b:=b) q;rw[a];have:b<=c:=by rw[<-i,q];exact Nat.and_le_right
    have:b≠c:=λz=>e (by rw[q,z])
    omega
   |none=>
    obtain⟨a,f⟩:=Zax (b:=b) q;rw[a,f];rw[a]at n;obtain⟨w,o⟩:∃ w,(sz+1) * (sz'+1) - ts.length=w+1:=⟨(sz+1) * (sz'+1) - ts.length - 1,∅⟩
    rw[show(sz+1) * (sz'+1) - (ts.length+1)=w by omega]
    rw[o,Nat.mul_succ]at g;omega
end
noncomputable def prN(p:Nat×Nat):D:=.tup [.int (p.1:Int),.int (p.2:Int)]
noncomputable def iN(b:Nat):D:=.int (b:Int)
def bI:CS:=.y 9 (.bin .BitAnd (.v 8) (.dgN (.v 2) (.g (.a 6 (.s 7))) (.v 8)))
 (.z (.ite (.cmp .NotEq (.dgN (.v 2) (.g (.a 6 (.s 7))) (.c .non)) (.v 9)) (.seq (.dput 2 (.v 6) (.v 7) (.v 9))
 (.z (.app 3 (.g (.a 6 (.s 7)))))) .skip))
def cW:CE:=.cmp .Gt (.len (.v 3)) (.i 0)
def bW:CS:=.y 4 (.pop (.v 3))
 (.y 5 (.f 122 (.a 0 (.a 1 (.aC (.x 4 0) (.aC (.x 4 1) (.u (.ix (.v 2) (.v 4))))))))
 (.seq (.ite (.cmp .Is (.v 5) (.c .non)) (.q (.c .non)) .skip)
 (.z (.for4 6 7 8 (.v 5) bI))))
variable{A B:D}{x4 x5 x6 x7 x8 x9:Ot D}
section
variable{b c M q:Nat}{dn:Li Tr}{u p:Tr}
noncomputable def En(A B:D)(q w:Nat)(x4 x5 x6 x7 x8 x9:Ot D):Env:=[aa A,aa B,aa (.dic q),jL w,x4,x5,x6,x7,x8,x9]
def isk:isK (k:Int) (j:Int) (trD u)=aj (u.1=k/\u.2.1=j):=by
 show(aj ((u.1:Int)=(k:Int))&&aj ((u.2.1:Int)=(j:Int)))=_;rw[<-Bool.decide_and];exact decide_eq_decide.mpr ⟨λh=>⟨Int.ofNat.inj h.1,Int.ofNat.inj h.2⟩,λh=>⟨au Int.ofNat h.1,au Int.ofNat h.2⟩⟩
theorem Ql:∀ {ts:Li Tr},Yf (ts.map trD) (k:Int) (j:Int)=(lk ts k j).map iN
 |[]=>rfl
 |t :: ts=>by
  unfold Yf lk;rw[aK,cC,isk];by_cases h:t.1=k/\t.2.1=j
  .rw[ao h,aP h];rfl
  .rw[aq h,aH h];exact Ql
theorem Zdi:∀ {ts:Li Tr},lk ts k j=ab->pt ts k j b=ts++[(k,j,b)]
 |[],_=>rfl
 |t :: ts,h=>by
  unfold lk at h;split at h
  .cases h
  .rename_i n
   unfold pt;rw[aq n,Zdi h];rfl
theorem Zdj:∀ {ts:Li Tr},(ts.map ky).Nodup->lk ts k j=aa c->(ts.map trD).map (λe=>if isK (k:Int) (j:Int) e=ac then D.tup [.int (k:Int),.int (j:Int),.int (b:Int)] else e)=(pt ts k j b).map trD
 |t :: ts,a,h=>by
  have a:(ky t :: ts.map ky).Nodup:=a;rw[bM]at a;unfold lk at h;unfold pt;rw[aK,aK,isk];split at h
  .rename_i e
   rw[ao e,ao (aP e),aK];refine au (D.tup [.int (k:Int),.int (j:Int),.int (b:Int)] :: ·) ?_;rw[aZ];refine List.map_congr_left λu d=>?_
   show(if isK (k:Int) (j:Int) (trD u)=ac then _ else trD u)=trD u
   rw[isk,aq λz=>a.1 ?_]
   have z:=am z;exact aL.mpr ⟨u,d,by show(u.1,u.2.1)=(t.1,t.2.1);rw[z.1,z.2,e.1,e.2]⟩
  .rename_i n
   rw[aq n,aq (λz=>n (am z)),aK,Zdj a.2 h]
def Zec(nd:(ts.map ky).Nodup):Vv (ts.map trD) (k:Int) (j:Int) (.int (b:Int))=(pt ts k j b).map trD:=by
 unfold Vv;cases h:lk ts k j with
 |none=>
  rw[aq λz=>?_,Zdi h,bN];rfl
  obtain⟨e,d,z⟩:=List.any_eq_true.mp z;obtain⟨u,a,rfl⟩:=aL.mp d;rw[isk]at z;exact Zam h u a (am z)
 |some c=>
  rw[ao (List.any_eq_true.mpr ⟨trD (k,j,c),aL.mpr ⟨_,Jr h,rfl⟩,by rw[isk];exact aP ⟨rfl,rfl⟩⟩)]
  exact Zdj nd h
def Jv:okH (ts.map trD)=ac:=by cases ts<;>rfl
def Jg(a:st[q]?=aa (ac,ts.map trD)):dAt [.int (k:Int),.int (j:Int)] q st=aa ((lk ts k j).map iN):=by
 show o2 (λ(p:Int×Int) (c:Xg)=>Yf c.2 p.1 p.2) (aa ((k:Int),(j:Int))) (J2 st[q]?)=_
 rw[a,show J2 (aa (ac,ts.map trD))=aa (ac,ts.map trD) from ao Jv];show aa (Yf (ts.map trD) (k:Int) (j:Int))=_;rw[Ql]
def Y.dg{a:CE}(l:s[q]?=aa (ac,ts.map trD))(p:Y F s a U (.dic q)){kk:CE}(n:Y F s kk U (.tup [.int (k:Int),.int (j:Int)]))(m:Y F s e U d):Y F s (.dgN a kk e) U (((lk ts k j).map iN).getD d):=λst g=>by
 obtain⟨s1,u,b⟩:=p st g;obtain⟨i,t,f⟩:=n s1 (g.trans b);obtain⟨c,r,h⟩:=m i (g.trans (b.trans f));refine⟨c,?_,b.trans (f.trans h)⟩;show Y9 (ev F a) (ev F kk) (ev F e) gtD U st=_;unfold Y9;simp only[u,t,r];show(dAt [.int (k:Int),.int (j:Int)] q c).map (λo=>(o.getD d,c))=_
 rw[Jg ((g.trans (b.trans (f.trans h))).get l)];rfl
def Y6{b:Xg}(g:Grw s st)(h:s.length<=q):Grw s (st.set q b):=⟨λi a=>by rw[bJ ∅];exact g.old i a,by rw[aY];exact g.len⟩
def Zez(nd:(ts.map ky).Nodup)(T:ts.length<=400)(V:ah.length<=19000)(E:q≠w)(z:st[q]?=aa (ac,ts.map trD))(P:st[w]?=aa (ac,ah.map prN))(M:s.length<=q)(L:s.length<=w)(g:Grw s st) :
  ∃ t st',ex F bI (En A B q w x4 x5 (jN u.1) (jN u.2.1) (jN u.2.2) x9) st=aa (.nx (En A B q w x4 x5 (jN u.1) (jN u.2.1) (jN u.2.2) t),st')/\Grw s st'/\st'[q]?=aa (ac,(s1 (ts,ah) u).1.map trD)/\st'[w]?=aa (ac,(s1 (ts,ah) u).2.map prN):=by
 have O:((lk ts u.1 u.2.1).map iN).getD (.int (u.2.2:Int))=.int (((lk ts u.1 u.2.1).getD u.2.2:Nat):Int):=by cases lk ts u.1 u.2.1<;>rfl
 have D:=Y.dg (F:=F) (s:=st) (a:=.v 2) (kk:=.g (.a 6 (.s 7))) (e:=.v 8) (U:=En A B q w x4 x5 (jN u.1) (jN u.2.1) (jN u.2.2) x9) (k:=u.1) (j:=u.2.1) (d:=.int (u.2.2:Int)) z () () ();rw[O]at D;obtain⟨x,C,l⟩:=Y.band (c:=u.2.2) (a:=.v 8) () D st .refl;generalize N:u.2.2 &&& (lk ts u.1 u.2.1).getD u.2.2=v at C
 have J:=Y.dg (F:=F) (s:=x) (a:=.v 2) (kk:=.g (.a 6 (.s 7))) (e:=.c .non) (U:=En A B q w x4 x5 (jN u.1) (jN u.2.1) (jN u.2.2) (jN v)) (k:=u.1) (j:=u.2.1) (d:=.non) (l.get z) () () ();have I:Y F x (.cmp .NotEq (.dgN (.v 2) (.g (.a 6 (.s 7))) (.c .non)) (.v 9)) (En A B q w x4 x5 (jN u.1) (jN u.2.1) (jN u.2.2) (jN v)) (.bl (!decide (lk ts u.1 u.2.1=aa v))):=.cmp (y:=.int (v:Int)) J () λst=>by
  cases lk ts u.1 u.2.1 with
  |none=>rfl
  |some c=>
   show aa (!decide ((c:Int)=(v:Int)))=aa (!decide (aa c=aa v));have e:aj ((c:Int)=(v:Int))=aj (aa c=aa v):=decide_eq_decide.mpr ⟨λh=>au aa ∅,λh=>by injection h with h;omega⟩
   rw[e]
 obtain⟨b,o,n⟩:=I x .refl;unfold s1;dsimp only;rw[N];have f:=(l.trans n).get z;have m:=(l.trans n).get P;by_cases c:lk ts u.1 u.2.1=aa v
 .rw[aP c]at o
  rw[ao c];exact⟨_,b,(Ze (Zs C)).trans ((Ze ((Wm o).trans Zh)).trans Zh),g.trans (l.trans n),f,m⟩
 .rw[aH c]at o
  rw[aq c];have S:ex F (.dput 2 (.v 6) (.v 7) (.v 9)) (En A B q w x4 x5 (jN u.1) (jN u.2.1) (jN u.2.2) (jN v)) b=aa (.nx (En A B q w x4 x5 (jN u.1) (jN u.2.1) (jN u.2.2) (jN v)),b.set q (ac,(pt ts u.1 u.2.1 v).map trD)):=by
   show(match b[q]? with
    |some (ac,p)=>if p.length < Zp/\okH p=ac then aa (Fl.nx _,b.set q (ac,Vv p (u.1:Int) (u.2.1:Int) (.int (v:Int)))) else ab
    |_=>ab)=_
   rw[f];show(if (ts.map trD).length < Zp/\okH (ts.map trD)=ac then _ else _)=_
   rw[ao ⟨by rw[aD];unfold Zp;omega,Jv⟩,Zec nd]
  have H:q < b.length:=Zk f;obtain⟨K,R,G,Q⟩:=Ap.app (F:=F) (s:=b.set q (ac,(pt ts u.1 u.2.1 v).map trD)) (j:=w) (i:=3) (e:=.g (.a 6 (.s 7))) (U:=En A B q w x4 x5 (jN u.1) (jN u.2.1) (jN u.2.2) (jN v)) (d:=prN (u.1,u.2.1)) rfl () _ (ah.map prN) .refl (by rw[bJ E];exact m) (by rw[aD];show _+1<=90000;omega)
  refine⟨_,K,(Ze (Zs C)).trans ((Ze ((XJ o).trans ((Ze S).trans ((Ze R).trans Zh)))).trans Zh),G.grw L (Y6 (g.trans (l.trans n)) M),?_,by rw[Q,bN];rfl⟩
  rw[G.old q (by rw[aY];exact H) E,bR H]
theorem Zae(z:(sz+1) * (sz'+1)<=100)(E:M<=19000)(k:q≠w)(j:s.length<=q)(i:s.length<=w):∀ (us ts:Li Tr) (ah:Li (Nat×Nat)) (st:Za) (x6 x7 x8 x9:Ot D),(∀ u∈us,u.1<=sz/\u.2.1<=sz'/\u.2.2 < 2 ^ m)->Ou m sz sz' M ts ah->st[q]?=aa (ac,ts.map trD)->st[w]?=aa (ac,ah.map prN)->Grw s st->
  ∃ e d c a st',Zj (ZdC 6 7 8 (ex F bI)) (us.map trD) (En A B q w x4 x5 x6 x7 x8 x9) st=aa (.nx (En A B q w x4 x5 e d c a),st')/\Grw s st'/\st'[q]?=aa (ac,(us.foldl s1 (ts,ah)).1.map trD)/\st'[w]?=aa (ac,(us.foldl s1 (ts,ah)).2.map prN)
 |[],ts,ah,st,x6,x7,x8,x9,_,_,h,f,g=>⟨x6,x7,x8,x9,st,rfl,g,h,f⟩
 |u :: us,ts,ah,st,x6,x7,x8,x9,l,b,h,f,g=>by
  have N:=JO b.nd b.bd;have y:=b.mu;unfold mu at y;obtain⟨a,x,H,g1,L,J⟩:=Zez (F:=F) (A:=A) (B:=B) (x4:=x4) (x5:=x5) (u:=u) (x9:=x9) b.nd ∅ ∅ k h f j i g
  obtain⟨r,p,o,n,t,G,g2,K,I⟩:=Zae z E k j i us _ _ x (jN u.1) (jN u.2.1) (jN u.2.2) a (λv C=>l v (Lm _ C)) (b.step (l u Ls)) L J g1
  refine⟨r,p,o,n,t,?_,g2,K,I⟩;show(match ex F bI (En A B q w x4 x5 (jN u.1) (jN u.2.1) (jN u.2.2) x9) st with
   |some (.nx U',st')=>Zj (ZdC 6 7 8 (ex F bI)) (us.map trD) U' st'
   |some (.ct U',st')=>Zj (ZdC 6 7 8 (ex F bI)) (us.map trD) U' st'
   |some (.bk U',st')=>aa (.nx U',st')
   |some (.rt v,st')=>aa (.rt v,st')
   |none=>ab)=_
  rw[H];exact G
theorem Ou.all:∀ {us ts:Li Tr}{ah:Li (Nat×Nat)},(∀ u∈us,u.1<=sz/\u.2.1<=sz'/\u.2.2 < 2 ^ m)->Ou m sz sz' M ts ah->Ou m sz sz' M (us.foldl s1 (ts,ah)).1 (us.foldl s1 (ts,ah)).2
 |[],_,_,_,h=>h
 |u :: us,_,_,a,h=>Ou.all (us:=us) (λv b=>a v (Lm _ b)) (h.step (a u Ls))
def wl(hz:(sz+1) * (sz'+1)<=100)(hr:Rs m rs)(h0:Rs m rs')(h1:rs.length=sz)(h2:rs'.length=sz')(Z:m<=60):∀ (M:Nat) (ts:Li Tr) (ah:Li (Nat×Nat)),M<=19000->Ou m sz sz' M ts ah->∃ r:Ot (Li Tr),(∀ E,r=aa E->(E.map ky).Nodup/\∀ t∈E,t.1<=sz/\t.2.1<=sz'/\t.2.2 < 2 ^ m)/\∀ (o:Li Rw),Sa m rs' o->∀ (n l:Nat),M < l->∀ (s st:Za) (q w:Nat) (x4 x5 x6 x7 x8 x9:Ot D),q≠w->s.length<=q->s.length<=w->st[q]?=aa (ac,ts.map trD)->st[w]?=aa (ac,ah.map prN)->Grw s st->
  ∃ st',Grw s st'/\match r with
   |none=>YF (ev (rT (n+7)) cW) (ex (rT (n+7)) bW) l (En (pgD tk m rs) (pgD tk m o) q w x4 x5 x6 x7 x8 x9) st=aa (.rt .non,st')
   |some E=>(∃ y4 y5 W V T S,YF (ev (rT (n+7)) cW) (ex (rT (n+7)) bW) l (En (pgD tk m rs) (pgD tk m o) q w x4 x5 x6 x7 x8 x9) st=aa (.nx (En (pgD tk m rs) (pgD tk m o) q w y4 y5 W V T S),st'))/\st'[q]?=aa (ac,E.map trD):=λM=>by
 induction M using Nat.strongRecOn with
 |_ M ih=>
  intro ts ah hM h;rcases List.eq_nil_or_concat ah with rfl|⟨G,p,O⟩
  .refine⟨aa ts,λE e=>by cases e;exact⟨h.nd,h.bd⟩,λo J n l hf s st q w x4 x5 x6 x7 x8 x9 L Q K R I g=>?_⟩
   obtain⟨f,rfl⟩:∃ f,l=f+1:=⟨l - 1,∅⟩
   obtain⟨t1,e1,k1⟩:=Y.cmp (F:=rT (n+7)) (s:=st) (op:=.Gt) (a:=.len (.v 3)) (b:=.i 0) (U:=En (pgD tk m rs) (pgD tk m o) q w x4 x5 x6 x7 x8 x9) (x:=.int 0) (y:=.int 0) (k:=ae) (.lenl I ()) () (λ_=>rfl) st .refl
   refine⟨t1,g.trans k1,⟨x4,x5,x6,x7,x8,x9,?_⟩,k1.get R⟩;show YG (ev _ cW) _ _ _ st=_;unfold YG;rw[show ev (rT (n+7)) cW _ st=_ from e1]
  .rw[List.concat_eq_append]at O
   subst O;obtain⟨M,rfl⟩:∃ N,M=N+1:=⟨M - 1,by
    have Z:=h.mu;unfold mu at Z;rw[aI]at Z;show M=M - 1+1;have:[p].length=1:=rfl;omega⟩
   replace ih:=ih M (bL M);obtain⟨c,hc⟩:=Jq (h.ai p (cJ _ Ls));have hcb:=(h.bd _ (Jr hc)).2.2;have hd:∀ o,Sa m rs' o->∀ n s,C (rT (n+7)) s 122 [pgD tk m rs,pgD tk m o,.int (p.1:Int),.int (p.2:Int),.int (c:Int)] (foD (fvO (rm rs p.1) (rm rs' p.2) p.1 p.2 c)):=λo J n s=>by
    have:=(Qc (n:=n) (s:=s) (tk:=tk) (k:=p.1) (j:=p.2) hr J.r Z hcb).1
    rwa [J.rm]at this
   have I:=(Qc (n:=0) (s:=[]) (tk:=tk) (k:=p.1) (j:=p.2) hr h0 Z hcb).2;generalize fvO (rm rs p.1) (rm rs' p.2) p.1 p.2 c=v at hd I;have X:=h.mu
   -- a turn up to the triples
   have turn:∀ (o:Li Rw),Sa m rs' o->∀ (n:Nat) (s st:Za) (q w:Nat) (x4 x5 x6 x7 x8 x9:Ot D),q≠w->s.length<=q->s.length<=w->st[q]?=aa (ac,ts.map trD)->st[w]?=aa (ac,(G++[p]).map prN)->Grw s st->∃ z H,ev (rT (n+7)) cW (En (pgD tk m rs) (pgD tk m o) q w x4 x5 x6 x7 x8 x9) st=aa (.bl ac,z)/\Grw s H/\H[q]?=aa (ac,ts.map trD)/\H[w]?=aa (ac,G.map prN)/\∀ P,ex (rT (n+7)) (.y 4 (.pop (.v 3)) (.y 5 (.f 122 (.a 0 (.a 1 (.aC (.x 4 0) (.aC (.x 4 1) (.u (.ix (.v 2) (.v 4)))))))) P)) (En (pgD tk m rs) (pgD tk m o) q w x4 x5 x6 x7 x8 x9) z=ex (rT (n+7)) P (En (pgD tk m rs) (pgD tk m o) q w (aa (prN p)) (aa (foD v)) x6 x7 x8 x9) H:=λo J n s st q w x4 x5 x6 x7 x8 x9 L Q K R I g=>by
    have hl:((G++[p]).map prN).length=G.length+1:=by rw[aD,aI];rfl
    obtain⟨z,O,k0⟩:=Y.cmp (F:=rT (n+7)) (s:=st) (op:=.Gt) (a:=.len (.v 3)) (b:=.i 0) (U:=En (pgD tk m rs) (pgD tk m o) q w x4 x5 x6 x7 x8 x9) (x:=.int (((G++[p]).map prN).length:Int)) (y:=.int 0) (k:=ac) (.lenl I ()) () (λ_=>by
     show aa (aj ((0:Int) < (((G++[p]).map prN).length:Int)))=_;rw[hl,aP ∅]) st .refl
    have b0:=k0.get I;have hw:w < z.length:=Zk b0;have e1:ev (rT (n+7)) (.pop (.v 3)) (En (pgD tk m rs) (pgD tk m o) q w x4 x5 x6 x7 x8 x9) z=aa (prN p,z.set w (ac,G.map prN)):=by
     show ZeS (.lst w) z=_;show(match z[w]? with
      |some (ac,xs)=>(xs[xs.length - 1]?).map λd=>(d,z.set w (ac,xs.dropLast))
      |_=>ab)=_
     rw[b0];show(((G++[p]).map prN)[((G++[p]).map prN).length - 1]?).map (λd=>(d,z.set w (ac,((G++[p]).map prN).dropLast)))=_
     rw[hl,bN,List.map_singleton,List.dropLast_concat,cB (by rw[aD];omega),aD,Nat.add_sub_cancel,dO];rfl
    have g2:Grw s (z.set w (ac,G.map prN)):=Y6 (g.trans k0) K;have a2:(z.set w (ac,G.map prN))[q]?=aa (ac,ts.map trD):=by rw[bJ (Ne.symm L)];exact k0.get R
    have b2:(z.set w (ac,G.map prN))[w]?=aa (ac,G.map prN):=bR hw;generalize z.set w (ac,G.map prN)=t2 at *
    have yi:Y (rT (n+7)) t2 (.ix (.v 2) (.v 4)) (En (pgD tk m rs) (pgD tk m o) q w (aa (prN p)) x5 x6 x7 x8 x9) (.int (c:Int)):=Dp.g2 (a:=.v 2) (b:=.v 4) (x:=.dic q) (y:=prN p) () () (gs λst k=>by
     show ixR (.dic q) (prN p) st=_;unfold ixR;show(match ((dAt [.int (p.1:Int),.int (p.2:Int)] q st).join) with|some d=>aa (d,st)|none=>ab)=_
     rw[Jg (k.get a2),hc];rfl)
    obtain⟨H,e3,k3⟩:=Y.call (F:=rT (n+7)) (s:=t2) (f:=122) (a:=.a 0 (.a 1 (.aC (.x 4 0) (.aC (.x 4 1) (.u (.ix (.v 2) (.v 4))))))) (U:=En (pgD tk m rs) (pgD tk m o) q w (aa (prN p)) x5 x6 x7 x8 x9) (xs:=[pgD tk m rs,pgD tk m o,.int (p.1:Int),.int (p.2:Int),.int (c:Int)]) (ds:=[]) (.cons () (.cons () (.cons () (.cons () (.cons yi .nil))))) (hd o J n t2) t2 .refl
    exact⟨z,H,O,g2.trans k3,k3.get a2,k3.get b2,λP=>(Ze (Zs e1)).trans (Ze (Zs e3))⟩
   cases v with
   |none=>
    refine⟨ab,λE e=>(nomatch e),λo J n l hf s st q w x4 x5 x6 x7 x8 x9 L Q K R I g=>?_⟩
    obtain⟨f,rfl⟩:∃ f,l=f+1:=⟨l - 1,∅⟩
    obtain⟨z,H,O,g3,a3,b3,e3⟩:=turn o J n s st q w x4 x5 x6 x7 x8 x9 L Q K R I g;refine⟨H,g3,?_⟩;show YG (ev _ cW) (YM (ex _ bW) _) _ _ st=_;unfold YG;rw[O];show YM (ex _ bW) _ _ z=_;unfold YM;rw[show ex (rT (n+7)) bW _ z=aa (.rt .non,H) from(e3 _).trans (Zt ((XJ rfl).trans (Zt (Yn rfl))))]
   |some us=>
    have hI:Ou m sz sz' M ts G:=⟨h.nd,h.bd,λx hx=>h.ai x (List.mem_append_left _ hx),by
     unfold mu at X ⊢
     rw[aI]at X;have:([p]:Li (Nat×Nat)).length=1:=rfl;omega⟩
    have hu:=(I us rfl).b;rw[h1,h2]at hu;obtain⟨r,hr1,hr2⟩:=ih _ _ ∅ (Ou.all hu hI)
    refine⟨r,hr1,λo J n l hf s st q w x4 x5 x6 x7 x8 x9 L Q K R I g=>?_⟩
    obtain⟨f,rfl⟩:∃ f,l=f+1:=⟨l - 1,∅⟩
    obtain⟨z,H,O,g3,a3,b3,e3⟩:=turn o J n s st q w x4 x5 x6 x7 x8 x9 L Q K R I g;obtain⟨W,V,T,S,t4,e4,g4,a4,b4⟩:=Zae (F:=rT (n+7)) (A:=pgD tk m rs) (B:=pgD tk m o) (x4:=aa (prN p)) (x5:=aa (.tup (us.map trD))) hz (show M<=19000 by omega) L Q K us ts G H x6 x7 x8 x9 hu hI a3 b3 g3
    obtain⟨t5,g5,h5⟩:=hr2 o J n f ∅ s t4 q w (aa (prN p)) (aa (.tup (us.map trD))) W V T S L Q K a4 b4 g4
    have e5:ex (rT (n+7)) (.for4 6 7 8 (.v 5) bI) (En (pgD tk m rs) (pgD tk m o) q w (aa (prN p)) (aa (.tup (us.map trD))) x6 x7 x8 x9) H=aa (.nx (En (pgD tk m rs) (pgD tk m o) q w (aa (prN p)) (aa (.tup (us.map trD))) W V T S),t4):=e4;have eb:ex (rT (n+7)) bW (En (pgD tk m rs) (pgD tk m o) q w x4 x5 x6 x7 x8 x9) z=aa (.nx (En (pgD tk m rs) (pgD tk m o) q w (aa (prN p)) (aa (.tup (us.map trD))) W V T S),t4):=(e3 _).trans ((Ze ((Wm rfl).trans Zh)).trans ((Ze e5).trans Zh))
    have ew:YF (ev (rT (n+7)) cW) (ex (rT (n+7)) bW) (f+1) (En (pgD tk m rs) (pgD tk m o) q w x4 x5 x6 x7 x8 x9) st=YF (ev (rT (n+7)) cW) (ex (rT (n+7)) bW) f (En (pgD tk m rs) (pgD tk m o) q w (aa (prN p)) (aa (.tup (us.map trD))) W V T S) t4:=by
     show YG (ev _ cW) (YM (ex _ bW) _) _ _ st=_;unfold YG;rw[O];show YM (ex _ bW) _ _ z=_;unfold YM;rw[eb]
    refine⟨t5,g5,?_⟩;cases r with
    |none=>rw[ew];exact h5
    |some E=>rw[ew];exact h5
end
def Zde{f:Nat->Nat->Bool}{z d:α}{a:Li α}(h:d∈pick f z a):d∈a:=by
 unfold pick at h;split at h
 .exact h
 .obtain⟨i,b,rfl⟩:=aL.mp h
  have:=UZ ∅ i b
  rw[bD,Lg this];exact cT this
theorem W9{α:Type}{en:α->D}{P:α->Prop}:∀ {ys:Li D},(∀ d∈ys,∃ r,d=en r/\P r)->∃ rs:Li α,ys=rs.map en/\∀ r∈rs,P r
 |[],_=>⟨[],rfl,λ_ h=>nomatch h⟩
 |y :: ys,h=>by
  obtain⟨r,rfl,b⟩:=h y Ls;obtain⟨rs,rfl,a⟩:=W9 λd c=>h d (Lm _ c)
  exact⟨r :: rs,rfl,λx hx=>by
   rcases aF.mp hx with rfl|hx
   .exact b
   .exact a x hx⟩
def ppD:Ot (Li Tr)->D
 |none=>.non
 |some a=>.tup (a.map trD)
section
variable{q:Nat}
def ZdA(j:ts.length < 64):∃ ks:Li (Nat×Nat),ks.length<=64/\(∀ k∈ks,k∈ts.map ky)/\∀ F s q (U:Env),U[2]?=aa (aa (.dic q))->s[q]?=aa (ac,ts.map trD)->Wk F s (.ksrt (.v 2)) U VX (ks.map prN):=by
 have f:(ZY (ts.map trD)).map prD=ts.map λt=>prN (ky t):=by
  unfold ZY;rw[aZ,aZ];rfl
 obtain⟨ks,e,l⟩:=W9 (en:=prN) (P:=λk=>k∈ts.map ky) (ys:=pick (Uy (ZY (ts.map trD))) .non ((ZY (ts.map trD)).map prD)) λd b=>by
  have:=Zde b;rw[f]at this;obtain⟨t,h,rfl⟩:=aL.mp this;exact⟨ky t,rfl,aL.mpr ⟨t,h,rfl⟩⟩
 refine⟨ks,?_,l,λF s q U m i st g=>?_⟩
 .have:=au List.length e
  rw[QJ,f,aD,aD]at this;omega
 .refine⟨.lst st.length,st++[(ac,ks.map prN)],λs=>s[st.length]?=aa (ac,ks.map prN),?_,.push,?_,λst' g'=>g'.get ZE⟩
  .show Zr (Yh 2) Zaj U st=_
   unfold Zr Yh;rw[m];show(match st[q]? with
    |some (_,a)=>if a.length < 64/\okH a=ac then aa (D.lst st.length,st++[(ac,pick (Uy (ZY a)) D.non ((ZY a).map prD))]) else ab
    |none=>ab)=_
   rw[g.get i];show(if (ts.map trD).length < 64/\okH (ts.map trD)=ac then _ else ab)=_
   rw[ao ⟨by rw[aD];exact j,Jv⟩,e]
  .show(match (st++[(ac,ks.map prN)])[st.length]? with
    |some c=>if c.2.all ZcD=ac then aa (c.2,λs=>s[st.length]?=aa c) else ab
    |none=>ab)=_
   rw[ZE];exact ao (cD.mpr λd b=>by obtain⟨k,_,rfl⟩:=aL.mp b;rfl)
def JN(j:ts.length < 64):∃ i:Li Tr,∀ F s A B q w x4 x5 x6 x7 x8 x9,s[q]?=aa (ac,ts.map trD)->Y F s (.tOf (.compT [2] (.ksrt (.v 2)) (.g (.a 0 (.a 1 (.u (.ix (.v 2) (.g (.a 0 (.s 1)))))))) (.c (.bl ac)))) (En A B q w x4 x5 x6 x7 x8 x9) (.tup (i.map trD)):=by
 obtain⟨ks,n,l,m⟩:=ZdA j;refine⟨ks.map λk=>(k.1,k.2,(lk ts k.1 k.2).getD 0),λF s A B q w x4 x5 x6 x7 x8 x9 f=>?_⟩
 rw[aZ];refine Lv.tof (Ug (U:=En A B q w x4 x5 x6 x7 x8 x9) (b:=two) (wk:=VX) (fr:=[2]) (en:=prN) (m F s q _ rfl f) ∅ λk e=>?_)
 obtain⟨b,h⟩:=Jq (l k e);show Y F s _ [jN k.1,jN k.2,aa (.dic q)] (trD (k.1,k.2,(lk ts k.1 k.2).getD 0));rw[h];exact .cons () (.cons () (.cons (Dp.g2 (a:=.v 2) (b:=.g (.a 0 (.s 1))) (x:=.dic q) (y:=prN k) () () (gs λst g=>by
  show(match ((dAt [.int (k.1:Int),.int (k.2:Int)] q st).join) with|some d=>aa (d,st)|none=>ab)=_
  rw[Jg (g.get f),h];rfl)) .nil))
def ZjD{e:CE}{v:D}{a:Za}(h:ev F e U (st++[(ac,[])])=aa (v,a))(c:a[st.length]?=aa (ac,[])):ev F (.dd (.i 0) (.i 0) e) U st=aa (.dic st.length,a.set st.length (ac,[.tup [.int 0,.int 0,v]])):=by
 have b:∀ s,ev F (.i 0) U s=aa (.int 0,s):=λ_=>rfl
 show ddE (ev F (.i 0)) (ev F (.i 0)) (ev F e) U st=_;unfold ddE;simp only[b,h,c];rw[ao ⟨by unfold Zp;decide,rfl⟩]
 rfl
def ZiR{a v:Nat}(h:a * v<=1000)(c:1<=a)(b:1<=v):2 * (a - 1+a * (v - 1))+1<=2100:=by
 obtain⟨v,rfl⟩:∃ w,v=w+1:=⟨v - 1,∅⟩
 rw[Nat.mul_succ]at h;rw[Nat.add_sub_cancel];omega
def ZdU(Z:Rs m rs)(h0:Rs m rs')(h1:rs.length=sz)(h2:rs'.length=sz)(N:m<=60)(hz:(sz+1) * (sz+1) < 64)(hB:2 ^ m * ((sz+1) * (sz+1))<=1000):∃ S,∀ o,Sa m rs' o->∀ n s,C (rT (n+8)) s 201 [pgD tk m rs,pgD tk m o] (ppD S):=by
 have T:1<=2 ^ m:=Nat.one_le_two_pow;have hO:Ou m sz sz 2100 [(0,0,2 ^ m - 1)] [(0,0)]:=by
  refine⟨bM.mpr ⟨λh=>(nomatch h),dG⟩,λt X=>?_,λx V=>V,?_⟩
  .rw[aM.mp X];exact⟨aS _,aS _,by show 2 ^ m - 1 < 2 ^ m;omega⟩
  .exact ZiR hB T (dQ (Nat.le_add_left 1 sz) (Nat.le_add_left 1 sz))
 obtain⟨r,A,j⟩:=wl (tk:=tk) (show(sz+1) * (sz+1)<=100 by omega) Z h0 h1 h2 N 2100 _ _ #[] hO
 -- up to the loop
 have pre:∀ (o:Li Rw) (n:Nat) (st:Za),∃ t q w,st.length<=q/\st.length<=w/\q≠w/\Grw st t/\t[q]?=aa (ac,[(0,0,2 ^ m - 1)].map trD)/\t[w]?=aa (ac,[(0,0)].map prN)/\∀ P,ex (rT (n+7)) (.y 2 (.dd (.i 0) (.i 0) (.f 56 (.u (.x 0 1)))) (.y 3 (.lstE (.u (.g (.aC (.i 0) (.u (.i 0)))))) P)) [aa (pgD tk m rs),aa (pgD tk m o),ab,ab,ab,ab,ab,ab,ab,ab] st=ex (rT (n+7)) P (En (pgD tk m rs) (pgD tk m o) q w ab ab ab ab ab ab) t:=λo n st=>by
  obtain⟨c,E,k⟩:=Y.call1 (F:=rT (n+7)) (s:=st++[(ac,[])]) (f:=56) (a:=.x 0 1) (x:=.int (m:Int)) (U:=[aa (pgD tk m rs),aa (pgD tk m o),ab,ab,ab,ab,ab,ab,ab,ab]) () (Zgi (n:=n+5) N) _ .refl;have Q:c[st.length]?=aa (ac,[]):=k.get ZE;have ed:ev (rT (n+7)) (.dd (.i 0) (.i 0) (.f 56 (.u (.x 0 1)))) [aa (pgD tk m rs),aa (pgD tk m o),ab,ab,ab,ab,ab,ab,ab,ab] st=aa (.dic st.length,c.set st.length (ac,[(0,0,2 ^ m - 1)].map trD)):=ZjD E Q
  have hl:st.length < c.length:=Zk Q;have ll:(c.set st.length (ac,[(0,0,2 ^ m - 1)].map trD)).length=c.length:=aY;have gg:Grw st (c.set st.length (ac,[(0,0,2 ^ m - 1)].map trD)):=Y6 (Grw.push.trans k) (aE _);have c4:(c.set st.length (ac,[(0,0,2 ^ m - 1)].map trD))[st.length]?=aa (ac,[(0,0,2 ^ m - 1)].map trD):=bR hl
  generalize c.set st.length (ac,[(0,0,2 ^ m - 1)].map trD)=t4 at *
  refine⟨t4++[(ac,[(0,0)].map prN)],st.length,t4.length,aE _,∅,∅,gg.trans .push,Grw.push.get c4,ZE,λP=>?_⟩
  exact(Ze (Zs ed)).trans (Ze (Zs rfl))
 cases r with
 |none=>
  refine⟨ab,λo B n s=>.of (v:=Ye) rfl rfl λst g=>?_⟩
  obtain⟨t,q,w,z,p,l,D,a,b,e⟩:=pre o n st;obtain⟨d,g2,G⟩:=j o B n 20000 #[] st t q w ab ab ab ab ab ab l z p a b D
  exact⟨d,(e _).trans (Zt G),g2⟩
 |some ts=>
  have O:=A ts rfl;have tl:=JO O.1 O.2;obtain⟨R,W⟩:=JN (ts:=ts) ∅
  refine⟨aa R,λo B n s=>.of (v:=Ye) rfl rfl λst g=>?_⟩
  obtain⟨t,q,w,z,p,l,D,a,b,e⟩:=pre o n st;obtain⟨d,g2,⟨M,L,K,J,I,H,G⟩,c2⟩:=j o B n 20000 #[] st t q w ab ab ab ab ab ab l z p a b D
  obtain⟨c,E,k⟩:=W (rT (n+7)) d (pgD tk m rs) (pgD tk m o) q w M L K J I H c2 d .refl;have e4:ex (rT (n+7)) (.whl cW bW) (En (pgD tk m rs) (pgD tk m o) q w ab ab ab ab ab ab) t=aa (.nx (En (pgD tk m rs) (pgD tk m o) q w M L K J I H),d):=G;exact⟨c,(e _).trans ((Ze e4).trans (Zt (Yn E))),g2.trans k⟩
end
def inT(ins:Li Int):D:=.tup (inZ ins)
def tel(m:Nat)(rs a:Li Rw)(L:Nat)(ins:Li Int):Bool:=!Zn (oc rs L 0 (v0 m ins)) (oc a L 0 (v0 m ins))
noncomputable def fT(t:Li Int->Bool):Nat->Li (Li Int)->Ot Nat
 |_,[]=>ab
 |k,x :: l=>if t x=ac then aa k else fT t (k+1) l
def trL(m:Nat)(rs:Li Rw)(L:Nat)(ins:Li Int):Li D:=stD 0 (v0 m ins) :: tl rs L 0 (v0 m ins)
def ptF(A B:Li D)(i:Nat):Ot D:=if (!Zn (A.getD i .non) (B.getD i .non))=ac then aa (.tup [.int (i:Int),A.getD i .non,B.getD i .non]) else ab
def ptV(A B:Li D):D:=(skR (ptF A B) (ag (min A.length B.length))).getD .non
section
variable{o:Li Rw}{t:Li Int->Bool}{l l':Li (Li Int)}
theorem UX:∀ {vs:Li Int},ZX w (vs.map D.int)=ac
 |[]=>by cases w<;>rfl
 |v :: vs=>by
  show(okD w (.int v)&&ZX w (vs.map D.int))=ac;rw[UX];cases w<;>rfl
def ZfV:okD 8 (stD k vs)=ac:=by
 show(ac&&(ZX 6 (vs.map D.int)&&ac))=ac;rw[UX];rfl
theorem Ui:∀ {n k:Nat}{vs:Li Int},∃ a,oc rs n k vs=.tup a/\okD 8 (.tup a)=ac
 |0,k,vs=>by unfold oc;split<;>exact⟨_,rfl,rfl⟩
 |n+1,k,vs=>by
  unfold oc;cases q:mv rs k vs with
  |inr p=>exact Ui
  |inl o=>
   unfold mv at q;cases z:rs[k]? with
   |none=>rw[z]at q;cases q;exact⟨_,rfl,rfl⟩
   |some r=>
    rw[z]at q;cases r with
    |tell y=>cases q;exact⟨_,rfl,rfl⟩
    |_=>cases q
theorem ZfW:∀ {n k:Nat}{vs:Li Int},∀ d∈tl rs n k vs,∃ b,d=.tup b/\okD 8 (.tup b)=ac
 |0,k,vs=>λd hd=>by rw[aM.mp hd];exact Ui (n:=0) (k:=k) (vs:=vs)
 |n+1,k,vs=>λd hd=>by
  unfold tl at hd;have a:=Ui (rs:=rs) (n:=n+1) (k:=k) (vs:=vs);unfold oc at a;cases q:mv rs k vs with
  |inl o=>rw[q]at hd a;rw[aM.mp hd];exact a
  |inr p=>
   rw[q]at hd;rcases aF.mp hd with rfl|hd
   .exact⟨_,rfl,ZfV⟩
   .exact ZfW d hd
def Zbw(b:Sa m rs' o)(f:Rs m rs')(d:m<=1000)(c:ins.length<=m)(a:∀ v∈ins,Sm v)(e:L<=800):C (rT (n+6)) s 12 [pgD tk m o,.tup (inZ ins),.int (L:Int)] (.tup (trL m rs' L ins)):=by
 have h:=ZdW (n:=n) (s:=s) (tk:=tk) (L:=L) b.r d c a e;rw[b.tl f (Zgd c a)]at h;exact h
def Zbt(c:Sa m rs' o)(i:Rs m rs')(d:m<=1000)(f:ins.length<=m)(b:∀ v∈ins,Sm v)(g:L<=800):C (rT (n+7)) s 13 [pgD tk m o,inT ins,.int (L:Int)] (oc rs' L 0 (v0 m ins)):=by
 have h:=Y.lastT (F:=rT (n+6)) (s:=s) (a:=.call 12 (.a 0 (.a 1 (.s 2))) []) (U:=[aa (pgD tk m o),aa (inT ins),jN L]) (xs:=trL m rs' L ins) (.call (xs:=[pgD tk m o,.tup (inZ ins),.int (L:Int)]) () (Zbw c i d f b g)) (dJ _ _) (by have:=JM (rs:=rs') (M:=L) (k:=0) (vs:=v0 m ins);unfold trL;rw[aQ];omega)
 have e:(trL m rs' L ins).getLastD .non=oc rs' L 0 (v0 m ins):=by
  rw[<-ZaG];unfold trL;cases q:tl rs' L 0 (v0 m ins) with
  |nil=>exact ar q Zgc
  |cons x xs=>rfl
 rw[e]at h;exact .of (v:=Wx) rfl rfl (.ret h)
def Sa.id(h:Rs m rs):Sa m rs rs:=⟨h,rfl,λ_=>rfl⟩
def JX(b:Rs m rs)(p:Sa m rs' o)(q:Rs m rs')(c:m<=1000)(d:ins.length<=m)(a:∀ v∈ins,Sm v)(e:L<=800):C (rT (n+8)) s 99 [pgD tk m rs,pgD tk m o,inT ins,.int (L:Int)] (.bl (tel m rs rs' L ins)):=by
 obtain⟨xs,i,l⟩:=Ui (rs:=rs) (n:=L) (k:=0) (vs:=v0 m ins);obtain⟨ys,h,j⟩:=Ui (rs:=rs') (n:=L) (k:=0) (vs:=v0 m ins);have g:=Zbt (n:=n) (s:=s) (tk:=tk) (.id b) b c d a e;have f:=Zbt (n:=n) (s:=s) (tk:=tk) p q c d a e;unfold tel;rw[i]at g;rw[h]at f;rw[i,h];exact .of (v:=UE) rfl rfl (.ret (.ned (.call (xs:=[pgD tk m rs,inT ins,.int (L:Int)]) () g) (.call (xs:=[pgD tk m o,inT ins,.int (L:Int)]) () f) l j))
def ZhU{p q:Nat×Li Int}(h:stD p.1 p.2=stD q.1 q.2):p=q:=by
 have h:D.tup [.int (p.1:Int),.tup (p.2.map D.int)]=.tup [.int (q.1:Int),.tup (q.2.map D.int)]:=h
 injection h with h;injection h with b h;injection h with a _;injection b with b;injection a with a
 exact Prod.ext (Int.ofNat.inj b) (Qw a)
theorem ZaH:∀ {L k:Nat}{vs:Li Int},(∀ (i:Nat) x y,(tl rs L k vs)[i]?=aa x->(tl rs' L k vs)[i]?=aa y->x=y)->oc rs L k vs=oc rs' L k vs
 |0,k,vs,h=>h 0 _ _ rfl rfl
 |L+1,k,vs,h=>by
  unfold tl at h;unfold oc;cases q:mv rs k vs with
  |inl o=>cases c:mv rs' k vs with
   |inl d=>rw[q,c]at h;exact h 0 _ _ rfl rfl
   |inr p=>
    rw[q,c]at h;have e:=h 0 _ _ rfl rfl;have:=(Zg7 q).1;rw[e]at this;cases this
  |inr p=>cases c:mv rs' k vs with
   |inl d=>
    rw[q,c]at h;have e:=h 0 _ _ rfl rfl;have:=(Zg7 c).1;rw[<-e]at this;cases this
   |inr f=>
    rw[q,c]at h;cases ZhU (h 0 _ _ rfl rfl)
    exact ZaH λi x y a b=>h (i+1) x y a b
def ZfX{A:Li D}{x:D}(e:trL m rs L ins=A)(h:A[i]?=aa x):∃ a,x=.tup a/\okD 8 (.tup a)=ac:=by
 rw[<-e]at h;rcases aF.mp (aT h) with rfl|h
 .exact⟨_,rfl,ZfV⟩
 .exact ZfW _ h
def Zgm(e:Rs m rs)(t:Sa m rs' o)(z:Rs m rs')(g:m<=1000)(b:ins.length<=m)(d:∀ v∈ins,Sm v)(h:L<=800):C (rT (n+7)) s 98 [pgD tk m rs,pgD tk m o,inT ins,.int (L:Int)] (ptV (trL m rs L ins) (trL m rs' L ins)):=by
 have tA:=Zbw (n:=n) (s:=s) (tk:=tk) (.id e) e g b d h;have tB:=Zbw (n:=n) (s:=s) (tk:=tk) t z g b d h;have G:(trL m rs L ins).length<=802:=by unfold trL;rw[aQ];have:=JM (rs:=rs) (M:=L) (k:=0) (vs:=v0 m ins);omega
 generalize w:trL m rs L ins=A at *
 generalize u:trL m rs' L ins=B at *
 refine .of (v:=Wy) rfl rfl (.set (.call (xs:=[pgD tk m rs,.tup (inZ ins),.int (L:Int)]) () tA) (.set (.call (xs:=[pgD tk m o,.tup (inZ ins),.int (L:Int)]) () tB) (.seekR (i:=6) (E:=λy=>[aa (pgD tk m rs),aa (pgD tk m o),aa (inT ins),jN L,aa (.tup A),aa (.tup B),y]) (f:=ptF A B) (λ_ _=>rfl) ?_ ∅ (λi b=>?_) λy=>.ret ())))
 .refine Dp.g2 (x:=.int (A.length:Int)) (y:=.int (B.length:Int)) (.lnT ()) (.lnT ()) (gp λst=>?_)
  show aa (D.int (if (B.length:Int) < (A.length:Int) then (B.length:Int) else (A.length:Int)),st)=_
  rw[show(if (B.length:Int) < (A.length:Int) then (B.length:Int) else (A.length:Int))=((min A.length B.length:Nat):Int) by split<;>omega]
 .have a:=Lg (l:=A) (i:=i) ∅
  have iB:=Lg (l:=B) (i:=i) ∅
  obtain⟨xs,ex,q⟩:=ZfX w a;obtain⟨ys,p,ky⟩:=ZfX u iB;have F:A.getD i .non=A[i]:=by rw[bD,a];rfl
  have gB:B.getD i .non=B[i]:=by rw[bD,iB];rfl
  unfold ptF;rw[F,gB];rw[ex]at a;rw[p]at iB;rw[ex,p];have c:Y (rT (n+6)) s (.ix (.v 4) (.v 6)) [aa (pgD tk m rs),aa (pgD tk m o),aa (inT ins),jN L,aa (.tup A),aa (.tup B),jN i] (.tup xs):=.ixt (j:=i) () () a;have yB:Y (rT (n+6)) s (.ix (.v 5) (.v 6)) [aa (pgD tk m rs),aa (pgD tk m o),aa (inT ins),jN L,aa (.tup A),aa (.tup B),jN i] (.tup ys):=.ixt (j:=i) () () iB
  exact .ite (.ned c yB q ky) (λ_=>.cons () (.cons c (.cons yB .nil))) λ_=>.skip
def Zf3(g:tel m rs rs' L ins=ac):∃ (i:Nat) (x y:D),ptV (trL m rs L ins) (trL m rs' L ins)=.tup [.int (i:Int),x,y]:=by
 unfold ptV;generalize w:trL m rs L ins=A;generalize u:trL m rs' L ins=B;cases q:skR (ptF A B) (ag (min A.length B.length)) with
 |some d=>
  obtain⟨i,_,f⟩:=ZaA q;unfold ptF at f;split at f
  .cases f;exact⟨i,_,_,rfl⟩
  .cases f
 |none=>
  exfalso
  have e:oc rs L 0 (v0 m ins)=oc rs' L 0 (v0 m ins):=ZaH λi x y a b=>by
   have all:∀ {l:Li Nat},skR (ptF A B) l=ab->∀ z∈l,ptF A B z=ab:=λ{l} h=>by
    induction l with
    |nil=>intro z hz;cases hz
    |cons v l t=>
     intro z hz;unfold skR at h;cases c:ptF A B v with
     |some _=>rw[c]at h;cases h
     |none=>
      rw[c]at h;rcases aF.mp hz with rfl|hz
      .exact c
      .exact t h z hz
   have r:A[i+1]?=aa x:=by rw[<-w];exact a
   have p:B[i+1]?=aa y:=by rw[<-u];exact b
   have:=all q (i+1) (cA.mpr (by have:=Zk r;have:=Zk p;omega))
   unfold ptF at this;rw[bD,bD,r,p,Option.getD_some,Option.getD_some]at this;split at this
   .cases this
   .rename_i z
    cases j:Zn x y with
    |true=>exact Q7 j
    |false=>rw[j]at z;exact ar rfl z
  unfold tel at g;obtain⟨o,C,s⟩:=Ui (rs:=rs') (n:=L) (k:=0) (vs:=v0 m ins);rw[e,C,show Zn (.tup o) (.tup o)=ac from W0 (n:=7) s]at g;cases g
theorem Zf7{f:Nat×Li Int->Ot D}(a:∀ p,f p=if t p.2=ac then aa (iN p.1) else ab):∀ {k:Nat}{l:Li (Li Int)},skR f (enm k l)=(fT t k l).map iN
 |_,[]=>rfl
 |k,x :: l=>by
  show(match f (k,x) with|some d=>aa d|none=>skR f (enm (k+1) l))=_
  rw[a];unfold fT;by_cases c:t x=ac
  .rw[ao c,ao c];rfl
  .rw[aq c,aq c];exact Zf7 a
def ZdP(a:Rs m rs)(c:Sa m rs' o)(h:Rs m rs')(d:m<=1000)(e:∀ ins∈l,ins.length<=m/\∀ v∈ins,Sm v)(g:L<=800):C (rT (n+9)) s 281 [pgD tk m rs,pgD tk m o,.tup (l.map inT),.int (L:Int)] (((fT (tel m rs rs' L) 0 l).map iN).getD .non):=by
 rw[<-Zf7 (f:=λp:Nat×Li Int=>if tel m rs rs' L p.2=ac then aa (iN p.1) else ab) λ_=>rfl]
 refine .of (v:=Yl) rfl rfl (.seekE (i:=4) (i':=5) (l:=l) (en:=inT) (E:=λy z=>[aa (pgD tk m rs),aa (pgD tk m o),aa (.tup (l.map inT)),jN L,y,z]) (λ_ _ _ _=>rfl) (.of (x:=.tup (l.map inT)) () λst=>rfl) (λp b=>?_) λy z=>.ret ())
 have:=e _ (UJ b);exact .ite (.call (xs:=[pgD tk m rs,pgD tk m o,inT p.2,.int (L:Int)]) () (JX a c h d this.1 this.2 g)) (λ_=>.r rf) λ_=>.skip
theorem UK:∀ {k:Nat}{l:Li (Li Int)},fT t k l=aa i->k<=i/\∃ x,l[i - k]?=aa x/\t x=ac
 |k,x :: l,h=>by
  unfold fT at h;split at h
  .cases h;exact⟨aE _,x,by rw[dO];rfl,‹_›⟩
  .obtain⟨c,y,b,a⟩:=UK h
   refine⟨∅,y,?_,a⟩
   rw[show i - k=(i - (k+1))+1 by omega];exact b
def Qb(b:k < rs.length)(a:rs.length<=1000):C (rT (n+2)) s 180 [pgD tk m rs,.int (k:Int),rwE r] (pgD tk m (rs.set k r)):=by
 have:=YK (n:=n) (s:=s) (xs:=rs.map rwE) (i:=k) (d:=rwE r) (by rw[aD];exact b) (by rw[aD];exact a)
 rw[<-List.map_set]at this;exact .of (v:=Wt) rfl rfl (.ret (.cons () (.cons () (.cons (.call (xs:=[.tup (rs.map rwE),.int (k:Int),rwE r]) () this) .nil))))
end
noncomputable def pdD(p:Int×Int):D:=.tup [.int p.1,.int p.2]
noncomputable def exL(b:Li Int)(a:Li (Li Int)):Li (Li Int):=a.flatMap λins=>b.map λv=>ins++[v]
def prL(b:Li (Li Int))(d:Li (Li Int)):Li (Li Int):=d.foldl (λa c=>exL c a) b
noncomputable def wdI(b:Li (Int×Int))(a:Int):Int:=b.foldl (λa p=>a * (p.2 - p.1+1)) a
def bxL(p:Int×Int):Li Int:=VQ p.1 (p.2+1) 1
structure Nw(tks:List (Int×Int)):Prop where
 l:tks.length<=3
 b:∀ p∈tks,-10<=p.1/\p.1<=p.2/\p.2<=p.1+2/\p.1<=10
variable{tks:Li (Int×Int)}
section
variable{x0:D}{bb:Bool}{acc ls:Li (Li Int)}{o:Li Rw}
theorem Wk.lst(d:s[w]?=aa (bb,xs))(h:Y F s e U (.lst w)):Wk F s e U (Xf ae) xs:=λst g=>by
 obtain⟨s1,f,a⟩:=h st g;have b:=(g.trans a).get d;refine⟨.lst w,s1,λs=>s[w]?=aa (bb,xs),f,a,?_,λst' g'=>g'.get b⟩
 show(match s1[w]? with
  |some c=>aa (c.2,λs=>s[w]?=aa c)
  |none=>ab)=_
 rw[b]
def ZeA{y3 y4:Ot D}(e:st[i]?=aa (bb,acc.map inT)){w:Bool}(p:st[j]?=aa (w,ns.map D.int))(n:(exL ns acc).length<=900)(z:ns.length<=900)(o:∀ ins∈acc,ins.length<=900):∃ c d st',ex F Zy [aa x0,jL i,jL j,y3,y4] st=aa (.nx [aa x0,jL c,jL j,jL c,d],st')/\Grw st st'/\st'[c]?=aa (ac,(exL ns acc).map inT):=by
 have la:=Zk e;obtain⟨h,k,u,m,l⟩:=Zgv (F:=F) (s:=st) (j:=st.length) (q:=YN) (i:=4) (la:=i) (bb:=bb) (E:=λy=>[aa x0,jL i,jL j,jL st.length,y]) (en:=inT) (g:=λins=>(ns.map λv=>ins++[v]).map inT) (all:=acc) (λ_ _=>rfl) (aE _) ∅ (λins a=>.one (.ext rfl (by
   rw[aZ];exact UQ (b:=one) (fr:=[4]) (wk:=Xf ae) (en:=D.int) (Wk.lst p ()) ∅ λv x=>by
    have:=o ins a;show Y F st _ [jI v,aa (inT ins)] (inT (ins++[v]));unfold inT inZ;rw[bN];exact .adT () (.cons () .nil) (by rw[aD];show _+1<=_;omega)))) acc.length 0 (y:=y4) (st:=st++[(ac,[])]) (acc:=[]) (bH _) .push (Grw.push.get e) ZE (by
    rw[cN,cQ,bH,<-cU,aD];exact(aR n #[]))
 rw[cN,dE,<-cU]at l;have t:ex F (.for1 4 ae (.v 1) YN) [aa x0,jL i,jL j,jL st.length,y4] (st++[(ac,[])])=aa (.nx [aa x0,jL i,jL j,jL st.length,h],k):=by
  rw[<-u,<-aD (as:=acc) (f:=inT)];exact W7 (bb:=bb) (xs:=acc.map inT) rfl (Grw.push.get e)
 exact⟨st.length,h,k,(Ze (Zs (v:=.lst st.length) (st':=st++[(ac,[])]) rfl)).trans ((Ze t).trans ((Ze (Zs rfl)).trans Zh)),m.grw (aE _) .push,l⟩
def ZgN:(exL ns acc).length=acc.length * ns.length:=by
 unfold exL
 induction acc with
 |nil=>exact(Nat.zero_mul _).symm
 |cons x l a=>rw[bY,aI,a,aD,aQ,Nat.add_mul,Nat.one_mul,Nat.add_comm]
def Al(c:Nat)(acc:Li (Li Int)):Prop:=∀ ins∈acc,ins.length=c/\∀ v∈ins,Sm v
def Al.ex(h:Al k acc)(d:∀ v∈ns,Sm v):Al (k+1) (exL ns acc):=λins a=>by
 obtain⟨x,b,a⟩:=dP.mp a;obtain⟨v,c,rfl⟩:=aL.mp a;obtain⟨f,e⟩:=h x b;refine⟨by rw[aI,f];rfl,λz hz=>?_⟩
 rcases bC.mp hz with hz|hz
 .exact e z hz
 .rw[aM.mp hz];exact d v c
theorem Al.pr:∀ {ls:Li (Li Int)}{k:Nat}{acc:Li (Li Int)},Al k acc->(∀ ns∈ls,∀ v∈ns,Sm v)->Al (k+ls.length) (prL acc ls)
 |[],_,_,h,_=>h
 |ns :: ls,k,acc,h,a=>by
  have:=Al.pr (ls:=ls) (h.ex (a ns Ls)) λz b=>a z (Lm _ b)
  rw[aQ,show k+(ls.length+1)=k+1+ls.length by omega]
  exact this
def Cs(s:Za)(l:Li Nat)(ls:Li (Li Int)):Prop:=l.length=ls.length/\∀ (i:Nat) j ns,l[i]?=aa j->ls[i]?=aa ns->∃ b,s[j]?=aa (b,ns.map D.int)
theorem Zah{q:Za}{l:Li Nat}(u:q[w]?=aa (bb,l.map D.lst))(k:Cs q l ls)(C:∀ ns∈ls,ns.length<=3)(K:ls.length<=3):∀ (M i:Nat) (acc:Li (Li Int)) (c:Nat) (b:Bool) (j y3 y4:Ot D) (st:Za),i+M=ls.length->acc.length * 3 ^ M<=27->(∀ ins∈acc,ins.length<=900)->Al i acc->(∀ ns∈ls,∀ v∈ns,Sm v)->Grw q st->st[c]?=aa (b,acc.map inT)->∃ f V o n m st',ZI (λd U s=>ex F Zy (Zf U 2 d) s) w M i [jL w,jL c,j,y3,y4] st=aa (.nx [jL w,jL f,o,n,m],st')/\Grw st st'/\st'[f]?=aa (V,(prL acc (ls.drop i)).map inT)
 |0,i,acc,c,b,j,y3,y4,st,L,_,_,_,_,g,t=>⟨c,b,j,y3,y4,st,by unfold ZI;rw[g.get u];exact ao (by rw[aD,k.1];omega),.refl,by rw[dY ∅];exact t⟩
 |M+1,i,acc,c,b,j,y3,y4,st,L,B,O,W,A,g,t=>by
  have e:i < ls.length:=by omega
  have a:i < l.length:=by rw[k.1];exact e
  obtain⟨Y,N⟩:=k.2 i _ _ (Lg a) (Lg e);have I:=C _ (cT e);have x:=ZgN (ns:=ls[i]) (acc:=acc);rw[Nat.pow_succ]at B;have y:(exL ls[i] acc).length * 3 ^ M<=27:=by
   rw[x];refine aR ?_ B;rw[Nat.mul_assoc,Nat.mul_comm (3 ^ M) 3];exact Nat.mul_le_mul_left _ (Nat.mul_le_mul_right _ I)
  have H:1<=3 ^ M:=Nat.one_le_pow _ _ #[]
  have X:(exL ls[i] acc).length<=27:=aR (by have:=Nat.mul_le_mul_left (exL ls[i] acc).length H;rwa [Nat.mul_one]at this) y
  obtain⟨f,p,G,x,z,Q⟩:=ZeA (F:=F) (x0:=.lst w) (y3:=y3) (y4:=y4) t (g.get N) ∅ ∅ O
  have h:=W.ex (A _ (cT e));obtain⟨S,T,o,n,m,E,R,J,P⟩:=Zah u k C K M (i+1) (exL ls[i] acc) f ac (jL l[i]) (jL f) p G ∅ y (λins r=>by have:=(h ins r).1;omega) h A (g.trans z) Q
  refine⟨S,T,o,n,m,E,?_,z.trans J,by rw[bX e];exact P⟩
  conv=>lhs;unfold ZI
  have r:(l.map D.lst)[i]?=jL l[i]:=by rw[aV,Lg a];rfl
  simp only[g.get u,r];show(match ex F Zy [jL w,jL c,jL l[i],y3,y4] st with
   |some (.nx U',st')=>ZI (λd U s=>ex F Zy (Zf U 2 d) s) w M (i+1) U' st'
   |some (.ct U',st')=>ZI (λd U s=>ex F Zy (Zf U 2 d) s) w M (i+1) U' st'
   |some (.bk U',st')=>aa (.nx U',st')
   |some (.rt v,st')=>aa (.rt v,st')
   |none=>ab)=_
  rw[x];exact R
def Zbq{s0:Za}{l:Li Nat}(f:s0[w]?=aa (bb,l.map D.lst))(d:Cs s0 l ls)(q:∀ ns∈ls,ns.length<=3)(b:ls.length<=3)(p:∀ ns∈ls,∀ v∈ns,Sm v):C (rT (n+1)) s0 134 [.lst w] (.tup ((prL [[]] ls).map inT)):=λst g=>by
 obtain⟨u,x,k,j,i,a,t,m,e⟩:=Zah (F:=rT n) f d q b ls.length 0 [[]] st.length ac ab ab ab (st++[(ac,[.tup []])]) (bH _) (by
  have r:(1:Nat) * 3 ^ ls.length<=3 ^ 3:=by rw[Nat.one_mul];exact Nat.pow_le_pow_right #[] b
  exact r) (λins h=>by rw[aM.mp h];exact aS _) (λins h=>by rw[aM.mp h];exact⟨rfl,λv o=>nomatch o⟩) p (g.trans .push) ZE
 rw[cN]at e;have s:ex (rT n) (.for1 2 ae (.v 0) Zy) [jL w,jL st.length,ab,ab,ab] (st++[(ac,[.tup []])])=aa (.nx [jL w,jL u,k,j,i],a):=by
  rw[<-t,show ls.length=(l.map D.lst).length by rw[aD,d.1]]
  exact W7 (bb:=bb) (xs:=l.map D.lst) rfl ((g.trans .push).get f)
 exact⟨a,QL (v:=Xq) rfl rfl ((Ze (Zs (v:=.lst st.length) (st':=st++[(ac,[.tup []])]) rfl)).trans ((Ze s).trans (Zt (Yn (YJ (c:=(x,(prL [[]] ls).map inT)) rfl e))))),Grw.push.trans m⟩
theorem J5{α:Type}{en:α->D}{g:α->Li D}{ok:Za->Prop}{fe fc:D->Za->Res}(o:∀ d st,fc d st=aa (.bl ac,st))(e:∀ st,ok st):∀ {l:Li α},(∀ a∈l,Lv s (fe (en a)) (g a))->∀ st,Grw s st->∃ (c:Li Nat) (st':Za),Z8 ok fe fc (l.map en) st=aa (c.map D.lst,st')/\Grw st st'/\c.length=l.length/\∀ (i:Nat) j a,c[i]?=aa j->l[i]?=aa a->∃ b,st'[j]?=aa (b,g a)
 |[],_,st,k=>⟨[],st,ao (e st),.refl,rfl,λi j a h=>nomatch h⟩
 |x :: xs,h,st,k=>by
  obtain⟨s1,j,b,y,v,m⟩:=h x Ls st k;obtain⟨c,q,w,f,r,z⟩:=J5 o e (λd u=>h d (Lm _ u)) s1 (k.trans m)
  refine⟨j :: c,q,?_,m.trans f,au (·+1) r,λi t a n p=>?_⟩
  .rw[aK,Z8,ao (e st),o]
   simp only[y,w,aK]
  .cases i with
   |zero=>cases n;cases p;exact⟨b,f.get v⟩
   |succ i=>exact z i t a n p
def ZbN{p:Int×Int}:∀ v∈bxL p,p.1<=v/\v<=p.2:=λv a=>by
 obtain⟨k,b,rfl⟩:=aL.mp a;have:=cA.mp b;unfold YT at this;rw[ao #[],dB]at this
 split at this<;>omega
def ZgE{p:Int×Int}(h:p.1<=p.2/\p.2<=p.1+2):(bxL p).length<=3:=by
 unfold bxL VQ YT;rw[aD,bT,ao #[],ao ∅,dB]
 omega
theorem Zgf:∀ {tks:Li (Int×Int)}{a:Int},(∀ p∈tks,p.1<=p.2/\p.2<=p.1+2)->0 < a->0 < wdI tks a/\wdI tks a<=a * 3 ^ tks.length
 |[],a,_,h=>⟨h,by show a<=a * 1;omega⟩
 |p :: tks,a,b,h=>by
  have d:=b p Ls;obtain⟨f,e⟩:=Zgf (tks:=tks) (a:=a * (p.2 - p.1+1)) (λz c=>b z (Lm _ c)) (Int.mul_pos h ∅)
  refine⟨f,Int.le_trans e ?_⟩;rw[aQ,Int.pow_succ,Int.mul_assoc,Int.mul_comm (3 ^ tks.length) 3];exact Int.mul_le_mul_of_nonneg_left (Int.mul_le_mul_of_nonneg_right ∅ (Int.le_of_lt (Int.pow_pos #[]))) (Int.le_of_lt h)
def Nw.wd(h:Nw tks):0 < wdI tks 1/\wdI tks 1<=27:=by
 obtain⟨f,d⟩:=Zgf (tks:=tks) (a:=1) (λp c=>⟨(h.b p c).2.1,(h.b p c).2.2.1⟩) #[]
 refine⟨f,Int.le_trans d ?_⟩;have g:=h.l;have:tks.length=0\/tks.length=1\/tks.length=2\/tks.length=3:=by omega
 rcases this with e|e|e|e<;>rw[e]<;>decide
theorem ZaL{x:Ot D}:∀ {tks:Li (Int×Int)}{a:Int}{y z:Ot D}{st:Za},(∀ p∈tks,Z9 (p.2 - p.1+1)=ac)->∃ c b,Zj (VN 2 3 (ex F Yb)) (tks.map pdD) [x,jI a,y,z] st=aa (.nx [x,jI (wdI tks a),c,b],st)
 |[],a,y,z,st,_=>⟨y,z,rfl⟩
 |p :: tks,a,y,z,st,h=>by
  have e:ex F Yb [x,jI a,jI p.1,jI p.2] st=aa (.nx [x,aa (.int (a * (p.2 - p.1+1))),jI p.1,jI p.2],st):=by
   have:ev F (.h (.v 1) (.p (.l (.v 3) (.v 2)) (.i 1))) [x,jI a,jI p.1,jI p.2] st=aa (.int (a * (p.2 - p.1+1)),st):=by
    show Q8 .Mult (.int a) (.int (p.2 - p.1+1)) st=_;show(match (if Z9 a||Z9 (p.2 - p.1+1) then aa (a * (p.2 - p.1+1)) else ab) with|some k=>aa (D.int k,st)|none=>ab)=_
    rw[h p Ls,Bool.or_true];rfl
   exact(Ze (Zs this)).trans Zh
  obtain⟨c,b,f⟩:=ZaL (tks:=tks) (a:=a * (p.2 - p.1+1)) (y:=jI p.1) (z:=jI p.2) (st:=st) λq d=>h q (Lm _ d)
  refine⟨c,b,?_⟩;show(match ex F Yb [x,jI a,jI p.1,jI p.2] st with
   |some (.nx U',st')=>Zj (VN 2 3 (ex F Yb)) (tks.map pdD) U' st'
   |some (.ct U',st')=>Zj (VN 2 3 (ex F Yb)) (tks.map pdD) U' st'
   |some (.bk U',st')=>aa (.nx U',st')
   |some (.rt v,st')=>aa (.rt v,st')
   |none=>ab)=_
  rw[e];exact f
def QW(h:Nw tks):C (rT (n+2)) s 135 [pgD (.tup (tks.map pdD)) m rs] (.bl ae):=by
 have k:=h.wd;have c:C (rT (n+1)) s 133 [pgD (.tup (tks.map pdD)) m rs] (.int (wdI tks 1)):=λst g=>by
  obtain⟨f,d,e⟩:=ZaL (F:=rT n) (x:=aa (pgD (.tup (tks.map pdD)) m rs)) (tks:=tks) (a:=1) (y:=ab) (z:=ab) (st:=st) λp i=>Jp (by have:=h.b p i;omega)
  have j:ex (rT n) (.for2 2 3 (.x 0 0) Yb) [aa (pgD (.tup (tks.map pdD)) m rs),jI 1,ab,ab] st=aa (.nx [aa (pgD (.tup (tks.map pdD)) m rs),jI (wdI tks 1),f,d],st):=e;exact⟨st,QL (v:=UH) rfl rfl ((Ze (Zs rfl)).trans ((Ze j).trans (Zt (Yn rfl)))),.refl⟩
 exact .of (v:=Wv) rfl rfl (.ret (.cmp (.call1 () c) () λ_=>by show aa (aj ((64:Int) < wdI tks 1))=_;rw[aH ∅]))
def ZdX(h:Nw tks):C (rT (n+4)) s 139 [pgD (.tup (tks.map pdD)) m rs] (.tup ((prL [[]] (tks.map bxL)).map inT)):=by
 have t:C (rT (n+3)) s 136 [pgD (.tup (tks.map pdD)) m rs] (.tup ((prL [[]] (tks.map bxL)).map inT)):=by
  refine .of (v:=ZbO) rfl rfl (.no (.call1 () (QW h)) (.ret λst g=>?_))
  obtain⟨u,f,K,B,z,M⟩:=J5 (s:=st) (ok:=λ_=>True) (fe:=λd=>ev (rT (n+2)) (.lstR (.v 0) (.p (.v 1) (.i 1))) (Yg two [aa (pgD (.tup (tks.map pdD)) m rs)] [] d)) (fc:=λd=>ev (rT (n+2)) (.c (.bl ac)) (Yg two [aa (pgD (.tup (tks.map pdD)) m rs)] [] d)) (en:=pdD) (g:=λp=>(bxL p).map D.int) (l:=tks) (λ_ _=>rfl) (λ_=>trivial) (λp a st k=>by
   have a:=h.b p a;refine⟨st++[(ac,(bxL p).map D.int)],st.length,ac,?_,ZE,.push⟩;show(if Vb p.1 (p.2+1) 1=ac/\p.2+1 - p.1<=1000 then aa (D.lst st.length,st++[(ac,(VQ p.1 (p.2+1) 1).map D.int)]) else ab)=_
   exact ao ⟨aP ⟨⟨∅,∅⟩,⟨∅,∅⟩,.inl rfl⟩,∅⟩) st .refl
  have J:ev (rT (n+2)) (.compT [] (.x 0 0) (.lstR (.v 0) (.p (.v 1) (.i 1))) (.c (.bl ac))) [aa (pgD (.tup (tks.map pdD)) m rs)] st=aa (.lst f.length,f++[(ac,u.map D.lst)]):=by
   show YZ two VX [] _ _ _ _ st=_;unfold YZ;rw[show ev (rT (n+2)) (.x 0 0) [aa (pgD (.tup (tks.map pdD)) m rs)] st=aa (.tup (tks.map pdD),st) from rfl];have E:VX (.tup (tks.map pdD)) st=aa (tks.map pdD,λ_=>True):=ao (cD.mpr λd G=>by obtain⟨p,_,rfl⟩:=aL.mp G;rfl)
   simp only[E];rw[ao (by rw[aD];have:=h.l;omega),K]
  have L:=Zbq (n:=n+1) (w:=f.length) (bb:=ac) (s0:=f++[(ac,u.map D.lst)]) (l:=u) (ls:=tks.map bxL) ZE ⟨by rw[z,aD],λi j ns H e=>by
   rw[aV]at e;cases q:tks[i]? with
   |none=>rw[q]at e;cases e
   |some p=>rw[q]at e;cases e;obtain⟨b,t⟩:=M i j p H q;exact⟨b,Grw.push.get t⟩⟩ (λns o=>by obtain⟨p,a,rfl⟩:=aL.mp o;exact ZgE ⟨(h.b p a).2.1,(h.b p a).2.2.1⟩) (by rw[aD];exact h.l) (λns o v F=>by
   obtain⟨p,a,rfl⟩:=aL.mp o;have:=ZbN v F;have:=h.b p a;unfold Sm;omega)
  obtain⟨y,I,A⟩:=L _ .refl;refine⟨y,?_,B.trans (Grw.push.trans A)⟩;show Zr (ZT (ev (rT (n+2)) (.compT [] (.x 0 0) (.lstR (.v 0) (.p (.v 1) (.i 1))) (.c (.bl ac)))) (evC (.tup [])) V8) (Qg (rT (n+2) 134) []) [aa (pgD (.tup (tks.map pdD)) m rs)] st=_;unfold Zr ZT;rw[J];exact I
 exact .of (v:=UF) rfl rfl (.ret (.ife (k:=ae) (.call1 () (QW (n:=n+1) h)) (.call1 () t)))
def QQ(h:Nw tks):∀ ins∈prL [[]] (tks.map bxL),ins.length=tks.length/\∀ v∈ins,Sm v:=by
 have:=Al.pr (ls:=tks.map bxL) (k:=0) (acc:=[[]]) (λins h=>by rw[aM.mp h];exact⟨rfl,λv a=>nomatch a⟩) λns d v a=>by
  obtain⟨p,c,rfl⟩:=aL.mp d;have:=ZbN v a;have:=h.b p c;unfold Sm;omega
 rw[bH,aD]at this;exact this
def Zbv(h:Nw tks)(c:m<=1000)(j:tks.length<=m)(a:Rs m rs)(b:Sa m rs' o)(g:Rs m rs')(e:L<=800):C (rT (n+9)) s 140 [pgD (.tup (tks.map pdD)) m rs,pgD (.tup (tks.map pdD)) m o,.int (L:Int)] ((skR (λins=>if tel m rs rs' L ins=ac then aa (inT ins) else ab) (prL [[]] (tks.map bxL))).getD .non):=by
 refine .of (v:=Vr) rfl rfl (.seekD (i:=3) (en:=inT) (E:=λy=>[aa (pgD (.tup (tks.map pdD)) m rs),aa (pgD (.tup (tks.map pdD)) m o),jN L,y]) (λ_ _=>rfl) (.call1 () (ZdX (n:=n+4) h)) (λins d=>?_) λy=>.ret ())
 obtain⟨k,f⟩:=QQ h ins d;exact .ite (.call (xs:=[pgD (.tup (tks.map pdD)) m rs,pgD (.tup (tks.map pdD)) m o,inT ins,.int (L:Int)]) () (JX a b g c ∅ f e)) (λ_=>.r rf) λ_=>.skip
end
def vdD(c:Bool)(d:Ot (Li Tr))(t:Li Int->Bool)(a:Li Int->D)(e tr:Li (Li Int)):D:=
 if c=ac then .tup [.str "same"] else match fT t 0 tr with
 |some i=>.tup [.str "trial",.int (i:Int),a (tr.getD i [])]
 |none=>match d with
  |some b=>.tup [.str "paper",.tup (b.map trD)]
  |none=>match e.find? t with
   |some ins=>.tup [.str "found",inT ins,a ins]
   |none=>.tup [.str "table"]
def paN(m:Nat)(rs a:Li Rw)(L:Nat)(ins:Li Int):D:=hdD (ptV (trL m rs L ins) (trL m a L ins))
variable{tr:Li (Li Int)}
section
variable{o:Li Rw}{t:Li Int->Bool}{pa:Li Int->D}{bx l:Li (Li Int)}{pp:Ot (Li Tr)}
theorem UY{α:Type}{f:α->D}:∀ {l:Li α},(∀ a∈l,okD w (f a)=ac)->ZX w (l.map f)=ac
 |[],_=>by cases w<;>rfl
 |a :: l,h=>by
  show(okD w (f a)&&ZX w (l.map f))=ac;rw[h a Ls,UY λz b=>h z (Lm _ b)];rfl
def Zha{r:Rw}:okD 6 (rwE r)=ac:=by
 cases r with
 |put x y g z=>cases y<;>cases z<;>rfl
 |ifr y g z t=>cases y<;>cases z<;>rfl
 |tell y=>cases y<;>rfl
 |go t=>rfl
 |skip=>rfl
def Uj:okD 8 (pgD (.tup (tks.map pdD)) m rs)=ac:=by
 show(ZX 6 (tks.map pdD)&&(ac&&(ZX 6 (rs.map rwE)&&ac)))=ac;rw[UY λ_ _=>rfl,UY λ_ _=>Zha];rfl
theorem U4:∀ {a b:Li Rw},a.map rwE=b.map rwE->a=b
 |[],[],_=>rfl
 |x :: a,y :: b,h=>by injection h with d c;rw[JF d,U4 c]
theorem Zaz:∀ {l:Li (Li Int)},skR (λins=>if t ins=ac then aa (inT ins) else ab) l=(l.find? t).map inT
 |[]=>rfl
 |x :: l=>by
  unfold skR;rw[cC];cases q:t x with
  |true=>rfl
  |false=>exact Zaz
structure Vd(d:D):Prop where
 ex:∃ w xs,d=.tup (.str w :: xs)/\w≠S "same"/\okD 8 d=ac
def ZfZ{ins:Li Int}(h:tel m rs rs' L ins=ac):∃ i:Nat,paN m rs rs' L ins=.int (i:Int):=by
 obtain⟨i,x,y,e⟩:=Zf3 h;exact⟨i,by unfold paN;rw[e];rfl⟩
def Zjn:Vd (vdD ae pp (tel m rs rs' L) (paN m rs rs' L) bx tr):=by
 unfold vdD;rw[aq #[]]
 cases z:fT (tel m rs rs' L) 0 tr with
 |some i=>
  obtain⟨_,ins,a,c⟩:=UK z;rw[Nat.sub_zero]at a;obtain⟨v,ev⟩:=ZfZ c;have d:tr.getD i []=ins:=by rw[bD,a];rfl
  dsimp only;rw[d,ev];exact⟨_,_,rfl,by decide +kernel,rfl⟩
 |none=>cases pp with
  |some b=>exact⟨_,_,rfl,by decide +kernel,by show(ac&&(ZX 6 (b.map trD)&&ac))=ac;rw[UY λ_ _=>rfl];rfl⟩
  |none=>
   dsimp only;cases q:bx.find? (tel m rs rs' L) with
   |some ins=>
    obtain⟨v,ev⟩:=ZfZ (List.find?_some q);dsimp only;rw[ev];exact⟨_,_,rfl,by decide +kernel,by show(ac&&(ZX 6 (ins.map D.int)&&(ac&&ac)))=ac;rw[UX];rfl⟩
   |none=>exact⟨_,_,rfl,by decide +kernel,rfl⟩
def Sa.md(h:Sa m rs' o):mdL o=mdL rs':=List.ext_getElem? λk=>by rw[UV,UV];exact h.rm k
def ZaQ(g:Rs m rs)(u:Rs m rs')(N:rs.length=sz)(M:rs'.length=sz)(J:m<=60)(G:(sz+1) * (sz+1) < 64)(K:2 ^ m * ((sz+1) * (sz+1))<=1000)(hN:Nw tks)(H:tks.length<=m)(A:L<=800):∃ pp,∀ o,Sa m rs' o->∀ tr:Li (Li Int),(∀ ins∈tr,ins.length<=m/\∀ v∈ins,Sm v)->∀ n s,C (rT (n+10)) s 282 [pgD (.tup (tks.map pdD)) m rs,pgD (.tup (tks.map pdD)) m o,.tup (tr.map inT),.int (L:Int)] (vdD (aj (mdL rs'=mdL rs)) pp (tel m rs rs' L) (paN m rs rs' L) (prL [[]] (tks.map bxL)) tr):=by
 obtain⟨pp,B⟩:=ZdU (tk:=.tup (tks.map pdD)) g u N M J G K;refine⟨pp,λo c tr t n s=>?_⟩
 have d:m<=1000:=by omega
 have S:=Ut (n:=n+3) (s:=s) (tk:=.tup (tks.map pdD)) g.ok (by have:=g.l;omega)
 have E:=Ut (n:=n+3) (s:=s) (tk:=.tup (tks.map pdD)) c.r.ok (by have:=c.r.l;omega)
 have B:=B o c (n+1) s;rw[c.md]at E;have part:∀ ins,ins.length<=m->(∀ v∈ins,Sm v)->tel m rs rs' L ins=ac->∀ {a:CE}{U:Env},Y (rT (n+9)) s a U (.tup [pgD (.tup (tks.map pdD)) m rs,pgD (.tup (tks.map pdD)) m o,inT ins,.int (L:Int)])->Y (rT (n+9)) s (.ix (.f 98 a) (.i 0)) U (paN m rs rs' L ins):=λins p I w {a U} F=>by
  have h:=Zgm (n:=n+2) (s:=s) (tk:=.tup (tks.map pdD)) g c u d p I A;unfold paN;obtain⟨i,x,y,e⟩:=Zf3 w;rw[e]at h ⊢;exact .ixt (j:=0) (.call F h) () rfl
 have P:=ZdP (n:=n) (s:=s) (tk:=.tup (tks.map pdD)) g c u d t A;have Q:Zn (pgD (.tup (tks.map pdD)) m (mdL rs')) (pgD (.tup (tks.map pdD)) m (mdL rs))=aj (mdL rs'=mdL rs):=by
  have k:okD 8 (pgD (.tup (tks.map pdD)) m (mdL rs'))=ac:=Uj;refine(Yu k).trans (decide_eq_decide.mpr ⟨λh=>?_,λh=>by rw[h]⟩)
  injection h with _ h;injection h with _ h;injection h with h _;injection h with h
  exact U4 h
 unfold vdD;refine .of (v:=WB) rfl rfl (.pick (k:=aj (mdL rs'=mdL rs)) (by rw[<-Q];exact .eqd (.call1 () E) (.call1 () S) Uj Uj) (λq=>?_) λq=>?_)
 .rw[ao q];exact .ret ()
 .rw[aq (by rw[q];decide)]
  refine .set (.call (xs:=[pgD (.tup (tks.map pdD)) m rs,pgD (.tup (tks.map pdD)) m o,.tup (tr.map inT),.int (L:Int)]) () P) ?_;cases z:fT (tel m rs rs' L) 0 tr with
  |some i=>
   obtain⟨_,ins,p,w⟩:=UK z;rw[Nat.sub_zero]at p;have b:=t ins (aT p);have O:tr.getD i []=ins:=by rw[bD,p];rfl
   show R _ s _ _ (.tup [.str "trial",.int (i:Int),paN m rs rs' L (tr.getD i [])]);rw[O];exact .yes () (.cons () (.cons () (.cons (part ins b.1 b.2 w (.cons () (.cons () (.cons (.ixt (j:=i) (xs:=tr.map inT) () () (by rw[aV,p];rfl)) (.cons () .nil))))) .nil)))
  |none=>
   refine .no () (.set (.call (xs:=[pgD (.tup (tks.map pdD)) m rs,pgD (.tup (tks.map pdD)) m o]) () B) ?_);cases pp with
   |some T=>exact .yes () ()
   |none=>
    have D:=Zbv (n:=n) (s:=s) hN d H g c u A;rw[Zaz]at D;refine .no () (.set (.call (xs:=[pgD (.tup (tks.map pdD)) m rs,pgD (.tup (tks.map pdD)) m o,.int (L:Int)]) () D) ?_);dsimp only;cases q:(prL [[]] (tks.map bxL)).find? (tel m rs rs' L) with
    |some ins=>
     obtain⟨V,o2⟩:=QQ hN ins (List.mem_of_find?_eq_some q);exact .yes () (.cons () (.cons () (.cons (part ins ∅ o2 (List.find?_some q) ()) .nil)))
    |none=>exact .no () (.ret (.ife (k:=ae) (.call1 () (QW (n:=n+7) hN)) ()))
def ZdN(h:xs.length<=10):C (rT (n+1)) s 181 [.tup xs] .non:=λst g=>by
 have:Y (rT n) s (.cmp .Gt (.len (.v 0)) (.i 10)) [aa (.tup xs)] (.bl ae):=.cmp (.lnT ()) () λ_=>by show aa (aj ((10:Int) < (xs.length:Int)))=_;rw[aH ∅]
 obtain⟨s1,b,a⟩:=this st g;exact⟨s1,ZkK (v:=YA) rfl rfl ((Ze ((Wm b).trans Zh)).trans Zh),a⟩
def QV{h:Nat×Str×Rw->D}(i:Rs m rs)(u:l.length<=10)(t:∀ p∈fkL rs,∀ s,C (rT (n+10)) s 282 [pgD tk m rs,pgD tk m (rs.set p.1 p.2.2),.tup (l.map inT),.int (L:Int)] (h p)):C (rT (n+11)) s 283 [pgD tk m rs,.tup (l.map inT),.int (L:Int)] (.tup ((fkL rs).map h)):=by
 refine .of (v:=X5) rfl rfl λst g=>?_
 obtain⟨s1,A,q⟩:=Y.call1 (F:=rT (n+10)) (s:=st) (f:=181) (a:=.v 1) (x:=.tup (l.map inT)) (U:=[aa (pgD tk m rs),aa (.tup (l.map inT)),jN L]) () (ZdN (n:=n+9) (by rw[aD];exact u)) st .refl
 have B:=i.l;have G:=W6 (rs:=rs);obtain⟨k,z,o⟩:=Lv.tof (F:=rT (n+10)) (e:=.comp3 [2,0,1] (.f 172 (.s 0)) (.f 282 (.a 4 (.aC (.f 180 (.a 4 (.a 0 (.s 2)))) (.a 5 (.s 3))))) (.c (.bl ac))) (U:=[aa (pgD tk m rs),aa (.tup (l.map inT)),jN L]) (Ug (F:=rT (n+10)) (s:=s1) (U:=[aa (pgD tk m rs),aa (.tup (l.map inT)),jN L]) (b:=ZaF) (wk:=ZdK) (fr:=[2,0,1]) (it:=.call 172 (.s 0) []) (elt:=.call 282 (.a 4 (.aC (.f 180 (.a 4 (.a 0 (.s 2)))) (.a 5 (.s 3)))) []) (en:=tD) (g:=h) (l:=fkL rs) (.of (x:=.tup ((fkL rs).map tD)) (.call1 () (JU (n:=n+6) i)) λst=>ao (cD.mpr λd w=>by obtain⟨p,_,rfl⟩:=aL.mp w;rfl)) ∅ λp j=>by
  obtain⟨y,E⟩:=WG i j;exact .call (xs:=[pgD tk m rs,pgD tk m (rs.set p.1 p.2.2),.tup (l.map inT),.int (L:Int)]) (.cons () (.cons (.call (xs:=[pgD tk m rs,.int (p.1:Int),rwE p.2.2]) () (Qb (n:=n+8) y ∅)) (.cons () (.cons () .nil)))) (t p j s1)) s1 .refl
 exact⟨k,(Ze (Zjq A)).trans (Zt (Yn z)),q.trans o⟩
end
noncomputable def S0(a:Li Int):Za:=[(ae,a.map D.int)]
noncomputable def ceI(a:Li Int)(k:Nat):Int:=if k < a.length then a.getD k 0 else if a=[] then ((k:Int) * k+7) * 48271 % 2147483629 else (a.getD 0 0 % 2147483647+7) * ((k:Int) * k+48271) % 2147483629
noncomputable def smL:Li Int:=[-1000000000,-999999999,-2,-1,0,1,2,999999999]
def smI(c:Int):Int:=if c % 8=0 then smL.getD (c / 8 % 8).toNat 0 else if c % 8=1 then c / 8 * 48271 % 2000000000 - 1000000000 else c / 8 % 7 - 3
def opI(c:Int)(m:Nat):Op:=if 0 < c % 3 then .nm (c / 3 % m).toNat else .nu (smI (c / 3))
section
variable{c:Int}{Q:D->Prop}
def Zi9(g:Grw (S0 ns) s):s[0]?=aa (ae,ns.map D.int):=g.get rfl
def Y.lts{i j:Int}(d:Y F s a U (.int i))(c:Y F s b U (.int j)):Y F s (.cmp .Lt a b) U (.bl (aj (i < j))):=.cmp d c λ_=>rfl
def Y.gts{i j:Int}(d:Y F s a U (.int i))(c:Y F s b U (.int j)):Y F s (.cmp .Gt a b) U (.bl (aj (j < i))):=.cmp d c λ_=>rfl
def Y.eqi{i j:Int}(d:Y F s a U (.int i))(c:Y F s b U (.int j)):Y F s (.e a b) U (.bl (aj (i=j))):=.cmp d c λ_=>rfl
def Xj(h:k<=1000):C (rT (n+1)) (S0 ns) 27 [.lst 0,.int (k:Int)] (.int (ceI ns k)):=by
 have a:(S0 ns)[0]?=aa (ae,ns.map D.int):=rfl;have f:(ns.map D.int).length=ns.length:=aD ..;have b:Z9 (k:Int)=ac:=Jp ∅
 have o:(k:Int) * k<=1000000:=by
  have:k * k<=1000 * 1000:=dQ h h;omega
 have m:0<=(k:Int) * k:=Int.mul_nonneg ∅ ∅
 unfold ceI;refine .of (v:=Yv) rfl rfl (.pick (k:=aj ((k:Int) < ((ns.map D.int).length:Int))) (.lts () (.lenl a ())) (λq=>?_) λq=>?_)
 .have q:=am q
  rw[f]at q;rw[ao ∅]
  refine .ret (.ixl (j:=k) a () () ?_);show(ns.map D.int)[k]?=_;rw[aV,bD,Lg ∅];rfl
 .have q:=ak q
  rw[f]at q;rw[aq ∅]
  have l:Y (rT n) (S0 ns) (.e (.v 0) (.lstE .aN)) [jL 0,jN k] (.bl (aj (ns=[]))):=λst g=>by
   refine⟨st++[(ac,[])],?_,.push⟩;show(match (o2 (λ(c d:Xg)=>ZgM c.2 d.2) (st++[(ac,[])])[0]? (st++[(ac,[])])[st.length]?).join with|some k=>aa (D.bl k,st++[(ac,[])])|none=>ab)=_
   rw[Zi9 (g.trans .push),ZE];cases ns with
   |nil=>rfl
   |cons v ns=>rw[aH (dJ _ _)];rfl
  refine .pick l (λz=>?_) λz=>?_
  .rw[ao (am z)]
   exact .ret (.md (.mul (.add (.mul () () b) ()) () rfl) () #[])
  .have z:=ak z
   rw[aq z];cases ns with
   |nil=>exact ar rfl z
   |cons v ns=>
    have i:Y (rT n) (S0 (v :: ns)) (.x 0 0) [jL 0,jN k] (.int v):=.ixl (j:=0) a () () rfl;exact .ret (.md (.mul (.add (.md i () #[]) ()) (.add (.mul () () b) ()) (Jp ∅)) () #[])
def Zf8:Sm (smI c):=by
 unfold smI;split
 .have h:=Zm (c / 8) (j:=8) #[]
  have:(c / 8 % 8).toNat < 8:=by omega
  generalize (c / 8 % 8).toNat=i at *
  exact(by unfold Sm smL;decide:∀ i:Nat,i < 8->Sm (smL.getD i 0)) i this
 .split
  .have h:=Zm (c / 8 * 48271) (j:=2000000000) #[]
   unfold Sm;omega
  .have h:=Zm (c / 8) (j:=7) #[]
   unfold Sm;omega
def JW:C (rT (n+1)) s 19 [.int c] (.int (smI c)):=by
 unfold smI;refine .of (v:=Yk) rfl rfl (.setL (xs:=smL.map D.int) (.mk ()) λe j b g d=>.pick (.eqi (.md () () #[]) ()) (λq=>?_) λq=>.pick (.eqi (.md () () #[]) ()) (λz=>?_) λz=>?_)
 .rw[ao (am q)]
  have h:=Zm (c / 8) (j:=8) #[]
  have a:(c / 8 % 8).toNat < smL.length:=by show _ < 8;omega
  refine .ret (.ixl (j:=(c / 8 % 8).toNat) d () (by rw[bU h.1];exact .md (.fd () () #[]) () #[]) ?_)
  show(smL.map D.int)[_]?=_;rw[aV,bD,Lg a];rfl
 .rw[aq (ak q),ao (am z)]
  exact .ret (.sub (.md (.mul (.fd () () #[]) () rfl) () #[]) ())
 .rw[aq (ak q),aq (ak z)]
  exact .ret (.sub (.md (.fd () () #[]) () #[]) ())
def ZfY(a:0 < m):Wn m (opI c m):=by
 unfold opI;split
 .have h:=Zm (c / 3) (j:=(m:Int)) ∅
  show(c / 3 % (m:Int)).toNat < m;omega
 .exact Zf8
def V6(a:0 < m):C (rT (n+2)) s 28 [.int c,.int (m:Int)] (opE (opI c m)):=by
 unfold opI;refine .of (v:=Yx) rfl rfl (.pick (.gts (.md () () #[]) ()) (λq=>?_) λq=>?_)
 .rw[ao (am q)]
  have h:=Zm (c / 3) (j:=(m:Int)) ∅
  show R _ _ _ _ (.tup [.str "name",.int ((c / 3 % (m:Int)).toNat:Int)]);rw[bU h.1];exact .ret (.cons () (.cons (.md (.fd () () #[]) () ∅) .nil))
 .rw[aq (ak q)]
  exact .ret (.cons () (.cons (.call1 (.fd () () #[]) JW) .nil))
def Y.pickL{w:Nat}{l:Li α}{f:α->D}{i:Int}(e:∀ n s,Lv s (ev (rT (n+w)) a U) (l.map f))(d:∀ n s,Y (rT (n+w)) s b U (.int i))(g:0<=i)(h:i < l.length):∃ x∈l,∀ n s,Y (rT (n+w)) s (.ix a b) U (f x):=by
 have c:i.toNat < l.length:=by omega
 refine⟨l[i.toNat],cT c,λn s=>.ixL (e n s) (j:=i.toNat) (by rw[bU g];exact d n s) ?_⟩
 rw[aV,Lg c];rfl
def IsR(m sz:Nat)(d:D):Prop:=∃ r,d=rwE r/\Zu m sz r
def Zia{more:Int}(q:0 < m)(I:m<=1000)(L:sz<=1000):CX 3 29 [.int c,.int more,.int (m:Int),.int (sz:Int)] (IsR m sz):=by
 obtain⟨k,K,z⟩:∃ o,(∀ n s,Y (rT (n+2)) s (.f 28 (.aC (.m (.h (.v 1) (.i 48271)) (.i 2147483647)) (.s 2))) [jI c,jI more,jN m,jN sz,ab,ab,ab,ab,ab] (opE o))/\Wn m o:=⟨_,λn s=>.call (xs:=[.int (more * 48271 % 2147483647),.int (m:Int)]) (.cons (.md (.mul () () rfl) () #[]) (.cons () .nil)) (V6 q),ZfY q⟩
 obtain⟨o2,J,C⟩:∃ o,(∀ n s,Y (rT (n+2)) s (.f 28 (.aC (.m (.h (.p (.v 1) (.i 5)) (.i 1226874159)) (.i 2147483647)) (.s 2))) [jI c,jI more,jN m,jN sz,aa (opE k),ab,ab,ab,ab] (opE o))/\Wn m o:=⟨_,λn s=>.call (xs:=[.int ((more+5) * 1226874159 % 2147483647),.int (m:Int)]) (.cons (.md (.mul (.add () ()) () rfl) () #[]) (.cons () .nil)) (V6 q),ZfY q⟩
 have F:=Zm ((c+1) * 742938285 % 2147483647) (j:=(sz:Int)+1) ∅
 obtain⟨e,G⟩:∃ t:Nat,(c+1) * 742938285 % 2147483647 % ((sz:Int)+1)=(t:Int):=⟨_,(bU F.1).symm⟩;rw[G]at F;have E:=Zm ((more+3) * 950706376 % 2147483647) (j:=(m:Int)) ∅
 obtain⟨x,ex⟩:∃ t:Nat,(more+3) * 950706376 % 2147483647 % (m:Int)=(t:Int):=⟨_,(bU E.1).symm⟩;rw[ex]at E;generalize A:c * 48271 % 2147483647=sg;refine .of (v:=X1) rfl rfl (.set K (.set J (.set (d:=.int sg) (λn s=>by rw[<-A];exact .md (.mul () () rfl) () #[]) (.set (d:=.int (e:Int)) (λn s=>by rw[<-G];exact .md (.md (.mul (.add () ()) () rfl) () #[]) (.add () ()) ∅) (.pick (λn s=>.lts (.md () () #[]) ()) (λ_=>.set (d:=.int (x:Int)) (λn s=>by rw[<-ex];exact .md (.md (.mul (.add () ()) () rfl) () #[]) () ∅) ?_) λ_=>.pick (λn s=>.lts (.md () () #[]) ()) (λ_=>?_) λ_=>.pick (λn s=>.eqi (.md () () #[]) ()) (λ_=>?_) λ_=>.ret (λn s=>.cons () (.cons () .nil)) ⟨.tell k,rfl,z⟩)))))
 .have h:=Zm sg (j:=5) #[]
  obtain⟨g,B,y⟩:=Y.pickL (w:=2) (a:=.lstE (.aC (.t "+") (.aC (.t "-") (.aC (.t "*") (.aC (.t "/") (.u (.t "mod"))))))) (b:=.m (.v 6) (.i 5)) (U:=[jI c,jI more,jN m,jN sz,aa (opE k),aa (opE o2),jI sg,jN e,jN x]) (l:=psL) (f:=D.str) (λn s=>.mk ()) (λn s=>.md () () #[]) h.1 h.2
  exact .ret (λn s=>.cons () (.cons () (.cons () (.cons (y n s) (.cons () .nil))))) ⟨.put x k g o2,rfl,∅,z,B,C⟩
 .have h:=Zm sg (j:=6) #[]
  obtain⟨g,B,y⟩:=Y.pickL (w:=2) (a:=.lstE (.aC (.t "<") (.aC (.t "<=") (.aC (.t "=") (.aC (.t ">=") (.aC (.t ">") (.u (.t "!=")))))))) (b:=.m (.v 6) (.i 6)) (U:=[jI c,jI more,jN m,jN sz,aa (opE k),aa (opE o2),jI sg,jN e,ab]) (l:=isL) (f:=D.str) (λn s=>.mk ()) (λn s=>.md () () #[]) h.1 h.2
  exact .ret (λn s=>.cons () (.cons () (.cons (y n s) (.cons () (.cons () .nil))))) ⟨.ifr k g o2 e,rfl,z,B,C,∅⟩
 .have h:=Zm sg (j:=2) #[]
  obtain⟨r,hr,H⟩:=Y.pickL (w:=2) (a:=.lstE (.aC (.g (.aC (.t "go") (.s 7))) (.u (.g (.u (.t "skip")))))) (b:=.m (.v 6) (.i 2)) (U:=[jI c,jI more,jN m,jN sz,aa (opE k),aa (opE o2),jI sg,jN e,ab]) (l:=[.go e,.skip]) (f:=rwE) (λn s=>.mk ()) (λn s=>.md () () #[]) h.1 h.2
  refine .ret H ⟨r,rfl,?_⟩;rcases aF.mp hr with rfl|hr
  .show e<=sz;omega
  .rw[aM.mp hr];trivial
noncomputable def stI(c:Int):Int×Int:=(c / 8 % 7 - 3,c / 8 % 7 - 3+c / 56 % 3)
def ZaP:C (rT (n+1)) s 284 [.int c] (pdD (stI c)):=
 .of (v:=Yz) rfl rfl (.set (.sub (.md (.fd () () #[]) () #[]) ()) (.ret (.cons () (.cons (.add () (.md (.fd () () #[]) () #[])) .nil))))
def Zji:-10<=(stI c).1/\(stI c).1<=(stI c).2/\(stI c).2<=(stI c).1+2/\(stI c).1<=10:=by
 have b:=Zm (c / 8) (j:=7) #[]
 have a:=Zm (c / 56) (j:=3) #[]
 unfold stI;dsimp only;omega
noncomputable def liI(c:Int):Int:=if c / 11 % 8=3 then 30 else c % 11
def ZjO:0<=liI c/\liI c<=30:=by
 have h:=Zm c (j:=11) #[]
 unfold liI;split<;>omega
def ZdR:C (rT (n+1)) s 102 [.int c] (.int (liI c)):=by
 unfold liI;refine .of (v:=Y2) rfl rfl (.pick (.eqi (.md (.fd () () #[]) () #[]) ()) (λq=>?_) λq=>?_)
 .rw[ao (am q)];exact .ret ()
 .rw[aq (ak q)];exact .ret (.md () () #[])
end
variable{mo:Nat}
section
variable{c:Int}
theorem rl2{I:Env->Prop}{P:Nat->D->Prop}(p:s.length<=j)(r:∀ k,k < N->∀ U st b,I U->Grw s st->st[j]?=aa (ac,b)->b.length < 800->∃ d c st',P k d/\I c/\ex F q (Zf U i (.int (k:Int))) st=aa (.nx c,st')/\Kj j st st'/\st'[j]?=aa (ac,b++[d])):∀ (M a:Nat),a+M=N->∀ U st b,I U->Grw s st->st[j]?=aa (ac,b)->b.length+M<=800->∃ xs c st',xs.length=M/\(∀ (t:Nat) d,xs[t]?=aa d->P (a+t) d)/\I c/\Zj (λd U s=>ex F q (Zf U i d) s) ((List.range' a M).map λ(k:Nat)=>D.int (k:Int)) U st=aa (.nx c,st')/\Kj j st st'/\st'[j]?=aa (ac,b++xs)
 |0,a,_,U,st,b,n,g,h,_=>⟨[],U,st,rfl,λt d h=>(nomatch h),n,rfl,Grw.refl.kj,by rw[bG];exact h⟩
 |M+1,a,J,U,st,b,n,g,h,H=>by
  obtain⟨d,f,s1,z,m,E,o,B⟩:=r a ∅ U st b n g h ∅
  obtain⟨xs,e,u,y,x,l,C,w,A⟩:=rl2 p r M (a+1) ∅ f s1 (b++[d]) m (o.grw p g) B (by rw[aI];show _+1+M<=800;omega)
  refine⟨d :: xs,e,u,by rw[aQ,y],λt G h=>?_,l,?_,o.trans w,by rw[A,bV];rfl⟩
  .cases t with
   |zero=>cases h;exact z
   |succ t=>have:=x t G h;rw[show a+1+t=a+(t+1) by omega]at this;exact this
  .rw[List.range'_succ,aK]
   show(match ex F q (Zf U i (.int (a:Int))) st with
    |some (.nx c,st')=>Zj _ _ c st'
    |some (.ct c,st')=>Zj _ _ c st'
    |some (.bk c,st')=>aa (.nx c,st')
    |some (.rt v,st')=>aa (.rt v,st')
    |none=>ab)=_
   rw[E];exact C
def RP.fillW{I:Nat->Env->Prop}{P:Nat->D->Prop}{v:Int}(A:∀ j,Y F s e (Zf U i0 (.lst j)) (.int v))(u:v=(N:Int))(hN:N<=700)(C:∀ j,I j (Zf U i0 (.lst j)))(g:Grw s st)(z:∀ j,s.length<=j->∀ k,k < N->∀ U st a,I j U->Grw s st->st[j]?=aa (ac,a)->a.length < 800->∃ d b st',P k d/\I j b/\ex F q (Zf U i (.int (k:Int))) st=aa (.nx b,st')/\Kj j st st'/\st'[j]?=aa (ac,a++[d]))(w:∀ j xs b st',xs.length=N->(∀ (t:Nat) d,xs[t]?=aa d->P t d)->I j b->st.length<=j->Grw st st'->st'[j]?=aa (ac,xs)->∃ d t,ex F q' b st'=aa (.rt d,t)/\Grw st t/\Q d t):RP F (.y i0 (.lstE .aN) (.seq (.for1 i ac e q) q')) U st Q:=by
 have m:Grw s (st++[(ac,[])]):=g.trans .push;obtain⟨s1,K,c⟩:=A st.length (st++[(ac,[])]) m;obtain⟨xs,b,l,x,r,f,J,o,E⟩:=rl2 (I:=I st.length) (P:=P) g.len (z st.length g.len) N 0 ∅ _ s1 [] (C st.length) (m.trans c) (c.get ZE) (by show 0+N<=800;omega)
 have n:Grw st l:=(c.kj.trans o).grw (aE _) .push;obtain⟨d,t,H,G,B⟩:=w st.length xs b l x (λt d h=>by have:=r t d h;rw[bH]at this;exact this) f (aE _) n E
 refine⟨d,t,(Ze (p:=.set i0 (.lstE .aN)) (s':=st++[(ac,[])]) rfl).trans ((Ze ?_).trans H),G,B⟩;rw[Wg (v:=v) ∅ ∅ K,u,bA,List.range_eq_range']
 exact J
inductive Pg(mo:Nat)(d:D):Prop where
 |mk (tks:List (Int×Int)) (m:Nat) (rs:List Rw) (e:d=pgD (.tup (tks.map pdD)) m rs) (nw:Nw tks) (t:tks.length<=m) (m4:m<=4) (r:Rs m rs) (l:rs.length<=mo)
def ZeY:∀ {xs:Li D},(∀ (t:Nat) d,xs[t]?=aa d->IsR m sz d)->∃ rs:Li Rw,xs=rs.map rwE/\∀ r∈rs,Zu m sz r:=λ{xs} h=>W9 λd b=>by
 obtain⟨t,a⟩:=List.getElem?_of_mem b;exact h t d a
def ZcJ{b:D->Li (Ot D)}{en g:α->D}{l:Li α}(f:Wk F s it U wk (l.map en))(e:l.length<=1000)(h:∀ a∈l,Y F s elt (Yg b U fr (en a)) (g a))(k:Grw s st):∃ st' j,YZ b wk fr (ev F it) (ev F elt) (ev F (.c (.bl ac))) U st=aa (.lst j,st')/\st'[j]?=aa (ac,l.map g)/\Grw st st':=by
 obtain⟨s1,j,m,i,d⟩:=UQ f e h st k;exact⟨s1,j,m,i,d⟩
def Zh0{v:Int}(b:v < 2 ^ 62)(a:-(2 ^ 62)<=v)(h:Y F s e U (.int v)):Wk F s e U (Xf ac) ((ag v.toNat).map λ(k:Nat)=>D.int (k:Int)):=.of h λst=>by
 unfold Xf;rw[ZcF b a]
def n62{v:Int}(a:0<=v)(h:v<=700):v < 2 ^ 62/\-(2 ^ 62)<=v:=⟨∅,∅⟩
def ZdL(a:N<=700)(h:Y F s e U (.int (N:Int))):Wk F s e U (Xf ac) ((ag N).map λ(k:Nat)=>D.int (k:Int)):=by
 have b:=n62 (v:=(N:Int)) ∅ ∅
 have:=Zh0 b.1 b.2 h;rw[bA]at this;exact this
def WQ{x7 x8:Ot D}{tk:Nat}{ht:Int}{rs:Li Rw}(c:tk<=3)(d:st[j]?=aa (ac,rs.map rwE))(g:Grw (S0 ns) st):∃ (tks:Li (Int×Int)) (t:Za),tks.length=tk/\Nw tks/\Grw st t/\ex (rT (n+4)) (.y 9 Yd (.q (.g (.aC (.tOf (.v 9)) (.a 4 (.u (.tOf (.v 6)))))))) [jL 0,jN mo,jI ht,jN tk,jN m,jN sz,jL j,x7,x8,ab] st=aa (.rt (pgD (.tup (tks.map pdD)) m rs),t):=by
 obtain⟨s1,w,I,h,e⟩:=ZcJ (F:=rT (n+4)) (s:=S0 ns) (st:=st) (U:=[jL 0,jN mo,jI ht,jN tk,jN m,jN sz,jL j,x7,x8,ab]) (b:=one) (wk:=Xf ac) (fr:=[0]) (it:=.v 3) (elt:=.call 284 (.u (.f 27 (.a 1 (.u (.p (.i 2) (.v 0)))))) []) (l:=ag tk) (en:=λ(k:Nat)=>D.int (k:Int)) (g:=λk=>pdD (stI (ceI ns (2+k)))) (ZdL ∅ ()) (by rw[bT];omega) (λk C=>by
  have:=cA.mp C;refine .call1 (x:=.int (ceI ns (2+k))) (.call (xs:=[.lst 0,.int ((2+k:Nat):Int)]) (.cons () (.cons (by rw[bO];exact .add () ()) .nil)) (Xj (n:=n+3) ∅)) (ZaP (n:=n+3))) g
 have E:(ag tk).map (λk=>pdD (stI (ceI ns (2+k))))=((ag tk).map λk=>stI (ceI ns (2+k))).map pdD:=by rw[aZ];rfl
 rw[E]at h;have o:=Y.cons (F:=rT (n+4)) (s:=s1) (U:=[jL 0,jN mo,jI ht,jN tk,jN m,jN sz,jL j,x7,x8,jL w]) (a:=.tOf (.v 9)) (b:=.a 4 (.u (.tOf (.v 6)))) (.tof h ()) (.cons (x:=.int (m:Int)) () (.cons (.tof (e.get d) ()) .nil))
 obtain⟨z,H,A⟩:=o s1 .refl;have G:ex (rT (n+4)) (.set 9 Yd) [jL 0,jN mo,jI ht,jN tk,jN m,jN sz,jL j,x7,x8,ab] st=aa (.nx [jL 0,jN mo,jI ht,jN tk,jN m,jN sz,jL j,x7,x8,jL w],s1):=Zs I
 exact⟨(ag tk).map λk=>stI (ceI ns (2+k)),z,by rw[aD,bT],⟨by rw[aD,bT];exact c,λp B=>by obtain⟨k,_,rfl⟩:=aL.mp B;exact Zji⟩,e.trans A,(Ze G).trans (Zt (Yn H))⟩
end
section
variable{c:Int}
def Zjs{t:Za}(h:ev F e U st=aa (d,t))(c:U[i]?=aa (jL j))(b:t[j]?=aa (ac,xs))(a:xs≠[])(f:xs.length<=1000):ex F (.put i (.neg (.i 1)) e) U st=aa (.nx U,t.set j (ac,xs.set (xs.length - 1) d)):=by
 have g:0 < xs.length:=List.length_pos_iff.mpr a;show Zdk i (λ_ s=>aa (.int (-1),s)) (ev F e) U st=_
 unfold Zdk;simp only[h,c];unfold U8;simp only[b];unfold ixN;rw[aq #[],ao ∅,show(-1+(xs.length:Int)).toNat=xs.length - 1 by omega]
def Rs.of{rs:Li Rw}(h:∀ r∈rs,Zu m sz r)(b:rs.length=sz)(c:sz<=50):Rs m rs:=⟨∅,λr a=>by rw[b];exact h r a⟩
def Zgn(hmo:mo<=4)(g:Grw (S0 ns) st):CP (rT (n+5)) 30 [.lst 0,.int (mo:Int)] st λd _=>Pg mo d:=by
 obtain⟨l,ehd,hd0⟩:∃ v,(∀ U:Env,U[0]?=aa (jL 0)->Y (rT (n+4)) (S0 ns) (.m (.f 27 (.a 0 (.u (.i 0)))) (.i 2147483647)) U (.int v))/\0<=v:=⟨ceI ns 0 % 2147483647,λU h=>.md (.call (xs:=[.lst 0,.int ((0:Nat):Int)]) (.cons (.v h) (.cons () .nil)) (Xj (n:=n+3) ∅)) () #[],(Zm _ #[]).1⟩
 have h4:=Zm l (j:=4) #[]
 obtain⟨tk,L⟩:∃ t:Nat,l % 4=(t:Int):=⟨_,(bU h4.1).symm⟩;rw[L]at h4;have h2:=Zm (l / 4) (j:=2) #[]
 obtain⟨m,em⟩:∃ m:Nat,(if (tk:Int)+l / 4 % 2 * 1 > 1 then (tk:Int)+l / 4 % 2 * 1 else 1)=(m:Int):=⟨_,(bU (by split<;>omega)).symm⟩
 have hm:1<=m/\tk<=m/\m<=4:=by
  have:(m:Int)=_:=em.symm;split at this<;>omega
 have hz:=Zm (ceI ns 1) (j:=(mo:Int)+1) ∅
 obtain⟨sz,M⟩:∃ t:Nat,ceI ns 1 % ((mo:Int)+1)=(t:Int):=⟨_,(bU hz.1).symm⟩;rw[M]at hz;have hx:=Zm (l / 32) (j:=(m:Int)) ∅
 obtain⟨x,K⟩:∃ t:Nat,l / 32 % (m:Int)=(t:Int):=⟨_,(bU hx.1).symm⟩;rw[K]at hx;have yb:∀ {s:Za}{B x8 x7 x6 x5 x4 x1 x0:Ot D},Y (rT (n+4)) s (.max (.i 1) (.p (.v 3) (.h (.m (.k (.v 2) (.i 4)) (.i 2)) (.intOf (.cmp .Lt (.v 3) (.i 4)))))) [x0,x1,jI l,jN tk,x4,x5,x6,x7,x8,B] (.int (m:Int)):=λ{s B x8 x7 x6 x5 x4 x1 x0}=>by
  rw[<-em];refine Dp.g2 (x:=.int 1) (y:=.int ((tk:Int)+l / 4 % 2 * 1)) () (.add () (.mul (.md (.fd () () #[]) () #[]) (j:=1) (g1 (x:=.bl ac) (.cmp (x:=.int (tk:Int)) (y:=.int 4) () () λ_=>au aa (aP ∅)) (gp λ_=>rfl)) rfl)) (gp λ_=>rfl)
 refine .of (v:=Yy) rfl rfl (.setY (ehd _ rfl) g λs1 Q=>.setY (s:=S0 ns) (d:=.int (tk:Int)) (by rw[<-L];exact .md () () #[]) (g.trans Q) λs2 X=>.setY (s:=S0 ns) yb (g.trans (Q.trans X)) λs3 k3=>.setY (s:=S0 ns) (d:=.int (sz:Int)) (by rw[<-M];exact .md (.call (xs:=[.lst 0,.int ((1:Nat):Int)]) () (Xj (n:=n+3) ∅)) (.add () ()) ∅) (g.trans (Q.trans (X.trans k3))) λs4 k4=>?_)
 have g4:Grw (S0 ns) s4:=g.trans (Q.trans (X.trans (k3.trans k4)));refine .fillW (s:=S0 ns) (N:=sz) (i0:=6) (i:=7) (I:=λj U=>∃ y z,U=[jL 0,jN mo,jI l,jN tk,jN m,jN sz,jL j,y,z,ab]) (P:=λ_ d=>IsR m sz d) (λj=>.r rf) rfl ∅ (λj=>⟨ab,ab,rfl⟩) g4 (λj hj k hk U t acc hI J ht hc=>?_) λj xs U t Z hP hI jl J ht=>?_
 .obtain⟨y,z,rfl⟩:=hI
  obtain⟨dr,H,r,er,ok⟩:=Zia (c:=ceI ns (5+2 * k)) (more:=ceI ns (6+2 * k)) (m:=m) (sz:=sz) ∅ ∅ ∅
  have lk:Z9 (k:Int)=ac:=Jp ∅
  have O:∀ (w:Int) (v:Nat) {s:Za}{x8 B:Ot D},(v:Int)=w->Y (rT (n+4)) s (.p (.i w) (.h (.i 2) (.v 7))) [jL 0,jN mo,jI l,jN tk,jN m,jN sz,jL j,jN k,x8,B] (.int ((v+2 * k:Nat):Int)):=λw v {s x8 B} e=>by
   rw[bO,eC,e];exact .add () (.mul () () lk)
  have A:=Ap.seq (F:=rT (n+4)) (s:=S0 ns) hj (q:=.set 8 (.f 27 (.a 0 (.u (.p (.i 5) (.h (.i 2) (.v 7))))))) (U:=[jL 0,jN mo,jI l,jN tk,jN m,jN sz,jL j,jN k,z,ab]) (.set (.call (xs:=[.lst 0,.int ((5+2 * k:Nat):Int)]) (.cons () (.cons (O 5 5 rfl) .nil)) (Xj (n:=n+3) ∅))) (.one (.app (i:=6) (e:=.call 29 (.a 8 (.aC (.f 27 (.a 0 (.u (.p (.i 6) (.h (.i 2) (.v 7)))))) (.a 4 (.s 5)))) []) rfl (.call (xs:=[.int (ceI ns (5+2 * k)),.int (ceI ns (6+2 * k)),.int (m:Int),.int (sz:Int)]) (.cons () (.cons (.call (xs:=[.lst 0,.int ((6+2 * k:Nat):Int)]) (.cons () (.cons (O 6 6 rfl) .nil)) (Xj (n:=n+3) ∅)) (.cons () (.cons () .nil)))) (H (n+1) _))))
  obtain⟨t',e',k',h'⟩:=A t acc J ht (by show _+1<=90000;omega)
  exact⟨dr,_,t',⟨r,er,ok⟩,⟨_,_,rfl⟩,e',k',h'⟩
 .obtain⟨y,z,rfl⟩:=hI
  obtain⟨rs,rfl,G⟩:=ZeY hP;rw[aD]at Z;have gS:Grw (S0 ns) t:=g4.trans J;have O:Y (rT (n+4)) t (.and (.cmp .Gt (.v 5) (.i 0)) (.cmp .Gt (.m (.k (.v 2) (.i 8)) (.i 4)) (.i 0))) [jL 0,jN mo,jI l,jN tk,jN m,jN sz,jL j,y,z,ab] (.bl (aj (0 < (sz:Int))&&aj (0 < l / 8 % 4))):=.and (.gts () ()) λ_=>.gts (.md (.fd () () #[]) () #[]) ()
  obtain⟨t1,S,C⟩:=O t .refl;cases V:aj (0 < (sz:Int))&&aj (0 < l / 8 % 4) with
  |false=>
   rw[V]at S;obtain⟨o,T,lt,W,R,e2⟩:=WQ (n:=n) (m:=m) (sz:=sz) (x7:=y) (x8:=z) (ht:=l) (tk:=tk) (mo:=mo) (rs:=rs) ∅ (C.get ht) (gS.trans C)
   exact⟨_,T,(Ze ((Wm S).trans Zh)).trans e2,J.trans (C.trans R),o,m,rs,rfl,W,∅,∅,.of G Z ∅,∅⟩
  |true=>
   rw[V]at S;rw[Ba,bF]at V;have yt:=Y.cons (F:=rT (n+4)) (s:=t1) (a:=.t "tell") (b:=.aC (.g (.aC (.t "name") (.u (.m (.k (.v 2) (.i 32)) (.v 4))))) .aN) (U:=[jL 0,jN mo,jI l,jN tk,jN m,jN sz,jL j,y,z,ab]) (x:=.str "tell") (xs:=[opE (.nm x)]) () (.cons (.cons () (.cons (by rw[<-K];exact .md (.fd () () #[]) () ∅) .nil)) .nil)
   obtain⟨T,e2,R⟩:=yt t1 .refl;have E:=(C.trans R).get ht;have ep:=Zjs (F:=rT (n+4)) (e:=.g (.aC (.t "tell") (.u (.g (.aC (.t "name") (.u (.m (.k (.v 2) (.i 32)) (.v 4)))))))) (i:=6) e2 rfl E (λh=>by have:=au List.length h;rw[aD]at this;have:rs.length=0:=this;omega) (by rw[aD];omega)
   rw[aD,show D.tup [.str "tell",opE (.nm x)]=rwE (.tell (.nm x)) from rfl,<-List.map_set]at ep;have g5:Grw s4 (T.set j (ac,(rs.set (rs.length - 1) (.tell (.nm x))).map rwE)):=Y6 (J.trans (C.trans R)) jl;obtain⟨o,t3,lt,W,j3,e3⟩:=WQ (n:=n) (m:=m) (sz:=sz) (x7:=y) (x8:=z) (ht:=l) (tk:=tk) (mo:=mo) (rs:=rs.set (rs.length - 1) (.tell (.nm x))) ∅ (bR (Zk E)) (g4.trans g5)
   refine⟨_,t3,(Ze ((XJ S).trans ((Ze ep).trans Zh))).trans e3,g5.trans j3,o,m,_,rfl,W,∅,∅,Rs.of (sz:=sz) (λr H=>?_) (by rw[aY];exact Z) ∅,by rw[aY];omega⟩
   rcases eK H with H|rfl
   .exact G r H
   .show x < m;omega
def Ts(a:Nat)(d:D):Prop:=∃ tr:Li (Li Int),d=.tup (tr.map inT)/\tr.length<=3/\∀ ins∈tr,ins.length=a/\∀ v∈ins,Sm v
def Zbx{m f:Nat}(h1:m<=100)(h2:f<=3)(g:Grw (S0 ns) st):CP (rT (n+3)) 51 [.lst 0,.int (m:Int),.int (f:Int)] st λd _=>Ts f d:=by
 have T:=Zm (ceI ns m) (j:=4) #[]
 obtain⟨N,V⟩:∃ t:Nat,ceI ns m % 4=(t:Int):=⟨_,(bU T.1).symm⟩;rw[V]at T;refine .of (v:=YQ) rfl rfl (.fillW (s:=S0 ns) (N:=N) (i0:=3) (i:=4) (I:=λj U=>∃ y z,U=[jL 0,jN m,jN f,jL j,y,z]) (P:=λ_ d=>∃ ins:Li Int,d=inT ins/\(ins.length=f/\∀ v∈ins,Sm v)) (v:=(N:Int)) (λj=>by rw[<-V];exact .md (.call (xs:=[.lst 0,.int (m:Int)]) () (Xj (n:=n+1) ∅)) () #[]) rfl ∅ (λj=>⟨ab,ab,rfl⟩) g (λj hj k hk U t R K M B hc=>?_) λj xs U t hl hP K jl M B=>?_)
 .obtain⟨y,z,rfl⟩:=K
  have kt:k * f<=3 * 3:=dQ ∅ h2
  have C:Z9 (f:Int)=ac:=Jp ∅
  obtain⟨A,w,e1,q,G⟩:=ZcJ (F:=rT (n+2)) (s:=S0 ns) (st:=t) (U:=[jL 0,jN m,jN f,jL j,jN k,z]) (b:=one) (wk:=Xf ac) (fr:=[4,0,1,2]) (it:=.v 2) (elt:=.call 27 (.a 2 (.u (.p (.p (.p (.v 3) (.i 1)) (.h (.v 1) (.v 4))) (.v 0)))) []) (l:=ag f) (en:=λ(k:Nat)=>D.int (k:Int)) (g:=λi=>D.int (ceI ns (m+1+k * f+i))) (ZdL ∅ ()) (by rw[bT];omega) (λi J=>by
   have:=cA.mp J;exact .call (xs:=[.lst 0,.int ((m+1+k * f+i:Nat):Int)]) (.cons () (.cons (by
    rw[bO,bO,bO,eC];exact .add (.add (.add () ()) (.mul () () C)) ()) .nil)) (Xj (n:=n+1) ∅)) M
  have ez:(ag f).map (λi=>D.int (ceI ns (m+1+k * f+i)))=((ag f).map λi=>ceI ns (m+1+k * f+i)).map D.int:=by rw[aZ];rfl
  rw[ez]at q;obtain⟨o,Q,E⟩:∃ o:Li Int,(ag f).map (λi=>ceI ns (m+1+k * f+i))=o/\o.length=f:=⟨_,rfl,by rw[aD,bT]⟩
  rw[Q]at q;have Y:j < A.length:=aU (Zk B) G.len;have S:=Ug (F:=rT (n+2)) (s:=A) (U:=[jL 0,jN m,jN f,jL j,jN k,jL w]) (b:=one) (wk:=Xf ae) (fr:=[]) (it:=.v 5) (elt:=.call 19 (.s 0) []) (l:=o) (en:=D.int) (g:=λc=>D.int (smI c)) (Wk.lst q ()) ∅ λc _=>.call1 (x:=.int c) () (JW (n:=n+1))
  have O:o.map (λc=>D.int (smI c))=inZ (o.map smI):=by unfold inZ;rw[aZ];rfl
  rw[O]at S;obtain⟨W,e2,X,L⟩:=Ap.app (F:=rT (n+2)) (s:=A) (j:=j) (i:=3) (e:=.tOf Xc) (U:=[jL 0,jN m,jN f,jL j,jN k,jL w]) (d:=inT (o.map smI)) rfl (Lv.tof S) A R .refl (G.get B) (by show _+1<=90000;omega)
  have e3:ex (rT (n+2)) (.set 5 Xb) [jL 0,jN m,jN f,jL j,jN k,z] t=aa (.nx [jL 0,jN m,jN f,jL j,jN k,jL w],A):=Zs e1;exact⟨inT (o.map smI),_,W,⟨o.map smI,rfl,by rw[aD];exact E,λv Z=>by obtain⟨c,_,rfl⟩:=aL.mp Z;exact Zf8⟩,⟨_,_,rfl⟩,(Ze e3).trans ((Ze e2).trans Zh),G.kj.trans X,L⟩
 .obtain⟨y,z,rfl⟩:=K
  obtain⟨tr,rfl,H⟩:=W9 (en:=inT) (P:=λins=>ins.length=f/\∀ v∈ins,Sm v) (ys:=xs) λd hd=>by
   obtain⟨i,J⟩:=List.getElem?_of_mem hd;exact hP i d J
  rw[aD]at hl;exact⟨_,t,Zt (Yn (YJ (c:=(ac,tr.map inT)) rfl B)),M,tr,rfl,∅,H⟩
end
noncomputable abbrev Gr:=Li Rw×Nat×Li Nat
noncomputable def inK(ks:Li Nat):Li D:=ks.map λ(k:Nat)=>D.int (k:Int)
def enG(a:D)(m:Nat)(g:Gr):D:=.tup [pgD a m g.1,.lst g.2.1]
def mkR(rs:Li Rw)(p:Nat×Str×Rw):Li Rw:=mdL (rs.set p.1 p.2.2)
structure Tw(tks:List (Int×Int))(m:Nat)(rs:List Rw)(s:Za)(js a:Nat)(k:Nat)(sm:List Nat)(G:List Gr)(st:Za):Prop where
 g:Grw s st
 hs:st[js]?=aa (ac,inK sm)
 ha:st[a]?=aa (ac,.non :: G.map (enG (.tup (tks.map pdD)) m))
 b:s.length<=js/\s.length<=a/\js≠a
 c:∀ g∈G,st[g.2.1]?=aa (ac,inK g.2.2)/\s.length<=g.2.1/\g.2.1≠js/\g.2.1≠a
 nd:(G.map λg=>g.2.1).Nodup
 l:G.length<=k
 ll:sm.length<=k/\∀ g∈G,g.2.2.length<=k
 sm:∀ i p,(fkL rs)[i]?=aa p->(i∈sm↔i < k/\mkR rs p=mdL rs)
 gm:∀ g∈G,g.1≠mdL rs/\g.2.2≠[]/\∀ i∈g.2.2,i < k/\∃ p,(fkL rs)[i]?=aa p/\mkR rs p=g.1
abbrev Ew(b:Li (Int×Int))(m:Nat)(rs:Li Rw)(c a k:Nat)(p:Nat×Str×Rw)(w:Ot D):Env:=[aa (pgD (.tup (b.map pdD)) m rs),aa (pgD (.tup (b.map pdD)) m (mdL rs)),jL c,aa (.dic a),jN k,aa (tD p),w]
variable{js:Nat}{sm:Li Nat}
section
variable{a:Nat}{G:Li Gr}{p:Nat×Str×Rw}{x y:Li Rw}{v4 v5 v6:Ot D}
def ZbG:Zn (pgD (.tup (tks.map pdD)) m x) (pgD (.tup (tks.map pdD)) m y)=aj (x=y):=by
 have k:okD 8 (pgD (.tup (tks.map pdD)) m x)=ac:=Uj;refine(Yu k).trans (decide_eq_decide.mpr ⟨λh=>?_,λh=>by rw[h]⟩)
 injection h with _ h;injection h with _ h;injection h with h _;injection h with h
 exact U4 h
def Zg9:(okN 8 (pgD (.tup (tks.map pdD)) m x)&&VE (pgD (.tup (tks.map pdD)) m x))=ac:=by
 have c:(tks.map pdD).all (okN 6)=ac:=cD.mpr λd a=>by obtain⟨p,_,rfl⟩:=aL.mp a;rfl
 have b:(x.map rwE).all (okN 6)=ac:=cD.mpr λd a=>by
  obtain⟨r,_,rfl⟩:=aL.mp a;cases r with
  |put x y g z=>cases y<;>cases z<;>rfl
  |ifr y g z t=>cases y<;>cases z<;>rfl
  |tell y=>cases y<;>rfl
  |go t=>rfl
  |skip=>rfl
 show(((tks.map pdD).all (okN 6)&&(ac&&((x.map rwE).all (okN 6)&&ac)))&&ac)=ac;rw[c,b];rfl
theorem Zb8:∀ {G:Li Gr},Xw (pgD (.tup (tks.map pdD)) m x) (G.map (enG (.tup (tks.map pdD)) m))=(G.find? λg=>aj (g.1=x)).map λg=>g.2.1
 |[]=>rfl
 |g :: G=>by
  rw[aK,cC];show(if Zn (pgD (.tup (tks.map pdD)) m g.1) (pgD (.tup (tks.map pdD)) m x)=ac then aa g.2.1 else Xw _ (G.map _))=_
  rw[ZbG];cases q:aj (g.1=x) with
  |true=>rfl
  |false=>exact Zb8
theorem ZdI:∀ {G:Li Gr},XI (G.map (enG tk m))=aa (G.map λg=>.lst g.2.1)
 |[]=>rfl
 |g :: G=>by show(XI (G.map (enG tk m))).map (D.lst g.2.1 :: ·)=_;rw[ZdI];rfl
def Zaf{ks:Li Nat}:inK (ks++[k])=inK ks++[.int (k:Int)]:=by unfold inK;rw[bN];rfl
def ZiG(h:(fkL rs)[i]?=aa p):p∈fkL rs:=aT h
def ZfT{l:Li α}{x:α}(h:n=l.length):(l++[x])[n]?=aa x:=by subst h;rw[cB (aE _),dO];rfl
def Ux(h:st[j]?=aa (ac,xs))(a:xs.length<=1000):VY j d st=aa (st.set j (ac,xs++[d])):=by
 unfold VY;rw[h];exact ao (by unfold Zp;omega)
def Zjr{v:Nat}(e:U[i]?=aa (jL j))(a:U[v]?=aa (aa d))(c:st[j]?=aa (ac,xs))(b:xs.length<=1000):ex F (.app i (.v v)) U st=aa (.nx U,st.set j (ac,xs++[d])):=by
 show Q0 i (Yh v) U st=_;unfold Q0 Yh;simp only[e,a,Ux c b]
def Zjt{es:Li D}{v w:Nat}{b:D}(l:U[i]?=aa (aa (.dic a)))(f:U[w]?=aa (aa b))(g:U[v]?=aa (aa d))(ok:(okN 8 b&&VE b)=ac)(m:st[a]?=aa (ac,.non :: es))(k:es.length < 1000) :
  (∀ j xs,Xw b es=aa j->st[j]?=aa (ac,xs)->xs.length<=1000->ex F (.sda i (.v w) (.v v)) U st=aa (.nx U,st.set j (ac,xs++[d]))) /\
  (Xw b es=ab->ex F (.sda i (.v w) (.v v)) U st=aa (.nx U,(st.set a (ac,.non :: (es++[.tup [b,.lst st.length]])))++[(ac,[d])])):=by
 refine⟨λj xs c o n=>?_,λc=>?_⟩
 .show JH i (Yh w) (Yh v) U st=_
  unfold JH Yh;simp only[l,f,g,ok,if_true,m,k,c,Ux o n]
 .have e:VY st.length d (st.set a (ac,.non :: (es++[.tup [b,.lst st.length]]))++[(ac,[])])=aa ((st.set a (ac,.non :: (es++[.tup [b,.lst st.length]])))++[(ac,[d])]):=by
   have h:st.length=(st.set a (ac,.non :: (es++[.tup [b,.lst st.length]]))).length:=(aY).symm;have:=Ux (d:=d) (st:=st.set a (ac,.non :: (es++[.tup [b,.lst st.length]]))++[(ac,[])]) (j:=st.length) (xs:=[]) (ZfT h) #[]
   rw[this]
   congr 1
   generalize p:st.set a (ac,D.non :: (es++[D.tup [b,D.lst st.length]]))=st' at *
   rw[List.set_append_right _ _ ∅,h,dO]
   rfl
  show JH i (Yh w) (Yh v) U st=_;unfold JH Yh;simp only[l,f,g,ok,if_true,m,k,c,e]
def Zfq(X:Rs m rs)(P:(fkL rs)[k]?=aa p)(hk:k < 900)(h:Tw tks m rs s js a k sm G st):∃ T G' w6 st',ex (rT (n+7)) Yr (Ew tks m rs js a k p v6) st=aa (.nx (Ew tks m rs js a k p w6),st')/\Tw tks m rs s js a (k+1) T G' st':=by
 obtain⟨L,Q⟩:=WG X (ZiG P);have rl:=X.l;have hs:=X.set (k:=p.1) Q;have y6:Y (rT (n+7)) st (.f 106 (.u (.f 180 (.a 0 (.aC (.x 5 0) (.u (.x 5 2))))))) (Ew tks m rs js a k p v6) (pgD (.tup (tks.map pdD)) m (mkR rs p)):=.call1 (.call (xs:=[pgD (.tup (tks.map pdD)) m rs,.int (p.1:Int),rwE p.2.2]) () (Qb (n:=n+5) L ∅)) (Ut (n:=n+1) hs.ok (by rw[aY];omega))
 obtain⟨t1,e1,k1⟩:=y6 st .refl;have yc:Y (rT (n+7)) t1 (.e (.v 6) (.v 1)) (Ew tks m rs js a k p (aa (pgD (.tup (tks.map pdD)) m (mkR rs p)))) (.bl (aj (mkR rs p=mdL rs))):=by
  rw[<-ZbG (tks:=tks) (m:=m)];exact .eqd () () Uj Uj
 obtain⟨j,S,k2⟩:=yc t1 .refl;have R:=k1.trans k2;have B:=R.get h.hs;have I:=R.get h.ha;obtain⟨b1,b2,b3⟩:=h.b;have d:∀ g∈G,j[g.2.1]?=aa (ac,inK g.2.2)/\s.length<=g.2.1/\g.2.1≠js/\g.2.1≠a:=λg hg=>⟨R.get (h.c g hg).1,(h.c g hg).2⟩
 have g2:=h.g.trans R;have ik:∀ {ks:Li Nat},(inK ks).length=ks.length:=aD ..;have N:mkR rs p≠mdL rs->∀ i q,(fkL rs)[i]?=aa q->(i∈sm↔i < k+1/\mkR rs q=mdL rs):=λV i q J=>(h.sm i q J).trans ⟨λz=>⟨∅,z.2⟩,λz=>⟨by
  rcases Nat.lt_succ_iff_lt_or_eq.mp z.1 with w|w
  .exact w
  .subst w
   rw[P]at J;cases J;exact ar z.2 V,z.2⟩⟩
 have K:∀ g∈G,g.1≠mdL rs/\g.2.2≠[]/\∀ i∈g.2.2,i < k+1/\∃ p,(fkL rs)[i]?=aa p/\mkR rs p=g.1:=λg hg=>⟨(h.gm g hg).1,(h.gm g hg).2.1,λi hi=>⟨by have:=((h.gm g hg).2.2 i hi).1;omega,((h.gm g hg).2.2 i hi).2⟩⟩
 have A:sm.length<=k+1/\∀ g∈G,g.2.2.length<=k+1:=⟨by have:=h.ll.1;omega,λg hg=>by have:=h.ll.2 g hg;omega⟩
 by_cases c:mkR rs p=mdL rs
 .rw[aP c]at S
  have M:=Zjr (F:=rT (n+7)) (i:=2) (v:=4) (U:=Ew tks m rs js a k p (aa (pgD (.tup (tks.map pdD)) m (mkR rs p)))) rfl rfl B (by rw[ik];have:=h.ll.1;omega)
  refine⟨sm++[k],G,_,_,(Ze (Zs e1)).trans ((Ze ((XJ S).trans ((Ze M).trans Zh))).trans Zh),⟨Y6 g2 b1,by rw[bR (Zk B),Zaf],by rw[bJ b3];exact I,h.b,λg hg=>⟨by rw[bJ (Ne.symm (d g hg).2.2.1)];exact(d g hg).1,(d g hg).2⟩,h.nd,by have:=h.l;omega,⟨by rw[aI];have:=h.ll.1;show _+1<=_;omega,A.2⟩,λi q J=>?_,K⟩⟩
  rw[bC,h.sm i q J,aM];refine⟨λz=>z.elim (λz=>⟨∅,z.2⟩) λz=>?_,λz=>?_⟩
  .subst z
   rw[P]at J;cases J;exact⟨bL _,c⟩
  .rcases Nat.lt_succ_iff_lt_or_eq.mp z.1 with w|w
   .exact .inl ⟨w,z.2⟩
   .exact .inr w
 .rw[aH c]at S
  have hl:=h.l;obtain⟨z1,z2⟩:=Zjt (F:=rT (n+7)) (i:=3) (v:=4) (w:=6) (U:=Ew tks m rs js a k p (aa (pgD (.tup (tks.map pdD)) m (mkR rs p)))) (a:=a) rfl rfl rfl Zg9 I (by rw[aD];omega)
  rw[Zb8]at z1 z2;have pre:∀ {t3},ex (rT (n+7)) (.sda 3 (.v 6) (.v 4)) (Ew tks m rs js a k p (aa (pgD (.tup (tks.map pdD)) m (mkR rs p)))) j=aa (.nx (Ew tks m rs js a k p (aa (pgD (.tup (tks.map pdD)) m (mkR rs p)))),t3)->ex (rT (n+7)) Yr (Ew tks m rs js a k p v6) st=aa (.nx (Ew tks m rs js a k p (aa (pgD (.tup (tks.map pdD)) m (mkR rs p)))),t3):=λM=>(Ze (Zs e1)).trans ((Ze ((Wm S).trans ((Ze M).trans Zh))).trans Zh)
  cases q:G.find? (λg=>aj (g.1=mkR rs p)) with
  |some o=>
   have H:=List.mem_of_find?_eq_some q;have Z:o.1=mkR rs p:=am (List.find?_some (p:=λg:Gr=>aj (g.1=mkR rs p)) q)
   obtain⟨c1,c2,c3,c4⟩:=d o H;have M:=z1 o.2.1 _ (by rw[q];rfl) c1 (by rw[ik];have:=h.ll.2 o H;omega)
   have nd:=h.nd;have one:∀ g∈G,g.2.1=o.2.1->g=o:=λg hg e=>by
    obtain⟨i,hi⟩:=eJ.mp hg;obtain⟨i0,C⟩:=eJ.mp H;have h1:=Zk hi;have h2:=Zk C;have:i=i0:=by
     refine(List.getElem_inj (h₀:=by rw[aD];exact h1) (h₁:=by rw[aD];exact h2) nd).mp ?_
     rw[List.getElem_map,List.getElem_map];rw[Lg h1]at hi;rw[Lg h2]at C;rw[av hi,av C];exact e
    subst this;rw[hi]at C;exact av C
   let f:Gr->Gr:=λg=>if g.2.1=o.2.1 then (g.1,g.2.1,g.2.2++[k]) else g
   have L:∀ g,(f g).1=g.1/\(f g).2.1=g.2.1:=λg=>by show(if _ then _ else _:Gr).1=_/\(if _ then _ else _:Gr).2.1=_;split<;>exact⟨rfl,rfl⟩
   have Q:∀ g∈G,(g=o/\(f g).2.2=o.2.2++[k])\/(g.2.1≠o.2.1/\(f g).2.2=g.2.2):=λg hg=>by
    by_cases w:g.2.1=o.2.1
    .have:=one g hg w
     subst this;exact .inl ⟨rfl,by show(if _ then _ else _:Gr).2.2=_;rw[ao rfl]⟩
    .exact .inr ⟨w,by show(if _ then _ else _:Gr).2.2=_;rw[aq w]⟩
   have em:(G.map f).map (enG (.tup (tks.map pdD)) m)=G.map (enG (.tup (tks.map pdD)) m):=by
    rw[aZ];exact List.map_congr_left λg _=>by show D.tup [pgD _ m (f g).1,.lst (f g).2.1]=_;rw[(L g).1,(L g).2];rfl
   refine⟨sm,G.map f,_,_,pre M,⟨Y6 g2 c2,by rw[bJ c3];exact B,by rw[bJ c4,em];exact I,h.b,λg' E=>?_,?_,by rw[aD];omega,⟨A.1,λg' E=>?_⟩,N c,λg' E=>?_⟩⟩
   .obtain⟨g,hg,rfl⟩:=aL.mp E
    rw[(L g).2];refine⟨?_,(d g hg).2⟩;rcases Q g hg with⟨w,t⟩|⟨w,t⟩
    .rw[t,w,bR (Zk c1),Zaf]
    .rw[t,bJ (Ne.symm w)];exact(d g hg).1
   .rw[aZ]
    rw[show((λg:Gr=>g.2.1) ∘ f)=λg=>g.2.1 from funext λg=>(L g).2]
    exact nd
   .obtain⟨g,hg,rfl⟩:=aL.mp E
    rcases Q g hg with⟨_,t⟩|⟨_,t⟩
    .rw[t,aI];have:=h.ll.2 o H;show _+1<=_;omega
    .rw[t];exact A.2 g hg
   .obtain⟨g,hg,rfl⟩:=aL.mp E
    rw[(L g).1];obtain⟨o1,o2,o3⟩:=K g hg;refine⟨o1,?_⟩;rcases Q g hg with⟨w,t⟩|⟨_,t⟩
    .rw[t]
     refine⟨by simp,λi hi=>?_⟩
     rcases bC.mp hi with hi|hi
     .exact o3 i (by rw[w];exact hi)
     .rw[aM.mp hi]
      exact⟨bL _,p,P,by rw[w,Z]⟩
    .rw[t];exact⟨o2,o3⟩
  |none=>
   have M:=z2 (by rw[q];rfl)
   have la:=Zk I;have lj:=Zk B;have W:(j.set a (ac,D.non :: (G.map (enG (.tup (tks.map pdD)) m)++[.tup [pgD (.tup (tks.map pdD)) m (mkR rs p),.lst j.length]]))).length=j.length:=aY;have O:∀ {i:Nat}{v:Xg},i≠a->j[i]?=aa v->((j.set a (ac,D.non :: (G.map (enG (.tup (tks.map pdD)) m)++[.tup [pgD (.tup (tks.map pdD)) m (mkR rs p),.lst j.length]])))++[(ac,[.int (k:Int)])])[i]?=aa v:=λ{i v} V hv=>by
    rw[bS (by rw[W];exact Zk hv),bJ (Ne.symm V)];exact hv
   refine⟨sm,G++[(mkR rs p,j.length,[k])],_,_,pre M,⟨(Y6 g2 b2).trans .push,O b3 B,?_,h.b,λg hg=>?_,?_,by rw[aI];show _+1<=_;omega,⟨A.1,λg hg=>?_⟩,N c,λg hg=>?_⟩⟩
   .rw[bS (by rw[W];exact la),bR la,bN];rfl
   .rcases bC.mp hg with hg|hg
    .exact⟨O (d g hg).2.2.2 (d g hg).1,(d g hg).2⟩
    .rw[aM.mp hg]
     refine⟨?_,g2.len,by show j.length≠_;omega,by show j.length≠_;omega⟩
     exact ZfT W.symm
   .rw[bN,List.nodup_append]
    refine⟨h.nd,by simp,λx hx y hy e=>?_⟩
    obtain⟨g,hg,rfl⟩:=aL.mp hx;rw[List.map_singleton]at hy;rw[aM.mp hy]at e;have:=Zk (d g hg).1;have e:g.2.1=j.length:=e;omega
   .rcases bC.mp hg with hg|hg
    .exact A.2 g hg
    .rw[aM.mp hg];show 1<=_;omega
   .rcases bC.mp hg with hg|hg
    .exact K g hg
    .rw[aM.mp hg]
     exact⟨c,by simp,λi hi=>by rw[aM.mp hi];exact⟨bL _,p,P,rfl⟩⟩
end
section
variable{a:Nat}
theorem ZaJ(j:Rs m rs):∀ {l:Li (Nat×Str×Rw)}{k:Nat}{b:Li Nat}{G:Li Gr}{st:Za}{v4 v5 v6:Ot D},(∀ (i:Nat) p,l[i]?=aa p->(fkL rs)[k+i]?=aa p)->k+l.length<=900->Tw tks m rs s js a k b G st->∃ g H e d c st',Z3 (λ_=>True) (λx y U s=>ex (rT (n+7)) Yr (Zf (Zf U 4 x) 5 y) s) (Xv k (l.map tD)) [aa (pgD (.tup (tks.map pdD)) m rs),aa (pgD (.tup (tks.map pdD)) m (mdL rs)),jL js,aa (.dic a),v4,v5,v6] st=aa (.nx [aa (pgD (.tup (tks.map pdD)) m rs),aa (pgD (.tup (tks.map pdD)) m (mdL rs)),jL js,aa (.dic a),e,d,c],st')/\Tw tks m rs s js a (k+l.length) g H st'
 |[],k,b,G,st,v4,v5,v6,_,_,h=>⟨b,G,v4,v5,v6,st,ao trivial,h⟩
 |p :: l,k,b,G,st,v4,v5,v6,o,z,h=>by
  rw[aQ]at z;obtain⟨r,I,w,s1,E,B⟩:=Zfq (n:=n) (k:=k) (v6:=v6) j (o 0 p rfl) ∅ h
  obtain⟨f,F,e,d,c,t,C,A⟩:=ZaJ j (l:=l) (v4:=jN k) (v5:=aa (tD p)) (v6:=w) (λi q u=>by have:=o (i+1) q u;rw[show k+1+i=k+(i+1) by omega];exact this) ∅ B
  refine⟨f,F,e,d,c,t,?_,by rw[aQ,show k+(l.length+1)=k+1+l.length by omega];exact A⟩
  rw[aK,Xv,Z3,ao trivial];show(match ex (rT (n+7)) Yr (Ew tks m rs js a k p v6) st with
   |some (.nx U',st')=>Z3 _ _ _ U' st'
   |some (.ct U',st')=>Z3 _ _ _ U' st'
   |some (.bk U',st')=>aa (.nx U',st')
   |some (.rt v,st')=>aa (.rt v,st')
   |none=>ab)=_
  rw[E];exact C
inductive TwR(rs:List Rw)(d:D):Prop where
 |mk (sm:List Nat) (gs:List (List Nat)) (e:d=.tup [.tup (inK sm),.tup (gs.map λks=>.tup (inK ks))]) (hs:∀ (i:Nat) p,(fkL rs)[i]?=aa p->(i∈sm↔mkR rs p=mdL rs)) (hg:∀ ks∈gs,ks≠[]/\∃ q,q≠mdL rs/\∀ i∈ks,∃ p,(fkL rs)[i]?=aa p/\mkR rs p=q)
def ZdY(q:Rs m rs):CP (rT (n+8)) 231 [pgD (.tup (tks.map pdD)) m rs] st λd _=>TwR rs d:=by
 have T:=q.l;have W:=W6 (rs:=rs);refine .of (v:=UG) rfl rfl (.setY (s:=st) (.call1 () (Ut (n:=n+1) q.ok ∅)) .refl λs1 L=>?_)
 have g2:Grw st ((s1++[(ac,[])])++[(ac,[D.non])]):=L.trans (Grw.push.trans .push);have V:(s1++[(ac,([]:Li D))]).length=s1.length+1:=aI;obtain⟨E,S,y⟩:=Y.call1 (F:=rT (n+7)) (s:=st) (f:=172) (a:=.v 0) (x:=pgD (.tup (tks.map pdD)) m rs) (U:=[aa (pgD (.tup (tks.map pdD)) m rs),aa (pgD (.tup (tks.map pdD)) m (mdL rs)),jL s1.length,aa (.dic (s1++[(ac,([]:Li D))]).length),ab,ab,ab]) () (JU (n:=n+3) q) _ g2
 have J:((s1++[(ac,[])])++[(ac,[D.non])])[s1.length]?=aa (ac,[]):=Grw.push.get ZE;have O:Tw tks m rs s1 s1.length (s1++[(ac,([]:Li D))]).length 0 [] [] E:=⟨(Grw.push.trans .push).trans y,y.get J,y.get ZE,⟨aE _,∅,∅⟩,λg h=>(nomatch h),dG,aE _,⟨aE _,λg h=>(nomatch h)⟩,λi p _=>⟨λh=>(nomatch h),λh=>ar h.1 (Nat.not_lt_zero _)⟩,λg h=>nomatch h⟩
 obtain⟨H,G,w,u,t,o,R,j⟩:=ZaJ (n:=n) (v4:=ab) (v5:=ab) (v6:=ab) q (l:=fkL rs) (k:=0) (λi p h=>by rw[bH];exact h) ∅ O
 rw[bH]at j;have P:ex (rT (n+7)) (.forE 4 5 (.f 172 (.s 0)) Yr) [aa (pgD (.tup (tks.map pdD)) m rs),aa (pgD (.tup (tks.map pdD)) m (mdL rs)),jL s1.length,aa (.dic (s1++[(ac,([]:Li D))]).length),ab,ab,ab] ((s1++[(ac,[])])++[(ac,[D.non])])=aa (.nx [aa (pgD (.tup (tks.map pdD)) m rs),aa (pgD (.tup (tks.map pdD)) m (mdL rs)),jL s1.length,aa (.dic (s1++[(ac,([]:Li D))]).length),w,u,t],o):=by
  show Vz 4 5 (ev _ _) (ex _ _) _ _=_;unfold Vz;rw[S];exact R
 have lv:Lv o (ev (rT (n+7)) Ua [aa (pgD (.tup (tks.map pdD)) m rs),aa (pgD (.tup (tks.map pdD)) m (mdL rs)),jL s1.length,aa (.dic (s1++[(ac,([]:Li D))]).length),w,u,t]) (G.map λg=>D.tup (inK g.2.2)):=Ug (F:=rT (n+7)) (s:=o) (U:=[aa (pgD (.tup (tks.map pdD)) m rs),aa (pgD (.tup (tks.map pdD)) m (mdL rs)),jL s1.length,aa (.dic (s1++[(ac,([]:Li D))]).length),w,u,t]) (b:=one) (wk:=Xf ae) (fr:=[]) (it:=.rng2 (.v 3) .aN) (elt:=.tOf (.v 0)) (l:=G) (en:=λg:Gr=>D.lst g.2.1) (g:=λg:Gr=>.tup (inK g.2.2)) (λst g=>⟨.dct [] (.dic (s1++[(ac,([]:Li D))]).length :: G.map λg:Gr=>D.lst g.2.1),st,_,by
   show(match st[(s1++[(ac,([]:Li D))]).length]? with
    |some (ac,.non :: es)=>(XI es).map λvs=>(D.dct [] (.dic (s1++[(ac,([]:Li D))]).length :: vs),st)
    |_=>ab)=_
   rw[g.get j.ha];show(XI (G.map (enG (.tup (tks.map pdD)) m))).map _=_;rw[ZdI];rfl,.refl,by
   show(match st[(s1++[(ac,([]:Li D))]).length]? with
    |some c=>aa (G.map (λg:Gr=>D.lst g.2.1),λs=>s[(s1++[(ac,([]:Li D))]).length]?=aa c)
    |none=>ab)=_
   rw[g.get j.ha],λst' g'=>g'.get (g.get j.ha)⟩) (by have:=j.l;omega) λg z=>Lv.tof (.v (j.c g z).1 ())
 have B:=Y.cons (Lv.tof (e:=.v 2) (.v j.hs ())) (.cons lv.tof .nil);obtain⟨C,Q,K⟩:=B o .refl;refine⟨_,C,(Ze (p:=.set 2 (.lstE .aN)) (s':=s1++[(ac,[])]) rfl).trans ((Ze (p:=.set 3 .dnew) (s':=(s1++[(ac,[])])++[(ac,[D.non])]) rfl).trans ((Ze P).trans (Zt (Yn Q)))),j.g.trans K,H,G.map λg=>g.2.2,by rw[aZ];rfl,λi p A=>(j.sm i p A).trans ⟨λh=>h.2,λh=>⟨Zk A,h⟩⟩,λks M=>?_⟩
 obtain⟨g,z,rfl⟩:=aL.mp M;obtain⟨I,o2,o3⟩:=j.gm g z;exact⟨o2,g.1,I,λi N=>(o3 i N).2⟩
end
noncomputable def upN(t:Nat):Nat:=t+if 0 < t then 1 else 0
def upR:Rw->Rw
 |.ifr y g z t=>.ifr y g z (upN t)
 |.go t=>.go (upN t)
 |r=>r
def dbL(rs:Li Rw):Li Rw:=(rs.map upR).take 1++rs.map upR
def Y.up(c:U[1]?=aa (jI 0))(h:Y F s a U (.int (t:Int))):Y F s (.p a (.intOf (.cmp .Gt a (.v 1)))) U (.int (upN t:Int)):=by
 have y:=Y.gts (F:=F) (s:=s) (a:=a) (b:=.v 1) h (.v c);unfold upN;rw[bO];refine .add h ?_;cases t with
 |zero=>exact g1 y (gp λ_=>rfl)
 |succ t=>
  rw[aP ∅]at y
  exact g1 y (gp λ_=>rfl)
def ZjA:C (rT (n+1)) s 103 [rwE r,.int 0] (rwE (upR r)):=by
 cases r with
 |ifr y g z t=>exact .of (v:=ZL) rfl rfl (.yes () (.adT (.tkT (i:=4) (xs:=[.str "if",opE y,.str g,opE z,.int (t:Int)]) () () (by show 4<=5;decide)) (.cons (.up rfl (.ixt (j:=4) () () rfl)) .nil) (by show 4+1<=100000;decide)))
 |go t=>exact .of (v:=ZL) rfl rfl (.no () (.yes () (.cons () (.cons (.up rfl (.ixt (j:=1) () () rfl)) .nil))))
 |put x y g z=>exact .of (v:=ZL) rfl rfl (.no () (.no () (.ret ())))
 |tell y=>exact .of (v:=ZL) rfl rfl (.no () (.no () (.ret ())))
 |skip=>exact .of (v:=ZL) rfl rfl (.no () (.no () (.ret ())))
def ZaN(f:Rs m rs):C (rT (n+2)) s 125 [pgD tk m rs] (pgD tk m (dbL rs)):=by
 have q:=f.l;refine .of (v:=Yw) rfl rfl (.setL (xs:=(rs.map upR).map rwE) ?_ λo j b g k=>?_)
 .rw[aZ]
  exact Ug (F:=rT (n+1)) (s:=s) (U:=[aa (pgD tk m rs),ab]) (b:=one) (wk:=Xf ae) (fr:=[]) (it:=.x 0 2) (elt:=.call 103 (.a 0 (.u (.i 0))) []) (l:=rs) (en:=rwE) (g:=λr=>rwE (upR r)) (.of (x:=.tup (rs.map rwE)) () λst=>rfl) ∅ λr f=>.call (xs:=[rwE r,.int 0]) () ZjA
 .have p:=Lv.sl (F:=rT (n+1)) (s:=o) (lo:=ab) (hi:=aa 1) (a:=.v 1) (b:=.nop) (c:=.part (.i 1)) (U:=[aa (pgD tk m rs),jL j]) (x:=.non) (y:=.int 1) k () () () λst=>rfl
  have d:=p.cat (Lv.v (F:=rT (n+1)) (e:=.v 1) (U:=[aa (pgD tk m rs),jL j]) k ()) (by
   have h:(Xu ((rs.map upR).map rwE) ab (aa 1)).length<=((rs.map upR).map rwE).length:=by unfold Xu;rw[cM,dC];omega
   have e:((rs.map upR).map rwE).length=rs.length:=by rw[aD,aD]
   show(Xu ((rs.map upR).map rwE) ab (aa 1)).length+_<=_;unfold Zp;omega)
  have e:Xu ((rs.map upR).map rwE) ab (aa 1)++(rs.map upR).map rwE=(dbL rs).map rwE:=by
   unfold dbL;rw[bN,<-List.map_take];cases rs<;>rfl
  rw[e]at d;exact .ret (.adT (xs:=[tk,.int (m:Int)]) (.tkT (i:=2) (xs:=[tk,.int (m:Int),.tup (rs.map rwE)]) () () (by show 2<=3;decide)) (.cons d.tof .nil) (by show 2+1<=100000;decide))
def J6:(dbL rs).length<=rs.length+1:=by
 unfold dbL;rw[aI,cM,aD];omega
def ZgH(b:Rs m rs)(e:rs.length < 50):Rs m (dbL rs):=by
 have c:=J6 (rs:=rs);refine⟨∅,λr h=>?_⟩
 have h:r∈rs.map upR:=(bC.mp h).elim (λh=>List.mem_of_mem_take h) id
 obtain⟨q,a,rfl⟩:=aL.mp h;have ok:=b.ok q a;have d:(dbL rs).length=rs.length+1:=by
  cases rs with
  |nil=>cases a
  |cons x rs=>unfold dbL;rw[aI,aK,List.take_succ_cons,List.take_zero,aQ,aQ,aD,aQ];show 0+1+_=_;omega
 have un:∀ {t},t<=rs.length->upN t<=(dbL rs).length:=λ{t} h=>by unfold upN;split<;>omega
 cases q with
 |ifr y g z t=>exact⟨ok.1,ok.2.1,ok.2.2.1,un ok.2.2.2⟩
 |go t=>exact un ok
 |_=>exact ok
def Vk(c:Prop)(d:D):Prop:=∃ w a,d=.tup (.str w :: a)/\okD 8 d=ac/\(w=S "same"↔c)/\(c->a=[])
variable{p0:Nat×Str×Rw}
variable{sa:Nat}
section
variable{d':D}{ns ks:Li Nat}{cs:Li Int}{gs:Li (Li Nat)}{vd:Nat×Str×Rw->D}{x0 x1 x2 x10:Ot D}{Q1:D->Za->Prop}
def RP.setCP(k:Y F s a U (.tup xs))(g:Grw s st)(j:∀ t,Grw st t->CP F f (xs++ds) t Q1)(h:∀ d t,Grw st t->Q1 d t->RP F q (Zf U i d) t Q):RP F (.y i (.call f a ds) q) U st Q:=by
 obtain⟨s1,n,b⟩:=k st g;obtain⟨d,e,m,c,l⟩:=j s1 b;exact .pre (Ze (Zs (by show Zr (ev F a) (Qg (F f) ds) U st=_;unfold Zr;rw[n];exact m))) (b.trans c) (h d e (b.trans c) l)
def C.eq(h:C F s f ds d)(b:C F s f ds d'):d=d':=by
 obtain⟨_,e,_⟩:=h s .refl;obtain⟨_,a,_⟩:=b s .refl;rw[e]at a;cases a;rfl
theorem Zal{α:Type}{en:α->D}{I:Env->Prop}{B:D->Env->Za->Ot (Fl×Za)}:∀ {l:Li α},(∀ a∈l,∀ U st,I U->∃ b st',B (en a) U st=aa (.nx b,st')/\I b/\Grw st st')->∀ U st,I U->∃ b st',Zj B (l.map en) U st=aa (.nx b,st')/\I b/\Grw st st'
 |[],_,U,st,e=>⟨U,st,rfl,e,.refl⟩
 |x :: l,h,U,st,e=>by
  obtain⟨d,s1,m,o,i⟩:=h x Ls U st e;obtain⟨c,f,k,n,g⟩:=Zal (λa j=>h a (Lm _ j)) d s1 o
  exact⟨c,f,by rw[aK,Zj,m];exact k,n,i.trans g⟩
theorem Zcy:∀ {ks:Li Nat},Y7 (k:Int) (inK ks)=aa (aj (k∈ks))
 |[]=>rfl
 |x :: ks=>by
  show(Y7 (k:Int) (inK ks)).map (λb=>aj ((x:Int)=(k:Int))||b)=_
  rw[Zcy];show aa (aj ((x:Int)=(k:Int))||aj (k∈ks))=_;rw[<-Bool.decide_or];exact au aa (decide_eq_decide.mpr (by rw[aF];exact⟨λh=>h.imp (λh=>by omega) id,λh=>h.imp (λh=>by omega) id⟩))
abbrev El(x0 x1 x2:Ot D)(L:Nat)(tr:Li (Li Int))(x5 x6 x7 x8 x9 x10:Ot D):Env:=[x0,x1,x2,jN L,aa (.tup (tr.map inT)),x5,x6,x7,x8,x9,x10]
def Zgx{p:Nat×Str×Rw}(a:(fkL rs)[k]?=aa p)(h:U[6]?=aa (aa (.tup ((fkL rs).map vd))))(c:Y F s b U (.int (k:Int))):Y F s (.ix (.v 6) b) U (vd p):=.ixt (.v h) c (by rw[aV,a];rfl)
def ZiL(q:∀ p∈fkL rs,Vk (mkR rs p=mdL rs) (vd p))(j:∀ (i:Nat) p,(fkL rs)[i]?=aa p->(i∈sm↔mkR rs p=mdL rs))(z:k < (fkL rs).length):∃ st',ex F YH (El x0 x1 x2 L tr x5 (aa (.tup ((fkL rs).map vd))) (aa (.tup (inK sm))) x8 (jN k) x10) st=aa (.nx (El x0 x1 x2 L tr x5 (aa (.tup ((fkL rs).map vd))) (aa (.tup (inK sm))) x8 (jN k) x10),st')/\Grw st st':=by
 have d:=Lg z;generalize (fkL rs)[k]=p at d;obtain⟨w,xs,e,ok,l,A⟩:=q p (aT d);have f:=Zgx (F:=F) (s:=st) (vd:=vd) (b:=.v 9) (U:=El x0 x1 x2 L tr x5 (aa (.tup ((fkL rs).map vd))) (aa (.tup (inK sm))) x8 (jN k) x10) d rfl ();rw[e]at f ok;have C:Zq (.str w :: xs) [.str "same"]=aj (k∈sm):=by
  rw[Yu ok];refine decide_eq_decide.mpr ⟨λh=>?_,λh=>?_⟩
  .injection h with h _;injection h with h
   exact(j k p d).mpr (l.mp h)
  .have c:=(j k p d).mp h
   rw[l.mpr c,A c]
 have n:Y F st (.e (.ix (.v 6) (.v 9)) (.g (.u (.t "same")))) (El x0 x1 x2 L tr x5 (aa (.tup ((fkL rs).map vd))) (aa (.tup (inK sm))) x8 (jN k) x10) (.bl (aj (k∈sm))):=by
  rw[<-C];exact .eqd f () ok rfl
 have m:Y F st (.cmp .In (.v 9) (.v 7)) (El x0 x1 x2 L tr x5 (aa (.tup ((fkL rs).map vd))) (aa (.tup (inK sm))) x8 (jN k) x10) (.bl (aj (k∈sm))):=.cmp (x:=.int (k:Int)) (y:=.tup (inK sm)) () () λ_=>Zcy
 obtain⟨t,B,o⟩:=Y.or (F:=F) (s:=st) (Y.not (a:=.isi .tuple (.ix (.v 6) (.v 9))) (k:=ac) (g1 f (gp λ_=>rfl))) (λ_=>Y.cmp (op:=.NotEq) (k:=ae) n m λ_=>by cases aj (k∈sm)<;>rfl) st .refl
 exact⟨t,(Ze ((Wm B).trans Zh)).trans Zh,o⟩
def ZiM{p:Nat×Str×Rw}(l:(fkL rs)[k]?=aa p)(d:(fkL rs)[j]?=aa p0)(h:Vk False (vd p))(m:vd p=vd p0):∃ st',ex F Xk (El x0 x1 x2 L tr x5 (aa (.tup ((fkL rs).map vd))) x7 x8 (jN k) (aa (.tup (inK (j :: ks))))) st=aa (.nx (El x0 x1 x2 L tr x5 (aa (.tup ((fkL rs).map vd))) x7 x8 (jN k) (aa (.tup (inK (j :: ks))))),st')/\Grw st st':=by
 obtain⟨w,xs,e,ok,n,q⟩:=h;have c:=Zgx (F:=F) (s:=st) (vd:=vd) (b:=.v 9) (U:=El x0 x1 x2 L tr x5 (aa (.tup ((fkL rs).map vd))) x7 x8 (jN k) (aa (.tup (inK (j :: ks))))) l rfl ();have a:=Zgx (F:=F) (s:=st) (vd:=vd) (b:=.x 10 0) (U:=El x0 x1 x2 L tr x5 (aa (.tup ((fkL rs).map vd))) x7 x8 (jN k) (aa (.tup (inK (j :: ks))))) d rfl (.ixt (j:=0) (xs:=inK (j :: ks)) () () rfl)
 rw[<-m]at a;rw[e]at c a ok;have f:=Y.ned c a ok ok;rw[Yu ok,aP rfl]at f;obtain⟨t,o,g⟩:=Y.or (F:=F) (s:=st) f (λ_=>Y.cmp (op:=.Eq) (k:=ae) (b:=.t "same") (.ixt (j:=0) (b:=.i 0) c () rfl) () λ_=>by show aa (aj (w=S "same"))=_;rw[aH n.mp]) st .refl
 exact⟨t,(Ze ((Wm o).trans Zh)).trans Zh,g⟩
def Zjd{p:Nat×Str×Rw}(b:Rs m rs)(c:p∈fkL rs)(a:p0∈fkL rs)(h:mkR rs p=mkR rs p0):Sa m (rs.set p.1 p.2.2) (rs.set p0.1 p0.2.2):=⟨b.set (WG b a).2,by rw[aY,aY],λk=>by
 have:(mdL (rs.set p0.1 p0.2.2))[k]?=(mdL (rs.set p.1 p.2.2))[k]?:=au (λl:Li Rw=>l[k]?) h.symm
 rw[UV,UV]at this;exact this⟩
def QB(b:Rs m rs)(hl:rs.length<=5)(hm:m<=4)(hT:Nw tks)(ht:tks.length<=m)(hL:L<=300)(l1:tr.length<=10)(o1:∀ ins∈tr,ins.length<=m/\∀ v∈ins,Sm v):∃ y6 y7 Z y K st',ex (rT (n+11)) Z2 (El x0 x1 x2 L tr (aa (pgD (.tup (tks.map pdD)) m rs)) x6 x7 x8 x9 x10) st=aa (.nx (El x0 x1 x2 L tr (aa (pgD (.tup (tks.map pdD)) m rs)) y6 y7 Z y K),st')/\Grw st st':=by
 have hz:(rs.length+1) * (rs.length+1)<=6 * 6:=dQ ∅ ∅
 have hB:2 ^ m * ((rs.length+1) * (rs.length+1))<=2 ^ 4 * 36:=dQ (Nat.pow_le_pow_right #[] hm) hz
 obtain⟨vd,A⟩:=Classical.axiomOfChoice (r:=λ(p:Nat×Str×Rw) (d:D)=>p∈fkL rs->(∀ o,Sa m (rs.set p.1 p.2.2) o->∀ n s,C (rT (n+10)) s 282 [pgD (.tup (tks.map pdD)) m rs,pgD (.tup (tks.map pdD)) m o,.tup (tr.map inT),.int (L:Int)] d)/\Vk (mkR rs p=mdL rs) d) λp=>by
  by_cases c:p∈fkL rs
  .obtain⟨pp,h⟩:=ZaQ b (b.set (k:=p.1) (WG b c).2) rfl aY ∅ ∅ (aR hB #[]) hT ht (L:=L) ∅
   refine⟨_,λ_=>⟨λo ho=>h o ho tr o1,?_⟩⟩
   by_cases z:mkR rs p=mdL rs
   .have e:aj (mdL (rs.set p.1 p.2.2)=mdL rs)=ac:=aP z
    rw[e];exact⟨_,[],ao rfl,rfl,⟨λ_=>z,λ_=>rfl⟩,λ_=>rfl⟩
   .have e:aj (mdL (rs.set p.1 p.2.2)=mdL rs)=ae:=aH z
    rw[e];obtain⟨w,xs,Q,N,ok⟩:=(Zjn (m:=m) (rs:=rs) (rs':=rs.set p.1 p.2.2) (L:=L) (pp:=pp) (bx:=prL [[]] (tks.map bxL)) (tr:=tr)).ex;exact⟨w,xs,Q,ok,⟨λh=>ar h N,λh=>ar h z⟩,λh=>ar h z⟩
  .exact⟨.non,λh=>ar h c⟩
 have fl:=W6 (rs:=rs);obtain⟨s1,Q,k1⟩:=Y.call (F:=rT (n+11)) (s:=st) (f:=283) (a:=.a 5 (.a 4 (.s 3))) (ds:=[]) (U:=El x0 x1 x2 L tr (aa (pgD (.tup (tks.map pdD)) m rs)) x6 x7 x8 x9 x10) (xs:=[pgD (.tup (tks.map pdD)) m rs,.tup (tr.map inT),.int (L:Int)]) () (QV b l1 λp u s=>(A p u).1 _ (Sa.id (b.set (WG b u).2)) n s) st .refl
 obtain⟨d,x,e2,k2,sm,gs,rfl,hs,hg⟩:=ZdY (n:=n+3) (tks:=tks) (st:=s1) b;have e3:ex (rT (n+11)) (.set2 7 8 (.f 231 (.s 5))) (El x0 x1 x2 L tr (aa (pgD (.tup (tks.map pdD)) m rs)) (aa (.tup ((fkL rs).map vd))) x7 x8 x9 x10) s1=aa (.nx (El x0 x1 x2 L tr (aa (pgD (.tup (tks.map pdD)) m rs)) (aa (.tup ((fkL rs).map vd))) (aa (.tup (inK sm))) (aa (.tup (gs.map λks=>.tup (inK ks)))) x9 x10),x):=by
  have e:ev (rT (n+11)) (.f 231 (.s 5)) (El x0 x1 x2 L tr (aa (pgD (.tup (tks.map pdD)) m rs)) (aa (.tup ((fkL rs).map vd))) x7 x8 x9 x10) s1=aa (.tup [.tup (inK sm),.tup (gs.map λks=>.tup (inK ks))],x):=e2
  show QM 7 8 (ev _ _) _ s1=_;unfold QM;rw[e];rfl
 have e4:ev (rT (n+11)) (.not (.isi .tuple (.v 6))) (El x0 x1 x2 L tr (aa (pgD (.tup (tks.map pdD)) m rs)) (aa (.tup ((fkL rs).map vd))) (aa (.tup (inK sm))) (aa (.tup (gs.map λks=>.tup (inK ks)))) x9 x10) x=aa (.bl ae,x):=rfl
 obtain⟨X,s5,e5,⟨y,rfl⟩,k5⟩:=Zal (en:=λ(k:Nat)=>D.int (k:Int)) (I:=λU=>∃ y,U=El x0 x1 x2 L tr (aa (pgD (.tup (tks.map pdD)) m rs)) (aa (.tup ((fkL rs).map vd))) (aa (.tup (inK sm))) (aa (.tup (gs.map λks=>.tup (inK ks)))) y x10) (B:=λd U s=>ex (rT (n+11)) YH (Zf U 9 d) s) (l:=ag (fkL rs).length) (λk G U st ⟨y,H⟩=>by
  subst H;obtain⟨t,e,kt⟩:=ZiL (F:=rT (n+11)) (st:=st) (L:=L) (tr:=tr) (x0:=x0) (x1:=x1) (x2:=x2) (x5:=aa (pgD (.tup (tks.map pdD)) m rs)) (x8:=aa (.tup (gs.map λks=>.tup (inK ks)))) (x10:=x10) (λp u=>(A p u).2) hs (cA.mp G)
  exact⟨_,t,e,⟨_,rfl⟩,kt⟩) _ x ⟨x9,rfl⟩
 have T:=Wg (F:=rT (n+11)) (i:=9) (q:=YH) (e:=.len (.v 6)) (U:=El x0 x1 x2 L tr (aa (pgD (.tup (tks.map pdD)) m rs)) (aa (.tup ((fkL rs).map vd))) (aa (.tup (inK sm))) (aa (.tup (gs.map λks=>.tup (inK ks)))) x9 x10) (st:=x) (v:=(((fkL rs).map vd).length:Int)) (by rw[aD];omega) ∅ rfl
 rw[bA,aD]at T;obtain⟨W,s6,e6,⟨J,g,rfl⟩,k6⟩:=Zal (en:=λks=>D.tup (inK ks)) (I:=λU=>∃ J g,U=El x0 x1 x2 L tr (aa (pgD (.tup (tks.map pdD)) m rs)) (aa (.tup ((fkL rs).map vd))) (aa (.tup (inK sm))) (aa (.tup (gs.map λks=>.tup (inK ks)))) J g) (B:=λd U s=>ex (rT (n+11)) WM (Zf U 10 d) s) (l:=gs) (λks G U st ⟨J,g,H⟩=>by
  subst H;obtain⟨N,q,nq,S⟩:=hg ks G;obtain⟨j,ks,rfl⟩:=List.exists_cons_of_ne_nil N;obtain⟨p0,E,m0⟩:=S j Ls;obtain⟨V,s7,e7,⟨M,rfl⟩,k7⟩:=Zal (en:=λ(k:Nat)=>D.int (k:Int)) (I:=λU=>∃ M,U=El x0 x1 x2 L tr (aa (pgD (.tup (tks.map pdD)) m rs)) (aa (.tup ((fkL rs).map vd))) (aa (.tup (inK sm))) (aa (.tup (gs.map λks=>.tup (inK ks)))) M (aa (.tup (inK (j :: ks))))) (B:=λd U s=>ex (rT (n+11)) Xk (Zf U 9 d) s) (l:=j :: ks) (λk G U st ⟨M,H⟩=>by
   subst H;obtain⟨p,u,R⟩:=S k G;have P:=aT E;have O:=aT u;have v:=(A p O).2;rw[R,eq_false nq]at v;obtain⟨t,e,kt⟩:=ZiM (F:=rT (n+11)) (st:=st) (L:=L) (tr:=tr) (x0:=x0) (x1:=x1) (x2:=x2) (x5:=aa (pgD (.tup (tks.map pdD)) m rs)) (x7:=aa (.tup (inK sm))) (x8:=aa (.tup (gs.map λks=>.tup (inK ks)))) (ks:=ks) u E v ((A p O).1 _ (Zjd b O P (R.trans m0.symm)) 0 [] |>.eq ((A p0 P).1 _ (Sa.id (b.set (WG b P).2)) 0 []))
   exact⟨_,t,e,⟨_,rfl⟩,kt⟩) _ st ⟨J,rfl⟩
  exact⟨_,s7,(Ze ((for_tup (xs:=inK (j :: ks)) rfl).trans e7)).trans Zh,⟨_,_,rfl⟩,k7⟩) _ s5 ⟨_,_,rfl⟩
 exact⟨_,_,_,_,_,s6,(Ze (Zs Q)).trans ((Ze e3).trans ((Ze ((Wm e4).trans Zh)).trans ((Ze (T.trans e5)).trans ((Ze ((for_tup (xs:=gs.map λks=>D.tup (inK ks)) rfl).trans e6)).trans Zh)))),k1.trans (k2.trans (k5.trans k6))⟩
end
def Zak(y:Rs m rs)(hl:rs.length<=4)(O:m<=4)(z:Nw tks)(w:tks.length<=m)(P:L<=300)(hs:sa<=20)(g:Grw (S0 ns) st):RP (rT (n+11)) (tlC 4 c_law_k65.body) [jL 0,aa (pgD (.tup (tks.map pdD)) m rs),jN sa,jN L,ab,ab,ab,ab,ab,ab,ab] st λd _=>d=.bl ac:=by
 have A:=z.l;have lt:∀ {s:Za},Y (rT (n+11)) s (.len (.x 1 0)) [jL 0,aa (pgD (.tup (tks.map pdD)) m rs),jN sa,jN L,ab,ab,ab,ab,ab,ab,ab] (.int (tks.length:Int)):=λ{s}=>by
  have:=Y.lnT (F:=rT (n+11)) (s:=s) (a:=.x 1 0) (xs:=tks.map pdD) (U:=[jL 0,aa (pgD (.tup (tks.map pdD)) m rs),jN sa,jN L,ab,ab,ab,ab,ab,ab,ab]) (.ixt (j:=0) (xs:=[.tup (tks.map pdD),.int (m:Int),.tup (rs.map rwE)]) () () rfl);rw[aD]at this;exact this
 refine .setCP (s:=S0 ns) (xs:=[.lst 0,.int ((sa+1:Nat):Int),.int (tks.length:Int)]) (.cons () (.cons (by rw[bO];exact .add () ()) (.cons lt .nil))) g (λt k=>Zbx (n:=n+8) ∅ A (g.trans k)) λd t k ⟨tr,C,l1,K⟩=>?_
 subst C;have o2:∀ ins∈tr,ins.length<=m/\∀ v∈ins,Sm v:=λins h=>⟨by rw[(K ins h).1];exact w,(K ins h).2⟩
 have hd:=J6 (rs:=rs);obtain⟨p,j,b,C,B,X⟩:=Lv.mk (F:=rT (n+11)) (s:=t) (e:=.a 1 (.u (.f 125 (.s 1)))) (U:=El (jL 0) (aa (pgD (.tup (tks.map pdD)) m rs)) (jN sa) L tr ab ab ab ab ab ab) (.cons () (.cons (.call1 () (ZaN (n:=n+9) y)) .nil)) t .refl;obtain⟨H,G,E,D,c,J,e2,N⟩:=QB (n:=n) (st:=p) (x0:=jL 0) (x1:=aa (pgD (.tup (tks.map pdD)) m rs)) (x2:=jN sa) (x6:=ab) (x7:=ab) (x8:=ab) (x9:=ab) (x10:=ab) y ∅ O z w P ∅ o2
 obtain⟨W,V,T,S,o,I,Z,M⟩:=QB (n:=n) (st:=J) (x0:=jL 0) (x1:=aa (pgD (.tup (tks.map pdD)) m rs)) (x2:=jN sa) (x6:=H) (x7:=G) (x8:=E) (x9:=D) (x10:=c) (ZgH y ∅) ∅ O z w P ∅ o2
 have Q:=N.get B;have A:=M.get Q;have R:=W7 (F:=rT (n+11)) (i:=5) (q:=Z2) C B;rw[show ZI (λd U s=>ex (rT (n+11)) Z2 (Zf U 5 d) s) j [pgD (.tup (tks.map pdD)) m rs,pgD (.tup (tks.map pdD)) m (dbL rs)].length 0 (El (jL 0) (aa (pgD (.tup (tks.map pdD)) m rs)) (jN sa) L tr ab ab ab ab ab ab) p=aa (.nx (El (jL 0) (aa (pgD (.tup (tks.map pdD)) m rs)) (jN sa) L tr (aa (pgD (.tup (tks.map pdD)) m (dbL rs))) W V T S o),I) by
  rw[aQ,aQ,cQ,ZI];simp only[B,List.getElem?_cons_zero];rw[show ex (rT (n+11)) Z2 (Zf (El (jL 0) (aa (pgD (.tup (tks.map pdD)) m rs)) (jN sa) L tr ab ab ab ab ab ab) 5 (pgD (.tup (tks.map pdD)) m rs)) p=_ from e2];dsimp only;rw[ZI];simp only[Q,List.getElem?_cons_zero,List.getElem?_cons_succ,bH]
  rw[show ex (rT (n+11)) Z2 (Zf (El (jL 0) (aa (pgD (.tup (tks.map pdD)) m rs)) (jN sa) L tr (aa (pgD (.tup (tks.map pdD)) m rs)) H G E D c) 5 (pgD (.tup (tks.map pdD)) m (dbL rs))) J=_ from Z];dsimp only;rw[ZI];simp only[A];rfl]at R
 exact .pre (Ze R) (X.trans (N.trans M)) (.ret (s:=I) (d:=.bl ac) () .refl λ_ _=>rfl)
def Zbg(n:Nat){f:Li Int}(_:f.length<=63):∃ st',rT (n+12) 16 [.lst 0] [(ae,f.map .int)]=aa (.bl ac,st'):=by
 have g:Grw (S0 f) (S0 f):=.refl;have o:CP (rT (n+12)) 16 [.lst 0] (S0 f) λd _=>d=.bl ac:=by
  refine .of (v:=c_law_k65) rfl rfl (.setCP (s:=S0 f) (xs:=[.lst 0,.int ((4:Nat):Int)]) () g (λt k=>Zgn (n:=n+6) #[] (g.trans k)) λd t k O=>?_)
  obtain⟨b,m,rs,e,C,B,D,r,l⟩:=O;subst e;have g1:Grw (S0 f) t:=g.trans k;have lt:∀ {s:Za}{U:Env},U[1]?=aa (aa (pgD (.tup (b.map pdD)) m rs))->Y (rT (n+11)) s (.len (.x 1 0)) U (.int (b.length:Int)):=λ{s U} h=>by
   have:=Y.lnT (F:=rT (n+11)) (s:=s) (a:=.x 1 0) (xs:=b.map pdD) (U:=U) (.ixt (j:=0) (xs:=[.tup (b.map pdD),.int (m:Int),.tup (rs.map rwE)]) (.v h) () rfl);rw[aD]at this;exact this
  have M:∀ {s:Za}{U:Env},U[1]?=aa (aa (pgD (.tup (b.map pdD)) m rs))->Y (rT (n+11)) s (.p (.i 5) (.h (.i 2) (.len (.x 1 2)))) U (.int ((5+2 * rs.length:Nat):Int)):=λ{s U} h=>by
   have:=Y.lnT (F:=rT (n+11)) (s:=s) (a:=.x 1 2) (xs:=rs.map rwE) (U:=U) (.ixt (j:=2) (xs:=[.tup (b.map pdD),.int (m:Int),.tup (rs.map rwE)]) (.v h) () rfl);rw[aD]at this;rw[bO,eC];exact .add () (.mul () this (Jp ∅))
  refine .setY (s:=S0 f) (M rfl) g1 λS G=>.setY (s:=S0 f) (.call1 (.call (xs:=[.lst 0,.int ((5+2 * rs.length:Nat):Int)]) () (Xj (n:=n+10) ∅)) (ZdR (n:=n+10))) (g1.trans G) λK N=>?_
  have z:=g1.trans (G.trans N);have H:=ZjO (c:=ceI f (5+2 * rs.length));obtain⟨L,P⟩:∃ L:Nat,liI (ceI f (5+2 * rs.length))=(L:Int):=⟨_,(bU H.1).symm⟩;rw[P]at H ⊢;have y:Y (rT (n+11)) (S0 f) (.cmp .Gt (.len (.x 1 0)) (.i 2)) [jL 0,aa (pgD (.tup (b.map pdD)) m rs),aa (.int ((5+2 * rs.length:Nat):Int)),jN L,ab,ab,ab,ab,ab,ab,ab] (.bl (aj ((2:Int) < (b.length:Int)))):=.gts (lt rfl) ()
  obtain⟨A,w,u⟩:=y K z;cases c:aj ((2:Int) < (b.length:Int)) with
  |false=>
   rw[c]at w;exact .pre (Ze ((Wm w).trans Zh)) u (Zak r l D C B ∅ ∅ (z.trans u))
  |true=>
   rw[c]at w;have I:=Zm (L:Int) (j:=11) #[]
   obtain⟨L2,q⟩:∃ L2:Nat,(L:Int) % 11=(L2:Int):=⟨_,(bU I.1).symm⟩;rw[q]at I;have J:Y (rT (n+11)) A (.m (.v 3) (.i 11)) [jL 0,aa (pgD (.tup (b.map pdD)) m rs),aa (.int ((5+2 * rs.length:Nat):Int)),jN L,ab,ab,ab,ab,ab,ab,ab] (.int (L2:Int)):=by rw[<-q];exact .md () () #[]
   obtain⟨R,Q,E⟩:=J A .refl;exact .pre (Ze ((XJ w).trans ((Ze (Zs Q)).trans Zh))) (u.trans E) (Zak r l D C B ∅ ∅ (z.trans (u.trans E)))
 obtain⟨d,st',e,_,rfl⟩:=o;exact⟨st',e⟩
end
end Dp
namespace PySem.W.Fast
local macro_rules|`(command|universe $xs*)=>do return Lean.mkNullNode (← xs.mapM fun x=>`(def $x :=fD))
universe tw18306546321186565259 tw4526660922794540458 tw1180569619611989958 tw18024449494335449988 tw11642636344948331692 tw16578064795967820919 tw2324416621412225590 tw16659309601805712651 tw10482022356306646333 tw642563023392705101 tw17247901348778778210 tw7216085155227855359 tw2829119972432628590 tw10868449663382430049 tw12059022083789068261 tw17846350648636082983 tw13757687595932418961 tw15483785241922912354 tw13322973895328472015 tw8046560479887851414 tw10206176932149426368 tw10671262833140877300 tw13238029072646261847 tw10320823537925926546 tw6722667789064977206 tw9014677726220227519 tw758309311365034822 tw7959170935367065281 tw8962711528827573654 tw4531391171706809031 tw14432612471568248261 tw16807160927384209249 tw13566898144039911853 tw13425284076998942032 tw14218545245877144198 tw2504295498032322256 tw14216281600299686833 tw2697689200266003426 tw5705650365743098767 tw15563918261806627042 tw17147353648972065248 tw1928043866716467894 tw3860973078096856615 tw1890884814373563991 tw3533268831857396005 tw9683568313929721422 tw18101277865418664430 tw13394974898061078550 tw5448732019412608148 tw14337096287877621629 tw15663815858469652849 tw11573135848891339564 tw4488254442882797361 tw14923990072324143271 tw2065873712341573145 tw10778915854755548693 tw8882566981016892654 tw11707847487506322023 tw10258546085842758983 tw7124750317189406329 tw2288502645830082168 tw14509419776942610951 tw17830094543823823079 tw16266751856504136912 tw14919475820614106777 tw8535659312754110516 tw11625872341050301147 tw16358095717703072881 tw4148591413732770022 tw16485178211372928000 tw5584282752290674223 tw5181105186245489670 tw6021065991444617064 tw2300153539714993455 tw2367027623226305469 tw415360913649681929 tw5692424769567389026 tw5843752389059372783 tw1499184244729811580 tw10777460427434723655 tw5819725853359499656 tw4138705529465297779 tw5509835056391656902 tw18276806967995817842 tw4982855865010380635 tw7495210618774641341 tw14898638149037316834 tw13050484547935385812 tw3374313433468687618 tw4113208064524889697 tw6467707364412520253 tw7183744294918949455 tw15396813716937079517 tw15296760620244853742 tw4574339270227088178 tw5396921374667337254 tw11957765130483160141 tw16007266737262381673 tw15752587670622213763 tw10705342765700729835 tw5781002176867232620 tw286565640392778963 tw5353605135159521667 tw8243825150322785077 tw12051251724578238250 tw11607055575679177144 tw17269427465945499638 tw8573856989754060308 tw3648468684967103339 tw11654367404755740878 tw16609503100223991429 tw2935855406027796016 tw16458869824835150489 tw8379475231586228268 tw14092568482403783661 tw2312829104586610023 tw4165130514244532006 tw15482628348662660264 tw16613448234787395891 tw17128820140177716649 tw8934518752342718402 tw1647955687662273602 tw2189884556522772543 tw9548814786781652950 tw10497279805910540274 tw15444166051861210141 tw121355332706439051 tw16055510695796495127 tw15848375480609314005 tw15940929075037369764 tw6865453176111035607 tw12714500317905110522 tw558080366066204217 tw11068345259331740570 tw6256993355431591409 tw5036040368932806014 tw4158212121063445380 tw11455266888833907686 tw1664887658517139640 tw18309095498938144758 tw12567257353468590901 tw15235690016911982132 tw18349669099216755836 tw10371482062598200475 tw7668017744381465657 tw12084141388716138679 tw8926922941184363523 tw13991709577593953223 tw2887001748217366036 tw17018194049859063908 tw17173562330823536908 tw12082469452842395082 tw1768434719368074848 tw4000478451500167377 tw10827833643883687504 tw2613553400122226609 tw18156238468634913883 tw1144768282302611588 tw613389095579318067 tw14371469648154841310 tw11335174298440838749 tw17214431005805202070 tw7815112415969993830 tw15517874438456859017 tw9390601076532814372 tw12231506892664888230 tw7184525204783529626 tw6258762556361269265 tw3391992834102323338 tw15701719836882886360 tw16993753513710736543 tw12575924476659990878 tw10477788732014749782 tw16063566776970158573 tw17558184887855458247 tw18052611509525068541 tw1629520244603260155 tw1664206080047581005 tw423219757232430250 tw12710813897845769417 tw9920756370771797330 tw11527634636598637487 tw3250600577701937699 tw853115989608448172 tw12334182142953021828 tw2359685714183358766 tw13607240338402987534 tw5766712101052930875 tw7915330761544560281 tw13151372599867087682 tw4131036414356992065 tw5067330251973529743 tw13802413988190423899 tw1765616578483042828 tw2974960925582985328 tw6028862954621114278 tw4605074460166289319 tw14392940123514751218 tw5510612825896572214 tw13430799722366169221 tw11969821240748194494 tw9928828949184075949 tw15046230822903619376 tw17911493853412377491 tw7496347013162576923 tw1103871872144527711 tw13380114582036499024 tw6139706643598570890 tw9551077249154437067 tw16446461733756001874 tw842741066940740226 tw12193058444420975248 tw9958338159830912614 tw418700563113405947 tw3347728344842951372 tw4885045396963122056 tw14968108802973408111 tw2154663627818501289 tw11840731893224731867 tw18322863042711779452 tw10700731493701612170 tw4285449612760244601 tw4050848805002081909 tw7989051426180401835 tw10241863868968572414 tw4956604522728496882 tw13428566881164830136 tw14415245043156065270 tw6318545204496932135 tw8666660152707645936 tw186781559122845611 tw10756922113592842689 tw13594771024245786463 tw9775191760461184793 tw6727265519888693283 tw1102466372462462984 tw1137510922082217206 tw5602490654208720967 tw12480921246191724614 tw13382911043464942500 tw815352779146137149 tw888527117662632842 tw11999203607721609426 tw8434791999246177862 tw4460340043090420083 tw14349132151365176617 tw1192605528396861131 tw2939073663909807622 tw15330168763528202150 tw879841095884199359 tw4322853623345298686 tw16142459555084431163 tw8610797409914984909 tw17833371387253861537 tw4503382200600254363 tw716825636254229525 tw16963158085937079370 tw10883669682187892315 tw3957555670211707386 tw599735034313450013 tw9847030622377611371 tw7828849785977169005 tw3027145143620466358 tw1690257916518125202 tw1968856355740575982 tw2925200775491757576 tw14377285526301694356 tw4767760272491699593 tw1684135811719545876 tw4850528306512329646 tw8185196641068737940 tw16545389636913497584 tw6446818194730205430 tw4805932711065631363 tw6481752336837922736 tw10933861903738711813 tw3569601851628480932 tw14329330817043951990 tw4061312036745034370 tw3801486145429095510 tw17656428986890719309 tw12380450717177738036 tw16560309324642053817 tw522733559943249223 tw7284162024484053328 tw2560441042120264172 tw4782364299616723463 tw1235951036756261864 tw18133501316614262652 tw15996208149568557722 tw13870816183758229314 tw17810852557260718403 tw7774513795448387206 tw17873195237551576050 tw11950206161970862643 tw7839819067275688797 tw555027840569273960 tw13014827283884157059 tw2949530835382444784 tw16966121548812044333 tw3815353649935945622 tw12120330600872045570 tw14109830706610213723 tw9679193486044161926 tw2954133382566344050 tw14078827132983295200 tw13213296301706577459 tw2981973458094143385 tw607640729195803321 tw1151730768968949085 tw14943904492065269208 tw3636210502666154264 tw3898311765258663660 tw7537947520265812298 tw13709571807122215419 tw9244138029177678852 tw1734025845015993159 tw261705945721655304 tw12885110817785075654 tw2110825373645193978 tw11010463034856953836 tw12842453942920535995 tw5456525693464671481 tw2527124079310577277 tw7087353274283037286 tw12112729535887870330 tw17497578629305583539 tw11321091630424675779 tw17090767406427876347 tw10719902862903195293 tw12174749756759456724 tw921536037950071821 tw7604033256786960606 tw11475207869156488680 tw15254311848770640761 tw1896015832186726675 tw2290046282942033514 tw9920057796738545574 tw15440692028919281077 tw9795648490622804563 tw11113202055365971848 tw11432971146472766554 tw18301044461242420324 tw12263638845971996268 tw3357039651028214954 tw586503570706466335 tw15963390896055515099 tw5602168929453587035 tw15605898234054306374 tw11572601001388771240 tw5926363341805106648 tw11540948093849476868 tw10170084057294754953 tw2026390923575431632 tw4472321700379303934 tw4539479487730004526 tw15814358671484285880 tw18303650058434061549 tw5449725690219869780 tw18196159767742454748 tw776729081777957110 tw18298165243665389204 tw10117711595235499869 tw1810865139053709604 tw7780138719738078431 tw1506568870711378293 tw16854728019188890080 tw12307151752724861253 tw15675021803582896603 tw16502338597927586519 tw6249233901046687875 tw5402251154826496609 tw85839324451312767 tw8673687657637668101 tw1592477488744133266 tw3892247187202800251 tw11461502850132034166 tw2109339687507878999 tw14108534524468809845 tw8992416526713439312 tw266318383956561455 tw17014723239848902209 tw11982141355971467674 tw7622789912728656285 tw16059463284978565409 tw7621232741172409091 tw12705461791127150616 tw1550700961633048745 tw10614033445022334315 tw4612462946877766710 tw4070083892799922595 tw2664220385918912434 tw10669331840443168730 tw1587165114337486225 tw18089593352372692695 tw12872907837624302845 tw14292309624774339070 tw886277147986379818 tw14669072190600460555 tw4109313637903544287 tw7578072221209043736 tw11442228478973149657 tw11673683586274763683 tw14101454888737679970 tw5437195120312722190 tw5585101548150515132 tw15359683981617998793 tw16506322383719280221 tw15368091165465908250 tw2787065516016700360 tw13778433338499459344 tw12665037565636788805 tw5916155152183154732 tw16004388434786392407 tw13131665807802770776 tw11900747258403024932 tw11985701530626874681 tw13135493613029724711 tw15493603534604279964 tw16141547920039262049 tw1259982647636728927 tw11086028186011496754 tw4796877632676129042 tw13676562360467847477 tw11096948559828684887 tw11169910260185087589 tw4447662243409885346 tw1197461803877163008 tw98006495878195654 tw9640408019603357250 tw5938816136577998462 tw15195597292797488297 tw11562774663714896810 tw12685430479633543220 tw5889953736170859796 tw13730860853935807760 tw2977000006614607788 tw9921636424952600214 tw3844789108537522758 tw6696775148117216914 tw14498554304856862947 tw15555460575421900380 tw243005029501799180 tw133047082259418065 tw4892699357084247704 tw5643450278950737525 tw7457378292223838298 tw7935662054253622712 tw16830310653516876929 tw3905833108129688839 tw8745358464917384687 tw2616809339843301677 tw8120609922662220652 tw4460353244765873146 tw5738414199605366576 tw5774841086440456162 tw3302449115250727524 tw2285164245275421713 tw18197034192335606003 tw8163468817033681541 tw13371427395923660831 tw1019500776101149849 tw7149238601525047381 tw13340088317344214897 tw1698645874595191104 tw18018822334823458391 tw17029415399719852416 tw1763035526851353594 tw17322311558807184891 tw15045750220493840236 tw4324007395461350363 tw17447874575579345570 tw9759796359643953386 tw11992383693790438784 tw826058893001448425 tw977422208357245842 tw17290148223737868741 tw12421067100682932046 tw1592941592755309204 tw17043515528658130022 tw1115411905865714319 tw13142512727287436397 tw6614810256221683739 tw13917648426884987256 tw1787651361590584300 tw2611114475636147018 tw10879799728252115467 tw11787700141587481640 tw11821633659467673517 tw10127021630588123885 tw12061341455267548124 tw16024379222550613470 tw13869330198592960202 tw9112649439472495916 tw5707957325789368281 tw5090810792954722966 tw13051901106804588251 tw2726403627002704095 tw2635109489733307969 tw8785182919884672880
end PySem.W.Fast
namespace Dp
open PySem L2
noncomputable def top(i:Nat):Stmt:=PySem.Challenge.pw_fakehunt_k65_twins_alike.main.body.getD i (.Pass ⟨0,0,0,0⟩)
def G:Gs:=[(S "Step",GV.cls 146 [(S "word",147,1),(S "turned",148,3)] [146,169,149,157,152,160,163]),(S "Sign",GV.cls 169 [(S "word",170,1),(S "turned",171,3)] [169]),(S "More",GV.cls 149 [(S "word",150,1),(S "turned",151,3)] [149]),(S "Turn",GV.cls 157 [(S "word",158,1),(S "turned",159,3)] [157]),(S "Out",GV.cls 152 [(S "word",153,1),(S "turned",154,3)] [152]),(S "Swap",GV.cls 160 [(S "word",161,1),(S "turned",162,3)] [160]),(S "Far",GV.cls 163 [(S "word",164,1),(S "turned",165,3)] [163]),(S "OPERAND_PLACES",GV.dct [(S "put"),(S "if"),(S "tell"),(S "go"),(S "skip")] [(.tup [(.int 2),(.int 4)]),(.tup [(.int 1),(.int 3)]),(.tup [(.int 1)]),(.tup []),(.tup [])]),(S "replaced",GV.fn 42 3 []),(S "operand_places",GV.fn 113 1 []),(S "bit_of",GV.fn 43 1 []),(S "all_bits",GV.fn 56 1 []),(S "has_bit",GV.fn 114 2 []),(S "without_bit",GV.fn 57 2 []),(S "LOWEST",GV.c (.int (-1000000000))),(S "HIGHEST",GV.c (.int 999999999)),(S "HALF",GV.c (.int 1000000000)),(S "RING",GV.c (.int 2000000000)),(S "PUT_SIGNS",GV.c (.kt [(S "+"),(S "-"),(S "*"),(S "/"),(S "mod")])),(S "IF_SIGNS",GV.c (.kt [(S "<"),(S "<="),(S "="),(S ">="),(S ">"),(S "!=")])),(S "around",GV.fn 0 1 []),(S "divided",GV.fn 1 2 []),(S "left_over",GV.fn 2 2 []),(S "reckon",GV.fn 3 3 []),(S "is_so",GV.fn 4 3 []),(S "CONTRARIES",GV.dct [(S "<"),(S ">="),(S "<="),(S ">"),(S "="),(S "!=")] [(.str (S ">=")),(.str (S "<")),(.str (S ">")),(.str (S "<=")),(.str (S "!=")),(.str (S "="))]),(S "behind",GV.fn 70 2 []),(S "fakes",GV.fn 172 1 []),(S "fake_of",GV.fn 180 3 []),(S "worth",GV.fn 5 2 []),(S "began",GV.fn 6 2 []),(S "at_end",GV.fn 7 2 []),(S "values_behind",GV.fn 8 2 []),(S "place_behind",GV.fn 9 3 []),(S "moved",GV.fn 10 2 []),(S "is_outcome",GV.fn 11 1 []),(S "trail",GV.fn 12 3 [(.int 100)]),(S "outcome",GV.fn 13 3 [(.int 100)]),(S "MOST_TRIALS",GV.c (.int 10)),(S "check_trials",GV.fn 181 1 []),(S "WIDEST",GV.c (.int 64)),(S "width",GV.fn 133 1 []),(S "inputs_of",GV.fn 134 1 []),(S "is_wide",GV.fn 135 1 []),(S "box",GV.fn 136 1 []),(S "menu_numbers",GV.fn 137 2 []),(S "menu",GV.fn 138 1 []),(S "tried",GV.fn 139 1 []),(S "NOUGHT",GV.c (.tup [(.str (S "number")),(.int 0)])),(S "ONE",GV.c (.tup [(.str (S "number")),(.int 1)])),(S "SKIP",GV.c (.tup [(.str (S "skip"))])),(S "are_numbers",GV.fn 73 2 []),(S "lesser_first",GV.fn 74 3 []),(S "less_as_more",GV.fn 75 1 []),(S "without_reckoning",GV.fn 76 1 []),(S "made_put",GV.fn 77 1 []),(S "greater_as_less",GV.fn 78 1 []),(S "is_settled",GV.fn 79 1 []),(S "settled",GV.fn 80 1 []),(S "most_as_less",GV.fn 81 1 []),(S "made_if",GV.fn 82 2 []),(S "made_row",GV.fn 83 2 []),(S "made",GV.fn 106 1 []),(S "END",GV.c (.tup [(.str (S "end"))])),(S "row_at",GV.fn 115 2 []),(S "ends_run",GV.fn 116 1 []),(S "reads_only",GV.fn 117 2 []),(S "end_alike",GV.fn 118 3 []),(S "choose_alike",GV.fn 119 3 []),(S "staying",GV.fn 120 3 []),(S "places_behind",GV.fn 121 2 []),(S "follow",GV.fn 122 5 []),(S "found_paper",GV.fn 201 2 []),(S "parting",GV.fn 98 4 [(.int 100)]),(S "tells",GV.fn 99 4 [(.int 100)]),(S "sought",GV.fn 140 3 [(.int 100)]),(S "first_telling",GV.fn 281 4 []),(S "verdict",GV.fn 282 4 []),(S "verdicts",GV.fn 283 3 [(.int 100)]),(S "twins",GV.fn 231 1 []),(S "_law_cell_at",GV.fn 27 2 []),(S "_law_small_by",GV.fn 19 1 []),(S "_law_operand",GV.fn 28 2 []),(S "_law_row",GV.fn 29 4 []),(S "_law_stretch",GV.fn 284 1 []),(S "_law_program",GV.fn 30 2 []),(S "_law_trials",GV.fn 51 3 []),(S "_law_limit",GV.fn 102 1 []),(S "_law_moved",GV.fn 103 2 []),(S "_law_doubled",GV.fn 125 1 []),(S "law",GV.fn 16 1 []),(S "len",GV.blt),(S "range",GV.blt),(S "tuple",GV.blt),(S "list",GV.blt),(S "int",GV.blt),(S "bool",GV.blt),(S "str",GV.blt),(S "min",GV.blt),(S "max",GV.blt),(S "isinstance",GV.blt),(S "all",GV.blt),(S "any",GV.blt),(S "zip",GV.blt),(S "sorted",GV.blt),(S "enumerate",GV.blt),(S "set",GV.blt)]
def X9(i k:Nat):Stmt:=match top i with
 |.ClassDef _ _ _ b _ _ _ _ _ _ _=>b.getD k (.Pass ⟨0,0,0,0⟩)
 |s=>s
abbrev Cmp(i:Nat)(N:Li Str)(k:Nat)(c:FD):Prop:=ZaM G (top i) N (N.take k) c.body
abbrev Cmt(i j:Nat)(N:Li Str)(k:Nat)(c:FD):Prop:=ZaM G (X9 i j) N (N.take k) c.body
abbrev fA9(K:Fg)(x:Str)(i:Nat):Prop:=FnAt K x (top i)
abbrev kO9(K:Fg)(a b:Ad):Prop:=W.kitOne K (.ref a) (.ref b)=aa ac
abbrev nN9(K:Fg)(x:Str):Prop:=W.nsIn K ay x=aa ab
abbrev nV9(K:Fg)(x:Str)(v:vL):Prop:=W.nsIn K ay x=aa (aa v)
local macro_rules
 |`(tactic| trivial)=>`(tactic| exact⟨⟨rfl,rfl,rfl,by decide +kernel,rfl,by decide +kernel,by decide +kernel⟩,by unfold L2.Loc;decide +kernel,by kernel_rfl⟩)
def q_6:Cmp 6 ["things","i","thing"] 3 X4:=by trivial
def q_7:Cmp 7 ["row"] 1 ZV:=by trivial
def q_8:Cmp 8 ["i","bit","times"] 1 Vp:=by trivial
def q_9:Cmp 9 ["many"] 1 X2:=by trivial
def ZjR:Cmp 10 ["bits","i"] 2 Wu:=by trivial
def ZjS:Cmp 11 ["bits","i"] 2 YS:=by trivial
def ZjT:Cmp 19 ["number"] 1 Vn:=by trivial
def ZjU:Cmp 20 ["one","other"] 2 XL:=by trivial
def ZjV:Cmp 21 ["one","other"] 2 YI:=by trivial
def ZjW:Cmp 22 ["one","sign","other"] 3 Vq:=by trivial
def ZjX:Cmp 23 ["one","sign","other"] 3 UD:=by trivial
def ZjY:Cmp 26 ["ring","sign"] 2 Wd:=by trivial
def ZjZ:Cmp 35 ["program","rows","steps","told","k","row","step"] 1 UC:=by trivial
def Zj0:Cmp 36 ["program","k","row"] 3 Wt:=by trivial
def Zj1:Cmp 38 ["operand","values"] 2 W3:=by trivial
def Zj2:Cmp 39 ["program","inputs"] 2 UB:=by trivial
def Zj3:Cmp 40 ["program","state"] 2 Vo:=by trivial
def Zj4:Cmp 41 ["row","values","number"] 2 Zw:=by trivial
def Zj5:Cmp 42 ["row","k","values"] 3 ZG:=by trivial
def Zj6:Cmp 43 ["program","state","k","values","row"] 2 W1:=by trivial
def Zj7:Cmp 44 ["thing"] 1 Yo:=by trivial
def Zj8:Cmp 45 ["program","inputs","limit","state","things","done","thing"] 3 W2:=by trivial
def Zj9:Cmp 46 ["program","inputs","limit"] 3 Wx:=by trivial
def Zka:Cmp 49 ["trials"] 1 YA:=by trivial
def Zkb:Cmp 52 ["program","many","low","high"] 1 UH:=by trivial
def Zkc:Cmp 53 ["numbers_taken","told","numbers","longer","inputs"] 1 Xq:=by trivial
def Zkd:Cmp 54 ["program"] 1 Wv:=by trivial
def Zke:Cmp 55 ["program"] 1 ZbO:=by trivial
def Zkf:Cmp 56 ["low","high","numbers","number"] 2 Xr:=by trivial
def Zkg:Cmp 57 ["program"] 1 ZbP:=by trivial
def Zkh:Cmp 58 ["program"] 1 UF:=by trivial
def Zki:Cmp 63 ["y","z"] 2 YR:=by trivial
def Zkj:Cmp 64 ["row","i","j"] 3 Z7:=by trivial
def Zkk:Cmp 65 ["row"] 1 Z6:=by trivial
def Zkl:Cmp 66 ["row","y","sign","z"] 1 ZZ:=by trivial
def Zkm:Cmp 67 ["row"] 1 X3:=by trivial
def Zkn:Cmp 68 ["row"] 1 Z5:=by trivial
def Zko:Cmp 69 ["row"] 1 Y4:=by trivial
def Zkp:Cmp 70 ["row","so"] 1 Wz:=by trivial
def Zkq:Cmp 71 ["row","y","z"] 1 YB:=by trivial
def Zkr:Cmp 72 ["row","k"] 2 Ww:=by trivial
def Zks:Cmp 73 ["row","k"] 2 Z1:=by trivial
def Zkt:Cmp 74 ["program","rows"] 1 Ja:=by trivial
def Zku:Cmp 77 ["program","k"] 2 We:=by trivial
def Zkv:Cmp 78 ["row"] 1 Y3:=by trivial
def Zkw:Cmp 79 ["row","bits","i"] 2 Y5:=by trivial
def Zkx:Cmp 80 ["row","beside","bits"] 3 Xp:=by trivial
def Zky:Cmp 81 ["row","beside","bits"] 3 ZQ:=by trivial
def Zkz:Cmp 82 ["row","beside","bits","each"] 3 WA:=by trivial
def ZkA:Cmp 83 ["row","k"] 2 ZM:=by trivial
def ZkB:Cmp 84 ["one","other","k","j","bits","row","beside","stay","triples","place"] 5 c_follow:=by trivial
def ZkC:Cmp 86 ["one","other","paper","ahead","pair","triples","k","j","stay","bits"] 2 Ye:=by trivial
def ZkD:Cmp 88 ["one","other","inputs","limit","things","beside","n"] 4 Wy:=by trivial
def ZkE:Cmp 89 ["one","other","inputs","limit"] 4 UE:=by trivial
def ZkF:Cmp 91 ["one","other","limit","inputs"] 3 Vr:=by trivial
def ZkG:Cmp 93 ["one","other","trials","limit","i","inputs"] 4 Yl:=by trivial
def ZkH:Cmp 94 ["program","other","trials","limit","i","paper","inputs"] 4 WB:=by trivial
def ZkI:Cmp 95 ["program","trials","limit"] 3 X5:=by trivial
def ZkJ:Cmp 97 ["program","own","same","groups","number","fake","code"] 1 UG:=by trivial
def ZiW:Cmp 100 ["_law_script","_law_k"] 2 Yv:=by trivial
def ZiX:Cmp 101 ["_law_cell","_law_some"] 1 Yk:=by trivial
def ZiY:Cmp 102 ["_law_number","_law_many"] 2 Yx:=by trivial
def ZiZ:Cmp 103 ["_law_cell","_law_more","_law_many","_law_size","_law_one","_law_other","_law_sign","_law_at","_law_x"] 4 X1:=by trivial
def Zi0:Cmp 104 ["_law_cell","_law_low"] 1 Yz:=by trivial
def Zi1:Cmp 105 ["_law_script","_law_most","_law_head","_law_taken","_law_many","_law_size","_law_rows","_law_k","_law_cell","_law_takes"] 2 Yy:=by trivial
def Zi2:Cmp 106 ["_law_script","_law_start","_law_taken","_law_trials_here","_law_k","_law_cells"] 3 YQ:=by trivial
def Zi3:Cmp 107 ["_law_cell"] 1 Y2:=by trivial
def Zi4:Cmp 108 ["_law_row_here","_law_at"] 2 ZL:=by trivial
def Zi5:Cmp 109 ["_law_program_here","_law_rows"] 1 Yw:=by trivial
def Zf4:Cmp 110 ["_law_script","_law_program_here","_law_start","_law_limit_here","_law_trials_here","_law_one","_law_found","_law_same","_law_groups","_law_k","_law_group"] 1 c_law_k65:=by trivial
def Zhg:Cmt 27 0 [S "self"] 1 WN:=by trivial
def Zhh:Cmt 27 1 [S "self",S "row",S "many"] 3 XS:=by trivial
def Zhi:Cmt 28 0 [S "self"] 1 Xm:=by trivial
def Zhj:Cmt 28 1 [S "self",S "row",S "many"] 3 Zz:=by trivial
def Zhk:Cmt 29 0 [S "self"] 1 Xl:=by trivial
def Zhl:Cmt 29 1 [S "self",S "row",S "many",S "rows",S "i"] 3 YO:=by trivial
def Zhm:Cmt 30 0 [S "self"] 1 Xo:=by trivial
def Zhn:Cmt 30 1 [S "self",S "row",S "many"] 3 ZB:=by trivial
def Zho:Cmt 31 0 [S "self"] 1 X0:=by trivial
def Zhp:Cmt 31 1 [S "self",S "row",S "many"] 3 ZK:=by trivial
def Zhq:Cmt 32 0 [S "self"] 1 Xn:=by trivial
def Zhr:Cmt 32 1 [S "self",S "row",S "many"] 3 ZA:=by trivial
def Zhs:Cmt 33 0 [S "self"] 1 XZ:=by trivial
def Zht:Cmt 33 1 [S "self",S "row",S "many"] 3 ZJ:=by trivial
@[reducible] noncomputable def tab (l:Li (Nat×Ad)):ClsTab:=⟨λi=>(l.lookup i).getD 0⟩
section
variable [ct:ClsTab]
def Zgt{Pm:Params}{K:Fg}{h:bf}{mg:Str->Ot vL}{fa:Ad}(X:K.In h)(a:h.Ns ay mg)(hfa:mg "law"=aa (.ref fa)){C0 C1 C2 C3 C4 C5 C6 A7 i g f c b A18 A19 A25 A48 A49 A50 A63:Ad}{ob7 E D C B A ob18 ob19 j Z Y V U:Obj}{ep7 bn7_0 bn7_1 bn7_2 bn7_3 bn7_4 on18 on19 ep25 on48 on49 on50 on63:Nat}{R L J Q I H P F O M t14 t15 t16 t17 t18_0 t18_1 t18_2 t18_3 t18_4 t19_0 t19_1 t19_2 t19_3 t19_4 t19_5 z p y o x n w m r l q k t38 t40 t48_0 t48_1 t49_0 t49_1 t50_0 t63_0:Tok}
(yz0:ClsTab.ca 146=C0) (yz1:ClsTab.ca 169=C1) (yz2:ClsTab.ca 149=C2) (yz3:ClsTab.ca 157=C3) (yz4:ClsTab.ca 152=C4) (yz5:ClsTab.ca 160=C5) (yz6:ClsTab.ca 163=C6)
  (y0:ClsAt K "Step" C0) (ym0_0:kO9 K C0 C0) (ym0_1:kO9 K C1 C0) (ym0_2:kO9 K C2 C0) (ym0_3:kO9 K C3 C0) (ym0_4:kO9 K C4 C0) (ym0_5:kO9 K C5 C0) (ym0_6:kO9 K C6 C0) (w0_147:MtAt K C0 "word" "Step.word" (X9 27 0)) (w0_148:MtAt K C0 "turned" "Step.turned" (X9 27 1))
  (y1:ClsAt K "Sign" C1) (ym1_1:kO9 K C1 C1) (w1_170:MtAt K C1 "word" "Sign.word" (X9 28 0)) (w1_171:MtAt K C1 "turned" "Sign.turned" (X9 28 1))
  (y2:ClsAt K "More" C2) (ym2_2:kO9 K C2 C2) (w2_150:MtAt K C2 "word" "More.word" (X9 29 0)) (w2_151:MtAt K C2 "turned" "More.turned" (X9 29 1))
  (y3:ClsAt K "Turn" C3) (ym3_3:kO9 K C3 C3) (w3_158:MtAt K C3 "word" "Turn.word" (X9 30 0)) (w3_159:MtAt K C3 "turned" "Turn.turned" (X9 30 1))
  (y4:ClsAt K "Out" C4) (ym4_4:kO9 K C4 C4) (w4_153:MtAt K C4 "word" "Out.word" (X9 31 0)) (w4_154:MtAt K C4 "turned" "Out.turned" (X9 31 1))
  (y5:ClsAt K "Swap" C5) (ym5_5:kO9 K C5 C5) (w5_161:MtAt K C5 "word" "Swap.word" (X9 32 0)) (w5_162:MtAt K C5 "turned" "Swap.turned" (X9 32 1))
  (y6:ClsAt K "Far" C6) (ym6_6:kO9 K C6 C6) (w6_164:MtAt K C6 "word" "Far.word" (X9 33 0)) (w6_165:MtAt K C6 "turned" "Far.turned" (X9 33 1))
  (g7:nV9 K "OPERAND_PLACES" (.ref A7)) (d7:K.lookup A7=aa ob7) (f7c:ob7.cls=.type "dict") (f7d:ob7.dict=ab) (f7s:ob7.slots=#[]) (e7:ob7.data=.dict #[⟨bp Pm "put",.str "put" R,.ref i⟩,⟨bp Pm "if",.str "if" Q,.ref g⟩,⟨bp Pm "tell",.str "tell" P,.ref f⟩,⟨bp Pm "go",.str "go" O,.ref c⟩,⟨bp Pm "skip",.str "skip" M,.ref b⟩] ep7) (s7:(A7==bj)=ae)
  (h7_0:K.lookup i=aa E) (i7_0:E.cls=.type "tuple") (j7_0:E.data=.seq #[.int (2) L,.int (4) J] bn7_0)
  (h7_1:K.lookup g=aa D) (i7_1:D.cls=.type "tuple") (j7_1:D.data=.seq #[.int (1) I,.int (3) H] bn7_1)
  (h7_2:K.lookup f=aa C) (i7_2:C.cls=.type "tuple") (j7_2:C.data=.seq #[.int (1) F] bn7_2)
  (h7_3:K.lookup c=aa B) (i7_3:B.cls=.type "tuple") (j7_3:B.data=.seq #[] bn7_3)
  (h7_4:K.lookup b=aa A) (i7_4:A.cls=.type "tuple") (j7_4:A.data=.seq #[] bn7_4)
  (a8:fA9 K "replaced" 6)
  (a9:fA9 K "operand_places" 7)
  (a10:fA9 K "bit_of" 8)
  (a11:fA9 K "all_bits" 9)
  (a12:fA9 K "has_bit" 10)
  (a13:fA9 K "without_bit" 11)
  (g14:nV9 K "LOWEST" (.int (-1000000000) t14))
  (g15:nV9 K "HIGHEST" (.int (999999999) t15))
  (g16:nV9 K "HALF" (.int (1000000000) t16))
  (g17:nV9 K "RING" (.int (2000000000) t17))
  (g18:nV9 K "PUT_SIGNS" (.ref A18)) (d18:K.lookup A18=aa ob18) (f18c:ob18.cls=.type "tuple") (f18d:ob18.dict=ab) (e18:ob18.data=.seq #[.str "+" t18_0,.str "-" t18_1,.str "*" t18_2,.str "/" t18_3,.str "mod" t18_4] on18)
  (g19:nV9 K "IF_SIGNS" (.ref A19)) (d19:K.lookup A19=aa ob19) (f19c:ob19.cls=.type "tuple") (f19d:ob19.dict=ab) (e19:ob19.data=.seq #[.str "<" t19_0,.str "<=" t19_1,.str "=" t19_2,.str ">=" t19_3,.str ">" t19_4,.str "!=" t19_5] on19)
  (a20:fA9 K "around" 19)
  (a21:fA9 K "divided" 20)
  (a22:fA9 K "left_over" 21)
  (a23:fA9 K "reckon" 22)
  (a24:fA9 K "is_so" 23)
  (g25:nV9 K "CONTRARIES" (.ref A25)) (d25:K.lookup A25=aa j) (f25c:j.cls=.type "dict") (f25d:j.dict=ab) (f25s:j.slots=#[]) (e25:j.data=.dict #[⟨bp Pm "<",.str "<" z,.str ">=" p⟩,⟨bp Pm ">=",.str ">=" y,.str "<" o⟩,⟨bp Pm "<=",.str "<=" x,.str ">" n⟩,⟨bp Pm ">",.str ">" w,.str "<=" m⟩,⟨bp Pm "=",.str "=" r,.str "!=" l⟩,⟨bp Pm "!=",.str "!=" q,.str "=" k⟩] ep25) (s25:(A25==bj)=ae)
  (a26:fA9 K "behind" 26)
  (a27:fA9 K "fakes" 35)
  (a28:fA9 K "fake_of" 36)
  (a29:fA9 K "worth" 38)
  (a30:fA9 K "began" 39)
  (a31:fA9 K "at_end" 40)
  (a32:fA9 K "values_behind" 41)
  (a33:fA9 K "place_behind" 42)
  (a34:fA9 K "moved" 43)
  (a35:fA9 K "is_outcome" 44)
  (a36:FnAtE K "trail" (top 45) 100)
  (a37:FnAtE K "outcome" (top 46) 100)
  (g38:nV9 K "MOST_TRIALS" (.int (10) t38))
  (a39:fA9 K "check_trials" 49)
  (g40:nV9 K "WIDEST" (.int (64) t40))
  (a41:fA9 K "width" 52)
  (a42:fA9 K "inputs_of" 53)
  (a43:fA9 K "is_wide" 54)
  (a44:fA9 K "box" 55)
  (a45:fA9 K "menu_numbers" 56)
  (a46:fA9 K "menu" 57)
  (a47:fA9 K "tried" 58)
  (g48:nV9 K "NOUGHT" (.ref A48)) (d48:K.lookup A48=aa Z) (f48c:Z.cls=.type "tuple") (e48:Z.data=.seq #[.str ("number") t48_0,.int (0) t48_1] on48)
  (g49:nV9 K "ONE" (.ref A49)) (d49:K.lookup A49=aa Y) (f49c:Y.cls=.type "tuple") (e49:Y.data=.seq #[.str ("number") t49_0,.int (1) t49_1] on49)
  (g50:nV9 K "SKIP" (.ref A50)) (d50:K.lookup A50=aa V) (f50c:V.cls=.type "tuple") (e50:V.data=.seq #[.str ("skip") t50_0] on50)
  (a51:fA9 K "are_numbers" 63)
  (a52:fA9 K "lesser_first" 64)
  (a53:fA9 K "less_as_more" 65)
  (a54:fA9 K "without_reckoning" 66)
  (a55:fA9 K "made_put" 67)
  (a56:fA9 K "greater_as_less" 68)
  (a57:fA9 K "is_settled" 69)
  (a58:fA9 K "settled" 70)
  (a59:fA9 K "most_as_less" 71)
  (a60:fA9 K "made_if" 72)
  (a61:fA9 K "made_row" 73)
  (a62:fA9 K "made" 74)
  (g63:nV9 K "END" (.ref A63)) (d63:K.lookup A63=aa U) (f63c:U.cls=.type "tuple") (e63:U.data=.seq #[.str ("end") t63_0] on63)
  (a64:fA9 K "row_at" 77)
  (a65:fA9 K "ends_run" 78)
  (a66:fA9 K "reads_only" 79)
  (a67:fA9 K "end_alike" 80)
  (a68:fA9 K "choose_alike" 81)
  (a69:fA9 K "staying" 82)
  (a70:fA9 K "places_behind" 83)
  (a71:fA9 K "follow" 84)
  (a72:fA9 K "found_paper" 86)
  (a73:FnAtE K "parting" (top 88) 100)
  (a74:FnAtE K "tells" (top 89) 100)
  (a75:FnAtE K "sought" (top 91) 100)
  (a76:fA9 K "first_telling" 93)
  (a77:fA9 K "verdict" 94)
  (a78:FnAtE K "verdicts" (top 95) 100)
  (a79:fA9 K "twins" 97)
  (a80:fA9 K "_law_cell_at" 100)
  (a81:fA9 K "_law_small_by" 101)
  (a82:fA9 K "_law_operand" 102)
  (a83:fA9 K "_law_row" 103)
  (a84:fA9 K "_law_stretch" 104)
  (a85:fA9 K "_law_program" 105)
  (a86:fA9 K "_law_trials" 106)
  (a87:fA9 K "_law_limit" 107)
  (a88:fA9 K "_law_moved" 108)
  (a89:fA9 K "_law_doubled" 109)
  (a90:fA9 K "law" 110)
  (z91:nN9 K "len")
  (z92:nN9 K "range")
  (z93:nN9 K "tuple")
  (z94:nN9 K "list")
  (z95:nN9 K "int")
  (z96:nN9 K "bool")
  (z97:nN9 K "str")
  (z98:nN9 K "min")
  (z99:nN9 K "max")
  (z100:nN9 K "isinstance")
  (z101:nN9 K "all")
  (z102:nN9 K "any")
  (z103:nN9 K "zip")
  (z104:nN9 K "sorted")
  (z105:nN9 K "enumerate")
  (z106:nN9 K "set") :
  Text Pm K mg G T/\∃ (fd:bc) (N:Li Str),(∀ (s:Sd) (u:vL),BindsTo s fd ⟨[u],[]⟩ [(S "_law_script",u)])/\DefOk K mg G T "law" 16 [] fa fd [S "_law_script"] N:=by
 refine⟨Zfo (gC X a yz0 y0 (gS yz0 y0 ym0_0 (gS yz1 y1 ym0_1 (gS yz2 y2 ym0_2 (gS yz3 y3 ym0_3 (gS yz4 y4 ym0_4 (gS yz5 y5 ym0_5 (gS yz6 y6 ym0_6 trivial))))))) (gM w0_147 Zhg rfl (gM w0_148 Zhh rfl trivial)) (gC X a yz1 y1 (gS yz1 y1 ym1_1 trivial) (gM w1_170 Zhi rfl (gM w1_171 Zhj rfl trivial)) (gC X a yz2 y2 (gS yz2 y2 ym2_2 trivial) (gM w2_150 Zhk rfl (gM w2_151 Zhl rfl trivial)) (gC X a yz3 y3 (gS yz3 y3 ym3_3 trivial) (gM w3_158 Zhm rfl (gM w3_159 Zhn rfl trivial)) (gC X a yz4 y4 (gS yz4 y4 ym4_4 trivial) (gM w4_153 Zho rfl (gM w4_154 Zhp rfl trivial)) (gC X a yz5 y5 (gS yz5 y5 ym5_5 trivial) (gM w5_161 Zhq rfl (gM w5_162 Zhr rfl trivial)) (gC X a yz6 y6 (gS yz6 y6 ym6_6 trivial) (gM w6_164 Zhs rfl (gM w6_165 Zht rfl trivial)) (⟨⟨A7,ob7,#[⟨bp Pm "put",.str "put" R,.ref i⟩,⟨bp Pm "if",.str "if" Q,.ref g⟩,⟨bp Pm "tell",.str "tell" P,.ref f⟩,⟨bp Pm "go",.str "go" O,.ref c⟩,⟨bp Pm "skip",.str "skip" M,.ref b⟩],ep7,W.mg_of X a g7,d7,⟨f7c,f7d,f7s⟩,e7,s7,(by decide),(show EsOk Pm K [⟨bp Pm "put",.str "put" R,.ref i⟩,⟨bp Pm "if",.str "if" Q,.ref g⟩,⟨bp Pm "tell",.str "tell" P,.ref f⟩,⟨bp Pm "go",.str "go" O,.ref c⟩,⟨bp Pm "skip",.str "skip" M,.ref b⟩] _ _ from .cons (v:=.ref i) (t:=R) rfl rfl (show RelV (.ref i) (.ref i) from rfl) (λ_ _=>.tup (xs:=[.int (2),.int (4)]) (.inr ⟨E,#[.int (2) L,.int (4) J],bn7_0,h7_0,i7_0,j7_0,(show(2:Nat)<=aw by decide),.cons ⟨_,rfl⟩ (.cons ⟨_,rfl⟩ (.nil))⟩) (.cons (.int _) (.cons (.int _) (.nil)))) (.cons (v:=.ref g) (t:=Q) rfl rfl (show RelV (.ref g) (.ref g) from rfl) (λ_ _=>.tup (xs:=[.int (1),.int (3)]) (.inr ⟨D,#[.int (1) I,.int (3) H],bn7_1,h7_1,i7_1,j7_1,(show(2:Nat)<=aw by decide),.cons ⟨_,rfl⟩ (.cons ⟨_,rfl⟩ (.nil))⟩) (.cons (.int _) (.cons (.int _) (.nil)))) (.cons (v:=.ref f) (t:=P) rfl rfl (show RelV (.ref f) (.ref f) from rfl) (λ_ _=>.tup (xs:=[.int (1)]) (.inr ⟨C,#[.int (1) F],bn7_2,h7_2,i7_2,j7_2,(show(1:Nat)<=aw by decide),.cons ⟨_,rfl⟩ (.nil)⟩) (.cons (.int _) (.nil))) (.cons (v:=.ref c) (t:=O) rfl rfl (show RelV (.ref c) (.ref c) from rfl) (λ_ _=>.tup (xs:=[]) (.inr ⟨B,#[],bn7_3,h7_3,i7_3,j7_3,(show(0:Nat)<=aw by decide),.nil⟩) (.nil)) (.cons (v:=.ref b) (t:=M) rfl rfl (show RelV (.ref b) (.ref b) from rfl) (λ_ _=>.tup (xs:=[]) (.inr ⟨A,#[],bn7_4,h7_4,i7_4,j7_4,(show(0:Nat)<=aw by decide),.nil⟩) (.nil)) (.nil))))))⟩,gD X a a8 q_6 rfl (gD X a a9 q_7 rfl (gD X a a10 q_8 rfl (gD X a a11 q_9 rfl (gD X a a12 ZjR rfl (gD X a a13 ZjS rfl (gI X a g14 (gI X a g15 (gI X a g16 (gI X a g17 (⟨⟨.ref A18,.ref A18,W.mg_of X a g18,rfl,λ_ _=>.kt (its:=#[.str "+" t18_0,.str "-" t18_1,.str "*" t18_2,.str "/" t18_3,.str "mod" t18_4]) d18 f18c f18d e18 (show(5:Nat)<=aw by decide) (.cons ⟨_,rfl⟩ (.cons ⟨_,rfl⟩ (.cons ⟨_,rfl⟩ (.cons ⟨_,rfl⟩ (.cons ⟨_,rfl⟩ (.nil))))))⟩,⟨⟨.ref A19,.ref A19,W.mg_of X a g19,rfl,λ_ _=>.kt (its:=#[.str "<" t19_0,.str "<=" t19_1,.str "=" t19_2,.str ">=" t19_3,.str ">" t19_4,.str "!=" t19_5]) d19 f19c f19d e19 (show(6:Nat)<=aw by decide) (.cons ⟨_,rfl⟩ (.cons ⟨_,rfl⟩ (.cons ⟨_,rfl⟩ (.cons ⟨_,rfl⟩ (.cons ⟨_,rfl⟩ (.cons ⟨_,rfl⟩ (.nil)))))))⟩,gD X a a20 ZjT rfl (gD X a a21 ZjU rfl (gD X a a22 ZjV rfl (gD X a a23 ZjW rfl (gD X a a24 ZjX rfl (⟨⟨A25,j,#[⟨bp Pm "<",.str "<" z,.str ">=" p⟩,⟨bp Pm ">=",.str ">=" y,.str "<" o⟩,⟨bp Pm "<=",.str "<=" x,.str ">" n⟩,⟨bp Pm ">",.str ">" w,.str "<=" m⟩,⟨bp Pm "=",.str "=" r,.str "!=" l⟩,⟨bp Pm "!=",.str "!=" q,.str "=" k⟩],ep25,W.mg_of X a g25,d25,⟨f25c,f25d,f25s⟩,e25,s25,(by decide),(show EsOk Pm K [⟨bp Pm "<",.str "<" z,.str ">=" p⟩,⟨bp Pm ">=",.str ">=" y,.str "<" o⟩,⟨bp Pm "<=",.str "<=" x,.str ">" n⟩,⟨bp Pm ">",.str ">" w,.str "<=" m⟩,⟨bp Pm "=",.str "=" r,.str "!=" l⟩,⟨bp Pm "!=",.str "!=" q,.str "=" k⟩] _ _ from .cons (v:=.str ">=") (t:=z) rfl rfl (show RelV (.str ">=") (.str ">=" p) from⟨_,rfl⟩) (λ_ _=>.str _) (.cons (v:=.str "<") (t:=y) rfl rfl (show RelV (.str "<") (.str "<" o) from⟨_,rfl⟩) (λ_ _=>.str _) (.cons (v:=.str ">") (t:=x) rfl rfl (show RelV (.str ">") (.str ">" n) from⟨_,rfl⟩) (λ_ _=>.str _) (.cons (v:=.str "<=") (t:=w) rfl rfl (show RelV (.str "<=") (.str "<=" m) from⟨_,rfl⟩) (λ_ _=>.str _) (.cons (v:=.str "!=") (t:=r) rfl rfl (show RelV (.str "!=") (.str "!=" l) from⟨_,rfl⟩) (λ_ _=>.str _) (.cons (v:=.str "=") (t:=q) rfl rfl (show RelV (.str "=") (.str "=" k) from⟨_,rfl⟩) (λ_ _=>.str _) (.nil)))))))⟩,gD X a a26 ZjY rfl (gD X a a27 ZjZ rfl (gD X a a28 Zj0 rfl (gD X a a29 Zj1 rfl (gD X a a30 Zj2 rfl (gD X a a31 Zj3 rfl (gD X a a32 Zj4 rfl (gD X a a33 Zj5 rfl (gD X a a34 Zj6 rfl (gD X a a35 Zj7 rfl (gE X a a36 Zj8 rfl ?_ (gE X a a37 Zj9 rfl ?_ (gI X a g38 (gD X a a39 Zka rfl (gI X a g40 (gD X a a41 Zkb rfl (gD X a a42 Zkc rfl (gD X a a43 Zkd rfl (gD X a a44 Zke rfl (gD X a a45 Zkf rfl (gD X a a46 Zkg rfl (gD X a a47 Zkh rfl (⟨⟨.ref A48,.ref A48,W.mg_of X a g48,rfl,λ_ _=>.tup (xs:=[.str ("number"),.int (0)]) (.inr ⟨Z,#[.str ("number") t48_0,.int (0) t48_1],on48,d48,f48c,e48,(show(2:Nat)<=aw by decide),.cons ⟨_,rfl⟩ (.cons ⟨_,rfl⟩ (.nil))⟩) (.cons (.str _) (.cons (.int _) (.nil)))⟩,⟨⟨.ref A49,.ref A49,W.mg_of X a g49,rfl,λ_ _=>.tup (xs:=[.str ("number"),.int (1)]) (.inr ⟨Y,#[.str ("number") t49_0,.int (1) t49_1],on49,d49,f49c,e49,(show(2:Nat)<=aw by decide),.cons ⟨_,rfl⟩ (.cons ⟨_,rfl⟩ (.nil))⟩) (.cons (.str _) (.cons (.int _) (.nil)))⟩,⟨⟨.ref A50,.ref A50,W.mg_of X a g50,rfl,λ_ _=>.tup (xs:=[.str ("skip")]) (.inr ⟨V,#[.str ("skip") t50_0],on50,d50,f50c,e50,(show(1:Nat)<=aw by decide),.cons ⟨_,rfl⟩ (.nil)⟩) (.cons (.str _) (.nil))⟩,gD X a a51 Zki rfl (gD X a a52 Zkj rfl (gD X a a53 Zkk rfl (gD X a a54 Zkl rfl (gD X a a55 Zkm rfl (gD X a a56 Zkn rfl (gD X a a57 Zko rfl (gD X a a58 Zkp rfl (gD X a a59 Zkq rfl (gD X a a60 Zkr rfl (gD X a a61 Zks rfl (gD X a a62 Zkt rfl (⟨⟨.ref A63,.ref A63,W.mg_of X a g63,rfl,λ_ _=>.tup (xs:=[.str ("end")]) (.inr ⟨U,#[.str ("end") t63_0],on63,d63,f63c,e63,(show(1:Nat)<=aw by decide),.cons ⟨_,rfl⟩ (.nil)⟩) (.cons (.str _) (.nil))⟩,gD X a a64 Zku rfl (gD X a a65 Zkv rfl (gD X a a66 Zkw rfl (gD X a a67 Zkx rfl (gD X a a68 Zky rfl (gD X a a69 Zkz rfl (gD X a a70 ZkA rfl (gD X a a71 ZkB rfl (gD X a a72 ZkC rfl (gE X a a73 ZkD rfl (λ_ _ _ _ _ _ _ _ _ _ d e=>⟨λs us hK hl=>by obtain⟨_,_,_,_,rfl⟩:=Zg1 (show us.length=4 by simpa using hl);exact W.binds_K hK rfl d e rfl rfl,λs us hK hl=>by obtain⟨_,_,_,rfl⟩:=ZeF (show us.length=3 by simpa using hl);exact W.binds_K hK rfl d e rfl rfl⟩) (gE X a a74 ZkE rfl (λ_ _ _ _ _ _ _ _ _ _ d e=>⟨λs us hK hl=>by obtain⟨_,_,_,_,rfl⟩:=Zg1 (show us.length=4 by simpa using hl);exact W.binds_K hK rfl d e rfl rfl,λs us hK hl=>by obtain⟨_,_,_,rfl⟩:=ZeF (show us.length=3 by simpa using hl);exact W.binds_K hK rfl d e rfl rfl⟩) (gE X a a75 ZkF rfl ?_ (gD X a a76 ZkG rfl (gD X a a77 ZkH rfl (gE X a a78 ZkI rfl ?_ (gD X a a79 ZkJ rfl (gD X a a80 ZiW rfl (gD X a a81 ZiX rfl (gD X a a82 ZiY rfl (gD X a a83 ZiZ rfl (gD X a a84 Zi0 rfl (gD X a a85 Zi1 rfl (gD X a a86 Zi2 rfl (gD X a a87 Zi3 rfl (gD X a a88 Zi4 rfl (gD X a a89 Zi5 rfl (gD X a a90 Zf4 rfl (gB X a z91 (gB X a z92 (gB X a z93 (gB X a z94 (gB X a z95 (gB X a z96 (gB X a z97 (gB X a z98 (gB X a z99 (gB X a z100 (gB X a z101 (gB X a z102 (gB X a z103 (gB X a z104 (gB X a z105 (gB X a z106 (trivial)))))))))))))))))))))))))))))))))))))))))))⟩))))))))))))⟩⟩⟩))))))))))))))))))))))⟩)))))⟩⟩))))))))))⟩)))))))),gL X a hfa a90 Zf4 rfl λ_ _ _ _ _ _ _=>rfl⟩
 all_goals exact λ_ _ _ _ _ _ _ _ _ _ d e=>⟨λs us hK hl=>by obtain⟨_,_,_,z⟩:=ZeF (show us.length=3 by simpa using hl);subst z;exact PySem.W.binds_K hK rfl d e rfl rfl,λs us hK hl=>by obtain⟨_,_,z⟩:=ZiP (show us.length=2 by simpa using hl);subst z;exact PySem.W.binds_K hK rfl d e rfl rfl⟩
def ZeK:∀ n,Xi G (run T n):=λ_=>Zd9
end
end Dp
open PySem PySem.W PyProof.Rows
local macro_rules
 |`(∅)=>`(.mk ?_ ?_ ?_ ?_)
set_option maxRecDepth 100000 in
set_option maxHeartbeats 0 in
theorem PySem.Challenge.cw_fakehunt_k65_twins_alike_holds : PySem.Challenge.rw_fakehunt_k65_twins_alike.Holds := by
 w_on;o_law;k_head;(case hw=>w_witness2)
 k_fill
 refine Dp.Zbh (l:=PySem.Challenge.rw_fakehunt_k65_twins_alike) (G:=Dp.G) (T:=Dp.T) (n:=12) (i:=16) (x := "_law_script") rfl rfl ⟨rfl,by decide,by decide⟩ (λw h Y=>PySem.W.kIn_of Y) Dp.ZeK ?F (λns hn=>Dp.Zbg 0 hn)
 case F=>
  intro w mg fa h KX G0 hmg;refine' ⟨Dp.tab [(146,?C0),(169,?C1),(149,?C2),(157,?C3),(152,?C4),(160,?C5),(163,?C6)],Dp.Zgt (ct:=Dp.tab [(146,?C0),(169,?C1),(149,?C2),(157,?C3),(152,?C4),(160,?C5),(163,?C6)]) (Pm:=w.params) (C0:=?C0) (C1:=?C1) (C2:=?C2) (C3:=?C3) (C4:=?C4) (C5:=?C5) (C6:=?C6) KX G0 hmg ?z0 ?z1 ?z2 ?z3 ?z4 ?z5 ?z6 ⟨?_,?_,?_,?_,?_,?_,?_,?_,?_,?_,?_,?_⟩ ?_ ?_ ?_ ?_ ?_ ?_ ?_ (.mk ?_ ?_ ?_ ?_ ?_) (.mk ?_ ?_ ?_ ?_ ?_) ⟨?_,?_,?_,?_,?_,?_,?_,?_,?_,?_,?_,?_⟩ ?_ (.mk ?_ ?_ ?_ ?_ ?_) (.mk ?_ ?_ ?_ ?_ ?_) ⟨?_,?_,?_,?_,?_,?_,?_,?_,?_,?_,?_,?_⟩ ?_ (.mk ?_ ?_ ?_ ?_ ?_) (.mk ?_ ?_ ?_ ?_ ?_) ⟨?_,?_,?_,?_,?_,?_,?_,?_,?_,?_,?_,?_⟩ ?_ (.mk ?_ ?_ ?_ ?_ ?_) (.mk ?_ ?_ ?_ ?_ ?_) ⟨?_,?_,?_,?_,?_,?_,?_,?_,?_,?_,?_,?_⟩ ?_ (.mk ?_ ?_ ?_ ?_ ?_) (.mk ?_ ?_ ?_ ?_ ?_) ⟨?_,?_,?_,?_,?_,?_,?_,?_,?_,?_,?_,?_⟩ ?_ (.mk ?_ ?_ ?_ ?_ ?_) (.mk ?_ ?_ ?_ ?_ ?_) ⟨?_,?_,?_,?_,?_,?_,?_,?_,?_,?_,?_,?_⟩ ?_ (.mk ?_ ?_ ?_ ?_ ?_) (.mk ?_ ?_ ?_ ?_ ?_) ?_ ?_ ?_ ?_ ?_ ?_ ?_ ?_ ?_ ?_ ?_ ?_ ?_ ?_ ?_ ?_ ?_ ?_ ?_ ?_ ?_ ?_ ∅ ∅ ∅ ∅ ∅ ∅ ?_ ?_ ?_ ?_ ?_ ?_ ?_ ?_ ?_ ?_ ?_ ?_ ?_ ?_ ∅ ∅ ∅ ∅ ∅ ?_ ?_ ?_ ?_ ?_ ?_ ?_ ∅ ∅ ∅ ∅ ∅ ∅ ∅ ∅ ∅ ∅ (.mk ?_ ?_ ?_ ?_ ?_ ?_) (.mk ?_ ?_ ?_ ?_ ?_ ?_) ?_ ∅ ?_ ∅ ∅ ∅ ∅ ∅ ∅ ∅ ?_ ?_ ?_ ?_ ?_ ?_ ?_ ?_ ?_ ?_ ?_ ?_ ∅ ∅ ∅ ∅ ∅ ∅ ∅ ∅ ∅ ∅ ∅ ∅ ?_ ?_ ?_ ?_ ∅ ∅ ∅ ∅ ∅ ∅ ∅ ∅ ∅ (.mk ?_ ?_ ?_ ?_ ?_ ?_) (.mk ?_ ?_ ?_ ?_ ?_ ?_) (.mk ?_ ?_ ?_ ?_ ?_ ?_) ∅ ∅ (.mk ?_ ?_ ?_ ?_ ?_ ?_) ∅ ∅ ∅ ∅ ∅ ∅ ∅ ∅ ∅ ∅ ∅ ∅ ?_ ?_ ?_ ?_ ?_ ?_ ?_ ?_ ?_ ?_ ?_ ?_ ?_ ?_ ?_ ?_⟩
  all_goals (first|k_is|exact rfl|skip)
  all_goals (first|k_is|exact rfl|skip)

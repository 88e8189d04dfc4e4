import PyProof.Rows.All
import Wide.All
import OpenK.AllK
import Wide.FinOn
import Lean
import PyProof.EqAt
import PyProof.EqKinds
import PyProof.TupleCall
import PyProof.TupleKey
import PyProof.DictWalks
import PyProof.DictItems
import KE.KPairComp
import KE.KUnpack
import KE.KSortAsk
import KE.KSortTup
import KE.KDictSum
import PySem.Challenge.RW_fakehunt_k64_found_or_table
set_option Elab.async false
set_option linter.all false
set_option maxRecDepth 100000
set_option maxHeartbeats 4000000
set_option genSizeOf false
set_option compiler.extract_closed false
set_option bootstrap.genMatcherCode false
def fD:=@Nat.le_refl
open PySem renaming sizeLine → av,Expr → aw,mainGlobals → ax,wpAny → ay,model → az,Program → a0,starEach → a6,bootBuiltins → a7,Scope → bc,FuncData → bf,Heap → bg,World → bh,compareOp → bj,sysModules → bm,Around → bo,binaryOp → bp
open PySem.PyData renaming keyHash → bq
open PySem.Value renaming ref → br,none → bt
open Option renaming some → aa,none → ab
open Bool renaming true → ac,false → ae
open List renaming replicate → af,range → ag
open Decidable renaming decide → aj
def ak:=@of_decide_eq_false
def al:=@of_decide_eq_true
def am:=@if_pos
def ao:=@if_neg
def aq:=@absurd
def ar:=@congrArg
def au:=@Option.some.inj
noncomputable section
def aB:=@List.length_map
def aD:=@Nat.le_refl
def aF:=@List.mem_cons
def aG:=@decide_eq_false
def aH:=@List.size_toArray
def aI:=@List.length_append
def aK:=@decide_eq_true
def aM:=@Nat.le_trans
def aO:=@Nat.zero_le
def aP:=@List.length_cons
def aQ:=@List.map_cons
def aR:=@List.mem_singleton
def aS:=@List.mem_map
def aT:=@Nat.lt_of_lt_of_le
def aU:=@List.getElem?_map
def aV:=@List.not_mem_nil
def aX:=@List.mem_of_getElem?
def aY:=@Nat.ne_of_lt
def aZ:=@Int.toNat_natCast
def bA:=@List.getD_eq_getElem?_getD
def bB:=@List.append_assoc
def bC:=@Int.natCast_add
def bD:=@List.append_nil
def bE:=@List.all_cons
def bF:=@Nat.zero_add
def bH:=@List.length_set
def bJ:=@List.getElem?_eq_some_iff
def bK:=@List.length_range
def bL:=@List.map_map
def bM:=@List.length_replicate
def bN:=@Int.toNat_of_nonneg
def bO:=@List.mem_append
def bP:=@List.nodup_cons
def bQ:=@List.drop_eq_getElem_cons
def bR:=@List.drop_zero
def bS:=@Nat.lt_irrefl
def bT:=@List.map_append
def bU:=@List.flatMap_cons
def bV:=@List.mem_range
def bX:=@List.getElem?_set_self
def bY:=@Bool.eq_iff_iff
def bZ:=@List.getElem?_append_left
def cA:=@List.length_drop
def cB:=@List.lookup_cons
def cC:=@List.getElem?_set_ne
def cD:=@List.mem_append_right
def cF:=@List.length_take
def cG:=@List.getElem?_append_right
def cH:=@List.replicate_succ
def cI:=@List.getElem_mem
def cJ:=@Array.length_toList
def cK:=@Nat.le_of_eq
def cL:=@List.cons_ne_nil
def cM:=@beq_eq_false_iff_ne
def cN:=@List.any_cons
def cP:=@List.find?_cons
def cQ:=@List.length_nil
def cR:=@Nat.one_mul
def cT:=@List.all_eq_true
def cU:=@List.map_flatMap
def cV:=@Nat.le_of_lt
def cX:=@List.flatten_cons
def cY:=@List.nil_append
def cZ:=@List.forIn_cons
def dA:=@List.drop_of_length_le
def dB:=@Option.bind_eq_some_iff
def dC:=@Bool.true_and
def dD:=@List.length_pos_iff
def dE:=@Nat.mul_le_mul
def dF:=@List.map_nil
def dG:=@Option.map_eq_some_iff
def dH:=@List.getElem?_eq_none
def dI:=@decide_eq_true_eq
def dJ:=@Bool.or_eq_true
def dL:=@Bool.false_eq_true
def dM:=@List.range_eq_range'
def dN:=@List.range'_succ
def dO:=@List.getElem?_toArray
def dP:=@Nat.le_add_right
def dQ:=@List.map_set
def dR:=@Int.natCast_mul
def dS:=@List.mem_flatMap
def dU:=@List.mem_filter
def dW:=@Nat.lt_succ_self
def dX:=@List.of_mem_zip
def dY:=@Nat.le_of_not_lt
def dZ:=@Bool.and_eq_true_iff
def eA:=@List.length_eq_zero_iff
def eB:=@Bool.not_eq_true'
def eC:=@List.take_of_length_le
def eD:=@List.map_replicate
def eE:=@Int.natCast_nonneg
def eG:=@List.getElem?_replicate
def eH:=@List.length_singleton
def eI:=@Array.getElem?_toList
def eJ:=@Array.getElem?_eq_getElem
def eK:=@List.getElem?_eq_none_iff
def eM:=@List.mem_or_eq_of_mem_set
section
open PySem PySem.Spec PyProof.Rows
def aA:=@wpAny_bind
def aE:=@wpAny_pure
def aJ:=@Heap.lt_size
def aL:=@Heap.get?_push_of_some
def aW:=@Heap.get?_push_size
def bG:=@wpAny_mono
end
abbrev Li.{u}(α:Type u):Type u:=List α
abbrev Ot.{u}(α:Type u):Type u:=Option α
abbrev vL:=PySem.Value
abbrev Ad:=PySem.Addr
abbrev Sd:=PySem.Shared
def Ob{α β:Type}{a:α}{f:α->Ot β}:(aa a).bind f=f a:=rfl
abbrev Fg:=PySem.W.Frag
def Ba(a b:Bool):((a&&b)=ac)=(a=ac/\b=ac):=Bool.and_eq_true a b
def Lg{α:Type _}{l:Li α}{i:Nat}(h:i<l.length):l[i]?=aa l[i]:=List.getElem?_eq_getElem h
def Lm{α:Type _}(y:α){a:α}{l:Li α}(h:a∈l):a∈y::l:=List.mem_cons_of_mem y h
def Ls{α:Type _}{a:α}{l:Li α}:a∈a::l:=List.mem_cons_self
def Bf:¬ae=ac:=Bool.false_ne_true
namespace L2
open PySem PySem.Spec PyProof.Rows
abbrev Key:=Sum Int Str
noncomputable def keyIs:Key->vL->Bool
  |.inl k,v=>Value.isInt k v
  |.inr x,v=>Value.isStrOf x v
noncomputable def keyH(w:bh):Key->Int
  |.inl k=>hashInt k
  |.inr x=>hashStr w x
def keyIs_shape:∀ {k:Key}{v:vL},keyIs k v=ac->(∃ i t,k=Sum.inl i/\v=Value.int i t)\/(∃ x t,k=Sum.inr x/\v=Value.str x t)
  |.inl i,v,h=>by
    obtain⟨t,e⟩:=Value.isInt_shape (k:=i) (v:=v) h;exact .inl ⟨i,t,rfl,e⟩
  |.inr x,v,h=>by
    obtain⟨t,e⟩:=Value.isStrOf_shape (x:=x) (v:=v) h;exact .inr ⟨x,t,rfl,e⟩
def keyIs_int(i:Int)(t:Tok):keyIs (.inl i) (.int i t)=ac:=by simp[keyIs,Value.isInt]
def keyIs_str(x:Str)(t:Tok):keyIs (.inr x) (.str x t)=ac:=by simp[keyIs,Value.isStrOf]
def key_ll(a b:Int):aj ((Sum.inl a:Key)=Sum.inl b)=(a==b):=by
  by_cases e:a=b
  . subst e;simp
  . have h:¬(Sum.inl a:Key)=Sum.inl b:=λq=>e (Sum.inl.inj q)
    rw[aG h];exact(cM.mpr e).symm
def key_rr(a b:Str):aj ((Sum.inr a:Key)=Sum.inr b)=aj (a=b):=by
  by_cases e:a=b
  . subst e;simp
  . have h:¬(Sum.inr a:Key)=Sum.inr b:=λq=>e (Sum.inr.inj q)
    rw[aG h,aG e]
def key_lr(a:Int)(b:Str):aj ((Sum.inl a:Key)=Sum.inr b)=ae:=aG (λq=>nomatch q)
def key_rl(a:Str)(b:Int):aj ((Sum.inr a:Key)=Sum.inl b)=ae:=aG (λq=>nomatch q)
def mixKind(prog:a0)(w:bh):PySem.KeyKind prog w Key where
  is:=keyIs
  hash:=keyH w
  inj:=λv a b l f=>by
    rcases keyIs_shape l with⟨i,t,rfl,rfl⟩|⟨x,t,rfl,rfl⟩
    . rcases keyIs_shape f with⟨j,u,rfl,e⟩|⟨y,u,rfl,e⟩
      . injection e with c _;rw[c]
      . exact nomatch e
    . rcases keyIs_shape f with⟨j,u,rfl,e⟩|⟨y,u,rfl,e⟩
      . exact nomatch e
      . injection e with c _;rw[c]
  byValue:=λk v h=>by
    rcases keyIs_shape h with⟨i,t,rfl,rfl⟩|⟨x,t,rfl,rfl⟩<;>rfl
  pyHash:=λd h=>by
    rcases keyIs_shape d with⟨i,t,rfl,rfl⟩|⟨x,t,rfl,rfl⟩
    . exact wpAny_pyHash_int h
    . exact wpAny_pyHash_str h
  eqBool:=λg d h=>by
    rcases keyIs_shape g with⟨i,t,rfl,rfl⟩|⟨x,t,rfl,rfl⟩
    . rcases keyIs_shape d with⟨j,u,rfl,rfl⟩|⟨y,u,rfl,rfl⟩
      . rw[key_ll]at h;exact wpAny_eqBool_int h
      . rw[key_lr]at h;exact SeqAt.EqAt.int_str i t y u _ _ _ _ h
    . rcases keyIs_shape d with⟨j,u,rfl,rfl⟩|⟨y,u,rfl,rfl⟩
      . rw[key_rl]at h;exact SeqAt.EqAt.str_int x t j u _ _ _ _ h
      . rw[key_rr]at h;exact wpAny_eqBool_str h
  «strs»:=λk x t v h=>by
    rcases keyIs_shape h with⟨i,u,rfl,e⟩|⟨y,u,rfl,e⟩
    . exact nomatch e
    . injection e with c _
      subst c;cases v<;>rfl
def mixKind_int(prog:a0)(w:bh)(i:Int)(t:Tok):(mixKind prog w).is (.inl i) (.int i t)=ac:=keyIs_int i t
def mixKind_str(prog:a0)(w:bh)(x:Str)(t:Tok):(mixKind prog w).is (.inr x) (.str x t)=ac:=keyIs_str x t
inductive V where
  |non|bl (b:Bool)|int (i:Int)|str (x:Str)|byt (b:Array UInt8)|flt (b:UInt64)|ref (a:Addr)|ty (n:String)
  deriving DecidableEq
def RelV:V->vL->Prop
  |.non,u=>u=bt
  |.bl b,u=>u=Value.bool b
  |.int i,u=>∃ t,u=Value.int i t
  |.str x,u=>∃ t,u=Value.str x t
  |.byt b,u=>∃ t,u=Value.bytes b t
  |.flt b,u=>∃ t,u=Value.float b t
  |.ref a,u=>u=br a
  |.ty n,u=>u=Value.type n
abbrev Vals:Li V->Li vL->Prop:=Paired RelV
variable{xs:Li V}{us:Li vL}
def Vals.length(r:Vals xs us):xs.length=us.length:=Paired.length r
theorem Vals.get:∀ {xs:Li V}{us:Li vL}{i:Nat}{x:V},Vals xs us->xs[i]?=aa x->∃ u,us[i]?=aa u/\RelV x u
  |_,_,_,_,.nil,e=>by simp at e
  |_,_,0,_,.cons r _,e=>by simp at e;subst e;exact⟨_,rfl,r⟩
  |_,_,i+1,x,.cons _ t,e=>by
    obtain⟨u,b,a⟩:=Vals.get (i:=i) (x:=x) t (by simpa using e)
    exact⟨u,by simpa using b,a⟩
theorem Vals.set{x:V}{u:vL}(r:RelV x u):∀ {xs:Li V}{us:Li vL} (i:Nat),Vals xs us->Vals (xs.set i x) (us.set i u)
  |_,_,_,.nil=>.nil
  |_,_,0,.cons _ t=>.cons r t
  |_,_,i+1,.cons q t=>.cons q (Vals.set r i t)
theorem Vals.append:∀ {xs ys:Li V}{us ws:Li vL},Vals xs us->Vals ys ws->Vals (xs++ys) (us++ws)
  |_,_,_,_,.nil,s=>s
  |_,_,_,_,.cons r t,s=>.cons r (Vals.append t s)
theorem Vals.take:∀ {xs:Li V}{us:Li vL} (n:Nat),Vals xs us->Vals (xs.take n) (us.take n)
  |_,_,0,_=>.nil
  |_,_,_+1,.nil=>.nil
  |_,_,n+1,.cons r t=>.cons r (Vals.take n t)
theorem Vals.drop:∀ {xs:Li V}{us:Li vL} (n:Nat),Vals xs us->Vals (xs.drop n) (us.drop n)
  |_,_,0,r=>r
  |_,_,_+1,.nil=>.nil
  |_,_,n+1,.cons _ t=>Vals.drop n t
def RelO:Ot V->Ot vL->Prop
  |some v,aa u=>RelV v u
  |none,ab=>True
  |_,_=>False
def KV{a:Type}:Li (a×V)->Li (a×vL)->Prop:=Paired λ(p:a×V) (q:a×vL)=>p.1=q.1/\RelV p.2 q.2
noncomputable def kV:Key->V
  |.inl i=>.int i
  |.inr x=>.str x
inductive HO where
    |lst (xs:List V)
    |tup (xs:List V)
    |dK (kvs:List (Key×V))|dT (kvs:List (List Key×V))
    |set (S:Int->Bool) (n:Nat)
    |ins (C dx:Addr) (fs:List (Str×V))
    |own (x:Addr)
    |xd (fs:List (Str×V))
    |met (f x:Addr)
    |rng (lo hi:Int)
    |frz (o:Obj) (u:HO)
    |tbl (ps:Array Value)
    |ext (φ:bg->Prop)
abbrev Hp:=Ad->Ot HO
noncomputable def upd(H:Hp)(a:Ad)(o:HO):Hp:=λb=>if b=a then aa o else H b
variable{H:Hp}
def upd_same{a:Ad}{o:HO}:upd H a o a=aa o:=by unfold upd;rw[am rfl]
def upd_ne{a b:Ad}{o:HO}(h:b≠a):upd H a o b=H b:=by unfold upd;rw[ao h]
def ne_of{a b:Ad}{o u:HO}(h:H a=aa o)(c:H b=aa u)(d:o≠u):a≠b:=by
  intro e;subst e;rw[h]at c;exact d (au c)
def ne_of_none{a b:Ad}{o:HO}(h:H a=aa o)(c:H b=ab):a≠b:=by
  intro e;subst e;rw[h]at c;cases c
section
variable (P:a0) (w:bh)
def ObjOk(H:Hp)(h:bg)(a:Ad):HO->Prop
  |.lst xs=>xs.length<=av/\∃ (c:Li vL) (n:Nat),Vals xs c/\h.get? a=aa { cls:=.type "list",data:=.seq c.toArray n }
  |.tup xs=>xs.length<=av/\∃ c:Li vL,Vals xs c/\IsTup h a c.toArray
  |.dK b=>b.length<=av/\(a==bm)=ae/\∃ i,KV b i/\h.DictOf (mixKind P w) a i
  |.dT b=>b.length<=av/\(a==bm)=ae/\∃ xs:Li (Li Key×Ad×vL),
      Paired (λ(p:Li Key×V) (q:Li Key×Ad×vL)=>p.1=q.1/\H q.2.1=aa (.tup (p.1.map kV))/\RelV p.2 q.2.2) b xs /\
      ∃ o l y,h.get? a=aa o/\o.ExactDict/\o.data=.dict l y/\l.toList=xs.map (entryOfKey (tupleKind (mixKind P w)))/\(xs.map (·.1)).Nodup
  |.set S n=>h.SetOf (intKind P w) a S n
  |.ins C e fs=>H e=aa (.own a)/\fs.length<=1000/\e≠a/\h.get? a=aa (W.instObj C e) /\
      ∃ d,h.Ns1 e d/\(∀ f,RelO (fs.lookup f) (d f))/\PySem.Within d (fs.map (·.1))
  |.own _=>∃ o,h.get? a=aa o
  |.xd fs=>∃ d,h.Ns1 a d/\∀ f,RelO (fs.lookup f) (d f)
  |.rng r s=>∃ t u v,h.get? a=aa { cls:=.type "range",data:=.fields #[.int r t,.int s u,.int 1 v] }
  |.frz o u=>h.get? a=aa o/\ObjOk H h a u
  |.tbl m=>h.get? a=aa { cls:=.none,data:=.fields m }
  |.met f x=>h.get? a=aa (W.methodObj (.ref f) (.ref x))
  |.ext g=>g h/\(∃ o,h.get? a=aa o)/\∀ k j:bg,g k->(∀ o,k.get? a=aa o->j.get? a=aa o)->g j
def HOk(H:Hp)(h:bg):Prop:=∀ a o,H a=aa o->ObjOk P w H h a o
end
variable{P:a0}{w:bh}{H H':Hp}{h h':bg}{a:Ad}
section
variable{o:HO}
def ObjOk.lt(x:ObjOk P w H h a o):a < h.objs.size:=by
  cases o with
  |lst xs=>obtain⟨_,_,_,_,e⟩:=x;exact aJ e
  |tup xs=>obtain⟨_,_,_,p⟩:=x;exact p.lt
  |dK b=>obtain⟨_,_,_,_,o,_,_,e,_⟩:=x;exact aJ e
  |dT b=>obtain⟨_,_,_,_,o,_,_,e,_⟩:=x;exact aJ e
  |set S n=>obtain⟨o,_,_,_,e,_⟩:=x;exact aJ e
  |ins C k fs=>obtain⟨_,_,_,e,_⟩:=x;exact aJ e
  |own y=>obtain⟨_,e⟩:=x;exact aJ e
  |xd fs=>obtain⟨_,⟨_,_,_,e,_⟩,_⟩:=x;exact aJ e
  |rng i j=>obtain⟨_,_,_,e⟩:=x;exact aJ e
  |frz g u=>obtain⟨e,_⟩:=x;exact aJ e
  |tbl d=>exact aJ (show h.get? a=aa _ from x)
  |met f y=>exact aJ (show h.get? a=aa _ from x)
  |ext c=>obtain⟨_,⟨_,e⟩,_⟩:=x;exact aJ e
theorem Paired.mapP{d c:Type}{F G:d->c->Prop}:∀ {l₁:Li d}{l₂:Li c},Paired F l₁ l₂->(∀ a b,F a b->G a b)->Paired G l₁ l₂
  |_,_,.nil,_=>.nil
  |_,_,.cons r t,f=>.cons (f _ _ r) (Paired.mapP t f)
def ObjOk.stay(x:ObjOk P w H h a o)(k:∀ b u,(b=a\/H b=aa (.own a))->h.get? b=aa u->h'.get? b=aa u)(J:∀ b,H b=aa (.own a)->H' b=aa (.own a))(I:∀ b xs,H b=aa (.tup xs)->H' b=aa (.tup xs)):ObjOk P w H' h' a o:=by
  induction o with
  |lst xs=>obtain⟨z,l,n,r,e⟩:=x;exact⟨z,l,n,r,k _ _ (.inl rfl) e⟩
  |tup xs=>obtain⟨z,l,r,g,e,c⟩:=x;exact⟨z,l,r,g,k _ _ (.inl rfl) e,c⟩
  |dK A=>obtain⟨z,y,E,r,g,i,j,e,c⟩:=x;exact⟨z,y,E,r,g,i,j,k _ _ (.inl rfl) e,c⟩
  |dT A=>
    obtain⟨z,y,xs,r,g,i,j,e,c⟩:=x;exact⟨z,y,xs,Paired.mapP r λp q z=>⟨z.1,I _ _ z.2.1,z.2.2⟩,g,i,j,k _ _ (.inl rfl) e,c⟩
  |set S n=>obtain⟨g,i,j,t,e,c⟩:=x;exact⟨g,i,j,t,k _ _ (.inl rfl) e,c⟩
  |ins C O fs=>
    obtain⟨d,z,F,e,s,⟨m,i,j,K,c⟩,r⟩:=x;exact⟨J _ d,z,F,k _ _ (.inl rfl) e,s,⟨m,i,j,k _ _ (.inr d) K,c⟩,r⟩
  |own y=>obtain⟨g,e⟩:=x;exact⟨g,k _ _ (.inl rfl) e⟩
  |xd fs=>obtain⟨s,⟨m,i,j,e,c⟩,r⟩:=x;exact⟨s,⟨m,i,j,k _ _ (.inl rfl) e,c⟩,r⟩
  |rng M N=>obtain⟨t,u,v,e⟩:=x;exact⟨t,u,v,k _ _ (.inl rfl) e⟩
  |frz g u G=>obtain⟨e,q⟩:=x;exact⟨k _ _ (.inl rfl) e,G q⟩
  |tbl D=>
    have e:h.get? a=aa { cls:=.none,data:=.fields D }:=x;show h'.get? a=aa { cls:=.none,data:=.fields D };exact k a _ (.inl rfl) e
  |met f y=>
    have e:h.get? a=aa (W.methodObj (.ref f) (.ref y)):=x;show h'.get? a=aa (W.methodObj (.ref f) (.ref y));exact k a _ (.inl rfl) e
  |ext L=>obtain⟨p,⟨o,e⟩,B⟩:=x;exact⟨B _ _ p λo q=>k _ _ (.inl rfl) q,⟨o,k _ _ (.inl rfl) e⟩,B⟩
def HOk.lt(x:HOk P w H h)(e:H a=aa o):a < h.objs.size:=(x a o e).lt
def HOk.fresh(x:HOk P w H h)(e:h.objs.size<=a):H a=ab:=by
  cases q:H a with
  |none=>rfl
  |some u=>exact aq (aT (x.lt q) e) (bS _)
def HOk.kept(x:HOk P w H h)(k:∀ b u,h.get? b=aa u->h'.get? b=aa u):HOk P w H h':=λa o e=>
  (x a o e).stay (λb u _ q=>k b u q) (λ_ q=>q) λ_ _ q=>q
def HOk.laid(x:HOk P w H h)(k:∀ b u,h.get? b=aa u->h'.get? b=aa u)(g:h.objs.size<=a)(new:ObjOk P w (upd H a o) h' a o):HOk P w (upd H a o) h':=λb u e=>by
  have d:=x.fresh g;by_cases f:b=a
  . subst f;rw[upd_same]at e;cases e;exact new
  . rw[upd_ne f]at e
    exact(x b u e).stay (λc v _ q=>k c v q) (λc q=>by rw[upd_ne (ne_of_none q d)];exact q) λc xs q=>by rw[upd_ne (ne_of_none q d)];exact q
end
def Rd(H:Hp)(a:Ad)(u:HO):Prop:=H a=aa u\/∃ o,H a=aa (.frz o u)
variable{w:bh}{h:bg}
def Rd.ok{P:a0}{a:Ad}{u:HO}(r:Rd H a u)(x:HOk P w H h):ObjOk P w H h a u:=by
  rcases r with r|⟨o,r⟩
  . exact x a u r
  . obtain⟨_,q⟩:=x a _ r
    exact q
def Mut:Ot HO->Prop
  |some (.lst _)=>True
  |some (.dK _)=>True
  |some (.dT _)=>True
  |some (.set _ _)=>True
  |some (.ins _ _ _)=>True
  |some (.ext _)=>True
  |_=>False
variable{x:Ad}
section
variable{e:Ad}{o':HO}
def HOk.write(ok:HOk P w H h)(mu:Mut (H x))(l:e=x\/H e=aa (.own x))(k:∀ b u,b≠e->h.get? b=aa u->h'.get? b=aa u)(i:∃ u,h'.get? e=aa u)(new:ObjOk P w (upd H x o') h' x o'):HOk P w (upd H x o') h':=λb u q=>by
  have d:∀ c y,H c=aa (.own y)->c≠x:=λc y r z=>by subst z;rw[r]at mu;exact mu
  have f:∀ c xs,H c=aa (.tup xs)->c≠x:=λc xs r z=>by subst z;rw[r]at mu;exact mu
  by_cases g:b=x
  . subst g;rw[upd_same]at q;cases q;exact new
  . rw[upd_ne g]at q
    by_cases a:b=e
    . have j:H b=aa (.own x):=by
        rcases l with z|z
        . exact aq (a.trans z) g
        . rw[a];exact z
      rw[q]at j;cases j
      obtain⟨v,m⟩:=i;exact⟨v,by rw[a];exact m⟩
    . refine(ok b u q).stay (λc v hc r=>k c v ?_ r) (λc r=>by rw[upd_ne (d c b r)];exact r) λc xs r=>by rw[upd_ne (f c xs r)];exact r
      rcases hc with rfl|hc
      . exact a
      . rintro rfl
        rcases l with z|z
        . exact d c b hc z
        . rw[hc]at z;cases z;exact g rfl
end
structure Un(fs ex:List Addr)(H H':Hp)(h h':bg):Prop where
  keep:∀ b o,h.get? b=aa o->H b=ab->b∉fs->b∉ex->h'.get? b=aa o
  slot:∀ b o,h.get? b=aa o->H b=ab->b∈fs->b∉ex->∃ sl,h'.get? b=aa { o with slots:=sl }
  free:∀ b o,h.get? b=aa o->H b=ab->b∉ex->H' b=ab
  there:∀ b o,h.get? b=aa o->b∉ex->∃ o',h'.get? b=aa o'
  tups:∀ b xs,H b=aa (.tup xs)->H' b=aa (.tup xs)
  frzs:∀ b o u,H b=aa (.frz o u)->H' b=aa (.frz o u)
  tbls:∀ b ps,H b=aa (.tbl ps)->∃ more,H' b=aa (.tbl (ps++more))
section
variable{fs fs' ex ex':Li Ad}{H1 H2:Hp}{h1 h2:bg}{e:Ad}{o:HO}
def Un.any(u:Un fs ex H H1 h h1){b:Ad}{a:Obj}(q:h.get? b=aa a)(n:H b=ab)(c:b∉ex):∃ sl,h1.get? b=aa { a with slots:=sl }:=by
  by_cases d:b∈fs
  . exact u.slot b a q n d c
  . exact⟨a.slots,u.keep b a q n d c⟩
def Un.kept(k:∀ b u,h.get? b=aa u->h'.get? b=aa u):Un fs ex H H h h':=
  ⟨λb a q _ _ _=>k b a q,λb a q _ _ _=>⟨a.slots,k b a q⟩,λ_ _ _ n _=>n,λb a q _=>⟨a,k b a q⟩,λ_ _ q=>q,λ_ _ _ q=>q,λ_ c q=>⟨#[],by rw[q];simp⟩⟩
def Un.refl:Un fs ex H H h h:=Un.kept λ_ _ q=>q
def Un.laid(k:∀ b u,h.get? b=aa u->h'.get? b=aa u)(d:h.objs.size<=a)(c:H a=ab):Un fs ex H (upd H a o) h h' where
  keep:=λb u q _ _ _=>k b u q
  slot:=λb u q _ _ _=>⟨u.slots,k b u q⟩
  free:=λb u q n _=>by rw[upd_ne (aY (aT (aJ q) d))];exact n
  there:=λb u q _=>⟨u,k b u q⟩
  tups:=λb xs q=>by rw[upd_ne (ne_of_none q c)];exact q
  frzs:=λb u xs q=>by rw[upd_ne (ne_of_none q c)];exact q
  tbls:=λb e q=>⟨#[],by rw[upd_ne (ne_of_none q c),q];simp⟩
def Un.write(mu:Mut (H x))(i:e=x\/H e=aa (.own x))(k:∀ b u,b≠e->h.get? b=aa u->h'.get? b=aa u)(d:∃ u,h'.get? e=aa u):Un fs ex H (upd H x o) h h':=by
  have f:∀ b,H b=ab->b≠x:=λb n z=>by subst z;rw[n]at mu;exact mu
  have g:∀ b,H b=ab->b≠e:=λb n z=>by
    subst z;rcases i with r|r
    . exact f b n r
    . rw[n]at r;cases r
  have c:∀ b u,H b=aa u->¬Mut (aa u)->b≠x:=λb u q nm z=>by subst z;rw[q]at mu;exact nm mu
  refine⟨λb u q n _ _=>k b u (g b n) q,λb u q n _ _=>⟨u.slots,k b u (g b n) q⟩,λb u q n _=>by rw[upd_ne (f b n)];exact n,λb u q _=>?_,
    λb xs q=>by rw[upd_ne (c b _ q λz=>z)];exact q,λb u xs q=>by rw[upd_ne (c b _ q λz=>z)];exact q,λb j q=>⟨#[],by rw[upd_ne (c b _ q λz=>z),q];simp⟩⟩
  by_cases a:b=e
  . subst a;exact d
  . exact⟨u,k b u a q⟩
end
noncomputable def trk(h:bg)(H:Hp):Li Ad:=(ag h.objs.size).filter λa=>(H a).isSome
def hidT(h:bg)(H:Hp):bg:=W.hideAll h (trk h H)
def hidT_size(h:bg)(H:Hp):(hidT h H).objs.size=h.objs.size:=W.hideAll_size _ _
def hidT_get{b:Ad}{o:Obj}(e:h.get? b=aa o)(n:H b=ab):(hidT h H).get? b=aa o:=
  W.hideAll_get _ e λa=>by
    have q:(H b).isSome=ac:=(dU.mp a).2;rw[n]at q;simp at q
def of_hidT{b:Ad}{o:Obj}(e:(hidT h H).get? b=aa o):h.get? b=aa o/\H b=ab:=by
  have a:h.get? b=aa o:=W.of_hideAll (trk h H) e;refine⟨a,?_⟩;cases q:H b with
  |none=>rfl
  |some x=>
    have c:b∈trk h H:=dU.mpr ⟨bV.mpr (aJ a),by simp[q]⟩
    have z:(hidT h H).get? b=ab:=W.hideAll_none (trk h H) c;rw[z]at e;cases e
structure Mod(K:Fg)(mg:Str->Option Value)(base:bg):Prop where
  kin:K.In base
  glob:base.Ns ax mg
  blt:∃ mb,base.Ns builtinsNs mb/\∀ x:Str,x ≠ "__name__"->mb x=a7 x
  nolimit:base.NoLimit
structure Cx where
  prog:a0
  w:bh
  K:Fg
  mg:Str->Option Value
  base:bg
  A:bo
  N:List Str
  s₀:Shared
  H₀:Hp
  env:Env
  outer:List Env
  stack:List Env
  ex:List Addr
  fn:Str->Bool
  calm:Bool
  pn:List (Addr×Obj)
  xe:Value->Shared->Prop
noncomputable def frs(l:Li Env):Li Ad:=l.filterMap (·.frame)
abbrev Cx.fs(X:Cx):Li Ad:=frs X.outer
def Vis(sc:bc)(x:Str):Prop:=sc.names.lookup x=aa .local\/sc.names.lookup x=aa .cell\/sc.names.lookup x=aa .free
def Loc(sc:bc)(x:Str):Prop:=sc.names.lookup x=aa .local\/sc.names.lookup x=aa .cell
def Look(env:Env)(h:bg)(m:Str->Ot vL)(x:Str)(u:vL):Prop:=
  (env.kindOf x=aa .local/\m x=aa u)\/((env.kindOf x=aa .cell\/env.kindOf x=aa .free)/\∃ c,env.cells.lookup x=aa c/\h.IsCell c (aa u))
structure Cx.Ok(X:Cx):Prop where
  mod:Mod X.K X.mg X.base
  kind:X.env.scope.kind=.function
  glob:X.env.globals=ax
  blt:X.env.builtins=builtinsNs
  above:X.s₀.heap.objs.size<=X.env.locals
  inj:∀ x y c,X.env.cells.lookup x=aa c->X.env.cells.lookup y=aa c->x=y
  has:∀ x,(X.env.kindOf x=aa .cell\/X.env.kindOf x=aa .free)->∃ c,X.env.cells.lookup x=aa c
  cab:∀ x c,X.fn x=ac->X.env.cells.lookup x=aa c->X.s₀.heap.objs.size<=c
  hd:X.calm=ac->X.A.handled=ab
  frames:X.A.frames=aa X.stack
  stk:X.stack=X.outer\/(X.stack=X.env :: X.outer/\X.env.frame=aa X.env.locals)
  exf:∀ b∈X.ex,b≠X.env.locals/\∀ x c,X.env.cells.lookup x=aa c->c≠b
  bs:∀ b o,X.base.get? b=aa o->X.s₀.heap.get? b=aa o/\X.H₀ b=ab
  bsz:X.base.objs.size<=X.s₀.heap.objs.size
  noex:∀ b o,X.base.get? b=aa o->b∉X.ex
  exfs:∀ b∈X.ex,b∉X.fs
  funs:X.s₀.heap.FunFrames X.base X.outer
  frf:∀ b∈X.fs,X.H₀ b=ab
structure Inv(X:Cx)(pQ:List (Addr×Obj))(O:List (Option V))(H:Hp)(s:Shared):Prop where
  ok:X.Ok
  os:s.os=X.s₀.os
  bare:AllBare s.gens
  base:Un X.fs X.ex X.H₀ H X.s₀.heap s.heap
  loc:∃ m,s.heap.Ns X.env.locals m/\∀ (i:Nat) (x:Str) (v:V),X.N[i]?=aa x->O[i]?=aa (aa v)->Vis X.env.scope x->∃ u,RelV v u/\Look X.env s.heap m x u
  cell:∀ x c,X.env.cells.lookup x=aa c->∃ v,s.heap.IsCell c v
  free:H X.env.locals=ab
  freeC:∀ x c,X.env.cells.lookup x=aa c->H c=ab
  pin:∀ p∈X.pn++pQ,s.heap.get? p.1=aa p.2/\H p.1=ab/\p.1≠X.env.locals/\p.1∉X.fs/\∀ v,p.2.data≠.cell v
  hok:HOk X.prog X.w H s.heap
  len:O.length=X.N.length
variable{g':Array GenState}{t' i:Nat}{d':Drawn}{N:Li Str}
variable{X:Cx}{pQ:Li (Ad×Obj)}{s:Sd}
section
variable{O:Li (Ot V)}
def Cx.Ok.nofr(ok:X.Ok){b:Ad}{o:Obj}(e:X.base.get? b=aa o):b∉X.fs:=λa=>by
  have:=(ok.funs.mem a).1;rw[e]at this;cases this
def Inv.bs(I:Inv X pQ O H s):∀ b o,X.base.get? b=aa o->s.heap.get? b=aa o/\H b=ab:=λb o e=>
  ⟨I.base.keep b o (I.ok.bs b o e).1 (I.ok.bs b o e).2 (I.ok.nofr e) (I.ok.noex b o e),I.base.free b o (I.ok.bs b o e).1 (I.ok.bs b o e).2 (I.ok.noex b o e)⟩
def Inv.bk(I:Inv X pQ O H s):∀ b o,X.base.get? b=aa o->s.heap.get? b=aa o:=λb o e=>(I.bs b o e).1
def Inv.mod(I:Inv X pQ O H s):Mod X.K X.mg X.base:=I.ok.mod
def Inv.kIn(I:Inv X pQ O H s):X.K.In s.heap:=I.ok.mod.kin.keeps I.bk
def Inv.lt(I:Inv X pQ O H s):X.env.locals < s.heap.objs.size:=let ⟨_,hn,_⟩:=I.loc;hn.lt
def Inv.sz(I:Inv X pQ O H s):X.s₀.heap.objs.size<=s.heap.objs.size:=aM I.ok.above (cV I.lt)
def Inv.nofs(I:Inv X pQ O H s){a:Ad}(h:s.heap.objs.size<=a):a∉X.fs:=λc=>by
  obtain⟨_,o,b,_⟩:=I.ok.funs.mem c;exact aq (aT (aJ b) (aM I.sz h)) (bS _)
def Inv.cne(I:Inv X pQ O H s):∀ x c,X.env.cells.lookup x=aa c->c≠X.env.locals:=λx c e z=>by
  obtain⟨v,o,d,f⟩:=I.cell x c e;obtain⟨m,⟨g,h,i,a,b,_⟩,_⟩:=I.loc;rw[z,a]at d;cases d;rw[b]at f;cases f
def Inv.funs(I:Inv X pQ O H s):s.heap.FunFrames X.base X.outer:=by
  have all:∀ (l:Li Env),(∀ b∈frs l,b∈X.fs)->X.s₀.heap.FunFrames X.base l->s.heap.FunFrames X.base l:=by
    intro l
    induction l with
    |nil=>intro _ _;trivial
    |cons p r g=>
      intro f k;obtain⟨m,⟨L,o,a,j,i,n⟩,h⟩:=k;have d:L∈X.fs:=f L (by unfold frs;rw[List.filterMap_cons,a];exact Ls)
      obtain⟨sl,e⟩:=I.base.slot L o i (I.ok.frf L d) d λz=>I.ok.exfs L z d
      exact⟨m,⟨L,_,a,j,e,n⟩,g (λb c=>f b (by unfold frs;rw[List.filterMap_cons,a];exact Lm _ c)) h⟩
  exact all X.outer (λ_ c=>c) I.ok.funs
def Inv.stack(I:Inv X pQ O H s):s.heap.FunFrames X.base X.stack:=by
  rcases I.ok.stk with e|⟨e,b⟩
  . rw[e];exact I.funs
  . rw[e]
    obtain⟨m,a,_⟩:=I.loc;refine .cons (by rw[I.ok.kind];decide) b a ?_ I.funs
    exact Heap.get?_none_of_le (aM I.ok.bsz I.ok.above)
def Inv.stkSub(I:Inv X pQ O H s):∀ b∈frs X.stack,b∈X.env.locals :: X.fs:=λb a=>by
  rcases I.ok.stk with e|⟨e,c⟩
  . rw[e]at a;exact Lm _ a
  . rw[e]at a
    unfold frs at a;rw[List.filterMap_cons,c]at a;exact a
def Inv.stkFree(I:Inv X pQ O H s):∀ b∈frs X.stack,H b=ab:=λb hb=>by
  rcases aF.mp (I.stkSub b hb) with e|hb
  . rw[e];exact I.free
  . obtain⟨_,o,a,_⟩:=I.ok.funs.mem hb
    exact I.base.free b o a (I.ok.frf b hb) λz=>I.ok.exfs b z hb
def Inv.step{ch:Li Ad}(I:Inv X pQ O H s)(g:∀ b∈ch,(b∈X.ex\/X.s₀.heap.objs.size<=b)/\b≠X.env.locals/\(∀ x c,X.env.cells.lookup x=aa c->c≠b)/\∀ p∈X.pn++pQ,p.1≠b)(keep:∀ b o,b≠X.env.locals->b∉X.fs->b∉ch->s.heap.get? b=aa o->H b=ab->h'.get? b=aa o)(slot:∀ b o,b≠X.env.locals->b∈X.fs->b∉ch->s.heap.get? b=aa o->H b=ab->∃ sl,h'.get? b=aa { o with slots:=sl })(free:∀ b o,b∉ch->s.heap.get? b=aa o->H b=ab->H' b=ab)(there:∀ b o,b∉ch->s.heap.get? b=aa o->∃ B,h'.get? b=aa B)(tups:∀ b xs,H b=aa (.tup xs)->H' b=aa (.tup xs))(frzs:∀ b o u,H b=aa (.frz o u)->H' b=aa (.frz o u))(tbls:∀ b E,H b=aa (.tbl E)->∃ more,H' b=aa (.tbl (E++more)))(N:∀ m,s.heap.Ns X.env.locals m->h'.Ns X.env.locals m)(hok:HOk X.prog X.w H' h')(T:AllBare g') :
    Inv X pQ O H' { s with heap:=h',gens:=g',drawn:=d',toks:=t' }:=by
  have C:∀ b o,X.s₀.heap.get? b=aa o->b≠X.env.locals:=λb o e=>aY (aT (aJ e) I.ok.above)
  have j:∀ b o,X.s₀.heap.get? b=aa o->b∉X.ex->b∉ch:=λb o e a y=>by
    rcases (g b y).1 with z|z
    . exact a z
    . exact aq (aT (aJ e) z) (bS _)
  have h:∀ x c,X.env.cells.lookup x=aa c->∀ v,s.heap.IsCell c v->h'.IsCell c v:=λx c e v ⟨o,A,G⟩=>by
    have f:c∉ch:=λz=>(g c z).2.2.1 x c e rfl
    by_cases M:c∈X.fs
    . obtain⟨sl,q⟩:=slot c o (I.cne x c e) M f A (I.freeC x c e)
      exact⟨_,q,G⟩
    . exact⟨o,keep c o (I.cne x c e) M f A (I.freeC x c e),G⟩
  refine⟨I.ok,I.os,T,⟨λb o e n y a=>?_,λb o e n y a=>?_,λb o e n a=>?_,λb o e a=>?_,λb xs e=>tups b xs (I.base.tups b xs e),λb o xs e=>frzs b o xs (I.base.frzs b o xs e),λb E e=>?_⟩,?_,λx c e=>?_,?_,λx c e=>?_,λp L=>?_,hok,I.len⟩
  . exact keep b o (C b o e) y (j b o e a) (I.base.keep b o e n y a) (I.base.free b o e n a)
  . obtain⟨sl,t⟩:=I.base.slot b o e n y a
    obtain⟨F,D⟩:=slot b _ (C b o e) y (j b o e a) t (I.base.free b o e n a);exact⟨F,D⟩
  . obtain⟨B,t⟩:=I.base.there b o e a
    exact free b B (j b o e a) t (I.base.free b o e n a)
  . obtain⟨B,t⟩:=I.base.there b o e a
    exact there b B (j b o e a) t
  . obtain⟨Q,t⟩:=I.base.tbls b E e
    obtain⟨P,D⟩:=tbls b _ t;exact⟨Q++P,by rw[D,Array.append_assoc]⟩
  . obtain⟨m,R,S⟩:=I.loc
    refine⟨m,N m R,λi x v t D U=>?_⟩
    obtain⟨u,r,l⟩:=S i x v t D U;refine⟨u,r,?_⟩;rcases l with l|⟨k,c,e,z⟩
    . exact .inl l
    . exact .inr ⟨k,c,e,h x c e _ z⟩
  . obtain⟨v,z⟩:=I.cell x c e
    exact⟨v,h x c e v z⟩
  . obtain⟨m,⟨o,_,_,A,_⟩,_⟩:=I.loc
    exact free _ o (λz=>(g _ z).2.1 rfl) A I.free
  . obtain⟨v,o,A,G⟩:=I.cell x c e
    exact free c o (λz=>(g c z).2.2.1 x c e rfl) A (I.freeC x c e)
  . obtain⟨e,n,K,J,d⟩:=I.pin p L
    have f:p.1∉ch:=λz=>(g p.1 z).2.2.2 p L rfl
    exact⟨keep p.1 p.2 K J f e n,free p.1 p.2 f e n,K,J,d⟩
def Inv.un(I:Inv X pQ O H s)(u:Un X.fs [] H H' s.heap h')(hok:HOk X.prog X.w H' h'):Inv X pQ O H' { s with heap:=h',toks:=t' }:=by
  obtain⟨m,⟨o,p,q,g,r⟩,_⟩:=id I.loc;obtain⟨sl,j⟩:=u.any g I.free (by simp)
  exact I.step (g':=s.gens) (d':=s.drawn) (ch:=[]) (λ_ z=>nomatch z) (λb o _ c _ e n=>u.keep b o e n c (by simp)) (λb o _ c _ e n=>u.slot b o e n c (by simp)) (λb o _ e n=>u.free b o e n (by simp)) (λb o _ e=>u.there b o e (by simp)) u.tups u.frzs u.tbls (λl i=>by
    obtain⟨k,d,f,a,h⟩:=i;rw[g]at a;cases a
    exact⟨_,d,f,j,h⟩) hok I.bare
def Inv.call{ch:Li Ad}(I:Inv X pQ O H s)(u:Un (frs X.stack) ch H H' s.heap h')(hok:HOk X.prog X.w H' h')(q:AllBare g')(f:∀ b∈ch,(b∈X.ex\/X.s₀.heap.objs.size<=b)/\b≠X.env.locals/\(∀ x c,X.env.cells.lookup x=aa c->c≠b)/\∀ p∈X.pn++pQ,p.1≠b) :
    Inv X pQ O H' { s with heap:=h',gens:=g',drawn:=d',toks:=t' }:=by
  obtain⟨m,⟨o,A,B,j,r⟩,_⟩:=id I.loc;obtain⟨sl,g⟩:=u.any j I.free λz=>(f _ z).2.1 rfl
  exact I.step (ch:=ch) f (λb o g t a e n=>u.keep b o e n (λz=>(aF.mp (I.stkSub b z)).elim g t) a) (λb o _ _ a e n=>u.any e n a) (λb o a e n=>u.free b o e n a) (λb o a e=>u.there b o e a) u.tups u.frzs u.tbls (λy l=>by
    obtain⟨v,h,i,d,k⟩:=l;rw[j]at d;cases d
    exact⟨_,h,i,g,k⟩) hok q
def Inv.turned{a:Ad}(I:Inv X pQ O H s)(k:∀ b o,b≠a->s.heap.get? b=aa o->h'.get? b=aa o)(i:H a=ab)(g:a≠X.env.locals)(y:a∈X.ex\/X.s₀.heap.objs.size<=a)(w:∀ x c,X.env.cells.lookup x=aa c->c≠a)(t:∀ p∈X.pn++pQ,p.1≠a):Inv X pQ O H { s with heap:=h',toks:=t' }:=by
  have f:∀ b u,H b=aa u->b≠a:=λb u e z=>by rw[z,i]at e;cases e
  refine I.step (g':=s.gens) (d':=s.drawn) (ch:=[a]) (λb l=>?_) (λb o _ _ d e _=>k b o (λz=>d (by simp[z])) e) (λb o _ _ d e _=>⟨o.slots,k b o (λz=>d (by simp[z])) e⟩) (λ_ _ _ _ n=>n)
    (λb o d e=>⟨o,k b o (λz=>d (by simp[z])) e⟩) (λ_ _ e=>e) (λ_ _ _ e=>e) (λb C e=>⟨#[],by rw[e];simp⟩) (λm j=>?_) (λb u e=>?_) I.bare
  . have e:b=a:=by simpa using l
    subst e;exact⟨y,g,w,t⟩
  . obtain⟨o,A,B,h,r⟩:=j
    exact⟨o,A,B,k _ o (Ne.symm g) h,r⟩
  . refine(I.hok b u e).stay (λc v d q=>k c v ?_ q) (λ_ q=>q) λ_ _ q=>q
    rcases d with z|z
    . rw[z];exact f b u e
    . exact f c _ z
def Inv.tok(I:Inv X pQ O H s)(t:Nat):Inv X pQ O H { s with toks:=t }:=I.un (h':=s.heap) (t':=t) Un.refl I.hok
def Inv.kept{t':Nat}(I:Inv X pQ O H s)(k:∀ b u,s.heap.get? b=aa u->h'.get? b=aa u):Inv X pQ O H { s with heap:=h',toks:=t' }:=I.un (Un.kept k) (I.hok.kept k)
def Inv.laid{a:Ad}{o:HO}{t':Nat}(I:Inv X pQ O H s)(k:∀ b u,s.heap.get? b=aa u->h'.get? b=aa u)(c:s.heap.objs.size<=a)(new:ObjOk X.prog X.w (upd H a o) h' a o) :
    Inv X pQ O (upd H a o) { s with heap:=h',toks:=t' }:=I.un (Un.laid k c (I.hok.fresh c)) (I.hok.laid k c new)
def Inv.write{x e:Ad}{o:HO}{t':Nat}(I:Inv X pQ O H s)(mu:Mut (H x))(c:e=x\/H e=aa (.own x))(k:∀ b u,b≠e->s.heap.get? b=aa u->h'.get? b=aa u)(a:∃ u,h'.get? e=aa u)(new:ObjOk X.prog X.w (upd H x o) h' x o):Inv X pQ O (upd H x o) { s with heap:=h',toks:=t' }:=I.un (Un.write mu c k a) (I.hok.write mu c k a new)
def Inv.pins_of{a:Li (Ad×Obj)}(I:Inv X pQ O H s)(h:∀ p∈a,s.heap.get? p.1=aa p.2/\H p.1=ab/\p.1≠X.env.locals/\p.1∉X.fs/\∀ v,p.2.data≠.cell v):Inv X a O H s:=
  ⟨I.ok,I.os,I.bare,I.base,I.loc,I.cell,I.free,I.freeC,λp b=>(bO.mp b).elim (λz=>I.pin p (List.mem_append_left _ z)) (h p),I.hok,I.len⟩
def nodup_ix(hN:N.Nodup){j:Nat}{x:Str}(a:N[i]?=aa x)(b:N[j]?=aa x):i=j:=by
  obtain⟨f,d⟩:=bJ.mp a;obtain⟨e,c⟩:=bJ.mp b;exact(List.getElem_inj hN).mp (d.trans c.symm)
def store_ok2{M:Model}{A:bo}{E:vL->Sd->Prop}{x:Str}{v:V}{u:vL}{Q:Unit->Sd->Prop}(I:Inv X pQ O H s)(hN:X.N.Nodup)(P:X.N[i]?=aa x)(t:Loc X.env.scope x)(r:RelV v u)(h:∀ s',Inv X pQ (O.set i (aa v)) H s'->(∃ a,Heap.SameBut a s.heap s'.heap/\(a=X.env.locals\/X.env.cells.lookup x=aa a))->Q () s')(hf:X.fn x=ac\/X.env.scope.names.lookup x=aa .local:=by first|exact .inl rfl|exact .inr rfl|assumption):ay M A (storeName X.env x u) Q E s:=by
  obtain⟨m,hn,hl⟩:=id I.loc;have R:(X.env.scope.kind==.class||(X.env.scope.kind==.module&&X.env.locals != X.env.globals))=ae:=by rw[I.ok.kind];rfl
  have D:i < O.length:=by rw[I.len];exact(bJ.mp P).1
  have cne:=I.cne;have g:∀ {a:Ad}{h':bg},(∃ o,s.heap.get? a=aa o/\H a=ab)->Heap.SameBut a s.heap h'->HOk X.prog X.w H h':=λ{a h'} ha f b ob e=>by
    obtain⟨_,_,B⟩:=ha;refine(I.hok b ob e).stay (λc U hc q=>(f.2 c ?_).trans q) (λ_ q=>q) λ_ _ q=>q
    rintro rfl
    rcases hc with rfl|hc
    . rw[B]at e;cases e
    . rw[B]at hc;cases hc
  rcases t with hk|hk
  . refine wpAny_storeName_local hk hn (λh' hn' f=>?_) R
    obtain⟨oL,_,_,hoL,_⟩:=id hn;refine h _ ⟨I.ok,I.os,I.bare,⟨λb o e n J t=>?_,λb o e n J t=>?_,I.base.free,λb o e t=>?_,I.base.tups,I.base.frzs,I.base.tbls⟩,⟨_,hn',λj y Z l C e3=>?_⟩,λy c e=>?_,I.free,I.freeC,λp hp=>?_,g ⟨oL,hoL,I.free⟩ f,by simpa using I.len⟩ ⟨_,f,.inl rfl⟩
    . exact(f.2 b (aY (aT (aJ e) I.ok.above))).trans (I.base.keep b o e n J t)
    . obtain⟨sl,l⟩:=I.base.slot b o e n J t
      exact⟨sl,(f.2 b (aY (aT (aJ e) I.ok.above))).trans l⟩
    . obtain⟨o',l⟩:=I.base.there b o e t
      exact⟨o',(f.2 b (aY (aT (aJ e) I.ok.above))).trans l⟩
    . by_cases F:j=i
      . subst F
        rw[P]at l;cases l
        rw[bX D]at C;cases C;exact⟨u,r,.inl ⟨hk,by simp⟩⟩
      . rw[cC (Ne.symm F)]at C
        obtain⟨u',r',q⟩:=hl j y Z l C e3;refine⟨u',r',?_⟩;rcases q with⟨k,e⟩|⟨k,c,e,z⟩
        . refine .inl ⟨k,?_⟩
          have:y≠x:=λe=>F (nodup_ix hN l (e ▸ P))
          simp[this,e]
        . exact .inr ⟨k,c,e,z.sameBut f (cne y c e)⟩
    . obtain⟨U,z⟩:=I.cell y c e
      exact⟨U,z.sameBut f (cne y c e)⟩
    . obtain⟨e,n,W,nf,d⟩:=I.pin p hp
      exact⟨(f.2 p.1 W).trans e,n,W,nf,d⟩
  . have G:X.fn x=ac:=by
      rcases hf with z|z
      . exact z
      . rw[z]at hk;cases hk
    obtain⟨c,hc⟩:=I.ok.has x (.inl hk);obtain⟨U,z⟩:=I.cell x c hc;refine wpAny_storeName_cell I.ok.kind hk hc z (λh' T f=>?_)
    obtain⟨oc,L,K⟩:=id z;refine h { s with heap:=h' } ⟨I.ok,I.os,I.bare,⟨λb o e n J t=>?_,λb o e n J t=>?_,I.base.free,λb o e t=>?_,I.base.tups,I.base.frzs,I.base.tbls⟩,⟨m,hn.sameBut f (Ne.symm (cne x c hc)),λj y Z l C e3=>?_⟩,λy Y e=>?_,I.free,I.freeC,λp hp=>?_,g ⟨oc,L,I.freeC x c hc⟩ f,by simpa using I.len⟩ ⟨c,f,.inr hc⟩
    . exact(f.2 b (aY (aT (aJ e) (I.ok.cab x c G hc)))).trans (I.base.keep b o e n J t)
    . obtain⟨sl,l⟩:=I.base.slot b o e n J t
      exact⟨sl,(f.2 b (aY (aT (aJ e) (I.ok.cab x c G hc)))).trans l⟩
    . obtain⟨o',l⟩:=I.base.there b o e t
      exact⟨o',(f.2 b (aY (aT (aJ e) (I.ok.cab x c G hc)))).trans l⟩
    . by_cases F:j=i
      . subst F
        rw[P]at l;cases l
        rw[bX D]at C;cases C;exact⟨u,r,.inr ⟨.inl hk,c,hc,T⟩⟩
      . rw[cC (Ne.symm F)]at C
        obtain⟨u',r',q⟩:=hl j y Z l C e3;refine⟨u',r',?_⟩;rcases q with q|⟨k,Y,e,z'⟩
        . exact .inl q
        . refine .inr ⟨k,Y,e,z'.sameBut f ?_⟩
          rintro rfl
          exact F (nodup_ix hN l (I.ok.inj _ _ _ e hc ▸ P))
    . by_cases S:Y=c
      . subst S;exact⟨_,T⟩
      . obtain⟨w2,z2⟩:=I.cell y Y e
        exact⟨w2,z2.sameBut f S⟩
    . obtain⟨e,n,W,nf,d⟩:=I.pin p hp
      refine⟨(f.2 p.1 ?_).trans e,n,W,nf,d⟩;intro q;rw[q,L]at e;have q':oc=p.2:=au e;exact d U (by rw[<-q'];exact K)
def store_ok{M:Model}{A:bo}{E:vL->Sd->Prop}{x:Str}{v:V}{u:vL}{Q:Unit->Sd->Prop}(I:Inv X pQ O H s)(hN:X.N.Nodup)(c:X.N[i]?=aa x)(b:Loc X.env.scope x)(r:RelV v u)(h:∀ a,Inv X pQ (O.set i (aa v)) H a->Q () a)(d:X.fn x=ac\/X.env.scope.names.lookup x=aa .local:=by first|exact .inl rfl|exact .inr rfl|assumption):ay M A (storeName X.env x u) Q E s:=
  store_ok2 I hN c b r (λa e _=>h a e) d
def Inv.call'{s':Sd}{ch:Li Ad}(I:Inv X pQ O H s)(f:s'.os=s.os)(u:Un (frs X.stack) ch H H' s.heap s'.heap)(hok:HOk X.prog X.w H' s'.heap)(g:AllBare s'.gens)(a:∀ b∈ch,(b∈X.ex\/X.s₀.heap.objs.size<=b)/\b≠X.env.locals/\(∀ x c,X.env.cells.lookup x=aa c->c≠b)/\∀ p∈X.pn++pQ,p.1≠b):Inv X pQ O H' s':=by
  obtain⟨h',g',d',t',d⟩:=s';have e:d=s.os:=f;subst e;exact I.call (g':=g') (t':=t') (d':=d') u hok g a
end
abbrev XK:=vL->Ot Ad->Hp->Prop
abbrev St:=Li (Ot V)
abbrev VK:=V->Hp->Prop
abbrev TE:=St->Hp->VK->Prop
abbrev TT:=St->Hp->(Bool->Hp->Prop)->Prop
abbrev TA:=St->Hp->(Li V->Hp->Prop)->Prop
structure Ends where
  nx:St->Hp->Prop
  rt:VK
  bk:St->Hp->Prop:=λ_ _=>False
  ct:St->Hp->Prop:=λ_ _=>False
abbrev TS:=Ends->St->Hp->Prop
def EP(X:Cx)(c:Li (Ad×Obj))(O:St)(Q:VK)(u:vL)(b:Sd):Prop:=∃ v a,Inv X c O a b/\RelV v u/\Q v a
def TP(X:Cx)(d:Li (Ad×Obj))(O:St)(Q:Bool->Hp->Prop)(b:Bool)(c:Sd):Prop:=∃ a,Inv X d O a c/\Q b a
def AP(X:Cx)(d:Li (Ad×Obj))(O:St)(Q:Li V->Hp->Prop)(us:Li vL)(c:Sd):Prop:=∃ a b,Inv X d O b c/\Vals a us/\Q a b
def SP(X:Cx)(d:Li (Ad×Obj))(D:Ends)(f:Flow)(c:Sd):Prop:=
  match f with
  |.next=>∃ b a,Inv X d b a c/\D.nx b a
  |.brk=>∃ b a,Inv X d b a c/\D.bk b a
  |.cont=>∃ b a,Inv X d b a c/\D.ct b a
  |.ret u=>∃ v b a,Inv X d b a c/\RelV v u/\D.rt v a
def PE(X:Cx)(e:aw)(t:TE):Prop:=
  ∀ (pQ:Li (Ad×Obj)) (s:Sd) (O:St) (H:Hp) (Q:VK),Inv X pQ O H s->t O H Q->ay (az X.prog X.w) X.A (eval e X.env) (EP X pQ O Q) X.xe s
def PT(X:Cx)(e:aw)(t:TT):Prop:=
  ∀ (pQ:Li (Ad×Obj)) (s:Sd) (O:St) (H:Hp) (Q:Bool->Hp->Prop),Inv X pQ O H s->t O H Q->ay (az X.prog X.w) X.A (isTrue e X.env (eval e X.env)) (TP X pQ O Q) X.xe s
def PW(X:Cx)(e:aw)(t:TT):Prop:=
  ∀ (whole:Sem vL) (pQ:Li (Ad×Obj)) (s:Sd) (O:St) (H:Hp) (Q:Bool->Hp->Prop),Inv X pQ O H s->t O H Q->ay (az X.prog X.w) X.A (isTrue e X.env whole) (TP X pQ O Q) X.xe s
variable{X:Cx}
def PW.pt{e:aw}{t:TT}(h:PW X e t):PT X e t:=h _
def PA(X:Cx)(a:Li aw)(t:TA):Prop:=
  ∀ (pos:Pos) (pQ:Li (Ad×Obj)) (s:Sd) (O:St) (H:Hp) (Q:Li V->Hp->Prop),Inv X pQ O H s->t O H Q->ay (az X.prog X.w) X.A (spliced (backTo pos (a6 a X.env))) (AP X pQ O Q) X.xe s
def PS(X:Cx)(a:Stmt)(t:TS):Prop:=
  ∀ (pQ:Li (Ad×Obj)) (s:Sd) (O:St) (H:Hp) (D:Ends),Inv X pQ O H s->t D O H->ay (az X.prog X.w) X.A (exec a X.env) (SP X pQ D) X.xe s
def PSs(X:Cx)(a:Li Stmt)(t:TS):Prop:=
  ∀ (pQ:Li (Ad×Obj)) (s:Sd) (O:St) (H:Hp) (D:Ends),Inv X pQ O H s->t D O H->ay (az X.prog X.w) X.A (execs a X.env) (SP X pQ D) X.xe s
variable{M:Model}{A:bo}
def thn{b:Type}{t:Sem b}{Q c:b->Sd->Prop}{E:vL->Sd->Prop}{s:Sd}(h:ay M A t Q E s)(d:∀ a s,Q a s->c a s):ay M A t c E s:=bG h d λ_ _ x=>x
variable{pQ:Li (Ad×Obj)}{s:Sd}{Q:vL->Sd->Prop}
variable{b:aw}{ta tb:TE}{pos:Pos}
section
def tVar(i:Nat):TE:=λO H Q=>∃ v,O[i]?=aa (aa v)/\Q v H
def tC(v:V):TE:=λ_ H Q=>Q v H
def pe_var{x:Str}{d:Pos}(hN:X.N[i]?=aa x)(j:Vis X.env.scope x)(hd:(x==("__debug__":Str))=ae:=by decide)(f:(x==("__classdict__":Str))=ae:=by decide):PE X (.Name x d) (tVar i):=by
  intro pQ s O H Q I h;obtain⟨v,e,h⟩:=h;obtain⟨m,k,o⟩:=I.loc;obtain⟨u,r,l⟩:=o i x v hN e j;have b:EP X pQ O Q u s:=⟨v,H,I,r,h⟩;rcases l with⟨hk,n⟩|⟨hk,c,g,a⟩
  . exact wpAny_Name (wpAny_loadName_local I.ok.kind hk k n b) hd
  . rcases hk with hk|hk
    . exact wpAny_Name (wpAny_loadName_cell I.ok.kind hk g a b) hd
    . exact wpAny_Name (wpAny_loadName_free I.ok.kind hk g a b f) hd
def pe_int{i j pos}:PE X (.Constant (.int i) j pos) (tC (.int i)):=λ_ _ _ H _ I h=>wpAny_Constant_int ⟨.int i,H,I.tok _,⟨_,rfl⟩,h⟩
def pe_bl{b j pos}:PE X (.Constant (.bool b) j pos) (tC (.bl b)):=λ_ _ _ H _ I h=>Constant_bool ⟨.bl b,H,I,rfl,h⟩
def pe_non{j pos}:PE X (.Constant .none j pos) (tC .non):=λ_ _ _ H _ I h=>Constant_none ⟨.non,H,I,rfl,h⟩
def pe_str{x j pos}:PE X (.Constant (.str x) j pos) (tC (.str x)):=λ_ _ _ H _ I h=>Calls.Constant_str ⟨.str x,H,I.tok _,⟨_,rfl⟩,h⟩
def Gl(X:Cx)(x:Str):Prop:=X.env.kindOf x=aa .globalImplicit
def ld_glob{E:vL->Sd->Prop}{O:St}{x:Str}{u:vL}{a:Pos}(I:Inv X pQ O H s)(c:Gl X x)(b:X.mg x=aa u)(h:Q u s)(hd:(x==("__debug__":Str))=ae:=by decide):ay (az X.prog X.w) X.A (eval (.Name x a) X.env) Q E s:=
  Calls.Name_function_global I.ok.kind c (Calls.loadGlobal_global (by rw[I.ok.glob];exact I.mod.glob.keeps I.bk) b h) hd
def ld_blt{E:vL->Sd->Prop}{O:St}{x:Str}{u:vL}{a:Pos}(I:Inv X pQ O H s)(e:Gl X x)(d:X.mg x=ab)(b:a7 x=aa u)(h:Q u s)(c:x ≠ "__name__":=by decide)(hd:(x==("__debug__":Str))=ae:=by decide):ay (az X.prog X.w) X.A (eval (.Name x a) X.env) Q E s:=by
  obtain⟨i,g,f⟩:=I.mod.blt;exact Calls.Name_function_global I.ok.kind e (Calls.loadGlobal_builtin (by rw[I.ok.glob];exact I.mod.glob.keeps I.bk) d (by rw[I.ok.blt];exact g.keeps I.bk) ((f x c).trans b) h) hd
def pe_glob{x:Str}{v:V}{u:vL}{a:Pos}(c:Gl X x)(b:X.mg x=aa u)(r:RelV v u)(hd:(x==("__debug__":Str))=ae:=by decide):PE X (.Name x a) (tC v):=
  λ_ _ _ H _ I h=>ld_glob I c b ⟨v,H,I,r,h⟩ hd
def pe_bltn{x:Str}{v:V}{u:vL}{a:Pos}(e:Gl X x)(d:X.mg x=ab)(b:a7 x=aa u)(r:RelV v u)(c:x ≠ "__name__":=by decide)(hd:(x==("__debug__":Str))=ae:=by decide):PE X (.Name x a) (tC v):=
  λ_ _ _ H _ I h=>ld_blt I e d b ⟨v,H,I,r,h⟩ c hd
variable{a:aw}
def PC(X:Cx)(e:CmpOp)(a b:aw)(t:TE):Prop:=
  ∀ (pQ:Li (Ad×Obj)) (s:Sd) (O:St) (H:Hp) (Q:VK),Inv X pQ O H s->t O H Q->
    ay (az X.prog X.w) X.A (eval a X.env) (λv d=>ay (az X.prog X.w) X.A (eval b X.env) (λu c=>ay (az X.prog X.w) X.A (bj e v u) (EP X pQ O Q) X.xe c) X.xe d) X.xe s
def tB(t:TE):TT:=λO H Q=>t O H λx a=>∃ c,x=.bl c/\Q c a
def pt_val{e:aw}{t:TE}(h:PE X e t)(g:∀ a,isTrue e X.env a=(do let v <-a;standAt e.pos;holding [v] (truthy v)):=by intro _;rfl):PT X e (tB t):=by
  intro pQ s O H Q I f;refine isTrue_plain (thn (h pQ s O H _ I f) λv s1 ⟨x,j,i,b,c⟩=>?_) (g _)
  obtain⟨d,rfl,q⟩:=c;cases b;exact wpAny_truthy_bool ⟨j,i,q⟩
variable{tA tB':TT}{rest:Li aw}
def tAnd(t u:TT):TT:=λO H Q=>t O H λc a=>if c=ac then u O a Q else Q ae a
def tOr(t u:TT):TT:=λO H Q=>t O H λc a=>if c=ac then Q ac a else u O a Q
def tNot(t:TT):TT:=λO H Q=>t O H λc a=>Q (!c) a
def pw_and1(b:PT X a tA):PW X (.BoolOp .And [a] pos) tA:=by
  intro d pQ s O H Q I h;refine isTrue_and (thn (b pQ s O H Q I h) λc s1 e=>?_)
  cases c with
  |true=>exact isTrue_and_nil e
  |false=>exact e
def pw_or1(b:PT X a tA):PW X (.BoolOp .Or [a] pos) tA:=by
  intro d pQ s O H Q I h;refine isTrue_or (thn (b pQ s O H Q I h) λc s1 e=>?_)
  cases c with
  |false=>exact isTrue_or_nil e
  |true=>exact e
def pw_and(j:PT X a tA)(i:PW X (.BoolOp .And (b :: rest) pos) tB'):PW X (.BoolOp .And (a :: b :: rest) pos) (tAnd tA tB'):=by
  intro g pQ s O H Q I h;refine isTrue_and (thn (j pQ s O H _ I h) λc s1 ⟨f,e,d⟩=>?_)
  cases c with
  |true=>exact i g pQ s1 O f Q e d
  |false=>exact⟨f,e,d⟩
def pw_or(j:PT X a tA)(i:PW X (.BoolOp .Or (b :: rest) pos) tB'):PW X (.BoolOp .Or (a :: b :: rest) pos) (tOr tA tB'):=by
  intro g pQ s O H Q I h;refine isTrue_or (thn (j pQ s O H _ I h) λc s1 ⟨f,e,d⟩=>?_)
  cases c with
  |true=>exact⟨f,e,d⟩
  |false=>exact i g pQ s1 O f Q e d
def pt_not(b:PT X a tA):PT X (.UnaryOp .Not a pos) (tNot tA):=by
  intro pQ s O H Q I h;exact isTrue_not (b pQ s O H (λc d=>Q (!c) d) I h)
def tAndV(ta tb:TE):TE:=λO H Q=>ta O H λx a=>∃ c,x=.bl c/\if c=ac then tb O a Q else Q (.bl ae) a
def tOrV(ta tb:TE):TE:=λO H Q=>ta O H λx a=>∃ c,x=.bl c/\if c=ac then Q (.bl ac) a else tb O a Q
def tNotV(ta:TE):TE:=λO H Q=>ta O H λx a=>∃ c,x=.bl c/\Q (.bl (!c)) a
def pe_one{op}{t:TE}(h:PE X a t):PE X (.BoolOp op [a] pos) t:=λpQ s O H Q I b=>BoolOp_one (h pQ s O H Q I b)
def pe_and(j:PE X a ta)(i:PE X (.BoolOp .And (b :: rest) pos) tb):PE X (.BoolOp .And (a :: b :: rest) pos) (tAndV ta tb):=by
  intro pQ s O H Q I h;refine BoolOp_and (thn (j pQ s O H _ I h) λv s1 ⟨x,f,e,g,d⟩=>?_)
  obtain⟨c,rfl,d⟩:=d;cases g;refine wpAny_truthy_bool ?_;cases c with
  |true=>exact i pQ s1 O f Q e d
  |false=>exact⟨.bl ae,f,e,rfl,d⟩
def pe_or(j:PE X a ta)(i:PE X (.BoolOp .Or (b :: rest) pos) tb):PE X (.BoolOp .Or (a :: b :: rest) pos) (tOrV ta tb):=by
  intro pQ s O H Q I h;refine BoolOp_or (thn (j pQ s O H _ I h) λv s1 ⟨x,f,e,g,d⟩=>?_)
  obtain⟨c,rfl,d⟩:=d;cases g;refine wpAny_truthy_bool ?_;cases c with
  |false=>exact i pQ s1 O f Q e d
  |true=>exact⟨.bl ac,f,e,rfl,d⟩
def pe_not(e:PE X a ta):PE X (.UnaryOp .Not a pos) (tNotV ta):=by
  intro pQ s O H Q I h;refine UnaryOp_ (thn (e pQ s O H _ I h) λv s1 ⟨x,g,f,d,b⟩=>?_)
  obtain⟨c,rfl,b⟩:=b;cases d;exact not_of (wpAny_truthy_bool ⟨.bl (!c),g,f,rfl,b⟩)
def tIf(t:TT)(ta tb:TE):TE:=λO H Q=>t O H λc a=>if c=ac then ta O a Q else tb O a Q
def pe_ifExp{c:aw}(i:PT X c tA)(k:PE X a ta)(j:PE X b tb):PE X (.IfExp c a b pos) (tIf tA ta tb):=by
  intro pQ s O H Q I h;refine wpAny_IfExp (thn (i pQ s O H _ I h) λd s1 ⟨g,f,e⟩=>?_)
  cases d with
  |true=>exact k pQ s1 O g Q f e
  |false=>exact j pQ s1 O g Q f e
end
def SqL(K:Fg)(H:Hp)(a:Ad)(xs:Li V):Prop:=
  Rd H a (.lst xs) \/
    ∃ (o:Obj) (its:Array vL) (n:Nat),K.lookup a=aa o/\o.cls=.type "list"/\o.dict=ab/\o.data=.seq its n/\its.size<=av/\Vals xs its.toList
def SqT(K:Fg)(H:Hp)(a:Ad)(xs:Li V):Prop:=
  Rd H a (.tup xs) \/
    ∃ (o:Obj) (its:Array vL) (n:Nat),K.lookup a=aa o/\o.cls=.type "tuple"/\o.data=.seq its n/\its.size<=av/\Vals xs its.toList
noncomputable def absV:vL->Ot V
  |.none=>aa .non
  |.bool b=>aa (.bl b)
  |.int i _=>aa (.int i)
  |.str x _=>aa (.str x)
  |.bytes b _=>aa (.byt b)
  |.float b _=>aa (.flt b)
  |.ref a=>aa (.ref a)
  |.type n=>aa (.ty n)
  |_=>ab
def RelV.abs{x:V}{u:vL}(r:RelV x u):absV u=aa x:=by
  cases x with
  |non=>cases r;rfl
  |bl _=>cases r;rfl
  |int _=>obtain⟨t,rfl⟩:=r;rfl
  |str _=>obtain⟨t,rfl⟩:=r;rfl
  |byt _=>obtain⟨t,rfl⟩:=r;rfl
  |flt _=>obtain⟨t,rfl⟩:=r;rfl
  |ref _=>cases r;rfl
  |ty _=>cases r;rfl
def RelV.inj{x y:V}{u:vL}(r:RelV x u)(q:RelV y u):x=y:=au (r.abs.symm.trans q.abs)
theorem Vals.inj:∀ {xs ys:Li V}{us:Li vL},Vals xs us->Vals ys us->xs=ys
  |_,_,_,.nil,.nil=>rfl
  |_,_,_,.cons r t,.cons a t'=>by rw[r.inj a,Vals.inj t t']
variable{K:Fg}
variable{O:St}{xs:Li V}
section
variable{ys:Li V}
def SqT.of(h:H a=aa (.tup xs)):SqT K H a xs:=.inl (.inl h)
def Inv.list(I:Inv X pQ O H s)(h:SqL X.K H a xs):∃ b:Li vL,Vals xs b/\PlainL s.heap a b.toArray/\xs.length<=av:=by
  rcases h with h|⟨o,b,n,d,g,f,c,i,r⟩
  . obtain⟨z,b,n,r,e⟩:=h.ok I.hok
    exact⟨b,r,⟨_,n,e,rfl,rfl,rfl⟩,z⟩
  . refine⟨b.toList,r,⟨o,n,I.kIn a o d,g,f,by simpa using c⟩,?_⟩
    have e:=r.length;simp only[cJ]at e;omega
def Inv.tuple(I:Inv X pQ O H s)(h:SqT X.K H a xs):∃ b:Li vL,Vals xs b/\IsTup s.heap a b.toArray/\xs.length<=av:=by
  rcases h with h|⟨o,b,n,d,f,c,g,r⟩
  . obtain⟨z,b,r,p⟩:=h.ok I.hok
    exact⟨b,r,p,z⟩
  . refine⟨b.toList,r,⟨o,I.kIn a o d,f,n,by simpa using c⟩,?_⟩
    have e:=r.length;simp only[cJ]at e;omega
def Inv.list_inj(I:Inv X pQ O H s)(h:SqL X.K H a xs)(i:SqL X.K H a ys):xs=ys:=by
  obtain⟨c,r,⟨o,n,e,_,_,d⟩,_⟩:=I.list h;obtain⟨b,g,⟨k,l,f,_,_,d'⟩,_⟩:=I.list i;rw[e]at f;cases f
  rw[d]at d'
  injection d' with j _
  have:c=b:=by simpa using ar Array.toList j
  subst this;exact r.inj g
def Inv.tuple_inj(I:Inv X pQ O H s)(h:SqT X.K H a xs)(i:SqT X.K H a ys):xs=ys:=by
  obtain⟨c,r,⟨o,e,_,n,d⟩,_⟩:=I.tuple h;obtain⟨b,g,⟨k,f,_,l,d'⟩,_⟩:=I.tuple i;rw[e]at f;cases f
  rw[d]at d'
  injection d' with j _
  have:c=b:=by simpa using ar Array.toList j
  subst this;exact r.inj g
end
noncomputable abbrev Cx.wish(X:Cx)(E:vL->Sd->Prop):Cx:={ X with xe:=E }
noncomputable abbrev Cx.nox(X:Cx):Cx:=X.wish λ_ _=>False
def Cx.Ok.wish(ok:X.Ok)(E:vL->Sd->Prop):(X.wish E).Ok:=
  ⟨ok.mod,ok.kind,ok.glob,ok.blt,ok.above,ok.inj,ok.has,ok.cab,ok.hd,ok.frames,ok.stk,ok.exf,ok.bs,ok.bsz,ok.noex,ok.exfs,ok.funs,ok.frf⟩
def Cx.Ok.unwish{E:vL->Sd->Prop}(ok:(X.wish E).Ok):X.Ok:=
  ⟨ok.mod,ok.kind,ok.glob,ok.blt,ok.above,ok.inj,ok.has,ok.cab,ok.hd,ok.frames,ok.stk,ok.exf,ok.bs,ok.bsz,ok.noex,ok.exfs,ok.funs,ok.frf⟩
variable{E:vL->Sd->Prop}
def Inv.wish(I:Inv X pQ O H s)(E:vL->Sd->Prop):Inv (X.wish E) pQ O H s:=⟨I.ok.wish E,I.os,I.bare,I.base,I.loc,I.cell,I.free,I.freeC,I.pin,I.hok,I.len⟩
def Inv.unwish(I:Inv (X.wish E) pQ O H s):Inv X pQ O H s:=⟨I.ok.unwish,I.os,I.bare,I.base,I.loc,I.cell,I.free,I.freeC,I.pin,I.hok,I.len⟩
def SP.unwish{D:Ends}{f:Flow}{c:Sd}(h:SP (X.wish E) pQ D f c):SP X pQ D f c:=by
  cases f with
  |next=>obtain⟨a,b,I,q⟩:=h;exact⟨a,b,I.unwish,q⟩
  |brk=>obtain⟨a,b,I,q⟩:=h;exact⟨a,b,I.unwish,q⟩
  |cont=>obtain⟨a,b,I,q⟩:=h;exact⟨a,b,I.unwish,q⟩
  |ret u=>obtain⟨v,a,b,I,r,q⟩:=h;exact⟨v,a,b,I.unwish,r,q⟩
def PSs.nox{a:Li Stmt}{t:TS}(h:PSs X.nox a t):PSs X a t:=λpQ s O H D I b=>
  bG (h pQ s O H D (I.wish _) b) (λ_ _ q=>q.unwish) λ_ _ z=>False.elim z
variable{e:aw}{te:TE}
section
variable{st:Stmt}{rest:Li Stmt}{t u:TS}
def tNext:TS:=λD O H=>D.nx O H
def tSeq(t u:TS):TS:=λD O H=>t { D with nx:=u D } O H
def pss_nil:PSs X [] tNext:=λ_ _ O H _ I h=>wpAny_execs_nil ⟨O,H,I,h⟩
def pss_cons(b:PS X st t)(a:PSs X rest u):PSs X (st :: rest) (tSeq t u):=by
  intro pQ s O H D I h;refine wpAny_execs_cons (thn (b pQ s O H { D with nx:=u D } I h) λf s1 q=>?_)
  cases f with
  |next=>
    obtain⟨c,e,d,q⟩:=q;exact a pQ s1 c e D d q
  |ret v=>exact q
  |brk=>exact q
  |cont=>exact q
def tBreak:TS:=λD O H=>D.bk O H
def tCont:TS:=λD O H=>D.ct O H
def ps_pass:PS X (.Pass pos) tNext:=λ_ _ O H _ I h=>wpAny_Pass ⟨O,H,I,h⟩
def ps_break:PS X (.Break pos) tBreak:=λ_ _ O H _ I h=>wpAny_Break ⟨O,H,I,h⟩
def ps_continue:PS X (.Continue pos) tCont:=λ_ _ O H _ I h=>wpAny_Continue ⟨O,H,I,h⟩
def Inv.quiet{O:St}(I:Inv X pQ O H s):interactive X.env=ae:=by simp[interactive,I.ok.kind]
def tDrop(te:TE):TS:=λD O H=>te O H λ_ a=>D.nx O a
def ps_expr(c:PE X e te)(b:swapsWith e ab pos.line X.env=pure ae:=by rfl):PS X (.Expr e pos) (tDrop te):=by
  intro pQ s O H D I h;exact wpAny_Expr_any (thn (c pQ s O H _ I h) λv s1 ⟨x,f,d,g,a⟩=>⟨O,f,d,a⟩) I.quiet b
def tRet(te:TE):TS:=λD O H=>te O H D.rt
def ps_ret(c:PE X e te):PS X (.Return (aa e) pos) (tRet te):=by
  intro pQ s O H D I h;exact wpAny_Return_some (thn (c pQ s O H _ I h) λv s1 ⟨x,f,d,a,b⟩=>⟨x,O,f,d,a,b⟩)
def tIfS(c:TT)(t u:TS):TS:=λD O H=>c O H λb a=>if b=ac then t D O a else u D O a
def ps_if{c:aw}{a b:Li Stmt}{e:TT}(j:PT X c e)(l:PSs X a t)(k:PSs X b u):PS X (.If c a b pos) (tIfS e t u):=by
  intro pQ s O H D I h;refine wpAny_If (thn (j pQ s O H _ I h) λd s1 ⟨i,g,f⟩=>?_)
  cases d with
  |true=>exact l pQ s1 O i D g f
  |false=>exact k pQ s1 O i D g f
end
abbrev TG:=V->St->Hp->(St->Hp->Prop)->Prop
abbrev TGs:=Li V->St->Hp->(St->Hp->Prop)->Prop
def PG(X:Cx)(a:aw)(t:TG):Prop:=
  ∀ (pQ:Li (Ad×Obj)) (s:Sd) (O:St) (H:Hp) (v:V) (u:vL) (Q:St->Hp->Prop),Inv X pQ O H s->RelV v u->t v O H Q->
    ay (az X.prog X.w) X.A (assign a X.env u) (λ_ d=>∃ b c,Inv X pQ b c d/\Q b c) X.xe s
def PGs(X:Cx)(c:Li aw)(t:TGs):Prop:=
  ∀ (pQ:Li (Ad×Obj)) (s:Sd) (O:St) (H:Hp) (vs:Li V) (us:Li vL) (Q:St->Hp->Prop),Inv X pQ O H s->Vals vs us->t vs O H Q->
    ay (az X.prog X.w) X.A (assignInOrder ((assignEach c X.env).map (·.2)) us) (λ_ d=>∃ a b,Inv X pQ a b d/\Q a b) X.xe s
abbrev TSet:=V->V->V->Hp->(Hp->Prop)->Prop
def PSet(X:Cx)(t:TSet):Prop:=
  ∀ (pQ:Li (Ad×Obj)) (s:Sd) (O:St) (H:Hp) (o i v:V) (ov iv u:vL) (Q:Hp->Prop),Inv X pQ O H s->RelV o ov->RelV i iv->RelV v u->t o i v H Q->
    ay (az X.prog X.w) X.A (setItem ov iv u) (λ_ b=>∃ a,Inv X pQ O a b/\Q a) X.xe s
variable{es:Li aw}{n:Nat}{tg:aw}
def gName(i:Nat):TG:=λv O H Q=>Q (O.set i (aa v)) H
def pg_name{x:Str}(hN:X.N.Nodup)(b:X.N[i]?=aa x)(a:Loc X.env.scope x)(c:X.fn x=ac\/X.env.scope.names.lookup x=aa .local:=by first|exact .inl rfl|exact .inr rfl|assumption):PG X (.Name x pos) (gName i):=by
  intro pQ s O H v u Q I r h;exact wpAny_assign_Name (store_ok I hN b a r (λe d=>⟨_,H,d,h⟩) c)
def gNil:TGs:=λa O H Q=>a=[]/\Q O H
def gCons(t:TG)(u:TGs):TGs:=λa O H Q=>∃ v r,a=v :: r/\t v O H λb c=>u r b c Q
def pgs_nil:PGs X [] gNil:=by
  intro pQ s O H a us Q I r h;obtain⟨e,h⟩:=h;subst e;cases r;exact assignInOrder_nil ⟨O,H,I,h⟩
def pgs_cons{e:aw}{t:TG}{u:TGs}(g:PG X e t)(f:PGs X es u)(d:(assignEach (e :: es) X.env).map (·.2)=assign e X.env :: (assignEach es X.env).map (·.2):=by rfl):PGs X (e :: es) (gCons t u):=by
  intro pQ s O H l us Q I r h;obtain⟨v,m,i,h⟩:=h;subst i;cases r with
  |cons r b=>
    rw[d];refine assignInOrder_cons (thn (g pQ s O H _ _ _ I r h) λ_ s1 ⟨a,k,j,c⟩=>?_)
    exact f pQ s1 a k _ _ Q j b c
def gTup(K:Fg)(n:Nat)(t:TGs):TG:=λv O H Q=>∃ a xs,v=.ref a/\SqT K H a xs/\xs.length=n/\t xs O H Q
def pg_tup{k:Nat}{t:TGs}(p:X.calm=ac)(h:PGs X es t)(l:(assignEach es X.env).length=n:=by rfl)(d:(assignEach es X.env).findIdx? (·.1)=ab:=by rfl):PG X (.Tuple es k pos) (gTup X.K n t):=by
  intro pQ s O H v u Q I r c;obtain⟨a,xs,w,j,m,c⟩:=c;subst w;cases r;obtain⟨f,rv,i,y⟩:=I.tuple j;refine assign_Tuple_tuple (I.ok.hd p) i (by simp[l,<-m,rv.length]) d λq g=>?_
  have x:Inv X pQ O H { s with heap:=q }:=I.kept (t':=s.toks) λb o e=>g b o (aY (aJ e)) e
  exact h pQ _ O H xs _ Q x (by simpa using rv) c
def gSub(a b:TE)(t:TSet):TG:=λv O H Q=>a O H λo e=>b O e λi d=>t o i v d λc=>Q O c
def pg_sub{o i:aw}{c d:TE}{t:TSet}(n:PE X o c)(p:PE X i d)(m:PSet X t)(q:∀ v,assign (.Subscript o i pos) X.env v=(do
      let a <-holding [v] (eval o X.env)
      let b <-holding [v,a] (eval i X.env)
      standAt pos
      holding [v,a,b] (setItem a b v)
      release [v,a,b] []):=by intro _;rfl):PG X (.Subscript o i pos) (gSub c d t):=by
  intro pQ s O H v u Q I r h;rw[q];refine aA (wpAny_holding (thn (n pQ s O H _ I h) λa s1 ⟨x,D,A,g,l⟩=>?_))
  refine aA (wpAny_holding (thn (p pQ s1 O D _ A l) λb e ⟨y,C,z,f,k⟩=>?_))
  refine aA (wpAny_standAt (aA (wpAny_holding (thn (m pQ e O C x y v a b u _ z g f r k) λ_ E ⟨B,w,j⟩=>?_))))
  exact wpAny_release ⟨O,B,w,j⟩
def tAsg(a:TE)(g:TG):TS:=λD O H=>a O H λx b=>g x O b D.nx
def ps_asg{e:aw}{a:TE}{g:TG}(j:PE X e a)(i:PG X tg g)(f:swapsWithSole [tg] e pos.line X.env=pure ae:=by rfl)(d:swappedStores [tg] e X.env=pure ab:=by rfl)(k:(assignEach [tg] X.env).map (·.2)=[assign tg X.env]:=by rfl):PS X (.Assign [tg] e pos) (tAsg a g):=by
  intro pQ s O H D I h;refine wpAny_Assign_stores (thn (j pQ s O H _ I h) λv s1 ⟨x,m,l,b,c⟩=>?_) f d
  rw[k];exact thn (i pQ s1 O m x v _ l b c) λ_ n q=>q
def ps_set{x:Str}{e:aw}{b:TE}{a:Pos}(hN:X.N.Nodup)(j:X.N[i]?=aa x)(f:Loc X.env.scope x)(l:PE X e b)(g:swapsWith e (aa (.Name x a)) pos.line X.env=pure ae:=by rfl)(k:X.fn x=ac\/X.env.scope.names.lookup x=aa .local:=by first|exact .inl rfl|exact .inr rfl|assumption) :
    PS X (.Assign [.Name x a] e pos) (tAsg b (gName i)):=by
  intro pQ s O H D I h;refine wpAny_Assign_Name (thn (l pQ s O H _ I h) λv s1 ⟨y,o,n,c,d⟩=>?_) g
  exact store_ok n hN j f c (λp m=>⟨_,o,m,d⟩) k
variable{body:Li Stmt}
def tWhile(c:TT)(g:TS):TS:=λD O H=>∃ W:Nat->St->Hp->Prop,(∃ m,W m O H)/\∀ m O H,W m O H->
  c O H λb e=>if b=ac then ∃ N:St->Hp->Prop,(∀ d f,N d f->∃ a,a < m/\W a d f)/\g { D with nx:=N,ct:=N,bk:=D.nx } O e else D.nx O e
def ps_while{c:aw}{p:TT}{q:TS}(r:PassesOwn (az X.prog X.w) X.A X.env X.xe)(K:PT X c p)(L:PSs X body q):PS X (.While c body [] pos) (tWhile p q):=by
  intro pQ s O H D I h;obtain⟨W,⟨J,E⟩,turn⟩:=h;refine wpAny_While (codeAny_whileLoop (λn G=>∃ u B,Inv X pQ u B G/\W n u B) ?_ J ⟨O,H,I,E⟩)
  rintro n s1 ⟨d,z,M,C⟩
  refine wpAny_passesOwn r (thn (K pQ s1 d z _ M (turn n d z C)) λb F ⟨y,x,i⟩=>?_)
  cases b with
  |true=>
    obtain⟨N,t,i⟩:=i;rw[am rfl];refine wpAny_passesOwn r (thn (L pQ F d y _ x i) λf P g=>?_)
    cases f with
    |next=>
      obtain⟨a,e,o,k⟩:=g;obtain⟨l,m,j⟩:=t a e k;exact⟨l,m,a,e,o,j⟩
    |cont=>
      obtain⟨a,e,o,k⟩:=g;obtain⟨l,m,j⟩:=t a e k;exact⟨l,m,a,e,o,j⟩
    |brk=>exact g
    |ret v=>exact g
  |false=>
    rw[ao Bf];exact wpAny_execs_nil ⟨d,y,x,i⟩
structure It where
  go:Nat->Hp->Prop
  yld:Nat->Hp->V->Hp->Prop
  stop:Nat->Hp->Prop
def FpOk(X:Cx)(pQ:Li (Ad×Obj))(H:Hp)(b:Ad):Prop:=
  H b=ab/\b≠X.env.locals/\b∉X.fs/\(b∈X.ex\/X.s₀.heap.objs.size<=b)/\(∀ x c,X.env.cells.lookup x=aa c->c≠b)/\∀ p∈X.pn++pQ,p.1≠b
def Inv.fpOk{O:St}{d:Hp}{b:Ad}(I:Inv X pQ O H s)(a:s.heap.objs.size<=b)(g:d b=ab):FpOk X pQ d b:=by
  refine⟨g,Nat.ne_of_gt (aT I.lt a),I.nofs a,.inr (aM I.sz a),λx c e z=>?_,λp f z=>?_⟩
  . obtain⟨v,q⟩:=I.cell x c e
    exact aq (aT q.lt (by rw[z];exact a)) (bS _)
  . exact aq (aT (aJ (I.pin p f).1) (by rw[z];exact a)) (bS _)
structure Turn(P:a0)(w:bh)(K:Fg)(tg:aw)(J:It)(fp:List Addr)(it:Addr)(tn:Nat->bg->Prop):Prop where
  mem:it∈fp
  obj:∀ i h,tn i h->∀ b∈fp,∃ o,h.get? b=aa o/\∀ v,o.data≠.cell v
  keep:∀ i h h',tn i h->(∀ b∈fp,∀ o,h.get? b=aa o->h'.get? b=aa o)->tn i h'
  item:∀ (X:Cx),X.prog=P->X.w=w->X.K=K->X.calm=ac->∀ (i:Nat) (pQ:List (Addr×Obj)) (s:Shared) (O:St) (H:Hp) (E:Value->Shared->Prop),Inv X pQ O H s->(∀ b∈fp,FpOk X pQ H b)->tn i s.heap->J.go i H->
    ay (az P w) X.A (pyNext (.ref it)) (λr s1=>∃ u,r=aa u /\
      ay (az P w) X.A (letOwnedTupleGo tg (.ref it) u) (λ_ s2=>∃ x H',Inv X pQ O H' s2/\RelV x u/\J.yld i H x H'/\tn (i+1) s2.heap/\∀ b∈fp,H' b=ab) E s1) E s
  done:∀ (X:Cx),X.prog=P->X.w=w->X.K=K->X.calm=ac->∀ (i:Nat) (pQ:List (Addr×Obj)) (s:Shared) (O:St) (H:Hp) (E:Value->Shared->Prop),Inv X pQ O H s->(∀ b∈fp,FpOk X pQ H b)->tn i s.heap->J.stop i H->
    ay (az P w) X.A (pyNext (.ref it)) (λr s1=>r=ab/\Inv X pQ O H s1) E s
  self:∀ (A:bo) (i:Nat) (s:Shared) (Q:Value->Shared->Prop) (E:Value->Shared->Prop),tn i s.heap->Q (.ref it) s->ay (az P w) A (pyIter (.ref it)) Q E s
abbrev TI:=St->Hp->(It->Hp->Prop)->Prop
def PIE(X:Cx)(pQ:Li (Ad×Obj))(O:St)(tg:aw)(R:It->Hp->Prop)(a:vL)(c:Sd):Prop:=
  ∃ (it:Ad) (fp:Li Ad) (tn:Nat->bg->Prop) (J:It) (H':Hp),a=.ref it/\Inv X pQ O H' c/\Turn X.prog X.w X.K tg J fp it tn/\tn 0 c.heap/\(∀ b∈fp,FpOk X pQ H' b)/\R J H'
def PI(X:Cx)(tg iter:aw)(a:TI):Prop:=
  ∀ (pQ:Li (Ad×Obj)) (s:Sd) (O:St) (H:Hp) (R:It->Hp->Prop),Inv X pQ O H s->a O H R->
    ay (az X.prog X.w) X.A (eval iter X.env) (λv s1=>ay (az X.prog X.w) X.A (pyIter v) (PIE X pQ O tg R) X.xe s1) X.xe s
def go_of{E:vL->Sd->Prop}{c:Ad}{u:vL}{o:Obj}{n:String}{b:Array vL}{Q:Unit->Sd->Prop}(d:s.heap.get? c=aa o)(f:o.cls=.type n)(hd:o.data=.fields b)(e:["enumerate", "zip", "dict_itemiterator", "dict_reverseitemiterator", "odict_iterator", "itertools.zip_longest", "itertools.pairwise"].contains n=ae)(a:Q () s):ay M A (letOwnedTupleGo tg (.ref c) u) Q E s:=by
  unfold letOwnedTupleGo;cases tg<;>first
    |exact aE a
    | (cases u<;>first
        |exact aE a
        | (refine aA (wpAny_load d ?_)
           rw[f,hd];show ay M A (if (["enumerate", "zip", "dict_itemiterator", "dict_reverseitemiterator", "odict_iterator", "itertools.zip_longest", "itertools.pairwise"].contains n&&b[0]?==aa (rawInt _))=ac then _ else _) Q E s
           rw[ao (by intro h;rw[e,Bool.false_and]at h;cases h)]
           exact aE a))
noncomputable def Itl(K:Fg)(a:Ad):It:=
  ⟨λi H=>∃ xs x,SqL K H a xs/\xs[i]?=aa x,λi H x b=>b=H/\∀ xs,SqL K H a xs->xs[i]?=aa x,λi H=>∃ xs,SqL K H a xs/\xs.length<=i⟩
noncomputable def Itt(K:Fg)(a:Ad):It:=
  ⟨λi H=>∃ xs x,SqT K H a xs/\xs[i]?=aa x,λi H x b=>b=H/\∀ xs,SqT K H a xs->xs[i]?=aa x,λi H=>∃ xs,SqT K H a xs/\xs.length<=i⟩
noncomputable def Itr(a:Int)(n:Nat):It:=⟨λi _=>i < n,λi H x b=>b=H/\x=.int (a+i),λi _=>n<=i⟩
def turn_list{P:a0}(a g:Ad):Turn P w K tg (Itl K a) [g] g (λi h=>h.IsListIter g a i) where
  mem:=by simp
  obj:=λi h f b j=>by
    have e:b=g:=by simpa using j
    subst e;obtain⟨o,e,c,d⟩:=f;exact⟨o,e,λv z=>by rw[d]at z;cases z⟩
  keep:=λi h q f k=>f.at λo e=>k g (by simp) o e
  item:=by
    intro X B y C M i pQ s O H E I n f A;subst B y C;obtain⟨xs,x,m,t⟩:=A;obtain⟨r,rv,p,Q⟩:=I.list m;obtain⟨u,S,N⟩:=rv.get t;obtain⟨L,J,T,G,F,D⟩:=n g (by simp)
    refine wpAny_pyNext_list_item f p.isList (x:=u) (by simpa using S) λq l sb=>?_
    have V:Inv X pQ O H { s with heap:=q }:=I.turned (t':=s.toks) (λb o j e=>(sb.2 b j).trans e) L J G F D
    obtain⟨o,e,c,d⟩:=id l;exact⟨u,rfl,go_of (s:={ s with heap:=q }) e c d (by decide) ⟨x,H,V,N,⟨rfl,λW R=>by rw[I.list_inj R m];exact t⟩,l,λb j=>(n b j).1⟩⟩
  done:=by
    intro X B y C M i pQ s O H E I n f A;subst B y C;obtain⟨xs,m,t⟩:=A;obtain⟨r,rv,p,Q⟩:=I.list m;obtain⟨L,J,T,G,F,D⟩:=n g (by simp)
    have Y:=rv.length;exact wpAny_pyNext_list_end (I.ok.hd M) f p.isList (by simp;omega) λq U=>⟨rfl,I.turned (t':=s.toks) (λb o j e=>U b o j e) L J G F D⟩
  self:=λ_ _ _ _ _ f h=>wpAny_pyIter_listiter f h
def turn_tuple{P:a0}(a j:Ad):Turn P w K tg (Itt K a) [j] j (λi h=>h.IsTupleIter j a i) where
  mem:=by simp
  obj:=λi h f b l=>by
    have e:b=j:=by simpa using l
    subst e;obtain⟨o,e,c,d⟩:=f;exact⟨o,e,λv z=>by rw[d]at z;cases z⟩
  keep:=λi h r f k=>f.at λo e=>k j (by simp) o e
  item:=by
    intro X B y C M i pQ s O H E I q f A;subst B y C;obtain⟨xs,x,n,t⟩:=A;obtain⟨g,rv,p,Q⟩:=I.tuple n;obtain⟨u,S,N⟩:=rv.get t;obtain⟨L,J,T,G,F,D⟩:=q j (by simp)
    refine wpAny_pyNext_tuple_item f (show s.heap.IsTuple a g.toArray from p) (x:=u) (by simpa using S) λr m sb=>?_
    have V:Inv X pQ O H { s with heap:=r }:=I.turned (t':=s.toks) (λb o l e=>(sb.2 b l).trans e) L J G F D
    obtain⟨o,e,c,d⟩:=id m;exact⟨u,rfl,go_of (s:={ s with heap:=r }) e c d (by decide) ⟨x,H,V,N,⟨rfl,λW R=>by rw[I.tuple_inj R n];exact t⟩,m,λb l=>(q b l).1⟩⟩
  done:=by
    intro X B y C M i pQ s O H E I q f A;subst B y C;obtain⟨xs,n,t⟩:=A;obtain⟨g,rv,p,Q⟩:=I.tuple n;obtain⟨L,J,T,G,F,D⟩:=q j (by simp)
    have Y:=rv.length;exact wpAny_pyNext_tuple_end (I.ok.hd M) f (show s.heap.IsTuple a g.toArray from p) (by simp;omega) λr U=>⟨rfl,I.turned (t':=s.toks) (λb o l e=>U b o l e) L J G F D⟩
  self:=λ_ _ _ _ _ f h=>wpAny_pyIter_tupleiter f h
def turn_range{P:a0}(c:Ad)(g:Int)(n:Nat):Turn P w K tg (Itr g n) [c] c (λi h=>IsRangeIter h c (g+(i:Nat) * 1) ((n:Int) - (i:Nat)) 1) where
  mem:=by simp
  obj:=λi h a b d=>by
    have e:b=c:=by simpa using d
    subst e;exact⟨_,a,λv z=>by
      have F:Data.fields _=Data.cell v:=z;cases F⟩
  keep:=λi h l a k=>k c (by simp) _ a
  item:=by
    intro X r m u q i pQ s O H E I j a p;subst r m u;obtain⟨C,B,L,A,y,x⟩:=j c (by simp)
    have W:=Walks.range (prog:=X.prog) (w:=X.w) (I.ok.hd q) c g 1 n;refine W.item i s _ _ p a λv l D J f G=>?_
    obtain⟨t,rfl⟩:=J;have N:Inv X pQ O H { s with heap:=l,toks:=D }:=I.turned (λb o d e=>G b o (by simpa using d) e) C B A y x
    refine⟨_,rfl,go_of (s:={ s with heap:=l,toks:=D }) (n := "range_iterator") f rfl rfl (by decide) ⟨.int (g+i),H,N,⟨t,?_⟩,⟨rfl,rfl⟩,f,λb d=>(j b d).1⟩⟩
    rw[Int.mul_one]
  done:=by
    intro X r m u q i pQ s O H E I j a p;subst r m u;obtain⟨C,B,L,A,y,x⟩:=j c (by simp)
    exact wpAny_pyNext_range_end (I.ok.hd q) a (by have:n<=i:=p;omega) λl M=>⟨rfl,I.turned (t':=s.toks) (λb o d e=>M b o d e) C B A y x⟩
  self:=λ_ _ _ _ _ a h=>wpAny_pyIter_rangeiter a h
variable{l:aw}{lo:Int}{fp:Li Ad}
variable{tg:aw}
def iList(K:Fg)(tl:TE):TI:=λO H R=>tl O H λx b=>∃ a,x=.ref a/\(∃ xs,SqL K b a xs)/\R (Itl K a) b
def iTup(K:Fg)(tl:TE):TI:=λO H R=>tl O H λx b=>∃ a,x=.ref a/\(∃ xs,SqT K b a xs)/\R (Itt K a) b
def pi_list{tl:TE}(j:PE X l tl):PI X tg l (iList X.K tl):=by
  intro pQ s O H R I h;refine thn (j pQ s O H _ I h) λv s1 ⟨x,m,c,d,f⟩=>?_
  obtain⟨a,e,⟨xs,i⟩,q⟩:=f;subst e;cases d;obtain⟨g,rv,p,n⟩:=c.list i;refine wpAny_pyIter_list p.isList ?_;refine⟨s1.heap.objs.size,[s1.heap.objs.size],_,_,m,rfl,c.kept (t':=s1.toks) λb o e=>aL _ e,turn_list a _,⟨_,aW _ rfl,rfl,rfl⟩,λb k=>?_,q⟩
  have e:b=s1.heap.objs.size:=by simpa using k
  subst e;exact c.fpOk (aD _) (c.hok.fresh (aD _))
def pi_tup{tl:TE}(j:PE X l tl):PI X tg l (iTup X.K tl):=by
  intro pQ s O H R I h;refine thn (j pQ s O H _ I h) λv s1 ⟨x,m,c,f,g⟩=>?_
  obtain⟨a,e,⟨xs,i⟩,q⟩:=g;subst e;cases f;obtain⟨d,rv,p,n⟩:=c.tuple i;refine wpAny_pyIter_tuple (show s1.heap.IsTuple a d.toArray from p) ?_;refine⟨s1.heap.objs.size,[s1.heap.objs.size],_,_,m,rfl,c.kept (t':=s1.toks) λb o e=>aL _ e,turn_tuple a _,⟨_,aW _ rfl,rfl,rfl⟩,λb k=>?_,q⟩
  have e:b=s1.heap.objs.size:=by simpa using k
  subst e;exact c.fpOk (aD _) (c.hok.fresh (aD _))
def range_it{O:St}{R:It->Hp->Prop}{E:vL->Sd->Prop}{a:Int}{t u v:Tok}{c:Nat}(I:Inv X pQ O H s)(j:-(2 ^ 62)<=lo)(i:lo < 2 ^ 62)(h:-(2 ^ 62)<=a)(g:a < 2 ^ 62)(q:R (Itr lo (a - lo).toNat) H):ay (az X.prog X.w) X.A (pyIter (.ref s.heap.objs.size)) (PIE X pQ O tg R) E { s with heap:=s.heap.push { cls:=.type "range",data:=.fields #[.int lo t,.int a u,.int 1 v] },toks:=c }:=by
  refine wpAny_pyIter_range (IsRange.new ..) (small_one j i h g) ?_;have d:Inv X pQ O H { s with heap:=s.heap.push { cls:=.type "range",data:=.fields #[.int lo t,.int a u,.int 1 v] },toks:=c }:=I.kept λb o e=>aL _ e
  refine⟨(s.heap.push { cls:=.type "range",data:=.fields #[.int lo t,.int a u,.int 1 v] }).objs.size,[(s.heap.push { cls:=.type "range",data:=.fields #[.int lo t,.int a u,.int 1 v] }).objs.size],_,_,H,rfl,
    d.kept (t':=c) λb o e=>aL _ e,turn_range _ lo (a - lo).toNat,?_,λb f=>?_,q⟩
  . have l:lo+((0:Nat):Int) * 1=lo:=by simp
    have k:(((a - lo).toNat:Nat):Int) - ((0:Nat):Int)=Builtin.Range.rangeSize lo a 1:=by rw[rangeSize_one];split<;>omega
    show IsRangeIter _ _ (lo+((0:Nat):Int) * 1) ((((a - lo).toNat:Nat):Int) - ((0:Nat):Int)) 1;rw[l,k];exact aW _ rfl
  . have e:b=(s.heap.push { cls:=.type "range",data:=.fields #[.int lo t,.int a u,.int 1 v] }).objs.size:=by simpa using f
    subst e;exact d.fpOk (aD _) (d.hok.fresh (aD _))
def iRng1(b:TA):TI:=λO H R=>b O H λa c=>∃ j:Int,a=[.int j]/\-(2 ^ 62)<=j/\j < 2 ^ 62/\R (Itr 0 j.toNat) c
def pi_range1{a:aw}{d:TA}{p b:Pos}(m:Gl X "range")(l:X.mg "range"=ab)(n:PA X [a] d)(k:a6 [a] X.env=[(ae,eval a X.env)]:=by rfl):PI X tg (.Call (.Name "range" p) [a] [] b) (iRng1 d):=by
  intro pQ s O H R I h;refine Call_ (ld_blt I m l boot_range (PyProof.Rows.callWith_type1 (thn (n b pQ s O H _ I h) λus s1 ⟨u,v,o,g,c⟩=>?_) k rfl))
  obtain⟨j,e,c,i,q⟩:=c;subst e;cases g with
  |cons r f=>
    cases f;obtain⟨t,rfl⟩:=r;exact call_range_1 (range_it o (by omega) (by omega) c i (by simpa using q))
def tFor(e:TI)(g:TG)(f:TS):TS:=λD O H=>e O H λJ j=>∃ W:Nat->Nat->St->Hp->Prop,(∃ m,W 0 m O j)/\∀ i m O H,W i m O H->
  (J.stop i H/\D.nx O H)\/(J.go i H/\∃ N:St->Hp->Prop,(∀ d a,N d a->∃ c,c < m/\W (i+1) c d a)/\∀ x a,J.yld i H x a->g x O a λb h=>f { D with nx:=N,ct:=N,bk:=D.nx } b h)
noncomputable def pinsAt(fp:Li Ad)(h:bg):Li (Ad×Obj):=fp.filterMap λb=>(h.get? b).map λo=>(b,o)
def mem_pinsAt{b:Ad}{o:Obj}(a:b∈fp)(e:h.get? b=aa o):(b,o)∈pinsAt fp h:=List.mem_filterMap.mpr ⟨b,a,by rw[e];rfl⟩
def of_pinsAt{p:Ad×Obj}(a:p∈pinsAt fp h):p.1∈fp/\h.get? p.1=aa p.2:=by
  obtain⟨b,c,e⟩:=List.mem_filterMap.mp a;cases q:h.get? b with
  |none=>rw[q]at e;cases e
  |some o=>
    rw[q]at e;have d:(b,o)=p:=au e;subst d;exact⟨c,q⟩
def Inv.pinned{O:St}{fp:Li Ad}(I:Inv X pQ O H s)(h:∀ b∈fp,FpOk X pQ H b)(g:∀ b∈fp,∃ o,s.heap.get? b=aa o/\∀ v,o.data≠.cell v):Inv X (pQ++pinsAt fp s.heap) O H s:=
  I.pins_of λp f=>(bO.mp f).elim (λz=>I.pin p (cD _ z)) λz=>by
    obtain⟨a,e⟩:=of_pinsAt z;obtain⟨k,j,i,_⟩:=h p.1 a;obtain⟨o,c,d⟩:=g p.1 a;rw[e]at c;cases c
    exact⟨e,k,j,i,d⟩
def Inv.unpinned{a:Li (Ad×Obj)}{O:St}(I:Inv X (pQ++a) O H s):Inv X pQ O H s:=I.pins_of λp b=>I.pin p (cD _ (List.mem_append_left _ b))
def ps_for{iter:aw}{V:TI}{g:TG}{Z:TS}{Q:Pos}(E:PassesOwn (az X.prog X.w) X.A X.env X.xe)(hc:X.calm=ac)(hi:PI X tg iter V)(hg:PG X tg g)(k:PSs X body Z)(hs:∀ x,foldedSetIterable iter X.env x=pure x:=by intro _;rfl):PS X (.For tg iter body [] Q) (tFor V g Z):=by
  intro pQ s O H D I h;refine wpAny_For (thn (hi pQ s O H _ I h) λv s1 h1=>thn h1 λitv s2 h2=>?_) hs
  obtain⟨it,fp,Y,J,H2,e,I2,T,M,f2,W,⟨m0,w0⟩,turn⟩:=h2;subst e
  -- what stays ac of the iterator's objects through the loop
  have j:∀ {t:Hp},(∀ b∈fp,t b=ab)->∀ b∈fp,FpOk X pQ t b:=λhn b k=>⟨hn b k,(f2 b k).2⟩
  refine codeAny_forLoop_any (λn s'=>∃ i G t,Inv X pQ G t s'/\Y i s'.heap/\(∀ b∈fp,t b=ab)/\W i n G t) ?_ m0 ⟨0,O,H2,I2,M,λb k=>(f2 b k).1,w0⟩
  rintro n s3 ⟨i,c,K,I3,B,F,w3⟩
  rcases turn i n c K w3 with⟨stop,qn⟩|⟨go,N,hN,step⟩
  . refine wpAny_passesOwn E (thn (T.done X rfl rfl rfl hc i pQ s3 c K X.xe I3 (j F) B stop) λr s4 ⟨R,I4⟩=>?_)
    subst R;exact wpAny_execs_nil ⟨c,K,I4,qn⟩
  . refine wpAny_passesOwn E (thn (T.item X rfl rfl rfl hc i pQ s3 c K X.xe I3 (j F) B go) λr s4 ⟨u,R,h4⟩=>?_)
    subst R;refine wpAny_passesOwn E (thn h4 λ_ s5 ⟨x,H5,I5,r5,y5,z,S⟩=>?_)
    have U:=I5.pinned (j S) (T.obj _ _ z);refine wpAny_passesOwn E (thn (hg _ s5 c H5 x u _ U r5 (step x H5 y5)) λ_ s6 ⟨L,H6,I6,q6⟩=>?_)
    refine wpAny_passesOwn E (thn (k _ s6 L H6 _ I6 q6) λf P y=>?_)
    have l:∀ {a:St}{q:Hp},Inv X (pQ++pinsAt fp s5.heap) a q P->N a q->∃ m,m < n/\∃ i G t,Inv X pQ G t P/\Y i P.heap/\(∀ b∈fp,t b=ab)/\W i m G t:=λ{a q} p C=>by
      obtain⟨m',hm,w7⟩:=hN a q C;refine⟨m',hm,i+1,a,q,p.unpinned,T.keep _ _ _ z λb k o e=>(p.pin (b,o) (cD _ (cD _ (mem_pinsAt k e)))).1,λb k=>?_,w7⟩
      obtain⟨o,e,d⟩:=T.obj _ _ z b k;exact(p.pin (b,o) (cD _ (cD _ (mem_pinsAt k e)))).2.1
    cases f with
    |next=>obtain⟨a,q,p,C⟩:=y;exact l p C
    |cont=>obtain⟨a,q,p,C⟩:=y;exact l p C
    |brk=>obtain⟨a,q,p,y⟩:=y;exact⟨a,q,p.unpinned,y⟩
    |ret v=>obtain⟨x7,a,q,p,r7,y⟩:=y;exact⟨x7,a,q,p.unpinned,r7,y⟩
def for_tup{a:Ad}{g:TG}{k:TS}{D:Ends}{O:St}{H:Hp}(b:Nat->St->Hp->Prop)(t:b 0 O H)(r:∀ i O H,i<=xs.length->b i O H->SqT K H a xs)(o:∀ i x O H,xs[i]?=aa x->b i O H->g x O H λc j=>k { D with nx:=b (i+1),ct:=b (i+1),bk:=D.nx } c j)(hd:∀ O H,b xs.length O H->D.nx O H) :
    ∃ W:Nat->Nat->St->Hp->Prop,(∃ m,W 0 m O H)/\∀ i m O H,W i m O H->
      ((Itt K a).stop i H/\D.nx O H)\/((Itt K a).go i H/\∃ N:St->Hp->Prop,(∀ h d,N h d->∃ l,l < m/\W (i+1) l h d)/\∀ x d,(Itt K a).yld i H x d->g x O d λc j=>k { D with nx:=N,ct:=N,bk:=D.nx } c j):=by
  refine⟨λi m O H=>m=xs.length - i/\i<=xs.length/\b i O H,⟨xs.length,by simp,aO _,t⟩,?_⟩
  rintro i m O H ⟨rfl,s,p⟩
  have q:=r i O H s p;by_cases f:i < xs.length
  . refine .inr ⟨⟨xs,xs[i],q,by simp[f]⟩,b (i+1),λh d n=>⟨xs.length - (i+1),by omega,rfl,f,n⟩,λx d y=>?_⟩
    obtain⟨e,y⟩:=y;subst e;exact o i x O _ (y xs q) p
  . have e:i=xs.length:=by omega
    subst e;exact .inl ⟨⟨xs,q,aD _⟩,hd O H p⟩
def for_range{g:TG}{j:TS}{D:Ends}{O:St}{H:Hp}(c:Nat->St->Hp->Prop)(q:c 0 O H)(o:∀ i O H,i < n->c i O H->g (.int (lo+i)) O H λa h=>j { D with nx:=c (i+1),ct:=c (i+1),bk:=D.nx } a h)(hd:∀ O H,c n O H->D.nx O H) :
    ∃ W:Nat->Nat->St->Hp->Prop,(∃ m,W 0 m O H)/\∀ i m O H,W i m O H->
      ((Itr lo n).stop i H/\D.nx O H)\/((Itr lo n).go i H/\∃ N:St->Hp->Prop,(∀ f d,N f d->∃ k,k < m/\W (i+1) k f d)/\∀ x d,(Itr lo n).yld i H x d->g x O d λa h=>j { D with nx:=N,ct:=N,bk:=D.nx } a h):=by
  refine⟨λi m O H=>m=n - i/\i<=n/\c i O H,⟨n,by simp,aO _,q⟩,?_⟩
  rintro i m O H ⟨rfl,r,p⟩
  by_cases b:i < n
  . refine .inr ⟨b,c (i+1),λf d l=>⟨n - (i+1),by omega,rfl,b,l⟩,λx d y=>?_⟩
    obtain⟨e,y⟩:=y;subst e y;exact o i O _ b p
  . have e:i=n:=by omega
    subst e;exact .inl ⟨aD _,hd O H p⟩
abbrev R2:=V->V->Hp->VK->Prop
def OpR(X:Cx)(f:vL->vL->Sem vL)(r:R2):Prop:=
  ∀ (pQ:Li (Ad×Obj)) (s:Sd) (O:St) (H:Hp) (x y:V) (v u:vL) (Q:VK),Inv X pQ O H s->RelV x v->RelV y u->r x y H Q->
    ay (az X.prog X.w) X.A (f v u) (EP X pQ O Q) X.xe s
def UnR(X:Cx)(f:vL->Sem vL)(r:V->Hp->VK->Prop):Prop:=
  ∀ (pQ:Li (Ad×Obj)) (s:Sd) (O:St) (H:Hp) (x:V) (v:vL) (Q:VK),Inv X pQ O H s->RelV x v->r x H Q->
    ay (az X.prog X.w) X.A (f v) (EP X pQ O Q) X.xe s
def CallR(X:Cx)(f:vL)(r:Li V->Hp->VK->Prop):Prop:=
  ∀ (pQ:Li (Ad×Obj)) (s:Sd) (O:St) (H:Hp) (xs:Li V) (us:Li vL) (Q:VK),Inv X pQ O H s->Vals xs us->r xs H Q->
    ay (az X.prog X.w) X.A (call f us) (EP X pQ O Q) X.xe s
def tOp(r:R2)(b a:TE):TE:=λO H Q=>b O H λx d=>a O d λy c=>r x y c Q
def tUn(r:V->Hp->VK->Prop)(a:TE):TE:=λO H Q=>a O H λx b=>r x b Q
def rI(C:Int->Int->Prop)(g:Int->Int->V):R2:=λx y H Q=>∃ i j,x=.int i/\y=.int j/\C i j/\Q (g i j) H
def rI0(g:Int->Int->V):R2:=λx y H Q=>∃ i j,x=.int i/\y=.int j/\Q (g i j) H
def rU(g:Int->V):V->Hp->VK->Prop:=λx H Q=>∃ i,x=.int i/\Q (g i) H
variable{c:aw}{tc:TE}
section
variable{a:aw}
def binT(p:PE X a ta)(o:PE X b tb){O:St}{R:V->V->Hp->Prop}(I:Inv X pQ O H s)(h:ta O H λx i=>tb O i λy c=>R x y c){f:vL->vL->Sem vL}(n:∀ v u g x y c,Inv X pQ O c g->RelV x v->RelV y u->R x y c->ay (az X.prog X.w) X.A (f v u) Q X.xe g) :
    ay (az X.prog X.w) X.A (eval a X.env) (λv e=>ay (az X.prog X.w) X.A (eval b X.env) (λu d=>ay (az X.prog X.w) X.A (f v u) Q X.xe d) X.xe e) X.xe s:=by
  refine thn (p pQ s O H _ I h) λv s1 ⟨x,i,r,k,m⟩=>?_
  refine thn (o pQ s1 O i _ r m) λu g ⟨y,c,q,j,l⟩=>?_
  exact n v u g x y c q k j l
def pe_op{c:Operator}{r:R2}(g:OpR X (bp c) r)(j:PE X a ta)(i:PE X b tb):PE X (.BinOp a c b pos) (tOp r ta tb):=by
  intro pQ s O H Q I h;exact wpAny_BinOp (binT j i I h λv u d x y l k f e q=>g pQ d O l x y v u Q k f e q)
def pe_un{b:UnaryOp}{r:V->Hp->VK->Prop}(e:UnR X (unaryOp b) r)(f:PE X a ta):PE X (.UnaryOp b a pos) (tUn r ta):=by
  intro pQ s O H Q I h;exact UnaryOp_ (thn (f pQ s O H _ I h) λv s1 ⟨x,i,g,c,d⟩=>e pQ s1 O i x v Q g c d)
def opI{f:vL->vL->Sem vL}{C:Int->Int->Prop}{g:Int->Int->Int}(a:∀ (i j:Int) (t u:Tok) (s:Sd) (Q:vL->Sd->Prop) (E:vL->Sd->Prop),C i j->Q (.int (g i j) s.toks) { s with toks:=s.toks+1 }->ay (az X.prog X.w) X.A (f (.int i t) (.int j u)) Q E s) :
    OpR X f (rI C λi j=>.int (g i j)):=by
  intro pQ s O H x y v u Q I c b h;obtain⟨i,j,rfl,rfl,d,q⟩:=h;obtain⟨t,rfl⟩:=c;obtain⟨t',rfl⟩:=b;exact a i j t t' s _ _ d ⟨.int (g i j),H,I.tok _,⟨_,rfl⟩,q⟩
def opI0{f:vL->vL->Sem vL}{g:Int->Int->Int}(a:∀ (i j:Int) (t u:Tok) (s:Sd) (Q:vL->Sd->Prop) (E:vL->Sd->Prop),Q (.int (g i j) s.toks) { s with toks:=s.toks+1 }->ay (az X.prog X.w) X.A (f (.int i t) (.int j u)) Q E s) :
    OpR X f (rI0 λi j=>.int (g i j)):=by
  intro pQ s O H x y v u Q I c b h;obtain⟨i,j,rfl,rfl,q⟩:=h;obtain⟨t,rfl⟩:=c;obtain⟨t',rfl⟩:=b;exact a i j t t' s _ _ ⟨.int (g i j),H,I.tok _,⟨_,rfl⟩,q⟩
def opB0{f:vL->vL->Sem vL}{g:Int->Int->Bool}(a:∀ (i j:Int) (t u:Tok) (s:Sd) (Q:vL->Sd->Prop) (E:vL->Sd->Prop),Q (.bool (g i j)) s->ay (az X.prog X.w) X.A (f (.int i t) (.int j u)) Q E s) :
    OpR X f (rI0 λi j=>.bl (g i j)):=by
  intro pQ s O H x y v u Q I c b h;obtain⟨i,j,rfl,rfl,q⟩:=h;obtain⟨t,rfl⟩:=c;obtain⟨t',rfl⟩:=b;exact a i j t t' s _ _ ⟨.bl (g i j),H,I,rfl,q⟩
def CDiv(i j:Int):Prop:=0 < j/\j < 1073741824
def CDivN(i j:Int):Prop:=j≠0/\j.natAbs < 1073741824
def CPow(i j:Int):Prop:=0<=j/\j<=1000000/\i.natAbs < 2 ^ 64
def CMul(i j:Int):Prop:=(-(2 ^ 64) < i/\i < 2 ^ 64)\/(-(2 ^ 64) < j/\j < 2 ^ 64)
def CMul.ok{i j:Int}(h:CMul i j):IntMulOk i j:=by
  rcases h with⟨b,a⟩|⟨b,a⟩
  . exact .of_left (intBits_le_64 b a)
  . exact .of_right (intBits_le_64 b a)
def op_add:OpR X (bp .Add) (rI0 λi j=>.int (i+j)):=opI0 λ_ _ _ _ _ _ _ q=>add_int q
def op_sub:OpR X (bp .Sub) (rI0 λi j=>.int (i - j)):=opI0 λ_ _ _ _ _ _ _ q=>sub_int q
def op_mul:OpR X (bp .Mult) (rI CMul λi j=>.int (i * j)):=opI λ_ _ _ _ _ _ _ a q=>mul_int q a.ok
def op_fdiv:OpR X (bp .FloorDiv) (rI CDiv λi j=>.int (i / j)):=opI λi j _ _ _ _ _ a q=>by
  have c:(0:Int) < j:=a.1;have b:j < 1073741824:=a.2;exact floordiv_int (by omega) (by rw[Int.fdiv_eq_ediv_of_nonneg i (by omega)];exact q) (.inl (PyProof.noPylong_small (by omega)))
def op_fdivN:OpR X (bp .FloorDiv) (rI CDivN λi j=>.int (i.fdiv j)):=opI λ_ _ _ _ _ _ _ a q=>floordiv_int a.1 q (.inl (PyProof.noPylong_small a.2))
def op_mod:OpR X (bp .Mod) (rI (λ_ j=>0 < j) λi j=>.int (i % j)):=opI λi j _ _ _ _ _ a q=>by
  have b:(0:Int) < j:=a;exact mod_int' (by omega) (by rw[Int.fmod_eq_emod_of_nonneg i (by omega)];exact q)
def op_modN:OpR X (bp .Mod) (rI (λ_ j=>j≠0) λi j=>.int (i.fmod j)):=opI λ_ _ _ _ _ _ _ a q=>mod_int' a q
def op_pow:OpR X (bp .Pow) (rI CPow λi j=>.int (i ^ j.toNat)):=opI λ_ _ _ _ _ _ _ a q=>pow_int_small a.1 a.2.1 a.2.2 q
def op_and:OpR X (bp .BitAnd) (rI0 λi j=>.int (Builtin.bitAnd i j)):=opI0 λ_ _ _ _ _ _ _ q=>and_int q
def op_or:OpR X (bp .BitOr) (rI0 λi j=>.int (Builtin.bitOr i j)):=opI0 λ_ _ _ _ _ _ _ q=>or_int q
def unI{f:vL->Sem vL}{g:Int->Int}(a:∀ (i:Int) (t:Tok) (s:Sd) (Q:vL->Sd->Prop) (E:vL->Sd->Prop),Q (.int (g i) s.toks) { s with toks:=s.toks+1 }->ay (az X.prog X.w) X.A (f (.int i t)) Q E s) :
    UnR X f (rU λi=>.int (g i)):=by
  intro pQ s O H x v Q I b h;obtain⟨i,rfl,q⟩:=h;obtain⟨t,rfl⟩:=b;exact a i t s _ _ ⟨.int (g i),H,I.tok _,⟨_,rfl⟩,q⟩
def un_neg:UnR X (unaryOp .USub) (rU λi=>.int (-i)):=unI λ_ _ _ _ _ q=>neg_int q
def un_inv:UnR X (unaryOp .Invert) (rU λi=>.int (Builtin.bitNot i)):=unI λ_ _ _ _ _ q=>invert_int q
end
noncomputable def scal:V->V->Bool
  |.non,.non=>ac|.non,.int _=>ac|.int _,.non=>ac|.non,.bl _=>ac|.bl _,.non=>ac|.non,.str _=>ac|.str _,.non=>ac
  |.int _,.int _=>ac|.bl _,.bl _=>ac|.str _,.str _=>ac|.byt _,.byt _=>ac
  |.int _,.str _=>ac|.str _,.int _=>ac|.bl _,.str _=>ac|.str _,.bl _=>ac
  |_,_=>ae
def rEq:R2:=λx y H Q=>scal x y=ac/\Q (.bl (aj (x=y))) H
def rNe:R2:=λx y H Q=>scal x y=ac/\Q (.bl (!decide (x=y))) H
def dec_int{i j:Int}:aj (V.int i=V.int j)=(i==j):=by
  rw[bY];simp
def dec_bl{i j:Bool}:aj (V.bl i=V.bl j)=(i==j):=by
  rw[bY];simp
def dec_str{i j:Str}:aj (V.str i=V.str j)=(i==j):=by
  rw[bY];simp
def dec_byt{i j:Array UInt8}:aj (V.byt i=V.byt j)=(i.toList==j.toList):=by
  rw[bY];cases i;cases j;simp
variable{op:CmpOp}
section
variable{a:aw}
def fin_bl{O:St}{Q:VK}{k a:Bool}(I:Inv X pQ O H s)(q:Q (.bl k) H)(e:k=a):EP X pQ O Q (.bool a) s:=by
  subst e;exact⟨.bl k,H,I,rfl,q⟩
def op_eq:OpR X (bj .Eq) rEq:=by
  intro pQ s O H x y v u Q I c a h;obtain⟨b,q⟩:=h;cases x with
  |non=>
    cases c;cases y with
    |non=>cases a;exact PySem.EqNone.eq_none_none (fin_bl I q (by simp))
    |bl j=>cases a;exact PySem.EqNone.eq_none_bool (fin_bl I q (by simp))
    |int j=>obtain⟨t',rfl⟩:=a;exact PySem.EqNone.eq_none_int (fin_bl I q (by simp))
    |str j=>obtain⟨t',rfl⟩:=a;exact PySem.EqNone.eq_none_str (fin_bl I q (by simp))
    |_=>exact aq (show ae=ac from b) Bf
  |bl i=>
    cases c;cases y with
    |non=>cases a;exact PySem.EqNone.eq_bool_none (fin_bl I q (by simp))
    |bl j=>cases a;exact eq_bool (fin_bl I q dec_bl)
    |str j=>obtain⟨t',rfl⟩:=a;exact PySem.EqMixed.eq_bool_str (fin_bl I q (by simp))
    |_=>exact aq (show ae=ac from b) Bf
  |int i=>
    obtain⟨t,rfl⟩:=c;cases y with
    |non=>cases a;exact PySem.EqNone.eq_int_none (fin_bl I q (by simp))
    |int j=>obtain⟨t',rfl⟩:=a;exact eq_int (fin_bl I q dec_int)
    |str j=>obtain⟨t',rfl⟩:=a;exact PySem.EqMixed.eq_int_str (fin_bl I q (by simp))
    |_=>exact aq (show ae=ac from b) Bf
  |str i=>
    obtain⟨t,rfl⟩:=c;cases y with
    |non=>cases a;exact PySem.EqNone.eq_str_none (fin_bl I q (by simp))
    |bl j=>cases a;exact PySem.EqMixed.eq_str_bool (fin_bl I q (by simp))
    |int j=>obtain⟨t',rfl⟩:=a;exact PySem.EqMixed.eq_str_int (fin_bl I q (by simp))
    |str j=>obtain⟨t',rfl⟩:=a;exact eq_str (fin_bl I q dec_str)
    |_=>exact aq (show ae=ac from b) Bf
  |byt i=>
    obtain⟨t,rfl⟩:=c;cases y with
    |byt j=>obtain⟨t',rfl⟩:=a;exact W.eq_bytes (fin_bl I q dec_byt)
    |_=>exact aq (show ae=ac from b) Bf
  |_=>cases y<;>exact aq (show ae=ac from b) Bf
def op_ne:OpR X (bj .NotEq) rNe:=by
  intro pQ s O H x y v u Q I c a h;obtain⟨b,q⟩:=h;cases x with
  |non=>
    cases c;cases y with
    |non=>cases a;exact PySem.EqNone.ne_none_none (fin_bl I q (by simp))
    |bl j=>cases a;exact PySem.EqNone.ne_none_bool (fin_bl I q (by simp))
    |int j=>obtain⟨t',rfl⟩:=a;exact PySem.EqNone.ne_none_int (fin_bl I q (by simp))
    |str j=>obtain⟨t',rfl⟩:=a;exact PySem.EqNone.ne_none_str (fin_bl I q (by simp))
    |_=>exact aq (show ae=ac from b) Bf
  |bl i=>
    cases c;cases y with
    |non=>cases a;exact PySem.EqNone.ne_bool_none (fin_bl I q (by simp))
    |bl j=>cases a;exact ne_bool (fin_bl I q (ar not dec_bl))
    |str j=>obtain⟨t',rfl⟩:=a;exact PySem.EqMixed.ne_bool_str (fin_bl I q (by simp))
    |_=>exact aq (show ae=ac from b) Bf
  |int i=>
    obtain⟨t,rfl⟩:=c;cases y with
    |non=>cases a;exact PySem.EqNone.ne_int_none (fin_bl I q (by simp))
    |int j=>obtain⟨t',rfl⟩:=a;exact ne_int (fin_bl I q (ar not dec_int))
    |str j=>obtain⟨t',rfl⟩:=a;exact PySem.EqMixed.ne_int_str (fin_bl I q (by simp))
    |_=>exact aq (show ae=ac from b) Bf
  |str i=>
    obtain⟨t,rfl⟩:=c;cases y with
    |non=>cases a;exact PySem.EqNone.ne_str_none (fin_bl I q (by simp))
    |bl j=>cases a;exact PySem.EqMixed.ne_str_bool (fin_bl I q (by simp))
    |int j=>obtain⟨t',rfl⟩:=a;exact PySem.EqMixed.ne_str_int (fin_bl I q (by simp))
    |str j=>obtain⟨t',rfl⟩:=a;exact ne_str (fin_bl I q (ar not dec_str))
    |_=>exact aq (show ae=ac from b) Bf
  |byt i=>
    obtain⟨t,rfl⟩:=c;cases y with
    |byt j=>obtain⟨t',rfl⟩:=a;exact W.ne_bytes (fin_bl I q (ar not dec_byt))
    |_=>exact aq (show ae=ac from b) Bf
  |_=>cases y<;>exact aq (show ae=ac from b) Bf
def op_lt:OpR X (bj .Lt) (rI0 λi j=>.bl (aj (i < j))):=opB0 λ_ _ _ _ _ _ _ q=>lt_int q
def op_le:OpR X (bj .LtE) (rI0 λi j=>.bl (aj (i<=j))):=opB0 λ_ _ _ _ _ _ _ q=>le_int q
def op_gt:OpR X (bj .Gt) (rI0 λi j=>.bl (aj (j < i))):=opB0 λ_ _ _ _ _ _ _ q=>gt_int q
def op_ge:OpR X (bj .GtE) (rI0 λi j=>.bl (aj (j<=i))):=opB0 λ_ _ _ _ _ _ _ q=>ge_int q
def op_in_str:OpR X (bj .In) (λx y H Q=>∃ i j,x=.str i/\y=.str j/\Q (.bl (!(Builtin.Str.occurrences j i 0 j.length 1).isEmpty)) H):=by
  intro pQ s O H x y v u Q I b a h;obtain⟨i,j,rfl,rfl,q⟩:=h;obtain⟨t,rfl⟩:=b;obtain⟨t',rfl⟩:=a;exact in_str (fin_bl I q rfl)
def op_isN:OpR X (bj .Is) (λx y H Q=>y=.non/\Q (.bl (aj (x=.non))) H):=by
  intro pQ s O H x y v u Q I a b h;obtain⟨rfl,q⟩:=h;cases b;refine is_none_gen (fin_bl I q ?_);cases x<;>first
    | (cases a;rfl)
    | (obtain⟨t,rfl⟩:=a;rfl)
def op_notN:OpR X (bj .IsNot) (λx y H Q=>y=.non/\Q (.bl (!decide (x=.non))) H):=by
  intro pQ s O H x y v u Q I a b h;obtain⟨rfl,q⟩:=h;cases b;refine isnot_none_gen (fin_bl I q ?_);cases x<;>first
    | (cases a;rfl)
    | (obtain⟨t,rfl⟩:=a;rfl)
def pe_cmpR{r:R2}(f:OpR X (bj op) r)(j:PE X a ta)(i:PE X b tb)(g:behindInMarks op b=ae):PE X (.Compare a [op] [b] pos) (tOp r ta tb):=by
  intro pQ s O H Q I h;exact wpAny_Compare1 (binT j i I h λv u c x y l k e d q=>f pQ c O l x y v u Q k e d q) g
def tTest(t:TE):TT:=λO H Q=>t O H λx a=>∃ k,x=.bl k/\Q k a
def pt_cmpR{r:R2}(n:OpR X (bj op) r)(q:PE X a ta)(p:PE X b tb)(o:behindInMarks op b=ae):PT X (.Compare a [op] [b] pos) (tTest (tOp r ta tb)):=by
  intro pQ s O H Q I h;refine wpAny_isTrue_Compare1 (thn (q pQ s O H _ I h) λv s1 ⟨x,D,A,i,m⟩=>thn (p pQ s1 O D _ A m) λu d ⟨y,C,w,g,l⟩=>
    thn (n pQ d O C x y v u _ w i g l) λc E ⟨z,B,t,f,k,e,j⟩=>?_) o
  subst e;cases f;exact wpAny_truthy_bool ⟨B,t,j⟩
def line63:(av:Nat) < 2 ^ 63:=by rw[sizeLine_eq];decide
def op_add_str:OpR X (bp .Add) (λx y H Q=>∃ i j,x=.str i/\y=.str j/\i.length+j.length<=av/\Q (.str (i++j)) H):=by
  intro pQ s O H x y v u Q I b a h;obtain⟨i,j,rfl,rfl,c,q⟩:=h;obtain⟨t,rfl⟩:=b;obtain⟨t',rfl⟩:=a;exact add_str (λt' d=>⟨.str (i++j),H,I.tok _,⟨_,rfl⟩,q⟩) c
def vals1{x:V}(r:Vals [x] us):∃ u,us=[u]/\RelV x u:=by
  cases r with
  |cons b a=>cases a;exact⟨_,rfl,b⟩
def vals2{x y:V}(r:Vals [x,y] us):∃ u a,us=[u,a]/\RelV x u/\RelV y a:=by
  cases r with
  |cons e d=>
    cases d with
    |cons c b=>cases b;exact⟨_,_,rfl,e,c⟩
def call_max2(b:X.calm=ac):CallR X (.builtin "max") (λxs H Q=>∃ i j,xs=[.int i,.int j]/\Q (.int (if j > i then j else i)) H):=by
  intro pQ s O H xs us Q I r h;obtain⟨i,j,rfl,q⟩:=h;obtain⟨u,c,rfl,⟨t,rfl⟩,⟨t',rfl⟩⟩:=vals2 r;refine max_two_ints (I.ok.hd b) λe d k=>⟨_,H,I.kept k,?_,q⟩
  by_cases a:j > i
  . rw[am a,am a];exact⟨_,rfl⟩
  . rw[ao a,ao a];exact⟨_,rfl⟩
def call_min2(b:X.calm=ac):CallR X (.builtin "min") (λxs H Q=>∃ i j,xs=[.int i,.int j]/\Q (.int (if j < i then j else i)) H):=by
  intro pQ s O H xs us Q I r h;obtain⟨i,j,rfl,q⟩:=h;obtain⟨u,c,rfl,⟨t,rfl⟩,⟨t',rfl⟩⟩:=vals2 r;refine min_two_ints (I.ok.hd b) λe d k=>⟨_,H,I.kept k,?_,q⟩
  by_cases a:j < i
  . rw[am a,am a];exact⟨_,rfl⟩
  . rw[ao a,ao a];exact⟨_,rfl⟩
def call_int1:CallR X (.type "int") (λxs H Q=>(∃ i,xs=[.int i]/\Q (.int i) H)\/∃ k,xs=[.bl k]/\Q (.int (if k then 1 else 0)) H):=by
  intro pQ s O H xs us Q I r h;rcases h with⟨i,rfl,q⟩|⟨k,rfl,q⟩
  . obtain⟨u,rfl,t,rfl⟩:=vals1 r
    exact call_int_int ⟨.int i,H,I,⟨_,rfl⟩,q⟩
  . obtain⟨u,rfl,a⟩:=vals1 r
    cases a;exact call_int_bool ⟨.int (if k then 1 else 0),H,I.tok _,⟨_,rfl⟩,q⟩
def LenV(K:Fg)(x:V)(H:Hp)(n:Nat):Prop:=
  match x with
  |.str y=>y.length<=av/\n=y.length
  |.byt y=>y.size<=av/\n=y.size
  |.ref p=>(∃ xs,SqL K H p xs/\n=xs.length)\/∃ xs,SqT K H p xs/\n=xs.length
  |_=>False
def call_len:CallR X (.builtin "len") (λxs H Q=>∃ x n,xs=[x]/\LenV X.K x H n/\Q (.int n) H):=by
  intro pQ s O H xs us Q I r h;obtain⟨x,n,rfl,e,q⟩:=h;obtain⟨u,rfl,c⟩:=vals1 r;have m:=line63;have l:av=16777216:=sizeLine_eq;cases x with
  |str y=>
    obtain⟨t,rfl⟩:=c;obtain⟨k,b⟩:y.length<=av/\n=y.length:=e;subst b;exact len_str (by omega) ⟨.int _,H,I.tok _,⟨_,rfl⟩,q⟩
  |byt y=>
    obtain⟨t,rfl⟩:=c;obtain⟨k,b⟩:y.size<=av/\n=y.size:=e;subst b;exact W.len_bytes (by omega) ⟨.int _,H,I.tok _,⟨_,rfl⟩,q⟩
  |ref p=>
    cases c;have b:(∃ xs,SqL X.K H p xs/\n=xs.length)\/∃ xs,SqT X.K H p xs/\n=xs.length:=e;rcases b with⟨xs,i,b⟩|⟨xs,i,b⟩
    . subst b
      obtain⟨g,d,f,j⟩:=I.list i;have a:=d.length;exact Calls.call_len_list f.isList (by simp only[aH];omega) ⟨.int xs.length,H,I.tok _,⟨_,by simp only[aH];rw[a]⟩,q⟩
    . subst b
      obtain⟨g,d,f,j⟩:=I.tuple i;have a:=d.length;exact len_tuple f (by simp only[aH];omega) ⟨.int xs.length,H,I.tok _,⟨_,by simp only[aH];rw[a]⟩,q⟩
  |_=>exact(show False from e).elim
end
structure ObjM(h:bg)(x dx C:Addr)(mA:Str->Option Value):Prop where
  obj:h.get? x=aa (W.instObj C dx)
  ns:h.Ns1 dx mA
  ne:dx≠x
variable{mA:Str->Ot vL}
def lookIn_ns{f:Ad}(n:h.Ns1 f mA):∃ d,h.get? f=aa d/\∀ b,W.lookIn b d=aa (mA b):=by
  obtain⟨o,es,p,i,l,k,_,j⟩:=n;refine⟨o,i,λb=>?_⟩
  have e:=j b;unfold nsFind findBy at e;rw[<-Array.find?_toList]at e;unfold W.lookIn;rw[l];dsimp only;split
  . rename_i y q
    rw[q]at e;exact ar aa e
  . rename_i q
    rw[q]at e;have a:es.toList.any (·.refKey)=ae:=by
      rw[List.any_eq_false];intro y g;obtain⟨z,t,c⟩:=k y (Array.mem_toList_iff.mp g);simp[DictEntry.refKey,c]
    have m:¬es.toList.any (·.refKey)=ac:=by rw[a];exact Bf
    rw[ao m];exact ar aa e
def ObjM.look{x c C:Ad}(I:ObjM h x c C mA):∃ b,W.InstAt h x (W.instObj C c) C (aa b)/\∀ a,W.lookIn a b=aa (mA a):=
  let ⟨b,ho,hl⟩:=lookIn_ns I.ns
  ⟨b,⟨I.obj,rfl,rfl,ho⟩,hl⟩
variable{pl:Sem Bool}
variable{A:bo}{K:Fg}{dx C f:Ad}{mA:Str->Ot vL}
section
variable{prog:a0}{name:Str}{v:vL}
def get_meth{Q:vL×Li vL->Sd->Prop}(X:K.In s.heap)(I:ObjM s.heap x dx C mA)(a:W.plainGet K C name=ac)(g:W.findIn K (.ref C) name=aa (aa (.ref f)))(d:W.isFn K (.ref f)=ac)(c:mA name=ab)(h:Q (.ref f,[.ref x]) s) :
    ay (az prog w) A (getMethod (.ref x) name pl) Q E s:=by
  obtain⟨b,J,e⟩:=I.look;exact W.method_fn X J (W.plainGet_of a).1 (W.plainGet_of a).2 g (beq_iff_eq.mp d) (by show(W.lookIn name b).map (·.isSome)=aa ae;rw[e,c];rfl) h
end
def RelO.some_of{v:V}{o:Ot vL}(r:RelO (aa v) o):∃ u,o=aa u/\RelV v u:=by
  cases o with
  |none=>exact(show False from r).elim
  |some u=>exact⟨u,rfl,r⟩
def RelO.none_of{o:Ot vL}(r:RelO ab o):o=ab:=by
  cases o with
  |none=>rfl
  |some u=>exact(show False from r).elim
variable{fs:Li (Str×V)}
section
variable{fs':Li (Str×V)}
def ins_get(hok:HOk P w H h)(e:H a=aa (.ins C dx fs)):∃ mA,ObjM h a dx C mA/\(∀ f,RelO (fs.lookup f) (mA f))/\PySem.Within mA (fs.map (·.1))/\fs.length<=1000/\H dx=aa (.own a):=by
  obtain⟨d,z,c,b,mA,n,r,q⟩:=(show ObjOk P w H h a (.ins C dx fs) from hok a _ e);exact⟨mA,⟨b,n,c⟩,r,q,z,d⟩
end
structure Cls(K:Fg)(C:Addr):Prop where
  pg:W.plainGet K C Str.empty=ac
  hd:W.hasDictIn K C=ac
  po:W.plainOver K C=ac
  sa:W.findIn K (.ref C) "__setattr__"=aa (aa (.builtin "object.__setattr__"))
def Cls.get{C:Ad}(c:Cls K C)(f:Str):W.plainGet K C f=ac:=c.pg
structure Con(K:Fg)(C:Addr)(f:Str)(v:V)(u:Value):Prop where
  at_:W.findIn K (.ref C) f=aa (aa u)
  rel:RelV v u
  get:W.specialIn K u "__get__"=aa ab
  cp:W.copiedNames.contains f=ae
structure Meth(K:Fg)(C:Addr)(m:Str)(f:Addr):Prop where
  at_:W.findIn K (.ref C) m=aa (aa (.ref f))
  fn:W.isFn K (.ref f)=ac
  kp:W.keepIn K (.ref f)=ac
section
variable{f:Str}{v:V}
def getmeth_ok{m:Str}{g:Ad}{Q:vL×Li vL->Sd->Prop}(I:Inv X pQ O H s)(e:H a=aa (.ins C dx fs))(c:Cls X.K C)(k:Meth X.K C m g)(l:fs.lookup m=ab)(h:Q (.ref g,[.ref a]) s):ay (az X.prog X.w) A (getMethod (.ref a) m pl) Q E s:=by
  obtain⟨mA,d,r,_,_,_⟩:=ins_get I.hok e;have b:mA m=ab:=RelO.none_of (by rw[<-l];exact r m)
  exact get_meth I.kIn d (c.get m) k.at_ k.fn b h
def Inv.made(I:Inv X pQ O H s):Inv X pQ O (upd (upd H s.heap.objs.size (.own (s.heap.objs.size+1))) (s.heap.objs.size+1) (.ins C s.heap.objs.size []))
    { s with heap:=(s.heap.push W.emptyDict).push (W.instObj C s.heap.objs.size) }:=by
  have d:(s.heap.push W.emptyDict).get? s.heap.objs.size=aa W.emptyDict:=aW s.heap rfl;have i:((s.heap.push W.emptyDict).push (W.instObj C s.heap.objs.size)).get? (s.heap.objs.size+1)=aa (W.instObj C s.heap.objs.size):=by
    have:=aW (s.heap.push W.emptyDict) (o:=W.instObj C s.heap.objs.size) rfl
    rwa [Heap.size_push]at this
  have h:(s.heap.push W.emptyDict).Ns s.heap.objs.size (λ_=>ab):=⟨W.emptyDict,#[],_,d,rfl,(λe g=>aq g (by simp)),λ_=>rfl⟩
  have j:=I.laid (a:=s.heap.objs.size) (o:=.own (s.heap.objs.size+1)) (h':=s.heap.push W.emptyDict) (t':=s.toks) (λb u q=>aL _ q) (aD _) ⟨_,d⟩
  refine j.laid (a:=s.heap.objs.size+1) (o:=.ins C s.heap.objs.size []) (t':=s.toks) (λb u q=>aL _ q) (cK (Heap.size_push _ _)) ?_
  have c:s.heap.objs.size≠s.heap.objs.size+1:=aY (dW _);refine⟨by rw[upd_ne c,upd_same],aO _,c,i,λ_=>ab,(Heap.Ns1.of_empty h).at λo q=>aL _ q,λ_=>True.intro,λy f=>aq rfl f⟩
end
variable{o:aw}
section
variable{value:aw}{f:Str}{pos' tpos:Pos}{tv:TE}
end
variable{Q:vL->Sd->Prop}
section
variable{c:vL}{b:Bool}
inductive TyOf(K:Fg)(H:Hp):V->Value->Prop where
  |non:TyOf K H .non (.type "NoneType")
  |bl (x:Bool):TyOf K H (.bl x) (.type "bool")
  |int (i:Int):TyOf K H (.int i) (.type "int")
  |str (x:Str):TyOf K H (.str x) (.type "str")
  |flt (x:UInt64):TyOf K H (.flt x) (.type "float")
  |lst {a:Addr}{xs:List V} (e:H a=aa (.lst xs)):TyOf K H (.ref a) (.type "list")
  |frz {a:Addr}{o:Obj}{xs:List V} (e:H a=aa (.frz o (.lst xs))):TyOf K H (.ref a) (.type "list")
  |tup {a:Addr}{xs:List V} (e:H a=aa (.tup xs)):TyOf K H (.ref a) (.type "tuple")
  |dK {a:Addr}{kvs:List (Key×V)} (e:H a=aa (.dK kvs)):TyOf K H (.ref a) (.type "dict")
  |dT {a:Addr}{kvs:List (List Key×V)} (e:H a=aa (.dT kvs)):TyOf K H (.ref a) (.type "dict")
  |ins {a C dx:Addr}{fs:List (Str×V)} (e:H a=aa (.ins C dx fs)) (cl:Cls K C) (ha:W.findIn K (.ref C) "__class__"=aa (aa (.builtin "object.__class__")))
      (hn:W.specialIn K (.builtin "object.__class__") "__get__"=aa (aa (.builtin "getset_descriptor.__get__"))) (htk:W.takesIn K (.builtin "object.__class__")=aa ac)
      (hm:W.mroIn K C (.type "object")=aa ac):TyOf K H (.ref a) (.ref C)
def isinst_ok{x:V}{u t:vL}(I:Inv X pQ O H s)(d:RelV x u)(ty:TyOf X.K H x t)(e:W.kitOne X.K t c=aa b)(h:∀ r,Q (.bool b) { s with toks:=r }) :
    ay (az X.prog X.w) A (call (.builtin "isinstance") [u,c]) Q E s:=by
  cases ty with
  |non=>cases (show u=bt from d);exact W.kia_one W.kitx_none I.kIn True.intro e (λz=>nomatch z) h
  |bl y=>cases (show u=Value.bool y from d);exact W.kia_one W.kitx_bool I.kIn True.intro e (λz=>nomatch z) h
  |int i=>obtain⟨t,q⟩:=(show ∃ t,u=Value.int i t from d);cases q;exact W.kia_one W.kitx_int I.kIn True.intro e (λz=>nomatch z) h
  |str y=>obtain⟨t,q⟩:=(show ∃ t,u=Value.str y t from d);cases q;exact W.kia_one W.kitx_str I.kIn True.intro e (λz=>nomatch z) h
  |flt y=>obtain⟨t,q⟩:=(show ∃ t,u=Value.float y t from d);cases q;exact W.kia_one W.kitx_float I.kIn True.intro e (λz=>nomatch z) h
  |@lst a xs f=>
    cases (show u=br a from d)
    obtain⟨_,_,n,_,g⟩:=(show ObjOk X.prog X.w H s.heap a (.lst xs) from I.hok a _ f);exact W.kia_one W.kitx_list I.kIn ⟨_,g,rfl⟩ e (λz=>nomatch z) h
  |@frz a v xs f=>
    cases (show u=br a from d)
    obtain⟨_,_,_,n,_,g⟩:=(show ObjOk X.prog X.w H s.heap a (.frz v (.lst xs)) from I.hok a _ f);exact W.kia_one W.kitx_list I.kIn ⟨_,g,rfl⟩ e (λz=>nomatch z) h
  |@tup a xs f=>
    cases (show u=br a from d)
    obtain⟨_,_,_,p⟩:=(show ObjOk X.prog X.w H s.heap a (.tup xs) from I.hok a _ f);obtain⟨o,g,k,_⟩:=p;exact W.kia_one W.kitx_tuple I.kIn ⟨o,g,k⟩ e (λz=>nomatch z) h
  |@dK a j f=>
    cases (show u=br a from d)
    obtain⟨_,_,M,_,p⟩:=(show ObjOk X.prog X.w H s.heap a (.dK j) from I.hok a _ f);obtain⟨o,es,G,g,k,_⟩:=p;exact W.kia_one W.kitx_dict I.kIn ⟨o,g,k.1⟩ e (λz=>nomatch z) h
  |@dT a j f=>
    cases (show u=br a from d)
    obtain⟨_,_,xs,_,o,es,G,g,k,_⟩:=(show ObjOk X.prog X.w H s.heap a (.dT j) from I.hok a _ f);exact W.kia_one W.kitx_dict I.kIn ⟨o,g,k.1⟩ e (λz=>nomatch z) h
  |@ins a C P fs f m F B l D=>
    cases (show u=br a from d)
    obtain⟨mA,L,_⟩:=ins_get I.hok f;obtain⟨N,J,_⟩:=L.look;exact W.kia_one (W.kitx_own (m.get _) m.hd F B l D) I.kIn J e (λz=>nomatch z) h
end
structure Room(k:Nat)(A:bo):Prop where
  hd:A.handled=ab
  dp:A.depth+3 * k+5 < recursionLimit
  un:A.units+16 * k+200 < cLine
variable{k:Nat}
def Room.deeper(r:Room (k+1) A)(env:Env):Room k (A.deeper env):=
  ⟨r.hd,by have:=r.dp;show A.depth+1+3 * k+5 < _;omega,by have:=r.un;show A.units+3+16 * k+200 < _;omega⟩
def Room.depth(r:Room k A):A.depth < recursionLimit:=by have:=r.dp;omega
def Room.units(r:Room k A):A.units+64 < cLine:=by have:=r.un;omega
def tNil:TA:=λ_ H Q=>Q [] H
def tCons(b:TE)(a:TA):TA:=λO H Q=>b O H λx d=>a O d λxs c=>Q (x :: xs) c
variable{es:Li aw}{t:TA}
def pa_nil:PA X [] tNil:=λ_ _ _ _ H Q I h=>Calls.spliced_nil ⟨[],H,I,.nil,h⟩
def pa_cons(i:PE X e te)(g:PA X es t)(f:a6 (e :: es) X.env=(ae,eval e X.env) :: a6 es X.env:=by rfl):PA X (e :: es) (tCons te t):=by
  intro pos pQ s O H Q I h;rw[f];show ay _ _ (spliced ((ae,eval e X.env) :: backTo pos (a6 es X.env))) _ _ s;refine Calls.spliced_cons (thn (i pQ s O H _ I h) λu s1 ⟨x,m,k,b,d⟩=>?_)
  exact thn (g pos pQ s1 O m _ k d) λus n ⟨xs,l,j,a,c⟩=>⟨x :: xs,l,j,.cons b a,c⟩
def tTup(t:TA):TE:=λO H Q=>t O H λxs a=>xs.length<=av/\∀ p,a p=ab->Q (.ref p) (upd a p (.tup xs))
def tLst(t:TA):TE:=λO H Q=>t O H λxs a=>xs.length<=av/\∀ p,a p=ab->Q (.ref p) (upd a p (.lst xs))
def pe_tup{x1}(h:PA X es t):PE X (.Tuple es x1 pos) (tTup t):=by
  intro pQ s O H Q I d;refine wpAny_Tuple_spliced (thn (h pos pQ s O H _ I d) λus s1 ⟨xs,c,a,r,z,q⟩=>⟨by rw[<-r.length];exact z,?_⟩)
  have f:c s1.heap.objs.size=ab:=a.hok.fresh (aD _);refine⟨.ref s1.heap.objs.size,upd c s1.heap.objs.size (.tup xs),a.laid (t':=s1.toks) (λb u e=>aL _ e) (aD _) ?_,rfl,q _ f⟩
  exact⟨z,us,r,⟨_,aW _ rfl,rfl,_,rfl⟩⟩
def pe_lst(h:PA X es t):PE X (.List es pos) (tLst t):=by
  intro pQ s O H Q I d;refine wpAny_List_spliced (thn (h pos pQ s O H _ I d) λus s1 ⟨xs,c,a,r,z,q⟩=>⟨by rw[<-r.length];exact z,?_⟩)
  have f:c s1.heap.objs.size=ab:=a.hok.fresh (aD _);refine⟨.ref s1.heap.objs.size,upd c s1.heap.objs.size (.lst xs),a.laid (t':=s1.toks) (λb u e=>aL _ e) (aD _) ?_,rfl,q _ f⟩
  exact⟨z,us,0,r,aW _ rfl⟩
abbrev Sp:=Li V->Hp->VK->XK->Prop
abbrev CXT:=Li Env->Hp->Sd->XK->vL->Sd->Prop
structure Env0(P:a0)(w:bh)(K:Fg)(mg:Str->Option Value)(base:bg)(A:bo)(outer:List Env)(s:Shared)(H:Hp):Prop where
  frames:A.frames=aa outer
  mod:Mod K mg base
  bs:∀ b o,base.get? b=aa o->s.heap.get? b=aa o/\H b=ab
  bsz:base.objs.size<=s.heap.objs.size
  funs:s.heap.FunFrames base outer
  frf:∀ b∈frs outer,H b=ab
  hok:HOk P w H s.heap
  bare:AllBare s.gens
def CE(outer:Li Env)(P:a0)(w:bh)(H:Hp)(s:Sd)(Q:VK)(u:vL)(a:Sd):Prop:=
  ∃ v b,a.os=s.os/\AllBare a.gens/\Un (frs outer) [] H b s.heap a.heap/\HOk P w b a.heap/\RelV v u/\Q v b
def CR(CX:CXT)(outer:Li Env)(P:a0)(w:bh)(H:Hp)(s:Sd)(Q:VK)(E:XK)(r:Result)(a:Sd):Prop:=
  match r with
  |.ok (.ret u)=>CE outer P w H s Q u a
  |.ok _=>False
  |.error e=>CX outer H s E e a
structure FnOk(P:a0)(w:bh)(K:Fg)(mg:Str->Option Value)(base:bg)(CX:CXT)(k:Nat)(f:Addr)(fd:bf)(ps:List Str)(sp:Sp):Prop where
  len:∀ vs H Q E,sp vs H Q E->vs.length=ps.length
  run:∀ (A:bo) (outer:List Env) (s:Shared) (H:Hp) (args:Args) (us:List Value) (vs:List V) (Q:VK) (E:XK),Room k A->Env0 P w K mg base A outer s H->BindsTo s fd args (ps.zip us)->Vals vs us->sp vs H Q E->
    codeAny (az P w) A (.call (.ref f) args) (CR CX outer P w H s Q E) s
section
variable{s':Sd}
def Inv.env0(I:Inv X pQ O H s):Env0 X.prog X.w X.K X.mg X.base X.A X.stack s H:=
  ⟨I.ok.frames,I.ok.mod,I.bs,aM I.ok.bsz I.sz,I.stack,I.stkFree,I.hok,I.bare⟩
def Inv.after{Q:VK}{u:vL}(I:Inv X pQ O H s)(h:CE X.stack X.prog X.w H s Q u s'):EP X pQ O Q u s':=by
  obtain⟨v,j,f,a,un,e,r,q⟩:=h;obtain⟨i,g,d,t,c⟩:=s';obtain rfl:c=s.os:=f;exact⟨v,j,I.call (h':=i) (g':=g) (d':=d) (t':=t) (ch:=[]) un e a (λb z=>aq z (by simp)),r,q⟩
end
def tCall(c:Sp)(a:Li V)(E:XK)(t:TA):TE:=λO H Q=>t O H λb d=>c (b++a) d Q E
def Binds(K:Fg)(fd:bf)(a:Li Str)(b:Li vL):Prop:=
  ∀ (s:Sd) (us:Li vL),K.In s.heap->(us++b).length=a.length->BindsTo s fd ⟨us,[]⟩ (a.zip (us++b))
variable{ps:Li Str}
def Binds.all{fd:bf}(h:∀ us:Li vL,us.length=ps.length->bindArgs fd ⟨us,[]⟩=pure (ps.zip us)):Binds K fd ps []:=λs us _ a=>by
  rw[bD]at a ⊢;exact .of_eq (h us a)
def Passes(CX:CXT)(X:Cx)(E:XK):Prop:=∀ (pQ:Li (Ad×Obj)) (O:St) (H:Hp) (s:Sd) (e:vL) (s':Sd),Inv X pQ O H s->CX X.stack H s E e s'->X.xe e s'
variable{vs:Li V}
variable{CX:CXT}{k:Nat}{fd:bf}{ps:Li Str}{sp:Sp}{m:Str}{p apos:Pos}
section
variable{dvs:Li V}{ds:Li vL}{E:XK}{x:Str}
def run_fn{O:St}{Q:VK}(F:FnOk X.prog X.w X.K X.mg X.base CX k f fd ps sp)(g:Room k X.A)(j:Binds X.K fd ps ds)(hd:Vals dvs ds)(d:Passes CX X E)(I:Inv X pQ O H s)(r:Vals vs us)(h:sp (vs++dvs) H Q E):ay (az X.prog X.w) X.A (call (.ref f) us) (EP X pQ O Q) X.xe s:=by
  have b:Vals (vs++dvs) (us++ds):=r.append hd;have i:(us++ds).length=ps.length:=by rw[<-b.length];exact F.len _ _ _ _ h
  refine wpAny_call (codeAny_mono (F.run X.A X.stack s H ⟨us,[]⟩ (us++ds) (vs++dvs) Q E g I.env0 (j s us I.kIn i) b h) λr c a=>?_)
  cases r with
  |error e=>exact d pQ O H s e c I a
  |ok l=>
    cases l with
    |ret u=>exact I.after a
    |next=>exact False.elim a
    |brk=>exact False.elim a
    |cont=>exact False.elim a
def pe_call(F:FnOk X.prog X.w X.K X.mg X.base CX k f fd ps sp)(g:Room k X.A)(l:Gl X x)(i:X.mg x=aa (.ref f))(j:W.keepIn X.K (.ref f)=ac)(n:Binds X.K fd ps ds)(hd:Vals dvs ds)(d:Passes CX X E)(o:PA X (e :: es) t)(b:(x==("__debug__":Str))=ae:=by decide)(m:a6 (e :: es) X.env=(ae,eval e X.env) :: a6 es X.env:=by rfl)(a:(backTo pos (a6 es X.env)).any (·.1)=ae:=by rfl) :
    PE X (.Call (.Name x p) (e :: es) [] pos) (tCall sp dvs E t):=by
  intro pQ s O H Q I h;refine wpAny_Call_Name_kw (ld_glob I l i ?_ b);refine W.callWith_K (h₀:=X.base) I.ok.mod.kin j (thn (o pos pQ s O H _ I h) λus s1 ⟨vs,u,c,r,q⟩=>⟨c.kIn,?_⟩) m a
  exact run_fn F g n hd d c r q
def pe_call0(F:FnOk X.prog X.w X.K X.mg X.base CX k f fd ps sp)(c:Room k X.A)(g:Gl X x)(d:X.mg x=aa (.ref f))(e:W.keepIn X.K (.ref f)=ac)(i:Binds X.K fd ps ds)(hd:Vals dvs ds)(b:Passes CX X E)(a:(x==("__debug__":Str))=ae:=by decide):PE X (.Call (.Name x p) [] [] pos) (tCall sp dvs E tNil):=by
  intro pQ s O H Q I h;refine wpAny_Call_Name_kw (ld_glob I g d ?_ a);exact W.callWith_K0 I.kIn e (run_fn (us:=[]) F c i hd b I .nil h)
structure Mk(K:Fg)(C f:Addr):Prop where
  makes:W.makesIn K C=ac
  init:W.findIn K (.ref C) "__init__"=aa (aa (.ref f))
  fn:W.isFn K (.ref f)=ac
  kp:W.keepIn K (.ref C)=ac
end
section
variable{ks:Li Str}{E:XK}{x:Str}{kpos:Pos}{kws:Li Keyword}{tk:TA}{nm:Ot Str}
structure KBinds(K:Fg)(fd:bf)(ps ks:List Str)(g:List Value->List Value->List Value)(gV:List V->List V->List V):Prop where
  to:∀ (s:Shared) (us ws:List Value),K.In s.heap->(g us ws).length=ps.length->BindsTo s fd ⟨us,ks.zip ws⟩ (ps.zip (g us ws))
  rel:∀ {vs:List V}{us:List Value}{zs:List V}{ws:List Value},Vals vs us->Vals zs ws->Vals (gV vs zs) (g us ws)
variable{g:Li vL->Li vL->Li vL}{gV:Li V->Li V->Li V}
end
structure FnScope(N P:List Str)(sc:bc):Prop where
  kind:sc.kind=.function
  co:sc.isCoroutine=ae
  gen:sc.isGenerator=ae
  nd:N.Nodup
  pre:N.take P.length=P
  par:∀ x∈P,sc.names.lookup x=aa .local\/sc.names.lookup x=aa .cell
  nofree:∀ y∈sc.names,y.2≠.free
theorem bindL_out{a:Str->Ot NameKind}{x:Str}:∀ {binds:Li (Str×vL)}{m:Str->Ot vL},(∀ v,(x,v)∉binds)->bindL a binds m x=m x
  |[],_,_=>rfl
  | (n,v) :: r,m,h=>by
    unfold bindL;rw[bindL_out λw b=>h w (Lm _ b)]
    split
    . have:x≠n:=by rintro rfl;exact h v Ls
      simp[this]
    . rfl
theorem bindC_out{a:Str->Ot NameKind}{x:Str}:∀ {binds:Li (Str×vL)}{m:Str->Ot vL},(∀ v,(x,v)∉binds)->bindC a binds m x=m x
  |[],_,_=>rfl
  | (n,v) :: r,m,h=>by
    unfold bindC;rw[bindC_out λw b=>h w (Lm _ b)]
    split
    . rfl
    . have:x≠n:=by rintro rfl;exact h v Ls
      simp[this]
theorem bindL_get{a:Str->Ot NameKind}{x:Str}{v:vL}:∀ {P:Li Str}{vs:Li vL}{i:Nat}{m:Str->Ot vL},P.Nodup->P[i]?=aa x->vs[i]?=aa v->a x=aa .local->
    bindL a (P.zip vs) m x=aa v
  |[],_,_,_,_,h,_,_=>by simp at h
  |_ :: _,[],_,_,_,_,h,_=>by simp at h
  |p :: P,w :: vs,0,m,d,c,b,e=>by
    simp at c b;subst c;subst b;show bindL a ((p,w) :: P.zip vs) m p=_;unfold bindL;rw[bindL_out λv f=>(bP.mp d).1 (dX f).1,am e]
    simp
  |p :: P,w :: vs,i+1,m,d,c,b,e=>by
    show bindL a ((p,w) :: P.zip vs) m x=_;unfold bindL;exact bindL_get (i:=i) (bP.mp d).2 (by simpa using c) (by simpa using b) e
theorem bindC_get{a:Str->Ot NameKind}{x:Str}{v:vL}:∀ {P:Li Str}{vs:Li vL}{i:Nat}{m:Str->Ot vL},P.Nodup->P[i]?=aa x->vs[i]?=aa v->a x≠aa .local->
    bindC a (P.zip vs) m x=aa v
  |[],_,_,_,_,h,_,_=>by simp at h
  |_ :: _,[],_,_,_,_,h,_=>by simp at h
  |p :: P,w :: vs,0,m,d,c,b,e=>by
    simp at c b;subst c;subst b;show bindC a ((p,w) :: P.zip vs) m p=_;unfold bindC;rw[bindC_out λv f=>(bP.mp d).1 (dX f).1,ao e]
    simp
  |p :: P,w :: vs,i+1,m,d,c,b,e=>by
    show bindC a ((p,w) :: P.zip vs) m x=_;unfold bindC;exact bindC_get (i:=i) (bP.mp d).2 (by simpa using c) (by simpa using b) e
noncomputable def start(N:Li Str)(vs:Li V):St:=vs.map aa++af (N.length - vs.length) ab
noncomputable def cxOf(CX:CXT)(P:a0)(w:bh)(K:Fg)(mg:Str->Ot vL)(base:bg)(N:Li Str)(a:Str)(scope:bc)(f:Ad)(c:vL)(A:bo)(outer:Li Env)(s:Sd)(H:Hp)(E:XK):Cx where
  prog:=P
  w:=w
  K:=K
  mg:=mg
  base:=base
  A:=A.deeper (envOfC a scope s.heap.objs.size f c)
  N:=N
  s₀:=s
  H₀:=H
  env:=envOfC a scope s.heap.objs.size f c
  outer:=outer
  stack:=envOfC a scope s.heap.objs.size f c :: outer
  ex:=[]
  calm:=ac
  fn:=λ_=>ac
  pn:=[]
  xe:=λe d=>ay (az P w) (A.deeper (envOfC a scope s.heap.objs.size f c)) (leaving (envOfC a scope s.heap.objs.size f c) e) (λ_ b=>CX outer H s E e b) (λg b=>CX outer H s E g b) d
def cell_has{sc:bc}{x:Str}(h:sc.names.lookup x=aa .cell):∃ c,(cellsFrom n sc.names []).lookup x=aa c:=by
  have q:=W.cellsFrom_some sc.names n [] (.inl h);exact Option.isSome_iff_exists.mp q
variable{mg:Str->Ot vL}{base:bg}
def inv_start{CX:CXT}{P:a0}{d:Str}{scope:bc}{f:Ad}{C:vL}{outer:Li Env}{s1:Sd}{E:XK}(S:FnScope N ps scope)(hd:A.handled=ab)(j:Env0 P w K mg base A outer s H)(L:vs.length=ps.length)(r:Vals vs us)(x:InCallC s s.heap.objs.size (bindL (envOfC d scope s.heap.objs.size f C).kindOf (ps.zip us) λ_=>ab) (cellsFrom (s.heap.objs.size+1) scope.names []) (bindC (envOfC d scope s.heap.objs.size f C).kindOf (ps.zip us) λ_=>ab) s1) :
    Inv (cxOf CX P w K mg base N d scope f C A outer s H E) [] (start N vs) H s1:=by
  have G:ps.length<=N.length:=by have:=ar List.length S.pre;rw[cF]at this;omega
  obtain⟨B,J,rfl,F⟩:=x.done;have l:∀ b:Ad,b∉(cxOf CX P w K mg base N d scope f C A outer s H E).ex:=λb z=>aq (show b∈([]:Li Ad) from z) (by simp)
  refine⟨⟨j.mod,S.kind,rfl,rfl,aD _,λy z c B g=>?_,λy hy=>?_,λy c _ h=>?_,λ_=>hd,Around.frames_deeper j.frames,.inr ⟨rfl,rfl⟩,λb z=>aq z (l b),j.bs,j.bsz,λb _ _=>l b,λb z=>aq z (l b),j.funs,j.frf⟩,
    rfl,j.bare,Un.kept F,⟨_,x.toInCall.ns,λi y v B g M=>?_⟩,λy c h=>⟨_,x.cell y c h⟩,j.hok.fresh (aD _),λy c h=>?_,λp o=>aq (show p∈([]:Li (Ad×Obj)) from o) (by simp),j.hok.kept F,?_⟩
  . exact name_of_addr x.apart (PySem.mem_of_lookup B) (PySem.mem_of_lookup g)
  . have hy:scope.names.lookup y=aa .cell\/scope.names.lookup y=aa .free:=hy
    rcases hy with hy|hy
    . exact cell_has hy
    . exact aq rfl (S.nofree _ (PySem.mem_of_lookup hy))
  . exact cV (x.above y c (PySem.mem_of_lookup h))
  . have t:i < vs.length:=by
      unfold start at g;by_cases t:i < vs.length
      . exact t
      . rw[cG (by simpa using t)]at g
        rw[eG]at g;split at g<;>cases g
    have I:vs[i]?=aa v:=by
      unfold start at g;rw[bZ (by simpa using t),aU]at g
      cases e:vs[i]? with
      |none=>rw[e]at g;cases g
      |some a=>rw[e]at g;cases g;rfl
    obtain⟨u,D,rv⟩:=r.get I;have o:ps[i]?=aa y:=by
      rw[<-S.pre,List.getElem?_take_of_lt (by omega)];exact B
    have m:ps.Nodup:=by rw[<-S.pre];exact S.nd.sublist (List.take_sublist _ _)
    refine⟨u,rv,?_⟩;rcases S.par y (aX o) with k|k
    . exact .inl ⟨k,bindL_get m o D k⟩
    . obtain⟨c,e⟩:=cell_has (n:=s.heap.objs.size+1) k
      refine .inr ⟨.inl k,c,e,?_⟩;have q:=x.cell y c e;rw[bindC_get m o D (by show scope.names.lookup y≠_;rw[k];decide)]at q
      exact q
  . exact j.hok.fresh (cV (x.above y c (PySem.mem_of_lookup h)))
  . unfold start
    show _=N.length;rw[aI,aB,bM];omega
def fn_of{CX:CXT}{P:a0}{f:Ad}{g a:Str}{d:Arguments}{body:Li Stmt}{scope:bc}{T kV B R c ct oc:vL}{X Z:Ot Ad}{G:Array (Ot vL)}{D:Sp}(lk:K.lookup f=aa ⟨oc,Z,.func (W.fnOf g a d body scope T kV B R X c ct),G⟩)(O:W.codeIn K c a=ac)(S:FnScope N ps scope)(len:∀ vs H Q E,D vs H Q E->vs.length=ps.length)(j:∀ (A:bo) (outer:Li Env) (s:Sd) (H:Hp) (vs:Li V) (Q:VK) (E:XK),Room k (A.deeper (envOfC a scope s.heap.objs.size f c))->D vs H Q E->
      ∃ t,PSs (cxOf CX P w K mg base N a scope f c A outer s H E) body t/\t { nx:=λ_ h=>Q .non h,rt:=Q } (start N vs) H) :
    FnOk P w K mg base CX (k+1) f (W.fnOf g a d body scope T kV B R X c ct) ps D:=by
  refine⟨len,λA outer s H U us vs Q E M z hb r m=>?_⟩
  have hl:=len _ _ _ _ m;have Y:K.In s.heap:=z.mod.kin.keeps λb o e=>(z.bs b o e).1
  have L:s.heap.NoLimit:=z.mod.nolimit.keeps λb o e=>(z.bs b o e).1
  have i:∀ y∈ps.zip us,scope.names.lookup y.1=aa .local\/(scope.names.lookup y.1=aa .cell/\((cellsFrom (s.heap.objs.size+1) scope.names []).lookup y.1).isSome=ac):=λ⟨n,v⟩ hy=>by
    rcases S.par n (dX hy).1 with q|q
    . exact .inl q
    . exact .inr ⟨q,W.cellsFrom_some _ _ _ (.inl q)⟩
  refine codeAny_call_function M.depth (Y _ _ lk) rfl S.co S.gen rfl (W.codeRec_of Y O) (hb _ _ _ _ ?_);refine wpAny_newFunctionEnv_cells S.kind i λenv he s1 x=>?_
  subst he;refine⟨L.keeps x.toInCall.keep,codeAny_func ?_⟩;obtain⟨t,ht,hq⟩:=j A outer s H vs Q E (M.deeper _) m;have I:Inv (cxOf CX P w K mg base N a scope f c A outer s H E) [] (start N vs) H s1:=inv_start S M.hd z hl r x;refine bG (ht [] s1 (start N vs) H _ I hq) (λfl F l=>?_) λe F l=>l
  have p:∀ {C:St}{h:Hp}{v:V}{u:vL},Inv (cxOf CX P w K mg base N a scope f c A outer s H E) [] C h F->RelV v u->Q v h->CE outer P w H s Q u F:=
    λ{C h v u} J rv q=>⟨v,h,J.os,J.bare,J.base,J.hok,rv,q⟩
  cases fl with
  |ret u=>
    obtain⟨v,C,h,J,rv,q⟩:=l;exact p J rv q
  |next=>
    obtain⟨C,h,J,q⟩:=l;exact p (v:=V.non) (u:=bt) J rfl q
  |brk=>
    obtain⟨_,_,_,q⟩:=l;exact False.elim q
  |cont=>
    obtain⟨_,_,_,q⟩:=l;exact False.elim q
section
variable{x:Str}{id T:String}{r:Li V->Hp->VK->Prop}
def tCB(r:Li V->Hp->VK->Prop)(t:TA):TE:=λO H Q=>t O H λvs a=>r vs a Q
def pe_callB(l:CallR X (.builtin id) r)(j:Gl X x)(i:X.mg x=ab)(f:a7 x=aa (.builtin id))(m:PA X (e :: es) t)(g:x ≠ "__name__":=by decide)(b:(x==("__debug__":Str))=ae:=by decide)(k:a6 (e :: es) X.env=(ae,eval e X.env) :: a6 es X.env:=by rfl)(a:(backTo pos (a6 es X.env)).any (·.1)=ae:=by rfl):PE X (.Call (.Name x p) (e :: es) [] pos) (tCB r t):=by
  intro pQ s O H Q I h;refine wpAny_Call_Name_kw (ld_blt I j i f ?_ g b);exact PyProof.Rows.callWith_builtin1 (thn (m pos pQ s O H _ I h) λus s1 ⟨vs,o,n,c,d⟩=>l pQ s1 O o vs us Q n c d) k a
def pe_callTy(l:CallR X (.type T) r)(j:Gl X x)(i:X.mg x=ab)(f:a7 x=aa (.type T))(m:PA X (e :: es) t)(g:x ≠ "__name__":=by decide)(b:(x==("__debug__":Str))=ae:=by decide)(k:a6 (e :: es) X.env=(ae,eval e X.env) :: a6 es X.env:=by rfl)(a:(backTo pos (a6 es X.env)).any (·.1)=ae:=by rfl):PE X (.Call (.Name x p) (e :: es) [] pos) (tCB r t):=by
  intro pQ s O H Q I h;refine wpAny_Call_Name_kw (ld_blt I j i f ?_ g b);exact PyProof.Rows.callWith_type1 (thn (m pos pQ s O H _ I h) λus s1 ⟨vs,o,n,c,d⟩=>l pQ s1 O o vs us Q n c d) k a
end
end L2
namespace HT
open PySem PyProof.Rows
section
open PySem.SeqAt
open PySem.AutoSeq1 (wpAny_loadPart')
open PySem.MeetsSeq PySem.MeetsSeq2 PySem.MeetsSeq3
end
variable{Q:vL->Sd->Prop}{lo hi:Ot Int}
section
variable{prog:a0}{w:bh}{A:bo}{E:vL->Sd->Prop}{s:Sd}
def cat_tup{t b:Ad}{d a:Li vL}(v:IsTup s.heap t d.toArray)(x:IsTup s.heap b a.toArray)(p:d≠[])(z:a=[]->Q (.ref t) s)(y:a≠[]->Q (.ref s.heap.objs.size) { s with heap:=s.heap.push { cls:=.type "tuple",data:=.seq (d++a).toArray } })(l:d.length+a.length<=av):ay (az prog w) A (bp .Add (.ref t) (.ref b)) Q E s:=by
  obtain⟨⟨cls,dd,data,sl⟩,k,r,n,q⟩:=id v;obtain⟨⟨u,i,m,f⟩,c,h,o,g⟩:=id x;simp only at r q h g;subst r q h g;have e:d.toArray++a.toArray=(d++a).toArray:=by simp
  by_cases j:a=[]
  . exact concat_meets ⟨_,k,rfl⟩ ⟨_,c,rfl⟩ noFill_tuple_add seq_tuple_add PySem.F.slot_tuple_add PySem.F.entry_tuple_add (PySem.F.args_tuple_add_2 _ _)
      (tuple_addW1 t b d.toArray a.toArray n o dd i sl f (by simpa using p) (by simp[j])) ⟨k,c,z j⟩
  . refine concat_meets ⟨_,k,rfl⟩ ⟨_,c,rfl⟩ noFill_tuple_add seq_tuple_add PySem.F.slot_tuple_add PySem.F.entry_tuple_add (PySem.F.args_tuple_add_2 _ _)
      (tuple_addW2 t b d.toArray a.toArray n o dd i sl f (by simpa using p) (by simpa using j) (by rw[aH,aH];exact l)) ⟨k,c,?_⟩
    rw[e];exact y j
noncomputable def sIx(n d:Nat):Ot Int->Nat
  |none=>d
  |some v=>if v < 0 then (v+(n:Int)).toNat else min v.toNat n
def sIx_le(n d:Nat)(hd:d<=n)(o:Ot Int):sIx n d o<=n:=by
  cases o with
  |none=>exact hd
  |some v=>
    show(if v < 0 then (v+(n:Int)).toNat else min v.toNat n)<=n
    by_cases a:v < 0
    . rw[am a];omega
    . rw[ao a];exact Nat.min_le_right _ _
def clip_eq(v:Int)(n d:Nat):(if v < 0 then max (v+(n:Int)) 0 else min v (n:Int))=((sIx n d (aa v):Nat):Int):=by
  show(if v < 0 then max (v+(n:Int)) 0 else min v (n:Int))=(((if v < 0 then (v+(n:Int)).toNat else min v.toNat n):Nat):Int)
  by_cases a:v < 0
  . simp only[am a];omega
  . simp only[ao a];omega
def adjust_gen(lo hi:Ot Int)(n:Nat):Builtin.Slice.sliceAdjust lo hi 1 (n:Int)=(((sIx n 0 lo:Nat):Int),((sIx n n hi:Nat):Int)):=by
  have a:¬((1:Int) < 0):=by omega
  unfold Builtin.Slice.sliceAdjust;simp only[a,if_false];refine Prod.ext ?_ ?_
  . cases lo with
    |none=>rfl
    |some v=>exact clip_eq v n 0
  . cases hi with
    |none=>rfl
    |some v=>exact clip_eq v n n
def places_gen(i j:Nat):Builtin.Slice.slicePlaces (i:Int) (j:Int) 1=j - i:=by
  unfold Builtin.Slice.slicePlaces;have a:(1:Int) > 0:=by omega
  simp only[a,if_true,Int.ediv_one];split<;>omega
def slicePart_{v:vL}{o:Ot Int}{Q:Ot Int->Sd->Prop}(p:IsPart v o)(h:Q o s):ay (az prog w) A (Builtin.Slice.slicePartIndex v) Q E s:=by
  cases p with
  |none=>exact slicePart_none h
  |int i t=>exact slicePart_int h
def sliceApplied_gen{sl:Ad}{d c:vL}{n:Nat}{Q:Int×Int×Nat->Sd->Prop}(g:s.heap.IsSliceOf sl d c .none)(f:IsPart d lo)(e:IsPart c hi)(h:Q (((sIx n 0 lo:Nat):Int),1,sIx n n hi - sIx n 0 lo) s):ay (az prog w) A (Builtin.Slice.sliceApplied (.ref sl) (pure (n:Int))) Q E s:=by
  obtain⟨j,a,i,b⟩:=id g;unfold Builtin.Slice.sliceApplied Builtin.Slice.sliceFields;refine aA (aA (wpAny_field a b (x:=d) rfl (aA (wpAny_field a b (x:=c) rfl (aA (wpAny_field a b (x:=.none) rfl (aE ?_)))))));refine aA (slicePart_none ?_);show ay _ _ (if ((1:Int)==0)=ac then _ else _) _ _ s
  rw[ao (by decide)]
  refine aA (slicePart_ f (aA (slicePart_ e (aA (aE ?_)))));show ay _ _ (match Builtin.Slice.sliceAdjust lo hi 1 (n:Int) with | (lo,hi)=>pure (lo,(1:Int),Builtin.Slice.slicePlaces lo hi 1)) _ _ s
  rw[adjust_gen lo hi n];show ay _ _ (pure (((sIx n 0 lo:Nat):Int),(1:Int),Builtin.Slice.slicePlaces ((sIx n 0 lo:Nat):Int) ((sIx n n hi:Nat):Int) 1)) _ _ s;rw[places_gen];exact aE h
def pick_gen(a:Array vL)(i k:Nat):((ag k).filterMap λ(m:Nat)=>a[((i:Int)+(m:Int) * 1).toNat]?).toArray=((a.toList.drop i).take k).toArray:=by
  have e:(λ(m:Nat)=>a[((i:Int)+(m:Int) * 1).toNat]?)=λm=>a[i+m]?:=by
    funext m
    have:((i:Int)+(m:Int) * 1).toNat=i+m:=by omega
    rw[this]
  rw[e];have:=pick_run a i k;rw[List.filterMap_map]at this;have b:((λx=>a[x]?) ∘ λx=>i+x)=λm=>a[i+m]?:=rfl
  rw[b]at this;rw[this]
def getItem_tuple_cut{t sl:Ad}{a:Array vL}{j i:vL}(c:IsTup s.heap t a)(k:s.heap.IsSliceOf sl j i .none)(n:IsPart j lo)(l:IsPart i hi)(p:¬(sIx a.size 0 lo=0/\sIx a.size a.size hi=a.size))(h:Q (.ref s.heap.objs.size) { s with heap:=s.heap.push { cls:=.type "tuple",data:=.seq ((a.toList.drop (sIx a.size 0 lo)).take (sIx a.size a.size hi - sIx a.size 0 lo)).toArray } })(r:a.size<=av):ay (az prog w) A (getItem (.ref t) (.ref sl)) Q E s:=by
  have b:sizeOk (.seq ((a.toList.drop (sIx a.size 0 lo)).take (sIx a.size a.size hi - sIx a.size 0 lo)).toArray):=by
    show((a.toList.drop (sIx a.size 0 lo)).take (sIx a.size a.size hi - sIx a.size 0 lo)).toArray.size<=av;rw[aH,cF,cA,cJ];omega
  have y:sIx a.size a.size hi<=a.size:=sIx_le _ _ (aD _) hi;obtain⟨o,d,f,u⟩:=id k;have g:s.TypeIs (.ref sl) "slice":=⟨o,d,f⟩;unfold getItem
  try with_reducible refine wpAny_holding ?_
  first|refine aA (aE ?_)|skip
  refine aA (wpAny_sequenceKey c.typeIs (by decide) ?_)
  refine aA (wpAny_callSpecial?_slot (name:=Str.ofString "__getitem__") c.typeIs PyProof.Rows.slot_tuple_getitem
    (wpAny_call_entry PyProof.Rows.slot_tuple_getitem c.typeIs entry_tuple_getitem ?_ (args_tuple_getitem _ _)))
  show ay _ _ (Builtin.Tuple.tupleItemsOf (.ref t) >>= _) _ _ s;refine aA (tupleItemsOf_ c ?_);refine aA (wpAny_typeOf g ?_);rw[am (by decide)]
  refine aA (sliceApplied_gen k n l ?_);have e:¬((((sIx a.size 0 lo:Nat):Int)==0&&(1:Int)==1&&(sIx a.size a.size hi - sIx a.size 0 lo)==a.size)=ac):=by
    intro q;rw[Ba,Ba]at q;have x:((sIx a.size 0 lo:Nat):Int)=0:=eq_of_beq q.1.1;have v:sIx a.size a.size hi - sIx a.size 0 lo=a.size:=eq_of_beq q.2;exact p ⟨by omega,by omega⟩
  show ay _ _ (if (((sIx a.size 0 lo:Nat):Int)==0&&(1:Int)==1&&(sIx a.size a.size hi - sIx a.size 0 lo)==a.size)=ac then _ else _) _ _ s
  rw[ao e,pick_gen]
  first
    |exact aA (m:=Builtin.Tuple.tupleExact _) (wpAny_newObj_type (aE ⟨_,rfl,aE h⟩) b)
    |exact aA (m:=Builtin.Tuple.tupleExact _) (wpAny_newObj_type (aA (aE (aE ⟨_,rfl,aE h⟩))) b)
    |exact aA (aA (m:=Builtin.Tuple.tupleExact _) (wpAny_newObj_type (aE (aE ⟨_,rfl,aE h⟩)) b))
    |exact aA (aA (m:=Builtin.Tuple.tupleExact _) (wpAny_newObj_type (aE ⟨_,rfl,aE h⟩) b))
end
end HT
namespace L2
open PySem PySem.Spec PyProof.Rows
abbrev TO:=St->Hp->(Ot Int->Hp->Prop)->Prop
def PO(X:Cx)(e:Ot aw)(t:TO):Prop:=
  ∀ (pQ:Li (Ad×Obj)) (s:Sd) (O:St) (H:Hp) (Q:Ot Int->Hp->Prop),Inv X pQ O H s->t O H Q->
    ay (az X.prog X.w) X.A (evalPart e X.env) (λu b=>∃ o a,Inv X pQ O a b/\IsPart u o/\Q o a) X.xe s
def tNoPart:TO:=λ_ H Q=>Q ab H
def tPart(t:TE):TO:=λO H Q=>t O H λx a=>∃ i,x=.int i/\Q (aa i) a
variable{xs:Li V}{us:Li vL}
variable{X:Cx}{e:aw}{pos:Pos}
section
variable{te:TE}{lo hi:Ot aw}{tl th:TO}{p2:Pos}
def po_none:PO X ab tNoPart:=by
  intro a s O H Q I h;rw[evalPart_none];exact aE ⟨ab,H,I,.none,h⟩
def po_some(h:PE X e te):PO X (aa e) (tPart te):=by
  intro c s O H Q I d;rw[evalPart_some];refine thn (h c s O H _ I d) λu s1 ⟨x,g,f,a,b⟩=>?_
  obtain⟨i,rfl,q⟩:=b;obtain⟨t,rfl⟩:=a;exact⟨aa i,g,f,.int i t,q⟩
def SlR(X:Cx)(r:V->Ot Int->Ot Int->Hp->VK->Prop):Prop:=
  ∀ (pQ:Li (Ad×Obj)) (s:Sd) (O:St) (H:Hp) (x:V) (v vl vu:vL) (lo hi:Ot Int) (sl:Ad) (Q:VK),Inv X pQ O H s->RelV x v->s.heap.IsSliceOf sl vl vu .none->IsPart vl lo->IsPart vu hi->r x lo hi H Q->
    ∃ T id,typeLookup (.type T) "__getitem__"=pure (aa (.builtin id))/\s.TypeIs v T/\ay (az X.prog X.w) X.A (getItem v (.ref sl)) (EP X pQ O Q) X.xe s
def tSl(r:V->Ot Int->Ot Int->Hp->VK->Prop)(te:TE)(tl th:TO):TE:=λO H Q=>te O H λx c=>tl O c λl b=>th O b λu a=>r x l u a Q
def pe_slice{r:V->Ot Int->Ot Int->Hp->VK->Prop}(y:SlR X r)(C:PE X e te)(z:PO X lo tl)(hu:PO X hi th):PE X (.Subscript e (.Slice lo hi ab p2) pos) (tSl r te tl th):=by
  intro c s O H Q I h;refine Subscript_ (thn (C c s O H _ I h) λv s1 ⟨x,L,J,j,n⟩=>?_)
  refine wpAny_Slice (thn (z c s1 O L _ J n) λf i ⟨l,K,G,p,m⟩=>thn (hu c i O K _ G m) λd a ⟨u,g,F,o,k⟩=>?_)
  rw[evalPart_none];refine aE ?_;have E:Inv X c O g { a with heap:=a.heap.push { cls:=.type "slice",data:=.fields #[f,d,.none] } }:=F.kept (t':=a.toks) λb M q=>aL _ q
  obtain⟨T,id,D,t,B⟩:=y c { a with heap:=a.heap.push { cls:=.type "slice",data:=.fields #[f,d,.none] } } O g x v f d l u a.heap.objs.size Q E j (Heap.IsSliceOf.new ..) p o k
  show ay (az X.prog X.w) X.A (subscriptTail e (.Slice lo hi ab p2) v (.ref a.heap.objs.size)) (EP X c O Q) X.xe { a with heap:=a.heap.push { cls:=.type "slice",data:=.fields #[f,d,.none] } }
  exact tail_any (ops:=[.ref a.heap.objs.size,v]) t D B (by with_unfolding_all rfl)
noncomputable def cutV(xs:Li V)(lo hi:Ot Int):Li V:=(xs.drop (HT.sIx xs.length 0 lo)).take (HT.sIx xs.length xs.length hi - HT.sIx xs.length 0 lo)
def cutV_length(xs:Li V)(lo hi:Ot Int):(cutV xs lo hi).length<=xs.length:=by
  unfold cutV;rw[cF,cA];omega
def rSlT(K:Fg):V->Ot Int->Ot Int->Hp->VK->Prop:=λx lo hi H Q=>∃ a xs,x=.ref a/\SqT K H a xs /\
  ¬(HT.sIx xs.length 0 lo=0/\HT.sIx xs.length xs.length hi=xs.length)/\∀ p,H p=ab->Q (.ref p) (upd H p (.tup (cutV xs lo hi)))
def sl_tup:SlR X (rSlT X.K):=by
  intro t s O H x v p n lo hi sl Q I g m j i h;obtain⟨a,xs,rfl,k,l,q⟩:=h;cases g;obtain⟨d,r,f,e⟩:=I.tuple k;have c:d.toArray.size=xs.length:=by rw[aH];exact r.length.symm
  refine⟨"tuple",_,PyProof.Rows.slot_tuple_getitem.lookup,f.typeIs,?_⟩;refine HT.getItem_tuple_cut f m j i (by rw[c];exact l) ?_ (by rw[c];exact e)
  rw[c];refine⟨.ref s.heap.objs.size,_,I.laid (t':=s.toks) (o:=.tup (cutV xs lo hi)) (λb u q=>aL _ q) (aD _) ?_,rfl,q _ (I.hok.fresh (aD _))⟩
  exact⟨aM (cutV_length xs lo hi) e,_,(r.drop (HT.sIx xs.length 0 lo)).take (HT.sIx xs.length xs.length hi - HT.sIx xs.length 0 lo),IsTup.new _ _⟩
def rCatT(K:Fg):R2:=λx y H Q=>∃ a b xs c,x=.ref a/\y=.ref b/\SqT K H a xs/\SqT K H b c/\xs≠[]/\xs.length+c.length<=av /\
  (c=[]->Q (.ref a) H)/\(c≠[]->∀ p,H p=ab->Q (.ref p) (upd H p (.tup (xs++c))))
def Vals.nil_iff(r:Vals xs us):us=[]↔xs=[]:=by
  cases r with
  |nil=>simp
  |cons _ _=>simp
def op_catT:OpR X (bp .Add) (rCatT X.K):=by
  intro A s O H x y v u Q I j i h;obtain⟨a,b,xs,g,rfl,rfl,t,r,p,f,l,k⟩:=h;cases j;cases i;obtain⟨n,d,m,_⟩:=I.tuple t;obtain⟨e,c,p2,_⟩:=I.tuple r;refine HT.cat_tup m p2 (λz=>p (d.nil_iff.mp z)) (λz=>⟨.ref a,H,I,rfl,l (c.nil_iff.mp z)⟩) (λz=>?_) (by rw[<-d.length,<-c.length];exact f)
  refine⟨.ref s.heap.objs.size,_,I.laid (t':=s.toks) (o:=.tup (xs++g)) (λb B q=>aL _ q) (aD _) ?_,rfl,k (λw=>z (c.nil_iff.mpr w)) _ (I.hok.fresh (aD _))⟩
  exact⟨by rw[aI];exact f,_,d.append c,IsTup.new _ _⟩
end
noncomputable def ixN(n:Nat)(i:Int):Ot Nat:=if 0<=i then (if i < n then aa i.toNat else ab) else if -(n:Int)<=i then aa (i+n).toNat else ab
def atI{a:Type}(xs:Li a)(i:Int):Ot a:=(ixN xs.length i).bind λj=>xs[j]?
variable{n:Nat}
def ixN_seq{i:Int}{j:Nat}(h:ixN n i=aa j):seqIndex? i n=aa j/\j < n/\-(n:Int)<=i/\i < n:=by
  unfold ixN at h;by_cases b:0<=i
  . rw[am b]at h
    by_cases a:i < n
    . rw[am a]at h
      have e:i.toNat=j:=au h;exact⟨by rw[seqIndex_of b a,e],by omega,by omega,a⟩
    . rw[ao a]at h;cases h
  . rw[ao b]at h
    by_cases a:-(n:Int)<=i
    . rw[am a]at h
      have e:(i+n).toNat=j:=au h;exact⟨by rw[seqIndex_neg (by omega) a,e],by omega,a,by omega⟩
    . rw[ao a]at h;cases h
variable{α:Type}
def atI_get{xs:Li α}{i:Int}{v:α}(h:atI xs i=aa v):∃ j,seqIndex? i xs.length=aa j/\xs[j]?=aa v/\j < xs.length/\-(xs.length:Int)<=i/\i < xs.length:=by
  unfold atI at h;cases e:ixN xs.length i with
  |none=>rw[e]at h;cases h
  |some j=>
    rw[e]at h;obtain⟨d,c,b,a⟩:=ixN_seq e;exact⟨j,d,h,c,b,a⟩
def PlainIx(b:aw):Prop:=∀ o i,subscripted b ae o i=operate [o,i] (getItem o i)
def IxR(X:Cx)(r:R2):Prop:=
  ∀ (value slice:aw) (pQ:Li (Ad×Obj)) (s:Sd) (O:St) (H:Hp) (x y:V) (v u:vL) (Q:VK),Inv X pQ O H s->RelV x v->RelV y u->r x y H Q->
    subscripted slice ae v u=operate [v,u] (getItem v u)->ay (az X.prog X.w) X.A (subscriptTail value slice v u) (EP X pQ O Q) X.xe s
def MtR(X:Cx)(id:String)(r:V->Li V->Hp->VK->Prop):Prop:=
  ∀ (pQ:Li (Ad×Obj)) (s:Sd) (O:St) (H:Hp) (x:V) (xs:Li V) (v:vL) (us:Li vL) (Q:VK),Inv X pQ O H s->RelV x v->Vals xs us->r x xs H Q->
    ay (az X.prog X.w) X.A (call (.builtin id) (v :: us)) (EP X pQ O Q) X.xe s
variable{pQ:Li (Ad×Obj)}{s:Sd}{its its':Li vL}{y x:V}
section
variable{a b:aw}{ta tb:TE}
def pe_ix{r:R2}(g:IxR X r)(j:PE X a ta)(i:PE X b tb)(f:PlainIx b):PE X (.Subscript a b pos) (tOp r ta tb):=by
  intro pQ s O H Q I h;exact Subscript_ (binT j i I h λv u c x y l k e d q=>g a b pQ c O l x y v u Q k e d q (f _ _))
def rIxL(K:Fg):R2:=λx y H Q=>∃ p xs i v,x=.ref p/\y=.int i/\SqL K H p xs/\atI xs i=aa v/\Q v H
def rIxT(K:Fg):R2:=λx y H Q=>∃ p xs i v,x=.ref p/\y=.int i/\SqT K H p xs/\atI xs i=aa v/\Q v H
def rIxS:R2:=λx y H Q=>∃ z i c,x=.str z/\y=.int i/\z.length<=av/\atI z.cps.toList i=aa c/\Q (.str ⟨#[c]⟩) H
def ix_list:IxR X (rIxL X.K):=by
  intro c slice pQ s O H x y v u Q I o n h g;obtain⟨p,xs,i,z,rfl,rfl,A,C,q⟩:=h;cases o;obtain⟨t,rfl⟩:=n;obtain⟨its,r,e,G⟩:=I.list A;obtain⟨j,b,F,L,E,D⟩:=atI_get C;obtain⟨w,l,d⟩:=r.get F;have B:=r.length;have J:=line63;have a:EP X pQ O Q w s:=⟨z,H,I,d,q⟩;by_cases k:0<=i
  . have f:i.toNat=j:=by
      rw[seqIndex_of k D]at b;exact au b
    exact item_listR e.isList k (by omega) (by rw[f];simpa using l) a g
  . have f:(i+(its.toArray.size:Int)).toNat=j:=by
      rw[seqIndex_neg (by omega) E]at b
      rw[aH,<-B];exact au b
    exact subscriptTail_builtinR (x:=w) e.isList.typeIs slot_list_getitem.lookup
      (wpAny_getItem_list_neg (Q:=λr m=>r=w/\EP X pQ O Q r m) e.isList (by omega) (by rw[aH]<;>omega) (by omega) (by rw[f];simpa using l) ⟨rfl,a⟩) g
def ix_tup:IxR X (rIxT X.K):=by
  intro a slice pQ s O H x y v u Q I g f h k;obtain⟨p,xs,i,z,rfl,rfl,l,n,q⟩:=h;cases g;obtain⟨t,rfl⟩:=f;obtain⟨its,r,d,C⟩:=I.tuple l;obtain⟨j,A,o,G,F,E⟩:=atI_get n;obtain⟨w,B,b⟩:=r.get o;have m:=r.length;have D:=line63;have c:EP X pQ O Q w s:=⟨z,H,I,b,q⟩;exact subscriptTail_builtinR (x:=w) d.typeIs slot_tuple_getitem.lookup
    (getItem_tuple (j:=j) (Q:=λr e=>r=w/\EP X pQ O Q r e) d (by omega) (by omega) (by rw[aH,<-m];exact A) (by simpa using B) ⟨rfl,c⟩) k
def ix_str:IxR X rIxS:=by
  intro a slice pQ s O H x y v u Q I e d h f;obtain⟨z,i,c,rfl,rfl,w,k,q⟩:=h;obtain⟨t,rfl⟩:=e;obtain⟨r,rfl⟩:=d;obtain⟨j,b,n,B,m,l⟩:=atI_get k;have g:z.cps.toList.length=z.length:=by simp[Str.length]
  rw[g]at b m l;have A:=line63;exact tail_any (typeIs_str s z t) slot_str_getitem.lookup (getItem_str (c:=c) (by
    have p:aj (i < -(2 ^ 63:Int))=ae:=aG (by omega)
    have o:aj (i>=2 ^ 63)=ae:=aG (by omega)
    rw[p,o,Bool.or_false]) (by rw[b];simpa using n) ⟨.str ⟨#[c]⟩,H,I.tok _,⟨_,rfl⟩,q⟩) f
def mapSeq_set(its:Li vL)(n j:Nat)(u:vL):Obj.mapSeq (·.setIfInBounds j u) { cls:=.type "list",data:=.seq its.toArray n }={ cls:=.type "list",data:=.seq (its.set j u).toArray n }:=by
  simp[Obj.mapSeq]
def Inv.lst{pQ:Li (Ad×Obj)}{O:St}{H:Hp}{s:Sd}{p:Ad}{xs:Li V}(I:Inv X pQ O H s)(h:H p=aa (.lst xs)) :
    ∃ (its:Li vL) (n:Nat),Vals xs its/\s.heap.get? p=aa { cls:=.type "list",data:=.seq its.toArray n }/\xs.length<=av:=by
  obtain⟨z,its,n,r,e⟩:=I.hok p _ h;exact⟨its,n,r,e,z⟩
def Inv.lstUpd{O:St}{H:Hp}{p:Ad}{a:Li V}{c:Nat}{f:Obj->Obj}(I:Inv X pQ O H s)(h:H p=aa (.lst xs))(i:s.heap.get? p=aa { cls:=.type "list",data:=.seq its.toArray n })(d:f { cls:=.type "list",data:=.seq its.toArray n }={ cls:=.type "list",data:=.seq its'.toArray c })(r:Vals a its')(g:a.length<=av)(t:Nat) :
    Inv X pQ O (upd H p (.lst a)) { s with heap:=s.heap.update p f,toks:=t }:=by
  have e:(s.heap.update p f).get? p=aa { cls:=.type "list",data:=.seq its'.toArray c }:=by
    rw[Heap.get?_update_self f i (by rw[d]<;>rfl),d]
  refine I.write (x:=p) (e:=p) (by rw[h];trivial) (.inl rfl) (λb u j q=>(Heap.get?_update_other _ _ (Ne.symm j)).trans q) ⟨_,e⟩ ?_
  exact⟨g,its',c,r,e⟩
def rSetL:V->V->V->Hp->(Hp->Prop)->Prop:=λo i v H Q=>∃ p xs k j,o=.ref p/\i=.int k/\H p=aa (.lst xs)/\ixN xs.length k=aa j/\Q (upd H p (.lst (xs.set j v)))
def set_list:PSet X rSetL:=by
  intro pQ s O H o i v A B u Q I w x rv h;obtain⟨p,xs,k,j,rfl,rfl,e,z,q⟩:=h;cases w;obtain⟨t,rfl⟩:=x;obtain⟨its,n,r,b,y⟩:=I.lst e;obtain⟨a,D,g,f⟩:=ixN_seq z;have c:=r.length;have C:=line63;have m:Inv X pQ O (upd H p (.lst (xs.set j v))) { s with heap:=s.heap.update p (Obj.mapSeq (·.setIfInBounds j u)) }:=
    I.lstUpd e b (mapSeq_set its n j u) (r.set rv j) (by rw[bH];exact y) s.toks
  by_cases l:0<=k
  . have d:k.toNat=j:=by
      rw[seqIndex_of l f]at a;exact au a
    exact W.ki_setAt b l (by omega) (by rw[aH,<-c];exact f) (by rw[d];exact⟨_,m,q⟩)
  . have d:(k+(its.toArray.size:Int)).toNat=j:=by
      rw[seqIndex_neg (by omega) g]at a
      rw[aH,<-c];exact au a
    exact W.ki_setBack b (by omega) (by rw[aH,<-c];exact g) (by omega) (by rw[d];exact⟨_,m,q⟩)
def slice_bounds(a b:Ot Int)(n:Nat):(sliceBounds a b ab n).1=((HT.sIx n 0 a:Nat):Int)/\(sliceBounds a b ab n).2.1=((HT.sIx n n b:Nat):Int)/\(sliceBounds a b ab n).2.2=1:=by
  refine⟨?_,?_,rfl⟩
  . cases a with
    |none=>simp[sliceBounds,HT.sIx]
    |some i=>
      simp only[sliceBounds,HT.sIx,Option.getD_none,show(1:Int) > 0 by decide,if_true]
      by_cases h:i < 0
      . simp only[h,if_true]<;>omega
      . simp only[h,if_false]<;>omega
  . cases b with
    |none=>simp[sliceBounds,HT.sIx]
    |some i=>
      simp only[sliceBounds,HT.sIx,Option.getD_none,show(1:Int) > 0 by decide,if_true]
      by_cases h:i < 0
      . simp only[h,if_true]<;>omega
      . simp only[h,if_false]<;>omega
def slicePick_cut(its:Li vL)(a b:Ot Int):slicePick its.toArray a b ab=((its.drop (HT.sIx its.length 0 a)).take (HT.sIx its.length its.length b - HT.sIx its.length 0 a)).toArray:=by
  obtain⟨e,d,c⟩:=slice_bounds a b its.toArray.size;unfold slicePick;rw[e,d,c];simp only[sliceRange_one,pick_run,aH]<;>rfl
def rSlL(K:Fg):V->Ot Int->Ot Int->Hp->VK->Prop:=λx b c H Q=>∃ a xs,x=.ref a/\SqL K H a xs/\∀ p,H p=ab->Q (.ref p) (upd H p (.lst (cutV xs b c)))
def sl_list:SlR X (rSlL X.K):=by
  intro pQ s O H x v p n d e sl Q I g m j i h;obtain⟨a,xs,rfl,l,q⟩:=h;cases g;obtain⟨its,r,f,k⟩:=I.list l;have c:=r.length;refine⟨"list",_,slot_list_getitem.lookup,f.isList.typeIs,?_⟩;refine wpAny_getItem_list_slice f.isList m j i .none (by simp) ?_ (by rw[aH]<;>omega)
  rw[slicePick_cut,<-c];refine⟨.ref s.heap.objs.size,_,I.laid (t':=s.toks) (o:=.lst (cutV xs d e)) (λb t q=>aL _ q) (aD _) ?_,rfl,q _ (I.hok.fresh (aD _))⟩
  exact⟨aM (cutV_length xs d e) k,_,0,(r.drop (HT.sIx xs.length 0 d)).take (HT.sIx xs.length xs.length e - HT.sIx xs.length 0 d),aW _ rfl⟩
noncomputable def flatV:V->Bool
  |.non=>ac
  |.bl _=>ac
  |.int _=>ac
  |.str _=>ac
  |_=>ae
noncomputable def eqV:V->V->Bool
  |.non,.non=>ac
  |.bl a,.bl b=>a==b
  |.bl a,.int b=>(if a then 1 else 0)==b
  |.int a,.bl b=>a==(if b then 1 else 0)
  |.int a,.int b=>a==b
  |.str a,.str b=>a==b
  |_,_=>ae
def eqAt_V{A:bo}{u v:vL}(e:RelV y u)(c:RelV x v)(g:flatV y=ac)(f:flatV x=ac):SeqAt.EqAt A s u v (eqV y x):=by
  cases y with
  |non=>
    cases e;cases x with
    |non=>cases c;exact SeqAt.EqAt.same _
    |bl b=>cases c;exact SeqAt.EqAt.none_bool b
    |int b=>obtain⟨t,rfl⟩:=c;exact SeqAt.EqAt.none_int b t
    |str b=>obtain⟨t,rfl⟩:=c;exact SeqAt.EqAt.none_str b t
    |_=>exact aq (show ae=ac from f) Bf
  |bl a=>
    cases e;cases x with
    |non=>cases c;exact SeqAt.EqAt.bool_none a
    |bl b=>cases c;exact SeqAt.EqAt.bool_bool a b
    |int b=>obtain⟨t,rfl⟩:=c;exact SeqAt.EqAt.bool_int a b t
    |str b=>obtain⟨t,rfl⟩:=c;exact SeqAt.EqAt.bool_str a b t
    |_=>exact aq (show ae=ac from f) Bf
  |int a=>
    obtain⟨d,rfl⟩:=e;cases x with
    |non=>cases c;exact SeqAt.EqAt.int_none a d
    |bl b=>cases c;exact SeqAt.EqAt.int_bool a d b
    |int b=>obtain⟨t,rfl⟩:=c;exact SeqAt.EqAt.int_int a d b t
    |str b=>obtain⟨t,rfl⟩:=c;exact SeqAt.EqAt.int_str a d b t
    |_=>exact aq (show ae=ac from f) Bf
  |str a=>
    obtain⟨d,rfl⟩:=e;cases x with
    |non=>cases c;exact SeqAt.EqAt.str_none a d
    |bl b=>cases c;exact SeqAt.EqAt.str_bool a d b
    |int b=>obtain⟨t,rfl⟩:=c;exact SeqAt.EqAt.str_int a d b t
    |str b=>obtain⟨t,rfl⟩:=c;exact SeqAt.EqAt.str_str a d b t
    |_=>exact aq (show ae=ac from f) Bf
  |_=>exact aq (show ae=ac from g) Bf
def eqU(x:V)(u:vL):Bool:=match u with
  |.none=>eqV .non x
  |.bool b=>eqV (.bl b) x
  |.int i _=>eqV (.int i) x
  |.str z _=>eqV (.str z) x
  |_=>ae
def eqU_of{u:vL}(r:RelV y u)(f:flatV y=ac):eqU x u=eqV y x:=by
  cases y with
  |non=>cases r;rfl
  |bl b=>cases r;rfl
  |int i=>obtain⟨t,rfl⟩:=r;rfl
  |str z=>obtain⟨t,rfl⟩:=r;rfl
  |_=>exact aq (show ae=ac from f) Bf
theorem any_eqU{x:V}:∀ {xs:Li V}{us:Li vL},Vals xs us->xs.all flatV=ac->us.any (eqU x)=xs.any λy=>eqV y x
  |_,_,.nil,_=>rfl
  |y :: xs,u :: us,.cons r t,f=>by
    rw[bE,Ba]at f;rw[cN,cN,eqU_of r f.1,any_eqU t f.2]
theorem mem_eqAt{A:bo}{s:Sd}{x:V}{v:vL}(a:RelV x v)(b:flatV x=ac):∀ {xs:Li V}{us:Li vL},Vals xs us->xs.all flatV=ac->∀ u∈us,SeqAt.EqAt A s u v (eqU x u)
  |_,_,.nil,_=>λu hu=>by cases hu
  |y :: xs,u :: us,.cons r t,f=>λc hu=>by
    rw[bE,Ba]at f;rcases aF.mp hu with rfl|hu
    . rw[eqU_of r f.1];exact eqAt_V r a f.1 b
    . exact mem_eqAt a b t f.2 c hu
def inV(x:V)(xs:Li V):Bool:=xs.any λy=>eqV y x
def rIn(K:Fg)(neg:Bool):R2:=λx y H Q=>∃ p xs,y=.ref p/\(SqL K H p xs\/SqT K H p xs)/\flatV x=ac/\xs.all flatV=ac/\Q (.bl (if neg then !inV x xs else inV x xs)) H
def op_in_seq:OpR X (bj .In) (rIn X.K ae):=by
  intro pQ s O H x y v u Q I c e h;obtain⟨p,xs,rfl,hq,d,fs,q⟩:=h;cases e;rcases hq with hq|hq
  . obtain⟨its,r,a,f⟩:=I.list hq
    refine SeqAt.in_listAt (eqU x) a.isList (λw b=>mem_eqAt c d r fs w (by simpa using b)) ⟨.bl _,H,I,rfl,?_⟩
    rw[show its.toArray.any (eqU x)=its.any (eqU x) by simp,any_eqU r fs]
    exact q
  . obtain⟨its,r,a,f⟩:=I.tuple hq
    refine SeqAt.in_tupleAt (eqU x) a (λw b=>mem_eqAt c d r fs w (by simpa using b)) ⟨.bl _,H,I,rfl,?_⟩
    rw[show its.toArray.any (eqU x)=its.any (eqU x) by simp,any_eqU r fs]
    exact q
def op_notIn_seq:OpR X (bj .NotIn) (rIn X.K ac):=by
  intro pQ s O H x y v u Q I c e h;obtain⟨p,xs,rfl,hq,d,fs,q⟩:=h;cases e;rcases hq with hq|hq
  . obtain⟨its,r,a,f⟩:=I.list hq
    refine SeqAt.notIn_listAt (eqU x) a.isList (λw b=>mem_eqAt c d r fs w (by simpa using b)) ⟨.bl _,H,I,rfl,?_⟩
    rw[show its.toArray.any (eqU x)=its.any (eqU x) by simp,any_eqU r fs]
    exact q
  . obtain⟨its,r,a,f⟩:=I.tuple hq
    refine SeqAt.notIn_tupleAt (eqU x) a (λw b=>mem_eqAt c d r fs w (by simpa using b)) ⟨.bl _,H,I,rfl,?_⟩
    rw[show its.toArray.any (eqU x)=its.any (eqU x) by simp,any_eqU r fs]
    exact q
def op_notIn_str:OpR X (bj .NotIn) (λx y H Q=>∃ i j,x=.str i/\y=.str j/\Q (.bl (!(!(Builtin.Str.occurrences j i 0 j.length 1).isEmpty))) H):=by
  intro pQ s O H x y v u Q I b a h;obtain⟨i,j,rfl,rfl,q⟩:=h;obtain⟨t,rfl⟩:=b;obtain⟨c,rfl⟩:=a;exact notIn_str ⟨.bl _,H,I,rfl,q⟩
def call_len_seq:CallR X (.builtin "len") (λxs H Q=>∃ p b,xs=[.ref p]/\(SqL X.K H p b\/SqT X.K H p b)/\Q (.int b.length) H):=by
  intro pQ s O H xs us Q I r h;obtain⟨p,b,rfl,hq,q⟩:=h;obtain⟨u,rfl,e⟩:=vals1 r;cases e;have g:=line63;rcases hq with hq|hq
  . obtain⟨its,c,d,f⟩:=I.list hq
    have a:=c.length;exact Calls.call_len_list d.isList (by simp only[aH]<;>omega) ⟨.int b.length,H,I.tok _,⟨s.toks+1,by rw[aH,a]⟩,q⟩
  . obtain⟨its,c,d,f⟩:=I.tuple hq
    have a:=c.length;exact len_tuple d (by simp only[aH]<;>omega) ⟨.int b.length,H,I.tok _,⟨s.toks+1,by rw[aH,a]⟩,q⟩
def call_list_of:CallR X (.type "list") (λxs H Q=>∃ p c,xs=[.ref p]/\(SqL X.K H p c\/SqT X.K H p c)/\∀ l,H l=ab->Q (.ref l) (upd H l (.lst c))):=by
  intro pQ s O H xs us Q I r h;obtain⟨p,c,rfl,hq,q⟩:=h;obtain⟨u,rfl,z⟩:=vals1 r;cases z;have k:∀ (its:Li vL),Vals c its->c.length<=av->∀ (a:bg) (f:Nat),(∀ b y,s.heap.get? b=aa y->a.get? b=aa y)->
      a.get? s.heap.objs.size=aa { cls:=.type "list",dict:=ab,data:=.seq its.toArray f,slots:=#[] }->EP X pQ O Q (.ref s.heap.objs.size) { s with heap:=a }:=λits d i a f g e=>
    ⟨.ref s.heap.objs.size,_,I.laid (t':=s.toks) g (aD _) (show ObjOk X.prog X.w _ a _ (.lst c) from⟨i,its,f,d,e⟩),rfl,q _ (I.hok.fresh (aD _))⟩
  rcases hq with hq|hq
  . obtain⟨its,d,m,i⟩:=I.list hq
    have j:=d.length;obtain⟨o,t,x,n,v⟩:=m.isList;exact call_list_seq p (.inl rfl) t x v (λa f g e=>k its d i a f g e) (by simp only[aH]<;>omega)
  . obtain⟨its,d,m,i⟩:=I.tuple hq
    have j:=d.length;obtain⟨o,t,x,n,v⟩:=m;exact call_list_seq p (.inr rfl) t x v (λa f g e=>k its d i a f g e) (by simp only[aH]<;>omega)
def call_tuple_of:CallR X (.type "tuple") (λxs H Q=>∃ p a,xs=[.ref p]/\((SqL X.K H p a/\∀ l,H l=ab->Q (.ref l) (upd H l (.tup a)))\/(SqT X.K H p a/\Q (.ref p) H))):=by
  intro pQ s O H xs us Q I r h;obtain⟨p,a,rfl,h⟩:=h;obtain⟨u,rfl,m⟩:=vals1 r;cases m;rcases h with⟨g,q⟩|⟨g,q⟩
  . obtain⟨its,d,f,i⟩:=I.list g
    have j:=d.length;refine call_tuple_list f.isList (λc n=>?_) (by simp only[aH]<;>omega)
    have k:Inv X pQ O H { s with heap:=c }:=I.kept (t':=s.toks) n
    have t:Inv X pQ O (upd H c.objs.size (.tup a)) { s with heap:=c.push { cls:=.type "tuple",data:=.seq its.toArray } }:=
      k.laid (t':=s.toks) (λb o e=>aL _ e) (aD _) (show ObjOk X.prog X.w _ _ _ (.tup a) from⟨i,its,d,IsTup.new _ _⟩)
    exact⟨.ref c.objs.size,_,t,rfl,q _ (k.hok.fresh (aD _))⟩
  . obtain⟨its,d,f,i⟩:=I.tuple g
    exact call_tuple_same f ⟨.ref p,H,I,rfl,q⟩
def tyV(K:Fg)(T:String)(x:V)(H:Hp):Prop:=match x with
  |.str _=>T = "str"
  |.int _=>T = "int"
  |.ref p=>(T = "list"/\∃ xs,SqL K H p xs)\/(T = "tuple"/\∃ o,K.lookup p=aa o/\o.cls=.type "tuple"/\o.dict=ab) \/
      (T = "dict"/\((∃ a,H p=aa (.dK a))\/∃ a,H p=aa (.dT a)))\/(T = "set"/\∃ S n,H p=aa (.set S n))
  |_=>False
def tyV_is{O:St}{H:Hp}{T:String}{v:vL}(I:Inv X pQ O H s)(r:RelV x v)(ty:tyV X.K T x H) :
    s.TypeIs v T/\∀ a,v=.ref a->∃ j,s.heap.get? a=aa j/\j.dict=ab:=by
  cases x with
  |str z=>
    obtain⟨t,rfl⟩:=r;cases (show T = "str" from ty)
    exact⟨typeIs_str s z t,λ_ e=>nomatch e⟩
  |int i=>
    obtain⟨t,rfl⟩:=r;cases (show T = "int" from ty)
    exact⟨typeIs_int s i t,λ_ e=>nomatch e⟩
  |ref p=>
    cases r;rcases ty with⟨rfl,xs,k⟩|⟨rfl,o,b,l,f⟩|⟨rfl,b⟩|⟨rfl,S,n,b⟩
    . obtain⟨its,_,h,_⟩:=I.list k
      refine⟨h.isList.typeIs,λa e=>?_⟩
      cases e;obtain⟨o,n,e,c,f,_⟩:=h;exact⟨o,e,f⟩
    . refine⟨⟨o,I.kIn p o b,l⟩,λa e=>?_⟩
      cases e;exact⟨o,I.kIn _ o b,f⟩
    . have z:∃ o,s.heap.get? p=aa o/\o.ExactDict:=by
        rcases b with⟨d,b⟩|⟨d,b⟩
        . obtain⟨_,_,_,_,o,_,_,e,ex,_⟩:=I.hok p _ b
          exact⟨o,e,ex⟩
        . obtain⟨_,_,_,_,o,_,_,e,ex,_⟩:=I.hok p _ b
          exact⟨o,e,ex⟩
      obtain⟨o,e,ex⟩:=z;refine⟨⟨o,e,ex.1⟩,λa g=>?_⟩
      cases g;exact⟨o,e,ex.2.1⟩
    . obtain⟨o,_,_,_,e,ex,_⟩:=I.hok p _ b
      refine⟨⟨o,e,ex.1⟩,λa g=>?_⟩
      cases g;exact⟨o,e,ex.2.1⟩
  |_=>exact False.elim ty
def tBM0(K:Fg)(T:String)(r:V->Li V->Hp->VK->Prop)(b:TE):TE:=λO H Q=>b O H λx a=>tyV K T x a/\r x [] a Q
def tBM(K:Fg)(T:String)(r:V->Li V->Hp->VK->Prop)(b:TE)(t:TA):TE:=λO H Q=>b O H λx a=>tyV K T x a/\t O a λxs c=>r x xs c Q
variable{o:aw}{es:Li aw}{to:TE}{t:TA}{name:Str}{apos cpos:Pos}{T id:String}{r:V->Li V->Hp->VK->Prop}
def pe_bm0(g:PlainAttrs T)(slot:Slot T name id)(c:typeOf (.builtin id)=pure (.type "method_descriptor"))(j:MtR X id r)(i:PE X o to)(b:attributeBase o name X.env (eval o X.env)=eval o X.env:=by rfl)(a:(apos.endLine==cpos.line)=ac:=by rfl):PE X (.Call (.Attribute o name apos) [] [] cpos) (tBM0 X.K T r to):=by
  intro pQ s O H Q I h;refine wpAny_Call_method0_late b a (thn (i pQ s O H _ I h) λv s1 ⟨x,m,e,d,ty,f⟩=>?_)
  obtain⟨l,k⟩:=tyV_is e d ty;exact⟨T,id,g,slot,c,l,k,Calls.callWith_builtin rfl (PySem.evalArgs_none (j pQ s1 O m x [] v [] Q e d .nil f))⟩
def pe_bm(q:PlainAttrs T)(slot:Slot T name id)(f:typeOf (.builtin id)=pure (.type "method_descriptor"))(y:MtR X id r)(w:PE X o to)(z:PA X (e :: es) t)(c:attributeBase o name X.env (eval o X.env)=eval o X.env:=by rfl)(d:((backTo cpos (a6 (e :: es) X.env)).all (λx=>!x.1)&&(backToKw cpos (keywordEach [] X.env)).all (λx=>x.1.isSome)
     &&aj ((e :: es).length+([]:Li Keyword).length+(if ([]:Li Keyword).isEmpty then 0 else 1) < 30))=ac:=by rfl)(b:(apos.endLine==cpos.line)=ac:=by rfl)(u:a6 (e :: es) X.env=(ae,eval e X.env) :: a6 es X.env:=by rfl)(a:(backTo cpos (a6 es X.env)).any (·.1)=ae:=by rfl) :
    PE X (.Call (.Attribute o name apos) (e :: es) [] cpos) (tBM X.K T r to t):=by
  intro pQ s O H Q I h;refine wpAny_Call_method_late c d b rfl (thn (w pQ s O H _ I h) λv s1 ⟨x,E,j,g,ty,p⟩=>?_)
  obtain⟨B,A⟩:=tyV_is j g ty;refine⟨T,id,q,slot,f,B,A,?_⟩;have i:=z cpos pQ s1 O E _ j p;rw[u]at i ⊢;refine Calls.callWith_builtin (by show(ae||(backTo cpos (a6 es X.env)).any (·.1))=ae;rw[a]<;>rfl) (Calls.evalArgs_plain ?_)
  exact thn i λus l ⟨k,D,C,m,n⟩=>y pQ l O D x k v us Q C g m n
end
def MtM(X:Cx)(id:String)(r:V->Li V->Hp->VK->Prop):Prop:=
  ∀ (pQ:Li (Ad×Obj)) (s:Sd) (O:St) (H:Hp) (x:V) (xs:Li V) (v:vL) (us:Li vL) (Q:VK),Inv X pQ O H s->RelV x v->Vals xs us->r x xs H Q->
    ay (az X.prog X.w) X.A (call (.builtin id) (v :: us)) (EP X pQ O Q) X.xe s
def Vals.one(h:Vals [x] us):∃ u,us=[u]/\RelV x u:=by
  cases h with
  |cons r h=>cases h;exact⟨_,rfl,r⟩
def Vals.two(h:Vals [x,y] us):∃ u v,us=[u,v]/\RelV x u/\RelV y v:=by
  cases h with
  |cons r h=>cases h with
    |cons q h=>cases h;exact⟨_,_,rfl,r,q⟩
def Vals.zero:∀ {us:Li vL},Vals [] us->us=[]
  |_,.nil=>rfl
def Vals.dropLast(h:Vals xs us):Vals xs.dropLast us.dropLast:=by
  induction h with
  |nil=>exact .nil
  |cons r t a=>
    cases t with
    |nil=>exact .nil
    |cons q b=>exact .cons r a
theorem Vals.rep(h:Vals xs us):∀ k:Nat,Vals (af k xs).flatten (af k us).flatten
  |0=>.nil
  |k+1=>by
    rw[cH,cH,cX,cX];exact Vals.append h (Vals.rep h k)
def erase_last(l:Li α):l.eraseIdx (l.length - 1)=l.dropLast:=by
  induction l with
  |nil=>rfl
  |cons a r c=>
    cases r with
    |nil=>rfl
    |cons b r=>
      have e:(a :: b :: r).length - 1=((b :: r).length - 1)+1:=by
        have f:(a :: b :: r).length=r.length+2:=rfl;have d:(b :: r).length=r.length+1:=rfl;omega
      rw[e,List.eraseIdx_cons_succ,c]
      all_goals rfl
theorem foldl_rep(its:Li vL):∀ (k:Nat) (a:Li vL),
    List.foldl (λc b=>c++b) a.toArray (af k its.toArray)=(a++(af k its).flatten).toArray
  |0,a=>by simp
  |k+1,a=>by
    have e:a.toArray++its.toArray=(a++its).toArray:=by simp
    have d:(a++its)++(af k its).flatten=a++(af (k+1) its).flatten:=by
      rw[cH,cX,bB]
    rw[<-d,<-foldl_rep its k (a++its),<-e,cH,List.foldl_cons]
variable{pQ:Li (Ad×Obj)}{s:Sd}{xs:Li V}
section
variable{O:St}{H:Hp}{l b:Ad}{ys zs:Li V}
def Inv.lset{f:Array vL->Array vL}{a:Nat}(I:Inv X pQ O H s)(i:H l=aa (.lst xs))(e:s.heap.get? l=aa { cls:=.type "list",data:=.seq its.toArray n })(g:f its.toArray=its'.toArray)(c:Vals ys its')(b:ys.length<=av) :
    Inv X pQ O (upd H l (.lst ys)) { s with heap:=s.heap.update l (Obj.mapSeq f),toks:=a }:=by
  have q:=PySem.IsL.update e f;rw[g]at q;refine I.write (x:=l) (e:=l) (by rw[i];exact trivial) (.inl rfl) (λj u h d=>(Heap.get?_update_other s.heap (Obj.mapSeq f) (Ne.symm h)).trans d) ⟨_,q⟩ ?_
  exact⟨b,its',_,c,q⟩
def Inv.lnew{t':Nat}(I:Inv X pQ O H s)(b:Vals ys its)(a:ys.length<=av) :
    Inv X pQ O (upd H s.heap.objs.size (.lst ys)) { s with heap:=s.heap.push { cls:=.type "list",data:=.seq its.toArray },toks:=t' }:=
  I.laid (λ_ _ q=>aL _ q) (aD _) ⟨a,its,0,b,aW _ rfl⟩
def Inv.fresh(I:Inv X pQ O H s):H s.heap.objs.size=ab:=I.hok.fresh (aD _)
def Inv.lstM(I:Inv X pQ O H s)(a:H l=aa (.lst xs)):xs.length<=av/\∃ (its:Li vL) (n:Nat),Vals xs its/\xs.length=its.length/\s.heap.get? l=aa { cls:=.type "list",data:=.seq its.toArray n }:=by
  obtain⟨z,its,n,r,e⟩:=I.hok l _ a;exact⟨z,its,n,r,r.length,e⟩
def notLongL(h:n<=av):Builtin.List.listTooLong n=ae:=by
  unfold Builtin.List.listTooLong;exact aG (by omega)
end
def rAppend:V->Li V->Hp->VK->Prop:=λx a H Q=>∃ l xs y,x=.ref l/\a=[y]/\H l=aa (.lst xs)/\xs.length < av/\Q .non (upd H l (.lst (xs++[y])))
theorem mt_append:MtM X "list.append" rAppend:=by
  intro pQ s O H x d v us Q I b rv h;obtain⟨l,xs,y,rfl,rfl,a,f,q⟩:=h;cases b;obtain⟨u,rfl,c⟩:=rv.one;obtain⟨z,its,n,r,g,e⟩:=I.lstM a;refine call_meets F.slot_list_append ⟨_,e,rfl⟩ F.entry_list_append (F.args_list_append_2 _ _) (PySem.list_append l its.toArray n u (by rw[aH];omega)) ⟨e,?_⟩
  refine⟨.non,_,I.lset (its':=its++[u]) a e (by simp) (r.append (.cons c .nil)) ?_,rfl,q⟩
  rw[aI,eH];omega
def rExtend:V->Li V->Hp->VK->Prop:=λx c H Q=>∃ l b xs a,x=.ref l/\c=[.ref b]/\H l=aa (.lst xs)/\H b=aa (.lst a)/\xs.length+a.length<=av/\Q .non (upd H l (.lst (xs++a)))
theorem mt_extend:MtM X "list.extend" rExtend:=by
  intro pQ s O H x y v us Q I g rv h;obtain⟨l,b,xs,t,rfl,rfl,f,o,A,q⟩:=h;cases g;obtain⟨u,rfl,i⟩:=rv.one;cases i;obtain⟨z,its,n,r,B,e⟩:=I.lstM f;obtain⟨w,a,k,j,m,p⟩:=I.lstM o;have d:its.toArray.size+a.toArray.size<=av:=by rw[aH,aH];omega
  have c:¬(!its.toArray.isEmpty&&Builtin.List.listTooLong (its.toArray.size+a.toArray.size))=ac:=by
    rw[notLongL d,Bool.and_false];exact Bf
  refine call_meets F.slot_list_extend ⟨_,e,rfl⟩ F.entry_list_extend (F.args_list_extend_2 _ _)
    (AutoSeq1.list_extend_list_list_0 l its.toArray n b a.toArray k c (by rw[aH];omega) (by omega)) ⟨e,p,?_⟩
  refine⟨.non,_,I.lset (its':=its++a) f e (by simp) (r.append j) ?_,rfl,q⟩
  rw[aI];omega
def rPop:V->Li V->Hp->VK->Prop:=λx a H Q=>∃ l xs y,x=.ref l/\a=[]/\H l=aa (.lst xs)/\xs[xs.length - 1]?=aa y/\Q y (upd H l (.lst xs.dropLast))
theorem mt_pop:MtM X "list.pop" rPop:=by
  intro pQ s O H x k v us Q I d rv h;obtain⟨l,xs,y,rfl,rfl,c,g,q⟩:=h;cases d;have b:=rv.zero;subst b;obtain⟨z,its,n,r,j,e⟩:=I.lstM c;obtain⟨u,i,f⟩:=r.get g;have a:its.toArray[its.toArray.size - 1]?=aa u:=by
    show its.toArray[its.length - 1]?=aa u;rw[<-eI,<-j];exact i
  refine call_meets F.slot_list_pop ⟨_,e,rfl⟩ F.entry_list_pop (F.args_list_pop_1 _) (MeetsSeq.list_pop_last l its.toArray n u a (by rw[aH];omega)) ⟨e,?_⟩
  refine⟨y,_,I.lset (its':=its.dropLast) c e ?_ r.dropLast ?_,f,q⟩
  . show its.toArray.eraseIdxIfInBounds (its.toArray.size - 1)=its.dropLast.toArray
    rw[aH,List.eraseIdxIfInBounds_toArray,erase_last]
  . rw[List.length_dropLast]
    omega
def rRep:R2:=λx y H Q=>∃ l k xs,x=.ref l/\y=.int k/\H l=aa (.lst xs)/\-(2 ^ 63)<=k/\k < 2 ^ 63/\xs.length * k.toNat<=av /\
  ∀ p,H p=ab->Q (.ref p) (upd H p (.lst (af k.toNat xs).flatten))
def len_rep(xs:Li α)(k:Nat):(af k xs).flatten.length=k * xs.length:=by
  induction k with
  |zero=>simp
  |succ k a=>rw[cH,cX,aI,a,Nat.succ_mul,Nat.add_comm]
theorem op_rep:OpR X (bp .Mult) rRep:=by
  intro pQ s O H x y v u Q I A w h;obtain⟨l,k,xs,rfl,rfl,C,E,D,o,q⟩:=h;cases A;obtain⟨t,rfl⟩:=w;obtain⟨z,its,n,r,B,e⟩:=I.lstM C;have d:its.toArray.size * k.toNat<=av:=by rw[aH,<-B];exact o
  have g:¬its.toArray.size * k.toNat > (2 ^ 63 - 1) / 8:=by
    have:(av:Nat)<=(2 ^ 63 - 1) / 8:=by decide
    omega
  have f:¬(!Builtin.List.listFitsIndex k)=ac:=by
    rw[fitsIndex_both E D];exact Bf
  have b:¬Builtin.List.listTooLong (its.toArray.size * k.toNat)=ac:=by
    rw[notLongL d];exact Bf
  have c:List.foldl (λj i=>j++i) #[] (af (if its.toArray.isEmpty=ac then 0 else k.toNat) its.toArray)=(af k.toNat its).flatten.toArray:=by
    have G:∀ m:Nat,List.foldl (λj i=>j++i) #[] (af m its.toArray)=(af m its).flatten.toArray:=λm=>by
      have:=foldl_rep its m [];rw[cY]at this;exact this
    rw[G];cases its with
    |nil=>simp
    |cons a J=>rw[ao (by simp)]
  refine wpAny_binaryOp_repeat_ref (T := "list") (U := "int") (by decide) ⟨_,e,rfl⟩ (λp=>typeIs_int p k t) noFill_list_mul F.fills_int_mul F.slot_int_rmul repeat_list F.slot_int_index.lookup
    (call_meets F.slot_int_rmul (typeIs_int s k t) F.entry_int_rmul (F.args_int_rmul_2 _ _) (int___rmul___int_list k t l its.toArray n)
      ⟨e,rfl,⟨_,e,rfl⟩,call_meets F.slot_list_mul ⟨_,e,rfl⟩ F.entry_list_mul (F.args_list_mul_2 _ _) (AutoListH.list___mul___list_int_3 l its.toArray n k t f g b) ⟨e,?_⟩⟩)
  rw[c];exact⟨.ref _,_,I.lnew (t':=s.toks) (r.rep k.toNat) (by rw[len_rep,Nat.mul_comm];exact o),rfl,q _ I.fresh⟩
section
variable{prog:a0}{w:bh}{A:bo}{E:vL->Sd->Prop}
end
end L2
namespace Att
open PySem PySem.W PySem.Calls PyProof.Rows
variable{h:bg}
def ints_of_wellAll{P:Params}:∀ (c:Li Int) (d:Li vL),WellAll P h d (c.map WData.int)->IntsAre d c:=by
  intro c
  induction c with
  |nil=>
    intro d w;rw[dF]at w;cases w;exact .nil
  |cons n c e=>
    intro d w;rw[aQ]at w;cases w with
    |cons a b=>
      cases a;exact .cons _ _ (e _ b)
variable{l:OpenLaw}
def script_of{n:Nat}(w:l.most=aa n){P:Params}{args:Li WData}{c:Li vL}(e:l.row.toRowW.claim.pre args=ac)(k:WellAll P h c args) :
    ∃ a o b,c=[br a]/\args=[WData.list (b.map WData.int)]/\h.get? a=aa { cls:=.type "list",data:=.seq o.toArray }/\IntsAre o b/\b.length<=n:=by
  have m:WShape.hasAll [] args [.list .int]=ac:=(pre_splitW e).1;have p:l.pre.holds [] { args:=args }=ac:=(pre_splitW e).2;obtain⟨d,r,rfl,z,y⟩:=hasAllW_cons m;obtain rfl:=hasAllW_nil y;obtain⟨A,rfl,x⟩:=hasW_list z;obtain⟨b,rfl⟩:=items_int x;have f:b.length<=n:=by
    unfold OpenLaw.pre at p;have j:(WTm.not (.lt (.lit (.int (n:Int))) (.len (.arg 0)))).holds [] { args:=[.list (b.map .int)] }=ac:=by
      have j:=(holds_andW p).1;rw[w]at j;exact j
    have i:=condW_of j (w_not (w_lt w_lit (w_len_list (w_arg rfl))));rw[aB]at i;refine dY λq=>?_
    have u:(n:Int) < ((b.length:Nat):Int):=by omega
    first
      | (rw[aK u]at i;exact aq i (by decide))
      | (simp at i;omega)
  cases k with
  |cons t s=>
    cases s;cases t with
    |list v g=>exact⟨_,_,b,rfl,rfl,v,ints_of_wellAll b _ g,f⟩
def post_true(l:OpenLaw)(args:Li WData):l.row.toRowW.claim.post args (.bool ac) args=ac:=
  postW_of (r:=l.row.toRowW) (X:=(ac==ac))
    (show WShape.has [] (.bool ac) .bool=ac by first|rfl|decide|simp[WShape.has,WShape.arms,WShape.armsAll])
    (show(WTm.eq .res (.lit (.bool ac))).value [] { args:=args,res:=aa (.bool ac),after:=args }=aa (.bool (ac==ac)) from w_eq_bool (w_res rfl) w_lit) rfl
def attach_call{n:Nat}{q:a0}{c:Li Str}{H:(Str->Ot vL)->bg->Prop}{F:bh->bg->Prop}{d:DefRec}(L:l.most=aa n)(z:d.params.defaults=[])(call:∀ (w:bh) (s₀ b:Sd) (mg v:Str->Ot vL) (m:Ad) (o:Obj) (u t g:vL) (a:Ad) (h:Li vL) (s:Li Int),
      Ground q c [] H w s₀ mg v b.heap->F w b.heap->
      b.heap.get? m=aa o->o.data=.func (docDef d.name d.params d.body d.scope u t g)->b.heap.CodeRec t d.name->mg d.name=aa (.ref m)->
      b.heap.get? a=aa { cls:=.type "list",data:=.seq h.toArray }->IntsAre h s->s.length<=n->b.gens=#[]->
      codeAny (az l.prog w) callerA (.call (.ref m) ⟨[.ref a],[]⟩) (λr p=>r=.ok (.ret (.bool ac))/\OldK b.heap p.heap/\p.os=b.os/\AllBare p.gens) b) :
    WalkO q c H F l.row.toRowW d [] (λf h=>PySem.call f h):=by
  intro w s₀ b mg v G Y m o u t g T kV K P A D y O E B U i C I x N;obtain rfl:T=.none:=Dflts.none D z;obtain rfl:kV=.none:=Dflts.noKw D;obtain⟨a,h,s,rfl,rfl,j,e,k⟩:=script_of L i x;refine enter_call (codeAny_mono (call w s₀ b mg v m o u t g a h s G Y K (fd_plain P) A y j e k O) λr p J=>?_)
  obtain⟨rfl,S,R,Q⟩:=J;exact⟨.inl ⟨.bool ac,.bool ac,[],rfl,λ_=>rfl,.bool ac,post_true l _,λ_=>⟨List.Pairwise.nil,λ_ M=>(nomatch M)⟩⟩,S,R,Q⟩
section
variable{prog:a0}{w:bh}{A:bo}{E:vL->Sd->Prop}{s:Sd}{K:Frag}
end
end Att
namespace L2
open PySem PySem.Spec PyProof.Rows
theorem vals_ints:∀ {vs:Li vL}{ns:Li Int},IntsAre vs ns->Vals (ns.map V.int) vs
  |_,_,.nil=>.nil
  |_,_,.cons n t h=>.cons ⟨t,rfl⟩ (vals_ints h)
def Only(H:Hp):Prop:=∀ b,H b=ab\/∃ o a,H b=aa (.frz o (.lst a))
variable{w:bh}
def law_call{P:a0}{K:Fg}{mg Q:Str->Ot vL}{CX:CXT}{k:Nat}{W a:Ad}{fd:bf}{x:Str}{Y:Sp}{c:Sd}{p:Li vL}{A:Li Int}(KX:K.In c.heap)(E:c.heap.Ns ax mg)(g:c.heap.Ns builtinsNs Q)(T:∀ x:Str,x ≠ "__name__"->Q x=a7 x)(G:c.heap.NoLimit)(hg:c.gens=#[])(N:c.heap.get? a=aa { cls:=.type "list",data:=.seq p.toArray })(hi:IntsAre p A)(Z:A.length<=av)(hr:Room k callerA)(F:∀ base:bg,K.In base->base.Ns ax mg->FnOk P w K mg base CX k W fd [x] Y)(t:∀ (s:Sd) (u:vL),BindsTo s fd ⟨[u],[]⟩ [(x,u)])(R:∀ H:Hp,Only H->SqL K H a (A.map V.int)->Y [.ref a] H (λv _=>v=.bl ac) λ_ _ _=>False)(U:∀ H e i,CX [] H c (λ_ _ _=>False) e i->False) :
    codeAny (az P w) callerA (.call (.ref W) ⟨[.ref a],[]⟩) (λr i=>r=.ok (.ret (.bool ac))/\OldK c.heap i.heap/\i.os=c.os/\AllBare i.gens) c:=by
  have rv:=vals_ints hi;have B:=hi.length
  -- from an abstract heap in which nothing but the script may be tracked
  have l:∀ H:Hp,Only H->SqL K H a (A.map V.int)->HOk P w H c.heap->(∀ b,H b≠ab->b=a)->(H a≠ab->K.lookup a=ab)->
      codeAny (az P w) callerA (.call (.ref W) ⟨[.ref a],[]⟩) (λr i=>r=.ok (.ret (.bool ac))/\OldK c.heap i.heap/\i.os=c.os/\AllBare i.gens) c:=by
    intro H hO hS D hA hK;have f:∀ {b:Ad}{o:Obj},c.heap.get? b=aa o->H b=ab->(hidT c.heap H).get? b=aa o:=λe n=>hidT_get e n
    have O:∀ {b:Ad}{o:Obj}{J:Array DictEntry}{L:Nat},c.heap.get? b=aa o->o.data=.dict J L->H b=ab:=λ{b o J L} e d=>by
      cases q:H b with
      |none=>rfl
      |some u=>
        have X:b=a:=hA b (by rw[q];simp)
        subst X;rw[N]at e;cases e
        have d':Data.seq p.toArray _=Data.dict J L:=d;cases d'
    have j:∀ {b:Ad}{m:Str->Ot vL},c.heap.Ns b m->(hidT c.heap H).Ns b m:=λ{b m} ⟨o,J,L,e,d,r⟩=>⟨o,J,L,f e (O e d),d,r⟩
    have I:K.In (hidT c.heap H):=λb o e=>f (KX b o e) (by
      cases q:H b with
      |none=>rfl
      |some u=>
        have X:b=a:=hA b (by rw[q];simp)
        subst X;rw[hK (by rw[q];simp)]at e;cases e)
    have hM:Mod K mg (hidT c.heap H):=⟨I,j E,⟨Q,j g,T⟩,let ⟨mc,h1,h2⟩:=G;⟨mc,j h1,h2⟩⟩
    have e0:Env0 P w K mg (hidT c.heap H) callerA [] c H:=⟨rfl,hM,λb o e=>of_hidT e,cK (hidT_size _ _),trivial,λb g=>aq (show b∈([]:Li Ad) from g) (by simp),D,.of_eq hg⟩
    refine codeAny_mono ((F _ I (j E)).run callerA [] c H ⟨[.ref a],[]⟩ [.ref a] [.ref a] _ _ hr e0 (t c (.ref a)) (.cons rfl .nil) (R H hO hS)) λr i h=>?_
    cases r with
    |error e=>exact(U H e i h).elim
    |ok fl=>
      cases fl with
      |next=>exact False.elim h
      |brk=>exact False.elim h
      |cont=>exact False.elim h
      |ret u=>
        obtain⟨v,H',os,M,un,C,r',q⟩:=h;have q':v=.bl ac:=q;subst q';obtain rfl:u=Value.bool ac:=r';refine⟨rfl,OldK.of_keep λb o e=>?_,os,M⟩
        cases q:H b with
        |none=>exact un.keep b o e q (by intro z;exact aq (show b∈([]:Li Ad) from z) (by simp)) (by simp)
        |some u=>
          rcases hO b with z|⟨ob,xs,z⟩
          . rw[q]at z;cases z
          . have z2:=un.frzs b ob _ z
            obtain⟨e1,_⟩:=D b _ z;obtain⟨e2,_⟩:=C b _ z2;rw[e]at e1;cases e1
            exact e2
  cases S:K.lookup a with
  |some o=>
    -- the script is one of the module's own objects
    have e:=KX a o S;rw[N]at e;cases e;refine l (λ_=>ab) (λ_=>.inl rfl) (.inr ⟨_,p.toArray,_,S,rfl,rfl,rfl,by rw[aH,B];exact Z,by simpa using rv⟩) (λb u z=>by have y:(ab:Ot HO)=aa u:=z;cases y) (λb z=>aq rfl z) λz=>aq rfl z
  |none=>
    refine l (λb=>if b=a then aa (.frz { cls:=.type "list",data:=.seq p.toArray } (.lst (A.map V.int))) else ab) (λb=>?_) (.inl (.inr ⟨{ cls:=.type "list",data:=.seq p.toArray },am rfl⟩)) (λb u z=>?_) (λb z=>?_) λ_=>S
    . by_cases g:b=a
      . exact .inr ⟨_,_,am g⟩
      . exact .inl (ao g)
    . by_cases g:b=a
      . have y:=(am g).symm.trans z
        cases y;subst g;exact⟨N,by rw[aB];exact Z,p,_,rv,N⟩
      . have y:=(ao g).symm.trans z
        cases y
    . by_cases g:b=a
      . exact g
      . exact aq (ao g) z
def walk_of{l:W.OpenLaw}{n k:Nat}{q:a0}{i:Li Str}{XP:(Str->Ot vL)->bg->Prop}{J:bh->bg->Prop}{d:DefRec}{K:Params->Fg}{CX:bh->CXT}{sp:bh->Sp}{x:Str}(N:l.most=aa n)(A:n<=av)(C:d.params.defaults=[])(M:Room k callerA)(R:∀ (w:bh) (h:bg),J w h->(K w.params).In h)(F:∀ (w:bh) (mg:Str->Ot vL) (t:Ad) (h:bg),(K w.params).In h->h.Ns ax mg->mg d.name=aa (.ref t)->
      ∃ fd:bf,(∀ (s:Sd) (u:vL),BindsTo s fd ⟨[u],[]⟩ [(x,u)]) /\
        ∀ base:bg,(K w.params).In base->base.Ns ax mg->FnOk l.prog w (K w.params) mg base (CX w) k t fd [x] (sp w))(z:∀ (w:bh) (H:Hp) (a:Ad) (r:Li Int),r.length<=n->Only H->SqL (K w.params) H a (r.map V.int)->sp w [.ref a] H (λv _=>v=.bl ac) λ_ _ _=>False)(D:∀ (w:bh) (H:Hp) (s:Sd) (e:vL) (y:Sd),CX w [] H s (λ_ _ _=>False) e y->False) :
    W.WalkO q i XP J l.row.toRowW d [] (λf E=>PySem.call f E):=by
  refine Att.attach_call N C λw I m mg mb t o pm cd Z a E r G Y ho hd P B p j c O=>?_
  have L:=R w _ Y;obtain⟨fd,Q,X⟩:=F w mg t _ L G.T.g B;exact law_call L G.T.g G.T.b G.T.builtins G.T.nolimit O p j (aM c A) M X Q (λH U S=>z w H a r c U S) λH e y=>D w H m e y
noncomputable def defArgs(s:Stmt):Arguments:=match s with
  |.FunctionDef _ a _ _ _ _ _ _ _ _=>a
  |_=>{ posonlyargs:=[],args:=[],vararg:=ab,kwonlyargs:=[],kw_defaults:=[],kwarg:=ab,defaults:=[] }
noncomputable def defBody(s:Stmt):Li Stmt:=match s with
  |.FunctionDef _ _ b _ _ _ _ _ _ _=>b
  |_=>[]
noncomputable def defScope(s:Stmt):bc:=match s with
  |.FunctionDef _ _ _ _ _ _ sc _ _ _=>sc
  |_=>{ kind:=.function,names:=[],isGenerator:=ae,isCoroutine:=ae }
noncomputable abbrev CX0:CXT:=λ_ _ _ _ _ _=>False
abbrev E0:XK:=λ_ _ _=>False
variable{X:Cx}
def pass0:Passes CX0 X E0:=λ_ _ _ _ _ _ _ h=>h.elim
structure Fun(K:Fg)(x qual:Str)(st:Stmt)(f:Addr)(fd:bf):Prop where
  ex:∃ (oc:Value) (od:Option Addr) (kV doc pm:Value) (an:Option Addr) (cdv ct:Value) (osl:Array (Option Value)),
    fd=W.fnOf x qual (defArgs st) (defBody st) (defScope st) .none kV doc pm an cdv ct/\K.lookup f=aa ⟨oc,od,.func fd,osl⟩/\W.codeIn K cdv qual=ac
  kp:W.keepIn K (.ref f)=ac
variable{P:a0}{w:bh}
section
variable{K:Fg}{mg:Str->Ot vL}{base:bg}
end
variable{X:Cx}
variable{y:V}{u:vL}
section
variable {κ:Type} [DecidableEq κ]
noncomputable def valV(a:Li (κ×V))(k:κ):Ot V:=(a.find? λb=>aj (b.1=k)).map (·.2)
noncomputable def putK(a:Li (κ×V))(k:κ)(v:V):Li (κ×V):=
 if (a.any λb=>aj (b.1=k))=ac then a.map (λb=>if b.1=k then (b.1,v) else b) else a++[(k,v)]
def valV_pos{p:κ×V}{r:Li (κ×V)}{k:κ}(e:p.1=k):valV (p :: r) k=aa p.2:=by simp[valV,cP,e]
def valV_neg{p:κ×V}{r:Li (κ×V)}{k:κ}(e:¬p.1=k):valV (p :: r) k=valV r k:=by simp[valV,cP,e]
def length_putK(a:Li (κ×V))(k:κ)(v:V):(putK a k v).length<=a.length+1:=by
 unfold putK;split
 .rw[aB];omega
 .rw[aI,aP,cQ];omega
def RelO.isSome_eq{o:Ot V}{u:Ot vL}(r:RelO o u):o.isSome=u.isSome:=by
 cases o with
 |none=>cases u with
  |none=>rfl
  |some _=>exact(show False from r).elim
 |some _=>cases u with
  |none=>exact(show False from r).elim
  |some _=>rfl
def KV.val{a:Li (κ×V)}{f:Li (κ×vL)}(r:KV a f)(k:κ):RelO (valV a k) (valueAt f k):=by
 unfold KV at r
 induction r with
 |nil=>exact True.intro
 |@cons p q l c h t i=>
  obtain⟨g,j⟩:=h;by_cases e:p.1=k
  .have d:q.1=k:=g.symm.trans e
   have b:valueAt (q :: c) k=aa q.2:=by simp[valueAt,cP,d]
   rw[valV_pos e,b];exact j
  .have d:¬q.1=k:=λz=>e (g.trans z)
   have b:valueAt (q :: c) k=valueAt c k:=by simp[valueAt,cP,d]
   rw[valV_neg e,b];exact i
def KV.any{a:Li (κ×V)}{c:Li (κ×vL)}(r:KV a c)(k:κ):(a.any λb=>aj (b.1=k))=c.any λb=>aj (b.1=k):=by
 unfold KV at r
 induction r with
 |nil=>rfl
 |cons h t d=>rw[cN,cN,d,h.1]
def KV.repl{b:Li (κ×V)}{d:Li (κ×vL)}(r:KV b d)(k:κ)(f:RelV y u) :
  KV (b.map λa=>if a.1=k then (a.1,y) else a) (d.map λa=>if a.1=k then (a.1,u) else a):=by
 unfold KV at r ⊢
 induction r with
 |nil=>exact .nil
 |@cons p q l j h t g=>
  rw[aQ,aQ];refine .cons ?_ g;obtain⟨c,i⟩:=h;by_cases e:p.1=k
  .rw[am e,am (c.symm.trans e)];exact⟨c,f⟩
  .rw[ao e,ao (λz=>e (c.trans z))];exact⟨c,i⟩
def KV.put{a:Li (κ×V)}{b:Li (κ×vL)}(r:KV a b)(k:κ)(c:RelV y u):KV (putK a k y) (stored b k u):=by
 unfold putK stored;rw[r.any k];by_cases e:(b.any λd=>aj (d.1=k))=ac
 .rw[am e,am e];exact r.repl k c
 .rw[ao e,ao e];exact Paired.snoc r ⟨rfl,c⟩
end
def kV_is{P:a0}{k:Key}(r:RelV (kV k) u):(mixKind P w).is k u=ac:=by
 cases k with
 |inl i=>obtain⟨t,e⟩:=(show ∃ t,u=Value.int i t from r);subst e;exact mixKind_int P w i t
 |inr x=>obtain⟨t,e⟩:=(show ∃ t,u=Value.str x t from r);subst e;exact mixKind_str P w x t
variable{H:Hp}{h:bg}{a:Ad}
def rd_of{u:HO}(ok:HOk P w H h)(e:Rd H a u):ObjOk P w H h a u:=e.ok ok
def dk_rd{b:Li (Key×V)}(ok:HOk P w H h)(e:Rd H a (.dK b)):b.length<=av/\(a==bm)=ae/\∃ c,KV b c/\h.DictOf (mixKind P w) a c:=
 show ObjOk P w H h a (.dK b) from rd_of ok e
def dk_of{b:Li (Key×V)}(ok:HOk P w H h)(e:H a=aa (.dK b)):b.length<=av/\(a==bm)=ae/\∃ c,KV b c/\h.DictOf (mixKind P w) a c:=dk_rd ok (.inl e)
variable{h':bg}
variable{y:V}{u:vL}
section
variable{pQ:Li (Ad×Obj)}{O:St}{s:Sd}{v:V}{r:vL}{o:Ot V}{A:bo}{E:vL->Sd->Prop}
def Inv.big(I:Inv X pQ O H s):bm < s.heap.objs.size:=by
 have h:ax < s.heap.objs.size:=(I.mod.glob.keeps I.bk).lt;exact Nat.lt_trans (by decide) h
def d_write{d:Nat}{c:HO}(I:Inv X pQ O H s)(mu:Mut (H a))(f:Heap.SameBut a s.heap h')(g:∃ q,h'.get? a=aa q)(new:ObjOk X.prog X.w (upd H a c) h' a c) :
  Inv X pQ O (upd H a c) { s with heap:=h',toks:=d }:=
 I.write (x:=a) (e:=a) mu (.inl rfl) (λb q h z=>(f.2 b h).trans z) g new
def dk_new{P:a0}{e:Hp}{b:Li (Key×V)}{c:Li (Key×vL)}(z:b.length<=av)(hd:(a==bm)=ae)(d:KV b c)(dd:h'.DictOf (mixKind P w) a c) :
  ObjOk P w e h' a (.dK b):=⟨z,hd,c,d,dd⟩
end
variable{H:Hp}
def dk_empty{P:a0}(h:bg)(a:bm < h.objs.size):ObjOk P w H (h.push { cls:=.type "dict",data:=.dict #[] }) h.objs.size (.dK []):=
 ⟨aO _,cM.mpr (Ne.symm (aY a)),[],.nil,Heap.DictOf.new h⟩
def tPairs:Li (TE×TE)->St->Hp->(Li (V×V)->Hp->Prop)->Prop
 |[],_,H,Q=>Q [] H
 | (b,a) :: r,O,H,Q=>b O H λx f=>a O f λy e=>tPairs r O e λc d=>Q ((x,y) :: c) d
abbrev VV:Li (V×V)->Li (vL×vL)->Prop:=Paired λp q=>RelV p.1 q.1/\RelV p.2 q.2
def PPs(X:Cx)(d:Pos)(b:Li (Ot aw))(a:Li aw)(c:Li (TE×TE)):Prop:=
 ∀ (pQ:Li (Ad×Obj)) (s:Sd) (O:St) (H:Hp) (Q:Li (V×V)->Hp->Prop),Inv X pQ O H s->tPairs c O H Q->
  ay (az X.prog X.w) X.A (evalPairs (pairTrees b a X.env d)) (λg h=>∃ e f,Inv X pQ O f h/\VV e g/\Q e f) X.xe s
variable{pos:Pos}
def pps_nil:PPs X pos [] [] []:=λa s O H Q I h=>pairTrees_nil_walk ⟨[],H,I,.nil,h⟩
variable{trs:Li (TE×TE)}
def pps_cons{k v:aw}{f:Li (Ot aw)}{c:Li aw}{e d:TE}(r:PE X k e)(p:PE X v d)(q:PPs X pos f c trs) :
  PPs X pos (aa k :: f) (v :: c) ((e,d) :: trs):=λb s O H Q I h=>
 pairTrees_cons_walk (thn (r b s O H _ I h) λu s1 ⟨x,C,z,j,n⟩=>thn (p b s1 O C _ z n) λE g ⟨y,B,w,i,m⟩=>
  thn (q b g O B _ w m) λD F ⟨o,A,t,a,l⟩=>⟨(x,y) :: o,A,t,.cons ⟨j,i⟩ a,l⟩)
def mergeK(a more:Li (Key×V)):Li (Key×V):=more.foldl (λb c=>putK b c.1 c.2) a
def KV.merge:∀ {more:Li (Key×V)}{rs:Li (Key×vL)}{a:Li (Key×V)}{b:Li (Key×vL)},KV more rs->KV a b->KV (mergeK a more) (merged b rs):=by
 intro more rs a b r;unfold KV at r
 induction r generalizing a b with
 |nil=>intro q;exact q
 |@cons p q g f h t d=>
  intro c;have e:KV (putK a p.1 p.2) (stored b q.1 q.2):=by
   have:=c.put p.1 h.2;rw[<-h.1];exact this
  exact d e
theorem length_mergeK:∀ (more a:Li (Key×V)),(mergeK a more).length<=a.length+more.length
 |[],a=>by show a.length<=a.length+0;omega
 |p :: r,a=>by
  have c:=length_mergeK r (putK a p.1 p.2);have b:=length_putK a p.1 p.2;show(mergeK (putK a p.1 p.2) r).length<=_;rw[aP];omega
theorem carries_of{P:a0}{w:bh}:∀ {d:Li (Key×V)}{ws:Li (vL×vL)},VV (d.map λe=>(kV e.1,e.2)) ws->∃ rs,Carries (mixKind P w) ws rs/\KV d rs
 |[],_,r=>by rw[dF]at r;cases r;exact⟨[],True.intro,.nil⟩
 |p :: d,_,r=>by
  rw[aQ]at r;cases r with
  |@cons a b i bs h t=>
   obtain⟨rs,c,q⟩:=carries_of (P:=P) (w:=w) t;obtain⟨g,f⟩:=b;exact⟨(p.1,f) :: rs,⟨kV_is h.1,rfl,c⟩,.cons ⟨rfl,h.2⟩ q⟩
def tDisp(K:Fg)(trs:Li (TE×TE)):TE:=λO H Q=>∀ p,H p=ab->(∀ o,K.lookup p≠aa o)->tPairs trs O (upd H p (.dK [])) λd c=>c p=aa (.dK [])/\∃ a:Li (Key×V),d=a.map (λb=>(kV b.1,b.2))/\a.length<=15/\Q (.ref p) (upd c p (.dK (mergeK [] a)))
def pe_disp{b:Li (Ot aw)}{d:Li aw}(h:PPs X pos b d trs)(g:b.all (·.isSome)=ac)(y:b.length=d.length)(D:b≠[])(k:b.length<=15):PE X (.Dict b d pos) (tDisp X.K trs):=by
 intro t s O H Q I q;have x:=I.hok.fresh (aD s.heap.objs.size);have F:=I.laid (a:=s.heap.objs.size) (o:=.dK []) (h':=s.heap.push { cls:=.type "dict",data:=.dict #[] }) (t':=s.toks) (λ_ _ q=>aL _ q) (aD _) (dk_empty s.heap I.big)
 refine wpAny_Dict_walk (knd:=mixKind X.prog X.w) g y D k (thn (h t _ O _ _ F (q _ x λo z=>aq (aJ (I.kIn _ o z)) (bS _))) λG J ⟨L,M,l,j,e,f,E,lk,r⟩=>?_)
 subst E;obtain⟨rs,c,n⟩:=carries_of (P:=X.prog) (w:=X.w) j;obtain⟨z,B,m,p,dd⟩:=dk_of l.hok e;cases p;refine⟨rs,c,dd,λh' i v=>⟨.ref s.heap.objs.size,_,?_,rfl,r⟩⟩
 have u:(mergeK [] f).length<=av:=by
  have C:=length_mergeK f [];rw[cQ]at C;rw[sizeLine_eq];omega
 have A:∃ q,h'.get? s.heap.objs.size=aa q:=let ⟨q,_,_,hq,_⟩:=i;⟨q,hq⟩
 exact d_write l (by rw[e];exact True.intro) v A (dk_new u B (n.merge .nil) i)
def rIxD:R2:=λx y H Q=>∃ p a k v,x=.ref p/\y=kV k/\H p=aa (.dK a)/\valV a k=aa v/\Q v H
def ix_dct:IxR X rIxD:=by
 intro a slice t s O H x y v u Q I f e h j;obtain⟨p,g,k,z,rfl,rfl,l,m,q⟩:=h;cases f;obtain⟨n,w,d,c,dd⟩:=dk_of I.hok l;obtain⟨r,i,b⟩:=RelO.some_of (v:=z) (o:=valueAt d k) (by rw[<-m];exact c.val k)
 exact tail_any dd.typeIs PySem.F.slot_dict_getitem.lookup (wpAny_getItem_of (kV_is e) dd.mapOf i ⟨z,H,I.tok _,b,q⟩) j
def rInD:R2:=λx y H Q=>∃ p a k,y=.ref p/\x=kV k/\H p=aa (.dK a)/\Q (.bl (valV a k).isSome) H
def op_in_dct:OpR X (bj .In) rInD:=by
 intro j s O H x y v u Q I d c h;obtain⟨p,b,k,rfl,rfl,e,q⟩:=h;cases c;obtain⟨g,f,i,a,dd⟩:=dk_of I.hok e;refine wpAny_in_of (kV_is d) f dd.mapOf ?_;rw[<-(a.val k).isSome_eq];exact⟨.bl (valV b k).isSome,H,I.tok _,rfl,q⟩
section
variable {κ:Type} [DecidableEq κ]
theorem valV_any(k:κ):∀ a:Li (κ×V),(a.any λb=>aj (b.1=k))=(valV a k).isSome
 |[]=>rfl
 |p :: r=>by
  rw[cN];by_cases e:p.1=k
  .simp only[valV_pos e,aK e,Bool.true_or,Option.isSome_some]
  .rw[valV_neg e,aG e,Bool.false_or];exact valV_any k r
end
theorem items_are{P:a0}{w:bh}:∀ {a:Li Key}{us:Li vL},Vals (a.map kV) us->ItemsAre (mixKind P w) a us
 |[],_,r=>by rw[dF]at r;cases r;exact .nil
 |k :: a,_,r=>by
  rw[aQ]at r;cases r with
  |cons h t=>exact .cons (kV_is h) (items_are t)
abbrev KTp(H:Hp):Li (Li Key×V)->Li (Li Key×Ad×vL)->Prop:=Paired λp q=>p.1=q.1/\H q.2.1=aa (.tup (p.1.map kV))/\RelV p.2 q.2.2
variable{kvs:Li (Li Key×V)}{xs:Li (Li Key×Ad×vL)}
def KTp.val(r:KTp H kvs xs)(k:Li Key):RelO (valV kvs k) ((atKey xs k).map (·.2)):=by
 induction r with
 |nil=>exact True.intro
 |@cons p q i a h t f=>
  obtain⟨d,_,g⟩:=h;by_cases e:p.1=k
  .have c:q.1=k:=d.symm.trans e
   have b:atKey (q :: a) k=aa q.2:=by simp[atKey,cP,c]
   rw[valV_pos e,b];exact g
  .have c:¬q.1=k:=λz=>e (d.trans z)
   have b:atKey (q :: a) k=atKey a k:=by simp[atKey,cP,c]
   rw[valV_neg e,b];exact f
def KTp.repl(r:KTp H kvs xs)(k:Li Key)(d:RelV y u) :
  KTp H (kvs.map λb=>if b.1=k then (b.1,y) else b) (xs.map (putAt k u)):=by
 induction r with
 |nil=>exact .nil
 |@cons p q j i h t f=>
  rw[aQ,aQ];refine .cons ?_ f;obtain⟨a,c,g⟩:=h;unfold putAt;by_cases e:p.1=k
  .rw[am e,am (a.symm.trans e)];exact⟨a,c,d⟩
  .rw[ao e,ao (λz=>e (a.trans z))];exact⟨a,c,g⟩
def KTp.put(r:KTp H kvs xs)(k:Li Key){b:Ad}(d:H b=aa (.tup (k.map kV)))(a:RelV y u) :
  KTp H (putK kvs k y) (storedH xs k b u):=by
 have e:(kvs.any λc=>aj (c.1=k))=(atKey xs k).isSome:=by
  rw[valV_any,(r.val k).isSome_eq,Option.isSome_map]
 unfold putK storedH;rw[e];by_cases q:(atKey xs k).isSome=ac
 .rw[am q,am q];exact r.repl k a
 .rw[ao q,ao q];exact Paired.snoc r ⟨rfl,d,a⟩
def KTp.keeps{c:Hp}(r:KTp H kvs xs)(d:∀ b a,H b=aa (.tup a)->c b=aa (.tup a)):KTp c kvs xs:=
 Paired.mapP r λ_ _ z=>⟨z.1,d _ _ z.2.1,z.2.2⟩
variable{ks:Li Key}
def key_at{b:Li vL}(r:Vals (ks.map kV) b)(t:IsTup h a b.toArray):(tupleKind (mixKind P w)).is h ks a:=by
 obtain⟨o,e,d,n,c⟩:=t;exact⟨o,b.toArray,n,e,d,c,by simpa using items_are r⟩
def key_of(ok:HOk P w H h)(e:H a=aa (.tup (ks.map kV))):(tupleKind (mixKind P w)).is h ks a:=by
 obtain⟨_,b,r,o,f,d,n,c⟩:=(show ObjOk P w H h a (.tup (ks.map kV)) from ok a _ e);exact⟨o,b.toArray,n,f,d,c,by simpa using items_are r⟩
def dt_rd(ok:HOk P w H h)(e:Rd H a (.dT kvs)):kvs.length<=av/\(a==bm)=ae /\
  ∃ xs,KTp H kvs xs/\h.DictOfH (tupleKind (mixKind P w)) a xs:=by
 obtain⟨z,y,xs,r,o,k,n,j,i,g,f,d⟩:=(show ObjOk P w H h a (.dT kvs) from rd_of ok e);refine⟨z,y,xs,r,o,k,n,j,i,g,f,λx hx=>?_,d⟩
 have all:∀ {l:Li (Li Key×V)}{m:Li (Li Key×Ad×vL)},KTp H l m->∀ x∈m,(tupleKind (mixKind P w)).is h x.1 x.2.1:=by
  intro l m q
  induction q with
  |nil=>intro x hx;exact nomatch hx
  |@cons p q u s b t c=>
   intro x hx;rcases aF.mp hx with e|hx
   .subst e
    exact key_of ok (by rw[<-b.1];exact b.2.1)
   .exact c x hx
 exact all r x hx
def dt_of(ok:HOk P w H h)(e:H a=aa (.dT kvs)):kvs.length<=av/\(a==bm)=ae /\
  ∃ xs,KTp H kvs xs/\h.DictOfH (tupleKind (mixKind P w)) a xs:=dt_rd ok (.inl e)
def dt_empty{P:a0}(h:bg)(a:bm < h.objs.size):ObjOk P w H (h.push { cls:=.type "dict",data:=.dict #[] }) h.objs.size (.dT []):=
 ⟨aO _,cM.mpr (Ne.symm (aY a)),[],.nil,_,#[],0,aW _ rfl,⟨rfl,rfl,rfl⟩,rfl,rfl,List.nodup_nil⟩
def tDNewT(K:Fg):TE:=λ_ H Q=>∀ p,H p=ab->(∀ o,K.lookup p≠aa o)->Q (.ref p) (upd H p (.dT []))
def pe_dnewT:PE X (.Dict [] [] pos) (tDNewT X.K):=λb s O H Q I h=>
 wpAny_Dict_empty ⟨.ref s.heap.objs.size,_,I.laid (a:=s.heap.objs.size) (o:=.dT []) (t':=s.toks) (λ_ _ q=>aL _ q) (aD _) (dt_empty s.heap I.big),rfl,h _ (I.hok.fresh (aD _)) λo z=>aq (aJ (I.kIn _ o z)) (bS _)⟩
def rSetT:V->V->V->Hp->(Hp->Prop)->Prop:=λo i v H Q=>∃ p b kvs k,o=.ref p/\i=.ref b/\H p=aa (.dT kvs)/\H b=aa (.tup (k.map kV))/\kvs.length < av/\Q (upd H p (.dT (putK kvs k v)))
def set_dT(hu:X.A.units+1 < cLine):PSet X rSetT:=by
 intro K s O H o i v L M u Q I p r rv h;obtain⟨a,b,kvs,k,rfl,rfl,e,n,l,q⟩:=h;cases p;cases r;obtain⟨z,y,xs,d,dd⟩:=dt_of I.hok e;have t:xs.length<=av:=by rw[<-Paired.length d];exact z
 have x:(putK kvs k v).length<=av:=by have:=length_putK kvs k v;omega
 refine wpAny_setItem_heap (hsz:=t) (tupleKind_room_in1 hu) (key_of I.hok n) dd λh' f w=>?_
 obtain⟨g,F,G,j,E,D,C,_,B⟩:=f;refine⟨upd H a (.dT (putK kvs k v)),d_write I (by rw[e];exact True.intro) w ⟨g,j⟩ ⟨x,y,_,(d.put k n rv).keeps λc J m=>?_,g,F,G,j,E,D,C,B⟩,q⟩
 rw[upd_ne (ne_of m e (λz=>nomatch z))]
 exact m
def rIxdT(K:Fg):R2:=λx y H Q=>∃ p b kvs k v,x=.ref p/\y=.ref b/\SqT K H b (k.map kV)/\H p=aa (.dT kvs)/\valV kvs k=aa v/\Q v H
def ix_dT(hu:X.A.units+1 < cLine):IxR X (rIxdT X.K):=by
 intro a slice E s O H x y v u Q I i g h n;obtain⟨p,b,kvs,k,z,rfl,rfl,B,r,w,q⟩:=h;cases i;cases g;obtain⟨C,J,xs,d,dd⟩:=dt_of I.hok r;obtain⟨l,j,f,_⟩:=I.tuple B;obtain⟨D,m,c⟩:=RelO.some_of (v:=z) (o:=(atKey xs k).map (·.2)) (by rw[<-w];exact d.val k)
 obtain⟨G,t,e⟩:=dG.mp m;refine tail_any dd.typeIs PySem.F.slot_dict_getitem.lookup (wpAny_getItem_heap (tupleKind_room_in1 hu) (key_at j f) dd t ?_) n;rw[e];exact⟨z,H,I.tok _,c,q⟩
def in_dT(hu:X.A.units+1 < cLine){c:Li (Ad×Obj)}{O:St}{s:Sd}{p b:Ad}{k:Li Key}{Q:VK}(I:Inv X c O H s)(i:H p=aa (.dT kvs))(j:SqT X.K H b (k.map kV)) :
  (Q (.bl (valV kvs k).isSome) H->ay (az X.prog X.w) X.A (bj .In (.ref b) (.ref p)) (EP X c O Q) X.xe s)/\(Q (.bl (!(valV kvs k).isSome)) H->ay (az X.prog X.w) X.A (bj .NotIn (.ref b) (.ref p)) (EP X c O Q) X.xe s):=by
 obtain⟨l,g,xs,a,dd⟩:=dt_of I.hok i;obtain⟨h,f,d,_⟩:=I.tuple j;have e:=(a.val k).isSome_eq;rw[Option.isSome_map]at e;rw[e];exact⟨λq=>wpAny_in_heap (tupleKind_room_in1 hu) (key_at f d) g dd ⟨.bl _,H,I.tok _,rfl,q⟩,λq=>wpAny_notIn_heap (tupleKind_room_in1 hu) (key_at f d) g dd ⟨.bl _,H,I.tok _,rfl,q⟩⟩
end L2
namespace Dp
open PySem
variable{α:Type}
def Zb{x:α}{C:Prop}(h:(ab:Ot α)=aa x):C:=nomatch h
noncomputable abbrev S(x:String):Str:=Str.ofString x
inductive D where
 |non|bl (b:Bool)|int (i:Int)|str (x:Str)|tup (xs:List D)|lst (id:Nat)|dct (ks:List Str) (vs:List D)|obj (i:Nat)|kt (ks:List Str)|dic (id:Nat)
abbrev Env:=Li (Ot D)
abbrev Y8:=Bool×Li D
abbrev Za:=Li Y8
abbrev Res:=Ot (D×Za)
abbrev Fn:=Li D->Za->Res
noncomputable def o2{α b a:Type}(f:α->b->a):Ot α->Ot b->Ot a
 |some x,aa y=>aa (f x y)
 |_,_=>ab
noncomputable def og{α:Type}(p:Prop)[Decidable p](o:Ot α):Ot α:=if p then o else ab
mutual
noncomputable def Zm:D->D->Bool
 |.non,.non=>ac
 |.bl a,.bl b=>a==b
 |.int a,.int b=>aj (a=b)
 |.str a,.str b=>aj (a=b)
 |.tup a,.tup b=>Zs a b
 |_,_=>ae
noncomputable def Zs:Li D->Li D->Bool
 |[],[]=>ac
 |x :: b,y :: a=>Zm x y&&Zs b a
 |_,_=>ae
end
mutual
noncomputable def okD:Nat->D->Bool
 |_,.non=>ac
 |_,.int _=>ac
 |_,.str _=>ac
 |n+1,.tup a=>ZX n a
 |_,_=>ae
noncomputable def ZX:Nat->Li D->Bool
 |_,[]=>ac
 |n,x :: a=>okD n x&&ZX n a
end
inductive Sc where
 |non|bl (b:Bool)|int (i:Int)|str (x:Str)
noncomputable def scD:D->Ot Sc
 |.non=>aa .non
 |.bl b=>aa (.bl b)
 |.int i=>aa (.int i)
 |.str x=>aa (.str x)
 |_=>ab
noncomputable def ZgR:Sc->Sc->Ot Bool
 |.non,.non=>aa ac
 |.non,.bl _=>aa ae
 |.non,.int _=>aa ae
 |.non,.str _=>aa ae
 |.bl _,.non=>aa ae
 |.bl a,.bl b=>aa (a==b)
 |.bl _,.int _=>ab
 |.bl _,.str _=>aa ae
 |.int _,.non=>aa ae
 |.int _,.bl _=>ab
 |.int a,.int b=>aa (aj (a=b))
 |.int _,.str _=>aa ae
 |.str _,.non=>aa ae
 |.str _,.bl _=>aa ae
 |.str _,.int _=>aa ae
 |.str a,.str b=>aa (aj (a=b))
def eqT(b:Li D):D->Ot Bool
 |.tup a=>if okD 8 (.tup b)&&okD 8 (.tup a) then aa (Zs b a) else ab
 |_=>ab
def eqD(x y:D):Ot Bool:=match x with
 |.tup a=>eqT a y
 |x=>(o2 ZgR (scD x) (scD y)).join
inductive Ty where
 |int|bool|str|tuple
 deriving DecidableEq
set_option genInjectivity false in
inductive CE where
 |v (i:Nat)|c (d:D)
 |bin (op:Operator) (a b:CE)|neg (a:CE)
 |cmp (op:CmpOp) (a b:CE)
 |not (a:CE)|and (a b:CE)|or (a b:CE)|ife (c a b:CE)
 |tupE (a:CE)|lstE (a:CE)|aN|aC (a r:CE)
 |ix (a b:CE)|slice (a lo hi:CE)|nop|part (a:CE)
 |call (f:Nat) (args:CE) (ds:List D)
 |len (a:CE)|tOf (a:CE)|listOf (a:CE)|intOf (a:CE)|min (a b:CE)|max (a b:CE)|isi (T:Ty) (a:CE)
 |comp (rng:Bool) (fr:List Nat) (it elt Yz:CE)|comp2 (fr:List Nat) (it elt Yz:CE)|compT (fr:List Nat) (it elt Yz:CE)|lstR (a b:CE)|new (i:Nat)|meth (tab:List (Nat×Nat)) (o a:CE)|isc (l:List Nat) (a:CE)|tix (o a:CE)
 |rs (k:Bool) (a:CE)
 |inv (a:CE)|tupR (a:CE)|look (ks:List Str) (ds:List D) (a:CE)|dget (a k d:CE)|all (a:CE)|any (a:CE)|inR (ng:Bool) (a b:CE)
 |dict (ks:List Str) (a:CE)|dnew|strOf (a:CE)|joinE (a b:CE)|starts (a b:CE)|rng2 (a b:CE)|srt (a:CE)
 |comp3 (fr:List Nat) (it elt Yz:CE)|dd (a b e:CE)|dgN (o k d:CE)|pop (o:CE)|ksrt (o:CE)
set_option genInjectivity false in
inductive CS where
 |skip|seq (a b:CS)|ret (e:CE)|set (i:Nat) (e:CE)|app (i:Nat) (e:CE)|ext (i:Nat) (e:CE)|put (i:Nat) (k e:CE)
 |ite (c:CE) (a b:CS)|for1 (i:Nat) (rng:Bool) (it:CE) (b:CS)|for3 (i:Nat) (it:CE) (b:CS)|forP (i j:Nat) (it:CE) (b:CS)|forE (i j:Nat) (it:CE) (b:CS)|set2 (i j:Nat) (e:CE)|for4 (i j l:Nat) (it:CE) (b:CS)|for2 (i j:Nat) (it:CE) (b:CS)|whl (c:CE) (b:CS)|brk|cont|stop|set3 (i j l:Nat) (e:CE)|act (e:CE)|dput (i:Nat) (a b e:CE)|app2 (o e:CE)
noncomputable def ZP(i:Int):Bool:=aj (-(2 ^ 64) < i)&&aj (i < 2 ^ 64)
noncomputable def Zw:Nat:=1000000
def Zap(a:Operator)(i j:Int):Ot Int:=
 match a with
 |.Add=>aa (i+j)
 |.Sub=>aa (i - j)
 |.Mult=>if ZP i||ZP j then aa (i * j) else ab
 |.FloorDiv=>if 0 < j/\j < 1073741824 then aa (i / j) else if j < 0/\-1073741824 < j then aa (i.fdiv j) else ab
 |.Mod=>if 0 < j then aa (i % j) else if j < 0 then aa (i.fmod j) else ab
 |.Pow=>if 0<=j/\j<=1000/\ZP i=ac then aa (i ^ j.toNat) else ab
 |.BitAnd=>if 0<=i/\0<=j then aa ((i.toNat &&& j.toNat:Nat):Int) else if 0<=i/\j < 0 then aa (i - ((i.toNat &&& (-j - 1).toNat:Nat):Int)) else ab
 |.BitOr=>if 0<=i/\0<=j then aa ((i.toNat ||| j.toNat:Nat):Int) else ab
 |_=>ab
noncomputable def Ud:Operator->Bool
 |.Add=>ac
 |_=>ae
noncomputable def Zbf:Operator->Bool
 |.Mult=>ac
 |_=>ae
def ZcI(a b:Nat)(c:Za):Res:=match c[a]?,c[b]? with
 |some (_,e),aa (_,d)=>if e.length+d.length<=Zw then aa (.lst c.length,c++[(ac,e++d)]) else ab
 |_,_=>ab
noncomputable def Zhz(a:Nat)(j:Int)(b:Za):Res:=match b[a]? with
 |some (ac,[x])=>if j<=1000/\-1000<=j then aa (.lst b.length,b++[(ac,af j.toNat x)]) else ab
 |_=>ab
noncomputable def Zjk(a:Li D)(j:Int)(b:Za):Res:=match a with
 |[x]=>if j<=1000/\-1000<=j then aa (.tup (af j.toNat x),b) else ab
 |_=>ab
def VQ(d:Operator)(x y:D)(c:Za):Res:=
 match x,y with
 |.int i,.int j=>match Zap d i j with
  |some k=>aa (.int k,c)
  |none=>ab
 |.tup e,.tup f=>if Ud d=ac/\e.length+f.length<=Zw then aa (.tup (e++f),c) else ab
 |.tup e,.int j=>if Zbf d=ac then Zjk e j c else ab
 |.lst a,.lst b=>if Ud d=ac then ZcI a b c else ab
 |.lst a,.int j=>if Zbf d=ac then Zhz a j c else ab
 |.str x,.str y=>if Ud d=ac/\x.length+y.length<=Zw then aa (.str (x++y),c) else ab
 |_,_=>ab
noncomputable def Zin(x k:Str):Bool:=!(PySem.Builtin.Str.occurrences x k 0 x.length 1).isEmpty
noncomputable def chS(x:Str):Li Str:=x.cps.toList.map λc=>⟨#[c]⟩
noncomputable def Jc(_:Za)(_ _:Li D):Ot Bool:=ab
def ZcU(a ys:Li D):Ot Bool:=if (a.isEmpty||ys.isEmpty)=ac then aa (a.isEmpty&&ys.isEmpty) else if ZX 7 a&&ZX 7 ys then aa (Zs a ys) else ab
def ZgS(c:Za)(b:Li D):D->Ot Bool
 |.tup a=>(match eqT b (.tup a) with
  |some k=>aa k
  |none=>Jc c b a)
 |_=>ab
def ZgQ(e:Za)(a:Nat):D->Ot Bool
 |.lst b=>(o2 (λ(c d:Y8)=>ZcU c.2 d.2) e[a]? e[b]?).join
 |_=>ab
def eqS(b:Za)(x y:D):Ot Bool:=match x with
 |.lst a=>ZgQ b a y
 |.tup c=>ZgS b c y
 |x=>eqD x y
noncomputable def Yh:Int->Li D->Ot Bool
 |_,[]=>aa ae
 |k,.int i :: r=>(Yh k r).map λb=>aj (i=k)||b
 |_,_=>ab
noncomputable def Yi:Str->Li D->Ot Bool
 |_,[]=>aa ae
 |k,.str i :: r=>(Yi k r).map λb=>aj (i=k)||b
 |_,_=>ab
noncomputable def Zfj:D->Ot Int
 |.int i=>aa i
 |_=>ab
noncomputable def iB(i:Int):D->Bool
 |.int a=>aj (a=i)
 |_=>ae
def isK(i j:Int):D->Bool
 |.tup [x,y,_]=>iB i x&&iB j y
 |_=>ae
noncomputable def Zjm:D->Ot D
 |.tup [_,_,v]=>aa v
 |_=>ab
def Ya(a:Li D)(i j:Int):Ot D:=(a.find? (isK i j)).bind Zjm
def Wm(a:Li D)(i j:Int)(v:D):Li D:=if a.any (isK i j)=ac then a.map (λe=>if isK i j e=ac then .tup [.int i,.int j,v] else e) else a++[.tup [.int i,.int j,v]]
def dAt(d:Li D)(a:Nat)(b:Za):Ot (Ot D):=match d with
 |[x,y]=>o2 (λ(p:Int×Int) (c:Y8)=>Ya c.2 p.1 p.2) (o2 Prod.mk (Zfj x) (Zfj y)) b[a]?
 |_=>ab
noncomputable def Z4:Li Str->Li D->Str->Ot D
 |k :: b,v :: a,x=>if k=x then aa v else Z4 b a x
 |_,_,_=>ab
noncomputable def JV(f:Int->Int->Bool):D->D->Ot Bool
 |.int i,.int j=>aa (f i j)
 |_,_=>ab
def Vx:Li D->Li D->Ot Bool
 |x :: d,y :: c=>if Zm x y=ac then Vx d c else match x,y with
  |.int i,.int j=>aa (aj (i < j))
  |.str a,.str b=>aa (aj (a.cps.toList < b.cps.toList))
  |_,_=>ab
 |[],c=>aa (aj (0 < c.length))
 |_ :: _,[]=>aa ae
def ltD(x y:D):Ot Bool:=match x,y with
 |.tup b,.tup a=>if okD 8 (.tup b)&&okD 8 (.tup a) then Vx b a else ab
 |x,y=>JV (λi j=>aj (i < j)) x y
def ltS(_:Za)(x y:D):Ot Bool:=ltD x y
def inS(c:Za)(x y:D):Ot Bool:=match x,y with
 |.int k,.lst a=>match c[a]? with
  |some (_,b)=>Yh k b
  |none=>ab
 |.str k,.lst a=>match c[a]? with
  |some (_,b)=>Yi k b
  |none=>ab
 |.int k,.tup b=>Yh k b
 |.str k,.tup b=>Yi k b
 |.str k,.dct d e=>aa (Z4 d e k).isSome
 |.tup d,.dic a=>(dAt d a c).map Option.isSome
 |.str k,.str x=>aa (Zin x k)
 |_,_=>ab
def niS(a:Za)(x y:D):Ot Bool:=match y with
 |.dct _ _=>ab
 |y=>(inS a x y).map not
noncomputable def isN:D->Ot Bool
 |.non=>aa ac
 |.int _=>aa ae
 |.str _=>aa ae
 |.bl _=>aa ae
 |.tup _=>aa ae
 |.lst _=>aa ae
 |.dct _ _=>ab
 |.obj _=>ab
 |.kt _=>ab
 |.dic _=>ab
noncomputable def isB(b:Bool):D->Ot Bool
 |.bl a=>aa (a==b)
 |_=>ab
def isD(x:D):D->Ot Bool
 |.non=>isN x
 |.bl b=>isB b x
 |_=>ab
def ZcK(b:CmpOp)(x y:D)(a:Za):Ot Bool:=
 match b with
 |.Lt=>ltS a x y
 |.LtE=>JV (λi j=>aj (i<=j)) x y
 |.Gt=>JV (λi j=>aj (j < i)) x y
 |.GtE=>JV (λi j=>aj (j<=i)) x y
 |.Eq=>eqS a x y
 |.NotEq=>(eqS a x y).map not
 |.In=>inS a x y
 |.NotIn=>niS a x y
 |.Is=>isD x y
 |.IsNot=>(isD x y).map not
noncomputable def ixN(n:Nat)(i:Int):Ot Nat:=if 0<=i then (if i < n then aa i.toNat else ab) else if -(n:Int)<=i then aa (i+n).toNat else ab
def atD(a:Li D)(i:Int):Ot D:=(ixN a.length i).bind λj=>a[j]?
def ixD(x y:D)(d:Za):Ot D:=
 match x,y with
 |.tup c,.int i=>atD c i
 |.lst a,.int i=>match d[a]? with
  |some (_,c)=>atD c i
  |none=>ab
 |.dct b e,.str k=>Z4 b e k
 |.kt b,.int i=>atD (b.map .str) i
 |.dic a,.tup b=>(dAt b a d).join
 |.str x,.int i=>if x.length<=Zw then atD ((chS x).map .str) i else ab
 |_,_=>ab
noncomputable def sIx(n d:Nat):Ot Int->Nat
 |none=>d
 |some i=>if i < 0 then (i+n).toNat else Nat.min i.toNat n
def Y9(a:Li D)(b c:Ot Int):Li D:=(a.drop (sIx a.length 0 b)).take (sIx a.length a.length c - sIx a.length 0 b)
def Z0(x:D)(d e:Ot Int)(c:Za):Res:=
 match x with
 |.tup b=>if sIx b.length 0 d=0/\sIx b.length b.length e=b.length then aa (.tup b,c) else aa (.tup (Y9 b d e),c)
 |.lst a=>match c[a]? with
  |some (_,b)=>aa (.lst c.length,c++[(ac,Y9 b d e)])
  |none=>ab
 |_=>ab
def Zdk(x:D)(c:Za):Ot Int:=
 match x with
 |.tup b=>aa b.length
 |.lst a=>match c[a]? with
  |some (_,b)=>aa b.length
  |none=>ab
 |.kt d=>aa d.length
 |.str x=>if x.length<=Zw then aa x.length else ab
 |_=>ab
noncomputable def Zfm(T:Ty):D->Ot Bool
 |.int _=>aa (aj (T=.int))
 |.bl _=>aa (aj (T=.int)||aj (T=.bool))
 |.str _=>aa (aj (T=.str))
 |.tup _=>aa (aj (T=.tuple))
 |.non=>aa ae
 |_=>ab
noncomputable def Ws(rng:Bool)(x:D):Ot (Li D):=
 match rng,x with
 |true,.int n=>if n < 2 ^ 62/\-(2 ^ 62)<=n then aa ((ag n.toNat).map λ(k:Nat)=>D.int (k:Int)) else ab
 |false,.tup a=>aa a
 |_,_=>ab
noncomputable def Yr(a b c:Int):Nat:=if 0 < c then (if a < b then ((b - a - 1) / c+1).toNat else 0) else (if b < a then ((a - b - 1) / (-c)+1).toNat else 0)
noncomputable def XF(a b c:Int):Bool:=aj ((-(2 ^ 30) < a/\a < 2 ^ 30)/\(-(2 ^ 30) < b/\b < 2 ^ 30)/\(c=1\/c=-1\/c=2\/c=3\/c=4))
def Y1(a b c:Int):Li Int:=(ag (Yr a b c)).map λ(k:Nat)=>a+k * c
noncomputable def ZW(ok:Za->Prop)(f:D->Za->Res)(c:D->Za->Res):Li D->Za->Ot (Li D×Za)
 |[],b=>open Classical in if ok b then aa ([],b) else ab
 |x :: g,b=>open Classical in if ok b then (match c x b with
  |some (.bl ac,a)=>match f x a with
   |some (y,e)=>match ZW ok f c g e with
    |some (h,d)=>aa (y :: h,d)
    |none=>ab
   |none=>ab
  |some (.bl ae,a)=>ZW ok f c g a
  |_=>ab) else ab
def YF(rng:Bool)(x:D)(e:Za):Ot (Li D×(Za->Prop)):=match Ws rng x with
 |some d=>aa (d,λ_=>True)
 |none=>match rng,x with
  |false,.lst a=>match e[a]? with
   |some c=>aa (c.2,λs=>s[a]?=aa c)
   |none=>ab
  |false,.dct [] [.int a,.int b]=>aa ((Y1 a b 1).map .int,λ_=>True)
  |_,_=>ab
noncomputable def YN:Nat->Li D->Li D
 |_,[]=>[]
 |k,x :: a=>.tup [.int (k:Int),x] :: YN (k+1) a
def Ux(x:D)(d:Za):Ot (Li D×(Za->Prop)):=match x with
 |.tup b=>aa (YN 0 b,λ_=>True)
 |.lst a=>match d[a]? with
  |some c=>aa (YN 0 c.2,λs=>s[a]?=aa c)
  |none=>ab
 |_=>ab
noncomputable def Zbg:D->Bool
 |.tup [_,_]=>ac
 |_=>ae
def WM(x:D)(d:Za):Ot (Li D×(Za->Prop)):=match x with
 |.tup b=>if b.all Zbg=ac then aa (b,λ_=>True) else ab
 |.lst a=>match d[a]? with
  |some c=>if c.2.all Zbg=ac then aa (c.2,λs=>s[a]?=aa c) else ab
  |none=>ab
 |_=>ab
abbrev Ev:=Env->Za->Res
noncomputable def Zq(c:Ev)(g:D->Za->Res):Ev:=λU b=>match c U b with
 |some (x,a)=>g x a
 |none=>ab
noncomputable def ZY(e d:Ev)(g:D->D->Za->Res):Ev:=λU c=>match e U c with
 |some (x,b)=>match d U b with
  |some (y,a)=>g x y a
  |none=>ab
 |none=>ab
noncomputable def Yk(h f e:Ev)(g:D->D->D->Za->Res):Ev:=λU d=>match h U d with
 |some (x,c)=>match f U c with
  |some (y,b)=>match e U b with
   |some (z,a)=>g x y z a
   |none=>ab
  |none=>ab
 |none=>ab
noncomputable def Yz(e c d:Ev):Ev:=λU b=>match e U b with
 |some (.bl ac,a)=>c U a
 |some (.bl ae,a)=>d U a
 |_=>ab
noncomputable def YV(i:Nat):Ev:=λU a=>match U[i]? with
 |some (aa d)=>aa (d,a)
 |_=>ab
noncomputable def evC(d:D):Ev:=λ_ a=>aa (d,a)
noncomputable def Zfx:D->Za->Res
 |.int i,a=>aa (.int (-i),a)
 |_,_=>ab
noncomputable def ZbB:D->Za->Res
 |.bl k,a=>aa (.bl (!k),a)
 |_,_=>ab
def ZcL(b:CmpOp)(x y:D)(a:Za):Res:=match ZcK b x y a with
 |some k=>aa (.bl k,a)
 |none=>ab
noncomputable def Zdl:D->Za->Res
 |.tup b,a=>aa (.lst a.length,a++[(ac,b)])
 |_,_=>ab
noncomputable def WX:D->D->Za->Res
 |x,.tup a,b=>if a.length < 1000 then aa (.tup (x :: a),b) else ab
 |_,_,_=>ab
def ixR(x y:D)(a:Za):Res:=match ixD x y a with
 |some d=>aa (d,a)
 |none=>ab
def Yu:D->D->D->Za->Res
 |x,.non,.non,a=>Z0 x ab ab a
 |x,.int i,.non,a=>Z0 x (aa i) ab a
 |x,.non,.int j,a=>Z0 x ab (aa j) a
 |x,.int i,.int j,a=>Z0 x (aa i) (aa j) a
 |_,_,_,_=>ab
noncomputable def WD:D->Za->Res
 |.int i,a=>aa (.int i,a)
 |_,_=>ab
noncomputable def Wi(g:Fn)(c:Li D):D->Za->Res
 |.tup a,b=>g (a++c) b
 |_,_=>ab
noncomputable def Zbv(F:Nat->Fn)(tab:Li (Nat×Nat)):D->D->Za->Res
 |.obj i,.tup a,b=>match tab.lookup i with
  |some j=>F j (.obj i :: a) b
  |none=>ab
 |_,_,_=>ab
noncomputable def ZaP(k:Str):Li Str->Ot Nat
 |[]=>ab
 |a :: r=>if a=k then aa 0 else (ZaP k r).map (·+1)
def Zgj:D->D->Za->Res
 |.kt b,.tup [.str k],a=>match ZaP k b with
  |some i=>aa (.int (i:Int),a)
  |none=>ab
 |_,_,_=>ab
def Ui(x:D)(a:Za):Res:=match Zdk x a with
 |some n=>aa (.int n,a)
 |none=>ab
noncomputable def VM:D->Za->Res
 |.tup b,a=>aa (.tup b,a)
 |.lst l,a=>match a[l]? with
  |some (_,b)=>aa (.tup b,a)
  |none=>ab
 |_,_=>ab
noncomputable def Zbo:D->Za->Res
 |.tup b,a=>aa (.lst a.length,a++[(ac,b)])
 |.lst l,a=>match a[l]? with
  |some (_,b)=>aa (.lst a.length,a++[(ac,b)])
  |none=>ab
 |_,_=>ab
noncomputable def Zfi:D->Za->Res
 |.int i,a=>aa (.int i,a)
 |.bl ac,a=>aa (.int 1,a)
 |.bl ae,a=>aa (.int 0,a)
 |_,_=>ab
noncomputable def Zfr:D->D->Za->Res
 |.int i,.int j,a=>aa (.int (if j < i then j else i),a)
 |_,_,_=>ab
noncomputable def Zfq:D->D->Za->Res
 |.int i,.int j,a=>aa (.int (if j > i then j else i),a)
 |_,_,_=>ab
def Zbh(T:Ty)(x:D)(a:Za):Res:=match Zfm T x with
 |some k=>aa (.bl k,a)
 |none=>ab
noncomputable def Zfk:D->Za->Res
 |.int i,a=>aa (.int (-i - 1),a)
 |_,_=>ab
def Zbr:D->D->Za->Res
 |.int a,.int b,c=>if XF a b 1=ac/\b - a<=1000 then aa (.lst c.length,c++[(ac,(Y1 a b 1).map .int)]) else ab
 |_,_,_=>ab
def Zbp(b:Li Str)(c:Li D):D->Za->Res
 |.str k,a=>match Z4 b c k with
  |some d=>aa (d,a)
  |none=>ab
 |_,_=>ab
def getD:D->D->D->Za->Res
 |.dct c a,.str k,d,b=>aa ((Z4 c a k).getD d,b)
 |_,_,_,_=>ab
noncomputable def Zie(b:Bool):D->D->Za->Res
 |.int x,.int n,a=>if -(2 ^ 62)<=n/\n < 2 ^ 62 then aa (.bl (b != aj (0<=x/\x < n)),a) else ab
 |_,_,_=>ab
noncomputable def Zeh(a:Li Str):D->Za->Res
 |.tup b,c=>if a.length=b.length/\(a.Nodup/\a≠[])/\a.length<=15 then aa (.dct a b,c) else ab
 |_,_=>ab
noncomputable def one(d:D):Li (Ot D):=[aa d]
noncomputable def two:D->Li (Ot D)
 |.tup [a,b]=>[aa a,aa b]
 |_=>[]
noncomputable def Jn:D->Li (Ot D)
 |.tup [a,b,c]=>[aa a,aa b,aa c]
 |_=>[]
noncomputable def Zfl:D->Bool
 |.tup [_,_,_]=>ac
 |_=>ae
def Zch(x:D)(_:Za):Ot (Li D×(Za->Prop)):=match x with
 |.tup a=>if a.all Zfl=ac then aa (a,λ_=>True) else ab
 |_=>ab
def ddE(h g f:Env->Za->Res):Env->Za->Res:=λU b=>match h U (b++[(ac,[])]) with
 |some (.int i,d)=>match g U d with
  |some (.int j,c)=>match f U c with
   |some (v,a)=>match a[b.length]? with
    |some (ac,e)=>if e.length < Zw then aa (.dic b.length,a.set b.length (ac,Wm e i j v)) else ab
    |_=>ab
   |none=>ab
  |_=>ab
 |_=>ab
def gtD:D->D->D->Za->Res
 |.dic a,.tup c,d,b=>(dAt c a b).map λo=>(o.getD d,b)
 |_,_,_,_=>ab
noncomputable def Zdw:D->Za->Res
 |.lst a,c=>match c[a]? with
  |some (ac,b)=>(b[b.length - 1]?).map λd=>(d,c.set a (ac,b.dropLast))
  |_=>ab
 |_,_=>ab
noncomputable def kOf:D->Ot (Int×Int)
 |.tup [.int i,.int j,_]=>aa (i,j)
 |_=>ab
noncomputable def kLt(p q:Int×Int):Bool:=if p.1=q.1 then aj (p.2 < q.2) else aj (p.1 < q.1)
noncomputable def goT{b:Type}(f:Nat->Nat->Bool):W.KasT b->b
 |.ret a=>a
 |.ask i j k=>goT f (k (f i j))
def ZV(a:Li D):Li (Int×Int):=a.map λe=>(kOf e).getD (0,0)
noncomputable def prD(p:Int×Int):D:=.tup [.int p.1,.int p.2]
def Vh(a:Li (Int×Int))(i j:Nat):Bool:=kLt (a.getD i (0,0)) (a.getD j (0,0))
def pick{b:Type}(f:Nat->Nat->Bool)(z:b)(a:Li b):Li b:=if a.length < 2 then a else (goT f (W.kas_sort a.length)).toList.map λi=>a.getD i z
def QW:D->Za->Res
 |.dic a,c=>match c[a]? with
  |some (_,b)=>if b.length < 64 then aa (.lst c.length,c++[(ac,pick (Vh (ZV b)) .non ((ZV b).map prD))]) else ab
  |none=>ab
 |_,_=>ab
noncomputable def ZM(b:D->Li (Ot D))(U:Env)(a:Li Nat)(d:D):Env:=b d++a.map λi=>(U[i]?).join
def Ye(b:D->Li (Ot D))(w:D->Za->Ot (Li D×(Za->Prop)))(f:Li Nat)(i j k:Ev):Ev:=λU h=>match i U h with
 |some (x,c)=>match w x c with
  |some (e,ok)=>if e.length<=1000 then
    match ZW ok (λd s=>j (ZM b U f d) s) (λd s=>k (ZM b U f d) s) e c with
    |some (g,a)=>aa (.lst a.length,a++[(ac,g)])
    |none=>ab
   else ab
  |none=>ab
 |none=>ab
noncomputable def Zei:Ev:=λ_ a=>aa (.dic a.length,a++[(ac,[])])
def ev(F:Nat->Fn):CE->Ev
 |.v i=>YV i
 |.c d=>evC d
 |.bin m a b=>ZY (ev F a) (ev F b) (VQ m)
 |.neg a=>Zq (ev F a) Zfx
 |.cmp m a b=>ZY (ev F a) (ev F b) (ZcL m)
 |.not a=>Zq (ev F a) ZbB
 |.and a b=>Yz (ev F a) (ev F b) (evC (.bl ae))
 |.or a b=>Yz (ev F a) (evC (.bl ac)) (ev F b)
 |.ife c a b=>Yz (ev F c) (ev F a) (ev F b)
 |.tupE a=>ev F a
 |.lstE a=>Zq (ev F a) Zdl
 |.aN=>evC (.tup [])
 |.aC a r=>ZY (ev F a) (ev F r) WX
 |.ix a b=>ZY (ev F a) (ev F b) ixR
 |.slice a s t=>Yk (ev F a) (ev F s) (ev F t) Yu
 |.nop=>evC .non
 |.part a=>Zq (ev F a) WD
 |.call f a p=>Zq (ev F a) (Wi (F f) p)
 |.len a=>Zq (ev F a) Ui
 |.tOf a=>Zq (ev F a) VM
 |.listOf a=>Zq (ev F a) Zbo
 |.intOf a=>Zq (ev F a) Zfi
 |.min a b=>ZY (ev F a) (ev F b) Zfr
 |.max a b=>ZY (ev F a) (ev F b) Zfq
 |.isi T a=>Zq (ev F a) (Zbh T)
 |.rs _ _=>λ_ _=>ab
 |.inv a=>Zq (ev F a) Zfk
 |.tupR _=>λ_ _=>ab
 |.look n p a=>Zq (ev F a) (Zbp n p)
 |.dget a k d=>Yk (ev F a) (ev F k) (ev F d) getD
 |.inR q a b=>ZY (ev F a) (ev F b) (Zie q)
 |.all _=>λ_ _=>ab
 |.any _=>λ_ _=>ab
 |.comp rng l j g h=>Ye one (YF rng) l (ev F j) (ev F g) (ev F h)
 |.comp2 l j g h=>Ye two Ux l (ev F j) (ev F g) (ev F h)
 |.compT l j g h=>Ye two WM l (ev F j) (ev F g) (ev F h)
 |.lstR a b=>ZY (ev F a) (ev F b) Zbr
 |.new i=>evC (.obj i)
 |.meth tab o a=>ZY (ev F o) (ev F a) (Zbv F tab)
 |.isc _ _=>λ_ _=>ab
 |.tix o a=>ZY (ev F o) (ev F a) Zgj
 |.dict n a=>Zq (ev F a) (Zeh n)
 |.dnew=>Zei
 |.strOf _=>λ_ _=>ab
 |.joinE _ _=>λ_ _=>ab
 |.starts _ _=>λ_ _=>ab
 |.rng2 _ _=>λ_ _=>ab
 |.srt _=>λ_ _=>ab
 |.comp3 l j g h=>Ye Jn Zch l (ev F j) (ev F g) (ev F h)
 |.dd a b e=>ddE (ev F a) (ev F b) (ev F e)
 |.dgN o k d=>Yk (ev F o) (ev F k) (ev F d) gtD
 |.pop o=>Zq (ev F o) Zdw
 |.ksrt o=>Zq (ev F o) QW
inductive Fl where
 |nx (U:Env)|rt (d:D)|bk (U:Env)|ct (U:Env)
noncomputable def Zf(U:Env)(i:Nat)(d:D):Env:=U.set i (aa d)
noncomputable def Zi(b:D->Env->Za->Ot (Fl×Za)):Li D->Env->Za->Ot (Fl×Za)
 |[],U,c=>aa (.nx U,c)
 |d :: e,U,c=>match b d U c with
  |some (.nx U',a)=>Zi b e U' a
  |some (.ct U',a)=>Zi b e U' a
  |some (.bk U',a)=>aa (.nx U',a)
  |some (.rt v,a)=>aa (.rt v,a)
  |none=>ab
noncomputable def Zt(c:D->Env->Za->Ot (Fl×Za))(a:Nat):Nat->Nat->Env->Za->Ot (Fl×Za)
 |0,i,U,e=>match e[a]? with
  |some (_,f)=>if f.length<=i then aa (.nx U,e) else ab
  |none=>ab
 |n+1,i,U,e=>match e[a]? with
  |some (_,f)=>match f[i]? with
   |none=>aa (.nx U,e)
   |some d=>match c d U e with
    |some (.nx U',b)=>Zt c a n (i+1) U' b
    |some (.ct U',b)=>Zt c a n (i+1) U' b
    |some (.bk U',b)=>aa (.nx U',b)
    |some (.rt v,b)=>aa (.rt v,b)
    |none=>ab
  |none=>ab
abbrev Ex:=Env->Za->Ot (Fl×Za)
noncomputable def Yt(f g:Ex):Ex:=λU b=>match f U b with
 |some (.nx U',a)=>g U' a
 |r=>r
noncomputable def Qi(f:Ev):Ex:=λU b=>match f U b with
 |some (d,a)=>aa (.rt d,a)
 |none=>ab
def WH(i:Nat)(f:Ev):Ex:=λU b=>match f U b with
 |some (d,a)=>aa (.nx (Zf U i d),a)
 |none=>ab
def Us(i j:Nat)(f:Ev):Ex:=λU b=>match f U b with
 |some (.tup [x,y],a)=>aa (.nx (Zf (Zf U i x) j y),a)
 |_=>ab
def Zb3(i j l:Nat)(f:Ev):Ex:=λU b=>match f U b with
 |some (.tup [x,y,z],a)=>aa (.nx (Zf (Zf (Zf U i x) j y) l z),a)
 |_=>ab
noncomputable def Zaf(f:Ev):Ex:=λU b=>match f U b with
 |some (_,a)=>aa (.nx U,a)
 |none=>ab
def Zak(a:Nat)(d:D)(c:Za):Ot Za:=match c[a]? with
 |some (ac,b)=>if b.length < Zw then aa (c.set a (ac,b++[d])) else ab
 |_=>ab
def Wc(a:Nat)(j:Int)(d:D)(c:Za):Ot Za:=match c[a]? with
 |some (ac,b)=>match ixN b.length j with
  |some p=>aa (c.set a (ac,b.set p d))
  |none=>ab
 |_=>ab
def Zam(i:Nat)(f:Ev):Ex:=λU e=>match U[i]? with
 |some (aa (.lst a))=>match f U e with
  |some (d,c)=>match Zak a d c with
   |some b=>aa (.nx U,b)
   |none=>ab
  |none=>ab
 |_=>ab
def Zal(o f:Ev):Ex:=λU g=>match o U g with
 |some (.lst a,e)=>match f U e with
  |some (d,c)=>match Zak a d c with
   |some b=>aa (.nx U,b)
   |none=>ab
  |none=>ab
 |_=>ab
def Zfb(a b:Nat)(c:Za):Ot Za:=match c[a]?,c[b]? with
 |some (ac,e),aa (ac,d)=>if e.length+d.length<=Zw then aa (c.set a (ac,e++d)) else ab
 |_,_=>ab
def ZaK(i:Nat)(f:Ev):Ex:=λU e=>match U[i]? with
 |some (aa (.lst a))=>match f U e with
  |some (.lst b,d)=>match Zfb a b d with
   |some c=>aa (.nx U,c)
   |none=>ab
  |_=>ab
 |_=>ab
def Qd(i:Nat)(k f:Ev):Ex:=λU g=>match f U g with
 |some (d,e)=>match U[i]? with
  |some (aa (.lst a))=>match k U e with
   |some (.int j,c)=>match Wc a j d c with
    |some b=>aa (.nx U,b)
    |none=>ab
   |_=>ab
  |_=>ab
 |none=>ab
def ZaF(i:Nat)(k j f:Ev):Ex:=λU h=>match f U h with
 |some (d,e)=>match U[i]? with
  |some (aa (.dic a))=>match k U e with
   |some (.int x,c)=>match j U c with
    |some (.int y,b)=>match b[a]? with
     |some (ac,g)=>if g.length < Zw then aa (.nx U,b.set a (ac,Wm g x y d)) else ab
     |_=>ab
    |_=>ab
   |_=>ab
  |_=>ab
 |none=>ab
noncomputable def Z2(c:Ev)(f g:Ex):Ex:=λU b=>match c U b with
 |some (.bl ac,a)=>f U a
 |some (.bl ae,a)=>g U a
 |_=>ab
def Wo(i:Nat)(rng:Bool)(g:Ev)(b:Ex):Ex:=λU f=>match g U f with
 |some (x,c)=>match Ws rng x with
  |some e=>Zi (λd U s=>b (Zf U i d) s) e U c
  |none=>match rng,x with
   |false,.lst a=>match c[a]? with
    |some (_,e)=>Zt (λd U s=>b (Zf U i d) s) a e.length 0 U c
    |none=>ab
   |_,_=>ab
 |none=>ab
noncomputable def Z5(ok:Za->Prop)(b:D->D->Env->Za->Ot (Fl×Za)):Li (D×D)->Env->Za->Ot (Fl×Za)
 |[],U,c=>open Classical in if ok c then aa (.nx U,c) else ab
 |p :: d,U,c=>open Classical in if ok c then (match b p.1 p.2 U c with
  |some (.nx U',a)=>Z5 ok b d U' a
  |some (.ct U',a)=>Z5 ok b d U' a
  |some (.bk U',a)=>aa (.nx U',a)
  |some (.rt v,a)=>aa (.rt v,a)
  |none=>ab) else ab
def V5(i j:Nat)(f:Ev)(b:Ex):Ex:=λU e=>match f U e with
 |some (.tup [.tup d,.tup c],a)=>Z5 (λ_=>True) (λx y U s=>b (Zf (Zf U i x) j y) s) (d.zip c) U a
 |_=>ab
noncomputable def Xu:Nat->Li D->Li (D×D)
 |_,[]=>[]
 |k,x :: a=>(.int (k:Int),x) :: Xu (k+1) a
noncomputable def ZhU(x:D)(d:Za):Ot (Li D×(Za->Prop)):=match x with
 |.tup b=>aa (b,λ_=>True)
 |.lst a=>match d[a]? with
  |some c=>aa (c.2,λs=>s[a]?=aa c)
  |none=>ab
 |_=>ab
def V4(i j:Nat)(e:Ev)(b:Ex):Ex:=λU d=>match e U d with
 |some (x,a)=>match ZhU x a with
  |some (c,ok)=>Z5 ok (λx y U s=>b (Zf (Zf U i x) j y) s) (Xu 0 c) U a
  |none=>ab
 |none=>ab
def YD(i j:Nat)(b:Ex)(d:D)(U:Env)(s:Za):Ot (Fl×Za):=match d with
 |.tup [x,y]=>b (Zf (Zf U i x) j y) s
 |_=>ab
def Zca(i j l:Nat)(b:Ex)(d:D)(U:Env)(s:Za):Ot (Fl×Za):=match d with
 |.tup [x,y,z]=>b (Zf (Zf (Zf U i x) j y) l z) s
 |_=>ab
def ZaN(i j l:Nat)(e:Ev)(b:Ex):Ex:=λU d=>match e U d with
 |some (.tup c,a)=>Zi (Zca i j l b) c U a
 |_=>ab
def ZaM(i j:Nat)(f:Ev)(b:Ex):Ex:=λU e=>match f U e with
 |some (.lst a,c)=>match c[a]? with
  |some (_,d)=>Zt (YD i j b) a d.length 0 U c
  |none=>ab
 |some (.tup d,c)=>Zi (YD i j b) d U c
 |_=>ab
noncomputable def Z6(f g:Ex):Ex:=λU b=>match f U b with
 |some (.nx U',a)=>g U' a
 |some (.ct U',a)=>g U' a
 |some (.bk U',a)=>aa (.nx U',a)
 |some (.rt v,a)=>aa (.rt v,a)
 |none=>ab
def Yd(c:Ev)(b:Ex):Nat->Ex
 |0=>λ_ _=>ab
 |n+1=>Z2 c (Z6 b (Yd c b n)) λU a=>aa (.nx U,a)
def ex(F:Nat->Fn):CS->Ex
 |.skip=>λU f=>aa (.nx U,f)
 |.seq a b=>Yt (ex F a) (ex F b)
 |.ret e=>Qi (ev F e)
 |.set i e=>WH i (ev F e)
 |.app i e=>Zam i (ev F e)
 |.ext i e=>ZaK i (ev F e)
 |.put i k e=>Qd i (ev F k) (ev F e)
 |.ite c a b=>Z2 (ev F c) (ex F a) (ex F b)
 |.for1 i rng d b=>Wo i rng (ev F d) (ex F b)
 |.forP i j d b=>V5 i j (ev F d) (ex F b)
 |.forE i j d b=>V4 i j (ev F d) (ex F b)
 |.for3 _ _ _=>λ_ _=>ab
 |.set2 i j e=>Us i j (ev F e)
 |.for4 i j l d b=>ZaN i j l (ev F d) (ex F b)
 |.for2 i j d b=>ZaM i j (ev F d) (ex F b)
 |.whl c b=>Yd (ev F c) (ex F b) 1000
 |.brk=>λU f=>aa (.bk U,f)
 |.cont=>λU f=>aa (.ct U,f)
 |.stop=>λ_ _=>ab
 |.set3 i j l e=>Zb3 i j l (ev F e)
 |.act e=>Zaf (ev F e)
 |.dput i a b e=>ZaF i (ev F a) (ev F b) (ev F e)
 |.app2 o e=>Zal (ev F o) (ev F e)
structure FD where
 ps:Nat
 ns:Nat
 body:CS
def fnD(F:Nat->Fn)(f:FD):Fn:=λb c=>
 if b.length=f.ps then
  match ex F f.body (b.map aa++af (f.ns - b.length) ab) c with
  |some (.rt d,a)=>aa (d,a)
  |some (.nx _,a)=>aa (.non,a)
  |_=>ab
 else ab
def run(T:Nat->Ot FD):Nat->Nat->Fn
 |0,_=>λ_ _=>ab
 |n+1,i=>match T i with
  |some f=>fnD (run T n) f
  |none=>λ_ _=>ab
inductive GV where
 |fn (i:Nat) (ps:Nat) (ds:List D)|c (d:D)|blt|dct (ks:List Str) (ds:List D)|cls (i:Nat) (ms:List (Str×Nat×Nat)) (subs:List Nat)
abbrev Gs:=Li (Str×GV)
noncomputable def CE.ofConst:Const->Ot CE
 |.none=>aa (.c .non)
 |.bool b=>aa (.c (.bl b))
 |.int i=>aa (.c (.int i))
 |.str x=>aa (.c (.str x))
 |_=>ab
noncomputable def XA(sc:bc)(x:Str):Bool:=!(x==("__debug__":Str))&&!(x==("__classdict__":Str))&&match sc.names.lookup x with
 |some .local=>ac
 |some .cell=>ac
 |some .free=>ac
 |_=>ae
noncomputable def ZH(sc:bc)(x:Str):Bool:=!(x==("__debug__":Str))&&match sc.names.lookup x with
 |some .globalImplicit=>ac
 |_=>ae
noncomputable def ZhR(x:Str):Ot Ty:=
 if x = "int" then aa .int else if x = "bool" then aa .bool else if x = "str" then aa .str else if x = "tuple" then aa .tuple else ab
noncomputable def ZN(sc:bc):Li Str:=(sc.names.filter λp=>aj (p.2=.free)).map (·.1)
noncomputable def Ze0(f:Str)(x:CE):Ot CE:=
 if f = "len" then aa (.len x) else if f = "tuple" then aa (.tOf x) else if f = "list" then aa (.listOf x) else if f = "int" then aa (.intOf x) else if f = "sorted" then aa (.ksrt x) else ab
noncomputable def Ze1(f:Str)(x y:CE):Ot CE:=if f = "min" then aa (.min x y) else if f = "max" then aa (.max x y) else ab
noncomputable def QV(G:Gs)(x:Str):Bool:=match G.lookup x with
 |some .blt=>ac
 |_=>ae
def Zgk(G:Gs)(sc:bc)(t:Str):Ot Ty:=if ZH sc t&&QV G t then ZhR t else ab
def Jq(G:Gs)(sc:bc):aw->Ot Ty
 |.Name t _=>Zgk G sc t
 |_=>ab
noncomputable def UQ(_:Gs)(_:bc)(_:aw):Ot (Li Nat):=ab
noncomputable def Zeq(m:Str)(k:Nat)(G:Gs)(x:Str):Ot (Nat×Nat):=match G.lookup x with
 |some (.cls i b _)=>(match b.lookup m with
  |some (j,a)=>if a=k+1 then aa (i,j) else ab
  |none=>ab)
 |_=>ab
def Y7(m:Str)(k:Nat)(G:Gs):Li (Nat×Nat):=(G.map Prod.fst).filterMap (Zeq m k G)
noncomputable def ZO:Li (Ot aw)->Ot (Li Str)
 |[]=>aa []
 |some (.Constant (.str k) _ _) :: r=>(ZO r).map (k :: ·)
 |_=>ab
noncomputable def Zee:aw->Ot (Str×Li aw)
 |.Call (.Name f _) a [] _=>aa (f,a)
 |_=>ab
def fnA(G:Gs)(sc:bc)(nm:Str)(e:aw):Ot (Li aw):=(Zee e).bind λp=>og (p.1=nm/\ZH sc p.1=ac/\QV G p.1=ac) (aa p.2)
noncomputable def Zfz:Li aw->Ot aw
 |[a]=>aa a
 |_=>ab
def ZS(G:Gs)(sc:bc)(e:aw):Ot aw:=(fnA G sc "range" e).bind Zfz
noncomputable def Qr(_:Gs)(_:bc)(_:Str)(_:aw):Ot aw:=ab
noncomputable def ZhQ:Li aw->Ot (aw×aw)
 |[a,b]=>aa (a,b)
 |_=>ab
def Vv(G:Gs)(sc:bc)(f:Str)(e:aw):Ot (aw×aw):=if f = "list" then (fnA G sc "range" e).bind ZhQ else ab
def o3{g e d a:Type}(f:g->e->d->a):Ot g->Ot e->Ot d->Ot a
 |some x,b,c=>o2 (f x) b c
 |none,_,_=>ab
variable{γ:Type}
def WA{P:γ->Prop}{f:α->γ}{a:Ot α}{c:γ}(h:a.map f=aa c)(k:∀ x,a=aa x->P (f x)):P c:=by
 cases a with
 |none=>exact Zb h
 |some x=>cases h;exact k x rfl
variable{β:Type}
def ZU{P:γ->Prop}{f:α->β->γ}{a:Ot α}{b:Ot β}{c:γ}(h:o2 f a b=aa c)(k:∀ x y,a=aa x->b=aa y->P (f x y)):P c:=by
 cases a with
 |none=>exact Zb h
 |some x=>cases b with
  |none=>exact Zb h
  |some y=>cases h;exact k x y rfl rfl
def Xa{g:Type}{P:g->Prop}{f:α->β->γ->g}{a:Ot α}{b:Ot β}{d:Ot γ}{c:g}(h:o3 f a b d=aa c)(k:∀ x y z,a=aa x->b=aa y->d=aa z->P (f x y z)):P c:=by
 cases a with
 |none=>exact Zb h
 |some x=>exact ZU (P:=P) h λy z e i=>k x y z rfl e i
def Xb{P:Prop}{p:Prop}[Decidable p]{o:Ot α}{c:α}(h:og p o=aa c)(k:p->o=aa c->P):P:=by
 unfold og at h;by_cases a:p
 .rw[am a]at h;exact k a h
 .rw[ao a]at h;cases h
def j_e{P:Prop}{o:Ot (Ot α)}{c:α}(h:o.join=aa c)(k:o=aa (aa c)->P):P:=by
 cases o with
 |none=>exact Zb h
 |some x=>cases h;exact k rfl
def Zas(G:Gs)(sc:bc)(f:Str)(a:aw)(r:aw->Ot CE):Ot CE:=match Qr G sc f a with
 |some e=>(r e).map .tupR
 |none=>match Vv G sc f a with
  |some (u,v)=>o2 .lstR (r u) (r v)
  |none=>((r a).map (Ze0 f)).join
def Zat(G:Gs)(sc:bc)(f:Str)(a b:aw)(r:aw->Ot CE):Ot CE:=if f = "isinstance" then (match UQ G sc b with
  |some l=>(r a).map (.isc l)
  |none=>o2 (λx T=>.isi T x) (r a) (Jq G sc b)) else (o2 (Ze1 f) (r a) (r b)).join
def Zax(G:Gs)(sc:bc)(f:Str)(d:Li aw)(h:Ot CE)(r:aw->Ot CE):Ot CE:=
 if ZH sc f then (match G.lookup f with
   |some (.fn i e g)=>og (d.length<=e/\e<=d.length+g.length) (h.map λc=>.call i c (g.drop (d.length+g.length - e)))
   |some .blt=>match d with
    |[a]=>Zas G sc f a r
    |[a,b]=>Zat G sc f a b r
    |_=>ab
   |some (.cls i _ _)=>match d with
    |[]=>aa (.new i)
    |_=>ab
   |_=>ab) else ab
def Zid(o:Ot CE)(d:Li aw)(r:aw->Ot CE):Ot CE:=match d with
 |[a]=>o2 (λx y=>.dgN x y (.c .non)) o (r a)
 |[a,b]=>o3 .dgN o (r a) (r b)
 |_=>ab
def Zec(G:Gs)(c:aw)(m:Str)(g:Pos)(d:Li aw)(f:Pos)(e:Ot CE)(r:aw->Ot CE):Ot CE:=match c with
 |.Dict _ _ _=>(match d with
  |[a,b]=>og (m = "get"/\(g.endLine==f.line)=ac) (o3 .dget (r c) (r a) (r b))
  |_=>ab)
 |.Name _ _=>og ((g.endLine==f.line)=ac/\d.length < 20) (if m = "pop" then og (d.length=0) ((r c).map .pop) else if m = "get" then Zid (r c) d r else if m = "index" then og (d.length=1) (o2 .tix (r c) e) else o2 (.meth (Y7 m d.length G)) (r c) e)
 |_=>ab
def ZgK(G:Gs)(sc:bc)(f:aw)(b:Li aw)(d:Pos)(a:Ot CE)(r:aw->Ot CE):Ot CE:=match f with
 |.Name f _=>Zax G sc f b a r
 |.Attribute c m e=>Zec G c m e b d a r
 |_=>ab
noncomputable def Zig:aw->Bool
 |.Slice ..=>ac
 |_=>ae
noncomputable def cVs(f:aw->Ot CE):Li aw->Ot CE
 |[]=>aa .aN
 |e :: a=>match f e,cVs f a with
  |some x,aa r=>aa (.aC x r)
  |_,_=>ab
noncomputable def W6:aw->Ot (aw×aw)
 |.Tuple [a,b] _ _=>aa (a,b)
 |_=>ab
def Jb:Li (Ot aw)->Ot (aw×aw)
 |[aa e]=>W6 e
 |_=>ab
noncomputable def Zdr:Li aw->Ot aw
 |[e]=>aa e
 |_=>ab
def Zh9(f:aw->Ot CE)(a:Li (Ot aw))(b:Li aw):Ot CE:=match a with
 |[]=>og (b.length=0) (aa .dnew)
 |_=>match Jb a with
  |some p=>o3 .dd (f p.1) (f p.2) ((Zdr b).bind f)
  |none=>og (a.length=b.length/\a≠[]/\a.length<=15) (o2 .dict (ZO a) (cVs f b))
noncomputable def XT(_:Gs)(_:bc)(_:aw):Ot (Li aw):=ab
def XH(G:Gs)(sc:bc)(e:aw):Ot (Li aw):=(fnA G sc "zip" e).bind λa=>og (a.length=2) (aa a)
def Y5(G:Gs)(sc:bc)(e:aw):Ot aw:=(fnA G sc "enumerate" e).bind Zfz
def X7(G:Gs)(sc:bc)(e:aw):Ot aw:=Y5 G sc e
noncomputable def nmE:aw->Ot Str
 |.Name x _=>aa x
 |_=>ab
def nmL:Li aw->Ot (Li Str)
 |[a,b]=>o2 (λx y=>[x,y]) (nmE a) (nmE b)
 |[a,b,c]=>o3 (λx y z=>[x,y,z]) (nmE a) (nmE b) (nmE c)
 |_=>ab
def tgN:aw->Ot (Li Str)
 |.Name x _=>aa [x]
 |.Tuple a _ _=>nmL a
 |_=>ab
noncomputable def mkC(n:Nat)(r:Ot (Ot Bool))(a:Li Nat)(c d e:CE):CE:=if n=3 then .comp3 a c d e else match r with
 |some (aa b)=>.comp b a c d e
 |some ab=>.comp2 a c d e
 |none=>.compT a c d e
noncomputable def Y0(N:Li Str):Li Str->Ot (Li Nat)
 |[]=>aa []
 |x :: r=>match N.idxOf? x,Y0 N r with
  |some i,aa is=>aa (i :: is)
  |_,_=>ab
def Zby(G:Gs)(sc:bc)(N:Li Str)(x:Str):Ot CE:=
 if XA sc x then (N.idxOf? x).map .v else if ZH sc x then (match G.lookup x with
  |some (.c d)=>aa (.c d)
  |_=>ab) else ab
def QZ(G:Gs)(sc:bc):aw->Ot (Li Str×Li D)
 |.Name x _=>if ZH sc x then (match G.lookup x with
  |some (.dct a b)=>aa (a,b)
  |_=>ab) else ab
 |_=>ab
noncomputable def Wb:aw->Ot (Ot aw×Ot aw)
 |.Slice a b ab _=>aa (a,b)
 |_=>ab
noncomputable def ZeA(_:aw):Ot aw:=ab
noncomputable def Zif:CE->Bool
 |.neg (.c (.int 1))=>ac
 |_=>ae
noncomputable def Wr(sc:bc)(x:Str):Bool:=match sc.names.lookup x with
 |some .cell=>ac
 |some .free=>ac
 |_=>ae
def YS(sc a:bc)(b:Li Str):Bool:=
 aj (a.kind=.function)&&(a.names.all λp=>aj (p.2≠.cell))&&(b.all λx=>aj (a.names.lookup x=aa .local))&&(a.names.all λp=>!decide (p.2=.local)||aj (a.names.lookup p.1=aa .local)) &&
 aj (b++ZN a).Nodup&&(ZN a).all (λy=>Wr sc y&&aj (a.names.lookup y=aa .free))
noncomputable def Zfg(_:CmpOp):Ot Bool:=ab
noncomputable def unC(b:UnaryOp)(a:Ot CE):Ot CE:=match b with
 |.Not=>a.map .not
 |.USub=>a.map .neg
 |.Invert=>a.map .inv
 |_=>ab
def ZgM(G:Gs)(sc:bc)(f:aw->Ot CE)(a:Ot CE):Li CmpOp->Li aw->Ot CE
 |[c],[b]=>(match ZS G sc b with
  |some e=>o3 .inR (Zfg c) a (f e)
  |none=>o2 (.cmp c) a (f b))
 |_,_=>ab
def Zed(f:aw->Ot CE)(d:BoolOp)(c:Pos):Li aw->Ot CE
 |[]=>ab
 |[a]=>f a
 |a :: b :: r=>match d with
  |.And=>o2 .and (f a) (f (.BoolOp .And (b :: r) c))
  |.Or=>o2 .or (f a) (f (.BoolOp .Or (b :: r) c))
def Zgh(G:Gs)(sc:bc)(f:aw->Ot CE)(c:Ot aw->Ot CE)(a b:aw):Ot CE:=match Wb b with
 |some (d,g)=>o3 .slice (f a) (c d) (c g)
 |none=>match ZeA b with
  |some s=>(o2 (λx y=>og (Zif y=ac) (aa (.rs ae x))) (f a) (f s)).join
  |none=>match QZ G sc a with
   |some (e,h)=>(f b).map (.look e h)
   |none=>o2 .ix (f a) (f b)
def itC(G:Gs)(sc:bc)(b:aw)(f:aw->Ot CE):Li Str->Ot (Ot (Ot Bool)×CE)
 |[_]=>(match ZS G sc b with
  |some a=>(f a).map λc=>(aa (aa ac),c)
  |none=>(f b).map λc=>(aa (aa ae),c))
 |[_,_]=>(match Y5 G sc b with
  |some a=>(f a).map λc=>(aa ab,c)
  |none=>(f b).map λc=>(ab,c))
 |_=>(match Y5 G sc b with
  |some _=>ab
  |none=>(f b).map λc=>(ab,c))
noncomputable def ifC(f:aw->Ot CE):Li aw->Ot CE
 |[]=>aa (CE.c (.bl ac))
 |[c]=>f c
 |_=>ab
def Zef(G:Gs)(sc a:bc)(N:Li Str)(f:aw->Ot CE)(g:Li Str->aw->Ot CE)(d:aw):Li Comprehension->Ot CE
 |[⟨e,h,c,0⟩]=>(match tgN e with
  |none=>ab
  |some b=>og (YS sc a b=ac) (o3 (λi p (q:CE×CE)=>mkC b.length p.1 i p.2 q.1 q.2) (Y0 N (ZN a)) (itC G sc h f b) (o2 Prod.mk (g (b++ZN a) d) (ifC (g (b++ZN a)) c))))
 |_=>ab
mutual
def cE(G:Gs):Nat->bc->Li Str->aw->Ot CE
 |0,_,_,_=>ab
 |n+1,sc,N,e=>match e with
  |.Constant c _ _=>CE.ofConst c
  |.Name x _=>Zby G sc N x
  |.BinOp a h b _=>o2 (.bin h) (cE G n sc N a) (cE G n sc N b)
  |.UnaryOp h a _=>unC h (cE G n sc N a)
  |.Compare a l bs _=>ZgM G sc (cE G n sc N) (cE G n sc N a) l bs
  |.BoolOp h q k=>Zed (cE G n sc N) h k q
  |.IfExp c a b _=>o3 .ife (cE G n sc N c) (cE G n sc N a) (cE G n sc N b)
  |.Tuple m _ _=>(cEs G n sc N m).map .tupE
  |.List m _=>(cEs G n sc N m).map .lstE
  |.Dict i d _=>Zh9 (cE G n sc N) i d
  |.Subscript a b _=>Zgh G sc (cE G n sc N) (cO G n sc N) a b
  |.Call f p [] r=>ZgK G sc f p r (cEs G n sc N p) (cE G n sc N)
  |.ListComp o j g _=>Zef G sc g N (cE G n sc N) (cE G n g) o j
  |_=>ab
def cEs(G:Gs):Nat->bc->Li Str->Li aw->Ot CE
 |0,_,_,_=>ab
 |_+1,_,_,[]=>aa .aN
 |n+1,sc,N,e :: a=>o2 .aC (cE G n sc N e) (cEs G n sc N a)
def cO(G:Gs):Nat->bc->Li Str->Ot aw->Ot CE
 |0,_,_,_=>ab
 |_+1,_,_,ab=>aa .nop
 |n+1,sc,N,aa e=>(cE G n sc N e).map .part
end
noncomputable def YY:aw->Bool
 |.ListComp ..=>ac
 |.SetComp ..=>ac
 |.DictComp ..=>ac
 |_=>ae
noncomputable def Ue:aw->Bool
 |.Tuple ..=>ac
 |_=>ae
def ZgJ(N:Li Str)(a e:aw)(c:Ot CE):Ot CS:=match a with
 |.Name x _=>o2 .set (N.idxOf? x) c
 |.Tuple [.Name x _,.Name y _] _ _=>og ((YY e||Ue e)=ae) (o3 (λi j c=>og (i≠j) (aa (.set2 i j c))) (N.idxOf? x) (N.idxOf? y) c).join
 |.Tuple [.Name x _,.Name y _,.Name z _] _ _=>og ((YY e||Ue e)=ae) (o3 (λi j (p:Nat×CE)=>.set3 i j p.1 p.2) (N.idxOf? x) (N.idxOf? y) (o2 Prod.mk (N.idxOf? z) c))
 |_=>ab
def Zhd(sc:bc)(N:Li Str)(x:Str)(k e:aw)(f:aw->Ot CE):Ot CS:=og (YY e=ae/\Zig k=ae/\XA sc x=ac) (match W6 k with
 |some (a,b)=>o3 (λi (p:CE×CE) c=>.dput i p.1 p.2 c) (N.idxOf? x) (o2 Prod.mk (f a) (f b)) (f e)
 |none=>o3 .put (N.idxOf? x) (f k) (f e))
def Zfd(G:Gs)(sc:bc)(N:Li Str)(f:aw->Ot CE)(fs:Li aw->Ot CE)(h d:aw)(b:Ot CS):Ot CS:=match h with
 |.Name x _=>(match XT G sc d with
  |some g=>o3 .for3 (N.idxOf? x) (fs g) b
  |none=>match ZS G sc d with
   |some a=>o3 (λi c b=>.for1 i ac c b) (N.idxOf? x) (f a) b
   |none=>o3 (λi c b=>.for1 i ae c b) (N.idxOf? x) (f d) b)
 |.Tuple [.Name x _,.Name y _] _ _=>(o2 (λi j=>og (i≠j) (aa (i,j))) (N.idxOf? x) (N.idxOf? y)).join.bind λp=>(match XH G sc d with
  |some g=>o2 (.forP p.1 p.2) (fs g) b
  |none=>match X7 G sc d with
   |some e=>o2 (.forE p.1 p.2) (f e) b
   |none=>o2 (.for2 p.1 p.2) (f d) b)
 |.Tuple [.Name x _,.Name y _,.Name z _] _ _=>o3 (λ(p:Nat×Nat) (q:Nat×CE) b=>.for4 p.1 p.2 q.1 q.2 b) (o2 Prod.mk (N.idxOf? x) (N.idxOf? y)) (o2 Prod.mk (N.idxOf? z) (f d)) b
 |_=>ab
def ZgI(sc:bc)(N:Li Str)(x m:Str)(b a:Pos)(c:Ot CE):Ot CS:=og (XA sc x=ac/\(b.endLine==a.line)=ac) (if m = "append" then o2 .app (N.idxOf? x) c else if m = "extend" then o2 .ext (N.idxOf? x) c else ab)
def ZgE(sc:bc)(N:Li Str)(f:aw->Ot CE):aw->Ot CS
 |.Call (.Name g d) h c a=>(f (.Call (.Name g d) h c a)).map .act
 |.Call (.Attribute (.Name x _) m b) [e] [] a=>ZgI sc N x m b a (f e)
 |.Call (.Attribute (.Subscript o k p) m b) [e] [] a=>og (m = "append"/\(b.endLine==a.line)=ac) (o2 .app2 (f (.Subscript o k p)) (f e))
 |_=>ab
mutual
def cS(G:Gs):Nat->bc->Li Str->Stmt->Ot CS
 |0,_,_,_=>ab
 |n+1,sc,N,s=>match s with
  |.Assign [.Subscript (.Name x _) k _] e _=>Zhd sc N x k e (cE G n sc N)
  |.Assign [d] e _=>ZgJ N d e (cE G n sc N e)
  |.Expr e _=>ZgE sc N (cE G n sc N) e
  |.Return (aa e) _=>(cE G n sc N e).map .ret
  |.If c a b _=>o3 .ite (cE G n sc N c) (cSs G n sc N a) (cSs G n sc N b)
  |.For d f b [] _=>Zfd G sc N (cE G n sc N) (cEs G n sc N) d f (cSs G n sc N b)
  |.While c b [] _=>o2 .whl (cE G n sc N c) (cSs G n sc N b)
  |.Pass _=>aa .skip
  |.Break _=>aa .brk
  |.Continue _=>aa .cont
  |.Raise _ _ _=>aa .stop
  |_=>ab
def cSs(G:Gs):Nat->bc->Li Str->Li Stmt->Ot CS
 |0,_,_,_=>ab
 |_+1,_,_,[]=>aa .skip
 |n+1,sc,N,s :: r=>o2 .seq (cS G n sc N s) (cSs G n sc N r)
end
end Dp
namespace Dp
open PySem PySem.Spec PyProof.Rows L2
class ClsTab where
 ca:Nat->Addr
variable [ClsTab]
variable{X:Cx}{e:aw}
def Zl{t a:TE}(h:PE X e t)(i:∀ O H Q,a O H Q->t O H Q):PE X e a:=λb s O H Q I q=>h b s O H Q I (i O H Q q)
def WF{t a:TT}(h:PT X e t)(i:∀ O H Q,a O H Q->t O H Q):PT X e a:=λb s O H Q I q=>h b s O H Q I (i O H Q q)
def ZbN{e:Li aw}{t b:TA}(h:PA X e t)(i:∀ O H Q,b O H Q->t O H Q):PA X e b:=λa c s O H Q I q=>h a c s O H Q I (i O H Q q)
def ZbR{e:Ot aw}{t a:TO}(h:PO X e t)(i:∀ O H Q,a O H Q->t O H Q):PO X e a:=λb s O H Q I q=>h b s O H Q I (i O H Q q)
def ZB{e:Stmt}{t a:TS}(h:PS X e t)(i:∀ D O H,a D O H->t D O H):PS X e a:=λb s O H D I q=>h b s O H D I (i D O H q)
def Je{e:Li Stmt}{t a:TS}(h:PSs X e t)(i:∀ D O H,a D O H->t D O H):PSs X e a:=λb s O H D I q=>h b s O H D I (i D O H q)
def KT(K:Fg)(a:Ad)(b:Li V):Prop:=
 ∃ (o:Obj) (its:Array vL) (n:Nat),K.lookup a=aa o/\o.cls=.type "tuple"/\o.data=.seq its n/\its.size<=av/\Vals b its.toList
def TupAt(K:Fg)(H:Hp)(a:Ad)(b:Li V):Prop:=H a=aa (.tup b)\/KT K a b
variable{K:Fg}{H:Hp}{xs:Li V}
def TupAt.sq{a:Ad}(h:TupAt K H a xs):SqT K H a xs:=by
 rcases h with h|h
 .exact .inl (.inl h)
 .exact .inr h
def Yb(H:Hp)(a:Ad):Prop:=∃ b,H a=aa (.dT b)
def LA(b:Li Ad)(H:Hp)(i:Nat)(a:Ad):Prop:=b[i]?=aa a/\¬Yb H a
variable{o:HO}
def Wz{a:Ad}(h:H a=aa o)(n:∀ b,o≠.dT b):¬Yb H a:=λ⟨b,z⟩=>n b (au (h.symm.trans z))
mutual
inductive Den(K:Fg)(ad:List Addr)(H:Hp):V->D->Prop where
 |non:Den K ad H .non .non
 |bl (b:Bool):Den K ad H (.bl b) (.bl b)
 |int (i:Int):Den K ad H (.int i) (.int i)
 |str (x:Str):Den K ad H (.str x) (.str x)
 |tup {a:Addr}{xs:List V}{ds:List D} (h:TupAt K H a xs) (r:Dens K ad H xs ds):Den K ad H (.ref a) (.tup ds)
 |lst {a:Addr}{i:Nat} (h:LA ad H i a):Den K ad H (.ref a) (.lst i)
 |dic {a:Addr}{i:Nat} (h:ad[i]?=aa a) (n:Yb H a):Den K ad H (.ref a) (.dic i)
 |dct {a:Addr}{kvs:List (Key×V)}{ks:List Str}{vs:List V}{ds:List D} (h:H a=aa (.dK kvs)) (hk:kvs=(ks.zip vs).map λp=>(Sum.inr p.1,p.2)) (nd:ks.Nodup/\ks≠[]) (hl:ks.length=vs.length) (r:Dens K ad H vs ds):Den K ad H (.ref a) (.dct ks ds)
 |obj {a dx:Addr}{i:Nat} (h:H a=aa (.ins (ClsTab.ca i) dx [])) (n:a∉ad):Den K ad H (.ref a) (.obj i)
 |kt {a:Addr}{ks:List Str}{o:Obj}{its:Array Value}{n:Nat} (l:K.lookup a=aa o) (c:o.cls=.type "tuple") (g:o.dict=ab) (e:o.data=.seq its n) (z:its.size<=av) (r:Vals (ks.map V.str) its.toList):Den K ad H (.ref a) (.kt ks)
inductive Dens(K:Fg)(ad:List Addr)(H:Hp):List V->List D->Prop where
 |nil:Dens K ad H [] []
 |cons {v:V}{d:D}{vs:List V}{ds:List D} (h:Den K ad H v d) (r:Dens K ad H vs ds):Dens K ad H (v :: vs) (d :: ds)
end
structure Ext(ad:List Addr)(H:Hp)(ad':List Addr)(H':Hp):Prop where
 pre:∀ (i:Nat) (a:Addr),ad[i]?=aa a->ad'[i]?=aa a
 tup:∀ b xs,H b=aa (.tup xs)->H' b=aa (.tup xs)
 dk:∀ b kvs,H b=aa (.dK kvs)->H' b=aa (.dK kvs)
 keep:∀ b o,H b=aa o->b∉ad->H' b=aa o
 new:∀ b,b∈ad'->b∈ad\/H b=ab
 kd:∀ (i:Nat) (a:Addr),ad[i]?=aa a->(Yb H a↔Yb H' a)
def Ext.refl(a:Li Ad)(H:Hp):Ext a H a H:=⟨λ_ _ h=>h,λ_ _ h=>h,λ_ _ h=>h,λ_ _ h _=>h,λ_ h=>.inl h,λ_ _ _=>Iff.rfl⟩
def Ext.trans{d j g:Li Ad}{f l k:Hp}(x:Ext d f j l)(y:Ext j l g k):Ext d f g k:=by
 refine⟨λi a h=>y.pre i a (x.pre i a h),λb c h=>y.tup b c (x.tup b c h),λb c h=>y.dk b c (x.dk b c h),λb o h n=>?_,λb h=>?_,λi a h=>(x.kd i a h).trans (y.kd i a (x.pre i a h))⟩
 .refine y.keep b o (x.keep b o h n) λz=>?_
  rcases x.new b z with z|z
  .exact n z
  .rw[h]at z;cases z
 .rcases y.new b h with z|z
  .exact x.new b z
  .cases e:f b with
   |none=>exact .inr rfl
   |some o=>
    by_cases q:b∈d
    .exact .inl q
    .rw[x.keep b o e q]at z;cases z
variable{ad ad':Li Ad}{H':Hp}
def TupAt.mono{a:Ad}(x:Ext ad H ad' H')(h:TupAt K H a xs):TupAt K H' a xs:=h.imp (x.tup _ _) id
def TupAt.upd{K:Fg}{H:Hp}{a p:Ad}{b:Li V}{o d:HO}(c:H p=aa o)(e:∀ b,o≠.tup b)(h:TupAt K H a b):TupAt K (upd H p d) a b:=by
 rcases h with h|h
 .refine .inl ?_
  have n:a≠p:=λz=>by subst z;rw[h]at c;cases c;exact e _ rfl
  rw[upd_ne n];exact h
 .exact .inr h
variable{ks:Li Str}{vs ys:Li V}{d:D}{ds es:Li D}{i:Nat}{kvs kvs':Li (Li Key×V)}{st:Za}{p:Ad}{α:Type}{O:L2.St}{U:Env}
variable{K:Fg}{ad ad':Li Ad}{H H':Hp}
def Zgo(h:ks≠[])(a:ks.length=vs.length):(ks.zip vs).map (λp=>((Sum.inr p.1:Key),p.2))≠[]:=by
 cases ks with
 |nil=>exact aq rfl h
 |cons k ks=>cases vs with
  |nil=>cases a
  |cons v vs=>exact cL _ _
structure Keeps(K:Fg)(ad ad':List Addr)(H H':Hp):Prop where
 t:∀ {a xs},TupAt K H a xs->TupAt K H' a xs
 l:∀ {i:Nat}{a:Addr},ad[i]?=aa a->ad'[i]?=aa a/\(Yb H a↔Yb H' a)
 k:∀ {a kvs},kvs≠[]->H a=aa (.dK kvs)->H' a=aa (.dK kvs)
 o:∀ {a C dx},H a=aa (.ins C dx [])->a∉ad->H' a=aa (.ins C dx [])/\a∉ad'
def Den.map(x:Keeps K ad ad' H H'){v:V}(h:Den K ad H v d):Den K ad' H' v d:=
 Den.rec (motive_1:=λv d _=>Den K ad' H' v d) (motive_2:=λvs ds _=>Dens K ad' H' vs ds) .non .bl .int .str (λh _ r=>.tup (x.t h) r) (λh=>.lst ⟨(x.l h.1).1,λz=>h.2 ((x.l h.1).2.mpr z)⟩) (λh n=>.dic (x.l h).1 ((x.l h).2.mp n)) (λh f c e _ r=>.dct (x.k (λz=>Zgo c.2 e (f.symm.trans z)) h) f c e r) (λh n=>.obj (x.o h n).1 (x.o h n).2) .kt .nil (λ_ _ a b=>.cons a b) h
def Dens.map(x:Keeps K ad ad' H H')(h:Dens K ad H vs ds):Dens K ad' H' vs ds:=
 Dens.rec (motive_1:=λ_ _ _=>True) (motive_2:=λvs ds _=>Dens K ad' H' vs ds) trivial (λ_=>trivial) (λ_=>trivial) (λ_=>trivial) (λ_ _ _=>trivial) (λ_=>trivial) (λ_ _=>trivial) (λ_ _ _ _ _ _=>trivial) (λ_ _=>trivial) (λ_ _ _ _ _ _=>trivial) .nil (λa _ _ b=>.cons (a.map x) b) h
def Ext.keeps(x:Ext ad H ad' H'):Keeps K ad ad' H H':=⟨λh=>h.mono x,λh=>⟨x.pre _ _ h,x.kd _ _ h⟩,λ_ h=>x.dk _ _ h,λh n=>⟨x.keep _ _ h n,λz=>(x.new _ z).elim n λq=>by rw[h]at q;cases q⟩⟩
def Den.mono(x:Ext ad H ad' H'){v:V}(h:Den K ad H v d):Den K ad' H' v d:=h.map x.keeps
def Dens.mono(x:Ext ad H ad' H')(h:Dens K ad H vs ds):Dens K ad' H' vs ds:=h.map x.keeps
def Zfn(x:∀ (i:Nat) (a:Ad),ad[i]?=aa a->ad'[i]?=aa a)(y:∀ b,b∈ad'->b∈ad\/∃ c,H b=aa (.lst c)):Keeps K ad ad' H H:=⟨id,λh=>⟨x _ _ h,Iff.rfl⟩,λ_ h=>h,λh n=>⟨h,λz=>(y _ z).elim n λ⟨c,q⟩=>by rw[h]at q;cases q⟩⟩
theorem Dens.length:∀ {vs:Li V}{ds:Li D},Dens K ad H vs ds->vs.length=ds.length
 |_,_,.nil=>rfl
 |_,_,.cons _ r=>ar (·+1) (Dens.length r)
theorem Dens.get:∀ {vs:Li V}{ds:Li D}{i:Nat}{d:D},Dens K ad H vs ds->ds[i]?=aa d->∃ v,vs[i]?=aa v/\Den K ad H v d
 |_,_,_,_,.nil,e=>by simp at e
 |_,_,0,_,.cons h _,e=>by simp at e;subst e;exact⟨_,rfl,h⟩
 |_,_,i+1,d,.cons _ r,e=>by
  obtain⟨v,b,a⟩:=Dens.get (i:=i) (d:=d) r (by simpa using e)
  exact⟨v,by simpa using b,a⟩
theorem Dens.append:∀ {vs ws:Li V}{ds es:Li D},Dens K ad H vs ds->Dens K ad H ws es->Dens K ad H (vs++ws) (ds++es)
 |_,_,_,_,.nil,s=>s
 |_,_,_,_,.cons h r,s=>.cons h (Dens.append r s)
theorem Dens.take:∀ {vs:Li V}{ds:Li D} (n:Nat),Dens K ad H vs ds->Dens K ad H (vs.take n) (ds.take n)
 |_,_,0,_=>.nil
 |_,_,_+1,.nil=>.nil
 |_,_,n+1,.cons h r=>.cons h (Dens.take n r)
theorem Dens.drop:∀ {vs:Li V}{ds:Li D} (n:Nat),Dens K ad H vs ds->Dens K ad H (vs.drop n) (ds.drop n)
 |_,_,0,r=>r
 |_,_,_+1,.nil=>.nil
 |_,_,n+1,.cons _ r=>Dens.drop n r
theorem Dens.set{v:V}(h:Den K ad H v d):∀ {vs:Li V}{ds:Li D} (n:Nat),Dens K ad H vs ds->Dens K ad H (vs.set n v) (ds.set n d)
 |_,_,_,.nil=>.nil
 |_,_,0,.cons _ r=>.cons h r
 |_,_,n+1,.cons q r=>.cons q (Dens.set h n r)
theorem Dens.rep{v:V}(h:Den K ad H v d):∀ n:Nat,Dens K ad H (af n v) (af n d)
 |0=>.nil
 |n+1=>.cons h (Dens.rep h n)
def Den.ofInt{v:V}{i:Int}(h:Den K ad H v (.int i)):v=.int i:=by cases h;rfl
def Den.ofStr{v:V}{x:Str}(h:Den K ad H v (.str x)):v=.str x:=by cases h;rfl
def Den.ofBl{v:V}{b:Bool}(h:Den K ad H v (.bl b)):v=.bl b:=by cases h;rfl
def Den.ofDct{v:V}(h:Den K ad H v (.dct ks ds)):∃ a vs,v=.ref a/\H a=aa (.dK ((ks.zip vs).map λp=>(Sum.inr p.1,p.2)))/\ks.length=vs.length/\Dens K ad H vs ds:=by
 cases h with
 |dct h c d b r=>subst c;exact⟨_,_,rfl,h,b,r⟩
def Den.ofTup{v:V}(h:Den K ad H v (.tup ds)):∃ a b,v=.ref a/\TupAt K H a b/\Dens K ad H b ds:=by
 cases h with
 |tup h r=>exact⟨_,_,rfl,h,r⟩
def Den.ofLst{v:V}(h:Den K ad H v (.lst i)):∃ a,v=.ref a/\LA ad H i a:=by
 cases h with
 |lst h=>exact⟨_,rfl,h⟩
def Den.ofDic{v:V}(h:Den K ad H v (.dic i)):∃ a,v=.ref a/\ad[i]?=aa a/\Yb H a:=by
 cases h with
 |dic h n=>exact⟨_,rfl,h,n⟩
def Den.newL{a:Ad}(h:ad[i]?=aa a):Den K ad (upd H a (.lst xs)) (.ref a) (.lst i):=.lst ⟨h,Wz upd_same λ_ z=>nomatch z⟩
def LA.mono{a:Ad}(x:Ext ad H ad' H')(h:LA ad H i a):LA ad' H' i a:=⟨x.pre _ _ h.1,λz=>h.2 ((x.kd _ _ h.1).mpr z)⟩
def Den.ofKt{v:V}(h:Den K ad H v (.kt ks)):∃ a o b n,v=.ref a/\K.lookup a=aa o/\(o.cls=.type "tuple"/\o.dict=ab)/\o.data=.seq b n/\b.size<=av/\Vals (ks.map V.str) b.toList:=by
 cases h with
 |kt l c g e z r=>exact⟨_,_,_,_,rfl,l,⟨c,g⟩,e,z,r⟩
theorem W9:∀ ks:Li Str,Dens K ad H (ks.map V.str) (ks.map D.str)
 |[]=>.nil
 |k :: ks=>.cons (.str k) (W9 ks)
def Den.ofObj{v:V}(h:Den K ad H v (.obj i)):∃ a b,v=.ref a/\H a=aa (.ins (ClsTab.ca i) b []):=by
 cases h with
 |obj h n=>exact⟨_,_,rfl,h⟩
def KL(K:Fg)(a:Ad)(b:Li V):Prop:=
 ∃ (o:Obj) (its:Array vL) (n:Nat),(K.lookup a=aa o/\o.cls=.type "list")/\(o.dict=ab/\o.data=.seq its n)/\its.size<=av/\Vals b its.toList
inductive Ents(K:Fg)(ad:List Addr)(H:Hp):List (List Key×V)->List D->Prop where
 |nil:Ents K ad H [] []
 |cons {i j:Int}{v:V}{d:D}{kvs:List (List Key×V)}{ds:List D} (h:Den K ad H v d) (r:Ents K ad H kvs ds):Ents K ad H (([.inl i,.inl j],v) :: kvs) (.tup [.int i,.int j,d] :: ds)
def Ents.map(x:Keeps K ad ad' H H')(h:Ents K ad H kvs ds):Ents K ad' H' kvs ds:=by
 induction h with
 |nil=>exact .nil
 |cons h _ a=>exact .cons (h.map x) a
def Ents.mono(x:Ext ad H ad' H')(h:Ents K ad H kvs ds):Ents K ad' H' kvs ds:=h.map x.keeps
inductive CellOk(K:Fg)(ad:List Addr)(H:Hp)(a:Addr)(c:Y8):Prop where
 |l {xs:List V} (n:¬Yb H a) (r:Dens K ad H xs c.2) (h:(c.1=ac/\H a=aa (.lst xs))\/(c.1=ae/\((∃ o,H a=aa (.frz o (.lst xs)))\/KL K a xs)))
 |d {kvs:List (List Key×V)} (r:Ents K ad H kvs c.2) (e:c.1=ac) (h:H a=aa (.dT kvs))
structure StOk(K:Fg)(ad:List Addr)(H:Hp)(st:Za):Prop where
 len:ad.length=st.length
 nd:∀ (i j:Nat) (a:Addr) (c d:List D),ad[i]?=aa a->ad[j]?=aa a->st[i]?=aa (ac,c)->st[j]?=aa (ac,d)->i=j
 cell:∀ (i:Nat) (c:Y8),st[i]?=aa c->∃ a,ad[i]?=aa a/\CellOk K ad H a c
def CellOk.sq{a:Ad}{c:Y8}(h:CellOk K ad H a c)(n:¬Yb H a):∃ f,Dens K ad H f c.2/\SqL K H a f:=by
 cases h with
 |l _ r h=>
  obtain⟨_,e⟩|⟨_,⟨o,e⟩|⟨o,b,n,⟨p,m⟩,⟨k,j⟩,i,g⟩⟩:=h
  .exact⟨_,r,.inl (.inl e)⟩
  .exact⟨_,r,.inl (.inr ⟨o,e⟩)⟩
  .exact⟨_,r,.inr ⟨o,b,n,p,m,k,j,i,g⟩⟩
 |d r e h=>exact aq ⟨_,h⟩ n
def StOk.list{a:Ad}{b:Bool}(S:StOk K ad H st)(h:LA ad H i a)(e:st[i]?=aa (b,ds)):∃ d,Dens K ad H d ds/\SqL K H a d:=by
 obtain⟨g,f,c⟩:=S.cell i _ e;rw[h.1]at f;cases f
 exact c.sq h.2
def StOk.listM{a:Ad}(S:StOk K ad H st)(h:LA ad H i a)(e:st[i]?=aa (ac,ds)):∃ b,Dens K ad H b ds/\H a=aa (.lst b):=by
 obtain⟨g,f,c⟩:=S.cell i _ e;rw[h.1]at f;cases f
 cases c with
 |l _ r q=>
  obtain⟨_,q⟩|⟨q,_⟩:=q
  .exact⟨_,r,q⟩
  .cases q
 |d r _ q=>exact aq ⟨_,q⟩ h.2
def StOk.dict{a:Ad}{b:Bool}(S:StOk K ad H st)(h:ad[i]?=aa a)(n:Yb H a)(e:st[i]?=aa (b,ds)):∃ kvs,Ents K ad H kvs ds/\H a=aa (.dT kvs)/\b=ac:=by
 obtain⟨g,f,c⟩:=S.cell i _ e;rw[h]at f;cases f
 cases c with
 |l z=>exact aq n z
 |d r e q=>exact⟨_,r,q,e⟩
def WL{a:Ad}(b:¬Yb H p)(c:∀ kvs,o≠.dT kvs):Yb H a↔Yb (upd H p o) a:=by
 by_cases z:a=p
 .subst z
  exact⟨λq=>aq q b,λq=>aq q (Wz upd_same c)⟩
 .unfold Yb
  rw[upd_ne z]
def Q7(a:H p=ab):¬Yb H p:=λ⟨_,z⟩=>by rw[a]at z;cases z
def Ext.laid(a:H p=ab)(d:∀ kvs,o≠.dT kvs:=by intro _ z;cases z):Ext ad H ad (upd H p o):=
 ⟨λ_ _ h=>h,λb c h=>by rw[upd_ne (ne_of_none h a)];exact h,λb c h=>by rw[upd_ne (ne_of_none h a)];exact h,λb o h _=>by rw[upd_ne (ne_of_none h a)];exact h,λ_ h=>.inl h,λ_ _ _=>WL (Q7 a) d⟩
def CellOk.laid{a:Ad}{c:Y8}(g:ad[i]?=aa a)(f:H p=ab)(x:Ext ad H ad' (upd H p o))(h:CellOk K ad H a c):CellOk K ad' (upd H p o) a c:=by
 cases h with
 |l n r h=>
  refine .l (λz=>n ((x.kd i a g).mpr z)) (r.mono x) ?_
  rcases h with⟨b,e⟩|⟨b,⟨o,e⟩|e⟩
  .exact .inl ⟨b,by rw[upd_ne (ne_of_none e f)];exact e⟩
  .exact .inr ⟨b,.inl ⟨o,by rw[upd_ne (ne_of_none e f)];exact e⟩⟩
  .exact .inr ⟨b,.inr e⟩
 |d r e h=>exact .d (r.mono x) e (by rw[upd_ne (ne_of_none h f)];exact h)
def StOk.laid(S:StOk K ad H st)(b:H p=ab)(d:∀ kvs,o≠.dT kvs:=by intro _ z;cases z):StOk K ad (upd H p o) st:=
 ⟨S.len,S.nd,λi c e=>let ⟨a,h,q⟩:=S.cell i c e;⟨a,h,q.laid h b (Ext.laid b d)⟩⟩
def Xx{l:Li α}{x y:α}(h:(l++[x])[i]?=aa y):l[i]?=aa y\/(i=l.length/\y=x):=by
 by_cases a:i < l.length
 .rw[bZ a]at h
  exact .inl h
 .rw[cG (by omega)]at h
  have:i - l.length=0:=by
   cases e:i - l.length with
   |zero=>rfl
   |succ k=>rw[e]at h;simp at h
  rw[this]at h;simp at h;exact .inr ⟨by omega,h.symm⟩
def Y2{l:Li α}{x y:α}(h:l[i]?=aa y):(l++[x])[i]?=aa y:=by
 rw[bZ (bJ.mp h).1];exact h
def Zu{l:Li α}{x:α}:(l++[x])[l.length]?=aa x:=by simp
def Ext.pushG(c:H p=ab)(e:∀ (i:Nat) (a:Ad),ad[i]?=aa a->(Yb H a↔Yb (upd H p o) a)):Ext ad H (ad++[p]) (upd H p o):=
 ⟨λ_ _ h=>Y2 h,λb d h=>by rw[upd_ne (ne_of_none h c)];exact h,λb d h=>by rw[upd_ne (ne_of_none h c)];exact h,λb o h _=>by rw[upd_ne (ne_of_none h c)];exact h,λb h=>(bO.mp h).elim .inl λz=>.inr (by rw[aR.mp z];exact c),e⟩
def Ext.push(a:H p=ab):Ext ad H (ad++[p]) (upd H p (.lst xs)):=Ext.pushG a λ_ _ _=>WL (Q7 a) λ_ z=>nomatch z
def StOk.more(S:StOk K ad H st)(o:∀ (i:Nat) (c:Li D),ad[i]?=aa p->st[i]?=aa (ac,c)->False)(u:∀ (i:Nat) (c:Y8) (a:Ad),ad[i]?=aa a->CellOk K ad H a c->CellOk K (ad++[p]) H' a c)(t:CellOk K (ad++[p]) H' p (ac,ds)):StOk K (ad++[p]) H' (st++[(ac,ds)]):=by
 have b:∀ (i:Nat) (c:Li D) (a:Ad),(ad++[p])[i]?=aa a->st[i]?=aa (ac,c)->ad[i]?=aa a:=λi c a h e=>by
  obtain⟨z,k,_⟩:=S.cell i _ e;have n:=Y2 (x:=p) k;rw[h]at n;cases n;exact k
 refine⟨by rw[aI,aI,S.len];rfl,λi j a c d m l g f=>?_,λi c e=>?_⟩
 .rcases Xx g with g|⟨v,_⟩
  .rcases Xx f with f|⟨r,_⟩
   .exact S.nd i j a c d (b i c a m g) (b j d a l f) g f
   .have k:=b i c a m g
    rw[r,<-S.len,Zu]at l;cases l;exact(o i c k g).elim
  .rcases Xx f with f|⟨r,_⟩
   .have s:=b j d a l f
    rw[v,<-S.len,Zu]at m;cases m;exact(o j d s f).elim
   .omega
 .rcases Xx e with e|⟨y,w⟩
  .obtain⟨a,h,q⟩:=S.cell i c e
   exact⟨a,Y2 h,u i c a h q⟩
  .subst w
   exact⟨p,by rw[y,<-S.len];exact Zu,t⟩
def StOk.noNew(S:StOk K ad H st)(a:H p=ab)(i:Nat)(c:Li D)(h:ad[i]?=aa p)(e:st[i]?=aa (ac,c)):False:=by
 obtain⟨f,b,q⟩:=S.cell i _ e;rw[h]at b;cases b
 cases q with
 |l _ _ q=>
  obtain⟨_,q⟩|⟨q,_⟩:=q
  .rw[a]at q;cases q
  .cases q
 |d _ _ q=>rw[a]at q;cases q
def StOk.push(S:StOk K ad H st)(a:H p=ab)(r:Dens K ad H xs ds):StOk K (ad++[p]) (upd H p (.lst xs)) (st++[(ac,ds)]):=
 S.more (S.noNew a) (λ_ _ _ h q=>q.laid h a (Ext.push a)) (.l (Wz upd_same λ_ z=>nomatch z) (r.mono (Ext.push a)) (.inl ⟨rfl,upd_same⟩))
def StOk.wrG(S:StOk K ad H st)(g:Keeps K ad ad H (upd H p o))(j:p∉ad):StOk K ad (upd H p o) st:=
 ⟨S.len,S.nd,λi c e=>by
  obtain⟨a,h,q⟩:=S.cell i c e;have f:a≠p:=λz=>j (by rw[<-z];exact aX h)
  refine⟨a,h,?_⟩;cases q with
  |l n r q=>
   refine .l (λz=>n ((g.l h).2.mpr z)) (r.map g) ?_
   rcases q with⟨b,q⟩|⟨b,⟨o,q⟩|q⟩
   .exact .inl ⟨b,by rw[upd_ne f];exact q⟩
   .exact .inr ⟨b,.inl ⟨o,by rw[upd_ne f];exact q⟩⟩
   .exact .inr ⟨b,.inr q⟩
  |d r t q=>exact .d (r.map g) t (by rw[upd_ne f];exact q)⟩
def StOk.has{a:Ad}(S:StOk K ad H st)(b:ad[i]?=aa a):(∃ o,H a=aa o)\/∃ o,K.lookup a=aa o:=by
 obtain⟨h,c,q⟩:=S.cell i _ (Lg (show i < st.length by rw[<-S.len];exact(bJ.mp b).1))
 rw[b]at c;cases c
 cases q with
 |l _ _ q=>
  obtain⟨_,q⟩|⟨_,⟨o,q⟩|⟨o,e,m,⟨f,g⟩,_⟩⟩:=q
  .exact .inl ⟨_,q⟩
  .exact .inl ⟨_,q⟩
  .exact .inr ⟨_,f⟩
 |d _ _ q=>exact .inl ⟨_,q⟩
def StOk.extD(S:StOk K ad H st)(b:H p=ab)(c:∀ o,K.lookup p≠aa o):Ext ad H (ad++[p]) (upd H p (.dT kvs)):=
 Ext.pushG b λi a h=>by
  have n:a≠p:=λz=>(S.has h).elim (λ⟨o,q⟩=>by rw[z,b]at q;cases q) λ⟨o,q⟩=>c o (z ▸ q)
  unfold Yb;rw[upd_ne n]
def StOk.pushD(S:StOk K ad H st)(a:H p=ab)(b:∀ o,K.lookup p≠aa o):StOk K (ad++[p]) (upd H p (.dT [])) (st++[(ac,[])]):=
 S.more (S.noNew a) (λ_ _ _ h q=>q.laid h a (S.extD a b)) (.d .nil rfl upd_same)
def StOk.adopt(S:StOk K ad H st)(c:H p=aa (.lst xs))(f:p∉ad)(r:Dens K ad H xs ds):StOk K (ad++[p]) H (st++[(ac,ds)]):=by
 have a:Keeps K ad (ad++[p]) H H:=Zfn (λ_ _ h=>Y2 h) (λb g=>(bO.mp g).imp id λz=>⟨xs,by rw[aR.mp z];exact c⟩)
 exact S.more (λi _ h _=>f (aX h)) (λ_ _ _ _ q=>by
  cases q with
  |l n r h=>exact .l n (r.map a) h
  |d r e h=>exact .d (r.map a) e h) (.l (Wz c λ_ z=>nomatch z) (r.map a) (.inl ⟨rfl,c⟩))
def Ext.writeG{a:Ad}{d:HO}(h:H a=aa o)(i:a∈ad)(k:∀ c,o≠.tup c)(j:∀ c,o≠.dK c)(g:Yb H a↔Yb (upd H a d) a):Ext ad H ad (upd H a d):=
 ⟨λ_ _ h=>h,λb f e=>by rw[upd_ne (ne_of e h (λz=>k _ z.symm))];exact e,λb f e=>by rw[upd_ne (ne_of e h (λz=>j _ z.symm))];exact e,λb o e n=>by rw[upd_ne (show b≠a from λz=>n (by rw[z];exact i))];exact e,λ_ h=>.inl h,λ_ b _=>by
  by_cases z:b=a
  .rw[z];exact g
  .unfold Yb;rw[upd_ne z]⟩
def Ext.write{a:Ad}(h:H a=aa (.lst xs))(b:a∈ad):Ext ad H ad (upd H a (.lst ys)):=
 Ext.writeG h b (λ_ z=>nomatch z) (λ_ z=>nomatch z) ⟨λz=>aq z (Wz h λ_ z=>nomatch z),λz=>aq z (Wz upd_same λ_ z=>nomatch z)⟩
def StOk.writeG{a:Ad}{g:HO}(S:StOk K ad H st)(h:ad[i]?=aa a)(e:st[i]?=aa (ac,ds))(A:H a=aa o)(C:∀ q u,o≠.frz q u)(x:Ext ad H ad (upd H a g))(r:CellOk K ad (upd H a g) a (ac,es)) :
  StOk K ad (upd H a g) (st.set i (ac,es)):=by
 have B:i < st.length:=(bJ.mp e).1;refine⟨by rw[bH];exact S.len,λj k b c d F E s p=>?_,λj c q=>?_⟩
 .have up:∀ (j:Nat) (c:Li D),(st.set i (ac,es))[j]?=aa (ac,c)->∃ v,st[j]?=aa (ac,v):=λj c q=>by
   by_cases z:i=j
   .subst z;exact⟨_,e⟩
   .rw[cC z]at q;exact⟨_,q⟩
  obtain⟨v,s⟩:=up j c s;obtain⟨G,p⟩:=up k d p;exact S.nd j k b v G F E s p
 .by_cases z:i=j
  .subst z
   rw[bX B]at q;cases q;exact⟨a,h,r⟩
  .rw[cC z]at q
   obtain⟨b,m,hz⟩:=S.cell j c q;refine⟨b,m,?_⟩;have y:c.1=ac->b≠a:=λt w=>by
    obtain⟨J,I⟩:=c;cases (show J=ac from t)
    exact z (S.nd i j a ds I h (w ▸ m) e q)
   cases hz with
   |l n f hz=>
    refine .l (λz=>n ((x.kd j b m).mpr z)) (f.mono x) ?_
    rcases hz with⟨t,hz⟩|⟨t,⟨o,hz⟩|hz⟩
    .exact .inl ⟨t,by rw[upd_ne (y t)];exact hz⟩
    .exact .inr ⟨t,.inl ⟨o,by rw[upd_ne (ne_of hz A (λz=>C _ _ z.symm))];exact hz⟩⟩
    .exact .inr ⟨t,.inr hz⟩
   |d f t hz=>exact .d (f.mono x) t (by rw[upd_ne (y t)];exact hz)
def StOk.write{a:Ad}(S:StOk K ad H st)(h:LA ad H i a)(e:st[i]?=aa (ac,ds))(b:H a=aa (.lst xs))(r:Dens K ad H ys es) :
  StOk K ad (upd H a (.lst ys)) (st.set i (ac,es)):=
 S.writeG h.1 e b (λ_ _ z=>nomatch z) (Ext.write b (aX h.1)) (.l (Wz upd_same λ_ z=>nomatch z) (r.mono (Ext.write b (aX h.1))) (.inl ⟨rfl,upd_same⟩))
def Ext.writeD{a:Ad}(h:H a=aa (.dT kvs))(b:a∈ad):Ext ad H ad (upd H a (.dT kvs')):=
 Ext.writeG h b (λ_ z=>nomatch z) (λ_ z=>nomatch z) ⟨λ_=>⟨_,upd_same⟩,λ_=>⟨_,h⟩⟩
def StOk.writeD{a:Ad}(S:StOk K ad H st)(h:ad[i]?=aa a)(e:st[i]?=aa (ac,ds))(b:H a=aa (.dT kvs))(r:Ents K ad H kvs' es) :
  StOk K ad (upd H a (.dT kvs')) (st.set i (ac,es)):=
 S.writeG h e b (λ_ _ z=>nomatch z) (Ext.writeD b (aX h)) (.d (r.mono (Ext.writeD b (aX h))) rfl upd_same)
structure EnvOk(K:Fg)(ad:List Addr)(H:Hp)(O:L2.St)(U:Env):Prop where
 len:O.length=U.length
 at_:∀ (i:Nat) (d:D),U[i]?=aa (aa d)->∃ v,O[i]?=aa (aa v)/\Den K ad H v d
def EnvOk.mono(x:Ext ad H ad' H')(h:EnvOk K ad H O U):EnvOk K ad' H' O U:=⟨h.len,λi d e=>let ⟨v,e1,e2⟩:=h.at_ i d e;⟨v,e1,e2.mono x⟩⟩
def EnvOk.set{v:V}(h:EnvOk K ad H O U)(i:Nat)(r:Den K ad H v d):EnvOk K ad H (O.set i (aa v)) (Zf U i d):=by
 refine⟨by unfold Zf;rw[bH,bH];exact h.len,λj e q=>?_⟩
 unfold Zf at q;by_cases z:i=j
 .subst z
  by_cases a:i < U.length
  .rw[bX a]at q
   cases q;exact⟨v,by rw[bX (by rw[h.len];exact a)],r⟩
  .rw[dH (by rw[bH];omega)]at q
   cases q
 .rw[cC z]at q
  obtain⟨w,c,b⟩:=h.at_ j e q;exact⟨w,by rw[cC z];exact c,b⟩
def Post(K:Fg)(ad:Li Ad)(H:Hp)(d:D)(a:Za)(Q:VK):Prop:=∀ v ad' H',Ext ad H ad' H'->StOk K ad' H' a->Den K ad' H' v d->Q v H'
def tE(K:Fg)(f:Env->Za->Res):TE:=λO H Q=>∃ ad U st d a,EnvOk K ad H O U/\StOk K ad H st/\f U st=aa (d,a)/\Post K ad H d a Q
def tT(K:Fg)(f:Env->Za->Res):TT:=λO H Q=>∃ ad U st k a,EnvOk K ad H O U/\StOk K ad H st/\f U st=aa (.bl k,a)/\∀ ad' H',Ext ad H ad' H'->StOk K ad' H' a->Q k H'
def tA(K:Fg)(f:Env->Za->Res):TA:=λO H Q=>∃ ad U st ds a,EnvOk K ad H O U/\StOk K ad H st/\f U st=aa (.tup ds,a)/\∀ vs ad' H',Ext ad H ad' H'->StOk K ad' H' a->Dens K ad' H' vs ds->Q vs H'
def rD(K:Fg)(f:D->D->Za->Res):R2:=λx y H Q=>∃ ad st c b d a,StOk K ad H st/\Den K ad H x c/\Den K ad H y b/\f c b st=aa (d,a)/\Post K ad H d a Q
noncomputable def spD(K:Fg)(g:Fn):Sp:=λvs H Q _=>∃ ad ds st d a,StOk K ad H st/\Dens K ad H vs ds/\g ds st=aa (d,a)/\Post K ad H d a Q
def tS(K:Fg)(f:Env->Za->Ot (Fl×Za)):TS:=λD O H=>∃ ad U st r a,EnvOk K ad H O U/\StOk K ad H st/\f U st=aa (r,a) /\
 match r with
 |.nx U'=>∀ b ad' H',Ext ad H ad' H'->StOk K ad' H' a->EnvOk K ad' H' b U'->D.nx b H'
 |.bk U'=>∀ b ad' H',Ext ad H ad' H'->StOk K ad' H' a->EnvOk K ad' H' b U'->D.bk b H'
 |.ct U'=>∀ b ad' H',Ext ad H ad' H'->StOk K ad' H' a->EnvOk K ad' H' b U'->D.ct b H'
 |.rt d=>Post K ad H d a D.rt
def Post.at{Q:VK}(p:Post K ad H d st Q)(S:StOk K ad H st){v:V}(h:Den K ad H v d):Q v H:=p v ad H (Ext.refl _ _) S h
def Post.later{Q:VK}(p:Post K ad H d st Q)(x:Ext ad H ad' H'):Post K ad' H' d st Q:=λv a b y S h=>p v a b (x.trans y) S h
variable [ClsTab]
variable{x:D}{st':Za}
variable{X:Cx}
section
variable{a b c:aw}{fa fb fc:Ev}{pos:Pos}
def Zdd(O:L2.St)(H:Hp)(Q:VK)(h:tE K (YV i) O H Q):tVar i O H Q:=by
 obtain⟨ad,U,st,d,st',E,S,e,p⟩:=h;unfold YV at e;split at e
 .rename_i q
  obtain⟨v,b,a⟩:=E.at_ i _ q;cases e;exact⟨v,b,p.at S a⟩
 .exact Zb e
def V8{v:V}(hd:∀ ad H,Den K ad H v d)(O:L2.St)(H:Hp)(Q:VK)(h:tE K (evC d) O H Q):tC v O H Q:=by
 obtain⟨ad,U,st,a,st',E,S,e,p⟩:=h;cases e;exact p.at S (hd _ _)
def Vo{g:D->D->Za->Res}(O:L2.St)(H:Hp)(Q:VK)(h:tE K (ZY fa fb g) O H Q):tOp (rD K g) (tE K fa) (tE K fb) O H Q:=by
 obtain⟨ad,U,st,d,st',E,S,e,p⟩:=h;unfold ZY at e;split at e
 .rename_i x b l
  split at e
  .rename_i y a k
   refine⟨ad,U,st,x,b,E,S,l,λs f u j q n=>⟨f,U,b,y,a,E.mono j,q,k,λr c t i o m=>?_⟩⟩
   exact⟨c,a,x,y,d,st',o,n.mono i,m,e,p.later (j.trans i)⟩
  .exact Zb e
 .exact Zb e
def rU1(K:Fg)(g:D->Za->Res):V->Hp->VK->Prop:=λx H Q=>∃ ad st a d st',StOk K ad H st/\Den K ad H x a/\g a st=aa (d,st')/\Post K ad H d st' Q
def Zbb{g:D->Za->Res}(O:L2.St)(H:Hp)(Q:VK)(h:tE K (Zq fa g) O H Q):tUn (rU1 K g) (tE K fa) O H Q:=by
 obtain⟨ad,U,st,d,st',E,S,e,p⟩:=h;unfold Zq at e;split at e
 .rename_i x a f
  exact⟨ad,U,st,x,a,E,S,f,λk b l c j i=>⟨b,a,x,d,st',j,i,e,p.later c⟩⟩
 .exact Zb e
def Zba(O:L2.St)(H:Hp)(Q:Bool->Hp->Prop)(h:tT K fa O H Q):tE K fa O H λx d=>∃ c,x=.bl c/\Q c d:=by
 obtain⟨ad,U,st,k,st',E,S,e,p⟩:=h;exact⟨ad,U,st,.bl k,st',E,S,e,λv ad' H' x b a=>⟨k,a.ofBl,p ad' H' x b⟩⟩
def Z8{b c:Ev}{r:D×Za}(h:Yz fc b c U st=aa r):∃ k a,fc U st=aa (.bl k,a)/\(if k=ac then b U a else c U a)=aa r:=by
 unfold Yz at h;split at h
 .rename_i a q
  exact⟨ac,a,q,by rw[am rfl];exact h⟩
 .rename_i a q
  exact⟨ae,a,q,by rw[ao Bf];exact h⟩
 .exact Zb h
def Zff(O:L2.St)(H:Hp)(Q:VK)(h:tE K (Yz fc fa fb) O H Q):tIf (tT K fc) (tE K fa) (tE K fb) O H Q:=by
 obtain⟨ad,U,st,d,st',E,S,e,p⟩:=h;obtain⟨k,a,q,e⟩:=Z8 e;refine⟨ad,U,st,k,a,E,S,q,λb g c f=>?_⟩
 cases k with
 |true=>
  rw[am rfl]at e ⊢;exact⟨b,U,a,d,st',E.mono c,f,e,p.later c⟩
 |false=>
  rw[ao Bf]at e ⊢;exact⟨b,U,a,d,st',E.mono c,f,e,p.later c⟩
def ZaS(O:L2.St)(H:Hp)(Q:VK)(h:tE K (Yz fa fb (evC (.bl ae))) O H Q):tAndV (tE K fa) (tE K fb) O H Q:=by
 obtain⟨ad,U,st,d,st',E,S,e,p⟩:=h;obtain⟨k,a,q,e⟩:=Z8 e;refine⟨ad,U,st,.bl k,a,E,S,q,λi c j b f g=>⟨k,g.ofBl,?_⟩⟩
 cases k with
 |true=>
  rw[am rfl]at e ⊢;exact⟨c,U,a,d,st',E.mono b,f,e,p.later b⟩
 |false=>
  rw[ao Bf]at e ⊢;cases e;exact(p.later b).at f (.bl ae)
def Zc7(O:L2.St)(H:Hp)(Q:VK)(h:tE K (Yz fa (evC (.bl ac)) fb) O H Q):tOrV (tE K fa) (tE K fb) O H Q:=by
 obtain⟨ad,U,st,d,st',E,S,e,p⟩:=h;obtain⟨k,a,q,e⟩:=Z8 e;refine⟨ad,U,st,.bl k,a,E,S,q,λi c j b f g=>⟨k,g.ofBl,?_⟩⟩
 cases k with
 |true=>
  rw[am rfl]at e ⊢;cases e;exact(p.later b).at f (.bl ac)
 |false=>
  rw[ao Bf]at e ⊢;exact⟨c,U,a,d,st',E.mono b,f,e,p.later b⟩
def ZaR(O:L2.St)(H:Hp)(Q:Bool->Hp->Prop)(h:tT K (Yz fa fb (evC (.bl ae))) O H Q):tAnd (tT K fa) (tT K fb) O H Q:=by
 obtain⟨ad,U,st,d,st',E,S,e,p⟩:=h;obtain⟨k,a,q,e⟩:=Z8 e;refine⟨ad,U,st,k,a,E,S,q,λb m c g=>?_⟩
 cases k with
 |true=>
  rw[am rfl]at e ⊢;exact⟨b,U,a,d,st',E.mono c,g,e,λf l i j=>p f l (c.trans i) j⟩
 |false=>
  rw[ao Bf]at e ⊢;cases e;exact p b m c g
def Zc6(O:L2.St)(H:Hp)(Q:Bool->Hp->Prop)(h:tT K (Yz fa (evC (.bl ac)) fb) O H Q):tOr (tT K fa) (tT K fb) O H Q:=by
 obtain⟨ad,U,st,d,st',E,S,e,p⟩:=h;obtain⟨k,a,q,e⟩:=Z8 e;refine⟨ad,U,st,k,a,E,S,q,λb m c g=>?_⟩
 cases k with
 |true=>
  rw[am rfl]at e ⊢;cases e;exact p b m c g
 |false=>
  rw[ao Bf]at e ⊢;exact⟨b,U,a,d,st',E.mono c,g,e,λf l i j=>p f l (c.trans i) j⟩
def Za6(O:L2.St)(H:Hp)(Q:Bool->Hp->Prop)(h:tT K (Zq fa ZbB) O H Q):tNot (tT K fa) O H Q:=by
 obtain⟨ad,U,st,d,st',E,S,e,p⟩:=h;unfold Zq at e;split at e
 .rename_i x a f
  cases x with
  |bl k=>
   cases (show aa (D.bl (!k),a)=_ from e)
   exact⟨ad,U,st,k,_,E,S,f,λb i c g=>p b i c g⟩
  |_=>simp[ZbB]at e
 .exact Zb e
def Za7(O:L2.St)(H:Hp)(Q:VK)(h:tE K (Zq fa ZbB) O H Q):tNotV (tE K fa) O H Q:=by
 obtain⟨ad,U,st,d,st',E,S,e,p⟩:=h;unfold Zq at e;split at e
 .rename_i x a c
  cases x with
  |bl k=>
   cases (show aa (D.bl (!k),a)=_ from e)
   exact⟨ad,U,st,.bl k,_,E,S,c,λj g l b i f=>⟨k,f.ofBl,(p.later b).at i (.bl _)⟩⟩
  |_=>simp[ZbB]at e
 .exact Zb e
def Wp(O:L2.St)(H:Hp)(Q:Li V->Hp->Prop)(h:tA K (evC (.tup [])) O H Q):tNil O H Q:=by
 obtain⟨ad,U,st,d,st',E,S,e,p⟩:=h;cases e;exact p [] ad H (Ext.refl _ _) S .nil
def W2(O:L2.St)(H:Hp)(Q:Li V->Hp->Prop)(h:tA K (ZY fa fb WX) O H Q):tCons (tE K fa) (tA K fb) O H Q:=by
 obtain⟨ad,U,st,d,st',E,S,e,p⟩:=h;unfold ZY at e;split at e
 .rename_i x a l
  split at e
  .rename_i y c k
   cases y with
   |tup b=>
    have e:(if b.length < 1000 then aa (D.tup (x :: b),c) else ab)=aa (D.tup d,st'):=e
    split at e
    .cases e
     refine⟨ad,U,st,_,a,E,S,l,λt g u j q n=>⟨g,U,a,b,_,E.mono j,q,k,λs f r i o m=>?_⟩⟩
     exact p _ f r (j.trans i) o (.cons (n.mono i) m)
    .cases e
   |_=>simp[WX]at e
  .cases e
 .cases e
def Zdc(i:∀ U st ds st',fa U st=aa (.tup ds,st')->ds.length<=1000)(g:∀ U st d st',fa U st=aa (d,st')->∃ ds,d=.tup ds)(O:L2.St)(H:Hp)(Q:VK)(h:tE K fa O H Q):tTup (tA K fa) O H Q:=by
 obtain⟨ad,U,st,d,st',E,S,e,p⟩:=h;obtain⟨ds,rfl⟩:=g _ _ _ _ e;refine⟨ad,U,st,ds,st',E,S,e,λvs b k f j c=>⟨?_,λq a=>?_⟩⟩
 .rw[c.length]
  exact aM (i _ _ _ _ e) (by decide)
 .exact p _ b _ (f.trans (Ext.laid a)) (j.laid a) (.tup (.inl upd_same) (c.mono (Ext.laid a)))
def Zc4(k:∀ U st ds st',fa U st=aa (.tup ds,st')->ds.length<=1000)(O:L2.St)(H:Hp)(Q:VK)(h:tE K (Zq fa Zdl) O H Q):tLst (tA K fa) O H Q:=by
 obtain⟨ad,U,st,d,st',E,S,e,p⟩:=h;unfold Zq at e;split at e
 .rename_i x a c
  cases x with
  |tup ds=>
   cases (show aa (D.lst a.length,a++[(ac,ds)])=_ from e)
   refine⟨ad,U,st,ds,_,E,S,c,λvs b l j i g=>⟨?_,λq f=>?_⟩⟩
   .rw[g.length]
    exact aM (k _ _ _ _ c) (by decide)
   .refine p _ (b++[q]) _ (j.trans (Ext.push f)) (i.push f g) (.newL ?_)
    rw[<-i.len];exact Zu
  |_=>simp[Zdl]at e
 .exact Zb e
def V9{g:Fn}{a:Li V}{E:XK}(hd:∀ ad H,Dens K ad H a ds)(O:L2.St)(H:Hp)(Q:VK)(h:tE K (Zq fa (Wi g ds)) O H Q):tCall (spD K g) a E (tA K fa) O H Q:=by
 obtain⟨ad,U,st,d,st',E,S,e,p⟩:=h;unfold Zq at e;split at e
 .rename_i x i j
  cases x with
  |tup c=>exact⟨ad,U,st,c,_,E,S,j,λvs b m f l k=>⟨b,c++ds,_,d,st',l,k.append (hd _ _),e,p.later f⟩⟩
  |_=>simp[Wi]at e
 .exact Zb e
def rC(K:Fg)(g:Li D->Za->Res):Li V->Hp->VK->Prop:=λvs H Q=>∃ ad st ds d st',StOk K ad H st/\Dens K ad H vs ds/\g ds st=aa (d,st')/\Post K ad H d st' Q
noncomputable def on1(g:D->Za->Res):Li D->Za->Res
 |[x],st=>g x st
 |_,_=>ab
noncomputable def on2(g:D->D->Za->Res):Li D->Za->Res
 |[x,y],st=>g x y st
 |_,_=>ab
def YX{g:D->Za->Res}(O:L2.St)(H:Hp)(Q:VK)(h:tE K (Zq fa g) O H Q):tCB (rC K (on1 g)) (tCons (tE K fa) tNil) O H Q:=by
 obtain⟨ad,U,st,d,st',E,S,e,p⟩:=h;unfold Zq at e;split at e
 .rename_i x a f
  exact⟨ad,U,st,x,a,E,S,f,λk b l c j i=>⟨b,a,[x],d,st',j,.cons i .nil,e,p.later c⟩⟩
 .exact Zb e
def V7{g:D->D->Za->Res}(O:L2.St)(H:Hp)(Q:VK)(h:tE K (ZY fa fb g) O H Q):tCB (rC K (on2 g)) (tCons (tE K fa) (tCons (tE K fb) tNil)) O H Q:=by
 obtain⟨ad,U,st,d,st',E,S,e,p⟩:=h;unfold ZY at e;split at e
 .rename_i x b l
  split at e
  .rename_i y a k
   refine⟨ad,U,st,x,b,E,S,l,λs f u j q n=>⟨f,U,b,y,a,E.mono j,q,k,λr c t i o m=>?_⟩⟩
   exact⟨c,a,[x,y],d,st',o,.cons (n.mono i) (.cons m .nil),e,p.later (j.trans i)⟩
  .exact Zb e
 .exact Zb e
def tO(K:Fg)(f:Ev):TO:=λO H Q=>∃ ad U st d st',EnvOk K ad H O U/\StOk K ad H st/\f U st=aa (d,st') /\
 ((d=.non/\∀ ad' H',Ext ad H ad' H'->StOk K ad' H' st'->Q ab H')\/∃ i,d=.int i/\∀ ad' H',Ext ad H ad' H'->StOk K ad' H' st'->Q (aa i) H')
def rSl(K:Fg):V->Ot Int->Ot Int->Hp->VK->Prop:=λx b c H Q=>∃ ad st a d st',StOk K ad H st/\Den K ad H x a/\Z0 a b c st=aa (d,st')/\Post K ad H d st' Q
noncomputable def part:D->Ot (Ot Int)
 |.non=>aa ab
 |.int i=>aa (aa i)
 |_=>ab
def VF{l h:D}{r:D×Za}(e:Yu x l h st=aa r):∃ a b,part l=aa a/\part h=aa b/\Z0 x a b st=aa r:=by
 unfold Yu at e;split at e
 .exact⟨_,_,rfl,rfl,e⟩
 .exact⟨_,_,rfl,rfl,e⟩
 .exact⟨_,_,rfl,rfl,e⟩
 .exact⟨_,_,rfl,rfl,e⟩
 .exact Zb e
def ZeD{f:Ev}{Q:Ot Int->Hp->Prop}{o:Ot Int}(E:EnvOk K ad H O U)(S:StOk K ad H st)(e:f U st=aa (d,st'))(a:part d=aa o)(q:∀ ad' H',Ext ad H ad' H'->StOk K ad' H' st'->Q o H'):tO K f O H Q:=by
 refine⟨ad,U,st,d,st',E,S,e,?_⟩;cases d with
 |non=>cases a;exact .inl ⟨rfl,q⟩
 |int i=>cases a;exact .inr ⟨i,rfl,q⟩
 |_=>exact Zb a
def JQ(O:L2.St)(H:Hp)(Q:VK)(h:tE K (Yk fa fb fc Yu) O H Q):tSl (rSl K) (tE K fa) (tO K fb) (tO K fc) O H Q:=by
 obtain⟨ad,U,st,d,st',E,S,e,p⟩:=h;unfold Yk at e;split at e
 .rename_i x f m
  split at e
  .rename_i y j l
   split at e
   .rename_i z c k
    obtain⟨A,B,n,o,e⟩:=VF e;refine⟨ad,U,st,x,f,E,S,m,λw s F b v q=>ZeD (E.mono b) v l n λr D a u=>ZeD (E.mono (b.trans a)) u k o λg C i t=>?_⟩
    exact⟨g,c,x,d,st',t,q.mono (a.trans i),e,p.later (b.trans (a.trans i))⟩
   .exact Zb e
  .exact Zb e
 .exact Zb e
def Zc5(O:L2.St)(H:Hp)(Q:Ot Int->Hp->Prop)(h:tO K (evC .non) O H Q):tNoPart O H Q:=by
 obtain⟨ad,U,st,d,st',E,S,e,p⟩:=h;cases e;rcases p with⟨_,p⟩|⟨i,z,_⟩
 .exact p ad H (Ext.refl _ _) S
 .cases z
end
variable [ClsTab]
def PostS(K:Fg)(ad:Li Ad)(H:Hp)(r:Fl)(st':Za)(D:Ends):Prop:=match r with
 |.nx U'=>∀ a ad' H',Ext ad H ad' H'->StOk K ad' H' st'->EnvOk K ad' H' a U'->D.nx a H'
 |.bk U'=>∀ a ad' H',Ext ad H ad' H'->StOk K ad' H' st'->EnvOk K ad' H' a U'->D.bk a H'
 |.ct U'=>∀ a ad' H',Ext ad H ad' H'->StOk K ad' H' st'->EnvOk K ad' H' a U'->D.ct a H'
 |.rt d=>Post K ad H d st' D.rt
def PostS.later{r:Fl}{D:Ends}(x:Ext ad H ad' H')(p:PostS K ad H r st D):PostS K ad' H' r st D:=by
 cases r with
 |nx U=>exact λa b c y S E=>p a b c (x.trans y) S E
 |bk U=>exact λa b c y S E=>p a b c (x.trans y) S E
 |ct U=>exact λa b c y S E=>p a b c (x.trans y) S E
 |rt d=>exact Post.later p x
def ZQ{f:Ex}{D:Ends}{r:Fl}(E:EnvOk K ad H O U)(S:StOk K ad H st)(e:f U st=aa (r,st'))(p:PostS K ad H r st' D):tS K f D O H:=by
 refine⟨ad,U,st,r,st',E,S,e,?_⟩;cases r<;>exact p
def ZR{f:Ex}{D:Ends}(h:tS K f D O H):∃ ad U st r st',EnvOk K ad H O U/\StOk K ad H st/\f U st=aa (r,st')/\PostS K ad H r st' D:=by
 obtain⟨ad,U,st,r,st',E,S,e,p⟩:=h;refine⟨ad,U,st,r,st',E,S,e,?_⟩;cases r<;>exact p
variable{j l m:Nat}{E:Ends}{B:D->Env->Za->Ot (Fl×Za)}
section
variable{f g:Ex}{fe fi fk:Ev}
def Ub(D:Ends)(O:L2.St)(H:Hp)(h:tS K (λU st=>aa (.nx U,st)) D O H):tNext D O H:=by
 obtain⟨ad,U,st,r,st',E,S,e,p⟩:=ZR h;cases e;exact p O ad H (Ext.refl _ _) S E
def ZcY(D:Ends)(O:L2.St)(H:Hp)(h:tS K (λU st=>aa (.bk U,st)) D O H):tBreak D O H:=by
 obtain⟨ad,U,st,r,st',E,S,e,p⟩:=ZR h;cases e;exact p O ad H (Ext.refl _ _) S E
def ZaU(D:Ends)(O:L2.St)(H:Hp)(h:tS K (λU st=>aa (.ct U,st)) D O H):tCont D O H:=by
 obtain⟨ad,U,st,r,st',E,S,e,p⟩:=ZR h;cases e;exact p O ad H (Ext.refl _ _) S E
def Zdb(D:Ends)(O:L2.St)(H:Hp)(h:tS K (Yt f g) D O H):tSeq (tS K f) (tS K g) D O H:=by
 obtain⟨ad,U,st,r,st',E,S,e,p⟩:=ZR h;unfold Yt at e;split at e
 .rename_i a i q
  exact ZQ E S q λb j m c k l=>ZQ l k e (p.later c)
 .rename_i q
  refine ZQ E S e ?_;cases r with
  |nx a=>exact aq e (q a st')
  |bk a=>exact p
  |ct a=>exact p
  |rt d=>exact p
def Zda(D:Ends)(O:L2.St)(H:Hp)(h:tS K (Qi fe) D O H):tRet (tE K fe) D O H:=by
 obtain⟨ad,U,st,r,st',E,S,e,p⟩:=ZR h;unfold Qi at e;split at e
 .rename_i d a q
  cases e;exact⟨ad,U,st,d,_,E,S,q,p⟩
 .exact Zb e
def Vp(D:Ends)(O:L2.St)(H:Hp)(h:tS K (WH i fe) D O H):tAsg (tE K fe) (gName i) D O H:=by
 obtain⟨ad,U,st,r,st',E,S,e,p⟩:=ZR h;unfold WH at e;split at e
 .rename_i d c q
  cases e;exact⟨ad,U,st,d,_,E,S,q,λv a j b g f=>p _ a j b g ((E.mono b).set i f)⟩
 .exact Zb e
def Za8(D:Ends)(O:L2.St)(H:Hp)(h:tS K (Us i j fe) D O H):tAsg (tE K fe) (gTup K 2 (gCons (gName i) (gCons (gName j) gNil))) D O H:=by
 obtain⟨ad,U,st,r,st',E,S,e,p⟩:=ZR h;unfold Us at e;split at e
 .rename_i x y f q
  cases e;refine⟨ad,U,st,_,_,E,S,q,λv c m d l b=>?_⟩
  obtain⟨a,vs,rfl,g,rv⟩:=b.ofTup;cases rv with
  |cons b rv=>
   cases rv with
   |cons k rv=>
    cases rv;exact⟨a,_,rfl,(g).sq,rfl,_,_,rfl,_,_,rfl,rfl,p _ c m d l (((E.mono d).set i b).set j k)⟩
 .exact Zb e
def Za9(D:Ends)(O:L2.St)(H:Hp)(h:tS K (Zb3 i j l fe) D O H):tAsg (tE K fe) (gTup K 3 (gCons (gName i) (gCons (gName j) (gCons (gName l) gNil)))) D O H:=by
 obtain⟨ad,U,st,r,st',E,S,e,p⟩:=ZR h;unfold Zb3 at e;split at e
 .rename_i x y z f q
  cases e;refine⟨ad,U,st,_,_,E,S,q,λv c o d n b=>?_⟩
  obtain⟨a,vs,rfl,g,rv⟩:=b.ofTup;cases rv with
  |cons b rv=>
   cases rv with
   |cons m rv=>
    cases rv with
    |cons k rv=>
     cases rv;exact⟨a,_,rfl,(g).sq,rfl,_,_,rfl,_,_,rfl,_,_,rfl,rfl,p _ c o d n ((((E.mono d).set i b).set j m).set l k)⟩
 .exact Zb e
def ZcW(D:Ends)(O:L2.St)(H:Hp)(h:tS K (Zaf fe) D O H):tDrop (tE K fe) D O H:=by
 obtain⟨ad,U,st,r,st',E,S,e,p⟩:=ZR h;unfold Zaf at e;split at e
 .rename_i d c q
  cases e;exact⟨ad,U,st,d,_,E,S,q,λv a g b f i=>p _ a g b f (E.mono b)⟩
 .exact Zb e
def Zc3(D:Ends)(O:L2.St)(H:Hp)(h:tS K (Z2 fe f g) D O H):tIfS (tT K fe) (tS K f) (tS K g) D O H:=by
 obtain⟨ad,U,st,r,st',E,S,e,p⟩:=ZR h;unfold Z2 at e;split at e
 .rename_i a q
  refine⟨ad,U,st,ac,a,E,S,q,λc i b d=>?_⟩
  dsimp only;rw[am rfl];exact ZQ (E.mono b) d e (p.later b)
 .rename_i a q
  refine⟨ad,U,st,ae,a,E,S,q,λc i b d=>?_⟩
  dsimp only;rw[ao Bf];exact ZQ (E.mono b) d e (p.later b)
 .exact Zb e
def VI{a:Ad}(S:StOk K ad H st)(h:LA ad H i a):∃ b ds,st[i]?=aa (b,ds):=by
 have c:i < st.length:=by rw[<-S.len];exact(bJ.mp h.1).1
 exact⟨st[i].1,st[i].2,by rw[Lg c]⟩
def QE{c:Za}{a:Ad}{v:V}(S:StOk K ad H st)(h:LA ad H i a)(hd:Den K ad H v d)(e:Zak i d st=aa c) :
  ∃ b,H a=aa (.lst b)/\b.length < av/\Ext ad H ad (upd H a (.lst (b++[v])))/\StOk K ad (upd H a (.lst (b++[v]))) c:=by
 unfold Zak at e;split at e
 .rename_i ds q
  split at e
  .rename_i g
   cases e;obtain⟨b,r,f⟩:=S.listM h q;refine⟨b,f,?_,Ext.write f (aX h.1),S.write h q f (r.append (.cons hd .nil))⟩;rw[r.length];exact aT g (by decide)
  .exact Zb e
 .exact Zb e
def ZcX(D:Ends)(O:L2.St)(H:Hp)(h:tS K (Zam i fe) D O H):tDrop (tBM K "list" rAppend (tVar i) (tCons (tE K fe) tNil)) D O H:=by
 obtain⟨ad,U,st,r,st',E,S,e,p⟩:=ZR h;unfold Zam at e;split at e
 .rename_i a s
  split at e
  .rename_i d f q
   split at e
   .rename_i n o
    cases e;obtain⟨v,z,y⟩:=E.at_ i _ s;obtain⟨l,rfl,g⟩:=y.ofLst;obtain⟨b,ds,x⟩:=VI S g;obtain⟨m,_,sq⟩:=S.list g x;refine⟨_,z,.inl ⟨rfl,m,sq⟩,ad,U,st,d,f,E,S,q,λw j F c C A=>?_⟩
    obtain⟨ys,u,t,k,B⟩:=QE C (g.mono c) A o;exact⟨l,ys,w,rfl,rfl,u,t,p _ j _ (c.trans k) B (E.mono (c.trans k))⟩
   .exact Zb e
  .exact Zb e
 .exact Zb e
def ZaT{o:Ev}(D:Ends)(O:L2.St)(H:Hp)(h:tS K (Zal o fe) D O H):tDrop (tBM K "list" rAppend (tE K o) (tCons (tE K fe) tNil)) D O H:=by
 obtain⟨ad,U,st,r,st',E,S,e,p⟩:=ZR h;unfold Zal at e;split at e
 .rename_i a c x
  split at e
  .rename_i d i u
   split at e
   .rename_i s t
    cases e;refine⟨ad,U,st,.lst a,c,E,S,x,λv m J g S0 C=>?_⟩
    obtain⟨l,rfl,j⟩:=C.ofLst;obtain⟨b,ds,A⟩:=VI S0 j;obtain⟨q,_,sq⟩:=S0.list j A;refine⟨.inl ⟨rfl,q,sq⟩,m,U,c,d,i,E.mono g,S0,u,λw k I f G B=>?_⟩
    obtain⟨ys,z,y,n,F⟩:=QE G (j.mono f) B t;exact⟨l,ys,w,rfl,rfl,z,y,p _ k _ ((g.trans f).trans n) F (E.mono ((g.trans f).trans n))⟩
   .exact Zb e
  .exact Zb e
 .exact Zb e
def ZcZ(D:Ends)(O:L2.St)(H:Hp)(h:tS K (ZaK i fe) D O H):tDrop (tBM K "list" rExtend (tVar i) (tCons (tE K fe) tNil)) D O H:=by
 obtain⟨ad,U,st,r,st',E,S,e,p⟩:=ZR h;unfold ZaK at e;split at e
 .rename_i a C
  split at e
  .rename_i b g B
   split at e
   .rename_i A d
    cases e;obtain⟨v,M,L⟩:=E.at_ i _ C;obtain⟨l,rfl,n⟩:=L.ofLst;obtain⟨Q,ds,I⟩:=VI S n;obtain⟨z,_,sq⟩:=S.list n I;refine⟨_,M,.inl ⟨rfl,z,sq⟩,ad,U,st,.lst b,g,E,S,B,λw o R f q N=>?_⟩
    obtain⟨m,rfl,G⟩:=N.ofLst;unfold Zfb at d;split at d
    .rename_i P es y J
     split at d
     .rename_i F
      cases d;have c:=n.mono f;obtain⟨ys,x,k⟩:=q.listM c y;obtain⟨s,u,j⟩:=q.listM G J;have t:=Ext.write (ys:=ys++s) k (aX c.1);refine⟨l,m,ys,s,rfl,rfl,k,j,?_,p _ o _ (f.trans t) (q.write c y k (x.append u)) (E.mono (f.trans t))⟩;rw[x.length,u.length];exact aM F (by decide)
     .exact Zb d
    .exact Zb d
   .exact Zb e
  .exact Zb e
 .exact Zb e
def Zc9(D:Ends)(O:L2.St)(H:Hp)(h:tS K (Qd i fk fe) D O H):tAsg (tE K fe) (gSub (tVar i) (tE K fk) rSetL) D O H:=by
 obtain⟨ad,U,st,r,st',E,S,e,p⟩:=ZR h;unfold Qd at e;split at e
 .rename_i d g F
  split at e
  .rename_i a G
   split at e
   .rename_i j o C
    split at e
    .rename_i A f
     cases e;obtain⟨v,L,J⟩:=E.at_ i _ G;obtain⟨l,rfl,I⟩:=J.ofLst;refine⟨ad,U,st,d,g,E,S,F,λw s R n P N=>⟨_,L,s,U,g,.int j,o,E.mono n,P,C,λQ c z m y M=>?_⟩⟩
     cases M.ofInt;unfold Wc at f;split at f
     .rename_i ds x
      split at f
      .rename_i k B
       cases f;have b:=I.mono (n.trans m);obtain⟨t,r,q⟩:=y.listM b x;have u:Ext c z c (upd z l (.lst (t.set k w))):=Ext.write q (aX b.1);refine⟨l,t,j,k,rfl,rfl,q,?_,p _ c _ (n.trans (m.trans u)) (y.write b x q (r.set (N.mono m) k)) (E.mono (n.trans (m.trans u)))⟩;rw[r.length];exact B
      .exact Zb f
     .exact Zb f
    .exact Zb e
   .exact Zb e
  .exact Zb e
 .exact Zb e
def U0(a b i j:Int):aj (([.inl a,.inl b]:Li Key)=[.inl i,.inl j])=(aj (a=i)&&aj (b=j)):=by
 rw[bY];simp
def ZaH{i j:Int}(r:Ents K ad H kvs ds):(kvs.any λa=>aj (a.1=[.inl i,.inl j]))=ds.any (isK i j):=by
 induction r with
 |nil=>rfl
 |cons h _ b=>rw[cN,cN,b,U0];rfl
def V2{i j:Int}{v:V}(hd:Den K ad H v d)(r:Ents K ad H kvs ds):Ents K ad H (putK kvs [.inl i,.inl j] v) (Wm ds i j d):=by
 unfold putK Wm;rw[ZaH r];by_cases e:ds.any (isK i j)=ac
 .rw[am e,am e]
  clear e
  induction r with
  |nil=>exact .nil
  |@cons a b w c _ _ h _ f=>
   rw[aQ,aQ];have z:=U0 a b i j;by_cases q:(aj (a=i)&&aj (b=j))=ac
   .rw[am (al (z.trans q)),am (show isK i j (.tup [.int a,.int b,c])=ac from q)]
    rw[Ba,dI,dI]at q;rw[q.1,q.2];exact .cons hd f
   .rw[ao (λt=>q (z.symm.trans (aK t))),ao (show ¬isK i j (.tup [.int a,.int b,c])=ac from q)]
    exact .cons h f
 .rw[ao e,ao e]
  clear e
  induction r with
  |nil=>exact .cons hd .nil
  |cons h _ f=>exact .cons h f
def Y4{i j:Int}(r:Ents K ad H kvs ds):(∃ v d,valV kvs [.inl i,.inl j]=aa v/\Ya ds i j=aa d/\Den K ad H v d)\/(valV kvs [.inl i,.inl j]=ab/\Ya ds i j=ab):=by
 induction r with
 |nil=>exact .inr ⟨rfl,rfl⟩
 |@cons a b w c kvs ds h _ e=>
  have z:=U0 a b i j;by_cases q:(aj (a=i)&&aj (b=j))=ac
  .exact .inl ⟨w,c,valV_pos (al (z.trans q)),by unfold Ya;rw[List.find?_cons_of_pos (show isK i j (.tup [.int a,.int b,c])=ac from q)];rfl,h⟩
  .have g:valV ((([.inl a,.inl b]:Li Key),w) :: kvs) [.inl i,.inl j]=valV kvs [.inl i,.inl j]:=valV_neg λt=>q (z.symm.trans (aK t))
   have f:Ya (.tup [.int a,.int b,c] :: ds) i j=Ya ds i j:=by unfold Ya;rw[List.find?_cons_of_neg (show ¬isK i j (.tup [.int a,.int b,c])=ac from q)]
   rw[g,f];exact e
def JO{i j:Int}(r:Ents K ad H kvs ds):(valV kvs [.inl i,.inl j]).isSome=(Ya ds i j).isSome:=by
 rcases Y4 r with⟨w,d,b,a,c⟩|⟨b,a⟩
 .rw[b,a];rfl
 .rw[b,a];rfl
def XU(r:Ents K ad H kvs ds):kvs.length=ds.length:=by
 induction r with
 |nil=>rfl
 |cons _ _ a=>rw[aP,aP,a]
def ZaW(O:L2.St)(H:Hp)(Q:VK)(h:tE K Zei O H Q):tDNewT K O H Q:=by
 obtain⟨ad,U,st,d,st',E,S,e,p⟩:=h;cases e;intro q a b;exact p _ (ad++[q]) _ (S.extD a b) (S.pushD a b) (.dic (by rw[<-S.len];exact Zu) ⟨_,upd_same⟩)
def ZaX{I G:Ev}(D:Ends)(O:L2.St)(H:Hp)(h:tS K (ZaF i I G fe) D O H):tAsg (tE K fe) (gSub (tVar i) (tTup (tCons (tE K I) (tCons (tE K G) tNil))) rSetT) D O H:=by
 obtain⟨ad,U,st,r,st',E,S,e,p⟩:=ZR h;unfold ZaF at e;split at e
 .rename_i d g N
  split at e
  .rename_i a P
   split at e
   .rename_i x f M
    split at e
    .rename_i y c L
     split at e
     .rename_i ds C
      split at e
      .rename_i Q
       cases e;obtain⟨v,T,R⟩:=E.at_ i _ P;obtain⟨l,rfl,j,n⟩:=R.ofDic;refine⟨ad,U,st,d,g,E,S,N,λw u H1 o S1 Y=>⟨_,T,u,U,g,.int x,f,E.mono o,S1,M,λw2 s H2 m S2 W=>⟨s,U,f,.int y,c,E.mono (o.trans m),S2,L,λw3 b k B Z V=>⟨show 2<=av by decide,λt F=>?_⟩⟩⟩⟩
       cases W.ofInt;cases V.ofInt;have A:Ext b k b (upd k t (.tup [.int x,.int y])):=Ext.laid F;have X:=o.trans (m.trans (B.trans A));have J:StOk K b (upd k t (.tup [.int x,.int y])) c:=Z.laid F;obtain⟨kvs,r,q,_⟩:=J.dict (X.pre _ _ j) ((X.kd _ _ j).mp n) C;have z:Ext b _ b (upd (upd k t (.tup [.int x,.int y])) l (.dT (putK kvs [.inl x,.inl y] w))):=Ext.writeD q (aX (X.pre _ _ j))
       exact⟨l,t,kvs,[.inl x,.inl y],rfl,rfl,q,upd_same,by rw[XU r];exact aT Q (by decide),p _ b _ (X.trans z) (J.writeD (X.pre _ _ j) C q (V2 (Y.mono (m.trans (B.trans A))) r)) (E.mono (X.trans z))⟩
      .exact Zb e
     .exact Zb e
    .exact Zb e
   .exact Zb e
  .exact Zb e
 .exact Zb e
def Left(K:Fg)(b:D->Env->Za->Ot (Fl×Za))(E:Ends)(a:Li D)(O:L2.St)(H:Hp):Prop:=∃ ad U st r st',EnvOk K ad H O U/\StOk K ad H st/\Zi b a U st=aa (r,st')/\PostS K ad H r st' E
def Left.turn{b:Ex}{n:Li D}{H:Hp}{v:V}(t:∀ ad H,Den K ad H v x)(h:Left K (λd U s=>b (Zf U i d) s) E (x :: n) O H) :
  tS K b { E with nx:=Left K (λd U s=>b (Zf U i d) s) E n,ct:=Left K (λd U s=>b (Zf U i d) s) E n,bk:=E.nx } (O.set i (aa v)) H:=by
 obtain⟨ad,U,st,r,st',En,S,e,p⟩:=h;unfold Zi at e;have g:=En.set i (t ad H);split at e
 .rename_i f a q
  exact ZQ g S q λj c o k l m=>⟨c,f,a,r,st',m,l,e,p.later k⟩
 .rename_i f a q
  exact ZQ g S q λj c o k l m=>⟨c,f,a,r,st',m,l,e,p.later k⟩
 .rename_i f a q
  cases e;exact ZQ g S q λj c o k l m=>p j c o k l m
 .rename_i d a q
  cases e;exact ZQ g S q p
 .exact Zb e
def Left.turnD{b:Ex}{n:Li D}{U:Env}{r:Fl}{v:V}(En:EnvOk K ad H O U)(S:StOk K ad H st)(t:Den K ad H v x)(e:Zi (λd U s=>b (Zf U i d) s) (x :: n) U st=aa (r,st'))(p:PostS K ad H r st' E)(L:L2.St->Hp->Prop)(o:∀ c a h g f,Ext ad H a h->StOk K a h f->EnvOk K a h c g->Zi (λd U s=>b (Zf U i d) s) n g f=aa (r,st')->L c h) :
  tS K b { E with nx:=L,ct:=L,bk:=E.nx } (O.set i (aa v)) H:=by
 unfold Zi at e;have j:=En.set i t;split at e
 .rename_i g f q
  exact ZQ j S q λc a h k l m=>o c a h g f k l m e
 .rename_i g f q
  exact ZQ j S q λc a h k l m=>o c a h g f k l m e
 .rename_i g f q
  cases e;exact ZQ j S q λc a h k l m=>p c a h k l m
 .rename_i d f q
  cases e;exact ZQ j S q p
 .exact Zb e
def Left.done{b:D->Env->Za->Ot (Fl×Za)}(h:Left K b E [] O H):E.nx O H:=by
 obtain⟨ad,U,st,r,st',En,S,e,p⟩:=h;cases e;exact p O ad H (Ext.refl _ _) S En
def Qg(n k:Nat)(h:k < n):((ag n).map λ(j:Nat)=>D.int (j:Int)).drop k=D.int (k:Int) :: ((ag n).map λ(j:Nat)=>D.int (j:Int)).drop (k+1):=by
 rw[bQ (by simpa using h)]
 simp
def Za3(E:Ends)(O:L2.St)(H:Hp)(h:tS K (Wo i ac fi f) E O H):tFor (iRng1 (tCons (tE K fi) tNil)) (gName i) (tS K f) E O H:=by
 obtain⟨ad,U,st,r,st',En,S,e,p⟩:=ZR h;unfold Wo at e;split at e
 .rename_i x a m
  cases x with
  |int n=>
   have e:(match (if n < 2 ^ 62/\-(2 ^ 62)<=n then aa ((ag n.toNat).map λ(k:Nat)=>D.int (k:Int)) else ab) with
    |some l=>Zi (λd U s=>f (Zf U i d) s) l U a
    |none=>ab)=aa (r,st'):=e
   by_cases b:n < 2 ^ 62/\-(2 ^ 62)<=n
   .rw[am b]at e
    refine⟨ad,U,st,.int n,a,En,S,m,λv c u j t q=>⟨n,by rw[q.ofInt],b.2,b.1,?_⟩⟩
    refine for_range (λk g H'=>Left K (λd U s=>f (Zf U i d) s) E (((ag n.toNat).map λ(k:Nat)=>D.int (k:Int)).drop k) g H') ⟨c,U,a,r,st',En.mono j,t,e,p.later j⟩ (λk g H' o L=>?_) λg H' L=>?_
    .rw[Qg _ _ o]at L
     have z:(0:Int)+(k:Int)=(k:Int):=Int.zero_add _;rw[z];exact L.turn λ_ _=>.int _
    .rw[List.drop_eq_nil_of_le (by simp)]at L
     exact L.done
   .rw[ao b]at e
    cases e
  |_=>simp[Ws]at e
 .exact Zb e
def QT{i:Int}(h:Zfj d=aa i):d=.int i:=by cases d<;>first | (cases h;done) | (cases h;rfl)
def Zeb(K:Fg)(b:D->Env->Za->Ot (Fl×Za))(E:Ends)(a:Ad)(vs:Li V)(c:Li D)(k:Nat)(O:L2.St)(H:Hp):Prop:=
 ∃ ad U st r st',EnvOk K ad H O U/\StOk K ad H st/\(TupAt K H a vs/\Dens K ad H vs c)/\Zi b (c.drop k) U st=aa (r,st')/\PostS K ad H r st' E
def Za4(E:Ends)(O:L2.St)(H:Hp){U:Env}{g:Za}{r:Fl}{xs:Li D}(En:EnvOk K ad H O U)(S:StOk K ad H st)(R:fi U st=aa (.tup xs,g))(e:Zi (λd U s=>f (Zf U i d) s) xs U g=aa (r,st'))(p:PostS K ad H r st' E):tFor (iTup K (tE K fi)) (gName i) (tS K f) E O H:=by
 refine⟨ad,U,st,.tup xs,g,En,S,R,λv F H1 I Z X=>?_⟩
 obtain⟨a,vs,rfl,M,rv⟩:=X.ofTup;refine⟨a,rfl,⟨vs,(M).sq⟩,?_⟩;refine for_tup (xs:=vs) (λk u H'=>Zeb K (λd U s=>f (Zf U i d) s) E a vs xs k u H') ⟨F,U,g,r,st',En.mono I,Z,⟨M,rv⟩,by rw[bR];exact e,p.later I⟩ (λk u H' _ L=>?_) (λk y u H' J L=>?_) λu H' L=>?_
 .obtain⟨_,_,_,_,_,_,_,⟨h,_⟩,_⟩:=L
  exact(h).sq
 .obtain⟨q,l,m,B,b,j,G,⟨N,c⟩,o,t⟩:=L
  have n:k < xs.length:=by rw[<-c.length];exact(bJ.mp J).1
  have T:xs[k]?=aa xs[k]:=Lg n;obtain⟨w,P,W⟩:=c.get T;rw[J]at P;cases P
  rw[bQ n]at o;exact Left.turnD j G W o t _ λQ C H3 x A z Y E3 V=>⟨C,x,A,B,b,E3,Y,⟨N.mono z,c.mono z⟩,V,t.later z⟩
 .obtain⟨q,l,m,B,b,j,G,⟨N,c⟩,o,t⟩:=L
  rw[c.length,List.drop_length]at o;exact Left.done ⟨q,l,m,B,b,j,G,o,t⟩
def Ua{G:TG}(E:Ends)(O:L2.St)(H:Hp){ad:Li Ad}{U:Env}{st i:Za}{r:Fl}{bb:Bool}{X:Li D}(En:EnvOk K ad H O U)(S:StOk K ad H st)(q1:fi U st=aa (.lst l,i))(q2:i[l]?=aa (bb,X))(e:Zt B l X.length 0 U i=aa (r,st'))(p:PostS K ad H r st' E)(R:∀ (x:D) (v:V) (O:L2.St) (H:Hp) (ad:Li Ad) (U:Env) (st i:Za) (r1:Fl) (E':Ends),EnvOk K ad H O U->StOk K ad H st->Den K ad H v x->B x U st=aa (r1,i)->PostS K ad H r1 i E'->G v O H λW H2=>tS K f E' W H2) :
  tFor (iList K (tE K fi)) G (tS K f) E O H:=by
 refine⟨ad,U,st,.lst l,i,En,S,q1,λv ad1 H1 x1 S1 d1=>?_⟩
 obtain⟨a,rfl,ha⟩:=d1.ofLst;obtain⟨vs,rv,sq⟩:=S1.list ha q2;refine⟨a,rfl,⟨vs,sq⟩,?_⟩;refine⟨λk m O' H'=>∃ b c g,(EnvOk K b H' O' c/\StOk K b H' g/\LA b H' l a)/\Zt B l m k c g=aa (r,st')/\PostS K b H' r st' E,⟨X.length,ad1,U,i,⟨En.mono x1,S1,ha⟩,e,p.later x1⟩,?_⟩
 rintro k m O' H' ⟨b,c,g,⟨s,C,t⟩,n,M⟩
 obtain⟨b2,ys,N⟩:=VI C t;obtain⟨Y,L,A⟩:=C.list t N;have stop:ys.length<=k->Zt B l m k c g=aa (.nx c,g):=λF=>by
  cases m with
  |zero=>unfold Zt;simp only[N];rw[am F]
  |succ m=>unfold Zt;simp only[N,dH F]
 by_cases F:ys.length<=k
 .refine .inl ⟨⟨Y,A,by rw[L.length];exact F⟩,?_⟩
  rw[stop F]at n;cases n;exact M O' b H' (Ext.refl _ _) C s
 .have hk':k < ys.length:=by omega
  have hy:ys[k]?=aa ys[k]:=Lg hk';obtain⟨w,ew,T⟩:=L.get hy;cases m with
  |zero=>
   unfold Zt at n;simp only[N]at n;rw[ao F]at n;cases n
  |succ m=>
   unfold Zt at n;simp only[N,hy]at n;refine .inr ⟨⟨Y,w,A,ew⟩,λJ I=>∃ u j h,(EnvOk K u I J j/\StOk K u I h/\LA u I l a)/\Zt B l m (k+1) j h=aa (r,st')/\PostS K u I r st' E,λJ I h3=>⟨m,dW m,h3⟩,λx I Z=>?_⟩
   obtain⟨rfl,Z⟩:=Z;have ex:=Z Y A;rw[ew]at ex;cases ex
   split at n
   .rename_i j h q
    exact R _ _ _ _ b c g _ _ _ s C T q λy o H4 z P Q=>⟨o,j,h,⟨Q,P,t.mono z⟩,n,M.later z⟩
   .rename_i j h q
    exact R _ _ _ _ b c g _ _ _ s C T q λy o H4 z P Q=>⟨o,j,h,⟨Q,P,t.mono z⟩,n,M.later z⟩
   .rename_i j h q
    cases n;exact R _ _ _ _ b c g _ _ _ s C T q λy o H4 z P Q=>M y o H4 z P Q
   .rename_i d h q
    cases n;exact R _ _ _ _ b c g _ _ _ s C T q M
   .exact Zb n
def Za1(E:Ends)(O:L2.St)(H:Hp)(h:tS K (Wo i ae fi f) E O H):tFor (iTup K (tE K fi)) (gName i) (tS K f) E O H\/tFor (iList K (tE K fi)) (gName i) (tS K f) E O H:=by
 obtain⟨ad,U,st,r,st',En,S,e,p⟩:=ZR h;unfold Wo at e;split at e
 .rename_i x a c
  cases x with
  |tup b=>exact .inl (Za4 E O H En S c e p)
  |lst l=>
   have e:(match a[l]? with
    |some (_,b)=>Zt (λd U s=>f (Zf U i d) s) l b.length 0 U a
    |none=>ab)=aa (r,st'):=e
   split at e
   .rename_i o b g
    refine .inr (Ua E O H En S c g e p λx v O H ad U st a n q En S m k j=>?_)
    exact ZQ (En.set i m) S k j
   .exact Zb e
  |_=>simp[Ws]at e
 .exact Zb e
def W3{G:TG}(E:Ends)(O:L2.St)(H:Hp){ad:Li Ad}{U:Env}{st b:Za}{r:Fl}{xs:Li D}(En:EnvOk K ad H O U)(S:StOk K ad H st)(q1:fi U st=aa (.tup xs,b))(e:Zi B xs U b=aa (r,st'))(p:PostS K ad H r st' E)(N:∀ (x:D) (v:V) (O:L2.St) (H:Hp) (ad:Li Ad) (U:Env) (st b:Za) (Z:Fl) (E':Ends),EnvOk K ad H O U->StOk K ad H st->Den K ad H v x->B x U st=aa (Z,b)->PostS K ad H Z b E'->G v O H λR H2=>tS K f E' R H2) :
  tFor (iTup K (tE K fi)) G (tS K f) E O H:=by
 refine⟨ad,U,st,.tup xs,b,En,S,q1,λv W H1 Y S1 d1=>?_⟩
 obtain⟨a,vs,rfl,ha,rv⟩:=d1.ofTup;refine⟨a,rfl,⟨vs,(ha).sq⟩,?_⟩;refine for_tup (xs:=vs) (λk Q H'=>Zeb K B E a vs xs k Q H') ⟨W,U,b,r,st',En.mono Y,S1,⟨ha,rv⟩,by rw[bR];exact e,p.later Y⟩ (λk Q H' _ L=>?_) (λk y Q H' hk L=>?_) λQ H' L=>?_
 .obtain⟨_,_,_,_,_,_,_,⟨h,_⟩,_⟩:=L
  exact(h).sq
 .obtain⟨l,g,i,M,c,m,C,⟨T,j⟩,o,A⟩:=L
  have F:k < xs.length:=by rw[<-j.length];exact(bJ.mp hk).1
  have hx:xs[k]?=aa xs[k]:=Lg F;obtain⟨w,ew,P⟩:=j.get hx;rw[hk]at ew;cases ew
  rw[bQ F]at o;unfold Zi at o;split at o
  .rename_i t n q
   exact N _ _ _ _ l g i _ _ _ m C P q λz s X u I J=>⟨s,t,n,M,c,J,I,⟨T.mono u,j.mono u⟩,o,A.later u⟩
  .rename_i t n q
   exact N _ _ _ _ l g i _ _ _ m C P q λz s X u I J=>⟨s,t,n,M,c,J,I,⟨T.mono u,j.mono u⟩,o,A.later u⟩
  .rename_i t n q
   cases o;exact N _ _ _ _ l g i _ _ _ m C P q λz s X u I J=>A z s X u I J
  .rename_i d n q
   cases o;exact N _ _ _ _ l g i _ _ _ m C P q A
  .exact Zb o
 .obtain⟨l,g,i,M,c,m,C,⟨T,j⟩,o,A⟩:=L
  rw[j.length,List.drop_length]at o;exact Left.done ⟨l,g,i,M,c,m,C,o,A⟩
def ZaZ(E:Ends)(O:L2.St)(H:Hp)(h:tS K (ZaN i j l fi f) E O H):tFor (iTup K (tE K fi)) (gTup K 3 (gCons (gName i) (gCons (gName j) (gCons (gName l) gNil)))) (tS K f) E O H:=by
 obtain⟨ad,U,st,r,st',En,S,e,p⟩:=ZR h;unfold ZaN at e;split at e
 .rename_i s c d
  refine W3 E O H En S d e p λx v O H ad U st c t w En S m b g=>?_
  unfold Zca at b;split at b
  .rename_i y z u
   obtain⟨a,vs,rfl,k,rv⟩:=m.ofTup;cases rv with
   |cons q rv=>
    cases rv with
    |cons o rv=>
     cases rv with
     |cons n rv=>
      cases rv;exact⟨a,_,rfl,(k).sq,rfl,_,_,rfl,_,_,rfl,_,_,rfl,rfl,ZQ (((En.set i q).set j o).set l n) S b g⟩
  .exact Zb b
 .exact Zb e
def ZaY(E:Ends)(O:L2.St)(H:Hp)(h:tS K (ZaM i j fi f) E O H):tFor (iTup K (tE K fi)) (gTup K 2 (gCons (gName i) (gCons (gName j) gNil))) (tS K f) E O H\/tFor (iList K (tE K fi)) (gTup K 2 (gCons (gName i) (gCons (gName j) gNil))) (tS K f) E O H:=by
 obtain⟨ad,U,st,r,st',En,S,e,p⟩:=ZR h;unfold ZaM at e;split at e
 .rename_i l c d
  split at e
  .rename_i w q t
   right
   refine Ua E O H En S d t e p λx v O H ad U st c s u En S m b g=>?_
   unfold YD at b;split at b
   .rename_i y z
    obtain⟨a,vs,rfl,k,rv⟩:=m.ofTup;cases rv with
    |cons o rv=>
     cases rv with
     |cons n rv=>
      cases rv;exact⟨a,_,rfl,(k).sq,rfl,_,_,rfl,_,_,rfl,rfl,ZQ ((En.set i o).set j n) S b g⟩
   .exact Zb b
  .exact Zb e
 .rename_i q c d
  left
  refine W3 E O H En S d e p λx v O H ad U st c s u En S m b g=>?_
  unfold YD at b;split at b
  .rename_i y z
   obtain⟨a,vs,rfl,k,rv⟩:=m.ofTup;cases rv with
   |cons o rv=>
    cases rv with
    |cons n rv=>
     cases rv;exact⟨a,_,rfl,(k).sq,rfl,_,_,rfl,_,_,rfl,rfl,ZQ ((En.set i o).set j n) S b g⟩
  .exact Zb b
 .exact Zb e
def JR(E:Ends)(O:L2.St)(H:Hp)(h:tS K (Yd fe f m) E O H):tWhile (tT K fe) (tS K f) E O H:=by
 obtain⟨ad,U,st,r,st',En,S,e,p⟩:=ZR h;refine⟨λm O H=>∃ ad U st,(EnvOk K ad H O U/\StOk K ad H st)/\Yd fe f m U st=aa (r,st')/\PostS K ad H r st' E,⟨m,ad,U,st,⟨En,S⟩,e,p⟩,?_⟩
 rintro m O H ⟨ad,U,st,⟨En,S⟩,e,p⟩
 cases m with
 |zero=>exact Zb e
 |succ m=>
  have e:Z2 fe (Z6 f (Yd fe f m)) (λU st=>aa (.nx U,st)) U st=aa (r,st'):=e
  unfold Z2 at e;split at e
  .rename_i i q
   refine⟨ad,U,st,ac,i,En,S,q,λn u a k=>?_⟩
   dsimp only;rw[am rfl];refine⟨λO H=>∃ ad U st,(EnvOk K ad H O U/\StOk K ad H st)/\Yd fe f m U st=aa (r,st')/\PostS K ad H r st' E,λw H' h=>⟨m,dW m,h⟩,?_⟩
   have e:Z6 f (Yd fe f m) U i=aa (r,st'):=e;unfold Z6 at e;split at e
   .rename_i d b j
    exact ZQ (En.mono a) k j λg c t l o s=>⟨c,d,b,⟨s,o⟩,e,p.later (a.trans l)⟩
   .rename_i d b j
    exact ZQ (En.mono a) k j λg c t l o s=>⟨c,d,b,⟨s,o⟩,e,p.later (a.trans l)⟩
   .rename_i d b j
    cases e;exact ZQ (En.mono a) k j λg c t l o s=>p g c t (a.trans l) o s
   .rename_i v b j
    cases e;exact ZQ (En.mono a) k j (Post.later p a)
   .exact Zb e
  .rename_i i q
   cases e;refine⟨ad,U,st,ae,_,En,S,q,λn u a k=>?_⟩
   dsimp only;rw[ao Bf];exact p O n u a k (En.mono a)
  .exact Zb e
def Itz(K:Fg)(a b:Ad):It:=
 ⟨λi H=>∃ c ys x y,SqT K H a c/\SqT K H b ys/\c[i]?=aa x/\ys[i]?=aa y,
  λi H v H'=>∃ p x y,v=.ref p/\H p=ab/\H'=upd H p (.tup [x,y])/\(∀ c,SqT K H a c->c[i]?=aa x)/\∀ ys,SqT K H b ys->ys[i]?=aa y,
  λi H=>∃ c ys,SqT K H a c/\SqT K H b ys/\min c.length ys.length<=i⟩
def ZgW(K:Fg)(e:TA):TI:=λO H R=>e O H λvs c=>∃ a b,vs=[.ref a,.ref b]/\(∃ d,SqT K c a d)/\(∃ ys,SqT K c b ys)/\R (Itz K a b) c
def Zbq{ok:Za->Prop}{B:D->D->Env->Za->Ot (Fl×Za)}{l:Li (D×D)}{z:Fl×Za}(e:Z5 ok B l U st=aa z):ok st:=by
 cases l with
 |nil=>
  unfold Z5 at e;by_cases h:ok st
  .exact h
  .rw[ao h]at e;cases e
 |cons _ _=>
  unfold Z5 at e;by_cases h:ok st
  .exact h
  .rw[ao h]at e;cases e
inductive LK(K:Fg)(ok:Za->Prop)(B:D->D->Env->Za->Option (Fl×Za))(qs:List (D×D))(Good:List Addr->Hp->Prop)(r:Fl)(st':Za)(E:Ends)(k m:Nat)(O:L2.St)(H:Hp):Prop
 |mk {ad:List Addr}{U:Env}{st:Za} (hk:k+m=qs.length) (En:EnvOk K ad H O U) (S:StOk K ad H st) (g:Good ad H) (e:Z5 ok B (qs.drop k) U st=aa (r,st')) (p:PostS K ad H r st' E):LK K ok B qs Good r st' E k m O H
def ZgD(K:Fg)(f:Ex)(i j:Nat)(J:It)(E:Ends)(O:L2.St)(g:Hp):Prop:=∃ W:Nat->Nat->L2.St->Hp->Prop,(∃ m,W 0 m O g)/\∀ a m O H,W a m O H->(J.stop a H/\E.nx O H)\/(J.go a H/\∃ N:L2.St->Hp->Prop,(∀ d H',N d H'->∃ c,c < m/\W (a+1) c d H')/\∀ x H',J.yld a H x H'->gTup K 2 (gCons (gName i) (gCons (gName j) gNil)) x O H' λb e=>tS K f { E with nx:=N,ct:=N,bk:=E.nx } b e)
def Ww{ok:Za->Prop}{c:Li (D×D)}{a:Li Ad->Hp->Prop}{r:Fl}{J:It}(gm:∀ ad H ad' H',Ext ad H ad' H'->a ad H->a ad' H')(stop:∀ ad H st,a ad H->StOk K ad H st->ok st->J.stop c.length H)(go:∀ k ad H st q,a ad H->StOk K ad H st->ok st->c[k]?=aa q->∃ w v,J.go k H/\Den K ad H w q.1/\Den K ad H v q.2/\∀ x H',J.yld k H x H'->∃ pt,x=.ref pt/\H pt=ab/\H'=upd H pt (.tup [w,v]))(k m:Nat)(O:L2.St)(H:Hp)(h:LK K ok (λx y U s=>f (Zf (Zf U i x) j y) s) c a r st' E k m O H) :
  (J.stop k H/\E.nx O H)\/(J.go k H/\∃ N:L2.St->Hp->Prop,(∀ W H',N W H'->∃ R,R < m/\LK K ok (λx y U s=>f (Zf (Zf U i x) j y) s) c a r st' E (k+1) R W H')/\∀ x H',J.yld k H x H'->gTup K 2 (gCons (gName i) (gCons (gName j) gNil)) x O H' λt P=>tS K f { E with nx:=N,ct:=N,bk:=E.nx } t P):=by
 cases h with
 |@mk ad U st L En S g e p=>
  have n:=Zbq e;by_cases V:c.length<=k
  .have l:k=c.length:=by omega
   subst l;rw[List.drop_length]at e;unfold Z5 at e;rw[am n]at e;cases e;exact .inl ⟨stop _ _ _ g S n,p O _ H (Ext.refl _ _) S En⟩
  .have l:k < c.length:=Nat.lt_of_not_le V
   obtain⟨w,v,C,G,F,T⟩:=go k _ _ _ c[k] g S n (Lg l);rw[bQ l]at e;unfold Z5 at e;rw[am n]at e;generalize c[k]=q at e G F;refine .inr ⟨C,LK K ok (λx y U s=>f (Zf (Zf U i x) j y) s) c a r st' E (k+1) (m - 1),λY X h3=>⟨m - 1,by omega,h3⟩,λx X hx=>?_⟩
   obtain⟨pt,rfl,B,rfl⟩:=T x X hx;have u:Ext ad H ad (upd H pt (.tup [w,v])):=Ext.laid B;have o:∀ {rr:Fl}{s3:Za}{E':Ends},f (Zf (Zf U i q.1) j q.2) st=aa (rr,s3)->PostS K ad (upd H pt (.tup [w,v])) rr s3 E'->gTup K 2 (gCons (gName i) (gCons (gName j) gNil)) (.ref pt) O (upd H pt (.tup [w,v])) λt P=>tS K f E' t P:=λq Z=>
    ⟨pt,_,rfl,SqT.of upd_same,rfl,_,_,rfl,_,_,rfl,rfl,ZQ (((En.mono u).set i (G.mono u)).set j (F.mono u)) (S.laid B) q Z⟩
   have nxt:∀ {ρ3:Env}{st3:Za},Z5 ok (λx y U s=>f (Zf (Zf U i x) j y) s) (c.drop (k+1)) ρ3 st3=aa (r,st')->∀ (d:L2.St) (b:Li Ad) (A:Hp),Ext ad (upd H pt (.tup [w,v])) b A->StOk K b A st3->EnvOk K b A d ρ3->LK K ok (λx y U s=>f (Zf (Zf U i x) j y) s) c a r st' E (k+1) (m - 1) d A:=λe3 d b A I M Q=>
    .mk (by omega) Q M (gm _ _ _ _ (u.trans I) g) e3 (p.later (u.trans I))
   clear T go stop L V l C;split at e
   .rename_i z
    exact o z (nxt e)
   .rename_i z
    exact o z (nxt e)
   .rename_i z
    cases e;exact o z λd b A I M Q=>p d b A (u.trans I) M Q
   .rename_i z
    cases e;exact o z (p.later u)
   .exact Zb e
def Za2(E:Ends)(O:L2.St)(H:Hp)(h:tS K (V5 i j fi f) E O H):tFor (ZgW K (tA K fi)) (gTup K 2 (gCons (gName i) (gCons (gName j) gNil))) (tS K f) E O H:=by
 obtain⟨ad,U,st,r,st',En,S,e,p⟩:=ZR h;unfold V5 at e;split at e
 .rename_i F ys t W
  refine⟨ad,U,st,_,t,En,S,W,λvs m Q G Z c=>?_⟩
  obtain⟨s,n,rfl,D,C⟩:∃ s n,vs=[s,n]/\Den K m Q s (.tup F)/\Den K m Q n (.tup ys):=by
   cases c with
   |cons B c=>
    cases c with
    |cons A c=>cases c;exact⟨_,_,rfl,B,A⟩
  obtain⟨a,l,rfl,M,v⟩:=D.ofTup;obtain⟨b,d,rfl,L,u⟩:=C.ofTup;refine⟨a,b,rfl,⟨l,M.sq⟩,⟨d,L.sq⟩,_,⟨_,.mk (Good:=λad H=>(TupAt K H a l/\Dens K ad H l F)/\TupAt K H b d/\Dens K ad H d ys) (bF _) (En.mono G) Z ⟨⟨M,v⟩,L,u⟩ e (p.later G)⟩,Ww (λ_ _ _ _ x g=>⟨⟨g.1.1.mono x,g.1.2.mono x⟩,g.2.1.mono x,g.2.2.mono x⟩) (λad H st g S o=>?_) λk ad H st q g S o X=>?_⟩
  .exact⟨l,d,g.1.1.sq,g.2.1.sq,by rw[g.1.2.length,g.2.2.length];exact cK (List.length_zip ..).symm⟩
  .obtain⟨B,A⟩:=List.getElem?_zip_eq_some.mp X
   obtain⟨J,P,c⟩:=g.1.2.get B;obtain⟨I,N,Y⟩:=g.2.2.get A;exact⟨J,I,⟨l,d,J,I,g.1.1.sq,g.2.1.sq,P,N⟩,c,Y,λx H' ⟨pt,y1,y2,V,T,R,y,w⟩=>⟨pt,V,T,by have z:=y l g.1.1.sq;rw[P]at z;cases z;have z:=w d g.2.1.sq;rw[N]at z;cases z;exact R⟩⟩
 .exact Zb e
end
variable [ClsTab]
mutual
theorem ZcF:∀ {x y:D},Zm x y=ac->x=y
 |.non,y,h=>by cases y<;>simp[Zm]at h ⊢
 |.bl a,y,h=>by cases y<;>simp[Zm]at h ⊢;exact h
 |.int a,y,h=>by cases y<;>simp[Zm]at h ⊢;exact h
 |.str a,y,h=>by cases y<;>simp[Zm]at h ⊢;exact h
 |.tup a,y,h=>by
  cases y with
  |tup b=>rw[VP (x:=a) (y:=b) (by simpa[Zm] using h)]
  |_=>simp[Zm]at h
 |.lst a,y,h=>by cases y<;>simp[Zm]at h
 |.dct a b,y,h=>by cases y<;>simp[Zm]at h
 |.obj a,y,h=>by cases y<;>simp[Zm]at h
 |.kt a,y,h=>by cases y<;>simp[Zm]at h
 |.dic a,y,h=>by cases y<;>simp[Zm]at h
theorem VP:∀ {x y:Li D},Zs x y=ac->x=y
 |[],y,h=>by cases y<;>simp[Zs]at h ⊢
 |a :: x,y,h=>by
  cases y with
  |nil=>simp[Zs]at h
  |cons b y=>
   have h:(Zm a b&&Zs x y)=ac:=h;rw[Ba]at h;rw[ZcF h.1,VP h.2]
end
mutual
theorem WW:∀ {n:Nat}{x:D},okD n x=ac->Zm x x=ac
 |_,.non,_=>rfl
 |_,.bl a,_=>by simp[Zm]
 |_,.int a,_=>by simp[Zm]
 |_,.str a,_=>by simp[Zm]
 |0,.tup a,h=>by simp[okD]at h
 |n+1,.tup a,h=>Wg (n:=n) (x:=a) h
 |_,.lst a,h=>by simp[okD]at h
 |_,.dct a b,h=>by simp[okD]at h
 |_,.obj a,h=>by simp[okD]at h
 |_,.kt a,h=>by simp[okD]at h
 |_,.dic a,h=>by simp[okD]at h
theorem Wg:∀ {n:Nat}{x:Li D},ZX n x=ac->Zs x x=ac
 |_,[],_=>rfl
 |n,a :: x,h=>by
  have h:(okD n a&&ZX n x)=ac:=h;rw[Ba]at h;show(Zm a a&&Zs x x)=ac;rw[WW h.1,Wg h.2];rfl
end
theorem YZ:∀ {n:Nat}{a:Li D}{i:Nat}{d:D},ZX n a=ac->a[i]?=aa d->okD n d=ac
 |_,[],_,_,_,e=>by simp at e
 |n,x :: a,i,d,h,e=>by
  have h:(okD n x&&ZX n a)=ac:=h;rw[Ba]at h;cases i with
  |zero=>simp at e;subst e;exact h.1
  |succ i=>exact YZ (i:=i) h.2 (by simpa using e)
theorem Yx:∀ {a ys:Li D},Zs a ys=((ag (min a.length ys.length)).all (λi=>Zm ((a[i]?).getD .non) ((ys[i]?).getD .non))&&a.length==ys.length)
 |[],[]=>rfl
 |[],_ :: _=>by simp[Zs]
 |_ :: _,[]=>by simp[Zs]
 |x :: a,y :: ys=>by
  have b:=@Yx a ys;show(Zm x y&&Zs a ys)=_;rw[b];have e:min (x :: a).length (y :: ys).length=min a.length ys.length+1:=by simp only[aP];omega
  rw[e,List.range_succ_eq_map,bE,List.all_map];simp only[aP];have z:(a.length+1==ys.length+1)=(a.length==ys.length):=by
   rw[bY];simp
  rw[z,Bool.and_assoc];rfl
variable{n:Nat}{pQ:Li (Ad×Obj)}{s:Sd}{A:bo}
def ZgB(X:Cx)(ad:Li Ad)(H:Hp)(v:V)(x:D):Prop:=∀ n m y,okD n x=ac->okD m y=ac->Den X.K ad H v y->x=y
def Xe{n:Nat}{P:Prop}(h:okD n x=ac)(a:∀ n,okD n x=ae):P:=by rw[a]at h;cases h
def ZbG(i n:Nat):okD n (.lst i)=ae:=by cases n<;>rfl
def ZbE(ks:Li Str)(vs:Li D)(n:Nat):okD n (.dct ks vs)=ae:=by cases n<;>rfl
def ZbF(i n:Nat):okD n (.dic i)=ae:=by cases n<;>rfl
def ZbH(i n:Nat):okD n (.obj i)=ae:=by cases n<;>rfl
def Zet(ks:Li Str)(n:Nat):okD n (.kt ks)=ae:=by cases n<;>rfl
def ZbK{a:Li D}(h:okD n (.tup a)=ac):∃ m,ZX m a=ac:=by
 cases n with
 |zero=>cases h
 |succ n=>exact⟨n,h⟩
def Den.injP(J:∀ (a:Ad) (d ys:Li V),TupAt X.K H a d->TupAt X.K H a ys->d=ys){v:V}(h:Den X.K ad H v x):ZgB X ad H v x:=
 Den.rec (motive_1:=λv x _=>ZgB X ad H v x) (motive_2:=λvs d _=>∀ n m ys,ZX n d=ac->ZX m ys=ac->Dens X.K ad H vs ys->d=ys)
  (λ_ _ _ _ _ h=>by cases h;rfl) (λ_ _ _ _ _ _ h=>by cases h;rfl) (λ_ _ _ _ _ _ h=>by cases h;rfl) (λ_ _ _ _ _ _ h=>by cases h;rfl)
  (λe _ j n m y b c h=>by
   obtain⟨g,b⟩:=ZbK b;cases h with
   |tup o f=>
    cases J _ _ _ e o
    obtain⟨i,c⟩:=ZbK c;rw[j g i _ b c f]
   |lst _=>exact Xe c (ZbG _)
   |dic _ _=>exact Xe c (ZbF _)
   |dct _ _ _ _ _=>exact Xe c (ZbE _ _)
   |obj _ _=>exact Xe c (ZbH _)
   |kt _ _ _ _ _ _=>exact Xe c (Zet _))
  (λ_ _ _ _ b _ _=>Xe b (ZbG _)) (λ_ _ _ _ _ b _ _=>Xe b (ZbF _)) (λ_ _ _ _ _ _ _ _ _ b _ _=>Xe b (ZbE _ _)) (λ_ _ _ _ _ b _ _=>Xe b (ZbH _)) (λ_ _ _ _ _ _ _ _ _ b _ _=>Xe b (Zet _))
  (λ_ _ _ _ _ h=>by cases h;rfl)
  (λ_ _ l k n m ys b c h=>by
   cases h with
   |cons p f=>
    have b:=dZ.mp b;have c:=dZ.mp c;rw[l n m _ b.1 c.1 p,k n m _ b.2 c.2 f]) h
def Den.inj(J:∀ (a:Ad) (b ys:Li V),TupAt X.K H a b->TupAt X.K H a ys->b=ys){v:V}{y:D}(d:okD n x=ac)(c:okD m y=ac)(h:Den X.K ad H v x)(e:Den X.K ad H v y):x=y:=h.injP J n m y d c e
def Dens.inj(J:∀ (a:Ad) (b ys:Li V),TupAt X.K H a b->TupAt X.K H a ys->b=ys){b ys:Li D}(d:ZX n b=ac)(c:ZX m ys=ac)(h:Dens X.K ad H vs b)(e:Dens X.K ad H vs ys):b=ys:=by
 induction vs generalizing b ys with
 |nil=>cases h;cases e;rfl
 |cons v vs g=>
  cases h with
  |cons a r=>cases e with
   |cons i f=>
    have d:=dZ.mp d;have c:=dZ.mp c;rw[a.inj J d.1 c.1 i,g d.2 c.2 r f]
open PySem.SeqAt in
def Zfa(I:Inv X pQ O H s):∀ (n:Nat) (x y:D) (A:bo) (B w:V) (E C:vL),okD n x=ac->okD n y=ac->A.units+n < cLine->Den X.K ad H B x->Den X.K ad H w y->RelV B E->RelV w C->EqAt A s E C (Zm x y):=by
 intro n
 induction n with
 |zero=>
  intro x y A B w E C u h hu J l k d;cases J with
  |non=>
   cases k;cases l with
   |non=>cases d;exact EqAt.same _
   |int j=>obtain⟨c,rfl⟩:=d;exact EqAt.none_int j c
   |str j=>obtain⟨c,rfl⟩:=d;exact EqAt.none_str j c
   |_=>simp[okD]at h
  |int i=>
   obtain⟨t,rfl⟩:=k;cases l with
   |non=>cases d;exact EqAt.int_none i t
   |int j=>obtain⟨c,rfl⟩:=d;exact(show Zm (.int i) (.int j)=(i==j) from by rw[bY];simp[Zm]) ▸ EqAt.int_int i t j c
   |str j=>obtain⟨c,rfl⟩:=d;exact EqAt.int_str i t j c
   |_=>simp[okD]at h
  |str i=>
   obtain⟨t,rfl⟩:=k;cases l with
   |non=>cases d;exact EqAt.str_none i t
   |int j=>obtain⟨c,rfl⟩:=d;exact EqAt.str_int i t j c
   |str j=>obtain⟨c,rfl⟩:=d;exact(show Zm (.str i) (.str j)=(i==j) from by rw[bY];simp[Zm]) ▸ EqAt.str_str i t j c
   |_=>simp[okD]at h
  |_=>simp[okD]at u
 |succ n ih=>
  intro x y A B w E C u h hu J l k d;cases J with
  |non=>
   cases k;cases l with
   |non=>cases d;exact EqAt.same _
   |int j=>obtain⟨c,rfl⟩:=d;exact EqAt.none_int j c
   |str j=>obtain⟨c,rfl⟩:=d;exact EqAt.none_str j c
   |tup e r=>
    cases d;obtain⟨f,_,p,_⟩:=I.tuple ((e).sq);exact EqAt.none_tuple p (by omega)
   |_=>simp[okD]at h
  |int i=>
   obtain⟨t,rfl⟩:=k;cases l with
   |non=>cases d;exact EqAt.int_none i t
   |int j=>obtain⟨c,rfl⟩:=d;exact(show Zm (.int i) (.int j)=(i==j) from by rw[bY];simp[Zm]) ▸ EqAt.int_int i t j c
   |str j=>obtain⟨c,rfl⟩:=d;exact EqAt.int_str i t j c
   |tup e r=>
    cases d;obtain⟨f,_,p,_⟩:=I.tuple ((e).sq);exact EqAt.int_tuple i t p (by omega)
   |_=>simp[okD]at h
  |str i=>
   obtain⟨t,rfl⟩:=k;cases l with
   |non=>cases d;exact EqAt.str_none i t
   |int j=>obtain⟨c,rfl⟩:=d;exact EqAt.str_int i t j c
   |str j=>obtain⟨c,rfl⟩:=d;exact(show Zm (.str i) (.str j)=(i==j) from by rw[bY];simp[Zm]) ▸ EqAt.str_str i t j c
   |tup e r=>
    cases d;obtain⟨f,_,p,_⟩:=I.tuple ((e).sq);exact EqAt.str_tuple i t p (by omega)
   |_=>simp[okD]at h
  |@tup a xs ds e r=>
   cases k;obtain⟨f,rv,p,_⟩:=I.tuple ((e).sq);cases l with
   |non=>cases d;exact EqAt.tuple_none p (by omega)
   |int j=>obtain⟨c,rfl⟩:=d;exact EqAt.tuple_int j c p (by omega)
   |str j=>obtain⟨c,rfl⟩:=d;exact EqAt.tuple_str j c p (by omega)
   |@tup b ys es Q F=>
    cases d;by_cases v:a=b
    .subst v
     have z:=Den.inj (λ_ _ _ e G=>I.tuple_inj e.sq G.sq) (n:=n+1) (m:=n+1) u h (Den.tup e r) (Den.tup Q F)
     cases z;rw[WW u];exact EqAt.same _
    .obtain⟨g,o,p',_⟩:=I.tuple ((Q).sq)
     refine EqAt.of_refs v ?_;have q:=RcAt.tuples (A:=A) (s:=s) (e:=λi=>Zm ((ds[i]?).getD .non) ((es[i]?).getD .non)) p p' (by omega) λj P N=>?_
     .have e1:f.toArray.size=ds.length:=by rw[aH,<-rv.length,r.length]
      have G:g.toArray.size=es.length:=by rw[aH,<-o.length,F.length]
      rw[e1,G]at q;show RcAt A s (.ref a) (.ref b) (Zs ds es);rw[Yx];exact q
     .have l1:j < ds.length:=by rw[<-r.length,rv.length];simpa using P
      have l2:j < es.length:=by rw[<-F.length,o.length];simpa using N
      have g1:ds[j]?=aa ds[j]:=Lg l1;have g2:es[j]?=aa es[j]:=Lg l2;obtain⟨U,q1,d1⟩:=r.get g1;obtain⟨T,Z,d2⟩:=F.get g2;obtain⟨M,S,Y⟩:=rv.get q1;obtain⟨L,R,W⟩:=o.get Z;have f1:f.toArray[j]=M:=by
       have:f[j]?=aa (f[j]'(by simpa using P)):=Lg _
       rw[S]at this;simpa using(au this).symm
      have f2:g.toArray[j]=L:=by
       have:g[j]?=aa (g[j]'(by simpa using N)):=Lg _
       rw[R]at this;simpa using(au this).symm
      rw[f1,f2,g1,g2];exact ih ds[j] es[j] A.in1 U T M L (YZ u g1) (YZ h g2) (by show A.units+1+n < cLine;omega) d1 d2 Y W
   |_=>simp[okD]at h
  |_=>simp[okD]at u
open PySem.SeqAt in
def Vr(I:Inv X pQ O H s){a b:Ad}{d c:Li vL}(z:ZX n ds=ac)(y:ZX n es=ac)(hu:A.units+n+1 < cLine)(r:Dens X.K ad H xs ds)(h:Dens X.K ad H ys es)(rv:Vals xs d)(e:Vals ys c)(j:Nat)(k:j < d.toArray.size)(i:j < c.toArray.size):EqAt A.in1 s d.toArray[j] c.toArray[j] (Zm ((ds[j]?).getD .non) ((es[j]?).getD .non)):=by
 have x:j < ds.length:=by rw[<-r.length,rv.length];simpa using k
 have w:j < es.length:=by rw[<-h.length,e.length];simpa using i
 have g1:ds[j]?=aa ds[j]:=Lg x;have g2:es[j]?=aa es[j]:=Lg w;obtain⟨p,v,E⟩:=r.get g1;obtain⟨o,u,D⟩:=h.get g2;obtain⟨g,m,t⟩:=rv.get v;obtain⟨f,l,q⟩:=e.get u;have C:d.toArray[j]=g:=by
  have:d[j]?=aa (d[j]'(by simpa using k)):=Lg _
  rw[m]at this;simpa using(au this).symm
 have B:c.toArray[j]=f:=by
  have:c[j]?=aa (c[j]'(by simpa using i)):=Lg _
  rw[l]at this;simpa using(au this).symm
 rw[C,B,g1,g2];exact Zfa I n ds[j] es[j] A.in1 p o g f (YZ z g1) (YZ y g2) (by show A.units+1+n < cLine;omega) E D t q
open PySem.SeqAt in
def Zdy(I:Inv X pQ O H s){a b:Ad}(t:ZX n ds=ac)(o:ZX n es=ac)(hu:A.units+n+1 < cLine)(e:TupAt X.K H a xs)(r:Dens X.K ad H xs ds)(w:TupAt X.K H b ys)(f:Dens X.K ad H ys es):RcAt A s (.ref a) (.ref b) (Zs ds es)/\RcNeAt A s (.ref a) (.ref b) (!Zs ds es):=by
 obtain⟨g,rv,p,_⟩:=I.tuple (e.sq);obtain⟨d,c,m,_⟩:=I.tuple (w.sq);have v:g.toArray.size=ds.length:=by rw[aH,<-rv.length,r.length]
 have u:d.toArray.size=es.length:=by rw[aH,<-c.length,f.length]
 have q:=RcAt.tuples (A:=A) (s:=s) (e:=λi=>Zm ((ds[i]?).getD .non) ((es[i]?).getD .non)) p m (by omega) λj k h=>Vr (a:=a) (b:=b) I t o hu r f rv c j k h
 have l:=RcNeAt.tuples (A:=A) (s:=s) (e:=λi=>Zm ((ds[i]?).getD .non) ((es[i]?).getD .non)) p m (by omega) λj k h=>Vr (a:=a) (b:=b) I t o hu r f rv c j k h
 rw[v,u]at q l;rw[Yx];exact⟨q,l⟩
end Dp
namespace Dp
open PySem PySem.Spec PyProof.Rows L2 Builtin Builtin.Str
variable [ClsTab]
section
variable{X:Cx}{tg:aw}
end
end Dp
namespace Dp
open PySem PySem.Spec PyProof.Rows L2
variable [ClsTab]
variable{X:Cx}{pQ:Li (Ad×Obj)}{s:Sd}{O:L2.St}{H:Hp}{a:Ad}{Q:VK}
section
open Builtin
open AutoSeq1 (wpAny_loadPart')
theorem XQ:fillsNumberSlot (.type "tuple") "mul"=pure ae:=
 PySem.fillsNumberSlot_seq (id := "tuple.__mul__") (r:=aa (.builtin "tuple.__rmul__")) F.slot_tuple_mul.lookup (by decide +kernel) F.slot_tuple_rmul.lookup (by decide +kernel)
theorem VE:seqRepeat? (.type "tuple")=pure (aa (.builtin "tuple.__mul__")):=by
 unfold seqRepeat?
 rw[PySem.seqSlot_of (T := "tuple") (name := "__mul__") (id := "tuple.__mul__") F.slot_tuple_mul.lookup (by decide +kernel),PySem.seqSlot_of (T := "tuple") (name := "__rmul__") (id := "tuple.__rmul__") F.slot_tuple_rmul.lookup (by decide +kernel)]
 rfl
def Qj(a:Int)(t:Tok)(l:Ad)(b:Array vL)(n:Nat)(dd:Ot Ad)(sl:Array (Ot vL)):Meets (Builtin.«int.__rmul__» ⟨[.int a t,.ref l],[]⟩) (λ_ R s=>s.heap.get? l=aa { cls:=.type "tuple",dict:=dd,data:=.seq b n,slots:=sl }/\R (.ok (.ret Value.notImplemented)) s):=
 .of_wp λc w A R s h=>by obtain⟨i,g,d,e,f⟩:=s;obtain⟨j,h⟩:=h;wp_walk;exact⟨_,rfl,h⟩
def Zcc(l:Ad)(a:Array vL)(n:Nat)(dd:Ot Ad)(sl:Array (Ot vL))(u:Tok) :
  Meets (Builtin.«tuple.__mul__» ⟨[.ref l,.int 1 u],[]⟩) (λ_ R s=>s.heap.get? l=aa { cls:=.type "tuple",dict:=dd,data:=.seq a n,slots:=sl }/\R (.ok (.ret (br l))) s):=
 .of_wp λb w A R s h=>by
  obtain⟨i,g,d,e,f⟩:=s;obtain⟨c,h⟩:=h;have j:=AutoSeq1.idx_int;wp_walk using wpAny_loadPart' c;exact⟨_,rfl,h⟩
def Zcb(l:Ad)(items:Array vL)(n:Nat)(dd:Ot Ad)(sl:Array (Ot vL))(k:Int)(u:Tok)(e:¬items.isEmpty=ac)(c:k<=0)(p:-1000<=k) :
  Meets (Builtin.«tuple.__mul__» ⟨[.ref l,.int k u],[]⟩) (λ_ R s=>s.heap.get? l=aa { cls:=.type "tuple",dict:=dd,data:=.seq items n,slots:=sl }/\R (.ok (.ret (br s.heap.objs.size))) { s with heap:=s.heap.push { cls:=.type "tuple",data:=.seq #[] } }):=
 .of_wp λb w A R s h=>by
  obtain⟨o,g,d,j,m⟩:=s;obtain⟨a,h⟩:=h;have q:=AutoSeq1.idx_int;have i:(aj (k < -(2 ^ 63))||aj (k>=2 ^ 63))=ae:=by rw[aG (by omega),aG (by omega)];rfl
  have f:(items.isEmpty||k==1)=ae:=by
   have:(k==1)=ae:=by rw[cM];omega
   rw[this,Bool.or_false];simpa using e
  have r:(aj (k<=0)||items.isEmpty)=ac:=by rw[aK c];rfl
  wp_walk using wpAny_loadPart' a
  refine wpAny_ite_false (by rw[i];rfl) ?_
  wp_walk using wpAny_loadPart' a
  refine wpAny_ite_false (by rw[f];rfl) ?_
  wp_walk using wpAny_loadPart' a
  exact⟨_,rfl,h⟩
def Zcd(l:Ad)(items:Array vL)(n:Nat)(dd:Ot Ad)(sl:Array (Ot vL))(k:Int)(u:Tok)(b:items.size=1)(y:2<=k)(x:k<=1000) :
  Meets (Builtin.«tuple.__mul__» ⟨[.ref l,.int k u],[]⟩) (λ_ R s=>s.heap.get? l=aa { cls:=.type "tuple",dict:=dd,data:=.seq items n,slots:=sl }/\R (.ok (.ret (br s.heap.objs.size))) { s with heap:=s.heap.push { cls:=.type "tuple",data:=.seq ((af k.toNat items).foldl (λe c=>e++c) #[]) } }):=
 .of_wp λf w A R s h=>by
  obtain⟨v,g,d,r,t⟩:=s;obtain⟨a,h⟩:=h;have B:=AutoSeq1.idx_int;have q:(aj (k < -(2 ^ 63))||aj (k>=2 ^ 63))=ae:=by rw[aG (by omega),aG (by omega)];rfl
  have i:items.isEmpty=ae:=by
   rw[Array.isEmpty_eq_false_iff];intro z;rw[z]at b;simp at b
  have p:(items.isEmpty||k==1)=ae:=by
   have:(k==1)=ae:=by rw[cM];omega
   rw[this,Bool.or_false];exact i
  have o:(aj (k<=0)||items.isEmpty)=ae:=by rw[aG (by omega),i];rfl
  have m:aj ((items.size:Int) * k > (2 ^ 63 - 1) / 8)=ae:=by rw[b];exact aG (by omega)
  have j:Tuple.tupleTooMany ((items.size:Int) * k)=ae:=by
   unfold Tuple.tupleTooMany;rw[b];exact aG (by have:(av:Int)>=1000:=(by decide);omega)
  have C:aj (((af k.toNat items).foldl (λe c=>e++c) #[]).size > av)=ae:=by
   rw[AutoListH.size_joined];refine aG ?_;have:av>=1000:=by decide
   simp only[b,Array.size_empty];omega
  wp_walk using wpAny_loadPart' a
  refine wpAny_ite_false (by rw[q];rfl) ?_
  wp_walk using wpAny_loadPart' a
  refine wpAny_ite_false (by rw[p];rfl) ?_
  wp_walk using wpAny_loadPart' a
  refine wpAny_ite_false (by rw[o];rfl) ?_
  wp_walk using wpAny_loadPart' a
  refine wpAny_ite_false m ?_
  wp_walk using wpAny_loadPart' a
  refine wpAny_ite_false (by rw[j];rfl) ?_
  wp_walk using wpAny_loadPart' a
  exact⟨_,rfl,h⟩
theorem Zdz{v:V}{k:Int}{t:Tok}(I:L2.Inv X pQ O H s)(L:TupAt X.K H a [v])(N:k<=1000)(M:-1000<=k)(E:k=1->Q (.ref a) H)(D:∀ p,H p=ab->Q (.ref p) (upd H p (.tup (af k.toNat v)))):ay (az X.prog X.w) X.A (bp .Mult (.ref a) (.int k t)) (EP X pQ O Q) X.xe s:=by
 obtain⟨J,r,G,_⟩:=I.tuple (L.sq);obtain⟨u,rfl,B⟩:=r.one;obtain⟨⟨Y,dd,W,sl⟩,d,l,n,i⟩:=id G;simp only at l i;subst l i;have f:∀ c:Li vL,Vals (af k.toNat v) c->EP X pQ O Q (.ref s.heap.objs.size) { s with heap:=s.heap.push { cls:=.type "tuple",data:=.seq c.toArray } }:=λc C=>
  ⟨.ref s.heap.objs.size,_,I.laid (t':=s.toks) (o:=.tup (af k.toNat v)) (λb S q=>aL _ q) (aD _) ⟨by rw[bM];exact aM (show k.toNat<=1000 by omega) (by decide),c,C,IsTup.new _ _⟩,rfl,D _ (I.hok.fresh (aD _))⟩
 refine wpAny_binaryOp_repeat_ref (T := "tuple") (U := "int") (by decide) ⟨_,d,rfl⟩ (λy=>typeIs_int y k t) XQ F.fills_int_mul F.slot_int_rmul VE F.slot_int_index.lookup
  (call_meets F.slot_int_rmul (typeIs_int s k t) F.entry_int_rmul (F.args_int_rmul_2 _ _) (Qj k t a _ n dd sl) ⟨d,rfl,⟨_,d,rfl⟩,?_⟩)
 by_cases P:k=1
 .subst P
  exact call_meets F.slot_tuple_mul ⟨_,d,rfl⟩ F.entry_tuple_mul (F.args_tuple_mul_2 _ _) (Zcc a _ n dd sl t) ⟨d,⟨.ref a,H,I,rfl,E rfl⟩⟩
 .by_cases R:k<=0
  .refine call_meets F.slot_tuple_mul ⟨_,d,rfl⟩ F.entry_tuple_mul (F.args_tuple_mul_2 _ _) (Zcb a _ n dd sl k t (by simp) R M) ⟨d,?_⟩
   have z:k.toNat=0:=by omega
   exact f [] (by rw[z];exact .nil)
  .refine call_meets F.slot_tuple_mul ⟨_,d,rfl⟩ F.entry_tuple_mul (F.args_tuple_mul_2 _ _) (Zcd a _ n dd sl k t (by simp) (by omega) N) ⟨d,?_⟩
   have e:List.foldl (λx m=>x++m) #[] (af k.toNat [u].toArray)=(af k.toNat u).toArray:=by
    have h:=foldl_rep [u] k.toNat [];rw[cY]at h;rw[show([]:Li vL).toArray=#[] from rfl]at h;rw[h]
    congr 1
    generalize k.toNat=j
    induction j with
    |zero=>rfl
    |succ j g=>rw[cH,cX,g,cH];rfl
   rw[e];refine f _ ?_;generalize k.toNat=j
   induction j with
   |zero=>exact .nil
   |succ j g=>exact .cons B g
end
def Yl:Zw<=av:=by decide
variable{i j:Int}{xs ys vs:Li V}{op:Operator}{ds:Li D}{ad:Li Ad}{d:D}{st:Za}{lo hi:Ot Int}{k:Bool}
variable{X:Cx}
def U3(h:ZP i=ac):-(2 ^ 64) < i/\i < 2 ^ 64:=by
 unfold ZP at h;rw[Ba]at h;exact⟨al h.1,al h.2⟩
def ZcJ{b:Ad}(I:Inv X pQ O H s)(q:TupAt X.K H a xs)(o:TupAt X.K H b ys)(B:xs.length+ys.length<=av)(v:xs=[]->Q (.ref b) H)(u:ys=[]->Q (.ref a) H)(t:∀ p,H p=ab->Q (.ref p) (upd H p (.tup (xs++ys)))):ay (az X.prog X.w) X.A (bp .Add (.ref a) (.ref b)) (EP X pQ O Q) X.xe s:=by
 by_cases i:xs=[]
 .obtain⟨h,r,y,_⟩:=I.tuple (q.sq)
  obtain⟨c,E,x,_⟩:=I.tuple (o.sq);have C:h=[]:=r.nil_iff.mpr i;subst C;obtain⟨⟨L,dd,G,sl⟩,k,m,n,l⟩:=id y;obtain⟨⟨J,j,D,g⟩,d,f,z,e⟩:=id x;simp only at m l f e;subst m l f e;exact concat_meets ⟨_,k,rfl⟩ ⟨_,d,rfl⟩ noFill_tuple_add seq_tuple_add PySem.F.slot_tuple_add PySem.F.entry_tuple_add (PySem.F.args_tuple_add_2 _ _)
   (tuple_addW0 a b #[] c.toArray n z dd j sl g rfl) ⟨k,d,⟨.ref b,H,I,rfl,v i⟩⟩
 .exact op_catT pQ s O H (.ref a) (.ref b) _ _ Q I rfl rfl ⟨a,b,xs,ys,rfl,rfl,(q).sq,(o).sq,i,B,u,λ_=>t⟩
def JA(hi:0<=i)(a:0<=j):Builtin.bitAnd i j=((i.toNat &&& j.toNat:Nat):Int):=by
 unfold Builtin.bitAnd;simp[hi,a]
def JB(hi:0<=i)(a:j < 0):Builtin.bitAnd i j=i - ((i.toNat &&& (-j - 1).toNat:Nat):Int):=by
 unfold Builtin.bitAnd;rw[aK hi,aG (by omega)]
 rfl
def Zar(hi:0<=i)(b:0<=j):Builtin.bitOr i j=((i.toNat ||| j.toNat:Nat):Int):=by
 unfold Builtin.bitOr;have n:∀ {k:Int},0<=k->aj (0<=Builtin.bitNot k)=ae:=λ{k} h=>by unfold Builtin.bitNot;exact aG (by omega)
 have a:∀ k:Int,Builtin.bitNot (Builtin.bitNot k)=k:=λk=>by unfold Builtin.bitNot;omega
 have e:Builtin.bitAnd (Builtin.bitNot i) (Builtin.bitNot j)=Builtin.bitNot ((Builtin.bitNot (Builtin.bitNot i)).toNat ||| (Builtin.bitNot (Builtin.bitNot j)).toNat:Nat):=by
  unfold Builtin.bitAnd;rw[n hi,n b]
 rw[e,a,a,a]
def Zdt{k:Int}{v u:vL}(I:L2.Inv X pQ O H s)(c:RelV (.int i) v)(b:RelV (.int j) u)(e:Zap op i j=aa k)(p:Q (.int k) H) :
  ay (az X.prog X.w) X.A (bp op v u) (EP X pQ O Q) X.xe s:=by
 unfold Zap at e;split at e
 .cases e
  exact op_add pQ s O H _ _ v u Q I c b ⟨_,_,rfl,rfl,p⟩
 .cases e
  exact op_sub pQ s O H _ _ v u Q I c b ⟨_,_,rfl,rfl,p⟩
 .split at e
  .rename_i a
   cases e;refine op_mul pQ s O H _ _ v u Q I c b ⟨_,_,rfl,rfl,?_,p⟩;rw[dJ]at a;exact a.elim (λz=>.inl (U3 z)) λz=>.inr (U3 z)
  .cases e
 .split at e
  .rename_i a
   cases e;exact op_fdiv pQ s O H _ _ v u Q I c b ⟨_,_,rfl,rfl,a,p⟩
  .split at e
   .rename_i a
    cases e;exact op_fdivN pQ s O H _ _ v u Q I c b ⟨_,_,rfl,rfl,⟨by omega,by omega⟩,p⟩
   .cases e
 .split at e
  .rename_i a
   cases e;exact op_mod pQ s O H _ _ v u Q I c b ⟨_,_,rfl,rfl,a,p⟩
  .split at e
   .rename_i a
    cases e;exact op_modN pQ s O H _ _ v u Q I c b ⟨_,_,rfl,rfl,(by omega),p⟩
   .cases e
 .split at e
  .rename_i a
   cases e;have:=U3 a.2.2;exact op_pow pQ s O H _ _ v u Q I c b ⟨_,_,rfl,rfl,⟨a.1,by omega,by omega⟩,p⟩
  .cases e
 .split at e
  .rename_i a
   cases e;refine op_and pQ s O H _ _ v u Q I c b ⟨_,_,rfl,rfl,?_⟩;dsimp only;rw[JA a.1 a.2];exact p
  .split at e
   .rename_i a
    cases e;refine op_and pQ s O H _ _ v u Q I c b ⟨_,_,rfl,rfl,?_⟩;dsimp only;rw[JB a.1 a.2];exact p
   .cases e
 .split at e
  .rename_i a
   cases e;refine op_or pQ s O H _ _ v u Q I c b ⟨_,_,rfl,rfl,?_⟩;dsimp only;rw[Zar a.1 a.2];exact p
  .cases e
 .cases e
def JJ{b:Ad}(I:L2.Inv X pQ O H s)(C:SqL X.K H a xs)(B:SqL X.K H b ys)(G:xs.length+ys.length<=av)(q:∀ p,H p=ab->Q (.ref p) (upd H p (.lst (xs++ys)))):ay (az X.prog X.w) X.A (bp .Add (.ref a) (.ref b)) (EP X pQ O Q) X.xe s:=by
 obtain⟨d,r,y,_⟩:=I.list C;obtain⟨c,l,x,_⟩:=I.list B;obtain⟨⟨cls,dd,u,sl⟩,m,t,n,o⟩:=id y.isList;obtain⟨⟨v,j,k,i⟩,f,h,z,g⟩:=id x.isList;simp only at t o h g;subst t o h g;have e:d.toArray++c.toArray=(d++c).toArray:=by simp
 have E:=r.length;have D:=l.length;refine concat_meets ⟨_,m,rfl⟩ ⟨_,f,rfl⟩ noFill_list_add seq_list_add PySem.F.slot_list_add PySem.F.entry_list_add (PySem.F.args_list_add_2 _ _) (list_addW a b d.toArray c.toArray n z dd j sl i (by simp;omega)) ⟨m,f,?_⟩
 rw[e];exact⟨.ref _,_,I.lnew (t':=s.toks) (r.append l) (by rw[aI];omega),rfl,q _ I.fresh⟩
def UE(h:Ud op=ac):op=.Add:=by cases op<;>first|rfl|cases h
def Zbx(h:Zbf op=ac):op=.Mult:=by cases op<;>first|rfl|cases h
def Zds:OpR X (bp op) (rD X.K (VQ op)):=by
 intro pQ s O H x y v u Q I r o h;obtain⟨ad,st,R,P,d,st',S,m,l,e,p⟩:=h;unfold VQ at e;split at e
 .split at e
  .rename_i k q
   cases e;cases m;cases l
   exact Zdt I r o q (p.at S (.int _))
  .exact Zb e
 .split at e
  .rename_i i
   cases UE i.1
   have g:=i.2;cases e;obtain⟨a,xs,rfl,j,c⟩:=m.ofTup;obtain⟨b,ys,rfl,E,A⟩:=l.ofTup;cases r;cases o
   refine ZcJ I j E (by rw[c.length,A.length];exact aM g Yl) (λz=>?_) (λz=>?_) λq f=>?_
   .subst z;cases c
    exact p.at S l
   .subst z;cases A
    rw[bD]at p;exact p.at S m
   .exact p _ ad _ (Ext.laid f) (S.laid f) (.tup (.inl upd_same) ((c.append A).mono (Ext.laid f)))
  .exact Zb e
 .split at e
  .rename_i i
   cases Zbx i
   obtain⟨a,xs,rfl,j,c⟩:=m.ofTup;cases l;cases r;obtain⟨t,rfl⟩:=o;cases c with
   |nil=>exact Zb e
   |cons B c=>cases c with
    |cons _ _=>exact Zb e
    |nil=>
     have e:(if _/\_ then aa (D.tup (af _ _),st) else ab)=aa (d,st'):=e
     split at e
     .rename_i g
      cases e;refine Zdz I j g.1 g.2 (λz=>?_) λq f=>p _ ad _ (Ext.laid f) (S.laid f) (.tup (.inl upd_same) ((Dens.rep B _).mono (Ext.laid f)))
      subst z;exact p.at S (.tup j (.cons B .nil))
     .exact Zb e
  .exact Zb e
 .split at e
  .rename_i n
   cases UE n
   unfold ZcI at e;split at e
   .rename_i xs ys C G
    split at e
    .rename_i g
     cases e;obtain⟨a,rfl,j⟩:=m.ofLst;obtain⟨b,rfl,E⟩:=l.ofLst;obtain⟨vs,c,F⟩:=S.list j C;obtain⟨N,A,L⟩:=S.list E G;cases r;cases o
     refine JJ I F L (by rw[c.length,A.length];exact aM g Yl) λq f=>?_
     refine p _ (ad++[q]) _ (Ext.push f) (S.push f (c.append A)) (.newL ?_);rw[<-S.len];exact Zu
    .exact Zb e
   .exact Zb e
  .exact Zb e
 .split at e
  .rename_i n
   cases Zbx n
   unfold Zhz at e;split at e
   .rename_i z C
    split at e
    .rename_i g
     cases e;obtain⟨a,rfl,j⟩:=m.ofLst;obtain⟨vs,c,F⟩:=S.listM j C;cases l;cases c with
     |cons B c=>
      cases c;rename_i w;refine op_rep pQ s O H _ _ v u Q I r o ⟨a,_,[w],rfl,rfl,F,by omega,by omega,?_,λq f=>?_⟩
      .rw[eH,cR]
       exact aM (show _<=1000 by omega) (by decide)
      .have M:∀ k:Nat,(af k [w]).flatten=af k w:=λk=>by
        induction k with
        |zero=>rfl
        |succ k J=>rw[cH,cX,J,cH];rfl
       rw[M];refine p _ (ad++[q]) _ (Ext.push f) (S.push f (Dens.rep B _)) (.newL ?_);rw[<-S.len];exact Zu
    .exact Zb e
   .exact Zb e
  .exact Zb e
 .split at e
  .rename_i g
   cases UE g.1
   cases e;cases m;cases l
   exact op_add_str pQ s O H _ _ v u Q I r o ⟨_,_,rfl,rfl,aM g.2 Yl,p.at S (.str _)⟩
  .exact Zb e
 .exact Zb e
def Zd4:UnR X (unaryOp .USub) (rU1 X.K Zfx):=by
 intro pQ s O H x v Q I a h;obtain⟨ad,st,c,d,st',S,b,e,p⟩:=h;unfold Zfx at e;split at e
 .cases e;cases b
  exact un_neg pQ s O H _ v Q I a ⟨_,rfl,p.at S (.int _)⟩
 .exact Zb e
def Zd3:UnR X (unaryOp .Invert) (rU1 X.K Zfk):=by
 intro pQ s O H x v Q I a h;obtain⟨ad,st,c,d,st',S,b,e,p⟩:=h;unfold Zfk at e;split at e
 .cases e;cases b
  exact un_inv pQ s O H _ v Q I a ⟨_,rfl,p.at S (.int _)⟩
 .exact Zb e
def UH(r:Dens X.K ad H xs ds)(e:atD ds i=aa d):∃ v,atI xs i=aa v/\Den X.K ad H v d:=by
 unfold atD at e;have a:L2.ixN xs.length i=Dp.ixN ds.length i:=by rw[r.length];rfl
 cases q:Dp.ixN ds.length i with
 |none=>rw[q]at e;cases e
 |some j=>
  rw[q]at e;obtain⟨v,c,b⟩:=r.get (i:=j) e;refine⟨v,?_,b⟩;unfold atI;rw[a,q];exact c
theorem XC{ad:Li Ad}{H:Hp}{k:Str}:∀ {ks:Li Str}{vs:Li V}{ds:Li D},Dens X.K ad H vs ds->ks.length=vs.length->
  (∃ v d,valV ((ks.zip vs).map λp=>((Sum.inr p.1:Key),p.2)) (Sum.inr k)=aa v/\Z4 ks ds k=aa d/\Den X.K ad H v d)\/(valV ((ks.zip vs).map λp=>((Sum.inr p.1:Key),p.2)) (Sum.inr k)=ab/\Z4 ks ds k=ab)
 |[],_,_,.nil,_=>.inr ⟨rfl,rfl⟩
 |[],_,_,.cons _ _,h=>by simp at h
 |_ :: _,_,_,.nil,h=>by simp at h
 |x :: ks,v :: vs,d :: ds,.cons b r,h=>by
  by_cases e:x=k
  .subst e
   exact .inl ⟨v,d,valV_pos rfl,by simp[Z4],b⟩
  .have a:=XC (k:=k) r (by simpa using h)
   have f:valV (((x :: ks).zip (v :: vs)).map λp=>((Sum.inr p.1:Key),p.2)) (Sum.inr k)=valV ((ks.zip vs).map λp=>((Sum.inr p.1:Key),p.2)) (Sum.inr k):=valV_neg (p:=(Sum.inr x,v)) (by intro z;exact e (Sum.inr.inj z))
   have c:Z4 (x :: ks) (d :: ds) k=Z4 ks ds k:=by simp[Z4,e]
   rw[f,c];exact a
def US{ks:Li D}{a:Nat}{o:Ot D}(h:dAt ks a st=aa o):∃ i j b xs,ks=[.int i,.int j]/\st[a]?=aa (b,xs)/\o=Ya xs i j:=by
 cases ks with
 |nil=>exact Zb h
 |cons x ks=>cases ks with
  |nil=>exact Zb h
  |cons y ks=>cases ks with
   |cons _ _=>exact Zb h
   |nil=>
    refine ZU (P:=λo=>∃ i j b xs,[x,y]=[D.int i,.int j]/\st[a]?=aa (b,xs)/\o=Ya xs i j) h λp c d f=>?_
    refine ZU (P:=λp:Int×Int=>∃ i j b xs,[x,y]=[D.int i,.int j]/\st[a]?=aa (b,xs)/\Ya c.2 p.1 p.2=Ya xs i j) d λi j hi e=>?_
    exact⟨i,j,c.1,c.2,by rw[QT hi,QT e],f,rfl⟩
def Xt{y:V}(a:Den X.K ad H y (.tup [.int i,.int j])):∃ b,y=.ref b/\SqT X.K H b (([.inl i,.inl j]:Li Key).map kV):=by
 obtain⟨b,xs,rfl,c,r⟩:=a.ofTup;cases r with
 |cons e r=>cases r with
  |cons d r=>cases r;cases e;cases d;exact⟨b,rfl,c.sq⟩
def ZgL{x:Str}(q:atD ((chS x).map D.str) i=aa d):∃ c,atI x.cps.toList i=aa c/\d=.str ⟨#[c]⟩:=by
 unfold atD at q;unfold atI;have b:((chS x).map D.str).length=x.cps.toList.length:=by simp[chS]
 rw[b]at q;show ∃ c,(Dp.ixN x.cps.toList.length i).bind (λj=>x.cps.toList[j]?)=aa c/\_
 cases e:Dp.ixN x.cps.toList.length i with
 |none=>rw[e]at q;cases q
 |some j=>
  rw[e]at q;have q:((chS x).map D.str)[j]?=aa d:=q;unfold chS at q;rw[aU,aU]at q;show ∃ c,x.cps.toList[j]?=aa c/\_;cases a:x.cps.toList[j]? with
  |none=>rw[a]at q;cases q
  |some c=>rw[a]at q;cases q;exact⟨c,rfl,rfl⟩
def Zih(hu:X.A.units+64 < cLine):IxR X (rD X.K ixR):=by
 intro f slice pQ s O H x y v u Q I t m h C;obtain⟨ad,st,Z,Y,d,st',S,B,z,e,p⟩:=h;unfold ixR at e;split at e
 .rename_i d' q
  cases e;unfold ixD at q;split at q
  .obtain⟨a,xs,rfl,l,r⟩:=B.ofTup
   cases z;obtain⟨w,k,g⟩:=UH r q;exact ix_tup f slice pQ s O H _ _ v u Q I t m ⟨a,xs,_,w,rfl,rfl,(l).sq,k,p.at S g⟩ C
  .split at q
   .rename_i D
    obtain⟨a,rfl,l⟩:=B.ofLst;cases z;obtain⟨xs,r,sq⟩:=S.list l D;obtain⟨w,k,g⟩:=UH r q;exact ix_list f slice pQ s O H _ _ v u Q I t m ⟨a,xs,_,w,rfl,rfl,sq,k,p.at S g⟩ C
   .exact Zb q
  .obtain⟨a,vs,rfl,l,L,r⟩:=B.ofDct
   cases z;rcases XC r L with⟨w,W,k,g,F⟩|⟨_,g⟩
   .rw[g]at q
    cases q;exact ix_dct f slice pQ s O H _ _ v u Q I t m ⟨a,_,Sum.inr _,w,rfl,rfl,l,k,p.at S F⟩ C
   .rw[g]at q;cases q
  .obtain⟨a,o,E,n,rfl,V,U,T,R,P⟩:=B.ofKt
   cases z;obtain⟨w,k,g⟩:=UH (W9 _) q;exact ix_tup f slice pQ s O H _ _ v u Q I t m ⟨a,_,_,w,rfl,rfl,.inr ⟨o,E,n,V,U.1,T,R,P⟩,k,p.at S g⟩ C
  .refine j_e q λq=>?_
   obtain⟨i,j,bb,es,rfl,D,q⟩:=US q;obtain⟨a,rfl,l,J⟩:=B.ofDic;obtain⟨kvs,r,M,_⟩:=S.dict l J D;obtain⟨b,rfl,N⟩:=Xt z;rcases Y4 r with⟨w,W,k,g,F⟩|⟨_,g⟩
   .rw[g]at q
    cases q;exact ix_dT (by omega) f slice pQ s O H _ _ v u Q I t m ⟨a,b,kvs,_,w,rfl,rfl,N,M,k,p.at S F⟩ C
   .rw[g]at q;cases q
  .split at q
   .rename_i G
    cases B;cases z
    obtain⟨c,k,rfl⟩:=ZgL q;exact ix_str f slice pQ s O H _ _ v u Q I t m ⟨_,_,c,rfl,rfl,aM G Yl,k,p.at S (.str _)⟩ C
   .exact Zb q
  .exact Zb q
 .exact Zb e
def YE(n d:Nat)(o:Ot Int):Dp.sIx n d o=HT.sIx n d o:=by cases o<;>rfl
def ZaD(r:Dens X.K ad H xs ds):Dens X.K ad H (cutV xs lo hi) (Y9 ds lo hi):=by
 unfold cutV Y9;rw[<-r.length,YE,YE];exact(r.drop _).take _
def WQ{prog:a0}{w:bh}{A:bo}{E:vL->Sd->Prop}{t sl:Ad}{a:Array vL}{i g:vL}{Q:vL->Sd->Prop}(c:IsTup s.heap t a)(k:s.heap.IsSliceOf sl i g .none)(m:IsPart i lo)(l:IsPart g hi)(j:HT.sIx a.size 0 lo=0/\HT.sIx a.size a.size hi=a.size)(h:Q (.ref t) s):ay (az prog w) A (getItem (.ref t) (.ref sl)) Q E s:=by
 obtain⟨n,d,e,o⟩:=id k;have f:s.TypeIs (.ref sl) "slice":=⟨n,d,e⟩;unfold getItem
 try with_reducible refine wpAny_holding ?_
 first|refine aA (aE ?_)|skip
 refine aA (wpAny_sequenceKey c.typeIs (by decide) ?_)
 refine aA (wpAny_callSpecial?_slot (name:=Str.ofString "__getitem__") c.typeIs PyProof.Rows.slot_tuple_getitem
  (wpAny_call_entry PyProof.Rows.slot_tuple_getitem c.typeIs PyProof.Rows.entry_tuple_getitem ?_ (PyProof.Rows.args_tuple_getitem _ _)))
 show ay _ _ (Builtin.Tuple.tupleItemsOf (.ref t) >>= _) _ _ s;refine aA (tupleItemsOf_ c ?_);refine aA (wpAny_typeOf f ?_);rw[am (by decide)]
 refine aA (HT.sliceApplied_gen k m l ?_);rw[j.1,j.2];have b:(((0:Nat):Int)==0&&(1:Int)==1&&(a.size - 0)==a.size)=ac:=by simp
 show ay _ _ (if (((0:Nat):Int)==0&&(1:Int)==1&&(a.size - 0)==a.size)=ac then _ else _) _ _ s
 rw[am b];unfold Builtin.Tuple.tupleIsExact
 wp_walk using wpAny_typeOf c.typeIs
 exact⟨_,rfl,aE h⟩
def Zb5:SlR X (λx lo hi H Q=>∃ a xs,x=.ref a/\SqT X.K H a xs/\(HT.sIx xs.length 0 lo=0/\HT.sIx xs.length xs.length hi=xs.length)/\Q (.ref a) H):=by
 intro pQ s O H x v m l lo hi sl Q I e k g f h;obtain⟨a,xs,rfl,i,j,q⟩:=h;cases e;obtain⟨c,r,d,n⟩:=I.tuple i;have b:c.toArray.size=xs.length:=by rw[aH];exact r.length.symm
 refine⟨"tuple",_,PyProof.Rows.slot_tuple_getitem.lookup,d.typeIs,?_⟩;exact WQ d k g f (by rw[b];exact j) ⟨.ref a,H,I,rfl,q⟩
def Zjl:SlR X (rSl X.K):=by
 intro pQ s O H x v i g lo hi sl Q I j n l k h;obtain⟨ad,st,t,d,st',S,f,e,p⟩:=h;unfold Z0 at e;split at e
 .rename_i ds
  split at e
  .rename_i m
   cases e;obtain⟨a,xs,rfl,c,r⟩:=f.ofTup;refine Zb5 pQ s O H _ v i g lo hi sl Q I j n l k ⟨a,xs,rfl,c.sq,?_,p.at S f⟩;rw[r.length,<-YE,<-YE];exact m
  .rename_i m
   cases e;obtain⟨a,xs,rfl,c,r⟩:=f.ofTup;refine sl_tup pQ s O H _ v i g lo hi sl Q I j n l k ⟨a,xs,rfl,(c).sq,?_,λq b=>p _ ad _ (Ext.laid b) (S.laid b) (.tup (.inl upd_same) ((ZaD r).mono (Ext.laid b)))⟩
   rw[r.length,<-YE,<-YE];exact m
 .split at e
  .rename_i o
   cases e;obtain⟨a,rfl,c⟩:=f.ofLst;obtain⟨xs,r,sq⟩:=S.list c o;refine sl_list pQ s O H _ v i g lo hi sl Q I j n l k ⟨a,xs,rfl,sq,λq b=>p _ (ad++[q]) _ (Ext.push b) (S.push b (ZaD r)) (.newL ?_)⟩
   rw[<-S.len];exact Zu
  .exact Zb e
 .exact Zb e
def Wl(h:Dens X.K ad H vs [d]):∃ v,vs=[v]/\Den X.K ad H v d:=by
 cases h with
 |cons h r=>cases r;exact⟨_,rfl,h⟩
def Zeg{e:D}(h:Dens X.K ad H vs [d,e]):∃ v w,vs=[v,w]/\Den X.K ad H v d/\Den X.K ad H w e:=by
 cases h with
 |cons h r=>
  cases r with
  |cons a r=>cases r;exact⟨_,_,rfl,h,a⟩
def Yg{g:D->Za->Res}{r:D×Za}(h:on1 g ds st=aa r):∃ d,ds=[d]/\g d st=aa r:=by
 unfold on1 at h;split at h
 .exact⟨_,rfl,h⟩
 .exact Zb h
def W5{g:D->D->Za->Res}{r:D×Za}(h:on2 g ds st=aa r):∃ d e,ds=[d,e]/\g d e st=aa r:=by
 unfold on2 at h;split at h
 .exact⟨_,_,rfl,h⟩
 .exact Zb h
def JE:CallR X (.builtin "len") (rC X.K (on1 Ui)):=by
 intro pQ s O H xs b Q I r h;obtain⟨ad,st,ds,d,st',S,l,e,p⟩:=h;obtain⟨x,rfl,z⟩:=Yg e;have e:=z;obtain⟨v,rfl,c⟩:=Wl l;unfold Ui at e;split at e
 .rename_i n q
  cases e;unfold Zdk at q;split at q
  .cases q
   obtain⟨a,ys,rfl,i,f⟩:=c.ofTup;refine call_len_seq pQ s O H _ b Q I r ⟨a,ys,rfl,.inr ((i).sq),?_⟩;rw[f.length];exact p.at S (.int _)
  .split at q
   .rename_i j
    cases q;obtain⟨a,rfl,i⟩:=c.ofLst;obtain⟨ys,f,sq⟩:=S.list i j;refine call_len_seq pQ s O H _ b Q I r ⟨a,ys,rfl,.inl sq,?_⟩;rw[f.length];exact p.at S (.int _)
   .cases q
  .cases q
   obtain⟨a,o,g,n,rfl,y,w,u,t,m⟩:=c.ofKt;refine call_len_seq pQ s O H _ b Q I r ⟨a,_,rfl,.inr (.inr ⟨o,g,n,y,w.1,u,t,m⟩),?_⟩;rw[aB];exact p.at S (.int _)
  .split at q
   .rename_i k
    cases q;cases c
    exact call_len pQ s O H _ b Q I r ⟨_,_,rfl,⟨aM k Yl,rfl⟩,p.at S (.int _)⟩
   .cases q
  .cases q
 .exact Zb e
def VT:CallR X (.type "tuple") (rC X.K (on1 VM)):=by
 intro pQ s O H xs g Q I r h;obtain⟨ad,st,ds,d,st',S,k,e,p⟩:=h;obtain⟨x,rfl,m⟩:=Yg e;have e:=m;obtain⟨v,rfl,b⟩:=Wl k;unfold VM at e;split at e
 .cases e
  obtain⟨a,ys,rfl,f,i⟩:=b.ofTup;exact call_tuple_of pQ s O H _ g Q I r ⟨a,ys,rfl,.inr ⟨(f).sq,p.at S b⟩⟩
 .split at e
  .rename_i j
   cases e;obtain⟨a,rfl,f⟩:=b.ofLst;obtain⟨ys,i,sq⟩:=S.list f j;exact call_tuple_of pQ s O H _ g Q I r ⟨a,ys,rfl,.inl ⟨sq,λl c=>p _ ad _ (Ext.laid c) (S.laid c) (.tup (.inl upd_same) (i.mono (Ext.laid c)))⟩⟩
  .cases e
 .cases e
def UP:CallR X (.type "list") (rC X.K (on1 Zbo)):=by
 intro pQ s O H xs g Q I r h;obtain⟨ad,st,ds,d,st',S,k,e,p⟩:=h;obtain⟨x,rfl,m⟩:=Yg e;have e:=m;obtain⟨v,rfl,i⟩:=Wl k;unfold Zbo at e;split at e
 .cases e
  obtain⟨a,ys,rfl,f,c⟩:=i.ofTup;refine call_list_of pQ s O H _ g Q I r ⟨a,ys,rfl,.inr ((f).sq),λl b=>p _ (ad++[l]) _ (Ext.push b) (S.push b c) (.newL ?_)⟩
  rw[<-S.len];exact Zu
 .split at e
  .rename_i j
   cases e;obtain⟨a,rfl,f⟩:=i.ofLst;obtain⟨ys,c,sq⟩:=S.list f j;refine call_list_of pQ s O H _ g Q I r ⟨a,ys,rfl,.inl sq,λl b=>p _ (ad++[l]) _ (Ext.push b) (S.push b c) (.newL ?_)⟩
   rw[<-S.len];exact Zu
  .cases e
 .cases e
def JD:CallR X (.type "int") (rC X.K (on1 Zfi)):=by
 intro pQ s O H xs a Q I r h;obtain⟨ad,st,ds,d,st',S,c,e,p⟩:=h;obtain⟨x,rfl,f⟩:=Yg e;have e:=f;obtain⟨v,rfl,b⟩:=Wl c;unfold Zfi at e;split at e
 .cases e;cases b
  exact call_int1 pQ s O H _ a Q I r (.inl ⟨_,rfl,p.at S (.int _)⟩)
 .cases e;cases b
  exact call_int1 pQ s O H _ a Q I r (.inr ⟨ac,rfl,p.at S (.int _)⟩)
 .cases e;cases b
  exact call_int1 pQ s O H _ a Q I r (.inr ⟨ae,rfl,p.at S (.int _)⟩)
 .exact Zb e
def JG(g:X.calm=ac):CallR X (.builtin "min") (rC X.K (on2 Zfr)):=by
 intro pQ s O H xs a Q I r h;obtain⟨ad,st,ds,d,st',S,f,e,p⟩:=h;obtain⟨x,y,rfl,i⟩:=W5 e;have e:=i;obtain⟨v,w,rfl,c,b⟩:=Zeg f;unfold Zfr at e;split at e
 .cases e;cases c;cases b
  exact call_min2 g pQ s O H _ a Q I r ⟨_,_,rfl,p.at S (.int _)⟩
 .exact Zb e
def JF(g:X.calm=ac):CallR X (.builtin "max") (rC X.K (on2 Zfq)):=by
 intro pQ s O H xs a Q I r h;obtain⟨ad,st,ds,d,st',S,f,e,p⟩:=h;obtain⟨x,y,rfl,i⟩:=W5 e;have e:=i;obtain⟨v,w,rfl,c,b⟩:=Zeg f;unfold Zfq at e;split at e
 .cases e;cases c;cases b
  exact call_max2 g pQ s O H _ a Q I r ⟨_,_,rfl,p.at S (.int _)⟩
 .exact Zb e
noncomputable def tyN:Ty->String
 |.int => "int"
 |.bool => "bool"
 |.str => "str"
 |.tuple => "tuple"
noncomputable def Zbj:D->String
 |.int _ => "int"
 |.bl _ => "bool"
 |.str _ => "str"
 |.tup _ => "tuple"
 |.non => "NoneType"
 |_ => "list"
def Zbk(K:Fg){T:Ty}(h:Zfm T d=aa k):W.kitOne K (.type (Zbj d)) (.type (tyN T))=aa k:=by
 cases d<;>first | (cases h;done) | (cases T<;>(cases h;rfl))
def ZhS{K:Fg}{v:V}{T:Ty}(h:Zfm T d=aa k)(c:Den K ad H v d):TyOf K H v (.type (Zbj d))\/∃ a xs,v=.ref a/\SqT K H a xs/\Zbj d = "tuple":=by
 cases c with
 |non=>exact .inl .non
 |bl b=>exact .inl (.bl b)
 |int i=>exact .inl (.int i)
 |str x=>exact .inl (.str x)
 |tup e r=>exact .inr ⟨_,_,rfl,e.sq,rfl⟩
 |lst e=>exact Zb h
 |dic _ _=>exact Zb h
 |dct _ _ _ _ _=>exact Zb h
 |obj _ _=>exact Zb h
 |kt _ _ _ _ _ _=>exact Zb h
def Zay{T:Ty}:CallR X (.builtin "isinstance") (λvs H Q=>∃ v,vs=[v,.ty (tyN T)]/\rC X.K (on1 (Zbh T)) [v] H Q):=by
 intro pQ s O H xs D Q I r h;obtain⟨v,rfl,ad,st,ds,d,st',S,u,e,p⟩:=h;obtain⟨x,rfl,B⟩:=Yg e;have e:=B;obtain⟨w,n,t⟩:=Wl u;cases n;unfold Zbh at e;split at e
 .rename_i k q
  cases e;cases r with
  |cons b i=>
   cases i with
   |cons g f=>
    cases f;cases g;rcases ZhS q t with ty|⟨a,C,rfl,sq,l⟩
    .exact isinst_ok I b ty (Zbk X.K q) λc=>⟨.bl k,H,I.tok _,rfl,p.at S (.bl k)⟩
    .have kt:=Zbk X.K q
     rw[l]at kt;cases b;obtain⟨m,_,j,_⟩:=I.tuple sq;obtain⟨o,A,y,_⟩:=j;exact W.kia_one W.kitx_tuple I.kIn ⟨o,A,y⟩ kt (λz=>nomatch z) λc=>⟨.bl k,H,I.tok _,rfl,p.at S (.bl k)⟩
 .exact Zb e
variable [ClsTab]
def tDd(K:Fg)(c d:TE):TE:=λO H Q=>∀ p,H p=ab->(∀ o,K.lookup p≠aa o)->c O (upd H p (.dT [])) λx e=>d O e λv a=>∃ kvs b k,a p=aa (.dT kvs)/\kvs.length < av/\x=.ref b/\a b=aa (.tup (k.map kV))/\Q (.ref p) (upd a p (.dT (putK kvs k v)))
def Zhb(hu:X.A.units+1 < cLine){f:Pos}{a e:aw}{j l:TE}(L:PE X a j)(G:PE X e l):PE X (.Dict [aa a] [e] f) (tDd X.K j l):=by
 intro pQ s O H Q I q;have F:=I.hok.fresh (aD s.heap.objs.size);have U:=I.laid (a:=s.heap.objs.size) (o:=.dT []) (h':=s.heap.push { cls:=.type "dict",data:=.dict #[] }) (t':=s.toks) (λ_ _ q=>aL _ q) (aD _) (dt_empty s.heap I.big)
 refine wpAny_Dict_any rfl rfl (by simp) (by show 1<=15;decide) (pairTrees_cons_walk (thn (L pQ _ O _ _ U (q _ F λo z=>aq (aJ (I.kIn _ o z)) (bS _))) λu s1 ⟨x,W,T,y,C⟩=>thn (G pQ s1 O W _ T C) λY Z ⟨v,V,i,rv,kvs,b,k,g,p,ex,t,B⟩=>pairTrees_nil_walk ?_))
 subst ex;cases (show u=br b from y)
 obtain⟨z,J,xs,d,dd⟩:=dt_of i.hok g;have D:xs.length<=av:=by rw[<-Paired.length d];exact z
 have p:(putK kvs k v).length<=av:=by have:=length_putK kvs k v;omega
 unfold storeAll;rw[cZ];refine aA (aA (wpAny_dictSet_heap (hsz:=D) (show(tupleKind (mixKind X.prog X.w)).room X.A from Nat.lt_of_succ_lt hu) (key_of i.hok t) dd λh' h E=>aE ?_))
 dsimp only;rw[List.forIn_nil];refine aE ?_;obtain⟨m,es,S,n,R,P,N,_,M⟩:=h;refine⟨.ref _,upd V _ (.dT (putK kvs k v)),d_write i (by rw[g];exact True.intro) E ⟨m,n⟩ ⟨p,J,_,(d.put k t rv).keeps λc ys r=>?_,m,es,S,n,R,P,N,M⟩,rfl,B⟩
 rw[upd_ne (ne_of r g (λz=>nomatch z))]
 exact r
variable{fa:Ev}
def Zfe{D C:Ev}(O:L2.St)(H:Hp)(Q:VK)(h:tE X.K (ddE fa D C) O H Q):tDd X.K (tTup (tCons (tE X.K fa) (tCons (tE X.K D) tNil))) (tE X.K C) O H Q:=by
 obtain⟨ad,U,st,d,st',E,S,e,p⟩:=h;unfold ddE at e;split at e
 .rename_i i g P
  split at e
  .rename_i j f N
   split at e
   .rename_i z m M
    split at e
    .rename_i xs w
     split at e
     .rename_i R
      cases e;intro q y B;have k:=S.extD (kvs:=[]) y B;refine⟨ad++[q],U,st++[(ac,[])],.int i,g,E.mono k,S.pushD y B,P,λw1 o H1 l Z W=>⟨o,U,g,.int j,f,E.mono (k.trans l),Z,N,λw2 c I v Y V=>⟨show 2<=av by decide,λt x=>?_⟩⟩⟩
      cases W.ofInt;cases V.ofInt;have u:Ext c I c (upd I t (.tup [.int i,.int j])):=Ext.laid x;refine⟨c,U,f,z,m,E.mono (k.trans (l.trans (v.trans u))),Y.laid x,M,λL b G s F T=>?_⟩
      have X:=l.trans (v.trans (u.trans s));have A:(ad++[q])[st.length]?=aa q:=by rw[<-S.len];exact Zu
      have a:=X.pre _ _ A;obtain⟨kvs,r,n,_⟩:=F.dict a ((X.kd _ _ A).mp ⟨_,upd_same⟩) w;have J:Ext b G b (upd G q (.dT (putK kvs [.inl i,.inl j] L))):=Ext.writeD n (aX a);exact⟨kvs,t,[.inl i,.inl j],n,by rw[XU r];exact aT R (by decide),rfl,s.tup t _ upd_same,p _ b _ (k.trans (X.trans J)) (F.writeD a w n (V2 T r)) (.dic a ⟨_,upd_same⟩)⟩
     .exact Zb e
    .exact Zb e
   .exact Zb e
  .exact Zb e
 .exact Zb e
def Zc8{K:Fg}(O:L2.St)(H:Hp)(Q:VK)(h:tE K (Zq fa Zdw) O H Q):tBM0 K "list" rPop (tE K fa) O H Q:=by
 obtain⟨ad,U,st,d,st',E,S,e,p⟩:=h;unfold Zq at e;split at e
 .rename_i x c q
  unfold Zdw at e;split at e
  .rename_i i
   split at e
   .rename_i ds j
    obtain⟨w,o,e⟩:=dG.mp e;cases e;refine⟨ad,U,st,.lst i,c,E,S,q,λv a m n k u=>?_⟩
    obtain⟨l,rfl,f⟩:=u.ofLst;obtain⟨xs,r,b⟩:=k.listM f j;obtain⟨y,s,t⟩:=r.get o;have g:Ext a m a (upd m l (.lst xs.dropLast)):=Ext.write b (aX f.1);refine⟨.inl ⟨rfl,xs,.inl (.inl b)⟩,l,xs,y,rfl,rfl,b,by rw[r.length];exact s,p _ a _ (n.trans g) (k.write f j b ?_) (t.mono g)⟩
    rw[List.dropLast_eq_take,List.dropLast_eq_take,r.length];exact r.take _
   .exact Zb e
  .exact Zb e
 .exact Zb e
def ZbW(K:Fg):V->Li V->Hp->VK->Prop:=λx vs H Q=>∃ p kvs b k,x=.ref p/\H p=aa (.dT kvs)/\SqT K H b (k.map kV)/\((vs=[.ref b]/\Q ((valV kvs k).getD .non) H)\/∃ a,vs=[.ref b,a]/\Q ((valV kvs k).getD a) H)
def W7{a:Ot V}{b:Ot vL}{x:V}{u:vL}(h:L2.RelO a b)(r:L2.RelV x u):L2.RelV (a.getD x) (b.getD u):=by
 cases a with
 |none=>cases b with
  |none=>exact r
  |some _=>exact h.elim
 |some _=>cases b with
  |none=>exact h.elim
  |some _=>exact h
def Q6(hu:X.A.units+1 < cLine):MtM X "dict.get" (ZbW X.K):=by
 intro pQ s O H x vs v u Q I j rv h;obtain⟨p,kvs,b,k,rfl,o,r,h⟩:=h;cases j;obtain⟨t,e,xs,a,dd⟩:=dt_of I.hok o;obtain⟨n,l,i,_⟩:=I.tuple r;have d:=key_at (P:=X.prog) (w:=X.w) l i;rcases h with⟨rfl,q⟩|⟨y,rfl,q⟩
 .obtain⟨g,rfl,c⟩:=rv.one
  cases c;exact call_meetsIn PySem.F.slot_dict_get dd.typeIs PySem.F.entry_dict_get (PySem.F.args_dict_get_2 _ _) (meetsH_dict_get (tupleKind (mixKind X.prog X.w)) p b e) ⟨tupleKind_room_in1 hu,k,xs,d,dd,⟨_,H,I.tok _,W7 (x:=V.non) (a.val k) (show L2.RelV .non .none from rfl),q⟩⟩
 .obtain⟨g,f,rfl,c,m⟩:=rv.two
  cases c;exact call_meetsIn PySem.F.slot_dict_get dd.typeIs PySem.F.entry_dict_get (PySem.F.args_dict_get_3 _ _ _) (meetsH_dict_get_default (tupleKind (mixKind X.prog X.w)) p b e f) ⟨tupleKind_room_in1 hu,k,xs,d,dd,⟨_,H,I.tok _,W7 (a.val k) m,q⟩⟩
def Zeo{x y z:D}{st':Za}(h:gtD x y z st=aa (d,st')):∃ a i j b ds,x=.dic a/\y=.tup [.int i,.int j]/\st[a]?=aa (b,ds)/\d=(Ya ds i j).getD z/\st'=st:=by
 unfold gtD at h;split at h
 .obtain⟨o,f,c⟩:=dG.mp h
  cases c;obtain⟨i,j,b,ds,rfl,e,rfl⟩:=US f;exact⟨_,i,j,b,ds,rfl,rfl,e,rfl,rfl⟩
 .exact Zb h
def Zc1{C fd:Ev}(O:L2.St)(H:Hp)(Q:VK)(h:tE X.K (Yk fa C fd gtD) O H Q):tBM X.K "dict" (ZbW X.K) (tE X.K fa) (tCons (tE X.K C) (tCons (tE X.K fd) tNil)) O H Q:=by
 obtain⟨ad,U,st,d,st',E,S,e,p⟩:=h;unfold Yk at e;split at e
 .rename_i x g M
  split at e
  .rename_i y f L
   split at e
   .rename_i z G J
    obtain⟨a,i,j,bb,ds,rfl,rfl,I,rfl,rfl⟩:=Zeo e;refine⟨ad,U,st,_,g,E,S,M,λv1 t H1 m Z W=>?_⟩
    obtain⟨l,rfl,B,n⟩:=W.ofDic;refine⟨.inr (.inr (.inl ⟨rfl,.inr n⟩)),t,U,g,_,f,E.mono m,Z,L,λv2 s H2 A Y V=>⟨s,U,f,_,_,E.mono (m.trans A),Y,J,λF k D v u T=>?_⟩⟩
    have c:=A.trans v;obtain⟨kvs,r,N,_⟩:=u.dict (c.pre _ _ B) ((c.kd _ _ B).mp n) I;obtain⟨b,rfl,P⟩:=Xt (V.mono v);refine⟨l,kvs,b,_,rfl,N,P,.inr ⟨F,rfl,?_⟩⟩;rcases Y4 r with⟨w,d0,q,o,R⟩|⟨q,o⟩
    .rw[q];rw[o]at p
     exact p _ k D (m.trans c) u R
    .rw[q];rw[o]at p
     exact p _ k D (m.trans c) u T
   .exact Zb e
  .exact Zb e
 .exact Zb e
def Zc0{v:Ev}(O:L2.St)(H:Hp)(Q:VK)(h:tE X.K (Yk fa v (evC .non) gtD) O H Q):tBM X.K "dict" (ZbW X.K) (tE X.K fa) (tCons (tE X.K v) tNil) O H Q:=by
 obtain⟨ad,U,st,d,st',E,S,e,p⟩:=h;unfold Yk at e;split at e
 .rename_i x c C
  split at e
  .rename_i y m B
   obtain⟨a,i,j,R,ds,rfl,rfl,A,rfl,rfl⟩:=Zeo (show gtD x y .non m=aa (d,st') from e);refine⟨ad,U,st,_,c,E,S,C,λN s T k L J=>?_⟩
   obtain⟨l,rfl,u,n⟩:=J.ofDic;refine⟨.inr (.inr (.inl ⟨rfl,.inr n⟩)),s,U,c,_,_,E.mono k,L,B,λM f z g t I=>?_⟩
   obtain⟨kvs,r,D,_⟩:=t.dict (g.pre _ _ u) ((g.kd _ _ u).mp n) A;obtain⟨b,rfl,F⟩:=Xt I;refine⟨l,kvs,b,_,rfl,D,F,.inl ⟨rfl,?_⟩⟩;rcases Y4 r with⟨w,P,q,o,G⟩|⟨q,o⟩
   .rw[q];rw[o]at p
    exact p _ f z (k.trans g) t G
   .rw[q];rw[o]at p
    exact p _ f z (k.trans g) t .non
  .exact Zb e
 .exact Zb e
end Dp
namespace Dp
open PySem PySem.Spec PyProof.Rows L2 PySem.W
variable [ClsTab]
variable{n:Nat}
section
variable{α β:Type}{ok:α->Prop}{ok':β->Prop}
def TOk(n:Nat)(ok:α->Prop):KasT α->Prop
 |.ret a=>ok a
 |.ask i j k=>i < n/\j < n/\∀ b,TOk n ok (k b)
omit [ClsTab] in
theorem TOk.bind{f:α->KasT β}(h:∀ a,ok a->TOk n ok' (f a)):∀ {t:KasT α},TOk n ok t->TOk n ok' (t.bind f)
 |.ret a,x=>h a x
 |.ask _ _ _,x=>⟨x.1,x.2.1,λb=>TOk.bind h (x.2.2 b)⟩
omit [ClsTab] in
theorem TOk.go{f:Nat->Nat->Bool}:∀ {t:KasT α},TOk n ok t->ok (goT f t)
 |.ret _,x=>x
 |.ask i j k,x=>TOk.go (t:=k (f i j)) (x.2.2 (f i j))
omit [ClsTab] in
theorem TOk.wp{f:Nat->Nat->Bool}{cmp:Nat->Nat->(Bool->Sd->Prop)->Sd->Prop}{G:α->Sd->Prop}{s:Sd}(a:∀ i j C,i < n->j < n->C (f i j) s->cmp i j C s):∀ {t:KasT α},TOk n ok t->G (goT f t) s->t.kasWp cmp G s
 |.ret _,_,h=>h
 |.ask i j _,x,h=>a i j _ x.1 x.2.1 (TOk.wp a (x.2.2 (f i j)) h)
end
abbrev PrA(n:Nat)(p:Array Nat):Prop:=p.Perm (ag n).toArray
section
variable{p:Array Nat}
omit [ClsTab] in
def PrA.lt(h:PrA n p)(b:0 < n)(i:Nat):p.getD i 0 < n:=by
 by_cases a:i < p.size
 .have m:p[i]∈(ag n).toArray:=(Array.Perm.mem_iff h).mp (Array.getElem_mem a)
  have e:p.getD i 0=p[i]:=by simp[Array.getD,a]
  rw[e];simpa using m
 .have e:p.getD i 0=0:=by simp[Array.getD,a]
  rw[e];exact b
omit [ClsTab] in
def PrA.rev(h:PrA n p)(i j:Nat):PrA n (kas_rev p i j):=(mirror_perm _ _ _ _).trans h
omit [ClsTab] in
theorem UG(h:PrA n p)(a:0 < n):∀ (f k:Nat),TOk n (λ_=>True) (kas_asc p f k)
 |0,_=>trivial
 |f+1,k=>⟨h.lt a _,h.lt a _,λb=>by
  cases b with
  |true=>exact trivial
  |false=>exact UG h a f (k+1)⟩
omit [ClsTab] in
theorem X6(a:0 < n):∀ (f:Nat) {p:Array Nat} (k q:Nat),PrA n p->TOk n (λr=>PrA n r.1) (kas_desc f p k q)
 |0,_,_,_,h=>h
 |f+1,p,k,q,h=>⟨h.lt a _,h.lt a _,λb=>by
  cases b with
  |true=>
   show TOk n _ (if q > 0 then _ else _)
   split
   .exact X6 a f _ _ (h.rev _ _)
   .exact X6 a f _ _ h
  |false=>exact⟨h.lt a _,h.lt a _,λd=>by
    cases d with
    |true=>exact h
    |false=>exact X6 a f _ _ h⟩⟩
omit [ClsTab] in
def Jm(h:PrA n p)(a:0 < n)(k m:Nat):TOk n (λr=>PrA n r.2) (kas_tail3 k m p):=TOk.bind (ok':=λr:Nat×Array Nat=>PrA n r.2) (f:=λm=>.ret (m,kas_rev p 0 k)) (λ_ _=>h.rev 0 k) (UG (h.rev _ _) a _ _)
omit [ClsTab] in
def V0(h:PrA n p)(a:0 < n)(k m:Nat):TOk n (λr=>PrA n r.2) (kas_descPart k m p):=(X6 a _ _ _ h).bind λr b=>by
 split
 .exact Jm (b.rev _ _) a _ _
 .exact Jm b a _ _
omit [ClsTab] in
def ZaB(h:PrA n p)(a:0 < n)(m:Nat):TOk n (λr=>PrA n r.2) (kas_count m p):=(UG h a _ _).bind λk _=>by
 split
 .exact h
 .split
  .exact⟨h.lt a _,h.lt a _,λc=>by
    cases c with
    |true=>exact h
    |false=>exact V0 (h.rev _ _) a _ _⟩
  .exact V0 h a _ _
omit [ClsTab] in
theorem WE(h:PrA n p)(a:0 < n)(k:Nat):∀ (f l r:Nat),TOk n (λ_=>True) (kas_place p k f l r)
 |0,_,_=>trivial
 |f+1,l,r=>by
  unfold kas_place;split
  .exact trivial
  .exact⟨h.lt a _,h.lt a _,λc=>by
    cases c with
    |true=>exact WE h a k f _ _
    |false=>exact WE h a k f _ _⟩
omit [ClsTab] in
theorem Zaq(a:0 < n):∀ (f:Nat) {p:Array Nat} (k:Nat),PrA n p->TOk n (PrA n) (kas_bin f p k)
 |0,_,_,h=>h
 |f+1,p,k,h=>(WE h a k _ _ _).bind λl _=>Zaq a f _ ((bubble_perm _ _ _).trans h)
omit [ClsTab] in
def VG(b:0 < n):TOk n (PrA n) (kas_sort n):=(ZaB (Array.Perm.refl _) b _).bind λr a=>by
 split
 .exact Zaq b _ _ a
 .exact a
end
variable{prog:a0}{w:bh}{A:bo}{E:vL->Sd->Prop}{s:Sd}
omit [ClsTab] in
def ZdX{a:Ad}{vs:Li vL}{n:Nat}{P:PySem.Fin->Sd->Prop}{κ:SortKind}{f:Nat->Nat->Bool}(t:s.heap.get? a=aa (seqObj "list" vs.toArray n))(v:vs.length < 64)(K:∀ k,(∀ b o,b≠a->s.heap.get? b=aa o->k.get? b=aa o)->2<=vs.length->∀ (Q:SortKind->Sd->Prop),Q κ { s with heap:=k }->ay (az prog w) A (keyKind' vs.toArray) Q (λ_ _=>False) { s with heap:=k })(M:∀ k,(∀ b o,b≠a->s.heap.get? b=aa o->k.get? b=aa o)->∀ i j C,i < vs.length->j < vs.length->C (f i j) { s with heap:=k }->kas_ask prog w A κ vs i j C { s with heap:=k })(h:P (.done (.ret .none)) { s with heap:=sortedHeap s.heap a vs (pick f bt vs).toArray }) :
  ay (az prog w) A (Builtin.«list.sort» ⟨[.ref a],[]⟩) P E s:=by
 rw[list_sort_plain];have J:a < s.heap.objs.size:=aJ t;refine aA (listItems_at t rfl ?_);refine aA (listUpdate_at t rfl ?_ (by rw[aH,sizeLine_eq];omega) (aO _))
 obtain⟨z,m⟩:∃ z,(s.heap.update a (Obj.mapSeq λ_=>#[])).get? a=aa (seqObj "list" #[] z):=⟨_,get?_update_seq t (λ_=>#[])⟩
 refine aA (seqEpoch_at m rfl ?_);refine aA (wpAny_newTuple ?_ (by show vs.length<=_;rw[sizeLine_eq];omega))
 refine aA (wpAny_newList ?_ (aO _));refine wpAny_holding ?_;have c:(((s.heap.update a (Obj.mapSeq λ_=>#[])).push (seqObj "tuple" vs.toArray 0)).push (seqObj "list" #[] 0)).get? a=aa (seqObj "list" #[] z):=aL _ (aL _ m)
 have B:∀ b o,b≠a->s.heap.get? b=aa o->(((s.heap.update a (Obj.mapSeq λ_=>#[])).push (seqObj "tuple" vs.toArray 0)).push (seqObj "list" #[] 0)).get? b=aa o:=λb o F q=>
  aL _ (aL _ (by rw[Heap.get?_update_ne _ _ _ _ F];exact q))
 show ay (az prog w) A _ P E { s with heap:=((s.heap.update a (Obj.mapSeq λ_=>#[])).push (seqObj "tuple" vs.toArray 0)).push (seqObj "list" #[] 0) }
 dsimp only;by_cases d:vs.toArray.size < 2
 .rw[am d,am d]
  refine aA (aE ?_);rw[StateT.run_pure];refine aA (aE ?_);dsimp only;have y:(arrOf (SortSt.mk' general' (vs.toArray.zip vs.toArray) #[] 7 ab)).map (·.2)=(pick f bt vs).toArray:=by
   unfold pick;rw[am (by simpa using d)]
   show(vs.toArray.zip vs.toArray).map (·.2)=_;apply Array.toList_inj.mp
   simp only[Array.toList_map,Array.toList_zip,List.toList_toArray];exact List.map_snd_zip (aD _)
  rw[y];refine aA (seqEpoch_at c rfl ?_);refine aA (listUpdate_at c rfl ?_ (aO _) (by unfold pick;rw[am (by simpa using d),aH,sizeLine_eq];omega))
  simp only[bne_self_eq_false,dL,if_false];exact aE h
 .rw[ao d,ao d]
  have r:2<=vs.length:=by rw[aH]at d;omega
  refine aA (bG (K _ B r (λl g=>l=κ/\g=_) ⟨rfl,rfl⟩) (λl g I=>?_) λ_ _ x=>x.elim)
  obtain⟨rfl,rfl⟩:=I;have T:=VG (n:=vs.length) (by omega)
  refine aA (bG (kat_run (Q:=λst' g=>g={ s with heap:=((s.heap.update a (Obj.mapSeq λ_=>#[])).push (seqObj "tuple" vs.toArray 0)).push (seqObj "list" #[] 0) }/\arrOf st'=(goT f (kas_sort vs.length)).map (kas_item (vs.toArray.zip vs.toArray))/\failedOf st'=ab)
   (G:=λp g=>p=goT f (kas_sort vs.length)/\g={ s with heap:=((s.heap.update a (Obj.mapSeq λ_=>#[])).push (seqObj "tuple" vs.toArray 0)).push (seqObj "list" #[] 0) })
   rfl r v (λp st' g _ S R D=>⟨D.2,by rw[S,D.1],R⟩) (T.wp (λi j C O d N=>M _ B i j C O d N) ⟨rfl,rfl⟩)) ?_ λ_ _ e=>e)
  rintro⟨⟨⟩,st'⟩ g ⟨rfl,u,L⟩
  dsimp only;have y:(arrOf st').map (·.2)=(pick f bt vs).toArray:=by
   rw[kat_snds rfl u];unfold pick;rw[ao (by omega)]
  rw[y];have H:(pick f bt vs).toArray.size<=av:=by
   unfold pick;rw[ao (by omega),aH,aB,cJ,(T.go (f:=f)).size_eq,aH,bK,sizeLine_eq]
   omega
  refine aA (seqEpoch_at c rfl ?_);refine aA (listUpdate_at c rfl ?_ (aO _) (Nat.le_succ_of_le H));rw[L];simp only[bne_self_eq_false,dL,if_false];exact aE h
section
variable{d:Ad}{es:Array DictEntry}{ep:Nat}
def Raw(h:bg)(d:Ad)(es:Array DictEntry)(ep:Nat):Prop:=∃ o,h.get? d=aa o/\o.ExactDict/\o.data=.dict es ep
omit [ClsTab] in
def Raw.typeIs{d:Ad}{es:Array DictEntry}{ep:Nat}(x:Raw s.heap d es ep):s.TypeIs (.ref d) "dict":=let ⟨o,ho,hc,_⟩:=x;⟨o,ho,hc.1⟩
omit [ClsTab] in
def ZbM:Builtin.Dict_items.ownsTuple "dict_keyiterator"=ae:=by decide
omit [ClsTab] in
theorem Zbz{a:Ad}{i:Nat}{Q:Ot vL->Sd->Prop}(hit:s.heap.IsKeyIter a d i es.size ep)(k:Raw s.heap d es ep)(h:i < es.size)(n:∀ j,j.IsKeyIter a d (i+1) es.size ep->Heap.SameBut a s.heap j->Q (aa es[i].key) { s with heap:=j }):ay (az prog w) A (pyNext (.ref a)) Q E s:=by
 obtain⟨o,g,m,f⟩:=id hit;obtain⟨p,c,l,e⟩:=id k;unfold pyNext;refine aA (wpAny_attempt (wpAny_callSpecial?_slot (name:=Str.ofString "__next__") hit.typeIs F.slot_dict_keyiterator_next (wpAny_call_entry F.slot_dict_keyiterator_next hit.typeIs F.entry_dict_keyiterator_next ?_ (F.args_dict_keyiterator_next_1 _))));refine aA (aE (aA (aA ?_)))
 refine aA (wpAny_typeNameOfWhole_keyiter hit.typeIs (aE (aA (wpAny_fieldsOf g f ?_))));simp only[ZbM,dL,if_false];show ay _ _ (if (br d==bt)=ac then _ else _) _ _ s
 rw[ao (show ¬((br d==bt)=ac) from Bf)];refine aA (aE (aA (wpAny_dictEntries c e ?_)));rw[ao (by simp)]
 refine aA (aE (aA (wpAny_dictEpoch c e ?_)));rw[ao (by simp)]
 refine aE ?_;simp only[show ¬((i:Int) < 0) from by omega,if_false,aZ,eJ h]
 refine aA (aA (wpAny_typeNameOfWhole_keyiter hit.typeIs (aE (aA (wpAny_isOneOf_keyiter hit.typeIs ?_)))));show ay _ _ (setField (.ref a) 1 (rawInt ((i:Int)+1)) >>= _) _ _ s;refine aA (wpAny_setField g f (by simp) ?_)
 have b:(s.heap.update a (Obj.mapFields (·.setIfInBounds 1 (rawInt ((i:Int)+1))))).IsKeyIter a d (i+1) es.size ep:=
  ⟨_,Heap.get?_update_self _ g (Obj.isFreed_of_fields (Obj.data_mapFields f _)),(Obj.cls_mapFields ..).trans m,by rw[Obj.data_mapFields f];simp[rawInt]⟩
 refine aA (wpAny_holding (aA (wpAny_isOneOf_keyiter (s:={ s with heap:=s.heap.update a (Obj.mapFields (·.setIfInBounds 1 (rawInt ((i:Int)+1)))) }) b.typeIs ?_)))
 show ay _ _ (pure es[i].key) _ _ _;exact aE (aE ⟨_,rfl,aE (n _ b (Heap.SameBut.update ..))⟩)
omit [ClsTab] in
theorem ZcS{f:Ad}{Q:Ot vL->Sd->Prop}(k:A.handled=ab)(hit:s.heap.IsKeyIter f d es.size es.size ep)(j:Raw s.heap d es ep)(n:∀ i,Heap.ExtBut f s.heap i->Q ab { s with heap:=i }):ay (az prog w) A (pyNext (.ref f)) Q E s:=by
 obtain⟨o,g,q,h⟩:=id hit;obtain⟨p,c,l,e⟩:=id j;unfold pyNext;refine aA (wpAny_attempt (wpAny_callSpecial?_slot (name:=Str.ofString "__next__") hit.typeIs F.slot_dict_keyiterator_next (wpAny_call_entry F.slot_dict_keyiterator_next hit.typeIs F.entry_dict_keyiterator_next ?_ (F.args_dict_keyiterator_next_1 _))));refine aA (aE (aA (aA ?_)))
 refine aA (wpAny_typeNameOfWhole_keyiter hit.typeIs (aE (aA (wpAny_fieldsOf g h ?_))));simp only[ZbM,dL,if_false];show ay _ _ (if (br d==bt)=ac then _ else _) _ _ s
 rw[ao (show ¬((br d==bt)=ac) from Bf)];refine aA (aE (aA (wpAny_dictEntries c e ?_)));rw[ao (by simp)]
 refine aA (aE (aA (wpAny_dictEpoch c e ?_)));rw[ao (by simp)]
 refine aE ?_;simp only[show ¬((es.size:Int) < 0) from by omega,if_false,aZ,Array.getElem?_eq_none (aD es.size)]
 refine aA (aA (wpAny_typeNameOfWhole_keyiter hit.typeIs (aE ?_)));show ay _ _ (setField (.ref f) 0 .none >>= _) _ _ s;refine aA (wpAny_setField g h (by simp) ?_)
 show ay _ _ (newExc (.type "StopIteration") [] >>= _) _ _ _;refine aA ?_;simp only[newExc,newTuple];refine aA (wpAny_newObj_type ?_ (by size_fits))
 refine aA (m:=firstArgMember _ _) (wpAny_of_eq (a:=bt) (by first|rfl | (simp only[firstArgMember];rfl)) (wpAny_newObj_type ?_ (by size_fits)))
 simp only[raiseNew];refine aA (wpAny_handled ?_);rw[show A.in1.handled=ab from k];refine aA (aE (wpAny_throw ?_));exact aA (wpAny_isInstance (T := "StopIteration") (b:=ac) ⟨_,aW _ rfl,rfl⟩ isSubtype_stop (aE (n _ (((Heap.SameBut.update ..).extBut.push _).push _))))
omit [ClsTab] in
def Raw.at{h a:bg}(x:Raw h d es ep)(e:∀ o,h.get? d=aa o->a.get? d=aa o):Raw a d es ep:=let ⟨o,ho,r⟩:=x;⟨o,e _ ho,r⟩
omit [ClsTab] in
def Raw.lt{h:bg}(x:Raw h d es ep):d < h.objs.size:=let ⟨_,ho,_⟩:=x;aJ ho
omit [ClsTab] in
def JZ(p:A.handled=ab)(I:Ad)(j:d≠I):Walks prog w A I [I,d] [I] es.size (λi v=>∃ e,es[i]?=aa e/\v=e.key) (λi h=>h.IsKeyIter I d i es.size ep/\Raw h d es ep) where
 sub:=λb a=>by simp at a;simp[a]
 frame:=λ_ _ _ st m=>⟨st.1.at λo e=>m I (by simp) o e,st.2.at λo e=>m d (by simp) o e⟩
 item:=λi s Q E n st g=>Zbz st.1 st.2 n λl f c=>g _ l s.toks ⟨_,eJ n,rfl⟩ ⟨f,st.2.at λo e=>c.extBut d o j e⟩ λb o a e=>c.extBut b o (λh=>a (by simp[h])) e
 done:=λs Q E st g=>ZcS p st.1 st.2 λl k=>g l s.toks λb o a e=>k b o (λh=>a (by simp[h])) e
 self:=λ_ _ _ _ st g=>wpAny_pyIter_keyiter st.1 g
omit [ClsTab] in
theorem JS{Q:vL->Sd->Prop}(hd:(d==bm)=ae)(e:Raw s.heap d es ep)(f:Q (.ref s.heap.objs.size) { s with heap:=s.heap.push { cls:=.type "dict_keyiterator",data:=.fields #[.ref d,.int 0 0,.int es.size 0,.int ep 0] } }) :
  ay (az prog w) A (pyIter (.ref d)) Q E s:=by
 obtain⟨o,c,g,a⟩:=id e;have b:s.TypeIs (.ref d) "dict":=e.typeIs;refine wpAny_pyIter_slot b F.slot_dict_iter (wpAny_call_entry F.slot_dict_iter b F.entry_dict_iter ?_ (F.args_dict_iter_1 _));unfold Builtin.«dict.__iter__»
 refine aA ?_;unfold Builtin.Dict.dictSlotNone;refine aA (wpAny_notOrdered_dict b ?_);show ay _ _ (pure (br d)) _ _ s;refine aE ?_;show ay _ _ (Builtin.Dict.showsAll d >>= _) _ _ s;unfold Builtin.Dict.showsAll;rw[ao (by rw[hd];exact Bf)]
 refine aA (aE ?_);refine aA (wpAny_dictEntries c a ?_);refine aA (wpAny_dictEpoch c a ?_);refine aA (wpAny_newObj_type (aE ⟨_,rfl, "dict_keyiterator",_,⟨_,aW _ rfl,rfl⟩,F.slot_dict_keyiterator_next.lookup,?_⟩));simpa[rawInt] using f
omit [ClsTab] in
def Zb7(hd:(d==bm)=ae):KdlSrc prog w "dict" d d es.size (λi v=>∃ e,es[i]?=aa e/\v=e.key) (λh=>Raw h d es ep) where
 type:=λ_ a=>a.typeIs
 there:=λ_ a=>⟨a.lt,a.lt⟩
 keep:=λ_ _ a c=>a.at λo e=>c d (.inl rfl) o e
 notList:=by decide
 notTuple:=by decide
 hint:=λ_ _ _ _ a b=>kdl_hint_dict a.typeIs b
 iter:=λ_ _ f a=>⟨_,_,(λ_ _ b=>JS hd a b),JZ f _ (aY a.lt),⟨⟨_,aW _ rfl,rfl,rfl⟩,a.at λo e=>aL _ e⟩⟩
omit [ClsTab] in
def Qm{vs:Li vL}{κ:SortKind}{f:Nat->Nat->Bool}{Q:vL->Sd->Prop}(H:A.handled=ab)(hd:(d==bm)=ae)(F:Raw s.heap d es ep)(B:es.toList.map (·.key)=vs)(x:vs.length < 64)(G:∀ a g,(∀ b o,s.heap.get? b=aa o->a.get? b=aa o)->2<=vs.length->∀ (Q:SortKind->Sd->Prop),Q κ { s with heap:=a,toks:=g }->ay (az prog w) A.in1.in1 (keyKind' vs.toArray) Q (λ_ _=>False) { s with heap:=a,toks:=g })(J:∀ a g,(∀ b o,s.heap.get? b=aa o->a.get? b=aa o)->∀ i j C,i < vs.length->j < vs.length->C (f i j) { s with heap:=a,toks:=g }->kas_ask prog w A.in1.in1 κ vs i j C { s with heap:=a,toks:=g })(h:∀ (r a:bg) (g c:Nat),(∀ b o,s.heap.get? b=aa o->r.get? b=aa o)->(∀ b o,r.get? b=aa o->a.get? b=aa o)->a.get? r.objs.size=aa (seqObj "list" (pick f bt vs).toArray c)->Q (.ref r.objs.size) { s with heap:=a,toks:=g }) :
  ay (az prog w) A (call (.builtin "sorted") [.ref d]) Q E s:=by
 refine Calls.call_function_entry kind_sorted plain_sorted entry_sorted (args_sorted1 _) ?_;unfold Builtin.«sorted»
 refine aA (m:=checkCount "sorted" 1 1 _) (aE ?_);have t:es.size=vs.length:=by rw[<-B,aB,cJ]
 refine aA (kdu_collect (A:=A.in1) (Zb7 (es:=es) (ep:=ep) hd) H F (by rw[t,sizeLine_eq];omega) λa g q p n=>?_)
 have M:q.toList=vs:=by
  rw[<-B];apply List.ext_getElem?
  intro i;rw[eI,aU,eI];cases e:q[i]? with
  |none=>
   have:q.size<=i:=Array.getElem?_eq_none_iff.mp e;rw[n.1]at this;rw[Array.getElem?_eq_none this];rfl
  |some v=>
   obtain⟨O,N,rfl⟩:=n.2 i v e;rw[N];rfl
 rw[M];refine aA (wpAny_newList ?_ (by rw[sizeLine_eq];omega))
 have u:(a.push { cls:=.type "list",data:=.seq vs.toArray }).get? a.objs.size=aa (seqObj "list" vs.toArray 0):=aW _ rfl;have z:∀ (l:bg),(∀ b o,b≠a.objs.size->(a.push { cls:=.type "list",data:=.seq vs.toArray }).get? b=aa o->l.get? b=aa o)->∀ b o,s.heap.get? b=aa o->l.get? b=aa o:=λl k b o e=>
  k b o (aY (aJ (p b o e))) (aL _ (p b o e))
 refine aA (wpAny_holding (wpAny_call_entry slot_list_sort ⟨_,u,rfl⟩ entry_list_sort ?_ (args_list_sort _)));refine ZdX (s:={ s with heap:=a.push { cls:=.type "list",data:=.seq vs.toArray },toks:=g }) (κ:=κ) (f:=f) u x (λl k D Q K=>G l g (z l k) D Q K) (λl k i j C r y L=>J l g (z l k) i j C r y L) ?_
 refine⟨_,rfl,aE ⟨_,rfl,?_⟩⟩;obtain⟨c,I⟩:=sortedHeap_at (out:=(pick f bt vs).toArray) u;refine h a _ g c p (λb o e=>?_) I
 rw[sortedHeap_old (aY (aJ e)) (by rw[size_push'];exact Nat.lt_succ_of_lt (aJ e))]
 exact aL _ e
end
def Xh(h:bg)(p:Int×Int)(v:vL):Prop:=∃ a o n t u,v=.ref a/\h.get? a=aa o/\o.cls=.type "tuple"/\o.data=.seq #[.int p.1 t,.int p.2 u] n
omit [ClsTab] in
def Zdu{h:bg}{i j:Int}{a:Ad}(x:(tupleKind (mixKind prog w)).is h [.inl i,.inl j] a):Xh h (i,j) (.ref a):=by
 obtain⟨o,c,n,p,m,g,f⟩:=(show IsTupleKey (mixKind prog w) h [.inl i,.inl j] a from x);have b:∀ {k:Int}{v:vL},(mixKind prog w).is (.inl k) v=ac->∃ t,v=.int k t:=λ{k v} z=>by
  rcases keyIs_shape (show keyIs (.inl k) v=ac from z) with⟨i,t,e,rfl⟩|⟨x,t,e,_⟩
  .cases e;exact⟨t,rfl⟩
  .exact nomatch e
 obtain⟨l,d⟩:∃ l,c.toList=l:=⟨_,rfl⟩;rw[d]at f;cases f with
 |cons s r=>cases r with
  |cons q r=>
   cases r;obtain⟨t,rfl⟩:=b s;obtain⟨u,rfl⟩:=b q;refine⟨a,o,n,t,u,rfl,p,m,?_⟩;rw[g,<-d]
omit [ClsTab] in
def Zan{p q:Int×Int}{v u:vL}{C:Bool->Sd->Prop}(f:Xh s.heap p v)(d:Xh s.heap q u)(h:C (kLt p q) s):ay (az prog w) A (keyLt' (tuples' ac) v u) C E s:=by
 obtain⟨a,o,n,t,k,rfl,i,y,g⟩:=f;obtain⟨b,x,m,r,l,rfl,g1,g2,j⟩:=d;refine kat_lt i g g1 j ?_;unfold kLt at h;refine kat_cons (wpAny_eqBool_int ?_);by_cases e:p.1=q.1
 .rw[am e]at h
  rw[show(p.1==q.1)=ac from beq_iff_eq.mpr e];refine kat_yes (kat_cons (wpAny_eqBool_int ?_));by_cases c:p.2=q.2
  .rw[show(p.2==q.2)=ac from beq_iff_eq.mpr c]
   refine kat_yes (kat_nil ?_);rw[show aj (p.2 < q.2)=ae from aG (by omega)]at h
   exact h
  .rw[show(p.2==q.2)=ae from cM.mpr c]
   exact kat_no (kat_one _ _ (wpAny_lt_int h))
 .rw[ao e]at h
  rw[show(p.1==q.1)=ae from cM.mpr e];exact kat_no (oneLt_int h)
omit [ClsTab] in
def U1{vs:Li vL}{Q:SortKind->Sd->Prop}(b:∀ v∈vs,∃ p,Xh s.heap p v)(f:2<=vs.length)(h:Q (tuples' ac) s):ay (az prog w) A (keyKind' vs.toArray) Q E s:=by
 have all:∀ {l:Li vL},(∀ v∈l,∃ p,Xh s.heap p v)->∃ fs,KatTups s.heap l fs/\fs.length=l.length/\∀ v∈fs,∃ i t,v=Value.int i t:=by
  intro l
  induction l with
  |nil=>intro _;exact⟨[],.nil,rfl,λ_ z=>nomatch z⟩
  |cons v l j=>
   intro e;obtain⟨fs,d,g,c⟩:=j λv b=>e v (Lm _ b)
   obtain⟨p,a,o,n,t,u,rfl,m,f,k⟩:=e v Ls;refine⟨.int p.1 t :: fs,.cons m f k rfl d,by rw[aP,aP,g],λx hx=>?_⟩
   rcases aF.mp hx with rfl|hx
   .exact⟨_,_,rfl⟩
   .exact c x hx
 obtain⟨fs,d,g,c⟩:=all b;refine kat_kind (T:=.type "int") d (by omega) (λv b=>?_) (by decide) h
 obtain⟨i,t,rfl⟩:=c v b;exact Looks.now
section
variable{K:Fg}{ad:Li Ad}{H:Hp}
def Zdi{kvs:Li (Li Key×V)}{ds:Li D}{ys:Li (Li Key×Ad×vL)}(e:Ents K ad H kvs ds)(r:KTp H kvs ys):Dens K ad H (ys.map λy=>V.ref y.2.1) ((ZV ds).map prD)/\∀ (i:Nat) (y:Li Key×Ad×vL),ys[i]?=aa y->y.1=[.inl ((ZV ds).getD i (0,0)).1,.inl ((ZV ds).getD i (0,0)).2]:=by
 induction e generalizing ys with
 |nil=>cases r;exact⟨.nil,λi y h=>nomatch h⟩
 |cons _ _ c=>cases r with
  |cons h r=>
   obtain⟨a,b⟩:=c r;refine⟨.cons (.tup (.inl h.2.1) (.cons (.int _) (.cons (.int _) .nil))) a,λi y e=>?_⟩
   cases i with
   |zero=>cases e;exact h.1.symm
   |succ i=>exact b i y e
theorem WY{vs:Li V}{ds:Li D}(r:Dens K ad H vs ds):∀ (l:Li Nat),(∀ i∈l,i < ds.length)->Dens K ad H (l.map λi=>vs.getD i .non) (l.map λi=>ds.getD i .non)
 |[],_=>.nil
 |i :: l,h=>by
  refine .cons ?_ (WY r l λj d=>h j (Lm _ d))
  have a:=h i Ls;obtain⟨v,f,e⟩:=r.get (Lg a);have c:vs.getD i .non=v:=by rw[bA,f];rfl
  have b:ds.getD i .non=ds[i]:=by rw[bA,Lg a];rfl
  show Den K ad H (vs.getD i .non) (ds.getD i .non);rw[c,b];exact e
omit [ClsTab] in
theorem Vb{vs:Li V}{a:Li vL}(r:Vals vs a):∀ (l:Li Nat),(∀ i∈l,i < vs.length)->Vals (l.map λi=>vs.getD i .non) (l.map λi=>a.getD i .none)
 |[],_=>.nil
 |i :: l,h=>by
  refine .cons ?_ (Vb r l λj e=>h j (Lm _ e))
  have b:=h i Ls;obtain⟨u,g,f⟩:=r.get (Lg b);have d:a.getD i .none=u:=by rw[bA,g];rfl
  have c:vs.getD i .non=vs[i]:=by rw[bA,Lg b];rfl
  show L2.RelV (vs.getD i .non) (a.getD i .none);rw[d,c];exact f
omit [ClsTab] in
def VA{n:Nat}{f:Nat->Nat->Bool}(a:0 < n):∀ i∈(goT f (kas_sort n)).toList,i < n:=λi b=>by
 have m:=(Array.Perm.mem_iff ((VG a).go (f:=f))).mp (Array.mem_toList_iff.mp b);simpa using m
omit [ClsTab] in
def Uq{α:Type}{f:Nat->Nat->Bool}{z:α}{a:Li α}:(pick f z a).length=a.length:=by
 unfold pick;split
 .rfl
 .rw[aB,cJ,((VG (by omega)).go (f:=f)).size_eq,aH,bK]
end
omit [ClsTab] in
theorem WG:∀ {ys:Li (Li Key×Ad×vL)},Vals (ys.map λy=>V.ref y.2.1) (ys.map λy=>br y.2.1)
 |[]=>.nil
 |_ :: _=>.cons rfl WG
def UO{X:Cx}(hc:X.calm=ac):CallR X (.builtin "sorted") (rC X.K (on1 QW)):=by
 intro pQ s O H xs us Q I r h;obtain⟨ad,st,ds,d,st',S,hd,e,p⟩:=h;obtain⟨x,rfl,A⟩:=Yg e;obtain⟨v,rfl,M⟩:=Wl hd;unfold QW at A;split at A
 .rename_i a
  split at A
  .rename_i b m q0
   split at A
   .rename_i hz
    cases A;obtain⟨l,rfl,hl,n⟩:=M.ofDic;obtain⟨kvs,U,hx,_⟩:=S.dict hl n q0;obtain⟨u1,rfl,r1⟩:=r.one;cases r1;obtain⟨_,F,ys,J,o,es,ep,h1,T,h3,h4,R,_⟩:=dt_of I.hok hx;obtain⟨L,kk⟩:=Zdi U J;have G:ys.length=(ZV m).length:=by have:=L.length;rwa [aB,aB]at this
    have hl0:(ZV m).length=m.length:=by unfold ZV;rw[aB]
    have N:∀ (q:bg),(∀ b o,s.heap.get? b=aa o->q.get? b=aa o)->∀ (i:Nat),i < ys.length->Xh q ((ZV m).getD i (0,0)) ((ys.map λy=>br y.2.1).getD i .none):=λq k i B=>by
     have z:(ys.map λy=>br y.2.1).getD i .none=.ref ys[i].2.1:=by rw[bA,aU,Lg B];rfl
     have w:=R ys[i] (cI B);rw[kk i _ (Lg B)]at w;obtain⟨a,o,n,t,u,A,e2,e3,e4⟩:=Zdu w;rw[z];exact⟨a,o,n,t,u,A,k _ _ e2,e3,e4⟩
    have hm:∀ (q:bg),(∀ b o,s.heap.get? b=aa o->q.get? b=aa o)->∀ v∈(ys.map λy=>br y.2.1),∃ p,Xh q p v:=λq k v M=>by
     obtain⟨i,B,rfl⟩:=List.mem_iff_getElem.mp M;have P:i < ys.length:=by rwa [aB]at B
     have Z:(ys.map λy=>br y.2.1).getD i .none=(ys.map λy=>br y.2.1)[i]:=by rw[bA,Lg B];rfl
     rw[<-Z];exact⟨_,N q k i P⟩
    refine Qm (vs:=ys.map λy=>br y.2.1) (κ:=tuples' ac) (f:=Vh (ZV m)) (I.ok.hd hc) F ⟨o,h1,T,h3⟩ (by rw[h4,bL];rfl) (by rw[aB];omega)
     (λq E k T Q hQ=>U1 (s:={ s with heap:=q,toks:=E }) (hm q k) T hQ)
     (λq E k i j C B hj hC=>Zan (s:={ s with heap:=q,toks:=E }) (N q k i (by rwa [aB]at B)) (N q k j (by rwa [aB]at hj)) hC)
     λg g' E c k k' hg=>?_
    have Y:L2.Inv X pQ O H { s with heap:=g,toks:=E }:=I.kept (t':=E) k
    have W:=Y.hok.fresh (aD _);have hV:Vals (pick (Vh (ZV m)) V.non (ys.map λy=>V.ref y.2.1)) (pick (Vh (ZV m)) bt (ys.map λy=>br y.2.1)):=by
     unfold pick;rw[aB,aB];split
     .exact WG
     .exact Vb WG _ (by rw[aB];exact VA (by omega))
    have hD:Dens X.K ad H (pick (Vh (ZV m)) V.non (ys.map λy=>V.ref y.2.1)) (pick (Vh (ZV m)) D.non ((ZV m).map prD)):=by
     unfold pick;rw[aB,aB,G];split
     .exact L
     .exact WY L _ (by rw[aB];exact VA (by omega))
    refine⟨.ref g.objs.size,upd H g.objs.size (.lst (pick (Vh (ZV m)) V.non (ys.map λy=>V.ref y.2.1))),Y.laid (t':=E) k' (aD _) (show ObjOk X.prog X.w _ _ _ (.lst _) from⟨?_,_,c,hV,hg⟩),rfl,p _ (ad++[_]) _ (Ext.push W) (S.push W hD) (.newL ?_)⟩
    .rw[Uq,aB,sizeLine_eq];omega
    .rw[<-S.len];exact Zu
   .exact Zb A
  .exact Zb A
 .exact Zb A
end Dp
namespace Dp
open PySem PySem.Spec PyProof.Rows L2
variable [ClsTab]
variable{A:bo}
section
open PySem.SeqAt PySem.MeetsSeq PySem.MeetsSeq2 PySem.MeetsSeq3 PySem.SeqRoads2
open AutoSeq1 (wpAny_loadPart')
def LtAt(A:bo)(s:Sd)(y x:vL)(b:Bool):Prop:=
 ∀ (prog:a0) (w:bh) (E:vL->Sd->Prop) (Q:vL->Sd->Prop),Q (.bool b) s->ay (az prog w) A (richCompare .Lt y x) Q E s
noncomputable def ltR(e lt:Nat->Bool)(f:Bool):Li Nat->Bool
 |[]=>f
 |j :: r=>if e j=ac then ltR e lt f r else lt j
def Qs(l b:Ad)(items items2:Array vL)(n n2:Nat)(dd dd2:Ot Ad)(sl sl2:Array (Ot vL))(e lt:Nat->Bool) :
  Meets (Builtin.«tuple.__lt__» ⟨[.ref l,.ref b],[]⟩)
   (λA R s=>s.heap.get? l=aa { cls:=.type "tuple",dict:=dd,data:=.seq items n,slots:=sl }/\s.heap.get? b=aa { cls:=.type "tuple",dict:=dd2,data:=.seq items2 n2,slots:=sl2 } /\
    (∀ j (h1:j < items.size) (h2:j < items2.size),EqAt A.in1 s items[j] items2[j] (e j))/\(∀ j (h1:j < items.size) (h2:j < items2.size),(∀ i,i < j->e i=ac)->e j=ae->LtAt A.in1 s items[j] items2[j] (lt j)) /\
    R (.ok (.ret (.bool (ltR e lt (aj (items.size < items2.size)) (ag (min items.size items2.size)))))) s):=
 .of_wp λprog w A R s h=>by
  obtain⟨hp,g,d,tk,os⟩:=s;obtain⟨hl,hb,he,hq,h⟩:=h;have f2:=AutoSeq1.sub_tuple_tuple;have hZ:(items.toList.zip items2.toList).length=min items.size items2.size:=by simp
  wp_walk using wpAny_loadPart' hl,wpAny_loadPart' hb,wpAny_forIn_list _ (λrest b s'=>b.1=ab/\s'=⟨hp,g,d,tk,os⟩/\∃ i,rest=(items.toList.zip items2.toList).drop i/\(∀ k,k < i->e k=ac) /\
   R (.ok (.ret (.bool (ltR e lt (aj (items.size < items2.size)) ((ag (min items.size items2.size)).drop i))))) ⟨hp,g,d,tk,os⟩) _
  case turn=>
   rintro⟨y,x⟩ rest b s' ⟨hb',rfl,i,hz,hk,hR⟩
   have hlt:i < (items.toList.zip items2.toList).length:=by
    rcases Nat.lt_or_ge i (items.toList.zip items2.toList).length with h'|h'
    .exact h'
    .rw[dA h']at hz;cases hz
   have hm:i < min items.size items2.size:=hZ ▸ hlt;have h1:i < items.size:=aT hm (Nat.min_le_left _ _);have h2:i < items2.size:=aT hm (Nat.min_le_right _ _);rw[bQ hlt]at hz
   injection hz with hyx hrest
   have hy:y=items[i]:=by have:=ar Prod.fst hyx;simpa using this
   have hx:x=items2[i]:=by have:=ar Prod.snd hyx;simpa using this
   subst hy hx;have hd:(ag (min items.size items2.size)).drop i=i :: (ag (min items.size items2.size)).drop (i+1):=by simp[bQ,hm]
   rw[hd]at hR;have hR:R (.ok (.ret (.bool (if e i=ac then ltR e lt (aj (items.size < items2.size)) ((ag (min items.size items2.size)).drop (i+1)) else lt i)))) ⟨hp,g,d,tk,os⟩:=hR
   refine aA (he i h1 h2 prog w _ _ ?_);cases hy:e i with
   |true=>
    rw[hy]at hR
    wp_walk
    refine⟨rfl,rfl,i+1,hrest,λk hk'=>?_,by simpa using hR⟩
    rcases Nat.lt_or_ge k i with h|h
    .exact hk k h
    .rw[show k=i by omega];exact hy
   |false=>
    rw[hy]at hR;have hz:∀ (E:vL->Sd->Prop) (Q:vL->Sd->Prop),Q (.bool (lt i)) ⟨hp,g,d,tk,os⟩->ay (az prog w) A.in1 (richCompare .Lt items[i] items2[i]) Q E ⟨hp,g,d,tk,os⟩:=λE Q=>hq i h1 h2 hk hy prog w E Q
    generalize richCompare .Lt items[i] items2[i]=rc at hz ⊢
    wp_walk using hz _ _
    exact⟨_,rfl,by simpa using hR⟩
  case fin=>
   rintro⟨b1,b2⟩ s' ⟨hb',rfl,i,hz,_,hR⟩
   simp only at hb';subst hb';have hge:min items.size items2.size<=i:=by
    rcases Nat.lt_or_ge i (items.toList.zip items2.toList).length with h'|h'
    .rw[bQ h']at hz;cases hz
    .exact hZ ▸ h'
   rw[dA (by simpa using hge)]at hR
   wp_walk
   exact⟨_,rfl,by simpa[Builtin.Tuple.tupleCompareSizes,ltR] using hR⟩
  case h=>
   exact⟨rfl,rfl,0,rfl,λk hk=>aq hk (by omega),by simpa using h⟩
theorem LtAt.tuples{s:Sd}{l b:Ad}{c a:Array vL}{e lt:Nat->Bool}(B:s.heap.IsTuple l c)(D:s.heap.IsTuple b a)(hu:A.units < cLine)(C:∀ j (H:j < c.size) (G:j < a.size),EqAt A.in1 s c[j] a[j] (e j))(z:∀ j (H:j < c.size) (G:j < a.size),(∀ i,i < j->e i=ac)->e j=ae->LtAt A.in1 s c[j] a[j] (lt j)):LtAt A s (.ref l) (.ref b) (ltR e lt (aj (c.size < a.size)) (ag (min c.size a.size))):=λp w E Q h=>by
 obtain⟨⟨cls,dd,u,sl⟩,q,t,n,r⟩:=id B;obtain⟨⟨v,m,o,k⟩,d,g,y,f⟩:=id D;simp only at t r g f;subst t r g f;exact richCompare_meets_room (op:=.Lt) ⟨_,q,rfl⟩ ⟨_,d,rfl⟩ F.slot_tuple_lt F.entry_tuple_lt (F.args_tuple_lt_2 _ _) (Qs l b c a n y dd m sl k e lt)
  ⟨q,d,C,z,show Value.bool (ltR e lt (aj (c.size < a.size)) (ag (min c.size a.size)))≠Value.notImplemented/\Q (.bool (ltR e lt (aj (c.size < a.size)) (ag (min c.size a.size)))) s from⟨(λx=>nomatch x),h⟩⟩ hu
end
def eF(ds es:Li D)(i:Nat):Bool:=Zm ((ds[i]?).getD .non) ((es[i]?).getD .non)
noncomputable def lF(ds es:Li D)(i:Nat):Bool:=match ds[i]?,es[i]? with
 |some (.int a),aa (.int b)=>aj (a < b)
 |some (.str a),aa (.str b)=>aj (a.cps.toList < b.cps.toList)
 |_,_=>ae
theorem Q0{e lt:Nat->Bool}{f:Bool}:∀ {l:Li Nat},ltR e lt f (l.map Nat.succ)=ltR (λi=>e (i+1)) (λi=>lt (i+1)) f l
 |[]=>rfl
 |i :: l=>by
  show(if e (i+1)=ac then ltR e lt f (l.map Nat.succ) else lt (i+1))=_
  rw[Q0];rfl
theorem Zbs:∀ {ds es:Li D}{k:Bool},Vx ds es=aa k->ltR (eF ds es) (lF ds es) (aj (ds.length < es.length)) (ag (min ds.length es.length))=k
 |[],[],k,h=>by cases h;rfl
 |[],y :: ys,k,h=>by
  have h:aa (aj (0 < ys.length+1))=aa k:=h;cases h;simp[ltR]
 |x :: a,[],k,h=>by cases h;simp[ltR]
 |x :: a,y :: ys,k,h=>by
  have e:min (x :: a).length (y :: ys).length=min a.length ys.length+1:=by simp only[aP];omega
  rw[e,List.range_succ_eq_map];show(if Zm x y=ac then ltR (eF (x :: a) (y :: ys)) (lF (x :: a) (y :: ys)) _ ((ag (min a.length ys.length)).map Nat.succ) else lF (x :: a) (y :: ys) 0)=k
  unfold Vx at h;by_cases c:Zm x y=ac
  .rw[am c]at h ⊢
   rw[Q0,show aj ((x :: a).length < (y :: ys).length)=aj (a.length < ys.length) by simp]
   exact Zbs h
  .rw[ao c]at h ⊢
   split at h
   .cases h;rfl
   .cases h;rfl
   .exact Zb h
theorem Q2:∀ {ds es:Li D}{k:Bool}{j:Nat},Vx ds es=aa k->j < ds.length->j < es.length->(∀ i,i < j->eF ds es i=ac)->eF ds es j=ae->(∃ a b,ds[j]?=aa (.int a)/\es[j]?=aa (.int b))\/(∃ a b,ds[j]?=aa (.str a)/\es[j]?=aa (.str b))
 |[],_,_,_,_,f,_,_,_=>aq f (by simp)
 |_ :: _,[],_,_,_,_,d,_,_=>aq d (by simp)
 |x :: l,y :: ys,k,0,h,_,_,_,e=>by
  have e:Zm x y=ae:=e;unfold Vx at h;rw[ao (by rw[e];simp)]at h
  split at h
  .exact .inl ⟨_,_,rfl,rfl⟩
  .exact .inr ⟨_,_,rfl,rfl⟩
  .exact Zb h
 |x :: l,y :: ys,k,j+1,h,f,d,g,e=>by
  have c:Zm x y=ac:=g 0 (by omega)
  unfold Vx at h;rw[am c]at h;exact Q2 (j:=j) h (by simpa using f) (by simpa using d) (λi m=>g (i+1) (by omega)) e
variable{X:Cx}{H:Hp}{ad:Li Ad}{ys:Li V}{ds es:Li D}{k:Bool}
open PySem.SeqAt in
def Zdm{s:Sd}{f:Li V}{a b:Li vL}(r:Dens X.K ad H f ds)(x:Dens X.K ad H ys es)(rv:Vals f a)(e:Vals ys b)(h:Vx ds es=aa k) :
  ∀ j (l:j < a.toArray.size) (y:j < b.toArray.size),(∀ i,i < j->eF ds es i=ac)->eF ds es j=ae->LtAt A s a.toArray[j] b.toArray[j] (lF ds es j):=λj l y M N=>by
 have R:a.toArray.size=ds.length:=by rw[aH,<-rv.length,r.length]
 have P:b.toArray.size=es.length:=by rw[aH,<-e.length,x.length]
 have get:∀ {f:Li V}{ds:Li D}{a:Li vL}{d:D} (l:j < a.toArray.size),Dens X.K ad H f ds->Vals f a->ds[j]?=aa d->∃ v,Den X.K ad H v d/\RelV v a.toArray[j]:=λ{f ds a d} l r rv g=>by
  obtain⟨v,J,o⟩:=r.get g;obtain⟨u,B,m⟩:=rv.get J;have O:a.toArray[j]=u:=by
   have:a[j]?=aa (a[j]'(by simpa using l)):=Lg _
   rw[B]at this;simpa using(au this).symm
  exact⟨v,o,by rw[O];exact m⟩
 rcases Q2 h (by omega) (by omega) M N with⟨i,L,g1,g2⟩|⟨i,L,g1,g2⟩
 .obtain⟨F,o,m⟩:=get l r rv g1
  obtain⟨C,z,t⟩:=get y x e g2;cases o;cases z
  obtain⟨I,q⟩:=m;obtain⟨G,p⟩:=t;rw[q,p];intro n w E Q c;have c:Q (.bool (lF ds es j)) s:=c;unfold lF at c;rw[g1,g2]at c;exact lt_int c
 .obtain⟨F,o,m⟩:=get l r rv g1
  obtain⟨C,z,t⟩:=get y x e g2;cases o;cases z
  obtain⟨I,q⟩:=m;obtain⟨G,p⟩:=t;rw[q,p];intro n w E Q c;have c:Q (.bool (lF ds es j)) s:=c;unfold lF at c;rw[g1,g2]at c;exact lt_str c
variable{pQ:Li (Ad×Obj)}{O:L2.St}{n:Nat}
open PySem.SeqAt in
def Zdn{s:Sd}(I:Inv X pQ O H s){a b:Ad}{i:Li V}(o:ZX n ds=ac)(m:ZX n es=ac)(hu:A.units+n+1 < cLine)(e:TupAt X.K H a i)(r:Dens X.K ad H i ds)(x:TupAt X.K H b ys)(f:Dens X.K ad H ys es)(h:Vx ds es=aa k):LtAt A s (.ref a) (.ref b) k:=by
 obtain⟨g,rv,p,_⟩:=I.tuple (e.sq);obtain⟨d,c,l,_⟩:=I.tuple (x.sq);have w:g.toArray.size=ds.length:=by rw[aH,<-rv.length,r.length]
 have v:d.toArray.size=es.length:=by rw[aH,<-c.length,f.length]
 have q:=LtAt.tuples (A:=A) (s:=s) (e:=eF ds es) (lt:=lF ds es) p l (by omega) (λj u t=>Vr (a:=a) (b:=b) I o m hu r f rv c j u t) (Zdm r f rv c h)
 rw[w,v,Zbs h]at q;exact q
variable{dx dy:D}{u:vL}{Q:VK}{st:Za}{op:CmpOp}
variable{X:Cx}
section
theorem Zbc{ad:Li Ad}{H:Hp}{k:Int}:∀ {xs:Li V}{ds:Li D}{b:Bool},Dens X.K ad H xs ds->Yh k ds=aa b->xs.all flatV=ac/\inV (.int k) xs=b
 |_,_,_,.nil,e=>by cases e;exact⟨rfl,rfl⟩
 |_,_,b,.cons (d:=d) h r,e=>by
  cases d with
  |int i=>
   cases h;unfold Yh at e;cases q:Yh k _ with
   |none=>rw[q]at e;cases e
   |some b'=>
    rw[q]at e;cases e;obtain⟨c,a⟩:=Zbc r q;refine⟨by rw[bE,c];rfl,?_⟩
    show((i==k)||inV (.int k) _)=(aj (i=k)||b');rw[a];rfl
  |_=>simp[Yh]at e
theorem UX{ad:Li Ad}{H:Hp}{k:Str}:∀ {xs:Li V}{ds:Li D}{b:Bool},Dens X.K ad H xs ds->Yi k ds=aa b->xs.all flatV=ac/\inV (.str k) xs=b
 |_,_,_,.nil,e=>by cases e;exact⟨rfl,rfl⟩
 |_,_,b,.cons (d:=d) h r,e=>by
  cases d with
  |str i=>
   cases h;unfold Yi at e;cases q:Yi k _ with
   |none=>rw[q]at e;cases e
   |some b'=>
    rw[q]at e;cases e;obtain⟨c,a⟩:=UX r q;refine⟨by rw[bE,c];rfl,?_⟩
    show((i==k)||inV (.str k) _)=(aj (i=k)||b');rw[a]
    congr 1
  |_=>simp[Yi]at e
def CW(X:Cx)(pQ:Li (Ad×Obj))(O:L2.St)(Q:VK)(s:Sd)(op:CmpOp)(v u:vL):Prop:=ay (az X.prog X.w) X.A (bj op v u) (EP X pQ O Q) X.xe s
def CW2(X:Cx)(pQ:Li (Ad×Obj))(O:L2.St)(Q:VK)(s:Sd)(H:Hp)(op a:CmpOp)(v u:vL)(k:Bool):Prop:=(Q (.bl k) H->CW X pQ O Q s op v u)/\(Q (.bl (!k)) H->CW X pQ O Q s a v u)
noncomputable def vSc:Sc->V
 |.non=>.non
 |.bl b=>.bl b
 |.int i=>.int i
 |.str x=>.str x
def Den.vSc{K:Fg}{ad:Li Ad}{H:Hp}{x:V}{d:D}{a:Sc}(h:Den K ad H x d)(e:scD d=aa a):x=vSc a:=by
 cases h<;>cases e<;>rfl
def ZcV{a b:Sc}(h:ZgR a b=aa k):scal (vSc a) (vSc b)=ac/\aj (vSc a=vSc b)=k:=by
 cases a<;>cases b<;>first
  | (cases h;done)
  | (cases h;exact⟨rfl,rfl⟩)
  | (cases h;exact⟨rfl,dec_bl⟩)
  | (cases h;exact⟨rfl,by simp[vSc]⟩)
inductive EqD(x y:V):D->D->Bool->Prop
 |sc {dx dy:D}{k:Bool} (h3:scal x y=ac) (h4:aj (x=y)=k):EqD x y dx dy k
 |tup {xs ys:List D} (h:(okD 8 (.tup xs)&&okD 8 (.tup ys))=ac):EqD x y (.tup xs) (.tup ys) (Zs xs ys)
def ZcT{K:Fg}{x y:V}(i:Den K ad H x dx)(g:Den K ad H y dy)(e:eqD dx dy=aa k):EqD x y dx dy k:=by
 unfold eqD at e;split at e
 .unfold eqT at e
  split at e
  .split at e
   .rename_i c
    cases e;exact .tup c
   .exact Zb e
  .exact Zb e
 .refine j_e e λe=>ZU (P:=λo=>o=aa k->EqD x y dx dy k) e (λa b l j h=>?_) rfl
  obtain⟨f,d⟩:=ZcV h;rw[<-i.vSc l,<-g.vSc j]at f d;exact .sc f d
def ZgT(hu:X.A.units+64 < cLine){s:Sd}{x y:V}{v:vL}(I:Inv X pQ O H s)(f:RelV x v)(d:RelV y u)(S:StOk X.K ad H st)(h:Den X.K ad H x dx)(g:Den X.K ad H y dy)(e:eqD dx dy=aa k):CW2 X pQ O Q s H .Eq .NotEq v u k:=by
 cases ZcT h g e with
 |sc i p=>
  subst p;exact⟨λq=>op_eq pQ s O H x y v u Q I f d ⟨i,q⟩,λq=>op_ne pQ s O H x y v u Q I f d ⟨i,q⟩⟩
 |tup c=>
  rw[Ba]at c;obtain⟨a,r,rfl,o,l⟩:=h.ofTup;obtain⟨b,ys,rfl,m,j⟩:=g.ofTup;cases f;cases d
  obtain⟨g1,g2⟩:=Zdy (ad:=ad) (A:=X.A) I (n:=7) c.1 c.2 (by omega) o l m j
  exact⟨λq=>g1 X.prog X.w X.xe _ ⟨.bl _,H,I,rfl,q⟩,λq=>g2 X.prog X.w X.xe _ ⟨.bl _,H,I,rfl,q⟩⟩
open PySem.SeqAt in
def Zdx{s:Sd}(I:Inv X pQ O H s){a b:Ad}{m:Li V}{d c:Li vL}(w:ZX n ds=ac)(v:ZX n es=ac)(hu:A.units+n+1 < cLine)(r:Dens X.K ad H m ds)(o:Dens X.K ad H ys es)(rv:Vals m d)(f:Vals ys c)(p:s.heap.IsList a d.toArray)(h:s.heap.IsList b c.toArray):RcAt A s (.ref a) (.ref b) (Zs ds es)/\RcNeAt A s (.ref a) (.ref b) (!Zs ds es):=by
 have l:d.toArray.size=ds.length:=by rw[aH,<-rv.length,r.length]
 have u:c.toArray.size=es.length:=by rw[aH,<-f.length,o.length]
 by_cases k:ds.length=es.length
 .have t:=λj y x=>Vr (a:=a) (b:=b) I w v hu r o rv f j y x
  have q:=RcAt.lists (A:=A) (s:=s) (e:=λi=>Zm ((ds[i]?).getD .non) ((es[i]?).getD .non)) p h (by omega) (by omega) t
  have g:=RcNeAt.lists (A:=A) (s:=s) (e:=λi=>Zm ((ds[i]?).getD .non) ((es[i]?).getD .non)) p h (by omega) (by omega) t
  rw[l]at q g;rw[Yx,show min ds.length es.length=ds.length by omega,show(ds.length==es.length)=ac by simpa using k,Bool.and_true]
  exact⟨q,g⟩
 .have q:=RcAt.lists_lengths (A:=A) (s:=s) p h (by rw[l,u];simpa using k) (by omega)
  have g:=RcNeAt.lists_lengths (A:=A) (s:=s) p h (by rw[l,u];simpa using k) (by omega)
  rw[Yx,show(ds.length==es.length)=ae by simpa using k,Bool.and_false]
  exact⟨q,g⟩
open PySem.SeqAt in
def Zib(hu:X.A.units+64 < cLine){s:Sd}{x y:V}{v:vL}(I:Inv X pQ O H s)(b:RelV x v)(a:RelV y u)(S:StOk X.K ad H st)(d:Den X.K ad H x (.tup ds))(c:Den X.K ad H y (.tup es))(e:Jc st ds es=aa k):CW2 X pQ O Q s H .Eq .NotEq v u k:=by cases e
def ZgU(hu:X.A.units+64 < cLine){s:Sd}{x y:V}{v:vL}(I:Inv X pQ O H s)(r:RelV x v)(p:RelV y u)(S:StOk X.K ad H st)(M:Den X.K ad H x dx)(L:Den X.K ad H y dy)(e:eqS st dx dy=aa k):CW2 X pQ O Q s H .Eq .NotEq v u k:=by
 have sc:scal x y=ac->(aj (x=y))=k->CW2 X pQ O Q s H .Eq .NotEq v u k:=λC h2=>by
  subst h2;exact⟨λq=>op_eq pQ s O H x y v u Q I r p ⟨C,q⟩,λq=>op_ne pQ s O H x y v u Q I r p ⟨C,q⟩⟩
 unfold eqS at e;split at e
 .unfold ZgQ at e
  split at e
  case h_2=>exact Zb e
  obtain⟨a,rfl,ha⟩:=M.ofLst;obtain⟨b,rfl,hb⟩:=L.ofLst;cases r;cases p
  have two:∀ {ba bb:Bool}{i ys:Li D},st[_]?=aa (ba,i)->st[_]?=aa (bb,ys)->(i=[]\/ys=[])->(i.isEmpty&&ys.isEmpty)=k->CW2 X pQ O Q s H .Eq .NotEq (.ref a) (.ref b) k:=λ{ba bb i ys} J G E hk=>by
   obtain⟨vs,T,s1⟩:=S.list ha J;obtain⟨ws,R,N⟩:=S.list hb G;obtain⟨h,rv,B,_⟩:=I.list s1;obtain⟨g,l,t,_⟩:=I.list N;have Z:h.toArray.size=i.length:=by rw[aH,<-rv.length,T.length]
   have Y:g.toArray.size=ys.length:=by rw[aH,<-l.length,R.length]
   by_cases n:i.length=ys.length
   .have W:i=[]:=by
     rcases E with z|z
     .exact z
     .rw[z]at n;exact eA.mp n
    have z2:ys=[]:=by rw[W]at n;exact eA.mp n.symm
    subst W z2;cases hk;have f:h=[]:=eA.mp (by simpa using Z)
    have f':g=[]:=eA.mp (by simpa using Y)
    subst f f';refine⟨λq=>SeqAt.RcAt.lists (e:=λ_=>ac) B.isList t.isList rfl (by omega) (λj C _=>aq C (by simp)) X.prog X.w X.xe _ ⟨.bl ac,H,I,rfl,q⟩,λq=>SeqAt.RcNeAt.lists (e:=λ_=>ac) B.isList t.isList rfl (by omega) (λj C _=>aq C (by simp)) X.prog X.w X.xe _ ⟨.bl ae,H,I,rfl,q⟩⟩
   .have U:k=ae:=by
     rw[<-hk];rcases E with z|z
     .subst z
      cases ys with
      |nil=>exact aq rfl n
      |cons _ _=>rfl
     .subst z
      cases i with
      |nil=>exact aq rfl n
      |cons _ _=>rfl
    subst U;have F:(h.toArray.size != g.toArray.size)=ac:=by rw[Z,Y];simpa using n
    exact⟨λq=>SeqAt.RcAt.lists_lengths B.isList t.isList F (by omega) X.prog X.w X.xe _ ⟨.bl ae,H,I,rfl,q⟩,λq=>SeqAt.RcNeAt.lists_lengths B.isList t.isList F (by omega) X.prog X.w X.xe _ ⟨.bl ac,H,I,rfl,q⟩⟩
  refine j_e e λe=>ZU (P:=λo=>o=aa k->CW2 X pQ O Q s H .Eq .NotEq (.ref a) (.ref b) k) e (λc d J G e=>?_) rfl
  obtain⟨c1,c2⟩:=c;obtain⟨d1,d2⟩:=d;unfold ZcU at e;split at e
  .rename_i E
   cases e;rw[dJ]at E;exact two J G (E.imp List.isEmpty_iff.mp List.isEmpty_iff.mp) rfl
  .split at e
   .rename_i m
    cases e;rw[Ba]at m;obtain⟨vs,T,s1⟩:=S.list ha J;obtain⟨ws,R,N⟩:=S.list hb G;obtain⟨h,rv,B,_⟩:=I.list s1;obtain⟨g,l,t,_⟩:=I.list N;obtain⟨g1,g2⟩:=Zdx (ad:=ad) (A:=X.A) I m.1 m.2 (by omega) T R rv l B.isList t.isList
    exact⟨λq=>g1 X.prog X.w X.xe _ ⟨.bl _,H,I,rfl,q⟩,λq=>g2 X.prog X.w X.xe _ ⟨.bl _,H,I,rfl,q⟩⟩
   .exact Zb e
 .unfold ZgS at e
  split at e
  .split at e
   .rename_i k' q
    cases e;exact ZgT hu I r p S M L (show eqD (.tup _) (.tup _)=aa _ from q)
   .exact Zib hu I r p S M L e
  .exact Zb e
 .exact ZgT hu I r p S M L e
open Classical in
def Zjn(K:Fg)(ad:Li Ad)(H:Hp)(d:D)(u:vL):Bool:=aj (∃ y e,RelV y u/\Den K ad H y e/\okD 8 e=ac/\Zm e d=ac)
section
variable{pQ:Li (Ad×Obj)}{s:Sd}{O:L2.St}{H:Hp}{x y:V}{v u:vL}{Q:VK}{ad:Li Ad}{st:Za}{dx dy:D}{k:Bool}
def Vq{a:Ad}{b:Li V}(I:Inv X pQ O H s)(d:RelV x v)(c:RelV y u)(g:y=.ref a)(sq:SqL X.K H a b\/SqT X.K H a b)(f:flatV x=ac)(h:b.all flatV=ac/\inV x b=k):CW2 X pQ O Q s H .In .NotIn v u k:=by
 obtain⟨e,i⟩:=h;subst i;exact⟨λpk=>op_in_seq pQ s O H _ _ v u Q I d c ⟨a,b,g,sq,f,e,pk⟩,λpk=>op_notIn_seq pQ s O H _ _ v u Q I d c ⟨a,b,g,sq,f,e,pk⟩⟩
def InW(X:Cx)(pQ:Li (Ad×Obj))(O:L2.St)(Q:VK)(s:Sd)(H:Hp)(v u:vL)(dy:D)(k:Bool):Prop:=(Q (.bl k) H->CW X pQ O Q s .In v u)/\((∀ ks vs,dy≠.dct ks vs)->Q (.bl (!k)) H->CW X pQ O Q s .NotIn v u)
def CW2.inW(h:CW2 X pQ O Q s H .In .NotIn v u k):InW X pQ O Q s H v u dy k:=⟨h.1,λ_=>h.2⟩
def ZgX(hu:X.A.units+64 < cLine)(I:Inv X pQ O H s)(f:RelV x v)(d:RelV y u)(S:StOk X.K ad H st)(h:Den X.K ad H x dx)(g:Den X.K ad H y dy)(q:inS st dx dy=aa k):InW X pQ O Q s H v u dy k:=by
 unfold inS at q;split at q
 .split at q
  .rename_i l
   obtain⟨a,e,c⟩:=g.ofLst;obtain⟨m,r,sq⟩:=S.list c l;cases h;exact(Vq I f d e (.inl sq) rfl (Zbc r q)).inW
  .exact Zb q
 .split at q
  .rename_i l
   obtain⟨a,e,c⟩:=g.ofLst;obtain⟨m,r,sq⟩:=S.list c l;cases h;exact(Vq I f d e (.inl sq) rfl (UX r q)).inW
  .exact Zb q
 .obtain⟨a,m,e,c,r⟩:=g.ofTup
  cases h;exact(Vq I f d e (.inr c.sq) rfl (Zbc r q)).inW
 .obtain⟨a,m,e,c,r⟩:=g.ofTup
  cases h;exact(Vq I f d e (.inr c.sq) rfl (UX r q)).inW
 .obtain⟨a,vs,rfl,c,C,r⟩:=g.ofDct
  cases h;cases q;refine⟨λpk=>op_in_dct pQ s O H _ _ v u Q I f d ⟨a,_,Sum.inr _,rfl,rfl,c,?_⟩,λz=>aq rfl (z _ _)⟩
  rcases XC r C with⟨w,G,p,n,F⟩|⟨p,n⟩
  .rw[p];rw[n]at pk;exact pk
  .rw[p];rw[n]at pk;exact pk
 .obtain⟨o,t,rfl⟩:=dG.mp q
  obtain⟨i,j,J,es,rfl,l,rfl⟩:=US t;obtain⟨a,rfl,c,B⟩:=g.ofDic;obtain⟨kvs,r,D,_⟩:=S.dict c B l;obtain⟨b,rfl,E⟩:=Xt h;cases f;cases d
  have z:=in_dT (X:=X) (Q:=Q) (by omega) I D E
  rw[JO r]at z;exact⟨z.1,λ_=>z.2⟩
 .cases h;cases g;cases q
  exact⟨λpk=>op_in_str pQ s O H _ _ v u Q I f d ⟨_,_,rfl,rfl,pk⟩,λ_ pk=>op_notIn_str pQ s O H _ _ v u Q I f d ⟨_,_,rfl,rfl,pk⟩⟩
 .exact Zb q
def Zdg(a:Den X.K ad H x dx)(q:isN dx=aa k):aj (x=V.non)=k:=by
 cases a<;>cases q<;>rfl
def ZgY(I:Inv X pQ O H s)(d:RelV x v)(c:RelV y u)(g:Den X.K ad H x dx)(f:Den X.K ad H y dy)(q:isD dx dy=aa k):CW2 X pQ O Q s H .Is .IsNot v u k:=by
 unfold isD at q;split at q
 .cases f
  have z:=Zdg g q;subst z;exact⟨λpk=>op_isN pQ s O H _ _ v u Q I d c ⟨rfl,pk⟩,λpk=>op_notN pQ s O H _ _ v u Q I d c ⟨rfl,pk⟩⟩
 .unfold isB at q
  split at q
  .cases q
   cases g;cases f
   cases d;cases c
   have e:∀ a b:Bool,(Value.bool a==Value.bool b)=(a==b):=λa b=>by cases a<;>cases b<;>rfl
   exact⟨λpk=>wpAny_is_plain rfl (by rw[e];exact⟨.bl _,H,I,rfl,pk⟩),λpk=>wpAny_isNot_plain rfl (by rw[e];exact⟨.bl _,H,I,rfl,pk⟩)⟩
  .cases q
 .cases q
def Wa{f:Int->Int->Bool}(b:Den X.K ad H x dx)(a:Den X.K ad H y dy)(q:JV f dx dy=aa k):∃ i j,x=.int i/\y=.int j/\f i j=k:=by
 unfold JV at q;split at q
 .cases q;cases b;cases a;exact⟨_,_,rfl,rfl,rfl⟩
 .exact Zb q
def Zim(hu:X.A.units+64 < cLine)(I:Inv X pQ O H s)(e:RelV x v)(d:RelV y u)(S:StOk X.K ad H st)(g:Den X.K ad H x dx)(f:Den X.K ad H y dy)(q:ltS st dx dy=aa k)(pk:Q (.bl k) H):CW X pQ O Q s .Lt v u:=by
   have q:ltD dx dy=aa k:=q;unfold ltD at q;split at q
   .split at q
    .rename_i ds es c
     rw[Ba]at c;obtain⟨a,p,rfl,o,l⟩:=g.ofTup;obtain⟨b,ys,rfl,m,h⟩:=f.ofTup;cases e;cases d
     exact Zdn (ad:=ad) (A:=X.A) I (n:=7) c.1 c.2 (by omega) o l m h q X.prog X.w X.xe _ ⟨.bl _,H,I,rfl,pk⟩
    .exact Zb q
   obtain⟨i,j,rfl,rfl,z⟩:=Wa g f q;exact op_lt pQ s O H _ _ v u Q I e d ⟨_,_,rfl,rfl,by cases z;exact pk⟩
def Vy{o:Ot Bool}(q:o.map not=aa k):o=aa (!k):=by
 cases o with
 |none=>exact Zb q
 |some a=>cases q;rw[Bool.not_not]
def ZbC{a:CmpOp}(h:CW2 X pQ O Q s H op a v u (!k))(pk:Q (.bl k) H):CW X pQ O Q s a v u:=h.2 (by rw[Bool.not_not];exact pk)
end
def Ja(hu:X.A.units+64 < cLine):OpR X (bj op) (rD X.K (ZcL op)):=by
 intro pQ s O H x y v u Q I b a h;obtain⟨ad,st,dx,dy,d,st',S,f,c,e,p⟩:=h
 change CW X pQ O Q s op v u;unfold ZcL at e;cases q:ZcK op dx dy st with
 |none=>rw[q]at e;cases e
 |some k=>
  rw[q]at e;cases e;have pk:=p.at S (.bl k);clear p;cases op with
  |Lt=>exact Zim hu I b a S f c q pk
  |LtE=>
   obtain⟨i,j,rfl,rfl,z⟩:=Wa f c q;exact op_le pQ s O H _ _ v u Q I b a ⟨_,_,rfl,rfl,by cases z;exact pk⟩
  |Gt=>
   obtain⟨i,j,rfl,rfl,z⟩:=Wa f c q;exact op_gt pQ s O H _ _ v u Q I b a ⟨_,_,rfl,rfl,by cases z;exact pk⟩
  |GtE=>
   obtain⟨i,j,rfl,rfl,z⟩:=Wa f c q;exact op_ge pQ s O H _ _ v u Q I b a ⟨_,_,rfl,rfl,by cases z;exact pk⟩
  |Eq=>exact(ZgU hu I b a S f c q).1 pk
  |NotEq=>exact ZbC (ZgU hu I b a S f c (Vy q)) pk
  |In=>exact(ZgX hu I b a S f c q).1 pk
  |NotIn=>
   have q:niS st dx dy=aa k:=q;unfold niS at q;split at q
   .exact Zb q
   .rename_i g
    exact(ZgX hu I b a S f c (Vy q)).2 g (by rw[Bool.not_not];exact pk)
  |Is=>exact(ZgY I b a f c q).1 pk
  |IsNot=>exact ZbC (ZgY I b a f c (Vy q)) pk
end
variable [ClsTab]
noncomputable def Zg:aw->Bool
 |.Starred ..=>ae
 |.Set ..=>ae
 |.Slice ..=>ae
 |_=>ac
variable{sc:bc}{N:Li Str}{e:aw}
def Ze{G:Gs}{c:CE}(h:cE G n sc N e=aa c):Zg e=ac:=by
 cases n with
 |zero=>exact nomatch (show(ab:Ot CE)=aa c from h)
 |succ n=>cases e<;>first|rfl|exact nomatch (show(ab:Ot CE)=aa c from h)
variable{env:PySem.Env}
def Zd{es:Li aw}(h:Zg e=ac):a6 (e :: es) env=(ae,eval e env) :: a6 es env:=by
 cases e<;>first|rfl|cases h
def XW{b:aw}(h:Zg b=ac):behindInMarks op b=ae:=by
 cases b<;>first|rfl|cases h
def Uf{b:aw}(h:Zg b=ac):PlainIx b:=by
 cases b<;>first | (intro o i;rfl)|cases h
theorem Yw{pos:Pos}{env:PySem.Env}:∀ {es:Li aw},es.all Zg=ac->(backTo pos (a6 es env)).any (·.1)=ae
 |[],_=>rfl
 |e :: es,h=>by
  rw[bE,Ba]at h;rw[Zd h.1];show(ae||(backTo pos (a6 es env)).any (·.1))=ae;rw[Yw h.2];rfl
inductive EsOk(Pm:Params)(K:Fg):List DictEntry->List Str->List D->Prop where
 |nil:EsOk Pm K [] [] []
 |cons {e:DictEntry}{es:List DictEntry}{k:Str}{ks:List Str}{d:D}{ds:List D}{v:V}{t:Tok} (h1:e.hash=bq Pm k) (h2:e.key=.str k t) (h3:RelV v e.val) (h4:∀ ad H,Den K ad H v d) (r:EsOk Pm K es ks ds):EsOk Pm K (e :: es) (k :: ks) (d :: ds)
def QA(b:Params)(K:Fg)(mg:Str->Ot vL)(x:Str)(ks:Li Str)(ds:Li D):Prop:=
 ∃ A o es a,mg x=aa (.ref A)/\K.lookup A=aa o/\o.ExactDict/\o.data=.dict es a/\(A==bm)=ae/\ks.Nodup/\EsOk b K es.toList ks ds
variable{w:bh}
theorem EsOk.open{P:a0}{K:Fg}:∀ {es:Li DictEntry}{ks:Li Str}{ds:Li D},EsOk w.params K es ks ds->∃ kvs:Li (Key×vL),Pairs (mixKind P w) es kvs/\kvs.map (·.1)=ks.map Sum.inr/\(∀ e∈es,∃ k,(mixKind P w).is k e.key=ac/\e.hash=(mixKind P w).hash k) /\
  ∀ k d,Z4 ks ds k=aa d->∃ u v,valueAt kvs (Sum.inr k)=aa u/\RelV v u/\∀ ad H,Den K ad H v d
 |_,_,_,.nil=>⟨[],.nil,rfl,(λ_ h=>nomatch h),λk d h=>by simp[Z4]at h⟩
 |e :: es,a :: ks,n :: ds,.cons (v:=v) (t:=t) m l j i r=>by
  obtain⟨kvs,B,A,y,s⟩:=EsOk.open (P:=P) r;have b:(mixKind P w).is (Sum.inr a) e.key=ac:=by rw[l];exact mixKind_str P w a t
  refine⟨(Sum.inr a,e.val) :: kvs,.cons b rfl B,by rw[aQ,aQ,A],λx hx=>?_,λk d h=>?_⟩
  .rcases aF.mp hx with rfl|hx
   .exact⟨Sum.inr a,b,m⟩
   .exact y x hx
  .unfold valueAt
   by_cases c:a=k
   .subst c
    have h:Z4 (a :: ks) (n :: ds) a=aa d:=h;simp only[Z4,am]at h;cases h;exact⟨e.val,v,by simp,j,i⟩
   .have h:Z4 ks ds k=aa d:=by
     simp only[Z4,ao c]at h;exact h
    obtain⟨u,f,q,p,o⟩:=s k d h;refine⟨u,f,?_,p,o⟩;have g:¬(Sum.inr a:Key)=Sum.inr k:=λz=>c (Sum.inr.inj z)
    rw[List.find?_cons_of_neg (by simpa using g)]
    exact q
structure SubOk(K:Fg)(C B:Addr):Prop where
 cl:Cls K C
 ha:W.findIn K (.ref C) "__class__"=aa (aa (.builtin "object.__class__"))
 hn:W.specialIn K (.builtin "object.__class__") "__get__"=aa (aa (.builtin "getset_descriptor.__get__"))
 ht:W.takesIn K (.builtin "object.__class__")=aa ac
 hm:W.mroIn K C (.type "object")=aa ac
 kit:W.kitOne K (.ref C) (.ref B)=aa ac
structure NewOk(K:Fg)(C:Addr):Prop where
 makes:W.makesIn K C=ac
 init:W.findIn K (.ref C) "__init__"=aa (aa (.builtin "object.__init__"))
 kp:W.keepIn K (.ref C)=ac
 cl:Cls K C
def GOk(P:a0)(w:bh)(K:Fg)(mg:Str->Ot vL)(base:bg)(A:bo)(F:Nat->Fn)(x:Str):GV->Prop
 |.c d=>∃ v u,mg x=aa u/\RelV v u/\∀ ad H,Den K ad H v d
 |.blt=>mg x=ab
 |.dct ks ds=>QA w.params K mg x ks ds
 |.cls i l a=>mg x=aa (.ref (ClsTab.ca i))/\NewOk K (ClsTab.ca i)/\(∀ h,a.contains h=ac->SubOk K (ClsTab.ca h) (ClsTab.ca i)) /\
   ∀ m j g,l.lookup m=aa (j,g)->∃ (k:Nat) (f:Ad) (fd:bf) (pn:Li Str),FnOk P w K mg base CX0 k f fd pn (spD K (F j))/\Room k A/\Meth K (ClsTab.ca i) m f/\Binds K fd pn []
 |.fn i g ds=>∃ (k:Nat) (f:Ad) (fd:bf) (pn:Li Str),FnOk P w K mg base CX0 k f fd pn (spD K (F i))/\Room k A/\mg x=aa (.ref f)/\W.keepIn K (.ref f)=ac /\
   ∀ m,m<=ds.length->∃ b e,(∀ ad H,Dens K ad H b (ds.drop m))/\Vals b e/\Binds K fd pn e
structure Cxt(X:Cx)(G:Gs)(F:Nat->Fn)(sc:bc)(N:List Str):Prop where
 hN:X.N=N
 vis:∀ x,XA sc x=ac->Vis X.env.scope x
 glb:∀ x,ZH sc x=ac->Gl X x
 calm:X.calm=ac
 hu:X.A.units+64 < cLine
 gl:∀ x g,G.lookup x=aa g->GOk X.prog X.w X.K X.mg X.base X.A F x g
 cel:∀ x,Wr sc x=ac->X.env.scope.names.lookup x=aa .cell\/X.env.scope.names.lookup x=aa .free
 nx:X.xe=λ_ _=>False
variable{i:Nat}
def Xl{x:Str}(h:N.idxOf? x=aa i):N[i]?=aa x:=by
 unfold List.idxOf? at h
 rw[List.findIdx?_eq_some_iff_getElem]at h;obtain⟨a,b,_⟩:=h;rw[Lg a];rw[beq_iff_eq.mp b]
def Vu{x:Str}(h:XA sc x=ac):(x==("__debug__":Str))=ae/\(x==("__classdict__":Str))=ae:=by
 unfold XA at h;rw[Ba,Ba,eB,eB]at h;exact h.1
def YW{x:Str}(h:ZH sc x=ac):(x==("__debug__":Str))=ae:=by
 unfold ZH at h;rw[Ba,eB]at h;exact h.1
variable{fa:Ev}{pos:Pos}{U:Env}{st':Za}{d:D}
variable{F:Nat->Fn}
def Zhc{f:Ev}(h:PE X e (tE X.K f))(b:∀ a,isTrue e X.env a=(do let v <-a;standAt e.pos;holding [v] (truthy v)):=by intro _;rfl):PT X e (tT X.K f):=WF (pt_val h b) Zba
def ZfE{c a b:aw}{u v:Ev}(y:PT X c (tT X.K u))(A:PT X a (tT X.K fa))(z:PT X b (tT X.K v)):PT X (.IfExp c a b pos) (tT X.K (Yz u fa v)):=by
 intro pQ s O H Q I h;obtain⟨ad,U,st,d,st',E,S,e,p⟩:=h;obtain⟨k,g,q,e⟩:=Z8 e;show ay _ _ (isTrue c X.env (eval c X.env) >>= λt=>if t then isTrue a X.env (eval a X.env) else isTrue b X.env (eval b X.env)) _ _ s
 refine aA (thn (y pQ s O H (λx l=>x=k/\∃ f,Ext ad H f l/\StOk X.K f l g) I ⟨ad,U,st,k,g,E,S,q,λf l j m=>⟨rfl,f,j,m⟩⟩) λt s1 ⟨l,w,B,f,j,m⟩=>?_)
 subst B;cases t with
 |true=>
  rw[am rfl]at e ⊢;exact A pQ s1 O l Q w ⟨f,U,g,d,st',E.mono j,m,e,λi r n o=>p i r (j.trans n) o⟩
 |false=>
  rw[ao Bf]at e ⊢;exact z pQ s1 O l Q w ⟨f,U,g,d,st',E.mono j,m,e,λi r n o=>p i r (j.trans n) o⟩
def UA:CE->Prop
 |.aN=>True
 |.aC _ _=>True
 |_=>False
def X5{c:CE}(h:UA c)(e:ev F c U st=aa (d,st')):∃ ds,d=.tup ds/\ds.length<=1000:=by
 cases c with
 |aN=>cases e;exact⟨[],rfl,by decide⟩
 |aC a r=>
  have e:ZY (ev F a) (ev F r) WX U st=aa (d,st'):=e;unfold ZY at e;split at e
  .split at e
   .rename_i y b _
    cases y with
    |tup f=>
     have e:(if f.length < 1000 then aa (D.tup (_ :: f),b) else ab)=aa (d,st'):=e
     split at e
     .rename_i g
      cases e;exact⟨_,rfl,g⟩
     .exact Zb e
    |_=>simp[WX]at e
   .exact Zb e
  .exact Zb e
 |_=>exact False.elim h
structure SE(X:Cx)(F:Nat->Fn)(e:aw)(c:CE):Prop where
 pe:PE X e (tE X.K (ev F c))
 pt:PT X e (tT X.K (ev F c))
def SE.of{c:CE}(h:PE X e (tE X.K (ev F c)))(b:∀ a,isTrue e X.env a=(do let v <-a;standAt e.pos;holding [v] (truthy v)):=by intro _;rfl):SE X F e c:=⟨h,Zhc h b⟩
def Ur{op:BoolOp}{es:Li aw}{t:TT}(h:PT X (.BoolOp op es pos) t):PW X (.BoolOp op es pos) t:=λ_ pQ s O H Q I q=>h pQ s O H Q I q
variable{vs:Li V}{ad0:Li Ad}
variable{ad:Li Ad}{H:Hp}{p:Ad}
section
variable{o:HO}
variable (ho:∀ kvs,o≠.dT kvs)
include ho
def Zbi{K:Fg}(a:H p=aa (.dK [])):Keeps K ad ad H (upd H p o):=⟨λh=>h.upd a (by intro b z;cases z),λh=>⟨h,WL (Wz a λ_ z=>nomatch z) ho⟩,λn h=>by rw[upd_ne (ne_of h a (by intro z;injection z with z;exact n z))];exact h,λh n=>⟨by rw[upd_ne (ne_of h a (by intro z;cases z))];exact h,n⟩⟩
def Dens.wrK{K:Fg}(a:H p=aa (.dK []))(h:Dens K ad H vs ds):Dens K ad (upd H p o) vs ds:=h.map (Zbi ho a)
def StOk.wrK{K:Fg}(S:StOk K ad H st)(a:H p=aa (.dK []))(b:p∉ad):StOk K ad (upd H p o) st:=
 S.wrG (Zbi ho a) b
def Ext.wrK{e:Hp}(x:Ext ad0 e ad H)(f:H p=aa (.dK []))(d:e p=ab):Ext ad0 e ad (upd H p o):=by
 refine⟨x.pre,λb c h=>?_,λb c h=>?_,λb o h n=>?_,x.new,λi a h=>(x.kd i a h).trans (WL (Wz f λ_ z=>nomatch z) ho)⟩
 .rw[upd_ne (ne_of_none h d)];exact x.tup b c h
 .rw[upd_ne (ne_of_none h d)];exact x.dk b c h
 .rw[upd_ne (ne_of_none h d)];exact x.keep b o h n
end
theorem W4:∀ (kvs a:Li (Key×V)),(∀ p∈kvs,∀ q∈a,q.1≠p.1)->(kvs.map (·.1)).Nodup->mergeK a kvs=a++kvs
 |[],a,_,_=>by show a=a++[];rw[bD]
 |p :: r,a,h,n=>by
  rw[aQ,bP]at n;have e:putK a p.1 p.2=a++[p]:=by
   unfold putK;rw[ao];intro z;rw[List.any_eq_true]at z;obtain⟨q,hq,z⟩:=z;exact h p (Ls ..) q hq (al z)
  show mergeK (putK a p.1 p.2) r=_;rw[e,W4 r (a++[p]) (λx b q hq=>?_) n.2,bB];rfl
  rcases bO.mp hq with hq|hq
  .exact h x (Lm _ b) q hq
  .rw[aR]at hq
   subst hq;intro z;exact n.1 (by rw[z];exact List.mem_map_of_mem b)
theorem Wt:∀ {ks:Li Str}{vs:Li V},ks.Nodup->(((ks.zip vs).map λp=>((Sum.inr p.1:Key),p.2)).map (·.1)).Nodup
 |[],_,_=>by simp
 |_ :: _,[],_=>by simp
 |k :: ks,v :: vs,h=>by
  rw[bP]at h;show((Sum.inr k:Key) :: ((ks.zip vs).map λp=>((Sum.inr p.1:Key),p.2)).map (·.1)).Nodup
  rw[bP];refine⟨λz=>h.1 ?_,Wt h.2⟩
  rw[bL,aS]at z;obtain⟨q,a,e⟩:=z;have e:(Sum.inr q.1:Key)=Sum.inr k:=e;rw[<-Sum.inr.inj e];exact(dX a).1
theorem XB:∀ {keys:Li (Ot aw)}{ks:Li Str},ZO keys=aa ks->keys.length=ks.length/\keys.all (·.isSome)=ac
 |[],_,h=>by cases h;exact⟨rfl,rfl⟩
 |some (.Constant (.str k) a b) :: r,ks,h=>by
  have h:(ZO r).map (k :: ·)=aa ks:=h;cases q:ZO r with
  |none=>rw[q]at h;cases h
  |some c=>
   rw[q]at h;cases h;obtain⟨f,d⟩:=XB q;exact⟨by rw[aP,aP,f],by rw[bE,d];rfl⟩
 |none :: _,_,h=>by simp[ZO]at h
 |some e :: r,ks,h=>by
  cases e with
  |Constant v a b=>cases v with
   |str k=>
    have h:(ZO r).map (k :: ·)=aa ks:=h;cases q:ZO r with
    |none=>rw[q]at h;cases h
    |some c=>
     rw[q]at h;cases h;obtain⟨f,d⟩:=XB q;exact⟨by rw[aP,aP,f],by rw[bE,d];rfl⟩
   |_=>simp[ZO]at h
  |_=>simp[ZO]at h
variable{vals:Li aw}{keys:Li (Ot aw)}{ks:Li Str}
variable{pos:Pos}
section
variable{f:aw->Ot CE}
theorem ZbS(n:∀ e c,f e=aa c->PE X e (tE X.K (ev F c))):∀ {vals:Li aw}{keys:Li (Ot aw)}{ks:Li Str}{c:CE},ZO keys=aa ks->cVs f vals=aa c->ks.length=vals.length->
  UA c/\∃ i,PPs X pos keys vals i/\∀ O H (Q:Li (V×V)->Hp->Prop),tA X.K (ev F c) O H (λvs H'=>Q ((ks.zip vs).map λp=>(V.str p.1,p.2)) H')->tPairs i O H Q
 |[],keys,ks,c,g,j,l=>by
  cases j;cases ks with
  |cons _ _=>simp at l
  |nil=>
   have A:=(XB g).1;cases keys with
   |cons _ _=>simp at A
   |nil=>exact⟨trivial,[],pps_nil,λO H Q h=>Wp O H _ h⟩
 |v :: vals,keys,ks,c,g,j,l=>by
  cases ks with
  |nil=>simp at l
  |cons k ks=>
   have j:(match f v,cVs f vals with
    |some x,aa r=>aa (CE.aC x r)
    |_,_=>ab)=aa c:=j
   split at j
   .rename_i x r u w
    cases j;cases keys with
    |nil=>cases g
    |cons m keys=>
     cases m with
     |none=>simp[ZO]at g
     |some e=>
      cases e with
      |Constant C a b=>
       cases C with
       |str t=>
        have g:(ZO keys).map (t :: ·)=aa (k :: ks):=g;cases q:ZO keys with
        |none=>rw[q]at g;cases g
        |some s=>
         rw[q]at g;cases g;obtain⟨_,i,z,y⟩:=ZbS n q w (by simpa using l)
         refine⟨trivial,(tC (.str k),tE X.K (ev F x)) :: i,pps_cons pe_str (n v x u) z,λO H Q h=>?_⟩
         have h:=W2 O H _ h;obtain⟨ad,U,st,d,st',E,S,e,p⟩:=h;exact⟨ad,U,st,d,st',E,S,e,λv ad' H' o D B=>y O H' _ (p v ad' H' o D B)⟩
       |_=>simp[ZO]at g
      |_=>simp[ZO]at g
   .exact Zb j
def ZbP(L:∀ e c,f e=aa c->PE X e (tE X.K (ev F c))){c:CE}(x:ZO keys=aa ks)(M:cVs f vals=aa c)(I:keys.length=vals.length)(T:keys≠[])(u:keys.length<=15) :
  PE X (.Dict keys vals pos) (tE X.K (ev F (.dict ks c))):=by
 obtain⟨Z,C⟩:=XB x;obtain⟨N,B,R,P⟩:=ZbS (pos:=pos) L x M (by omega)
 refine Zl (pe_disp R C I T u) λO H Q h=>?_
 obtain⟨ad,U,st,d,st',E,S,e,p⟩:=h;have e:Zq (ev F c) (Zeh ks) U st=aa (d,st'):=e;unfold Zq at e;split at e
 .rename_i y m w
  obtain⟨ds,rfl,_⟩:=X5 N w;have e:(if ks.length=ds.length/\(ks.Nodup/\ks≠[])/\ks.length<=15 then aa (D.dct ks ds,m) else ab)=aa (d,st'):=e
  split at e
  .rename_i v
   cases e;intro a b t;refine P O _ _ ⟨ad,U,st,ds,_,E.mono (Ext.laid b),S.laid b,w,λvs g Y k W A=>?_⟩
   have j:Y a=aa (.dK []):=k.dk a [] upd_same;have n:∀ {l:Li (Key×V)} (kvs:Li (Li Key×V)),HO.dK l≠.dT kvs:=λ_ z=>nomatch z
   have s:ks.length=vs.length:=by rw[A.length];exact v.1
   have r:a∉g:=λz=>by
    rcases k.new a z with z|z
    .obtain⟨i,J⟩:=List.mem_iff_getElem?.mp z
     rcases S.has J with⟨o,q⟩|⟨o,q⟩
     .rw[b]at q;cases q
     .exact t o q
    .rw[upd_same]at z;cases z
   refine⟨j,(ks.zip vs).map λp=>((Sum.inr p.1:Key),p.2),by rw[bL];rfl,by rw[aB,List.length_zip];omega,?_⟩
   rw[W4 _ [] (λ_ _ q G=>nomatch G) (Wt v.2.1.1),cY]
   exact p _ g _ ((((Ext.laid b).trans k)).wrK n j b) (W.wrK n j r) (.dct upd_same rfl v.2.1 s (A.wrK n j))
  .exact Zb e
 .exact Zb e
end
variable [ClsTab]
def VS:a7 "tuple"=aa (.type "tuple"):=by decide +kernel
def QG:a7 "list"=aa (.type "list"):=by decide +kernel
def Zau:a7 "int"=aa (.type "int"):=by decide +kernel
def ZcG:a7 "bool"=aa (.type "bool"):=by decide +kernel
def Ze5:a7 "str"=aa (.type "str"):=by decide +kernel
def Ze4:a7 "min"=aa (.builtin "min"):=by decide +kernel
def Ze3:a7 "max"=aa (.builtin "max"):=by decide +kernel
def WN:a7 "isinstance"=aa (.builtin "isinstance"):=by decide +kernel
def JC:a7 "sorted"=aa (.builtin "sorted"):=by decide +kernel
def Ze2:a7 "len"=aa (.builtin "len"):=by decide +kernel
variable{as:Li aw}{cs:CE}{ap cp yp:Pos}{prog:a0}{ms:Li (Str×Nat×Nat)}{subs:Li Nat}{m:Str}{j:Nat}
variable{G:Gs}
section
def Zr(G:Gs)(F:Nat->Fn)(n:Nat):Prop:=∀ X sc N,Cxt X G F sc N->∀ e c,cE G n sc N e=aa c->SE X F e c
def Yp(G:Gs)(F:Nat->Fn)(n:Nat):Prop:=∀ X sc N,Cxt X G F sc N->∀ es c,cEs G n sc N es=aa c->PA X es (tA X.K (ev F c))/\UA c/\es.all Zg=ac/\(es=[]->c=.aN)
def Vg(G:Gs)(F:Nat->Fn)(n:Nat):Prop:=∀ X sc N,Cxt X G F sc N->∀ e c,cO G n sc N e=aa c->PO X e (tO X.K (ev F c))
def Zb1{v:Const}{k:Nat}{c:CE}(h:CE.ofConst v=aa c):SE X F (.Constant v k pos) c:=by
 cases v with
 |none=>cases h;exact .of (Zl pe_non (V8 λ_ _=>.non))
 |bool b=>cases h;exact .of (Zl pe_bl (V8 λ_ _=>.bl b))
 |int i=>cases h;exact .of (Zl pe_int (V8 λ_ _=>.int i))
 |str x=>cases h;exact .of (Zl pe_str (V8 λ_ _=>.str x))
 |_=>exact Zb h
def ZdK{x:Str}{c:CE}(K:Cxt X G F sc N)(h:Zby G sc N x=aa c):SE X F (.Name x pos) c:=by
 unfold Zby at h;split at h
 .rename_i a
  cases q:N.idxOf? x with
  |none=>rw[q]at h;cases h
  |some i=>
   rw[q]at h;cases h;obtain⟨j,g⟩:=Vu a;exact .of (Zl (pe_var (i:=i) (by rw[K.hN];exact Xl q) (K.vis x a) j g) Zdd)
 .split at h
  .rename_i b
   split at h
   .rename_i d q
    cases h;obtain⟨v,u,e,r,f⟩:=K.gl x _ q;exact .of (Zl (pe_glob (K.glb x b) e r (YW b)) (V8 f))
   .exact Zb h
  .exact Zb h
def pa1{a:aw}{t:TE}(b:Zg a=ac)(c:PE X a t):PA X [a] (tCons t tNil):=pa_cons c pa_nil (Zd b)
def pa2{a b:aw}{t u:TE}(d:Zg a=ac)(c:Zg b=ac)(f:PE X a t)(e:PE X b u):PA X [a,b] (tCons t (tCons u tNil)):=pa_cons f (pa1 c e) (Zd d)
def ZdC{f:Str}{a:aw}{x c:CE}{p:Pos}(K:Cxt X G F sc N)(i:ZH sc f=ac)(d:X.mg f=ab)(b:Zg a=ac)(A:PE X a (tE X.K (ev F x)))(h:Ze0 f x=aa c) :
  PE X (.Call (.Name f p) [a] [] pos) (tE X.K (ev F c)):=by 
 have g:=K.glb f i;unfold Ze0 at h;split at h
 .rename_i e;subst e;cases h
  exact Zl (pe_callB JE g d Ze2 (pa1 b A) (by decide) (by decide) (Zd b) rfl) YX
 .split at h
  .rename_i e;subst e;cases h
   exact Zl (pe_callTy VT g d VS (pa1 b A) (by decide) (by decide) (Zd b) rfl) YX
  .split at h
   .rename_i e;subst e;cases h
    exact Zl (pe_callTy UP g d QG (pa1 b A) (by decide) (by decide) (Zd b) rfl) YX
   .split at h
    .rename_i e;subst e;cases h
     exact Zl (pe_callTy JD g d Zau (pa1 b A) (by decide) (by decide) (Zd b) rfl) YX
    .split at h
     .rename_i e;subst e;cases h
      exact Zl (pe_callB (UO K.calm) g d JC (pa1 b A) (by decide) (by decide) (Zd b) rfl) YX
     .exact Zb h
def Zaj{b:aw}(a:Zg b=ac):(backTo pos (a6 [b] X.env)).any (·.1)=ae:=Yw (by rw[bE,a];rfl)
def ZdD{f:Str}{a b:aw}{x y c:CE}{p:Pos}(K:Cxt X G F sc N)(k:ZH sc f=ac)(i:X.mg f=ab)(g:Zg a=ac)(d:Zg b=ac)(A:PE X a (tE X.K (ev F x)))(B:PE X b (tE X.K (ev F y)))(h:Ze1 f x y=aa c):PE X (.Call (.Name f p) [a,b] [] pos) (tE X.K (ev F c)):=by
 have j:=K.glb f k;unfold Ze1 at h;split at h
 .rename_i e;subst e;cases h
  exact Zl (pe_callB (JG K.calm) j i Ze4 (pa2 g d A B) (by decide) (by decide) (Zd g) (Zaj d)) V7
 .split at h
  .rename_i e;subst e;cases h
   exact Zl (pe_callB (JF K.calm) j i Ze3 (pa2 g d A B) (by decide) (by decide) (Zd g) (Zaj d)) V7
  .exact Zb h
def Zc2{K:Fg}{T:Ty}(O:L2.St)(H:Hp)(Q:VK)(h:tE K (Zq fa (Zbh T)) O H Q) :
  tCB (λvs H Q=>∃ v,vs=[v,.ty (tyN T)]/\rC K (on1 (Zbh T)) [v] H Q) (tCons (tE K fa) (tCons (tC (.ty (tyN T))) tNil)) O H Q:=by
 obtain⟨ad,U,st,d,st',E,S,e,p⟩:=h;unfold Zq at e;split at e
 .rename_i x a g
  exact⟨ad,U,st,x,a,E,S,g,λf b k c j i=>⟨f,rfl,b,a,[x],d,st',j,.cons i .nil,e,p.later c⟩⟩
 .exact Zb e
def Zcf{b:aw}{T:Ty}(K:Cxt X G F sc N)(h:Jq G sc b=aa T):Zg b=ac/\PE X b (tC (.ty (tyN T))):=by
 cases b with
 |Name t p=>
  have a:Zgk G sc t=aa T:=h;clear h;unfold Zgk at a;split at a
  .rename_i f
   rw[Ba]at f;have c:X.mg t=ab:=by
    have z:=f.2;unfold QV at z;split at z
    .rename_i q;exact K.gl t _ q
    .cases z
   have d:=K.glb t f.1;refine⟨rfl,?_⟩;unfold ZhR at a;split at a
   .rename_i e;subst e;cases a
    exact pe_bltn d c Zau rfl
   .split at a
    .rename_i e;subst e;cases a
     exact pe_bltn d c ZcG rfl
    .split at a
     .rename_i e;subst e;cases a
      exact pe_bltn d c Ze5 rfl
     .split at a
      .rename_i e;subst e;cases a
       exact pe_bltn d c VS rfl
      .exact Zb a
  .exact Zb a
 |_=>simp[Jq]at h
def Zf1{a b:aw}{x:CE}{T:Ty}{p:Pos}(K:Cxt X G F sc N)(f:ZH sc "isinstance"=ac)(e:X.mg "isinstance"=ab)(d:Zg a=ac)(A:PE X a (tE X.K (ev F x)))(g:Jq G sc b=aa T) :
  PE X (.Call (.Name "isinstance" p) [a,b] [] pos) (tE X.K (ev F (.isi T x))):=by
 obtain⟨c,B⟩:=Zcf K g;exact Zl (pe_callB (Zay (T:=T)) (K.glb _ f) e WN (pa2 d c A B) (by decide) (by decide) (Zd d) (Zaj c)) Zc2
def ZdF{f:Str}{a:Nat}{p:Pos}(K:Cxt X G F sc N)(c:ZH sc f=ac)(t:G.lookup f=aa (.fn i a ds))(x:as.length<=a/\a<=as.length+ds.length)(A:PA X as (tA X.K (ev F cs))/\UA cs/\as.all Zg=ac/\(as=[]->cs=.aN)):PE X (.Call (.Name f p) as [] pos) (tE X.K (ev F (.call i cs (ds.drop (as.length+ds.length - a))))):=by
 obtain⟨k,fa,fd,w,q,l,m,n,s⟩:=K.gl f _ t;obtain⟨u,v,o,j,b⟩:=s (as.length+ds.length - a) (by omega)
 obtain⟨g,_,d,r⟩:=A;cases as with
 |nil=>
  refine Zl (pe_call0 (E:=E0) q l (K.glb f c) m n b j pass0 (YW c)) λO H Q h=>?_
  rw[r rfl]at h;exact Wp O H _ (V9 (E:=E0) o O H Q h)
 |cons e es=>
  rw[bE,Ba]at d;exact Zl (pe_call (E:=E0) q l (K.glb f c) m n b j pass0 g (YW c) (Zd d.1) (Yw d.2)) (V9 o)
def Vm{nm:Str}{b:aw}(K:Cxt X G F sc N)(h:fnA G sc nm b=aa as):∃ p pos,b=.Call (.Name nm p) as [] pos/\Gl X nm/\X.mg nm=ab:=by
 obtain⟨q,a,g⟩:=dB.mp h;refine Xb g λe f=>?_
 obtain⟨rfl,d,c⟩:=e;cases f;unfold Zee at a;split at a
 .cases a
  refine⟨_,_,rfl,K.glb _ d,?_⟩;unfold QV at c;split at c
  .rename_i q;exact K.gl _ _ q
  .cases c
 .cases a
def Q9{a:aw}(h:Zfz as=aa a):as=[a]:=by
 cases as with
 |nil=>exact Zb h
 |cons x as=>cases as with
  |nil=>cases h;rfl
  |cons _ _=>exact Zb h
def WR{b:aw}(K:Cxt X G F sc N)(h:ZS G sc b=aa e):∃ p pos,b=.Call (.Name "range" p) [e] [] pos/\Gl X "range"/\X.mg "range"=ab:=by
 obtain⟨as,a,c⟩:=dB.mp h;rw[Q9 c]at a;exact Vm K a
def ZfZ{a b:aw}{x y:CE}{c:Bool}(K:Cxt X G F sc N)(g:ZS G sc b=aa e)(d:Zfg op=aa c)(f:Zg e=ac)(A:PE X a (tE X.K (ev F x)))(B:PE X e (tE X.K (ev F y))):SE X F (.Compare a [op] [b] pos) (.inR c x y):=by cases d
def Zf5{f:Str}{a:aw}{o:Ot CE}{c:CE}{p:Pos}(K:Cxt X G F sc N)(g:ZH sc f=ac)(d:X.mg f=ab)(b:Qr G sc f a=aa e)(B:∀ c,o=aa c->Zg e=ac/\PE X e (tE X.K (ev F c)))(h:o.map CE.tupR=aa c):SE X F (.Call (.Name f p) [a] [] pos) c:=by cases b
def rLk(K:Fg)(A:Ad)(ks:Li Str)(ds:Li D):R2:=λx y H Q=>x=.ref A/\∃ k d,y=.str k/\Z4 ks ds k=aa d/\∀ v,(∀ ad H,Den K ad H v d)->Q v H
def ZgZ{A:Ad}{o:Obj}{es:Array DictEntry}{f:Nat}(lk:X.K.lookup A=aa o)(ex:o.ExactDict)(hd:o.data=.dict es f)(t:(A==bm)=ae)(nd:ks.Nodup)(p:EsOk X.w.params X.K es.toList ks ds):IxR X (rLk X.K A ks ds):=by
 intro a slice pQ s O H x y v u Q I i g h n;obtain⟨rfl,k,d,rfl,c,q⟩:=h;cases i;obtain⟨kvs,pr,j,l,val⟩:=p.open (P:=X.prog);have dd:s.heap.DictOf (mixKind X.prog X.w) A kvs:=by
  refine⟨o,es,f,I.kIn A o lk,ex,hd,λe c=>l e (by simpa using c),pr,?_⟩
  rw[j];exact List.pairwise_map.mpr (nd.imp λh z=>h (Sum.inr.inj z))
 obtain⟨w,z,m,b,r⟩:=val k d c;exact tail_any dd.typeIs PySem.F.slot_dict_getitem.lookup (wpAny_getItem_of (kV_is (k:=Sum.inr k) g) dd.mapOf m ⟨z,H,I.tok _,b,q z r⟩) n
def Za5{K:Fg}{A:Ad}(O:L2.St)(H:Hp)(Q:VK)(h:tE K (Zq fa (Zbp ks ds)) O H Q):tOp (rLk K A ks ds) (tC (.ref A)) (tE K fa) O H Q:=by
 obtain⟨ad,U,st,d,st',E,S,e,p⟩:=h;unfold Zq at e;split at e
 .rename_i x f g
  unfold Zbp at e;split at e
  .rename_i k
   split at e
   .rename_i n i
    cases e;exact⟨ad,U,st,.str k,_,E,S,g,λv a b c m l=>⟨rfl,k,d,l.ofStr,i,λw j=>p w a b c m (j a b)⟩⟩
   .exact Zb e
  .exact Zb e
 .exact Zb e
def Qh{d:aw}{l f:TE}{p:Pos}{s:Sd}{n:vL->Sd->Prop}(E:Gl X "range")(D:X.mg "range"=ab)(m:Zg e=ac)(g:Zg d=ac)(F:PE X e l)(k:PE X d f)(I:L2.Inv X pQ O H s)(h:tCons l (tCons f tNil) O H λvs x=>∃ a b:Int,vs=[.int a,.int b]/\∀ i r t u v,L2.Inv X pQ O x i->IsRange i.heap r a b 1 t u v->n (.ref r) i):ay (az X.prog X.w) X.A (eval (.Call (.Name "range" p) [e,d] [] pos) X.env) n X.xe s:=by
 have c:a6 [d] X.env=[(ae,eval d X.env)]:=Zd g;have C:a6 [e,d] X.env=[(ae,eval e X.env),(ae,eval d X.env)]:=by rw[Zd m,c]
 refine Call_ (ld_blt I E D boot_range (PyProof.Rows.callWith_type1 (thn (pa2 m g F k pos pQ s O H _ I h) λJ s1 ⟨vs,x,G,y,B⟩=>?_) (by rw[C,c]) (by rw[c];rfl)))
 obtain⟨a,b,rfl,q⟩:=B;cases y with
 |cons r j=>
  cases j with
  |cons z j=>
   cases j;obtain⟨t,rfl⟩:=r;obtain⟨t',rfl⟩:=z;exact call_range_2 (q _ _ _ _ _ (G.kept (t':=_) λb o e=>aL _ e) (IsRange.new ..))
def U6{i h:Ev}(e:ZY i h Zbr U st=aa (d,st')):∃ a b g f,i U st=aa (.int a,g)/\h U g=aa (.int b,f)/\(XF a b 1=ac/\b - a<=1000)/\d=.lst f.length/\st'=f++[(ac,(Y1 a b 1).map .int)]:=by
 unfold ZY at e;split at e
 .rename_i dx g k
  split at e
  .rename_i dy f j
   unfold Zbr at e;split at e
   .split at e
    .rename_i c
     cases e;exact⟨_,_,_,_,k,j,c,rfl,rfl⟩
    .exact Zb e
   .exact Zb e
  .exact Zb e
 .exact Zb e
def Qe{a b:Int}(h:XF a b 1=ac):Builtin.Range.rangeSize a b 1=((Yr a b 1:Nat):Int)/\Builtin.Range.small a b 1=ac/\((Yr a b 1:Nat):Int)=if a < b then b - a else 0:=by
 have h:=al h;obtain⟨⟨g,f⟩,⟨e,d⟩,c⟩:=h;unfold Yr Builtin.Range.small Builtin.Range.rangeSize;simp only[Builtin.Range.rangeFitsLong,Ba,dJ,dI,beq_iff_eq,gt_iff_lt,Int.neg_neg,Int.ediv_one];refine⟨?_,?_,?_⟩
 .split
  .split<;>omega
  .split<;>omega
 .refine⟨⟨by omega,?_⟩,.inr ?_⟩
  .constructor
   .repeat' split
    all_goals omega
   .repeat' split
    all_goals omega
  .simp
   omega
 .split
  .split<;>omega
  .omega
theorem X0{a:Int}:∀ {m k:Nat}{b:Li vL},b.length=m->(∀ (i:Nat) v,b[i]?=aa v->∃ t,v=.int (a+((k+i:Nat):Int) * 1) t)->Vals ((List.range' k m).map λ(k:Nat)=>V.int (a+(k:Int) * 1)) b
 |0,k,b,c,h=>by
  cases b with
  |nil=>exact .nil
  |cons _ _=>cases c
 |m+1,k,b,c,h=>by
  cases b with
  |nil=>cases c
  |cons u b=>
   obtain⟨t,rfl⟩:=h 0 u rfl;refine .cons ⟨t,rfl⟩ (X0 (k:=k+1) (Nat.succ.inj c) λi v e=>?_)
   obtain⟨t,q⟩:=h (i+1) v e;exact⟨t,by rw[q,show k+1+i=k+(i+1) by omega]⟩
theorem XZ{K:Fg}{ad:Li Ad}{H:Hp}{a:Int}:∀ l:Li Nat,Dens K ad H (l.map λ(k:Nat)=>V.int (a+(k:Int) * 1)) ((l.map λ(k:Nat)=>a+(k:Int) * 1).map D.int)
 |[]=>.nil
 |k :: l=>.cons (.int _) (XZ l)
def Zd2{p:aw×aw}(h:ZhQ as=aa p):as=[p.1,p.2]:=by
 cases as with
 |nil=>exact Zb h
 |cons x as=>cases as with
  |nil=>exact Zb h
  |cons y as=>cases as with
   |nil=>cases h;rfl
   |cons _ _=>exact Zb h
def ZdI{f:Str}{a u v:aw}{x y:CE}{p:Pos}(K:Cxt X G F sc N)(hg:ZH sc f=ac)(hm:X.mg f=ab)(o:Vv G sc f a=aa (u,v))(hu:Zg u=ac)(D:Zg v=ac)(A:PE X u (tE X.K (ev F x)))(B:PE X v (tE X.K (ev F y))):PE X (.Call (.Name f p) [a] [] pos) (tE X.K (ev F (.lstR x y))):=by
 unfold Vv at o;split at o
 .rename_i m
  subst m;obtain⟨as,h1,h2⟩:=dB.mp o;obtain⟨T,c,rfl,J,E⟩:=Vm K h1;cases Zd2 h2
  .intro pQ s O H Q I h
   obtain⟨ad,U,st,d,st',En,S,e1,pq⟩:=h;obtain⟨a,b,j,q,q1,q2,Y,rfl,rfl⟩:=U6 e1;obtain⟨z1,z2,z3⟩:=Qe Y.1;have W:a6 [.Call (.Name "range" T) [u,v] [] c] X.env=[(ae,eval (.Call (.Name "range" T) [u,v] [] c) X.env)]:=Zd rfl;refine Call_ (ld_blt I (K.glb _ hg) hm QG (PyProof.Rows.callWith_type1 ?_ W rfl));rw[W];refine Calls.spliced_cons (Qh J E hu D A B I ⟨ad,U,st,_,j,En,S,q1,λv1 M H1 R S1 d1=>⟨M,U,j,_,q,En.mono R,S1,q2,λv2 L H2 x2 Z d2=>⟨a,b,by rw[d1.ofInt,d2.ofInt],λC r t u w P hr=>?_⟩⟩⟩)
   refine Calls.spliced_nil ?_;have hz:Yr a b 1<=1000:=by
    have:=Y.2;split at z3<;>omega
   refine call_list_range (n:=Yr a b 1) (P.ok.hd K.calm) hr z2 z1 (by omega) λh' tk l c' hk hS g=>?_
   have D:Vals ((ag (Yr a b 1)).map λ(k:Nat)=>V.int (a+(k:Int) * 1)) l.toList:=by
    rw[dM];refine X0 (by rw[cJ,g.1]) λi v e=>?_
    obtain⟨t,z⟩:=g.2 i v (by rw[<-e];simp)
    exact⟨t,by rw[z];simp⟩
   have m:=P.hok.fresh (aD _);refine⟨.ref C.heap.objs.size,upd H2 C.heap.objs.size (.lst ((ag (Yr a b 1)).map λ(k:Nat)=>V.int (a+(k:Int) * 1))),P.laid (t':=tk) hk (aD _) (show ObjOk X.prog X.w _ _ _ (.lst _) from⟨?_,l.toList,c',D,?_⟩),rfl,pq _ (L++[C.heap.objs.size]) _ ((R.trans x2).trans (Ext.push m)) (Z.push m (XZ _)) (.newL ?_)⟩
   .rw[aB,bK,sizeLine_eq];omega
   .rw[Array.toArray_toList]
    exact hS
   .rw[<-Z.len]
    exact Zu
 .exact Zb o
def ZdH{a b:aw}{y:CE}(K:Cxt X G F sc N)(c:QZ G sc a=aa (ks,ds))(g:Zg b=ac)(B:PE X b (tE X.K (ev F y))):PE X (.Subscript a b pos) (tE X.K (ev F (.look ks ds y))):=by
 unfold QZ at c;split at c
 .split at c
  .rename_i d
   split at c
   .rename_i q
    cases c;obtain⟨A,o,es,k,h,lk,ex,i,f,e,j⟩:=K.gl _ _ q;exact Zl (pe_ix (ZgZ lk ex i f e j) (pe_glob (K.glb _ d) h (show RelV (.ref A) (.ref A) from rfl) (YW d)) B (Uf g)) Za5
   .exact Zb c
  .exact Zb c
 .exact Zb c
def Zhw:V->Li V->Hp->VK->Prop:=λx vs H Q=>∃ p kvs k a,x=.ref p/\vs=[kV k,a]/\H p=aa (.dK kvs)/\Q ((valV kvs k).getD a) H
def Zft:MtM X "dict.get" Zhw:=by
 intro pQ s O H x vs v r Q I g rv h;obtain⟨p,kvs,k,n,rfl,rfl,l,q⟩:=h;cases g;obtain⟨t,f,rfl,j,i⟩:=rv.two;obtain⟨o,m,e,d,dd⟩:=dk_of I.hok l;refine call_meetsIn PySem.F.slot_dict_get dd.typeIs PySem.F.entry_dict_get (PySem.F.args_dict_get_3 _ _ _) (meets_dict_get_default (mixKind X.prog X.w) p (kV_is j) m f) ⟨_,dd.mapOf,?_⟩;have a:=d.val k;cases b:valV kvs k with
 |none=>
  cases c:valueAt e k with
  |none=>rw[b]at q;exact⟨n,H,I.tok _,i,q⟩
  |some w=>rw[b,c]at a;exact a.elim
 |some z=>
  cases c:valueAt e k with
  |none=>rw[b,c]at a;exact a.elim
  |some w=>rw[b]at q;rw[b,c]at a;exact⟨z,H,I.tok _,a,q⟩
def ZaV{t fd:Ev}(O:L2.St)(H:Hp)(Q:VK)(h:tE X.K (Yk fa t fd getD) O H Q):tBM X.K "dict" Zhw (tE X.K fa) (tCons (tE X.K t) (tCons (tE X.K fd) tNil)) O H Q:=by
 obtain⟨ad,U,st,d,st',E,S,e,p⟩:=h;unfold Yk at e;split at e
 .rename_i x c J
  split at e
  .rename_i y b I
   split at e
   .rename_i z D G
    unfold getD at e;split at e
    .rename_i ks vs k
     cases e;refine⟨ad,U,st,_,c,E,S,J,λv1 s H1 j W v=>?_⟩
     obtain⟨a,Y,rfl,L,hl,F⟩:=v.ofDct;refine⟨.inr (.inr (.inl ⟨rfl,.inl ⟨_,L⟩⟩)),s,U,c,_,b,E.mono j,W,I,λZ r H2 i V T=>⟨r,U,b,_,_,E.mono (j.trans i),V,G,λC f A g w R=>?_⟩⟩
     obtain⟨a',B,N,n,m,l⟩:=(v.mono (i.trans g)).ofDct;cases N;have M:=(T.mono g).ofStr;refine⟨a,_,Sum.inr k,C,rfl,by rw[M];rfl,n,?_⟩
     rcases XC (k:=k) l m with⟨u,d0,q,o,P⟩|⟨q,o⟩
     .rw[q]
      rw[o]at p;exact p _ f A (j.trans (i.trans g)) w P
     .rw[q]
      rw[o]at p;exact p _ f A (j.trans (i.trans g)) w R
    .exact Zb e
   .exact Zb e
  .exact Zb e
 .exact Zb e
def ZdG{ks:Li (Ot aw)}{vs:Li aw}{a b:aw}{x y z:CE}{f:Pos}(K:Cxt X G F sc N)(c:(ap.endLine==cp.line)=ac)(e:Zg a=ac)(d:Zg b=ac)(D:PE X (.Dict ks vs f) (tE X.K (ev F x)))(A:PE X a (tE X.K (ev F y)))(B:PE X b (tE X.K (ev F z))) :
  PE X (.Call (.Attribute (.Dict ks vs f) "get" ap) [a,b] [] cp) (tE X.K (ev F (.dget x y z))):=by
 refine Zl (pe_bm PySem.F.plainAttrs_dict PySem.F.slot_dict_get PySem.F.type_dict_get Zft D (pa2 e d A B) rfl ?_ c (Zd e) (Zaj d)) ZaV;rw[Zd e,Zd d];rfl
def ZfY{u:Str}{a b:aw}{x y z:CE}{up:Pos}(K:Cxt X G F sc N)(c:(ap.endLine==cp.line)=ac)(e:Zg a=ac)(d:Zg b=ac)(D:PE X (.Name u up) (tE X.K (ev F x)))(A:PE X a (tE X.K (ev F y)))(B:PE X b (tE X.K (ev F z))) :
  PE X (.Call (.Attribute (.Name u up) "get" ap) [a,b] [] cp) (tE X.K (ev F (.dgN x y z))):=by
 refine Zl (pe_bm PySem.F.plainAttrs_dict PySem.F.slot_dict_get PySem.F.type_dict_get (Q6 (by have:=K.hu;omega)) D (pa2 e d A B) rfl ?_ c (Zd e) (Zaj d)) Zc1
 rw[Zd e,Zd d];rfl
def ZfX{u:Str}{a:aw}{x y:CE}{up:Pos}(K:Cxt X G F sc N)(b:(ap.endLine==cp.line)=ac)(d:Zg a=ac)(D:PE X (.Name u up) (tE X.K (ev F x)))(A:PE X a (tE X.K (ev F y))) :
  PE X (.Call (.Attribute (.Name u up) "get" ap) [a] [] cp) (tE X.K (ev F (.dgN x y (.c .non)))):=
 Zl (pe_bm PySem.F.plainAttrs_dict PySem.F.slot_dict_get PySem.F.type_dict_get (Q6 (by have:=K.hu;omega)) D (pa1 d A) rfl (by rw[Zd d];rfl) b (Zd d) rfl) Zc0
def ZhB{p:aw×aw}{x y z:CE}(K:Cxt X G F sc N)(d:∀ e c,cE G n sc N e=aa c->PE X e (tE X.K (ev F c)))(a:Jb keys=aa p)(h:cE G n sc N p.1=aa x)(g:cE G n sc N p.2=aa y)(f:(Zdr vals).bind (cE G n sc N)=aa z)(j:Zg p.1=ac)(i:Zg p.2=ac) :
  PE X (.Dict keys vals pos) (tE X.K (ev F (.dd x y z))):=by
 obtain⟨e,b,k⟩:=dB.mp f;obtain rfl:vals=[e]:=by
  unfold Zdr at b;split at b
  .cases b;rfl
  .exact Zb b
 unfold Jb at a;split at a
 .unfold W6 at a
  split at a
  .obtain rfl:=au a
   exact Zl (Zhb (by have:=K.hu;omega) (pe_tup (pa2 j i (d _ x h) (d _ y g))) (d e z k)) Zfe
  .exact Zb a
 .exact Zb a
def Zbu{K:Fg}{C:Ad}{s:Sd}{R:Result->Sd->Prop}(X:K.In s.heap)(k:W.makesIn K C=ac)(l:W.findIn K (.ref C) "__init__"=aa (aa (.builtin "object.__init__")))(h:R (.ok (.ret (.ref (s.heap.objs.size+1)))) { s with heap:=(s.heap.push W.emptyDict).push (W.instObj C s.heap.objs.size) }):codeAny (az prog w) A (.call (.ref C) ⟨[],[]⟩) R s:=by
 obtain⟨a,g,d,t,m⟩:=s;have Y:=W.makes_of (M:=az prog w) X k;have j:((a.push W.emptyDict).push (W.instObj C a.objs.size)).get? (a.objs.size+1)=aa (W.instObj C a.objs.size):=by
  have:=aW (a.push W.emptyDict) (o:=W.instObj C a.objs.size) rfl
  rwa [Heap.size_push]at this
 refine W.make_core Y (W.looks_findIn X l) (λc=>W.Looks.of_pure (W.oi_bind c)) (.inr ⟨rfl,rfl⟩) ?_
 have i:W.Looks (az prog w) ((a.push W.emptyDict).push (W.instObj C a.objs.size)) (typeOf (.ref (a.objs.size+1))) (.ref C):=(W.Looks.ld j).andThen .now;have f:W.Looks (az prog w) ((a.push W.emptyDict).push (W.instObj C a.objs.size)) (isInstance (.ref (a.objs.size+1)) (.type "object")) ac:=i.andThen (Y.top.keeps λb o e=>aL _ (aL _ e))
 refine codeAny_call_builtin W.oi_plain W.entry_oi (@W.check_slot (az prog w) _ _ _ "object.__init__" "object" "__init__" (.ref (a.objs.size+1)) [] [] _ W.oi_kind W.oi_split f (W.oi_args (.ref (a.objs.size+1))) ?_);rw[W.oi_run];exact aE (And.intro rfl h)
def ZaO{s:Sd}(I:L2.Inv X pQ O H s)(S:StOk X.K ad H st){a:Ad}(h:s.heap.objs.size<=a):a∉ad:=λb=>by
 obtain⟨i,c⟩:=List.getElem?_of_mem b;rcases S.has c with⟨o,q⟩|⟨o,q⟩
 .rw[I.hok.fresh h]at q;cases q
 .exact aq (aJ (I.kIn a o q)) (Nat.not_lt.mpr h)
def Zf2{f:Str}{p:Pos}(K:Cxt X G F sc N)(b:ZH sc f=ac)(k:G.lookup f=aa (.cls i ms subs)):PE X (.Call (.Name f p) [] [] pos) (tE X.K (ev F (.new i))):=by
 obtain⟨j,a,_,_⟩:=K.gl f _ k;intro pQ s O H Q I h;obtain⟨ad,U,st,d,st',E,S,e,q⟩:=h;have e:aa (D.obj i,st)=aa (d,st'):=e;cases e;refine wpAny_Call_Name_kw (ld_glob I (K.glb f b) j ?_ (YW b));refine W.callWith_K0 I.kIn a.kp (wpAny_call (Zbu I.kIn a.makes a.init ?_));have g:H s.heap.objs.size=ab:=I.hok.fresh (aD _);have c:upd H s.heap.objs.size (.own (s.heap.objs.size+1)) (s.heap.objs.size+1)=ab:=by
  rw[upd_ne (Nat.ne_of_gt (dW _))];exact I.hok.fresh (Nat.le_succ _)
 exact⟨.ref (s.heap.objs.size+1),_,I.made,rfl,q _ ad _ ((Ext.laid g).trans (Ext.laid c)) ((S.laid g).laid c) (.obj upd_same (ZaO I S (Nat.le_succ _)))⟩
def Zf0{a b:aw}{x:CE}{l:Li Nat}{p:Pos}(K:Cxt X G F sc N)(f:ZH sc "isinstance"=ac)(e:X.mg "isinstance"=ab)(d:Zg a=ac)(A:PE X a (tE X.K (ev F x)))(c:UQ G sc b=aa l) :
  PE X (.Call (.Name "isinstance" p) [a,b] [] pos) (tE X.K (ev F (.isc l x))):=by cases c
def Zg4{α:Type}:∀ {us:Li α},us.length=1->∃ a,us=[a]
 |[a],_=>⟨a,rfl⟩
def W1(h:as.all Zg=ac)(d:as.length < 20):((backTo pos (a6 as env)).all (λx=>!x.1)&&(backToKw pos (keywordEach [] env)).all (λx=>x.1.isSome)
  &&aj (as.length+([]:Li Keyword).length+(if ([]:Li Keyword).isEmpty then 0 else 1) < 30))=ac:=by
 have a:=Yw (pos:=pos) (env:=env) h;have b:(backTo pos (a6 as env)).all (λx=>!x.1)=ac:=by
  rw[cT];intro x c;have:=List.any_eq_false.mp a x c;simpa using this
 rw[b,aK (show as.length+([]:Li Keyword).length+(if ([]:Li Keyword).isEmpty then 0 else 1) < 30 by simp;omega)]
 rfl
def Zdp{o:aw}{a:Str}{b:Pos}{args:Li aw}{Q:vL->Sd->Prop}{s:Sd}(i:attributeBase o a X.env (eval o X.env)=eval o X.env)(m:((backTo pos (a6 args X.env)).all (λx=>!x.1)&&(backToKw pos (keywordEach [] X.env)).all (λx=>x.1.isSome)&&aj (args.length+([]:Li Keyword).length+(if ([]:Li Keyword).isEmpty then 0 else 1) < 30))=ac)(f:(b.endLine==pos.line)=ac)(h:ay (az X.prog X.w) X.A (eval o X.env) (λp d=>∀ q,ay (az X.prog X.w) X.A (getMethod p a q) (λn c=>ay (az X.prog X.w) X.A (callWith pos n.1 n.2 (backTo pos (a6 args X.env)) (backToKw pos (keywordEach [] X.env))) Q X.xe c) X.xe d) X.xe s) :
  ay (az X.prog X.w) X.A (eval (.Call (.Attribute o a b) args [] pos) X.env) Q X.xe s:=by
 rw[arm_eval_Call,i];refine aA (bG h (λp d k=>?_) λ_ _ e=>e)
 refine aA (wpAny_standAt ?_);have g:methodCallForm (args.length+([]:Li Keyword).length) (backTo pos (a6 args X.env)) (backToKw pos (keywordEach [] X.env))=ac:=m;have l:methodCallPos ac o X.env b pos=pure pos:=by unfold methodCallPos;simp[f]
 unfold methodCall;rw[g];refine aA (wpAny_holding ?_);exact bG (k _) (λn c j=>aA (wpAny_of_eq l j)) λ_ _ e=>e
def Zgi{k:Nat}(h:(Y7 m k G).lookup i=aa j):∃ x ms subs,G.lookup x=aa (.cls i ms subs)/\ms.lookup m=aa (j,k+1):=by
 have g:(i,j)∈Y7 m k G:=by
  generalize Y7 m k G=l at h
  induction l with
  |nil=>exact Zb h
  |cons p l f=>
   obtain⟨a,b⟩:=p;rw[cB]at h;split at h
   .rename_i z
    cases h;rw[beq_iff_eq.mp z];exact Ls
   .exact Lm _ (f h)
 obtain⟨x,_,c⟩:=List.mem_filterMap.mp g;unfold Zeq at c;split at c
 .rename_i r ms subs q
  split at c
  .rename_i o n d
   split at c
   .rename_i e
    subst e;cases c;exact⟨x,ms,subs,q,d⟩
   .exact Zb c
  .exact Zb c
 .exact Zb c
section
open PySem.SeqAt PySem.MeetsSeq PySem.MeetsSeq2 PySem.MeetsSeq3 PySem.SeqRoads2
theorem V6{prog:a0}{w:bh}{A:bo}{E:vL->Sd->Prop}{s:Sd}{a:Array vL}{x:vL}{e:vL->Bool}{j:Nat}(h:j < a.size)(hit:e a[j]=ac)(c:∀ m (o:m < a.size),m < j->e a[m]=ae)(f:∀ y,y∈a->EqAt A s y x (e y)):∀ (k i:Nat) (Q:Ot Fin×Unit->Sd->Prop),i<=j->i+k=a.size->Q (aa (.done (.ret (.int j s.toks))),()) { s with toks:=s.toks+1 }->
  ay (az prog w) A (forIn (List.range' i k) ((ab,()):Ot Fin×Unit) λ(i:Nat) __s=>
      match a[i]? with
      |some y=>do
       let __do_lift <-eqBool y x
       if __do_lift=ac then do
         let __do_lift <-retInt (i:Int)
         pure (ForInStep.done (aa __do_lift,()))
        else pure (ForInStep.yield (ab,()))
      |x=>pure (ForInStep.yield (ab,()))) Q E s
 |0,i,Q,n,l,_=>by omega
 |k+1,i,Q,n,l,g=>by
  have b:i < a.size:=by omega
  rw[dN,cZ];refine aA ?_;rw[eJ b];refine aA (f _ (Array.getElem_mem b) prog w _ _ ?_);by_cases d:i=j
  .subst d
   rw[hit]
   wp_walk
   exact g
  .rw[c i b (by omega)]
   wp_walk
   exact V6 h hit c f k (i+1) Q (by omega) (by omega) g
def WS(l:Ad)(a:Array vL)(n:Nat)(o:Obj)(x:vL)(e:vL->Bool)(j:Nat)(i:j < a.size)(hit:e a[j]=ac)(b:∀ m (u:m < a.size),m < j->e a[m]=ae)(hd:o.data=.seq a n) :
  Meets (Builtin.«tuple.index» ⟨[.ref l,x],[]⟩)
   (λA R s=>s.heap.get? l=aa o/\(∀ y,y∈a->EqAt A.in1 s y x (e y))/\R (.ok (.ret (.int j s.toks))) { s with toks:=s.toks+1 }):=by
 refine .of_wp λprog w A R s h=>?_
 obtain⟨t,g,d,p,q⟩:=s;obtain⟨f,k,h⟩:=h;obtain⟨oc,r,v,c⟩:=o;cases hd;unfold Builtin.«tuple.index»
 simp only[Std.Legacy.Range.forIn_eq_forIn_range',Std.Legacy.Range.size,Nat.sub_zero,Nat.add_sub_cancel,Nat.div_one]
 wp_walk using wpAny_loadPart' f
 refine V6 i hit b k (min a.size a.size - 0) 0 _ (aO _) (by simp) ?_
 exact aE ⟨_,rfl,h⟩
end
def ZaQ{k:Str}{tk:Tok}{i:Nat}:∀ {ks:Li Str}{b:Li vL},Vals (ks.map V.str) b->ZaP k ks=aa i->∃ h:i < b.length,(λy:vL=>match y with
   |.str a _=>a==k
   |_=>ae) b[i]=ac/\∀ m (c:m < b.length),m < i->(λy:vL=>match y with
   |.str a _=>a==k
   |_=>ae) b[m]=ae:=by
 intro ks
 induction ks generalizing i with
 |nil=>intro b _ h;cases h
 |cons a ks l=>
  intro b r h;cases r with
  |@cons v u vs f j g=>
   obtain⟨t,rfl⟩:=j;have h:(if a=k then aa 0 else (ZaP k ks).map (·+1))=aa i:=h
   split at h
   .rename_i e
    cases h;refine⟨by simp,by simpa using e,λm _ c=>aq c (Nat.not_lt_zero m)⟩
   .rename_i e
    cases q:ZaP k ks with
    |none=>rw[q]at h;cases h
    |some n=>
     rw[q]at h;cases h;obtain⟨s,p,o⟩:=l g q;refine⟨by simpa using s,by simpa using p,λm c d=>?_⟩
     cases m with
     |zero=>simpa using e
     |succ m=>
      have d:m+1 < n+1:=d;simpa using o m (by simpa using c) (by omega)
def Zai{b:Li vL}(r:Vals (ks.map V.str) b):∀ y∈b,∃ a t,y=.str a t:=by
 induction ks generalizing b with
 |nil=>cases r;intro y hy;exact nomatch hy
 |cons a ks f=>
  cases r with
  |@cons v u vs c e d=>
   intro y hy;rcases aF.mp hy with rfl|hy
   .obtain⟨t,rfl⟩:=e;exact⟨a,t,rfl⟩
   .exact f d y hy
def Zf4{y:Str}{x:CE}(K:Cxt X G F sc N)(l:(ap.endLine==cp.line)=ac)(C:as.length=1)(B:PE X (.Name y yp) (tE X.K (ev F x)))(A:PA X as (tA X.K (ev F cs))/\UA cs/\as.all Zg=ac/\(as=[]->cs=.aN)):PE X (.Call (.Attribute (.Name y yp) "index" ap) as [] cp) (tE X.K (ev F (.tix x cs))):=by
 obtain⟨PAs,_,P,_⟩:=A;obtain⟨e0,rfl⟩:=Zg4 C;intro pQ s O H Q I h;obtain⟨ad,U,st,d,st',E,S,e,p⟩:=h;replace e:ZY (ev F x) (ev F cs) Zgj U st=aa (d,st'):=e;unfold ZY at e;split at e
 .rename_i dx g q1
  split at e
  .rename_i dy st2 q2
   unfold Zgj at e;split at e
   .rename_i ks k
    split at e
    .rename_i i hi
     cases e;rw[bE,Ba]at P;refine wpAny_Call_method_late rfl (W1 (by rw[bE,P.1];rfl) (by simp)) l rfl (thn (B pQ s O H (λv r=>∃ c,Ext ad H c r/\StOk X.K c r g/\Den X.K c r v (.kt ks)) I ⟨ad,U,st,.kt ks,g,E,S,q1,λv c r J Z W=>⟨c,J,Z,W⟩⟩) λu s1 ⟨v,r,I1,rv,c,J,Z,W⟩=>?_)
     obtain⟨a,o,j,n,rfl,h1,T,h3,h4,h5⟩:=W.ofKt;cases (show u=br a from rv)
     have ga:s1.heap.get? a=aa o:=I1.kIn a o h1;refine⟨"tuple", "tuple.index",PySem.F.plainAttrs_tuple,PySem.F.slot_tuple_index,PySem.F.type_tuple_index,⟨o,ga,T.1⟩,λb eb=>by cases eb;exact⟨o,ga,T.2⟩,?_⟩
     have hA:=PAs cp pQ s1 O r (λvs q=>∃ f,Ext c r f q/\StOk X.K f q st'/\Dens X.K f q vs [.str k]) I1 ⟨c,U,g,[.str k],st',E.mono J,Z,q2,λvs f q L Y V=>⟨f,L,Y,V⟩⟩
     rw[Zd P.1]at hA ⊢;refine Calls.callWith_builtin rfl (Calls.evalArgs_plain (thn hA λus s2 ⟨vs,q,I2,r2,f,L,Y,V⟩=>?_))
     obtain⟨w,rfl,dw⟩:=Wl V;cases dw;obtain⟨u1,rfl,M,rfl⟩:=r2.one;have D:s2.heap.get? a=aa o:=I2.kIn a o h1;obtain⟨hj,hit,R⟩:=ZaQ (k:=k) (tk:=M) h5 hi;have sz:j.toList.length=j.size:=cJ;refine call_meets PySem.F.slot_tuple_index ⟨o,D,T.1⟩ PySem.F.entry_tuple_index (PySem.F.args_tuple_index_2 _ _) (WS a j n o (.str k M) (λy:vL=>match y with
      |.str a _=>a==k
      |_=>ae) i (by rw[<-sz];exact hj) (by simpa using hit) (λm hm hl=>by
      have z:=R m (by rw[sz];exact hm) hl
      simp only[Array.getElem_toList]at z;exact z) h3) ⟨D,λy hy=>?_,?_⟩
     .obtain⟨b,t,rfl⟩:=Zai h5 y (by simpa using hy)
      exact PySem.SeqAt.EqAt.str_str b t k M
     .exact⟨.int (i:Int),q,I2.tok _,⟨_,rfl⟩,p.later (J.trans L) _ f q (Ext.refl _ _) Y (.int _)⟩
    .exact Zb e
   .exact Zb e
  .exact Zb e
 .exact Zb e
def ZdJ{y:Str}{x:CE}(K:Cxt X G F sc N)(o:(ap.endLine==cp.line)=ac)(z:as.length < 20)(B:PE X (.Name y yp) (tE X.K (ev F x)))(A:PA X as (tA X.K (ev F cs))/\UA cs/\as.all Zg=ac/\(as=[]->cs=.aN)):PE X (.Call (.Attribute (.Name y yp) m ap) as [] cp) (tE X.K (ev F (.meth (Y7 m as.length G) x cs))):=by
 obtain⟨PAs,_,P,hn⟩:=A;intro pQ s O H Q I h;obtain⟨ad,U,st,d,st',E,S,e,p⟩:=h;replace e:ZY (ev F x) (ev F cs) (Zbv F (Y7 m as.length G)) U st=aa (d,st'):=e;unfold ZY at e;split at e
 .rename_i dx g q1
  split at e
  .rename_i dy l M
   unfold Zbv at e;split at e
   .rename_i i J
    split at e
    .rename_i j hj
     obtain⟨cx,ms,subs,hG,hl⟩:=Zgi hj;obtain⟨_,nw,_,V⟩:=K.gl cx _ hG;obtain⟨k,f,fd,pn,Fk,hr,n,hb⟩:=V m j _ hl;refine Zdp rfl (W1 P z) o (thn (B pQ s O H (λv q=>∃ b,Ext ad H b q/\StOk X.K b q g/\Den X.K b q v (.obj i)) I ⟨ad,U,st,.obj i,g,E,S,q1,λv b q w R C=>⟨b,w,R,C⟩⟩) λu s1 ⟨v,q,T,rv,b,w,R,C⟩ pl=>?_)
     obtain⟨a,dx,rfl,ha⟩:=C.ofObj;cases (show u=br a from rv)
     refine getmeth_ok T ha nw.cl n rfl ?_;cases as with
     |nil=>
      have hc:=hn rfl;subst hc;have M:aa (D.tup [],g)=aa (.tup J,l):=M;cases M;exact W.callWith_K0 (first:=[.ref a]) T.kIn n.kp (run_fn (us:=[.ref a]) (vs:=[.ref a]) (E:=E0) Fk hr hb .nil pass0 T (.cons rfl .nil) ⟨b,[.obj i],g,d,st',R,.cons C .nil,e,p.later w⟩)
     |cons e0 es=>
      rw[bE,Ba]at P;refine W.callWith_K (first:=[.ref a]) (h₀:=X.base) I.ok.mod.kin n.kp (thn (PAs cp pQ s1 O q _ T ⟨b,U,g,J,l,E.mono w,R,M,λvs c t L Z Y=>(show(λvs t=>∃ c,Ext b q c t/\StOk X.K c t l/\Dens X.K c t vs J) vs t from⟨c,L,Z,Y⟩)⟩) λus s2 ⟨vs,t,I2,r,c,L,Z,Y⟩=>⟨I2.kIn,?_⟩) (Zd P.1) (Yw P.2)
      refine run_fn (us:=.ref a :: us) (vs:=.ref a :: vs) (E:=E0) Fk hr hb .nil pass0 I2 (.cons rfl r) ?_;rw[bD];exact⟨c,.obj i :: J,l,d,st',Z,.cons (C.mono L) Y,e,p.later (w.trans L)⟩
    .exact Zb e
   .exact Zb e
  .exact Zb e
 .exact Zb e
def Ql{b:aw}{p:Ot aw×Ot aw}(q:Wb b=aa p):∃ a,b=.Slice p.1 p.2 ab a:=by
 unfold Wb at q;split at q
 .cases q;exact⟨_,rfl⟩
 .exact Zb q
def ZhC{op:UnaryOp}{a:aw}{o:Ot CE}{c:CE}(A:∀ x,o=aa x->SE X F a x)(h:unC op o=aa c):SE X F (.UnaryOp op a pos) c:=by
 cases op with
 |Not=>exact WA (P:=SE X F _) (show o.map CE.not=aa c from h) λx b=>⟨Zl (pe_not (A x b).pe) Za7,WF (pt_not (A x b).pt) Za6⟩
 |USub=>exact WA (P:=SE X F _) (show o.map CE.neg=aa c from h) λx b=>.of (Zl (pe_un Zd4 (A x b).pe) Zbb)
 |Invert=>exact WA (P:=SE X F _) (show o.map CE.inv=aa c from h) λx b=>.of (Zl (pe_un Zd3 (A x b).pe) Zbb)
 |_=>exact Zb h
section
variable {X:Cx}{sc:bc}{N:Li Str}{n:Nat}{c:CE} (K:Cxt X G F sc N) (hf:∀ e c,cE G n sc N e=aa c->SE X F e c)
include K hf
def ZfW{a:aw}{d:Li CmpOp}{bs:Li aw}(h:ZgM G sc (cE G n sc N) (cE G n sc N a) d bs=aa c):SE X F (.Compare a d bs pos) c:=by
 cases d with
 |nil=>exact Zb h
 |cons op d=>cases bs with
  |nil=>cases d with
   |nil=>exact Zb h
   |cons _ r=>cases r<;>cases h
  |cons b bs=>cases d with
   |nil=>cases bs with
    |cons _ _=>exact Zb h
    |nil=>
     replace h:(match ZS G sc b with
      |some e=>o3 CE.inR (Zfg op) (cE G n sc N a) (cE G n sc N e)
      |none=>o2 (CE.cmp op) (cE G n sc N a) (cE G n sc N b))=aa c:=h
     cases i:ZS G sc b with
     |some e=>
      rw[i]at h;exact Xa (P:=SE X F _) h λl x y k g f=>ZfZ K i k (Ze f) (hf a x g).pe (hf e y f).pe
     |none=>
      rw[i]at h;exact ZU (P:=SE X F _) h λx y g f=>⟨Zl (pe_cmpR (Ja K.hu) (hf a x g).pe (hf b y f).pe (XW (Ze f))) Vo,WF (pt_cmpR (Ja K.hu) (hf a x g).pe (hf b y f).pe (XW (Ze f))) λO H Q q=>Vo O H _ (Zba O H Q q)⟩
   |cons j d=>exact Zb h
omit K in
def ZdE{op:BoolOp}{vs:Li aw}{pos:Pos}(h:Zed (cE G n sc N) op pos vs=aa c):SE X F (.BoolOp op vs pos) c:=by
 cases vs with
 |nil=>exact Zb h
 |cons a r=>cases r with
  |nil=>
   have A:=hf a c h;refine⟨pe_one A.pe,?_⟩;cases op with
   |And=>exact(pw_and1 A.pt).pt
   |Or=>exact(pw_or1 A.pt).pt
  |cons b r=>cases op with
   |And=>exact ZU (P:=SE X F _) (show o2 CE.and (cE G n sc N a) (cE G n sc N (.BoolOp .And (b :: r) pos))=aa c from h) λx y e d=>⟨Zl (pe_and (hf a x e).pe (hf _ y d).pe) ZaS,WF (pw_and (hf a x e).pt (Ur (hf _ y d).pt)).pt ZaR⟩
   |Or=>exact ZU (P:=SE X F _) (show o2 CE.or (cE G n sc N a) (cE G n sc N (.BoolOp .Or (b :: r) pos))=aa c from h) λx y e d=>⟨Zl (pe_or (hf a x e).pe (hf _ y d).pe) Zc7,WF (pw_or (hf a x e).pt (Ur (hf _ y d).pt)).pt Zc6⟩
def Zf3(d:Vg G F n){a b:aw}(h:Zgh G sc (cE G n sc N) (cO G n sc N) a b=aa c):SE X F (.Subscript a b pos) c:=by
 unfold Zgh at h;cases q:Wb b with
 |some p=>
  obtain⟨j,o⟩:=p;rw[q]at h;obtain⟨r,rfl⟩:=Ql q;exact Xa (P:=SE X F _) h λx l u f m k=>.of (Zl (pe_slice Zjl (hf a x f).pe (d X sc N K j l m) (d X sc N K o u k)) JQ)
 |none=>
  rw[q]at h;dsimp only at h;cases i:ZeA b with
  |some s=>
   cases i
  |none=>
   rw[i]at h;dsimp only at h;cases g:QZ G sc a with
   |some p=>
    obtain⟨ks,ds⟩:=p;rw[g]at h;exact WA (P:=SE X F _) h λy e=>.of (ZdH K g (Ze e) (hf b y e).pe)
   |none=>
    rw[g]at h;exact ZU (P:=SE X F _) h λx y f e=>.of (Zl (pe_ix (Zih K.hu) (hf a x f).pe (hf b y e).pe (Uf (Ze e))) Vo)
def ZbY{f:Str}{a:aw}{p:Pos}(i:ZH sc f=ac)(d:X.mg f=ab)(h:Zas G sc f a (cE G n sc N)=aa c):SE X F (.Call (.Name f p) [a] [] pos) c:=by
 unfold Zas at h;cases j:Qr G sc f a with
 |some e=>
  rw[j]at h;exact Zf5 K i d j (λc l=>⟨Ze l,(hf e c l).pe⟩) h
 |none=>
  rw[j]at h;dsimp only at h;cases g:Vv G sc f a with
  |some q=>
   obtain⟨u,v⟩:=q;rw[g]at h;exact ZU (P:=SE X F _) h λx y b k=>.of (ZdI K i d g (Ze b) (Ze k) (hf u x b).pe (hf v y k).pe)
  |none=>
   rw[g]at h;exact j_e h λh=>WA (P:=λo=>o=aa c->SE X F _ c) h (λx b h=>.of (ZdC K i d (Ze b) (hf a x b).pe h)) rfl
def ZbZ{f:Str}{a b:aw}{p:Pos}(i:ZH sc f=ac)(e:X.mg f=ab)(h:Zat G sc f a b (cE G n sc N)=aa c):SE X F (.Call (.Name f p) [a,b] [] pos) c:=by
 unfold Zat at h;by_cases k:f = "isinstance"
 .subst k
  rw[am rfl]at h;cases g:UQ G sc b with
  |some l=>
   rw[g]at h;exact WA (P:=SE X F _) h λx q=>.of (Zf0 K i e (Ze q) (hf a x q).pe g)
  |none=>
   rw[g]at h;exact ZU (P:=SE X F _) h λx T d m=>.of (Zf1 K i e (Ze d) (hf a x d).pe m)
 .rw[ao k]at h
  exact j_e h λh=>ZU (P:=λo=>o=aa c->SE X F _ c) h (λx y d j h=>.of (ZdD K i e (Ze d) (Ze j) (hf a x d).pe (hf b y j).pe h)) rfl
def Zb0(j:Yp G F n){f:Str}{p:Pos}(h:Zax G sc f as (cEs G n sc N as) (cE G n sc N)=aa c):SE X F (.Call (.Name f p) as [] pos) c:=by
 unfold Zax at h;cases d:ZH sc f with
 |false=>rw[d]at h;cases h
 |true=>
 rw[d,am rfl]at h;cases e:G.lookup f with
 |none=>rw[e]at h;cases h
 |some g=>
  rw[e]at h;cases g with
  |fn i o ds=>exact Xb h λm h=>WA (P:=SE X F _) h λcs k=>.of (ZdF K d e m (j X sc N K as cs k))
  |blt=>
   have l:X.mg f=ab:=K.gl f _ e;cases as with
   |nil=>exact Zb h
   |cons a as=>cases as with
    |nil=>exact ZbY K hf d l h
    |cons b as=>cases as with
     |nil=>exact ZbZ K hf d l h
     |cons _ _=>exact Zb h
  |cls i ms subs=>cases as with
   |cons _ _=>exact Zb h
   |nil=>cases h;exact .of (Zf2 K d e)
  |_=>exact Zb h
def ZdB(j:Yp G F n){o:aw}(h:Zec G o m ap as pos (cEs G n sc N as) (cE G n sc N)=aa c):SE X F (.Call (.Attribute o m ap) as [] pos) c:=by
 cases o with
 |Dict ks vs t=>cases as with
  |nil=>exact Zb h
  |cons a as=>cases as with
   |nil=>exact Zb h
   |cons b as=>cases as with
    |cons _ _=>exact Zb h
    |nil=>
     refine Xb h λf h=>Xa (P:=SE X F _) h λx y z d q e=>?_
     obtain⟨rfl,g⟩:=f;exact .of (ZdG K g (Ze q) (Ze e) (hf _ x d).pe (hf a y q).pe (hf b z e).pe)
 |Name y yp=>
  refine Xb h λf h=>?_
  by_cases k:m = "pop"
  .subst k
   rw[am rfl]at h;refine Xb h λp h=>WA (P:=SE X F _) h λx d=>?_
   cases as with
   |cons _ _=>exact nomatch p
   |nil=>exact .of (Zl (pe_bm0 PySem.F.plainAttrs_list PySem.F.slot_list_pop PySem.F.type_list_pop mt_pop (hf _ x d).pe rfl f.1) Zc8)
  .rw[ao k]at h
   by_cases l:m = "get"
   .subst l
    rw[am rfl]at h;cases as with
    |nil=>exact Zb h
    |cons a as=>cases as with
     |nil=>exact ZU (P:=SE X F _) h λx z d e=>.of (ZfX K f.1 (Ze e) (hf _ x d).pe (hf a z e).pe)
     |cons b as=>cases as with
      |cons _ _=>exact Zb h
      |nil=>exact Xa (P:=SE X F _) h λx u z d r e=>.of (ZfY K f.1 (Ze r) (Ze e) (hf _ x d).pe (hf a u r).pe (hf b z e).pe)
   .rw[ao l]at h
    by_cases s:m = "index"
    .subst s
     rw[am rfl]at h;exact Xb h λp h=>ZU (P:=SE X F _) h λx cs d i=>.of (Zf4 K f.1 p (hf _ x d).pe (j X sc N K as cs i))
    .rw[ao s]at h
     exact ZU (P:=SE X F _) h λx cs d i=>.of (ZdJ K f.1 f.2 (hf _ x d).pe (j X sc N K as cs i))
 |_=>exact Zb h
end
def Qn(H:Zr G F n)(j:Yp G F n)(E:Vg G F n)(u:∀ X sc N,Cxt X G F sc N->∀ o gens i pos c,cE G (n+1) sc N (.ListComp o gens i pos)=aa c->SE X F (.ListComp o gens i pos) c):Zr G F (n+1):=by
 intro X sc N K e c h;have g:=H X sc N K;have no:∀ {P:Prop},(ab:Ot CE)=aa c->P:=λz=>nomatch z
 cases e with
 |Constant v k pos=>exact Zb1 h
 |Name x pos=>exact ZdK K h
 |BinOp a op b pos=>exact ZU (P:=SE X F _) (show o2 (CE.bin op) (cE G n sc N a) (cE G n sc N b)=aa c from h) λx y s r=>.of (Zl (pe_op Zds (g a x s).pe (g b y r).pe) Vo)
 |UnaryOp op a pos=>exact ZhC (g a) h
 |Compare a L bs pos=>exact ZfW K g h
 |BoolOp op vs pos=>exact ZdE g h
 |IfExp t a b pos=>exact Xa (P:=SE X F _) (show o3 CE.ife (cE G n sc N t) (cE G n sc N a) (cE G n sc N b)=aa c from h) λz x y l s r=>⟨Zl (pe_ifExp (g t z l).pt (g a x s).pe (g b y r).pe) Zff,ZfE (g t z l).pt (g a x s).pt (g b y r).pt⟩
 |Tuple es k pos=>
  refine WA (P:=SE X F _) (show(cEs G n sc N es).map CE.tupE=aa c from h) λx q=>?_
  obtain⟨A,C,_,_⟩:=j X sc N K es x q;exact .of (Zl (pe_tup A) (Zdc (λU st ds st' e=>by obtain⟨w,z,l⟩:=X5 C e;cases z;exact l) λU st d st' e=>by obtain⟨w,z,l⟩:=X5 C e;exact⟨w,z⟩))
 |List es pos=>
  refine WA (P:=SE X F _) (show(cEs G n sc N es).map CE.lstE=aa c from h) λx q=>?_
  obtain⟨A,C,_,_⟩:=j X sc N K es x q;exact .of (Zl (pe_lst A) (Zc4 λU st ds st' e=>by obtain⟨w,z,l⟩:=X5 C e;cases z;exact l))
 |Dict keys vals pos=>cases keys with
  |nil=>cases vals with
   |nil=>cases h;exact .of (Zl pe_dnewT ZaW)
   |cons _ _=>exact Zb h
  |cons B keys=>
   have h:(match Jb (B :: keys) with
    |some p=>o3 .dd (cE G n sc N p.1) (cE G n sc N p.2) ((Zdr vals).bind (cE G n sc N))
    |none=>og ((B :: keys).length=vals.length/\(B :: keys)≠[]/\(B :: keys).length<=15) (o2 CE.dict (ZO (B :: keys)) (cVs (cE G n sc N) vals)))=aa c:=h
   split at h
   .rename_i p I
    exact Xa (P:=SE X F _) h λx y z s r l=>.of (ZhB K (λe c h=>(g e c h).pe) I s r l (Ze s) (Ze r))
   .exact Xb h λJ h=>ZU (P:=SE X F _) h λks cs I M=>.of (ZbP (λe c h=>(g e c h).pe) I M J.1 J.2.1 J.2.2)
 |Subscript a b pos=>exact Zf3 K g E h
 |Call f as D pos=>cases D with
  |cons _ _=>exact no h
  |nil=>cases f with
   |Attribute O m ap=>exact ZdB K g j h
   |Name f p=>exact Zb0 K g j h
   |_=>exact no h
 |ListComp o gens i pos=>exact u X sc N K o gens i pos c h
 |_=>exact no h
def Uu(a:Zr G F n)(b:Yp G F n):Yp G F (n+1):=by
 intro X sc N K es c h;cases es with
 |nil=>
  simp only[cEs]at h;cases h;exact⟨ZbN pa_nil Wp,trivial,rfl,λ_=>rfl⟩
 |cons e es=>
  refine ZU (P:=λc=>PA X _ (tA X.K (ev F c))/\UA c/\_/\(_->c=.aN)) (show o2 CE.aC (cE G n sc N e) (cEs G n sc N es)=aa c from h) λx r d f=>?_
  obtain⟨A,i,g,_⟩:=b X sc N K es r f;exact⟨ZbN (pa_cons (a X sc N K e x d).pe A (Zd (Ze d))) W2,trivial,by rw[bE,g,Ze d];rfl,λz=>nomatch z⟩
def Uv(b:Zr G F n):Vg G F (n+1):=by
 intro X sc N K e c h;cases e with
 |none=>
  simp only[cO]at h;cases h;exact ZbR po_none Zc5
 |some e=>
  simp only[cO]at h;cases q:cE G n sc N e with
  |none=>rw[q]at h;cases h
  |some x=>
   rw[q]at h;cases h;refine ZbR (po_some (b X sc N K e x q).pe) λO H Q k=>?_
   obtain⟨ad,U,st,d,st',E,S,a,p⟩:=k;have a:Zq (ev F x) WD U st=aa (d,st'):=a;unfold Zq at a;split at a
   .rename_i y f g
    cases y with
    |int i=>
     cases a;rcases p with⟨z,_⟩|⟨j,z,p⟩
     .cases z
     .cases z
      exact⟨ad,U,st,.int i,_,E,S,g,λv ad' H' x m l=>⟨i,l.ofInt,p ad' H' x m⟩⟩
    |_=>simp[WD]at a
   .exact Zb a
end
variable [ClsTab]
variable{α β:Type}
def b_e{P:Prop}{o:Ot α}{f:α->Ot β}{c:β}(h:o.bind f=aa c)(k:∀ x,o=aa x->f x=aa c->P):P:=by
 cases o with
 |none=>exact Zb h
 |some x=>exact k x rfl h
def Zex{s:Stmt}{t u:TS}(b:PS X s t)(a:PS X s u):PS X s (λD O H=>t D O H\/u D O H):=λpQ s O H D I q=>q.elim (b pQ s O H D I) (a pQ s O H D I)
variable{l:Nat}
def X1{a:Ot aw}(h:YY e=ae):swapsWith e a l env=pure ae:=by
 cases e<;>first|rfl|cases h
variable{tg:aw}
def YK(h:YY e=ae):swapsWithSole [tg] e l env=pure ae:=X1 h
def We{o k:aw}{p:Pos}(h:Zg k=ac):∀ v,assign (.Subscript o k p) env v=(do
   let a <-holding [v] (eval o env)
   let b <-holding [v,a] (eval k env)
   standAt p
   holding [v,a,b] (setItem a b v)
   release [v,a,b] []):=by
 cases k<;>first | (intro _;rfl)|cases h
def WI{o k:aw}{p:Pos}:swappedStores [.Subscript o k p] e env=pure ab:=by
 cases e<;>rfl
def ZL(h:Zg e=ac):∀ x,foldedSetIterable e env x=pure x:=by
 cases e<;>first | (intro _;rfl)|cases h
structure CxtS(X:Cx)(G:Gs)(F:Nat->Fn)(sc:bc)(N:List Str):Prop extends Cxt X G F sc N where
 nd:N.Nodup
 loc:∀ x∈N,Loc X.env.scope x
 fn:∀ x,X.fn x=ac
variable{it elt:aw}{gens:Li Comprehension}{sc2:bc}{tp p2 p3:Pos}{ctx t' kk:Nat}{h' h:bg}{items:Array vL}{E:vL->Sd->Prop}{z:Ad}{elts:Li aw}
section
def UD(G:Gs)(F:Nat->Fn)(n:Nat):Prop:=∀ X sc N,CxtS X G F sc N->∀ s c,cS G n sc N s=aa c->PS X s (tS X.K (ex F c))
def ZT(G:Gs)(F:Nat->Fn)(n:Nat):Prop:=∀ X sc N,CxtS X G F sc N->∀ s c,cSs G n sc N s=aa c->PSs X s (tS X.K (ex F c))
def Vn{x:Str}(h:N.idxOf? x=aa i):x∈N:=aX (Xl h)
def ZZ{x:Str}{p:Pos}(K:CxtS X G F sc N)(h:N.idxOf? x=aa i):PG X (.Name x p) (gName i):=
 pg_name (by rw[K.hN];exact K.nd) (by rw[K.hN];exact Xl h) (K.loc x (Vn h)) (.inl (K.fn x))
def YI(K:CxtS X G F sc N):PassesOwn (az X.prog X.w) X.A X.env X.xe:=by
 rw[K.nx];exact PassesOwn.never
def Jd{x:Str}{p:Pos}(K:Cxt X G F sc N)(a:XA sc x=ac)(b:N.idxOf? x=aa i):PE X (.Name x p) (tVar i):=
 pe_var (by rw[K.hN];exact Xl b) (K.vis _ a) (Vu a).1 (Vu a).2
def XY{a:aw}{x:CE}(K:Cxt X G F sc N)(h:ZS G sc it=aa a)(b:Zg a=ac)(A:PE X a (tE X.K (ev F x))):Zg it=ac/\PI X tg it (iRng1 (tCons (tE X.K (ev F x)) tNil)):=by
 obtain⟨_,_,rfl,d,c⟩:=WR K h;exact⟨rfl,pi_range1 d c (pa1 b A) (Zd b)⟩
def Wd(G:Gs)(F:Nat->Fn)(n:Nat):Prop:=∀ X sc N,CxtS X G F sc N->∀ (x:Str) (i:Nat) (p:Pos) elt gens sc2 epos (pos:Pos) c,N.idxOf? x=aa i->cE G n sc N (.ListComp elt gens sc2 epos)=aa c->
 swapsWith (.ListComp elt gens sc2 epos) (aa (.Name x p)) pos.line X.env=pure ac->PS X (.Assign [.Name x p] (.ListComp elt gens sc2 epos) pos) (tAsg (tE X.K (ev F c)) (gName i))
def Qo{epos p:Pos}{x:Str}:∃ b:Bool,swapsWith (.ListComp elt gens sc2 epos) (aa (.Name x p)) l env=pure b:=⟨_,rfl⟩
def ZbD{c:CE}(h:cE G n sc N e=aa c):YY e=ae\/∃ elt gens sc2 a,e=.ListComp elt gens sc2 a:=by
 cases n with
 |zero=>exact nomatch (show(ab:Ot CE)=aa c from h)
 |succ n=>cases e<;>first|exact .inl rfl|exact .inr ⟨_,_,_,_,rfl⟩|exact nomatch (show(ab:Ot CE)=aa c from h)
def Zf8(a:Zr G F n)(o:Wd G F n)(K:CxtS X G F sc N){c:CS}{x:Str}{p:Pos}(h:o2 CS.set (N.idxOf? x) (cE G n sc N e)=aa c):PS X (.Assign [.Name x p] e pos) (tS X.K (ex F c)):=by
 refine ZU (P:=λc=>PS X _ (tS X.K (ex F c))) h λi y f d=>?_
 have g:∀ j,PS X (.Assign [.Name x p] e pos) (tAsg (tE X.K (ev F y)) (gName i)):=λj=>ps_set (by rw[K.hN];exact K.nd) (by rw[K.hN];exact Xl f) (K.loc _ (Vn f)) (a X sc N K.toCxt _ y d).pe j (.inl (K.fn _))
 rcases ZbD d with m|⟨elt,gens,sc2,epos,rfl⟩
 .exact ZB (g (X1 m)) Vp
 .obtain⟨b,k⟩:=Qo (elt:=elt) (gens:=gens) (sc2:=sc2) (epos:=epos) (p:=p) (x:=x) (l:=pos.line) (env:=X.env)
  cases b with
  |false=>exact ZB (g k) Vp
  |true=>exact ZB (o X sc N K _ i p elt gens sc2 epos pos y f d k) Vp
def WJ{a:Li aw}{k:Nat}(h:Ue e=ae):swappedStores [.Tuple a k tp] e env=pure ab:=by
 cases e with
 |Tuple=>cases h
 |_=>rfl
def ZdV(a:Zr G F n)(K:CxtS X G F sc N){c:CS}{x y:Str}{p:Pos}(h:og ((YY e||Ue e)=ae) (o3 (λi j c=>og (i≠j) (aa (CS.set2 i j c))) (N.idxOf? x) (N.idxOf? y) (cE G n sc N e)).join=aa c):PS X (.Assign [.Tuple [.Name x p,.Name y p2] ctx tp] e pos) (tS X.K (ex F c)):=by
 refine Xb h λb h=>j_e h λh=>Xa (P:=λo=>o=aa c->PS X _ (tS X.K (ex F c))) h (λi j k g f d h=>Xb h λ_ h=>?_) rfl
 cases h;rw[Bool.or_eq_false_iff]at b;exact ZB (ps_asg (a X sc N K.toCxt _ k d).pe (pg_tup K.calm (pgs_cons (ZZ K g) (pgs_cons (ZZ K f) pgs_nil))) (YK b.1) (WJ b.2)) Za8
def ZdW(a:Zr G F n)(K:CxtS X G F sc N){c:CS}{x y z:Str}{p:Pos}(h:og ((YY e||Ue e)=ae) (o3 (λi j (p:Nat×CE)=>CS.set3 i j p.1 p.2) (N.idxOf? x) (N.idxOf? y) (o2 Prod.mk (N.idxOf? z) (cE G n sc N e)))=aa c):PS X (.Assign [.Tuple [.Name x p,.Name y p2,.Name z p3] ctx tp] e pos) (tS X.K (ex F c)):=by
 refine Xb h λb h=>Xa (P:=λc=>PS X _ (tS X.K (ex F c))) h λi j q m k f=>ZU (P:=λq=>PS X _ (tS X.K (ex F (.set3 i j q.1 q.2)))) f λl o g d=>?_
 rw[Bool.or_eq_false_iff]at b;exact ZB (ps_asg (a X sc N K.toCxt _ o d).pe (pg_tup K.calm (pgs_cons (ZZ K m) (pgs_cons (ZZ K k) (pgs_cons (ZZ K g) pgs_nil)))) (YK b.1) (WJ b.2)) Za9
def Zf6(a:Zr G F n)(K:CxtS X G F sc N){c:CS}{f:Str}{d:Pos}{b:Li Keyword}(h:(cE G n sc N (.Call (.Name f d) as b cp)).map CS.act=aa c):PS X (.Expr (.Call (.Name f d) as b cp) pos) (tS X.K (ex F c)):=by
 obtain⟨g,e,rfl⟩:=dG.mp h;exact ZB (ps_expr (a X sc N K.toCxt _ g e).pe rfl) ZcW
def ZbO{k a b:aw}(h:W6 k=aa (a,b)):∃ c p,k=.Tuple [a,b] c p:=by
 unfold W6 at h;split at h
 .cases h;exact⟨_,_,rfl⟩
 .exact Zb h
def Zf9(d:Zr G F n)(K:CxtS X G F sc N){c:CS}{x:Str}{k:aw}{p q:Pos}(h:Zhd sc N x k e (cE G n sc N)=aa c):PS X (.Assign [.Subscript (.Name x p) k q] e pos) (tS X.K (ex F c)):=
 Xb h λl h=>by
 cases o:W6 k with
 |some u=>
  rw[o]at h;obtain⟨a,b⟩:=u;obtain⟨_,_,rfl⟩:=ZbO o;refine Xa (P:=λc=>PS X _ (tS X.K (ex F c))) h λ_ j y r f m=>?_
  exact ZU (P:=λj:CE×CE=>PS X _ (tS X.K (ex F (.dput _ j.1 j.2 y)))) f λt s i g=>ZB (ps_asg (d X sc N K.toCxt _ y m).pe (pg_sub (Jd K.toCxt l.2.2 r) (pe_tup (pa_cons (d X sc N K.toCxt _ t i).pe (pa_cons (d X sc N K.toCxt _ s g).pe pa_nil (Zd (Ze g))) (Zd (Ze i)))) (set_dT (by have:=K.toCxt.hu;omega)) (We rfl)) (YK l.1) WI) ZaX
 |none=>
 rw[o]at h;exact Xa (P:=λc=>PS X _ (tS X.K (ex F c))) h λ_ j y r f m=>ZB (ps_asg (d X sc N K.toCxt _ y m).pe (pg_sub (Jd K.toCxt l.2.2 r) (d X sc N K.toCxt _ j f).pe set_list (We (Ze f))) (YK l.1) WI) Zc9
def Zga(a:Zr G F n)(K:CxtS X G F sc N){c:CS}(h:(cE G n sc N e).map CS.ret=aa c):PS X (.Return (aa e) pos) (tS X.K (ex F c)):=
 WA (P:=λc=>PS X _ (tS X.K (ex F c))) h λx q=>ZB (ps_ret (a X sc N K.toCxt _ x q).pe) Zda
def ZhD(f:Zr G F n)(d:ZT G F n)(K:CxtS X G F sc N){c:CS}{a b:Li Stmt}(h:o3 CS.ite (cE G n sc N e) (cSs G n sc N a) (cSs G n sc N b)=aa c):PS X (.If e a b pos) (tS X.K (ex F c)):=
 Xa (P:=λc=>PS X _ (tS X.K (ex F c))) h λk m l g j i=>ZB (ps_if (f X sc N K.toCxt _ k g).pt (d X sc N K _ m j) (d X sc N K _ l i)) Zc3
def ZdQ(d:Yp G F n)(a:ZT G F n)(K:CxtS X G F sc N){c:CS}{x:Str}{b:Li Stmt}{p:Pos}(e:XT G sc it=aa as)(h:o3 CS.for3 (N.idxOf? x) (cEs G n sc N as) (cSs G n sc N b)=aa c):PS X (.For (.Name x p) it b [] pos) (tS X.K (ex F c)):=by cases e
def ZdO(e:Zr G F n)(d:ZT G F n)(K:CxtS X G F sc N){c:CS}{x:Str}{b:Li Stmt}{p:Pos}(h:(match ZS G sc it with
   |some a=>o3 (λi c b=>CS.for1 i ac c b) (N.idxOf? x) (cE G n sc N a) (cSs G n sc N b)
   |none=>o3 (λi c b=>CS.for1 i ae c b) (N.idxOf? x) (cE G n sc N it) (cSs G n sc N b))=aa c):PS X (.For (.Name x p) it b [] pos) (tS X.K (ex F c)):=by
 cases k:ZS G sc it with
 |some a=>
  rw[k]at h;refine Xa (P:=λc=>PS X _ (tS X.K (ex F c))) h λi r j f q g=>?_
  obtain⟨o,m⟩:=XY K.toCxt k (Ze q) (e X sc N K.toCxt a _ q).pe;exact ZB (ps_for (YI K) K.calm m (ZZ K f) (d X sc N K _ j g) (ZL o)) Za3
 |none=>
  rw[k]at h;refine Xa (P:=λc=>PS X _ (tS X.K (ex F c))) h λi r j f q g=>?_
  have A:=(e X sc N K.toCxt _ _ q).pe;have l:=ZL (env:=X.env) (Ze q);exact ZB (Zex (ps_for (YI K) K.calm (pi_tup A) (ZZ K f) (d X sc N K _ j g) l) (ps_for (YI K) K.calm (pi_list A) (ZZ K f) (d X sc N K _ j g) l)) Za1
def XV{s:Sd}{wr:Li Ad}(I:L2.Inv X pQ O H s)(d:∀ b∈wr,FpOk X pQ H b)(k:∀ b o,b∉wr->s.heap.get? b=aa o->h'.get? b=aa o):L2.Inv X pQ O H { s with heap:=h',toks:=t' }:=by
 have g:∀ b u,H b=aa u->b∉wr:=λb u e f=>by have:=(d b f).1;rw[e]at this;cases this
 refine I.step (g':=s.gens) (d':=s.drawn) (ch:=wr) (λb f=>⟨(d b f).2.2.2.1,(d b f).2.1,(d b f).2.2.2.2.1,(d b f).2.2.2.2.2⟩) (λb o _ _ a e _=>k b o a e) (λb o _ _ a e _=>⟨o.slots,k b o a e⟩)
  (λb o _ e n=>n) (λb o a e=>⟨o,k b o a e⟩) (λb ys e=>e) (λb o u e=>e) (λb l e=>⟨#[],by rw[e];simp⟩) (λm i=>?_) (λb u e=>?_) I.bare
 .obtain⟨o,es,j,h,r⟩:=i
  exact⟨o,es,j,k _ o (λz=>(d _ z).2.1 rfl) h,r⟩
 .refine(I.hok b u e).stay (λc v a q=>k c v ?_ q) (λc q=>q) λc ys q=>q
  rcases a with z|z
  .rw[z];exact g b u e
  .exact g c _ z
def Xd{s:Sd}{wr:Li Ad}{T:Ad}{h:Li V}(I:L2.Inv X pQ O H s)(f:∀ b∈wr,FpOk X pQ H b)(k:∀ b o,b∉wr->s.heap.get? b=aa o->h'.get? b=aa o)(j:s.heap.objs.size<=T)(new:ObjOk X.prog X.w (upd H T (.tup h)) h' T (.tup h)):L2.Inv X pQ O (upd H T (.tup h)) { s with heap:=h',toks:=t' }:=by
 have g:H T=ab:=I.hok.fresh j;have l:∀ b u,s.heap.get? b=aa u->b≠T:=λb u e=>aY (aT (aJ e) j)
 have i:∀ b u,H b=aa u->b∉wr:=λb u e a=>by have:=(f b a).1;rw[e]at this;cases this
 refine I.step (g':=s.gens) (d':=s.drawn) (ch:=wr) (λb a=>⟨(f b a).2.2.2.1,(f b a).2.1,(f b a).2.2.2.2.1,(f b a).2.2.2.2.2⟩) (λb o _ _ d e _=>k b o d e) (λb o _ _ d e _=>⟨o.slots,k b o d e⟩)
  (λb o _ e n=>by rw[upd_ne (l b o e)];exact n) (λb o d e=>⟨o,k b o d e⟩) (λb ys e=>by rw[upd_ne (ne_of_none e g)];exact e) (λb o u e=>by rw[upd_ne (ne_of_none e g)];exact e) (λb y e=>⟨#[],by rw[upd_ne (ne_of_none e g),e];simp⟩) (λm t=>?_) (λb u e=>?_) I.bare
 .obtain⟨o,es,x,p,r⟩:=t
  exact⟨o,es,x,k _ o (λz=>(f _ z).2.1 rfl) p,r⟩
 .by_cases a:b=T
  .subst a;rw[upd_same]at e;cases e;exact new
  .rw[upd_ne a]at e
   refine(I.hok b u e).stay (λc v d q=>k c v ?_ q) (λc q=>by rw[upd_ne (ne_of_none q g)];exact q) λc ys q=>by rw[upd_ne (ne_of_none q g)];exact q
   rcases d with z|z
   .rw[z];exact i b u e
   .exact i c _ z
def ZdY{s:Sd}{a:Ad}{b:Li V}(I:L2.Inv X pQ O H s)(j:SqL X.K H a b)(i:SqL X.K H a ys):ys=b:=by
 obtain⟨d,h,⟨l,n,g1,_,_,k⟩,_⟩:=I.list j;obtain⟨c,g,⟨o2,m,g2,_,_,f⟩,_⟩:=I.list i;rw[g1]at g2;cases g2;rw[k]at f;have e:d.toArray=c.toArray:=by injection f
 have e:d=c:=by simpa using e
 subst e;exact Vals.inj g h
def ZbA{a b:String}{p:Prop}(h:Value.type a=Value.type b)(n:¬a=b):p:=by
 injection h with h
 exact aq h n
section
variable{prog:a0}{w:bh}{A:bo}{E:vL->Sd->Prop}{s:Sd}
open Sem (wp)
open AutoSeq1 (wpAny_loadPart')
def YC{it l:Ad}{Q:vL->Sd->Prop}(h:A.handled=ab)(hit:s.heap.IsTupleIter it l i)(j:s.heap.IsTuple l items)(n:∀ x h',items[i]?=aa x->h'.IsTupleIter it l (i+1)->Heap.SameBut it s.heap h'->Q x { s with heap:=h' })(p:items[i]?=ab->∀ h' e,Heap.ExtBut it s.heap h'->(∃ o,h'.get? e=aa o/\o.cls=.type "StopIteration")->E (.ref e) { s with heap:=h' }) :
  ay (az prog w) A (Builtin.SmallTypes.nextOf (.ref it)) Q E s:=by
 obtain⟨o,c,k,b⟩:=id hit;obtain⟨q,f,_,nl,g⟩:=j;unfold Builtin.SmallTypes.nextOf;refine aA (wpAny_callSpecial?_slot (name:=Str.ofString "__next__") hit.typeIs PySem.F.slot_tuple_iterator_next
  (wpAny_call_entry PySem.F.slot_tuple_iterator_next hit.typeIs PySem.F.entry_tuple_iterator_next ?_ (PySem.F.args_tuple_iterator_next_1 _)))
 show ay _ _ (field (.ref it) 0 >>= _) _ _ s;refine aA (wpAny_field c b (x:=.ref l) rfl ?_);show ay _ _ (if (br l==bt)=ac then _ else _) _ _ s
 rw[ao (show ¬((br l==bt)=ac) from Bf)];show ay _ _ (field (.ref it) 1 >>= _) _ _ s;refine aA (wpAny_field c b (x:=.int i 0) rfl ?_);show ay _ _ (seqItems? (.ref l) >>= _) _ _ s;refine aA (wpAny_seqItems f g ?_);cases d:items[i]? with
 |some x=>
  simp only[aZ,d];refine aA (wpAny_setField c b (by simp) (aE ⟨x,rfl,aE (n _ _ d ?_ (Heap.SameBut.update ..))⟩))
  exact⟨_,Heap.get?_update_self _ c (Obj.isFreed_of_fields (Obj.data_mapFields b _)),(Obj.cls_mapFields ..).trans k,by
   rw[Obj.data_mapFields b];simp[rawInt]⟩
 |none=>
  simp only[aZ,d];refine aA (wpAny_rule (aA (wpAny_setField c b (by simp) ?_)))
  show ay _ _ (newExc (.type "StopIteration") [] >>= _) _ _ _;refine aA ?_;simp only[newExc,newTuple];refine aA (wpAny_newObj_type ?_ (by size_fits))
  refine aA (m:=firstArgMember _ _) (wpAny_of_eq (a:=bt) (by first|rfl | (simp only[firstArgMember];rfl)) ?_)
  refine wpAny_newObj_type ?_ (by size_fits)
  simp only[raiseNew];refine aA (wpAny_handled ?_)
  first|rw[show A.in1.handled=ab from h]|rw[h]
  refine aA (aE (wpAny_throw ?_));exact p d _ _ (((Heap.SameBut.update ..).extBut.push _).push _) ⟨_,aW _ rfl,rfl⟩
end
structure ZD(z TI TO i1 i2:Addr):Prop where
 a:TI≠z
 b:TO≠z
 c:i1≠z
 d:i2≠z
 e:TI≠TO
 f:TI≠i1
 g:TI≠i2
 h:TO≠i1
 i:TO≠i2
 j:i1≠i2
section
variable{prog:a0}{w:bh}{A:bo}{s:Sd}{z TI TO i1 i2:Ad}{x y a b:vL}{S1 S2:bg->Prop}
open Builtin.SmallTypes
def KB(l:Li Ad)(h h':bg):Prop:=∀ c o,c∉l->h.get? c=aa o->h'.get? c=aa o
def KB.of{l:Li Ad}{p:Ad}(k:Heap.SameBut p h h')(m:p∈l):KB l h h':=λc o n e=>k.extBut c o (λq=>n (q ▸ m)) e
def KB.trans{l:Li Ad}{d b a:bg}(x:KB l d b)(y:KB l b a):KB l d a:=λc o n e=>y c o n (x c o n e)
def Zg6{TO:Ad}:z∈[z,TO,i1,i2]/\TO∈[z,TO,i1,i2]/\i1∈[z,TO,i1,i2]/\i2∈[z,TO,i1,i2]:=⟨.head _,.tail _ (.head _),.tail _ (.tail _ (.head _)),.tail _ (.tail _ (.tail _ (.head _)))⟩
def Nx(prog:a0)(w:bh)(A:bo)(s:Sd)(l:Li Ad)(i:Ad)(x:vL)(S:bg->Prop):Prop:=
 ∀ (h:bg) (Q E:vL->Sd->Prop),KB l s.heap h->(∀ h',S h'->Heap.SameBut i h h'->Q x { s with heap:=h' })->ay (az prog w) A (nextOf (.ref i)) Q E { s with heap:=h }
def Nz(prog:a0)(w:bh)(A:bo)(s:Sd)(l:Li Ad)(i:Ad):Prop:=
 ∀ (h:bg) (Q E:vL->Sd->Prop),KB l s.heap h->(∀ h' e,Heap.ExtBut i h h'->(∃ o,h'.get? e=aa o/\o.cls=.type "StopIteration")->E (.ref e) { s with heap:=h' })->ay (az prog w) A (nextOf (.ref i)) Q E { s with heap:=h }
def Zd8{Q:vL->Sd->Prop}(d:ZD z TI TO i1 i2)(r:IsZip s.heap z TI TO .none)(hI:IsPair s.heap TI (.ref i1) (.ref i2))(hO:IsPair s.heap TO a b)(V:Nx prog w A s [z] i1 x S1)(U:Nx prog w A s [z,TO,i1] i2 y S2)(Z:∀ h h',S1 h->(∀ o,h.get? i1=aa o->h'.get? i1=aa o)->S1 h')(Y:∀ h h',S2 h->(∀ o,h.get? i2=aa o->h'.get? i2=aa o)->S2 h')(hQ:∀ h',IsZip h' z TI TO (rawInt s.heap.objs.size)->IsPair h' TO x y->S1 h'->S2 h'->IsPair h' s.heap.objs.size x y->KB [z,TO,i1,i2] s.heap h'->Q (.ref s.heap.objs.size) { s with heap:=h' }) :
  ay (az prog w) A (Builtin.«zip.__next__» ⟨[.ref z],[]⟩) (λF T=>∃ v,F=.done (.ret v)/\Q v T) E s:=by
 obtain⟨N,M,X,W⟩:=Zg6 (z:=z) (TO:=TO) (i1:=i1) (i2:=i2);show ay _ _ (field (.ref z) 2 >>= _) _ _ _;refine aA (wpAny_field r rfl (x:=.bool ae) rfl (aA (wpAny_field r rfl (x:=.ref TI) rfl (aA (wpAny_seqItems hI rfl ?_)))));show ay _ _ (ownedTupleIsFree (.ref z) >>= _) _ _ _;unfold ownedTupleIsFree;refine aA (aA (wpAny_field r rfl (x:=.none) rfl (aE ?_)))
 simp only[if_true];refine aA (wpAny_rule (aA (wpAny_field r rfl (x:=.ref TO) rfl (aA (wpAny_setField_rec r (by simp) λg1 S p=>aA ?_)))))
 simp only[List.zipIdx_cons,List.zipIdx_nil,cZ,List.forIn_nil];refine aA (aA (wpAny_onRaise ?_));show ay _ _ (nextOf (.ref i1) >>= _) _ _ _;have K1:KB [z] s.heap g1:=KB.of p (.head _);refine aA (V g1 _ _ K1 λg2 P m=>aE ?_)
 have o2:IsPair g2 TO a b:=m.extBut _ _ d.h (p.extBut _ _ d.b hO);refine aA (wpAny_seqItems o2 rfl (aA (wpAny_updateSeq_pair o2 λD o3 l=>aA (wpAny_letGo (aE ?_)))))
 have o3:IsPair D TO x b:=o3;refine aA (aA (wpAny_onRaise ?_));show ay _ _ (nextOf (.ref i2) >>= _) _ _ _;have K3:KB [z,TO,i1] s.heap D:=(KB.of p (.head _)).trans ((KB.of m (.tail _ (.tail _ (.head _)))).trans (KB.of l (.tail _ (.head _))));refine aA (U D _ _ K3 λg4 O k=>aE ?_)
 have L:IsPair g4 TO x b:=k.extBut _ _ d.i o3;refine aA (wpAny_seqItems L rfl (aA (wpAny_updateSeq_pair L λf u g=>aA (wpAny_letGo (aE (aE ?_))))))
 have u:IsPair f TO x y:=u;refine aA (wpAny_seqItems u rfl (aA (wpAny_newTuple ?_)));have K4:KB [z,TO,i1,i2] s.heap f:=((KB.of p N).trans ((KB.of m X).trans ((KB.of l M).trans ((KB.of k W).trans (KB.of g M)))));have sz:f.objs.size=s.heap.objs.size:=by rw[g.1,k.1,l.1,m.1,p.1]
 have H:IsZip f z TI TO .ellipsis:=g.extBut _ _ d.b.symm (k.extBut _ _ d.d.symm (l.extBut _ _ d.b.symm (m.extBut _ _ d.c.symm S)));have G:=aJ H;show ay _ _ (ownedTupleHandOut (.ref z) (.ref f.objs.size) >>= _) _ _ _;unfold ownedTupleHandOut;have R:IsZip (f.push { cls:=.type "tuple",data:=.seq #[x,y] }) z TI TO .ellipsis:=aL _ H;refine aA (aA (wpAny_setField_rec R (by simp) λg7 C J=>?_))
 have C:IsZip g7 z TI TO (rawInt f.objs.size):=C;refine wpAny_setField_rec C (by simp) λB t I=>aE ⟨_,rfl,?_⟩
 have t:IsZip B z TI TO (rawInt f.objs.size):=t;have up:∀ c o,c≠z->f.get? c=aa o->B.get? c=aa o:=λc o n e=>I.extBut _ _ n (J.extBut _ _ n (aL _ e))
 have K:IsPair B f.objs.size x y:=I.extBut _ _ (Nat.ne_of_gt G) (J.extBut _ _ (Nat.ne_of_gt G) (aW _ rfl));show Q (.ref f.objs.size) _;rw[sz]at t K ⊢;exact hQ B t (up _ _ d.b u) (Z _ _ P λo e=>up _ _ d.c (g.extBut _ _ d.h.symm (k.extBut _ _ d.j (l.extBut _ _ d.h.symm e)))) (Y _ _ O λo e=>up _ _ d.d (g.extBut _ _ d.i.symm e)) K (K4.trans λc o n e=>up c o (λq=>n (q ▸ N)) e)
def Zcm{Q:Fin->Sd->Prop}(d:ZD z TI TO i1 i2)(m:IsZip s.heap z TI TO .none)(T:IsPair s.heap TI (.ref i1) (.ref i2))(R:IsPair s.heap TO a b)(n:Nz prog w A s [z] i1\/∃ x S,Nx prog w A s [z] i1 x S/\Nz prog w A s [z,TO,i1] i2)(U:∀ h' e,KB [z,TO,i1,i2] s.heap h'->(∃ o,h'.get? e=aa o/\o.cls=.type "StopIteration")->E (.ref e) { s with heap:=h' }):ay (az prog w) A (Builtin.«zip.__next__» ⟨[.ref z],[]⟩) Q E s:=by
 obtain⟨y,P,H,O⟩:=Zg6 (z:=z) (TO:=TO) (i1:=i1) (i2:=i2);show ay _ _ (field (.ref z) 2 >>= _) _ _ _;refine aA (wpAny_field m rfl (x:=.bool ae) rfl (aA (wpAny_field m rfl (x:=.ref TI) rfl (aA (wpAny_seqItems T rfl ?_)))));show ay _ _ (ownedTupleIsFree (.ref z) >>= _) _ _ _;unfold ownedTupleIsFree;refine aA (aA (wpAny_field m rfl (x:=.none) rfl (aE ?_)))
 simp only[if_true];refine aA (wpAny_rule (aA (wpAny_field m rfl (x:=.ref TO) rfl (aA (wpAny_setField_rec m (by simp) λg1 p j=>aA ?_)))))
 simp only[List.zipIdx_cons,List.zipIdx_nil,cZ,List.forIn_nil];refine aA (aA (wpAny_onRaise ?_));show ay _ _ (nextOf (.ref i1) >>= _) _ _ _;have p:IsZip g1 z TI TO .ellipsis:=p;have J:KB [z] s.heap g1:=KB.of j (.head _);have l:∀ {g:bg}{e:Ad},IsZip g z TI TO .ellipsis->KB [z,TO,i1,i2] s.heap g->(∃ o,g.get? e=aa o/\o.cls=.type "StopIteration")->∀ v,Heap.SameBut z g v->E (.ref e) { s with heap:=v }:=λ{g e} u k ⟨o,B,I⟩ v t=>by
  have L:e≠z:=λq=>by subst q;rw[u]at B;cases B;simp at I
  exact U v e (k.trans (KB.of t y)) ⟨o,t.extBut _ _ L B,I⟩
 rcases n with n|⟨x,S,N,M⟩
 .refine aA (n g1 _ _ J λg2 e f C=>?_)
  have F:IsZip g2 z TI TO .ellipsis:=f _ _ d.c.symm p;exact wpAny_setField_rec F (by simp) λr _ i=>l F ((KB.of j y).trans λc o n e=>f c o (λq=>n (q ▸ H)) e) C r i
 .refine aA (N g1 _ _ J λg2 Y f=>aE ?_)
  have o2:IsPair g2 TO a b:=f.extBut _ _ d.h (j.extBut _ _ d.b R);refine aA (wpAny_seqItems o2 rfl (aA (wpAny_updateSeq_pair o2 λr o3 i=>aA (wpAny_letGo (aE ?_)))))
  refine aA (aA (wpAny_onRaise ?_));show ay _ _ (nextOf (.ref i2) >>= _) _ _ _;have X:KB [z,TO,i1] s.heap r:=(KB.of j (.head _)).trans ((KB.of f (.tail _ (.tail _ (.head _)))).trans (KB.of i (.tail _ (.head _))));refine aA (M r _ _ X λW e G C=>?_)
  have D:IsZip W z TI TO .ellipsis:=G _ _ d.d.symm (i.extBut _ _ d.b.symm (f.extBut _ _ d.c.symm p));exact wpAny_setField_rec D (by simp) λV _ K=>l D ((KB.of j y).trans ((KB.of f H).trans ((KB.of i P).trans λc o n e=>G c o (λq=>n (q ▸ O)) e))) C V K
end
structure ZSt(z TI TO i1 i2 a b:Addr)(i:Nat)(h:bg):Prop where
 hz:IsZip h z TI TO .none
 hI:IsPair h TI (.ref i1) (.ref i2)
 hO:∃ u v,IsPair h TO u v
 h1:h.IsTupleIter i1 a i
 h2:h.IsTupleIter i2 b i
def Js{TI TO b a c:Ad}(h:c∈[z,TO,b,a]):c∈[z,TI,TO,b,a]:=by
 rcases aF.mp h with rfl|h
 .exact .head _
 .exact .tail _ (.tail _ h)
def Jt{TI TO e d a b c:Ad}(st:ZSt z TI TO e d a b i h)(f:c∈[z,TI,TO,e,d]):∃ o,h.get? c=aa o/\∀ v,o.data≠.cell v:=by
 obtain⟨g,k,⟨u,v,j⟩,⟨n,g1,_,m⟩,⟨o2,g2,_,l⟩⟩:=st;simp only[aF,aV,or_false]at f;rcases f with rfl|rfl|rfl|rfl|rfl
 .exact⟨_,g,λv q=>by cases (show Data.fields _=Data.cell v from q)⟩
 .exact⟨_,k,λv q=>by cases (show Data.seq _ _=Data.cell v from q)⟩
 .exact⟨_,j,λv q=>by cases (show Data.seq _ _=Data.cell v from q)⟩
 .exact⟨_,g1,λv q=>by rw[m]at q;cases q⟩
 .exact⟨_,g2,λv q=>by rw[l]at q;cases q⟩
def Zem{s:Sd}{a c:Ad}(I:L2.Inv X pQ O H s)(f:FpOk X pQ H c)(h:(∃ o,H a=aa o)\/∃ o,X.K.lookup a=aa o):a≠c:=λq=>by
 subst q;rcases h with⟨o,h⟩|⟨o,h⟩
 .rw[f.1]at h;cases h
 .have b:=I.ok.mod.kin a o h
  rcases f.2.2.2.1 with g|g
  .exact I.ok.noex a o b g
  .exact aq (aJ (I.ok.bs a o b).1) (Nat.not_lt.mpr g)
def Zb6{K:Fg}{a:Ad}{b:Li V}(h:SqT K H a b):(∃ o,H a=aa o)\/∃ o,K.lookup a=aa o:=by
 rcases h with(h|⟨o,h⟩)|⟨o,c,n,h,_⟩
 .exact .inl ⟨_,h⟩
 .exact .inl ⟨_,h⟩
 .exact .inr ⟨_,h⟩
theorem Uz{s:Sd}{TI TO:Ad}{Q:Ot vL->Sd->Prop}(g:IsZip s.heap z TI TO .none)(h:∀ {d:Fin->Sd->Prop}{f:vL->Sd->Prop},(∀ v a,Q (aa v) a->d (.done (.ret v)) a)->(∀ e a,(∃ o,a.heap.get? e=aa o/\o.cls=.type "StopIteration")->Q ab a->f (.ref e) a)->ay (az prog w) A.in1 (Builtin.«zip.__next__» ⟨[.ref z],[]⟩) d f s):ay (az prog w) A (pyNext (.ref z)) Q E s:=by
 have c:s.TypeIs (.ref z) "zip":=⟨_,g,rfl⟩;unfold pyNext;refine aA (wpAny_attempt (wpAny_callSpecial?_slot (name:=Str.ofString "__next__") c F.slot_zip_next (wpAny_call_entry F.slot_zip_next c F.entry_zip_next (h (λv a q=>⟨v,rfl,aE q⟩) λe a j q=>?_) (F.args_zip_next_1 _))))
 obtain⟨o,i,k⟩:=j;exact aA (wpAny_isInstance (T := "StopIteration") (b:=ac) ⟨o,i,k⟩ isSubtype_stop (aE q))
section
variable{X:Cx}{z TI TO i1 i2 a b:Ad}{i:Nat}{pQ:Li (Ad×Obj)}{s:Sd}{O:L2.St}{H:Hp}{E:vL->Sd->Prop}
def nl{l:Li Ad}{c:Ad}(h:∀ d∈l,c≠d):c∉l:=λm=>h c m rfl
def Zcn(d:ZD z TI TO i1 i2)(S:X.calm=ac)(I:L2.Inv X pQ O H s)(F:∀ c∈[z,TI,TO,i1,i2],FpOk X pQ H c)(st:ZSt z TI TO i1 i2 a b i s.heap){L:Li V}(C:SqT X.K H a L)(B:SqT X.K H b ys){g f:Li vL}(M:s.heap.IsTuple a g.toArray)(p2:s.heap.IsTuple b f.toArray) :
  (∀ u,g.toArray[i]?=aa u->Nx X.prog X.w X.A.in1 s [z] i1 u λh=>h.IsTupleIter i1 a (i+1))/\(g.toArray[i]?=ab->Nz X.prog X.w X.A.in1 s [z] i1)/\(∀ u,f.toArray[i]?=aa u->Nx X.prog X.w X.A.in1 s [z,TO,i1] i2 u λh=>h.IsTupleIter i2 b (i+1))/\(f.toArray[i]?=ab->Nz X.prog X.w X.A.in1 s [z,TO,i1] i2):=by
 have P:∀ {c},c∈[z,TI,TO,i1,i2]->a≠c:=λm=>Zem I (F _ m) (Zb6 C)
 have N:∀ {c},c∈[z,TI,TO,i1,i2]->b≠c:=λm=>Zem I (F _ m) (Zb6 B)
 have R:z∈[z,TI,TO,i1,i2]:=.head _;have J:∀ h,KB [z] s.heap h->h.IsTupleIter i1 a i/\h.IsTuple a g.toArray:=λh k=>⟨st.h1.at λo e=>k _ o (nl λc m=>by rw[aR.mp m];exact d.c) e,M.at λo e=>k _ o (nl λc m=>by rw[aR.mp m];exact P R) e⟩
 have G:∀ h,KB [z,TO,i1] s.heap h->h.IsTupleIter i2 b i/\h.IsTuple b f.toArray:=λh k=>⟨st.h2.at λo e=>k _ o (nl λc m=>by
   simp only[aF,aV,or_false]at m;rcases m with rfl|rfl|rfl
   .exact d.d
   .exact d.i.symm
   .exact d.j.symm) e,p2.at λo e=>k _ o (nl λc m=>N (by
   simp only[aF,aV,or_false]at m ⊢;rcases m with rfl|rfl|rfl
   .exact .inl rfl
   .exact .inr (.inr (.inl rfl))
   .exact .inr (.inr (.inr (.inl rfl))))) e⟩
 have y:X.A.in1.handled=ab:=I.ok.hd S;refine⟨λu n h Q E k p=>?_,λn h Q E k p=>?_,λu n h Q E k p=>?_,λn h Q E k p=>?_⟩
 .obtain⟨r,q⟩:=J h k
  exact YC (s:={ s with heap:=h }) y r q (λx l ex v t=>by rw[n]at ex;cases ex;exact p l v t) λex=>by rw[n]at ex;cases ex
 .obtain⟨r,q⟩:=J h k
  exact YC (s:={ s with heap:=h }) y r q (λx l ex v t=>by rw[n]at ex;cases ex) λ_ l e t D=>p l e t D
 .obtain⟨r,q⟩:=G h k
  exact YC (s:={ s with heap:=h }) y r q (λx l ex v t=>by rw[n]at ex;cases ex;exact p l v t) λex=>by rw[n]at ex;cases ex
 .obtain⟨r,q⟩:=G h k
  exact YC (s:={ s with heap:=h }) y r q (λx l ex v t=>by rw[n]at ex;cases ex) λ_ l e t D=>p l e t D
def Zcl(d:ZD z TI TO i1 i2)(hc:X.calm=ac)(I:L2.Inv X pQ O H s)(D:∀ c∈[z,TI,TO,i1,i2],FpOk X pQ H c)(st:ZSt z TI TO i1 i2 a b i s.heap)(hg:(Itz X.K a b).go i H) :
  ay (az X.prog X.w) X.A (pyNext (.ref z)) (λr s1=>∃ u,r=aa u/\ay (az X.prog X.w) X.A (letOwnedTupleGo (.Tuple elts kk pos) (.ref z) u) (λ_ L=>∃ x H',L2.Inv X pQ O H' L/\RelV x u/\(Itz X.K a b).yld i H x H'/\ZSt z TI TO i1 i2 a b (i+1) L.heap/\∀ c∈[z,TI,TO,i1,i2],H' c=ab) E s1) E s:=by
 obtain⟨xs,ys,x,y,p,l,ex,N⟩:=hg;obtain⟨B,V,W,_⟩:=I.tuple p;obtain⟨t,U,p2,_⟩:=I.tuple l;obtain⟨Z,_,Y,_⟩:=Zcn d hc I D st p l W p2;obtain⟨u,F,T⟩:=V.get ex;obtain⟨v,ev,rv⟩:=U.get N;have F:B.toArray[i]?=aa u:=by rw[dO];exact F
 have ev:t.toArray[i]?=aa v:=by rw[dO];exact ev
 obtain⟨oa,ob,hO⟩:=st.hO;refine Uz st.hz λ{Qf Ef} hq _=>bG (Zd8 d st.hz st.hI hO (Z u F) (Y v ev) (λh h' q k=>q.at k) (λh h' q k=>q.at k) (Q:=λr s1=>Qf (.done (.ret r)) s1) (E:=Ef) λg a1 a2 a3 a4 a5 M=>hq _ _ ⟨_,rfl,?_⟩) (λr s1 ⟨v,e,q⟩=>by rw[e];exact q) λ_ _ e=>e
 refine wpAny_letOwnedTupleGo_zip (s:={ s with heap:=g }) a1 λg2 b1 J=>?_
 have hT:s.heap.objs.size<=s.heap.objs.size:=aD _;have G:∀ c∈[z,TI,TO,i1,i2],c≠s.heap.objs.size:=λc j q=>by
  obtain⟨o,e,_⟩:=Jt st j;exact aq (aJ e) (by rw[q];exact bS _)
 have C:KB [z,TO,i1,i2] s.heap g2:=M.trans (KB.of J (.head _));have S:s.heap.objs.size≠z:=λq=>G z (.head _) q.symm
 have up:∀ c o,c≠z->g.get? c=aa o->g2.get? c=aa o:=λc o n e=>J.extBut c o n e
 have I2:L2.Inv X pQ O (upd H s.heap.objs.size (.tup [x,y])) { s with heap:=g2,toks:=s.toks }:=Xd (wr:=[z,TO,i1,i2]) I (λc j=>D c (Js j)) (λc o n e=>C c o n e) hT ⟨show 2<=av by decide,[u,v],.cons T (.cons rv .nil),⟨_,up _ _ S a5,rfl,_,rfl⟩⟩
 have fr:H s.heap.objs.size=ab:=I.hok.fresh (aD _);refine⟨.ref s.heap.objs.size,upd H s.heap.objs.size (.tup [x,y]),I2,rfl,⟨_,x,y,rfl,fr,rfl,λR q=>by rw[I.tuple_inj q p];exact ex,λP q=>by rw[I.tuple_inj q l];exact N⟩,⟨b1,up _ _ d.a (M _ _ (nl λc m=>?_) st.hI),⟨_,_,up _ _ d.b a2⟩,a3.at λo e=>up _ o d.c e,a4.at λo e=>up _ o d.d e⟩,λc j=>?_⟩
 .simp only[aF,aV,or_false]at m
  rcases m with rfl|rfl|rfl|rfl
  .exact d.a
  .exact d.e
  .exact d.f
  .exact d.g
 .rw[upd_ne (G c j)]
  exact(D c j).1
def Zck(d:ZD z TI TO i1 i2)(M:X.calm=ac)(I:L2.Inv X pQ O H s)(m:∀ c∈[z,TI,TO,i1,i2],FpOk X pQ H c)(st:ZSt z TI TO i1 i2 a b i s.heap)(J:(Itz X.K a b).stop i H) :
  ay (az X.prog X.w) X.A (pyNext (.ref z)) (λr s1=>r=ab/\L2.Inv X pQ O H s1) E s:=by
 obtain⟨Q,ys,h,f,G⟩:=J;obtain⟨j,y,B,_⟩:=I.tuple h;obtain⟨l,v,p2,_⟩:=I.tuple f;obtain⟨C,t,U,p⟩:=Zcn d M I m st h f B p2;obtain⟨T,R,N⟩:=st.hO;have W:=y.length;have V:=v.length;have P:Nz X.prog X.w X.A.in1 s [z] i1\/∃ x S,Nx X.prog X.w X.A.in1 s [z] i1 x S/\Nz X.prog X.w X.A.in1 s [z,TO,i1] i2:=by
  cases q:j.toArray[i]? with
  |none=>exact .inl (t q)
  |some u=>
   rw[dO,bJ]at q;refine .inr ⟨u,_,C u (by rw[dO,bJ];exact q),p ?_⟩
   rw[dO,eK];have:=q.1;omega
 exact Uz st.hz λ{Y Z} _ L=>Zcm d st.hz st.hI N P λg e D F=>L e _ F ⟨rfl,XV (t':=s.toks) (wr:=[z,TO,i1,i2]) I (λc k=>m c (Js k)) λc o n e=>D c o n e⟩
end
def Zce{P:a0}{K:Fg}(z TI TO j g a b:Ad)(d:ZD z TI TO j g):Turn P w K (.Tuple elts kk pos) (Itz K a b) [z,TI,TO,j,g] z (ZSt z TI TO j g a b) where
 mem:=.head _
 obj:=λi h st c f=>Jt st f
 keep:=λi h h' st k=>by
  obtain⟨r,x,⟨u,v,t⟩,A,y⟩:=st;exact⟨k z (.head _) _ r,k TI (.tail _ (.head _)) _ x,⟨u,v,k TO (.tail _ (.tail _ (.head _))) _ t⟩,A.at λo e=>k j (.tail _ (.tail _ (.tail _ (.head _)))) o e,y.at λo e=>k g (.tail _ (.tail _ (.tail _ (.tail _ (.head _))))) o e⟩
 item:=λX p l q f i pQ s O H E I n st m=>by
  subst p l q;exact Zcl d f I n st m
 done:=λX p l q f i pQ s O H E I n st m=>by
  subst p l q;exact Zck d f I n st m
 self:=λ_ _ _ _ _ st h=>wpAny_pyIter_zip st.hz h
def Ze6:a7 "zip"=aa (.type "zip"):=by decide +kernel
def U7(a b:Ad)(k ys:Array vL) :
  Meets (Builtin.«zip.__new__» ⟨[.type "zip",.ref a,.ref b],[]⟩) (λ_ R s=>s.heap.IsTuple a k/\s.heap.IsTuple b ys/\∀ h',h'=((((s.heap.push { cls:=.type "tuple_iterator",data:=.fields #[.ref a,.int 0 0] }).push { cls:=.type "tuple_iterator",data:=.fields #[.ref b,.int 0 0] }).push { cls:=.type "tuple",data:=.seq #[.ref s.heap.objs.size,.ref (s.heap.push { cls:=.type "tuple_iterator",data:=.fields #[.ref a,.int 0 0] }).objs.size] }).push { cls:=.type "tuple",data:=.seq #[.none,.none] })->
   R (.ok (.ret (.ref h'.objs.size))) { s with heap:=h'.push { cls:=.type "zip",data:=.fields #[.none,.bool ae,.bool ae,.ref ((s.heap.push { cls:=.type "tuple_iterator",data:=.fields #[.ref a,.int 0 0] }).push { cls:=.type "tuple_iterator",data:=.fields #[.ref b,.int 0 0] }).objs.size,.ref (((s.heap.push { cls:=.type "tuple_iterator",data:=.fields #[.ref a,.int 0 0] }).push { cls:=.type "tuple_iterator",data:=.fields #[.ref b,.int 0 0] }).push { cls:=.type "tuple",data:=.seq #[.ref s.heap.objs.size,.ref (s.heap.push { cls:=.type "tuple_iterator",data:=.fields #[.ref a,.int 0 0] }).objs.size] }).objs.size] } }):=
 .of_wp λprog w A R s h=>by
  obtain⟨p,g,d,l,m⟩:=s;obtain⟨f,c,h⟩:=h;have n:=sub_zip;have j:Heap.IsTuple (Shared.heap ⟨p,g,d,l,m⟩) a k:=f;have i:Heap.IsTuple (Shared.heap ⟨p.push { cls:=.type "tuple_iterator",data:=.fields #[.ref a,.int 0 0] },g,d,l,m⟩) b ys:=c.at λo e=>aL _ e
  wp_walk using wpAny_pyIter_tuple j,wpAny_pyIter_tuple i
  exact⟨_,rfl,h _ rfl⟩
theorem JH{s:Sd}{i f:Ad}{t ys:Array vL}{Q:vL->Sd->Prop}(r:s.heap.IsTuple i t)(q:s.heap.IsTuple f ys)(h:∀ h',ZSt (s.heap.objs.size+4) (s.heap.objs.size+2) (s.heap.objs.size+3) s.heap.objs.size (s.heap.objs.size+1) i f 0 h'->(∀ c o,s.heap.get? c=aa o->h'.get? c=aa o)->Q (.ref (s.heap.objs.size+4)) { s with heap:=h' }) :
  ay (az prog w) A (call (.type "zip") [.ref i,.ref f]) Q E s:=by
 refine callType_new F.called_zip (by decide) (F.typeCall_zip_2 _ _) (F.newCall_zip_2 _ _) (λobj=>F.args_object_init_3 obj _ _) F.entry_zip_new (U7 i f t ys) ⟨r,q,λh' e=>?_⟩
 have k:∀ (g:bg) (o:Obj),(g.push o).objs.size=g.objs.size+1:=λg o=>Heap.size_push ..
 generalize d:s.heap.push { cls:=.type "tuple_iterator",data:=.fields #[.ref i,.int 0 0] }=g1 at e;generalize b:g1.push { cls:=.type "tuple_iterator",data:=.fields #[.ref f,.int 0 0] }=g2 at e;generalize a:g2.push { cls:=.type "tuple",data:=.seq #[.ref s.heap.objs.size,.ref g1.objs.size] }=g3 at e;have s1:g1.objs.size=s.heap.objs.size+1:=by rw[<-d,k]
 have p:g2.objs.size=s.heap.objs.size+2:=by rw[<-b,k,s1]
 have n:g3.objs.size=s.heap.objs.size+3:=by rw[<-a,k,p]
 have v:h'.objs.size=s.heap.objs.size+4:=by rw[e,k,n]
 have H:g1.get? s.heap.objs.size=aa { cls:=.type "tuple_iterator",data:=.fields #[.ref i,.int 0 0] }:=by rw[<-d];exact aW _ rfl
 have G:g2.get? (s.heap.objs.size+1)=aa { cls:=.type "tuple_iterator",data:=.fields #[.ref f,.int 0 0] }:=by rw[<-b,<-s1];exact aW _ rfl
 have D:IsPair g3 (s.heap.objs.size+2) (.ref s.heap.objs.size) (.ref (s.heap.objs.size+1)):=by rw[<-a,<-p,<-s1];exact aW _ rfl
 have C:IsPair h' (s.heap.objs.size+3) .none .none:=by rw[e,<-n];exact aW _ rfl
 have u:∀ c o,g1.get? c=aa o->g2.get? c=aa o:=λc o x=>by rw[<-b];exact aL _ x
 have m:∀ c o,g2.get? c=aa o->g3.get? c=aa o:=λc o x=>by rw[<-a];exact aL _ x
 have l:∀ c o,g3.get? c=aa o->h'.get? c=aa o:=λc o x=>by rw[e];exact aL _ x
 have j:∀ {c:Ad}{o:Obj} (z:Obj),h'.get? c=aa o->(h'.push z).get? c=aa o:=λz x=>aL _ x
 have B:∀ c o,s.heap.get? c=aa o->g1.get? c=aa o:=λc o x=>by rw[<-d];exact aL _ x
 show _/\_;rw[p,n];have y:IsZip (h'.push { cls:=.type "zip",data:=.fields #[.none,.bool ae,.bool ae,.ref (s.heap.objs.size+2),.ref (s.heap.objs.size+3)] }) (s.heap.objs.size+4) (s.heap.objs.size+2) (s.heap.objs.size+3) .none:=by rw[<-v];exact aW _ rfl
 rw[v];exact⟨⟨_,y,rfl⟩,h _ ⟨y,j _ (l _ _ D),⟨_,_,j _ C⟩,⟨_,j _ (l _ _ (m _ _ (u _ _ H))),rfl,rfl⟩,⟨_,j _ (l _ _ (m _ _ G)),rfl,rfl⟩⟩ λc o x=>j _ (l _ _ (m _ _ (u _ _ (B _ _ x))))⟩
def ZfD{x y:aw}{u:TA}{p:Pos}(G:Gl X "zip")(F:X.mg "zip"=ab)(J:PA X [x,y] u)(t:[x,y].all Zg=ac):PI X (.Tuple elts kk tp) (.Call (.Name "zip" p) [x,y] [] pos) (ZgW X.K u):=by
 intro pQ s O H R I h;rw[bE,bE,Ba,Ba]at t;have e:a6 [y] X.env=[(ae,eval y X.env)]:=Zd t.2.1;have E:a6 [x,y] X.env=[(ae,eval x X.env),(ae,eval y X.env)]:=by rw[Zd t.1,e]
 refine Call_ (ld_blt I G F Ze6 (PyProof.Rows.callWith_type1 (thn (J pos pQ s O H _ I h) λN s1 ⟨vs,L,l,A,C⟩=>?_) (by rw[E,e]) (by rw[e];rfl)))
 obtain⟨a,b,rfl,⟨M,n⟩,⟨ys,m⟩,q⟩:=C;cases A with
 |cons r o=>
  cases o with
  |cons B o=>
   cases o;cases r;cases B;obtain⟨v,_,D,_⟩:=l.tuple n;obtain⟨f,_,p2,_⟩:=l.tuple m;have d:∀ {i j:Nat},i≠j->(s1.heap.objs.size+i:Nat)≠s1.heap.objs.size+j:=λh z=>h (Nat.add_left_cancel z)
   refine JH D (show s1.heap.IsTuple b f.toArray from p2) λh' st k=>wpAny_pyIter_zip st.hz ?_
   refine⟨s1.heap.objs.size+4,[s1.heap.objs.size+4,s1.heap.objs.size+2,s1.heap.objs.size+3,s1.heap.objs.size,s1.heap.objs.size+1],_,_,L,rfl,l.kept (t':=s1.toks) k,Zce _ _ _ _ _ a b ⟨d (i:=2) (j:=4) (by decide),d (i:=3) (j:=4) (by decide),d (i:=0) (j:=4) (by decide),d (i:=1) (j:=4) (by decide),d (i:=2) (j:=3) (by decide),d (i:=2) (j:=0) (by decide),d (i:=2) (j:=1) (by decide),d (i:=3) (j:=0) (by decide),d (i:=3) (j:=1) (by decide),d (i:=0) (j:=1) (by decide)⟩,st,λc g=>?_,q⟩
   have w:s1.heap.objs.size<=c:=by
    simp only[aF,aV,or_false]at g;rcases g with rfl|rfl|rfl|rfl|rfl
    .exact dP _ _
    .exact dP _ _
    .exact dP _ _
    .exact aD _
    .exact dP _ _
   exact l.fpOk w (l.hok.fresh w)
section
variable{prog:a0}{w:bh}{A:bo}{E:vL->Sd->Prop}{s:Sd}
open Sem (wp)
open AutoSeq1 (wpAny_loadPart')
def JM(f:A.handled=ab)(it l:Ad)(c:l≠it)(items:Array vL) :
  Draws prog w A it [it,l] items.size (λi v=>items[i]?=aa v) (λi h=>h.IsTupleIter it l i/\h.IsTuple l items) where
 live:=λ_ _ st=>let ⟨o,ho,_⟩:=st.1;⟨o,ho⟩
 frame:=λ_ _ _ st d=>⟨st.1.at λo e=>d it (by simp) o e,st.2.at λo e=>d l (by simp) o e⟩
 item:=λi s Q E g st j=>YC f st.1 st.2 (λx h' e b a=>j x h' s.toks e ⟨b,st.2.extBut a.extBut c⟩ a) λe=>aq e (by simp[g])
 done:=λs Q E st k=>YC f st.1 st.2 (λx h' e=>aq e (by simp)) λ_=>k
def Wx(l:Ad)(items:Array vL)(n:Nat)(dct:Ot Ad)(sl:Array (Ot vL)) :
  Meets (Builtin.«enumerate.__new__» ⟨[.type "enumerate",.ref l],[]⟩) (λ_ R s=>s.heap.get? l=aa { cls:=.type "tuple",dict:=dct,data:=.seq items n,slots:=sl } /\
   R (.ok (.ret (.ref (s.heap.push { cls:=.type "tuple_iterator",data:=.fields #[.ref l,.int 0 0] }).objs.size)))
    { s with heap:=(s.heap.push { cls:=.type "tuple_iterator",data:=.fields #[.ref l,.int 0 0] }).push { cls:=.type "enumerate",data:=.fields #[.none,.bool ae,.ref s.heap.objs.size,rawInt 0,.none,.none] } }):=
 .of_wp λprog w A R s h=>by
  obtain⟨j,g,d,f,i⟩:=s;obtain⟨a,h⟩:=h;have e:=sub_enumerate;have b:Heap.IsTuple (Shared.heap ⟨j,g,d,f,i⟩) l items:=⟨_,a,rfl,n,rfl⟩
  wp_walk using wpAny_loadPart' a
  refine wpAny_stack_any λst=>aE ?_
  split
  .rename_i c _ _ _ _ _
   cases (c==Value.type "enumerate")
   .wp_walk using wpAny_loadPart' a,wpAny_pyIter_tuple b
    exact⟨_,rfl,h⟩
   .wp_walk using wpAny_loadPart' a,wpAny_pyIter_tuple b
    exact⟨_,rfl,h⟩
  .wp_walk using wpAny_loadPart' a,wpAny_pyIter_tuple b
   exact⟨_,rfl,h⟩
def WO{l:Ad}{Q:vL->Sd->Prop}(i:s.heap.IsTuple l items)(h:∀ h',IsEnum h' (s.heap.objs.size+1) s.heap.objs.size 0 .none->h'.IsTupleIter s.heap.objs.size l 0->h'.objs.size=s.heap.objs.size+2->
   (∀ b o,s.heap.get? b=aa o->h'.get? b=aa o)->Q (.ref (s.heap.objs.size+1)) { s with heap:=h' }) :
  ay (az prog w) A (call (.type "enumerate") [.ref l]) Q E s:=by
 obtain⟨⟨c,dct,j,sl⟩,g,e,n,d⟩:=i;replace e:c=.type "tuple":=e;replace d:j=.seq items n:=d;subst e d;refine callType_new PySem.F.called_enumerate (by decide) (PySem.F.typeCall_enumerate_1 _) (PySem.F.newCall_enumerate_1 _) (λobj=>PySem.F.args_object_init_2 obj _) PySem.F.entry_enumerate_new
  (Wx l items n dct sl) ⟨g,?_⟩
 have a:(s.heap.push { cls:=.type "tuple_iterator",data:=.fields #[.ref l,.int 0 0] }).objs.size=s.heap.objs.size+1:=Heap.size_push ..;show _/\_;rw[a];have f:IsEnum ((s.heap.push { cls:=.type "tuple_iterator",data:=.fields #[.ref l,.int 0 0] }).push
   { cls:=.type "enumerate",data:=.fields #[.none,.bool ae,.ref s.heap.objs.size,rawInt 0,.none,.none] }) (s.heap.objs.size+1) s.heap.objs.size 0 .none:=by
  have:=aW (s.heap.push { cls:=.type "tuple_iterator",data:=.fields #[.ref l,.int 0 0] })
   (o:={ cls:=.type "enumerate",data:=.fields #[.none,.bool ae,.ref s.heap.objs.size,rawInt 0,.none,.none] }) rfl
  rw[a]at this;exact this
 refine⟨⟨_,f,rfl⟩,h _ f ⟨_,aL _ (aW _ rfl),rfl,rfl⟩ (by rw[Heap.size_push,a]) λb o x=>aL _ (aL _ x)⟩
end
def Ite(sq:Hp->Li V->Prop):It:=
 ⟨λi H=>∃ a x,sq H a/\a[i]?=aa x,λi H v H'=>∃ T x,v=.ref T/\H T=ab/\H'=upd H T (.tup [.int (i:Int),x])/\∀ a,sq H a->a[i]?=aa x,λi H=>∃ a,sq H a/\a.length=i⟩
def QQ(K:Fg)(d:TA):TI:=λO H R=>d O H λvs b=>∃ a,vs=[.ref a]/\(((∃ c,SqL K b a c)/\R (Ite λH=>SqL K H a) b)\/((∃ c,SqT K b a c)/\R (Ite λH=>SqT K H a) b))
def Va{P:a0}{K:Fg}{sq:Hp->Li V->Prop}{it1:Nat->bg->Prop}(e it a:Ad)(d:e≠it)(hi:∀ i h,it1 i h->∃ o,h.get? it=aa o/\∀ v,o.data≠.cell v)(hk:∀ i h h',it1 i h->(∀ o,h.get? it=aa o->h'.get? it=aa o)->it1 i h')(hD:∀ (X:Cx),X.prog=P->X.w=w->X.K=K->X.calm=ac->∀ (pQ:Li (Ad×Obj)) (s:Sd) (O:L2.St) (H:Hp) (i:Nat) (j:Li V),L2.Inv X pQ O H s->(∃ f,IsEnum s.heap e it i f)->it1 i s.heap->sq H j->
   (∀ ys,sq H ys->ys=j)/\∃ (b:Li vL) (N:bg->Prop),Vals j b/\a≠e/\N s.heap/\Draws P w X.A.in1 it [it,a] b.toArray.size (λi v=>b.toArray[i]?=aa v) (λi h=>it1 i h/\N h)) :
  Turn P w K (.Tuple elts kk pos) (Ite sq) [e,it] e (λi h=>(∃ f,IsEnum h e it i f)/\it1 i h) where
 mem:=by simp
 obj:=λi h st c p=>by
  obtain⟨⟨f,m⟩,M⟩:=st;simp only[aF,aV,or_false]at p;rcases p with rfl|rfl
  .exact⟨_,m,λv q=>by cases (show Data.fields _=Data.cell v from q)⟩
  .exact hi i h M
 keep:=λi h h' st k=>by
  obtain⟨⟨f,m⟩,M⟩:=st;exact⟨⟨f,k e (by simp) _ m⟩,hk i h h' M λo g=>k it (by simp) o g⟩
 item:=by
  intro X G C J p i pQ s O H E I Q st Z;obtain⟨j,x,Y,ex⟩:=Z;obtain⟨l,b,N,r,U,S,D⟩:=hD X G C J p pQ s O H i j I st.1 st.2 Y;subst G C J;have W:=WalksT.enumerateD D e d (by simp only[aF,aV,or_false];exact λq=>q.elim d λq=>U q.symm) (by simp)
  have l1:=r.length;have ix:i < j.length:=(bJ.mp ex).1;refine W.item i s _ _ (by simp;omega) ⟨st.1,st.2,S⟩ λT vals h' tk hv hT tup B k1=>?_
  obtain⟨t,u,eu,rfl⟩:=hv;refine⟨.ref T,rfl,W.go elts kk pos i T _ _ _ B λL z k2=>?_⟩
  have nT:=W.apart i T h' B;have ru:RelV x u:=by
   obtain⟨u',R,e2⟩:=r.get ex;have:b[i]?=aa u:=by simpa using eu
   rw[this]at R;cases R;exact e2
  have y:L.IsTuple T #[.int i t,u]:=tup.at λo g=>k2 T o nT g
  have I2:L2.Inv X pQ O (upd H T (.tup [.int (i:Int),x])) { s with heap:=L,toks:=tk }:=Xd (wr:=[e,it]) I Q (λc o F g=>k2 c o F (k1 c o F g)) hT ⟨show 2<=av by decide,[.int i t,u],.cons ⟨t,rfl⟩ (.cons ru .nil),y⟩
  refine⟨.ref T,_,I2,rfl,⟨T,x,rfl,I.hok.fresh hT,rfl,λxs' q=>by rw[l _ q];exact ex⟩,⟨z.1,z.2.1⟩,λc n=>?_⟩
  have:c≠T:=λq=>by
   have lt:∀ {o},s.heap.get? c=aa o->False:=λg=>aq (aJ g) (Nat.not_lt.mpr (by rw[q];exact hT))
   obtain⟨⟨_,m⟩,M⟩:=st;obtain⟨_,g,_⟩:=hi _ _ M;simp only[aF,aV,or_false]at n;rcases n with rfl|rfl
   .exact lt m
   .exact lt g
  rw[upd_ne this];exact(Q c n).1
 done:=by
  intro X G C J p i pQ s O H E I Q st Z;obtain⟨j,Y,hle⟩:=Z;obtain⟨l,b,N,r,U,S,D⟩:=hD X G C J p pQ s O H i j I st.1 st.2 Y;subst G C J;have W:=WalksT.enumerateD D e d (by simp only[aF,aV,or_false];exact λq=>q.elim d λq=>U q.symm) (by simp)
  have l1:=r.length;have R:i=b.toArray.size:=by simp;omega
  subst R;exact W.done s _ _ ⟨st.1,st.2,S⟩ λh' tk k=>⟨rfl,XV (wr:=[e,it]) I Q k⟩
 self:=λ_ _ _ _ _ st h=>let ⟨⟨_,m⟩,_⟩:=st;wpAny_pyIter_enum m h
def Uo{e it:Ad}{i:Int}{d:vL}{a:Ad}{o:Obj}{n:String}(b:IsEnum h e it i d)(g:h.get? a=aa o)(c:o.cls=.type n)(f:¬n = "enumerate"):a≠e:=λq=>by
 subst q;have b:h.get? a=aa _:=b;rw[g]at b;cases b;exact ZbA c λz=>f z.symm
def Up{a b:Ad}{o u:Obj}{n m:String}(g:h.get? a=aa o)(c:o.cls=.type n)(g2:h.get? b=aa u)(d:u.cls=.type m)(e:¬n=m):a≠b:=λq=>by
 subst q;rw[g]at g2;cases g2;rw[c]at d;exact ZbA d e
def ZcH:a7 "enumerate"=aa (.type "enumerate"):=by decide +kernel
def Zdv{x:aw}{E:TA}{p:Pos}(P:Gl X "enumerate")(N:X.mg "enumerate"=ab)(Q:PA X [x] E)(M:a6 [x] X.env=[(ae,eval x X.env)]):PI X (.Tuple elts kk tp) (.Call (.Name "enumerate" p) [x] [] pos) (QQ X.K E):=by
 intro pQ s O H R I h;refine Call_ (ld_blt I P N ZcH (PyProof.Rows.callWith_type1 (thn (Q pos pQ s O H _ I h) λS s1 ⟨vs,D,l,J,L⟩=>?_) M rfl))
 obtain⟨a,rfl,q⟩:=L;have F:∀ c∈[s1.heap.objs.size+1,s1.heap.objs.size],FpOk X pQ D c:=λc m=>by
  have j:s1.heap.objs.size<=c:=by
   simp only[aF,aV,or_false]at m;rcases m with rfl|rfl
   .exact dP _ _
   .exact aD _
  exact l.fpOk j (l.hok.fresh j)
 cases J with
 |cons r G=>
  cases G;cases r;rcases q with⟨⟨n,sq⟩,q⟩|⟨⟨n,sq⟩,q⟩
  .obtain⟨b,_,t,_⟩:=l.list sq
   refine call_enumerate_list t.isList λh' d e y k=>wpAny_pyIter_enum d ?_
   refine⟨s1.heap.objs.size+1,[s1.heap.objs.size+1,s1.heap.objs.size],_,_,D,rfl,l.kept (t':=s1.toks) k,Va (it1:=λi h=>h.IsListIter _ a i) _ _ a (Nat.succ_ne_self _) (λi h st=>?_) (λi h h' st k=>st.at k) (λX z w B j pQ s O H i n I d e sq=>?_),⟨⟨_,d⟩,e⟩,F,q⟩
   .obtain⟨o,g,_,f⟩:=st
    exact⟨o,g,λv q=>by rw[f]at q;cases q⟩
   .rw[<-z,<-w]
    rw[<-B]at sq ⊢;obtain⟨b,r,p,_⟩:=I.list sq;obtain⟨⟨_,d⟩,⟨o2,g2,C,_⟩⟩:=And.intro d e;obtain⟨o,g,c,_⟩:=p.isList;exact⟨λys u=>ZdY I sq u,b,λh=>h.IsList a b.toArray,r,Uo d g c (by decide),p.isList,Draws.list (show X.A.in1.handled=ab from I.ok.hd j) _ a (Up g c g2 C (by decide)) b.toArray⟩
  .obtain⟨b,_,t,_⟩:=l.tuple sq
   refine WO (show s1.heap.IsTuple a b.toArray from t) λh' d e y k=>wpAny_pyIter_enum d ?_
   refine⟨s1.heap.objs.size+1,[s1.heap.objs.size+1,s1.heap.objs.size],_,_,D,rfl,l.kept (t':=s1.toks) k,Va (it1:=λi h=>h.IsTupleIter _ a i) _ _ a (Nat.succ_ne_self _) (λi h st=>?_) (λi h h' st k=>st.at k) (λX z w B j pQ s O H i n I d e sq=>?_),⟨⟨_,d⟩,e⟩,F,q⟩
   .obtain⟨o,g,_,f⟩:=st
    exact⟨o,g,λv q=>by rw[f]at q;cases q⟩
   .rw[<-z,<-w]
    rw[<-B]at sq ⊢;obtain⟨b,r,p,_⟩:=I.tuple sq;have p:s.heap.IsTuple a b.toArray:=p;obtain⟨⟨_,d⟩,⟨o2,g2,C,_⟩⟩:=And.intro d e;obtain⟨o,g,c,_⟩:=id p;exact⟨λys u=>I.tuple_inj u sq,b,λh=>h.IsTuple a b.toArray,r,Uo d g c (by decide),p,JM (show X.A.in1.handled=ab from I.ok.hd j) _ a (Up g c g2 C (by decide)) b.toArray⟩
theorem W0:∀ {a:Li D}{k i:Nat}{x:D},a[i]?=aa x->(Xu k a)[i]?=aa (.int ((k+i:Nat):Int),x)
 |[],_,_,_,h=>nomatch h
 |x :: a,k,0,_,h=>by cases h;rfl
 |x :: a,k,i+1,y,h=>by
  show(Xu (k+1) a)[i]?=_;rw[W0 (show a[i]?=aa y from h),show k+1+i=k+(i+1) by omega]
theorem XO:∀ {a:Li D}{k:Nat},(Xu k a).length=a.length
 |[],_=>rfl
 |x :: a,k=>ar (·+1) XO
def Za0{K:Fg}{L:Ev}{f:Ex}(E:Ends)(O:L2.St)(H:Hp)(h:tS K (V4 i j L f) E O H):tFor (QQ K (tCons (tE K L) tNil)) (gTup K 2 (gCons (gName i) (gCons (gName j) gNil))) (tS K f) E O H:=by
 obtain⟨ad,U,st,r,st',En,S,e,p⟩:=ZR h;unfold V4 at e;split at e
 .rename_i x d P
  split at e
  .rename_i C ok n
   have t:∀ {sq:Hp->Li V->Prop}{m:Li Ad}{B:Hp} (b:Li Ad->Hp->Prop),(∀ ad H ad' H',Ext ad H ad' H'->b ad H->b ad' H')->b m B->
     (∀ ad H st,b ad H->StOk K ad H st->ok st->∃ vs,Dens K ad H vs C/\sq H vs)->Ext ad H m B->StOk K m B d->ZgD K f i j (Ite sq) E O B:=λb T g1 I u A=>
    ⟨_,⟨_,.mk (bF _) (En.mono u) A g1 e (p.later u)⟩,Ww T (λad H st g S o=>by
      obtain⟨vs,rv,D⟩:=I ad H st g S o;exact⟨vs,D,by rw[rv.length,XO]⟩) λk ad H st q g S o F=>by
      obtain⟨vs,rv,D⟩:=I ad H st g S o;have R:k < C.length:=by rw[<-XO (k:=0)];exact(bJ.mp F).1
      have J:=Lg R;rw[W0 (k:=0) J,bF]at F;cases F;obtain⟨w,M,Z⟩:=rv.get J;exact⟨_,w,⟨vs,w,D,M⟩,.int _,Z,λx H' ⟨pt,y1,Y,X,W,Q⟩=>⟨pt,Y,X,by have z:=Q vs D;rw[M]at z;cases z;exact W⟩⟩⟩
   refine⟨ad,U,st,x,d,En,S,P,λv m B u A N=>?_⟩
   cases x with
   |tup ys=>
    cases n;obtain⟨a,vs,rfl,y,rv⟩:=N.ofTup;exact⟨a,rfl,.inr ⟨⟨vs,y.sq⟩,t (λad H=>TupAt K H a vs/\Dens K ad H vs C) (λ_ _ _ _ x g=>⟨g.1.mono x,g.2.mono x⟩) ⟨y,rv⟩ (λad H st g _ _=>⟨vs,g.2,g.1.sq⟩) u A⟩⟩
   |lst l=>
    have n:(match d[l]? with
     |some c=>aa (c.2,λs=>s[l]?=aa c)
     |none=>ab)=aa (C,ok):=n
    cases G:d[l]? with
    |none=>rw[G]at n;cases n
    |some c=>
     rw[G]at n;cases n;obtain⟨a,rfl,y⟩:=N.ofLst;obtain⟨vs,rv,sq⟩:=A.list y (show d[l]?=aa (c.1,c.2) from G);exact⟨a,rfl,.inl ⟨⟨vs,sq⟩,t (λad H=>LA ad H l a) (λ_ _ _ _ x g=>g.mono x) y (λad H st g S e=>S.list g (show st[l]?=aa (c.1,c.2) from e)) u A⟩⟩
   |_=>exact Zb n
  .exact Zb e
 .exact Zb e
def Wn{a:aw}{x:CE}(K:Cxt X G F sc N)(h:Y5 G sc it=aa a)(b:Zg a=ac)(A:PE X a (tE X.K (ev F x))):Zg it=ac/\PI X (.Tuple elts kk tp) it (QQ X.K (tCons (tE X.K (ev F x)) tNil)):=by
 obtain⟨as,c,f⟩:=dB.mp h;rw[Q9 f]at c;obtain⟨_,_,rfl,e,d⟩:=Vm K c;exact⟨rfl,Zdv e d (pa1 b A) (Zd b)⟩
def WT(K:Cxt X G F sc N)(h:XH G sc it=aa as):∃ p pos a b,it=.Call (.Name "zip" p) [a,b] [] pos/\as=[a,b]/\Gl X "zip"/\X.mg "zip"=ab:=by
 obtain⟨bs,i,g⟩:=dB.mp h;obtain⟨p,pos,rfl,e,d⟩:=Vm K i;refine Xb g λc f=>?_
 cases f;cases as with
 |nil=>cases c
 |cons a as=>cases as with
  |nil=>cases c
  |cons b as=>cases as with
   |nil=>exact⟨p,pos,_,_,rfl,rfl,e,d⟩
   |cons _ _=>cases c
def Zb2(d:Zr G F n)(a:ZT G F n)(K:CxtS X G F sc N){c:CS}{b:Li Stmt}(h:o2 CS.whl (cE G n sc N e) (cSs G n sc N b)=aa c):PS X (.While e b [] pos) (tS X.K (ex F c)):=
 ZU (P:=λc=>PS X _ (tS X.K (ex F c))) h λi j f g=>ZB (ps_while (YI K) (d X sc N K.toCxt _ i f).pt (a X sc N K _ j g)) JR
def ZdU(e:Yp G F n)(d:ZT G F n)(K:CxtS X G F sc N){c:CS}{x y:Str}{b:Li Stmt}{p:Pos}(m:N.idxOf? x=aa i)(l:N.idxOf? y=aa j)(g:XH G sc it=aa as)(h:o2 (CS.forP i j) (cEs G n sc N as) (cSs G n sc N b)=aa c):PS X (.For (.Tuple [.Name x p,.Name y p2] ctx tp) it b [] pos) (tS X.K (ex F c)):=by
 refine ZU (P:=λc=>PS X _ (tS X.K (ex F c))) h λs t q r=>?_
 obtain⟨u,p3,a,v,rfl,rfl,o,k⟩:=WT K.toCxt g;obtain⟨A,_,f,_⟩:=e X sc N K.toCxt _ s q;exact ZB (ps_for (YI K) K.calm (ZfD o k A f) (pg_tup K.calm (pgs_cons (ZZ K m) (pgs_cons (ZZ K l) pgs_nil))) (d X sc N K _ t r) (ZL rfl)) Za2
def ZdT(d:Zr G F n)(a:ZT G F n)(K:CxtS X G F sc N){c:CS}{x y:Str}{b:Li Stmt}{p:Pos}(m:N.idxOf? x=aa i)(l:N.idxOf? y=aa j)(k:X7 G sc it=aa e)(h:o2 (CS.forE i j) (cE G n sc N e) (cSs G n sc N b)=aa c):PS X (.For (.Tuple [.Name x p,.Name y p2] ctx tp) it b [] pos) (tS X.K (ex F c)):=by
 refine ZU (P:=λc=>PS X _ (tS X.K (ex F c))) h λq r f o=>?_
 obtain⟨g,A⟩:=Wn (elts:=[.Name x p,.Name y p2]) (kk:=ctx) (tp:=tp) K.toCxt k (Ze f) (d X sc N K.toCxt _ q f).pe;exact ZB (ps_for (YI K) K.calm A (pg_tup K.calm (pgs_cons (ZZ K m) (pgs_cons (ZZ K l) pgs_nil))) (a X sc N K _ r o) (ZL g)) Za0
def ZdR(d:Zr G F n)(a:ZT G F n)(K:CxtS X G F sc N){c:CS}{x y z:Str}{b:Li Stmt}{p:Pos}(h:o3 (λ(p:Nat×Nat) (q:Nat×CE) b=>CS.for4 p.1 p.2 q.1 q.2 b) (o2 Prod.mk (N.idxOf? x) (N.idxOf? y)) (o2 Prod.mk (N.idxOf? z) (cE G n sc N it)) (cSs G n sc N b)=aa c):PS X (.For (.Tuple [.Name x p,.Name y p2,.Name z p3] ctx tp) it b [] pos) (tS X.K (ex F c)):=
 Xa (P:=λc=>PS X _ (tS X.K (ex F c))) h λu v e k g s=>ZU (P:=λu:Nat×Nat=>PS X _ (tS X.K (ex F (.for4 u.1 u.2 v.1 v.2 e)))) k λi j r o=>ZU (P:=λv:Nat×CE=>PS X _ (tS X.K (ex F (.for4 i j v.1 v.2 e)))) g λl t m f=>
  ZB (ps_for (YI K) K.calm (pi_tup (d X sc N K.toCxt _ t f).pe) (pg_tup K.calm (pgs_cons (ZZ K r) (pgs_cons (ZZ K o) (pgs_cons (ZZ K m) pgs_nil)))) (a X sc N K _ e s) (ZL (Ze f))) ZaZ
def ZdP(d:Zr G F n)(a:ZT G F n)(K:CxtS X G F sc N){c:CS}{x y:Str}{b:Li Stmt}{p:Pos}(f:N.idxOf? x=aa i)(e:N.idxOf? y=aa j)(h:o2 (CS.for2 i j) (cE G n sc N it) (cSs G n sc N b)=aa c):PS X (.For (.Tuple [.Name x p,.Name y p2] ctx tp) it b [] pos) (tS X.K (ex F c)):=by
 refine ZU (P:=λc=>PS X _ (tS X.K (ex F c))) h λo m k l=>?_
 have A:=(d X sc N K.toCxt _ o k).pe;have g:=ZL (env:=X.env) (Ze k);exact ZB (Zex (ps_for (YI K) K.calm (pi_tup A) (pg_tup K.calm (pgs_cons (ZZ K f) (pgs_cons (ZZ K e) pgs_nil))) (a X sc N K _ m l) g) (ps_for (YI K) K.calm (pi_list A) (pg_tup K.calm (pgs_cons (ZZ K f) (pgs_cons (ZZ K e) pgs_nil))) (a X sc N K _ m l) g)) ZaY
def Zf7(b:Zr G F n)(K:CxtS X G F sc N){c:CS}{x:Str}{p:Pos}(h:ZgI sc N x m ap cp (cE G n sc N e)=aa c):PS X (.Expr (.Call (.Attribute (.Name x p) m ap) [e] [] cp) pos) (tS X.K (ex F c)):=by
 refine Xb h λd h=>?_
 by_cases j:m = "append"
 .subst j
  rw[am rfl]at h;exact ZU (P:=λc=>PS X _ (tS X.K (ex F c))) h λi y f a=>ZB (ps_expr (pe_bm PySem.F.plainAttrs_list PySem.F.slot_list_append PySem.F.type_list_append mt_append (Jd K.toCxt d.1 f) (pa1 (Ze a) (b X sc N K.toCxt _ y a).pe) rfl (by rw[Zd (Ze a)];rfl) d.2 (Zd (Ze a)) rfl) rfl) ZcX
 .rw[ao j]at h
  by_cases g:m = "extend"
  .subst g
   rw[am rfl]at h;exact ZU (P:=λc=>PS X _ (tS X.K (ex F c))) h λi y f a=>ZB (ps_expr (pe_bm PySem.F.plainAttrs_list PySem.F.slot_list_extend PySem.F.type_list_extend mt_extend (Jd K.toCxt d.1 f) (pa1 (Ze a) (b X sc N K.toCxt _ y a).pe) rfl (by rw[Zd (Ze a)];rfl) d.2 (Zd (Ze a)) rfl) rfl) ZcZ
  .rw[ao g]at h;cases h
def ZdN(d:Zr G F n)(f:Wd G F n)(K:CxtS X G F sc N){c:CS}(h:ZgJ N tg e (cE G n sc N e)=aa c):PS X (.Assign [tg] e pos) (tS X.K (ex F c)):=by
 have no:∀ {P:Prop},(ab:Ot CS)=aa c->P:=λz=>nomatch z
 cases tg with
 |Name x p=>exact Zf8 d f K h
 |Tuple es ctx tp=>cases es with
  |nil=>exact no h
  |cons a es=>cases a with
   |Name _ _=>cases es with
    |nil=>exact no h
    |cons b es=>cases b with
     |Name _ _=>cases es with
      |nil=>exact ZdV d K h
      |cons g es=>cases g with
       |Name _ _=>cases es with
        |nil=>exact ZdW d K h
        |cons _ _=>exact no h
       |_=>exact no h
     |_=>exact no h
   |_=>exact no h
 |_=>exact no h
def ZdS(f:Zr G F n)(g:Yp G F n)(d:ZT G F n)(K:CxtS X G F sc N){c:CS}{b:Li Stmt}(h:Zfd G sc N (cE G n sc N) (cEs G n sc N) tg it (cSs G n sc N b)=aa c):PS X (.For tg it b [] pos) (tS X.K (ex F c)):=by
 have no:∀ {P:Prop},(ab:Ot CS)=aa c->P:=λz=>nomatch z
 cases tg with
 |Name x p=>
  unfold Zfd at h;cases l:XT G sc it with
  |some as=>
   rw[l]at h;exact ZdQ g d K l h
  |none=>
   rw[l]at h;exact ZdO f d K h
 |Tuple es ctx tp=>cases es with
  |nil=>exact no h
  |cons a es=>cases a with
   |Name x p=>cases es with
    |nil=>exact no h
    |cons v es=>cases v with
     |Name y p2=>cases es with
      |nil=>
       replace h:((o2 (λi j=>og (i≠j) (aa (i,j))) (N.idxOf? x) (N.idxOf? y)).join.bind λp=>(match XH G sc it with
        |some as=>o2 (CS.forP p.1 p.2) (cEs G n sc N as) (cSs G n sc N b)
        |none=>match X7 G sc it with
         |some e=>o2 (CS.forE p.1 p.2) (cE G n sc N e) (cSs G n sc N b)
         |none=>o2 (CS.for2 p.1 p.2) (cE G n sc N it) (cSs G n sc N b)))=aa c:=h
       refine b_e h λq m h=>j_e m λm=>ZU (P:=λo=>o=aa q->PS X _ (tS X.K (ex F c))) m (λi j s r e=>Xb e λ_ e=>?_) rfl
       cases e;cases k:XH G sc it with
       |some as=>
        rw[k]at h;exact ZdU g d K s r k h
       |none=>
        rw[k]at h;dsimp only at h;cases t:X7 G sc it with
        |some e=>
         rw[t]at h;exact ZdT f d K s r t h
        |none=>
         rw[t]at h;exact ZdP f d K s r h
      |cons u es=>cases u with
       |Name _ _=>cases es with
        |nil=>exact ZdR f d K h
        |cons _ _=>exact no h
       |_=>exact no h
     |_=>exact no h
   |_=>exact no h
 |_=>exact no h
def ZdM(a:Zr G F n)(K:CxtS X G F sc N){c:CS}{o k:aw}{p:Pos}(h:og (m = "append"/\(ap.endLine==cp.line)=ac) (o2 CS.app2 (cE G n sc N (.Subscript o k p)) (cE G n sc N e))=aa c):PS X (.Expr (.Call (.Attribute (.Subscript o k p) m ap) [e] [] cp) pos) (tS X.K (ex F c)):=by
 refine Xb h λg h'=>?_
 obtain⟨i,f⟩:=g;subst i;exact ZU (P:=λc=>PS X _ (tS X.K (ex F c))) h' λz y d b=>ZB (ps_expr (pe_bm PySem.F.plainAttrs_list PySem.F.slot_list_append PySem.F.type_list_append mt_append (a X sc N K.toCxt _ z d).pe (pa1 (Ze b) (a X sc N K.toCxt _ y b).pe) rfl (by rw[Zd (Ze b)];rfl) f (Zd (Ze b)) rfl) rfl) ZaT
def ZdL(a:Zr G F n)(K:CxtS X G F sc N){c:CS}{v:aw}(h:ZgE sc N (cE G n sc N) v=aa c):PS X (.Expr v pos) (tS X.K (ex F c)):=by
 have no:∀ {P:Prop},(ab:Ot CS)=aa c->P:=λz=>nomatch z
 cases v with
 |Call f as b cp=>cases f with
  |Attribute o m ap=>cases o with
   |Name x p=>cases as with
    |nil=>exact no h
    |cons e es=>cases es with
     |nil=>cases b with
      |nil=>exact Zf7 a K h
      |cons _ _=>exact no h
     |cons _ _=>exact no h
   |Subscript o k p=>cases as with
    |nil=>exact no h
    |cons e es=>cases es with
     |nil=>cases b with
      |nil=>exact ZdM a K h
      |cons _ _=>exact no h
     |cons _ _=>exact no h
   |_=>exact no h
  |Name f d=>exact Zf6 a K h
  |_=>exact no h
 |_=>exact no h
def Uw(d:Zr G F n)(j:Yp G F n)(f:ZT G F n)(m:Wd G F n):UD G F (n+1):=by
 intro X sc N K s c h;have no:∀ {P:Prop},(ab:Ot CS)=aa c->P:=λz=>nomatch z
 cases s with
 |Assign g e pos=>cases g with
  |nil=>exact no h
  |cons t l=>cases l with
   |cons _ _=>cases t with
    |Subscript o k p=>cases o<;>exact no h
    |_=>exact no h
   |nil=>cases t with
    |Subscript o k p=>cases o with
     |Name x q=>exact Zf9 d K h
     |_=>exact no h
    |_=>exact ZdN d m K h
 |Return e pos=>cases e with
  |none=>exact no h
  |some e=>exact Zga d K h
 |If e a b pos=>exact ZhD d f K h
 |While e b i pos=>cases i with
  |cons _ _=>exact no h
  |nil=>exact Zb2 d f K h
 |For t it b i pos=>cases i with
  |cons _ _=>exact no h
  |nil=>exact ZdS d j f K h
 |Expr v pos=>exact ZdL d K h
 |Pass pos=>
  cases (show aa CS.skip=aa c from h)
  exact ZB ps_pass Ub
 |Break pos=>
  cases (show aa CS.brk=aa c from h)
  exact ZB ps_break ZcY
 |Raise a b pos=>
  cases (show aa CS.stop=aa c from h)
  exact λpQ s O H D I q=>by
   obtain⟨_,_,_,_,_,_,_,e,_⟩:=ZR q;cases e
 |Continue pos=>
  cases (show aa CS.cont=aa c from h)
  exact ZB ps_continue ZaU
 |_=>exact no h
def VH(e:UD G F n)(d:ZT G F n):ZT G F (n+1):=by
 intro X sc N K s c h;cases s with
 |nil=>
  simp only[cSs]at h;cases h;exact Je pss_nil Ub
 |cons s r=>
  exact ZU (P:=λc=>PSs X _ (tS X.K (ex F c))) (show o2 CS.seq (cS G n sc N s) (cSs G n sc N r)=aa c from h) λa b g f=>Je (pss_cons (e X sc N K s a g) (d X sc N K r b f)) Zdb
end
variable [ClsTab]
def YQ(G:Gs)(F:Nat->Fn):Prop:=∀ n,Zr G F n->(∀ X sc N,Cxt X G F sc N->∀ elt gens sc2 pos c,cE G (n+1) sc N (.ListComp elt gens sc2 pos)=aa c->SE X F (.ListComp elt gens sc2 pos) c)/\Wd G F (n+1)
theorem W8{G:Gs}{F:Nat->Fn}(d:YQ G F):∀ n,(Zr G F n/\Yp G F n/\Vg G F n)/\UD G F n/\ZT G F n/\Wd G F n
 |0=>⟨⟨λX sc N K e c h=>(nomatch (show(ab:Ot CE)=aa c from h)),λX sc N K e c h=>(nomatch (show(ab:Ot CE)=aa c from h)),λX sc N K e c h=>(nomatch (show(ab:Ot CE)=aa c from h))⟩,λX sc N K e c h=>(nomatch (show(ab:Ot CS)=aa c from h)),λX sc N K e c h=>(nomatch (show(ab:Ot CS)=aa c from h)),λX sc N K x i p elt gens sc2 j pos c _ h=>(nomatch (show(ab:Ot CE)=aa c from h))⟩
 |n+1=>by
  obtain⟨⟨a,g,l⟩,k,b,f⟩:=W8 d n;exact⟨⟨Qn a g l (d n a).1,Uu a g,Uv a⟩,Uw a g b f,VH k b,(d n a).2⟩
def Jz(K:Fg)(G:Gs)(T:Nat->Ot FD)(x y:Str)(i:Nat)(f:Ad)(fd:bf)(pn N:Li Str):Prop:=∃ (st:Stmt) (oc:vL) (od:Ot Ad) (dV kV doc pm:vL) (an:Ot Ad) (cdv ct:vL) (osl:Array (Ot vL)) (code:CS),
  fd=W.fnOf x y (defArgs st) (defBody st) (defScope st) dV kV doc pm an cdv ct/\K.lookup f=aa ⟨oc,od,.func fd,osl⟩/\W.codeIn K cdv y=ac/\FnScope N pn (defScope st)/\(∀ y∈N,Loc (defScope st) y) /\
  cSs G 60 (defScope st) N (defBody st)=aa code/\T i=aa ⟨pn.length,N.length,code⟩
def ZcA(K:Fg)(mg:Str->Ot vL)(G:Gs)(T:Nat->Ot FD)(i:Nat)(f:Ad)(fd:bf)(pn:Li Str):Prop:=∀ (P:a0) (w:bh) (base:bg) (n:Nat),(∀ m,m<=n->∀ A,Room m A->∀ y g,G.lookup y=aa g->GOk P w K mg base A (run T m) y g)->FnOk P w K mg base CX0 (n+1) f fd pn (spD K (run T (n+1) i))
structure DefOk(K:Fg)(mg:Str->Option Value)(G:Gs)(T:Nat->Option FD)(x:Str)(i:Nat)(ds:List D)(f:Addr)(fd:bf)(pn N:List Str):Prop where
 ob:Jz K G T x x i f fd pn N\/ZcA K mg G T i f fd pn
 kp:W.keepIn K (.ref f)=ac
 at_:mg x=aa (.ref f)
 bn:∀ m,m<=ds.length->∃ dvs us,(∀ ad H,Dens K ad H dvs (ds.drop m))/\Vals dvs us/\Binds K fd pn us
structure MethOk(K:Fg)(G:Gs)(T:Nat->Option FD)(C:Addr)(x y:Str)(i:Nat)(f:Addr)(fd:bf)(pn N:List Str):Prop where
 ob:Jz K G T x y i f fd pn N
 mt:Meth K C x f
 bn:Binds K fd pn []
structure Text(Pm:Params)(K:Fg)(mg:Str->Option Value)(G:Gs)(T:Nat->Option FD):Prop where
 cst:∀ x d,G.lookup x=aa (.c d)->∃ v u,mg x=aa u/\RelV v u/\∀ ad H,Den K ad H v d
 blt:∀ x,G.lookup x=aa .blt->mg x=ab
 dct:∀ x ks ds,G.lookup x=aa (.dct ks ds)->QA Pm K mg x ks ds
 fn:∀ x i ps ds,G.lookup x=aa (.fn i ps ds)->∃ f fd pn N,DefOk K mg G T x i ds f fd pn N
 cls:∀ x i ms subs,G.lookup x=aa (.cls i ms subs)->(mg x=aa (.ref (ClsTab.ca i))/\NewOk K (ClsTab.ca i)/\∀ i',subs.contains i'=ac->SubOk K (ClsTab.ca i') (ClsTab.ca i)) /\
  ∀ m j ps,ms.lookup m=aa (j,ps)->∃ y f fd pn N,MethOk K G T (ClsTab.ca i) m y j f fd pn N
variable{pn:Li Str}
variable{P:a0}{w:bh}{K:Fg}{mg:Str->Ot vL}{base:bg}{T:Nat->Ot FD}
def Zcg{x:Str}(h:XA sc x=ac):Vis sc x:=by
 unfold XA at h;rw[Ba]at h;have h:=h.2;split at h
 .rename_i q;exact .inl q
 .rename_i q;exact .inr (.inl q)
 .rename_i q;exact .inr (.inr q)
 .cases h
def QP{x:Str}(h:ZH sc x=ac):sc.names.lookup x=aa .globalImplicit:=by
 unfold ZH at h;rw[Ba]at h;have h:=h.2;split at h
 .rename_i q;exact q
 .cases h
def QH{x:Str}(h:Wr sc x=ac):sc.names.lookup x=aa .cell\/sc.names.lookup x=aa .free:=by
 unfold Wr at h;split at h
 .rename_i q;exact .inl q
 .rename_i q;exact .inr q
 .cases h
def JP(h:Dens K ad H vs ds)(j:ds.length<=N.length):EnvOk K ad H (L2.start N vs) (ds.map aa++af (N.length - ds.length) ab):=by
 have e:=h.length;refine⟨by unfold L2.start;simp[e],λi d q=>?_⟩
 by_cases a:i < ds.length
 .rw[bZ (by simpa using a),aU,Lg a]at q
  have b:ds[i]=d:=by simpa using q
  have g:ds[i]?=aa d:=by rw[Lg a,b]
  obtain⟨v,f,c⟩:=h.get g;refine⟨v,?_,c⟩;unfold L2.start;rw[bZ (by simpa[e] using a),aU,f]
  rfl
 .rw[cG (by simpa using a),eG]at q
  split at q<;>cases q
def ZfA{n:Nat}(M:∀ n,YQ G (run T n))(gl:∀ A,Room n A->∀ y g,G.lookup y=aa g->GOk P w K mg base A (run T n) y g){x y:Str}{f:Ad}{fd:bf}(L:Jz K G T x y i f fd pn N):FnOk P w K mg base CX0 (n+1) f fd pn (spD K (run T (n+1) i)):=by
 obtain⟨st,oc,Z,dV,kV,R,Y,an,z,ct,J,l,rfl,lk,v,S,k,c,O⟩:=L;have a:run T (n+1) i=fnD (run T n) ⟨pn.length,N.length,l⟩:=by
  show(match T i with|some f=>fnD (run T n) f|none=>λ_ _=>ab)=_
  rw[O]
 refine fn_of lk v S (λvs H Q E h=>?_) (λA b s H vs Q E D h=>?_)
 .obtain⟨ad,es,st,d,st',_,u,e,_⟩:=h
  rw[a]at e;unfold fnD at e;split at e
  .rename_i t
   rw[u.length];exact t
  .exact Zb e
 .obtain⟨ad,es,X,d,st',S0,u,e,p⟩:=h
  rw[a]at e;unfold fnD at e;split at e
  .rename_i t
   have C:CxtS (cxOf CX0 P w K mg base N y (defScope st) f z A b s H E).nox G (run T n) (defScope st) N:={
    hN:=rfl
    vis:=λy j=>Zcg j
    glb:=λy j=>QP j
    calm:=rfl
    hu:=D.units
    gl:=gl _ D
    cel:=λy j=>QH j
    nx:=rfl
    nd:=S.nd
    loc:=k
    fn:=λ_=>rfl }
   have B:=(W8 (M n) 60).2.2.1 _ _ _ C _ _ c;have r:pn.length<=N.length:=by have:=ar List.length S.pre;rw[cF]at this;omega
   have m:=JP (N:=N) u (by rw[show es.length=pn.length from t];exact r)
   refine⟨_,B.nox,?_⟩;split at e
   .rename_i d' o q
    cases e;exact ZQ m S0 q p
   .rename_i U o q
    cases e;exact ZQ m S0 q λF V H1 I W E1=>(p.later I).at W .non
   .exact Zb e
  .exact Zb e
def Zd7{f:Ad}{fd:bf}:FnOk P w K mg base CX0 0 f fd pn (spD K (run T 0 i)):=by
 refine⟨λvs H Q E h=>?_,λA a s H b c vs Q E _ _ _ _ h=>?_⟩
 .obtain⟨_,_,_,_,_,_,_,e,_⟩:=h;cases e
 .obtain⟨_,_,_,_,_,_,_,e,_⟩:=h;cases e
def Zen(X:Text w.params K mg G T)(h:∀ {x y:Str}{i:Nat}{f:Ad}{fd:bf}{pn N:Li Str},Jz K G T x y i f fd pn N\/ZcA K mg G T i f fd pn->FnOk P w K mg base CX0 n f fd pn (spD K (run T n i)))(A:bo)(e:Room n A):∀ y g,G.lookup y=aa g->GOk P w K mg base A (run T n) y g:=λy g a=>by
 cases g with
 |c d=>exact X.cst y d a
 |blt=>exact X.blt y a
 |dct ks ds=>exact X.dct y ks ds a
 |fn j k es=>
  obtain⟨f,fd,pn,N,b⟩:=X.fn y j k es a;exact⟨n,f,fd,pn,h b.ob,e,b.at_,b.kp,b.bn⟩
 |cls i ms subs=>
  obtain⟨⟨s,r,q⟩,p⟩:=X.cls y i ms subs a;refine⟨s,r,q,λm j l o=>?_⟩
  obtain⟨z,f,fd,pn,N,Mk⟩:=p m j l o;exact⟨n,f,fd,pn,h (.inl Mk.ob),e,Mk.mt,Mk.bn⟩
theorem UF(c:∀ n,YQ G (run T n))(X:Text w.params K mg G T):∀ (n m:Nat),m<=n->∀ {x y:Str}{i:Nat}{f:Ad}{fd:bf}{pn N:Li Str},Jz K G T x y i f fd pn N\/ZcA K mg G T i f fd pn->FnOk P w K mg base CX0 m f fd pn (spD K (run T m i))
 |n,0,_,_,_,_,_,_,_,_,_=>Zd7
 |n+1,m+1,h,_,_,_,_,_,_,_,.inl a=>ZfA c (λA b=>Zen X (λa=>UF c X n m (Nat.le_of_succ_le_succ h) a) A b) a
 |n+1,m+1,h,_,_,_,_,_,_,_,.inr e=>e P w base m λl d A b=>Zen X (λa=>UF c X n l (aM d (Nat.le_of_succ_le_succ h)) a) A b
def ZeX(a:∀ n,YQ G (run T n))(X:Text w.params K mg G T)(n:Nat){x y:Str}{f:Ad}{fd:bf}(h:Jz K G T x y i f fd pn N\/ZcA K mg G T i f fd pn):FnOk P w K mg base CX0 n f fd pn (spD K (run T n i)):=UF a X n n (aD _) h
variable [ClsTab]
variable{ys:Li V}
section
variable{xs:Li V}
def Vw(b:H p=aa (.lst xs)){a:Ad}:Yb H a↔Yb (upd H p (.lst ys)) a:=WL (Wz b λ_ z=>nomatch z) λ_ z=>nomatch z
def UZ{K:Fg}(a:H p=aa (.lst xs)):Keeps K ad ad H (upd H p (.lst ys)):=⟨λh=>h.upd a (by intro xs z;cases z),λh=>⟨h,Vw a⟩,λ_ h=>by rw[upd_ne (ne_of h a (by intro z;cases z))];exact h,λh n=>⟨by rw[upd_ne (ne_of h a (by intro z;cases z))];exact h,n⟩⟩
def Den.wr{K:Fg}(a:H p=aa (.lst xs)){v:V}(h:Den K ad H v d):Den K ad (upd H p (.lst ys)) v d:=h.map (UZ a)
def Dens.wr{K:Fg}(a:H p=aa (.lst xs))(h:Dens K ad H vs ds):Dens K ad (upd H p (.lst ys)) vs ds:=h.map (UZ a)
def EnvOk.wr{K:Fg}(a:H p=aa (.lst xs))(h:EnvOk K ad H O U):EnvOk K ad (upd H p (.lst ys)) O U:=⟨h.len,λi d e=>let ⟨v,e1,e2⟩:=h.at_ i d e;⟨v,e1,e2.wr a⟩⟩
def StOk.wr{K:Fg}(S:StOk K ad H st)(a:H p=aa (.lst xs))(b:p∉ad):StOk K ad (upd H p (.lst ys)) st:=
 S.wrG (UZ a) b
def Ext.wr{e:Hp}(x:Ext ad0 e ad H)(f:H p=aa (.lst xs))(d:e p=ab):Ext ad0 e ad (upd H p (.lst ys)):=by
 refine⟨x.pre,λb c h=>?_,λb c h=>?_,λb o h n=>?_,x.new,λi a h=>(x.kd i a h).trans (Vw f)⟩
 .rw[upd_ne (ne_of_none h d)];exact x.tup b c h
 .rw[upd_ne (ne_of_none h d)];exact x.dk b c h
 .rw[upd_ne (ne_of_none h d)];exact x.keep b o h n
end
theorem Wv{c:Str->NameKind->Bool}:∀ {l:Li (Str×NameKind)}{y:Str},(l.map λ(n,k)=>if c n k=ac then (n,NameKind.cell) else (n,k)).lookup y=(l.lookup y).map λk=>if c y k=ac then NameKind.cell else k
 |[],_=>rfl
 | (n,k) :: r,y=>by
  have a:=@Wv c r y;rw[aQ];have e:(if c n k=ac then (n,NameKind.cell) else (n,k))=(n,if c n k=ac then NameKind.cell else k):=by split<;>rfl
  show List.lookup y ((if c n k=ac then (n,NameKind.cell) else (n,k)) :: _)=_
  rw[e,cB,cB];cases q:y==n with
  |true=>rw[beq_iff_eq.mp q];rfl
  |false=>exact a
def Yj{env:PySem.Env}{y:Str}:(relabel sc env).names.lookup y=(sc.names.lookup y).map λk=>if (k==NameKind.free&&env.scope.kind==.function&&env.kindOf y==aa .cell)=ac then NameKind.cell else k:=
 Wv (c:=λn k=>k==NameKind.free&&env.scope.kind==.function&&env.kindOf n==aa .cell)
def Ys{y:Str}{k:NameKind}(h:sc.names.lookup y=aa k)(a:k≠.free):(relabel sc env).names.lookup y=aa k:=by
 rw[Yj,h];have:(k==NameKind.free)=ae:=by simpa using a
 show aa (if (k==NameKind.free&&_&&_)=ac then NameKind.cell else k)=aa k
 rw[this,Bool.false_and,Bool.false_and,ao Bf]
def YJ{y:Str}(h:sc.names.lookup y=aa .free):(relabel sc env).names.lookup y=aa .cell\/(relabel sc env).names.lookup y=aa .free:=by
 rw[Yj,h];show(aa (if _ then NameKind.cell else NameKind.free))=_\/(aa (if _ then NameKind.cell else NameKind.free))=_
 split
 .exact .inl rfl
 .exact .inr rfl
def VD{sc:bc}{y:Str}(d:∀ p∈sc.names,p.2≠.cell)(h:(relabel sc env).names.lookup y=aa .cell\/(relabel sc env).names.lookup y=aa .free):sc.names.lookup y=aa .free:=by
 rw[Yj]at h;cases q:sc.names.lookup y with
 |none=>rw[q]at h;rcases h with h|h<;>cases h
 |some k=>
  rw[q]at h;cases k with
  |free=>rfl
  |cell=>
   have:∀ {l:Li (Str×NameKind)},l.lookup y=aa .cell->∃ p∈l,p.2=.cell:=λ{l} e=>by
    induction l with
    |nil=>exact Zb e
    |cons a l c=>
     obtain⟨n,k⟩:=a;rw[cB]at e;split at e
     .cases e;exact⟨_,Ls,rfl⟩
     .obtain⟨p,b,f⟩:=c e;exact⟨p,Lm _ b,f⟩
   obtain⟨p,b,e⟩:=this q;exact aq e (d p b)
  |_=>rcases h with h|h<;>simp at h
theorem Xk{env:PySem.Env}:∀ (l:Li (Str×NameKind)) (b:Li (Str×Ad)),(∀ p∈l,p.2=.free->∃ c,env.cells.lookup p.1=aa c)->
  ∃ d,(forIn l b λ(x:Str×NameKind) (r:Li (Str×Ad))=>(do
   if (x.2==NameKind.free)=ac then
    let a <-cellOf env x.1
    pure (ForInStep.yield ((x.1,a) :: r))
   else pure (ForInStep.yield r):Sem (ForInStep (Li (Str×Ad)))))=pure d /\
   (∀ y c,d.lookup y=aa c->b.lookup y=aa c\/((y,NameKind.free)∈l/\env.cells.lookup y=aa c))/\(∀ y,(y,NameKind.free)∈l\/(b.lookup y).isSome->(d.lookup y).isSome)
 |[],b,_=>⟨b,by simp only[List.forIn_nil],λy c h=>.inl h,λy h=>by simpa using h⟩
 | (n,k) :: l,b,h=>by
  by_cases m:k=.free
  .subst m
   obtain⟨t,f⟩:=h (n,.free) Ls rfl;obtain⟨d,e,s,o⟩:=Xk (env:=env) l ((n,t) :: b) λp j=>h p (Lm _ j)
   refine⟨d,?_,λy c q=>?_,λy q=>?_⟩
   .rw[cZ]
    simp only[beq_self_eq_true,if_true];have:cellOf env n=pure t:=by unfold cellOf;rw[f]
    simp only[this,pure_bind];exact e
   .rcases s y c q with z|⟨i,g⟩
    .rw[cB]at z
     split at z
     .rename_i u
      cases z;rw[beq_iff_eq.mp u];exact .inr ⟨Ls,f⟩
     .exact .inl z
    .exact .inr ⟨Lm _ i,g⟩
   .refine o y ?_
    rcases q with q|q
    .rcases aF.mp q with z|z
     .cases z
      exact .inr (by rw[cB];simp)
     .exact .inl z
    .refine .inr ?_
     rw[cB];split
     .rfl
     .exact q
  .obtain⟨d,e,s,o⟩:=Xk (env:=env) l b λp j=>h p (Lm _ j)
   refine⟨d,?_,λy c q=>?_,λy q=>?_⟩
   .rw[cZ]
    have:(k==NameKind.free)=ae:=by simpa using m
    simp only[this,dL,if_false,pure_bind];exact e
   .rcases s y c q with z|⟨i,g⟩
    .exact .inl z
    .exact .inr ⟨Lm _ i,g⟩
   .refine o y ?_
    rcases q with q|q
    .rcases aF.mp q with z|z
     .cases z;exact aq rfl m
     .exact .inl z
    .exact .inr q
def VW{sc:bc}(h:∀ p∈sc.names,p.2=.free->∃ c,env.cells.lookup p.1=aa c):∃ a,closureFor sc env=pure a/\(∀ y c,a.lookup y=aa c->env.cells.lookup y=aa c)/\∀ y,(y,NameKind.free)∈sc.names->(a.lookup y).isSome:=by
 obtain⟨a,e,d,b⟩:=Xk (env:=env) sc.names [] h;refine⟨a,?_,λy c q=>?_,λy q=>b y (.inl q)⟩
 .unfold closureFor
  rw[show(λ(x:Str×NameKind) (r:Li (Str×Ad))=>_)=_ from rfl]at e
  first|exact(by simp only[e,pure_bind]) | (simp only[bind_pure]at *;exact e)|exact e
 .rcases d y c q with z|⟨_,z⟩
  .exact Zb z
  .exact z
variable [ClsTab]
variable{iter:aw}{ifs:Li aw}
def VX{R:Result->Sd->Prop}{s:Sd}{a:aw}{scope:bc}{it p:vL}(I:Nat->Sd->Prop)(turn:∀ n s,I n s->ay (az prog w) A (pyNext it) (λr g=>match r with
   |none=>R (.ok .next) g
   |some v=>ay (az prog w) A (letOwnedTupleGo a it v) (λ_ f=>ay (az prog w) A (assign a env v) (λ_ l=>
     ay (az prog w) A (forIn ifs ac λc r=>if r=ac then do let ok <-isTrue c env (eval c env);pure (ForInStep.yield ok) else pure (ForInStep.yield r)) (λok d=>
      if ok=ac then ay (az prog w) A (eval elt env) (λx k=>
       ay (az prog w) A (call (.builtin "list.append") [p,x]) (λ_ j=>∃ m,m < n/\I m j) (notedBy (az prog w) A env λe i=>R (.error e) i) k) (notedBy (az prog w) A env λe i=>R (.error e) i) d
      else ∃ m,m < n/\I m d) (notedBy (az prog w) A env λe i=>R (.error e) i) l) (notedBy (az prog w) A env λe i=>R (.error e) i) f) (notedBy (az prog w) A env λe i=>R (.error e) i) g) (notedBy (az prog w) A env λe i=>R (.error e) i) s)(n:Nat)(h:I n s):codeAny (az prog w) A (.compLoop (.ListComp elt [⟨a,iter,ifs,0⟩] scope pos) 0 it p env) R s:=by
 refine codeAny_loop rfl I (λn s y=>?_) n h
 show ay _ A ((compTurn (.ListComp elt [⟨a,iter,ifs,0⟩] scope pos) 0 it p env).onRaise (λx=>do noteFrame x env;theTreesLotGoes x)) _ _ s
 refine wpAny_noted ?_;rw[compTurn_list];refine aA (wpAny_standAt (aA (bG (turn n s y) (λr g b=>?_) λ_ _ h'=>h')))
 cases r with
 |none=>exact aE b
 |some v=>
  refine aA (bG b (λ_ f b=>?_) λ_ _ h'=>h')
  refine aA (bG b (λ_ l u=>aA (bG u (λok d o=>?_) λ_ _ h'=>h')) λ_ _ h'=>h')
  cases ok with
  |false=>exact aE ⟨rfl,o⟩
  |true=>
   exact aA (aA (bG o (λx k t=>aA (bG t (λ_ j q=>aE (aE ⟨rfl,q⟩)) λ_ _ h'=>h')) λ_ _ h'=>h'))
def cxC(X:Cx)(N:Li Str)(env:PySem.Env)(a:Sd)(c:Hp)(b:Li Ad)(pQ:Li (Ad×Obj)):Cx:=
 { X with N:=N,s₀:=a,H₀:=c,env:=env,outer:=X.stack,ex:=b,fn:=λ_=>ae,pn:=X.pn++pQ,xe:=λ_ _=>False }
variable{m0:Str->Ot vL}{tk:Nat}{O':L2.St}
variable{pQ:Li (Ad×Obj)}{O:L2.St}{sc2:bc}{cl:Li (Str×Ad)}{N:Li Str}
section
variable{H3:Hp}{s3:Sd}{fp:Li Ad}
def Zbe(a:L2.Inv X pQ O H3 s3){G:bg}(R:sc2.kind=.function)(f:∀ p∈sc2.names,p.2≠.cell)(E:G.Ns s3.heap.objs.size m0)(up:∀ b u,s3.heap.get? b=aa u->G.get? b=aa u)(k:∀ y c,cl.lookup y=aa c->X.env.cells.lookup y=aa c)(J:∀ y,sc2.names.lookup y=aa .free->(cl.lookup y).isSome)(s:∀ b∈fp,FpOk X pQ H3 b)(S:∀ b∈fp,b < s3.heap.objs.size)(A:∀ (i:Nat) (y:Str) (v:V),N[i]?=aa y->O'[i]?=aa (aa v)->∃ j:Nat,X.N[j]?=aa y/\O[j]?=aa (aa v)/\sc2.names.lookup y=aa .free/\(X.env.scope.names.lookup y=aa .cell\/X.env.scope.names.lookup y=aa .free))(Q:O'.length=N.length) :
  L2.Inv (cxC X N (compEnvC sc2 cl s3.heap.objs.size X.env) s3 H3 fp pQ) [] O' H3 { s3 with heap:=G,toks:=tk } where
 ok:={
  mod:=a.ok.mod
  kind:=R
  glob:=a.ok.glob
  blt:=a.ok.blt
  above:=aD _
  inj:=λx y c e W=>a.ok.inj x y c (k _ _ e) (k _ _ W)
  has:=λx h=>by
   have e:=VD (env:=X.env) f h;have:=J x e;cases q:cl.lookup x with
   |none=>rw[q]at this;cases this
   |some c=>exact⟨c,q⟩
  cab:=λx c h=>nomatch h
  hd:=a.ok.hd
  frames:=a.ok.frames
  stk:=.inl rfl
  exf:=λb g=>⟨aY (S b g),λx c e=>(s b g).2.2.2.2.1 x c (k _ _ e)⟩
  bs:=a.bs
  bsz:=aM a.ok.bsz a.sz
  noex:=λb o e g=>by
   rcases (s b g).2.2.2.1 with z|z
   .exact a.ok.noex b o e z
   .exact aq (aT (aJ e) (aM a.ok.bsz z)) (bS _)
  exfs:=λb g B=>by
   rcases aF.mp (a.stkSub b B) with z|z
   .exact(s b g).2.1 z
   .exact(s b g).2.2.1 z
  funs:=a.stack
  frf:=a.stkFree }
 os:=rfl
 bare:=a.bare
 base:=Un.kept up
 loc:=⟨m0,E,λi y v U T Z=>by
  obtain⟨j,g1,g2,I,H⟩:=A i y v U T;obtain⟨m,Y,F⟩:=a.loc;obtain⟨u,r,l⟩:=F j y v g1 g2 (.inr H);refine⟨u,r,.inr ⟨YJ I,?_⟩⟩;rcases l with⟨z,_⟩|⟨_,c,e,z⟩
  .have K:X.env.scope.names.lookup y=aa .local:=z
   rcases H with w|w<;>(rw[K]at w;cases w)
  .have q:=J y I
   cases t:cl.lookup y with
   |none=>rw[t]at q;cases q
   |some c'=>
    have:=k _ _ t;rw[e]at this;cases this
    obtain⟨o,D,hd⟩:=z;exact⟨c,t,o,up c o D,hd⟩⟩
 cell:=λy c e=>by
  obtain⟨v,o,D,hd⟩:=a.cell y c (k _ _ e);exact⟨v,o,up c o D,hd⟩
 free:=a.hok.fresh (aD _)
 freeC:=λy c e=>a.freeC y c (k _ _ e)
 pin:=λp P=>by
  have C:p∈X.pn++pQ:=by simpa[cxC] using P
  obtain⟨e,n,M,L,d⟩:=a.pin p C;refine⟨up _ _ e,n,aY (aJ e),λB=>?_,d⟩
  rcases aF.mp (a.stkSub _ B) with z|z
  .exact M z
  .exact L z
 hok:=a.hok.kept up
 len:=Q
def Zbd(r:L2.Inv X pQ O H3 s3){d:Li (Ad×Obj)}{H':Hp}{s':Sd}(p:env.locals=s3.heap.objs.size)(g:L2.Inv (cxC X N env s3 H3 fp pQ) d O' H' s')(sb:Heap.SameBut s3.heap.objs.size s'.heap h')(h:∀ b∈fp,FpOk X pQ H3 b):L2.Inv X pQ O H' { s' with heap:=h' }:=by
 have u:Un (frs X.stack) fp H3 H' s3.heap s'.heap:=g.base;have i:∀ b o,s3.heap.get? b=aa o->b≠s3.heap.objs.size:=λb o e=>aY (aJ e)
 have k:H' s3.heap.objs.size=ab:=by have:=g.free;rw[show(cxC X N env s3 H3 fp pQ).env.locals=s3.heap.objs.size from p]at this;exact this
 refine r.call' (s':={ s' with heap:=h' }) (ch:=fp) g.os ⟨λb o e n a f=>?_,λb o e n a f=>?_,u.free,λb o e f=>?_,u.tups,u.frzs,u.tbls⟩ (λb l e=>?_) g.bare (λb a=>?_)
 .exact(sb.2 b (i b o e)).trans (u.keep b o e n a f)
 .obtain⟨sl,j⟩:=u.slot b o e n a f
  exact⟨sl,(sb.2 b (i b o e)).trans j⟩
 .obtain⟨m,j⟩:=u.there b o e f
  exact⟨m,(sb.2 b (i b o e)).trans j⟩
 .refine(g.hok b l e).stay (λc s hc q=>(sb.2 c ?_).trans q) (λ_ q=>q) λ_ _ q=>q
  rintro rfl
  rcases hc with rfl|hc
  .rw[k]at e;cases e
  .rw[k]at hc;cases hc
 .exact⟨(h b a).2.2.2.1,(h b a).2.1,(h b a).2.2.2.2.1,(h b a).2.2.2.2.2⟩
end
variable [ClsTab]
theorem WC{N:Li Str}:∀ {l:Li Str}{b:Li Nat},Y0 N l=aa b->b.length=l.length/\∀ (i:Nat) (k:Nat),b[i]?=aa k->∃ y,l[i]?=aa y/\N[k]?=aa y
 |[],b,h=>by cases h;exact⟨rfl,λi k e=>by simp at e⟩
 |x :: r,b,h=>by
  unfold Y0 at h;split at h
  .rename_i a as g f
   cases h;obtain⟨d,c⟩:=WC f;refine⟨by simp[d],λi k e=>?_⟩
   cases i with
   |zero=>simp at e;subst e;exact⟨x,rfl,Xl g⟩
   |succ i=>exact c i k (by simpa using e)
  .exact Zb h
def StOk.lt{s:Sd}{a:Ad}(I:L2.Inv X pQ O H s)(S:StOk X.K ad H st)(h:a∈ad):a < s.heap.objs.size:=by
 obtain⟨i,b,e⟩:=List.getElem_of_mem h;rcases S.has (show ad[i]?=aa a by rw[Lg b,e]) with⟨o,q⟩|⟨o,q⟩
 .exact I.hok.lt q
 .exact aJ (I.kIn a o q)
variable{fr:Li Nat}
def ZaJ{K:Fg}{bs:L2.St}{b:D->Li (Ot D)}(E:EnvOk K ad H O U)(hd:EnvOk K ad H bs (b d)):EnvOk K ad H (bs++fr.map λi=>(O[i]?).join) (ZM b U fr d):=by
 refine⟨by simp[ZM,hd.len],λi e h=>?_⟩
 unfold ZM at h;by_cases a:i < (b d).length
 .rw[bZ a]at h
  rw[bZ (by rw[hd.len];exact a)]
  exact hd.at_ i e h
 .have a:(b d).length<=i:=dY a
  rw[cG a,aU]at h;rw[cG (by rw[hd.len];exact a),aU,hd.len]
  cases q:fr[i - (b d).length]? with
  |none=>rw[q]at h;cases h
  |some k=>
   rw[q]at h;have h:(U[k]?).join=aa e:=by simpa using h
   have c:U[k]?=aa (aa e):=by
    cases z:U[k]? with
    |none=>rw[z]at h;cases h
    |some o=>rw[z]at h;rw[show o=aa e from h]
   obtain⟨w,g,f⟩:=E.at_ k e c;exact⟨w,by simp[g],f⟩
def Xf(K:Fg)(tg:aw)(a:Li Str)(b:D->Li (Ot D))(ds:Li D):Prop:=
 ∀ X:Cx,X.K=K->X.calm=ac->X.N.Nodup->(∀ (i:Nat) x,a[i]?=aa x->X.N[i]?=aa x)->(∀ y∈a,X.env.scope.names.lookup y=aa .local)->∀ (pQ:Li (Ad×Obj)) (s:Sd) (os fv:L2.St) (H:Hp) (ad:Li Ad) (v:V) (u:vL) (d:D),os.length=a.length->L2.Inv X pQ (os++fv) H s->RelV v u->Den K ad H v d->d∈ds->
  ay (az X.prog X.w) X.A (assign tg X.env u) (λ_ c=>∃ bs,bs.length=a.length/\EnvOk K ad H bs (b d)/\L2.Inv X pQ (bs++fv) H c) X.xe s
variable{px:Pos}
def VR{K:Fg}{x:Str}:Xf K (.Name x px) [x] one ds:=by
 intro X w t k f j pQ s a l H ad v u d g I r n _;obtain⟨o,rfl⟩:∃ o,a=[o]:=by match a,g with|[o],_=>exact⟨o,rfl⟩
 have b:=j x Ls;have c:PG X (.Name x px) (gName 0):=pg_name k (f 0 x rfl) (.inl b) (.inr b);refine thn (c pQ s _ H v u (λO' H'=>O'=[aa v]++l/\H'=H) I r ⟨rfl,rfl⟩) λ_ q ⟨O',H',p,e,m⟩=>?_
 subst e;subst m
 exact⟨[aa v],rfl,⟨rfl,λi e h=>by
  cases i with
  |zero=>cases h;exact⟨v,rfl,n⟩
  |succ i=>exact nomatch (show(ab:Ot (Ot D))=aa (aa e) from h)⟩,p⟩
variable{py:Pos}
def Wh{K:Fg}{x y:Str}{k:Nat}{ds:Li D}(j:∀ d∈ds,∃ a b,d=.tup [a,b]):Xf K (.Tuple [.Name x px,.Name y py] k tp) [x,y] two ds:=by
 intro X F C w q t pQ s l G H ad v u d A I r L B;obtain⟨o,g,rfl⟩:∃ o g,l=[o,g]:=by match l,A with|[o,g],_=>exact⟨o,g,rfl⟩
 obtain⟨a,b,rfl⟩:=j d B;have n:=t x Ls;have m:=t y (Lm _ Ls);have g1:PG X (.Name x px) (gName 0):=pg_name w (q 0 x rfl) (.inl n) (.inr n);have g2:PG X (.Name y py) (gName 1):=pg_name w (q 1 y rfl) (.inl m) (.inr m);have z:PG X (.Tuple [.Name x px,.Name y py] k tp) _:=pg_tup C (pgs_cons g1 (pgs_cons g2 pgs_nil))
 obtain⟨p,vs,rfl,E,rv⟩:=L.ofTup;cases rv with
 |cons N rv=>cases rv with
  |cons M rv=>
   cases rv;rename_i f c;refine thn (z pQ s _ H _ u (λO' H'=>O'=[aa f,aa c]++G/\H'=H) I r ⟨p,[f,c],rfl,by rw[F];exact E.sq,rfl,f,[c],rfl,c,[],rfl,rfl,rfl,rfl⟩) λ_ P ⟨O',H',O,e,J⟩=>?_
   subst e;subst J
   exact⟨[aa f,aa c],rfl,⟨rfl,λi e h=>by
    cases i with
    |zero=>cases h;exact⟨f,rfl,N⟩
    |succ i=>cases i with
     |zero=>cases h;exact⟨c,rfl,M⟩
     |succ i=>exact nomatch (show(ab:Ot (Ot D))=aa (aa e) from h)⟩,O⟩
def UM{K:Fg}{x y z:Str}{m:Pos}{k:Nat}{ds:Li D}(t:∀ d∈ds,∃ a b c,d=.tup [a,b,c]):Xf K (.Tuple [.Name x px,.Name y py,.Name z m] k tp) [x,y,z] Jn ds:=by
 intro X N L w n q pQ s A P H ad v u d G I r R J;obtain⟨o,l,o2,rfl⟩:∃ o l o2,A=[o,l,o2]:=by match A,G with|[o,l,o2],_=>exact⟨o,l,o2,rfl⟩
 obtain⟨a,b,c,rfl⟩:=t d J;have E:=q x Ls;have C:=q y (Lm _ Ls);have B:=q z (Lm _ (Lm _ Ls));have g1:PG X (.Name x px) (gName 0):=pg_name w (n 0 x rfl) (.inl E) (.inr E);have g2:PG X (.Name y py) (gName 1):=pg_name w (n 1 y rfl) (.inl C) (.inr C);have O:PG X (.Name z m) (gName 2):=pg_name w (n 2 z rfl) (.inl B) (.inr B)
 have F:PG X (.Tuple [.Name x px,.Name y py,.Name z m] k tp) _:=pg_tup L (pgs_cons g1 (pgs_cons g2 (pgs_cons O pgs_nil)));obtain⟨p,vs,rfl,M,rv⟩:=R.ofTup;cases rv with
 |cons U rv=>cases rv with
  |cons T rv=>cases rv with
   |cons S rv=>
    cases rv;rename_i j g f;refine thn (F pQ s _ H _ u (λO' H'=>O'=[aa j,aa g,aa f]++P/\H'=H) I r ⟨p,[j,g,f],rfl,by rw[N];exact M.sq,rfl,j,[g,f],rfl,g,[f],rfl,f,[],rfl,rfl,rfl,rfl⟩) λ_ W ⟨O',H',V,e,Q⟩=>?_
    subst e;subst Q
    exact⟨[aa j,aa g,aa f],rfl,⟨rfl,λi e h=>by
     cases i with
     |zero=>cases h;exact⟨j,rfl,U⟩
     |succ i=>cases i with
      |zero=>cases h;exact⟨g,rfl,T⟩
      |succ i=>cases i with
       |zero=>cases h;exact⟨f,rfl,S⟩
       |succ i=>exact nomatch (show(ab:Ot (Ot D))=aa (aa e) from h)⟩,V⟩
variable{cl:Li (Str×Ad)}{ce cc:CE}{bd:D->Li (Ot D)}{J:It}{tn:Nat->bg->Prop}{Good:Li Ad->Hp->Prop}{ad2:Li Ad}{H2:Hp}{use:Ot (vL->Sem Unit)}{R0:vL->Sd->Prop}{st1:Za}
variable{sc:bc}
section
variable{xs:Li Str}
def Yf(h:YS sc sc2 xs=ac):sc2.kind=.function/\(∀ p∈sc2.names,p.2≠.cell)/\(∀ x∈xs,sc2.names.lookup x=aa .local)/\(∀ p∈sc2.names,p.2=.local->sc2.names.lookup p.1=aa .local)/\(xs++ZN sc2).Nodup/\∀ y∈ZN sc2,Wr sc y=ac/\sc2.names.lookup y=aa .free:=by
 unfold YS at h;simp only[Ba,dI,cT,dJ,eB,decide_eq_false_iff_not]at h;obtain⟨⟨⟨⟨⟨i,g⟩,f⟩,d⟩,c⟩,b⟩:=h;exact⟨i,g,f,λp a e=>(d p a).elim (λz=>aq e z) id,c,b⟩
def mem_frees{y:Str}:y∈ZN sc2↔(y,NameKind.free)∈sc2.names:=by
 unfold ZN;rw[aS];constructor
 .rintro⟨⟨n,k⟩,h,rfl⟩
  rw[dU]at h;have:k=.free:=al h.2;rw[<-this];exact h.1
 .intro h
  exact⟨(y,.free),dU.mpr ⟨h,by simp⟩,rfl⟩
theorem mem_of_lookup{y:Str}{k:NameKind}:∀ {l:Li (Str×NameKind)},l.lookup y=aa k->(y,k)∈l
 |[],h=>by cases h
 | (n,q) :: l,h=>by
  rw[cB]at h;split at h
  .rename_i e
   cases h;rw[beq_iff_eq.mp e];exact Ls
  .exact Lm _ (mem_of_lookup h)
def ZaE(c:Cxt X G F sc N)(b:YS sc sc2 xs=ac){C:Ad}{s3:Sd}{H3:Hp}{fp:Li Ad}:Cxt (cxC X (xs++ZN sc2) (compEnvC sc2 cl C X.env) s3 H3 fp pQ) G F sc2 (xs++ZN sc2):=by
 obtain⟨i,d,h,g,f,e⟩:=Yf b;exact {
  hN:=rfl
  vis:=λy a=>by
   rcases Zcg a with z|z|z
   .exact .inl (Ys z (by intro q;cases q))
   .exact aq rfl (d _ (mem_of_lookup z))
   .rcases YJ (env:=X.env) z with w|w
    .exact .inr (.inl w)
    .exact .inr (.inr w)
  glb:=λy a=>Ys (QP a) (by intro q;cases q)
  calm:=c.calm
  hu:=c.hu
  gl:=c.gl
  cel:=λy a=>by
   rcases QH a with z|z
   .exact aq rfl (d _ (mem_of_lookup z))
   .exact YJ z
  nx:=rfl }
def ZaA{ok:Za->Prop}{f c:D->Za->Res}{xs:Li D}{r:Li D×Za}(h:ZW ok f c xs st=aa r):ok st:=by
 unfold ZW at h;split at h
 .split at h
  .assumption
  .exact Zb h
 .split at h
  .assumption
  .exact Zb h
def evB(F:Nat->Fn)(c:CE)(b:D->Li (Ot D))(U:Env)(fr:Li Nat):D->Za->Res:=λd s=>ev F c (ZM b U fr d) s
inductive CI(X:Cx)(tn:Nat->bg->Prop)(fp:List Addr)(fv O:L2.St)(U:Env)(w:Nat)(ds:List D)(go:List D->Za->Option (List D×Za))(Good:List Addr->Hp->Prop)(dd:Addr)(ad2:List Addr)(H2:Hp)(st':Za)(ys:List D)(m:Nat)(s:Shared):Prop
 |mk (i:Nat) (o0:L2.St) (H:Hp) (ad:List Addr) (st:Za) (vs:List V) (es zs:List D) (him:i+m=ds.length) (hol:o0.length=w) (I:L2.Inv X [] (o0++fv) H s) (ti:tn i s.heap) (fi:∀ b∈fp,H b=ab) (En:EnvOk X.K ad H O U) (S:StOk X.K ad H st) (Gd:Good ad H) (nd:dd∉ad) (hv:H dd=aa (.lst vs)) (rv:Dens X.K ad H vs es) (hel:es.length<=i)
  (hcp:go (ds.drop i) st=aa (zs,st')) (hys:es++zs=ys) (ex:Ext ad2 H2 ad H):CI X tn fp fv O U w ds go Good dd ad2 H2 st' ys m s
def JL(Kx:Cxt X G F sc2 N)(ihE:Zr G F n)(hce:cE G n sc2 N elt=aa ce)(hcc:(ifs=[]/\cc=.c (.bl ac))\/∃ e,ifs=[e]/\cE G n sc2 N e=aa cc){fp:Li Ad}{it:Ad}{ok:Za->Prop}(gm:∀ ad H ad' H',Ext ad H ad' H'->Good ad H->Good ad' H')(gw:∀ ad H p xs ys,H p=aa (.lst xs)->Good ad H->Good ad (upd H p (.lst ys)))(go:∀ i ad H st,Good ad H->StOk X.K ad H st->ok st->i < ds.length->J.go i H)(stop:∀ i ad H st,Good ad H->StOk X.K ad H st->ok st->ds.length=i->J.stop i H)(yl:∀ i ad H st v H',Good ad H->StOk X.K ad H st->ok st->J.yld i H v H'->i < ds.length->Ext ad H ad H'/\StOk X.K ad H' st/\∃ d,ds[i]?=aa d/\Den X.K ad H' v d)(T:Turn X.prog X.w X.K tg J fp it tn)(B:Xf X.K tg xs bd ds)(hN:X.N.Nodup)(hx:∀ (i:Nat) x,xs[i]?=aa x->X.N[i]?=aa x)(hl:∀ y∈xs,X.env.scope.names.lookup y=aa .local)(exx:X.xe=λ_ _=>False)(fpk:∀ {H:Hp},(∀ b∈fp,H b=ab)->∀ b∈fp,FpOk X [] H b){fv:L2.St}(ec:∀ {ad H bs d},EnvOk X.K ad H O U->EnvOk X.K ad H bs (bd d)->EnvOk X.K ad H (bs++fv) (ZM bd U fr d)){dd:Ad}{ys:Li D}(D0:H2 dd=ab)(hz:ds.length<=1000){R:Result->Sd->Prop}(done:∀ s5 σ5 H ad vs,L2.Inv X [] σ5 H s5->StOk X.K ad H st'->dd∉ad->H dd=aa (.lst vs)->Dens X.K ad H vs ys->Ext ad2 H2 ad H->R (.ok .next) s5){s:Sd}{m:Nat}(h0:CI X tn fp fv O U xs.length ds (ZW ok (evB F ce bd U fr) (evB F cc bd U fr)) Good dd ad2 H2 st' ys m s) :
  codeAny (az X.prog X.w) X.A (.compLoop (.ListComp elt [⟨tg,iter,ifs,0⟩] sc2 pos) 0 (.ref it) (.ref dd) X.env) R s:=by
 refine VX _ (λm s h=>?_) m h0
 cases h with
 |mk i o0 H ad st vs es zs him hol I ti fi En S Gd nd hv rv hel a Z ex=>
 have W:=ZaA a;have none_of:∀ {E:vL->Sd->Prop}{α:Type}{t:Sem α}{R:α->Sd->Prop}{s0:Sd},ay (az X.prog X.w) X.A t R X.xe s0->ay (az X.prog X.w) X.A t R E s0:=λh=>by
  rw[exx]at h;exact bG h (λ_ _ q=>q) λ_ _ q=>q.elim
 by_cases hi:i < ds.length
 .refine thn (T.item X rfl rfl rfl Kx.calm i [] s _ H _ I (fpk fi) ti (go i ad H st Gd S W hi)) λr s5 ⟨u,hr,h5'⟩=>?_
  subst hr;refine thn h5' λ_ s6 ⟨v,H',I6,r6,y6,t6,f6⟩=>?_
  obtain⟨x6,S6,d,ed,dv⟩:=yl i ad H st v H' Gd S W y6 hi;have hd:ds.drop i=d :: ds.drop (i+1):=by
   rw[bQ hi];rw[Lg hi]at ed;cases ed;rfl
  refine thn (none_of (B X rfl Kx.calm hN hx hl _ s6 o0 _ H' ad v u _ hol (I6.pinned (fpk f6) (T.obj _ _ t6)) r6 dv (aX ed))) λ_ s7 ⟨bs,lb,Eb,I7⟩=>?_
  have En6:=En.mono x6;have En7:=ec En6 Eb
  -- behind the item's turn
  have Y:∀ {M:Hp}{s9:Sd}{g:Li Ad}{st9:Za}{vs9:Li V}{es9 zs9:Li D},L2.Inv X ([]++pinsAt fp s6.heap) (bs++fv) M s9->StOk X.K g M st9->Good g M->dd∉g->M dd=aa (.lst vs9)->Dens X.K g M vs9 es9->es9.length<=i+1->
    ZW ok (evB F ce bd U fr) (evB F cc bd U fr) (ds.drop (i+1)) st9=aa (zs9,st')->es9++zs9=ys->Ext ad2 H2 g M->EnvOk X.K g M O U->
    ∃ m',m' < m/\CI X tn fp fv O U xs.length ds (ZW ok (evB F ce bd U fr) (evB F cc bd U fr)) Good dd ad2 H2 st' ys m' s9:=
   λI9 S9 G9 n9 v9 r9 l9 c9 y9 x9 e9=>
    have pk:=λb hb o e=>I9.pin (b,o) (cD _ (cD _ (mem_pinsAt hb e)))
    ⟨m - 1,by omega,.mk (i+1) bs _ _ _ _ _ _ (by omega) lb I9.unpinned (T.keep _ _ _ t6 λb hb o e=>(pk b hb o e).1) (λb hb=>let ⟨o,e,_⟩:=T.obj _ _ t6 b hb;(pk b hb o e).2.1) e9 S9 G9 n9 v9 r9 l9 c9 y9 x9⟩
  -- the L
  have L:∀ {k:Bool}{j:Za},evB F cc bd U fr d st=aa (.bl k,j)->∀ {R:Bool->Sd->Prop}{E:vL->Sd->Prop},(∀ s8 l f,L2.Inv X ([]++pinsAt fp s6.heap) (bs++fv) l s8->Ext ad H' f l->StOk X.K f l j->R k s8)->
    ay (az X.prog X.w) X.A (forIn ifs ac λc r=>if r=ac then do let ok <-isTrue c X.env (eval c X.env);pure (ForInStep.yield ok) else pure (ForInStep.yield r)) R E s7:=λ{k j} q {R E} hR=>by
   rcases hcc with⟨rfl,rfl⟩|⟨e,rfl,he⟩
   .cases q
    exact wpAny_tests_nil (hR s7 H' ad I7 (Ext.refl _ _) S6)
   .refine wpAny_tests_one (thn (none_of ((ihE X sc2 _ Kx e cc he).pt _ s7 _ H' (λk' l=>k'=k/\∃ f,Ext ad H' f l/\StOk X.K f l j) I7 ⟨ad,ZM bd U fr d,st,k,j,En7,S6,q,λad' H' x S'=>⟨rfl,ad',x,S'⟩⟩)) λk' s8 ⟨l,I8,e8,f,C,S8⟩=>?_)
    subst e8;exact hR s8 l f I8 C S8
  have n8:∀ {f l},Ext ad H' f l->dd∉f:=λC z=>((x6.trans C).new dd z).elim nd λw=>by rw[hv]at w;cases w
  have v8:∀ {f l},Ext ad H' f l->l dd=aa (.lst vs):=λC=>(x6.trans C).keep dd _ hv nd
  have rv6:=rv.mono x6;have ex6:=ex.trans x6;have G6:=gm _ _ _ _ x6 Gd;clear x6 En Eb ex Gd S I hv rv;rw[hd]at a;unfold ZW at a;rw[am W]at a;split at a
  .rename_i j q1
   split at a
   .rename_i y st3 q2
    split at a
    .rename_i zs' st4 q3
     cases a;refine L q1 λs8 l f I8 C S8=>?_
     rw[am rfl];refine thn (none_of ((ihE X sc2 _ Kx elt ce hce).pe _ s8 _ l (λv8 M=>∃ g,Ext f l g M/\StOk X.K g M st3/\Den X.K g M v8 y) I8 ⟨f,ZM bd U fr d,j,y,st3,En7.mono C,S8,q2,λv8 ad' H' x S' dn=>⟨ad',x,S',dn⟩⟩)) λu9 s9 ⟨v9,M,I9,r9,g,x9,S9,d9⟩=>?_
     have P:=C.trans x9;have Q:=v8 P;have hlen:vs.length=es.length:=rv6.length;refine thn (none_of (mt_append (X:=X) _ s9 _ M (.ref dd) [v9] (.ref dd) [u9] (λ_ H10=>H10=upd M dd (.lst (vs++[v9]))) I9 rfl (.cons r9 .nil) ⟨dd,vs,v9,rfl,rfl,Q,Nat.lt_of_le_of_lt (show vs.length<=1000 by omega) (by decide),rfl⟩)) λu10 s10 ⟨v10,H10,I10,r10,e10⟩=>?_
     subst e10;have nd9:=n8 P;exact Y (vs9:=vs++[v9]) (es9:=es++[y]) (zs9:=zs') I10 (S9.wr Q nd9) (gw _ _ _ _ _ Q (gm _ _ _ _ P G6)) nd9 upd_same (((rv6.mono P).append (.cons d9 .nil)).wr Q) (by rw[aI,eH];omega) q3 (by rw[<-Z,bB];rfl) ((ex6.trans P).wr Q D0) ((En6.mono P).wr Q)
    .exact Zb a
   .exact Zb a
  .rename_i j q1
   refine L q1 λs8 l f I8 C S8=>?_
   rw[ao Bf];exact Y I8 S8 (gm _ _ _ _ C G6) (n8 C) (v8 C) (rv6.mono C) (by omega) a Z (ex6.trans C) (En6.mono C)
  .exact Zb a
 .refine thn (T.done X rfl rfl rfl Kx.calm i [] s _ H _ I (fpk fi) ti (stop i ad H st Gd S W (by omega))) λr s5 ⟨hr,I5⟩=>?_
  subst hr;rw[List.drop_eq_nil_of_le (dY hi)]at a;unfold ZW at a;rw[am W]at a;cases a;rw[bD]at Z;subst Z;exact done s5 _ H ad vs I5 S nd hv rv ex
def UR(Kx:Cxt X G F sc N)(ihE:Zr G F n)(P:YS sc sc2 xs=ac)(hfr:Y0 N (ZN sc2)=aa fr)(hce:cE G n sc2 (xs++ZN sc2) elt=aa ce)(hcc:(ifs=[]/\cc=.c (.bl ac))\/∃ e,ifs=[e]/\cE G n sc2 (xs++ZN sc2) e=aa cc)(c1:∀ y c,cl.lookup y=aa c->X.env.cells.lookup y=aa c)(c2:∀ y,(y,NameKind.free)∈sc2.names->(cl.lookup y).isSome){fp:Li Ad}{it:Ad}{ok:Za->Prop}(gm:∀ ad H ad' H',Ext ad H ad' H'->Good ad H->Good ad' H')(gw:∀ ad H p xs ys,H p=aa (.lst xs)->Good ad H->Good ad (upd H p (.lst ys)))(go:∀ i ad H st,Good ad H->StOk X.K ad H st->ok st->i < ds.length->J.go i H)(stop:∀ i ad H st,Good ad H->StOk X.K ad H st->ok st->ds.length=i->J.stop i H)(yl:∀ i ad H st v H',Good ad H->StOk X.K ad H st->ok st->J.yld i H v H'->i < ds.length->Ext ad H ad H'/\StOk X.K ad H' st/\∃ d,ds[i]?=aa d/\Den X.K ad H' v d){s2 s3:Sd}{dd:Ad}{h:bg}{ys:Li D}(B:Xf X.K tg xs bd ds)(T:Turn X.prog X.w X.K tg J fp it tn)(t2:tn 0 s2.heap)(I:∀ b∈fp,FpOk X pQ H2 b)(fb:∀ b∈fp,b < dd)(E2:EnvOk X.K ad2 H2 O U)(S2:StOk X.K ad2 H2 st1)(g2:Good ad2 H2)(r:ZW ok (λd s=>ev F ce (ZM bd U fr d) s) (λd s=>ev F cc (ZM bd U fr d) s) ds st1=aa (ys,st'))(hz:ds.length<=1000)(hp:Post X.K ad2 H2 (.lst st'.length) (st'++[(ac,ys)]) Q)(V:∀ C dd t H5 Z,t.heap.Ns C Z->(∀ h',Heap.SameBut C t.heap h'->L2.Inv X pQ O H5 { t with heap:=h' })->FpOk X pQ H5 C->Q (.ref dd) H5->compPost (az X.prog X.w) X.A X.xe use R0 (.ref dd) C (.ok .next) t)  (L:H2 dd=ab) (W:L2.Inv X pQ O (upd H2 dd (.lst [])) s3) (z3:s3.heap.objs.size=dd+1) (Y:dd∉ad2) (l:h.Ns s3.heap.objs.size m0) (up:∀ b u,s3.heap.get? b=aa u->h.get? b=aa u) (M:∀ b u,s2.heap.get? b=aa u->s3.heap.get? b=aa u) :
  codeAny (az X.prog X.w) X.A (.compStart (.ListComp elt [⟨tg,iter,ifs,0⟩] sc2 pos) 0 (.ref it) (.ref dd) (compEnvC sc2 cl s3.heap.objs.size X.env)) (compPost (az X.prog X.w) X.A X.xe use R0 (.ref dd) s3.heap.objs.size) { s3 with heap:=h,toks:=tk }:=by
 obtain⟨h1,h2,h3,h4,h5,h6⟩:=Yf P;have f3:∀ b∈fp,FpOk X pQ (upd H2 dd (.lst [])) b:=λb f=>⟨by rw[upd_ne (aY (fb b f))];exact(I b f).1,(I b f).2⟩
 obtain⟨fl,fg⟩:=WC hfr;have I4:=Zbe (N:=xs++ZN sc2) (cl:=cl) (fp:=fp) (tk:=tk) (O':=af xs.length ab++fr.map λi=>(O[i]?).join) W h1 h2 l up c1 (λy e=>c2 y (mem_of_lookup e)) f3 (λb f=>by rw[z3];exact Nat.lt_succ_of_lt (fb b f)) (λi y v e1 g=>by
  by_cases E:i < xs.length
  .rw[bZ (by simpa using E),eG,am E]at g;cases g
  .have E:xs.length<=i:=dY E
   rw[cG (by simpa using E),aU,bM]at g
   rw[cG E]at e1;cases q:fr[i - xs.length]? with
   |none=>rw[q]at g;cases g
   |some k=>
    rw[q]at g;have g:(O[k]?).join=aa v:=by simpa using g
    have e3:O[k]?=aa (aa v):=by
     cases w:O[k]? with
     |none=>rw[w]at g;cases g
     |some o=>rw[w]at g;rw[show o=aa v from g]
    obtain⟨y',g1,g2⟩:=fg _ k q;rw[e1]at g1;cases g1
    obtain⟨k1,k2⟩:=h6 y (aX e1);exact⟨k,by rw[Kx.hN];exact g2,e3,k2,Kx.cel y k1⟩) (by simp[fl])
 have K':=ZaE (cl:=cl) (C:=s3.heap.objs.size) (s3:=s3) (H3:=upd H2 dd (.lst [])) (fp:=fp) (pQ:=pQ) Kx P;have m:=JL (R:=compPost (az X.prog X.w) X.A X.xe use R0 (.ref dd) s3.heap.objs.size) (pos:=pos) (iter:=iter) K' ihE hce hcc gm gw go stop yl T B h5 (λi x e=>by show(xs++ZN sc2)[i]?=aa x;rw[bZ (bJ.mp e).1];exact e) (λy hy=>Ys (h3 y hy) (by intro q;cases q)) rfl (λ{H} hn b f=>⟨hn b f,by
  show b≠s3.heap.objs.size;rw[z3];exact aY (Nat.lt_succ_of_lt (fb b f)),λhs=>(aF.mp (W.stkSub b hs)).elim (I b f).2.1 (I b f).2.2.1,.inl f,λy c e=>(I b f).2.2.2.2.1 y c (c1 _ _ e),λp hp=>(I b f).2.2.2.2.2 p (by simpa[cxC] using hp)⟩) (O:=O) (U:=U) (fr:=fr) (λa b=>ZaJ a b) (dd:=dd) (ad2:=ad2) (H2:=H2) (st':=st') (ys:=ys) L hz (λt σ5 H ad vs I5 S nd hv rv ex=>by
   obtain⟨Z,hn,_⟩:=I5.loc;refine V s3.heap.objs.size dd t H Z hn (λh' sb=>Zbd W rfl I5 sb f3) (W.fpOk (aD _) I5.free) (hp (.ref dd) (ad++[dd]) H ⟨λj a e=>Y2 (ex.pre j a e),ex.tup,ex.dk,ex.keep,λb f=>?_,ex.kd⟩ (S.adopt hv nd rv) (.lst ⟨by rw[<-S.len];exact Zu,Wz hv λ_ z=>nomatch z⟩))
   rcases bO.mp f with z|z
   .exact ex.new b z
   .rw[aR.mp z];exact .inr L)
  (.mk 0 (af xs.length ab) (upd H2 dd (.lst [])) ad2 st1 [] [] ys (bF _) (bM ..) I4 (T.keep _ _ _ t2 λb _ o e=>up b o (M b o e)) (λb f=>(f3 b f).1) (E2.mono (Ext.laid L)) (S2.laid L) (gm _ _ _ _ (Ext.laid L) g2) Y upd_same .nil (aD _) r rfl (Ext.laid L))
 exact codeAny_compStart_list m (T.self X.A 0 _ _ _ (T.keep _ _ _ t2 λb _ o e=>up b o (M b o e)) m)
def JK(Kx:Cxt X G F sc N)(x:Zr G F n)(m:YS sc sc2 xs=ac)(E:Y0 N (ZN sc2)=aa fr)(I:cE G n sc2 (xs++ZN sc2) elt=aa ce)(L:(ifs=[]/\cc=.c (.bl ac))\/∃ e,ifs=[e]/\cE G n sc2 (xs++ZN sc2) e=aa cc)(c1:∀ y c,cl.lookup y=aa c->X.env.cells.lookup y=aa c)(c2:∀ y,(y,NameKind.free)∈sc2.names->(cl.lookup y).isSome){M:Li Ad}{it:Ad}{ok:Za->Prop}(Good:Li Ad->Hp->Prop)(gm:∀ ad H ad' H',Ext ad H ad' H'->Good ad H->Good ad' H')(gw:∀ ad H p xs ys,H p=aa (.lst xs)->Good ad H->Good ad (upd H p (.lst ys)))(go:∀ i ad H st,Good ad H->StOk X.K ad H st->ok st->i < ds.length->J.go i H)(stop:∀ i ad H st,Good ad H->StOk X.K ad H st->ok st->ds.length=i->J.stop i H)(Y:∀ i ad H st v H',Good ad H->StOk X.K ad H st->ok st->J.yld i H v H'->i < ds.length->Ext ad H ad H'/\StOk X.K ad H' st/\∃ d,ds[i]?=aa d/\Den X.K ad H' v d){g:Sd}{ys:Li D}(P:L2.Inv X pQ O H2 g)(B:Xf X.K tg xs bd ds)(T:Turn X.prog X.w X.K tg J M it tn)(S:tn 0 g.heap)(f2:∀ b∈M,FpOk X pQ H2 b)(E2:EnvOk X.K ad2 H2 O U)(W:StOk X.K ad2 H2 st1)(g2:Good ad2 H2)(j:ZW ok (λd s=>ev F ce (ZM bd U fr d) s) (λd s=>ev F cc (ZM bd U fr d) s) ds st1=aa (ys,st'))(hz:ds.length<=1000)(hp:Post X.K ad2 H2 (.lst st'.length) (st'++[(ac,ys)]) Q)(q:∀ C dd t R Z,t.heap.Ns C Z->(∀ h',Heap.SameBut C t.heap h'->L2.Inv X pQ O R { t with heap:=h' })->FpOk X pQ R C->Q (.ref dd) R->compPost (az X.prog X.w) X.A X.xe use R0 (.ref dd) C (.ok .next) t) :
  ay (az X.prog X.w) X.A (newList []) (λr l=>ay (az X.prog X.w) X.A (newFunctionEnv sc2 X.env.globals cl [] X.env.qual ab .none (aa X.env)) (λh k=>
   codeAny (az X.prog X.w) X.A (.compStart (.ListComp elt [⟨tg,iter,ifs,0⟩] sc2 pos) 0 (.ref it) r { h with scope:=relabel sc2 X.env }) (compPost (az X.prog X.w) X.A X.xe use R0 r h.locals) k) X.xe l) X.xe g:=by
 obtain⟨h1,h2,h3,h4,h5,h6⟩:=Yf m;have fb:∀ b∈M,b < g.heap.objs.size:=λb hb=>let ⟨o,e,_⟩:=T.obj 0 _ S b hb;aJ e
 refine wpAny_newObj_type (wpAny_newFunctionEnv h2 (by intro y hy;simp at hy) (λV f a=>?_) h1)
 dsimp only at f a ⊢;have I3:L2.Inv X pQ O (upd H2 g.heap.objs.size (.lst [])) { g with heap:=g.heap.push { cls:=.type "list",dict:=ab,data:=.seq ([]:Li vL).toArray } }:=P.lnew (its:=[]) (t':=g.toks) .nil (aO _)
 have e3:g.heap.push { cls:=.type "list",dict:=ab,data:=.seq ([]:Li vL).toArray }=({ g with heap:=g.heap.push { cls:=.type "list",dict:=ab,data:=.seq ([]:Li vL).toArray } }:Sd).heap:=rfl
 exact UR Kx x m E I L c1 c2 gm gw go stop Y B T S f2 fb E2 W g2 j hz hp q (P.hok.fresh (aD _)) I3 (Heap.size_push ..) (λz=>aq (W.lt P z) (bS _)) f (λb u e=>a.extBut b u (aY (aJ e)) (aL _ e)) (λb u e=>aL _ e)
end
variable [ClsTab]
def Ju(X:Cx)(O:L2.St)(U:Env)(ds:Li D)(ok:Za->Prop)(st1 a:Za)(ys:Li D)(Q:VK)(J:It)(b:Hp):Prop:=
 ∃ (ad1:Li Ad) (Good:Li Ad->Hp->Prop),(∀ ad H ad' H',Ext ad H ad' H'->Good ad H->Good ad' H')/\(∀ ad H p c ys,H p=aa (.lst c)->Good ad H->Good ad (upd H p (.lst ys))) /\
  (∀ i ad H st,Good ad H->StOk X.K ad H st->ok st->i < ds.length->J.go i H)/\(∀ i ad H st,Good ad H->StOk X.K ad H st->ok st->ds.length=i->J.stop i H)/\(∀ i ad H st v H',Good ad H->StOk X.K ad H st->ok st->J.yld i H v H'->i < ds.length->Ext ad H ad H'/\StOk X.K ad H' st/\∃ d,ds[i]?=aa d/\Den X.K ad H' v d) /\
  EnvOk X.K ad1 b O U/\StOk X.K ad1 b st1/\Good ad1 b/\Post X.K ad1 b (.lst a.length) (a++[(ac,ys)]) Q
variable{st2:Za}
def Wj{ys:Li D}{f:Ev}(E:EnvOk X.K ad H O U)(S:StOk X.K ad H st)(q:f U st=aa (.tup ds,st1))(p:Post X.K ad H (.lst st2.length) (st2++[(ac,ys)]) Q) :
  iTup X.K (tE X.K f) O H (Ju X O U ds (λ_=>True) st1 st2 ys Q):=by
 refine⟨ad,U,st,.tup ds,st1,E,S,q,λv c o d n m=>?_⟩
 obtain⟨a,vs,rfl,j,rv⟩:=m.ofTup;refine⟨a,rfl,⟨vs,(j).sq⟩,c,λad H=>TupAt X.K H a vs/\Dens X.K ad H vs ds,λ_ _ _ _ x g=>⟨g.1.mono x,g.2.mono x⟩,λ_ H p k ys h g=>⟨g.1.upd h (by intro k z;cases z),g.2.wr h⟩,λi ad H st g _ _ b=>?_,λi ad H st g _ _ b=>⟨vs,(g.1).sq,by rw[g.2.length];exact cK b⟩,
  λi ad H st v H' g S _ y b=>?_,E.mono d,n,⟨j,rv⟩,p.later d⟩
 .obtain⟨v,e,_⟩:=g.2.get (Lg b)
  exact⟨vs,v,(g.1).sq,e⟩
 .obtain⟨w,e,l⟩:=g.2.get (Lg b)
  have:=y.2 vs ((g.1).sq);rw[e]at this;cases this
  cases y.1;exact⟨Ext.refl _ _,S,_,Lg b,l⟩
def Zaz{n:Int}{ys:Li D}{f:Ev}(e:n < 2 ^ 62/\-(2 ^ 62)<=n)(E:EnvOk X.K ad H O U)(S:StOk X.K ad H st)(q:f U st=aa (.int n,st1))(p:Post X.K ad H (.lst st2.length) (st2++[(ac,ys)]) Q) :
  iRng1 (tCons (tE X.K f) tNil) O H (Ju X O U ((ag n.toNat).map λ(k:Nat)=>D.int (k:Int)) (λ_=>True) st1 st2 ys Q):=by
 refine⟨ad,U,st,.int n,st1,E,S,q,λv c j d h g=>?_⟩
 cases g.ofInt;refine⟨n,rfl,e.2,e.1,c,λ_ _=>True,λ_ _ _ _ _ _=>trivial,λ_ _ _ _ _ _ _=>trivial,λi ad H st _ _ _ a=>(show i < n.toNat by simpa using a),λi ad H st _ _ _ a=>(show n.toNat<=i by simpa using cK a),λi ad H st v H' _ S _ y a=>?_,E.mono d,h,trivial,p.later d⟩
 cases y.1;have b:i < n.toNat:=by simpa using a
 refine⟨Ext.refl _ _,S,.int (i:Int),?_,?_⟩
 .rw[aU,List.getElem?_range b];rfl
 .rw[y.2,Int.zero_add];exact .int _
def VU{c:Y8}{ys:Li D}{f:Ev}(E:EnvOk X.K ad H O U)(S:StOk X.K ad H st)(q:f U st=aa (.lst l,st1))(m:st1[l]?=aa c)(p:Post X.K ad H (.lst st2.length) (st2++[(ac,ys)]) Q) :
  iList X.K (tE X.K f) O H (Ju X O U c.2 (λs=>s[l]?=aa c) st1 st2 ys Q):=by
 refine⟨ad,U,st,.lst l,st1,E,S,q,λv d r h k o=>?_⟩
 obtain⟨a,rfl,j⟩:=o.ofLst;obtain⟨vs,rv,sq⟩:=k.list j (show st1[l]?=aa (c.1,c.2) from m);refine⟨a,rfl,⟨vs,sq⟩,d,λad H=>LA ad H l a,λ_ _ _ _ x g=>g.mono x,λ_ _ _ _ _ e g=>⟨g.1,λz=>g.2 ((Vw e).mpr z)⟩,λi ad H st g S e b=>?_,λi ad H st g S e b=>?_,λi ad H st v H' g S e y b=>?_,E.mono h,k,j,p.later h⟩
 .obtain⟨vs,rv,sq⟩:=S.list g (show st[l]?=aa (c.1,c.2) from e)
  obtain⟨v,e,_⟩:=rv.get (Lg b);exact⟨vs,v,sq,e⟩
 .obtain⟨vs,rv,sq⟩:=S.list g (show st[l]?=aa (c.1,c.2) from e)
  exact⟨vs,sq,by rw[rv.length];exact cK b⟩
 .obtain⟨vs,rv,sq⟩:=S.list g (show st[l]?=aa (c.1,c.2) from e)
  obtain⟨w,e,n⟩:=rv.get (Lg b);have:=y.2 vs sq;rw[e]at this;cases this
  cases y.1;exact⟨Ext.refl _ _,S,_,Lg b,n⟩
theorem WZ:∀ {a:Li D}{k i:Nat},(YN k a)[i]?=(a[i]?).map λx=>.tup [.int ((k+i:Nat):Int),x]
 |[],_,_=>rfl
 |x :: a,k,0=>rfl
 |x :: a,k,i+1=>by
  show(YN (k+1) a)[i]?=_;rw[WZ,show k+1+i=k+(i+1) by omega]
  rfl
theorem Y6:∀ {a:Li D}{k:Nat},(YN k a).length=a.length
 |[],_=>rfl
 |x :: a,k=>ar (·+1) Y6
theorem XN:∀ {c:Li D}{k:Nat},∀ d∈YN k c,∃ a b,d=.tup [a,b]
 |[],_,_,h=>nomatch h
 |x :: c,k,d,h=>by
  rcases aF.mp h with rfl|h
  .exact⟨_,_,rfl⟩
  .exact XN d h
def JI{x:D}{ok:Za->Prop}{ys:Li D}{f:Ev}(E:EnvOk X.K ad H O U)(S:StOk X.K ad H st)(q:f U st=aa (x,st1))(j:Ux x st1=aa (ds,ok))(p:Post X.K ad H (.lst st2.length) (st2++[(ac,ys)]) Q) :
  QQ X.K (tCons (tE X.K f) tNil) O H (Ju X O U ds ok st1 st2 ys Q):=by
 have k:∀ {sq:Hp->Li V->Prop}{d:Li D}{ok:Za->Prop}{b:Li Ad}{m:Hp} (Good:Li Ad->Hp->Prop),(∀ ad H ad' H',Ext ad H ad' H'->Good ad H->Good ad' H')->(∀ ad H p d ys,H p=aa (.lst d)->Good ad H->Good ad (upd H p (.lst ys)))->Good b m->
   (∀ ad H st,Good ad H->StOk X.K ad H st->ok st->∃ vs,Dens X.K ad H vs d/\sq H vs)->EnvOk X.K b m O U->StOk X.K b m st1->Post X.K b m (.lst st2.length) (st2++[(ac,ys)]) Q->Ju X O U (YN 0 d) ok st1 st2 ys Q (Ite sq) m:=
  λ{sq d ok b m} Good J I g1 t M o F=>by
   refine⟨b,Good,J,I,λi ad H st g S e h=>?_,λi ad H st g S e h=>?_,λi ad H st v H' g S e y h=>?_,M,o,g1,F⟩
   .rw[Y6]at h
    obtain⟨vs,rv,sq⟩:=t ad H st g S e;obtain⟨v,e,_⟩:=rv.get (Lg h);exact⟨vs,v,sq,e⟩
   .rw[Y6]at h
    obtain⟨vs,rv,sq⟩:=t ad H st g S e;exact⟨vs,sq,by rw[rv.length];exact h⟩
   .rw[Y6]at h
    obtain⟨vs,rv,sq⟩:=t ad H st g S e;obtain⟨w,e,L⟩:=rv.get (Lg h);obtain⟨T,x,rfl,A,rfl,G⟩:=y;have:=G vs sq;rw[e]at this;cases this
    refine⟨Ext.laid A,S.laid A,_,by rw[WZ,Lg h];rfl,.tup (.inl upd_same) (.cons ?_ (.cons (L.mono (Ext.laid A)) .nil))⟩
    rw[bF];exact .int _
 refine⟨ad,U,st,x,st1,E,S,q,λv b m r o C=>?_⟩
 cases x with
 |tup d=>
  cases j;obtain⟨a,vs,rfl,n,rv⟩:=C.ofTup;exact⟨a,rfl,.inr ⟨⟨vs,n.sq⟩,k (λad H=>TupAt X.K H a vs/\Dens X.K ad H vs d) (λ_ _ _ _ x g=>⟨g.1.mono x,g.2.mono x⟩) (λ_ H p d ys B g=>⟨g.1.upd B (by intro d z;cases z),g.2.wr B⟩) ⟨n,rv⟩ (λad H st g _ _=>⟨vs,g.2,g.1.sq⟩) (E.mono r) o (p.later r)⟩⟩
 |lst l=>
  have j:(match st1[l]? with
   |some c=>aa (YN 0 c.2,λs=>s[l]?=aa c)
   |none=>ab)=aa (ds,ok):=j
  cases u:st1[l]? with
  |none=>rw[u]at j;cases j
  |some c=>
   rw[u]at j;cases j;obtain⟨a,rfl,n⟩:=C.ofLst;obtain⟨vs,rv,sq⟩:=o.list n (show st1[l]?=aa (c.1,c.2) from u);exact⟨a,rfl,.inl ⟨⟨vs,sq⟩,k (λad H=>LA ad H l a) (λ_ _ _ _ x g=>g.mono x) (λ_ _ _ _ _ e g=>⟨g.1,λz=>g.2 ((Vw e).mpr z)⟩) n (λad H st g S e=>S.list g (show st[l]?=aa (c.1,c.2) from e)) (E.mono r) o (p.later r)⟩⟩
 |_=>exact Zb j
def JX{x:D}{ds:Li D}{ok:Za->Prop}(h:Ux x st=aa (ds,ok)):∀ d∈ds,∃ a b,d=.tup [a,b]:=by
 cases x with
 |tup c=>cases h;exact XN
 |lst l=>
  unfold Ux at h;simp only at h;split at h
  .cases h;exact XN
  .exact Zb h
 |_=>exact Zb h
def ZbT{ds:Li D}(e:ds.all Zbg=ac):∀ d∈ds,∃ a b,d=.tup [a,b]:=λd c=>by
 have:=cT.mp e d c;unfold Zbg at this;split at this
 .exact⟨_,_,rfl⟩
 .cases this
def JY{x:D}{ds:Li D}{ok:Za->Prop}(h:WM x st=aa (ds,ok)):((x=.tup ds/\ok=λ_=>True)\/∃ l c,x=.lst l/\st[l]?=aa c/\ds=c.2/\ok=λs=>s[l]?=aa c)/\∀ d∈ds,∃ a b,d=.tup [a,b]:=by
 unfold WM at h;split at h
 .split at h
  .rename_i e
   cases h;exact⟨.inl ⟨rfl,rfl⟩,ZbT e⟩
  .exact Zb h
 .split at h
  .rename_i c f
   split at h
   .rename_i e
    cases h;exact⟨.inr ⟨_,c,rfl,f,rfl,rfl⟩,ZbT e⟩
   .exact Zb h
  .exact Zb h
 .exact Zb h
def JW{d:Li Str}(h:tgN tg=aa d):(∃ x px,tg=.Name x px/\d=[x])\/(∃ x y px py k tp,tg=.Tuple [.Name x px,.Name y py] k tp/\d=[x,y])\/∃ x y z px py g k tp,tg=.Tuple [.Name x px,.Name y py,.Name z g] k tp/\d=[x,y,z]:=by
 unfold tgN at h;split at h
 .cases h;exact .inl ⟨_,_,rfl,rfl⟩
 .rename_i es k tp
  have nm:∀ {e:aw}{x:Str},nmE e=aa x->∃ p,e=.Name x p:=λ{e x} h=>by
   unfold nmE at h;split at h
   .cases h;exact⟨_,rfl⟩
   .exact Zb h
  cases es with
  |nil=>exact Zb h
  |cons a es=>cases es with
   |nil=>exact Zb h
   |cons b es=>cases es with
    |cons c es=>cases es with
     |cons _ _=>exact Zb h
     |nil=>
      refine Xa (P:=λd=>_\/_\/∃ x y z px py g i f,Expr.Tuple [a,b,c] k tp=.Tuple [.Name x px,.Name y py,.Name z g] i f/\d=[x,y,z]) h λx y z l j m=>?_
      obtain⟨px,rfl⟩:=nm l;obtain⟨py,rfl⟩:=nm j;obtain⟨g,rfl⟩:=nm m;exact .inr (.inr ⟨x,y,z,px,py,g,k,tp,rfl,rfl⟩)
    |nil=>
     refine ZU (P:=λd=>_\/(∃ x y px py i f,Expr.Tuple [a,b] k tp=.Tuple [.Name x px,.Name y py] i f/\d=[x,y])\/_) h λx y l j=>?_
     obtain⟨px,rfl⟩:=nm l;obtain⟨py,rfl⟩:=nm j;exact .inr (.inl ⟨x,y,px,py,k,tp,rfl,rfl⟩)
 .exact Zb h
inductive CSh(G:Gs)(n:Nat)(sc:bc)(N:List Str)(elt:aw)(sc2:bc):List Comprehension->CE->Prop
 |mk {tg it:aw}{ifs:List aw}{xs:List Str}{fr:List Nat}{r:Option (Option Bool)}{ci ce cc:CE} (htg:tgN tg=aa xs) (hsc:YS sc sc2 xs=ac) (hfr:Y0 N (ZN sc2)=aa fr) (hi:itC G sc it (cE G n sc N) xs=aa (r,ci)) (hce:cE G n sc2 (xs++ZN sc2) elt=aa ce) (hcc:(ifs=[]/\cc=.c (.bl ac))\/∃ e,ifs=[e]/\cE G n sc2 (xs++ZN sc2) e=aa cc):CSh G n sc N elt sc2 [⟨tg,it,ifs,0⟩] (mkC xs.length r fr ci ce cc)
def ZcO{G:Gs}{c:CE}(h:cE G (n+1) sc N (.ListComp elt gens sc2 pos)=aa c):CSh G n sc N elt sc2 gens c:=by
 replace h:Zef G sc sc2 N (cE G n sc N) (cE G n sc2) elt gens=aa c:=h;have no:∀ {P:Prop},(ab:Ot CE)=aa c->P:=λz=>nomatch z
 cases gens with
 |nil=>exact no h
 |cons g gs=>
  obtain⟨tg,it,ifs,k⟩:=g;cases k with
  |negSucc _=>cases gs<;>exact no h
  |ofNat m=>cases m with
   |succ _=>cases gs<;>exact no h
   |zero=>cases gs with
    |cons _ _=>exact no h
    |nil=>
     replace h:(match tgN tg with
      |none=>ab
      |some b=>og (YS sc sc2 b=ac) (o3 (λfr p (q:CE×CE)=>mkC b.length p.1 fr p.2 q.1 q.2) (Y0 N (ZN sc2)) (itC G sc it (cE G n sc N) b) (o2 Prod.mk (cE G n sc2 (b++ZN sc2) elt) (ifC (cE G n sc2 (b++ZN sc2)) ifs))))=aa c:=h
     cases d:tgN tg with
     |none=>rw[d]at h;cases h
     |some b=>
      rw[d]at h;refine Xb h λf h=>Xa (P:=CSh G n sc N elt sc2 _) h λfr p q i r o=>ZU (P:=λq:CE×CE=>CSh G n sc N elt sc2 _ (mkC b.length p.1 fr p.2 q.1 q.2)) o λce cc j e=>.mk d f i r j ?_
      cases ifs with
      |nil=>cases e;exact .inl ⟨rfl,rfl⟩
      |cons a l=>cases l with
       |nil=>exact .inr ⟨a,rfl,e⟩
       |cons _ _=>exact Zb e
inductive CR(b:D->List (Option D))(w:D->Za->Option (List D×(Za->Prop)))(fr:List Nat)(fi fe fc:Ev)(U:Env)(st:Za):D->Za->Prop
 |mk {x:D}{st1 st2:Za}{ds ys:List D}{ok:Za->Prop} (q1:fi U st=aa (x,st1)) (q2:w x st1=aa (ds,ok)) (hz:ds.length<=1000) (q3:ZW ok (λd s=>fe (ZM b U fr d) s) (λd s=>fc (ZM b U fr d) s) ds st1=aa (ys,st2)):CR b w fr fi fe fc U st (.lst st2.length) (st2++[(ac,ys)])
def Yy{b:D->Li (Ot D)}{w:D->Za->Ot (Li D×(Za->Prop))}{a c f:Ev}(e:Ye b w fr a c f U st=aa (d,st')):CR b w fr a c f U st d st':=by
 unfold Ye at e;split at e
 .split at e
  .split at e
   .split at e
    .cases e;exact .mk ‹_› ‹_› ‹_› ‹_›
    .exact Zb e
   .exact Zb e
  .exact Zb e
 .exact Zb e
inductive CIt(X:Cx)(pQ:List (Addr×Obj))(s:Shared)(O:L2.St)(U:Env)(tg it:aw)(xs:List Str)(F:Nat->Fn)(fr:List Nat)(ce cc:CE)(Q:VK):Prop
 |mk {bd:D->List (Option D)}{ds:List D}{ok:Za->Prop}{st1 st2:Za}{ys:List D} (B:Xf X.K tg xs bd ds) (hz:ds.length<=1000) (q3:ZW ok (λd s=>ev F ce (ZM bd U fr d) s) (λd s=>ev F cc (ZM bd U fr d) s) ds st1=aa (ys,st2)) (hp:Zg it=ac) (pi:ay (az X.prog X.w) X.A (eval it X.env) (λv s1=>ay (az X.prog X.w) X.A (pyIter v) (PIE X pQ O tg (Ju X O U ds ok st1 st2 ys Q)) X.xe s1) X.xe s):CIt X pQ s O U tg it xs F fr ce cc Q
def XD{f:α->β}{o:Ot α}{b:β}(h:o.map f=aa b):∃ a,o=aa a/\f a=b:=by
 cases o with
 |none=>exact Zb h
 |some a=>exact⟨a,rfl,by cases h;rfl⟩
variable{F:Nat->Fn}
def ZcM{G:Gs}(h:Zr G F n)(t:Cxt X G F sc N){j:Li Str}{r:Ot (Ot Bool)}{C:CE}(P:tgN tg=aa j)(g:itC G sc it (cE G n sc N) j=aa (r,C)){s:Sd}(I:L2.Inv X pQ O H s)(E:EnvOk X.K ad H O U)(S:StOk X.K ad H st)(e:ev F (mkC j.length r fr C ce cc) U st=aa (d,st'))(p:Post X.K ad H d st' Q):CIt X pQ s O U tg it j F fr ce cc Q:=by
 rcases JW P with⟨x,px,rfl,rfl⟩|⟨x,y,px,py,k,tp,rfl,rfl⟩|⟨x,y,z,px,py,pz,k,tp,rfl,rfl⟩
 .replace g:(match ZS G sc it with
   |some a=>(cE G n sc N a).map λc=>(aa (aa ac),c)
   |none=>(cE G n sc N it).map λc=>(aa (aa ae),c))=aa (r,C):=g
  split at g
  .rename_i a W
   obtain⟨J,q,g⟩:=XD g;cases g;obtain⟨R,M⟩:=XY (tg:=.Name x px) t W (Ze q) (h X sc N t a _ q).pe;cases Yy e with
   |@mk A st1 st2 ds ys ok i f o m=>
    refine .mk VR o m R (M pQ s O H _ I ?_);cases A with
    |int k=>
     have f:(match (if k < 2 ^ 62/\-(2 ^ 62)<=k then aa ((ag k.toNat).map λ(k:Nat)=>D.int (k:Int)) else ab) with
      |some j=>aa (j,λ_=>True)
      |none=>ab)=aa (ds,ok):=f
     by_cases T:k < 2 ^ 62/\-(2 ^ 62)<=k
     .rw[am T]at f
      cases f;exact Zaz T E S i p
     .rw[ao T]at f
      cases f
    |_=>exact Zb f
  .obtain⟨J,q,g⟩:=XD g
   cases g;cases Yy e with
   |@mk A st1 st2 ds ys ok i f o m=>
    refine .mk VR o m (Ze q) ?_;cases A with
    |tup j=>cases f;exact pi_tup (h X sc N t it _ q).pe pQ s O H _ I (Wj E S i p)
    |lst l=>
     have f:(match st1[l]? with
      |some c=>aa (c.2,λs=>s[l]?=aa c)
      |none=>ab)=aa (ds,ok):=f
     cases B:st1[l]? with
     |none=>rw[B]at f;cases f
     |some c0=>
      rw[B]at f;cases f;exact pi_list (h X sc N t it _ q).pe pQ s O H _ I (VU E S i B p)
    |str z=>exact Zb f
    |dct ks vs=>
     have no:∀ {v:V}{u:Li Ad}{L:Hp},Den X.K u L v (.dct ks vs)->False:=λ{v u L} Y=>by
      obtain⟨a,ws,_,_,hl,r⟩:=Y.ofDct;cases ks with
      |cons _ _=>exact Zb f
      |nil=>
       cases ws with
       |cons _ _=>cases hl
       |nil=>cases r;cases f
     exact thn ((h X sc N t it _ q).pe pQ s O H (λ_ _=>False) I ⟨ad,U,st,_,st1,E,S,i,λv u L x1 S1 Y=>no Y⟩) λv s1 ⟨x,L,I1,r1,z⟩=>z.elim
    |_=>exact Zb f
 .replace g:(match Y5 G sc it with
   |some a=>(cE G n sc N a).map λc=>(aa ab,c)
   |none=>(cE G n sc N it).map λc=>(ab,c))=aa (r,C):=g
  split at g
  .rename_i a W
   obtain⟨J,q,g⟩:=XD g;cases g;cases Yy e with
   |mk i f o m=>
    obtain⟨R,M⟩:=Wn (elts:=[.Name x px,.Name y py]) (kk:=k) (tp:=tp) t W (Ze q) (h X sc N t a _ q).pe;exact .mk (Wh (JX f)) o m R (M pQ s O H _ I (JI E S i f p))
  .obtain⟨J,q,g⟩:=XD g
   cases g;cases Yy e with
   |mk i f o m=>
    obtain⟨hw,Z⟩:=JY f;rcases hw with⟨rfl,rfl⟩|⟨l,c0,rfl,B,rfl,rfl⟩
    .exact .mk (Wh Z) o m (Ze q) (pi_tup (h X sc N t it _ q).pe pQ s O H _ I (Wj E S i p))
    .exact .mk (Wh Z) o m (Ze q) (pi_list (h X sc N t it _ q).pe pQ s O H _ I (VU E S i B p))
 .replace g:(match Y5 G sc it with
   |some _=>ab
   |none=>(cE G n sc N it).map λc=>(ab,c))=aa (r,C):=g
  split at g
  .exact Zb g
  .obtain⟨J,q,g⟩:=XD g
   cases g;cases Yy (b:=Jn) (w:=Zch) e with
   |@mk A st1 st2 ds ys ok i f o m=>
    cases A with
    |tup j=>
     have f:(if j.all Zfl=ac then aa (j,λ(_:Za)=>True) else ab)=aa (ds,ok):=f
     split at f
     .rename_i ht
      cases f;exact .mk (UM λd hd=>by
       have:=cT.mp ht d hd;unfold Zfl at this;split at this
       .exact⟨_,_,_,rfl⟩
       .cases this) o m (Ze q) (pi_tup (h X sc N t it _ q).pe pQ s O H _ I (Wj E S i p))
     .exact Zb f
    |_=>exact Zb f
def QI{G:Gs}(b:Zr G F n)(t:Cxt X G F sc N){c:CE}(h:cE G (n+1) sc N (.ListComp elt gens sc2 pos)=aa c){s:Sd}(I:L2.Inv X pQ O H s)(Y:tE X.K (ev F c) O H Q)(g:∀ C dd i u M,i.heap.Ns C M->(∀ h',Heap.SameBut C i.heap h'->L2.Inv X pQ O u { i with heap:=h' })->FpOk X pQ u C->Q (.ref dd) u->compPost (az X.prog X.w) X.A X.xe use R0 (.ref dd) C (.ok .next) i) :
  ∃ tg it ifs,gens=[⟨tg,it,ifs,0⟩]/\∀ a,ay (az X.prog X.w) X.A (comprehension (.ListComp elt [⟨tg,it,ifs,0⟩] sc2 pos) sc2 X.env a (newList []) ae (eval it X.env) use) R0 X.xe s:=by
 cases ZcO h with
 |@mk tg it ifs xs fr r ci ce cc j f k hi l m=>
  obtain⟨h1,h2,h3,h4,h5,h6⟩:=Yf f;obtain⟨ad,U,st,d,st',E,S,e,p⟩:=Y;obtain⟨cl,ec,c1,c2⟩:=VW (env:=X.env) (sc:=sc2) (λy W hf=>by
   have hm:(y.1,NameKind.free)∈sc2.names:=by rw[<-hf];exact W
   exact I.ok.has y.1 (t.cel y.1 (h6 y.1 (mem_frees.mpr hm)).1))
  refine⟨tg,it,ifs,rfl,λa=>?_⟩
  cases ZcM b t j hi I E S e p with
  |mk B V D Z L=>
   refine wpAny_comprehension_free (use:=use) rfl (ZL Z) ec h1 h4 (thn L λv s1 q=>thn q λP s2 o=>?_)
   obtain⟨R,fp,tn,J,H2,rfl,I2,T,z,f2,ad1,Good,gm,gw,go,stop,x,E2,S2,g2,p2⟩:=o;exact JK t b f k l m c1 c2 Good gm gw go stop x I2 B T z f2 E2 S2 g2 D V p2 g
def ZcN{G:Gs}:YQ G F:=by
 intro n f;refine⟨λX sc N R elt gens sc2 pos c h=>SE.of ?_,λX sc N K y i p elt gens sc2 j pos c E h r=>?_⟩
 .intro pQ s O H Q I g
  obtain⟨tg,it,ifs,rfl,go⟩:=QI f R h I g (use:=ab) (R0:=EP X pQ O Q) λC dd l x m t u _ q=>⟨m,t,λh' sb=>⟨.ref dd,x,u h' sb,rfl,q⟩⟩
  rw[eval_ListComp];exact go _
 .intro pQ s O H D I g
  obtain⟨tg,it,ifs,rfl,go⟩:=QI f K.toCxt h I g (use:=aa (assign (.Name y p) X.env)) (R0:=λ_ B=>SP X pQ D .next B) λC dd l x m t u d q=>by
   have T:=u l.heap (Heap.SameBut.refl _ _);show ay _ X.A (assign (.Name y p) X.env (.ref dd)) _ _ l;refine wpAny_assign_Name (store_ok2 (v:=.ref dd) T (by rw[K.hN];exact K.nd) (by rw[K.hN];exact Xl E) (K.loc _ (Vn E)) rfl (λJ S ⟨a,sb,P⟩=>?_) (.inl (K.fn _)))
   have L:C≠a:=by
    rcases P with z|z
    .rw[z];exact d.2.1
    .exact λw=>d.2.2.2.2.1 _ _ z w.symm
   exact⟨m,t.sameBut sb L,λU k=>⟨_,x,S.turned (t':=J.toks) (λb o M e=>k.extBut b o M e) d.1 d.2.1 d.2.2.2.1 d.2.2.2.2.1 d.2.2.2.2.2,q⟩⟩
  rw[exec_Assign_Name_used _ _ _ _ r];refine aA (wpAny_standAt (aA ?_));show ay _ X.A (do let _ <-comprehension (.ListComp elt [⟨tg,it,ifs,0⟩] sc2 j) sc2 X.env _ (newList []) ae (eval it X.env) (aa (assign (.Name y p) X.env))) _ _ s
  exact aA (bG (go _) (λ_ B g=>aE (aE g)) λ_ _ e=>e)
variable [ClsTab]
def Zij{α:Type}:∀ {us:Li α},us.length=0->us=[]
 |[],_=>rfl
def Zg3{α:Type}:∀ {us:Li α},us.length=1->∃ a,us=[a]
 |[a],_=>⟨a,rfl⟩
def Zbn{α:Type}:∀ {us:Li α},us.length=2->∃ a b,us=[a,b]
 |[a,b],_=>⟨a,b,rfl⟩
def U2{α:Type}:∀ {us:Li α},us.length=3->∃ a b c,us=[a,b,c]
 |[a,b,c],_=>⟨a,b,c,rfl⟩
def Zfp{α:Type}:∀ {us:Li α},us.length=4->∃ a b c d,us=[a,b,c,d]
 |[a,b,c,d],_=>⟨a,b,c,d,rfl⟩
def Zik{α:Type}:∀ {us:Li α},us.length=5->∃ a b c d e,us=[a,b,c,d,e]
 |[a,b,c,d,e],_=>⟨a,b,c,d,e,rfl⟩
def Zil{α:Type}:∀ {us:Li α},us.length=6->∃ a b c d e f,us=[a,b,c,d,e,f]
 |[a,b,c,d,e,f],_=>⟨a,b,c,d,e,f,rfl⟩
def Xg(K:Fg)(G:Gs)(T:Nat->Ot FD)(C:Ad):Li (Str×Nat×Nat)->Prop
 |[]=>True
 | (m,j,_) :: r=>(∃ y f fd pn N,MethOk K G T C m y j f fd pn N)/\Xg K G T C r
def Xi(K:Fg)(B:Ad):Li Nat->Prop
 |[]=>True
 |i :: r=>SubOk K (ClsTab.ca i) B/\Xi K B r
def YO(a:Params)(K:Fg)(mg:Str->Ot vL)(G:Gs)(T:Nat->Ot FD):Gs->Prop
 |[]=>True
 | (x,.c d) :: r=>(∃ v u,mg x=aa u/\RelV v u/\∀ ad H,Den K ad H v d)/\YO a K mg G T r
 | (x,.blt) :: r=>mg x=ab/\YO a K mg G T r
 | (x,.dct ks ds) :: r=>QA a K mg x ks ds/\YO a K mg G T r
 | (x,.fn i _ ds) :: r=>(∃ f fd pn N,DefOk K mg G T x i ds f fd pn N)/\YO a K mg G T r
 | (x,.cls i ms subs) :: r=>((mg x=aa (.ref (ClsTab.ca i))/\NewOk K (ClsTab.ca i)/\Xi K (ClsTab.ca i) subs)/\Xg K G T (ClsTab.ca i) ms)/\YO a K mg G T r
def ZeS(a:Params)(K:Fg)(mg:Str->Ot vL)(G:Gs)(T:Nat->Ot FD)(x:Str):GV->Prop
 |.c d=>∃ v u,mg x=aa u/\RelV v u/\∀ ad H,Den K ad H v d
 |.blt=>mg x=ab
 |.dct ks ds=>QA a K mg x ks ds
 |.fn i _ ds=>∃ f fd pn N,DefOk K mg G T x i ds f fd pn N
 |.cls i ms subs=>(mg x=aa (.ref (ClsTab.ca i))/\NewOk K (ClsTab.ca i)/\Xi K (ClsTab.ca i) subs)/\Xg K G T (ClsTab.ca i) ms
theorem YA{b:Params}:∀ {l:Gs}{x:Str}{g:GV},YO b K mg G T l->l.lookup x=aa g->ZeS b K mg G T x g
 |[],_,_,_,h=>by cases h
 | (y,v) :: r,x,g,a,h=>by
  have tl:YO b K mg G T r/\ZeS b K mg G T y v:=by
   cases v with
   |c d=>exact⟨a.2,a.1⟩
   |blt=>exact⟨a.2,a.1⟩
   |dct ks ds=>exact⟨a.2,a.1⟩
   |fn i f ds=>exact⟨a.2,a.1⟩
   |cls i ms subs=>exact⟨a.2,a.1⟩
  rw[cB]at h;cases e:x==y with
  |true=>
   rw[e]at h;cases h;rw[beq_iff_eq.mp e];exact tl.2
  |false=>
   rw[e]at h;exact YA tl.1 h
theorem Jl{B:Ad}:∀ {l:Li Nat},Xi K B l->∀ i,l.contains i=ac->SubOk K (ClsTab.ca i) B
 |[],_,_,h=>by cases h
 |j :: r,a,i,h=>by
  rw[List.contains_cons,dJ]at h;rcases h with h|h
  .rw[beq_iff_eq.mp h];exact a.1
  .exact Jl a.2 i h
theorem Um{C:Ad}:∀ {l:Li (Str×Nat×Nat)},Xg K G T C l->∀ m j b,l.lookup m=aa (j,b)->∃ y f fd pn N,MethOk K G T C m y j f fd pn N
 |[],_,_,_,_,h=>by cases h
 | (d,g,c) :: r,a,m,j,b,h=>by
  rw[cB]at h;cases e:m==d with
  |true=>
   rw[e]at h;cases h;rw[beq_iff_eq.mp e];exact a.1
  |false=>
   rw[e]at h;exact Um a.2 m j b h
def ZdZ{a:Params}(h:YO a K mg G T G):Text a K mg G T:=
 ⟨λ_ _ e=>YA h e,λ_ e=>YA h e,λ_ _ _ e=>YA h e,λ_ _ _ _ e=>YA h e,λx i ms subs e=>by
  have g:ZeS a K mg G T x (.cls i ms subs):=YA h e;exact⟨⟨g.1.1,g.1.2.1,Jl g.1.2.2⟩,Um g.2⟩⟩
def Ze9(a:∀ n,YQ G (run T n))(X:Text w.params K mg G T)(n:Nat){x:Str}{f:Ad}{fd:bf}(b:DefOk K mg G T x i ds f fd pn N):FnOk P w K mg base CX0 n f fd pn (spD K (run T n i)):=ZeX a X n b.ob
def Zge{a:Ad}{f:Li Int}(r:Only H)(u:SqL K H a (f.map V.int))(h:∃ st',run T n i [.lst 0] [(ae,f.map .int)]=aa (.bl ac,st')):spD K (run T n i) [.ref a] H (λv _=>v=.bl ac) λ_ _ _=>False:=by
 obtain⟨st',e⟩:=h;have ds:∀ f:Li Int,Dens K [a] H (f.map V.int) (f.map D.int):=λf=>by
  induction f with
  |nil=>exact .nil
  |cons n l t=>exact .cons (.int n) t
 have p:¬Yb H a:=λ⟨kvs,q⟩=>by
  rcases r a with z|⟨o,s,z⟩<;>(rw[q]at z;cases z)
 refine⟨[a],[.lst 0],[(ae,f.map .int)],.bl ac,st',⟨rfl,λi j b c d _ _ k _=>?_,λi c g=>?_⟩,.cons (.lst ⟨rfl,p⟩) .nil,e,λv ad' H' x S h=>h.ofBl⟩
 .cases i with
  |zero=>simp at k
  |succ i=>simp at k
 .cases i with
  |succ i=>simp at g
  |zero=>
   have g:(ae,f.map D.int)=c:=by simpa using g
   subst g;refine⟨a,rfl,.l p (ds f) (.inr ⟨rfl,?_⟩)⟩;rcases u with(h|⟨o,h⟩)|⟨o,m,n,C,B,k,A,y,w⟩
   .rcases r a with z|⟨o,s,z⟩
    .rw[h]at z;cases z
    .rw[h]at z;cases z
   .exact .inl ⟨o,h⟩
   .exact .inr ⟨o,m,n,⟨C,B⟩,⟨k,A⟩,y,w⟩
abbrev fnS(x y:Str)(s:Stmt)(c kV b a:vL)(e:Ot Ad)(d ct:vL):bf:=W.fnOf x y (defArgs s) (defBody s) (defScope s) c kV b a e d ct
inductive FnAt(K:Fg)(x:Str)(s:Stmt):Prop
 |mk {f:Addr}{oc kV dc pm cd ct:Value}{od an:Option Addr}{sl:Array (Option Value)} (a:W.nsIn K ax x=aa (aa (.ref f))) (l:K.lookup f=aa ⟨oc,od,.func (W.fnOf x x (defArgs s) (defBody s) (defScope s) .none kV dc pm an cd ct),sl⟩) (e:W.codeIn K cd x=ac) (k:W.keepIn K (.ref f)=ac):FnAt K x s
inductive FnAtE(K:Fg)(x:Str)(s:Stmt)(v:Int):Prop
 |mk {f E:Addr}{eo:Obj}{en:Nat}{et:Tok}{oc kV dc pm cd ct:Value}{od an:Option Addr}{sl:Array (Option Value)} (a:W.nsIn K ax x=aa (aa (.ref f))) (l:K.lookup f=aa ⟨oc,od,.func (W.fnOf x x (defArgs s) (defBody s) (defScope s) (.ref E) kV dc pm an cd ct),sl⟩) (e:W.codeIn K cd x=ac) (k:W.keepIn K (.ref f)=ac) (d:K.lookup E=aa eo) (g:eo.data=.seq #[.int v et] en):FnAtE K x s v
inductive MtAt(K:Fg)(C:Addr)(x y:Str)(s:Stmt):Prop
 |mk {f:Addr}{oc kV dc pm cd ct:Value}{od an:Option Addr}{sl:Array (Option Value)} (m:W.findIn K (.ref C) x=aa (aa (.ref f))) (l:K.lookup f=aa ⟨oc,od,.func (W.fnOf x y (defArgs s) (defBody s) (defScope s) .none kV dc pm an cd ct),sl⟩) (e:W.codeIn K cd y=ac) (k:W.keepIn K (.ref f)=ac) (i:W.isFn K (.ref f)=ac):MtAt K C x y s
structure ClsAt(K:Fg)(x:Str)(C:Addr):Prop where
 ya:W.nsIn K ax x=aa (aa (.ref C))
 yb:W.makesIn K C=ac
 yc:W.findIn K (.ref C) "__init__"=aa (aa (.builtin "object.__init__"))
 yd:W.keepIn K (.ref C)=ac
 ye:W.plainGet K C Str.empty=ac
 yf:W.hasDictIn K C=ac
 yg:W.plainOver K C=ac
 yh:W.findIn K (.ref C) "__setattr__"=aa (aa (.builtin "object.__setattr__"))
 yi:W.findIn K (.ref C) "__class__"=aa (aa (.builtin "object.__class__"))
 yj:W.mroIn K C (.type "object")=aa ac
 yk:W.specialIn K (.builtin "object.__class__") "__get__"=aa (aa (.builtin "getset_descriptor.__get__"))
 yl:W.takesIn K (.builtin "object.__class__")=aa ac
abbrev YG(G:Gs)(s:Stmt)(N a:Li Str)(c:CS):Prop:=FnScope N a (defScope s)/\(∀ y∈N,L2.Loc (defScope s) y)/\cSs G 60 (defScope s) N (defBody s)=aa c
variable{ps:Li Str}
section
variable{fd:bf}
def bd1(b:ps.length=1)(h:∀ a,bindArgs fd ⟨[a],[]⟩=pure (ps.zip [a])):Binds K fd ps []:=.all λc e=>by obtain⟨_,rfl⟩:=Zg3 (e.trans b);exact h _
def bd2(c:ps.length=2)(h:∀ a b,bindArgs fd ⟨[a,b],[]⟩=pure (ps.zip [a,b])):Binds K fd ps []:=.all λd e=>by obtain⟨_,_,rfl⟩:=Zbn (e.trans c);exact h _ _
def bd3(d:ps.length=3)(h:∀ a b c,bindArgs fd ⟨[a,b,c],[]⟩=pure (ps.zip [a,b,c])):Binds K fd ps []:=.all λf e=>by obtain⟨_,_,_,rfl⟩:=U2 (e.trans d);exact h _ _ _
def bd4(f:ps.length=4)(h:∀ a b c d,bindArgs fd ⟨[a,b,c,d],[]⟩=pure (ps.zip [a,b,c,d])):Binds K fd ps []:=.all λg e=>by obtain⟨_,_,_,_,rfl⟩:=Zfp (e.trans f);exact h _ _ _ _
def bd5(f:ps.length=5)(h:∀ a b c d k,bindArgs fd ⟨[a,b,c,d,k],[]⟩=pure (ps.zip [a,b,c,d,k])):Binds K fd ps []:=.all λg e=>by obtain⟨_,_,_,_,_,rfl⟩:=Zik (e.trans f);exact h _ _ _ _ _
def bd6(f:ps.length=6)(h:∀ a b c d k l,bindArgs fd ⟨[a,b,c,d,k,l],[]⟩=pure (ps.zip [a,b,c,d,k,l])):Binds K fd ps []:=.all λg e=>by obtain⟨_,_,_,_,_,_,rfl⟩:=Zil (e.trans f);exact h _ _ _ _ _ _
def bd0(a:ps.length=0)(h:bindArgs fd ⟨[],[]⟩=pure []):Binds K fd ps []:=.all λb e=>by rw[Zij (e.trans a),List.zip_nil_right];exact h
end
variable{h:bg}{i:Nat}
section
variable{Pm:Params}{x y:Str}{p:Nat}{s:Stmt}{c:CS}{r:Gs}
def gD(X:K.In h)(o:h.Ns ax mg)(F:FnAt K x s)(q:YG G s N ps c)(f:T i=aa ⟨ps.length,N.length,c⟩)(t:YO Pm K mg G T r)(d:∀ kV g b n j ct,Binds K (fnS x x s .none kV g b n j ct) ps []:=by first|exact λ_ _ _ _ _ _=>bd1 rfl λ_=>rfl|exact λ_ _ _ _ _ _=>bd2 rfl λ_ _=>rfl|exact λ_ _ _ _ _ _=>bd3 rfl λ_ _ _=>rfl|exact λ_ _ _ _ _ _=>bd4 rfl λ_ _ _ _=>rfl|exact λ_ _ _ _ _ _=>bd5 rfl λ_ _ _ _ _=>rfl|exact λ_ _ _ _ _ _=>bd6 rfl λ_ _ _ _ _ _=>rfl|exact λ_ _ _ _ _ _=>bd0 rfl rfl):YO Pm K mg G T ((x,.fn i p []) :: r):=by
 cases F with
 |mk a l e k=>exact⟨⟨_,_,ps,N,.inl ⟨s,_,_,_,_,_,_,_,_,_,_,c,rfl,l,e,q.1,q.2.1,q.2.2,f⟩,k,W.mg_of X o a,λm u=>⟨[],[],λ_ _=>by rw[List.drop_nil];exact .nil,.nil,d _ _ _ _ _ _⟩⟩,t⟩
def gE{v:Int}(X:K.In h)(B:h.Ns ax mg)(F:FnAtE K x s v)(q:YG G s N ps c)(z:T i=aa ⟨ps.length,N.length,c⟩)(f:∀ E kV o b w u ct n j A,K.lookup E=aa n->n.data=.seq #[.int v j] A->Binds K (fnS x x s (.ref E) kV o b w u ct) ps []/\Binds K (fnS x x s (.ref E) kV o b w u ct) ps [.int v j])(t:YO Pm K mg G T r):YO Pm K mg G T ((x,.fn i p [.int v]) :: r):=by
 cases F with
 |mk a l e k d g=>
  refine⟨⟨_,_,ps,N,.inl ⟨s,_,_,_,_,_,_,_,_,_,_,c,rfl,l,e,q.1,q.2.1,q.2.2,z⟩,k,W.mg_of X B a,λm y=>?_⟩,t⟩
  match m,y with
  |0,_=>exact⟨[.int v],[.int v _],λ_ _=>.cons (.int _) .nil,.cons ⟨_,rfl⟩ .nil,(f _ _ _ _ _ _ _ _ _ _ d g).2⟩
  |1,_=>exact⟨[],[],λ_ _=>.nil,.nil,(f _ _ _ _ _ _ _ _ _ _ d g).1⟩
def gM{C:Ad}{r:Li (Str×Nat×Nat)}(F:MtAt K C x y s)(q:YG G s N ps c)(d:T i=aa ⟨ps.length,N.length,c⟩)(t:Xg K G T C r)(b:∀ kV f a h g ct,Binds K (fnS x y s .none kV f a h g ct) ps []:=by first|exact λ_ _ _ _ _ _=>bd1 rfl λ_=>rfl|exact λ_ _ _ _ _ _=>bd2 rfl λ_ _=>rfl|exact λ_ _ _ _ _ _=>bd3 rfl λ_ _ _=>rfl|exact λ_ _ _ _ _ _=>bd4 rfl λ_ _ _ _=>rfl|exact λ_ _ _ _ _ _=>bd5 rfl λ_ _ _ _ _=>rfl|exact λ_ _ _ _ _ _=>bd6 rfl λ_ _ _ _ _ _=>rfl|exact λ_ _ _ _ _ _=>bd0 rfl rfl):Xg K G T C ((x,i,p) :: r):=by
 cases F with
 |mk m l e k j=>exact⟨⟨y,_,_,ps,N,⟨s,_,_,_,_,_,_,_,_,_,_,c,rfl,l,e,q.1,q.2.1,q.2.2,d⟩,⟨m,j,k⟩,b _ _ _ _ _ _⟩,t⟩
def gS{C B:Ad}{l:Li Nat}(a:ClsTab.ca i=C)(F:ClsAt K x C)(m:W.kitOne K (.ref C) (.ref B)=aa ac)(t:Xi K B l):Xi K B (i :: l):=by
 subst a;exact⟨⟨⟨F.ye,F.yf,F.yg,F.yh⟩,F.yi,F.yk,F.yl,F.yj,m⟩,t⟩
def gC{C:Ad}(X:K.In h)(d:h.Ns ax mg)(c:ClsTab.ca i=C)(F:ClsAt K x C)(a:Xi K C subs)(b:Xg K G T C ms)(t:YO Pm K mg G T r):YO Pm K mg G T ((x,.cls i ms subs) :: r):=by
 subst c;exact⟨⟨⟨W.mg_of X d F.ya,⟨F.yb,F.yc,F.yd,⟨F.ye,F.yf,F.yg,F.yh⟩⟩,a⟩,b⟩,t⟩
def gB(X:K.In h)(a:h.Ns ax mg)(z:W.nsIn K ax x=aa ab)(t:YO Pm K mg G T r):YO Pm K mg G T ((x,.blt) :: r):=⟨W.mg_none_of X a z,t⟩
def gI{v:Int}{k:Tok}(X:K.In h)(a:h.Ns ax mg)(g:W.nsIn K ax x=aa (aa (.int v k)))(t:YO Pm K mg G T r):YO Pm K mg G T ((x,.c (.int v)) :: r):=⟨⟨.int v,_,W.mg_of X a g,⟨_,rfl⟩,λ_ _=>.int _⟩,t⟩
def gL{fa:Ad}{z:Str}(X:K.In h)(j:h.Ns ax mg)(b:mg x=aa (.ref fa))(F:FnAt K x s)(q:YG G s N [z] c)(p:T i=aa ⟨1,N.length,c⟩)(g:∀ kV r n v t ct u,bindArgs (fnS x x s .none kV r n v t ct) ⟨[u],[]⟩=pure [(z,u)]):∃ (fd:bf) (N:Li Str),(∀ (s:Sd) (u:vL),BindsTo s fd ⟨[u],[]⟩ [(z,u)])/\DefOk K mg G T x i [] fa fd [z] N:=by
 cases F with
 |@mk f _ _ _ _ _ _ _ _ _ a l e k=>
  have d:=b.symm.trans (W.mg_of X j a);have d:fa=f:=by cases d;rfl
  rw[d];exact⟨_,N,λ_ u=>.of_eq (g _ _ _ _ _ _ u),.inl ⟨s,_,_,_,_,_,_,_,_,_,_,c,rfl,l,e,q.1,q.2.1,q.2.2,p⟩,k,W.mg_of X j a,λm y=>⟨[],[],λ_ _=>by rw[List.drop_nil];exact .nil,.nil,.all λw o=>by obtain⟨u,rfl⟩:=Zg3 o;exact g _ _ _ _ _ _ u⟩⟩
end
omit [ClsTab] in
def JU{l:W.OpenLaw}{q:a0}{e:Li Str}{V:(Str->Ot vL)->bg->Prop}{r:bh->bg->Prop}{d:DefRec}{K:Params->Fg}{G:Gs}{T:Nat->Ot FD}{n i:Nat}{x:Str}(y:l.most=aa 63)(o:d.params.defaults=[])(v:Room n callerA)(I:∀ (w:bh) (h:bg),r w h->(K w.params).In h)(C:∀ [ClsTab] n,YQ G (run T n))(F:∀ (w:bh) (mg:Str->Ot vL) (fa:Ad) (h:bg),(K w.params).In h->h.Ns ax mg->mg d.name=aa (.ref fa)->
   ∃ _:ClsTab,Text w.params (K w.params) mg G T/\∃ (fd:bf) (N:Li Str),(∀ (s:Sd) (u:vL),BindsTo s fd ⟨[u],[]⟩ [(x,u)])/\DefOk (K w.params) mg G T d.name i [] fa fd [x] N)(L:∀ j:Li Int,j.length<=63->∃ st',run T n i [.lst 0] [(ae,j.map .int)]=aa (.bl ac,st')) :
  W.WalkO q e V r l.row.toRowW d [] (λf vs=>PySem.call f vs):=
 L2.walk_of (n:=63) (k:=n) (x:=x) (CX:=λ_=>CX0) (sp:=λw vs H Q E=>∀ c:ClsTab,@spD c (K w.params) (run T n i) vs H Q E) y (by decide) o v I
  (λw mg fa h Y Z m=>by
   obtain⟨c,X,fd,N,D,Dk⟩:=F w mg fa h Y Z m;refine⟨fd,D,λbase _ _=>?_⟩
   have p:=Ze9 (P:=l.prog) (w:=w) (base:=base) (λn=>C n) X n Dk
   exact⟨λvs H Q E z=>p.len vs H Q E (z c),λA b s H g t vs Q E U S R O z=>p.run A b s H g t vs Q E U S R O (z c)⟩)
  (λw H a j B M J c=>Zge M J (L j B)) λ_ _ _ _ _ z=>z
end Dp
namespace Dp
open PySem
abbrev jN(n:Nat):Option D:=aa (.int n)
abbrev jI(n:Int):Option D:=aa (.int n)
abbrev jL(n:Nat):Option D:=aa (.lst n)
noncomputable abbrev CE.i(n:Int):CE:=.c (.int n)
noncomputable abbrev CE.t(s:String):CE:=.c (.str (S s))
noncomputable abbrev CE.u(a:CE):CE:=.aC a .aN
noncomputable abbrev CS.z(a:CS):CS:=.seq a .skip
noncomputable abbrev CS.w(c:CE)(a:CS):CS:=.ite c a .skip
def c_replaced:FD:=⟨3,3,(.z (.ret (.bin .Add (.bin .Add (.slice (.v 0) .nop (.part (.v 1))) (.tupE (.u (.v 2)))) (.slice (.v 0) (.part (.bin .Add (.v 1) (.i 1))) .nop))))⟩
def c_operand_places:FD:=⟨1,1,(.z (.ret (.look [(S "put"),(S "if"),(S "tell"),(S "go"),(S "skip")] [(.tup [(.int 2),(.int 4)]),(.tup [(.int 1),(.int 3)]),(.tup [(.int 1)]),(.tup []),(.tup [])] (.ix (.v 0) (.i 0)))))⟩
def Xj:CS:=(.z (.set 1 (.bin .Mult (.v 1) (.i 2))))
def c_bit_of:FD:=⟨1,3,(.seq (.set 1 (.i 1))
 (.seq (.for1 2 ac (.v 0) Xj)
 (.z (.ret (.v 1)))))⟩
def c_all_bits:FD:=⟨1,1,(.z (.ret (.bin .Sub (.call 43 (.u (.v 0)) []) (.i 1))))⟩
def c_has_bit:FD:=⟨2,2,(.z (.ret (.cmp .NotEq (.bin .BitAnd (.v 0) (.call 43 (.u (.v 1)) [])) (.i 0))))⟩
def c_without_bit:FD:=⟨2,2,(.z (.ret (.bin .BitAnd (.v 0) (.inv (.call 43 (.u (.v 1)) [])))))⟩
def c_around:FD:=⟨1,1,(.z (.ret (.bin .Sub (.bin .Mod (.bin .Add (.v 0) (.i 1000000000)) (.i 2000000000)) (.i 1000000000))))⟩
def c_divided:FD:=⟨2,2,(.seq (.w (.cmp .Eq (.v 1) (.i 0)) (.z (.ret (.i 0))))
 (.z (.ret (.call 0 (.u (.bin .FloorDiv (.v 0) (.v 1))) []))))⟩
def c_left_over:FD:=⟨2,2,(.seq (.w (.cmp .Eq (.v 1) (.i 0)) (.z (.ret (.v 0))))
 (.z (.ret (.bin .Sub (.v 0) (.bin .Mult (.v 1) (.bin .FloorDiv (.v 0) (.v 1)))))))⟩
def c_reckon:FD:=⟨3,3,(.seq (.w (.cmp .Eq (.v 1) (.t "+")) (.z (.ret (.call 0 (.u (.bin .Add (.v 0) (.v 2))) []))))
 (.seq (.w (.cmp .Eq (.v 1) (.t "-")) (.z (.ret (.call 0 (.u (.bin .Sub (.v 0) (.v 2))) []))))
 (.seq (.w (.cmp .Eq (.v 1) (.t "*")) (.z (.ret (.call 0 (.u (.bin .Mult (.v 0) (.v 2))) []))))
 (.seq (.w (.cmp .Eq (.v 1) (.t "/")) (.z (.ret (.call 1 (.aC (.v 0) (.u (.v 2))) []))))
 (.z (.ret (.call 2 (.aC (.v 0) (.u (.v 2))) [])))))))⟩
def c_is_so:FD:=⟨3,3,(.seq (.w (.cmp .Eq (.v 1) (.t "<")) (.z (.ret (.cmp .Lt (.v 0) (.v 2)))))
 (.seq (.w (.cmp .Eq (.v 1) (.t "<=")) (.z (.ret (.cmp .LtE (.v 0) (.v 2)))))
 (.seq (.w (.cmp .Eq (.v 1) (.t "=")) (.z (.ret (.cmp .Eq (.v 0) (.v 2)))))
 (.seq (.w (.cmp .Eq (.v 1) (.t ">=")) (.z (.ret (.cmp .GtE (.v 0) (.v 2)))))
 (.seq (.w (.cmp .Eq (.v 1) (.t ">")) (.z (.ret (.cmp .Gt (.v 0) (.v 2)))))
 (.z (.ret (.cmp .NotEq (.v 0) (.v 2)))))))))⟩
def c_behind:FD:=⟨2,2,(.z (.ret (.ix (.v 0) (.bin .Mod (.bin .Add (.tix (.v 0) (.u (.v 1))) (.i 1)) (.len (.v 0))))))⟩
def c_Step_word:FD:=⟨1,1,(.z (.ret (.t "none")))⟩
def c_Step_turned:FD:=⟨3,3,(.z (.ret (.tupE .aN)))⟩
def c_Sign_word:FD:=⟨1,1,(.z (.ret (.t "sign")))⟩
def c_Sign_turned:FD:=⟨3,3,(.seq (.w (.cmp .Eq (.ix (.v 1) (.i 0)) (.t "put")) (.z (.ret (.tupE (.u (.call 42 (.aC (.v 1) (.aC (.i 3) (.u (.call 70 (.aC (.c (.kt [(S "+"),(S "-"),(S "*"),(S "/"),(S "mod")])) (.u (.ix (.v 1) (.i 3)))) [])))) []))))))
 (.seq (.w (.cmp .Eq (.ix (.v 1) (.i 0)) (.t "if")) (.z (.ret (.tupE (.u (.call 42 (.aC (.v 1) (.aC (.i 2) (.u (.call 70 (.aC (.c (.kt [(S "<"),(S "<="),(S "="),(S ">="),(S ">"),(S "!=")])) (.u (.ix (.v 1) (.i 2)))) [])))) []))))))
 (.z (.ret (.tupE .aN)))))⟩
def c_More_word:FD:=⟨1,1,(.z (.ret (.t "more")))⟩
def Yc:CS:=(.z (.w (.cmp .Eq (.ix (.ix (.v 1) (.v 4)) (.i 0)) (.t "number")) (.z (.app 3 (.call 42 (.aC (.v 1) (.aC (.v 4) (.u (.tupE (.aC (.t "number") (.u (.call 0 (.u (.bin .Add (.ix (.ix (.v 1) (.v 4)) (.i 1)) (.i 1))) []))))))) [])))))
def c_More_turned:FD:=⟨3,5,(.seq (.set 3 (.lstE .aN))
 (.seq (.for1 4 ae (.call 113 (.u (.v 1)) []) Yc)
 (.z (.ret (.tOf (.v 3))))))⟩
def c_Turn_word:FD:=⟨1,1,(.z (.ret (.t "turn")))⟩
def c_Turn_turned:FD:=⟨3,3,(.seq (.w (.cmp .NotEq (.ix (.v 1) (.i 0)) (.t "if")) (.z (.ret (.tupE .aN))))
 (.z (.ret (.tupE (.u (.call 42 (.aC (.v 1) (.aC (.i 2) (.u (.look [(S "<"),(S ">="),(S "<="),(S ">"),(S "="),(S "!=")] [(.str (S ">=")),(.str (S "<")),(.str (S ">")),(.str (S "<=")),(.str (S "!=")),(.str (S "="))] (.ix (.v 1) (.i 2)))))) []))))))⟩
def c_Out_word:FD:=⟨1,1,(.z (.ret (.t "out")))⟩
def c_Out_turned:FD:=⟨3,3,(.seq (.w (.cmp .Eq (.ix (.v 1) (.i 0)) (.t "skip")) (.z (.ret (.tupE .aN))))
 (.z (.ret (.tupE (.u (.tupE (.u (.t "skip"))))))))⟩
def c_Swap_word:FD:=⟨1,1,(.z (.ret (.t "swap")))⟩
def c_Swap_turned:FD:=⟨3,3,(.seq (.w (.and (.cmp .Eq (.ix (.v 1) (.i 0)) (.t "put")) (.cmp .NotEq (.ix (.v 1) (.i 2)) (.ix (.v 1) (.i 4)))) (.z (.ret (.tupE (.u (.tupE (.aC (.t "put") (.aC (.ix (.v 1) (.i 1)) (.aC (.ix (.v 1) (.i 4)) (.aC (.ix (.v 1) (.i 3)) (.u (.ix (.v 1) (.i 2)))))))))))))
 (.seq (.w (.and (.cmp .Eq (.ix (.v 1) (.i 0)) (.t "if")) (.cmp .NotEq (.ix (.v 1) (.i 1)) (.ix (.v 1) (.i 3)))) (.z (.ret (.tupE (.u (.tupE (.aC (.t "if") (.aC (.ix (.v 1) (.i 3)) (.aC (.ix (.v 1) (.i 2)) (.aC (.ix (.v 1) (.i 1)) (.u (.ix (.v 1) (.i 4)))))))))))))
 (.z (.ret (.tupE .aN)))))⟩
def c_Far_word:FD:=⟨1,1,(.z (.ret (.t "far")))⟩
def c_Far_turned:FD:=⟨3,3,(.seq (.w (.or (.cmp .NotIn (.ix (.v 1) (.i 0)) (.tupE (.aC (.t "go") (.u (.t "if"))))) (.cmp .GtE (.ix (.v 1) (.neg (.i 1))) (.v 2))) (.z (.ret (.tupE .aN))))
 (.z (.ret (.tupE (.u (.bin .Add (.slice (.v 1) .nop (.part (.neg (.i 1)))) (.tupE (.u (.bin .Add (.ix (.v 1) (.neg (.i 1))) (.i 1))))))))))⟩
def JN:CE:=(.comp ae [4,6] (.meth [(146,148),(169,171),(149,151),(157,159),(152,154),(160,162),(163,165)] (.v 6) (.aC (.v 5) (.u (.len (.v 1))))) (.tupE (.aC (.v 1) (.aC (.meth [(146,147),(169,170),(149,150),(157,158),(152,153),(160,161),(163,164)] (.v 2) .aN) (.u (.v 0))))) (.c (.bl ac)))
def XJ:CS:=(.z (.ext 3 JN))
def XL:CS:=(.z (.for1 6 ae (.v 2) XJ))
def c_fakes:FD:=⟨1,7,(.seq (.set 1 (.ix (.v 0) (.i 2)))
 (.seq (.set 2 (.lstE (.aC (.new 169) (.aC (.new 149) (.aC (.new 157) (.aC (.new 152) (.aC (.new 160) (.u (.new 163)))))))))
 (.seq (.set 3 (.lstE .aN))
 (.seq (.forE 4 5 (.v 1) XL)
 (.z (.ret (.tOf (.v 3))))))))⟩
def c_fake_of:FD:=⟨3,3,(.z (.ret (.tupE (.aC (.ix (.v 0) (.i 0)) (.aC (.ix (.v 0) (.i 1)) (.u (.call 42 (.aC (.ix (.v 0) (.i 2)) (.aC (.v 1) (.u (.v 2)))) [])))))))⟩
def c_worth:FD:=⟨2,2,(.seq (.w (.cmp .Eq (.ix (.v 0) (.i 0)) (.t "name")) (.z (.ret (.ix (.v 1) (.ix (.v 0) (.i 1))))))
 (.z (.ret (.ix (.v 0) (.i 1)))))⟩
def c_began:FD:=⟨2,2,(.z (.ret (.tupE (.aC (.i 0) (.u (.bin .Add (.v 1) (.bin .Mult (.tupE (.u (.i 0))) (.bin .Sub (.ix (.v 0) (.i 1)) (.len (.v 1))))))))))⟩
def c_at_end:FD:=⟨2,2,(.z (.ret (.cmp .GtE (.ix (.v 1) (.i 0)) (.len (.ix (.v 0) (.i 2))))))⟩
def c_values_behind:FD:=⟨2,3,(.seq (.w (.cmp .NotEq (.ix (.v 0) (.i 0)) (.t "put")) (.z (.ret (.v 1))))
 (.seq (.set 2 (.call 3 (.aC (.call 5 (.aC (.ix (.v 0) (.i 2)) (.u (.v 1))) []) (.aC (.ix (.v 0) (.i 3)) (.u (.call 5 (.aC (.ix (.v 0) (.i 4)) (.u (.v 1))) [])))) []))
 (.z (.ret (.call 42 (.aC (.v 1) (.aC (.ix (.v 0) (.i 1)) (.u (.v 2)))) [])))))⟩
def c_place_behind:FD:=⟨3,3,(.seq (.w (.cmp .Eq (.ix (.v 0) (.i 0)) (.t "go")) (.z (.ret (.ix (.v 0) (.i 1)))))
 (.seq (.w (.and (.cmp .Eq (.ix (.v 0) (.i 0)) (.t "if")) (.call 4 (.aC (.call 5 (.aC (.ix (.v 0) (.i 1)) (.u (.v 2))) []) (.aC (.ix (.v 0) (.i 2)) (.u (.call 5 (.aC (.ix (.v 0) (.i 3)) (.u (.v 2))) [])))) [])) (.z (.ret (.ix (.v 0) (.i 4)))))
 (.z (.ret (.bin .Add (.v 1) (.i 1))))))⟩
def c_moved:FD:=⟨2,5,(.seq (.w (.call 7 (.aC (.v 0) (.u (.v 1))) []) (.z (.ret (.tupE (.u (.t "none"))))))
 (.seq (.set 2 (.ix (.v 1) (.i 0)))
 (.seq (.set 3 (.ix (.v 1) (.i 1)))
 (.seq (.set 4 (.ix (.ix (.v 0) (.i 2)) (.v 2)))
 (.seq (.w (.cmp .Eq (.ix (.v 4) (.i 0)) (.t "tell")) (.z (.ret (.tupE (.aC (.t "told") (.u (.call 5 (.aC (.ix (.v 4) (.i 1)) (.u (.v 3))) [])))))))
 (.z (.ret (.tupE (.aC (.call 9 (.aC (.v 4) (.aC (.v 2) (.u (.v 3)))) []) (.u (.call 8 (.aC (.v 4) (.u (.v 3))) [])))))))))))⟩
def c_is_outcome:FD:=⟨1,1,(.z (.ret (.isi .str (.ix (.v 0) (.i 0)))))⟩
def ZI:CS:=(.seq (.set 6 (.call 10 (.aC (.v 0) (.u (.v 3))) []))
 (.seq (.app 4 (.v 6))
 (.seq (.w (.call 11 (.u (.v 6)) []) (.z (.ret (.tOf (.v 4)))))
 (.z (.set 3 (.v 6))))))
def c_trail:FD:=⟨3,7,(.seq (.set 3 (.call 6 (.aC (.v 0) (.u (.v 1))) []))
 (.seq (.set 4 (.lstE (.u (.v 3))))
 (.seq (.for1 5 ac (.v 2) ZI)
 (.seq (.app 4 (.ife (.call 7 (.aC (.v 0) (.u (.v 3))) []) (.tupE (.u (.t "none"))) (.tupE (.u (.t "late")))))
 (.z (.ret (.tOf (.v 4))))))))⟩
def c_outcome:FD:=⟨3,3,(.z (.ret (.ix (.call 12 (.aC (.v 0) (.aC (.v 1) (.u (.v 2)))) []) (.neg (.i 1)))))⟩
def c_check_trials:FD:=⟨1,1,(.z (.w (.cmp .Gt (.len (.v 0)) (.i 10)) (.z .stop)))⟩
def Z7:CS:=(.z (.set 1 (.bin .Mult (.v 1) (.bin .Add (.bin .Sub (.v 3) (.v 2)) (.i 1)))))
def c_width:FD:=⟨1,4,(.seq (.set 1 (.i 1))
 (.seq (.for2 2 3 (.ix (.v 0) (.i 0)) Z7)
 (.z (.ret (.v 1)))))⟩
def WP:CE:=(.comp ae [4] (.v 2) (.bin .Add (.v 1) (.tupE (.u (.v 0)))) (.c (.bl ac)))
def Yq:CS:=(.z (.ext 3 WP))
def ZG:CS:=(.seq (.set 3 (.lstE .aN))
 (.seq (.for1 4 ae (.v 1) Yq)
 (.z (.set 1 (.v 3)))))
def c_inputs_of:FD:=⟨1,5,(.seq (.set 1 (.lstE (.u (.tupE .aN))))
 (.seq (.for1 2 ae (.v 0) ZG)
 (.z (.ret (.tOf (.v 1))))))⟩
def c_is_wide:FD:=⟨1,1,(.z (.ret (.cmp .Gt (.call 133 (.u (.v 0)) []) (.i 64))))⟩
def c_box:FD:=⟨1,1,(.seq (.w (.call 135 (.u (.v 0)) []) (.z .stop))
 (.z (.ret (.call 134 (.u (.compT [] (.ix (.v 0) (.i 0)) (.lstR (.v 0) (.bin .Add (.v 1) (.i 1))) (.c (.bl ac)))) []))))⟩
def Zx:CS:=(.z (.w (.cmp .NotIn (.v 3) (.v 2)) (.z (.app 2 (.v 3)))))
def c_menu_numbers:FD:=⟨2,4,(.seq (.set 2 (.lstE .aN))
 (.seq (.for1 3 ae (.tupE (.aC (.v 0) (.aC (.bin .FloorDiv (.bin .Add (.v 0) (.v 1)) (.i 2)) (.u (.v 1))))) Zx)
 (.z (.ret (.v 2)))))⟩
def c_menu:FD:=⟨1,1,(.z (.ret (.call 134 (.u (.compT [] (.ix (.v 0) (.i 0)) (.call 137 (.aC (.v 0) (.u (.v 1))) []) (.c (.bl ac)))) [])))⟩
def c_tried:FD:=⟨1,1,(.z (.ret (.ife (.call 135 (.u (.v 0)) []) (.call 138 (.u (.v 0)) []) (.call 136 (.u (.v 0)) []))))⟩
def c_are_numbers:FD:=⟨2,2,(.z (.ret (.and (.cmp .Eq (.ix (.v 0) (.i 0)) (.t "number")) (.cmp .Eq (.ix (.v 1) (.i 0)) (.t "number")))))⟩
def c_lesser_first:FD:=⟨3,3,(.seq (.w (.cmp .Lt (.ix (.v 0) (.v 2)) (.ix (.v 0) (.v 1))) (.z (.ret (.call 42 (.aC (.call 42 (.aC (.v 0) (.aC (.v 1) (.u (.ix (.v 0) (.v 2))))) []) (.aC (.v 2) (.u (.ix (.v 0) (.v 1))))) []))))
 (.z (.ret (.v 0))))⟩
def c_less_as_more:FD:=⟨1,1,(.seq (.w (.and (.cmp .Eq (.ix (.v 0) (.i 3)) (.t "-")) (.cmp .Eq (.ix (.ix (.v 0) (.i 4)) (.i 0)) (.t "number"))) (.z (.ret (.bin .Add (.slice (.v 0) .nop (.part (.i 3))) (.tupE (.aC (.t "+") (.u (.tupE (.aC (.t "number") (.u (.call 0 (.u (.neg (.ix (.ix (.v 0) (.i 4)) (.i 1)))) [])))))))))))
 (.z (.ret (.v 0))))⟩
def c_without_reckoning:FD:=⟨1,4,(.seq (.set 1 (.ix (.v 0) (.i 2)))
 (.seq (.set 2 (.ix (.v 0) (.i 3)))
 (.seq (.set 3 (.ix (.v 0) (.i 4)))
 (.seq (.w (.or (.and (.cmp .Eq (.v 2) (.t "*")) (.cmp .Eq (.v 3) (.c (.tup [(.str (S "number")),(.int 0)])))) (.or (.and (.cmp .Eq (.v 2) (.t "mod")) (.cmp .Eq (.v 3) (.c (.tup [(.str (S "number")),(.int 1)])))) (.and (.cmp .Eq (.v 2) (.t "-")) (.cmp .Eq (.v 1) (.v 3))))) (.z (.ret (.tupE (.aC (.t "put") (.aC (.ix (.v 0) (.i 1)) (.aC (.c (.tup [(.str (S "number")),(.int 0)])) (.aC (.t "+") (.u (.c (.tup [(.str (S "number")),(.int 0)])))))))))))
 (.seq (.w (.and (.cmp .In (.v 2) (.tupE (.aC (.t "*") (.u (.t "/"))))) (.cmp .Eq (.v 3) (.c (.tup [(.str (S "number")),(.int 1)])))) (.z (.ret (.tupE (.aC (.t "put") (.aC (.ix (.v 0) (.i 1)) (.aC (.v 1) (.aC (.t "+") (.u (.c (.tup [(.str (S "number")),(.int 0)])))))))))))
 (.z (.ret (.v 0))))))))⟩
def c_made_put:FD:=⟨1,1,(.seq (.w (.call 73 (.aC (.ix (.v 0) (.i 2)) (.u (.ix (.v 0) (.i 4)))) []) (.z (.ret (.tupE (.aC (.t "put") (.aC (.ix (.v 0) (.i 1)) (.aC (.tupE (.aC (.t "number") (.u (.call 3 (.aC (.ix (.ix (.v 0) (.i 2)) (.i 1)) (.aC (.ix (.v 0) (.i 3)) (.u (.ix (.ix (.v 0) (.i 4)) (.i 1))))) [])))) (.aC (.t "+") (.u (.c (.tup [(.str (S "number")),(.int 0)])))))))))))
 (.seq (.set 0 (.call 75 (.u (.v 0)) []))
 (.seq (.w (.cmp .In (.ix (.v 0) (.i 3)) (.tupE (.aC (.t "+") (.u (.t "*"))))) (.z (.set 0 (.call 74 (.aC (.v 0) (.aC (.i 2) (.u (.i 4)))) []))))
 (.seq (.set 0 (.call 76 (.u (.v 0)) []))
 (.seq (.w (.cmp .Eq (.v 0) (.tupE (.aC (.t "put") (.aC (.ix (.v 0) (.i 1)) (.aC (.tupE (.aC (.t "name") (.u (.ix (.v 0) (.i 1))))) (.aC (.t "+") (.u (.c (.tup [(.str (S "number")),(.int 0)]))))))))) (.z (.ret (.c (.tup [(.str (S "skip"))])))))
 (.z (.ret (.v 0))))))))⟩
def c_greater_as_less:FD:=⟨1,1,(.seq (.w (.cmp .Eq (.ix (.v 0) (.i 2)) (.t ">")) (.z (.ret (.tupE (.aC (.t "if") (.aC (.ix (.v 0) (.i 3)) (.aC (.t "<") (.aC (.ix (.v 0) (.i 1)) (.u (.ix (.v 0) (.i 4)))))))))))
 (.seq (.w (.cmp .Eq (.ix (.v 0) (.i 2)) (.t ">=")) (.z (.ret (.tupE (.aC (.t "if") (.aC (.ix (.v 0) (.i 3)) (.aC (.t "<=") (.aC (.ix (.v 0) (.i 1)) (.u (.ix (.v 0) (.i 4)))))))))))
 (.z (.ret (.v 0)))))⟩
def c_is_settled:FD:=⟨1,1,(.z (.ret (.or (.call 73 (.aC (.ix (.v 0) (.i 1)) (.u (.ix (.v 0) (.i 3)))) []) (.cmp .Eq (.ix (.v 0) (.i 1)) (.ix (.v 0) (.i 3))))))⟩
def c_settled:FD:=⟨1,2,(.seq (.set 1 (.call 4 (.aC (.ix (.ix (.v 0) (.i 1)) (.i 1)) (.aC (.ix (.v 0) (.i 2)) (.u (.ix (.ix (.v 0) (.i 3)) (.i 1))))) []))
 (.z (.ret (.ife (.v 1) (.tupE (.aC (.t "go") (.u (.ix (.v 0) (.i 4))))) (.c (.tup [(.str (S "skip"))]))))))⟩
def c_most_as_less:FD:=⟨1,3,(.seq (.set 1 (.ix (.v 0) (.i 1)))
 (.seq (.set 2 (.ix (.v 0) (.i 3)))
 (.seq (.w (.cmp .NotEq (.ix (.v 0) (.i 2)) (.t "<=")) (.z (.ret (.v 0))))
 (.seq (.w (.and (.cmp .Eq (.ix (.v 2) (.i 0)) (.t "number")) (.cmp .Lt (.ix (.v 2) (.i 1)) (.i 999999999))) (.z (.ret (.tupE (.aC (.t "if") (.aC (.v 1) (.aC (.t "<") (.aC (.tupE (.aC (.t "number") (.u (.bin .Add (.ix (.v 2) (.i 1)) (.i 1))))) (.u (.ix (.v 0) (.i 4)))))))))))
 (.seq (.w (.and (.cmp .Eq (.ix (.v 1) (.i 0)) (.t "number")) (.cmp .Gt (.ix (.v 1) (.i 1)) (.i (-1000000000)))) (.z (.ret (.tupE (.aC (.t "if") (.aC (.tupE (.aC (.t "number") (.u (.bin .Sub (.ix (.v 1) (.i 1)) (.i 1))))) (.aC (.t "<") (.aC (.v 2) (.u (.ix (.v 0) (.i 4)))))))))))
 (.z (.ret (.v 0))))))))⟩
def c_made_if:FD:=⟨2,2,(.seq (.w (.cmp .Eq (.ix (.v 0) (.i 4)) (.bin .Add (.v 1) (.i 1))) (.z (.ret (.c (.tup [(.str (S "skip"))])))))
 (.seq (.set 0 (.call 78 (.u (.v 0)) []))
 (.seq (.w (.call 79 (.u (.v 0)) []) (.z (.ret (.call 80 (.u (.v 0)) []))))
 (.seq (.w (.cmp .In (.ix (.v 0) (.i 2)) (.tupE (.aC (.t "=") (.u (.t "!="))))) (.z (.set 0 (.call 74 (.aC (.v 0) (.aC (.i 1) (.u (.i 3)))) []))))
 (.z (.ret (.call 81 (.u (.v 0)) [])))))))⟩
def c_made_row:FD:=⟨2,2,(.seq (.w (.cmp .Eq (.ix (.v 0) (.i 0)) (.t "put")) (.z (.ret (.call 77 (.u (.v 0)) []))))
 (.seq (.w (.cmp .Eq (.ix (.v 0) (.i 0)) (.t "if")) (.z (.ret (.call 82 (.aC (.v 0) (.u (.v 1))) []))))
 (.seq (.w (.cmp .Eq (.v 0) (.tupE (.aC (.t "go") (.u (.bin .Add (.v 1) (.i 1)))))) (.z (.ret (.c (.tup [(.str (S "skip"))])))))
 (.z (.ret (.v 0))))))⟩
def V1:CE:=(.comp2 [] (.ix (.v 0) (.i 2)) (.call 83 (.aC (.v 1) (.u (.v 0))) []) (.c (.bl ac)))
def c_made:FD:=⟨1,2,(.seq (.set 1 V1)
 (.z (.ret (.tupE (.aC (.ix (.v 0) (.i 0)) (.aC (.ix (.v 0) (.i 1)) (.u (.tOf (.v 1)))))))))⟩
def c_row_at:FD:=⟨2,2,(.seq (.w (.cmp .GtE (.v 1) (.len (.ix (.v 0) (.i 2)))) (.z (.ret (.c (.tup [(.str (S "end"))])))))
 (.z (.ret (.call 83 (.aC (.ix (.ix (.v 0) (.i 2)) (.v 1)) (.u (.v 1))) []))))⟩
def c_ends_run:FD:=⟨1,1,(.z (.ret (.or (.cmp .Eq (.v 0) (.c (.tup [(.str (S "end"))]))) (.cmp .Eq (.ix (.v 0) (.i 0)) (.t "tell")))))⟩
def Wf:CS:=(.z (.w (.and (.cmp .Eq (.ix (.ix (.v 0) (.v 2)) (.i 0)) (.t "name")) (.not (.call 114 (.aC (.v 1) (.u (.ix (.ix (.v 0) (.v 2)) (.i 1)))) []))) (.z (.ret (.c (.bl ae))))))
def c_reads_only:FD:=⟨2,3,(.seq (.for1 2 ae (.call 113 (.u (.v 0)) []) Wf)
 (.z (.ret (.c (.bl ac)))))⟩
def c_end_alike:FD:=⟨3,3,(.z (.ret (.and (.cmp .Eq (.v 0) (.v 1)) (.or (.cmp .Eq (.v 0) (.c (.tup [(.str (S "end"))]))) (.call 117 (.aC (.v 0) (.u (.v 2))) [])))))⟩
def c_choose_alike:FD:=⟨3,3,(.z (.ret (.and (.cmp .Eq (.ix (.v 0) (.i 0)) (.t "if")) (.and (.cmp .Eq (.ix (.v 1) (.i 0)) (.t "if")) (.and (.cmp .Eq (.slice (.v 0) (.part (.i 1)) (.part (.i 4))) (.slice (.v 1) (.part (.i 1)) (.part (.i 4)))) (.call 117 (.aC (.v 0) (.u (.v 2))) []))))))⟩
def ZE:CS:=(.z (.w (.cmp .Eq (.ix (.v 3) (.i 0)) (.t "put")) (.z (.set 2 (.call 57 (.aC (.v 2) (.u (.ix (.v 3) (.i 1)))) [])))))
def c_staying:FD:=⟨3,4,(.seq (.w (.and (.cmp .Eq (.ix (.v 0) (.i 0)) (.t "put")) (.and (.cmp .Eq (.v 0) (.v 1)) (.call 117 (.aC (.v 0) (.u (.v 2))) []))) (.z (.ret (.bin .BitOr (.v 2) (.call 43 (.u (.ix (.v 0) (.i 1))) [])))))
 (.seq (.for1 3 ae (.tupE (.aC (.v 0) (.u (.v 1)))) ZE)
 (.z (.ret (.v 2)))))⟩
def c_places_behind:FD:=⟨2,2,(.seq (.w (.cmp .Eq (.ix (.v 0) (.i 0)) (.t "go")) (.z (.ret (.tupE (.u (.ix (.v 0) (.i 1)))))))
 (.seq (.w (.cmp .Eq (.ix (.v 0) (.i 0)) (.t "if")) (.z (.ret (.tupE (.aC (.ix (.v 0) (.i 4)) (.u (.bin .Add (.v 1) (.i 1))))))))
 (.z (.ret (.tupE (.u (.bin .Add (.v 1) (.i 1))))))))⟩
def UU:CE:=(.comp ae [9,7] (.call 121 (.aC (.v 6) (.u (.v 3))) []) (.tupE (.aC (.v 1) (.aC (.v 0) (.u (.v 2))))) (.c (.bl ac)))
def UJ:CS:=(.z (.ext 8 UU))
def c_follow:FD:=⟨5,10,(.seq (.set 5 (.call 115 (.aC (.v 0) (.u (.v 2))) []))
 (.seq (.set 6 (.call 115 (.aC (.v 1) (.u (.v 3))) []))
 (.seq (.w (.or (.call 116 (.u (.v 5)) []) (.call 116 (.u (.v 6)) [])) (.z (.ret (.ife (.call 118 (.aC (.v 5) (.aC (.v 6) (.u (.v 4)))) []) (.tupE .aN) (.c .non)))))
 (.seq (.w (.call 119 (.aC (.v 5) (.aC (.v 6) (.u (.v 4)))) []) (.z (.ret (.tupE (.aC (.tupE (.aC (.ix (.v 5) (.i 4)) (.aC (.ix (.v 6) (.i 4)) (.u (.v 4))))) (.u (.tupE (.aC (.bin .Add (.v 2) (.i 1)) (.aC (.bin .Add (.v 3) (.i 1)) (.u (.v 4)))))))))))
 (.seq (.set 7 (.call 120 (.aC (.v 5) (.aC (.v 6) (.u (.v 4)))) []))
 (.seq (.set 8 (.lstE .aN))
 (.seq (.for1 9 ae (.call 121 (.aC (.v 5) (.u (.v 2))) []) UJ)
 (.z (.ret (.tOf (.v 8)))))))))))⟩
def c_found_paper:FD:=⟨2,10,(.seq (.set 2 (.dd (.i 0) (.i 0) (.call 56 (.u (.ix (.v 0) (.i 1))) [])))
 (.seq (.set 3 (.lstE (.u (.tupE (.aC (.i 0) (.u (.i 0)))))))
 (.seq (.whl (.cmp .Gt (.len (.v 3)) (.i 0)) (.seq (.set 4 (.pop (.v 3)))
 (.seq (.set 5 (.call 122 (.aC (.v 0) (.aC (.v 1) (.aC (.ix (.v 4) (.i 0)) (.aC (.ix (.v 4) (.i 1)) (.u (.ix (.v 2) (.v 4))))))) []))
 (.seq (.w (.cmp .Is (.v 5) (.c .non)) (.z (.ret (.c .non))))
 (.z (.for4 6 7 8 (.v 5) (.seq (.set 9 (.bin .BitAnd (.v 8) (.dgN (.v 2) (.tupE (.aC (.v 6) (.u (.v 7)))) (.v 8))))
 (.z (.w (.cmp .NotEq (.dgN (.v 2) (.tupE (.aC (.v 6) (.u (.v 7)))) (.c .non)) (.v 9)) (.seq (.dput 2 (.v 6) (.v 7) (.v 9))
 (.z (.app 3 (.tupE (.aC (.v 6) (.u (.v 7))))))))))))))))
 (.z (.ret (.tOf (.compT [2] (.ksrt (.v 2)) (.tupE (.aC (.v 0) (.aC (.v 1) (.u (.ix (.v 2) (.tupE (.aC (.v 0) (.u (.v 1))))))))) (.c (.bl ac)))))))))⟩
def VO:CS:=(.z (.w (.cmp .NotEq (.ix (.v 4) (.v 6)) (.ix (.v 5) (.v 6))) (.z (.ret (.tupE (.aC (.v 6) (.aC (.ix (.v 4) (.v 6)) (.u (.ix (.v 5) (.v 6))))))))))
def c_parting:FD:=⟨4,7,(.seq (.set 4 (.call 12 (.aC (.v 0) (.aC (.v 2) (.u (.v 3)))) []))
 (.seq (.set 5 (.call 12 (.aC (.v 1) (.aC (.v 2) (.u (.v 3)))) []))
 (.seq (.for1 6 ac (.min (.len (.v 4)) (.len (.v 5))) VO)
 (.z (.ret (.c .non))))))⟩
def c_tells:FD:=⟨4,4,(.z (.ret (.cmp .NotEq (.call 13 (.aC (.v 0) (.aC (.v 2) (.u (.v 3)))) []) (.call 13 (.aC (.v 1) (.aC (.v 2) (.u (.v 3)))) []))))⟩
def UK:CS:=(.z (.w (.call 99 (.aC (.v 0) (.aC (.v 1) (.aC (.v 3) (.u (.v 2))))) []) (.z (.ret (.v 3)))))
def c_sought:FD:=⟨3,4,(.seq (.for1 3 ae (.call 139 (.u (.v 0)) []) UK)
 (.z (.ret (.c .non))))⟩
def Xr:CS:=(.z (.w (.call 99 (.aC (.v 0) (.aC (.v 1) (.aC (.v 5) (.u (.v 3))))) []) (.z (.ret (.v 4)))))
def c_first_telling:FD:=⟨4,6,(.seq (.forE 4 5 (.v 2) Xr)
 (.z (.ret (.c .non))))⟩
def c_verdict:FD:=⟨4,7,(.seq (.w (.cmp .Eq (.call 106 (.u (.v 1)) []) (.call 106 (.u (.v 0)) [])) (.z (.ret (.tupE (.u (.t "same"))))))
 (.seq (.set 4 (.call 281 (.aC (.v 0) (.aC (.v 1) (.aC (.v 2) (.u (.v 3))))) []))
 (.seq (.w (.cmp .IsNot (.v 4) (.c .non)) (.z (.ret (.tupE (.aC (.t "trial") (.aC (.v 4) (.u (.ix (.call 98 (.aC (.v 0) (.aC (.v 1) (.aC (.ix (.v 2) (.v 4)) (.u (.v 3))))) []) (.i 0)))))))))
 (.seq (.set 5 (.call 201 (.aC (.v 0) (.u (.v 1))) []))
 (.seq (.w (.cmp .IsNot (.v 5) (.c .non)) (.z (.ret (.tupE (.aC (.t "paper") (.u (.v 5)))))))
 (.seq (.set 6 (.call 140 (.aC (.v 0) (.aC (.v 1) (.u (.v 3)))) []))
 (.seq (.w (.cmp .IsNot (.v 6) (.c .non)) (.z (.ret (.tupE (.aC (.t "found") (.aC (.v 6) (.u (.ix (.call 98 (.aC (.v 0) (.aC (.v 1) (.aC (.v 6) (.u (.v 3))))) []) (.i 0)))))))))
 (.z (.ret (.ife (.call 135 (.u (.v 0)) []) (.tupE (.u (.t "unknown"))) (.tupE (.u (.t "table")))))))))))))⟩
def c_verdicts:FD:=⟨3,3,(.seq (.act (.call 181 (.u (.v 1)) []))
 (.z (.ret (.tOf (.comp3 [2,0,1] (.call 172 (.u (.v 0)) []) (.call 282 (.aC (.v 4) (.aC (.call 180 (.aC (.v 4) (.aC (.v 0) (.u (.v 2)))) []) (.aC (.v 5) (.u (.v 3))))) []) (.c (.bl ac)))))))⟩
def c__law_whole:FD:=⟨1,1,(.z (.ret (.and (.isi .int (.v 0)) (.not (.isi .bool (.v 0))))))⟩
def c__law_cell_at:FD:=⟨2,2,(.seq (.w (.cmp .Lt (.v 1) (.len (.v 0))) (.z (.ret (.ix (.v 0) (.v 1)))))
 (.seq (.w (.cmp .Eq (.v 0) (.lstE .aN)) (.z (.ret (.bin .Mod (.bin .Mult (.bin .Add (.bin .Mult (.v 1) (.v 1)) (.i 7)) (.i 48271)) (.i 2147483629)))))
 (.z (.ret (.bin .Mod (.bin .Mult (.bin .Add (.bin .Mod (.ix (.v 0) (.i 0)) (.i 2147483647)) (.i 7)) (.bin .Add (.bin .Mult (.v 1) (.v 1)) (.i 48271))) (.i 2147483629))))))⟩
def c__law_small_by:FD:=⟨1,2,(.seq (.set 1 (.lstE (.aC (.neg (.i 1000000000)) (.aC (.neg (.i 999999999)) (.aC (.neg (.i 2)) (.aC (.neg (.i 1)) (.aC (.i 0) (.aC (.i 1) (.aC (.i 2) (.u (.i 999999999)))))))))))
 (.seq (.w (.cmp .Eq (.bin .Mod (.v 0) (.i 8)) (.i 0)) (.z (.ret (.ix (.v 1) (.bin .Mod (.bin .FloorDiv (.v 0) (.i 8)) (.i 8))))))
 (.seq (.w (.cmp .Eq (.bin .Mod (.v 0) (.i 8)) (.i 1)) (.z (.ret (.bin .Sub (.bin .Mod (.bin .Mult (.bin .FloorDiv (.v 0) (.i 8)) (.i 48271)) (.i 2000000000)) (.i 1000000000)))))
 (.z (.ret (.bin .Sub (.bin .Mod (.bin .FloorDiv (.v 0) (.i 8)) (.i 7)) (.i 3)))))))⟩
def c__law_operand:FD:=⟨2,2,(.seq (.w (.cmp .Gt (.bin .Mod (.v 0) (.i 3)) (.i 0)) (.z (.ret (.tupE (.aC (.t "name") (.u (.bin .Mod (.bin .FloorDiv (.v 0) (.i 3)) (.v 1))))))))
 (.z (.ret (.tupE (.aC (.t "number") (.u (.call 19 (.u (.bin .FloorDiv (.v 0) (.i 3))) [])))))))⟩
def c__law_row:FD:=⟨4,9,(.seq (.set 4 (.call 28 (.aC (.bin .Mod (.bin .Mult (.v 1) (.i 48271)) (.i 2147483647)) (.u (.v 2))) []))
 (.seq (.set 5 (.call 28 (.aC (.bin .Mod (.bin .Mult (.bin .Add (.v 1) (.i 5)) (.i 1226874159)) (.i 2147483647)) (.u (.v 2))) []))
 (.seq (.set 6 (.bin .Mod (.bin .Mult (.v 0) (.i 48271)) (.i 2147483647)))
 (.seq (.set 7 (.bin .Mod (.bin .Mod (.bin .Mult (.bin .Add (.v 0) (.i 1)) (.i 742938285)) (.i 2147483647)) (.bin .Add (.v 3) (.i 1))))
 (.seq (.w (.cmp .Lt (.bin .Mod (.v 0) (.i 8)) (.i 4)) (.seq (.set 8 (.bin .Mod (.bin .Mod (.bin .Mult (.bin .Add (.v 1) (.i 3)) (.i 950706376)) (.i 2147483647)) (.v 2)))
 (.z (.ret (.tupE (.aC (.t "put") (.aC (.v 8) (.aC (.v 4) (.aC (.ix (.lstE (.aC (.t "+") (.aC (.t "-") (.aC (.t "*") (.aC (.t "/") (.u (.t "mod"))))))) (.bin .Mod (.v 6) (.i 5))) (.u (.v 5)))))))))))
 (.seq (.w (.cmp .Lt (.bin .Mod (.v 0) (.i 8)) (.i 6)) (.z (.ret (.tupE (.aC (.t "if") (.aC (.v 4) (.aC (.ix (.lstE (.aC (.t "<") (.aC (.t "<=") (.aC (.t "=") (.aC (.t ">=") (.aC (.t ">") (.u (.t "!=")))))))) (.bin .Mod (.v 6) (.i 6))) (.aC (.v 5) (.u (.v 7))))))))))
 (.seq (.w (.cmp .Eq (.bin .Mod (.v 0) (.i 8)) (.i 6)) (.z (.ret (.ix (.lstE (.aC (.tupE (.aC (.t "go") (.u (.v 7)))) (.u (.tupE (.u (.t "skip")))))) (.bin .Mod (.v 6) (.i 2))))))
 (.z (.ret (.tupE (.aC (.t "tell") (.u (.v 4)))))))))))))⟩
def c__law_stretch:FD:=⟨1,2,(.seq (.set 1 (.bin .Sub (.bin .Mod (.bin .FloorDiv (.v 0) (.i 8)) (.i 7)) (.i 3)))
 (.z (.ret (.tupE (.aC (.v 1) (.u (.bin .Add (.v 1) (.bin .Mod (.bin .FloorDiv (.v 0) (.i 56)) (.i 3)))))))))⟩
def Z9:CE:=(.comp ac [0] (.v 3) (.call 284 (.u (.call 27 (.aC (.v 1) (.u (.bin .Add (.i 2) (.v 0)))) [])) []) (.c (.bl ac)))
def XI:CS:=(.seq (.set 8 (.call 27 (.aC (.v 0) (.u (.bin .Add (.i 5) (.bin .Mult (.i 2) (.v 7))))) []))
 (.z (.app 6 (.call 29 (.aC (.v 8) (.aC (.call 27 (.aC (.v 0) (.u (.bin .Add (.i 6) (.bin .Mult (.i 2) (.v 7))))) []) (.aC (.v 4) (.u (.v 5))))) []))))
def c__law_program:FD:=⟨2,10,(.seq (.set 2 (.bin .Mod (.call 27 (.aC (.v 0) (.u (.i 0))) []) (.i 2147483647)))
 (.seq (.set 3 (.bin .Mod (.v 2) (.i 4)))
 (.seq (.set 4 (.max (.i 1) (.bin .Add (.v 3) (.bin .Mult (.bin .Mod (.bin .FloorDiv (.v 2) (.i 4)) (.i 2)) (.intOf (.cmp .Lt (.v 3) (.i 4)))))))
 (.seq (.set 5 (.bin .Mod (.call 27 (.aC (.v 0) (.u (.i 1))) []) (.bin .Add (.v 1) (.i 1))))
 (.seq (.set 6 (.lstE .aN))
 (.seq (.for1 7 ac (.v 5) XI)
 (.seq (.w (.and (.cmp .Gt (.v 5) (.i 0)) (.cmp .Gt (.bin .Mod (.bin .FloorDiv (.v 2) (.i 8)) (.i 4)) (.i 0))) (.z (.put 6 (.neg (.i 1)) (.tupE (.aC (.t "tell") (.u (.tupE (.aC (.t "name") (.u (.bin .Mod (.bin .FloorDiv (.v 2) (.i 32)) (.v 4)))))))))))
 (.seq (.set 9 Z9)
 (.z (.ret (.tupE (.aC (.tOf (.v 9)) (.aC (.v 4) (.u (.tOf (.v 6))))))))))))))))⟩
def YL:CE:=(.comp ac [4,0,1,2] (.v 2) (.call 27 (.aC (.v 2) (.u (.bin .Add (.bin .Add (.bin .Add (.v 3) (.i 1)) (.bin .Mult (.v 1) (.v 4))) (.v 0)))) []) (.c (.bl ac)))
def YM:CE:=(.comp ae [] (.v 5) (.call 19 (.u (.v 0)) []) (.c (.bl ac)))
def X3:CS:=(.seq (.set 5 YL)
 (.z (.app 3 (.tOf YM))))
def c__law_trials:FD:=⟨3,6,(.seq (.set 3 (.lstE .aN))
 (.seq (.for1 4 ac (.bin .Mod (.call 27 (.aC (.v 0) (.u (.v 1))) []) (.i 4)) X3)
 (.z (.ret (.tOf (.v 3))))))⟩
def Vj:FD:=⟨1,1,(.seq (.w (.cmp .Eq (.bin .Mod (.bin .FloorDiv (.v 0) (.i 11)) (.i 8)) (.i 3)) (.z (.ret (.i 30))))
 (.z (.ret (.bin .Mod (.v 0) (.i 11)))))⟩
def c__law_around:FD:=⟨1,1,(.z (.ret (.bin .Sub (.bin .Mod (.bin .Add (.v 0) (.i 1000000000)) (.i 2000000000)) (.i 1000000000))))⟩
def c__law_reckon:FD:=⟨3,3,(.seq (.w (.cmp .Eq (.v 1) (.t "+")) (.z (.ret (.call 31 (.u (.bin .Add (.v 0) (.v 2))) []))))
 (.seq (.w (.cmp .Eq (.v 1) (.t "-")) (.z (.ret (.call 31 (.u (.bin .Sub (.v 0) (.v 2))) []))))
 (.seq (.w (.cmp .Eq (.v 1) (.t "*")) (.z (.ret (.call 31 (.u (.bin .Mult (.v 0) (.v 2))) []))))
 (.seq (.w (.cmp .Eq (.v 2) (.i 0)) (.z (.ret (.ix (.lstE (.aC (.v 0) (.u (.i 0)))) (.intOf (.cmp .Eq (.v 1) (.t "/")))))))
 (.seq (.w (.cmp .Eq (.v 1) (.t "/")) (.z (.ret (.call 31 (.u (.bin .FloorDiv (.v 0) (.v 2))) []))))
 (.z (.ret (.bin .Sub (.v 0) (.bin .Mult (.v 2) (.bin .FloorDiv (.v 0) (.v 2)))))))))))⟩
def c__law_so:FD:=⟨3,4,(.seq (.set 3 (.dict [(S "<"),(S "<="),(S "=")] (.aC (.cmp .Lt (.v 0) (.v 2)) (.aC (.cmp .LtE (.v 0) (.v 2)) (.u (.cmp .Eq (.v 0) (.v 2)))))))
 (.seq (.w (.cmp .In (.v 1) (.v 3)) (.z (.ret (.ix (.v 3) (.v 1)))))
 (.z (.ret (.not (.ix (.dict [(S ">="),(S ">"),(S "!=")] (.aC (.cmp .Lt (.v 0) (.v 2)) (.aC (.cmp .LtE (.v 0) (.v 2)) (.u (.cmp .Eq (.v 0) (.v 2)))))) (.v 1)))))))⟩
def c__law_worth:FD:=⟨2,2,(.seq (.w (.cmp .Eq (.ix (.v 0) (.i 0)) (.t "name")) (.z (.ret (.ix (.v 1) (.ix (.v 0) (.i 1))))))
 (.z (.ret (.ix (.v 0) (.i 1)))))⟩
def c__law_next:FD:=⟨3,6,(.seq (.set 3 (.ix (.ix (.v 0) (.i 2)) (.v 1)))
 (.seq (.w (.cmp .Eq (.ix (.v 3) (.i 0)) (.t "tell")) (.z (.ret (.tupE (.aC (.t "told") (.u (.call 34 (.aC (.ix (.v 3) (.i 1)) (.u (.v 2))) [])))))))
 (.seq (.w (.cmp .Eq (.ix (.v 3) (.i 0)) (.t "put")) (.seq (.set 4 (.listOf (.v 2)))
 (.seq (.put 4 (.ix (.v 3) (.i 1)) (.call 32 (.aC (.call 34 (.aC (.ix (.v 3) (.i 2)) (.u (.v 2))) []) (.aC (.ix (.v 3) (.i 3)) (.u (.call 34 (.aC (.ix (.v 3) (.i 4)) (.u (.v 2))) [])))) []))
 (.z (.ret (.tupE (.aC (.bin .Add (.v 1) (.i 1)) (.u (.tOf (.v 4))))))))))
 (.seq (.w (.cmp .Eq (.ix (.v 3) (.i 0)) (.t "go")) (.z (.ret (.tupE (.aC (.ix (.v 3) (.i 1)) (.u (.v 2)))))))
 (.seq (.w (.cmp .Eq (.ix (.v 3) (.i 0)) (.t "if")) (.seq (.set 5 (.call 34 (.aC (.ix (.v 3) (.i 1)) (.u (.v 2))) []))
 (.z (.w (.call 33 (.aC (.v 5) (.aC (.ix (.v 3) (.i 2)) (.u (.call 34 (.aC (.ix (.v 3) (.i 3)) (.u (.v 2))) [])))) []) (.z (.ret (.tupE (.aC (.ix (.v 3) (.i 4)) (.u (.v 2))))))))))
 (.z (.ret (.tupE (.aC (.bin .Add (.v 1) (.i 1)) (.u (.v 2)))))))))))⟩
def Zn:CS:=(.seq (.w (.cmp .Eq (.ix (.v 3) (.i 0)) (.len (.ix (.v 0) (.i 2)))) (.z (.ret (.bin .Add (.v 4) (.lstE (.u (.tupE (.u (.t "none")))))))))
 (.seq (.set 3 (.call 35 (.aC (.v 0) (.aC (.ix (.v 3) (.i 0)) (.u (.ix (.v 3) (.i 1))))) []))
 (.seq (.app 4 (.v 3))
 (.z (.w (.cmp .Eq (.ix (.v 3) (.i 0)) (.t "told")) (.z (.ret (.v 4))))))))
def c__law_trail:FD:=⟨3,6,(.seq (.set 3 (.tupE (.aC (.i 0) (.u (.bin .Add (.v 1) (.bin .Mult (.tupE (.u (.i 0))) (.bin .Sub (.ix (.v 0) (.i 1)) (.len (.v 1)))))))))
 (.seq (.set 4 (.lstE (.u (.v 3))))
 (.seq (.for1 5 ac (.v 2) Zn)
 (.z (.ret (.bin .Add (.v 4) (.lstE (.u (.ix (.lstE (.aC (.tupE (.u (.t "late"))) (.u (.tupE (.u (.t "none")))))) (.intOf (.cmp .Eq (.ix (.v 3) (.i 0)) (.len (.ix (.v 0) (.i 2))))))))))))))⟩
def c__law_parted:FD:=⟨2,3,(.seq (.set 2 (.i 0))
 (.seq (.whl (.cmp .Eq (.ix (.v 0) (.v 2)) (.ix (.v 1) (.v 2))) (.z (.set 2 (.bin .Add (.v 2) (.i 1)))))
 (.z (.ret (.v 2)))))⟩
def ZF:CS:=(.seq (.w (.cmp .Eq (.ix (.v 6) (.i 0)) (.t "if")) (.z (.set 6 (.bin .Add (.slice (.v 6) .nop (.part (.i 4))) (.tupE (.u (.min (.ix (.v 6) (.i 4)) (.i 2))))))))
 (.seq (.w (.cmp .Eq (.ix (.v 6) (.i 0)) (.t "go")) (.z (.set 6 (.tupE (.aC (.t "go") (.u (.min (.ix (.v 6) (.i 1)) (.i 2))))))))
 (.z (.app 5 (.v 6)))))
def c__law_wide:FD:=⟨2,7,(.seq (.w (.or (.cmp .Eq (.len (.ix (.v 0) (.i 0))) (.i 0)) (.cmp .Gt (.bin .Mod (.v 1) (.i 4)) (.i 1))) (.z (.ret (.v 0))))
 (.seq (.set 2 (.call 19 (.u (.bin .FloorDiv (.v 1) (.i 8))) []))
 (.seq (.w (.cmp .Eq (.bin .Mod (.v 1) (.i 4)) (.i 0)) (.seq (.set 3 (.call 19 (.u (.bin .Mod (.bin .Mult (.bin .FloorDiv (.v 1) (.i 3)) (.i 69621)) (.i 2147483629))) []))
 (.z (.ret (.tupE (.aC (.bin .Add (.tupE (.u (.tupE (.aC (.min (.v 2) (.v 3)) (.u (.max (.v 2) (.v 3))))))) (.slice (.ix (.v 0) (.i 0)) (.part (.i 1)) .nop)) (.aC (.ix (.v 0) (.i 1)) (.u (.ix (.v 0) (.i 2))))))))))
 (.seq (.set 2 (.max (.neg (.i 1000000000)) (.min (.v 2) (.i 999999900))))
 (.seq (.set 4 (.tupE (.aC (.v 2) (.u (.bin .Add (.bin .Add (.v 2) (.i 62)) (.bin .Mod (.bin .FloorDiv (.v 1) (.i 4)) (.i 4)))))))
 (.seq (.set 5 (.lstE .aN))
 (.seq (.for1 6 ae (.slice (.ix (.v 0) (.i 2)) (.part (.neg (.i 2))) .nop) ZF)
 (.z (.ret (.tupE (.aC (.bin .Add (.tupE (.u (.v 4))) (.bin .Mult (.tupE (.u (.tupE (.aC (.i 1) (.u (.i 1)))))) (.bin .Sub (.len (.ix (.v 0) (.i 0))) (.i 1)))) (.aC (.ix (.v 0) (.i 1)) (.u (.tOf (.v 5)))))))))))))))⟩
def YT:CE:=(.comp ac [5] (.len (.v 5)) (.ix (.v 1) (.v 0)) (.or (.cmp .Eq (.v 0) (.i 0)) (.cmp .NotEq (.ix (.v 1) (.v 0)) (.ix (.v 1) (.bin .Sub (.v 0) (.i 1))))))
def YU:CE:=(.comp ae [7] (.v 5) (.bin .Add (.v 1) (.tupE (.u (.v 0)))) (.c (.bl ac)))
def Zy:CS:=(.z (.set 6 (.bin .Add (.v 6) YU)))
def Zz:CS:=(.seq (.set 5 (.lstE (.aC (.v 2) (.aC (.bin .FloorDiv (.bin .Add (.v 2) (.v 3)) (.i 2)) (.u (.v 3))))))
 (.seq (.w (.cmp .LtE (.v 1) (.i 64)) (.z (.set 5 (.lstR (.v 2) (.bin .Add (.v 3) (.i 1))))))
 (.seq (.set 5 YT)
 (.seq (.set 6 (.lstE .aN))
 (.seq (.for1 7 ae (.v 4) Zy)
 (.z (.set 4 (.v 6))))))))
def ZA:CS:=(.z (.set 1 (.bin .Mult (.v 1) (.bin .Add (.bin .Sub (.v 3) (.v 2)) (.i 1)))))
def c__law_tried:FD:=⟨1,8,(.seq (.set 1 (.i 1))
 (.seq (.for2 2 3 (.v 0) ZA)
 (.seq (.set 4 (.lstE (.u (.tupE .aN))))
 (.seq (.for2 2 3 (.v 0) Zz)
 (.z (.ret (.tupE (.aC (.v 1) (.u (.v 4))))))))))⟩
def Xq:CS:=(.seq (.set 6 (.call 26 (.aC (.v 0) (.aC (.v 5) (.u (.v 4)))) []))
 (.seq (.set 7 (.call 26 (.aC (.v 1) (.aC (.v 5) (.u (.v 4)))) []))
 (.z (.w (.cmp .NotEq (.ix (.v 6) (.neg (.i 1))) (.ix (.v 7) (.neg (.i 1)))) (.z (.ret (.tupE (.aC (.t "found") (.aC (.v 5) (.u (.call 286 (.aC (.v 6) (.u (.v 7))) [])))))))))))
def c__law_due:FD:=⟨5,8,(.seq (.for1 5 ae (.v 3) Xq)
 (.z (.ret (.ix (.lstE (.aC (.tupE (.u (.t "table"))) (.u (.tupE (.u (.t "unknown")))))) (.intOf (.cmp .Gt (.v 2) (.i 64)))))))⟩
def Xc:CE:=(.comp ae [] (.ix (.v 0) (.i 1)) (.i 1) (.not (.call 17 (.u (.v 0)) [])))
def c__law_same:FD:=⟨2,3,(.seq (.w (.or (.not (.isi .tuple (.v 0))) (.cmp .NotEq (.v 0) (.v 1))) (.z (.ret (.c (.bl ae)))))
 (.seq (.w (.cmp .NotEq (.ix (.v 1) (.i 0)) (.t "found")) (.z (.ret (.c (.bl ac)))))
 (.seq (.set 2 Xc)
 (.z (.ret (.and (.isi .tuple (.ix (.v 0) (.i 1))) (.and (.cmp .Eq (.v 2) (.lstE .aN)) (.call 17 (.u (.ix (.v 0) (.i 2))) []))))))))⟩
def c__law_other:FD:=⟨3,3,(.z (.ret (.bin .Add (.slice (.v 0) .nop (.part (.i 2))) (.tupE (.u (.bin .Add (.bin .Add (.slice (.ix (.v 0) (.i 2)) .nop (.part (.v 1))) (.tupE (.u (.v 2)))) (.slice (.ix (.v 0) (.i 2)) (.part (.bin .Add (.v 1) (.i 1))) .nop)))))))⟩
def c__law_counter:FD:=⟨1,3,(.seq (.set 1 (.bin .Mod (.v 0) (.i 2)))
 (.seq (.set 2 (.bin .Mult (.tupE (.u (.tupE (.u (.t "skip"))))) (.v 1)))
 (.seq (.set 2 (.bin .Add (.v 2) (.tupE (.u (.tupE (.aC (.t "put") (.aC (.i 0) (.aC (.tupE (.aC (.t "name") (.u (.i 0)))) (.aC (.t "+") (.u (.tupE (.aC (.t "number") (.u (.i 1))))))))))))))
 (.seq (.set 2 (.bin .Add (.v 2) (.tupE (.u (.tupE (.aC (.t "if") (.aC (.tupE (.aC (.t "name") (.u (.i 0)))) (.aC (.t "<") (.aC (.tupE (.aC (.t "number") (.u (.bin .Add (.i 50) (.bin .Mod (.bin .FloorDiv (.v 0) (.i 2)) (.i 50)))))) (.u (.v 1)))))))))))
 (.z (.ret (.tupE (.aC (.tupE .aN) (.aC (.i 1) (.u (.bin .Add (.v 2) (.tupE (.u (.tupE (.aC (.t "tell") (.u (.tupE (.aC (.t "name") (.u (.i 0))))))))))))))))))))⟩
def YR:CS:=(.seq (.w (.cmp .NotIn (.ix (.v 9) (.i 0)) (.tupE (.aC (.t "same") (.aC (.t "trial") (.aC (.t "paper") (.aC (.t "found") (.aC (.t "table") (.u (.t "unknown"))))))))) (.z (.ret (.c (.bl ae)))))
 (.z (.w (.cmp .In (.ix (.v 9) (.i 0)) (.tupE (.aC (.t "found") (.aC (.t "table") (.u (.t "unknown")))))) (.seq (.set 10 (.call 288 (.aC (.v 1) (.aC (.ix (.v 8) (.i 0)) (.u (.ix (.v 8) (.i 2))))) []))
 (.seq (.set 11 (.call 38 (.aC (.v 1) (.aC (.v 10) (.aC (.v 6) (.aC (.v 7) (.u (.v 3)))))) []))
 (.z (.w (.not (.call 39 (.aC (.v 9) (.u (.v 11))) [])) (.z (.ret (.c (.bl ae)))))))))))
def c_law_k64:FD:=⟨1,12,(.seq (.set 1 (.call 30 (.aC (.v 0) (.u (.i 3))) []))
 (.seq (.set 2 (.bin .Add (.i 5) (.bin .Mult (.i 2) (.len (.ix (.v 1) (.i 2))))))
 (.seq (.set 1 (.call 287 (.aC (.v 1) (.u (.bin .Mod (.call 27 (.aC (.v 0) (.u (.v 2))) []) (.bin .Pow (.i 10) (.i 15))))) []))
 (.seq (.set 3 (.bin .Mod (.call 27 (.aC (.v 0) (.u (.bin .Add (.v 2) (.i 1)))) []) (.i 11)))
 (.seq (.set 4 (.slice (.call 51 (.aC (.v 0) (.aC (.bin .Add (.v 2) (.i 2)) (.u (.len (.ix (.v 1) (.i 0)))))) []) .nop (.part (.i 2))))
 (.seq (.set 5 (.call 27 (.aC (.v 0) (.u (.bin .Add (.v 2) (.i 1)))) []))
 (.seq (.w (.cmp .Eq (.bin .Mod (.bin .FloorDiv (.v 5) (.i 11)) (.i 8)) (.i 5)) (.seq (.set 1 (.call 186 (.u (.bin .FloorDiv (.v 5) (.i 88))) []))
 (.seq (.set 3 (.bin .Add (.i 100) (.bin .Mod (.bin .FloorDiv (.v 5) (.i 8800)) (.i 101))))
 (.z (.set 4 (.tupE .aN))))))
 (.seq (.set2 6 7 (.call 195 (.u (.ix (.v 1) (.i 0))) []))
 (.seq (.w (.cmp .Gt (.len (.v 7)) (.i 27)) (.z (.set 3 (.bin .Mod (.v 3) (.i 6)))))
 (.seq (.forP 8 9 (.aC (.call 172 (.u (.v 1)) []) (.u (.call 283 (.aC (.v 1) (.aC (.v 4) (.u (.v 3)))) []))) YR)
 (.z (.ret (.c (.bl ac))))))))))))))⟩
end Dp
noncomputable section
namespace Dp
open PySem
def T:Nat->Ot FD
 |42=>aa c_replaced
 |113=>aa c_operand_places
 |43=>aa c_bit_of
 |56=>aa c_all_bits
 |114=>aa c_has_bit
 |57=>aa c_without_bit
 |0=>aa c_around
 |1=>aa c_divided
 |2=>aa c_left_over
 |3=>aa c_reckon
 |4=>aa c_is_so
 |70=>aa c_behind
 |147=>aa c_Step_word
 |148=>aa c_Step_turned
 |170=>aa c_Sign_word
 |171=>aa c_Sign_turned
 |150=>aa c_More_word
 |151=>aa c_More_turned
 |158=>aa c_Turn_word
 |159=>aa c_Turn_turned
 |153=>aa c_Out_word
 |154=>aa c_Out_turned
 |161=>aa c_Swap_word
 |162=>aa c_Swap_turned
 |164=>aa c_Far_word
 |165=>aa c_Far_turned
 |172=>aa c_fakes
 |180=>aa c_fake_of
 |5=>aa c_worth
 |6=>aa c_began
 |7=>aa c_at_end
 |8=>aa c_values_behind
 |9=>aa c_place_behind
 |10=>aa c_moved
 |11=>aa c_is_outcome
 |12=>aa c_trail
 |13=>aa c_outcome
 |181=>aa c_check_trials
 |133=>aa c_width
 |134=>aa c_inputs_of
 |135=>aa c_is_wide
 |136=>aa c_box
 |137=>aa c_menu_numbers
 |138=>aa c_menu
 |139=>aa c_tried
 |73=>aa c_are_numbers
 |74=>aa c_lesser_first
 |75=>aa c_less_as_more
 |76=>aa c_without_reckoning
 |77=>aa c_made_put
 |78=>aa c_greater_as_less
 |79=>aa c_is_settled
 |80=>aa c_settled
 |81=>aa c_most_as_less
 |82=>aa c_made_if
 |83=>aa c_made_row
 |106=>aa c_made
 |115=>aa c_row_at
 |116=>aa c_ends_run
 |117=>aa c_reads_only
 |118=>aa c_end_alike
 |119=>aa c_choose_alike
 |120=>aa c_staying
 |121=>aa c_places_behind
 |122=>aa c_follow
 |201=>aa c_found_paper
 |98=>aa c_parting
 |99=>aa c_tells
 |140=>aa c_sought
 |281=>aa c_first_telling
 |282=>aa c_verdict
 |283=>aa c_verdicts
 |17=>aa c__law_whole
 |27=>aa c__law_cell_at
 |19=>aa c__law_small_by
 |28=>aa c__law_operand
 |29=>aa c__law_row
 |284=>aa c__law_stretch
 |30=>aa c__law_program
 |51=>aa c__law_trials
 |102=>aa Vj
 |31=>aa c__law_around
 |32=>aa c__law_reckon
 |33=>aa c__law_so
 |34=>aa c__law_worth
 |35=>aa c__law_next
 |26=>aa c__law_trail
 |286=>aa c__law_parted
 |287=>aa c__law_wide
 |195=>aa c__law_tried
 |38=>aa c__law_due
 |39=>aa c__law_same
 |288=>aa c__law_other
 |186=>aa c__law_counter
 |16=>aa c_law_k64
 |_=>ab
abbrev rT:=run T
structure Grw(s s':Za):Prop where
 old:∀ i,i < s.length->s'[i]?=s[i]?
 len:s.length<=s'.length
variable{α:Type}{U':Env}{wk:D->Za->Ot (Li D×(Za->Prop))}{fr:Li Nat}{it elt:CE}
variable{F:Nat->Fn}{s st:Za}{e a b c:CE}{U:Env}{d x y:D}{q p:CS}{n f i j w:Nat}{xs ds:Li D}
section
variable{s' s1 s2:Za}{z:D}{k m:Bool}{t:Y8}
def Zv{l:Li α}{x:α}(h:l[i]?=aa x):i < l.length:=(bJ.mp h).1
def Grw.refl:Grw s s:=⟨λ_ _=>rfl,aD _⟩
def Grw.trans(a:Grw s s1)(b:Grw s1 s2):Grw s s2:=⟨λi h=>(b.old i (aT h a.len)).trans (a.old i h),aM a.len b.len⟩
def Grw.get(g:Grw s s')(h:s[i]?=aa t):s'[i]?=aa t:=(g.old i (Zv h)).trans h
def Grw.push:Grw s (s++[t]):=⟨λi h=>bZ h,by rw[aI];omega⟩
def Grw.nil:Grw [] s:=⟨λ_ h=>aq h (Nat.not_lt_zero _),aO _⟩
def Gv(s:Za)(f:Za->Res)(d:D):Prop:=∀ st,Grw s st->∃ st',f st=aa (d,st')/\Grw st st'
def Y(F:Nat->Fn)(s:Za)(e:CE)(U:Env)(d:D):Prop:=Gv s (ev F e U) d
def C(F:Nat->Fn)(s:Za)(f:Nat)(ds:Li D)(d:D):Prop:=Gv s (F f ds) d
def R(F:Nat->Fn)(s:Za)(q:CS)(U:Env)(d:D):Prop:=∀ st,Grw s st->∃ st',ex F q U st=aa (.rt d,st')/\Grw st st'
def rf{f:Za->Res}(x:Za):f x=f x:=rfl
def Y.r(h:∀ st,ev F e U st=aa (d,st)):Y F s e U d:=λst _=>⟨st,h st,.refl⟩
def Y.at(h:∀ st,Grw s st->ev F e U st=aa (d,st)):Y F s e U d:=λst g=>⟨st,h st g,.refl⟩
def Gv.mono{f:Za->Res}(h:Gv s f d)(g:Grw s s'):Gv s' f d:=λst k=>h st (g.trans k)
def C.up(h:C F [] f ds d):C F s f ds d:=Gv.mono h .nil
def g1{g:D->Za->Res}(e:Y F s a U x)(h:Gv s (g x) d):Gv s (Zq (ev F a) g U) d:=λst k=>by
 obtain⟨s1,i,b⟩:=e st k;obtain⟨s2,f,c⟩:=h s1 (k.trans b);exact⟨s2,by unfold Zq;rw[i];exact f,b.trans c⟩
def g2{g:D->D->Za->Res}(l:Y F s a U x)(j:Y F s b U y)(h:Gv s (g x y) d):Gv s (ZY (ev F a) (ev F b) g U) d:=λst k=>by
 obtain⟨s1,o,c⟩:=l st k;obtain⟨s2,n,e⟩:=j s1 (k.trans c);obtain⟨f,m,i⟩:=h s2 (k.trans (c.trans e));exact⟨f,by unfold ZY;rw[o];simp only[n];exact m,c.trans (e.trans i)⟩
def gp{f:Za->Res}(h:∀ st,f st=aa (d,st)):Gv s f d:=λst _=>⟨st,h st,.refl⟩
def gs{f:Za->Res}(h:∀ st,Grw s st->f st=aa (d,st)):Gv s f d:=λst k=>⟨st,h st k,.refl⟩
def Y.cmp{op:CmpOp}(d:Y F s a U x)(c:Y F s b U y)(h:∀ st,ZcK op x y st=aa k):Y F s (.cmp op a b) U (.bl k):=g2 d c (gp λst=>by unfold ZcL;rw[h])
def gc{e b c:Ev}(i:Gv s (e U) (.bl k))(h:Gv s ((if k then b else c) U) d):Gv s (Yz e b c U) d:=λst g=>by
 obtain⟨s1,l,a⟩:=i st g;obtain⟨s2,j,f⟩:=h s1 (g.trans a);exact⟨s2,by unfold Yz;rw[l];cases k<;>exact j,a.trans f⟩
def Y.and(c:Y F s a U (.bl k))(d:k=ac->Y F s b U (.bl m)):Y F s (.and a b) U (.bl (k&&m)):=by
 cases k
 .exact gc c (gp λ_=>rfl)
 .exact gc c (d rfl)
def Y.or(c:Y F s a U (.bl k))(d:k=ae->Y F s b U (.bl m)):Y F s (.or a b) U (.bl (k||m)):=by
 cases k
 .exact gc c (d rfl)
 .exact gc c (gp λ_=>rfl)
def Y.not(b:Y F s a U (.bl k)):Y F s (.not a) U (.bl (!k)):=g1 b (gp λ_=>rfl)
def Y.ife(e:Y F s c U (.bl k))(h:Y F s (if k then a else b) U d):Y F s (.ife c a b) U d:=by
 cases k<;>exact gc e h
def Y.call(b:Y F s a U (.tup xs))(h:C F s f (xs++ds) d):Y F s (.call f a ds) U d:=g1 b h
def Y.cons(e:Y F s a U x)(d:Y F s b U (.tup xs))(c:xs.length < 1000:=by first|decide | (simp only[aP,cQ];decide)):Y F s (.aC a b) U (.tup (x :: xs)):=g2 e d (gp λst=>am c)
def Y.nil:Y F s .aN U (.tup []):=.r rf
def Y.call1(b:Y F s a U x)(h:C F s f [x] d):Y F s (.call f (.u a) []) U d:=.call (.cons b .nil) h
def R.ret(h:Y F s e U d):R F s (.seq (.ret e) q) U d:=λst g=>by
 obtain⟨s1,b,a⟩:=h st g;exact⟨s1,by show Yt (Qi (ev F e)) (ex F q) U st=_;unfold Yt Qi;rw[b],a⟩
def R.set(h:Y F s e U x)(c:R F s q (Zf U i x) d):R F s (.seq (.set i e) q) U d:=λst g=>by
 obtain⟨s1,j,a⟩:=h st g;obtain⟨s2,f,b⟩:=c s1 (g.trans a);exact⟨s2,by show Yt (WH i (ev F e)) (ex F q) U st=_;unfold Yt WH;rw[j];exact f,a.trans b⟩
def R.no(h:Y F s e U (.bl ae))(c:R F s q U d):R F s (.seq (.ite e p .skip) q) U d:=λst g=>by
 obtain⟨s1,i,a⟩:=h st g;obtain⟨s2,f,b⟩:=c s1 (g.trans a);exact⟨s2,by show Yt (Z2 (ev F e) (ex F p) (ex F .skip)) (ex F q) U st=_;unfold Yt Z2;rw[i];exact f,a.trans b⟩
def R.yB(h:Y F s e U (.bl ac))(c:R F s p U d):R F s (.seq (.ite e p .skip) q) U d:=λst g=>by
 obtain⟨s1,i,a⟩:=h st g;obtain⟨s2,f,b⟩:=c s1 (g.trans a);exact⟨s2,by show Yt (Z2 (ev F e) (ex F p) (ex F .skip)) (ex F q) U st=_;unfold Yt Z2;rw[i];simp only[f],a.trans b⟩
def R.yes(h:Y F s e U (.bl ac))(b:Y F s a U d):R F s (.seq (.ite e (.z (.ret a)) .skip) q) U d:=.yB h (.ret b)
def Zhx{v:FD}(h:T f=aa v)(a:ds.length=v.ps):rT (n+1) f ds st=match ex (rT n) v.body (ds.map aa++af (v.ns - ds.length) ab) st with
  |some (.rt d,st')=>aa (d,st')
  |some (.nx _,st')=>aa (.non,st')
  |_=>ab:=by
 show(match T f with|some f=>fnD (rT n) f|none=>λ_ _=>ab) ds st=_
 rw[h];exact am a
def XS{v:FD}(h:T f=aa v)(b:ds.length=v.ps)(a:ex (rT n) v.body (ds.map aa++af (v.ns - ds.length) ab) st=aa (.rt d,s')):rT (n+1) f ds st=aa (d,s'):=by rw[Zhx h b,a]
def Zjj{v:FD}(h:T f=aa v)(b:ds.length=v.ps)(a:ex (rT n) v.body (ds.map aa++af (v.ns - ds.length) ab) st=aa (.nx U',s')):rT (n+1) f ds st=aa (.non,s'):=by rw[Zhx h b,a]
def C.of{v:FD}(h:T f=aa v)(c:ds.length=v.ps)(b:R (rT n) s v.body (ds.map aa++af (v.ns - ds.length) ab) d):C (rT (n+1)) s f ds d:=λst g=>by
 obtain⟨s1,e,a⟩:=b st g;exact⟨s1,XS h c e,a⟩
def Zc(h:ex F p U st=aa (.nx U',s')):ex F (.seq p q) U st=ex F q U' s':=by
 show Yt (ex F p) (ex F q) U st=_;unfold Yt;rw[h]
def Zj(h:ex F p U st=aa (.rt d,s')):ex F (.seq p q) U st=aa (.rt d,s'):=by
 show Yt (ex F p) (ex F q) U st=_;unfold Yt;rw[h]
theorem Vk{α:Type}{f g:α->D}{ok:Za->Prop}{fe fc:D->Za->Res}(e:∀ d st,fc d st=aa (.bl ac,st))(b:∀ st,Grw s st->ok st):∀ {l:Li α},(∀ a∈l,Gv s (fe (f a)) (g a))->∀ st,Grw s st->∃ st',ZW ok fe fc (l.map f) st=aa (l.map g,st')/\Grw st st'
 |[],_,st,k=>⟨st,am (b st k),.refl⟩
 |x :: xs,h,st,k=>by
  obtain⟨s1,n,c⟩:=h x Ls st k;obtain⟨s2,m,i⟩:=Vk e b (λd j=>h d (Lm _ j)) s1 (k.trans c)
  refine⟨s2,?_,c.trans i⟩;rw[aQ,ZW,am (b st k),e];simp only[n,m,aQ]
def Lv(s:Za)(f:Za->Res)(xs:Li D):Prop:=∀ st,Grw s st->∃ st' j b,f st=aa (.lst j,st')/\st'[j]?=aa (b,xs)/\Grw st st'
def Zp:(s++[t])[s.length]?=aa t:=by rw[cG (aD _),Nat.sub_self];rfl
def Wk(F:Nat->Fn)(s:Za)(it:CE)(U:Env)(wk:D->Za->Ot (Li D×(Za->Prop)))(xs:Li D):Prop:=∀ st,Grw s st->∃ x a ok,ev F it U st=aa (x,a)/\Grw st a/\wk x a=aa (xs,ok)/\∀ st',Grw a st'->ok st'
def Wk.of(b:Y F s e U x)(h:∀ st,wk x st=aa (xs,λ_=>True)):Wk F s e U wk xs:=λst k=>by
 obtain⟨s1,c,a⟩:=b st k;exact⟨x,s1,_,c,a,h s1,λ_ _=>trivial⟩
def QX{b:D->Li (Ot D)}{en g:α->D}{l:Li α}(m:Wk F s it U wk (l.map en))(j:l.length<=1000)(h:∀ a∈l,Y F s elt (ZM b U fr (en a)) (g a)):Lv s (Ye b wk fr (ev F it) (ev F elt) (ev F (.c (.bl ac))) U) (l.map g):=λst k=>by
 obtain⟨x,s1,ok,q,e,p,i⟩:=m st k;obtain⟨s2,o,f⟩:=Vk (s:=s1) (ok:=ok) (fe:=λd=>ev F elt (ZM b U fr d)) (fc:=λd=>ev F (.c (.bl ac)) (ZM b U fr d)) (λ_ _=>rfl) i (λa n=>Gv.mono (h a n) (k.trans e)) s1 .refl
 refine⟨s2++[(ac,l.map g)],_,_,?_,Zp,(e.trans f).trans .push⟩;unfold Ye;simp only[q,p,aB,am j,o]
def UI(h:xs[j]?=aa d):atD xs (j:Int)=aa d:=by
 have:=Zv h;unfold atD ixN;rw[am (by omega),am (by omega),Ob,aZ,h]
def Y.ixl(c:s[w]?=aa t)(f:Y F s a U (.lst w))(e:Y F s b U (.int (j:Int)))(h:t.2[j]?=aa d):Y F s (.ix a b) U d:=g2 f e (gs λst k=>by
 show ixR (.lst w) (.int (j:Int)) st=_;unfold ixR ixD;simp only[k.get c,UI h])
def Y.ixt(e:Y F s a U (.tup xs))(c:Y F s b U (.int (j:Int)))(h:xs[j]?=aa d):Y F s (.ix a b) U d:=g2 e c (gp λst=>by
 show ixR (.tup xs) (.int (j:Int)) st=_;unfold ixR ixD;simp only[UI h])
def Y.lenl(b:s[w]?=aa t)(c:Y F s a U (.lst w)):Y F s (.len a) U (.int (t.2.length:Int)):=g1 c (gs λst k=>by
 show Ui (.lst w) st=_;unfold Ui Zdk;simp only[k.get b])
def Lv.sl{e g:Ot Int}(l:s[w]?=aa t)(o:Y F s a U (.lst w))(n:Y F s b U x)(m:Y F s c U y)(h:∀ st,Yu (.lst w) x y st=Z0 (.lst w) e g st):Lv s (ev F (.slice a b c) U) (Y9 t.2 e g):=λst k=>by
 obtain⟨s1,r,d⟩:=o st k;obtain⟨s2,q,f⟩:=n s1 (k.trans d);obtain⟨j,p,i⟩:=m s2 (k.trans (d.trans f));refine⟨j++[(ac,Y9 t.2 e g)],_,_,?_,Zp,(d.trans (f.trans i)).trans .push⟩;show Yk (ev F a) (ev F b) (ev F c) Yu U st=_;unfold Yk;simp only[r,q,p,h];unfold Z0;simp only[(k.trans (d.trans (f.trans i))).get l]
def Lv.mk(h:Y F s e U (.tup xs)):Lv s (ev F (.lstE e) U) xs:=λst k=>by
 obtain⟨s1,b,a⟩:=h st k;exact⟨_,_,_,by show Zq (ev F e) Zdl U st=_;unfold Zq;rw[b];rfl,Zp,a.trans .push⟩
def R.setL(h:Lv s (ev F e U) xs)(f:∀ s' j b,Grw s s'->s'[j]?=aa (b,xs)->R F s' q (Zf U i (.lst j)) d):R F s (.seq (.set i e) q) U d:=λst g=>by
 obtain⟨s1,j,b,m,k,a⟩:=h st g;obtain⟨s2,l,c⟩:=f s1 j b (g.trans a) k s1 .refl;exact⟨s2,by show Yt (WH i (ev F e)) (ex F q) U st=_;unfold Yt WH;rw[m];exact l,a.trans c⟩
def Ym{c:Y8}(h:ev F e U st=aa (.lst j,s'))(a:s'[j]?=aa c):ev F (.tOf e) U st=aa (.tup c.2,s'):=by
 show Zq (ev F e) VM U st=_;unfold Zq;rw[h];show(match s'[j]? with
  |some (_,xs)=>aa (D.tup xs,s')
  |none=>ab)=_
 rw[a]
def ZK(h:ev F e U st=aa (d,s')):ex F (.ret e) U st=aa (.rt d,s'):=by
 show Qi (ev F e) U st=_;unfold Qi;rw[h]
def Zk(h:ev F e U st=aa (v,st')):ex F (.set i e) U st=aa (.nx (Zf U i v),st'):=by
 show WH i (ev F e) U st=_;unfold WH;rw[h]
def Y3(h:ev F e U st=aa (.bl ae,st')):ex F (.ite e p q) U st=ex F q U st':=by
 show Z2 (ev F e) (ex F p) (ex F q) U st=_;unfold Z2;rw[h]
def Z1(h:ev F e U st=aa (.bl ac,st')):ex F (.ite e p q) U st=ex F p U st':=by
 show Z2 (ev F e) (ex F p) (ex F q) U st=_;unfold Z2;rw[h]
def Zh:ex F .skip U st=aa (.nx U,st):=rfl
def ZhW(h:ev F e U st=aa (d,s')):ex F (.act e) U st=aa (.nx U,s'):=by
 show Zaf (ev F e) U st=_;unfold Zaf;rw[h]
end
variable{st' st1:Za}{U':Env}{ys:Li D}
section
variable{U'':Env}{k:Bool}
structure Kj(j:Nat)(st st':Za):Prop where
 old:∀ i,i < st.length->i≠j->st'[i]?=st[i]?
 len:st.length<=st'.length
def Grw.kj(g:Grw st st'):Kj j st st':=⟨λi h _=>g.old i h,g.len⟩
def Kj.trans(a:Kj j st st1)(b:Kj j st1 st'):Kj j st st':=⟨λi h c=>(b.old i (aT h a.len) c).trans (a.old i h c),aM a.len b.len⟩
def Kj.grw(k:Kj j st st')(a:s.length<=j)(g:Grw s st):Grw s st':=⟨λi h=>(k.old i (aT h g.len) (by omega)).trans (g.old i h),aM g.len k.len⟩
def X8{c:Y8}(h:i < st.length):(st.set i c)[j]?=if i=j then aa c else st[j]?:=by
 rw[List.getElem?_set];split
 .rename_i e;subst e
  first|rfl|rw[am h]
 .rfl
def Ap(F:Nat->Fn)(s:Za)(j:Nat)(q:CS)(U U':Env)(xs:Li D):Prop:=∀ st a,Grw s st->st[j]?=aa (ac,a)->a.length+xs.length<=900->∃ st',ex F q U st=aa (.nx U',st')/\Kj j st st'/\st'[j]?=aa (ac,a++xs)
def Ap.skip:Ap F s j .skip U U []:=λst a g h _=>⟨st,rfl,Grw.refl.kj,by rw[bD];exact h⟩
def Ap.seq(f:s.length<=j)(k:Ap F s j q U U' xs)(i:Ap F s j p U' U'' ys):Ap F s j (.seq q p) U U'' (xs++ys):=λst a g h e=>by
 rw[aI]at e;obtain⟨s1,m,g1,d⟩:=k st a g h (by omega)
 obtain⟨b,l,g2,c⟩:=i s1 _ (g1.grw f g) d (by rw[aI];omega)
 exact⟨b,by show Yt (ex F q) (ex F p) U st=_;unfold Yt;rw[m];exact l,g1.trans g2,by rw[<-bB];exact c⟩
def Ap.one(h:Ap F s j q U U' xs):Ap F s j (.z q) U U' xs:=λst a g d c=>by
 obtain⟨s1,e,g1,b⟩:=h st a g d c;exact⟨s1,by show Yt (ex F q) (ex F .skip) U st=_;unfold Yt;rw[e];rfl,g1,b⟩
def Ap.app(o:U[i]?=aa (jL j))(h:Y F s e U d):Ap F s j (.app i e) U U [d]:=λst a g n f=>by
 obtain⟨s1,p,b⟩:=h st g;have c:=b.get n;have f:a.length+1<=900:=f;refine⟨s1.set j (ac,a++[d]),?_,⟨λm l k=>?_,by rw[bH];exact b.len⟩,by rw[X8 (Zv c),am rfl]⟩
 .show Zam i (ev F e) U st=_
  unfold Zam Zak;simp only[o,p,c];rw[am (by unfold Zw;omega)]
 .rw[X8 (Zv c),ao (Ne.symm k)]
  exact b.old m l
def Ap.ite(h:Y F s e U (.bl k))(f:Ap F s j (if k then q else p) U U' xs):Ap F s j (.ite e q p) U U' xs:=λst b g l i=>by
 obtain⟨s1,n,a⟩:=h st g;obtain⟨c,m,g2,d⟩:=f s1 b (g.trans a) (a.get l) i;exact⟨c,by show Z2 (ev F e) (ex F q) (ex F p) U st=_;unfold Z2;rw[n];cases k<;>exact m,a.kj.trans g2,d⟩
def Ap.set(h:Y F s e U d):Ap F s j (.set i e) U (Zf U i d) []:=λst f g b k=>by
 obtain⟨s1,c,a⟩:=h st g;exact⟨s1,by show WH i (ev F e) U st=_;unfold WH;rw[c],a.kj,by rw[bD];exact a.get b⟩
end
variable{q':CS}
variable{Q:D->Za->Prop}
section
variable{st2:Za}{m:Bool}{c:Nat}{tx:Str}
def Lv.v(b:s[j]?=aa (m,xs))(h:Y F s e U (.lst j)):Lv s (ev F e U) xs:=λst g=>by
 obtain⟨s1,c,a⟩:=h st g;exact⟨s1,j,m,c,(g.trans a).get b,a⟩
def Lv.mono{f:Za->Res}(h:Lv s f xs)(g:Grw s st):Lv st f xs:=λst1 k=>h st1 (g.trans k)
def RP(F:Nat->Fn)(q:CS)(U:Env)(st:Za)(Q:D->Za->Prop):Prop:=∃ d st',ex F q U st=aa (.rt d,st')/\Grw st st'/\Q d st'
def RP.pre(h:ex F q U st=ex F q' U' st1)(g:Grw st st1)(a:RP F q' U' st1 Q):RP F q U st Q:=by
 obtain⟨d,st',e,b,k⟩:=a;exact⟨d,st',h.trans e,g.trans b,k⟩
def RP.setL(h:Lv s (ev F e U) xs)(g:Grw s st)(d:∀ a j b,Grw st a->a[j]?=aa (b,xs)->RP F q (Zf U i (.lst j)) a Q):RP F (.seq (.set i e) q) U st Q:=by
 obtain⟨s1,j,b,k,f,c⟩:=h st g;exact .pre (Zc (Zk k)) c (d s1 j b c f)
def RP.setY(h:Y F s e U d)(g:Grw s st)(c:∀ a,Grw st a->RP F q (Zf U i d) a Q):RP F (.seq (.set i e) q) U st Q:=by
 obtain⟨s1,f,b⟩:=h st g;exact .pre (Zc (Zk f)) b (c s1 b)
def RP.no{p:CS}(h:Y F s e U (.bl ae))(g:Grw s st)(c:∀ a,Grw st a->RP F q U a Q):RP F (.seq (.ite e p .skip) q) U st Q:=by
 obtain⟨s1,d,b⟩:=h st g;exact .pre (Zc ((Y3 d).trans Zh)) b (c s1 b)
def RP.ret(h:Y F s e U d)(g:Grw s st)(c:∀ a,Grw st a->Q d a):RP F (.seq (.ret e) q) U st Q:=by
 obtain⟨s1,f,b⟩:=h st g;exact⟨d,s1,Zj (ZK f),b,c s1 b⟩
def RP.yes{p:CS}(h:Y F s e U (.bl ac))(g:Grw s st)(i:∀ a,Grw st a->RP F p U a Q):RP F (.seq (.ite e p .skip) q) U st Q:=by
 obtain⟨s1,l,b⟩:=h st g;obtain⟨d,c,k,f,j⟩:=i s1 b;exact⟨d,c,Zj ((Z1 l).trans k),b.trans f,j⟩
def CP(F:Nat->Fn)(f:Nat)(ds:Li D)(st:Za)(Q:D->Za->Prop):Prop:=∃ d st',F f ds st=aa (d,st')/\Grw st st'/\Q d st'
def CP.of{v:FD}{f:Nat}{ds:Li D}(h:T f=aa v)(c:ds.length=v.ps)(b:RP (rT n) v.body (ds.map aa++af (v.ns - ds.length) ab) st Q):CP (rT (n+1)) f ds st Q:=by
 obtain⟨d,s1,g,a,e⟩:=b;exact⟨d,s1,XS h c g,a,e⟩
end
def Sm(a:Int):Prop:=-1000000000<=a/\a<=999999999
variable{m sz:Nat}{ns:Li Int}
section
variable{i j k c:Int}{op:Operator}
def Y.bi(d:Y F s a U (.int i))(c:Y F s b U (.int j))(h:Zap op i j=aa k):Y F s (.bin op a b) U (.int k):=g2 d c (gp λst=>by
 show VQ op (.int i) (.int j) st=_;unfold VQ;simp only[h])
def Y.add(d:Y F s a U (.int i))(c:Y F s b U (.int j)):Y F s (.bin .Add a b) U (.int (i+j)):=.bi d c rfl
def Y.sub(d:Y F s a U (.int i))(c:Y F s b U (.int j)):Y F s (.bin .Sub a b) U (.int (i - j)):=.bi d c rfl
def Y.mul(d:Y F s a U (.int i))(c:Y F s b U (.int j))(h:ZP j=ac):Y F s (.bin .Mult a b) U (.int (i * j)):=.bi d c (by show(if ZP i||ZP j then aa (i * j) else ab)=_;rw[h,Bool.or_true];rfl)
def Y.md(d:Y F s a U (.int i))(c:Y F s b U (.int j))(h:0 < j):Y F s (.bin .Mod a b) U (.int (i % j)):=.bi d c (am h)
def Y.fd(d:Y F s a U (.int i))(c:Y F s b U (.int j))(h:0 < j/\j < 1073741824):Y F s (.bin .FloorDiv a b) U (.int (i / j)):=.bi d c (am h)
def Y.ixL{j:Nat}(k:Lv s (ev F a U) xs)(i:Y F s b U (.int (j:Int)))(h:xs[j]?=aa d):Y F s (.ix a b) U d:=λst g=>by
 obtain⟨s1,q,t,n,l,f⟩:=k st g;obtain⟨c,m,e⟩:=i s1 (g.trans f);refine⟨c,?_,f.trans e⟩;show ZY (ev F a) (ev F b) ixR U st=_;unfold ZY;simp only[n,m];show ixR (.lst q) (.int (j:Int)) c=_;unfold ixR ixD;simp only[e.get l,UI h]
def Zo(i:Int)(h:0 < j):0<=i % j/\i % j < j:=⟨Int.emod_nonneg _ (by omega),Int.emod_lt_of_pos _ h⟩
def Uj(h:-(2 ^ 64) < i/\i < 2 ^ 64):ZP i=ac:=by unfold ZP;rw[aK h.1,aK h.2];rfl
end
variable{st1:Za}
variable{N:Nat}
def UY{v:Int}(b:v < 2 ^ 62)(a:-(2 ^ 62)<=v):Ws ac (.int v)=aa ((ag v.toNat).map λ(k:Nat)=>D.int (k:Int)):=by
 show(if v < 2 ^ 62/\-(2 ^ 62)<=v then aa ((ag v.toNat).map λ(k:Nat)=>D.int (k:Int)) else ab)=_
 rw[am ⟨b,a⟩]
def Xw{v:Int}(b:v < 2 ^ 62)(a:-(2 ^ 62)<=v)(c:ev F e U st=aa (.int v,st1)):ex F (.for1 i ac e q) U st=Zi (λd U s=>ex F q (Zf U i d) s) ((ag v.toNat).map λ(k:Nat)=>D.int (k:Int)) U st1:=by
 show Wo i ac (ev F e) (ex F q) U st=_;unfold Wo;rw[c];simp only[UY b a]
def arI(x:Int):Int:=(x+1000000000) % 2000000000 - 1000000000
def fdI(i j:Int):Int:=if 0 < j then i / j else i.fdiv j
def rkI(a:Int)(g:Str)(b:Int):Int:=if g=S "+" then arI (a+b) else if g=S "-" then arI (a - b) else if g=S "*" then arI (a * b) else if g=S "/" then (if b=0 then 0 else arI (fdI a b)) else if b=0 then a else a - b * fdI a b
def soI(a:Int)(g:Str)(b:Int):Bool:=if g=S "<" then aj (a < b) else if g=S "<=" then aj (a<=b) else if g=S "=" then aj (a=b) else if g=S ">=" then aj (b<=a) else if g=S ">" then aj (b < a) else !decide (a=b)
def psL:Li Str:=[S "+",S "-",S "*",S "/",S "mod"]
def isL:Li Str:=[S "<",S "<=",S "=",S ">=",S ">",S "!="]
inductive Op where
 |nm (i:Nat)|nu (v:Int)
 deriving DecidableEq
def opE:Op->D
 |.nm i=>.tup [.str "name",.int (i:Int)]
 |.nu v=>.tup [.str "number",.int v]
def Xp(m:Nat):Op->Prop
 |.nm i=>i < m
 |.nu v=>Sm v
inductive Rw where
 |put (x:Nat) (y:Op) (g:Str) (z:Op)|ifr (y:Op) (g:Str) (z:Op) (t:Nat)|go (t:Nat)|tell (y:Op)|skip
 deriving DecidableEq
def rwE:Rw->D
 |.put x y g z=>.tup [.str "put",.int (x:Int),opE y,.str g,opE z]
 |.ifr y g z t=>.tup [.str "if",opE y,.str g,opE z,.int (t:Int)]
 |.go t=>.tup [.str "go",.int (t:Int)]
 |.tell y=>.tup [.str "tell",opE y]
 |.skip=>.tup [.str "skip"]
def ZC(m sz:Nat):Rw->Prop
 |.put x y g z=>x < m/\Xp m y/\g∈psL/\Xp m z
 |.ifr y g z t=>Xp m y/\g∈isL/\Xp m z/\t<=sz
 |.go t=>t<=sz
 |.tell y=>Xp m y
 |.skip=>True
def woI(vs:Li Int):Op->Int
 |.nm i=>vs.getD i 0
 |.nu v=>v
structure Vs(m:Nat)(vs:List Int):Prop where
 l:vs.length=m
 s:∀ v∈vs,Sm v
def inZ(vs:Li Int):Li D:=vs.map D.int
variable{vs:Li Int}{g:Str}{o:Op}{r:Rw}
section
variable{i j:Int}
def WV:Sm (arI i):=by
 have:=Zo (i+1000000000) (j:=2000000000) (by decide)
 unfold Sm arI;omega
def Zic(h:j≠0):(0 < j/\j * fdI i j<=i/\i < j * fdI i j+j)\/(j < 0/\i<=j * fdI i j/\j * fdI i j+j < i):=by
 unfold fdI;by_cases a:0 < j
 .rw[am a]
  have b:=Int.mul_ediv_add_emod i j;have d:=Int.emod_nonneg i h;have e:=Int.emod_lt_of_pos i a;exact .inl ⟨a,by omega,by omega⟩
 .rw[ao a]
  have b:=Int.fmod_def i j;have d:j < 0:=by omega
  have e:=Int.emod_nonneg i h;have g:i % j < -j:=by have:=Int.emod_lt i h;omega
  rw[Int.fmod_eq_emod]at b;by_cases c:j ∣ i
  .rw[am (.inr c),Int.emod_eq_zero_of_dvd c]at b
   exact .inr ⟨d,by omega,by omega⟩
  .have f:i % j≠0:=λz=>c (Int.dvd_of_emod_eq_zero z)
   rw[ao (by omega)]at b
   exact .inr ⟨d,by omega,by omega⟩
def ZeB(a:Sm i)(e:Sm j):Sm (rkI i g j):=by
 unfold rkI;split
 .exact WV
 .split
  .exact WV
  .split
   .exact WV
   .split
    .split
     .exact⟨by decide,by decide⟩
     .exact WV
    .split
     .exact a
     .rename_i h
      have:=Zic (i:=i) h;unfold Sm at *
      rcases this with⟨d,c,b⟩|⟨d,c,b⟩
      .generalize j * fdI i j=q at *
       omega
      .generalize j * fdI i j=q at *
       omega
def Y.v{i:Nat}(h:U[i]?=aa (aa d)):Y F s (.v i) U d:=.r λst=>by show YV i U st=_;unfold YV;rw[h]
def Y.fdv(f:Y F s a U (.int i))(e:Y F s b U (.int j))(h:j≠0)(d:Sm j):Y F s (.bin .FloorDiv a b) U (.int (fdI i j)):=.bi f e (by
 unfold Sm at d;show(if 0 < j/\j < 1073741824 then aa (i / j) else if j < 0/\-1073741824 < j then aa (i.fdiv j) else ab)=_
 unfold fdI;by_cases c:0 < j
 .rw[am c,am ⟨c,by omega⟩]
 .rw[ao c,ao (by omega),am ⟨by omega,by omega⟩])
def Vt(h:Sm j):ZP j=ac:=Uj (by unfold Sm at h;omega)
def Y.arx(b:Y F s a U (.int i)):Y F s (.bin .Sub (.bin .Mod (.bin .Add a (.i 1000000000)) (.i 2000000000)) (.i 1000000000)) U (.int (arI i)):=.sub (.md (.add b (.r rf)) (.r rf) (by decide)) (.r rf)
def Yv:C (rT (n+1)) s 0 [.int i] (.int (arI i)):=.of (v:=c_around) rfl rfl (.ret (.arx (.r rf)))
def Zgq(a:Sm j):C (rT (n+2)) s 1 [.int i,.int j] (.int (if j=0 then 0 else arI (fdI i j))):=by
 by_cases h:j=0
 .subst h;exact .of (v:=c_divided) rfl rfl (.yes (.r rf) (.r rf))
 .rw[ao h]
  exact .of (v:=c_divided) rfl rfl (.no (.cmp (.r rf) (.r rf) λ_=>ar aa (aG h)) (.ret (.call1 (.fdv (.r rf) (.r rf) h a) Yv)))
def ZeM(a:Sm j):C (rT (n+1)) s 2 [.int i,.int j] (.int (if j=0 then i else i - j * fdI i j)):=by
 by_cases h:j=0
 .subst h;exact .of (v:=c_left_over) rfl rfl (.yes (.r rf) (.r rf))
 .rw[ao h]
  refine .of (v:=c_left_over) rfl rfl (.no (.cmp (.r rf) (.r rf) λ_=>ar aa (aG h)) (.ret (.sub (.r rf) (.bi (i:=j) (j:=fdI i j) (.r rf) (.fdv (.r rf) (.r rf) h a) ?_))))
  show(if ZP j||ZP (fdI i j) then aa (j * fdI i j) else ab)=_
  rw[Vt a];rfl
def Y.eqs{x y:Str}(d:Y F s a U (.str x))(c:Y F s b U (.str y)):Y F s (.cmp .Eq a b) U (.bl (aj (x=y))):=.cmp d c λ_=>rfl
def R.pick{k:Bool}{q p:CS}(h:Y F s e U (.bl k))(b:k=ac->R F s p U d)(a:k=ae->R F s q U d):R F s (.seq (.ite e p .skip) q) U d:=by
 cases k
 .exact .no h (a rfl)
 .exact .yB h (b rfl)
def Zgw(e:Sm i)(c:Sm j):C (rT (n+3)) s 3 [.int i,.str g,.int j] (.int (rkI i g j)):=by
 unfold rkI;refine .of (v:=c_reckon) rfl rfl (.pick (.eqs (.r rf) (.r rf)) (λh=>?_) λh=>.pick (.eqs (.r rf) (.r rf)) (λa=>?_) λa=>.pick (.eqs (.r rf) (.r rf)) (λb=>?_) λb=>.pick (.eqs (.r rf) (.r rf)) (λd=>?_) λd=>?_)
 .rw[am (al h)];exact .ret (.call1 (.add (.r rf) (.r rf)) Yv)
 .rw[ao (ak h),am (al a)];exact .ret (.call1 (.sub (.r rf) (.r rf)) Yv)
 .rw[ao (ak h),ao (ak a),am (al b)];exact .ret (.call1 (.mul (.r rf) (.r rf) (Vt c)) Yv)
 .rw[ao (ak h),ao (ak a),ao (ak b),am (al d)];exact .ret (.call (xs:=[.int i,.int j]) (.r rf) (Zgq c))
 .rw[ao (ak h),ao (ak a),ao (ak b),ao (ak d)];exact .ret (.call (xs:=[.int i,.int j]) (.r rf) (ZeM c))
def Zgy:C (rT (n+1)) s 4 [.int i,.str g,.int j] (.bl (soI i g j)):=by
 unfold soI;refine .of (v:=c_is_so) rfl rfl (.pick (.eqs (.r rf) (.r rf)) (λh=>?_) λh=>.pick (.eqs (.r rf) (.r rf)) (λa=>?_) λa=>.pick (.eqs (.r rf) (.r rf)) (λb=>?_) λb=>.pick (.eqs (.r rf) (.r rf)) (λc=>?_) λc=>.pick (.eqs (.r rf) (.r rf)) (λd=>?_) λd=>?_)
 .rw[am (al h)];exact .ret (.r rf)
 .rw[ao (ak h),am (al a)];exact .ret (.r rf)
 .rw[ao (ak h),ao (ak a),am (al b)];exact .ret (.r rf)
 .rw[ao (ak h),ao (ak a),ao (ak b),am (al c)];exact .ret (.r rf)
 .rw[ao (ak h),ao (ak a),ao (ak b),ao (ak c),am (al d)];exact .ret (.r rf)
 .rw[ao (ak h),ao (ak a),ao (ak b),ao (ak c),ao (ak d)];exact .ret (.r rf)
def ZeI{i:Nat}(a:Vs m vs)(h:i < m):(inZ vs)[i]?=aa (.int (woI vs (.nm i))):=by
 have b:=a.l;unfold inZ;rw[aU,Lg (by omega)]
 show aa (D.int vs[i])=aa (D.int (vs.getD i 0));rw[bA,Lg (by omega)];rfl
def Uy(a:Vs m vs)(h:Xp m o):Sm (woI vs o):=by
 cases o with
 |nm i=>
  have b:=a.l;have c:i < m:=h;show Sm (vs.getD i 0);rw[bA,Lg (by omega)]
  exact a.s _ (cI _)
 |nu v=>exact h
def Xm(a:Vs m vs)(h:Xp m o):C (rT (n+1)) s 5 [opE o,.tup (inZ vs)] (.int (woI vs o)):=by
 cases o with
 |nm i=>exact .of (v:=c_worth) rfl rfl (.yes (.r rf) (.ixt (j:=i) (.r rf) (.r rf) (ZeI a h)))
 |nu v=>exact .of (v:=c_worth) rfl rfl (.no (.r rf) (.ret (.r rf)))
end
def pgD(a:D)(m:Nat)(rs:Li Rw):D:=.tup [a,.int (m:Int),.tup (rs.map rwE)]
def stD(k:Nat)(vs:Li Int):D:=.tup [.int (k:Int),.tup (inZ vs)]
def noD:D:=.tup [.str "none"]
def laD:D:=.tup [.str "late"]
def teD(v:Int):D:=.tup [.str "told",.int v]
def vsN(vs:Li Int):Rw->Li Int
 |.put x y g z=>vs.set x (rkI (woI vs y) g (woI vs z))
 |_=>vs
def pkN(k:Nat)(vs:Li Int):Rw->Nat
 |.go t=>t
 |.ifr y g z t=>if soI (woI vs y) g (woI vs z)=ac then t else k+1
 |_=>k+1
def mv(rs:Li Rw)(k:Nat)(vs:Li Int):Sum D (Nat×Li Int):=match rs[k]? with
 |none=>.inl noD
 |some (.tell y)=>.inl (teD (woI vs y))
 |some r=>.inr (pkN k vs r,vsN vs r)
def oc(rs:Li Rw):Nat->Nat->Li Int->D
 |0,k,_=>if rs.length<=k then noD else laD
 |n+1,k,vs=>match mv rs k vs with
  |.inl o=>o
  |.inr p=>oc rs n p.1 p.2
def tl(rs:Li Rw):Nat->Nat->Li Int->Li D
 |0,k,_=>[if rs.length<=k then noD else laD]
 |n+1,k,vs=>match mv rs k vs with
  |.inl o=>[o]
  |.inr p=>stD p.1 p.2 :: tl rs n p.1 p.2
structure Rs(m:Nat)(rs:List Rw):Prop where
 l:rs.length<=50
 ok:∀ r∈rs,ZC m rs.length r
def v0(m:Nat)(ins:Li Int):Li Int:=ins++af (m - ins.length) 0
variable{tk:D}{k:Nat}{ins:Li Int}{rs:Li Rw}
def ZaC{j:Nat}:sIx w j (aa (i:Int))=Nat.min i w:=by
 show(if (i:Int) < 0 then ((i:Int)+(w:Int)).toNat else Nat.min (i:Int).toNat w)=_
 rw[ao (by omega),aZ]
def Ze8(h:i<=xs.length):Y9 xs ab (aa (i:Int))=xs.take i:=by
 unfold Y9;rw[ZaC,show Nat.min i xs.length=i from Nat.min_eq_left h];rfl
def Ze7(h:i<=xs.length):Y9 xs (aa (i:Int)) ab=xs.drop i:=by
 unfold Y9;rw[ZaC,show Nat.min i xs.length=i from Nat.min_eq_left h];exact eC (by rw[cA];exact aD _)
def sl_tup{a b:Ot Int}:Z0 (.tup xs) a b st=aa (.tup (Y9 xs a b),st):=by
 show(if sIx xs.length 0 a=0/\sIx xs.length xs.length b=xs.length then aa (D.tup xs,st) else aa (.tup (Y9 xs a b),st))=_
 split
 .rename_i h
  unfold Y9;rw[h.1,h.2,bR,Nat.sub_zero,List.take_length]
 .rfl
def Y.tkT(j:Y F s a U (.tup xs))(f:Y F s b U (.int (i:Int)))(h:i<=xs.length):Y F s (.slice a .nop (.part b)) U (.tup (xs.take i)):=λst g=>by
 obtain⟨s1,l,d⟩:=j st g;obtain⟨c,k,e⟩:=f s1 (g.trans d);refine⟨c,?_,d.trans e⟩;show Yk (ev F a) (evC .non) (Zq (ev F b) WD) Yu U st=_;unfold Yk Zq evC;simp only[l,k];show Z0 (.tup xs) ab (aa (i:Int)) c=_;rw[sl_tup,Ze8 h]
def Y.dpT(j:Y F s a U (.tup xs))(f:Y F s b U (.int (i:Int)))(h:i<=xs.length):Y F s (.slice a (.part b) .nop) U (.tup (xs.drop i)):=λst g=>by
 obtain⟨s1,l,d⟩:=j st g;obtain⟨c,k,e⟩:=f s1 (g.trans d);refine⟨c,?_,d.trans e⟩;show Yk (ev F a) (Zq (ev F b) WD) (evC .non) Yu U st=_;unfold Yk Zq evC;simp only[l,k];show Z0 (.tup xs) (aa (i:Int)) ab c=_;rw[sl_tup,Ze7 h]
def Y.adT(d:Y F s a U (.tup xs))(c:Y F s b U (.tup ys))(h:xs.length+ys.length<=100000):Y F s (.bin .Add a b) U (.tup (xs++ys)):=g2 d c (gp λst=>by
 show(if Ud .Add=ac/\xs.length+ys.length<=Zw then aa (D.tup (xs++ys),st) else ab)=_
 exact am ⟨rfl,by unfold Zw;omega⟩)
def Y.rep(e:Y F s a U d)(c:Y F s b U (.int (i:Int)))(h:i<=1000):Y F s (.bin .Mult (.tupE (.u a)) b) U (.tup (af i d)):=g2 (x:=.tup [d]) (.cons e .nil) c (gp λst=>by
 show(if (i:Int)<=1000/\-1000<=(i:Int) then aa (D.tup (af (i:Int).toNat d),st) else ab)=_
 rw[am ⟨by omega,by omega⟩,aZ])
def Y.lnT(b:Y F s a U (.tup xs)):Y F s (.len a) U (.int (xs.length:Int)):=g1 b (gp λst=>rfl)
def Yo(h:i < xs.length)(a:xs.length<=1000):C (rT (n+1)) s 42 [.tup xs,.int (i:Int),d] (.tup (xs.set i d)):=by
 rw[show xs.set i d=(xs.take i++[d])++xs.drop (i+1) by rw[bB];exact List.set_eq_take_append_cons_drop.trans (am h)]
 refine .of (v:=c_replaced) rfl rfl (.ret (.adT (.adT (.tkT (.r rf) (.r rf) (by omega)) (.cons (.r rf) .nil) ?_) (.dpT (i:=i+1) (.r rf) (by rw[bC];exact .add (.r rf) (.r rf)) (by omega)) ?_))
 .rw[cF];show _+1<=_;omega
 .rw[aI,cF,cA];show _+1+_<=_;omega
def ZeG(a:ins.length<=m)(h:∀ v∈ins,Sm v):Vs m (v0 m ins):=by
 unfold v0;refine⟨by rw[aI,bM];omega,λv hv=>?_⟩
 rcases bO.mp hv with hv|hv
 .exact h v hv
 .rw[(List.mem_replicate.mp hv).2];exact⟨by decide,by decide⟩
def Zco(b:ins.length<=m)(d:m<=1000):C (rT (n+1)) s 6 [pgD tk m rs,.tup (inZ ins)] (stD 0 (v0 m ins)):=by
 unfold stD v0 inZ;rw[bT,eD];refine .of (v:=c_began) rfl rfl (.ret (.cons (.r rf) (.cons (.adT (.r rf) (.rep (i:=m - ins.length) (.r rf) ?_ (by omega)) (by rw[aB,bM];omega)) .nil)))
 have c:Y (rT n) s (.len (.v 1)) [aa (pgD tk m rs),aa (.tup (ins.map D.int))] (.int (ins.length:Int)):=by
  have:=Y.lnT (F:=rT n) (s:=s) (a:=.v 1) (U:=[aa (pgD tk m rs),aa (.tup (ins.map D.int))]) (xs:=ins.map D.int) (.r rf);rw[aB]at this;exact this
 rw[Int.natCast_sub b];exact .sub (.r rf) c
def Zd9:C (rT (n+1)) s 7 [pgD tk m rs,stD k vs] (.bl (aj (rs.length<=k))):=by
 have b:Y (rT n) s (.len (.ix (.v 0) (.i 2))) [aa (pgD tk m rs),aa (stD k vs)] (.int (rs.length:Int)):=by
  have:=Y.lnT (F:=rT n) (s:=s) (a:=.ix (.v 0) (.i 2)) (U:=[aa (pgD tk m rs),aa (stD k vs)]) (xs:=rs.map rwE) (.r rf);rw[aB]at this;exact this
 exact .of (v:=c_at_end) rfl rfl (.ret (.cmp (.r rf) b λ_=>by show aa (aj ((rs.length:Int)<=(k:Int)))=_;exact ar aa (decide_eq_decide.mpr (by omega))))
def Zb4{j:Int}:(inZ vs).set i (.int j)=inZ (vs.set i j):=by unfold inZ;rw[dQ]
def ZeR(a:Vs m vs)(j:m<=1000)(h:ZC m w r)(e:∀ y,r≠.tell y):C (rT (n+4)) s 8 [rwE r,.tup (inZ vs)] (.tup (inZ (vsN vs r))):=by
 cases r with
 |put x y g z=>
  obtain⟨f,c,o,b⟩:=h;have k:=a.l;refine .of (v:=c_values_behind) rfl rfl (.no (.r rf) (.set (.call (xs:=[.int (woI vs y),.str g,.int (woI vs z)]) (.cons (.call (xs:=[opE y,.tup (inZ vs)]) (.r rf) (Xm a c)) (.cons (.r rf) (.cons (.call (xs:=[opE z,.tup (inZ vs)]) (.r rf) (Xm a b)) .nil))) (Zgw (Uy a c) (Uy a b))) (.ret (.call (xs:=[.tup (inZ vs),.int (x:Int),.int (rkI (woI vs y) g (woI vs z))]) (.r rf) ?_))))
  have:=Yo (n:=n+2) (s:=s) (xs:=inZ vs) (i:=x) (d:=.int (rkI (woI vs y) g (woI vs z))) (by unfold inZ;rw[aB];omega) (by unfold inZ;rw[aB];omega)
  rw[Zb4]at this;exact this
 |ifr y g z t=>exact .of (v:=c_values_behind) rfl rfl (.yes (.r rf) (.r rf))
 |go t=>exact .of (v:=c_values_behind) rfl rfl (.yes (.r rf) (.r rf))
 |tell y=>exact aq rfl (e y)
 |skip=>exact .of (v:=c_values_behind) rfl rfl (.yes (.r rf) (.r rf))
def Zcx(a:Vs m vs)(h:ZC m w r)(d:∀ y,r≠.tell y):C (rT (n+2)) s 9 [rwE r,.int (k:Int),.tup (inZ vs)] (.int (pkN k vs r:Int)):=by
 have one:∀ {U:Env},U[1]?=aa (jN k)->Y (rT (n+1)) s (.bin .Add (.v 1) (.i 1)) U (.int ((k+1:Nat):Int)):=λ{U} h=>by
  rw[bC];exact .add (.v h) (.r rf)
 cases r with
 |put x y g z=>exact .of (v:=c_place_behind) rfl rfl (.no (.r rf) (.no (.r rf) (.ret (one rfl))))
 |go t=>exact .of (v:=c_place_behind) rfl rfl (.yes (.r rf) (.r rf))
 |skip=>exact .of (v:=c_place_behind) rfl rfl (.no (.r rf) (.no (.r rf) (.ret (one rfl))))
 |tell y=>exact aq rfl (d y)
 |ifr y g z t=>
  obtain⟨c,f,b,e⟩:=h;refine .of (v:=c_place_behind) rfl rfl (.no (.r rf) (.pick (k:=ac&&soI (woI vs y) g (woI vs z)) (.and (.r rf) λ_=>.call (xs:=[.int (woI vs y),.str g,.int (woI vs z)]) (.cons (.call (xs:=[opE y,.tup (inZ vs)]) (.r rf) (Xm a c)) (.cons (.r rf) (.cons (.call (xs:=[opE z,.tup (inZ vs)]) (.r rf) (Xm a b)) .nil))) Zgy) (λq=>?_) λq=>?_))
  .rw[dC]at q
   show R _ _ _ _ (.int ((if soI (woI vs y) g (woI vs z)=ac then t else k+1:Nat):Int))
   rw[am q];exact .ret (.r rf)
  .rw[dC]at q
   show R _ _ _ _ (.int ((if soI (woI vs y) g (woI vs z)=ac then t else k+1:Nat):Int))
   rw[ao (by rw[q];decide)]
   exact .ret (one rfl)
def mvD(rs:Li Rw)(k:Nat)(vs:Li Int):D:=match mv rs k vs with
 |.inl o=>o
 |.inr p=>stD p.1 p.2
def Zcv(h:Rs m rs)(l:m<=1000)(d:Vs m vs):C (rT (n+5)) s 10 [pgD tk m rs,stD k vs] (mvD rs k vs):=by
 have c:=Y.call (F:=rT (n+4)) (s:=s) (a:=.aC (.v 0) (.u (.v 1))) (U:=[aa (pgD tk m rs),aa (stD k vs),ab,ab,ab]) (xs:=[pgD tk m rs,stD k vs]) (ds:=[]) (.r rf) (Zd9 (n:=n+3));unfold mvD mv;cases q:rs[k]? with
 |none=>
  rw[aK (eK.mp q)]at c;exact .of (v:=c_moved) rfl rfl (.yes c (.r rf))
 |some r=>
  have o:=Zv q;rw[aG (by omega)]at c
  have ok:=h.ok r (aX q);have f:Y (rT (n+4)) s (.ix (.ix (.v 0) (.i 2)) (.v 2)) [aa (pgD tk m rs),aa (stD k vs),jN k,aa (.tup (inZ vs)),ab] (rwE r):=.ixt (j:=k) (xs:=rs.map rwE) (.r rf) (.r rf) (by rw[aU,q];rfl)
  refine .of (v:=c_moved) rfl rfl (.no c (.set (.r rf) (.set (.r rf) (.set f ?_))));have b:(∀ y,r≠.tell y)->R (rT (n+4)) s (.z (.ret (.tupE (.aC (.call 9 (.aC (.v 4) (.aC (.v 2) (.u (.v 3)))) []) (.u (.call 8 (.aC (.v 4) (.u (.v 3))) [])))))) [aa (pgD tk m rs),aa (stD k vs),jN k,aa (.tup (inZ vs)),aa (rwE r)] (stD (pkN k vs r) (vsN vs r)):=λe=>.ret (.cons (.call (xs:=[rwE r,.int (k:Int),.tup (inZ vs)]) (.r rf) (Zcx (n:=n+2) d ok e)) (.cons (.call (xs:=[rwE r,.tup (inZ vs)]) (.r rf) (ZeR d l ok e)) .nil))
  cases r with
  |tell y=>exact .yes (.r rf) (.cons (.r rf) (.cons (.call (xs:=[opE y,.tup (inZ vs)]) (.r rf) (Xm d ok)) .nil))
  |put x y g z=>exact .no (.r rf) (b λy z=>nomatch z)
  |ifr y g z t=>exact .no (.r rf) (b λy z=>nomatch z)
  |go t=>exact .no (.r rf) (b λy z=>nomatch z)
  |skip=>exact .no (.r rf) (b λy z=>nomatch z)
variable{x2:Ot D}
variable{L:Nat}{acc:Li D}
def enD(rs:Li Rw)(k:Nat):D:=if rs.length<=k then noD else laD
def isO:D->Bool
 |.tup (.str _ :: _)=>ac
 |_=>ae
def Zer(a:Vs m vs)(d:Rs m rs){p:Nat×Li Int}(h:mv rs k vs=.inr p):Vs m p.2:=by
 unfold mv at h;cases q:rs[k]? with
 |none=>rw[q]at h;cases h
 |some r=>
  rw[q]at h;have ok:=d.ok r (aX q);cases r with
  |tell y=>cases h
  |put x y g z=>
   cases h;obtain⟨e,c,f,b⟩:=ok;refine⟨by show(vs.set x _).length=m;rw[bH];exact a.l,λv h=>?_⟩
   rcases eM h with h|h
   .exact a.s v h
   .rw[h];exact ZeB (Uy a c) (Uy a b)
  |ifr y g z t=>cases h;exact a
  |go t=>cases h;exact a
  |skip=>cases h;exact a
def Zfw{o:D}(h:mv rs k vs=.inl o):isO o=ac/\∃ a,o=.tup (.str (if rs.length<=k then S "none" else S "told") :: a):=by
 unfold mv at h;cases q:rs[k]? with
 |none=>rw[q]at h;cases h;exact⟨rfl,[],by rw[am (eK.mp q)];rfl⟩
 |some r=>
  rw[q]at h;have:=Zv q;cases r with
  |tell y=>cases h;exact⟨rfl,[.int (woI vs y)],by rw[ao (by omega)];rfl⟩
  |_=>cases h
def Zea{k:Bool}(h:(∃ x a,d=.tup (.str x :: a)/\k=ac)\/(∃ i a,d=.tup (.int i :: a)/\k=ae)):C (rT (n+1)) s 11 [d] (.bl k):=by
 rcases h with⟨x,a,rfl,rfl⟩|⟨i,a,rfl,rfl⟩
 .exact .of (v:=c_is_outcome) rfl rfl (.ret (g1 (x:=.str x) (.ixt (j:=0) (.r rf) (.r rf) rfl) (gp λ_=>rfl)))
 .exact .of (v:=c_is_outcome) rfl rfl (.ret (g1 (x:=.int i) (.ixt (j:=0) (.r rf) (.r rf) rfl) (gp λ_=>rfl)))
def Zd1{y z:Ot D}(I:Rs m rs)(K:m<=1000)(H:Vs m vs)(O:s.length<=j)(g:Grw s st)(h:st[j]?=aa (ac,acc))(N:acc.length < 900){x0:Ot D}:match mv rs k vs with
  |.inl o=>∃ st',Kj j st st'/\ex (rT (n+5)) ZI [aa (pgD tk m rs),x0,x2,aa (stD k vs),jL j,y,z] st=aa (.rt (.tup (acc++[o])),st')
  |.inr p=>∃ st',Kj j st st'/\st'[j]?=aa (ac,acc++[stD p.1 p.2])/\ex (rT (n+5)) ZI [aa (pgD tk m rs),x0,x2,aa (stD k vs),jL j,y,z] st=aa (.nx [aa (pgD tk m rs),x0,x2,aa (stD p.1 p.2),jL j,y,aa (stD p.1 p.2)],st'):=by
 obtain⟨s1,M,w⟩:=Y.call (F:=rT (n+5)) (s:=s) (a:=.aC (.v 0) (.u (.v 3))) (U:=[aa (pgD tk m rs),x0,x2,aa (stD k vs),jL j,y,z]) (xs:=[pgD tk m rs,stD k vs]) (ds:=[]) (.r rf) (Zcv I K H) st g;obtain⟨b,L,G,l⟩:=Ap.app (F:=rT (n+5)) (s:=s) (j:=j) (i:=4) (e:=.v 6) (U:=[aa (pgD tk m rs),x0,x2,aa (stD k vs),jL j,y,aa (mvD rs k vs)]) (d:=mvD rs k vs) rfl (.r rf) s1 acc (g.trans w) (w.get h) (by show _+1<=900;omega)
 have pre:∀ {r},ex (rT (n+5)) (.seq (.ite (.call 11 (.u (.v 6)) []) (.z (.ret (.tOf (.v 4)))) .skip) (.z (.set 3 (.v 6)))) [aa (pgD tk m rs),x0,x2,aa (stD k vs),jL j,y,aa (mvD rs k vs)] b=r->ex (rT (n+5)) ZI [aa (pgD tk m rs),x0,x2,aa (stD k vs),jL j,y,z] st=r:=λh=>(Zc (Zk M)).trans ((Zc L).trans h)
 have C:=w.kj.trans G;cases q:mv rs k vs with
 |inl o=>
  have A:mvD rs k vs=o:=by unfold mvD;rw[q]
  rw[A]at l pre;obtain⟨_,E,J⟩:=Zfw q;obtain⟨t,B,c⟩:=Y.call1 (F:=rT (n+5)) (s:=b) (f:=11) (a:=.v 6) (x:=o) (U:=[aa (pgD tk m rs),x0,x2,aa (stD k vs),jL j,y,aa o]) (.r rf) (Zea (n:=n+4) (.inl ⟨_,E,J,rfl⟩)) b .refl;exact⟨t,C.trans c.kj,pre (Zj ((Z1 B).trans (Zj (ZK (Ym rfl (c.get l))))))⟩
 |inr p=>
  have A:mvD rs k vs=stD p.1 p.2:=by unfold mvD;rw[q]
  rw[A]at l pre;obtain⟨t,B,c⟩:=Y.call1 (F:=rT (n+5)) (s:=b) (f:=11) (a:=.v 6) (x:=stD p.1 p.2) (U:=[aa (pgD tk m rs),x0,x2,aa (stD k vs),jL j,y,aa (stD p.1 p.2)]) (.r rf) (Zea (n:=n+4) (.inr ⟨_,_,rfl,rfl⟩)) b .refl;exact⟨t,C.trans c.kj,c.get l,pre ((Zc ((Y3 B).trans Zh)).trans ((Zc (Zk rfl)).trans Zh))⟩
theorem Jp(E:Rs m rs)(H:m<=1000)(G:s.length<=j){x0 x2:Ot D}:∀ (M a k:Nat) (vs:Li Int) (acc:Li D) (st:Za) (y z:Ot D),Vs m vs->Grw s st->st[j]?=aa (ac,acc)->acc.length+M<=900->
  (∃ l b c x w st',Vs m b/\tl rs M k vs=c++[enD rs l]/\Zi (λd U s=>ex (rT (n+5)) ZI (Zf U 5 d) s) ((List.range' a M).map λ(k:Nat)=>D.int (k:Int)) [aa (pgD tk m rs),x0,x2,aa (stD k vs),jL j,y,z] st=aa (.nx [aa (pgD tk m rs),x0,x2,aa (stD l b),jL j,x,w],st')/\Kj j st st'/\st'[j]?=aa (ac,acc++c)) \/
  (∃ st',Zi (λd U s=>ex (rT (n+5)) ZI (Zf U 5 d) s) ((List.range' a M).map λ(k:Nat)=>D.int (k:Int)) [aa (pgD tk m rs),x0,x2,aa (stD k vs),jL j,y,z] st=aa (.rt (.tup (acc++tl rs M k vs)),st')/\Kj j st st')
 |0,a,k,vs,acc,st,y,z,t,g,h,_=>.inl ⟨k,vs,[],y,z,st,t,rfl,rfl,Grw.refl.kj,by rw[bD];exact h⟩
 |M+1,a,k,vs,acc,st,y,z,t,g,h,N=>by
  have i:=Zd1 (n:=n) (tk:=tk) (k:=k) (y:=jN a) (z:=z) (x0:=x0) (x2:=x2) E H t G g h (by omega)
  rw[dN,aQ];have C:∀ {r},ex (rT (n+5)) ZI [aa (pgD tk m rs),x0,x2,aa (stD k vs),jL j,jN a,z] st=r->Zi (λd U s=>ex (rT (n+5)) ZI (Zf U 5 d) s) (D.int (a:Int) :: (List.range' (a+1) M).map λ(k:Nat)=>D.int (k:Int)) [aa (pgD tk m rs),x0,x2,aa (stD k vs),jL j,y,z] st=match r with
    |some (.nx U',st')=>Zi (λd U s=>ex (rT (n+5)) ZI (Zf U 5 d) s) ((List.range' (a+1) M).map λ(k:Nat)=>D.int (k:Int)) U' st'
    |some (.ct U',st')=>Zi (λd U s=>ex (rT (n+5)) ZI (Zf U 5 d) s) ((List.range' (a+1) M).map λ(k:Nat)=>D.int (k:Int)) U' st'
    |some (.bk U',st')=>aa (.nx U',st')
    |some (.rt v,st')=>aa (.rt v,st')
    |none=>ab:=λ{r} e=>by rw[<-e];rfl
  unfold tl;cases q:mv rs k vs with
  |inl o=>
   rw[q]at i;obtain⟨st',f,u⟩:=i;exact .inr ⟨st',C u,f⟩
  |inr p=>
   rw[q]at i;obtain⟨st1,f,L,u⟩:=i;have F:(acc++[stD p.1 p.2]).length+M<=900:=by rw[aI];show _+1+M<=900;omega
   rcases Jp E H G M (a+1) p.1 p.2 _ st1 (jN a) (aa (stD p.1 p.2)) (Zer t E q) (f.grw G g) L F with⟨l,b,c,x,w,st',K,J,B,A,I⟩|⟨st',B,A⟩
   .exact .inl ⟨l,b,stD p.1 p.2 :: c,x,w,st',K,by show stD p.1 p.2 :: tl rs M p.1 p.2=_;rw[J];rfl,(C u).trans B,f.trans A,by rw[I,bB];rfl⟩
   .exact .inr ⟨st',(C u).trans (B.trans (by rw[bB];rfl)),f.trans A⟩
def Vf(V:Rs m rs)(I:m<=1000)(K:ins.length<=m)(T:∀ v∈ins,Sm v)(hL:L<=800):C (rT (n+6)) s 12 [pgD tk m rs,.tup (inZ ins),.int (L:Int)] (.tup (stD 0 (v0 m ins) :: tl rs L 0 (v0 m ins))):=λst g=>by
 have S:=ZeG K T;obtain⟨s1,O,x⟩:=Y.call (F:=rT (n+5)) (s:=s) (f:=6) (a:=.aC (.v 0) (.u (.v 1))) (U:=[aa (pgD tk m rs),aa (.tup (inZ ins)),jN L,ab,ab,ab,ab]) (xs:=[pgD tk m rs,.tup (inZ ins)]) (ds:=[]) (.r rf) (Zco K I) st g;have H:ex (rT (n+5)) (.set 4 (.lstE (.u (.v 3)))) [aa (pgD tk m rs),aa (.tup (inZ ins)),jN L,aa (stD 0 (v0 m ins)),ab,ab,ab] s1=aa (.nx [aa (pgD tk m rs),aa (.tup (inZ ins)),jN L,aa (stD 0 (v0 m ins)),jL s1.length,ab,ab],s1++[(ac,[stD 0 (v0 m ins)])]):=Zk rfl
 have g2:Grw s (s1++[(ac,[stD 0 (v0 m ins)])]):=(g.trans x).trans .push;have N:Grw st (s1++[(ac,[stD 0 (v0 m ins)])]):=x.trans .push;have fr:=Xw (F:=rT (n+5)) (i:=5) (e:=.v 2) (q:=ZI) (U:=[aa (pgD tk m rs),aa (.tup (inZ ins)),jN L,aa (stD 0 (v0 m ins)),jL s1.length,ab,ab]) (st:=s1++[(ac,[stD 0 (v0 m ins)])]) (v:=(L:Int)) (by omega) (by omega) rfl
 rw[aZ,dM]at fr;have J:s.length<=s1.length:=aM g.len x.len;have o:st.length<=s1.length:=x.len;rcases Jp (n:=n) (tk:=tk) (x0:=aa (.tup (inZ ins))) (x2:=jN L) V I J L 0 0 (v0 m ins) [stD 0 (v0 m ins)] _ ab ab S g2 Zp (by show 1+L<=900;omega) with⟨h,b,l,B,A,z,w1,E,y,w,P⟩|⟨z,y,w⟩
 .obtain⟨G,e4,Q,W⟩:=Ap.app (F:=rT (n+5)) (s:=s) (j:=s1.length) (i:=4) (e:=.ife (.call 7 (.aC (.v 0) (.u (.v 3))) []) (.tupE (.u (.t "none"))) (.tupE (.u (.t "late")))) (U:=[aa (pgD tk m rs),aa (.tup (inZ ins)),jN L,aa (stD h b),jL s1.length,B,A]) (d:=enD rs h) rfl (.ife (.call (xs:=[pgD tk m rs,stD h b]) (.r rf) (Zd9 (n:=n+4))) (by
   unfold enD;by_cases c:rs.length<=h
   .rw[am c,aK c];exact .r rf
   .rw[ao c,aG c];exact .r rf)) z _ (w.grw J g2) P (by
    have:l.length<=L:=by
     have Z:=ar List.length E;rw[aI]at Z;have X:∀ {M k:Nat}{vs:Li Int},(tl rs M k vs).length<=M+1:=λ{M}=>by
      induction M with
      |zero=>intro k vs;exact aD _
      |succ M R=>
       intro k vs;unfold tl;split
       .show 1<=_;omega
       .rename_i p _;have:=R (k:=p.1) (vs:=p.2);rw[aP];omega
     have:=X (M:=L) (k:=0) (vs:=v0 m ins);have h3:([enD rs h]:Li D).length=1:=rfl;omega
    rw[aI];show 1+l.length+1<=900;omega)
  refine⟨G,XS (v:=c_trail) rfl rfl ((Zc (Zk O)).trans ((Zc H).trans ((Zc (fr.trans y)).trans ((Zc e4).trans (Zj (ZK ?_)))))),(w.trans Q).grw o N⟩;have:=Ym (F:=rT (n+5)) (e:=.v 4) (U:=[aa (pgD tk m rs),aa (.tup (inZ ins)),jN L,aa (stD h b),jL s1.length,B,A]) (st:=G) rfl W;rw[this,E];rfl
 .exact⟨z,XS (v:=c_trail) rfl rfl ((Zc (Zk O)).trans ((Zc H).trans (Zj (fr.trans y)))),w.grw o N⟩
section
variable{l:Li Nat}
def Zb9:tl rs n k vs≠[]:=by
 cases n with
 |zero=>exact cL _ _
 |succ n=>unfold tl;split<;>exact cL _ _
theorem VJ:∀ {n k:Nat}{vs:Li Int},(tl rs n k vs).getLastD .non=oc rs n k vs
 |0,k,vs=>rfl
 |n+1,k,vs=>by
  unfold tl oc;cases q:mv rs k vs with
  |inl o=>rfl
  |inr p=>
   show(stD p.1 p.2 :: tl rs n p.1 p.2).getLastD .non=oc rs n p.1 p.2;rw[<-VJ (n:=n)];cases h:tl rs n p.1 p.2 with
   |nil=>exact aq h Zb9
   |cons z a=>rfl
def QF(h:xs≠[])(a:xs.length<=100000):atD xs (-1)=aa (xs.getLastD .non):=by
 have b:0 < xs.length:=dD.mpr h;unfold atD ixN;rw[ao (by decide),am (by omega),Ob,show(-1+(xs.length:Int)).toNat=xs.length - 1 by omega,<-List.getLast?_eq_getElem?,List.getLastD_eq_getLast?]
 cases q:xs.getLast? with
 |none=>exact aq (List.getLast?_eq_none_iff.mp q) h
 |some z=>rfl
def Y.lastT(c:Y F s a U (.tup xs))(h:xs≠[])(b:xs.length<=100000):Y F s (.ix a (.neg (.i 1))) U (xs.getLastD .non):=g2 (y:=.int (-1)) c (.r rf) (gp λst=>by
 show ixR (.tup xs) (.int (-1)) st=_;unfold ixR ixD;simp only[QF h b])
theorem WK:∀ {M k:Nat}{vs:Li Int},(tl rs M k vs).length<=M+1
 |0,k,vs=>aD _
 |M+1,k,vs=>by
  unfold tl;split
  .show 1<=_;omega
  .rename_i p _;have:=WK (M:=M) (k:=p.1) (vs:=p.2);rw[aP];omega
end
section
variable{l:Li Nat}
theorem Uk{I:Nat->Env->Prop}{body:D->Env->Za->Ot (Fl×Za)}:∀ {xs:Li D} (a:Nat) (U:Env) (st1:Za),(∀ i d U b,xs[i]?=aa d->I (a+i) U->Grw st1 b->∃ U' c,body d U b=aa (.nx U',c)/\Grw b c/\I (a+i+1) U')->I a U->∃ U' b,Zi body xs U st1=aa (.nx U',b)/\Grw st1 b/\I (a+xs.length) U'
 |[],a,U,st1,_,h=>⟨U,st1,rfl,.refl,h⟩
 |x :: xs,a,U,st1,k,h=>by
  obtain⟨f,m,r,j,t⟩:=k 0 x U st1 rfl h .refl;obtain⟨e,l,q,n,s⟩:=Uk (xs:=xs) (a+1) f m (λi d U b p o g=>by
   have:=k (i+1) d U b p (by rw[show a+(i+1)=a+1+i by omega];exact o) (j.trans g)
   rw[show a+(i+1)+1=a+1+i+1 by omega]at this
   exact this) t
  refine⟨e,l,?_,j.trans n,by rw[aP,show a+(xs.length+1)=a+1+xs.length by omega];exact s⟩
  show(match body x U st1 with
   |some (.nx U',st')=>Zi body xs U' st'
   |some (.ct U',st')=>Zi body xs U' st'
   |some (.bk U',st')=>aa (.nx U',st')
   |some (.rt v,st')=>aa (.rt v,st')
   |none=>ab)=_
  rw[r];exact q
def Xv{bb:Bool}(a:ev F e U st=aa (.lst j,st1))(h:st1[j]?=aa (bb,xs)):ex F (.for1 i ae e q) U st=Zt (λd U s=>ex F q (Zf U i d) s) j xs.length 0 U st1:=by
 show Wo i ae (ev F e) (ex F q) U st=_;unfold Wo;rw[a];show(match st1[j]? with
  |some (_,xs)=>Zt (λd U s=>ex F q (Zf U i d) s) j xs.length 0 U st1
  |none=>ab)=_
 rw[h]
def for_tup(a:ev F e U st=aa (.tup xs,st1)):ex F (.for1 i ae e q) U st=Zi (λd U s=>ex F q (Zf U i d) s) xs U st1:=by
 show Wo i ae (ev F e) (ex F q) U st=_;unfold Wo;rw[a];rfl
def Qt(t:k<=60):C (rT (n+1)) s 43 [.int (k:Int)] (.int ((2 ^ k:Nat):Int)):=λst g=>by
 obtain⟨U',j,f,m,y,rfl⟩:=Uk (st1:=st) (I:=λi U=>∃ y,U=[jN k,aa (.int ((2 ^ i:Nat):Int)),y]) (body:=λd U s=>ex (rT n) Xj (Zf U 2 d) s) (xs:=(ag k).map λ(k:Nat)=>D.int (k:Int)) 0 [jN k,aa (.int ((2 ^ 0:Nat):Int)),ab] (λi d U c u o g2=>by
  obtain⟨y,rfl⟩:=o;obtain⟨h,p,l⟩:=Y.mul (F:=rT n) (s:=c) (a:=.v 1) (b:=.i 2) (U:=[jN k,aa (.int ((2 ^ (0+i):Nat):Int)),aa d]) (.r rf) (.r rf) rfl c .refl;refine⟨_,h,(Zc (Zk p)).trans Zh,l,aa d,?_⟩;rw[show((2 ^ (0+i+1):Nat):Int)=((2 ^ (0+i):Nat):Int) * 2 by rw[Nat.pow_succ,dR];rfl]
  rfl) ⟨ab,rfl⟩
 have fr:=Xw (F:=rT n) (i:=2) (e:=.v 0) (q:=Xj) (U:=[jN k,aa (.int ((2 ^ 0:Nat):Int)),ab]) (st:=st) (v:=(k:Int)) (by omega) (by omega) rfl
 rw[aZ]at fr;rw[aB,bK,bF]at f;exact⟨j,XS (v:=c_bit_of) rfl rfl ((Zc (Zk rfl)).trans ((Zc (fr.trans f)).trans (Zj (ZK rfl)))),m⟩
end
def nxt(l:Li Str)(g:Str):Str:=l.getD ((l.idxOf g+1) % l.length) (S "")
def cnt(g:Str):Str:=if g=S "<" then S ">=" else if g=S ">=" then S "<" else if g=S "<=" then S ">" else if g=S ">" then S "<=" else if g=S "=" then S "!=" else S "="
def Xz:Op->Li Op
 |.nu v=>[.nu (arI (v+1))]
 |.nm _=>[]
def sgR:Rw->Li Rw
 |.put x y g z=>[.put x y (nxt psL g) z]
 |.ifr y g z t=>[.ifr y (nxt isL g) z t]
 |_=>[]
def moR:Rw->Li Rw
 |.put x y g z=>(Xz y).map (λq=>.put x q g z)++(Xz z).map (λq=>.put x y g q)
 |.ifr y g z t=>(Xz y).map (λq=>.ifr q g z t)++(Xz z).map (λq=>.ifr y g q t)
 |.tell y=>(Xz y).map .tell
 |_=>[]
def tuR:Rw->Li Rw
 |.ifr y g z t=>[.ifr y (cnt g) z t]
 |_=>[]
def ouR:Rw->Li Rw
 |.skip=>[]
 |_=>[.skip]
def swR:Rw->Li Rw
 |.put x y g z=>if y=z then [] else [.put x z g y]
 |.ifr y g z t=>if y=z then [] else [.ifr z g y t]
 |_=>[]
def faR(sz:Nat):Rw->Li Rw
 |.ifr y g z t=>if sz<=t then [] else [.ifr y g z (t+1)]
 |.go t=>if sz<=t then [] else [.go (t+1)]
 |_=>[]
variable{z:Op}{obj:D}
def Zgp(h:(xs=[.kt psL,.str g]/\g∈psL/\d=.str (nxt psL g))\/(xs=[.kt isL,.str g]/\g∈isL/\d=.str (nxt isL g))):C (rT (n+1)) s 70 xs d:=by
 rcases h with⟨rfl,h,rfl⟩|⟨rfl,h,rfl⟩
 .simp only[psL,aF,aV,or_false]at h
  rcases h with rfl|rfl|rfl|rfl|rfl<;>exact .of (v:=c_behind) rfl rfl (.ret (.r λst=>by rfl))
 .simp only[isL,aF,aV,or_false]at h
  rcases h with rfl|rfl|rfl|rfl|rfl|rfl<;>exact .of (v:=c_behind) rfl rfl (.ret (.r λst=>by rfl))
def Zh1(h:ZC m sz r):C (rT (n+2)) s 171 [obj,rwE r,.int (sz:Int)] (.tup ((sgR r).map rwE)):=by
 cases r with
 |put x y g z=>
  obtain⟨_,_,a,_⟩:=h;exact .of (v:=c_Sign_turned) rfl rfl (.yes (.r rf) (.cons (.call (xs:=[rwE (.put x y g z),.int ((3:Nat):Int),.str (nxt psL g)]) (.cons (.r rf) (.cons (.r rf) (.cons (.call (xs:=[.kt psL,.str g]) (.r rf) (Zgp (.inl ⟨rfl,a,rfl⟩))) .nil))) (Yo (i:=3) (by show 3 < 5;decide) (by show 5<=1000;decide))) .nil))
 |ifr y g z t=>
  obtain⟨_,a,_,_⟩:=h;exact .of (v:=c_Sign_turned) rfl rfl (.no (.r rf) (.yes (.r rf) (.cons (.call (xs:=[rwE (.ifr y g z t),.int ((2:Nat):Int),.str (nxt isL g)]) (.cons (.r rf) (.cons (.r rf) (.cons (.call (xs:=[.kt isL,.str g]) (.r rf) (Zgp (.inr ⟨rfl,a,rfl⟩))) .nil))) (Yo (i:=2) (by show 2 < 5;decide) (by show 5<=1000;decide))) .nil)))
 |go t=>exact .of (v:=c_Sign_turned) rfl rfl (.no (.r rf) (.no (.r rf) (.ret (.r rf))))
 |tell y=>exact .of (v:=c_Sign_turned) rfl rfl (.no (.r rf) (.no (.r rf) (.ret (.r rf))))
 |skip=>exact .of (v:=c_Sign_turned) rfl rfl (.no (.r rf) (.no (.r rf) (.ret (.r rf))))
def Zh3(h:ZC m sz r):C (rT (n+2)) s 159 [obj,rwE r,.int (sz:Int)] (.tup ((tuR r).map rwE)):=by
 cases r with
 |ifr y g z t=>
  obtain⟨_,a,_,_⟩:=h;refine .of (v:=c_Turn_turned) rfl rfl (.no (.r rf) (.ret (.cons (.call (xs:=[rwE (.ifr y g z t),.int ((2:Nat):Int),.str (cnt g)]) (.cons (.r rf) (.cons (.r rf) (.cons ?_ .nil))) (Yo (i:=2) (by show 2 < 5;decide) (by show 5<=1000;decide))) .nil)))
  simp only[isL,aF,aV,or_false]at a;rcases a with rfl|rfl|rfl|rfl|rfl|rfl<;>exact .r λst=>rfl
 |put x y g z=>exact .of (v:=c_Turn_turned) rfl rfl (.yes (.r rf) (.r rf))
 |go t=>exact .of (v:=c_Turn_turned) rfl rfl (.yes (.r rf) (.r rf))
 |tell y=>exact .of (v:=c_Turn_turned) rfl rfl (.yes (.r rf) (.r rf))
 |skip=>exact .of (v:=c_Turn_turned) rfl rfl (.yes (.r rf) (.r rf))
def Zh0:C (rT (n+1)) s 154 [obj,rwE r,.int (sz:Int)] (.tup ((ouR r).map rwE)):=by
 cases r with
 |skip=>exact .of (v:=c_Out_turned) rfl rfl (.yes (.r rf) (.r rf))
 |put x y g z=>exact .of (v:=c_Out_turned) rfl rfl (.no (.r rf) (.ret (.r rf)))
 |ifr y g z t=>exact .of (v:=c_Out_turned) rfl rfl (.no (.r rf) (.ret (.r rf)))
 |go t=>exact .of (v:=c_Out_turned) rfl rfl (.no (.r rf) (.ret (.r rf)))
 |tell y=>exact .of (v:=c_Out_turned) rfl rfl (.no (.r rf) (.ret (.r rf)))
def op_eq:eqS st (opE o) (opE z)=aa (aj (o=z)):=by
 cases o with
 |nm i=>cases z with
  |nm j=>
   show aa (aj (S "name"=S "name")&&(aj ((i:Int)=(j:Int))&&ac))=_;rw[aK rfl,dC,Bool.and_true];exact ar aa (decide_eq_decide.mpr ⟨λh=>by rw[Int.ofNat_inj.mp h],λh=>by cases h;rfl⟩)
  |nu v=>
   show aa (aj (S "name"=S "number")&&(aj ((i:Int)=v)&&ac))=_;rw[show aj (S "name"=S "number")=ae by decide +kernel]
   exact ar aa (aG λh=>nomatch h).symm
 |nu u=>cases z with
  |nm j=>
   show aa (aj (S "number"=S "name")&&(aj (u=(j:Int))&&ac))=_;rw[show aj (S "number"=S "name")=ae by decide +kernel]
   exact ar aa (aG λh=>nomatch h).symm
  |nu v=>
   show aa (aj (S "number"=S "number")&&(aj (u=v)&&ac))=_;rw[aK rfl,dC,Bool.and_true];exact ar aa (decide_eq_decide.mpr ⟨λh=>by rw[h],λh=>by cases h;rfl⟩)
def Y.neO(d:Y F s a U (opE o))(c:Y F s b U (opE z)):Y F s (.cmp .NotEq a b) U (.bl (!decide (o=z))):=.cmp d c λst=>by
 show(eqS st (opE o) (opE z)).map Bool.not=_;rw[op_eq];rfl
def Zh2:C (rT (n+1)) s 162 [obj,rwE r,.int (sz:Int)] (.tup ((swR r).map rwE)):=by
 cases r with
 |put x y g z=>
  refine .of (v:=c_Swap_turned) rfl rfl (.pick (k:=ac&&!decide (y=z)) (.and (.r rf) λ_=>.neO (.r rf) (.r rf)) (λh=>?_) λh=>.no (.r rf) ?_)
  .have:¬y=z:=λe=>by rw[aK e]at h;cases h
   show R _ _ _ _ (.tup ((if y=z then [] else [Rw.put x z g y]).map rwE))
   rw[ao this];exact .ret (.r rf)
  .have:y=z:=by
    by_cases e:y=z
    .exact e
    .rw[aG e]at h;cases h
   show R _ _ _ _ (.tup ((if y=z then [] else [Rw.put x z g y]).map rwE))
   rw[am this];exact .ret (.r rf)
 |ifr y g z t=>
  refine .of (v:=c_Swap_turned) rfl rfl (.no (.r rf) (.pick (k:=ac&&!decide (y=z)) (.and (.r rf) λ_=>.neO (.r rf) (.r rf)) (λh=>?_) λh=>?_))
  .have:¬y=z:=λe=>by rw[aK e]at h;cases h
   show R _ _ _ _ (.tup ((if y=z then [] else [Rw.ifr z g y t]).map rwE))
   rw[ao this];exact .ret (.r rf)
  .have:y=z:=by
    by_cases e:y=z
    .exact e
    .rw[aG e]at h;cases h
   show R _ _ _ _ (.tup ((if y=z then [] else [Rw.ifr z g y t]).map rwE))
   rw[am this];exact .ret (.r rf)
 |go t=>exact .of (v:=c_Swap_turned) rfl rfl (.no (.r rf) (.no (.r rf) (.ret (.r rf))))
 |tell y=>exact .of (v:=c_Swap_turned) rfl rfl (.no (.r rf) (.no (.r rf) (.ret (.r rf))))
 |skip=>exact .of (v:=c_Swap_turned) rfl rfl (.no (.r rf) (.no (.r rf) (.ret (.r rf))))
def ZhY:C (rT (n+1)) s 165 [obj,rwE r,.int (sz:Int)] (.tup ((faR sz r).map rwE)):=by
 have a:∀ {t:Nat},aj ((sz:Int)<=(t:Int))=aj (sz<=t):=λ{t}=>decide_eq_decide.mpr (by omega)
 cases r with
 |go t=>
  refine .of (v:=c_Far_turned) rfl rfl (.pick (k:=ae||aj (sz<=t)) (.or (.r rf) λ_=>.cmp (x:=.int (t:Int)) (.r rf) (.r rf) λ_=>ar aa a) (λh=>?_) λh=>?_)
  .show R _ _ _ _ (.tup ((if sz<=t then [] else [Rw.go (t+1)]).map rwE))
   rw[am (al h)];exact .ret (.r rf)
  .show R _ _ _ _ (.tup ((if sz<=t then [] else [Rw.go (t+1)]).map rwE))
   rw[ao (ak h)];exact .ret (.cons (.adT (xs:=[.str "go"]) (ys:=[.int ((t+1:Nat):Int)]) (.r rf) (.cons (by rw[bC];exact .add (i:=(t:Int)) (.r rf) (.r rf)) .nil) (by show 1+1<=_;decide)) .nil)
 |ifr y g z t=>
  refine .of (v:=c_Far_turned) rfl rfl (.pick (k:=ae||aj (sz<=t)) (.or (.r rf) λ_=>.cmp (x:=.int (t:Int)) (.r rf) (.r rf) λ_=>ar aa a) (λh=>?_) λh=>?_)
  .show R _ _ _ _ (.tup ((if sz<=t then [] else [Rw.ifr y g z (t+1)]).map rwE))
   rw[am (al h)];exact .ret (.r rf)
  .show R _ _ _ _ (.tup ((if sz<=t then [] else [Rw.ifr y g z (t+1)]).map rwE))
   rw[ao (ak h)];exact .ret (.cons (.adT (xs:=[.str "if",opE y,.str g,opE z]) (ys:=[.int ((t+1:Nat):Int)]) (.r rf) (.cons (by rw[bC];exact .add (i:=(t:Int)) (.r rf) (.r rf)) .nil) (by show 4+1<=_;decide)) .nil)
 |put x y g z=>exact .of (v:=c_Far_turned) rfl rfl (.yes (.or (k:=ac) (m:=ae) (.r rf) λh=>nomatch h) (.r rf))
 |tell y=>exact .of (v:=c_Far_turned) rfl rfl (.yes (.or (k:=ac) (m:=ae) (.r rf) λh=>nomatch h) (.r rf))
 |skip=>exact .of (v:=c_Far_turned) rfl rfl (.yes (.or (k:=ac) (m:=ae) (.r rf) λh=>nomatch h) (.r rf))
variable{i0:Nat}
section
variable{g0:Str}
theorem ZgH{α:Type}{b:α->D}{g:α->Li D}{E:Ot D->Env}(n:∀ y d,Zf (E y) i d=E (aa d))(m:s.length<=j):∀ {l:Li α},(∀ a∈l,Ap F s j q (E (aa (b a))) (E (aa (b a))) (g a))->∀ {y:Ot D}{st:Za}{acc:Li D},Grw s st->st[j]?=aa (ac,acc)->acc.length+(l.flatMap g).length<=900->∃ e st',Zi (λd U s=>ex F q (Zf U i d) s) (l.map b) (E y) st=aa (.nx (E e),st')/\Kj j st st'/\st'[j]?=aa (ac,acc++l.flatMap g)
 |[],_,y,st,acc,k,f,_=>⟨y,st,rfl,Grw.refl.kj,by rw[List.flatMap_nil,bD];exact f⟩
 |a :: l,h,y,st,acc,k,f,t=>by
  rw[bU,aI]at t;obtain⟨s1,x,g1,r⟩:=h a Ls st acc k f (by omega)
  obtain⟨e,o,w,g2,p⟩:=ZgH n m (λc u=>h c (Lm _ u)) (y:=aa (b a)) (g1.grw m k) r (by rw[aI];omega)
  refine⟨e,o,?_,g1.trans g2,by rw[bU,<-bB];exact p⟩
  rw[aQ];show(match ex F q (Zf (E y) i (b a)) st with
   |some (.nx U',st')=>Zi _ (l.map b) U' st'
   |some (.ct U',st')=>Zi _ (l.map b) U' st'
   |some (.bk U',st')=>aa (.nx U',st')
   |some (.rt v,st')=>aa (.rt v,st')
   |none=>ab)=_
  rw[n,x];exact w
theorem ZeY{α:Type}{en:α->D}{g:α->Li D}{E:Ot D->Env}{la:Nat}{bb:Bool}{all:Li α}(n:∀ y d,Zf (E y) i d=E (aa d))(m:s.length<=j)(l:la≠j)(h:∀ a∈all,Ap F s j q (E (aa (en a))) (E (aa (en a))) (g a)):∀ (M t:Nat) {y:Ot D}{st:Za}{acc:Li D},t+M=all.length->Grw s st->st[la]?=aa (bb,all.map en)->st[j]?=aa (ac,acc)->acc.length+((all.drop t).flatMap g).length<=900->∃ e st',Zt (λd U s=>ex F q (Zf U i d) s) la M t (E y) st=aa (.nx (E e),st')/\Kj j st st'/\st'[j]?=aa (ac,acc++(all.drop t).flatMap g)
 |0,t,y,st,acc,v,k,b,f,_=>⟨y,st,by unfold Zt;rw[b];exact am (by rw[aB];omega),Grw.refl.kj,by rw[dA (by omega),List.flatMap_nil,bD];exact f⟩
 |M+1,t,y,st,acc,v,k,b,f,w=>by
  have c:t < all.length:=by omega
  rw[bQ c,bU,aI]at w;obtain⟨s1,z,g1,r⟩:=h _ (cI c) st acc k f (by omega)
  obtain⟨e,o,x,g2,p⟩:=ZeY n m l h M (t+1) (y:=aa (en all[t])) (by omega) (g1.grw m k) ((g1.old _ (Zv b) l).trans b) r (by rw[aI];omega)
  refine⟨e,o,?_,g1.trans g2,by rw[bQ c,bU,<-bB];exact p⟩
  conv=>lhs;unfold Zt
  have u:(all.map en)[t]?=aa (en all[t]):=by rw[aU,Lg c];rfl
  simp only[b,u,n,z];exact x
def Zh8{u v:α->D}{g:α->Li D}{E:Ot D->Ot D->Ot D->Env}{i':Nat}(H:∀ y z w u v,Zf (Zf (E y z w) i u) i' v=E (aa u) (aa v) w)(C:s.length<=j){l:Li α}:(∀ a∈l,∀ w st acc,Grw s st->st[j]?=aa (ac,acc)->acc.length+(g a).length<=900->∃ U' st',(∃ y z w,U'=E y z w)/\ex F q (E (aa (u a)) (aa (v a)) w) st=aa (.nx U',st')/\Kj j st st'/\st'[j]?=aa (ac,acc++g a))->∀ {y z w:Ot D}{st:Za}{acc:Li D},Grw s st->st[j]?=aa (ac,acc)->acc.length+(l.flatMap g).length<=900->∃ d b e st',Z5 (λ_=>True) (λx y U S=>ex F q (Zf (Zf U i x) i' y) S) (l.map λa=>(u a,v a)) (E y z w) st=aa (.nx (E d b e),st')/\Kj j st st'/\st'[j]?=aa (ac,acc++l.flatMap g):=by
 induction l with
 |nil=>intro _ y z w st acc k f _;exact⟨y,z,w,st,am trivial,Grw.refl.kj,by rw[List.flatMap_nil,bD];exact f⟩
 |cons a l A=>
  intro h y z w st acc k f B;rw[bU,aI]at B;obtain⟨_,s1,⟨n,m,o,rfl⟩,J,g1,t⟩:=h a Ls w st acc k f (by omega)
  obtain⟨d,b,e,p,I,g2,r⟩:=A (λc G=>h c (Lm _ G)) (y:=n) (z:=m) (w:=o) (g1.grw C k) t (by rw[aI];omega)
  refine⟨d,b,e,p,?_,g1.trans g2,by rw[bU,<-bB];exact r⟩
  rw[aQ,Z5,am trivial];simp only[H,J];exact I
def Lf(s:Za)(f:Za->Res)(xs:Li D):Prop:=∀ st,Grw s st->∃ st' j,f st=aa (.lst j,st')/\st'[j]?=aa (ac,xs)/\Grw st st'
def Wu{b:D->Li (Ot D)}{en g:α->D}{l:Li α}(n:Wk F s it U wk (l.map en))(m:l.length<=1000)(h:∀ a∈l,Y F s elt (ZM b U fr (en a)) (g a)):Lf s (Ye b wk fr (ev F it) (ev F elt) (ev F (.c (.bl ac))) U) (l.map g):=λst k=>by
 obtain⟨x,s1,ok,r,e,q,j⟩:=n st k;obtain⟨f,p,i⟩:=Vk (s:=s1) (ok:=ok) (fe:=λd=>ev F elt (ZM b U fr d)) (fc:=λd=>ev F (.c (.bl ac)) (ZM b U fr d)) (λ_ _=>rfl) j (λa o=>Gv.mono (h a o) (k.trans e)) s1 .refl
 refine⟨f++[(ac,l.map g)],_,?_,Zp,(e.trans i).trans .push⟩;unfold Ye;simp only[r,q,aB,am m,p]
def Ap.ext(k:U[i]?=aa (jL j))(h:Lf s (ev F e U) xs):Ap F s j (.ext i e) U U xs:=λst acc g f o=>by
 obtain⟨s1,q,n,l,a⟩:=h st g;have b:=a.get f;refine⟨s1.set j (ac,acc++xs),?_,⟨λm d c=>?_,by rw[bH];exact a.len⟩,by rw[X8 (Zv b),am rfl]⟩
 .show ZaK i (ev F e) U st=_
  unfold ZaK Zfb;simp only[k,n,b,l];rw[am (by unfold Zw;omega)]
 .rw[X8 (Zv b),ao (Ne.symm c)]
  exact a.old m d
def R.gather{l:Li α}{en:α->D}{g:α->Li D}{E:Ot D->Nat->Env}(w:∀ j,Zf U i0 (.lst j)=E ab j)(t:∀ y j d,Zf (E y j) i d=E (aa d) j)(n:∀ y j,(E y j)[i0]?=aa (jL j))(p:∀ j,Y F s e (E ab j) (.tup (l.map en)))(r:∀ j,s.length<=j->∀ a∈l,Ap F s j q (E (aa (en a)) j) (E (aa (en a)) j) (g a))(o:(l.flatMap g).length<=900):R F s (.seq (.set i0 (.lstE .aN)) (.seq (.for1 i ae e q) (.z (.ret (.tOf (.v i0)))))) U (.tup (l.flatMap g)):=λst b=>by
 obtain⟨s1,A,f⟩:=p st.length (st++[(ac,[])]) (b.trans .push);obtain⟨B,h,x,m,u⟩:=ZgH (i:=i) (E:=λy=>E y st.length) (λy d=>t y st.length d) b.len (r st.length b.len) (y:=ab) ((b.trans .push).trans f) (f.get Zp) (by rw[cQ,bF];exact o)
 refine⟨h,?_,(f.kj.trans m).grw (aD _) .push⟩;have k:ex F (.set i0 (.lstE .aN)) U st=aa (.nx (E ab st.length),st++[(ac,[])]):=by rw[<-w];exact Zk rfl
 exact(Zc k).trans ((Zc ((for_tup A).trans x)).trans (Zj (ZK (Ym (c:=(ac,[]++l.flatMap g)) (by show YV i0 _ _=_;unfold YV;rw[n]) u))))
def ZhZ(h:ZC m sz r):C (rT (n+2)) s 151 [obj,rwE r,.int (sz:Int)] (.tup ((moR r).map rwE)):=by
 have c:∀ (l:Li (Nat×Li Rw)),(∀ {s:Za},C (rT (n+1)) s 113 [rwE r] (.tup (l.map λp=>D.int (p.1:Int))))->(l.flatMap λp=>p.2.map rwE)=(moR r).map rwE->((moR r).map rwE).length<=900->(∀ p∈l,∀ j,s.length<=j->Ap (rT (n+1)) s j Yc [aa obj,aa (rwE r),jN sz,jL j,jN p.1] [aa obj,aa (rwE r),jN sz,jL j,jN p.1] (p.2.map rwE))->C (rT (n+2)) s 151 [obj,rwE r,.int (sz:Int)] (.tup ((moR r).map rwE)):=λl J I F H=>by
  rw[<-I]at F ⊢;exact .of (v:=c_More_turned) rfl rfl (.gather (i0:=3) (i:=4) (E:=λy j=>[aa obj,aa (rwE r),jN sz,jL j,y]) (en:=λp:Nat×Li Rw=>D.int (p.1:Int)) (g:=λp=>p.2.map rwE) (λ_=>rfl) (λ_ _ _=>rfl) (λ_ _=>rfl) (λj=>.call1 (.r rf) J) (λj A p b=>H p b j A) F)
 have one:∀ {a:Li D}{p j:Nat}{o:Op}{f:Op->Rw},rwE r=.tup a->a.length<=5->a[p]?=aa (opE o)->(∀ q,.tup (a.set p (opE q))=rwE (f q))->Ap (rT (n+1)) s j Yc [aa obj,aa (rwE r),jN sz,jL j,jN p] [aa obj,aa (rwE r),jN sz,jL j,jN p] (((Xz o).map f).map rwE):=λ{a p j o f} L M G K=>by
  rw[L];have B:∀ {s:Za},Y (rT (n+1)) s (.ix (.v 1) (.v 4)) [aa obj,aa (.tup a),jN sz,jL j,jN p] (opE o):=.ixt (j:=p) (.r rf) (.r rf) G;cases o with
  |nm i=>exact .one (.ite (k:=ae) (.cmp (x:=.str "name") (.ixt (j:=0) B (.r rf) rfl) (.r rf) λ_=>rfl) .skip)
  |nu v=>
   refine .one (.ite (k:=ac) (.cmp (x:=.str "number") (.ixt (j:=0) B (.r rf) rfl) (.r rf) λ_=>rfl) (.one (.app rfl ?_)))
   have:=Yo (n:=n) (s:=s) (xs:=a) (i:=p) (d:=opE (.nu (arI (v+1)))) (Zv G) (by omega)
   rw[K]at this;exact .call (xs:=[.tup a,.int (p:Int),opE (.nu (arI (v+1)))]) (.cons (.r rf) (.cons (.r rf) (.cons (.cons (.r rf) (.cons (.call1 (.add (.ixt (j:=1) B (.r rf) rfl) (.r rf)) Yv) .nil)) .nil))) this
 have w:∀ {o:Op},(Xz o).length<=1:=λ{o}=>by cases o with
  |nm i=>exact aO _
  |nu v=>exact aD _
 have u:∀ {s:Za}{l:Li D},(match r with|.put _ _ _ _=>[D.int 2,.int 4]|.ifr _ _ _ _=>[.int 1,.int 3]|.tell _=>[.int 1]|_=>[])=l->C (rT (n+1)) s 113 [rwE r] (.tup l):=λ{s l} e=>by
  rw[<-e];cases r<;>exact .of (v:=c_operand_places) rfl rfl (.ret (.r rf))
 cases r with
 |put x y g z=>
  refine c [(2,(Xz y).map λq=>.put x q g z),(4,(Xz z).map λq=>.put x y g q)] (u rfl) (by show _++(_++[])=List.map rwE (_++_);rw[bD,bT]) (by show(List.map rwE (_++_)).length<=900;rw[aB,aI,aB,aB];have:=w (o:=y);have:=w (o:=z);omega) λp b j A=>?_
  simp only[aF,aV,or_false]at b;rcases b with rfl|rfl
  .exact one (f:=λq=>.put x q g z) rfl (by show 5<=5;decide) rfl λq=>rfl
  .exact one (f:=λq=>.put x y g q) rfl (by show 5<=5;decide) rfl λq=>rfl
 |ifr y g z t=>
  refine c [(1,(Xz y).map λq=>.ifr q g z t),(3,(Xz z).map λq=>.ifr y g q t)] (u rfl) (by show _++(_++[])=List.map rwE (_++_);rw[bD,bT]) (by show(List.map rwE (_++_)).length<=900;rw[aB,aI,aB,aB];have:=w (o:=y);have:=w (o:=z);omega) λp b j A=>?_
  simp only[aF,aV,or_false]at b;rcases b with rfl|rfl
  .exact one (f:=λq=>.ifr q g z t) rfl (by show 5<=5;decide) rfl λq=>rfl
  .exact one (f:=λq=>.ifr y g q t) rfl (by show 5<=5;decide) rfl λq=>rfl
 |tell y=>
  refine c [(1,(Xz y).map .tell)] (u rfl) (by show _++[]=_;rw[bD];rfl) (by show(List.map rwE (List.map _ _)).length<=900;rw[aB,aB];have:=w (o:=y);omega) λp b j A=>?_
  rw[aR.mp b];exact one (f:=.tell) rfl (by show 2<=5;decide) rfl λq=>rfl
 |go t=>exact c [] (u rfl) rfl (aO _) λp b=>nomatch b
 |skip=>exact c [] (u rfl) rfl (aO _) λp b=>nomatch b
end
structure Stp where
 c:Nat
 t:Nat
 v:Nat
 w:Str
 f:Rw->List Rw
def stp(sz:Nat):Li Stp:=[⟨169,171,170,S "sign",sgR⟩,⟨149,151,150,S "more",moR⟩,⟨157,159,158,S "turn",tuR⟩,⟨152,154,153,S "out",ouR⟩,⟨160,162,161,S "swap",swR⟩,⟨163,165,164,S "far",faR sz⟩]
def tD(p:Nat×Str×Rw):D:=.tup [.int (p.1:Int),.str p.2.1,rwE p.2.2]
def fkR(sz k:Nat)(r:Rw):Li (Nat×Str×Rw):=(stp sz).flatMap λp=>(p.f r).map λq=>(k,p.w,q)
def fkL(rs:Li Rw):Li (Nat×Str×Rw):=rs.zipIdx.flatMap λp=>fkR rs.length p.2 p.1
def Y.methO{b:Nat}{tab:Li (Nat×Nat)}(g:Y F s e U (.obj b))(f:tab.lookup b=aa j)(i:Y F s a U (.tup xs))(h:C F s j (.obj b :: xs) d):Y F s (.meth tab e a) U d:=g2 g i λst k=>by
 obtain⟨s1,l,c⟩:=h st k;refine⟨s1,?_,c⟩;show(match tab.lookup b with
  |some j=>F j (.obj b :: xs) st
  |none=>ab)=_
 rw[f];exact l
def Zfs:(moR r).length<=2:=by
 have a:∀ {o:Op},(Xz o).length<=1:=λ{o}=>by
  cases o with
  |nm i=>exact aO _
  |nu v=>exact aD _
 cases r with
 |put x y g z=>show(_++_:Li Rw).length<=2;rw[aI,aB,aB];have:=a (o:=y);have:=a (o:=z);omega
 |ifr y g z t=>show(_++_:Li Rw).length<=2;rw[aI,aB,aB];have:=a (o:=y);have:=a (o:=z);omega
 |tell y=>show(List.map _ _).length<=2;rw[aB];have:=a (o:=y);omega
 |go t=>exact aO _
 |skip=>exact aO _
def Jk{p:Stp}(a:p∈stp sz):(p.f r).length<=2:=by
 simp only[stp,aF,aV,or_false]at a;rcases a with rfl|rfl|rfl|rfl|rfl|rfl
 .cases r<;>first|exact aO _|exact(by decide:1<=2)
 .exact Zfs
 .cases r<;>first|exact aO _|exact(by decide:1<=2)
 .cases r<;>first|exact aO _|exact(by decide:1<=2)
 .cases r with
  |put x y g z=>show(if y=z then [] else [Rw.put x z g y]).length<=2;split<;>first|exact aO _|exact(by decide:1<=2)
  |ifr y g z t=>show(if y=z then [] else [Rw.ifr z g y t]).length<=2;split<;>first|exact aO _|exact(by decide:1<=2)
  |_=>exact aO _
 .cases r with
  |go t=>show(if sz<=t then [] else [Rw.go (t+1)]).length<=2;split<;>first|exact aO _|exact(by decide:1<=2)
  |ifr y g z t=>show(if sz<=t then [] else [Rw.ifr y g z (t+1)]).length<=2;split<;>first|exact aO _|exact(by decide:1<=2)
  |_=>exact aO _
def Ve{p:Stp}(a:p∈stp sz)(h:ZC m sz r):C (rT (n+2)) s p.t [.obj p.c,rwE r,.int (sz:Int)] (.tup ((p.f r).map rwE))/\C (rT (n+2)) s p.v [.obj p.c] (.str p.w)/\List.lookup p.c [(146,148),(169,171),(149,151),(157,159),(152,154),(160,162),(163,165)]=aa p.t/\List.lookup p.c [(146,147),(169,170),(149,150),(157,158),(152,153),(160,161),(163,164)]=aa p.v:=by
 simp only[stp,aF,aV,or_false]at a;rcases a with rfl|rfl|rfl|rfl|rfl|rfl
 .exact⟨Zh1 h,.of (v:=c_Sign_word) rfl rfl (.ret (.r rf)),rfl,rfl⟩
 .exact⟨ZhZ h,.of (v:=c_More_word) rfl rfl (.ret (.r rf)),rfl,rfl⟩
 .exact⟨Zh3 h,.of (v:=c_Turn_word) rfl rfl (.ret (.r rf)),rfl,rfl⟩
 .exact⟨Zh0,.of (v:=c_Out_word) rfl rfl (.ret (.r rf)),rfl,rfl⟩
 .exact⟨Zh2,.of (v:=c_Swap_word) rfl rfl (.ret (.r rf)),rfl,rfl⟩
 .exact⟨ZhY,.of (v:=c_Far_word) rfl rfl (.ret (.r rf)),rfl,rfl⟩
def ZgV{e:Nat}{p:Stp}(i:Rs m rs)(d:p∈stp rs.length)(h:ZC m rs.length r):Ap (rT (n+3)) s j XJ [aa (pgD tk m rs),aa (.tup (rs.map rwE)),jL e,jL j,jN k,aa (rwE r),aa (.obj p.c)] [aa (pgD tk m rs),aa (.tup (rs.map rwE)),jL e,jL j,jN k,aa (rwE r),aa (.obj p.c)] (((p.f r).map λq=>(k,p.w,q)).map tD):=by
 refine .one (.ext rfl ?_);rw[bL];refine Wu (b:=one) (en:=rwE) (g:=tD ∘ λq=>(k,p.w,q)) (l:=p.f r) (.of (x:=.tup ((p.f r).map rwE)) (.methO (xs:=[rwE r,.int (rs.length:Int)]) (.r rf) (Ve (n:=n) (s:=s) d h).2.2.1 (.cons (.r rf) (.cons ?_ .nil)) ?_) λst=>rfl) (by have:=Jk (r:=r) d;omega) λq o=>.cons (.r rf) (.cons (.methO (xs:=[]) (.r rf) (Ve (n:=n) (s:=s) d h).2.2.2 (.r rf) ?_) (.cons (.r rf) .nil))
 .have:=Y.lnT (F:=rT (n+3)) (s:=s) (a:=.v 1) (U:=[aa (pgD tk m rs),aa (.tup (rs.map rwE)),jL e,jL j,jN k,aa (rwE r),aa (.obj p.c)]) (xs:=rs.map rwE) (.r rf)
  rw[aB]at this;exact this
 .exact(Ve (n:=n+1) d h).1
 .exact(Ve (n:=n+1) d h).2.1
def Zfc:(fkR sz k r).length<=12:=by
 have h:∀ l:Li Stp,(∀ p∈l,(p.f r).length<=2)->(l.flatMap λp=>(p.f r).map λq=>(k,p.w,q)).length<=2 * l.length:=λl=>by
  induction l with
  |nil=>intro _;exact aD _
  |cons p l a=>
   intro h;rw[bU,aI,aB,aP];have e:=h p Ls;have d:=a λq b=>h q (Lm _ b)
   omega
 exact h (stp sz) λp c=>Jk c
theorem ZaI:∀ {rs:Li Rw}{k:Nat},Xu k (rs.map rwE)=(rs.zipIdx k).map λp=>(D.int (p.2:Int),rwE p.1)
 |[],_=>rfl
 |r :: rs,k=>by
  rw[aQ,Xu,ZaI,List.zipIdx_cons,aQ]
def QN:(fkL rs).length<=12 * rs.length:=by
 have h:∀ {l:Li (Rw×Nat)},(l.flatMap λp=>fkR rs.length p.2 p.1).length<=12 * l.length:=λ{l}=>by
  induction l with
  |nil=>exact aD _
  |cons p l a=>
   rw[bU,aI,aP];have:=Zfc (sz:=rs.length) (k:=p.2) (r:=p.1);omega
 have:=h (l:=rs.zipIdx);rw[List.length_zipIdx]at this;exact this
def Qw(h:Rs m rs):C (rT (n+4)) s 172 [pgD tk m rs] (.tup ((fkL rs).map tD)):=λst g=>by
 have S:=QN (rs:=rs);have R:=h.l;have r:ex (rT (n+3)) (.set 2 (.lstE (.aC (.new 169) (.aC (.new 149) (.aC (.new 157) (.aC (.new 152) (.aC (.new 160) (.u (.new 163))))))))) [aa (pgD tk m rs),aa (.tup (rs.map rwE)),ab,ab,ab,ab,ab] st=aa (.nx [aa (pgD tk m rs),aa (.tup (rs.map rwE)),jL st.length,ab,ab,ab,ab],st++[(ac,(stp rs.length).map λp=>.obj p.c)]):=Zk rfl
 have b:(st++[(ac,(stp rs.length).map λp=>D.obj p.c)])[st.length]?=aa (ac,(stp rs.length).map λp=>.obj p.c):=Zp
 obtain⟨a,d⟩:∃ a,st++[(ac,(stp rs.length).map λp=>D.obj p.c)]=a:=⟨_,rfl⟩
 rw[d]at r b;have g2:Grw st a:=by rw[<-d];exact .push
 have H:ex (rT (n+3)) (.set 3 (.lstE .aN)) [aa (pgD tk m rs),aa (.tup (rs.map rwE)),jL st.length,ab,ab,ab,ab] a=aa (.nx [aa (pgD tk m rs),aa (.tup (rs.map rwE)),jL st.length,jL a.length,ab,ab,ab],a++[(ac,[])]):=Zk rfl;have M:=Zv b;obtain⟨B,A,e,o,Q,J,x⟩:=Zh8 (F:=rT (n+3)) (s:=a) (j:=a.length) (q:=XL) (i:=4) (i':=5) (E:=λy z w=>[aa (pgD tk m rs),aa (.tup (rs.map rwE)),jL st.length,jL a.length,y,z,w]) (u:=λp:Rw×Nat=>D.int (p.2:Int)) (v:=λp=>rwE p.1) (g:=λp=>(fkR rs.length p.2 p.1).map tD) (l:=rs.zipIdx) (λ_ _ _ _ _=>rfl) (aD _) (λp L w st1 acc g1 N k=>by
  have ok:ZC m rs.length p.1:=h.ok _ (List.fst_mem_of_mem_zipIdx L);obtain⟨e,G,P,I,t⟩:=ZeY (F:=rT (n+3)) (s:=a) (j:=a.length) (q:=XJ) (i:=6) (la:=st.length) (bb:=ac) (E:=λw=>[aa (pgD tk m rs),aa (.tup (rs.map rwE)),jL st.length,jL a.length,jN p.2,aa (rwE p.1),w]) (en:=λp:Stp=>D.obj p.c) (g:=λq=>((q.f p.1).map λz=>(p.2,q.w,z)).map tD) (all:=stp rs.length) (λ_ _=>rfl) (aD _) (by omega) (λq K=>ZgV h K ok) 6 0 (y:=w) rfl g1 (g1.get b) N (by rw[bR];rw[show(stp rs.length).flatMap (λq=>((q.f p.1).map λz=>(p.2,q.w,z)).map tD)=(fkR rs.length p.2 p.1).map tD from(cU ..).symm];exact k)
  rw[bR,show(stp rs.length).flatMap (λq=>((q.f p.1).map λz=>(p.2,q.w,z)).map tD)=(fkR rs.length p.2 p.1).map tD from(cU ..).symm]at t
  exact⟨_,G,⟨_,_,e,rfl⟩,(Zc ((Xv (bb:=ac) (xs:=(stp rs.length).map λp=>.obj p.c) rfl (g1.get b)).trans P)).trans Zh,I,t⟩) (y:=ab) (z:=ab) (w:=ab) (.push:Grw a (a++[(ac,[])])) Zp (by rw[cQ,bF,<-cU,aB];show(fkL rs).length<=900;omega)
 rw[cY,<-cU]at x;have O:ex (rT (n+3)) (.forE 4 5 (.v 1) XL) [aa (pgD tk m rs),aa (.tup (rs.map rwE)),jL st.length,jL a.length,ab,ab,ab] (a++[(ac,[])])=aa (.nx [aa (pgD tk m rs),aa (.tup (rs.map rwE)),jL st.length,jL a.length,B,A,e],o):=by
  rw[<-Q,<-ZaI];rfl
 refine⟨o,XS (v:=c_fakes) rfl rfl ((Zc (Zk rfl)).trans ((Zc r).trans ((Zc H).trans ((Zc O).trans (Zj (ZK (Ym (c:=(ac,(fkL rs).map tD)) rfl x))))))),?_⟩;exact g2.trans (J.grw (aD _) .push)
variable{v:Int}
section
variable{q:Rw}
def Zfh(h:Sm v):arI (v+1)≠v:=by
 unfold Sm at h;unfold arI;have:=Zo (v+1+1000000000) (j:=2000000000) (by decide)
 intro e;have a:=Int.mul_ediv_add_emod (v+1+1000000000) 2000000000;generalize (v+1+1000000000) / 2000000000=u at *
 omega
def Wq(h:Xp m o):∀ q∈Xz o,Xp m q/\q≠o:=λq a=>by
 cases o with
 |nm i=>cases a
 |nu v=>
  rw[aR.mp a];exact⟨WV,λe=>Zfh h (by injection e)⟩
def Zgb:(∀ g∈psL,nxt psL g∈psL/\nxt psL g≠g)/\∀ g∈isL,(nxt isL g∈isL/\nxt isL g≠g)/\(cnt g∈isL/\cnt g≠g)/\nxt isL g≠cnt g:=by decide +kernel
def Zgg(h:ZC m sz r){p:Stp}(b:p∈stp sz):∀ q∈p.f r,ZC m sz q:=λq hq=>by
 simp only[stp,aF,aV,or_false]at b;rcases b with rfl|rfl|rfl|rfl|rfl|rfl
 .cases r with
  |put x y g z=>rw[aR.mp hq];exact⟨h.1,h.2.1,(Zgb.1 g h.2.2.1).1,h.2.2.2⟩
  |ifr y g z t=>rw[aR.mp hq];exact⟨h.1,(Zgb.2 g h.2.1).1.1,h.2.2⟩
  |_=>cases hq
 .cases r with
  |put x y g z=>
   rcases bO.mp hq with hq|hq
   .obtain⟨u,a,rfl⟩:=aS.mp hq;exact⟨h.1,(Wq h.2.1 u a).1,h.2.2⟩
   .obtain⟨u,a,rfl⟩:=aS.mp hq;exact⟨h.1,h.2.1,h.2.2.1,(Wq h.2.2.2 u a).1⟩
  |ifr y g z t=>
   rcases bO.mp hq with hq|hq
   .obtain⟨u,a,rfl⟩:=aS.mp hq;exact⟨(Wq h.1 u a).1,h.2⟩
   .obtain⟨u,a,rfl⟩:=aS.mp hq;exact⟨h.1,h.2.1,(Wq h.2.2.1 u a).1,h.2.2.2⟩
  |tell y=>obtain⟨u,a,rfl⟩:=aS.mp hq;exact(Wq h u a).1
  |_=>cases hq
 .cases r with
  |ifr y g z t=>rw[aR.mp hq];exact⟨h.1,(Zgb.2 g h.2.1).2.1.1,h.2.2⟩
  |_=>cases hq
 .cases r with
  |skip=>cases hq
  |_=>rw[aR.mp hq];trivial
 .cases r with
  |put x y g z=>
   have hq:q∈if y=z then [] else [Rw.put x z g y]:=hq
   split at hq
   .cases hq
   .rw[aR.mp hq];exact⟨h.1,h.2.2.2,h.2.2.1,h.2.1⟩
  |ifr y g z t=>
   have hq:q∈if y=z then [] else [Rw.ifr z g y t]:=hq
   split at hq
   .cases hq
   .rw[aR.mp hq];exact⟨h.2.2.1,h.2.1,h.1,h.2.2.2⟩
  |_=>cases hq
 .cases r with
  |go t=>
   have hq:q∈if sz<=t then [] else [Rw.go (t+1)]:=hq
   split at hq
   .cases hq
   .rw[aR.mp hq];show t+1<=sz;omega
  |ifr y g z t=>
   have hq:q∈if sz<=t then [] else [Rw.ifr y g z (t+1)]:=hq
   split at hq
   .cases hq
   .rw[aR.mp hq];exact⟨h.1,h.2.1,h.2.2.1,by omega⟩
  |_=>cases hq
def UW{p:Nat×Str×Rw}(d:Rs m rs)(h:p∈fkL rs):p.1 < rs.length/\ZC m rs.length p.2.2:=by
 obtain⟨u,b,f⟩:=dS.mp h;obtain⟨t,c,e⟩:=dS.mp f;obtain⟨q,a,rfl⟩:=aS.mp e;exact⟨by have:=List.snd_lt_of_mem_zipIdx b;simpa using this,Zgg (d.ok _ (List.fst_mem_of_mem_zipIdx b)) c q a⟩
def Rs.set(a:Rs m rs)(h:ZC m rs.length q):Rs m (rs.set k q):=by
 refine⟨by rw[bH];exact a.l,λr h'=>?_⟩
 rw[bH];rcases eM h' with h'|h'
 .exact a.ok r h'
 .rw[h'];exact h
end
mutual
theorem UL:∀ {x y:D},Zm x y=ac->x=y
 |.non,.non,_=>rfl
 |.bl a,.bl b,h=>by have h:(a==b)=ac:=h;rw[eq_of_beq h]
 |.int a,.int b,h=>by rw[al (p:=a=b) h]
 |.str a,.str b,h=>by rw[al (p:=a=b) h]
 |.tup a,.tup b,h=>by rw[Vi (xs:=a) (ys:=b) h]
theorem Vi:∀ {xs ys:Li D},Zs xs ys=ac->xs=ys
 |[],[],_=>rfl
 |x :: xs,y :: ys,h=>by
  have h:(Zm x y&&Zs xs ys)=ac:=h;rw[Ba]at h;rw[UL h.1,Vi h.2]
end
def ZJ{a b:Str}{c ys:Li D}(h:D.tup (.str a :: c)=.tup (.str b :: ys)):a=b:=by injection h with h;injection h with h _;injection h
def WB{o z:Op}(h:opE o=opE z):o=z:=by
 cases o with
 |nm i=>cases z with
  |nm j=>
   have h:D.tup [.str "name",.int (i:Int)]=.tup [.str "name",.int (j:Int)]:=h
   injection h with h;injection h with _ h;injection h with h _;injection h with h;rw[Int.ofNat.inj h]
  |nu v=>exact aq (ZJ h) (by decide +kernel)
 |nu u=>cases z with
  |nm j=>exact aq (ZJ h) (by decide +kernel)
  |nu v=>
   have h:D.tup [.str "number",.int u]=.tup [.str "number",.int v]:=h
   injection h with h;injection h with _ h;injection h with h _;injection h with h;rw[h]
def ZfV{r q:Rw}(h:rwE r=rwE q):r=q:=by
 have B:S "put"≠S "if"/\S "put"≠S "go"/\S "put"≠S "tell"/\S "put"≠S "skip"/\S "if"≠S "go"/\S "if"≠S "tell"/\S "if"≠S "skip"/\S "go"≠S "tell"/\S "go"≠S "skip"/\S "tell"≠S "skip":=by decide +kernel
 obtain⟨w,v,u,s,p,o,n,m,l,f⟩:=B;cases r with
 |put x y g z=>cases q with
  |put A a k i=>
   have h:D.tup [.str "put",.int (x:Int),opE y,.str g,opE z]=.tup [.str "put",.int (A:Int),opE a,.str k,opE i]:=h
   injection h with h;injection h with _ h;injection h with e h;injection h with d h;injection h with c h;injection h with b _;injection e with e;injection c with c
   rw[Int.ofNat.inj e,WB d,c,WB b]
  |ifr _ _ _ _=>exact aq (ZJ h) w
  |go _=>exact aq (ZJ h) v
  |tell _=>exact aq (ZJ h) u
  |skip=>exact aq (ZJ h) s
 |ifr y g z t=>cases q with
  |put _ _ _ _=>exact aq (ZJ h) w.symm
  |ifr a k i j=>
   have h:D.tup [.str "if",opE y,.str g,opE z,.int (t:Int)]=.tup [.str "if",opE a,.str k,opE i,.int (j:Int)]:=h
   injection h with h;injection h with _ h;injection h with e h;injection h with d h;injection h with c h;injection h with b _;injection b with b;injection d with d
   rw[WB e,d,WB c,Int.ofNat.inj b]
  |go _=>exact aq (ZJ h) p
  |tell _=>exact aq (ZJ h) o
  |skip=>exact aq (ZJ h) n
 |go t=>cases q with
  |put _ _ _ _=>exact aq (ZJ h) v.symm
  |ifr _ _ _ _=>exact aq (ZJ h) p.symm
  |go j=>
   have h:D.tup [.str "go",.int (t:Int)]=.tup [.str "go",.int (j:Int)]:=h
   injection h with h;injection h with _ h;injection h with h _;injection h with h;rw[Int.ofNat.inj h]
  |tell _=>exact aq (ZJ h) m
  |skip=>exact aq (ZJ h) l
 |tell y=>cases q with
  |put _ _ _ _=>exact aq (ZJ h) u.symm
  |ifr _ _ _ _=>exact aq (ZJ h) o.symm
  |go _=>exact aq (ZJ h) m.symm
  |tell a=>
   have h:D.tup [.str "tell",opE y]=.tup [.str "tell",opE a]:=h
   injection h with h;injection h with _ h;injection h with h _;rw[WB h]
  |skip=>exact aq (ZJ h) f
 |skip=>cases q with
  |put _ _ _ _=>exact aq (ZJ h) s.symm
  |ifr _ _ _ _=>exact aq (ZJ h) n.symm
  |go _=>exact aq (ZJ h) l.symm
  |tell _=>exact aq (ZJ h) f.symm
  |skip=>rfl
theorem Uc:∀ {a b:Li Int},a.map D.int=b.map D.int->a=b
 |[],[],_=>rfl
 |x :: a,y :: b,h=>by
  rw[aQ,aQ]at h
  injection h with c d;injection c with c
  rw[c,Uc d]
mutual
theorem ZeZ:∀ {n:Nat}{x:D},okD n x=ac->Zm x x=ac
 |_,.non,_=>rfl
 |_,.int i,_=>aK rfl
 |_,.str i,_=>aK rfl
 |n+1,.tup xs,h=>YH (n:=n) (xs:=xs) h
 |0,.tup xs,h=>nomatch h
 |0,.bl _,h=>nomatch h
 |_+1,.bl _,h=>nomatch h
 |0,.lst _,h=>nomatch h
 |_+1,.lst _,h=>nomatch h
 |0,.dic _,h=>nomatch h
 |_+1,.dic _,h=>nomatch h
 |0,.dct _ _,h=>nomatch h
 |_+1,.dct _ _,h=>nomatch h
 |0,.obj _,h=>nomatch h
 |_+1,.obj _,h=>nomatch h
 |0,.kt _,h=>nomatch h
 |_+1,.kt _,h=>nomatch h
theorem YH:∀ {n:Nat}{xs:Li D},ZX n xs=ac->Zs xs xs=ac
 |_,[],_=>rfl
 |n,x :: xs,h=>by
  have h:(okD n x&&ZX n xs)=ac:=h;rw[Ba]at h;show(Zm x x&&Zs xs xs)=ac;rw[ZeZ h.1,YH h.2];rfl
end
def ZbL(o:Op):∃ a,opE o=.tup a/\okD 8 (.tup a)=ac:=by cases o<;>exact⟨_,rfl,rfl⟩
def Qk(r:Rw):∃ a,rwE r=.tup a/\okD 8 (.tup a)=ac:=by
 cases r with
 |put x y g z=>exact⟨_,rfl,by cases y<;>cases z<;>rfl⟩
 |ifr y g z t=>exact⟨_,rfl,by cases y<;>cases z<;>rfl⟩
 |go t=>exact⟨_,rfl,rfl⟩
 |tell y=>exact⟨_,rfl,by cases y<;>rfl⟩
 |skip=>exact⟨_,rfl,rfl⟩
def Y.eqd(d:Y F s a U (.tup xs))(c:Y F s b U (.tup ys))(g:okD 8 (.tup xs)=ac)(f:okD 8 (.tup ys)=ac):Y F s (.cmp .Eq a b) U (.bl (Zs xs ys)):=.cmp d c λst=>by
 have e:eqT xs (.tup ys)=aa (Zs xs ys):=am (by rw[g,f];rfl)
 show(match eqT xs (.tup ys) with
  |some k=>aa k
  |none=>Jc st xs ys)=_
 rw[e]
open Classical in
def Zao(a:okD 8 (.tup xs)=ac):Zs xs ys=aj (xs=ys):=by
 by_cases c:xs=ys
 .subst c;rw[aK rfl];exact YH (n:=7) a
 .rw[aG c]
  cases q:Zs xs ys with
  |false=>rfl
  |true=>exact aq (Vi q) c
def Y.ned(d:Y F s a U (.tup xs))(c:Y F s b U (.tup ys))(g:okD 8 (.tup xs)=ac)(f:okD 8 (.tup ys)=ac):Y F s (.cmp .NotEq a b) U (.bl (!Zs xs ys)):=.cmp d c λst=>by
 have e:eqT xs (.tup ys)=aa (Zs xs ys):=am (by rw[g,f];rfl)
 show Option.map Bool.not (match eqT xs (.tup ys) with
  |some k=>aa k
  |none=>Jc st xs ys)=_
 rw[e];rfl
def rv(k:Nat)(vs:Li Int):Rw->Sum D (Nat×Li Int)
 |.tell y=>.inl (teD (woI vs y))
 |r=>.inr (pkN k vs r,vsN vs r)
def Zg9(h:rs[k]?=aa r):mv rs k vs=rv k vs r:=by unfold mv;rw[h];cases r<;>rfl
section
variable{a b:Int}{x:Nat}
def ZhK:soI a (S "<") b=aj (a < b):=am rfl
def ZhJ:soI a (S "<=") b=aj (a<=b):=by
 unfold soI;rw[ao (by decide +kernel),am rfl]
def ZhG:soI a (S "=") b=aj (a=b):=by
 unfold soI;rw[ao (by decide +kernel),ao (by decide +kernel),am rfl]
def ZhH:soI a (S ">=") b=aj (b<=a):=by
 unfold soI;rw[ao (by decide +kernel),ao (by decide +kernel),ao (by decide +kernel),am rfl]
def ZhI:soI a (S ">") b=aj (b < a):=by
 unfold soI;rw[ao (by decide +kernel),ao (by decide +kernel),ao (by decide +kernel),ao (by decide +kernel),am rfl]
def ZhL:soI a (S "!=") b=!decide (a=b):=by
 unfold soI;rw[ao (by decide +kernel),ao (by decide +kernel),ao (by decide +kernel),ao (by decide +kernel),ao (by decide +kernel)]
end
def RX(F:Nat->Fn)(q:CS)(U:Env)(P:D->Prop):Prop:=∃ d,(∀ s,R F s q U d)/\P d
def CX(F:Nat->Fn)(f:Nat)(ds:Li D)(P:D->Prop):Prop:=∃ d,(∀ s,C F s f ds d)/\P d
variable{P:D->Prop}
section
variable{k:Bool}{Q:D->Prop}
def CX.of{v:FD}(h:T f=aa v)(b:ds.length=v.ps)(a:RX (rT n) v.body (ds.map aa++af (v.ns - ds.length) ab) P):CX (rT (n+1)) f ds P:=by
 obtain⟨d,e,c⟩:=a;exact⟨d,λs=>.of h b (e s),c⟩
def RX.pick(h:∀ s,Y F s e U (.bl k))(f:k=ac->RX F p U P)(c:k=ae->RX F q U P):RX F (.seq (.ite e p .skip) q) U P:=by
 cases k with
 |true=>obtain⟨d,a,b⟩:=f rfl;exact⟨d,λs=>.yB (h s) (a s),b⟩
 |false=>obtain⟨d,a,b⟩:=c rfl;exact⟨d,λs=>.no (h s) (a s),b⟩
def RX.ret(h:∀ s,Y F s e U d)(a:P d):RX F (.seq (.ret e) q) U P:=⟨d,λs=>.ret (h s),a⟩
def RX.set(h:∀ s,Y F s e U d)(c:RX F q (Zf U i d) P):RX F (.seq (.set i e) q) U P:=by
 obtain⟨d,a,b⟩:=c;exact⟨d,λs=>.set (h s) (a s),b⟩
def CX.mono(h:CX F f ds P)(c:∀ d,P d->Q d):CX F f ds Q:=let ⟨d,a,b⟩:=h;⟨d,a,c d b⟩
def RX.retC(c:∀ s,Y F s a U (.tup xs))(h:CX F f (xs++ds) P):RX F (.seq (.ret (.call f a ds)) q) U P:=by
 obtain⟨d,a,b⟩:=h;exact .ret (λs=>.call (c s) (a s)) b
def RX.setC(e:∀ s,Y F s a U (.tup xs))(h:CX F f (xs++ds) P)(c:∀ d,P d->RX F q (Zf U i d) Q):RX F (.seq (.set i (.call f a ds)) q) U Q:=by
 obtain⟨d,a,b⟩:=h;exact .set (λs=>.call (e s) (a s)) (c d b)
def RX.iset{j:CE}(h:∀ s,Y F s e U (.bl k))(r:k=ac->∃ d,(∀ s,Y F s j U d)/\RX F q (Zf U i d) P)(p:k=ae->RX F q U P):RX F (.seq (.ite e (.z (.set i j)) .skip) q) U P:=by
 cases k with
 |true=>
  obtain⟨w,o,d,a,b⟩:=r rfl;refine⟨d,λs st g=>?_,b⟩
  obtain⟨s1,v,c⟩:=h s st g;obtain⟨m,u,f⟩:=o s s1 (g.trans c);obtain⟨l,t,n⟩:=a s m (g.trans (c.trans f));exact⟨l,(Zc ((Z1 v).trans ((Zc (Zk u)).trans Zh))).trans t,c.trans (f.trans n)⟩
 |false=>obtain⟨d,a,b⟩:=p rfl;exact⟨d,λs=>.no (h s) (a s),b⟩
end
def Zdh:Op->Bool
 |.nm _=>ae
 |.nu _=>ac
variable{g:Str}
section
variable{k:Bool}{Q:D->Prop}
def Y.eqo{u:Op}(d:∀ s,Y F s a U (opE o))(c:∀ s,Y F s b U (opE u)):∃ k,∀ s,Y F s (.cmp .Eq a b) U (.bl k):=by
 obtain⟨xs,h,f⟩:=ZbL o;obtain⟨ys,g,e⟩:=ZbL u;rw[h]at d;rw[g]at c;exact⟨_,λs=>.eqd (d s) (c s) f e⟩
def Y.eqr{o u:Rw}(d:∀ s,Y F s a U (rwE o))(c:∀ s,Y F s b U (rwE u)):∃ k,∀ s,Y F s (.cmp .Eq a b) U (.bl k):=by
 obtain⟨xs,h,f⟩:=Qk o;obtain⟨ys,g,e⟩:=Qk u;rw[h]at d;rw[g]at c;exact⟨_,λs=>.eqd (d s) (c s) f e⟩
def IsPut(m sz:Nat)(d:D):Prop:=∃ x y g z,d=rwE (.put x y g z)/\ZC m sz (.put x y g z)
def IsIf(m sz:Nat)(d:D):Prop:=∃ y g z t,d=rwE (.ifr y g z t)/\ZC m sz (.ifr y g z t)
def X2(m sz:Nat)(d:D):Prop:=∃ r,d=rwE r/\ZC m sz r
def IsPut.rw(h:IsPut m sz d):X2 m sz d:=let ⟨_,_,_,_,a,b⟩:=h;⟨_,a,b⟩
def IsIf.rw(h:IsIf m sz d):X2 m sz d:=let ⟨_,_,_,_,a,b⟩:=h;⟨_,a,b⟩
def J8(y z:Op):C (rT (n+1)) s 73 [opE y,opE z] (.bl (Zdh y&&Zdh z)):=by
 cases y<;>cases z<;>exact .of (v:=c_are_numbers) rfl rfl (.ret (.r rf))
def Zep(o u:Op):∃ k,∀ st,ZcK .Lt (opE o) (opE u) st=aa k:=by
 have a:∀ (i j:Int),∃ k:Bool,(if Zm (.int i) (.int j)=ac then aa (aj (0 < ([]:Li D).length)) else aa (aj (i < j)))=aa k:=λi j=>by
  split<;>exact⟨_,rfl⟩
 cases o<;>cases u
 .rename_i i j
  obtain⟨k,h⟩:=a i j;exact⟨k,λst=>h⟩
 .exact⟨_,λst=>rfl⟩
 .exact⟨_,λst=>rfl⟩
 .rename_i i j
  obtain⟨k,h⟩:=a i j;exact⟨k,λst=>h⟩
def Zct{x:Nat}{y z:Op}(h:ZC m sz (.put x y g z)):CX (rT (n+2)) 75 [rwE (.put x y g z)] (IsPut m sz):=by
 obtain⟨b,a,e,c⟩:=h;cases z with
 |nm j=>exact .of (v:=c_less_as_more) rfl rfl (.pick (k:=aj (g=S "-")&&ae) (λs=>.and (.eqs (.r rf) (.r rf)) λ_=>.r rf) (λq=>by rw[Bool.and_false]at q;cases q) λ_=>.ret (λs=>.r rf) ⟨x,y,g,.nm j,rfl,b,a,e,c⟩)
 |nu v=>
  refine .of (v:=c_less_as_more) rfl rfl (.pick (k:=aj (g=S "-")&&ac) (λs=>.and (.eqs (.r rf) (.r rf)) λ_=>.r rf) (λ_=>?_) λ_=>.ret (λs=>.r rf) ⟨x,y,g,.nu v,rfl,b,a,e,c⟩)
  refine .ret (λs=>.adT (xs:=[.str "put",.int (x:Int),opE y]) (.tkT (i:=3) (xs:=[.str "put",.int (x:Int),opE y,.str g,opE (.nu v)]) (.r rf) (.r rf) (show 3<=5 by decide)) (.cons (.r rf) (.cons (.cons (.r rf) (.cons (.call1 (g1 (.ixt (j:=1) (xs:=[.str "number",.int v]) (.r rf) (.r rf) rfl) (d:=.int (-v)) (gp λ_=>rfl)) Yv) .nil)) .nil)) (show 3+2<=100000 by decide)) ⟨x,y,S "+",.nu (arI (-v)),rfl,b,a,by decide,WV⟩
end
def YB(F:Nat->Fn)(U:Env)(e:CE):Prop:=∃ k,∀ s,Y F s e U (.bl k)
section
variable{k:Bool}{Q:D->Prop}
def YB.and(d:YB F U a)(c:YB F U b):YB F U (.and a b):=let ⟨_,x⟩:=d;let ⟨_,y⟩:=c;⟨_,λs=>.and (x s) λ_=>y s⟩
def YB.or(d:YB F U a)(c:YB F U b):YB F U (.or a b):=let ⟨_,x⟩:=d;let ⟨_,y⟩:=c;⟨_,λs=>.or (x s) λ_=>y s⟩
def YB.eqs{u v:Str}(d:∀ s,Y F s a U (.str u))(c:∀ s,Y F s b U (.str v)):YB F U (.cmp .Eq a b):=⟨_,λs=>.eqs (d s) (c s)⟩
def YB.eqi{u v:Int}(d:∀ s,Y F s a U (.int u))(c:∀ s,Y F s b U (.int v)):YB F U (.cmp .Eq a b):=⟨_,λs=>.cmp (d s) (c s) λ_=>rfl⟩
def YB.eqo{u:Op}(d:∀ s,Y F s a U (opE o))(c:∀ s,Y F s b U (opE u)):YB F U (.cmp .Eq a b):=Y.eqo d c
def YB.eqr{o u:Rw}(d:∀ s,Y F s a U (rwE o))(c:∀ s,Y F s b U (rwE u)):YB F U (.cmp .Eq a b):=Y.eqr d c
def RX.pk(h:YB F U e)(b:RX F p U P)(a:RX F q U P):RX F (.seq (.ite e p .skip) q) U P:=let ⟨_,x⟩:=h;.pick x (λ_=>b) λ_=>a
def RX.is{a:CE}(h:YB F U e)(c:∃ d,(∀ s,Y F s a U d)/\RX F q (Zf U i d) P)(b:RX F q U P):RX F (.seq (.ite e (.z (.set i a)) .skip) q) U P:=let ⟨_,x⟩:=h;.iset x (λ_=>c) λ_=>b
def Zgt{x:Nat}{y z:Op}(h:ZC m sz (.put x y g z)):CX (rT (n+2)) 74 [rwE (.put x y g z),.int 2,.int 4] (IsPut m sz):=by
 obtain⟨c,b,d,a⟩:=h;obtain⟨k,e⟩:=Zep z y;refine .of (v:=c_lesser_first) rfl rfl (.pick (k:=k) (λs=>.cmp (x:=opE z) (y:=opE y) (.r rf) (.r rf) e) (λ_=>?_) λ_=>.ret (λs=>.r rf) ⟨x,y,g,z,rfl,c,b,d,a⟩)
 exact .ret (λs=>.call (xs:=[.tup [.str "put",.int (x:Int),opE z,.str g,opE z],.int 4,opE y]) (.cons (.call (xs:=[rwE (.put x y g z),.int 2,opE z]) (.r rf) (Yo (xs:=[.str "put",.int (x:Int),opE y,.str g,opE z]) (i:=2) (show 2 < 5 by decide) (show 5<=1000 by decide))) (.cons (.r rf) (.cons (.r rf) .nil))) (Yo (xs:=[.str "put",.int (x:Int),opE z,.str g,opE z]) (i:=4) (show 4 < 5 by decide) (show 5<=1000 by decide))) ⟨x,z,g,y,rfl,c,a,d,b⟩
def Zgs{t:Nat}{y z:Op}(h:ZC m sz (.ifr y g z t)):CX (rT (n+2)) 74 [rwE (.ifr y g z t),.int 1,.int 3] (IsIf m sz):=by
 obtain⟨b,d,a,c⟩:=h;obtain⟨k,e⟩:=Zep z y;refine .of (v:=c_lesser_first) rfl rfl (.pick (k:=k) (λs=>.cmp (x:=opE z) (y:=opE y) (.r rf) (.r rf) e) (λ_=>?_) λ_=>.ret (λs=>.r rf) ⟨y,g,z,t,rfl,b,d,a,c⟩)
 exact .ret (λs=>.call (xs:=[.tup [.str "if",opE z,.str g,opE z,.int (t:Int)],.int 3,opE y]) (.cons (.call (xs:=[rwE (.ifr y g z t),.int 1,opE z]) (.r rf) (Yo (xs:=[.str "if",opE y,.str g,opE z,.int (t:Int)]) (i:=1) (show 1 < 5 by decide) (show 5<=1000 by decide))) (.cons (.r rf) (.cons (.r rf) .nil))) (Yo (xs:=[.str "if",opE z,.str g,opE z,.int (t:Int)]) (i:=3) (show 3 < 5 by decide) (show 5<=1000 by decide))) ⟨z,g,y,t,rfl,a,d,b,c⟩
def ZgA{x:Nat}{y z:Op}(h:ZC m sz (.put x y g z)):CX (rT (n+2)) 76 [rwE (.put x y g z)] (IsPut m sz):=by
 obtain⟨a,b,e,c⟩:=h;refine .of (v:=c_without_reckoning) rfl rfl (.set (d:=opE y) (λs=>.r rf) (.set (d:=.str g) (λs=>.r rf) (.set (d:=opE z) (λs=>.r rf) (.pk (.or (.and (.eqs (λs=>.r rf) λs=>.r rf) (.eqo (o:=z) (u:=.nu 0) (λs=>.r rf) λs=>.r rf)) (.or (.and (.eqs (λs=>.r rf) λs=>.r rf) (.eqo (o:=z) (u:=.nu 1) (λs=>.r rf) λs=>.r rf)) (.and (.eqs (λs=>.r rf) λs=>.r rf) (.eqo (o:=y) (u:=z) (λs=>.r rf) λs=>.r rf)))) (.ret (λs=>.r rf) ⟨x,.nu 0,S "+",.nu 0,rfl,a,⟨by decide,by decide⟩,by decide,⟨by decide,by decide⟩⟩) (.pk (.and ⟨_,λs=>.cmp (x:=.str g) (.r rf) (.r rf) λst=>rfl⟩ (.eqo (o:=z) (u:=.nu 1) (λs=>.r rf) λs=>.r rf)) (.ret (λs=>.r rf) ⟨x,y,S "+",.nu 0,rfl,a,b,by decide,⟨by decide,by decide⟩⟩) (.ret (λs=>.r rf) ⟨x,y,g,z,rfl,a,b,e,c⟩))))))
def ZeN{x:Nat}{y z:Op}(h:ZC m sz (.put x y g z)):CX (rT (n+4)) 77 [rwE (.put x y g z)] (X2 m sz):=by
 have e:RX (rT (n+3)) (.seq (.set 0 (.call 75 (.u (.v 0)) []))
 (.seq (.ite (.cmp .In (.ix (.v 0) (.i 3)) (.tupE (.aC (.t "+") (.u (.t "*"))))) (.z (.set 0 (.call 74 (.aC (.v 0) (.aC (.i 2) (.u (.i 4)))) []))) .skip)
 (.seq (.set 0 (.call 76 (.u (.v 0)) []))
 (.seq (.ite (.cmp .Eq (.v 0) (.tupE (.aC (.t "put") (.aC (.ix (.v 0) (.i 1)) (.aC (.tupE (.aC (.t "name") (.u (.ix (.v 0) (.i 1))))) (.aC (.t "+") (.u (.c (.tup [(.str "number"),(.int 0)]))))))))) (.z (.ret (.c (.tup [(.str "skip")])))) .skip)
 (.z (.ret (.v 0))))))) [aa (rwE (.put x y g z))] (X2 m sz):=by
  refine .setC (xs:=[rwE (.put x y g z)]) (λs=>.r rf) (Zct h) λd ⟨E,D,g1,B,L,w⟩=>?_
  subst L;have f:∀ {x:Nat}{y z:Op}{g:Str},ZC m sz (.put x y g z)->RX (rT (n+3)) (.seq (.set 0 (.call 76 (.u (.v 0)) []))
 (.seq (.ite (.cmp .Eq (.v 0) (.tupE (.aC (.t "put") (.aC (.ix (.v 0) (.i 1)) (.aC (.tupE (.aC (.t "name") (.u (.ix (.v 0) (.i 1))))) (.aC (.t "+") (.u (.c (.tup [(.str "number"),(.int 0)]))))))))) (.z (.ret (.c (.tup [(.str "skip")])))) .skip)
 (.z (.ret (.v 0))))) [aa (rwE (.put x y g z))] (X2 m sz):=λ{x y z g} h=>by
   refine .setC (xs:=[rwE (.put x y g z)]) (λs=>.r rf) (ZgA h) λd ⟨j,C,g2,A,K,J⟩=>?_
   subst K;exact .pk (.eqr (o:=.put j C g2 A) (u:=.put j (.nm j) (S "+") (.nu 0)) (λs=>.r rf) λs=>.r rf) (.ret (λs=>.r rf) ⟨.skip,rfl,trivial⟩) (.ret (λs=>.r rf) ⟨_,rfl,J⟩)
  obtain⟨d,H,O,N,Q,M,rfl,I⟩:=Zgt (n:=n+1) w;exact .is ⟨_,λs=>.cmp (x:=.str g1) (.r rf) (.r rf) λst=>rfl⟩ ⟨_,λs=>.call (xs:=[rwE (.put E D g1 B),.int 2,.int 4]) (.r rf) (H s),f I⟩ (f w)
 have G:=h;obtain⟨F,p,P,l⟩:=G;refine .of (v:=c_made_put) rfl rfl (.pick (k:=Zdh y&&Zdh z) (λs=>.call (xs:=[opE y,opE z]) (.r rf) (J8 y z)) (λq=>?_) λ_=>e)
 cases y with
 |nm _=>cases q
 |nu a=>cases z with
  |nm _=>cases q
  |nu b=>exact .ret (λs=>.cons (.r rf) (.cons (.r rf) (.cons (.cons (.r rf) (.cons (.call (xs:=[.int a,.str g,.int b]) (.r rf) (Zgw p l)) .nil)) (.cons (.r rf) (.cons (.r rf) .nil))))) ⟨.put x (.nu (rkI a g b)) (S "+") (.nu 0),rfl,F,ZeB p l,by decide,⟨by decide,by decide⟩⟩
end
section
variable{k:Bool}{Q:D->Prop}
def opV:Op->Int
 |.nm i=>i
 |.nu v=>v
def Zgr{t:Nat}{y z:Op}(h:ZC m sz (.ifr y g z t)):CX (rT (n+1)) 78 [rwE (.ifr y g z t)] (IsIf m sz):=by
 obtain⟨b,d,a,c⟩:=h;exact .of (v:=c_greater_as_less) rfl rfl (.pk (.eqs (λs=>.r rf) λs=>.r rf) (.ret (λs=>.r rf) ⟨z,S "<",y,t,rfl,a,by decide,b,c⟩) (.pk (.eqs (λs=>.r rf) λs=>.r rf) (.ret (λs=>.r rf) ⟨z,S "<=",y,t,rfl,a,by decide,b,c⟩) (.ret (λs=>.r rf) ⟨y,g,z,t,rfl,b,d,a,c⟩)))
def Zcs{t:Nat}{y z:Op}:∃ k,∀ s,C (rT (n+2)) s 79 [rwE (.ifr y g z t)] (.bl k):=by
 obtain⟨k,c⟩:=Y.eqo (F:=rT (n+1)) (U:=[aa (rwE (.ifr y g z t))]) (a:=.ix (.v 0) (.i 1)) (b:=.ix (.v 0) (.i 3)) (o:=y) (u:=z) (λs=>.r rf) λs=>.r rf
 exact⟨_,λs=>.of (v:=c_is_settled) rfl rfl (.ret (.or (.call (xs:=[opE y,opE z]) (.r rf) (J8 y z)) λ_=>c s))⟩
def Jv{t:Nat}{y z:Op}(h:ZC m sz (.ifr y g z t)):CX (rT (n+2)) 80 [rwE (.ifr y g z t)] (X2 m sz):=by
 obtain⟨d,e,b,a⟩:=h;have c:∀ s,Y (rT (n+1)) s (.call 4 (.aC (.ix (.ix (.v 0) (.i 1)) (.i 1)) (.aC (.ix (.v 0) (.i 2)) (.u (.ix (.ix (.v 0) (.i 3)) (.i 1))))) []) [aa (rwE (.ifr y g z t)),ab] (.bl (soI (opV y) g (opV z))):=λs=>by
  cases y<;>cases z<;>exact .call (.r rf) Zgy
 refine .of (v:=c_settled) rfl rfl (.set c ?_);cases soI (opV y) g (opV z) with
 |true=>exact .ret (λs=>.ife (k:=ac) (.r rf) (.r rf)) ⟨.go t,rfl,a⟩
 |false=>exact .ret (λs=>.ife (k:=ae) (.r rf) (.r rf)) ⟨.skip,rfl,trivial⟩
def Zgu{t:Nat}{y z:Op}(h:ZC m sz (.ifr y g z t)):CX (rT (n+1)) 81 [rwE (.ifr y g z t)] (IsIf m sz):=by
 obtain⟨e,l,c,f⟩:=h;have b:IsIf m sz (rwE (.ifr y g z t)):=⟨y,g,z,t,rfl,e,l,c,f⟩;have a:RX (rT n) (.seq (.ite (.and (.cmp .Eq (.ix (.v 1) (.i 0)) (.t "number")) (.cmp .Gt (.ix (.v 1) (.i 1)) (.i (-1000000000)))) (.z (.ret (.tupE (.aC (.t "if") (.aC (.tupE (.aC (.t "number") (.u (.bin .Sub (.ix (.v 1) (.i 1)) (.i 1))))) (.aC (.t "<") (.aC (.v 2) (.u (.ix (.v 0) (.i 4)))))))))) .skip)
 (.z (.ret (.v 0)))) [aa (rwE (.ifr y g z t)),aa (opE y),aa (opE z)] (IsIf m sz):=by
  cases y with
  |nm i=>exact .pick (k:=ae) (λs=>.and (k:=ae) (m:=ae) (.r rf) λq=>nomatch q) (λq=>nomatch q) λ_=>.ret (λs=>.r rf) b
  |nu v=>
   refine .pick (k:=ac&&aj (-1000000000 < v)) (λs=>.and (.r rf) λ_=>.cmp (x:=.int v) (y:=.int (-1000000000)) (.r rf) (.r rf) λ_=>rfl) (λq=>?_) λ_=>.ret (λs=>.r rf) b
   have q:-1000000000 < v:=al (by rwa [dC]at q)
   have j:Sm v:=e;exact .ret (λs=>.r rf) ⟨.nu (v - 1),S "<",z,t,rfl,(show Sm (v - 1) by unfold Sm at *;omega),by decide,c,f⟩
 refine .of (v:=c_most_as_less) rfl rfl (.set (d:=opE y) (λs=>.r rf) (.set (d:=opE z) (λs=>.r rf) (.pk ⟨_,λs=>.cmp (x:=.str g) (y:=.str "<=") (.r rf) (.r rf) λ_=>rfl⟩ (.ret (λs=>.r rf) b) ?_)))
 cases z with
 |nm i=>exact .pick (k:=ae) (λs=>.and (k:=ae) (m:=ae) (.r rf) λq=>nomatch q) (λq=>nomatch q) λ_=>a
 |nu v=>
  refine .pick (k:=ac&&aj (v < 999999999)) (λs=>.and (.r rf) λ_=>.cmp (x:=.int v) (y:=.int 999999999) (.r rf) (.r rf) λ_=>rfl) (λq=>?_) λ_=>a
  have q:v < 999999999:=al (by rwa [dC]at q)
  have j:Sm v:=c;exact .ret (λs=>.r rf) ⟨y,S "<",.nu (v+1),t,rfl,e,by decide,(show Sm (v+1) by unfold Sm at *;omega),f⟩
def Zgv{t j:Nat}{y z:Op}(h:ZC m sz (.ifr y g z t)):CX (rT (n+3)) 82 [rwE (.ifr y g z t),.int (j:Int)] (X2 m sz):=by
 refine .of (v:=c_made_if) rfl rfl (.pk (.eqi (u:=(t:Int)) (λs=>.r rf) λs=>.add (.r rf) (.r rf)) (.ret (λs=>.r rf) ⟨.skip,rfl,trivial⟩) ?_)
 refine .setC (xs:=[rwE (.ifr y g z t)]) (λs=>.r rf) (Zgr h) λd ⟨c,g1,b,e,p,f⟩=>?_
 subst p;obtain⟨k,i⟩:=Zcs (n:=n) (t:=e) (y:=c) (z:=b) (g:=g1);have a:∀ {t:Nat}{y z:Op}{g:Str},ZC m sz (.ifr y g z t)->RX (rT (n+2)) (.z (.ret (.call 81 (.u (.v 0)) []))) [aa (rwE (.ifr y g z t)),jN j] (X2 m sz):=λ{t y z g} h=>.retC (xs:=[rwE (.ifr y g z t)]) (λs=>.r rf) ((Zgu h).mono λ_=>IsIf.rw)
 obtain⟨d,l,w,B,q,A,rfl,o⟩:=Zgs (n:=n) f;exact .pk ⟨k,λs=>.call (xs:=[rwE (.ifr c g1 b e)]) (.r rf) (i s)⟩ (.retC (xs:=[rwE (.ifr c g1 b e)]) (λs=>.r rf) (Jv f)) (.is ⟨_,λs=>.cmp (x:=.str g1) (.r rf) (.r rf) λst=>rfl⟩ ⟨_,λs=>.call (xs:=[rwE (.ifr c g1 b e),.int 1,.int 3]) (.r rf) (l s),a o⟩ (a f))
def J7{j:Nat}(h:ZC m sz r):CX (rT (n+5)) 83 [rwE r,.int (j:Int)] (X2 m sz):=by
 have go:∀ (r:Rw),ZC m sz r->RX (rT (n+4)) (.seq (.ite (.cmp .Eq (.v 0) (.tupE (.aC (.t "go") (.u (.bin .Add (.v 1) (.i 1)))))) (.z (.ret (.c (.tup [(.str "skip")])))) .skip)
 (.z (.ret (.v 0)))) [aa (rwE r),jN j] (X2 m sz):=λr h=>.pk (.eqr (o:=r) (u:=.go (j+1)) (λs=>.r rf) λs=>by
   show Y _ _ _ _ (.tup [.str "go",.int ((j+1:Nat):Int)]);rw[bC];exact .cons (.r rf) (.cons (.add (.r rf) (.r rf)) .nil)) (.ret (λs=>.r rf) ⟨.skip,rfl,trivial⟩) (.ret (λs=>.r rf) ⟨r,rfl,h⟩)
 cases r with
 |put x y g z=>exact .of (v:=c_made_row) rfl rfl (.pick (k:=ac) (λs=>.r rf) (λ_=>.retC (xs:=[rwE (.put x y g z)]) (λs=>.r rf) (ZeN h)) λq=>nomatch q)
 |ifr y g z t=>exact .of (v:=c_made_row) rfl rfl (.pick (k:=ae) (λs=>.r rf) (λq=>nomatch q) λ_=>.pick (k:=ac) (λs=>.r rf) (λ_=>.retC (xs:=[rwE (.ifr y g z t),.int (j:Int)]) (λs=>.r rf) (Zgv h)) λq=>nomatch q)
 |go t=>exact .of (v:=c_made_row) rfl rfl (.pick (k:=ae) (λs=>.r rf) (λq=>nomatch q) λ_=>.pick (k:=ae) (λs=>.r rf) (λq=>nomatch q) λ_=>go _ h)
 |tell y=>exact .of (v:=c_made_row) rfl rfl (.pick (k:=ae) (λs=>.r rf) (λq=>nomatch q) λ_=>.pick (k:=ae) (λs=>.r rf) (λq=>nomatch q) λ_=>go _ h)
 |skip=>exact .of (v:=c_made_row) rfl rfl (.pick (k:=ae) (λs=>.r rf) (λq=>nomatch q) λ_=>.pick (k:=ae) (λs=>.r rf) (λq=>nomatch q) λ_=>go _ h)
end
variable{t:Bool}
section
variable{k:Bool}{Q:D->Prop}
open Classical in
def Zfo{α:Type}{b:D->Li (Ot D)}{en:α->D}{l:Li α}{P:α->D->Prop}(j:∀ s,Wk F s it U wk (l.map en))(i:l.length<=1000)(h:∀ a∈l,∃ d,(∀ s,Y F s elt (ZM b U fr (en a)) d)/\P a d):∃ g:α->D,(∀ s,Lv s (Ye b wk fr (ev F it) (ev F elt) (ev F (.c (.bl ac))) U) (l.map g))/\∀ a∈l,P a (g a):=by
 have f:∀ a (e:a∈l),(if h':a∈l then Classical.choose (h a h') else D.non)=Classical.choose (h a e):=λa e=>dif_pos e
 refine⟨λa=>if h':a∈l then Classical.choose (h a h') else .non,λs=>QX (j s) i λa e=>?_,λa e=>?_⟩
 .show Y F s elt (ZM b U fr (en a)) (if h':a∈l then Classical.choose (h a h') else D.non)
  rw[f a e];exact(Classical.choose_spec (h a e)).1 s
 .show P a (if h':a∈l then Classical.choose (h a h') else D.non)
  rw[f a e];exact(Classical.choose_spec (h a e)).2
def Y.tof(b:s[j]?=aa (t,xs))(h:Y F s e U (.lst j)):Y F s (.tOf e) U (.tup xs):=λst g=>by
 obtain⟨s1,c,a⟩:=h st g;exact⟨s1,Ym c ((g.trans a).get b),a⟩
def Lv.tof(h:Lv s (ev F e U) xs):Y F s (.tOf e) U (.tup xs):=λst g=>by
 obtain⟨s1,j,b,d,c,a⟩:=h st g;exact⟨s1,Ym d c,a⟩
def enm{α:Type}:Nat->Li α->Li (Nat×α)
 |_,[]=>[]
 |k,x :: xs=>(k,x) :: enm (k+1) xs
theorem QK{α:Type}:∀ {k:Nat}{l:Li α},(enm k l).length=l.length
 |_,[]=>rfl
 |k,_ :: l=>by show(enm (k+1) l).length+1=_;rw[QK];rfl
theorem Vl{α:Type}{x:Nat×α}:∀ {k:Nat}{l:Li α},x∈enm k l->x.2∈l
 |k,y :: l,h=>by
  rcases aF.mp (show x∈(k,y) :: enm (k+1) l from h) with rfl|h
  .exact Ls
  .exact Lm _ (Vl h)
theorem QL{α:Type}{f:α->D}:∀ {k:Nat}{l:Li α},YN k (l.map f)=(enm k l).map λp=>.tup [.int (p.1:Int),f p.2]
 |_,[]=>rfl
 |k,x :: l=>by show _ :: YN (k+1) (l.map f)=_;rw[QL];rfl
theorem Jh:∀ {ys:Li D},(∀ d∈ys,X2 m sz d)->∃ rs:Li Rw,ys=rs.map rwE/\∀ r∈rs,ZC m sz r
 |[],_=>⟨[],rfl,λ_ h=>nomatch h⟩
 |y :: ys,h=>by
  obtain⟨r,rfl,b⟩:=h y Ls;obtain⟨rs,rfl,a⟩:=Jh λd c=>h d (Lm _ c)
  exact⟨r :: rs,rfl,λx hx=>by
   rcases aF.mp hx with rfl|hx
   .exact b
   .exact a x hx⟩
def J6(k:∀ r∈rs,ZC m sz r)(o:rs.length<=1000):CX (rT (n+6)) 106 [pgD tk m rs] (λd=>∃ a:Li Rw,d=pgD tk m a):=by
 obtain⟨g,h,c⟩:=Zfo (F:=rT (n+5)) (U:=[aa (pgD tk m rs),ab]) (b:=two) (wk:=Ux) (fr:=[]) (it:=.ix (.v 0) (.i 2)) (elt:=.call 83 (.aC (.v 1) (.u (.v 0))) []) (en:=λp:Nat×Rw=>.tup [.int (p.1:Int),rwE p.2]) (l:=enm 0 rs) (P:=λ_ d=>X2 m sz d)
  (λs=>.of (x:=.tup (rs.map rwE)) (.r rf) λst=>by show aa (YN 0 (rs.map rwE),_)=_;rw[QL]) (by rw[QK];exact o) (λp c=>by
   obtain⟨d,f,w⟩:=J7 (n:=n) (j:=p.1) (k _ (Vl c));exact⟨d,λs=>.call (xs:=[rwE p.2,.int (p.1:Int)]) (.r rf) (f s),w⟩)
 obtain⟨a,e,_⟩:=Jh (ys:=(enm 0 rs).map g) (m:=m) (sz:=sz) λd t=>by obtain⟨p,f,rfl⟩:=aS.mp t;exact c p f
 rw[e]at h;refine⟨pgD tk m a,λs=>.of (v:=c_made) rfl rfl (.setL (e:=V1) (h s) λy j b _ q=>.ret (.cons (.r rf) (.cons (.r rf) (.cons (.tof q (.r rf)) .nil)))),a,rfl⟩
end
def woN(c i:Nat):Nat:=c - (c &&& 2 ^ i)
def ZcE{a k:Nat}:aj (((a &&& 2 ^ k:Nat):Int)=0)=!a.testBit k:=by
 have:(a &&& 2 ^ k=0)↔a.testBit k=ae:=by
  constructor
  .intro h
   have:=ar (λz=>z.testBit k) h
   simp only[Nat.testBit_and,Nat.testBit_two_pow_self,Bool.and_true,Nat.zero_testBit]at this;exact this
  .intro h
   refine Nat.eq_of_testBit_eq λi=>?_
   rw[Nat.testBit_and,Nat.testBit_two_pow,Nat.zero_testBit];by_cases c:k=i
   .rw[<-c,h];rfl
   .rw[aG c,Bool.and_false]
 cases q:a.testBit k with
 |false=>rw[aK (by rw[this.mpr q];rfl)];rfl
 |true=>rw[aG (λh=>by have:=this.mp (Int.ofNat.inj h);rw[q]at this;cases this)];rfl
variable{E:Ot D->Env}
variable{it:CE}{i':Nat}{u:Ot Rw}
section
variable{c:Nat}{o:Ot Rw}
def Y.band(e:Y F s a U (.int (c:Int)))(d:Y F s b U (.int (k:Int))):Y F s (.bin .BitAnd a b) U (.int ((c &&& k:Nat):Int)):=.bi e d (by
 show(if 0<=(c:Int)/\0<=(k:Int) then aa (((c:Int).toNat &&& (k:Int).toNat:Nat):Int) else if 0<=(c:Int)/\(k:Int) < 0 then aa ((c:Int) - (((c:Int).toNat &&& (-(k:Int) - 1).toNat:Nat):Int)) else ab)=_
 rw[am ⟨eE _,eE _⟩,aZ,aZ])
def Y.bor(e:Y F s a U (.int (c:Int)))(d:Y F s b U (.int (k:Int))):Y F s (.bin .BitOr a b) U (.int ((c ||| k:Nat):Int)):=.bi e d (by
 show(if 0<=(c:Int)/\0<=(k:Int) then aa (((c:Int).toNat ||| (k:Int).toNat:Nat):Int) else ab)=_
 rw[am ⟨eE _,eE _⟩,aZ,aZ])
def ZeL(a:k<=60):C (rT (n+2)) s 114 [.int (c:Int),.int (k:Int)] (.bl (c.testBit k)):=
 .of (v:=c_has_bit) rfl rfl (.ret (.cmp (.band (.r rf) (.call1 (.r rf) (Qt a))) (.r rf) λst=>by
  show(aa (aj (((c &&& 2 ^ k:Nat):Int)=0))).map Bool.not=_;rw[ZcE];show aa (!!c.testBit k)=_;rw[Bool.not_not]))
def ZhV{v:Nat}:Zap .BitAnd (c:Int) (-(v:Int) - 1)=aa ((c - (c &&& v):Nat):Int):=by
 have a:c &&& v<=c:=Nat.and_le_left;show(if 0<=(c:Int)/\0<=-(v:Int) - 1 then aa (((c:Int).toNat &&& (-(v:Int) - 1).toNat:Nat):Int) else if 0<=(c:Int)/\-(v:Int) - 1 < 0 then aa ((c:Int) - (((c:Int).toNat &&& (-(-(v:Int) - 1) - 1).toNat:Nat):Int)) else ab)=_
 rw[ao (by omega),am (by omega),aZ,show(-(-(v:Int) - 1) - 1).toNat=v by omega,Int.ofNat_sub a]
def Zgz(a:k<=60):C (rT (n+2)) s 57 [.int (c:Int),.int (k:Int)] (.int ((woN c k:Nat):Int)):=
 .of (v:=c_without_bit) rfl rfl (.ret (.bi (i:=(c:Int)) (j:=-((2 ^ k:Nat):Int) - 1) (.r rf) (g1 (.call1 (.r rf) (Qt a)) (gp λ_=>rfl)) ZhV))
def ZeK(a:k<=60):C (rT (n+2)) s 56 [.int (k:Int)] (.int ((2 ^ k - 1:Nat):Int)):=by
 refine .of (v:=c_all_bits) rfl rfl (.ret ?_);rw[Int.ofNat_sub (Nat.one_le_two_pow)];exact .sub (.call1 (.r rf) (Qt a)) (.r rf)
def Bs(F:Nat->Fn)(s:Za)(q:CS)(U:Env)(o:Ot D):Prop:=∀ st,Grw s st->∃ st',ex F q U st=aa (match o with|some d=>.rt d|none=>.nx U,st')/\Grw st st'
def Bs.skip:Bs F s .skip U ab:=λst _=>⟨st,rfl,.refl⟩
def Bs.ite{o:Ot D}(h:Y F s e U (.bl t))(l:t=ac->Y F s a U d)(k:t=ae->Bs F s q U o):Bs F s (.seq (.ite e (.z (.ret a)) .skip) q) U (if t=ac then aa d else o):=λst g=>by
 obtain⟨s1,j,b⟩:=h st g;cases t with
 |true=>
  obtain⟨c,i,f⟩:=l rfl s1 (g.trans b);exact⟨c,Zj ((Z1 j).trans (Zj (ZK i))),b.trans f⟩
 |false=>
  obtain⟨c,i,f⟩:=k rfl s1 (g.trans b);exact⟨c,(Zc ((Y3 j).trans Zh)).trans i,b.trans f⟩
def skR{α:Type}(f:α->Ot D):Li α->Ot D
 |[]=>ab
 |x :: l=>match f x with
  |some d=>aa d
  |none=>skR f l
theorem Zgc{α:Type}{en:α->D}{f:α->Ot D}{E:Ot D->Env}(c:∀ y d,Zf (E y) i d=E (aa d)):∀ {l:Li α},(∀ x∈l,Bs F s q (E (aa (en x))) (f x))->∀ {y:Ot D}{st:Za},Grw s st->∃ a st',Zi (λd U s=>ex F q (Zf U i d) s) (l.map en) (E y) st=aa (match skR f l with|some d=>.rt d|none=>.nx (E a),st')/\Grw st st'
 |[],_,y,st,_=>⟨y,st,rfl,.refl⟩
 |x :: l,h,y,st,g=>by
  obtain⟨s1,n,b⟩:=h x Ls st g;obtain⟨a,e,m,j⟩:=Zgc c (λz k=>h z (Lm _ k)) (y:=aa (en x)) (g.trans b)
  show ∃ a st',(match ex F q (Zf (E y) i (en x)) st with
   |some (.nx U',st')=>Zi (λd U s=>ex F q (Zf U i d) s) (l.map en) U' st'
   |some (.ct U',st')=>Zi (λd U s=>ex F q (Zf U i d) s) (l.map en) U' st'
   |some (.bk U',st')=>aa (.nx U',st')
   |some (.rt v,st')=>aa (.rt v,st')
   |none=>ab)=_/\_
  rw[c,n];unfold skR;cases f x with
  |some d=>exact⟨y,s1,rfl,b⟩
  |none=>exact⟨a,e,m,b.trans j⟩
def R.seekD{l:Li α}{en:α->D}{f:α->Ot D}{y:Ot D}(u:∀ y d,Zf (E y) i d=E (aa d))(r:Y F s it (E y) (.tup (l.map en)))(t:∀ x∈l,Bs F s q (E (aa (en x))) (f x))(o:∀ y,R F s p (E y) d):R F s (.seq (.for1 i ae it q) p) (E y) ((skR f l).getD d):=λst g=>by
 obtain⟨s1,j,a⟩:=r st g;obtain⟨k,h,b,e⟩:=Zgc u t (y:=y) (g.trans a);cases c:skR f l with
 |some v=>rw[c]at b;exact⟨h,Zj ((for_tup j).trans b),a.trans e⟩
 |none=>
  rw[c]at b;obtain⟨m,w,n⟩:=o k h (g.trans (a.trans e));exact⟨m,(Zc ((for_tup j).trans b)).trans w,a.trans (e.trans n)⟩
def R.seekR{N:Nat}{f:Nat->Ot D}{y:Ot D}(A:∀ y d,Zf (E y) i d=E (aa d))(w:Y F s it (E y) (.int (N:Int)))(hN:N<=1000000)(z:∀ x,x < N->Bs F s q (E (jN x)) (f x))(u:∀ y,R F s p (E y) d):R F s (.seq (.for1 i ac it q) p) (E y) ((skR f (ag N)).getD d):=λst g=>by
 obtain⟨s1,C,a⟩:=w st g;obtain⟨n,m,b,h⟩:=Zgc (en:=λ(k:Nat)=>D.int (k:Int)) (l:=ag N) A (λx t=>z x (bV.mp t)) (y:=y) (g.trans a)
 have j:=Xw (F:=F) (i:=i) (e:=it) (q:=q) (v:=(N:Int)) (by omega) (by omega) C
 rw[aZ]at j;cases c:skR f (ag N) with
 |some v=>rw[c]at b;exact⟨m,Zj (j.trans b),a.trans h⟩
 |none=>
  rw[c]at b;obtain⟨o,B,r⟩:=u n m (g.trans (a.trans h));exact⟨o,(Zc (j.trans b)).trans B,a.trans (h.trans r)⟩
theorem ZhE{α:Type}{u v:α->D}{f:α->Ot D}{E:Ot D->Ot D->Env}(j:∀ y z c d,Zf (Zf (E y z) i c) i' d=E (aa c) (aa d)):∀ {l:Li α},(∀ x∈l,Bs F s q (E (aa (u x)) (aa (v x))) (f x))->∀ {y z:Ot D}{st:Za},Grw s st->∃ b a st',Z5 (λ_=>True) (λx y U s=>ex F q (Zf (Zf U i x) i' y) s) (l.map λx=>(u x,v x)) (E y z) st=aa (match skR f l with|some d=>.rt d|none=>.nx (E b a),st')/\Grw st st'
 |[],_,y,z,st,_=>⟨y,z,st,am trivial,.refl⟩
 |x :: l,h,y,z,st,g=>by
  obtain⟨s1,p,e⟩:=h x Ls st g;obtain⟨b,a,k,o,m⟩:=ZhE j (λz n=>h z (Lm _ n)) (y:=aa (u x)) (z:=aa (v x)) (g.trans e)
  rw[aQ,Z5,am trivial];simp only[j];rw[p];unfold skR;cases f x with
  |some d=>exact⟨y,z,s1,rfl,e⟩
  |none=>exact⟨b,a,k,o,e.trans m⟩
theorem V3{α:Type}{f:α->D}:∀ {k:Nat}{l:Li α},Xu k (l.map f)=(enm k l).map λp=>(D.int (p.1:Int),f p.2)
 |_,[]=>rfl
 |k,x :: l=>by show _ :: Xu (k+1) (l.map f)=_;rw[V3];rfl
def R.seekE{α:Type}{l:Li α}{en:α->D}{f:Nat×α->Ot D}{E:Ot D->Ot D->Env}{y z:Ot D}(B:∀ y z c d,Zf (Zf (E y z) i c) i' d=E (aa c) (aa d))(t:Y F s it (E y z) (.tup (l.map en)))(A:∀ x∈enm 0 l,Bs F s q (E (jN x.1) (aa (en x.2))) (f x))(r:∀ y z,R F s p (E y z) d):R F s (.seq (.forE i i' it q) p) (E y z) ((skR f (enm 0 l)).getD d):=λst g=>by
 obtain⟨s1,G,a⟩:=t st g;obtain⟨m,k,h,b,e⟩:=ZhE (u:=λp:Nat×α=>D.int (p.1:Int)) (v:=λp=>en p.2) B A (y:=y) (z:=z) (g.trans a)
 have j:ex F (.forE i i' it q) (E y z) st=Z5 (λ_=>True) (λx y U s=>ex F q (Zf (Zf U i x) i' y) s) ((enm 0 l).map λp=>(D.int (p.1:Int),en p.2)) (E y z) s1:=by
  rw[<-V3];show V4 i i' (ev F it) (ex F q) (E y z) st=_;unfold V4;rw[G];rfl
 cases c:skR f (enm 0 l) with
 |some w=>rw[c]at b;exact⟨h,Zj (j.trans b),a.trans e⟩
 |none=>
  rw[c]at b;obtain⟨n,C,o⟩:=r m k h (g.trans (a.trans e));exact⟨n,(Zc (j.trans b)).trans C,a.trans (e.trans o)⟩
end
def ZgP:D:=.tup [.str "end"]
def roD:Ot Rw->D
 |none=>ZgP
 |some r=>rwE r
def isE:Ot Rw->Bool
 |none=>ac
 |some (.tell _)=>ac
 |_=>ae
def XR:Rw->Li (Nat×Op)
 |.put _ y _ z=>[(2,y),(4,z)]
 |.ifr y _ z _=>[(1,y),(3,z)]
 |.tell y=>[(1,y)]
 |_=>[]
def inB(b:Nat):Op->Bool
 |.nm i=>b.testBit i
 |.nu _=>ac
def rdO(b:Nat)(r:Rw):Bool:=(XR r).all λp=>inB b p.2
def eaB(b:Nat)(o u:Ot Rw):Bool:=aj (o=u)&&(match o with|none=>ac|some r=>rdO b r)
def caB(b:Nat):Rw->Rw->Bool
 |.ifr y g z t,.ifr c d a _=>Zs [opE y,.str g,opE z] [opE c,.str d,opE a]&&rdO b (.ifr y g z t)
 |_,_=>ae
def woX(b:Nat):Rw->Nat
 |.put x _ _ _=>woN b x
 |_=>b
def isP:Rw->Bool
 |.put _ _ _ _=>ac
 |_=>ae
def tgR:Rw->Nat
 |.put x _ _ _=>x
 |_=>0
def stN(b:Nat)(r q:Rw):Nat:=if (isP r&&(aj (aa r=aa q)&&rdO b r))=ac then b ||| 2 ^ tgR r else woX (woX b r) q
def pbN(k:Nat):Rw->Li Nat
 |.go t=>[t]
 |.ifr _ _ _ t=>[t,k+1]
 |_=>[k+1]
section
variable{c:Nat}{q:Rw}{o:Ot Rw}
def Zg0:S "put"≠S "end"/\S "if"≠S "end"/\S "go"≠S "end"/\S "tell"≠S "end"/\S "skip"≠S "end":=by decide +kernel
def ZbX(o:Ot Rw):∃ a,roD o=.tup a/\okD 8 (.tup a)=ac:=by
 cases o with
 |none=>exact⟨_,rfl,rfl⟩
 |some r=>exact Qk r
def ZfU(h:roD o=roD u):o=u:=by
 obtain⟨f,e,d,c,b⟩:=Zg0;have a:∀ r:Rw,rwE r≠ZgP:=λr h=>by
  cases r with
  |put _ _ _ _=>exact aq (ZJ h) f
  |ifr _ _ _ _=>exact aq (ZJ h) e
  |go _=>exact aq (ZJ h) d
  |tell _=>exact aq (ZJ h) c
  |skip=>exact aq (ZJ h) b
 cases o with
 |none=>cases u with
  |none=>rfl
  |some r=>exact aq h.symm (a r)
 |some r=>cases u with
  |none=>exact aq h (a r)
  |some q=>rw[ZfV h]
def Y.eqro(g:Y F s a U (roD o))(f:Y F s b U (roD u)):Y F s (.cmp .Eq a b) U (.bl (aj (o=u))):=by
 obtain⟨j,c,i⟩:=ZbX o;obtain⟨ys,d,k⟩:=ZbX u;have e:aj (o=u)=Zs j ys:=by
  rw[Zao i];refine decide_eq_decide.mpr ⟨λh=>?_,λh=>ZfU (by rw[c,d,h])⟩
  rw[h,d]at c;injection c with c;exact c.symm
 rw[c]at g;rw[d]at f;rw[e];exact .eqd g f i k
inductive RoP(m:Nat)(rs:List Rw)(k:Nat):Option Rw->Prop where
 |e (h:rs.length<=k):RoP m rs k ab
 |r {r r':Rw} (h:rs[k]?=aa r) (ok:ZC m rs.length r'):RoP m rs k (aa r')
def Qy(p:Rs m rs):CX (rT (n+6)) 115 [pgD tk m rs,.int (k:Int)] (λd=>∃ o,d=roD o/\RoP m rs k o):=by
 have f:∀ s,Y (rT (n+5)) s (.cmp .GtE (.v 1) (.len (.ix (.v 0) (.i 2)))) [aa (pgD tk m rs),jN k] (.bl (aj ((rs.length:Int)<=(k:Int)))):=λs=>by
  have:=Y.cmp (F:=rT (n+5)) (s:=s) (op:=.GtE) (a:=.v 1) (b:=.len (.ix (.v 0) (.i 2))) (U:=[aa (pgD tk m rs),jN k]) (x:=.int (k:Int)) (y:=.int ((rs.map rwE).length:Int)) (.r rf) (.lnT (.r rf)) λ_=>rfl
  rw[aB]at this;exact this
 by_cases h:rs.length<=k
 .exact .of (v:=c_row_at) rfl rfl (.pick f (λ_=>.ret (λs=>.r rf) ⟨ab,rfl,.e h⟩) λq=>aq (ak q) (by omega))
 .have c:=Lg (l:=rs) (i:=k) (by omega)
  obtain⟨d,t,g,u,ok⟩:=J7 (n:=n) (j:=k) (p.ok _ (aX c));subst u;exact .of (v:=c_row_at) rfl rfl (.pick f (λq=>aq (al q) (by omega)) λ_=>.ret (λs=>.call (xs:=[rwE rs[k],.int (k:Int)]) (.cons (.ixt (j:=k) (xs:=rs.map rwE) (.r rf) (.r rf) (by rw[aU,c];rfl)) (.r rf)) (t s)) ⟨aa g,rfl,.r c ok⟩)
def J2:C (rT (n+1)) s 116 [roD o] (.bl (isE o)):=by
 have a:Y (rT n) s (.cmp .Eq (.v 0) (.c (.tup [.str "end"]))) [aa (roD o)] (.bl (aj (o=ab))):=.eqro (u:=ab) (.r rf) (.r rf);cases o with
 |none=>exact .of (v:=c_ends_run) rfl rfl (.ret (.or (k:=ac) (m:=ae) a λq=>nomatch q))
 |some r=>cases r<;>exact .of (v:=c_ends_run) rfl rfl (.ret (.or (k:=ae) a λ_=>.r rf))
def ZfB:∀ p∈XR r,∃ b,rwE r=.tup b/\b[p.1]?=aa (opE p.2):=λp a=>by
 cases r with
 |put x y g z=>
  simp only[XR,aF,aV,or_false]at a;rcases a with rfl|rfl<;>exact⟨_,rfl,rfl⟩
 |ifr y g z t=>
  simp only[XR,aF,aV,or_false]at a;rcases a with rfl|rfl<;>exact⟨_,rfl,rfl⟩
 |tell y=>
  simp only[XR,aF,aV,or_false]at a;subst a;exact⟨_,rfl,rfl⟩
 |go t=>cases a
 |skip=>cases a
def ZfC(h:ZC m sz r):∀ p∈XR r,Xp m p.2:=λp a=>by
 cases r with
 |put x y g z=>
  simp only[XR,aF,aV,or_false]at a;rcases a with rfl|rfl
  .exact h.2.1
  .exact h.2.2.2
 |ifr y g z t=>
  simp only[XR,aF,aV,or_false]at a;rcases a with rfl|rfl
  .exact h.1
  .exact h.2.2.1
 |tell y=>
  simp only[XR,aF,aV,or_false]at a;subst a;exact h
 |go t=>cases a
 |skip=>cases a
def Zaa:C (rT (n+1)) s 113 [rwE r] (.tup ((XR r).map λp=>.int (p.1:Int))):=by
 cases r<;>exact .of (v:=c_operand_places) rfl rfl (.ret (.r rf))
def Vd(f:m<=60)(h:ZC m sz r):C (rT (n+3)) s 117 [rwE r,.int (c:Int)] (.bl (rdO c r)):=by
 have e:D.bl (rdO c r)=(skR (λp:Nat×Op=>if (!inB c p.2)=ac then aa (.bl ae) else ab) (XR r)).getD (.bl ac):=by
  unfold rdO
  induction XR r with
  |nil=>rfl
  |cons p l d=>
   unfold skR;rw[bE];cases inB c p.2 with
   |true=>exact d
   |false=>rfl
 rw[e];refine .of (v:=c_reads_only) rfl rfl (.seekD (i:=2) (l:=XR r) (en:=λp=>.int (p.1:Int)) (E:=λy=>[aa (rwE r),jN c,y]) (λ_ _=>rfl) (.call (xs:=[rwE r]) (.r rf) Zaa) (λp b=>?_) λy=>.ret (.r rf))
 obtain⟨xs,o,g⟩:=ZfB p b;have a:Y (rT (n+2)) s (.ix (.v 0) (.v 2)) [aa (rwE r),jN c,jN p.1] (opE p.2):=by
  rw[o];exact .ixt (j:=p.1) (xs:=xs) (.r rf) (.r rf) g
 have ok:=ZfC h p b;refine .ite (t:=!inB c p.2) ?_ (λ_=>.r rf) λ_=>.skip
 cases q:p.2 with
 |nm x=>
  rw[q]at a ok;exact .and (k:=ac) (.cmp (x:=.str "name") (.ixt (j:=0) a (.r rf) rfl) (.r rf) λ_=>rfl) λ_=>.not (.call (xs:=[.int (c:Int),.int (x:Int)]) (.cons (.r rf) (.cons (.ixt (j:=1) a (.r rf) rfl) .nil)) (ZeL (cV (aT ok f))))
 |nu v=>
  rw[q]at a;exact .and (k:=ae) (m:=ae) (.cmp (x:=.str "number") (.ixt (j:=0) a (.r rf) rfl) (.r rf) λ_=>rfl) λq=>nomatch q
def Qu(b:m<=60)(h:∀ r,o=aa r->ZC m sz r):C (rT (n+4)) s 118 [roD o,roD u,.int (c:Int)] (.bl (eaB c o u)):=by
 refine .of (v:=c_end_alike) rfl rfl (.ret (.and (.eqro (.r rf) (.r rf)) λ_=>?_))
 have a:Y (rT (n+3)) s (.cmp .Eq (.v 0) (.c (.tup [.str "end"]))) [aa (roD o),aa (roD u),jN c] (.bl (aj (o=ab))):=.eqro (u:=ab) (.r rf) (.r rf);cases o with
 |none=>exact .or (k:=ac) (m:=ae) a λq=>nomatch q
 |some r=>exact .or (k:=ae) a λ_=>.call (xs:=[rwE r,.int (c:Int)]) (.r rf) (Vd b (h r rfl))
def Zcq(d:m<=60)(h:ZC m sz r):C (rT (n+4)) s 119 [rwE r,rwE q,.int (c:Int)] (.bl (caB c r q)):=by
 cases r with
 |ifr y g z t=>cases q with
  |ifr b e a f=>
   refine .of (v:=c_choose_alike) rfl rfl (.ret (.and (k:=ac) (.r rf) λ_=>.and (k:=ac) (.r rf) λ_=>.and (.eqd (xs:=[opE y,.str g,opE z]) (ys:=[opE b,.str e,opE a]) (.r rf) (.r rf) ?_ ?_) λ_=>.call (xs:=[rwE (.ifr y g z t),.int (c:Int)]) (.r rf) (Vd d h)))
   .cases y<;>cases z<;>rfl
   .cases b<;>cases a<;>rfl
  |_=>exact .of (v:=c_choose_alike) rfl rfl (.ret (.and (k:=ac) (.r rf) λ_=>.and (k:=ae) (m:=ae) (.r rf) λq=>nomatch q))
 |_=>exact .of (v:=c_choose_alike) rfl rfl (.ret (.and (k:=ae) (m:=ae) (.r rf) λq=>nomatch q))
def Jj{A B y:Ot D}(d:m<=60)(h:ZC m sz r):∀ st,Grw s st->∃ st',ex (rT (n+3)) ZE [A,B,jN c,aa (rwE r)] st=aa (.nx [A,B,aa (.int ((woX c r:Nat):Int)),aa (rwE r)],st')/\Grw st st':=λst g=>by
 cases r with
 |put x y g z=>
  obtain⟨s1,e,b⟩:=Y.call (F:=rT (n+3)) (s:=st) (f:=57) (a:=.aC (.v 2) (.u (.ix (.v 3) (.i 1)))) (U:=[A,B,jN c,aa (rwE (.put x y g z))]) (xs:=[.int (c:Int),.int (x:Int)]) (ds:=[]) (.r rf) (Zgz (n:=n+1) (cV (aT h.1 d))) st .refl;exact⟨s1,(Zc ((Z1 rfl).trans ((Zc (Zk e)).trans Zh))).trans Zh,b⟩
 |_=>exact⟨st,(Zc ((Y3 rfl).trans Zh)).trans Zh,.refl⟩
def ZeQ(a:m<=60)(h:ZC m sz r)(p:ZC m sz q):C (rT (n+4)) s 120 [rwE r,rwE q,.int (c:Int)] (.int ((stN c r q:Nat):Int)):=by
 have b:R (rT (n+3)) s (.seq (.for1 3 ae (.tupE (.aC (.v 0) (.u (.v 1)))) ZE) (.z (.ret (.v 2)))) [aa (rwE r),aa (rwE q),jN c,ab] (.int ((woX (woX c r) q:Nat):Int)):=λst g=>by
  obtain⟨s1,E,l⟩:=Jj (n:=n) (s:=st) (c:=c) (A:=aa (rwE r)) (B:=aa (rwE q)) (y:=ab) a h st .refl;obtain⟨e,D,j⟩:=Jj (n:=n) (s:=s1) (c:=woX c r) (A:=aa (rwE r)) (B:=aa (rwE q)) (y:=ab) a p s1 .refl;refine⟨e,(Zc (U':=[aa (rwE r),aa (rwE q),aa (.int ((woX (woX c r) q:Nat):Int)),aa (rwE q)]) (s':=e) ((for_tup (xs:=[rwE r,rwE q]) rfl).trans ?_)).trans (Zj (ZK rfl)),l.trans j⟩
  show(match ex (rT (n+3)) ZE [aa (rwE r),aa (rwE q),jN c,aa (rwE r)] st with
   |some (.nx U',st')=>Zi (λd U s=>ex (rT (n+3)) ZE (Zf U 3 d) s) [rwE q] U' st'
   |some (.ct U',st')=>Zi (λd U s=>ex (rT (n+3)) ZE (Zf U 3 d) s) [rwE q] U' st'
   |some (.bk U',st')=>aa (.nx U',st')
   |some (.rt v,st')=>aa (.rt v,st')
   |none=>ab)=_
  rw[E];show(match ex (rT (n+3)) ZE [aa (rwE r),aa (rwE q),aa (.int ((woX c r:Nat):Int)),aa (rwE q)] s1 with
   |some (.nx U',st')=>Zi (λd U s=>ex (rT (n+3)) ZE (Zf U 3 d) s) [] U' st'
   |some (.ct U',st')=>Zi (λd U s=>ex (rT (n+3)) ZE (Zf U 3 d) s) [] U' st'
   |some (.bk U',st')=>aa (.nx U',st')
   |some (.rt v,st')=>aa (.rt v,st')
   |none=>ab)=_
  rw[D];rfl
 have f:Y (rT (n+3)) s (.cmp .Eq (.ix (.v 0) (.i 0)) (.t "put")) [aa (rwE r),aa (rwE q),jN c,ab] (.bl (isP r)):=by cases r<;>exact .r rf
 refine .of (v:=c_staying) rfl rfl (.pick (k:=isP r&&(aj (aa r=aa q)&&rdO c r)) (.and f λ_=>.and (.eqro (o:=aa r) (u:=aa q) (.r rf) (.r rf)) λ_=>.call (xs:=[rwE r,.int (c:Int)]) (.r rf) (Vd a h)) (λz=>?_) λz=>?_)
 .unfold stN
  rw[am z];cases r with
  |put x y g w=>exact .ret (.bor (.r rf) (.call1 (x:=.int (x:Int)) (.r rf) (Qt (cV (aT h.1 a)))))
  |_=>cases z
 .unfold stN
  rw[ao (by rw[z];decide)]
  exact b
def VN:C (rT (n+1)) s 121 [rwE r,.int (k:Int)] (.tup ((pbN k r).map λ(x:Nat)=>D.int (x:Int))):=by
 have one:∀ {U:Env},U[1]?=aa (jN k)->Y (rT n) s (.bin .Add (.v 1) (.i 1)) U (.int ((k+1:Nat):Int)):=λ{U} h=>by
  rw[bC];exact .add (.v h) (.r rf)
 cases r with
 |go t=>exact .of (v:=c_places_behind) rfl rfl (.yes (.r rf) (.r rf))
 |ifr y g z t=>
  show C _ _ _ _ (.tup [.int (t:Int),.int ((k+1:Nat):Int)]);exact .of (v:=c_places_behind) rfl rfl (.no (.r rf) (.yes (.r rf) (.cons (.r rf) (.cons (one rfl) .nil))))
 |_=>
  show C _ _ _ _ (.tup [.int ((k+1:Nat):Int)]);exact .of (v:=c_places_behind) rfl rfl (.no (.r rf) (.no (.r rf) (.ret (.cons (one rfl) .nil))))
end
def trD(t:Nat×Nat×Nat):D:=.tup [.int (t.1:Int),.int (t.2.1:Int),.int (t.2.2:Int)]
structure FolT(m:Nat)(rs rs':List Rw)(k j c:Nat)(ts:List (Nat×Nat×Nat)):Prop where
 l:ts.length<=4
 b:∀ t∈ts,t.1<=rs.length/\t.2.1<=rs'.length/\t.2.2 < 2 ^ m
def Zh4(m:Nat)(rs a:Li Rw)(k j c:Nat)(d:D):Prop:=d=.non\/∃ b,d=.tup (b.map trD)/\FolT m rs a k j c b
variable{rs':Li Rw}{ws:Li Int}
section
variable{c:Nat}{q:Rw}{o:Ot Rw}{y:Op}
def Zgd(h:caB c r q=ac):∃ y g z t b e a d,r=.ifr y g z t/\q=.ifr b e a d:=by
 cases r with
 |ifr y g z t=>cases q with
  |ifr b e a d=>exact⟨y,g,z,t,b,e,a,d,rfl,rfl⟩
  |_=>cases h
 |_=>cases h
def ZeJ:woX c r<=c:=by
 cases r with
 |put x y g z=>exact Nat.sub_le _ _
 |_=>exact aD _
def ZhM(a:c < 2 ^ m)(ok:ZC m sz r):stN c r q < 2 ^ m:=by
 unfold stN;split
 .rename_i z
  rw[Ba]at z;cases r with
  |put x y g w=>exact Nat.or_lt_two_pow a (Nat.pow_lt_pow_right (by decide) ok.1)
  |_=>cases z.1
 .exact Nat.lt_of_le_of_lt (aM ZeJ ZeJ) a
def Zew(a:k < sz)(ok:ZC m sz r):∀ x∈pbN k r,x<=sz:=λx hx=>by
 cases r with
 |go t=>rw[aR.mp hx];exact ok
 |ifr y g z t=>
  rcases aF.mp hx with rfl|hx
  .exact ok.2.2.2
  .rw[aR.mp hx];exact a
 |_=>rw[aR.mp hx];exact a
def Qb:(pbN k r).length<=2:=by cases r<;>first|exact aD _|exact Nat.le_succ _
def ZaL(k j c:Nat)(r q:Rw):Li (Nat×Nat×Nat):=(pbN k r).flatMap λp=>(pbN j q).map λa=>(p,a,stN c r q)
def QO:(ZaL k j c r q).length<=4:=by
 have d:=Qb (k:=j) (r:=q);have h:∀ l:Li Nat,(l.flatMap λp=>(pbN j q).map λa=>(p,a,stN c r q)).length<=2 * l.length:=λl=>by
  induction l with
  |nil=>exact aD _
  |cons x l b=>rw[bU,aI,aB,aP];omega
 have:=h (pbN k r);have:=Qb (k:=k) (r:=r);unfold ZaL;omega
def J4(O:Rs m rs)(F:Rs m rs')(A:m<=60)(G:c < 2 ^ m):CX (rT (n+7)) 122 [pgD tk m rs,pgD tk m rs',.int (k:Int),.int (j:Int),.int (c:Int)] (Zh4 m rs rs' k j c):=by
 refine .of (v:=c_follow) rfl rfl (.setC (xs:=[pgD tk m rs,.int (k:Int)]) (λs=>.r rf) (Qy O) λd ⟨o,R,J⟩=>.setC (xs:=[pgD tk m rs',.int (j:Int)]) (λs=>.r rf) (Qy F) λZ ⟨u,Q,I⟩=>?_)
 subst R;subst Q
 have w:∀ r,o=aa r->ZC m rs.length r:=λr e=>by
  subst e;cases J with|r h ok=>exact ok
 have C:∀ r,u=aa r->ZC m rs'.length r:=λr e=>by
  subst e;cases I with|r h ok=>exact ok
 refine .pick (k:=isE o||isE u) (λs=>.or (.call1 (.r rf) J2) λ_=>.call1 (.r rf) J2) (λB=>?_) λB=>?_
 .cases q:eaB c o u with
  |true=>
   exact .ret (d:=.tup []) (λs=>.ife (k:=ac) (by rw[<-q];exact .call (xs:=[roD o,roD u,.int (c:Int)]) (.r rf) (Qu (n:=n+2) A w)) (.r rf)) (.inr ⟨[],rfl,aO _,λt h=>(nomatch h)⟩)
  |false=>exact .ret (d:=.non) (λs=>.ife (k:=ae) (by rw[<-q];exact .call (xs:=[roD o,roD u,.int (c:Int)]) (.r rf) (Qu (n:=n+2) A w)) (.r rf)) (.inl rfl)
 .rw[Bool.or_eq_false_iff]at B
  cases o with
  |none=>cases B.1
  |some r=>cases u with
   |none=>cases B.2
   |some q=>
    have b:=w r rfl;have o2:=C q rfl;have L:k < rs.length:=by cases J with|r h ok=>exact Zv h
    have K:j < rs'.length:=by cases I with|r h ok=>exact Zv h
    refine .pick (k:=caB c r q) (λs=>.call (xs:=[rwE r,rwE q,.int (c:Int)]) (.r rf) (Zcq (n:=n+2) A b)) (λP=>?_) λ_=>?_
    .obtain⟨y,g,z,t,T,X,S,H,rfl,rfl⟩:=Zgd P
     refine .ret (d:=.tup [trD (t,H,c),trD (k+1,j+1,c)]) (λs=>?_) (.inr ⟨[(t,H,c),(k+1,j+1,c)],rfl,(show 2<=4 by decide),λp hp=>?_⟩)
     .have one:∀ {i v:Nat}{U:Env},U[i]?=aa (jN v)->Y (rT (n+6)) s (.bin .Add (.v i) (.i 1)) U (.int ((v+1:Nat):Int)):=λ{i v U} h=>by
       rw[bC];exact .add (.v h) (.r rf)
      exact .cons (.cons (.r rf) (.cons (.r rf) (.cons (.r rf) .nil))) (.cons (.cons (one (i:=2) rfl) (.cons (one (i:=3) rfl) (.cons (.r rf) .nil))) .nil)
     .rcases aF.mp hp with rfl|hp
      .exact⟨b.2.2.2,o2.2.2.2,G⟩
      .rw[aR.mp hp];exact⟨L,K,G⟩
    .refine .set (λs=>.call (xs:=[rwE r,rwE q,.int (c:Int)]) (.r rf) (ZeQ (n:=n+2) (sz:=max rs.length rs'.length) A ?_ ?_)) ⟨.tup ((ZaL k j c r q).map trD),λs=>?_,.inr ⟨_,rfl,QO,λp hp=>?_⟩⟩
     .cases r<;>first|exact b|exact aM b (Nat.le_max_left _ _)|exact⟨b.1,b.2.1,b.2.2.1,aM b.2.2.2 (Nat.le_max_left _ _)⟩
     .cases q<;>first|exact o2|exact aM o2 (Nat.le_max_right _ _)|exact⟨o2.1,o2.2.1,o2.2.2.1,aM o2.2.2.2 (Nat.le_max_right _ _)⟩
     .have e:(ZaL k j c r q).map trD=(pbN k r).flatMap λp=>(pbN j q).map λa=>trD (p,a,stN c r q):=by
       unfold ZaL;rw[cU];exact ar (λf=>(pbN k r).flatMap f) (funext λp=>bL)
      rw[e];refine .gather (i0:=8) (i:=9) (E:=λy l=>[aa (pgD tk m rs),aa (pgD tk m rs'),jN k,jN j,jN c,aa (rwE r),aa (rwE q),jI (stN c r q:Nat),jL l,y]) (en:=λ(p:Nat)=>D.int (p:Int)) (λ_=>rfl) (λ_ _ _=>rfl) (λ_ _=>rfl) (λl=>.call (xs:=[rwE r,.int (k:Int)]) (.r rf) VN) (λl V p hp=>.one (.ext rfl (Wu (en:=λ(p:Nat)=>D.int (p:Int)) (g:=λa=>trD (p,a,stN c r q)) (.of (x:=.tup ((pbN j q).map λ(x:Nat)=>D.int (x:Int))) (.call (xs:=[rwE q,.int (j:Int)]) (.r rf) VN) λst=>rfl) (by have:=Qb (k:=j) (r:=q);omega) λa W=>.cons (.r rf) (.cons (.r rf) (.cons (.r rf) .nil))))) ?_
      rw[<-e,aB];have:=QO (k:=k) (j:=j) (c:=c) (r:=r) (q:=q);omega
     .obtain⟨x,N,hp⟩:=dS.mp hp
      obtain⟨z,M,rfl⟩:=aS.mp hp;exact⟨Zew L b x N,Zew K o2 z M,ZhM G b⟩
end
abbrev Tr:=Nat×Nat×Nat
def lk:Li Tr->Nat->Nat->Ot Nat
 |[],_,_=>ab
 |t :: a,k,j=>if t.1=k/\t.2.1=j then aa t.2.2 else lk a k j
def pt:Li Tr->Nat->Nat->Nat->Li Tr
 |[],k,j,b=>[(k,j,b)]
 |t :: a,k,j,b=>if t.1=k/\t.2.1=j then (k,j,b) :: a else t :: pt a k j b
def ky(t:Tr):Nat×Nat:=(t.1,t.2.1)
def sb(a:Li Tr):Nat:=(a.map λt=>t.2.2).sum
variable{ts us:Li Tr}{ah:Li (Nat×Nat)}
section
variable{b c k' j':Nat}{t u:Tr}
theorem U5:∀ {ts:Li Tr},lk ts k j=aa b->(k,j,b)∈ts
 |t :: ts,h=>by
  unfold lk at h;split at h
  .rename_i e;cases h;rw[<-e.1,<-e.2];exact Ls
  .exact Lm _ (U5 h)
theorem U4:∀ {ts:Li Tr},(k,j)∈ts.map ky->∃ b,lk ts k j=aa b
 |t :: ts,h=>by
  unfold lk;split
  .exact⟨_,rfl⟩
  .rename_i n
   rcases aF.mp h with h|h
   .exact aq ⟨(ar Prod.fst h).symm,(ar Prod.snd h).symm⟩ n
   .exact U4 h
theorem QY:∀ {ts:Li Tr},lk ts k j=ab->∀ t∈ts,¬(t.1=k/\t.2.1=j)
 |t :: ts,h,u,hu=>by
  unfold lk at h;split at h
  .cases h
  .rename_i n
   rcases aF.mp hu with rfl|hu
   .exact n
   .exact QY h u hu
theorem Qc:∀ {ts:Li Tr},u∈pt ts k j b->u=(k,j,b)\/u∈ts
 |[],h=>.inl (aR.mp h)
 |t :: ts,h=>by
  unfold pt at h;split at h
  .rcases aF.mp h with h|h
   .exact .inl h
   .exact .inr (Lm _ h)
  .rcases aF.mp h with rfl|h
   .exact .inr Ls
   .exact(Qc h).imp_right (Lm _)
theorem Zey:∀ {ts:Li Tr},(ts.map ky).Nodup->((pt ts k j b).map ky).Nodup
 |[],_=>bP.mpr ⟨λh=>(nomatch h),List.nodup_nil⟩
 |t :: ts,h=>by
  have h:(ky t :: ts.map ky).Nodup:=h;unfold pt;split
  .rename_i e
   have e:ky t=(k,j):=by show(t.1,t.2.1)=_;rw[e.1,e.2]
   rw[e]at h;exact h
  .rename_i n
   rw[bP]at h;refine bP.mpr ⟨λq=>?_,Zey h.2⟩
   obtain⟨u,hu,a⟩:=aS.mp q;rcases Qc hu with rfl|hu
   .exact n ⟨(ar Prod.fst a).symm,(ar Prod.snd a).symm⟩
   .exact h.1 (aS.mpr ⟨u,hu,a⟩)
theorem VC:∀ {ts:Li Tr}{x:Nat×Nat},x=(k,j)\/x∈ts.map ky->x∈(pt ts k j b).map ky
 |[],x,h=>h.elim (λe=>by rw[e];exact Ls) λh=>nomatch h
 |t :: ts,x,h=>by
  unfold pt;split
  .rename_i e
   have e:ky t=(k,j):=by show(t.1,t.2.1)=_;rw[e.1,e.2]
   rcases h with h|h
   .rw[h];exact Ls
   .rcases aF.mp h with h|h
    .rw[h,e];exact Ls
    .exact Lm _ h
  .rcases h with h|h
   .exact Lm _ (VC (.inl h))
   .rcases aF.mp h with h|h
    .rw[h];exact Ls
    .exact Lm _ (VC (.inr h))
theorem Jg:∀ {ts:Li Tr},lk ts k j=aa c->(pt ts k j b).length=ts.length/\sb (pt ts k j b)+c=sb ts+b
 |t :: ts,h=>by
  unfold lk at h;unfold pt;split at h
  .rename_i e
   cases h;rw[am e];refine⟨rfl,?_⟩;show b+sb ts+t.2.2=t.2.2+sb ts+b;omega
  .rename_i n
   rw[ao n];obtain⟨a,d⟩:=Jg h;refine⟨ar (·+1) a,?_⟩;show t.2.2+sb (pt ts k j b)+c=t.2.2+sb ts+b;omega
theorem Jf:∀ {ts:Li Tr},lk ts k j=ab->(pt ts k j b).length=ts.length+1/\sb (pt ts k j b)=sb ts+b
 |[],_=>⟨rfl,by show b+0=0+b;omega⟩
 |t :: ts,h=>by
  unfold lk at h;unfold pt;split at h
  .cases h
  .rename_i n
   rw[ao n];obtain⟨a,c⟩:=Jf h;refine⟨ar (·+1) a,?_⟩;show t.2.2+sb (pt ts k j b)=t.2.2+sb ts+b;omega
theorem Zes{α:Type}[DecidableEq α]:∀ {l l':Li α},l.Nodup->(∀ x∈l,x∈l')->l.length<=l'.length
 |[],_,_,_=>aO _
 |x :: l,l',h,c=>by
  rw[bP]at h;have b:=c x Ls;have:=Zes (l':=l'.erase x) h.2 λz a=>(List.mem_erase_of_ne λe=>h.1 (by rw[<-e];exact a)).mpr (c z (Lm _ a))
  rw[List.length_erase_of_mem b]at this;have:=List.length_pos_of_mem b;rw[aP];omega
def ZeV(sz:Nat):Li (Nat×Nat):=(ag (sz+1)).flatMap λk=>(ag (sz+1)).map λj=>(k,j)
def Zah:(ZeV sz).length=(sz+1) * (sz+1):=by
 have h:∀ l:Li Nat,(l.flatMap λk=>(ag (sz+1)).map λj=>(k,j)).length=l.length * (sz+1):=λl=>by
  induction l with
  |nil=>exact(Nat.zero_mul _).symm
  |cons x l a=>rw[bU,aI,a,aB,bK,aP,Nat.add_mul,cR,Nat.add_comm]
 unfold ZeV;rw[h,bK]
def Qq(c:(ts.map ky).Nodup)(d:∀ t∈ts,t.1<=sz/\t.2.1<=sz/\t.2.2 < 2 ^ m):ts.length<=(sz+1) * (sz+1):=by
 have:=Zes (l':=ZeV sz) c λx a=>by
  obtain⟨t,b,rfl⟩:=aS.mp a;obtain⟨f,e,_⟩:=d t b;exact dS.mpr ⟨t.1,bV.mpr (by omega),aS.mpr ⟨t.2.1,bV.mpr (by omega),rfl⟩⟩
 rwa [Zah,aB]at this
def mu(m sz:Nat)(ts:Li Tr)(ah:Li (Nat×Nat)):Nat:=2 * (sb ts+2 ^ m * ((sz+1) * (sz+1) - ts.length))+ah.length
structure In(m sz M:Nat)(ts:List Tr)(ah:List (Nat×Nat)):Prop where
 nd:(ts.map ky).Nodup
 bd:∀ t∈ts,t.1<=sz/\t.2.1<=sz/\t.2.2 < 2 ^ m
 ai:∀ x∈ah,x∈ts.map ky
 mu:mu m sz ts ah<=M
def s1(x:Li Tr×Li (Nat×Nat))(u:Tr):Li Tr×Li (Nat×Nat):=
 if lk x.1 u.1 u.2.1=aa (u.2.2 &&& (lk x.1 u.1 u.2.1).getD u.2.2) then x else (pt x.1 u.1 u.2.1 (u.2.2 &&& (lk x.1 u.1 u.2.1).getD u.2.2),x.2++[(u.1,u.2.1)])
def In.step{M:Nat}(h:In m sz M ts ah)(hu:u.1<=sz/\u.2.1<=sz/\u.2.2 < 2 ^ m):In m sz M (s1 (ts,ah) u).1 (s1 (ts,ah) u).2:=by
 unfold s1;generalize i:u.2.2 &&& (lk ts u.1 u.2.1).getD u.2.2=b;have bl:b < 2 ^ m:=by
  rw[<-i];exact Nat.lt_of_le_of_lt Nat.and_le_left hu.2.2
 dsimp only;split
 .rename_i e
  exact h
 .rename_i e
  have d:=Zey (k:=u.1) (j:=u.2.1) (b:=b) h.nd;have l:∀ t∈pt ts u.1 u.2.1 b,t.1<=sz/\t.2.1<=sz/\t.2.2 < 2 ^ m:=λt ht=>by
   rcases Qc ht with rfl|ht
   .exact⟨hu.1,hu.2.1,bl⟩
   .exact h.bd t ht
  have n:=Qq d l;refine⟨d,l,λx hx=>?_,?_⟩
  .rcases bO.mp hx with hx|hx
   .exact VC (.inr (h.ai x hx))
   .exact VC (.inl (aR.mp hx))
  .have g:=h.mu
   unfold Dp.mu at g ⊢
   rw[aI];show 2 * (sb (pt ts u.1 u.2.1 b)+2 ^ m * ((sz+1) * (sz+1) - (pt ts u.1 u.2.1 b).length))+(ah.length+1)<=M;cases q:lk ts u.1 u.2.1 with
   |some c=>
    obtain⟨a,f⟩:=Jg (b:=b) q;rw[a];have:b<=c:=by rw[<-i,q];exact Nat.and_le_right
    have:b≠c:=λz=>e (by rw[q,z])
    omega
   |none=>
    obtain⟨a,f⟩:=Jf (b:=b) q;rw[a,f];rw[a]at n;obtain⟨w,o⟩:∃ w,(sz+1) * (sz+1) - ts.length=w+1:=⟨(sz+1) * (sz+1) - ts.length - 1,by omega⟩
    rw[show(sz+1) * (sz+1) - (ts.length+1)=w by omega]
    rw[o,Nat.mul_succ]at g;omega
structure Cl(m sz:Nat)(ts:List Tr):Prop where
 nd:(ts.map ky).Nodup
 bd:∀ t∈ts,t.1<=sz/\t.2.1<=sz/\t.2.2 < 2 ^ m
def Zfv(h:rs.length<=k):mv rs k vs=.inl noD:=by unfold mv;rw[dH h]
end
def prN(p:Nat×Nat):D:=.tup [.int (p.1:Int),.int (p.2:Int)]
def iN(b:Nat):D:=.int (b:Int)
def bI:CS:=.seq (.set 9 (.bin .BitAnd (.v 8) (.dgN (.v 2) (.tupE (.aC (.v 6) (.u (.v 7)))) (.v 8))))
 (.z (.ite (.cmp .NotEq (.dgN (.v 2) (.tupE (.aC (.v 6) (.u (.v 7)))) (.c .non)) (.v 9)) (.seq (.dput 2 (.v 6) (.v 7) (.v 9))
 (.z (.app 3 (.tupE (.aC (.v 6) (.u (.v 7))))))) .skip))
def cW:CE:=.cmp .Gt (.len (.v 3)) (.i 0)
def bW:CS:=.seq (.set 4 (.pop (.v 3)))
 (.seq (.set 5 (.call 122 (.aC (.v 0) (.aC (.v 1) (.aC (.ix (.v 4) (.i 0)) (.aC (.ix (.v 4) (.i 1)) (.u (.ix (.v 2) (.v 4))))))) []))
 (.seq (.ite (.cmp .Is (.v 5) (.c .non)) (.z (.ret (.c .non))) .skip)
 (.z (.for4 6 7 8 (.v 5) bI))))
variable{A B:D}{x4 x5 x6 x7 x8 x9:Ot D}
section
variable{b c M q:Nat}{dn:Li Tr}{u p:Tr}
def En(A B:D)(q w:Nat)(x4 x5 x6 x7 x8 x9:Ot D):Env:=[aa A,aa B,aa (.dic q),jL w,x4,x5,x6,x7,x8,x9]
def isk:isK (k:Int) (j:Int) (trD u)=aj (u.1=k/\u.2.1=j):=by
 show(aj ((u.1:Int)=(k:Int))&&aj ((u.2.1:Int)=(j:Int)))=_;rw[<-Bool.decide_and];exact decide_eq_decide.mpr ⟨λh=>⟨Int.ofNat.inj h.1,Int.ofNat.inj h.2⟩,λh=>⟨ar Int.ofNat h.1,ar Int.ofNat h.2⟩⟩
theorem VZ:∀ {ts:Li Tr},Ya (ts.map trD) (k:Int) (j:Int)=(lk ts k j).map iN
 |[]=>rfl
 |t :: ts=>by
  unfold Ya lk;rw[aQ,cP,isk];by_cases h:t.1=k/\t.2.1=j
  .rw[am h,aK h];rfl
  .rw[ao h,aG h];exact VZ
theorem ZbU:∀ {ts:Li Tr},lk ts k j=ab->pt ts k j b=ts++[(k,j,b)]
 |[],_=>rfl
 |t :: ts,h=>by
  unfold lk at h;split at h
  .cases h
  .rename_i n
   unfold pt;rw[ao n,ZbU h];rfl
theorem ZbV:∀ {ts:Li Tr},(ts.map ky).Nodup->lk ts k j=aa c->(ts.map trD).map (λe=>if isK (k:Int) (j:Int) e=ac then D.tup [.int (k:Int),.int (j:Int),.int (b:Int)] else e)=(pt ts k j b).map trD
 |t :: ts,a,h=>by
  have a:(ky t :: ts.map ky).Nodup:=a;rw[bP]at a;unfold lk at h;unfold pt;rw[aQ,aQ,isk];split at h
  .rename_i e
   rw[am e,am (aK e),aQ];refine ar (D.tup [.int (k:Int),.int (j:Int),.int (b:Int)] :: ·) ?_;rw[bL];refine List.map_congr_left λu d=>?_
   show(if isK (k:Int) (j:Int) (trD u)=ac then _ else trD u)=trD u
   rw[isk,ao λz=>a.1 ?_]
   have z:=al z;exact aS.mpr ⟨u,d,by show(u.1,u.2.1)=(t.1,t.2.1);rw[z.1,z.2,e.1,e.2]⟩
  .rename_i n
   rw[ao n,ao (λz=>n (al z)),aQ,ZbV a.2 h]
def ZcQ(nd:(ts.map ky).Nodup):Wm (ts.map trD) (k:Int) (j:Int) (.int (b:Int))=(pt ts k j b).map trD:=by
 unfold Wm;cases h:lk ts k j with
 |none=>
  rw[ao λz=>?_,ZbU h,bT];rfl
  obtain⟨e,d,z⟩:=List.any_eq_true.mp z;obtain⟨u,a,rfl⟩:=aS.mp d;rw[isk]at z;exact QY h u a (al z)
 |some c=>
  rw[am (List.any_eq_true.mpr ⟨trD (k,j,c),aS.mpr ⟨_,U5 h,rfl⟩,by rw[isk];exact aK ⟨rfl,rfl⟩⟩)]
  exact ZbV nd h
def UT(a:st[q]?=aa (ac,ts.map trD)):dAt [.int (k:Int),.int (j:Int)] q st=aa ((lk ts k j).map iN):=by
 show o2 (λ(p:Int×Int) (c:Y8)=>Ya c.2 p.1 p.2) (aa ((k:Int),(j:Int))) st[q]?=_
 rw[a];show aa (Ya (ts.map trD) (k:Int) (j:Int))=_;rw[VZ]
def Y.dg{a:CE}(l:s[q]?=aa (ac,ts.map trD))(p:Y F s a U (.dic q)){kk:CE}(n:Y F s kk U (.tup [.int (k:Int),.int (j:Int)]))(m:Y F s e U d):Y F s (.dgN a kk e) U (((lk ts k j).map iN).getD d):=λst g=>by
 obtain⟨s1,u,b⟩:=p st g;obtain⟨i,t,f⟩:=n s1 (g.trans b);obtain⟨c,r,h⟩:=m i (g.trans (b.trans f));refine⟨c,?_,b.trans (f.trans h)⟩;show Yk (ev F a) (ev F kk) (ev F e) gtD U st=_;unfold Yk;simp only[u,t,r];show(dAt [.int (k:Int),.int (j:Int)] q c).map (λo=>(o.getD d,c))=_
 rw[UT ((g.trans (b.trans (f.trans h))).get l)];rfl
def Xy{b:Y8}(g:Grw s st)(h:s.length<=q):Grw s (st.set q b):=⟨λi a=>by rw[cC (by omega)];exact g.old i a,by rw[bH];exact g.len⟩
def Zde(nd:(ts.map ky).Nodup)(T:ts.length<=100)(V:ah.length<=890)(E:q≠w)(x:st[q]?=aa (ac,ts.map trD))(P:st[w]?=aa (ac,ah.map prN))(M:s.length<=q)(L:s.length<=w)(g:Grw s st) :
  ∃ p st',ex F bI (En A B q w x4 x5 (jN u.1) (jN u.2.1) (jN u.2.2) x9) st=aa (.nx (En A B q w x4 x5 (jN u.1) (jN u.2.1) (jN u.2.2) p),st')/\Grw s st'/\st'[q]?=aa (ac,(s1 (ts,ah) u).1.map trD)/\st'[w]?=aa (ac,(s1 (ts,ah) u).2.map prN):=by
 have O:((lk ts u.1 u.2.1).map iN).getD (.int (u.2.2:Int))=.int (((lk ts u.1 u.2.1).getD u.2.2:Nat):Int):=by cases lk ts u.1 u.2.1<;>rfl
 have C:=Y.dg (F:=F) (s:=st) (a:=.v 2) (kk:=.tupE (.aC (.v 6) (.u (.v 7)))) (e:=.v 8) (U:=En A B q w x4 x5 (jN u.1) (jN u.2.1) (jN u.2.2) x9) (k:=u.1) (j:=u.2.1) (d:=.int (u.2.2:Int)) x (.r rf) (.r rf) (.r rf);rw[O]at C;obtain⟨t,z,l⟩:=Y.band (c:=u.2.2) (a:=.v 8) (.r rf) C st .refl;generalize N:u.2.2 &&& (lk ts u.1 u.2.1).getD u.2.2=v at z
 have J:=Y.dg (F:=F) (s:=t) (a:=.v 2) (kk:=.tupE (.aC (.v 6) (.u (.v 7)))) (e:=.c .non) (U:=En A B q w x4 x5 (jN u.1) (jN u.2.1) (jN u.2.2) (jN v)) (k:=u.1) (j:=u.2.1) (d:=.non) (l.get x) (.r rf) (.r rf) (.r rf);have I:Y F t (.cmp .NotEq (.dgN (.v 2) (.tupE (.aC (.v 6) (.u (.v 7)))) (.c .non)) (.v 9)) (En A B q w x4 x5 (jN u.1) (jN u.2.1) (jN u.2.2) (jN v)) (.bl (!decide (lk ts u.1 u.2.1=aa v))):=.cmp (y:=.int (v:Int)) J (.r rf) λst=>by
  cases lk ts u.1 u.2.1 with
  |none=>rfl
  |some c=>
   show aa (!decide ((c:Int)=(v:Int)))=aa (!decide (aa c=aa v));have e:aj ((c:Int)=(v:Int))=aj (aa c=aa v):=decide_eq_decide.mpr ⟨λh=>ar aa (by omega),λh=>by injection h with h;omega⟩
   rw[e]
 obtain⟨b,o,n⟩:=I t .refl;unfold s1;dsimp only;rw[N];have f:=(l.trans n).get x;have m:=(l.trans n).get P;by_cases c:lk ts u.1 u.2.1=aa v
 .rw[aK c]at o
  rw[am c];exact⟨_,b,(Zc (Zk z)).trans ((Zc ((Y3 o).trans Zh)).trans Zh),g.trans (l.trans n),f,m⟩
 .rw[aG c]at o
  rw[ao c];have S:ex F (.dput 2 (.v 6) (.v 7) (.v 9)) (En A B q w x4 x5 (jN u.1) (jN u.2.1) (jN u.2.2) (jN v)) b=aa (.nx (En A B q w x4 x5 (jN u.1) (jN u.2.1) (jN u.2.2) (jN v)),b.set q (ac,(pt ts u.1 u.2.1 v).map trD)):=by
   show(match b[q]? with
    |some (ac,D)=>if D.length < Zw then aa (Fl.nx _,b.set q (ac,Wm D (u.1:Int) (u.2.1:Int) (.int (v:Int)))) else ab
    |_=>ab)=_
   rw[f];show(if (ts.map trD).length < Zw then _ else _)=_
   rw[am (by rw[aB];unfold Zw;omega),ZcQ nd]
  have H:q < b.length:=Zv f;obtain⟨K,R,G,Q⟩:=Ap.app (F:=F) (s:=b.set q (ac,(pt ts u.1 u.2.1 v).map trD)) (j:=w) (i:=3) (e:=.tupE (.aC (.v 6) (.u (.v 7)))) (U:=En A B q w x4 x5 (jN u.1) (jN u.2.1) (jN u.2.2) (jN v)) (d:=prN (u.1,u.2.1)) rfl (.r rf) _ (ah.map prN) .refl (by rw[cC E];exact m) (by rw[aB];show _+1<=900;omega)
  refine⟨_,K,(Zc (Zk z)).trans ((Zc ((Z1 o).trans ((Zc S).trans ((Zc R).trans Zh)))).trans Zh),G.grw L (Xy (g.trans (l.trans n)) M),?_,by rw[Q,bT];rfl⟩
  rw[G.old q (by rw[bH];exact H) E,bX H]
theorem QS(z:(sz+1) * (sz+1)<=100)(E:M<=890)(k:q≠w)(j:s.length<=q)(i:s.length<=w):∀ (us ts:Li Tr) (ah:Li (Nat×Nat)) (st:Za) (x6 x7 x8 x9:Ot D),(∀ u∈us,u.1<=sz/\u.2.1<=sz/\u.2.2 < 2 ^ m)->In m sz M ts ah->st[q]?=aa (ac,ts.map trD)->st[w]?=aa (ac,ah.map prN)->Grw s st->
  ∃ e d c a st',Zi (Zca 6 7 8 (ex F bI)) (us.map trD) (En A B q w x4 x5 x6 x7 x8 x9) st=aa (.nx (En A B q w x4 x5 e d c a),st')/\Grw s st'/\st'[q]?=aa (ac,(us.foldl s1 (ts,ah)).1.map trD)/\st'[w]?=aa (ac,(us.foldl s1 (ts,ah)).2.map prN)
 |[],ts,ah,st,x6,x7,x8,x9,_,_,h,f,g=>⟨x6,x7,x8,x9,st,rfl,g,h,f⟩
 |u :: us,ts,ah,st,x6,x7,x8,x9,l,b,h,f,g=>by
  have N:=Qq b.nd b.bd;have y:=b.mu;unfold mu at y;obtain⟨a,x,H,g1,L,J⟩:=Zde (F:=F) (A:=A) (B:=B) (x4:=x4) (x5:=x5) (u:=u) (x9:=x9) b.nd (by omega) (by omega) k h f j i g
  obtain⟨r,p,o,n,t,G,g2,K,I⟩:=QS z E k j i us _ _ x (jN u.1) (jN u.2.1) (jN u.2.2) a (λv C=>l v (Lm _ C)) (b.step (l u Ls)) L J g1
  refine⟨r,p,o,n,t,?_,g2,K,I⟩;show(match ex F bI (En A B q w x4 x5 (jN u.1) (jN u.2.1) (jN u.2.2) x9) st with
   |some (.nx U',st')=>Zi (Zca 6 7 8 (ex F bI)) (us.map trD) U' st'
   |some (.ct U',st')=>Zi (Zca 6 7 8 (ex F bI)) (us.map trD) U' st'
   |some (.bk U',st')=>aa (.nx U',st')
   |some (.rt v,st')=>aa (.rt v,st')
   |none=>ab)=_
  rw[H];exact G
theorem In.all:∀ {us ts:Li Tr}{ah:Li (Nat×Nat)},(∀ u∈us,u.1<=sz/\u.2.1<=sz/\u.2.2 < 2 ^ m)->In m sz M ts ah->In m sz M (us.foldl s1 (ts,ah)).1 (us.foldl s1 (ts,ah)).2
 |[],ts,ah,_,h=>h
 |u :: us,ts,ah,a,h=>In.all (us:=us) (λv b=>a v (Lm _ b)) (h.step (a u Ls))
def wl(hz:(sz+1) * (sz+1)<=100)(hr:Rs m rs)(hr':Rs m rs')(h1:rs.length=sz)(h2:rs'.length=sz)(hm:m<=60):∀ (M:Nat) (ts:Li Tr) (ah:Li (Nat×Nat)),M<=890->In m sz M ts ah->∃ r:Ot (Li Tr),(∀ t,r=aa t->Cl m sz t)/\∀ (l:Nat),M < l->∀ (s st:Za) (q w:Nat) (x4 x5 x6 x7 x8 x9:Ot D),q≠w->s.length<=q->s.length<=w->st[q]?=aa (ac,ts.map trD)->st[w]?=aa (ac,ah.map prN)->Grw s st->
  ∃ st',Grw s st'/\match r with
   |none=>Yd (ev (rT (n+7)) cW) (ex (rT (n+7)) bW) l (En (pgD tk m rs) (pgD tk m rs') q w x4 x5 x6 x7 x8 x9) st=aa (.rt .non,st')
   |some t=>(∃ y4 y5 Q O N L,Yd (ev (rT (n+7)) cW) (ex (rT (n+7)) bW) l (En (pgD tk m rs) (pgD tk m rs') q w x4 x5 x6 x7 x8 x9) st=aa (.nx (En (pgD tk m rs) (pgD tk m rs') q w y4 y5 Q O N L),st'))/\st'[q]?=aa (ac,t.map trD):=λM=>by
 induction M with
 |zero=>
  intro ts ah _ h;have hm:=h.mu;unfold mu at hm;have:ah=[]:=List.eq_nil_of_length_eq_zero (by omega)
  subst this;refine⟨aa ts,λt e=>by cases e;exact⟨h.nd,h.bd⟩,λl hf s st q w x4 x5 x6 x7 x8 x9 H J G I E g=>?_⟩
  obtain⟨f,rfl⟩:∃ f,l=f+1:=⟨l - 1,by omega⟩
  obtain⟨Z,V,R⟩:=Y.cmp (F:=rT (n+7)) (s:=st) (op:=.Gt) (a:=.len (.v 3)) (b:=.i 0) (U:=En (pgD tk m rs) (pgD tk m rs') q w x4 x5 x6 x7 x8 x9) (x:=.int 0) (y:=.int 0) (k:=ae) (.lenl E (.r rf)) (.r rf) (λ_=>rfl) st .refl
  refine⟨Z,g.trans R,⟨x4,x5,x6,x7,x8,x9,?_⟩,R.get I⟩;show Z2 (ev _ cW) _ _ _ st=_;unfold Z2;rw[show ev (rT (n+7)) cW _ st=_ from V]
 |succ M ih=>
  intro ts ah hM h;rcases List.eq_nil_or_concat ah with rfl|⟨z,p,K⟩
  .refine⟨aa ts,λt e=>by cases e;exact⟨h.nd,h.bd⟩,λl hf s st q w x4 x5 x6 x7 x8 x9 H J G I E g=>?_⟩
   obtain⟨f,rfl⟩:∃ f,l=f+1:=⟨l - 1,by omega⟩
   obtain⟨Z,V,R⟩:=Y.cmp (F:=rT (n+7)) (s:=st) (op:=.Gt) (a:=.len (.v 3)) (b:=.i 0) (U:=En (pgD tk m rs) (pgD tk m rs') q w x4 x5 x6 x7 x8 x9) (x:=.int 0) (y:=.int 0) (k:=ae) (.lenl E (.r rf)) (.r rf) (λ_=>rfl) st .refl
   refine⟨Z,g.trans R,⟨x4,x5,x6,x7,x8,x9,?_⟩,R.get I⟩;show Z2 (ev _ cW) _ _ _ st=_;unfold Z2;rw[show ev (rT (n+7)) cW _ st=_ from V]
  .rw[List.concat_eq_append]at K
   subst K;obtain⟨c,hc⟩:=U4 (h.ai p (cD _ Ls));have hcb:=(h.bd _ (U5 hc)).2.2;obtain⟨d,hd,hP⟩:=J4 (n:=n) (tk:=tk) (k:=p.1) (j:=p.2) hr hr' hm hcb;have S:=h.mu
   -- a turn up to the triples
   have turn:∀ (s st:Za) (q w:Nat) (x4 x5 x6 x7 x8 x9:Ot D),q≠w->s.length<=q->s.length<=w->st[q]?=aa (ac,ts.map trD)->st[w]?=aa (ac,(z++[p]).map prN)->Grw s st->∃ o C,ev (rT (n+7)) cW (En (pgD tk m rs) (pgD tk m rs') q w x4 x5 x6 x7 x8 x9) st=aa (.bl ac,o)/\Grw s C/\C[q]?=aa (ac,ts.map trD)/\C[w]?=aa (ac,z.map prN)/\∀ P,ex (rT (n+7)) (.seq (.set 4 (.pop (.v 3))) (.seq (.set 5 (.call 122 (.aC (.v 0) (.aC (.v 1) (.aC (.ix (.v 4) (.i 0)) (.aC (.ix (.v 4) (.i 1)) (.u (.ix (.v 2) (.v 4))))))) [])) P)) (En (pgD tk m rs) (pgD tk m rs') q w x4 x5 x6 x7 x8 x9) o=ex (rT (n+7)) P (En (pgD tk m rs) (pgD tk m rs') q w (aa (prN p)) (aa d) x6 x7 x8 x9) C:=λs st q w x4 x5 x6 x7 x8 x9 H J G I E g=>by
    have hl:((z++[p]).map prN).length=z.length+1:=by rw[aB,aI];rfl
    obtain⟨o,K,k0⟩:=Y.cmp (F:=rT (n+7)) (s:=st) (op:=.Gt) (a:=.len (.v 3)) (b:=.i 0) (U:=En (pgD tk m rs) (pgD tk m rs') q w x4 x5 x6 x7 x8 x9) (x:=.int (((z++[p]).map prN).length:Int)) (y:=.int 0) (k:=ac) (.lenl E (.r rf)) (.r rf) (λ_=>by
     show aa (aj ((0:Int) < (((z++[p]).map prN).length:Int)))=_;rw[hl,aK (by omega)]) st .refl
    have b0:=k0.get E;have hw:w < o.length:=Zv b0;have V:ev (rT (n+7)) (.pop (.v 3)) (En (pgD tk m rs) (pgD tk m rs') q w x4 x5 x6 x7 x8 x9) o=aa (prN p,o.set w (ac,z.map prN)):=by
     show Zdw (.lst w) o=_;show(match o[w]? with
      |some (ac,xs)=>(xs[xs.length - 1]?).map λd=>(d,o.set w (ac,xs.dropLast))
      |_=>ab)=_
     rw[b0];show(((z++[p]).map prN)[((z++[p]).map prN).length - 1]?).map (λd=>(d,o.set w (ac,((z++[p]).map prN).dropLast)))=_
     rw[hl,bT,List.map_singleton,List.dropLast_concat,cG (by rw[aB];omega),aB,Nat.add_sub_cancel,Nat.sub_self];rfl
    have g2:Grw s (o.set w (ac,z.map prN)):=Xy (g.trans k0) G;have a2:(o.set w (ac,z.map prN))[q]?=aa (ac,ts.map trD):=by rw[cC (Ne.symm H)];exact k0.get I
    have b2:(o.set w (ac,z.map prN))[w]?=aa (ac,z.map prN):=bX hw;generalize o.set w (ac,z.map prN)=t2 at *
    have yi:Y (rT (n+7)) t2 (.ix (.v 2) (.v 4)) (En (pgD tk m rs) (pgD tk m rs') q w (aa (prN p)) x5 x6 x7 x8 x9) (.int (c:Int)):=Dp.g2 (a:=.v 2) (b:=.v 4) (x:=.dic q) (y:=prN p) (.r rf) (.r rf) (gs λst k=>by
     show ixR (.dic q) (prN p) st=_;unfold ixR;show(match ((dAt [.int (p.1:Int),.int (p.2:Int)] q st).join) with|some d=>aa (d,st)|none=>ab)=_
     rw[UT (k.get a2),hc];rfl)
    obtain⟨C,T,k3⟩:=Y.call (F:=rT (n+7)) (s:=t2) (f:=122) (a:=.aC (.v 0) (.aC (.v 1) (.aC (.ix (.v 4) (.i 0)) (.aC (.ix (.v 4) (.i 1)) (.u (.ix (.v 2) (.v 4))))))) (U:=En (pgD tk m rs) (pgD tk m rs') q w (aa (prN p)) x5 x6 x7 x8 x9) (xs:=[pgD tk m rs,pgD tk m rs',.int (p.1:Int),.int (p.2:Int),.int (c:Int)]) (ds:=[]) (.cons (.r rf) (.cons (.r rf) (.cons (.r rf) (.cons (.r rf) (.cons yi .nil))))) (hd t2) t2 .refl
    exact⟨o,C,K,g2.trans k3,k3.get a2,k3.get b2,λP=>(Zc (Zk V)).trans (Zc (Zk T))⟩
   rcases hP with rfl|⟨us,rfl,fT⟩
   .refine⟨ab,λt e=>(nomatch e),λl hf s st q w x4 x5 x6 x7 x8 x9 H J G I E g=>?_⟩
    obtain⟨f,rfl⟩:∃ f,l=f+1:=⟨l - 1,by omega⟩
    obtain⟨o,C,K,g3,a3,b3,T⟩:=turn s st q w x4 x5 x6 x7 x8 x9 H J G I E g;refine⟨C,g3,?_⟩;show Z2 (ev _ cW) (Z6 (ex _ bW) _) _ _ st=_;unfold Z2;rw[K];show Z6 (ex _ bW) _ _ o=_;unfold Z6;rw[show ex (rT (n+7)) bW _ o=aa (.rt .non,C) from(T _).trans (Zj ((Z1 rfl).trans (Zj (ZK rfl))))]
   .have hI:In m sz M ts z:=⟨h.nd,h.bd,λx hx=>h.ai x (List.mem_append_left _ hx),by
     unfold mu at S ⊢
     rw[aI]at S;have:([p]:Li (Nat×Nat)).length=1:=rfl;omega⟩
    have X:∀ u∈us,u.1<=sz/\u.2.1<=sz/\u.2.2 < 2 ^ m:=λu X=>by
     have:=fT.b u X;rw[h1,h2]at this;exact this
    have hO:=In.all X hI;obtain⟨r,hr1,hr2⟩:=ih _ _ (by omega) hO
    refine⟨r,hr1,λl hf s st q w x4 x5 x6 x7 x8 x9 H J G I E g=>?_⟩
    obtain⟨f,rfl⟩:∃ f,l=f+1:=⟨l - 1,by omega⟩
    obtain⟨o,C,K,g3,a3,b3,T⟩:=turn s st q w x4 x5 x6 x7 x8 x9 H J G I E g;obtain⟨Q,O,N,L,W,e4,g4,a4,b4⟩:=QS (F:=rT (n+7)) (A:=pgD tk m rs) (B:=pgD tk m rs') (x4:=aa (prN p)) (x5:=aa (.tup (us.map trD))) hz (show M<=890 by omega) H J G us ts z C x6 x7 x8 x9 X hI a3 b3 g3
    obtain⟨t5,g5,h5⟩:=hr2 f (by omega) s W q w (aa (prN p)) (aa (.tup (us.map trD))) Q O N L H J G a4 b4 g4
    have e5:ex (rT (n+7)) (.for4 6 7 8 (.v 5) bI) (En (pgD tk m rs) (pgD tk m rs') q w (aa (prN p)) (aa (.tup (us.map trD))) x6 x7 x8 x9) C=aa (.nx (En (pgD tk m rs) (pgD tk m rs') q w (aa (prN p)) (aa (.tup (us.map trD))) Q O N L),W):=e4;have eb:ex (rT (n+7)) bW (En (pgD tk m rs) (pgD tk m rs') q w x4 x5 x6 x7 x8 x9) o=aa (.nx (En (pgD tk m rs) (pgD tk m rs') q w (aa (prN p)) (aa (.tup (us.map trD))) Q O N L),W):=(T _).trans ((Zc ((Y3 rfl).trans Zh)).trans ((Zc e5).trans Zh))
    have ew:Yd (ev (rT (n+7)) cW) (ex (rT (n+7)) bW) (f+1) (En (pgD tk m rs) (pgD tk m rs') q w x4 x5 x6 x7 x8 x9) st=Yd (ev (rT (n+7)) cW) (ex (rT (n+7)) bW) f (En (pgD tk m rs) (pgD tk m rs') q w (aa (prN p)) (aa (.tup (us.map trD))) Q O N L) W:=by
     show Z2 (ev _ cW) (Z6 (ex _ bW) _) _ _ st=_;unfold Z2;rw[K];show Z6 (ex _ bW) _ _ o=_;unfold Z6;rw[eb]
    refine⟨t5,g5,?_⟩;cases r with
    |none=>rw[ew];exact h5
    |some t=>rw[ew];exact h5
end
def ZbQ{f:Nat->Nat->Bool}{z d:α}{a:Li α}(h:d∈pick f z a):d∈a:=by
 unfold pick at h;split at h
 .exact h
 .obtain⟨i,b,rfl⟩:=aS.mp h
  have:=VA (by omega) i b
  rw[bA,Lg this];exact cI this
theorem X9{α:Type}{en:α->D}{P:α->Prop}:∀ {ys:Li D},(∀ d∈ys,∃ r,d=en r/\P r)->∃ rs:Li α,ys=rs.map en/\∀ r∈rs,P r
 |[],_=>⟨[],rfl,λ_ h=>nomatch h⟩
 |y :: ys,h=>by
  obtain⟨r,rfl,b⟩:=h y Ls;obtain⟨rs,rfl,a⟩:=X9 λd c=>h d (Lm _ c)
  exact⟨r :: rs,rfl,λx hx=>by
   rcases aF.mp hx with rfl|hx
   .exact b
   .exact a x hx⟩
def Zh7(d:D):Prop:=d=.non\/∃ a:Li Tr,d=.tup (a.map trD)
section
variable{q:Nat}
def Zb8(j:ts.length < 64):∃ ks:Li (Nat×Nat),ks.length<=64/\(∀ k∈ks,k∈ts.map ky)/\∀ F s q (U:Env),U[2]?=aa (aa (.dic q))->s[q]?=aa (ac,ts.map trD)->Wk F s (.ksrt (.v 2)) U WM (ks.map prN):=by
 have f:(ZV (ts.map trD)).map prD=ts.map λt=>prN (ky t):=by
  unfold ZV;rw[bL,bL];rfl
 obtain⟨ks,e,l⟩:=X9 (en:=prN) (P:=λk=>k∈ts.map ky) (ys:=pick (Vh (ZV (ts.map trD))) .non ((ZV (ts.map trD)).map prD)) λd b=>by
  have:=ZbQ b;rw[f]at this;obtain⟨t,h,rfl⟩:=aS.mp this;exact⟨ky t,rfl,aS.mpr ⟨t,h,rfl⟩⟩
 refine⟨ks,?_,l,λF s q U m i st g=>?_⟩
 .have:=ar List.length e
  rw[Uq,f,aB,aB]at this;omega
 .refine⟨.lst st.length,st++[(ac,ks.map prN)],λs=>s[st.length]?=aa (ac,ks.map prN),?_,.push,?_,λst' n=>n.get Zp⟩
  .show Zq (YV 2) QW U st=_
   unfold Zq YV;rw[m];show(match st[q]? with
    |some (_,a)=>if a.length < 64 then aa (D.lst st.length,st++[(ac,pick (Vh (ZV a)) D.non ((ZV a).map prD))]) else ab
    |none=>ab)=_
   rw[g.get i];show(if (ts.map trD).length < 64 then _ else ab)=_
   rw[am (by rw[aB];exact j),e]
  .show(match (st++[(ac,ks.map prN)])[st.length]? with
    |some c=>if c.2.all Zbg=ac then aa (c.2,λs=>s[st.length]?=aa c) else ab
    |none=>ab)=_
   rw[Zp];exact am (cT.mpr λd b=>by obtain⟨k,_,rfl⟩:=aS.mp b;rfl)
def Qp(h:Cl m sz ts)(l:ts.length < 64):∃ j:Li Tr,∀ F s A B q w x4 x5 x6 x7 x8 x9,s[q]?=aa (ac,ts.map trD)->Y F s (.tOf (.compT [2] (.ksrt (.v 2)) (.tupE (.aC (.v 0) (.aC (.v 1) (.u (.ix (.v 2) (.tupE (.aC (.v 0) (.u (.v 1))))))))) (.c (.bl ac)))) (En A B q w x4 x5 x6 x7 x8 x9) (.tup (j.map trD)):=by
 obtain⟨ks,p,n,o⟩:=Zb8 l;refine⟨ks.map λk=>(k.1,k.2,(lk ts k.1 k.2).getD 0),λF s A B q w x4 x5 x6 x7 x8 x9 f=>?_⟩
 rw[bL];refine Lv.tof (QX (U:=En A B q w x4 x5 x6 x7 x8 x9) (b:=two) (wk:=WM) (fr:=[2]) (en:=prN) (o F s q _ rfl f) (by omega) λk e=>?_)
 obtain⟨b,i⟩:=U4 (n k e);show Y F s _ [jN k.1,jN k.2,aa (.dic q)] (trD (k.1,k.2,(lk ts k.1 k.2).getD 0));rw[i];exact .cons (.r rf) (.cons (.r rf) (.cons (Dp.g2 (a:=.v 2) (b:=.tupE (.aC (.v 0) (.u (.v 1)))) (x:=.dic q) (y:=prN k) (.r rf) (.r rf) (gs λst g=>by
  show(match ((dAt [.int (k.1:Int),.int (k.2:Int)] q st).join) with|some d=>aa (d,st)|none=>ab)=_
  rw[UT (g.get f),i];rfl)) .nil))
def Zia{e:CE}{v:D}{a:Za}(h:ev F e U (st++[(ac,[])])=aa (v,a))(c:a[st.length]?=aa (ac,[])):ev F (.dd (.i 0) (.i 0) e) U st=aa (.dic st.length,a.set st.length (ac,[.tup [.int 0,.int 0,v]])):=by
 have b:∀ s,ev F (.i 0) U s=aa (.int 0,s):=λ_=>rfl
 show ddE (ev F (.i 0)) (ev F (.i 0)) (ev F e) U st=_;unfold ddE;simp only[b,h,c];rw[am (by unfold Zw;decide)]
 rfl
def Zfu{b:Nat}:mu m sz [(0,0,b)] [(0,0)]=2 * (b+2 ^ m * ((sz+1) * (sz+1) - 1))+1:=by
 exact rfl
def Zg7{a:Nat}(h:a * ((sz+1) * (sz+1))<=440)(c:1<=a):2 * (a - 1+a * ((sz+1) * (sz+1) - 1))+1<=890:=by
 obtain⟨v,b⟩:∃ v,(sz+1) * (sz+1)=v+1:=⟨(sz+1) * (sz+1) - 1,by have:1<=(sz+1) * (sz+1):=dE (Nat.le_add_left 1 sz) (Nat.le_add_left 1 sz);omega⟩
 rw[b,Nat.mul_succ]at h;rw[b,Nat.add_sub_cancel];omega
def Zcw(W:Rs m rs)(A:Rs m rs')(h1:rs.length=sz)(h2:rs'.length=sz)(O:m<=60)(hz:(sz+1) * (sz+1) < 64)(hB:2 ^ m * ((sz+1) * (sz+1))<=440):CX (rT (n+8)) 201 [pgD tk m rs,pgD tk m rs'] Zh7:=by
 have R:1<=2 ^ m:=Nat.one_le_two_pow;obtain⟨M,l⟩:∃ M,M=890:=⟨_,rfl⟩;have Z:In m sz M [(0,0,2 ^ m - 1)] [(0,0)]:=by
  refine⟨bP.mpr ⟨λh=>(nomatch h),List.nodup_nil⟩,λt V=>?_,λx S=>S,?_⟩
  .rw[aR.mp V];exact⟨aO _,aO _,by show 2 ^ m - 1 < 2 ^ m;omega⟩
  .exact aM (cK Zfu) (l ▸ Zg7 hB R)
 obtain⟨r,z,j⟩:=wl (n:=n) (tk:=tk) (show(sz+1) * (sz+1)<=100 by omega) W A h1 h2 O M _ _ (cK l) Z
 -- up to the loop
 have pre:∀ st:Za,∃ t q w,st.length<=q/\st.length<=w/\q≠w/\Grw st t/\t[q]?=aa (ac,[(0,0,2 ^ m - 1)].map trD)/\t[w]?=aa (ac,[(0,0)].map prN)/\∀ P,ex (rT (n+7)) (.seq (.set 2 (.dd (.i 0) (.i 0) (.call 56 (.u (.ix (.v 0) (.i 1))) []))) (.seq (.set 3 (.lstE (.u (.tupE (.aC (.i 0) (.u (.i 0))))))) P)) [aa (pgD tk m rs),aa (pgD tk m rs'),ab,ab,ab,ab,ab,ab,ab,ab] st=ex (rT (n+7)) P (En (pgD tk m rs) (pgD tk m rs') q w ab ab ab ab ab ab) t:=λst=>by
  obtain⟨c,C,k⟩:=Y.call1 (F:=rT (n+7)) (s:=st++[(ac,[])]) (f:=56) (a:=.ix (.v 0) (.i 1)) (x:=.int (m:Int)) (U:=[aa (pgD tk m rs),aa (pgD tk m rs'),ab,ab,ab,ab,ab,ab,ab,ab]) (.r rf) (ZeK (n:=n+5) O) _ .refl;have Q:c[st.length]?=aa (ac,[]):=k.get Zp;have ed:ev (rT (n+7)) (.dd (.i 0) (.i 0) (.call 56 (.u (.ix (.v 0) (.i 1))) [])) [aa (pgD tk m rs),aa (pgD tk m rs'),ab,ab,ab,ab,ab,ab,ab,ab] st=aa (.dic st.length,c.set st.length (ac,[(0,0,2 ^ m - 1)].map trD)):=by
   exact Zia C Q
  have X:st.length < c.length:=Zv Q;have ll:(c.set st.length (ac,[(0,0,2 ^ m - 1)].map trD)).length=c.length:=bH;have gg:Grw st (c.set st.length (ac,[(0,0,2 ^ m - 1)].map trD)):=Xy (Grw.push.trans k) (aD _);have c4:(c.set st.length (ac,[(0,0,2 ^ m - 1)].map trD))[st.length]?=aa (ac,[(0,0,2 ^ m - 1)].map trD):=bX X
  generalize c.set st.length (ac,[(0,0,2 ^ m - 1)].map trD)=t4 at *
  refine⟨t4++[(ac,[(0,0)].map prN)],st.length,t4.length,aD _,by omega,by omega,gg.trans .push,Grw.push.get c4,Zp,λP=>?_⟩
  exact(Zc (Zk ed)).trans (Zc (Zk rfl))
 cases r with
 |none=>
  refine⟨.non,λs=>.of (v:=c_found_paper) rfl rfl λst g=>?_,.inl rfl⟩
  obtain⟨t,q,w,y,p,o,B,a,b,e⟩:=pre st;obtain⟨d,g2,D⟩:=j 1000 (by rw[l];decide) st t q w ab ab ab ab ab ab o y p a b B
  exact⟨d,(e _).trans (Zj D),g2⟩
 |some ts=>
  have E:=z ts rfl;have tl:=Qq E.nd E.bd;obtain⟨N,T⟩:=Qp E (by omega)
  refine⟨.tup (N.map trD),λs=>.of (v:=c_found_paper) rfl rfl λst g=>?_,.inr ⟨N,rfl⟩⟩
  obtain⟨t,q,w,y,p,o,B,a,b,e⟩:=pre st;obtain⟨d,g2,⟨L,K,J,I,H,G,D⟩,c2⟩:=j 1000 (by rw[l];decide) st t q w ab ab ab ab ab ab o y p a b B
  obtain⟨c,C,k⟩:=T (rT (n+7)) d (pgD tk m rs) (pgD tk m rs') q w L K J I H G c2 d .refl;have e4:ex (rT (n+7)) (.whl cW bW) (En (pgD tk m rs) (pgD tk m rs') q w ab ab ab ab ab ab) t=aa (.nx (En (pgD tk m rs) (pgD tk m rs') q w L K J I H G),d):=D;exact⟨c,(e _).trans ((Zc e4).trans (Zj (ZK C))),g2.trans k⟩
end
def fdN:Li D->Li D->Nat
 |x :: a,y :: ys=>if Zm x y=ac then fdN a ys+1 else 0
 |_,_=>0
def trL(m:Nat)(rs:Li Rw)(L:Nat)(ins:Li Int):Li D:=stD 0 (v0 m ins) :: tl rs L 0 (v0 m ins)
theorem Zej:∀ {A B:Li D}{i:Nat},(∀ j,j < i->∃ x y,A[j]?=aa x/\B[j]?=aa y/\Zm x y=ac)->(∃ x y,A[i]?=aa x/\B[i]?=aa y/\Zm x y=ae)->fdN A B=i
 |[],B,i,_,⟨x,y,h,_⟩=>nomatch h
 |a :: A,[],i,_,⟨x,y,_,h,_⟩=>nomatch h
 |a :: A,b :: B,0,_,⟨x,y,e,d,c⟩=>by
  cases e;cases d
  unfold fdN;rw[ao (by rw[c];decide)]
 |a :: A,b :: B,i+1,f,⟨x,y,e,d,c⟩=>by
  obtain⟨n,m,l,k,g⟩:=f 0 (Nat.succ_pos _);cases l;cases k
  unfold fdN;rw[am g,Zej (λj h=>f (j+1) (Nat.succ_lt_succ h)) ⟨x,y,e,d,c⟩]
theorem Ut{f:Nat->Ot D}:∀ {M a:Nat},skR f (List.range' a M)=aa d->∃ i,a<=i/\i < a+M/\f i=aa d/\∀ j,a<=j->j < i->f j=ab
 |M+1,a,h=>by
  rw[dN]at h;unfold skR at h;cases c:f a with
  |some v=>rw[c]at h;cases h;exact⟨a,aD _,by omega,c,λj m l=>by omega⟩
  |none=>
   rw[c]at h;obtain⟨i,m,l,k,g⟩:=Ut h;refine⟨i,by omega,by omega,k,λj n b=>?_⟩
   by_cases e:j=a
   .rw[e];exact c
   .exact g j (by omega) b
def inT(ins:Li Int):D:=.tup (inZ ins)
def tel(m:Nat)(rs a:Li Rw)(L:Nat)(ins:Li Int):Bool:=!Zm (oc rs L 0 (v0 m ins)) (oc a L 0 (v0 m ins))
def fT(t:Li Int->Bool):Nat->Li (Li Int)->Ot Nat
 |_,[]=>ab
 |k,x :: l=>if t x=ac then aa k else fT t (k+1) l
variable{l:Li (Li Int)}
section
variable{t:Li Int->Bool}{l':Li (Li Int)}
theorem Q8:∀ {vs:Li Int},ZX w (vs.map D.int)=ac
 |[]=>by cases w<;>rfl
 |v :: vs=>by
  show(okD w (.int v)&&ZX w (vs.map D.int))=ac;rw[Q8];cases w<;>rfl
def ZbI:okD 8 (stD k vs)=ac:=by
 show(ac&&(ZX 6 (vs.map D.int)&&ac))=ac;rw[Q8];rfl
theorem XE:∀ {n k:Nat}{vs:Li Int},∃ a,oc rs n k vs=.tup a/\okD 8 (.tup a)=ac
 |0,k,vs=>by unfold oc;split<;>exact⟨_,rfl,rfl⟩
 |n+1,k,vs=>by
  unfold oc;cases q:mv rs k vs with
  |inr p=>exact XE
  |inl o=>
   unfold mv at q;cases z:rs[k]? with
   |none=>rw[z]at q;cases q;exact⟨_,rfl,rfl⟩
   |some r=>
    rw[z]at q;cases r with
    |tell y=>cases q;exact⟨_,rfl,rfl⟩
    |_=>cases q
theorem ZbJ:∀ {n k:Nat}{vs:Li Int},∀ d∈tl rs n k vs,∃ b,d=.tup b/\okD 8 (.tup b)=ac
 |0,k,vs=>λd hd=>by rw[aR.mp hd];exact XE (n:=0) (k:=k) (vs:=vs)
 |n+1,k,vs=>λd hd=>by
  unfold tl at hd;have a:=XE (rs:=rs) (n:=n+1) (k:=k) (vs:=vs);unfold oc at a;cases q:mv rs k vs with
  |inl o=>rw[q]at hd a;rw[aR.mp hd];exact a
  |inr p=>
   rw[q]at hd;rcases aF.mp hd with rfl|hd
   .exact⟨_,rfl,ZbI⟩
   .exact ZbJ d hd
def J9(c:Rs m rs)(d:m<=1000)(f:ins.length<=m)(b:∀ v∈ins,Sm v)(g:L<=800):C (rT (n+7)) s 13 [pgD tk m rs,inT ins,.int (L:Int)] (oc rs L 0 (v0 m ins)):=by
 have h:=Y.lastT (F:=rT (n+6)) (s:=s) (a:=.call 12 (.aC (.v 0) (.aC (.v 1) (.u (.v 2)))) []) (U:=[aa (pgD tk m rs),aa (inT ins),jN L]) (xs:=stD 0 (v0 m ins) :: tl rs L 0 (v0 m ins)) (.call (xs:=[pgD tk m rs,.tup (inZ ins),.int (L:Int)]) (.r rf) (Vf c d f b g)) (cL _ _) (by have:=WK (rs:=rs) (M:=L) (k:=0) (vs:=v0 m ins);rw[aP];omega)
 have e:(stD 0 (v0 m ins) :: tl rs L 0 (v0 m ins)).getLastD .non=oc rs L 0 (v0 m ins):=by
  rw[<-VJ];cases q:tl rs L 0 (v0 m ins) with
  |nil=>exact aq q Zb9
  |cons x xs=>rfl
 rw[e]at h;exact .of (v:=c_outcome) rfl rfl (.ret h)
def Qz(o:Rs m rs)(a:Rs m rs')(c:m<=1000)(d:ins.length<=m)(b:∀ v∈ins,Sm v)(e:L<=800):C (rT (n+8)) s 99 [pgD tk m rs,pgD tk m rs',inT ins,.int (L:Int)] (.bl (tel m rs rs' L ins)):=by
 obtain⟨xs,i,l⟩:=XE (rs:=rs) (n:=L) (k:=0) (vs:=v0 m ins);obtain⟨ys,h,j⟩:=XE (rs:=rs') (n:=L) (k:=0) (vs:=v0 m ins);have g:=J9 (n:=n) (s:=s) (tk:=tk) o c d b e;have f:=J9 (n:=n) (s:=s) (tk:=tk) a c d b e;unfold tel;rw[i]at g;rw[h]at f;rw[i,h];exact .of (v:=c_tells) rfl rfl (.ret (.ned (.call (xs:=[pgD tk m rs,inT ins,.int (L:Int)]) (.r rf) g) (.call (xs:=[pgD tk m rs',inT ins,.int (L:Int)]) (.r rf) f) l j))
def Zgf{p q:Nat×Li Int}(h:stD p.1 p.2=stD q.1 q.2):p=q:=by
 have h:D.tup [.int (p.1:Int),.tup (p.2.map D.int)]=.tup [.int (q.1:Int),.tup (q.2.map D.int)]:=h
 injection h with h;injection h with b h;injection h with a _;injection b with b;injection a with a
 exact Prod.ext (Int.ofNat.inj b) (Uc a)
theorem VL:∀ {L k:Nat}{vs:Li Int},(∀ (i:Nat) x y,(tl rs L k vs)[i]?=aa x->(tl rs' L k vs)[i]?=aa y->x=y)->oc rs L k vs=oc rs' L k vs
 |0,k,vs,h=>h 0 _ _ rfl rfl
 |L+1,k,vs,h=>by
  unfold tl at h;unfold oc;cases q:mv rs k vs with
  |inl o=>cases c:mv rs' k vs with
   |inl d=>rw[q,c]at h;exact h 0 _ _ rfl rfl
   |inr p=>
    rw[q,c]at h;have e:=h 0 _ _ rfl rfl;have:=(Zfw q).1;rw[e]at this;cases this
  |inr p=>cases c:mv rs' k vs with
   |inl d=>
    rw[q,c]at h;have e:=h 0 _ _ rfl rfl;have:=(Zfw c).1;rw[<-e]at this;cases this
   |inr f=>
    rw[q,c]at h;cases Zgf (h 0 _ _ rfl rfl)
    exact VL λi x y a b=>h (i+1) x y a b
def ZeO(X:Rs m rs)(F:Rs m rs')(O:m<=1000)(H:ins.length<=m)(N:∀ v∈ins,Sm v)(Q:L<=800)(w:tel m rs rs' L ins=ac):∃ (x y:D),∀ s,C (rT (n+7)) s 98 [pgD tk m rs,pgD tk m rs',inT ins,.int (L:Int)] (.tup [.int (fdN (trL m rs L ins) (trL m rs' L ins):Int),x,y]):=by
 obtain⟨A,p⟩:∃ A,stD 0 (v0 m ins) :: tl rs L 0 (v0 m ins)=A:=⟨_,rfl⟩;obtain⟨B,u⟩:∃ B,stD 0 (v0 m ins) :: tl rs' L 0 (v0 m ins)=B:=⟨_,rfl⟩;have ok:∀ {rs:Li Rw}{A:Li D}{i:Nat}{x:D},stD 0 (v0 m ins) :: tl rs L 0 (v0 m ins)=A->A[i]?=aa x->∃ xs,x=.tup xs/\okD 8 (.tup xs)=ac:=λ{rs A i x} e h=>by
  rw[<-e]at h;rcases aF.mp (aX h) with rfl|h
  .exact⟨_,rfl,ZbI⟩
  .exact ZbJ _ h
 let f:Nat->Ot D:=λi=>if (!Zm (A.getD i .non) (B.getD i .non))=ac then aa (.tup [.int (i:Int),A.getD i .non,B.getD i .non]) else ab
 have P:∀ s,C (rT (n+7)) s 98 [pgD tk m rs,pgD tk m rs',inT ins,.int (L:Int)] ((skR f (ag (min A.length B.length))).getD .non):=λs=>by
  have tA:=Vf (n:=n) (s:=s) (tk:=tk) X O H N Q;have tB:=Vf (n:=n) (s:=s) (tk:=tk) F O H N Q;rw[p]at tA;rw[u]at tB;have lA:A.length<=802:=by rw[<-p,aP];have:=WK (rs:=rs) (M:=L) (k:=0) (vs:=v0 m ins);omega
  refine .of (v:=c_parting) rfl rfl (.set (.call (xs:=[pgD tk m rs,.tup (inZ ins),.int (L:Int)]) (.r rf) tA) (.set (.call (xs:=[pgD tk m rs',.tup (inZ ins),.int (L:Int)]) (.r rf) tB) (.seekR (i:=6) (E:=λy=>[aa (pgD tk m rs),aa (pgD tk m rs'),aa (inT ins),jN L,aa (.tup A),aa (.tup B),y]) (f:=f) (λ_ _=>rfl) ?_ (by omega) (λi H=>?_) λy=>.ret (.r rf))))
  .refine Dp.g2 (x:=.int (A.length:Int)) (y:=.int (B.length:Int)) (.lnT (.r rf)) (.lnT (.r rf)) (gp λst=>?_)
   show aa (D.int (if (B.length:Int) < (A.length:Int) then (B.length:Int) else (A.length:Int)),st)=_
   rw[show(if (B.length:Int) < (A.length:Int) then (B.length:Int) else (A.length:Int))=((min A.length B.length:Nat):Int) by split<;>omega]
  .have t:=Lg (l:=A) (i:=i) (by omega)
   have iB:=Lg (l:=B) (i:=i) (by omega)
   obtain⟨xs,ex,U⟩:=ok p t;obtain⟨ys,R,ky⟩:=ok u iB;have gA:A.getD i .non=A[i]:=by rw[bA,t];rfl
   have gB:B.getD i .non=B[i]:=by rw[bA,iB];rfl
   show Bs _ s _ _ (if (!Zm (A.getD i .non) (B.getD i .non))=ac then aa (.tup [.int (i:Int),A.getD i .non,B.getD i .non]) else ab)
   rw[gA,gB];rw[ex]at t;rw[R]at iB;rw[ex,R];have J:Y (rT (n+6)) s (.ix (.v 4) (.v 6)) [aa (pgD tk m rs),aa (pgD tk m rs'),aa (inT ins),jN L,aa (.tup A),aa (.tup B),jN i] (.tup xs):=.ixt (j:=i) (.r rf) (.r rf) t;have yB:Y (rT (n+6)) s (.ix (.v 5) (.v 6)) [aa (pgD tk m rs),aa (pgD tk m rs'),aa (inT ins),jN L,aa (.tup A),aa (.tup B),jN i] (.tup ys):=.ixt (j:=i) (.r rf) (.r rf) iB
   exact .ite (.ned J yB U ky) (λ_=>.cons (.r rf) (.cons J (.cons yB .nil))) λ_=>.skip
 cases q:skR f (ag (min A.length B.length)) with
 |some d=>
  have K:=q;rw[dM]at K;obtain⟨i,_,G,o,Z⟩:=Ut K;rw[bF]at G;have g:∀ {A:Li D}{j:Nat},j < A.length->A[j]?=aa (A.getD j .non):=λ{A j} h=>by rw[bA,Lg h];rfl
  have o:(if (!Zm (A.getD i .non) (B.getD i .non))=ac then aa (D.tup [.int (i:Int),A.getD i .non,B.getD i .non]) else ab)=aa d:=o
  have e:fdN (trL m rs L ins) (trL m rs' L ins)=i:=by
   unfold trL;rw[p,u];refine Zej (λj h=>⟨_,_,g (by omega),g (by omega),?_⟩) ⟨_,_,g (by omega),g (by omega),?_⟩
   .have:=Z j (aO _) h
    have this:(if (!Zm (A.getD j .non) (B.getD j .non))=ac then aa (D.tup [.int (j:Int),A.getD j .non,B.getD j .non]) else ab)=ab:=this
    cases z:Zm (A.getD j .non) (B.getD j .non) with
    |true=>rfl
    |false=>rw[z]at this;cases this
   .cases z:Zm (A.getD i .non) (B.getD i .non) with
    |false=>rfl
    |true=>rw[z]at o;cases o
  split at o
  .cases o
   rw[q]at P;rw[e];exact⟨_,_,P⟩
  .cases o
 |none=>
  exfalso
  have e:oc rs L 0 (v0 m ins)=oc rs' L 0 (v0 m ins):=VL λi x y a b=>by
   have all:∀ {l:Li Nat},skR f l=ab->∀ z∈l,f z=ab:=λ{l} h=>by
    induction l with
    |nil=>intro z hz;cases hz
    |cons v l W=>
     intro z hz;unfold skR at h;cases c:f v with
     |some _=>rw[c]at h;cases h
     |none=>
      rw[c]at h;rcases aF.mp hz with rfl|hz
      .exact c
      .exact W h z hz
   have T:A[i+1]?=aa x:=by rw[<-p];exact a
   have S:B[i+1]?=aa y:=by rw[<-u];exact b
   have:=all q (i+1) (bV.mpr (by have:=Zv T;have:=Zv S;omega))
   have this:(if (!Zm (A.getD (i+1) .non) (B.getD (i+1) .non))=ac then aa (D.tup [.int ((i+1:Nat):Int),A.getD (i+1) .non,B.getD (i+1) .non]) else ab)=ab:=this
   rw[bA,bA,T,S,Option.getD_some,Option.getD_some]at this;split at this
   .cases this
   .rename_i z
    cases I:Zm x y with
    |true=>exact UL I
    |false=>rw[I]at z;exact aq rfl z
  unfold tel at w;obtain⟨xs,e1,V⟩:=XE (rs:=rs') (n:=L) (k:=0) (vs:=v0 m ins);rw[e,e1,show Zm (.tup xs) (.tup xs)=ac from YH (n:=7) V]at w;cases w
theorem ZeC{f:Nat×Li Int->Ot D}(a:∀ p,f p=if t p.2=ac then aa (iN p.1) else ab):∀ {k:Nat}{l:Li (Li Int)},skR f (enm k l)=(fT t k l).map iN
 |_,[]=>rfl
 |k,x :: l=>by
  show(match f (k,x) with|some d=>aa d|none=>skR f (enm (k+1) l))=_
  rw[a];unfold fT;by_cases c:t x=ac
  .rw[am c,am c];rfl
  .rw[ao c,ao c];exact ZeC a
def Zcr(b:Rs m rs)(a:Rs m rs')(d:m<=1000)(e:∀ ins∈l,ins.length<=m/\∀ v∈ins,Sm v)(g:L<=800):C (rT (n+9)) s 281 [pgD tk m rs,pgD tk m rs',.tup (l.map inT),.int (L:Int)] (((fT (tel m rs rs' L) 0 l).map iN).getD .non):=by
 rw[<-ZeC (f:=λp:Nat×Li Int=>if tel m rs rs' L p.2=ac then aa (iN p.1) else ab) λ_=>rfl]
 refine .of (v:=c_first_telling) rfl rfl (.seekE (i:=4) (i':=5) (l:=l) (en:=inT) (E:=λy z=>[aa (pgD tk m rs),aa (pgD tk m rs'),aa (.tup (l.map inT)),jN L,y,z]) (λ_ _ _ _=>rfl) (.r rf) (λp c=>?_) λy z=>.ret (.r rf))
 have:=e _ (Vl c);exact .ite (.call (xs:=[pgD tk m rs,pgD tk m rs',inT p.2,.int (L:Int)]) (.r rf) (Qz b a d this.1 this.2 g)) (λ_=>.r rf) λ_=>.skip
theorem QM:∀ {k:Nat}{l:Li (Li Int)},fT t k l=aa i->k<=i/\∃ x,l[i - k]?=aa x/\t x=ac
 |k,x :: l,h=>by
  unfold fT at h;split at h
  .cases h;exact⟨aD _,x,by rw[Nat.sub_self];rfl,‹_›⟩
  .obtain⟨c,y,b,a⟩:=QM h
   refine⟨by omega,y,?_,a⟩
   rw[show i - k=(i - (k+1))+1 by omega];exact b
def J3(b:k < rs.length)(a:rs.length<=1000):C (rT (n+2)) s 180 [pgD tk m rs,.int (k:Int),rwE r] (pgD tk m (rs.set k r)):=by
 have:=Yo (n:=n) (s:=s) (xs:=rs.map rwE) (i:=k) (d:=rwE r) (by rw[aB];exact b) (by rw[aB];exact a)
 rw[<-dQ]at this;exact .of (v:=c_fake_of) rfl rfl (.ret (.cons (.r rf) (.cons (.r rf) (.cons (.call (xs:=[.tup (rs.map rwE),.int (k:Int),rwE r]) (.r rf) this) .nil))))
end
def pdD(p:Int×Int):D:=.tup [.int p.1,.int p.2]
def exL(b:Li Int)(a:Li (Li Int)):Li (Li Int):=a.flatMap λins=>b.map λv=>ins++[v]
def prL(b:Li (Li Int))(d:Li (Li Int)):Li (Li Int):=d.foldl (λa c=>exL c a) b
def wdI(b:Li (Int×Int))(a:Int):Int:=b.foldl (λa p=>a * (p.2 - p.1+1)) a
def bxL(p:Int×Int):Li Int:=Y1 p.1 (p.2+1) 1
def nwL(a:Li Int)(v:Int):Li Int:=if v∈a then a else a++[v]
def mnL(p:Int×Int):Li Int:=[p.1,(p.1+p.2) / 2,p.2].foldl nwL []
def plL:Li (Li Int)->Nat
 |[]=>1
 |ns :: a=>ns.length * plL a
structure Tk(tks:List (Int×Int)):Prop where
 l:tks.length<=3
 b:∀ p∈tks,Sm p.1/\p.1<=p.2/\Sm p.2
def tdL(a:Li (Int×Int)):Li (Li Int):=prL [[]] (a.map (if 64 < wdI a 1 then mnL else bxL))
variable{b2:Bool}{lo hi:Int}
variable{bb:Bool}{tks:Li (Int×Int)}
section
variable{x0:D}{acc ls:Li (Li Int)}
def Wk.lst(d:s[w]?=aa (bb,xs))(h:Y F s e U (.lst w)):Wk F s e U (YF ae) xs:=λst g=>by
 obtain⟨s1,i,a⟩:=h st g;have b:=(g.trans a).get d;refine⟨.lst w,s1,λs=>s[w]?=aa (bb,xs),i,a,?_,λst' f=>f.get b⟩
 show(match s1[w]? with
  |some c=>aa (c.2,λs=>s[w]?=aa c)
  |none=>ab)=_
 rw[b]
def Zdf{y3 y4:Ot D}(e:st[i]?=aa (bb,acc.map inT))(o:st[j]?=aa (b2,ns.map D.int))(n:(exL ns acc).length<=900)(w:ns.length<=900)(hi:∀ ins∈acc,ins.length<=900):∃ c d st',ex F ZG [aa x0,jL i,jL j,y3,y4] st=aa (.nx [aa x0,jL c,jL j,jL c,d],st')/\Grw st st'/\st'[c]?=aa (ac,(exL ns acc).map inT):=by
 have la:=Zv e;obtain⟨h,k,t,m,l⟩:=ZeY (F:=F) (s:=st) (j:=st.length) (q:=Yq) (i:=4) (la:=i) (bb:=bb) (E:=λy=>[aa x0,jL i,jL j,jL st.length,y]) (en:=inT) (g:=λins=>(ns.map λv=>ins++[v]).map inT) (all:=acc) (λ_ _=>rfl) (aD _) (by omega) (λins a=>.one (.ext rfl (by
   rw[bL];exact Wu (b:=one) (fr:=[4]) (wk:=YF ae) (en:=D.int) (Wk.lst o (.r rf)) (by omega) λv u=>by
    have:=hi ins a;show Y F st _ [jI v,aa (inT ins)] (inT (ins++[v]));unfold inT inZ;rw[bT];exact .adT (.r rf) (.cons (.r rf) .nil) (by rw[aB];show _+1<=_;omega)))) acc.length 0 (y:=y4) (st:=st++[(ac,[])]) (acc:=[]) (bF _) .push (Grw.push.get e) Zp (by
    rw[bR,cQ,bF,<-cU,aB];exact n)
 rw[bR,cY,<-cU]at l;have p:ex F (.for1 4 ae (.v 1) Yq) [aa x0,jL i,jL j,jL st.length,y4] (st++[(ac,[])])=aa (.nx [aa x0,jL i,jL j,jL st.length,h],k):=by
  rw[<-t,<-aB (as:=acc) (f:=inT)];exact Xv (bb:=bb) (xs:=acc.map inT) rfl (Grw.push.get e)
 exact⟨st.length,h,k,(Zc (Zk (v:=.lst st.length) (st':=st++[(ac,[])]) rfl)).trans ((Zc p).trans ((Zc (Zk rfl)).trans Zh)),m.grw (aD _) .push,l⟩
def UV:(exL ns acc).length=acc.length * ns.length:=by
 unfold exL
 induction acc with
 |nil=>exact(Nat.zero_mul _).symm
 |cons x l a=>rw[bU,aI,a,aB,aP,Nat.add_mul,cR,Nat.add_comm]
def Al(c:Nat)(acc:Li (Li Int)):Prop:=∀ ins∈acc,ins.length=c/\∀ v∈ins,Sm v
def Al.ex(h:Al k acc)(c:∀ v∈ns,Sm v):Al (k+1) (exL ns acc):=λins hi=>by
 obtain⟨x,a,hi⟩:=dS.mp hi;obtain⟨v,b,rfl⟩:=aS.mp hi;obtain⟨e,d⟩:=h x a;refine⟨by rw[aI,e];rfl,λz hz=>?_⟩
 rcases bO.mp hz with hz|hz
 .exact d z hz
 .rw[aR.mp hz];exact c v b
theorem Al.pr:∀ {ls:Li (Li Int)}{k:Nat}{acc:Li (Li Int)},Al k acc->(∀ ns∈ls,∀ v∈ns,Sm v)->Al (k+ls.length) (prL acc ls)
 |[],_,_,h,_=>h
 |ns :: ls,k,acc,h,a=>by
  have:=Al.pr (ls:=ls) (h.ex (a ns Ls)) λz b=>a z (Lm _ b)
  rw[aP,show k+(ls.length+1)=k+1+ls.length by omega]
  exact this
def Cs(s:Za)(l:Li Nat)(ls:Li (Li Int)):Prop:=l.length=ls.length/\∀ (i:Nat) j ns,l[i]?=aa j->ls[i]?=aa ns->∃ b,s[j]?=aa (b,ns.map D.int)
theorem VB:∀ {ls:Li (Li Int)},(∀ ns∈ls,ns≠[])->1<=plL ls
 |[],_=>aD _
 |ns :: ls,h=>Nat.mul_pos (dD.mpr (h ns Ls)) (VB λz a=>h z (Lm _ a))
theorem QU{r:Za}{l:Li Nat}(y:r[w]?=aa (bb,l.map D.lst))(m:Cs r l ls)(u:∀ ns∈ls,ns≠[])(Q:ls.length<=3):∀ (M i:Nat) (acc:Li (Li Int)) (c:Nat) (b:Bool) (k y3 y4:Ot D) (st:Za),i+M=ls.length->acc.length * plL (ls.drop i)<=100->1<=acc.length->Al i acc->(∀ ns∈ls,∀ v∈ns,Sm v)->Grw r st->st[c]?=aa (b,acc.map inT)->∃ j Y p o n st',Zt (λd U s=>ex F ZG (Zf U 2 d) s) w M i [jL w,jL c,k,y3,y4] st=aa (.nx [jL w,jL j,p,o,n],st')/\Grw st st'/\st'[j]?=aa (Y,(prL acc (ls.drop i)).map inT)
 |0,i,acc,c,b,k,y3,y4,st,hi,_,_,_,_,g,x=>⟨c,b,k,y3,y4,st,by unfold Zt;rw[g.get y];exact am (by rw[aB,m.1];omega),.refl,by rw[dA (by omega)];exact x⟩
 |M+1,i,acc,c,b,k,y3,y4,st,hi,a,E,G,C,g,x=>by
  have f:i < ls.length:=by omega
  have e:i < l.length:=by rw[m.1];exact f
  obtain⟨b2,R⟩:=m.2 i _ _ (Lg e) (Lg f);have K:=dD.mpr (u _ (cI f));have h:=UV (ns:=ls[i]) (acc:=acc);rw[bQ f]at a ⊢;have a:acc.length * (ls[i].length * plL (ls.drop (i+1)))<=100:=a;rw[<-Nat.mul_assoc,<-h]at a;have J:=VB (ls:=ls.drop (i+1)) λz P=>u z (List.mem_of_mem_drop P)
  have N:(exL ls[i] acc).length<=100:=aM (by have:=Nat.mul_le_mul_left (exL ls[i] acc).length J;rwa [Nat.mul_one]at this) a
  have Z:ls[i].length<=100:=aM (by have:=Nat.mul_le_mul_right ls[i].length E;rw[cR]at this;exact this) (h ▸ N)
  have L:1<=(exL ls[i] acc).length:=by rw[h];exact Nat.mul_pos E K
  obtain⟨j,q,I,h,B,T⟩:=Zdf (F:=F) (x0:=.lst w) (y3:=y3) (y4:=y4) x (g.get R) (by omega) (by omega) λins t=>by have:=(G ins t).1;omega
  have A:=G.ex (C _ (cI f));obtain⟨W,X,p,o,n,H,V,O,S⟩:=QU y m u Q M (i+1) (exL ls[i] acc) j ac (jL l[i]) (jL j) q I (by omega) a L A C (g.trans B) T
  refine⟨W,X,p,o,n,H,?_,B.trans O,S⟩
  conv=>lhs;unfold Zt
  have t:(l.map D.lst)[i]?=jL l[i]:=by rw[aU,Lg e];rfl
  simp only[g.get y,t];show(match ex F ZG [jL w,jL c,jL l[i],y3,y4] st with
   |some (.nx U',st')=>Zt (λd U s=>ex F ZG (Zf U 2 d) s) w M (i+1) U' st'
   |some (.ct U',st')=>Zt (λd U s=>ex F ZG (Zf U 2 d) s) w M (i+1) U' st'
   |some (.bk U',st')=>aa (.nx U',st')
   |some (.rt v,st')=>aa (.rt v,st')
   |none=>ab)=_
  rw[h];exact V
def J5{s0:Za}{l:Li Nat}(e:s0[w]?=aa (bb,l.map D.lst))(b:Cs s0 l ls)(q:∀ ns∈ls,ns≠[])(p:plL ls<=100)(r:ls.length<=3)(o:∀ ns∈ls,∀ v∈ns,Sm v):C (rT (n+1)) s0 134 [.lst w] (.tup ((prL [[]] ls).map inT)):=λst g=>by
 obtain⟨u,x,j,i,f,a,t,k,d⟩:=QU (F:=rT n) e b q r ls.length 0 [[]] st.length ac ab ab ab (st++[(ac,[.tup []])]) (bF _) (by rw[bR];show 1 * _<=_;rw[cR];exact p) (aD _) (λins h=>by rw[aR.mp h];exact⟨rfl,λv m=>nomatch m⟩) o (g.trans .push) Zp
 rw[bR]at d;have s:ex (rT n) (.for1 2 ae (.v 0) ZG) [jL w,jL st.length,ab,ab,ab] (st++[(ac,[.tup []])])=aa (.nx [jL w,jL u,j,i,f],a):=by
  rw[<-t,show ls.length=(l.map D.lst).length by rw[aB,b.1]]
  exact Xv (bb:=bb) (xs:=l.map D.lst) rfl ((g.trans .push).get e)
 exact⟨a,XS (v:=c_inputs_of) rfl rfl ((Zc (Zk (v:=.lst st.length) (st':=st++[(ac,[.tup []])]) rfl)).trans ((Zc s).trans (Zj (ZK (Ym (c:=(x,(prL [[]] ls).map inT)) rfl d))))),Grw.push.trans k⟩
theorem QJ{α:Type}{en:α->D}{g:α->Li D}{ok:Za->Prop}{fe fc:D->Za->Res}(n:∀ d st,fc d st=aa (.bl ac,st))(e:∀ st,ok st):∀ {l:Li α},(∀ a∈l,Lv s (fe (en a)) (g a))->∀ st,Grw s st->∃ (c:Li Nat) (st':Za),ZW ok fe fc (l.map en) st=aa (c.map D.lst,st')/\Grw st st'/\c.length=l.length/\∀ (i:Nat) j a,c[i]?=aa j->l[i]?=aa a->∃ b,st'[j]?=aa (b,g a)
 |[],_,st,k=>⟨[],st,am (e st),.refl,rfl,λi j a h=>nomatch h⟩
 |x :: xs,h,st,k=>by
  obtain⟨s1,j,b,w,u,m⟩:=h x Ls st k;obtain⟨c,p,v,f,q,y⟩:=QJ n e (λd t=>h d (Lm _ t)) s1 (k.trans m)
  refine⟨j :: c,p,?_,m.trans f,ar (·+1) q,λi r a hi o=>?_⟩
  .rw[aQ,ZW,am (e st),n]
   simp only[w,v,aQ]
  .cases i with
   |zero=>cases hi;cases o;exact⟨b,f.get u⟩
   |succ i=>exact y i r a hi o
def UN{p:Int×Int}:∀ v∈bxL p,p.1<=v/\v<=p.2:=λv a=>by
 obtain⟨k,b,rfl⟩:=aS.mp a;have:=bV.mp b;unfold Yr at this;rw[am (by decide),Int.ediv_one]at this
 split at this<;>omega
theorem Jr{x:Ot D}:∀ {tks:Li (Int×Int)}{a:Int}{y z:Ot D}{st:Za},(∀ p∈tks,ZP (p.2 - p.1+1)=ac)->∃ c b,Zi (YD 2 3 (ex F Z7)) (tks.map pdD) [x,jI a,y,z] st=aa (.nx [x,jI (wdI tks a),c,b],st)
 |[],a,y,z,st,_=>⟨y,z,rfl⟩
 |p :: tks,a,y,z,st,h=>by
  have e:ex F Z7 [x,jI a,jI p.1,jI p.2] st=aa (.nx [x,aa (.int (a * (p.2 - p.1+1))),jI p.1,jI p.2],st):=by
   have:ev F (.bin .Mult (.v 1) (.bin .Add (.bin .Sub (.v 3) (.v 2)) (.i 1))) [x,jI a,jI p.1,jI p.2] st=aa (.int (a * (p.2 - p.1+1)),st):=by
    show VQ .Mult (.int a) (.int (p.2 - p.1+1)) st=_;show(match (if ZP a||ZP (p.2 - p.1+1) then aa (a * (p.2 - p.1+1)) else ab) with|some k=>aa (D.int k,st)|none=>ab)=_
    rw[h p Ls,Bool.or_true];rfl
   exact(Zc (Zk this)).trans Zh
  obtain⟨c,b,f⟩:=Jr (tks:=tks) (a:=a * (p.2 - p.1+1)) (y:=jI p.1) (z:=jI p.2) (st:=st) λq d=>h q (Lm _ d)
  refine⟨c,b,?_⟩;show(match ex F Z7 [x,jI a,jI p.1,jI p.2] st with
   |some (.nx U',st')=>Zi (YD 2 3 (ex F Z7)) (tks.map pdD) U' st'
   |some (.ct U',st')=>Zi (YD 2 3 (ex F Z7)) (tks.map pdD) U' st'
   |some (.bk U',st')=>aa (.nx U',st')
   |some (.rt v,st')=>aa (.rt v,st')
   |none=>ab)=_
  rw[e];exact f
def XM{p:Int×Int}(h:p.1<=p.2):((bxL p).length:Int)=p.2 - p.1+1:=by
 unfold bxL Y1 Yr;rw[aB,bK,am (by decide),am (by omega),Int.ediv_one]
 omega
theorem ZeH:∀ {tks:Li (Int×Int)}{a:Int},(∀ p∈tks,p.1<=p.2)->wdI tks a=a * (plL (tks.map bxL):Int)
 |[],a,_=>by show a=a * 1;omega
 |p :: tks,a,h=>by
  show wdI tks (a * (p.2 - p.1+1))=a * (((bxL p).length * plL (tks.map bxL):Nat):Int);rw[ZeH λz b=>h z (Lm _ b),dR,XM (h p Ls),Int.mul_assoc]
def Zcz(h:Tk tks):C (rT (n+1)) s 133 [pgD (.tup (tks.map pdD)) m rs] (.int (wdI tks 1)):=λst g=>by
 obtain⟨d,c,e⟩:=Jr (F:=rT n) (x:=aa (pgD (.tup (tks.map pdD)) m rs)) (tks:=tks) (a:=1) (y:=ab) (z:=ab) (st:=st) λp f=>Uj (by have:=h.b p f;unfold Sm at this;omega)
 have j:ex (rT n) (.for2 2 3 (.ix (.v 0) (.i 0)) Z7) [aa (pgD (.tup (tks.map pdD)) m rs),jI 1,ab,ab] st=aa (.nx [aa (pgD (.tup (tks.map pdD)) m rs),jI (wdI tks 1),d,c],st):=e;exact⟨st,XS (v:=c_width) rfl rfl ((Zc (Zk rfl)).trans ((Zc j).trans (Zj (ZK rfl)))),.refl⟩
def UC(h:Tk tks):C (rT (n+2)) s 135 [pgD (.tup (tks.map pdD)) m rs] (.bl (aj (64 < wdI tks 1))):=.of (v:=c_is_wide) rfl rfl (.ret (.cmp (.call1 (.r rf) (Zcz h)) (.r rf) λ_=>rfl))
theorem QR{v:Int}:∀ {l:Li Int},Yh v (l.map D.int)=aa (aj (v∈l))
 |[]=>rfl
 |x :: l=>by
  show(Yh v (l.map D.int)).map (λb=>aj (x=v)||b)=_
  rw[QR];show aa (aj (x=v)||aj (v∈l))=aa (aj (v∈x :: l));rw[<-Bool.decide_or];exact ar aa (decide_eq_decide.mpr ⟨λh=>aF.mpr (h.imp Eq.symm id),λh=>(aF.mp h).imp Eq.symm id⟩)
def U9{a:Li Int}{v:Int}:(nwL a v).length<=a.length+1/\a.length<=(nwL a v).length:=by
 unfold nwL;split
 .omega
 .rw[aI];show _+1<=_/\_<=_+1;omega
theorem Q5{x0 x1:Ot D}(t:s.length<=j):∀ (vs a:Li Int) (y:Ot D) (st:Za),Grw s st->st[j]?=aa (ac,a.map D.int)->a.length+vs.length<=100->∃ n st',Zi (λd U s=>ex F Zx (Zf U 3 d) s) (vs.map D.int) [x0,x1,jL j,y] st=aa (.nx [x0,x1,jL j,n],st')/\Kj j st st'/\st'[j]?=aa (ac,(vs.foldl nwL a).map D.int)
 |[],a,y,st,g,h,_=>⟨y,st,rfl,Grw.refl.kj,h⟩
 |v :: vs,a,y,st,g,h,A=>by
  rw[aP]at A;have u:Y F st (.cmp .NotIn (.v 3) (.v 2)) [x0,x1,jL j,jI v] (.bl (!decide (v∈a))):=Dp.g2 (x:=.int v) (y:=.lst j) (.r rf) (.r rf) (gs λst' C=>by
   show(match (Option.map Bool.not (match st'[j]? with|some (_,xs)=>Yh v xs|none=>ab)) with|some k=>aa (D.bl k,st')|none=>ab)=_
   rw[C.get h];show(match (Option.map Bool.not (Yh v (a.map D.int))) with|some k=>aa (D.bl k,st')|none=>ab)=_
   rw[QR];rfl)
  obtain⟨o,m,l⟩:=u st .refl;have step:∃ b,ex F Zx [x0,x1,jL j,jI v] st=aa (.nx [x0,x1,jL j,jI v],b)/\Kj j st b/\b[j]?=aa (ac,(nwL a v).map D.int):=by
   unfold nwL;by_cases c:v∈a
   .rw[aK c]at m
    rw[am c];exact⟨o,(Zc ((Y3 m).trans Zh)).trans Zh,l.kj,l.get h⟩
   .rw[aG c]at m
    rw[ao c];obtain⟨b,q,f,p⟩:=Ap.app (F:=F) (s:=o) (j:=j) (i:=2) (e:=.v 3) (U:=[x0,x1,jL j,jI v]) (d:=.int v) rfl (.r rf) o (a.map D.int) .refl (l.get h) (by rw[aB];show _+1<=900;omega)
    exact⟨b,(Zc ((Z1 m).trans ((Zc q).trans Zh))).trans Zh,l.kj.trans f,by rw[p,bT];rfl⟩
  obtain⟨b,q,f,p⟩:=step;obtain⟨n,w,E,z,B⟩:=Q5 t vs (nwL a v) (jI v) b (f.grw t g) p (by have:=U9 (a:=a) (v:=v);omega)
  refine⟨n,w,?_,f.trans z,B⟩;show(match ex F Zx [x0,x1,jL j,jI v] st with
   |some (.nx U',st')=>Zi (λd U s=>ex F Zx (Zf U 3 d) s) (vs.map D.int) U' st'
   |some (.ct U',st')=>Zi (λd U s=>ex F Zx (Zf U 3 d) s) (vs.map D.int) U' st'
   |some (.bk U',st')=>aa (.nx U',st')
   |some (.rt v,st')=>aa (.rt v,st')
   |none=>ab)=_
  rw[q];exact E
def Zcu:Lv s (rT (n+1) 137 [.int lo,.int hi]) ((mnL (lo,hi)).map D.int):=λst g=>by
 have b:Y (rT n) (st++[(ac,[])]) (.tupE (.aC (.v 0) (.aC (.bin .FloorDiv (.bin .Add (.v 0) (.v 1)) (.i 2)) (.u (.v 1))))) [jI lo,jI hi,jL st.length,ab] (.tup ([lo,(lo+hi) / 2,hi].map D.int)):=by
  show Y _ _ _ _ (.tup [.int lo,.int ((lo+hi) / 2),.int hi]);exact .cons (.r rf) (.cons (.fd (.add (.r rf) (.r rf)) (.r rf) (by decide)) (.cons (.r rf) .nil))
 obtain⟨d,k,a⟩:=b _ .refl;obtain⟨l,c,h,e,f⟩:=Q5 (F:=rT n) (s:=st) (j:=st.length) (x0:=jI lo) (x1:=jI hi) (aD _) [lo,(lo+hi) / 2,hi] [] ab d (Grw.push.trans a) (a.get Zp) (by show 0+3<=100;decide)
 exact⟨c,st.length,ac,XS (v:=c_menu_numbers) rfl rfl ((Zc (Zk (v:=.lst st.length) (st':=st++[(ac,[])]) rfl)).trans ((Zc ((for_tup k).trans h)).trans (Zj (ZK rfl)))),f,(a.kj.trans e).grw (aD _) .push⟩
def Qa{a:Li Int}{v z:Int}(h:z∈nwL a v):z∈a\/z=v:=by
 unfold nwL at h;split at h
 .exact .inl h
 .exact(bO.mp h).imp id aR.mp
def U8{p:Int×Int}(h:p.1<=p.2):∀ v∈mnL p,p.1<=v/\v<=p.2:=λv b=>by
 rcases Qa (a:=nwL (nwL [] p.1) ((p.1+p.2) / 2)) b with b|rfl
 .rcases Qa (a:=nwL [] p.1) b with b|rfl
  .rcases Qa (a:=[]) b with b|rfl
   .cases b
   .omega
  .omega
 .omega
def Wy{p:Int×Int}:1<=(mnL p).length/\(mnL p).length<=3:=by
 have d:=U9 (a:=nwL (nwL [] p.1) ((p.1+p.2) / 2)) (v:=p.2);have c:=U9 (a:=nwL [] p.1) (v:=(p.1+p.2) / 2);have b:(nwL [] p.1).length=1:=by unfold nwL;rw[ao (by intro h;cases h)];rfl
 show 1<=(nwL (nwL (nwL [] p.1) ((p.1+p.2) / 2)) p.2).length/\(nwL (nwL (nwL [] p.1) ((p.1+p.2) / 2)) p.2).length<=3;omega
theorem Zbw:∀ {tks:Li (Int×Int)},plL (tks.map mnL)<=3 ^ tks.length
 |[]=>aD _
 |p :: tks=>by
  rw[aP,Nat.pow_succ,Nat.mul_comm];exact dE Wy.2 Zbw
def Qx{f:Int×Int->Li Int}(h:Tk tks)(F:∀ p∈tks,Lv s (ev (rT (n+2)) elt [jI p.1,jI p.2]) ((f p).map D.int))(E:∀ p∈tks,f p≠[])(C:∀ p∈tks,∀ v∈f p,Sm v)(a:plL (tks.map f)<=100):Y (rT (n+2)) s (.call 134 (.u (.compT [] (.ix (.v 0) (.i 0)) elt (.c (.bl ac)))) []) [aa (pgD (.tup (tks.map pdD)) m rs)] (.tup ((prL [[]] (tks.map f)).map inT)):=λst g=>by
 obtain⟨r,k,L,z,x,N⟩:=QJ (s:=s) (ok:=λ_=>True) (fe:=λd=>ev (rT (n+2)) elt (ZM two [aa (pgD (.tup (tks.map pdD)) m rs)] [] d)) (fc:=λd=>ev (rT (n+2)) (.c (.bl ac)) (ZM two [aa (pgD (.tup (tks.map pdD)) m rs)] [] d)) (en:=pdD) (g:=λp=>(f p).map D.int) (l:=tks) (λ_ _=>rfl) (λ_=>trivial) (λp a=>F p a) st g
 have K:ev (rT (n+2)) (.compT [] (.ix (.v 0) (.i 0)) elt (.c (.bl ac))) [aa (pgD (.tup (tks.map pdD)) m rs)] st=aa (.lst k.length,k++[(ac,r.map D.lst)]):=by
  show Ye two WM [] _ _ _ _ st=_;unfold Ye;rw[show ev (rT (n+2)) (.ix (.v 0) (.i 0)) [aa (pgD (.tup (tks.map pdD)) m rs)] st=aa (.tup (tks.map pdD),st) from rfl];have A:WM (.tup (tks.map pdD)) st=aa (tks.map pdD,λ_=>True):=am (cT.mpr λd G=>by obtain⟨p,_,rfl⟩:=aS.mp G;rfl)
  simp only[A];rw[am (by rw[aB];have:=h.l;omega),L]
 have M:=J5 (n:=n+1) (w:=k.length) (bb:=ac) (s0:=k++[(ac,r.map D.lst)]) (l:=r) (ls:=tks.map f) Zp ⟨by rw[x,aB],λi j ns I e=>by
  rw[aU]at e;cases q:tks[i]? with
  |none=>rw[q]at e;cases e
  |some p=>rw[q]at e;cases e;obtain⟨b,H⟩:=N i j p I q;exact⟨b,Grw.push.get H⟩⟩ (λns o=>by obtain⟨p,a,rfl⟩:=aS.mp o;exact E p a) a (by rw[aB];exact h.l) (λns o v B=>by obtain⟨p,a,rfl⟩:=aS.mp o;exact C p a v B)
 obtain⟨t,J,y⟩:=M _ .refl;refine⟨t,?_,z.trans (Grw.push.trans y)⟩;show Zq (ZY (ev (rT (n+2)) (.compT [] (.ix (.v 0) (.i 0)) elt (.c (.bl ac)))) (evC (.tup [])) WX) (Wi (rT (n+2) 134) []) [aa (pgD (.tup (tks.map pdD)) m rs)] st=_;unfold Zq ZY;rw[K];exact J
def Zav(h:Tk tks)(o:¬64 < wdI tks 1):plL (tks.map bxL)<=64/\∀ p∈tks,p.2 - p.1+1<=64:=by
 have e:=ZeH (tks:=tks) (a:=1) λp hp=>(h.b p hp).2.1
 rw[e,Int.one_mul]at o;have f:plL (tks.map bxL)<=64:=by omega
 refine⟨f,?_⟩;have g:∀ {l:Li (Int×Int)},(∀ p∈l,p.1<=p.2)->∀ ns∈l.map bxL,ns≠[]:=λ{l} c ns n e=>by
  obtain⟨p,hp,rfl⟩:=aS.mp n;have:=XM (c p hp);rw[e]at this;have:=c p hp;have:(([]:Li Int).length:Int)=0:=rfl;omega
 have k:∀ {l:Li (Int×Int)},(∀ p∈l,p.1<=p.2)->∀ p∈l,(bxL p).length<=plL (l.map bxL):=λ{l} c=>by
  induction l with
  |nil=>intro p hp;cases hp
  |cons q l m=>
   intro p hp;have j:=VB (g (l:=l) λz d=>c z (Lm _ d))
   have i:=dD.mpr (g c (bxL q) (aS.mpr ⟨q,Ls,rfl⟩));show _<=(bxL q).length * plL (l.map bxL);rcases aF.mp hp with rfl|hp
   .have:=Nat.mul_le_mul_left (bxL p).length j;rwa [Nat.mul_one]at this
   .have:=m (λz d=>c z (Lm _ d)) p hp
    have r:=Nat.mul_le_mul_right (plL (l.map bxL)) i;rw[cR]at r;omega
 intro p hp;have:=k (λz d=>(h.b z d).2.1) p hp
 have:=XM (h.b p hp).2.1;omega
def Zaw{p:Int×Int}(h:p.1<=p.2):bxL p≠[]:=λe=>by
 have:=XM h;rw[e]at this;have:(([]:Li Int).length:Int)=0:=rfl;omega
def Zcy(h:Tk tks):C (rT (n+4)) s 139 [pgD (.tup (tks.map pdD)) m rs] (.tup ((tdL tks).map inT)):=by
 have tl:=h.l;unfold tdL;by_cases c:64 < wdI tks 1
 .rw[am c]
  have d:=UC (n:=n+1) (s:=s) (m:=m) (rs:=rs) h;rw[aK c]at d;have q:C (rT (n+3)) s 138 [pgD (.tup (tks.map pdD)) m rs] (.tup ((prL [[]] (tks.map mnL)).map inT)):=.of (v:=c_menu) rfl rfl (.ret (Qx h (λp a st g=>by
   obtain⟨t,j,b,e,w,k⟩:=Zcu (n:=n+1) (s:=st) (lo:=p.1) (hi:=p.2) st .refl;exact⟨t,j,b,by show Zq (ev (rT (n+2)) (.aC (.v 0) (.u (.v 1)))) (Wi (rT (n+2) 137) []) _ st=_;unfold Zq;exact e,w,k⟩) (λp a e=>by have:=(Wy (p:=p)).1;rw[e]at this;cases this) (λp a v f=>by have:=h.b p a;have:=U8 this.2.1 v f;unfold Sm at *;omega) (aM Zbw (aM (Nat.pow_le_pow_right (by decide) tl) (by decide)))))
  exact .of (v:=c_tried) rfl rfl (.ret (.ife (k:=ac) (.call1 (.r rf) d) (.call1 (.r rf) q)))
 .rw[ao c]
  obtain⟨o,i⟩:=Zav h c;have d:=λ{n:Nat}=>UC (n:=n) (s:=s) (m:=m) (rs:=rs) h
  rw[aG c]at d;have x:C (rT (n+3)) s 136 [pgD (.tup (tks.map pdD)) m rs] (.tup ((prL [[]] (tks.map bxL)).map inT)):=.of (v:=c_box) rfl rfl (.no (.call1 (.r rf) d) (.ret (Qx h (λp a st g=>by
   have z:=i p a;have y:=h.b p a;unfold Sm at y;refine⟨st++[(ac,(bxL p).map D.int)],st.length,ac,?_,Zp,.push⟩;show(if XF p.1 (p.2+1) 1=ac/\p.2+1 - p.1<=1000 then aa (D.lst st.length,st++[(ac,(Y1 p.1 (p.2+1) 1).map D.int)]) else ab)=_
   exact am ⟨aK ⟨⟨by omega,by omega⟩,⟨by omega,by omega⟩,.inl rfl⟩,by omega⟩) (λp a=>Zaw (h.b p a).2.1) (λp a v f=>by have:=h.b p a;have:=UN v f;unfold Sm at *;omega) (by omega))))
  exact .of (v:=c_tried) rfl rfl (.ret (.ife (k:=ae) (.call1 (.r rf) d) (.call1 (.r rf) x)))
def XG(h:Tk tks):∀ ins∈tdL tks,ins.length=tks.length/\∀ v∈ins,Sm v:=by
 have:=Al.pr (ls:=tks.map (if 64 < wdI tks 1 then mnL else bxL)) (k:=0) (acc:=[[]]) (λins h=>by rw[aR.mp h];exact⟨rfl,λv a=>nomatch a⟩) λns d v a=>by
  obtain⟨p,c,rfl⟩:=aS.mp d;have e:=h.b p c;split at a
  .have:=U8 e.2.1 v a;unfold Sm at *;omega
  .have:=UN v a;unfold Sm at *;omega
 rw[bF,aB]at this;exact this
def Zab(h:Tk tks)(c:m<=1000)(f:tks.length<=m)(b:Rs m rs)(a:Rs m rs')(d:L<=800):C (rT (n+9)) s 140 [pgD (.tup (tks.map pdD)) m rs,pgD (.tup (tks.map pdD)) m rs',.int (L:Int)] ((skR (λins=>if tel m rs rs' L ins=ac then aa (inT ins) else ab) (tdL tks)).getD .non):=by
 refine .of (v:=c_sought) rfl rfl (.seekD (i:=3) (en:=inT) (E:=λy=>[aa (pgD (.tup (tks.map pdD)) m rs),aa (pgD (.tup (tks.map pdD)) m rs'),jN L,y]) (λ_ _=>rfl) (.call1 (.r rf) (Zcy (n:=n+4) h)) (λins hi=>?_) λy=>.ret (.r rf))
 obtain⟨g,e⟩:=XG h ins hi;exact .ite (.call (xs:=[pgD (.tup (tks.map pdD)) m rs,pgD (.tup (tks.map pdD)) m rs',inT ins,.int (L:Int)]) (.r rf) (Qz b a c (by omega) e d)) (λ_=>.r rf) λ_=>.skip
end
def vdD(c:Bool)(e:Ot (Li Tr))(pn:Li Int->Nat)(d:D)(t:Li Int->Bool)(a:Li (Li Int)):D:=
 if c=ac then .tup [.str "same"] else match fT t 0 a with
 |some i=>.tup [.str "trial",.int (i:Int),.int (pn (a.getD i []):Int)]
 |none=>match e with
  |some b=>.tup [.str "paper",.tup (b.map trD)]
  |none=>d
def reD(t:Li Int->Bool)(pn:Li Int->Nat)(a:Li (Int×Int)):D:=match skR (λins=>if t ins=ac then aa (.tup [.str "found",inT ins,.int (pn ins:Int)]) else ab) (tdL a) with
 |some d=>d
 |none=>.tup [.str (if 64 < wdI a 1 then S "unknown" else S "table")]
def ppD:Ot (Li Tr)->D
 |none=>.non
 |some a=>.tup (a.map trD)
theorem Vz{α:Type}{f:α->D}:∀ {l:Li α},(∀ a∈l,okD w (f a)=ac)->ZX w (l.map f)=ac
 |[],_=>by cases w<;>rfl
 |a :: l,h=>by
  show(okD w (f a)&&ZX w (l.map f))=ac;rw[h a Ls,Vz λz b=>h z (Lm _ b)];rfl
def Zfy{r:Rw}:okD 6 (rwE r)=ac:=by
 cases r with
 |put x y g z=>cases y<;>cases z<;>rfl
 |ifr y g z t=>cases y<;>cases z<;>rfl
 |tell y=>cases y<;>rfl
 |go t=>rfl
 |skip=>rfl
def Zeu:okD 8 (pgD (.tup (tks.map pdD)) m rs)=ac:=by
 show(ZX 6 (tks.map pdD)&&(ac&&(ZX 6 (rs.map rwE)&&ac)))=ac;rw[Vz λ_ _=>rfl,Vz λ_ _=>Zfy];rfl
def Jx(o:Rs m rs)(b:Rs m rs')(P:rs.length=sz)(O:rs'.length=sz)(hm:m<=60)(K:(sz+1) * (sz+1) < 64)(hB:2 ^ m * ((sz+1) * (sz+1))<=440)(hN:Tk tks)(ht:tks.length<=m):∃ X h,∀ L:Nat,L<=800->∀ e:Li (Li Int),(∀ ins∈e,ins.length<=m/\∀ v∈ins,Sm v)->∀ s,C (rT (n+10)) s 282 [pgD (.tup (tks.map pdD)) m rs,pgD (.tup (tks.map pdD)) m rs',.tup (e.map inT),.int (L:Int)] (vdD X h (λins=>fdN (trL m rs L ins) (trL m rs' L ins)) (reD (tel m rs rs' L) (λins=>fdN (trL m rs L ins) (trL m rs' L ins)) tks) (tel m rs rs' L) e):=by
 obtain⟨d1,c1,w,rfl⟩:=J6 (n:=n+3) (tk:=.tup (tks.map pdD)) o.ok (by have:=o.l;omega)
 obtain⟨d2,c2,p,rfl⟩:=J6 (n:=n+3) (tk:=.tup (tks.map pdD)) b.ok (by have:=b.l;omega)
 obtain⟨d3,c3,Z⟩:=Zcw (n:=n+1) (tk:=.tup (tks.map pdD)) o b P O hm K hB;obtain⟨h,e3⟩:∃ h,d3=ppD h:=by
  rcases Z with rfl|⟨V,rfl⟩
  .exact⟨ab,rfl⟩
  .exact⟨aa V,rfl⟩
 subst e3;refine⟨Zm (pgD (.tup (tks.map pdD)) m p) (pgD (.tup (tks.map pdD)) m w),h,λL N=>?_⟩
 have g:m<=1000:=by omega
 obtain⟨d,E⟩:∃ d,(λins=>fdN (trL m rs L ins) (trL m rs' L ins))=d:=⟨_,rfl⟩
 have B:∀ (ins:Li Int),ins.length<=m->(∀ v∈ins,Sm v)->tel m rs rs' L ins=ac->∃ x y,∀ s,C (rT (n+9)) s 98 [pgD (.tup (tks.map pdD)) m rs,pgD (.tup (tks.map pdD)) m rs',inT ins,.int (L:Int)] (.tup [.int (d ins:Int),x,y]):=λins P O h3=>by
  rw[<-E];exact ZeO (n:=n+2) (tk:=.tup (tks.map pdD)) o b g P O N h3
 -- what comes behind a paper
 have hR:∀ s (U T Q:Ot D),R (rT (n+9)) s (.seq (.set 6 (.call 140 (.aC (.v 0) (.aC (.v 1) (.u (.v 3)))) []))
 (.seq (.ite (.cmp .IsNot (.v 6) (.c .non)) (.z (.ret (.tupE (.aC (.t "found") (.aC (.v 6) (.u (.ix (.call 98 (.aC (.v 0) (.aC (.v 1) (.aC (.v 6) (.u (.v 3))))) []) (.i 0)))))))) .skip)
 (.z (.ret (.ife (.call 135 (.u (.v 0)) []) (.tupE (.u (.t "unknown"))) (.tupE (.u (.t "table")))))))) [aa (pgD (.tup (tks.map pdD)) m rs),aa (pgD (.tup (tks.map pdD)) m rs'),U,jN L,T,Q,ab] (reD (tel m rs rs' L) d tks):=λs U T Q=>by
  have G:=Zab (n:=n) (s:=s) hN g ht o b N;have two:∀ {l:Li (Li Int)},(∀ ins∈l,ins.length=tks.length/\∀ v∈ins,Sm v)->(∃ ins,ins.length<=m/\(∀ v∈ins,Sm v)/\tel m rs rs' L ins=ac/\skR (λins=>if tel m rs rs' L ins=ac then aa (inT ins) else ab) l=aa (inT ins)/\skR (λins=>if tel m rs rs' L ins=ac then aa (D.tup [.str "found",inT ins,.int (d ins:Int)]) else ab) l=aa (.tup [.str "found",inT ins,.int (d ins:Int)]))\/(skR (λins=>if tel m rs rs' L ins=ac then aa (inT ins) else ab) l=ab/\skR (λins=>if tel m rs rs' L ins=ac then aa (D.tup [.str "found",inT ins,.int (d ins:Int)]) else ab) l=ab):=λ{l}=>by
   induction l with
   |nil=>exact λ_=>.inr ⟨rfl,rfl⟩
   |cons x l ih=>
    intro W;unfold skR;by_cases c:tel m rs rs' L x=ac
    .have:=W x Ls
     rw[am c,am c];exact .inl ⟨x,by omega,this.2,c,rfl,rfl⟩
    .rw[ao c,ao c]
     exact ih λz K=>W z (Lm _ K)
  unfold reD;rcases two (XG hN) with⟨ins,o1,o2,H,J,I⟩|⟨J,I⟩
  .rw[J]at G
   rw[I];obtain⟨x,y,M⟩:=B ins o1 o2 H;exact .set (.call (xs:=[pgD (.tup (tks.map pdD)) m rs,pgD (.tup (tks.map pdD)) m rs',.int (L:Int)]) (.r rf) G) (.yes (.r rf) (.cons (.r rf) (.cons (.r rf) (.cons (.ixt (j:=0) (xs:=[.int (d ins:Int),x,y]) (.call (xs:=[pgD (.tup (tks.map pdD)) m rs,pgD (.tup (tks.map pdD)) m rs',inT ins,.int (L:Int)]) (.r rf) (M s)) (.r rf) rfl) .nil))))
  .rw[J]at G
   rw[I];have F:=UC (n:=n+7) (s:=s) (m:=m) (rs:=rs) hN;refine .set (.call (xs:=[pgD (.tup (tks.map pdD)) m rs,pgD (.tup (tks.map pdD)) m rs',.int (L:Int)]) (.r rf) G) (.no (.r rf) (.ret ?_));by_cases c:64 < wdI tks 1
   .rw[aK c]at F
    show Y _ _ _ _ (.tup [.str (if 64 < wdI tks 1 then S "unknown" else S "table")])
    rw[am c];exact .ife (k:=ac) (.call1 (.r rf) F) (.r rf)
   .rw[aG c]at F
    show Y _ _ _ _ (.tup [.str (if 64 < wdI tks 1 then S "unknown" else S "table")])
    rw[ao c];exact .ife (k:=ae) (.call1 (.r rf) F) (.r rf)
 rw[E];intro e A s;have cf:=Zcr (n:=n) (s:=s) (tk:=.tup (tks.map pdD)) o b g A N;unfold vdD;refine .of (v:=c_verdict) rfl rfl (.pick (k:=Zm (pgD (.tup (tks.map pdD)) m p) (pgD (.tup (tks.map pdD)) m w)) (.eqd (.call1 (.r rf) (c2 s)) (.call1 (.r rf) (c1 s)) Zeu Zeu) (λq=>?_) λq=>?_)
 .rw[am q];exact .ret (.r rf)
 .rw[ao (by rw[q];decide)]
  refine .set (.call (xs:=[pgD (.tup (tks.map pdD)) m rs,pgD (.tup (tks.map pdD)) m rs',.tup (e.map inT),.int (L:Int)]) (.r rf) cf) ?_;cases z:fT (tel m rs rs' L) 0 e with
  |some i=>
   obtain⟨_,ins,hi,H⟩:=QM z;rw[Nat.sub_zero]at hi;have f:=A ins (aX hi);obtain⟨x,y,M⟩:=B ins f.1 f.2 H;have eg:e.getD i []=ins:=by rw[bA,hi];rfl
   show R _ s _ _ (.tup [.str "trial",.int (i:Int),.int (d (e.getD i []):Int)]);rw[eg];exact .yes (.r rf) (.cons (.r rf) (.cons (.r rf) (.cons (.ixt (j:=0) (xs:=[.int (d ins:Int),x,y]) (.call (xs:=[pgD (.tup (tks.map pdD)) m rs,pgD (.tup (tks.map pdD)) m rs',inT ins,.int (L:Int)]) (.cons (.r rf) (.cons (.r rf) (.cons (.ixt (j:=i) (xs:=e.map inT) (.r rf) (.r rf) (by rw[aU,hi];rfl)) (.cons (.r rf) .nil)))) (M s)) (.r rf) rfl) .nil)))
  |none=>
   refine .no (.r rf) (.set (.call (xs:=[pgD (.tup (tks.map pdD)) m rs,pgD (.tup (tks.map pdD)) m rs']) (.r rf) (c3 s)) ?_);cases h with
   |some V=>exact .yes (.r rf) (.r rf)
   |none=>exact .no (.r rf) (hR s _ _ _)
def Zcp(h:xs.length<=10):C (rT (n+1)) s 181 [.tup xs] .non:=λst g=>by
 have:Y (rT n) s (.cmp .Gt (.len (.v 0)) (.i 10)) [aa (.tup xs)] (.bl ae):=.cmp (.lnT (.r rf)) (.r rf) λ_=>by show aa (aj ((10:Int) < (xs.length:Int)))=_;rw[aG (by omega)]
 obtain⟨s1,b,a⟩:=this st g;exact⟨s1,Zjj (v:=c_check_trials) rfl rfl ((Zc ((Y3 b).trans Zh)).trans Zh),a⟩
def UB{h:Nat×Str×Rw->D}(i:Rs m rs)(w:l.length<=10)(t:∀ p∈fkL rs,∀ s,C (rT (n+10)) s 282 [pgD tk m rs,pgD tk m (rs.set p.1 p.2.2),.tup (l.map inT),.int (L:Int)] (h p)):C (rT (n+11)) s 283 [pgD tk m rs,.tup (l.map inT),.int (L:Int)] (.tup ((fkL rs).map h)):=by
 refine .of (v:=c_verdicts) rfl rfl λst g=>?_
 obtain⟨s1,B,q⟩:=Y.call1 (F:=rT (n+10)) (s:=st) (f:=181) (a:=.v 1) (x:=.tup (l.map inT)) (U:=[aa (pgD tk m rs),aa (.tup (l.map inT)),jN L]) (.r rf) (Zcp (n:=n+9) (by rw[aB];exact w)) st .refl
 have E:=i.l;have H:=QN (rs:=rs);obtain⟨k,A,o⟩:=Lv.tof (F:=rT (n+10)) (e:=.comp3 [2,0,1] (.call 172 (.u (.v 0)) []) (.call 282 (.aC (.v 4) (.aC (.call 180 (.aC (.v 4) (.aC (.v 0) (.u (.v 2)))) []) (.aC (.v 5) (.u (.v 3))))) []) (.c (.bl ac))) (U:=[aa (pgD tk m rs),aa (.tup (l.map inT)),jN L]) (QX (F:=rT (n+10)) (s:=s1) (U:=[aa (pgD tk m rs),aa (.tup (l.map inT)),jN L]) (b:=Jn) (wk:=Zch) (fr:=[2,0,1]) (it:=.call 172 (.u (.v 0)) []) (elt:=.call 282 (.aC (.v 4) (.aC (.call 180 (.aC (.v 4) (.aC (.v 0) (.u (.v 2)))) []) (.aC (.v 5) (.u (.v 3))))) []) (en:=tD) (g:=h) (l:=fkL rs) (.of (x:=.tup ((fkL rs).map tD)) (.call1 (.r rf) (Qw (n:=n+6) i)) λst=>am (cT.mpr λd y=>by obtain⟨p,_,rfl⟩:=aS.mp y;rfl)) (by omega) λp j=>by
  obtain⟨z,G⟩:=UW i j;exact .call (xs:=[pgD tk m rs,pgD tk m (rs.set p.1 p.2.2),.tup (l.map inT),.int (L:Int)]) (.cons (.r rf) (.cons (.call (xs:=[pgD tk m rs,.int (p.1:Int),rwE p.2.2]) (.r rf) (J3 (n:=n+8) z (by omega))) (.cons (.r rf) (.cons (.r rf) .nil)))) (t p j s1)) s1 .refl
 exact⟨k,(Zc (ZhW B)).trans (Zj (ZK A)),q.trans o⟩
def S0(a:Li Int):Za:=[(ae,a.map D.int)]
def ceI(a:Li Int)(k:Nat):Int:=if k < a.length then a.getD k 0 else if a=[] then ((k:Int) * k+7) * 48271 % 2147483629 else (a.getD 0 0 % 2147483647+7) * ((k:Int) * k+48271) % 2147483629
def smL:Li Int:=[-1000000000,-999999999,-2,-1,0,1,2,999999999]
def smI(c:Int):Int:=if c % 8=0 then smL.getD (c / 8 % 8).toNat 0 else if c % 8=1 then c / 8 * 48271 % 2000000000 - 1000000000 else c / 8 % 7 - 3
def opI(c:Int)(m:Nat):Op:=if 0 < c % 3 then .nm (c / 3 % m).toNat else .nu (smI (c / 3))
section
variable{c:Int}{Q:D->Prop}
def ZhA(g:Grw (S0 ns) s):s[0]?=aa (ae,ns.map D.int):=g.get rfl
def Y.lts{i j:Int}(d:Y F s a U (.int i))(c:Y F s b U (.int j)):Y F s (.cmp .Lt a b) U (.bl (aj (i < j))):=.cmp d c λ_=>rfl
def Y.gts{i j:Int}(d:Y F s a U (.int i))(c:Y F s b U (.int j)):Y F s (.cmp .Gt a b) U (.bl (aj (j < i))):=.cmp d c λ_=>rfl
def Y.eqi{i j:Int}(d:Y F s a U (.int i))(c:Y F s b U (.int j)):Y F s (.cmp .Eq a b) U (.bl (aj (i=j))):=.cmp d c λ_=>rfl
def Yn(f:k<=1000):C (rT (n+1)) (S0 ns) 27 [.lst 0,.int (k:Int)] (.int (ceI ns k)):=by
 have a:(S0 ns)[0]?=aa (ae,ns.map D.int):=rfl;have e:(ns.map D.int).length=ns.length:=aB ..;have b:ZP (k:Int)=ac:=Uj (by omega)
 have o:(k:Int) * k<=1000000:=by
  have:k * k<=1000 * 1000:=dE f f;omega
 have m:0<=(k:Int) * k:=Int.mul_nonneg (by omega) (by omega)
 unfold ceI;refine .of (v:=c__law_cell_at) rfl rfl (.pick (k:=aj ((k:Int) < ((ns.map D.int).length:Int))) (.lts (.r rf) (.lenl a (.r rf))) (λq=>?_) λq=>?_)
 .have q:=al q
  rw[e]at q;rw[am (by omega)]
  refine .ret (.ixl (j:=k) a (.r rf) (.r rf) ?_);show(ns.map D.int)[k]?=_;rw[aU,bA,Lg (by omega)];rfl
 .have q:=ak q
  rw[e]at q;rw[ao (by omega)]
  have l:Y (rT n) (S0 ns) (.cmp .Eq (.v 0) (.lstE .aN)) [jL 0,jN k] (.bl (aj (ns=[]))):=λst g=>by
   refine⟨st++[(ac,[])],?_,.push⟩;show(match (o2 (λ(c d:Y8)=>ZcU c.2 d.2) (st++[(ac,[])])[0]? (st++[(ac,[])])[st.length]?).join with|some k=>aa (D.bl k,st++[(ac,[])])|none=>ab)=_
   rw[ZhA (g.trans .push),Zp];cases ns with
   |nil=>rfl
   |cons v ns=>rw[aG (cL _ _)];rfl
  refine .pick l (λz=>?_) λz=>?_
  .rw[am (al z)]
   exact .ret (.md (.mul (.add (.mul (.r rf) (.r rf) b) (.r rf)) (.r rf) rfl) (.r rf) (by decide))
  .have z:=ak z
   rw[ao z];cases ns with
   |nil=>exact aq rfl z
   |cons v ns=>
    have h:Y (rT n) (S0 (v :: ns)) (.ix (.v 0) (.i 0)) [jL 0,jN k] (.int v):=.ixl (j:=0) a (.r rf) (.r rf) rfl;exact .ret (.md (.mul (.add (.md h (.r rf) (by decide)) (.r rf)) (.add (.mul (.r rf) (.r rf) b) (.r rf)) (Uj (by omega))) (.r rf) (by decide))
def Ji:Sm (smI c):=by
 unfold smI;split
 .have h:=Zo (c / 8) (j:=8) (by decide)
  have:(c / 8 % 8).toNat < 8:=by omega
  generalize (c / 8 % 8).toNat=i at *
  exact(by unfold Sm smL;decide:∀ i:Nat,i < 8->Sm (smL.getD i 0)) i this
 .split
  .have h:=Zo (c / 8 * 48271) (j:=2000000000) (by decide)
   unfold Sm;omega
  .have h:=Zo (c / 8) (j:=7) (by decide)
   unfold Sm;omega
def X4:C (rT (n+1)) s 19 [.int c] (.int (smI c)):=by
 unfold smI;refine .of (v:=c__law_small_by) rfl rfl (.setL (xs:=smL.map D.int) (.mk (.r rf)) λe j b g d=>.pick (.eqi (.md (.r rf) (.r rf) (by decide)) (.r rf)) (λq=>?_) λq=>.pick (.eqi (.md (.r rf) (.r rf) (by decide)) (.r rf)) (λz=>?_) λz=>?_)
 .rw[am (al q)]
  have h:=Zo (c / 8) (j:=8) (by decide)
  have a:(c / 8 % 8).toNat < smL.length:=by show _ < 8;omega
  refine .ret (.ixl (j:=(c / 8 % 8).toNat) d (.r rf) (by rw[bN h.1];exact .md (.fd (.r rf) (.r rf) (by decide)) (.r rf) (by decide)) ?_)
  show(smL.map D.int)[_]?=_;rw[aU,bA,Lg a];rfl
 .rw[ao (ak q),am (al z)]
  exact .ret (.sub (.md (.mul (.fd (.r rf) (.r rf) (by decide)) (.r rf) rfl) (.r rf) (by decide)) (.r rf))
 .rw[ao (ak q),ao (ak z)]
  exact .ret (.sub (.md (.fd (.r rf) (.r rf) (by decide)) (.r rf) (by decide)) (.r rf))
def Zev(a:0 < m):Xp m (opI c m):=by
 unfold opI;split
 .have h:=Zo (c / 3) (j:=(m:Int)) (by omega)
  show(c / 3 % (m:Int)).toNat < m;omega
 .exact Ji
def WU(a:0 < m):C (rT (n+2)) s 28 [.int c,.int (m:Int)] (opE (opI c m)):=by
 unfold opI;refine .of (v:=c__law_operand) rfl rfl (.pick (.gts (.md (.r rf) (.r rf) (by decide)) (.r rf)) (λq=>?_) λq=>?_)
 .rw[am (al q)]
  have h:=Zo (c / 3) (j:=(m:Int)) (by omega)
  show R _ _ _ _ (.tup [.str "name",.int ((c / 3 % (m:Int)).toNat:Int)]);rw[bN h.1];exact .ret (.cons (.r rf) (.cons (.md (.fd (.r rf) (.r rf) (by decide)) (.r rf) (by omega)) .nil))
 .rw[ao (ak q)]
  exact .ret (.cons (.r rf) (.cons (.call1 (.fd (.r rf) (.r rf) (by decide)) X4) .nil))
def Y.pickL{l:Li α}{f:α->D}{i:Int}(d:∀ s,Lv s (ev F a U) (l.map f))(c:∀ s,Y F s b U (.int i))(e:0<=i)(g:i < l.length):∃ x∈l,∀ s,Y F s (.ix a b) U (f x):=by
 have hi:i.toNat < l.length:=by omega
 refine⟨l[i.toNat],cI hi,λs=>.ixL (d s) (j:=i.toNat) (by rw[bN e];exact c s) ?_⟩
 rw[aU,Lg hi];rfl
def IsR(m sz:Nat)(d:D):Prop:=∃ r,d=rwE r/\ZC m sz r
def Zgx{more:Int}(p:0 < m)(H:m<=1000)(K:sz<=1000):CX (rT (n+3)) 29 [.int c,.int more,.int (m:Int),.int (sz:Int)] (IsR m sz):=by
 obtain⟨k,J,w⟩:∃ o,(∀ s,Y (rT (n+2)) s (.call 28 (.aC (.bin .Mod (.bin .Mult (.v 1) (.i 48271)) (.i 2147483647)) (.u (.v 2))) []) [jI c,jI more,jN m,jN sz,ab,ab,ab,ab,ab] (opE o))/\Xp m o:=⟨_,λs=>.call (xs:=[.int (more * 48271 % 2147483647),.int (m:Int)]) (.cons (.md (.mul (.r rf) (.r rf) rfl) (.r rf) (by decide)) (.cons (.r rf) .nil)) (WU p),Zev p⟩
 obtain⟨o2,I,A⟩:∃ o,(∀ s,Y (rT (n+2)) s (.call 28 (.aC (.bin .Mod (.bin .Mult (.bin .Add (.v 1) (.i 5)) (.i 1226874159)) (.i 2147483647)) (.u (.v 2))) []) [jI c,jI more,jN m,jN sz,aa (opE k),ab,ab,ab,ab] (opE o))/\Xp m o:=⟨_,λs=>.call (xs:=[.int ((more+5) * 1226874159 % 2147483647),.int (m:Int)]) (.cons (.md (.mul (.add (.r rf) (.r rf)) (.r rf) rfl) (.r rf) (by decide)) (.cons (.r rf) .nil)) (WU p),Zev p⟩
 have C:=Zo ((c+1) * 742938285 % 2147483647) (j:=(sz:Int)+1) (by omega)
 obtain⟨e,E⟩:∃ t:Nat,(c+1) * 742938285 % 2147483647 % ((sz:Int)+1)=(t:Int):=⟨_,(bN C.1).symm⟩;rw[E]at C;have B:=Zo ((more+3) * 950706376 % 2147483647) (j:=(m:Int)) (by omega)
 obtain⟨x,ex⟩:∃ t:Nat,(more+3) * 950706376 % 2147483647 % (m:Int)=(t:Int):=⟨_,(bN B.1).symm⟩;rw[ex]at B;generalize y:c * 48271 % 2147483647=sg;refine .of (v:=c__law_row) rfl rfl (.set J (.set I (.set (d:=.int sg) (λs=>by rw[<-y];exact .md (.mul (.r rf) (.r rf) rfl) (.r rf) (by decide)) (.set (d:=.int (e:Int)) (λs=>by rw[<-E];exact .md (.md (.mul (.add (.r rf) (.r rf)) (.r rf) rfl) (.r rf) (by decide)) (.add (.r rf) (.r rf)) (by omega)) (.pick (λs=>.lts (.md (.r rf) (.r rf) (by decide)) (.r rf)) (λ_=>.set (d:=.int (x:Int)) (λs=>by rw[<-ex];exact .md (.md (.mul (.add (.r rf) (.r rf)) (.r rf) rfl) (.r rf) (by decide)) (.r rf) (by omega)) ?_) λ_=>.pick (λs=>.lts (.md (.r rf) (.r rf) (by decide)) (.r rf)) (λ_=>?_) λ_=>.pick (λs=>.eqi (.md (.r rf) (.r rf) (by decide)) (.r rf)) (λ_=>?_) λ_=>.ret (λs=>.cons (.r rf) (.cons (.r rf) .nil)) ⟨.tell k,rfl,w⟩)))))
 .have h:=Zo sg (j:=5) (by decide)
  obtain⟨g,z,q⟩:=Y.pickL (F:=rT (n+2)) (a:=.lstE (.aC (.t "+") (.aC (.t "-") (.aC (.t "*") (.aC (.t "/") (.u (.t "mod"))))))) (b:=.bin .Mod (.v 6) (.i 5)) (U:=[jI c,jI more,jN m,jN sz,aa (opE k),aa (opE o2),jI sg,jN e,jN x]) (l:=psL) (f:=D.str) (λs=>.mk (.r rf)) (λs=>.md (.r rf) (.r rf) (by decide)) h.1 h.2
  exact .ret (λs=>.cons (.r rf) (.cons (.r rf) (.cons (.r rf) (.cons (q s) (.cons (.r rf) .nil))))) ⟨.put x k g o2,rfl,by omega,w,z,A⟩
 .have h:=Zo sg (j:=6) (by decide)
  obtain⟨g,z,q⟩:=Y.pickL (F:=rT (n+2)) (a:=.lstE (.aC (.t "<") (.aC (.t "<=") (.aC (.t "=") (.aC (.t ">=") (.aC (.t ">") (.u (.t "!=")))))))) (b:=.bin .Mod (.v 6) (.i 6)) (U:=[jI c,jI more,jN m,jN sz,aa (opE k),aa (opE o2),jI sg,jN e,ab]) (l:=isL) (f:=D.str) (λs=>.mk (.r rf)) (λs=>.md (.r rf) (.r rf) (by decide)) h.1 h.2
  exact .ret (λs=>.cons (.r rf) (.cons (.r rf) (.cons (q s) (.cons (.r rf) (.cons (.r rf) .nil))))) ⟨.ifr k g o2 e,rfl,w,z,A,by omega⟩
 .have h:=Zo sg (j:=2) (by decide)
  obtain⟨r,hr,G⟩:=Y.pickL (F:=rT (n+2)) (a:=.lstE (.aC (.tupE (.aC (.t "go") (.u (.v 7)))) (.u (.tupE (.u (.t "skip")))))) (b:=.bin .Mod (.v 6) (.i 2)) (U:=[jI c,jI more,jN m,jN sz,aa (opE k),aa (opE o2),jI sg,jN e,ab]) (l:=[.go e,.skip]) (f:=rwE) (λs=>.mk (.r rf)) (λs=>.md (.r rf) (.r rf) (by decide)) h.1 h.2
  refine .ret G ⟨r,rfl,?_⟩;rcases aF.mp hr with rfl|hr
  .show e<=sz;omega
  .rw[aR.mp hr];trivial
def stI(c:Int):Int×Int:=(c / 8 % 7 - 3,c / 8 % 7 - 3+c / 56 % 3)
def Jw:C (rT (n+1)) s 284 [.int c] (pdD (stI c)):=
 .of (v:=c__law_stretch) rfl rfl (.set (.sub (.md (.fd (.r rf) (.r rf) (by decide)) (.r rf) (by decide)) (.r rf)) (.ret (.cons (.r rf) (.cons (.add (.r rf) (.md (.fd (.r rf) (.r rf) (by decide)) (.r rf) (by decide))) .nil))))
def ZhN:-10<=(stI c).1/\(stI c).1<=(stI c).2/\(stI c).2<=(stI c).1+2/\(stI c).1<=10:=by
 have b:=Zo (c / 8) (j:=7) (by decide)
 have a:=Zo (c / 56) (j:=3) (by decide)
 unfold stI;dsimp only;omega
end
variable{mo:Nat}{rs:Li Rw}
section
variable{c:Int}
theorem rl2{I:Env->Prop}{P:Nat->D->Prop}(p:s.length<=j)(r:∀ k,k < N->∀ U st b,I U->Grw s st->st[j]?=aa (ac,b)->b.length < 800->∃ d c st',P k d/\I c/\ex F q (Zf U i (.int (k:Int))) st=aa (.nx c,st')/\Kj j st st'/\st'[j]?=aa (ac,b++[d])):∀ (M a:Nat),a+M=N->∀ U st b,I U->Grw s st->st[j]?=aa (ac,b)->b.length+M<=800->∃ xs c st',xs.length=M/\(∀ (t:Nat) d,xs[t]?=aa d->P (a+t) d)/\I c/\Zi (λd U s=>ex F q (Zf U i d) s) ((List.range' a M).map λ(k:Nat)=>D.int (k:Int)) U st=aa (.nx c,st')/\Kj j st st'/\st'[j]?=aa (ac,b++xs)
 |0,a,_,U,st,b,n,g,h,_=>⟨[],U,st,rfl,λt d h=>(nomatch h),n,rfl,Grw.refl.kj,by rw[bD];exact h⟩
 |M+1,a,J,U,st,b,n,g,h,H=>by
  obtain⟨d,f,s1,z,m,E,o,B⟩:=r a (by omega) U st b n g h (by omega)
  obtain⟨xs,e,u,y,x,l,C,w,A⟩:=rl2 p r M (a+1) (by omega) f s1 (b++[d]) m (o.grw p g) B (by rw[aI];show _+1+M<=800;omega)
  refine⟨d :: xs,e,u,by rw[aP,y],λt G h=>?_,l,?_,o.trans w,by rw[A,bB];rfl⟩
  .cases t with
   |zero=>cases h;exact z
   |succ t=>have:=x t G h;rw[show a+1+t=a+(t+1) by omega]at this;exact this
  .rw[dN,aQ]
   show(match ex F q (Zf U i (.int (a:Int))) st with
    |some (.nx c,st')=>Zi _ _ c st'
    |some (.ct c,st')=>Zi _ _ c st'
    |some (.bk c,st')=>aa (.nx c,st')
    |some (.rt v,st')=>aa (.rt v,st')
    |none=>ab)=_
   rw[E];exact C
def RP.fillW{I:Nat->Env->Prop}{P:Nat->D->Prop}{v:Int}(z:∀ j,Y F s e (Zf U i0 (.lst j)) (.int v))(u:v=(N:Int))(hN:N<=700)(B:∀ j,I j (Zf U i0 (.lst j)))(g:Grw s st)(y:∀ j,s.length<=j->∀ k,k < N->∀ U st a,I j U->Grw s st->st[j]?=aa (ac,a)->a.length < 800->∃ d b st',P k d/\I j b/\ex F q (Zf U i (.int (k:Int))) st=aa (.nx b,st')/\Kj j st st'/\st'[j]?=aa (ac,a++[d]))(w:∀ j xs b st',xs.length=N->(∀ (t:Nat) d,xs[t]?=aa d->P t d)->I j b->st.length<=j->Grw st st'->st'[j]?=aa (ac,xs)->∃ d t,ex F q' b st'=aa (.rt d,t)/\Grw st t/\Q d t):RP F (.seq (.set i0 (.lstE .aN)) (.seq (.for1 i ac e q) q')) U st Q:=by
 have m:Grw s (st++[(ac,[])]):=g.trans .push;obtain⟨s1,J,c⟩:=z st.length (st++[(ac,[])]) m;obtain⟨xs,b,l,x,r,f,H,o,C⟩:=rl2 (I:=I st.length) (P:=P) g.len (y st.length g.len) N 0 (by omega) _ s1 [] (B st.length) (m.trans c) (c.get Zp) (by show 0+N<=800;omega)
 have n:Grw st l:=(c.kj.trans o).grw (aD _) .push;obtain⟨d,t,G,E,A⟩:=w st.length xs b l x (λt d h=>by have:=r t d h;rw[bF]at this;exact this) f (aD _) n C
 refine⟨d,t,(Zc (p:=.set i0 (.lstE .aN)) (s':=st++[(ac,[])]) rfl).trans ((Zc ?_).trans G),E,A⟩;rw[Xw (v:=v) (by omega) (by omega) J,u,aZ,dM]
 exact H
inductive Pg(mo:Nat)(d:D):Prop where
 |mk (tks:List (Int×Int)) (m:Nat) (rs:List Rw) (e:d=pgD (.tup (tks.map pdD)) m rs) (nw:Tk tks) (t:tks.length<=m) (m4:m<=4) (r:Rs m rs) (l:rs.length<=mo)
def ZdA:∀ {xs:Li D},(∀ (t:Nat) d,xs[t]?=aa d->IsR m sz d)->∃ rs:Li Rw,xs=rs.map rwE/\∀ r∈rs,ZC m sz r:=λ{xs} h=>X9 λd b=>by
 obtain⟨t,a⟩:=List.getElem?_of_mem b;exact h t d a
def Zbm{b:D->Li (Ot D)}{en g:α->D}{l:Li α}(hi:Wk F s it U wk (l.map en))(e:l.length<=1000)(h:∀ a∈l,Y F s elt (ZM b U fr (en a)) (g a))(k:Grw s st):∃ st' j,Ye b wk fr (ev F it) (ev F elt) (ev F (.c (.bl ac))) U st=aa (.lst j,st')/\st'[j]?=aa (ac,l.map g)/\Grw st st':=by
 obtain⟨s1,j,i,f,d⟩:=Wu hi e h st k;exact⟨s1,j,i,f,d⟩
def Zgm{v:Int}(b:v < 2 ^ 62)(a:-(2 ^ 62)<=v)(h:Y F s e U (.int v)):Wk F s e U (YF ac) ((ag v.toNat).map λ(k:Nat)=>D.int (k:Int)):=.of h λst=>by
 unfold YF;rw[UY b a]
def n62{v:Int}(a:0<=v)(h:v<=700):v < 2 ^ 62/\-(2 ^ 62)<=v:=⟨by omega,by omega⟩
def Zcj(a:N<=700)(h:Y F s e U (.int (N:Int))):Wk F s e U (YF ac) ((ag N).map λ(k:Nat)=>D.int (k:Int)):=by
 have b:=n62 (v:=(N:Int)) (by omega) (by omega)
 have:=Zgm b.1 b.2 h;rw[aZ]at this;exact this
def XX{x7 x8:Ot D}{tk:Nat}{ht:Int}(d:tk<=3)(e:st[j]?=aa (ac,rs.map rwE))(g:Grw (S0 ns) st):∃ (tks:Li (Int×Int)) (t:Za),tks.length=tk/\Tk tks/\Grw st t/\ex (rT (n+4)) (.seq (.set 9 Z9) (.z (.ret (.tupE (.aC (.tOf (.v 9)) (.aC (.v 4) (.u (.tOf (.v 6))))))))) [jL 0,jN mo,jI ht,jN tk,jN m,jN sz,jL j,x7,x8,ab] st=aa (.rt (pgD (.tup (tks.map pdD)) m rs),t):=by
 obtain⟨s1,w,I,o,f⟩:=Zbm (F:=rT (n+4)) (s:=S0 ns) (st:=st) (U:=[jL 0,jN mo,jI ht,jN tk,jN m,jN sz,jL j,x7,x8,ab]) (b:=one) (wk:=YF ac) (fr:=[0]) (it:=.v 3) (elt:=.call 284 (.u (.call 27 (.aC (.v 1) (.u (.bin .Add (.i 2) (.v 0)))) [])) []) (l:=ag tk) (en:=λ(k:Nat)=>D.int (k:Int)) (g:=λk=>pdD (stI (ceI ns (2+k)))) (Zcj (by omega) (.r rf)) (by rw[bK];omega) (λk C=>by
  have:=bV.mp C;refine .call1 (x:=.int (ceI ns (2+k))) (.call (xs:=[.lst 0,.int ((2+k:Nat):Int)]) (.cons (.r rf) (.cons (by rw[bC];exact .add (.r rf) (.r rf)) .nil)) (Yn (n:=n+3) (by omega))) (Jw (n:=n+3))) g
 have E:(ag tk).map (λk=>pdD (stI (ceI ns (2+k))))=((ag tk).map λk=>stI (ceI ns (2+k))).map pdD:=by rw[bL];rfl
 rw[E]at o;have q:=Y.cons (F:=rT (n+4)) (s:=s1) (U:=[jL 0,jN mo,jI ht,jN tk,jN m,jN sz,jL j,x7,x8,jL w]) (a:=.tOf (.v 9)) (b:=.aC (.v 4) (.u (.tOf (.v 6)))) (.tof o (.r rf)) (.cons (x:=.int (m:Int)) (.r rf) (.cons (.tof (f.get e) (.r rf)) .nil))
 obtain⟨y,H,A⟩:=q s1 .refl;have G:ex (rT (n+4)) (.set 9 Z9) [jL 0,jN mo,jI ht,jN tk,jN m,jN sz,jL j,x7,x8,ab] st=aa (.nx [jL 0,jN mo,jI ht,jN tk,jN m,jN sz,jL j,x7,x8,jL w],s1):=Zk I
 exact⟨(ag tk).map λk=>stI (ceI ns (2+k)),y,by rw[aB,bK],⟨by rw[aB,bK];exact d,λp B=>by obtain⟨k,_,rfl⟩:=aS.mp B;have h:=ZhN (c:=ceI ns (2+k));exact⟨by unfold Sm;omega,h.2.1,by unfold Sm;omega⟩⟩,f.trans A,(Zc G).trans (Zj (ZK H))⟩
end
section
variable{c:Int}
def ZhX{t:Za}(h:ev F e U st=aa (d,t))(hi:U[i]?=aa (jL j))(b:t[j]?=aa (ac,xs))(a:xs≠[])(c:xs.length<=1000):ex F (.put i (.neg (.i 1)) e) U st=aa (.nx U,t.set j (ac,xs.set (xs.length - 1) d)):=by
 have f:0 < xs.length:=dD.mpr a;show Qd i (λ_ s=>aa (.int (-1),s)) (ev F e) U st=_
 unfold Qd;simp only[h,hi];unfold Wc;simp only[b];unfold ixN;rw[ao (by decide),am (by omega),show(-1+(xs.length:Int)).toNat=xs.length - 1 by omega]
def Rs.of{rs:Li Rw}(h:∀ r∈rs,ZC m sz r)(b:rs.length=sz)(c:sz<=50):Rs m rs:=⟨by omega,λr a=>by rw[b];exact h r a⟩
def ZeP(hmo:mo<=4)(g:Grw (S0 ns) st):CP (rT (n+5)) 30 [.lst 0,.int (mo:Int)] st λd _=>Pg mo d:=by
 obtain⟨f,ehd,hd0⟩:∃ v,(∀ U:Env,U[0]?=aa (jL 0)->Y (rT (n+4)) (S0 ns) (.bin .Mod (.call 27 (.aC (.v 0) (.u (.i 0))) []) (.i 2147483647)) U (.int v))/\0<=v:=⟨ceI ns 0 % 2147483647,λU h=>.md (.call (xs:=[.lst 0,.int ((0:Nat):Int)]) (.cons (.v h) (.cons (.r rf) .nil)) (Yn (n:=n+3) (by omega))) (.r rf) (by decide),(Zo _ (by decide)).1⟩
 have h4:=Zo f (j:=4) (by decide)
 obtain⟨tk,J⟩:∃ t:Nat,f % 4=(t:Int):=⟨_,(bN h4.1).symm⟩;rw[J]at h4;have h2:=Zo (f / 4) (j:=2) (by decide)
 obtain⟨m,em⟩:∃ m:Nat,(if (tk:Int)+f / 4 % 2 * 1 > 1 then (tk:Int)+f / 4 % 2 * 1 else 1)=(m:Int):=⟨_,(bN (by split<;>omega)).symm⟩
 have hm:1<=m/\tk<=m/\m<=4:=by
  have:(m:Int)=_:=em.symm;split at this<;>omega
 have hz:=Zo (ceI ns 1) (j:=(mo:Int)+1) (by omega)
 obtain⟨sz,K⟩:∃ t:Nat,ceI ns 1 % ((mo:Int)+1)=(t:Int):=⟨_,(bN hz.1).symm⟩;rw[K]at hz;have hx:=Zo (f / 32) (j:=(m:Int)) (by omega)
 obtain⟨x,H⟩:∃ t:Nat,f / 32 % (m:Int)=(t:Int):=⟨_,(bN hx.1).symm⟩;rw[H]at hx;have yb:∀ {s:Za}{o x8 x7 x6 x5 x4 x1 x0:Ot D},Y (rT (n+4)) s (.max (.i 1) (.bin .Add (.v 3) (.bin .Mult (.bin .Mod (.bin .FloorDiv (.v 2) (.i 4)) (.i 2)) (.intOf (.cmp .Lt (.v 3) (.i 4)))))) [x0,x1,jI f,jN tk,x4,x5,x6,x7,x8,o] (.int (m:Int)):=λ{s o x8 x7 x6 x5 x4 x1 x0}=>by
  rw[<-em];refine Dp.g2 (x:=.int 1) (y:=.int ((tk:Int)+f / 4 % 2 * 1)) (.r rf) (.add (.r rf) (.mul (.md (.fd (.r rf) (.r rf) (by decide)) (.r rf) (by decide)) (j:=1) (g1 (x:=.bl ac) (.cmp (x:=.int (tk:Int)) (y:=.int 4) (.r rf) (.r rf) λ_=>ar aa (aK (by omega))) (gp λ_=>rfl)) rfl)) (gp λ_=>rfl)
 refine .of (v:=c__law_program) rfl rfl (.setY (ehd _ rfl) g λs1 M=>.setY (s:=S0 ns) (d:=.int (tk:Int)) (by rw[<-J];exact .md (.r rf) (.r rf) (by decide)) (g.trans M) λs2 V=>.setY (s:=S0 ns) yb (g.trans (M.trans V)) λs3 k3=>.setY (s:=S0 ns) (d:=.int (sz:Int)) (by rw[<-K];exact .md (.call (xs:=[.lst 0,.int ((1:Nat):Int)]) (.r rf) (Yn (n:=n+3) (by omega))) (.add (.r rf) (.r rf)) (by omega)) (g.trans (M.trans (V.trans k3))) λs4 k4=>?_)
 have Z:Grw (S0 ns) s4:=g.trans (M.trans (V.trans (k3.trans k4)));refine .fillW (s:=S0 ns) (N:=sz) (i0:=6) (i:=7) (I:=λj U=>∃ y z,U=[jL 0,jN mo,jI f,jN tk,jN m,jN sz,jL j,y,z,ab]) (P:=λ_ d=>IsR m sz d) (λj=>.r rf) rfl (by omega) (λj=>⟨ab,ab,rfl⟩) Z (λj hj k hk U t acc X G ht hc=>?_) λj xs U t W hP X jl G ht=>?_
 .obtain⟨y,z,rfl⟩:=X
  obtain⟨dr,E,r,er,ok⟩:=Zgx (n:=n+1) (c:=ceI ns (5+2 * k)) (more:=ceI ns (6+2 * k)) (m:=m) (sz:=sz) (by omega) (by omega) (by omega)
  have lk:ZP (k:Int)=ac:=Uj (by omega)
  have L:∀ (w:Int) (v:Nat) {s:Za}{x8 o:Ot D},(v:Int)=w->Y (rT (n+4)) s (.bin .Add (.i w) (.bin .Mult (.i 2) (.v 7))) [jL 0,jN mo,jI f,jN tk,jN m,jN sz,jL j,jN k,x8,o] (.int ((v+2 * k:Nat):Int)):=λw v {s x8 o} e=>by
   rw[bC,dR,e];exact .add (.r rf) (.mul (.r rf) (.r rf) lk)
  have A:=Ap.seq (F:=rT (n+4)) (s:=S0 ns) hj (q:=.set 8 (.call 27 (.aC (.v 0) (.u (.bin .Add (.i 5) (.bin .Mult (.i 2) (.v 7))))) [])) (U:=[jL 0,jN mo,jI f,jN tk,jN m,jN sz,jL j,jN k,z,ab]) (.set (.call (xs:=[.lst 0,.int ((5+2 * k:Nat):Int)]) (.cons (.r rf) (.cons (L 5 5 rfl) .nil)) (Yn (n:=n+3) (by omega)))) (.one (.app (i:=6) (e:=.call 29 (.aC (.v 8) (.aC (.call 27 (.aC (.v 0) (.u (.bin .Add (.i 6) (.bin .Mult (.i 2) (.v 7))))) []) (.aC (.v 4) (.u (.v 5))))) []) rfl (.call (xs:=[.int (ceI ns (5+2 * k)),.int (ceI ns (6+2 * k)),.int (m:Int),.int (sz:Int)]) (.cons (.r rf) (.cons (.call (xs:=[.lst 0,.int ((6+2 * k:Nat):Int)]) (.cons (.r rf) (.cons (L 6 6 rfl) .nil)) (Yn (n:=n+3) (by omega))) (.cons (.r rf) (.cons (.r rf) .nil)))) (E _))))
  obtain⟨t',e',k',h'⟩:=A t acc G ht (by show _+1<=900;omega)
  exact⟨dr,_,t',⟨r,er,ok⟩,⟨_,_,rfl⟩,e',k',h'⟩
 .obtain⟨y,z,rfl⟩:=X
  obtain⟨rs,rfl,C⟩:=ZdA hP;rw[aB]at W;have gS:Grw (S0 ns) t:=Z.trans G;have L:Y (rT (n+4)) t (.and (.cmp .Gt (.v 5) (.i 0)) (.cmp .Gt (.bin .Mod (.bin .FloorDiv (.v 2) (.i 8)) (.i 4)) (.i 0))) [jL 0,jN mo,jI f,jN tk,jN m,jN sz,jL j,y,z,ab] (.bl (aj (0 < (sz:Int))&&aj (0 < f / 8 % 4))):=.and (.gts (.r rf) (.r rf)) λ_=>.gts (.md (.fd (.r rf) (.r rf) (by decide)) (.r rf) (by decide)) (.r rf)
  obtain⟨t1,Q,p⟩:=L t .refl;cases S:aj (0 < (sz:Int))&&aj (0 < f / 8 % 4) with
  |false=>
   rw[S]at Q;obtain⟨l,R,lt,T,O,e2⟩:=XX (n:=n) (m:=m) (sz:=sz) (x7:=y) (x8:=z) (ht:=f) (tk:=tk) (mo:=mo) (rs:=rs) (by omega) (p.get ht) (gS.trans p)
   exact⟨_,R,(Zc ((Y3 Q).trans Zh)).trans e2,G.trans (p.trans O),l,m,rs,rfl,T,by omega,by omega,.of C W (by omega),by omega⟩
  |true=>
   rw[S]at Q;rw[Ba,dI]at S;have yt:=Y.cons (F:=rT (n+4)) (s:=t1) (a:=.t "tell") (b:=.aC (.tupE (.aC (.t "name") (.u (.bin .Mod (.bin .FloorDiv (.v 2) (.i 32)) (.v 4))))) .aN) (U:=[jL 0,jN mo,jI f,jN tk,jN m,jN sz,jL j,y,z,ab]) (x:=.str "tell") (xs:=[opE (.nm x)]) (.r rf) (.cons (.cons (.r rf) (.cons (by rw[<-H];exact .md (.fd (.r rf) (.r rf) (by decide)) (.r rf) (by omega)) .nil)) .nil)
   obtain⟨R,e2,O⟩:=yt t1 .refl;have B:=(p.trans O).get ht;have ep:=ZhX (F:=rT (n+4)) (e:=.tupE (.aC (.t "tell") (.u (.tupE (.aC (.t "name") (.u (.bin .Mod (.bin .FloorDiv (.v 2) (.i 32)) (.v 4)))))))) (i:=6) e2 rfl B (λh=>by have:=ar List.length h;rw[aB]at this;have:rs.length=0:=this;omega) (by rw[aB];omega)
   rw[aB,show D.tup [.str "tell",opE (.nm x)]=rwE (.tell (.nm x)) from rfl,<-dQ]at ep;have g5:Grw s4 (R.set j (ac,(rs.set (rs.length - 1) (.tell (.nm x))).map rwE)):=Xy (G.trans (p.trans O)) jl;obtain⟨l,t3,lt,T,j3,e3⟩:=XX (n:=n) (m:=m) (sz:=sz) (x7:=y) (x8:=z) (ht:=f) (tk:=tk) (mo:=mo) (rs:=rs.set (rs.length - 1) (.tell (.nm x))) (by omega) (bX (Zv B)) (Z.trans g5)
   refine⟨_,t3,(Zc ((Z1 Q).trans ((Zc ep).trans Zh))).trans e3,g5.trans j3,l,m,_,rfl,T,by omega,by omega,Rs.of (sz:=sz) (λr E=>?_) (by rw[bH];exact W) (by omega),by rw[bH];omega⟩
   rcases eM E with E|rfl
   .exact C r E
   .show x < m;omega
def Ts(b:Nat)(d:D):Prop:=∃ a:Li (Li Int),d=.tup (a.map inT)/\a.length<=3/\∀ ins∈a,ins.length=b/\∀ v∈ins,Sm v
def Zac{f a:Nat}(h1:f<=100)(h2:a<=3)(g:Grw (S0 ns) st):CP (rT (n+3)) 51 [.lst 0,.int (f:Int),.int (a:Int)] st λd _=>Ts a d:=by
 have Q:=Zo (ceI ns f) (j:=4) (by decide)
 obtain⟨N,R⟩:∃ t:Nat,ceI ns f % 4=(t:Int):=⟨_,(bN Q.1).symm⟩;rw[R]at Q;refine .of (v:=c__law_trials) rfl rfl (.fillW (s:=S0 ns) (N:=N) (i0:=3) (i:=4) (I:=λj U=>∃ y z,U=[jL 0,jN f,jN a,jL j,y,z]) (P:=λ_ d=>∃ ins:Li Int,d=inT ins/\(ins.length=a/\∀ v∈ins,Sm v)) (v:=(N:Int)) (λj=>by rw[<-R];exact .md (.call (xs:=[.lst 0,.int (f:Int)]) (.r rf) (Yn (n:=n+1) (by omega))) (.r rf) (by decide)) rfl (by omega) (λj=>⟨ab,ab,rfl⟩) g (λj hj k hk U t L E H p hc=>?_) λj xs U t X Z E jl H p=>?_)
 .obtain⟨y,z,rfl⟩:=E
  have kt:k * a<=3 * 3:=dE (by omega) h2
  have q:ZP (a:Int)=ac:=Uj (by omega)
  obtain⟨o,w,e1,m,B⟩:=Zbm (F:=rT (n+2)) (s:=S0 ns) (st:=t) (U:=[jL 0,jN f,jN a,jL j,jN k,z]) (b:=one) (wk:=YF ac) (fr:=[4,0,1,2]) (it:=.v 2) (elt:=.call 27 (.aC (.v 2) (.u (.bin .Add (.bin .Add (.bin .Add (.v 3) (.i 1)) (.bin .Mult (.v 1) (.v 4))) (.v 0)))) []) (l:=ag a) (en:=λ(k:Nat)=>D.int (k:Int)) (g:=λi=>D.int (ceI ns (f+1+k * a+i))) (Zcj (by omega) (.r rf)) (by rw[bK];omega) (λi hi=>by
   have:=bV.mp hi;exact .call (xs:=[.lst 0,.int ((f+1+k * a+i:Nat):Int)]) (.cons (.r rf) (.cons (by
    rw[bC,bC,bC,dR];exact .add (.add (.add (.r rf) (.r rf)) (.mul (.r rf) (.r rf) q)) (.r rf)) .nil)) (Yn (n:=n+1) (by omega))) H
  have ez:(ag a).map (λi=>D.int (ceI ns (f+1+k * a+i)))=((ag a).map λi=>ceI ns (f+1+k * a+i)).map D.int:=by rw[bL];rfl
  rw[ez]at m;obtain⟨h,K,A⟩:∃ h:Li Int,(ag a).map (λi=>ceI ns (f+1+k * a+i))=h/\h.length=a:=⟨_,rfl,by rw[aB,bK]⟩
  rw[K]at m;have V:j < o.length:=aT (Zv p) B.len;have O:=QX (F:=rT (n+2)) (s:=o) (U:=[jL 0,jN f,jN a,jL j,jN k,jL w]) (b:=one) (wk:=YF ae) (fr:=[]) (it:=.v 5) (elt:=.call 19 (.u (.v 0)) []) (l:=h) (en:=D.int) (g:=λc=>D.int (smI c)) (Wk.lst m (.r rf)) (by omega) λc _=>.call1 (x:=.int c) (.r rf) (X4 (n:=n+1))
  have J:h.map (λc=>D.int (smI c))=inZ (h.map smI):=by unfold inZ;rw[bL];rfl
  rw[J]at O;obtain⟨S,e2,T,G⟩:=Ap.app (F:=rT (n+2)) (s:=o) (j:=j) (i:=3) (e:=.tOf YM) (U:=[jL 0,jN f,jN a,jL j,jN k,jL w]) (d:=inT (h.map smI)) rfl (Lv.tof O) o L .refl (B.get p) (by show _+1<=900;omega)
  have e3:ex (rT (n+2)) (.set 5 YL) [jL 0,jN f,jN a,jL j,jN k,z] t=aa (.nx [jL 0,jN f,jN a,jL j,jN k,jL w],o):=Zk e1;exact⟨inT (h.map smI),_,S,⟨h.map smI,rfl,by rw[aB];exact A,λv W=>by obtain⟨c,_,rfl⟩:=aS.mp W;exact Ji⟩,⟨_,_,rfl⟩,(Zc e3).trans ((Zc e2).trans Zh),B.kj.trans T,G⟩
 .obtain⟨y,z,rfl⟩:=E
  obtain⟨M,rfl,C⟩:=X9 (en:=inT) (P:=λins=>ins.length=a/\∀ v∈ins,Sm v) (ys:=xs) λd Y=>by
   obtain⟨i,hi⟩:=List.getElem?_of_mem Y;exact Z i d hi
  rw[aB]at X;exact⟨_,t,Zj (ZK (Ym (c:=(ac,M.map inT)) rfl p)),H,M,rfl,by omega,C⟩
end
section
variable{u:Int}
def Xn:C (rT (n+1)) s 31 [.int u] (.int (arI u)):=.of (v:=c__law_around) rfl rfl (.ret (.arx (.r rf)))
def Y.eqv{i j:Int}(d:Y F s a U (.int i))(c:Y F s b U (.int j)):Y F s (.cmp .Eq a b) U (.bl (aj (i=j))):=.cmp d c λ_=>rfl
def Zae(e:Sm v):C (rT (n+2)) s 32 [.int u,.str g,.int v] (.int (rkI u g v)):=by
 unfold rkI;refine .of (v:=c__law_reckon) rfl rfl (.pick (.eqs (.r rf) (.r rf)) (λh=>?_) λh=>.pick (.eqs (.r rf) (.r rf)) (λb=>?_) λb=>.pick (.eqs (.r rf) (.r rf)) (λd=>?_) λd=>.pick (.eqv (.r rf) (.r rf)) (λa=>?_) λa=>.pick (.eqs (.r rf) (.r rf)) (λf=>?_) λf=>?_)
 .rw[am (al h)];exact .ret (.call1 (.add (.r rf) (.r rf)) Xn)
 .rw[ao (ak h),am (al b)];exact .ret (.call1 (.sub (.r rf) (.r rf)) Xn)
 .rw[ao (ak h),ao (ak b),am (al d)];exact .ret (.call1 (.mul (.r rf) (.r rf) (Vt e)) Xn)
 .rw[ao (ak h),ao (ak b),ao (ak d),am (al a),am (al a)]
  have k:Y (rT (n+1)) s (.intOf (.cmp .Eq (.v 1) (.t "/"))) [jI u,aa (.str g),jI v] (.int ((if g=S "/" then 1 else 0:Nat):Int)):=by
   refine g1 (x:=.bl (aj (g=S "/"))) (.eqs (.r rf) (.r rf)) (gp λ_=>?_)
   by_cases c:g=S "/"
   .rw[aK c,am c];rfl
   .rw[aG c,ao c];rfl
  refine .ret (.ixL (xs:=[.int u,.int 0]) (.mk (.r rf)) k ?_);by_cases c:g=S "/"
  .rw[am c,am c];rfl
  .rw[ao c,ao c];rfl
 .have a:=ak a
  rw[ao (ak h),ao (ak b),ao (ak d),am (al f),ao a];exact .ret (.call1 (.fdv (.r rf) (.r rf) a e) Xn)
 .have a:=ak a
  rw[ao (ak h),ao (ak b),ao (ak d),ao (ak f),ao a];refine .ret (.sub (.r rf) (.bi (i:=v) (j:=fdI u v) (.r rf) (.fdv (.r rf) (.r rf) a e) ?_));show(if ZP v||ZP (fdI u v) then aa (v * fdI u v) else ab)=_
  rw[Vt e];rfl
def Y.dct{ks:Li Str}(h:Y F s a U (.tup xs))(b:ks.length=xs.length/\(ks.Nodup/\ks≠[])/\ks.length<=15):Y F s (.dict ks a) U (.dct ks xs):=g1 h (gp λ_=>am b)
def Zh6(d:g∈isL):C (rT (n+1)) s 33 [.int u,.str g,.int v] (.bl (soI u g v)):=by
 have a:∀ {s:Za}{b:Ot D},Y (rT n) s (.dict [(S "<"),(S "<="),(S "=")] (.aC (.cmp .Lt (.v 0) (.v 2)) (.aC (.cmp .LtE (.v 0) (.v 2)) (.u (.cmp .Eq (.v 0) (.v 2)))))) [jI u,aa (.str g),jI v,b] (.dct [(S "<"),(S "<="),(S "=")] [.bl (aj (u < v)),.bl (aj (u<=v)),.bl (aj (u=v))]):=λ{s b}=>.dct (.cons (.cmp (x:=.int u) (y:=.int v) (.r rf) (.r rf) λ_=>rfl) (.cons (.cmp (x:=.int u) (y:=.int v) (.r rf) (.r rf) λ_=>rfl) (.cons (.cmp (x:=.int u) (y:=.int v) (.r rf) (.r rf) λ_=>rfl) .nil))) ⟨rfl,⟨by decide +kernel,cL _ _⟩,by decide⟩
 have e:∀ {s:Za}{b:Ot D},Y (rT n) s (.dict [(S ">="),(S ">"),(S "!=")] (.aC (.cmp .Lt (.v 0) (.v 2)) (.aC (.cmp .LtE (.v 0) (.v 2)) (.u (.cmp .Eq (.v 0) (.v 2)))))) [jI u,aa (.str g),jI v,b] (.dct [(S ">="),(S ">"),(S "!=")] [.bl (aj (u < v)),.bl (aj (u<=v)),.bl (aj (u=v))]):=λ{s b}=>.dct (.cons (.cmp (x:=.int u) (y:=.int v) (.r rf) (.r rf) λ_=>rfl) (.cons (.cmp (x:=.int u) (y:=.int v) (.r rf) (.r rf) λ_=>rfl) (.cons (.cmp (x:=.int u) (y:=.int v) (.r rf) (.r rf) λ_=>rfl) .nil))) ⟨rfl,⟨by decide +kernel,cL _ _⟩,by decide⟩
 have h:(!decide (u < v))=aj (v<=u):=by
  by_cases c:u < v
  .rw[aK c,aG (by omega)];rfl
  .rw[aG c,aK (by omega)];rfl
 have f:(!decide (u<=v))=aj (v < u):=by
  by_cases c:u<=v
  .rw[aK c,aG (by omega)];rfl
  .rw[aG c,aK (by omega)];rfl
 unfold isL at d;simp only[aF,aV,or_false]at d;rcases d with rfl|rfl|rfl|rfl|rfl|rfl
 .rw[ZhK];exact .of (v:=c__law_so) rfl rfl (.set a (.yes (.r rf) (.r rf)))
 .rw[ZhJ];exact .of (v:=c__law_so) rfl rfl (.set a (.yes (.r rf) (.r rf)))
 .rw[ZhG];exact .of (v:=c__law_so) rfl rfl (.set a (.yes (.r rf) (.r rf)))
 .rw[ZhH,<-h];exact .of (v:=c__law_so) rfl rfl (.set a (.no (.r rf) (.ret (.not (g2 e (y:=.str ">=") (.r rf) (gp λ_=>rfl))))))
 .rw[ZhI,<-f];exact .of (v:=c__law_so) rfl rfl (.set a (.no (.r rf) (.ret (.not (g2 e (y:=.str ">") (.r rf) (gp λ_=>rfl))))))
 .rw[ZhL];exact .of (v:=c__law_so) rfl rfl (.set a (.no (.r rf) (.ret (.not (g2 e (y:=.str "!=") (.r rf) (gp λ_=>rfl))))))
def Xo(a:Vs m vs)(h:Xp m o):C (rT (n+1)) s 34 [opE o,.tup (inZ vs)] (.int (woI vs o)):=by
 cases o with
 |nm i=>exact .of (v:=c__law_worth) rfl rfl (.yes (.r rf) (.ixt (j:=i) (.r rf) (.r rf) (ZeI a h)))
 |nu v=>exact .of (v:=c__law_worth) rfl rfl (.no (.r rf) (.ret (.r rf)))
def Zgn{t b:Za}{x:Nat}(h:ev F e U st=aa (d,t))(hi:U[i]?=aa (jL j))(c:ev F a U t=aa (.int (x:Int),b))(f:b[j]?=aa (ac,xs))(g:x < xs.length):ex F (.put i a e) U st=aa (.nx U,b.set j (ac,xs.set x d)):=by
 show Qd i (ev F a) (ev F e) U st=_;unfold Qd;simp only[h,hi,c];unfold Wc;simp only[f];unfold ixN;rw[am (by omega),am (by omega),aZ]
def ZeT(S:Rs m rs)(hm:m<=1000)(e:Vs m vs)(T:k < rs.length):C (rT (n+3)) s 35 [pgD tk m rs,.int (k:Int),.tup (inZ vs)] (mvD rs k vs):=by
 have q:=Lg T;generalize rs[k]=r at q;have ok:=S.ok r (aX q);have R:Y (rT (n+2)) s (.ix (.ix (.v 0) (.i 2)) (.v 1)) [aa (pgD tk m rs),jN k,aa (.tup (inZ vs)),ab,ab,ab] (rwE r):=.ixt (j:=k) (xs:=rs.map rwE) (.r rf) (.r rf) (by rw[aU,q];rfl)
 have one:∀ {s:Za}{L K J:Ot D},Y (rT (n+2)) s (.bin .Add (.v 1) (.i 1)) [aa (pgD tk m rs),jN k,aa (.tup (inZ vs)),L,K,J] (.int ((k+1:Nat):Int)):=λ{s L K J}=>by
  rw[bC];exact .add (.r rf) (.r rf)
 unfold mvD;rw[Zg9 q];refine .of (v:=c__law_next) rfl rfl (.set R ?_);cases r with
 |tell y=>exact .yes (.r rf) (.cons (.r rf) (.cons (.call (xs:=[opE y,.tup (inZ vs)]) (.r rf) (Xo e ok)) .nil))
 |put x y g z=>
  obtain⟨Z,H,N,w⟩:=ok;refine .no (.r rf) (.yB (.r rf) λst V=>?_)
  have hl:(inZ vs).length=m:=by unfold inZ;rw[aB,e.l]
  have A:ex (rT (n+2)) (.set 4 (.listOf (.v 2))) [aa (pgD tk m rs),jN k,aa (.tup (inZ vs)),aa (rwE (.put x y g z)),ab,ab] st=aa (.nx [aa (pgD tk m rs),jN k,aa (.tup (inZ vs)),aa (rwE (.put x y g z)),jL st.length,ab],st++[(ac,inZ vs)]):=Zk rfl;have Q:Y (rT (n+2)) (st++[(ac,inZ vs)]) (.call 32 (.aC (.call 34 (.aC (.ix (.v 3) (.i 2)) (.u (.v 2))) []) (.aC (.ix (.v 3) (.i 3)) (.u (.call 34 (.aC (.ix (.v 3) (.i 4)) (.u (.v 2))) [])))) []) [aa (pgD tk m rs),jN k,aa (.tup (inZ vs)),aa (rwE (.put x y g z)),jL st.length,ab] (.int (rkI (woI vs y) g (woI vs z))):=.call (xs:=[.int (woI vs y),.str g,.int (woI vs z)]) (.cons (.call (xs:=[opE y,.tup (inZ vs)]) (.r rf) (Xo e H)) (.cons (.r rf) (.cons (.call (xs:=[opE z,.tup (inZ vs)]) (.r rf) (Xo e w)) .nil))) (Zae (Uy e w))
  obtain⟨d,o,p⟩:=Q _ .refl;have P:d[st.length]?=aa (ac,inZ vs):=p.get Zp;have X:=Zgn (F:=rT (n+2)) (i:=4) (a:=.ix (.v 3) (.i 1)) (x:=x) o rfl rfl P (by omega)
  have gs:Grw st (d.set st.length (ac,(inZ vs).set x (.int (rkI (woI vs y) g (woI vs z))))):=Xy (Grw.push.trans p) (aD _);have O:(d.set st.length (ac,(inZ vs).set x (.int (rkI (woI vs y) g (woI vs z)))))[st.length]?=aa (ac,(inZ vs).set x (.int (rkI (woI vs y) g (woI vs z)))):=bX (Zv P);generalize d.set st.length (ac,(inZ vs).set x (.int (rkI (woI vs y) g (woI vs z))))=h at *
  have W:(inZ vs).set x (.int (rkI (woI vs y) g (woI vs z)))=inZ (vs.set x (rkI (woI vs y) g (woI vs z))):=by unfold inZ;rw[dQ]
  rw[W]at O;have B:=Y.cons (F:=rT (n+2)) (s:=h) (a:=.bin .Add (.v 1) (.i 1)) (b:=.aC (.tOf (.v 4)) .aN) (U:=[aa (pgD tk m rs),jN k,aa (.tup (inZ vs)),aa (rwE (.put x y g z)),jL st.length,ab]) one (.cons (.tof O (.r rf)) .nil);obtain⟨E,I,G⟩:=B h .refl;exact⟨E,(Zc A).trans ((Zc X).trans (Zj (ZK I))),gs.trans G⟩
 |go t=>exact .no (.r rf) (.no (.r rf) (.yes (.r rf) (.r rf)))
 |skip=>exact .no (.r rf) (.no (.r rf) (.no (.r rf) (.no (.r rf) (.ret (.cons one (.cons (.r rf) .nil))))))
 |ifr y g z t=>
  obtain⟨H,N,w,ht⟩:=ok;refine .no (.r rf) (.no (.r rf) (.no (.r rf) λst V=>?_))
  obtain⟨d,A,M⟩:=Y.call (F:=rT (n+2)) (s:=st) (f:=34) (a:=.aC (.ix (.v 3) (.i 1)) (.u (.v 2))) (U:=[aa (pgD tk m rs),jN k,aa (.tup (inZ vs)),aa (rwE (.ifr y g z t)),ab,ab]) (xs:=[opE y,.tup (inZ vs)]) (ds:=[]) (.r rf) (Xo (n:=n+1) e H) st .refl;have ys:Y (rT (n+2)) d (.call 33 (.aC (.v 5) (.aC (.ix (.v 3) (.i 2)) (.u (.call 34 (.aC (.ix (.v 3) (.i 3)) (.u (.v 2))) [])))) []) [aa (pgD tk m rs),jN k,aa (.tup (inZ vs)),aa (rwE (.ifr y g z t)),ab,jI (woI vs y)] (.bl (soI (woI vs y) g (woI vs z))):=.call (xs:=[.int (woI vs y),.str g,.int (woI vs z)]) (.cons (.r rf) (.cons (.r rf) (.cons (.call (xs:=[opE z,.tup (inZ vs)]) (.r rf) (Xo e w)) .nil))) (Zh6 N)
  obtain⟨h,o,p⟩:=ys d .refl;show ∃ st',_=aa (Fl.rt (stD (if soI (woI vs y) g (woI vs z)=ac then t else k+1) vs),st')/\Grw st st'
  cases c:soI (woI vs y) g (woI vs z) with
  |true=>
   rw[c]at o;exact⟨h,Zj ((Z1 rfl).trans ((Zc (Zk A)).trans (Zj ((Z1 o).trans (Zj (ZK rfl)))))),M.trans p⟩
  |false=>
   rw[c]at o;have B:=Y.cons (F:=rT (n+2)) (s:=h) (a:=.bin .Add (.v 1) (.i 1)) (b:=.aC (.v 2) .aN) (U:=[aa (pgD tk m rs),jN k,aa (.tup (inZ vs)),aa (rwE (.ifr y g z t)),ab,jI (woI vs y)]) one (.cons (x:=.tup (inZ vs)) (.r rf) .nil);obtain⟨E,I,G⟩:=B h .refl;exact⟨E,(Zc ((Z1 rfl).trans ((Zc (Zk A)).trans ((Zc ((Y3 o).trans Zh)).trans Zh)))).trans (Zj (ZK I)),M.trans (p.trans G)⟩
end
variable{b1:Bool}{x1:Ot D}
def Zg8(b:Rs m rs){p:Nat×Li Int}(h:mv rs k vs=.inr p):p.1<=rs.length:=by
 unfold mv at h;cases q:rs[k]? with
 |none=>rw[q]at h;cases h
 |some r=>
  rw[q]at h;have a:=Zv q;have ok:=b.ok r (aX q);cases r with
  |tell y=>cases h
  |put x y g z=>cases h;exact a
  |skip=>cases h;exact a
  |go t=>cases h;exact ok
  |ifr y g z t=>
   cases h;show(if soI (woI vs y) g (woI vs z)=ac then t else k+1)<=rs.length
   split
   .exact ok.2.2.2
   .exact a
def Zha(a:k < rs.length){o:D}(h:mv rs k vs=.inl o):∃ v,o=teD v:=by
 unfold mv at h;rw[Lg a]at h;cases q:rs[k] with
 |tell y=>rw[q]at h;cases h;exact⟨_,rfl⟩
 |_=>rw[q]at h;cases h
def ZaG{w:Nat}{t t2:Za}(d:ev F a U st=aa (.lst i,t))(c:ev F b U t=aa (.lst j,t2))(f:t2[i]?=aa (b1,xs))(e:t2[j]?=aa (b2,ys))(g:xs.length+ys.length<=1000):ev F (.bin .Add a b) U st=aa (.lst t2.length,t2++[(ac,xs++ys)]):=by
 show ZY (ev F a) (ev F b) (VQ .Add) U st=_;unfold ZY;simp only[d,c];show ZcI i j t2=_;unfold ZcI;simp only[f,e];exact am (by unfold Zw;omega)
def Zdo{y:Ot D}(N:Rs m rs)(P:m<=1000)(M:Vs m vs)(T:k<=rs.length)(V:s.length<=j)(g:Grw s st)(h:st[j]?=aa (ac,acc))(S:acc.length < 900):match mv rs k vs with
  |.inl o=>∃ st' w b,Kj j st st'/\st'[w]?=aa (b,acc++[o])/\ex (rT (n+3)) Zn [aa (pgD tk m rs),x1,x2,aa (stD k vs),jL j,y] st=aa (.rt (.lst w),st')
  |.inr p=>∃ st',Kj j st st'/\st'[j]?=aa (ac,acc++[stD p.1 p.2])/\ex (rT (n+3)) Zn [aa (pgD tk m rs),x1,x2,aa (stD k vs),jL j,y] st=aa (.nx [aa (pgD tk m rs),x1,x2,aa (stD p.1 p.2),jL j,y],st'):=by
 have K:Y (rT (n+3)) st (.cmp .Eq (.ix (.v 3) (.i 0)) (.len (.ix (.v 0) (.i 2)))) [aa (pgD tk m rs),x1,x2,aa (stD k vs),jL j,y] (.bl (aj (k=rs.length))):=by
  have:=Y.eqv (F:=rT (n+3)) (s:=st) (a:=.ix (.v 3) (.i 0)) (b:=.len (.ix (.v 0) (.i 2))) (U:=[aa (pgD tk m rs),x1,x2,aa (stD k vs),jL j,y]) (i:=(k:Int)) (j:=((rs.map rwE).length:Int)) (.r rf) (.lnT (.r rf));rw[aB,decide_eq_decide.mpr (⟨λh=>by omega,λh=>by omega⟩:(k:Int)=(rs.length:Int)↔k=rs.length)]at this
  exact this
 obtain⟨l,E,B⟩:=K st .refl;by_cases c:k=rs.length
 .rw[aK c]at E
  rw[Zfv (by omega)]
  have R:=B.get h;have H:=ZaG (F:=rT (n+3)) (a:=.v 4) (b:=.lstE (.u (.tupE (.u (.t "none"))))) (U:=[aa (pgD tk m rs),x1,x2,aa (stD k vs),jL j,y]) (st:=l) (t:=l) (t2:=l++[(ac,[noD])]) (i:=j) (j:=l.length) (w:=0) (b1:=ac) (b2:=ac) (xs:=acc) (ys:=[noD]) rfl rfl (Grw.push.get R) Zp (by show _+1<=1000;omega)
  exact⟨_,_,_,(B.trans (Grw.push.trans .push)).kj,Zp,Zj ((Z1 E).trans (Zj (ZK H)))⟩
 .rw[aG c]at E
  have x:k < rs.length:=by omega
  obtain⟨t2,H,J⟩:=Y.call (F:=rT (n+3)) (s:=l) (f:=35) (a:=.aC (.v 0) (.aC (.ix (.v 3) (.i 0)) (.u (.ix (.v 3) (.i 1))))) (U:=[aa (pgD tk m rs),x1,x2,aa (stD k vs),jL j,y]) (xs:=[pgD tk m rs,.int (k:Int),.tup (inZ vs)]) (ds:=[]) (.r rf) (ZeT N P M x) l .refl;obtain⟨A,Q,L,C⟩:=Ap.app (F:=rT (n+3)) (s:=t2) (j:=j) (i:=4) (e:=.v 3) (U:=[aa (pgD tk m rs),x1,x2,aa (mvD rs k vs),jL j,y]) (d:=mvD rs k vs) rfl (.r rf) t2 acc .refl ((B.trans J).get h) (by show _+1<=900;omega)
  have I:Kj j st A:=(B.trans J).kj.trans L;have pre:∀ {r},ex (rT (n+3)) (.z (.ite (.cmp .Eq (.ix (.v 3) (.i 0)) (.t "told")) (.z (.ret (.v 4))) .skip)) [aa (pgD tk m rs),x1,x2,aa (mvD rs k vs),jL j,y] A=r->ex (rT (n+3)) Zn [aa (pgD tk m rs),x1,x2,aa (stD k vs),jL j,y] st=r:=λh=>(Zc ((Y3 E).trans Zh)).trans ((Zc (Zk H)).trans ((Zc Q).trans h))
  cases q:mv rs k vs with
  |inl o=>
   have G:mvD rs k vs=o:=by unfold mvD;rw[q]
   obtain⟨v,O⟩:=Zha x q;rw[G]at C pre;refine⟨A,j,ac,I,C,pre ?_⟩;rw[O];exact Zj ((Z1 rfl).trans (Zj (ZK rfl)))
  |inr p=>
   have G:mvD rs k vs=stD p.1 p.2:=by unfold mvD;rw[q]
   rw[G]at C pre;exact⟨A,I,C,pre ((Zc ((Y3 rfl).trans Zh)).trans Zh)⟩
theorem Q3(u:Rs m rs)(L:m<=1000)(J:s.length<=j){x1 x2:Ot D}:∀ (M a k:Nat) (vs:Li Int) (acc:Li D) (st:Za) (y:Ot D),Vs m vs->k<=rs.length->Grw s st->st[j]?=aa (ac,acc)->acc.length+M<=900->
  (∃ l f c z st',l<=rs.length/\tl rs M k vs=c++[enD rs l]/\Zi (λd U s=>ex (rT (n+3)) Zn (Zf U 5 d) s) ((List.range' a M).map λ(k:Nat)=>D.int (k:Int)) [aa (pgD tk m rs),x1,x2,aa (stD k vs),jL j,y] st=aa (.nx [aa (pgD tk m rs),x1,x2,aa (stD l f),jL j,z],st')/\Kj j st st'/\st'[j]?=aa (ac,acc++c)) \/
  (∃ st' w b,Zi (λd U s=>ex (rT (n+3)) Zn (Zf U 5 d) s) ((List.range' a M).map λ(k:Nat)=>D.int (k:Int)) [aa (pgD tk m rs),x1,x2,aa (stD k vs),jL j,y] st=aa (.rt (.lst w),st')/\Kj j st st'/\st'[w]?=aa (b,acc++tl rs M k vs))
 |0,a,k,vs,acc,st,y,G,I,g,h,_=>.inl ⟨k,vs,[],y,st,I,rfl,rfl,Grw.refl.kj,by rw[bD];exact h⟩
 |M+1,a,k,vs,acc,st,y,G,I,g,h,P=>by
  have t:=Zdo (n:=n) (tk:=tk) (k:=k) (y:=jN a) (x1:=x1) (x2:=x2) u L G I J g h (by omega)
  rw[dN,aQ];have F:∀ {r},ex (rT (n+3)) Zn [aa (pgD tk m rs),x1,x2,aa (stD k vs),jL j,jN a] st=r->Zi (λd U s=>ex (rT (n+3)) Zn (Zf U 5 d) s) (D.int (a:Int) :: (List.range' (a+1) M).map λ(k:Nat)=>D.int (k:Int)) [aa (pgD tk m rs),x1,x2,aa (stD k vs),jL j,y] st=match r with
    |some (.nx U',st')=>Zi (λd U s=>ex (rT (n+3)) Zn (Zf U 5 d) s) ((List.range' (a+1) M).map λ(k:Nat)=>D.int (k:Int)) U' st'
    |some (.ct U',st')=>Zi (λd U s=>ex (rT (n+3)) Zn (Zf U 5 d) s) ((List.range' (a+1) M).map λ(k:Nat)=>D.int (k:Int)) U' st'
    |some (.bk U',st')=>aa (.nx U',st')
    |some (.rt v,st')=>aa (.rt v,st')
    |none=>ab:=λ{r} e=>by rw[<-e];rfl
  unfold tl;cases q:mv rs k vs with
  |inl o=>
   rw[q]at t;obtain⟨st',w,b,i,K,x⟩:=t;exact .inr ⟨st',w,b,F x,i,K⟩
  |inr p=>
   rw[q]at t;obtain⟨E,i,K,x⟩:=t;have H:(acc++[stD p.1 p.2]).length+M<=900:=by rw[aI];show _+1+M<=900;omega
   rcases Q3 u L J M (a+1) p.1 p.2 _ E (jN a) (Zer G u q) (Zg8 u q) (i.grw J g) K H with⟨l,f,c,z,st',O,N,C,B,A⟩|⟨st',w,b,C,B,A⟩
   .exact .inl ⟨l,f,stD p.1 p.2 :: c,z,st',O,by show stD p.1 p.2 :: tl rs M p.1 p.2=_;rw[N];rfl,(F x).trans C,i.trans B,by rw[A,bB];rfl⟩
   .exact .inr ⟨st',w,b,(F x).trans C,i.trans B,by rw[A,bB];rfl⟩
def QC(R:Rs m rs)(S:m<=1000)(hi:ins.length<=m)(Q:∀ v∈ins,Sm v)(hL:L<=800):Lv s (rT (n+4) 26 [pgD tk m rs,inT ins,.int (L:Int)]) (trL m rs L ins):=λst g=>by
 have P:=ZeG hi Q;have N:Y (rT (n+3)) st (.tupE (.aC (.i 0) (.u (.bin .Add (.v 1) (.bin .Mult (.tupE (.u (.i 0))) (.bin .Sub (.ix (.v 0) (.i 1)) (.len (.v 1)))))))) [aa (pgD tk m rs),aa (inT ins),jN L,ab,ab,ab] (stD 0 (v0 m ins)):=by
  have E:(inZ ins).length=ins.length:=aB ..;have W:D.tup (inZ (v0 m ins))=.tup (inZ ins++af (m - ins.length) (.int 0)):=by
   unfold v0 inZ;rw[bT,eD]
  show Y (rT (n+3)) st _ _ (.tup [.int 0,.tup (inZ (v0 m ins))]);rw[W];refine .cons (.r rf) (.cons (.adT (xs:=inZ ins) (.r rf) (.rep (.r rf) ?_ (by omega)) (by rw[E,bM];omega)) .nil)
  rw[Int.ofNat_sub hi,<-E];exact .sub (.r rf) (.lnT (.r rf))
 obtain⟨s1,I,H⟩:=N st .refl;have C:ex (rT (n+3)) (.set 4 (.lstE (.u (.v 3)))) [aa (pgD tk m rs),aa (inT ins),jN L,aa (stD 0 (v0 m ins)),ab,ab] s1=aa (.nx [aa (pgD tk m rs),aa (inT ins),jN L,aa (stD 0 (v0 m ins)),jL s1.length,ab],s1++[(ac,[stD 0 (v0 m ins)])]):=Zk rfl;have A:=Xw (F:=rT (n+3)) (i:=5) (e:=.v 2) (q:=Zn) (U:=[aa (pgD tk m rs),aa (inT ins),jN L,aa (stD 0 (v0 m ins)),jL s1.length,ab]) (st:=s1++[(ac,[stD 0 (v0 m ins)])]) (v:=(L:Int)) (by omega) (by omega) rfl
 rw[aZ,dM]at A;have z:Grw s1 (s1++[(ac,[stD 0 (v0 m ins)])]):=.push;unfold trL;rcases Q3 (n:=n) (tk:=tk) (s:=s1) (x1:=aa (inT ins)) (x2:=jN L) R S (aD _) L 0 0 (v0 m ins) [stD 0 (v0 m ins)] _ ab P (aO _) z Zp (by show 1+L<=900;omega) with⟨d,f,h,l,j,w1,B,y,p,o⟩|⟨j,w,b,y,p,o⟩
 .have sl:h.length<=L:=by
   have V:=ar List.length B;rw[aI]at V;have:=WK (rs:=rs) (M:=L) (k:=0) (vs:=v0 m ins);have h3:([enD rs d]:Li D).length=1:=rfl;omega
  have J:Lv j (ev (rT (n+3)) (.lstE (.u (.ix (.lstE (.aC (.tupE (.u (.t "late"))) (.u (.tupE (.u (.t "none")))))) (.intOf (.cmp .Eq (.ix (.v 3) (.i 0)) (.len (.ix (.v 0) (.i 2)))))))) [aa (pgD tk m rs),aa (inT ins),jN L,aa (stD d f),jL s1.length,l]) [enD rs d]:=by
   have K:Y (rT (n+3)) j (.intOf (.cmp .Eq (.ix (.v 3) (.i 0)) (.len (.ix (.v 0) (.i 2))))) [aa (pgD tk m rs),aa (inT ins),jN L,aa (stD d f),jL s1.length,l] (.int ((if rs.length<=d then 1 else 0:Nat):Int)):=by
    refine g1 (x:=.bl (aj ((d:Int)=((rs.map rwE).length:Int)))) (.eqv (.r rf) (.lnT (.r rf))) (gp λ_=>?_)
    rw[aB];by_cases c:rs.length<=d
    .rw[aK (by omega),am c];rfl
    .rw[aG (by omega),ao c];rfl
   refine .mk (.cons (.ixL (xs:=[laD,noD]) (.mk (.r rf)) K ?_) .nil);unfold enD;by_cases c:rs.length<=d
   .rw[am c,am c];rfl
   .rw[ao c,ao c];rfl
  obtain⟨O,jj,bb,Z,T,G⟩:=J j .refl;have X:=ZaG (F:=rT (n+3)) (a:=.v 4) (U:=[aa (pgD tk m rs),aa (inT ins),jN L,aa (stD d f),jL s1.length,l]) (st:=j) (t:=j) (i:=s1.length) (w:=0) (b1:=ac) (xs:=[stD 0 (v0 m ins)]++h) rfl Z (G.get o) T (by rw[aI];show 1+h.length+1<=1000;omega)
  refine⟨_,O.length,ac,XS (v:=c__law_trail) rfl rfl ((Zc (Zk I)).trans ((Zc C).trans ((Zc (A.trans y)).trans (Zj (ZK X))))),?_,H.trans ((p.grw (aD _) z).trans (G.trans .push))⟩;rw[B,Zp,bB];rfl
 .exact⟨j,w,b,XS (v:=c__law_trail) rfl rfl ((Zc (Zk I)).trans ((Zc C).trans (Zj (A.trans y)))),o,H.trans (p.grw (aD _) z)⟩
section
variable{A B:Li D}
theorem Zek:∀ {A B:Li D}{j:Nat}{x y:D},j < fdN A B->A[j]?=aa x->B[j]?=aa y->Zm x y=ac
 |a :: A,b :: B,j,x,y,h,e,d=>by
  unfold fdN at h;split at h
  .rename_i c
   cases j with
   |zero=>cases e;cases d;exact c
   |succ j=>exact Zek (Nat.lt_of_succ_lt_succ h) e d
  .cases h
theorem Zel:∀ {A B:Li D}{i:Nat}{x y:D},A[i]?=aa x->B[i]?=aa y->Zm x y=ae->∃ x y,A[fdN A B]?=aa x/\B[fdN A B]?=aa y/\Zm x y=ae
 |a :: A,b :: B,i,x,y,f,e,d=>by
  unfold fdN;split
  .rename_i c
   cases i with
   |zero=>cases f;cases e;rw[d]at c;cases c
   |succ i=>exact Zel (A:=A) (B:=B) f e d
  .rename_i c
   exact⟨a,b,rfl,rfl,by cases z:Zm a b with|false=>rfl|true=>exact aq z c⟩
def Zad(T:s[i]?=aa (b1,A))(S:s[j]?=aa (b2,B))(ok:∀ (k:Nat) x,(A[k]?=aa x\/B[k]?=aa x)->∃ xs,x=.tup xs/\okD 8 (.tup xs)=ac)(hd:∃ (k:Nat) (x y:D),A[k]?=aa x/\B[k]?=aa y/\Zm x y=ae)(hl:A.length<=900):C (rT (n+1)) s 286 [.lst i,.lst j] (.int (fdN A B:Int)):=λst g=>by
 obtain⟨k,x,y,X,W,V⟩:=hd;obtain⟨x0,y0,p,o,G⟩:=Zel X W V;have Q:fdN A B < A.length:=Zv p;have K:∀ (M:Nat) (c:Nat) (d:Nat) (st:Za),c+M=fdN A B->M < d->Grw s st->∃ st',Yd (ev (rT n) (.cmp .Eq (.ix (.v 0) (.v 2)) (.ix (.v 1) (.v 2)))) (ex (rT n) (.z (.set 2 (.bin .Add (.v 2) (.i 1))))) d [jL i,jL j,jN c] st=aa (.nx [jL i,jL j,jI (fdN A B:Int)],st')/\Grw st st':=λM=>by
  have Yz:∀ (c:Nat) (st:Za),c<=fdN A B->Grw s st->∃ st',ev (rT n) (.cmp .Eq (.ix (.v 0) (.v 2)) (.ix (.v 1) (.v 2))) [jL i,jL j,jN c] st=aa (.bl (aj (c < fdN A B)),st')/\Grw st st':=λc st q g=>by
   obtain⟨u,v,E,w,a3⟩:∃ u v,A[c]?=aa u/\B[c]?=aa v/\Zm u v=aj (c < fdN A B):=by
    have lB:=Zv o;refine⟨A[c]'(by omega),B[c]'(by omega),Lg _,Lg _,?_⟩
    by_cases e:c < fdN A B
    .rw[aK e];exact Zek e (Lg (by omega)) (Lg (by omega))
    .have:c=fdN A B:=by omega
     subst this;rw[aG e];rw[Lg (by omega)]at p o
     injection p with p;injection o with o
     rw[p,o];exact G
   obtain⟨I,Z,N⟩:=ok c u (.inl E);obtain⟨H,t,L⟩:=ok c v (.inr w);subst Z;subst t
   have:=Y.eqd (F:=rT n) (s:=s) (a:=.ix (.v 0) (.v 2)) (b:=.ix (.v 1) (.v 2)) (U:=[jL i,jL j,jN c]) (.ixl (j:=c) T (.r rf) (.r rf) E) (.ixl (j:=c) S (.r rf) (.r rf) w) N L;rw[show Zs I H=aj (c < fdN A B) from a3]at this;exact this st g
  induction M with
  |zero=>
   intro c d st q R g;obtain⟨f,rfl⟩:∃ f,d=f+1:=⟨d - 1,by omega⟩
   obtain⟨h,l,m⟩:=Yz c st (by omega) g
   have q:c=fdN A B:=by omega
   subst q;rw[aG (bS _)]at l;refine⟨h,?_,m⟩;show Z2 (ev (rT n) (.cmp .Eq (.ix (.v 0) (.v 2)) (.ix (.v 1) (.v 2)))) _ _ _ st=_;unfold Z2;rw[l]
  |succ M P=>
   intro c d st q R g;obtain⟨f,rfl⟩:∃ f,d=f+1:=⟨d - 1,by omega⟩
   obtain⟨h,l,m⟩:=Yz c st (by omega) g
   rw[aK (by omega)]at l
   obtain⟨J,e2,O⟩:=P (c+1) f h (by omega) (by omega) (g.trans m)
   refine⟨J,?_,m.trans O⟩;have eb:ex (rT n) (.z (.set 2 (.bin .Add (.v 2) (.i 1)))) [jL i,jL j,jN c] h=aa (.nx [jL i,jL j,aa (.int ((c+1:Nat):Int))],h):=by
    rw[bC];exact(Zc (Zk rfl)).trans Zh
   show Z2 (ev (rT n) (.cmp .Eq (.ix (.v 0) (.v 2)) (.ix (.v 1) (.v 2)))) (Z6 _ _) _ _ st=_;unfold Z2;rw[l];show Z6 _ _ _ h=_;unfold Z6;rw[eb];exact e2
 obtain⟨h,l,m⟩:=K (fdN A B) 0 1000 st (bF _) (by omega) g
 have t:ex (rT n) (.whl (.cmp .Eq (.ix (.v 0) (.v 2)) (.ix (.v 1) (.v 2))) (.z (.set 2 (.bin .Add (.v 2) (.i 1))))) [jL i,jL j,jI 0] st=aa (.nx [jL i,jL j,jI (fdN A B:Int)],h):=l;exact⟨h,XS (v:=c__law_parted) rfl rfl ((Zc (Zk rfl)).trans ((Zc t).trans (Zj (ZK rfl)))),m⟩
def ZeF:∀ (k:Nat) x,(trL m rs L ins)[k]?=aa x->∃ xs,x=.tup xs/\okD 8 (.tup xs)=ac:=λk x h=>by
 rcases aF.mp (aX h) with rfl|h
 .exact⟨_,rfl,ZbI⟩
 .exact ZbJ _ h
def Jo:(trL m rs L ins).getLastD .non=oc rs L 0 (v0 m ins):=by
 unfold trL;rw[<-VJ];cases q:tl rs L 0 (v0 m ins) with
 |nil=>exact aq q Zb9
 |cons x xs=>rfl
def Zd0(c:tel m rs rs' L ins=ac):∃ (k:Nat) (x y:D),(trL m rs L ins)[k]?=aa x/\(trL m rs' L ins)[k]?=aa y/\Zm x y=ae:=by
 refine Classical.byContradiction λh=>?_
 have e:oc rs L 0 (v0 m ins)=oc rs' L 0 (v0 m ins):=VL λi x y a b=>by
  cases z:Zm x y with
  |true=>exact UL z
  |false=>exact aq ⟨i+1,x,y,a,b,z⟩ h
 unfold tel at c;obtain⟨xs,f,d⟩:=XE (rs:=rs') (n:=L) (k:=0) (vs:=v0 m ins);rw[e,f,show Zm (.tup xs) (.tup xs)=ac from YH (n:=7) d]at c;cases c
end
variable{I:Env->Prop}{x3:Ot D}{pn:Li Int->Nat}
variable{Q1:D->Za->Prop}
section
variable{A B:Li D}{c:Int}
def Y.lastl(b:s[j]?=aa (bb,xs))(e:Y F s a U (.lst j))(h:xs≠[])(c:xs.length<=100000):Y F s (.ix a (.neg (.i 1))) U (xs.getLastD .non):=g2 (y:=.int (-1)) e (.r rf) (gs λst g=>by
 show(match (match st[j]? with
  |some (_,xs)=>atD xs (-1)
  |none=>ab) with|some d=>aa (d,st)|none=>ab)=_
 rw[g.get b];show(match atD xs (-1) with|some d=>aa (d,st)|none=>ab)=_
 rw[QF h c])
def ctR(a:Nat)(v:Int):Li Rw:=af a .skip++[.put 0 (.nm 0) (S "+") (.nu 1),.ifr (.nm 0) (S "<") (.nu v) a,.tell (.nm 0)]
def ZgO{a:Nat}{v:Int}(d:a<=1)(c:Sm v):Rs 1 (ctR a v)/\(ctR a v).length<=4:=by
 have b:(ctR a v).length=a+3:=by unfold ctR;rw[aI,bM];rfl
 refine⟨⟨by omega,λr hr=>?_⟩,by omega⟩
 rw[b];rcases bO.mp hr with hr|hr
 .rw[List.eq_of_mem_replicate hr];trivial
 .simp only[aF,aV,or_false]at hr
  rcases hr with rfl|rfl|rfl
  .exact⟨by decide,by show 0 < 1;decide,by decide,⟨by decide,by decide⟩⟩
  .exact⟨by show 0 < 1;decide,by decide,c,by omega⟩
  .show 0 < 1;decide
def Jy:∃ (a:Nat) (v:Int),a<=1/\Sm v/\∀ s,C (rT (n+1)) s 186 [.int c] (pgD (.tup (([]:Li (Int×Int)).map pdD)) 1 (ctR a v)):=by
 have h:=Zo c (j:=2) (by decide)
 obtain⟨a,es⟩:∃ t:Nat,c % 2=(t:Int):=⟨_,(bN h.1).symm⟩;rw[es]at h;have e:=Zo (c / 2) (j:=50) (by decide)
 refine⟨a,50+c / 2 % 50,by omega,by unfold Sm;omega,λs=>?_⟩
 have b:(ctR a (50+c / 2 % 50)).map rwE=((af a (rwE .skip)++[rwE (.put 0 (.nm 0) (S "+") (.nu 1))])++[rwE (.ifr (.nm 0) (S "<") (.nu (50+c / 2 % 50)) a)])++[rwE (.tell (.nm 0))]:=by
  unfold ctR;rw[bT,eD,bB,bB];rfl
 show C _ s 186 _ (.tup [.tup [],.int 1,.tup ((ctR a (50+c / 2 % 50)).map rwE)]);rw[b];refine .of (v:=c__law_counter) rfl rfl (.set (d:=_) (x:=.int (a:Int)) (by rw[<-es];exact .md (.r rf) (.r rf) (by decide)) (.set (.rep (d:=rwE .skip) (i:=a) (.r rf) (.r rf) (by omega)) (.set (.adT (.r rf) (.cons (x:=rwE (.put 0 (.nm 0) (S "+") (.nu 1))) (.r rf) .nil) (by rw[bM];show _+1<=_;omega)) (.set (.adT (.r rf) (.cons (x:=rwE (.ifr (.nm 0) (S "<") (.nu (50+c / 2 % 50)) a)) (.cons (.r rf) (.cons (x:=opE (.nm 0)) (.r rf) (.cons (.r rf) (.cons (x:=opE (.nu (50+c / 2 % 50))) (.cons (.r rf) (.cons (.add (.r rf) (.md (.fd (.r rf) (.r rf) (by decide)) (.r rf) (by decide))) .nil)) (.cons (.r rf) .nil))))) .nil) (by rw[aI,bM];show _+1+1<=_;omega)) (.ret (.cons (.r rf) (.cons (.r rf) (.cons (.adT (.r rf) (.cons (x:=rwE (.tell (.nm 0))) (.r rf) .nil) (by rw[aI,aI,bM];show _+1+1+1<=_;omega)) .nil))))))))
def RP.setCP(k:Y F s a U (.tup xs))(g:Grw s st)(j:∀ t,Grw st t->CP F f (xs++ds) t Q1)(h:∀ d t,Grw st t->Q1 d t->RP F q (Zf U i d) t Q):RP F (.seq (.set i (.call f a ds)) q) U st Q:=by
 obtain⟨s1,n,b⟩:=k st g;obtain⟨d,e,m,c,l⟩:=j s1 b;exact .pre (Zc (Zk (by show Zq (ev F a) (Wi (F f) ds) U st=_;unfold Zq;rw[n];exact m))) (b.trans c) (h d e (b.trans c) l)
theorem Zg5{α:Type}{u v:α->D}{I:Env->Prop}:∀ {l:Li α},(∀ x∈l,∀ U,I U->∀ st,Grw s st->∃ a st',ex F q (Zf (Zf U i (u x)) i' (v x)) st=aa (.nx a,st')/\I a/\Grw st st')->∀ U st,I U->Grw s st->∃ a st',Z5 (λ_=>True) (λx y U s=>ex F q (Zf (Zf U i x) i' y) s) (l.map λx=>(u x,v x)) U st=aa (.nx a,st')/\I a/\Grw st st'
 |[],_,U,st,d,_=>⟨U,st,am trivial,d,.refl⟩
 |x :: l,h,U,st,d,g=>by
  obtain⟨c,s1,n,p,e⟩:=h x Ls U d st g;obtain⟨b,f,m,o,j⟩:=Zg5 (λz k=>h z (Lm _ k)) c s1 p (g.trans e)
  refine⟨b,f,?_,o,e.trans j⟩;rw[aQ,Z5,am trivial];simp only[n];exact m
def RP.forP{l:Li α}{u v:α->D}(hi:Y F s it U (.tup [.tup (l.map u),.tup (l.map v)]))(g:Grw s st)(h:I U)(f:∀ x∈l,∀ U,I U->∀ st,Grw s st->∃ a st',ex F q (Zf (Zf U i (u x)) i' (v x)) st=aa (.nx a,st')/\I a/\Grw st st')(e:∀ a t,I a->Grw st t->RP F p a t Q):RP F (.seq (.forP i i' it q) p) U st Q:=by
 obtain⟨s1,m,b⟩:=hi st g;obtain⟨a,c,k,n,d⟩:=Zg5 f U s1 h (g.trans b);have j:ex F (.forP i i' it q) U st=aa (.nx a,c):=by
  rw[<-k,<-List.zip_map'];show V5 i i' (ev F it) (ex F q) U st=_;unfold V5;rw[m]
 exact .pre (Zc j) (b.trans d) (e a c n (b.trans d))
def flO:Ot D->Env->Fl
 |some d,_=>.rt d
 |none,U=>.nx U
theorem ZhF{α:Type}{m:α->D}{f:α->Ot D}{l:Li α}{I:Env->Prop}{p:Za}(u:p[j]?=aa (bb,l.map m))(A:∀ x∈l,∀ U,I U->∀ st,Grw p st->∃ b st',ex F q (Zf U i (m x)) st=aa (flO (f x) b,st')/\I b/\Grw st st'):∀ (M a:Nat) (U:Env) (st:Za),a+M=l.length->I U->Grw p st->∃ b st',Zt (λd U s=>ex F q (Zf U i d) s) j M a U st=aa (flO (skR f (l.drop a)) b,st')/\I b/\Grw st st'
 |0,a,U,st,h,y,g=>⟨U,st,by rw[dA (by omega)];unfold Zt;rw[g.get u];exact am (by rw[aB];omega),y,.refl⟩
 |M+1,a,U,st,h,y,g=>by
  have w:a < l.length:=by omega
  obtain⟨k,s1,n,B,t⟩:=A _ (cI w) U y st g;obtain⟨o,C,H,J,E⟩:=ZhF u A M (a+1) k s1 (by omega) B (g.trans t)
  have G:(l.map m)[a]?=aa (m l[a]):=by rw[aU,Lg w];rfl
  rw[bQ w];unfold skR;have z:∀ {r},ex F q (Zf U i (m l[a])) st=r->Zt (λd U s=>ex F q (Zf U i d) s) j (M+1) a U st=match r with
    |some (.nx b,st')=>Zt (λd U s=>ex F q (Zf U i d) s) j M (a+1) b st'
    |some (.ct b,st')=>Zt (λd U s=>ex F q (Zf U i d) s) j M (a+1) b st'
    |some (.bk b,st')=>aa (.nx b,st')
    |some (.rt v,st')=>aa (.rt v,st')
    |none=>ab:=λ{r} e=>by
   conv=>lhs;unfold Zt
   simp only[g.get u,G,e]<;>rfl
  cases c:f l[a] with
  |some d=>
   rw[c]at n;exact⟨k,s1,(z n).trans rfl,B,t⟩
  |none=>
   rw[c]at n;exact⟨o,C,(z n).trans H,J,t.trans E⟩
def SK(F:Nat->Fn)(q:CS)(U:Env)(st:Za)(o:Ot D)(I:Env->Prop):Prop:=∃ a st',ex F q U st=aa (flO o a,st')/\I a/\Grw st st'
def SK.set{o:Ot D}(h:ev F e U st=aa (d,st'))(g:Grw st st')(a:SK F q (Zf U i d) st' o I):SK F (.seq (.set i e) q) U st o I:=by
 obtain⟨f,t,c,b,k⟩:=a;exact⟨f,t,(Zc (Zk h)).trans c,b,g.trans k⟩
def SK.hit{k:Bool}(h:Y F st e U (.bl k))(hd:k=ac->∀ t,Grw st t->Y F t a U d)(c:I U):SK F (.z (.ite e (.seq (.ret a) q) .skip)) U st (if k=ac then aa d else ab) I:=by
 obtain⟨t,f,b⟩:=h st .refl;cases k with
 |false=>exact⟨U,t,(Zc ((Y3 f).trans Zh)).trans Zh,c,b⟩
 |true=>
  obtain⟨g,j,i⟩:=hd rfl t b t .refl;exact⟨U,g,Zj ((Z1 f).trans (Zj (ZK j))),c,b.trans i⟩
def R.seekL{h:α->D}{f:α->Ot D}{l:Li α}(m:s[j]?=aa (bb,l.map h))(u:∀ st,ev F e U st=aa (.lst j,st))(y:I U)(w:∀ x∈l,∀ U,I U->∀ st,Grw s st->SK F q (Zf U i (h x)) st (f x) I)(t:∀ b,I b->R F s p b d):R F s (.seq (.for1 i ae e q) p) U ((skR f l).getD d):=λst g=>by
 obtain⟨b,k,n,z,c⟩:=ZhF m w l.length 0 U st (bF _) y g;rw[bR,<-aB (as:=l) (f:=h)]at n;have a:=(Xv (u st) (g.get m)).trans n;cases q:skR f l with
 |some v=>rw[q]at a;exact⟨k,Zj a,c⟩
 |none=>
  rw[q]at a;obtain⟨o,A,r⟩:=t b z k (g.trans c);exact⟨o,(Zc a).trans A,c.trans r⟩
def ZcR{c b:Ot D}(N:Rs m rs)(d:Rs m rs')(l:m<=1000)(o:L<=800)(hi:ins.length<=m)(j:∀ v∈ins,Sm v)(O:∀ z c b,I [aa (pgD tk m rs),aa (pgD tk m rs'),x2,x3,jN L,z,c,b]):SK (rT (n+4)) Xq [aa (pgD tk m rs),aa (pgD tk m rs'),x2,x3,jN L,aa (inT ins),c,b] st (if tel m rs rs' L ins=ac then aa (D.tup [.str "found",inT ins,.int (fdN (trL m rs L ins) (trL m rs' L ins):Int)]) else ab) I:=by
 obtain⟨f,e,b1,R,P,K⟩:=QC (n:=n) (s:=st) (tk:=tk) N l hi j o st .refl;obtain⟨E,B,b2,Q,p,i⟩:=QC (n:=n) (s:=f) (tk:=tk) d l hi j o f .refl;have y:E[e]?=aa (b1,trL m rs L ins):=i.get P;have a:∀ {rs:Li Rw},trL m rs L ins≠[]/\(trL m rs L ins).length<=802:=λ{rs}=>⟨cL _ _,by unfold trL;rw[aP];have:=WK (rs:=rs) (M:=L) (k:=0) (vs:=v0 m ins);omega⟩
 obtain⟨C,w,J⟩:=XE (rs:=rs) (n:=L) (k:=0) (vs:=v0 m ins);obtain⟨A,u,H⟩:=XE (rs:=rs') (n:=L) (k:=0) (vs:=v0 m ins);have G:=(a (rs:=rs)).2;have F:=(a (rs:=rs')).2;refine .set R K (.set Q i (.hit ?_ (λq t g=>?_) (O _ _ _)))
 .rw[show tel m rs rs' L ins=!Zs C A by unfold tel;rw[w,u];rfl]
  refine .ned ?_ ?_ J H
  .rw[<-w,<-Jo];exact .lastl y (.r rf) a.1 (by omega)
  .rw[<-u,<-Jo];exact .lastl p (.r rf) a.1 (by omega)
 .exact .cons (.r rf) (.cons (.r rf) (.cons (.call (xs:=[.lst e,.lst B]) (.r rf) (Zad (n:=n+3) (g.get y) (g.get p) (λk x h=>h.elim (ZeF k x) (ZeF k x)) (Zd0 q) (by omega))) .nil))
def ZfT{t:Li Int->Bool}:reD t pn tks=(skR (λins=>if t ins=ac then aa (D.tup [.str "found",inT ins,.int (pn ins:Int)]) else ab) (tdL tks)).getD (.tup [.str (if 64 < wdI tks 1 then S "unknown" else S "table")]):=by
 unfold reD;generalize skR _ (tdL tks)=o;cases o<;>rfl
def ZgC(g:Rs m rs)(a:Rs m rs')(h:m<=1000)(l:L<=800)(k:Tk tks)(u:tks.length<=m)(i:s[j]?=aa (bb,(tdL tks).map inT)):C (rT (n+5)) s 38 [pgD tk m rs,pgD tk m rs',.int (wdI tks 1),.lst j,.int (L:Int)] (reD (tel m rs rs' L) (λins=>fdN (trL m rs L ins) (trL m rs' L ins)) tks):=by
 refine .of (v:=c__law_due) rfl rfl ?_;rw[ZfT];refine .seekL (I:=λU=>∃ f e d,U=[aa (pgD tk m rs),aa (pgD tk m rs'),jI (wdI tks 1),jL j,jN L,f,e,d]) i (λ_=>rfl) ⟨_,_,_,rfl⟩ (λins hi U b st _=>?_) λw b=>?_
 .obtain⟨f,e,d,rfl⟩:=b
  obtain⟨t,o2⟩:=XG k ins hi;exact ZcR g a h l (by omega) o2 λ_ _ _=>⟨_,_,_,rfl⟩
 .obtain⟨q,p,o,rfl⟩:=b
  refine .ret (.ixL (j:=if 64 < wdI tks 1 then 1 else 0) (xs:=[.tup [.str "table"],.tup [.str "unknown"]]) (.mk (.r rf)) (g1 (x:=.bl (aj (64 < wdI tks 1))) (.gts (.r rf) (.r rf)) (gp λ_=>?_)) ?_)
  .by_cases c:64 < wdI tks 1
   .rw[aK c,am c];rfl
   .rw[aG c,ao c];rfl
  .by_cases c:64 < wdI tks 1
   .rw[am c,am c];rfl
   .rw[ao c,ao c];rfl
end
def adL(a:Li Int):Li Int:=((ag a.length).filter λk=>aj (k=0)||!decide (a.getD k 0=a.getD (k - 1) 0)).map λk=>a.getD k 0
section
variable{acc:Li (Li Int)}
def Zag{a:Int}(i:lo<=a)(g:a<=hi):adL [lo,a,hi]=[lo,a,hi].foldl nwL []:=by
 show(([0,1,2]:Li Nat).filter λk=>aj (k=0)||!decide (([lo,a,hi]:Li Int).getD k 0=([lo,a,hi]:Li Int).getD (k - 1) 0)).map (λk=>([lo,a,hi]:Li Int).getD k 0)=nwL (nwL (nwL [] lo) a) hi
 have f:nwL [] lo=[lo]:=ao (λh=>nomatch h)
 rw[f];by_cases c:a=lo
 .have e:nwL [lo] a=[lo]:=am (by rw[c];exact Ls)
  rw[e];by_cases b:hi=a
  .have d:nwL [lo] hi=[lo]:=am (by rw[b,c];exact Ls)
   rw[d];subst b;subst c;simp
  .have d:nwL [lo] hi=[lo,hi]:=ao (λh=>b (by rw[aR.mp h,c]))
   rw[d];subst c;simp[b]
 .have e:nwL [lo] a=[lo,a]:=ao (λh=>c (aR.mp h))
  rw[e];by_cases b:hi=a
  .have d:nwL [lo,a] hi=[lo,a]:=am (by rw[b];exact Lm _ Ls)
   rw[d];subst b;simp[c]
  .have d:nwL [lo,a] hi=[lo,a,hi]:=ao (λh=>by
    rcases aF.mp h with h|h
    .omega
    .exact b (aR.mp h))
   rw[d];simp[c,b]
def ZgG(h:lo<=hi):adL [lo,(lo+hi) / 2,hi]=mnL (lo,hi):=Zag (by omega) (by omega)
def ZgF{p:Int×Int}:adL (bxL p)=bxL p:=by
 unfold adL;rw[List.filter_eq_self.mpr]
 .refine List.ext_getElem? λi=>?_
  rw[aU];by_cases c:i < (bxL p).length
  .rw[List.getElem?_range c]
   show aa ((bxL p).getD i 0)=_;rw[bA,Lg c];rfl
  .rw[dH (by rw[bK];omega),dH (by omega)];rfl
 .intro k b
  have b:=bV.mp b;have a:∀ {i:Nat},i < (bxL p).length->(bxL p).getD i 0=p.1+i * 1:=λ{i} h=>by
   rw[bA];unfold bxL Y1 at h ⊢
   rw[aB,bK]at h;rw[aU,List.getElem?_range h];rfl
  by_cases c:k=0
  .rw[aK c];rfl
  .rw[aG c,a b,a (i:=k - 1) (by omega),aG (by omega)];rfl
theorem Xs{α:Type}{en g:α->D}{c:α->Bool}{fe fc:D->Za->Res}:∀ {l:Li α},(∀ a∈l,Gv s (fc (en a)) (.bl (c a)))->(∀ a∈l,c a=ac->Gv s (fe (en a)) (g a))->∀ st,Grw s st->∃ st',ZW (λ_=>True) fe fc (l.map en) st=aa ((l.filter c).map g,st')/\Grw st st'
 |[],_,_,st,_=>⟨st,am trivial,.refl⟩
 |x :: l,j,i,st,f=>by
  obtain⟨s1,p,d⟩:=j x Ls st f;rw[aQ,ZW,am trivial,p];cases q:c x with
  |false=>
   obtain⟨h,k,e⟩:=Xs (λz b=>j z (Lm _ b)) (λz b=>i z (Lm _ b)) s1 (f.trans d)
   rw[List.filter_cons_of_neg (by rw[q];decide)]
   exact⟨h,k,d.trans e⟩
  |true=>
   obtain⟨h,k,e⟩:=i x Ls q s1 (f.trans d);obtain⟨m,o,n⟩:=Xs (λz b=>j z (Lm _ b)) (λz b=>i z (Lm _ b)) h (f.trans (d.trans e))
   rw[List.filter_cons_of_pos q];exact⟨m,by simp only[k,o,aQ],d.trans (e.trans n)⟩
def Zd5{v:Int}(b:v < 2 ^ 62)(a:-(2 ^ 62)<=v):YF ac (.int v) st=aa ((ag v.toNat).map λ(k:Nat)=>D.int (k:Int),λ_=>True):=by
 unfold YF;rw[UY b a]
def Zd6(a:N<=600):YF ac (.int (N:Int)) st=aa ((ag N).map λ(k:Nat)=>D.int (k:Int),λ_=>True):=by
 have b:=n62 (v:=(N:Int)) (by omega) (by omega)
 have:=Zd5 (st:=st) b.1 b.2;rw[aZ]at this;exact this
def VY{b:D->Li (Ot D)}{c e f:Ev}{x:D}{a:Za}{ok:Za->Prop}(i:c U st=aa (x,st1))(g:wk x st1=aa (xs,ok))(h:xs.length<=1000)(j:ZW ok (λd s=>e (ZM b U fr d) s) (λd s=>f (ZM b U fr d) s) xs st1=aa (ys,a)):Ye b wk fr c e f U st=aa (.lst a.length,a++[(ac,ys)]):=by
 unfold Ye;rw[i];simp only[g,am h,j]
def Zh5(n:U[5]?=aa (jL j))(f:st[j]?=aa (bb,ns.map D.int))(z:ns.length<=600):∃ st' w,ev F YT U st=aa (.lst w,st')/\st'[w]?=aa (ac,(adL ns).map D.int)/\Grw st st':=by
 have m:∀ {k:Nat},k < ns.length->(ns.map D.int)[k]?=jI (ns.getD k 0):=λ{k} h=>by rw[aU,bA,Lg h];rfl
 obtain⟨p,t,u⟩:=Xs (s:=st) (en:=λ(k:Nat)=>D.int (k:Int)) (g:=λk=>D.int (ns.getD k 0)) (c:=λk=>aj (k=0)||!decide (ns.getD k 0=ns.getD (k - 1) 0)) (fe:=λd=>ev F (.ix (.v 1) (.v 0)) (ZM one U [5] d)) (fc:=λd=>ev F (.or (.cmp .Eq (.v 0) (.i 0)) (.cmp .NotEq (.ix (.v 1) (.v 0)) (.ix (.v 1) (.bin .Sub (.v 0) (.i 1))))) (ZM one U [5] d)) (l:=ag ns.length) (λk e=>by
  have e:=bV.mp e;have o:ZM one U [5] (.int (k:Int))=[jN k,jL j]:=by show[aa (D.int (k:Int)),(U[5]?).join]=_;rw[n];rfl
  show Gv st (ev F _ (ZM one U [5] (.int (k:Int)))) _;rw[o];refine Y.or (k:=aj (k=0)) ?_ λq=>?_
  .have:=Y.eqv (F:=F) (s:=st) (a:=.v 0) (b:=.i 0) (U:=[jN k,jL j]) (i:=(k:Int)) (j:=0) (.r rf) (.r rf)
   rw[decide_eq_decide.mpr (⟨λh=>by omega,λh=>by omega⟩:(k:Int)=0↔k=0)]at this
   exact this
  .have q:=ak q
   exact .cmp (x:=.int (ns.getD k 0)) (y:=.int (ns.getD (k - 1) 0)) (.ixl (j:=k) f (.r rf) (.r rf) (m e)) (.ixl (j:=k - 1) f (.r rf) (by rw[Int.ofNat_sub (by omega)];exact .sub (.r rf) (.r rf)) (m (by omega))) λ_=>rfl) (λk e _=>by
  have e:=bV.mp e;have o:ZM one U [5] (.int (k:Int))=[jN k,jL j]:=by show[aa (D.int (k:Int)),(U[5]?).join]=_;rw[n];rfl
  show Gv st (ev F _ (ZM one U [5] (.int (k:Int)))) _;rw[o];exact Y.ixl (j:=k) f (.r rf) (.r rf) (m e)) st .refl
 have B:ev F (.len (.v 5)) U st=aa (.int (ns.length:Int),st):=by
  show Zq (YV 5) Ui U st=_;unfold Zq YV;rw[n];show Ui (.lst j) st=_;unfold Ui Zdk;simp only[f,aB]
 have A:((ag ns.length).filter λk=>aj (k=0)||!decide (ns.getD k 0=ns.getD (k - 1) 0)).map (λk=>D.int (ns.getD k 0))=(adL ns).map D.int:=by unfold adL;rw[bL];rfl
 rw[A]at t;exact⟨p++[(ac,(adL ns).map D.int)],p.length,VY B (Zd6 z) (by rw[aB,bK];omega) t,Zp,u.trans .push⟩
theorem ZeE{x0 x1 x2 x3:Ot D}{c:Nat}{P:Bool}{s0:Za}(p:s0[c]?=aa (P,acc.map inT))(z:s0[j]?=aa (bb,ns.map D.int))(I:ns.length<=600)(hi:∀ ins∈acc,ins.length<=600):∀ (M a w:Nat) (cont:Li (Li Int)) (f:Ot D) (b:Bool) (st:Za),a+M=acc.length->Grw s0 st->st[w]?=aa (b,cont.map inT)->cont.length+(exL ns (acc.drop a)).length<=1000->∃ k x e st',Zt (λd U s=>ex F Zy (Zf U 7 d) s) c M a [x0,x1,x2,x3,jL c,jL j,jL w,f] st=aa (.nx [x0,x1,x2,x3,jL c,jL j,jL k,e],st')/\Grw st st'/\st'[k]?=aa (x,(cont++exL ns (acc.drop a)).map inT)
 |0,a,w,cont,f,b,st,h,g,o,_=>⟨w,b,f,st,by unfold Zt;rw[g.get p];exact am (by rw[aB];omega),.refl,by rw[dA (by omega)];show _=aa (b,(cont++[]).map inT);rw[bD];exact o⟩
 |M+1,a,w,cont,f,b,st,h,g,o,y=>by
  have q:a < acc.length:=by omega
  rw[bQ q]at y ⊢;have A:exL ns (acc[a] :: acc.drop (a+1))=(ns.map λv=>acc[a]++[v])++exL ns (acc.drop (a+1)):=by unfold exL;rw[bU]
  rw[A,aI,aB]at y;have E:=Wu (F:=F) (s:=st) (U:=[x0,x1,x2,x3,jL c,jL j,jL w,aa (inT acc[a])]) (b:=one) (wk:=YF ae) (fr:=[7]) (it:=.v 5) (elt:=.bin .Add (.v 1) (.tupE (.u (.v 0)))) (l:=ns) (en:=D.int) (g:=λv=>inT (acc[a]++[v])) (Wk.lst (g.get z) (.r rf)) (by omega) λv R=>by
   have:=hi _ (cI q);show Y F st _ [jI v,aa (inT acc[a])] (inT (acc[a]++[v]));unfold inT inZ;rw[bT];exact .adT (.r rf) (.cons (.r rf) .nil) (by rw[aB];show _+1<=_;omega)
  obtain⟨m,Q,O,K,n⟩:=E st .refl;have B:=ZaG (F:=F) (a:=.v 6) (b:=YU) (U:=[x0,x1,x2,x3,jL c,jL j,jL w,aa (inT acc[a])]) (st:=st) (t:=st) (i:=w) (w:=0) (b1:=b) (xs:=cont.map inT) rfl O (n.get o) K (by rw[aB,aB];omega)
  have L:cont.map inT++ns.map (λv=>inT (acc[a]++[v]))=(cont++ns.map λv=>acc[a]++[v]).map inT:=by rw[bT,bL];rfl
  rw[L]at B;obtain⟨k,x,e,C,N,G,J⟩:=ZeE p z I hi M (a+1) m.length (cont++ns.map λv=>acc[a]++[v]) (aa (inT acc[a])) ac (m++[(ac,(cont++ns.map λv=>acc[a]++[v]).map inT)]) (by omega) (g.trans (n.trans .push)) Zp (by rw[aI,aB];omega)
  refine⟨k,x,e,C,?_,n.trans (Grw.push.trans G),by rw[J,A,bB]⟩
  conv=>lhs;unfold Zt
  have H:(acc.map inT)[a]?=aa (inT acc[a]):=by rw[aU,Lg q];rfl
  simp only[g.get p,H];show(match ex F Zy [x0,x1,x2,x3,jL c,jL j,jL w,aa (inT acc[a])] st with
   |some (.nx U',st')=>Zt (λd U s=>ex F Zy (Zf U 7 d) s) c M (a+1) U' st'
   |some (.ct U',st')=>Zt (λd U s=>ex F Zy (Zf U 7 d) s) c M (a+1) U' st'
   |some (.bk U',st')=>aa (.nx U',st')
   |some (.rt v,st')=>aa (.rt v,st')
   |none=>ab)=_
  rw[show ex F Zy [x0,x1,x2,x3,jL c,jL j,jL w,aa (inT acc[a])] st=aa (.nx [x0,x1,x2,x3,jL c,jL j,jL m.length,aa (inT acc[a])],m++[(ac,(cont++ns.map λv=>acc[a]++[v]).map inT)]) from(Zc (Zk B)).trans Zh]
  exact N
end
def nbL(a:Int)(p:Int×Int):Li Int:=if 64 < a then mnL p else bxL p
section
variable{acc:Li (Li Int)}{p:Int×Int}{wd:Int}
def Zbt{x0 y5 y6 y7:Ot D}{c:Nat}{I:Bool}(C:st[c]?=aa (I,acc.map inT))(m:Sm p.1/\p.1<=p.2/\Sm p.2)(B:¬64 < wd->p.2 - p.1+1<=64)(hl:(exL (nbL wd p) acc).length<=900)(hi:∀ ins∈acc,ins.length<=600):∃ H s o n b st',ex F Zz [x0,jI wd,jI p.1,jI p.2,jL c,y5,y6,y7] st=aa (.nx [x0,jI wd,jI p.1,jI p.2,jL H,o,n,b],st')/\Grw st st'/\st'[H]?=aa (s,(exL (nbL wd p) acc).map inT):=by
 have K:Y F st (.aC (.v 2) (.aC (.bin .FloorDiv (.bin .Add (.v 2) (.v 3)) (.i 2)) (.u (.v 3)))) [x0,jI wd,jI p.1,jI p.2,jL c,y5,y6,y7] (.tup [.int p.1,.int ((p.1+p.2) / 2),.int p.2]):=.cons (.r rf) (.cons (.fd (.add (.r rf) (.r rf)) (.r rf) (by decide)) (.cons (.r rf) .nil))
 obtain⟨j,l,b1,e1,S,O⟩:=Lv.mk K st .refl
 -- the numbers
 obtain⟨a,k,b2,ns,g,R,h,V,ln⟩:∃ a k b2 ns,ex F (.ite (.cmp .LtE (.v 1) (.i 64)) (.z (.set 5 (.lstR (.v 2) (.bin .Add (.v 3) (.i 1))))) .skip) [x0,jI wd,jI p.1,jI p.2,jL c,jL l,y6,y7] j=aa (.nx [x0,jI wd,jI p.1,jI p.2,jL c,jL k,y6,y7],a)/\a[k]?=aa (b2,ns.map D.int)/\Grw j a/\adL ns=nbL wd p/\ns.length<=64:=by
  have J:Y F j (.cmp .LtE (.v 1) (.i 64)) [x0,jI wd,jI p.1,jI p.2,jL c,jL l,y6,y7] (.bl (aj (wd<=64))):=.cmp (x:=.int wd) (y:=.int 64) (.r rf) (.r rf) λ_=>rfl
  obtain⟨a,g,h⟩:=J j .refl;unfold nbL;by_cases q:64 < wd
  .rw[aG (by omega)]at g
   rw[am q];exact⟨a,l,b1,[p.1,(p.1+p.2) / 2,p.2],(Y3 g).trans Zh,h.get S,h,ZgG m.2.1,by show 3<=64;decide⟩
  .rw[aK (by omega)]at g
   rw[ao q];have Q:=B q;have P:=m;unfold Sm at P;have T:ev F (.lstR (.v 2) (.bin .Add (.v 3) (.i 1))) [x0,jI wd,jI p.1,jI p.2,jL c,jL l,y6,y7] a=aa (.lst a.length,a++[(ac,(bxL p).map D.int)]):=by
    show(if XF p.1 (p.2+1) 1=ac/\p.2+1 - p.1<=1000 then aa (D.lst a.length,a++[(ac,(Y1 p.1 (p.2+1) 1).map D.int)]) else ab)=_
    exact am ⟨aK ⟨⟨by omega,by omega⟩,⟨by omega,by omega⟩,.inl rfl⟩,by omega⟩
   exact⟨a++[(ac,(bxL p).map D.int)],a.length,ac,bxL p,(Z1 g).trans ((Zc (Zk T)).trans Zh),Zp,h.trans .push,ZgF,by have:=XM m.2.1;omega⟩
 obtain⟨d,A,Z,G,N⟩:=Zh5 (F:=F) (U:=[x0,jI wd,jI p.1,jI p.2,jL c,jL k,y6,y7]) rfl R (by omega)
 rw[V]at G;have L:(nbL wd p).length<=64:=by
  unfold nbL;split
  .have:=(Wy (p:=p)).2;omega
  .rename_i c;have:=B c;have:=XM m.2.1;omega
 have e:Grw st d:=O.trans (h.trans N);obtain⟨t,s,b,w,X,M,E⟩:=ZeE (F:=F) (x0:=x0) (x1:=jI wd) (x2:=jI p.1) (x3:=jI p.2) (s0:=d) (e.get C) G (by omega) hi acc.length 0 d.length [] y7 ac (d++[(ac,[])]) (bF _) .push Zp (by rw[bR];show 0+_<=1000;omega)
 rw[bR,cY]at E;have W:ex F (.for1 7 ae (.v 4) Zy) [x0,jI wd,jI p.1,jI p.2,jL c,jL A,jL d.length,y7] (d++[(ac,[])])=aa (.nx [x0,jI wd,jI p.1,jI p.2,jL c,jL A,jL t,b],w):=by
  rw[<-X,<-aB (as:=acc) (f:=inT)];exact Xv (bb:=I) (xs:=acc.map inT) rfl ((e.trans .push).get C)
 exact⟨t,s,_,_,b,w,(Zc (Zk e1)).trans ((Zc g).trans ((Zc (Zk Z)).trans ((Zc (Zk (v:=.lst d.length) (st':=d++[(ac,[])]) rfl)).trans ((Zc W).trans ((Zc (Zk rfl)).trans Zh))))),e.trans (Grw.push.trans M),E⟩
theorem Ul{x0:Ot D}(E:¬64 < wd->∀ p∈tks,p.2 - p.1+1<=64):∀ {tks':Li (Int×Int)},(∀ p∈tks',p∈tks)->(∀ p∈tks',Sm p.1/\p.1<=p.2/\Sm p.2)->∀ (acc:Li (Li Int)) (c:Nat) (k:Bool) (g f y5 y6 y7:Ot D) (st:Za) (i:Nat),acc.length * plL (tks'.map (nbL wd))<=100->1<=acc.length->Al i acc->i+tks'.length<=10->st[c]?=aa (k,acc.map inT)->∃ j C r o n m l st',Zi (YD 2 3 (ex F Zz)) (tks'.map pdD) [x0,jI wd,g,f,jL c,y5,y6,y7] st=aa (.nx [x0,jI wd,r,o,jL j,n,m,l],st')/\Grw st st'/\st'[j]?=aa (C,(prL acc (tks'.map (nbL wd))).map inT)
 |[],_,_,acc,c,k,g,f,y5,y6,y7,st,i,_,_,_,_,B=>⟨c,k,g,f,y5,y6,y7,st,rfl,.refl,B⟩
 |p :: tks',G,A,acc,c,k,g,f,y5,y6,y7,st,i,d,S,H,hi,B=>by
  have a:=A p Ls;have x:∀ q∈tks',nbL wd q≠[]:=λq y e=>by
   unfold nbL at e;split at e
   .have:=(Wy (p:=q)).1;rw[e]at this;cases this
   .exact Zaw (A q (Lm _ y)).2.1 e
  have L:1<=(nbL wd p).length:=by
   unfold nbL;split
   .exact(Wy (p:=p)).1
   .exact dD.mpr (Zaw a.2.1)
  have d:acc.length * ((nbL wd p).length * plL (tks'.map (nbL wd)))<=100:=d;rw[<-Nat.mul_assoc,<-UV]at d;have K:=VB (ls:=tks'.map (nbL wd)) λz b=>by obtain⟨q,y,rfl⟩:=aS.mp b;exact x q y
  have W:(exL (nbL wd p) acc).length<=100:=aM (by have:=Nat.mul_le_mul_left (exL (nbL wd p) acc).length K;rwa [Nat.mul_one]at this) d
  have M:1<=(exL (nbL wd p) acc).length:=by rw[UV];exact Nat.mul_pos S L
  have w:∀ v∈nbL wd p,Sm v:=λv h=>by
   unfold nbL at h;split at h
   .have:=U8 a.2.1 v h;unfold Sm at *;omega
   .have:=UN v h;unfold Sm at *;omega
  rw[aP]at hi;obtain⟨j,C,u,t,s,J,U,O,R⟩:=Zbt (F:=F) (x0:=x0) (y5:=y5) (y6:=y6) (y7:=y7) B a (λq=>E q p (G p Ls)) (by omega) λins P=>by have:=(H ins P).1;omega
  obtain⟨V,b2,r,o,n,m,l,I,T,N,Q⟩:=Ul E (λz b=>G z (Lm _ b)) (λz b=>A z (Lm _ b)) _ j C (jI p.1) (jI p.2) u t s J (i+1) d M (H.ex w) (by omega) R
  refine⟨V,b2,r,o,n,m,l,I,?_,O.trans N,Q⟩;show(match ex F Zz [x0,jI wd,jI p.1,jI p.2,jL c,y5,y6,y7] st with
   |some (.nx U',st')=>Zi (YD 2 3 (ex F Zz)) (tks'.map pdD) U' st'
   |some (.ct U',st')=>Zi (YD 2 3 (ex F Zz)) (tks'.map pdD) U' st'
   |some (.bk U',st')=>aa (.nx U',st')
   |some (.rt v,st')=>aa (.rt v,st')
   |none=>ab)=_
  rw[U];exact T
theorem Q4{x x4 x5 x6 x7:Ot D}:∀ {tks:Li (Int×Int)}{a:Int}{y z:Ot D}{st:Za},(∀ p∈tks,ZP (p.2 - p.1+1)=ac)->∃ c b,Zi (YD 2 3 (ex F ZA)) (tks.map pdD) [x,jI a,y,z,x4,x5,x6,x7] st=aa (.nx [x,jI (wdI tks a),c,b,x4,x5,x6,x7],st)
 |[],a,y,z,st,_=>⟨y,z,rfl⟩
 |p :: tks,a,y,z,st,h=>by
  have e:ex F ZA [x,jI a,jI p.1,jI p.2,x4,x5,x6,x7] st=aa (.nx [x,aa (.int (a * (p.2 - p.1+1))),jI p.1,jI p.2,x4,x5,x6,x7],st):=by
   have:ev F (.bin .Mult (.v 1) (.bin .Add (.bin .Sub (.v 3) (.v 2)) (.i 1))) [x,jI a,jI p.1,jI p.2,x4,x5,x6,x7] st=aa (.int (a * (p.2 - p.1+1)),st):=by
    show VQ .Mult (.int a) (.int (p.2 - p.1+1)) st=_;show(match (if ZP a||ZP (p.2 - p.1+1) then aa (a * (p.2 - p.1+1)) else ab) with|some k=>aa (D.int k,st)|none=>ab)=_
    rw[h p Ls,Bool.or_true];rfl
   exact(Zc (Zk this)).trans Zh
  obtain⟨c,b,f⟩:=Q4 (tks:=tks) (a:=a * (p.2 - p.1+1)) (y:=jI p.1) (z:=jI p.2) (st:=st) λq d=>h q (Lm _ d)
  refine⟨c,b,?_⟩;show(match ex F ZA [x,jI a,jI p.1,jI p.2,x4,x5,x6,x7] st with
   |some (.nx U',st')=>Zi (YD 2 3 (ex F ZA)) (tks.map pdD) U' st'
   |some (.ct U',st')=>Zi (YD 2 3 (ex F ZA)) (tks.map pdD) U' st'
   |some (.bk U',st')=>aa (.nx U',st')
   |some (.rt v,st')=>aa (.rt v,st')
   |none=>ab)=_
  rw[e];exact f
def ZhO:tdL tks=prL [[]] (tks.map (nbL (wdI tks 1))):=by
 unfold tdL;by_cases c:64 < wdI tks 1
 .rw[am c,show nbL (wdI tks 1)=mnL from funext λp=>am c]
 .rw[ao c,show nbL (wdI tks 1)=bxL from funext λp=>ao c]
def ZhP(h:Tk tks):plL (tks.map (nbL (wdI tks 1)))<=100:=by
 have tl:=h.l;by_cases c:64 < wdI tks 1
 .rw[show nbL (wdI tks 1)=mnL from funext λp=>am c]
  exact aM Zbw (aM (Nat.pow_le_pow_right (by decide) tl) (by decide))
 .rw[show nbL (wdI tks 1)=bxL from funext λp=>ao c]
  have:=(Zav h c).1;omega
def ZcD(h:Tk tks):∃ st' j b,rT (n+1) 195 [.tup (tks.map pdD)] st=aa (.tup [.int (wdI tks 1),.lst j],st')/\Grw st st'/\st'[j]?=aa (b,(tdL tks).map inT):=by
 have tl:=h.l;obtain⟨e,d,C⟩:=Q4 (F:=rT n) (x:=aa (.tup (tks.map pdD))) (x4:=ab) (x5:=ab) (x6:=ab) (x7:=ab) (tks:=tks) (a:=1) (y:=ab) (z:=ab) (st:=st) λp u=>Uj (by have:=h.b p u;unfold Sm at this;omega)
 obtain⟨i,D,r,q,o,m,k,f,B,s,g⟩:=Ul (F:=rT n) (x0:=aa (.tup (tks.map pdD))) (wd:=wdI tks 1) (tks:=tks) (λc=>(Zav h c).2) (tks':=tks) (λ_ h=>h) h.b [[]] st.length ac e d ab ab ab (st++[(ac,[.tup []])]) 0 (by show 1 * _<=_;rw[cR];exact ZhP h) (aD _) (λins h=>by rw[aR.mp h];exact⟨rfl,λv t=>nomatch t⟩) (by omega) Zp
 rw[<-ZhO]at g;have A:ex (rT n) (.for2 2 3 (.v 0) ZA) [aa (.tup (tks.map pdD)),jI 1,ab,ab,ab,ab,ab,ab] st=aa (.nx [aa (.tup (tks.map pdD)),jI (wdI tks 1),e,d,ab,ab,ab,ab],st):=C;have w:ex (rT n) (.for2 2 3 (.v 0) Zz) [aa (.tup (tks.map pdD)),jI (wdI tks 1),e,d,jL st.length,ab,ab,ab] (st++[(ac,[.tup []])])=aa (.nx [aa (.tup (tks.map pdD)),jI (wdI tks 1),r,q,jL i,o,m,k],f):=B
 exact⟨f,i,D,XS (v:=c__law_tried) rfl rfl ((Zc (Zk rfl)).trans ((Zc A).trans ((Zc (Zk (v:=.lst st.length) (st':=st++[(ac,[.tup []])]) rfl)).trans ((Zc w).trans (Zj (ZK rfl)))))),Grw.push.trans s,g⟩
end
def ZcB{p:Nat×Str×Rw}(b:Rs m rs)(f:p.1 < rs.length):C (rT (n+1)) s 288 [pgD tk m rs,.int (p.1:Int),rwE p.2.2] (pgD tk m (rs.set p.1 p.2.2)):=by
 have c:=b.l;have d:(rs.map rwE).length=rs.length:=aB ..;have a:Y (rT n) s (.ix (.v 0) (.i 2)) [aa (pgD tk m rs),jN p.1,aa (rwE p.2.2)] (.tup (rs.map rwE)):=.ixt (j:=2) (xs:=[tk,.int (m:Int),.tup (rs.map rwE)]) (.r rf) (.r rf) rfl;have e:(rs.set p.1 p.2.2).map rwE=((rs.map rwE).take p.1++[rwE p.2.2])++(rs.map rwE).drop (p.1+1):=by
  rw[dQ,bB];exact List.set_eq_take_append_cons_drop.trans (am (by omega))
 refine .of (v:=c__law_other) rfl rfl (.ret ?_);show Y (rT n) s _ _ (.tup ([tk,.int (m:Int),.tup (rs.map rwE)].take 2++[.tup ((rs.set p.1 p.2.2).map rwE)]));rw[e];refine .adT (.tkT (i:=2) (xs:=[tk,.int (m:Int),.tup (rs.map rwE)]) (.r rf) (.r rf) (show 2<=3 by decide)) (.cons (.adT (.adT (.tkT a (.r rf) (by omega)) (.cons (.r rf) .nil) ?_) (.dpT (i:=p.1+1) a (by rw[bC];exact .add (.r rf) (.r rf)) (by omega)) ?_) .nil) (show 2+1<=100000 by decide)
 .rw[cF];show _+1<=_;omega
 .rw[aI,cF,cA];show _+1+_<=_;omega
def QD{v:Int}:C (rT (n+1)) s 17 [.int v] (.bl ac):=.of (v:=c__law_whole) rfl rfl (.ret (.r rf))
def QB{x:Str}(c:x≠S "found"):C (rT (n+2)) s 39 [.tup [.str x],.tup [.str x]] (.bl ac):=by
 refine .of (v:=c__law_same) rfl rfl (.no (.or (k:=ae) (m:=ae) (.not (k:=ac) (.r rf)) λ_=>?_) (.yes ?_ (.r rf)))
 .have:=Y.ned (F:=rT (n+1)) (s:=s) (a:=.v 0) (b:=.v 1) (U:=[aa (.tup [.str x]),aa (.tup [.str x]),ab]) (xs:=[.str x]) (ys:=[.str x]) (.r rf) (.r rf) rfl rfl
  rw[YH (n:=7) rfl]at this;exact this
 .refine .cmp (x:=.str x) (y:=.str "found") (.ixt (j:=0) (.r rf) (.r rf) rfl) (.r rf) λ_=>?_
  show aa (!decide (x=S "found"))=_;rw[aG c];rfl
def ZcC{k:Int}(E:ins.length<=600):C (rT (n+2)) s 39 [.tup [.str "found",inT ins,.int k],.tup [.str "found",inT ins,.int k]] (.bl ac):=by
 have ok:ZX 7 [.str "found",inT ins,.int k]=ac:=by
  show(ac&&(ZX 6 (ins.map D.int)&&(ac&&ac)))=ac;rw[Vz λ_ _=>rfl];rfl
 refine .of (v:=c__law_same) rfl rfl (.no (.or (k:=ae) (m:=ae) (.not (k:=ac) (.r rf)) λ_=>?_) (.no ?_ λst g=>?_))
 .have:=Y.ned (F:=rT (n+1)) (s:=s) (a:=.v 0) (b:=.v 1) (U:=[aa (.tup [.str "found",inT ins,.int k]),aa (.tup [.str "found",inT ins,.int k]),ab]) (xs:=[.str "found",inT ins,.int k]) (ys:=[.str "found",inT ins,.int k]) (.r rf) (.r rf) ok ok
  rw[YH ok]at this;exact this
 .refine .cmp (x:=.str "found") (y:=.str "found") (.ixt (j:=0) (.r rf) (.r rf) rfl) (.r rf) λ_=>?_
  show aa (!decide (S "found"=S "found"))=_;rw[aK rfl];rfl
 .obtain⟨e,f,w⟩:=Xs (s:=st) (en:=D.int) (g:=λ_=>.int 1) (c:=λ_=>ae) (fe:=λd=>ev (rT (n+1)) (.i 1) (ZM one [aa (.tup [.str "found",inT ins,.int k]),aa (.tup [.str "found",inT ins,.int k]),ab] [] d)) (fc:=λd=>ev (rT (n+1)) (.not (.call 17 (.u (.v 0)) [])) (ZM one [aa (.tup [.str "found",inT ins,.int k]),aa (.tup [.str "found",inT ins,.int k]),ab] [] d)) (l:=ins) (λv _=>Y.not (F:=rT (n+1)) (U:=[jI v]) (k:=ac) (.call1 (x:=.int v) (.r rf) QD)) (λv _ h=>nomatch h) st .refl
  have z:(ins.filter λ_=>ae)=[]:=List.filter_eq_nil_iff.mpr λ_ _=>by decide
  rw[z]at f;have B:ev (rT (n+1)) Xc [aa (.tup [.str "found",inT ins,.int k]),aa (.tup [.str "found",inT ins,.int k]),ab] st=aa (.lst e.length,e++[(ac,[])]):=VY (x:=inT ins) (st1:=st) (xs:=ins.map D.int) (ok:=λ_=>True) rfl rfl (by rw[aB];omega) f
  have p:Y (rT (n+1)) (e++[(ac,[])]) (.cmp .Eq (.v 2) (.lstE .aN)) [aa (.tup [.str "found",inT ins,.int k]),aa (.tup [.str "found",inT ins,.int k]),jL e.length] (.bl ac):=λst g=>by
   refine⟨st++[(ac,[])],?_,.push⟩;show(match (o2 (λ(c d:Y8)=>ZcU c.2 d.2) (st++[(ac,[])])[e.length]? (st++[(ac,[])])[st.length]?).join with|some k=>aa (D.bl k,st++[(ac,[])])|none=>ab)=_
   rw[(g.trans .push).get Zp,Zp];rfl
  have o:Y (rT (n+1)) (e++[(ac,[])]) (.and (.isi .tuple (.ix (.v 0) (.i 1))) (.and (.cmp .Eq (.v 2) (.lstE .aN)) (.call 17 (.u (.ix (.v 0) (.i 2))) []))) [aa (.tup [.str "found",inT ins,.int k]),aa (.tup [.str "found",inT ins,.int k]),jL e.length] (.bl ac):=.and (k:=ac) (m:=ac) (.r rf) λ_=>.and (k:=ac) (m:=ac) p λ_=>.call1 (x:=.int k) (.ixt (j:=2) (.r rf) (.r rf) rfl) QD
  obtain⟨q,A,t⟩:=o _ .refl;exact⟨q,(Zc (Zk B)).trans (Zj (ZK A)),w.trans (Grw.push.trans t)⟩
def cpR:Rw->Rw
 |.ifr y g z t=>.ifr y g z (Nat.min t 2)
 |.go t=>.go (Nat.min t 2)
 |r=>r
variable{x4:Ot D}
section
variable{t:Nat}{c:Int}
def Y.min2(h:Y F s a U (.int (t:Int))):Y F s (.min a (.i 2)) U (.int ((Nat.min t 2:Nat):Int)):=g2 (y:=.int 2) h (.r rf) (gp λst=>by
 show aa (D.int (if (2:Int) < (t:Int) then 2 else (t:Int)),st)=_
 rw[show(if (2:Int) < (t:Int) then (2:Int) else (t:Int))=((Nat.min t 2:Nat):Int) by rw[show Nat.min t 2=min t 2 from rfl];split<;>omega])
def Y.last2(c:Y F s a U (.tup xs)):Y F s (.slice a (.part (.neg (.i 2))) .nop) U (.tup (xs.drop (xs.length - 2))):=λst g=>by
 obtain⟨s1,e,b⟩:=c st g;refine⟨s1,?_,b⟩;have d:ev F (.neg (.i 2)) U s1=aa (.int (-2),s1):=rfl;show Yk (ev F a) (Zq (ev F (.neg (.i 2))) WD) (evC .non) Yu U st=_;unfold Yk Zq evC;simp only[e,d];show Z0 (.tup xs) (aa (-2)) ab s1=_;rw[sl_tup];unfold Y9;have:sIx xs.length 0 (aa (-2))=xs.length - 2:=by
  show(if (-2:Int) < 0 then ((-2:Int)+(xs.length:Int)).toNat else Nat.min (-2:Int).toNat xs.length)=_
  rw[am (by decide)];omega
 rw[this];rw[show sIx xs.length xs.length ab=xs.length from rfl,eC (by rw[cA];exact aD _)]
def J0{x0:Ot D}{r:Rw}(b:s.length<=j):Ap F s j ZF [x0,x1,x2,x3,x4,jL j,aa (rwE r)] [x0,x1,x2,x3,x4,jL j,aa (rwE (cpR r))] [rwE (cpR r)]:=by
 have a:∀ {r':Rw},Ap F s j (.z (.app 5 (.v 6))) [x0,x1,x2,x3,x4,jL j,aa (rwE r')] [x0,x1,x2,x3,x4,jL j,aa (rwE r')] [rwE r']:=.one (.app rfl (.r rf));cases r with
 |put x y g z=>exact .seq b (.ite (k:=ae) (.cmp (x:=.str "put") (y:=.str "if") (.ixt (j:=0) (.r rf) (.r rf) rfl) (.r rf) λ_=>rfl) .skip) (.seq b (.ite (k:=ae) (.cmp (x:=.str "put") (y:=.str "go") (.ixt (j:=0) (.r rf) (.r rf) rfl) (.r rf) λ_=>rfl) .skip) (a (r':=.put x y g z)))
 |tell y=>exact .seq b (.ite (k:=ae) (.cmp (x:=.str "tell") (y:=.str "if") (.ixt (j:=0) (.r rf) (.r rf) rfl) (.r rf) λ_=>rfl) .skip) (.seq b (.ite (k:=ae) (.cmp (x:=.str "tell") (y:=.str "go") (.ixt (j:=0) (.r rf) (.r rf) rfl) (.r rf) λ_=>rfl) .skip) (a (r':=.tell y)))
 |skip=>exact .seq b (.ite (k:=ae) (.cmp (x:=.str "skip") (y:=.str "if") (.ixt (j:=0) (.r rf) (.r rf) rfl) (.r rf) λ_=>rfl) .skip) (.seq b (.ite (k:=ae) (.cmp (x:=.str "skip") (y:=.str "go") (.ixt (j:=0) (.r rf) (.r rf) rfl) (.r rf) λ_=>rfl) .skip) (a (r':=.skip)))
 |go t=>exact .seq b (.ite (k:=ae) (.cmp (x:=.str "go") (y:=.str "if") (.ixt (j:=0) (.r rf) (.r rf) rfl) (.r rf) λ_=>rfl) .skip) (.seq b (.ite (k:=ac) (.cmp (x:=.str "go") (y:=.str "go") (.ixt (j:=0) (.r rf) (.r rf) rfl) (.r rf) λ_=>rfl) (.one (.set (.cons (.r rf) (.cons (.min2 (.ixt (j:=1) (xs:=[.str "go",.int (t:Int)]) (.r rf) (.r rf) rfl)) .nil))))) (a (r':=.go (Nat.min t 2))))
 |ifr y g z t=>exact .seq b (.ite (k:=ac) (.cmp (x:=.str "if") (y:=.str "if") (.ixt (j:=0) (.r rf) (.r rf) rfl) (.r rf) λ_=>rfl) (.one (.set (.adT (.tkT (i:=4) (xs:=[.str "if",opE y,.str g,opE z,.int (t:Int)]) (.r rf) (.r rf) (show 4<=5 by decide)) (.cons (.min2 (.ixt (j:=4) (xs:=[.str "if",opE y,.str g,opE z,.int (t:Int)]) (.r rf) (.r rf) rfl)) .nil) (show 4+1<=100000 by decide))))) (.seq b (.ite (k:=ae) (.cmp (x:=.str "if") (y:=.str "go") (.ixt (j:=0) (.r rf) (.r rf) rfl) (.r rf) λ_=>rfl) .skip) (a (r':=.ifr y g z (Nat.min t 2))))
theorem Vc{x0 x1 x2 x3 x4:Ot D}(e:s.length<=j):∀ {l:Li Rw}{y:Ot D}{st:Za}{a:Li D},Grw s st->st[j]?=aa (ac,a)->a.length+l.length<=900->∃ b st',Zi (λd U s=>ex F ZF (Zf U 6 d) s) (l.map rwE) [x0,x1,x2,x3,x4,jL j,y] st=aa (.nx [x0,x1,x2,x3,x4,jL j,b],st')/\Kj j st st'/\st'[j]?=aa (ac,a++(l.map cpR).map rwE)
 |[],y,st,a,k,c,_=>⟨y,st,rfl,Grw.refl.kj,by rw[dF,dF,bD];exact c⟩
 |r :: l,y,st,a,k,c,i=>by
  rw[aP]at i;obtain⟨s1,n,g1,h⟩:=J0 (F:=F) (x0:=x0) (x1:=x1) (x2:=x2) (x3:=x3) (x4:=x4) (r:=r) e st a k c (by show _+1<=_;omega)
  obtain⟨b,g,m,g2,f⟩:=Vc e (l:=l) (y:=aa (rwE (cpR r))) (g1.grw e k) h (by rw[aI];show _+1+_<=_;omega)
  refine⟨b,g,?_,g1.trans g2,by rw[bB]at f;exact f⟩
  show(match ex F ZF [x0,x1,x2,x3,x4,jL j,aa (rwE r)] st with
   |some (.nx U',st')=>Zi (λd U s=>ex F ZF (Zf U 6 d) s) (l.map rwE) U' st'
   |some (.ct U',st')=>Zi (λd U s=>ex F ZF (Zf U 6 d) s) (l.map rwE) U' st'
   |some (.bk U',st')=>aa (.nx U',st')
   |some (.rt v,st')=>aa (.rt v,st')
   |none=>ab)=_
  rw[n];exact m
def ZgN(c:Rs m rs):Rs m ((rs.drop (rs.length - 2)).map cpR):=by
 have e:=c.l;refine⟨by rw[aB,cA];omega,λr h=>?_⟩
 obtain⟨a,d,rfl⟩:=aS.mp h;have ok:=c.ok a (List.mem_of_mem_drop d);rw[aB,cA];have b:∀ {t:Nat},t<=rs.length->Nat.min t 2<=rs.length - (rs.length - 2):=λ{t} h=>by rw[show Nat.min t 2=min t 2 from rfl];omega
 cases a with
 |put x y g z=>exact ok
 |tell y=>exact ok
 |skip=>exact ok
 |go t=>exact b ok
 |ifr y g z t=>exact⟨ok.1,ok.2.1,ok.2.2.1,b ok.2.2.2⟩
def Zci{x0:Ot D}{l:Li Rw}(k:Y F (st++[(ac,[])]) e [x0,x1,x2,x3,x4,jL st.length,ab] (.tup (l.map rwE)))(w:l.length<=900)(m:∀ y t,t[st.length]?=aa (ac,(l.map cpR).map rwE)->Y F t a [x0,x1,x2,x3,x4,jL st.length,y] d):∃ f,ex F (.seq (.set 5 (.lstE .aN)) (.seq (.for1 6 ae e ZF) (.seq (.ret a) q))) [x0,x1,x2,x3,x4,ab,ab] st=aa (.rt d,f)/\Grw st f:=by
 obtain⟨u,r,b⟩:=k _ .refl;obtain⟨g,c,p,j,n⟩:=Vc (F:=F) (s:=st) (x0:=x0) (x1:=x1) (x2:=x2) (x3:=x3) (x4:=x4) (aD _) (l:=l) (y:=ab) (Grw.push.trans b) (b.get Zp) (by rw[cQ];omega)
 obtain⟨h,o,i⟩:=m g c n c .refl;exact⟨h,(Zc (Zk (v:=.lst st.length) (st':=st++[(ac,[])]) rfl)).trans ((Zc ((for_tup r).trans p)).trans (Zj (ZK o))),((b.kj.trans j).grw (aD _) .push).trans i⟩
def ZeU(L:Tk tks)(G:tks.length<=m)(K:Rs m rs)(P:rs.length<=4):∃ e A,Tk e/\e.length<=m/\Rs m A/\A.length<=4/\∀ s,C (rT (n+2)) s 287 [pgD (.tup (tks.map pdD)) m rs,.int c] (pgD (.tup (e.map pdD)) m A):=by
 have o:∀ {s:Za}{U:Env} (i:Nat) {d:D},U[0]?=aa (aa (pgD (.tup (tks.map pdD)) m rs))->[D.tup (tks.map pdD),.int (m:Int),.tup (rs.map rwE)][i]?=aa d->Y (rT (n+1)) s (.ix (.v 0) (.i (i:Int))) U d:=λi _ R k=>.ixt (.v R) (.r rf) k
 have F:∀ s,Y (rT (n+1)) s (.or (.cmp .Eq (.len (.ix (.v 0) (.i 0))) (.i 0)) (.cmp .Gt (.bin .Mod (.v 1) (.i 4)) (.i 1))) [aa (pgD (.tup (tks.map pdD)) m rs),jI c,ab,ab,ab,ab,ab] (.bl (aj (((tks.map pdD).length:Int)=0)||aj (1 < c % 4))):=λs=>.or (.eqi (.lnT (o 0 rfl rfl)) (.r rf)) λ_=>.gts (.md (.r rf) (.r rf) (by decide)) (.r rf)
 by_cases q:(aj (((tks.map pdD).length:Int)=0)||aj (1 < c % 4))=ac
 .rw[q]at F
  exact⟨tks,rs,L,G,K,P,λs=>.of (v:=c__law_wide) rfl rfl (.yes (F s) (.r rf))⟩
 rw[Bool.eq_false_iff.mpr q]at F;cases tks with
 |nil=>exact aq rfl q
 |cons p tks=>
  have J:=L.l;rw[aP]at J G;obtain⟨lo,M,w⟩:∃ lo,smI (c / 8)=lo/\Sm lo:=⟨_,rfl,Ji⟩;have E:∀ s,C (rT (n+1)) s 19 [.int (c / 8)] (.int lo):=λs=>M ▸ X4
  by_cases z:c % 4=0
  .obtain⟨hi,O,I⟩:∃ hi,smI (c / 3 * 69621 % 2147483629)=hi/\Sm hi:=⟨_,rfl,Ji⟩
   have H:∀ s,C (rT (n+1)) s 19 [.int (c / 3 * 69621 % 2147483629)] (.int hi):=λs=>O ▸ X4
   refine⟨(if hi < lo then hi else lo,if hi > lo then hi else lo) :: tks,rs,⟨J,λr h=>?_⟩,G,K,P,λs=>.of (v:=c__law_wide) rfl rfl (.no (F s) (.set (.call1 (.fd (.r rf) (.r rf) (by decide)) (E _)) (.pick (.eqi (.md (.r rf) (.r rf) (by decide)) (.r rf)) (λ_=>.set (.call1 (.md (.mul (.fd (.r rf) (.r rf) (by decide)) (.r rf) rfl) (.r rf) (by decide)) (H _)) (.ret (.cons (.adT (xs:=[pdD (if hi < lo then hi else lo,if hi > lo then hi else lo)]) (ys:=tks.map pdD) (.cons (.cons (g2 (x:=.int lo) (y:=.int hi) (.r rf) (.r rf) (gp λ_=>rfl)) (.cons (g2 (x:=.int lo) (y:=.int hi) (.r rf) (.r rf) (gp λ_=>rfl)) .nil)) .nil) (.dpT (i:=1) (xs:=(p :: tks).map pdD) (o 0 rfl rfl) (.r rf) (by rw[aB];show 1<=_+1;omega)) (by rw[aB];show 1+_<=_;omega)) (.cons (o 1 rfl rfl) (.cons (o 2 rfl rfl) .nil))))) λh=>aq z (ak h))))⟩
   rcases aF.mp h with rfl|h
   .unfold Sm at *
    by_cases u:hi < lo
    .rw[am u,ao (by omega)];exact⟨I,by omega,w⟩
    .rw[ao u]
     split<;>exact⟨w,by omega,by omega⟩
   .exact L.b r (Lm _ h)
  .unfold Sm at w
   obtain⟨a,N,B⟩:∃ a:Int,(if (if (999999900:Int) < lo then 999999900 else lo) > -1000000000 then (if (999999900:Int) < lo then 999999900 else lo) else -1000000000)=a/\-1000000000<=a/\a<=999999900:=⟨_,rfl,by split<;>split<;>omega,by split<;>split<;>omega⟩
   have T:=Zo (c / 4) (j:=4) (by decide)
   obtain⟨k,S,b2⟩:∃ k,a+62+c / 4 % 4=k/\a<=k/\k<=999999999:=⟨_,rfl,by omega,by omega⟩
   refine⟨(a,k) :: af tks.length (1,1),(rs.drop (rs.length - 2)).map cpR,⟨by rw[aP,bM];exact J,λr h=>?_⟩,by rw[aP,bM];exact G,ZgN K,by rw[aB,cA];omega,λs=>.of (v:=c__law_wide) rfl rfl (.no (F s) (.set (.call1 (.fd (.r rf) (.r rf) (by decide)) (E _)) (.pick (.eqi (.md (.r rf) (.r rf) (by decide)) (.r rf)) (λh=>aq (al h) z) λ_=>.set (x:=.int a) (by
    rw[<-N];exact g2 (x:=.int (-1000000000)) (y:=.int (if (999999900:Int) < lo then 999999900 else lo)) (.r rf) (g2 (x:=.int lo) (y:=.int 999999900) (.r rf) (.r rf) (gp λ_=>rfl)) (gp λ_=>rfl)) (.set (x:=pdD (a,k)) (by
    rw[<-S];exact .cons (.r rf) (.cons (.add (.add (.r rf) (.r rf)) (.md (.fd (.r rf) (.r rf) (by decide)) (.r rf) (by decide))) .nil)) λst g=>Zci (l:=rs.drop (rs.length - 2)) ?_ (by rw[cA];omega) λy t Q=>?_))))⟩
   .rcases aF.mp h with rfl|h
    .exact⟨⟨B.1,Int.le_trans B.2 (by decide)⟩,b2.1,Int.le_trans B.1 b2.1,b2.2⟩
    .rw[(List.mem_replicate.mp h).2];exact⟨⟨by decide,by decide⟩,by decide,by decide,by decide⟩
   .rw[List.map_drop,<-aB (as:=rs) (f:=rwE)]
    exact .last2 (o 2 rfl rfl)
   .rw[show((a,k) :: af tks.length ((1:Int),(1:Int))).map pdD=[pdD (a,k)]++af tks.length (pdD (1,1)) from ar _ eD]
    refine .cons (.adT (xs:=[pdD (a,k)]) (.cons (.r rf) .nil) (.rep (i:=tks.length) (d:=pdD (1,1)) (.r rf) ?_ (by omega)) (by rw[bM];show 1+_<=_;omega)) (.cons (o 1 rfl rfl) (.cons (.tof Q (.r rf)) .nil))
    rw[show(tks.length:Int)=(((p :: tks).map pdD).length:Int) - 1 by rw[aB,aP];omega]
    exact .sub (.lnT (o 0 rfl rfl)) (.r rf)
end
def pnF(m:Nat)(rs:Li Rw)(L:Nat)(p:Nat×Str×Rw)(ins:Li Int):Nat:=fdN (trL m rs L ins) (trL m (rs.set p.1 p.2.2) L ins)
def reF(m:Nat)(rs:Li Rw)(L:Nat)(a:Li (Int×Int))(p:Nat×Str×Rw):D:=reD (tel m rs (rs.set p.1 p.2.2) L) (pnF m rs L p) a
def vdF(Z:Nat×Str×Rw->Bool×Ot (Li Tr))(m:Nat)(rs:Li Rw)(L:Nat)(a:Li (Int×Int))(b:Li (Li Int))(p:Nat×Str×Rw):D:=vdD (Z p).1 (Z p).2 (pnF m rs L p) (reF m rs L a p) (tel m rs (rs.set p.1 p.2.2) L) b
variable{sa cc:Int}
variable{tr:Li (Li Int)}
section
variable{c:Int}
def Zgl(a:Rs m rs)(x:rs.length<=4)(o:m<=4)(hN:Tk tks)(i:tks.length<=m)(t:L<=800)(d:tr.length<=10)(l:∀ ins∈tr,ins.length<=m/\∀ v∈ins,Sm v):∃ Z:Nat×Str×Rw->Bool×Ot (Li Tr),∀ s,C (rT (n+11)) s 283 [pgD (.tup (tks.map pdD)) m rs,.tup (tr.map inT),.int (L:Int)] (.tup ((fkL rs).map (vdF Z m rs L tks tr))):=by
 have g:(rs.length+1) * (rs.length+1)<=5 * 5:=dE (by omega) (by omega)
 have u:2 ^ m * ((rs.length+1) * (rs.length+1))<=2 ^ 4 * 25:=dE (Nat.pow_le_pow_right (by decide) o) g
 obtain⟨Z,q⟩:=Classical.axiomOfChoice (r:=λ(p:Nat×Str×Rw) (z:Bool×Ot (Li Tr))=>p∈fkL rs->∀ s,C (rT (n+10)) s 282 [pgD (.tup (tks.map pdD)) m rs,pgD (.tup (tks.map pdD)) m (rs.set p.1 p.2.2),.tup (tr.map inT),.int (L:Int)] (vdD z.1 z.2 (pnF m rs L p) (reF m rs L tks p) (tel m rs (rs.set p.1 p.2.2) L) tr)) λp=>by
  by_cases c:p∈fkL rs
  .obtain⟨y,w⟩:=UW a c
   obtain⟨e,f,b⟩:=Jx (n:=n) (sz:=rs.length) a (a.set (k:=p.1) w) rfl bH (by omega) (by omega) (aM u (by decide)) hN i
   exact⟨(e,f),λ_=>b L t tr l⟩
  .exact⟨(ac,ab),λh=>aq h c⟩
 exact⟨Z,λs=>UB a d λp j s=>q p j s⟩
def ZhT{a:Bool}{c:Ot (Li Tr)}{b:D}{t:Li Int->Bool}:(∃ d x,vdD a c pn b t tr=.tup (.str x :: d)/\(x=S "same"\/x=S "trial"\/x=S "paper"))\/vdD a c pn b t tr=b:=by
 unfold vdD;cases a with
 |true=>exact .inl ⟨[],S "same",am rfl,.inl rfl⟩
 |false=>
  rw[ao (by decide)]
  cases fT t 0 tr with
  |some i=>exact .inl ⟨_,_,rfl,.inr (.inl rfl)⟩
  |none=>cases c with
   |some e=>exact .inl ⟨_,_,rfl,.inr (.inr rfl)⟩
   |none=>exact .inr rfl
def NX(F:Nat->Fn)(q:CS)(U:Env)(st:Za)(I:Env->Prop):Prop:=∃ a st',ex F q U st=aa (.nx a,st')/\I a/\Grw st st'
def NX.pre{b:CS}(h:ex F q U st=ex F b U' st1)(g:Grw st st1)(c:NX F b U' st1 I):NX F q U st I:=by
 obtain⟨a,t,e,i,k⟩:=c;exact⟨a,t,h.trans e,i,g.trans k⟩
def NX.set(h:Y F st e U d)(a:∀ t,Grw st t->NX F q (Zf U i d) t I):NX F (.seq (.set i e) q) U st I:=by
 obtain⟨t,b,k⟩:=h st .refl;exact .pre (Zc (Zk b)) k (a t k)
def NX.no{p:CS}(h:Y F st e U (.bl ae))(a:∀ t,Grw st t->NX F q U t I):NX F (.seq (.ite e p .skip) q) U st I:=by
 obtain⟨t,b,k⟩:=h st .refl;exact .pre (Zc ((Y3 b).trans Zh)) k (a t k)
def NX.yes{p:CS}(h:Y F st e U (.bl ac))(c:∀ t,Grw st t->NX F p U t I):NX F (.z (.ite e p .skip)) U st I:=by
 obtain⟨t,f,k⟩:=h st .refl;obtain⟨g,a,d,i,b⟩:=c t k;exact⟨g,a,(Zc ((Z1 f).trans d)).trans Zh,i,k.trans b⟩
def NX.skip(h:I U):NX F .skip U st I:=⟨U,st,rfl,h,.refl⟩
def wd6:Li D:=[.str "same",.str "trial",.str "paper",.str "found",.str "table",.str "unknown"]
def wd3:Li D:=[.str "found",.str "table",.str "unknown"]
def Zhy{t:Li Int->Bool}(h:Tk tks):∃ x a,reD t pn tks=.tup (.str x :: a)/\Yi x wd6=aa ac/\Yi x wd3=aa ac/\∀ s,C (rT (n+2)) s 39 [.tup (.str x :: a),.tup (.str x :: a)] (.bl ac):=by
 have go:∀ {l:Li (Li Int)},(∀ ins∈l,ins.length<=3)->skR (λins=>if t ins=ac then aa (D.tup [.str "found",inT ins,.int (pn ins:Int)]) else ab) l=ab\/∃ (ins:Li Int) (k:Nat),ins.length<=3/\skR (λins=>if t ins=ac then aa (D.tup [.str "found",inT ins,.int (pn ins:Int)]) else ab) l=aa (.tup [.str "found",inT ins,.int (k:Int)]):=λ{l}=>by
  induction l with
  |nil=>exact λ_=>.inl rfl
  |cons x l d=>
   intro b;unfold skR;by_cases c:t x=ac
   .rw[am c];exact .inr ⟨x,pn x,b x Ls,rfl⟩
   .rw[ao c];exact d λz e=>b z (Lm _ e)
 unfold reD;have f:=h.l;rcases go (l:=tdL tks) λins hi=>by rw[(XG h ins hi).1];exact f with q|⟨ins,k,o,q⟩
 .rw[q]
  by_cases c:64 < wdI tks 1
  .exact⟨S "unknown",[],by rw[am c],by decide +kernel,by decide +kernel,λs=>QB (by decide +kernel)⟩
  .exact⟨S "table",[],by rw[ao c],by decide +kernel,by decide +kernel,λs=>QB (by decide +kernel)⟩
 .rw[q];exact⟨_,_,rfl,by decide +kernel,by decide +kernel,λs=>ZcC (by omega)⟩
def Zbl{p:Nat×Str×Rw}{v:D}{f e:Ot D}{P:D}(K:P=pgD (.tup (tks.map pdD)) m rs)(b:Rs m rs)(W:m<=4)(q:Tk tks)(H:tks.length<=m)(M:L<=800)(I:p∈fkL rs)(J:st[j]?=aa (bb,(tdL tks).map inT))(G:(∃ a x,v=.tup (.str x :: a)/\(x=S "same"\/x=S "trial"\/x=S "paper"))\/v=reF m rs L tks p) :
  NX (rT (n+11)) YR [jL 0,aa P,jI sa,jN L,aa (.tup (tr.map inT)),jI cc,jI (wdI tks 1),jL j,aa (tD p),aa v,f,e] st λQ=>∃ z w d c,Q=[jL 0,aa P,jI sa,jN L,aa (.tup (tr.map inT)),jI cc,jI (wdI tks 1),jL j,z,w,d,c]:=by
 subst K;rcases G with⟨a,x,rfl,o⟩|rfl
 .have g:Yi x wd6=aa ac:=by rcases o with rfl|rfl|rfl<;>decide +kernel
  have h:Yi x wd3=aa ae:=by rcases o with rfl|rfl|rfl<;>decide +kernel
  exact .no (.cmp (x:=.str x) (y:=.tup wd6) (.ixt (j:=0) (.r rf) (.r rf) rfl) (.r rf) λ_=>ar (Option.map not) g) λ_ _=>.no (.cmp (x:=.str x) (y:=.tup wd3) (.ixt (j:=0) (.r rf) (.r rf) rfl) (.r rf) λ_=>h) λ_ _=>.skip ⟨_,_,_,_,rfl⟩
 .obtain⟨O,N⟩:=UW b I
  obtain⟨x,a,u,g,h,l⟩:=Zhy (n:=n+9) (t:=tel m rs (rs.set p.1 p.2.2) L) (pn:=pnF m rs L p) q;unfold reF;rw[u];refine .no (.cmp (x:=.str x) (y:=.tup wd6) (.ixt (j:=0) (.r rf) (.r rf) rfl) (.r rf) λ_=>ar (Option.map not) g) λU F=>.yes (.cmp (x:=.str x) (y:=.tup wd3) (.ixt (j:=0) (.r rf) (.r rf) rfl) (.r rf) λ_=>h) λT E=>.set (.call (xs:=[pgD (.tup (tks.map pdD)) m rs,.int (p.1:Int),rwE p.2.2]) (.cons (.r rf) (.cons (.ixt (j:=0) (xs:=[.int (p.1:Int),.str p.2.1,rwE p.2.2]) (.r rf) (.r rf) rfl) (.cons (.ixt (j:=2) (xs:=[.int (p.1:Int),.str p.2.1,rwE p.2.2]) (.r rf) (.r rf) rfl) .nil))) (ZcB (n:=n+10) b O)) λA B=>?_
  have i:=ZgC (n:=n+6) (s:=A) (tk:=.tup (tks.map pdD)) (L:=L) b (b.set (k:=p.1) N) (by omega) M q H ((F.trans (E.trans B)).get J)
  change C _ _ _ _ (reD (tel m rs (rs.set p.1 p.2.2) L) (pnF m rs L p) tks) at i;rw[u]at i;exact .set (.call (xs:=[pgD (.tup (tks.map pdD)) m rs,pgD (.tup (tks.map pdD)) m (rs.set p.1 p.2.2),.int (wdI tks 1),.lst j,.int (L:Int)]) (.r rf) i) λR V=>.no (.not (k:=ac) (.call (xs:=[.tup (.str x :: a),.tup (.str x :: a)]) (.r rf) (l _))) λ_ _=>.skip ⟨_,_,_,_,rfl⟩
end
def Zg1:CS:=(.seq (.forP 8 9 (.aC (.call 172 (.u (.v 1)) []) (.u (.call 283 (.aC (.v 1) (.aC (.v 4) (.u (.v 3)))) []))) YR)
 (.z (.ret (.c (.bl ac)))))
def Zg2:CS:=(.seq (.set2 6 7 (.call 195 (.u (.ix (.v 1) (.i 0))) []))
 (.seq (.ite (.cmp .Gt (.len (.v 7)) (.i 27)) (.z (.set 3 (.bin .Mod (.v 3) (.i 6)))) .skip) Zg1))
section
variable{c:Int}
def Ug(f:Rs m rs)(w:rs.length<=4)(i:m<=4)(k:Tk tks)(h:tks.length<=m)(A:L<=300)(z:tr.length<=3)(o:∀ ins∈tr,ins.length<=m/\∀ v∈ins,Sm v)(x:st[j]?=aa (bb,(tdL tks).map inT)):RP (rT (n+11)) Zg1 [jL 0,aa (pgD (.tup (tks.map pdD)) m rs),jI sa,jN L,aa (.tup (tr.map inT)),jI cc,jI (wdI tks 1),jL j,ab,ab,ab,ab] st λd _=>d=.bl ac:=by
 obtain⟨Z,y⟩:=Zgl (n:=n) (tks:=tks) (L:=L) f w i k h (by omega) (by omega) o
 refine .forP (s:=st) (l:=fkL rs) (u:=tD) (v:=vdF Z m rs L tks tr) (I:=λU=>∃ e c b a,U=[jL 0,aa (pgD (.tup (tks.map pdD)) m rs),jI sa,jN L,aa (.tup (tr.map inT)),jI cc,jI (wdI tks 1),jL j,e,c,b,a]) (.cons (.call1 (.r rf) (Qw (n:=n+7) f)) (.cons (.call (xs:=[pgD (.tup (tks.map pdD)) m rs,.tup (tr.map inT),.int (L:Int)]) (.r rf) (y _)) .nil)) .refl ⟨_,_,_,_,rfl⟩ (λp q U g st' gs=>?_) λU t g kt=>?_
 .obtain⟨e,c,b,a,rfl⟩:=g
  exact Zbl (n:=n) rfl f i k h (by omega) q (gs.get x) ZhT
 .obtain⟨e,c,b,a,rfl⟩:=g
  exact .ret (s:=t) (d:=.bl ac) (.r rf) .refl λ_ _=>rfl
def RP.set2{x y:D}{t:Za}(h:ev F e U st=aa (.tup [x,y],t))(g:Grw st t)(a:RP F q (Zf (Zf U i x) j y) t Q):RP F (.seq (.set2 i j e) q) U st Q:=.pre (Zc (by show Us i j (ev F e) U st=_;unfold Us;rw[h])) g a
def RP.iteSet{k:Bool}(h:Y F st e U (.bl k))(hd:∀ t,Grw st t->Y F t a U d)(l:k=ac->∀ t,Grw st t->RP F q (Zf U i d) t Q)(j:k=ae->∀ t,Grw st t->RP F q U t Q):RP F (.seq (.ite e (.z (.set i a)) .skip) q) U st Q:=by
 obtain⟨t,f,b⟩:=h st .refl;cases k with
 |false=>exact .pre (Zc ((Y3 f).trans Zh)) b (j rfl t b)
 |true=>
  obtain⟨g,m,c⟩:=hd t b t .refl;exact .pre (Zc ((Z1 f).trans ((Zc (Zk m)).trans Zh))) (b.trans c) (l rfl g (b.trans c))
def Uh(h:Rs m rs)(l:rs.length<=4)(i:m<=4)(b:Tk tks)(g:tks.length<=m)(q:L<=300)(f:tr.length<=3)(e:∀ ins∈tr,ins.length<=m/\∀ v∈ins,Sm v):RP (rT (n+11)) Zg2 [jL 0,aa (pgD (.tup (tks.map pdD)) m rs),jI sa,jN L,aa (.tup (tr.map inT)),jI cc,ab,ab,ab,ab,ab,ab] st λd _=>d=.bl ac:=by
 obtain⟨u,j,bb,s,p,c⟩:=ZcD (n:=n+10) (st:=st) b;have o:=Zo (L:Int) (j:=6) (by decide)
 obtain⟨L2,a⟩:∃ L2:Nat,(L:Int) % 6=(L2:Int):=⟨_,(bN o.1).symm⟩;rw[a]at o;exact .set2 s p (.iteSet (d:=.int (L2:Int)) (.gts (.lenl c (.r rf)) (.r rf)) (λ_ _=>by rw[<-a];exact .md (.r rf) (.r rf) (by decide)) (λ_ t k=>Ug h l i b g (by omega) f e (k.get c)) λ_ t k=>Ug h l i b g q f e (k.get c))
def ZcP:Y9 xs ab (aa 2)=xs.take 2:=by
 unfold Y9;have:sIx xs.length xs.length (aa 2)=Nat.min 2 xs.length:=rfl;rw[this,show sIx xs.length 0 ab=0 from rfl,bR,Nat.sub_zero];by_cases h:2<=xs.length
 .rw[show Nat.min 2 xs.length=2 from Nat.min_eq_left h]
 .rw[show Nat.min 2 xs.length=xs.length from Nat.min_eq_right (by omega),eC (aD _),eC (by omega)]
def RP.setCut(k:Y F s a U (.tup xs))(g:Grw s st)(j:∀ t,Grw st t->CP F f (xs++ds) t Q1)(h:∀ d t,Grw st t->Q1 d t->∃ ys,d=.tup ys/\RP F q (Zf U i (.tup (ys.take 2))) t Q):RP F (.seq (.set i (.slice (.call f a ds) .nop (.part (.i 2)))) q) U st Q:=by
 obtain⟨s1,r,c⟩:=k st g;obtain⟨d,b,p,e,m⟩:=j s1 c;obtain⟨ys,rfl,l⟩:=h d b (c.trans e) m;have o:ev F (.call f a ds) U st=aa (.tup ys,b):=by show Zq (ev F a) (Wi (F f) ds) U st=_;unfold Zq;rw[r];exact p
 have n:ev F (.slice (.call f a ds) .nop (.part (.i 2))) U st=aa (.tup (ys.take 2),b):=by
  show Yk (ev F (.call f a ds)) (evC .non) (Zq (ev F (.i 2)) WD) Yu U st=_;unfold Yk;simp only[o];show Z0 (.tup ys) ab (aa 2) b=_;rw[sl_tup,ZcP]
 exact .pre (Zc (Zk n)) (c.trans e) l
end
def Zii:CS:=(.seq (.set 5 (.call 27 (.aC (.v 0) (.u (.bin .Add (.v 2) (.i 1)))) []))
 (.seq (.ite (.cmp .Eq (.bin .Mod (.bin .FloorDiv (.v 5) (.i 11)) (.i 8)) (.i 5)) (.seq (.set 1 (.call 186 (.u (.bin .FloorDiv (.v 5) (.i 88))) []))
 (.seq (.set 3 (.bin .Add (.i 100) (.bin .Mod (.bin .FloorDiv (.v 5) (.i 8800)) (.i 101))))
 (.z (.set 4 (.tupE .aN))))) .skip) Zg2))
def RP.iteN{F:Nat->Fn}{st:Za}{e:CE}{U:Env}{p q:CS}{k:Bool}{Q:D->Za->Prop}(h:Y F st e U (.bl k))(l:k=ac->∀ t,Grw st t->NX F p U t λc=>∀ f,RP F q c f Q)(j:k=ae->∀ t,Grw st t->RP F q U t Q):RP F (.seq (.ite e p .skip) q) U st Q:=by
 obtain⟨t,b,a⟩:=h st .refl;cases k with
 |false=>exact .pre (Zc ((Y3 b).trans Zh)) a (j rfl t a)
 |true=>
  obtain⟨c,d,m,i,g⟩:=l rfl t a;exact .pre (Zc ((Z1 b).trans m)) (a.trans g) (i d)
def Zdj{st:Za}{a:Li (Int×Int)}{m:Nat}{L sa:Nat}{b:Li (Li Int)}(w:Tk a)(A:a.length<=m)(o:m<=4)(r:Rs m rs)(l:rs.length<=4)(x:L<=300)(F:sa<=50)(q:b.length<=3)(i:∀ ins∈b,ins.length<=m/\∀ v∈ins,Sm v)(g:Grw (S0 ns) st):RP (rT (n+11)) Zii [jL 0,aa (pgD (.tup (a.map pdD)) m rs),jN sa,jN L,aa (.tup (b.map inT)),ab,ab,ab,ab,ab,ab,ab] st λd _=>d=.bl ac:=by
 refine .setY (s:=S0 ns) (.call (xs:=[.lst 0,.int ((sa+1:Nat):Int)]) (.cons (.r rf) (.cons (by rw[bC];exact .add (.r rf) (.r rf)) .nil)) (Yn (n:=n+10) (by omega))) g λB E=>?_
 generalize ceI ns (sa+1)=cc;obtain⟨D,v,z,y,u⟩:=Jy (n:=n+10) (c:=cc / 88);obtain⟨f,lk⟩:=ZgO z y;have G:=Zo (cc / 8800) (j:=101) (by decide)
 obtain⟨L2,e⟩:∃ L2:Nat,100+cc / 8800 % 101=(L2:Int):=⟨_,(bN (by omega)).symm⟩
 exact .iteN (.eqv (.md (.fd (.r rf) (.r rf) (by decide)) (.r rf) (by decide)) (.r rf)) (λ_ t k=>.set (.call1 (.fd (.r rf) (.r rf) (by decide)) (u _)) λ_ _=>.set (d:=.int (L2:Int)) (by rw[<-e];exact .add (.r rf) (.md (.fd (.r rf) (.r rf) (by decide)) (.r rf) (by decide))) λ_ _=>.set (d:=.tup (([]:Li (Li Int)).map inT)) (.r rf) λ_ _=>.skip λC=>Uh f lk (by decide) ⟨aO _,λp h=>nomatch h⟩ (aO _) (by omega) (aO _) λins h=>nomatch h) λ_ t k=>Uh r l o w A x q i
def JT(n:Nat)(ns:Li Int):∃ st',rT (n+12) 16 [.lst 0] [(ae,ns.map .int)]=aa (.bl ac,st'):=by
 have g:Grw (S0 ns) (S0 ns):=.refl;have p:CP (rT (n+12)) 16 [.lst 0] (S0 ns) λd _=>d=.bl ac:=by
  refine .of (v:=c_law_k64) rfl rfl (.setCP (s:=S0 ns) (xs:=[.lst 0,.int ((3:Nat):Int)]) (.r rf) g (λt k=>ZeP (n:=n+6) (by decide) (g.trans k)) λd t k Q=>?_)
  obtain⟨f,m,b,e,w,G,I,H,Z⟩:=Q;subst e;have g1:Grw (S0 ns) t:=g.trans k;have J:∀ {s:Za}{U:Env},U[1]?=aa (aa (pgD (.tup (f.map pdD)) m b))->Y (rT (n+11)) s (.bin .Add (.i 5) (.bin .Mult (.i 2) (.len (.ix (.v 1) (.i 2))))) U (.int ((5+2 * b.length:Nat):Int)):=λ{s U} h=>by
   have:=Y.lnT (F:=rT (n+11)) (s:=s) (a:=.ix (.v 1) (.i 2)) (xs:=b.map rwE) (U:=U) (.ixt (j:=2) (xs:=[.tup (f.map pdD),.int (m:Int),.tup (b.map rwE)]) (.v h) (.r rf) rfl);rw[aB]at this;rw[bC,dR];exact .add (.r rf) (.mul (.r rf) this (Uj (by omega)))
  refine .setY (s:=S0 ns) (J rfl) g1 λE N=>?_
  obtain⟨sa,y⟩:∃ sa,5+2 * b.length=sa:=⟨_,rfl⟩;have O:sa<=20:=by omega
  rw[y];obtain⟨o,rs,A,B,P,R,T⟩:=ZeU (n:=n+9) (c:=ceI ns sa % 1000000000000000) w G H (by omega)
  have g2:Grw (S0 ns) E:=g1.trans N;refine .setY (s:=S0 ns) (.call (xs:=[pgD (.tup (f.map pdD)) m b,.int (ceI ns sa % 1000000000000000)]) (.cons (.r rf) (.cons (.md (.call (xs:=[.lst 0,.int (sa:Int)]) (.r rf) (Yn (n:=n+10) (by omega))) (.r rf) (by decide)) .nil)) (T _)) g2 λW M=>?_
  have q:=Zo (ceI ns (sa+1)) (j:=11) (by decide)
  obtain⟨L,D⟩:∃ L:Nat,ceI ns (sa+1) % 11=(L:Int):=⟨_,(bN q.1).symm⟩;rw[D]at q;have C:=g2.trans M;refine .setY (s:=S0 ns) (d:=.int (L:Int)) (by
   rw[<-D];exact .md (.call (xs:=[.lst 0,.int ((sa+1:Nat):Int)]) (.cons (.r rf) (.cons (by rw[bC];exact .add (.r rf) (.r rf)) .nil)) (Yn (n:=n+10) (by omega))) (.r rf) (by decide)) C λV K=>?_
  have x:=C.trans K;have lt:=Y.lnT (F:=rT (n+11)) (s:=S0 ns) (a:=.ix (.v 1) (.i 0)) (xs:=o.map pdD) (U:=[jL 0,aa (pgD (.tup (o.map pdD)) m rs),jN sa,jN L,ab,ab,ab,ab,ab,ab,ab,ab]) (.r rf);rw[aB]at lt;refine .setCut (s:=S0 ns) (xs:=[.lst 0,.int ((sa+2:Nat):Int),.int (o.length:Int)]) (.cons (.r rf) (.cons (by rw[bC];exact .add (.r rf) (.r rf)) (.cons lt .nil))) x (λt k=>Zac (n:=n+8) (by omega) A.l (x.trans k)) λd t k ⟨u,S,X,z⟩=>⟨u.map inT,S,?_⟩
  rw[<-List.map_take];exact Zdj A B I P R (by omega) (by omega) (by rw[cF];omega) (λins h=>⟨by rw[(z ins (List.mem_of_mem_take h)).1];exact B,(z ins (List.mem_of_mem_take h)).2⟩) (x.trans k)
 obtain⟨d,st',e,_,rfl⟩:=p;exact⟨st',e⟩
end Dp
namespace PySem.W.Fast
def tw16855687362891909875:=fD
def tw15607848841606584850:=fD
def tw3765627696509595248:=fD
def tw12069699595856961436:=fD
def tw1514903173576228521:=fD
def tw3345235368829062358:=fD
def tw10074033165189269069:=fD
def tw15128315167137205985:=fD
def tw17550907900825753510:=fD
def tw2545805693678197260:=fD
def tw5142712774078380151:=fD
def tw13521970663618211896:=fD
def tw8541728713810590677:=fD
def tw15087621647785565508:=fD
def tw13617760227049754507:=fD
def tw15551036116208576015:=fD
def tw4863904195973220927:=fD
def tw12251911752897256701:=fD
def tw1472986982602275950:=fD
def tw10907461286200954277:=fD
def tw12190305826278470648:=fD
def tw14757466451599127096:=fD
def tw4799560939692099436:=fD
def tw15531388170148118585:=fD
def tw7517665454343845406:=fD
def tw3900903594266678888:=fD
def tw18185895760169620525:=fD
def tw3222657148237540620:=fD
def tw16552121945455106965:=fD
def tw3501459942042363164:=fD
def tw6944789744195775723:=fD
def tw7188312277784322690:=fD
def tw14520723630974983532:=fD
def tw16394201814211027297:=fD
def tw13849907247287374493:=fD
def tw804784614359170031:=fD
def tw11470250043997771147:=fD
def tw5462225846359592919:=fD
def tw12252149415838823387:=fD
def tw16025376465318680840:=fD
def tw2822886107919593379:=fD
def tw17396421462175206318:=fD
def tw14609329712635568650:=fD
def tw11379623195679349274:=fD
def tw14531731874733499532:=fD
def tw6042674054446495277:=fD
def tw9842695429430513188:=fD
def tw1576608822285716989:=fD
def tw6388952555162950596:=fD
def tw4643978828620808684:=fD
def tw18095105995605112655:=fD
def tw5851161696979571390:=fD
def tw14452279177177481127:=fD
def tw6017596075599318193:=fD
def tw2194484523856402331:=fD
def tw12879907333270896982:=fD
def tw13591880683776051311:=fD
def tw11873037397100302815:=fD
def tw7282012401741287836:=fD
def tw5891143200357856001:=fD
def tw3093536388385786402:=fD
def tw1217211436817646363:=fD
def tw4018560247708283749:=fD
def tw12422318566839331512:=fD
def tw6391420504743913023:=fD
def tw1809946089212973568:=fD
def tw7885866726943536802:=fD
def tw7226771406856478493:=fD
def tw2569917383901309868:=fD
def tw12748339331966543315:=fD
def tw3528916090127182013:=fD
def tw12969024570784649978:=fD
def tw3538514356412615293:=fD
def tw11423236209340806819:=fD
def tw14625775825043899097:=fD
def tw14747067099703683166:=fD
def tw5349258386116129947:=fD
def tw3932469253742856380:=fD
def tw4658017712306447402:=fD
def tw9621564815998475781:=fD
def tw13644219530280265180:=fD
def tw8088157699698813917:=fD
def tw12151962376860870034:=fD
def tw18362324077612433157:=fD
def tw14413592600789191875:=fD
def tw11916116584735531517:=fD
def tw7824487326684561611:=fD
def tw17215848489784669235:=fD
def tw10682913315380009447:=fD
def tw16763165961368330406:=fD
def tw5453429945480935114:=fD
def tw113768566017088687:=fD
def tw13408100198521695941:=fD
def tw12633226449325260088:=fD
def tw18019667843145718557:=fD
def tw9530419573204159817:=fD
def tw5068748856571991986:=fD
def tw18407324794432059366:=fD
def tw13171433345010466129:=fD
def tw3970257840115170716:=fD
def tw1623081621489375025:=fD
def tw17777393187342419761:=fD
def tw12978569156369756903:=fD
def tw13746650367403045118:=fD
def tw17506059560745862560:=fD
def tw10777910913322888376:=fD
def tw8988151174349293272:=fD
def tw2824101212109972839:=fD
def tw4368404021078635972:=fD
def tw650462470617398024:=fD
def tw16238562899556987655:=fD
def tw3495443917988708348:=fD
def tw10775262994071770049:=fD
def tw10447708993162822550:=fD
def tw455542556157787737:=fD
def tw7291263850645747369:=fD
def tw985659263299691353:=fD
def tw6837736195204448512:=fD
def tw105439765008779746:=fD
def tw8779571828497016648:=fD
def tw8189861328823394963:=fD
def tw2795843658839049790:=fD
def tw3027828317000998209:=fD
def tw16309371224079829343:=fD
def tw9244062236014156452:=fD
def tw271698969469566042:=fD
def tw14520340028305730583:=fD
def tw1186675118348487779:=fD
def tw5586578139403126589:=fD
def tw16327311833826926332:=fD
def tw15887697815323088082:=fD
def tw2250359066467574391:=fD
def tw4088009003243654611:=fD
def tw8820304143001610184:=fD
def tw2110990005370457115:=fD
def tw12826513544326119445:=fD
def tw11464518474030675480:=fD
def tw4829125584044259756:=fD
def tw9832769553511014753:=fD
def tw13304628534817127495:=fD
def tw6699482840913497552:=fD
def tw3566975318148189439:=fD
def tw717476789499600045:=fD
def tw17208372452558884302:=fD
def tw16220619548791018864:=fD
def tw14468790807144182818:=fD
def tw2868818600336645858:=fD
def tw8779859665513715035:=fD
def tw7147428684293474655:=fD
def tw11479805148898004412:=fD
def tw874571307659434444:=fD
def tw3024483282827324070:=fD
def tw11482298329255442014:=fD
def tw10032756174557647397:=fD
def tw10168344676865507939:=fD
def tw12214565710850732685:=fD
def tw11945980232529545676:=fD
def tw8032288124969475646:=fD
def tw17286892092892148697:=fD
def tw12392986256414596859:=fD
def tw12000279673553243786:=fD
def tw16722725423518287085:=fD
def tw5290325340362030202:=fD
def tw16554616715452089457:=fD
def tw5633687566779146016:=fD
def tw11673175788937070321:=fD
def tw3304537549571161865:=fD
def tw5050020341678405812:=fD
def tw2509542690821295517:=fD
def tw14790497834795400327:=fD
def tw4419609181145993044:=fD
def tw209832653919349820:=fD
def tw6901645348818942542:=fD
def tw4251011414481962931:=fD
def tw12122048727899373105:=fD
def tw7892108864960210544:=fD
def tw2926117972042939500:=fD
def tw12684218414255998811:=fD
def tw11415527913077182560:=fD
def tw9093348177830406347:=fD
def tw3707985359201930498:=fD
def tw5200494025206408821:=fD
def tw11297664247929376763:=fD
def tw6187822500486352940:=fD
def tw11486191464336285961:=fD
def tw3260583332408559911:=fD
def tw10785026217421911968:=fD
def tw13447058733835858740:=fD
def tw12999133483944264293:=fD
def tw11636019410534973137:=fD
def tw6308311301102951172:=fD
def tw7404756488627683191:=fD
def tw13739470975136303211:=fD
def tw10450712070472076584:=fD
def tw1123385140442905630:=fD
def tw11043706721279300339:=fD
def tw13441868917007473070:=fD
def tw14170802421210872709:=fD
def tw10421534972324753974:=fD
def tw17836104310260528690:=fD
def tw8867309310597560855:=fD
def tw233365965309207313:=fD
def tw9790967882474239602:=fD
def tw3026238928520793885:=fD
def tw5704396381713055612:=fD
def tw14473271709924262042:=fD
def tw12709790728544793393:=fD
def tw10029486850608537469:=fD
def tw410321475829572376:=fD
def tw2608791057326513347:=fD
def tw14405904351093142521:=fD
def tw13868576762720026596:=fD
def tw2019630192942344353:=fD
def tw13144065872746547771:=fD
def tw1300552648613754217:=fD
def tw16844990071355688064:=fD
def tw18057366459052342959:=fD
def tw12237843607367952140:=fD
def tw15197837219858848327:=fD
def tw1293766691710960743:=fD
def tw15001875681679760881:=fD
def tw153258045492729978:=fD
def tw9295859433248902830:=fD
def tw14693219195386921781:=fD
def tw17371458147451127648:=fD
def tw8162306184892105710:=fD
def tw16143098842570250145:=fD
def tw4501778698957527203:=fD
def tw11294434924418278213:=fD
def tw5284581184863262268:=fD
def tw12964907265438081722:=fD
def tw14491240329010902481:=fD
def tw2642290572935246582:=fD
def tw806467893709549608:=fD
def tw16350415332851710552:=fD
def tw16059673213878799508:=fD
def tw7512318317428897590:=fD
def tw626716318989547354:=fD
def tw31055492826574811:=fD
def tw6486615367485703857:=fD
def tw14091956239989125843:=fD
def tw6839473121278822834:=fD
def tw2569465258356382304:=fD
def tw262632664853595814:=fD
def tw296036461917815967:=fD
def tw5594210460610357204:=fD
def tw5059029138783973591:=fD
def tw15125032469595553250:=fD
def tw6931820605509332428:=fD
def tw13730076815542040790:=fD
def tw8907780811879829245:=fD
def tw14900007469262639489:=fD
def tw16045406464518436675:=fD
def tw6009434840773765625:=fD
def tw2481050205005478301:=fD
def tw9741702530855516469:=fD
def tw14034695387660464619:=fD
def tw7543163026099270860:=fD
def tw3829561349822234254:=fD
def tw14705773478472265756:=fD
def tw11026875962653101006:=fD
def tw9699923559754655335:=fD
def tw7592391920864179017:=fD
def tw14958034965482025128:=fD
def tw25149658985434464:=fD
def tw2158963865175158171:=fD
def tw11901631471715017978:=fD
def tw2664187028594555592:=fD
def tw1291034405227455827:=fD
def tw15364977650297325559:=fD
def tw4181712220068990844:=fD
def tw13003707608456048729:=fD
def tw12406573792492066780:=fD
def tw440564701383309936:=fD
def tw1616830108227310209:=fD
def tw7586109912031762193:=fD
def tw15036982428609018571:=fD
def tw12254509236870531536:=fD
def tw14182808530248865857:=fD
def tw11379615739046165567:=fD
def tw17930726870546183712:=fD
def tw2559344539593031841:=fD
def tw15171055316511017009:=fD
def tw9663055809426753905:=fD
def tw12940371056892139228:=fD
def tw6343097505135412436:=fD
def tw10964166016790556868:=fD
end PySem.W.Fast
namespace Dp
open PySem L2
noncomputable def top(i:Nat):Stmt:=PySem.Challenge.pw_fakehunt_k64_found_or_table.main.body.getD i (.Pass ⟨0,0,0,0⟩)
def G:Gs:=[(S "Step",GV.cls 146 [(S "word",147,1),(S "turned",148,3)] [146,169,149,157,152,160,163]),(S "Sign",GV.cls 169 [(S "word",170,1),(S "turned",171,3)] [169]),(S "More",GV.cls 149 [(S "word",150,1),(S "turned",151,3)] [149]),(S "Turn",GV.cls 157 [(S "word",158,1),(S "turned",159,3)] [157]),(S "Out",GV.cls 152 [(S "word",153,1),(S "turned",154,3)] [152]),(S "Swap",GV.cls 160 [(S "word",161,1),(S "turned",162,3)] [160]),(S "Far",GV.cls 163 [(S "word",164,1),(S "turned",165,3)] [163]),(S "OPERAND_PLACES",GV.dct [(S "put"),(S "if"),(S "tell"),(S "go"),(S "skip")] [(.tup [(.int 2),(.int 4)]),(.tup [(.int 1),(.int 3)]),(.tup [(.int 1)]),(.tup []),(.tup [])]),(S "replaced",GV.fn 42 3 []),(S "operand_places",GV.fn 113 1 []),(S "bit_of",GV.fn 43 1 []),(S "all_bits",GV.fn 56 1 []),(S "has_bit",GV.fn 114 2 []),(S "without_bit",GV.fn 57 2 []),(S "LOWEST",GV.c (.int (-1000000000))),(S "HIGHEST",GV.c (.int 999999999)),(S "HALF",GV.c (.int 1000000000)),(S "RING",GV.c (.int 2000000000)),(S "PUT_SIGNS",GV.c (.kt [(S "+"),(S "-"),(S "*"),(S "/"),(S "mod")])),(S "IF_SIGNS",GV.c (.kt [(S "<"),(S "<="),(S "="),(S ">="),(S ">"),(S "!=")])),(S "around",GV.fn 0 1 []),(S "divided",GV.fn 1 2 []),(S "left_over",GV.fn 2 2 []),(S "reckon",GV.fn 3 3 []),(S "is_so",GV.fn 4 3 []),(S "CONTRARIES",GV.dct [(S "<"),(S ">="),(S "<="),(S ">"),(S "="),(S "!=")] [(.str (S ">=")),(.str (S "<")),(.str (S ">")),(.str (S "<=")),(.str (S "!=")),(.str (S "="))]),(S "behind",GV.fn 70 2 []),(S "fakes",GV.fn 172 1 []),(S "fake_of",GV.fn 180 3 []),(S "worth",GV.fn 5 2 []),(S "began",GV.fn 6 2 []),(S "at_end",GV.fn 7 2 []),(S "values_behind",GV.fn 8 2 []),(S "place_behind",GV.fn 9 3 []),(S "moved",GV.fn 10 2 []),(S "is_outcome",GV.fn 11 1 []),(S "trail",GV.fn 12 3 [(.int 100)]),(S "outcome",GV.fn 13 3 [(.int 100)]),(S "MOST_TRIALS",GV.c (.int 10)),(S "check_trials",GV.fn 181 1 []),(S "WIDEST",GV.c (.int 64)),(S "width",GV.fn 133 1 []),(S "inputs_of",GV.fn 134 1 []),(S "is_wide",GV.fn 135 1 []),(S "box",GV.fn 136 1 []),(S "menu_numbers",GV.fn 137 2 []),(S "menu",GV.fn 138 1 []),(S "tried",GV.fn 139 1 []),(S "NOUGHT",GV.c (.tup [(.str (S "number")),(.int 0)])),(S "ONE",GV.c (.tup [(.str (S "number")),(.int 1)])),(S "SKIP",GV.c (.tup [(.str (S "skip"))])),(S "are_numbers",GV.fn 73 2 []),(S "lesser_first",GV.fn 74 3 []),(S "less_as_more",GV.fn 75 1 []),(S "without_reckoning",GV.fn 76 1 []),(S "made_put",GV.fn 77 1 []),(S "greater_as_less",GV.fn 78 1 []),(S "is_settled",GV.fn 79 1 []),(S "settled",GV.fn 80 1 []),(S "most_as_less",GV.fn 81 1 []),(S "made_if",GV.fn 82 2 []),(S "made_row",GV.fn 83 2 []),(S "made",GV.fn 106 1 []),(S "END",GV.c (.tup [(.str (S "end"))])),(S "row_at",GV.fn 115 2 []),(S "ends_run",GV.fn 116 1 []),(S "reads_only",GV.fn 117 2 []),(S "end_alike",GV.fn 118 3 []),(S "choose_alike",GV.fn 119 3 []),(S "staying",GV.fn 120 3 []),(S "places_behind",GV.fn 121 2 []),(S "follow",GV.fn 122 5 []),(S "found_paper",GV.fn 201 2 []),(S "parting",GV.fn 98 4 [(.int 100)]),(S "tells",GV.fn 99 4 [(.int 100)]),(S "sought",GV.fn 140 3 [(.int 100)]),(S "first_telling",GV.fn 281 4 []),(S "verdict",GV.fn 282 4 []),(S "verdicts",GV.fn 283 3 [(.int 100)]),(S "_law_whole",GV.fn 17 1 []),(S "_law_cell_at",GV.fn 27 2 []),(S "_law_small_by",GV.fn 19 1 []),(S "_law_operand",GV.fn 28 2 []),(S "_law_row",GV.fn 29 4 []),(S "_law_stretch",GV.fn 284 1 []),(S "_law_program",GV.fn 30 2 []),(S "_law_trials",GV.fn 51 3 []),(S "_law_around",GV.fn 31 1 []),(S "_law_reckon",GV.fn 32 3 []),(S "_law_so",GV.fn 33 3 []),(S "_law_worth",GV.fn 34 2 []),(S "_law_next",GV.fn 35 3 []),(S "_law_trail",GV.fn 26 3 []),(S "_law_parted",GV.fn 286 2 []),(S "_law_wide",GV.fn 287 2 []),(S "_law_tried",GV.fn 195 1 []),(S "_law_due",GV.fn 38 5 []),(S "_law_same",GV.fn 39 2 []),(S "_law_other",GV.fn 288 3 []),(S "_law_counter",GV.fn 186 1 []),(S "law",GV.fn 16 1 []),(S "len",GV.blt),(S "range",GV.blt),(S "tuple",GV.blt),(S "list",GV.blt),(S "int",GV.blt),(S "bool",GV.blt),(S "str",GV.blt),(S "min",GV.blt),(S "max",GV.blt),(S "isinstance",GV.blt),(S "all",GV.blt),(S "any",GV.blt),(S "zip",GV.blt),(S "sorted",GV.blt),(S "enumerate",GV.blt),(S "set",GV.blt)]
def Z3(i k:Nat):Stmt:=match top i with
 |.ClassDef _ _ _ b _ _ _ _ _ _ _=>b.getD k (.Pass ⟨0,0,0,0⟩)
 |s=>s
abbrev Cmp(i:Nat)(N a:Li Str)(c:CS):Prop:=YG G (top i) N a c
local macro_rules
 |`(tactic| trivial)=>`(tactic| exact⟨⟨rfl,rfl,rfl,by decide +kernel,rfl,by decide +kernel,by decide +kernel⟩,by unfold L2.Loc;decide +kernel,by kernel_rfl⟩)
def q_6:Cmp 6 ["things","i","thing"] ["things","i","thing"] c_replaced.body:=by trivial
def q_7:Cmp 7 ["row"] ["row"] c_operand_places.body:=by trivial
def q_8:Cmp 8 ["i","bit","times"] ["i"] c_bit_of.body:=by trivial
def q_9:Cmp 9 ["many"] ["many"] c_all_bits.body:=by trivial
def Zio:Cmp 10 ["bits","i"] ["bits","i"] c_has_bit.body:=by trivial
def Zip:Cmp 11 ["bits","i"] ["bits","i"] c_without_bit.body:=by trivial
def Ziq:Cmp 19 ["number"] ["number"] c_around.body:=by trivial
def Zir:Cmp 20 ["one","other"] ["one","other"] c_divided.body:=by trivial
def Zis:Cmp 21 ["one","other"] ["one","other"] c_left_over.body:=by trivial
def Zit:Cmp 22 ["one","sign","other"] ["one","sign","other"] c_reckon.body:=by trivial
def Ziu:Cmp 23 ["one","sign","other"] ["one","sign","other"] c_is_so.body:=by trivial
def Ziv:Cmp 26 ["ring","sign"] ["ring","sign"] c_behind.body:=by trivial
def Ziw:Cmp 35 ["program","rows","steps","told","k","row","step"] ["program"] c_fakes.body:=by trivial
def Zix:Cmp 36 ["program","k","row"] ["program","k","row"] c_fake_of.body:=by trivial
def Ziy:Cmp 38 ["operand","values"] ["operand","values"] c_worth.body:=by trivial
def Ziz:Cmp 39 ["program","inputs"] ["program","inputs"] c_began.body:=by trivial
def ZiA:Cmp 40 ["program","state"] ["program","state"] c_at_end.body:=by trivial
def ZiB:Cmp 41 ["row","values","number"] ["row","values"] c_values_behind.body:=by trivial
def ZiC:Cmp 42 ["row","k","values"] ["row","k","values"] c_place_behind.body:=by trivial
def ZiD:Cmp 43 ["program","state","k","values","row"] ["program","state"] c_moved.body:=by trivial
def ZiE:Cmp 44 ["thing"] ["thing"] c_is_outcome.body:=by trivial
def ZiF:Cmp 45 ["program","inputs","limit","state","things","done","thing"] ["program","inputs","limit"] c_trail.body:=by trivial
def ZiG:Cmp 46 ["program","inputs","limit"] ["program","inputs","limit"] c_outcome.body:=by trivial
def ZiH:Cmp 49 ["trials"] ["trials"] c_check_trials.body:=by trivial
def ZiI:Cmp 52 ["program","many","low","high"] ["program"] c_width.body:=by trivial
def ZiJ:Cmp 53 ["numbers_taken","told","numbers","longer","inputs"] ["numbers_taken"] c_inputs_of.body:=by trivial
def ZiK:Cmp 54 ["program"] ["program"] c_is_wide.body:=by trivial
def ZiL:Cmp 55 ["program"] ["program"] c_box.body:=by trivial
def ZiM:Cmp 56 ["low","high","numbers","number"] ["low","high"] c_menu_numbers.body:=by trivial
def ZiN:Cmp 57 ["program"] ["program"] c_menu.body:=by trivial
def ZiO:Cmp 58 ["program"] ["program"] c_tried.body:=by trivial
def ZiP:Cmp 63 ["y","z"] ["y","z"] c_are_numbers.body:=by trivial
def ZiQ:Cmp 64 ["row","i","j"] ["row","i","j"] c_lesser_first.body:=by trivial
def ZiR:Cmp 65 ["row"] ["row"] c_less_as_more.body:=by trivial
def ZiS:Cmp 66 ["row","y","sign","z"] ["row"] c_without_reckoning.body:=by trivial
def ZiT:Cmp 67 ["row"] ["row"] c_made_put.body:=by trivial
def ZiU:Cmp 68 ["row"] ["row"] c_greater_as_less.body:=by trivial
def ZiV:Cmp 69 ["row"] ["row"] c_is_settled.body:=by trivial
def ZiW:Cmp 70 ["row","so"] ["row"] c_settled.body:=by trivial
def ZiX:Cmp 71 ["row","y","z"] ["row"] c_most_as_less.body:=by trivial
def ZiY:Cmp 72 ["row","k"] ["row","k"] c_made_if.body:=by trivial
def ZiZ:Cmp 73 ["row","k"] ["row","k"] c_made_row.body:=by trivial
def Zi0:Cmp 74 ["program","rows"] ["program"] c_made.body:=by trivial
def Zi1:Cmp 77 ["program","k"] ["program","k"] c_row_at.body:=by trivial
def Zi2:Cmp 78 ["row"] ["row"] c_ends_run.body:=by trivial
def Zi3:Cmp 79 ["row","bits","i"] ["row","bits"] c_reads_only.body:=by trivial
def Zi4:Cmp 80 ["row","beside","bits"] ["row","beside","bits"] c_end_alike.body:=by trivial
def Zi5:Cmp 81 ["row","beside","bits"] ["row","beside","bits"] c_choose_alike.body:=by trivial
def Zi6:Cmp 82 ["row","beside","bits","each"] ["row","beside","bits"] c_staying.body:=by trivial
def Zi7:Cmp 83 ["row","k"] ["row","k"] c_places_behind.body:=by trivial
def Zi8:Cmp 84 ["one","other","k","j","bits","row","beside","stay","triples","place"] ["one","other","k","j","bits"] c_follow.body:=by trivial
def Zi9:Cmp 86 ["one","other","paper","ahead","pair","triples","k","j","stay","bits"] ["one","other"] c_found_paper.body:=by trivial
def Zja:Cmp 88 ["one","other","inputs","limit","things","beside","n"] ["one","other","inputs","limit"] c_parting.body:=by trivial
def Zjb:Cmp 89 ["one","other","inputs","limit"] ["one","other","inputs","limit"] c_tells.body:=by trivial
def Zjc:Cmp 91 ["one","other","limit","inputs"] ["one","other","limit"] c_sought.body:=by trivial
def Zjd:Cmp 93 ["one","other","trials","limit","i","inputs"] ["one","other","trials","limit"] c_first_telling.body:=by trivial
def Zje:Cmp 94 ["program","other","trials","limit","i","paper","inputs"] ["program","other","trials","limit"] c_verdict.body:=by trivial
def Zjf:Cmp 95 ["program","trials","limit"] ["program","trials","limit"] c_verdicts.body:=by trivial
def Zjg:Cmp 97 ["_law_found"] ["_law_found"] c__law_whole.body:=by trivial
def Zjh:Cmp 98 ["_law_script","_law_k"] ["_law_script","_law_k"] c__law_cell_at.body:=by trivial
def Zji:Cmp 99 ["_law_cell","_law_some"] ["_law_cell"] c__law_small_by.body:=by trivial
def Zhe:Cmp 100 ["_law_number","_law_many"] ["_law_number","_law_many"] c__law_operand.body:=by trivial
def Zhf:Cmp 101 ["_law_cell","_law_more","_law_many","_law_size","_law_one","_law_other_here","_law_sign","_law_at","_law_x"] ["_law_cell","_law_more","_law_many","_law_size"] c__law_row.body:=by trivial
def Zhg:Cmp 102 ["_law_cell","_law_low"] ["_law_cell"] c__law_stretch.body:=by trivial
def Zhh:Cmp 103 ["_law_script","_law_most","_law_head","_law_taken","_law_many","_law_size","_law_rows","_law_k","_law_cell","_law_takes"] ["_law_script","_law_most"] c__law_program.body:=by trivial
def Zhi:Cmp 104 ["_law_script","_law_start","_law_taken","_law_trials_here","_law_k","_law_cells"] ["_law_script","_law_start","_law_taken"] c__law_trials.body:=by trivial
def Zhj:Cmp 106 ["_law_number"] ["_law_number"] c__law_around.body:=by trivial
def Zhk:Cmp 107 ["_law_one","_law_sign","_law_other_here"] ["_law_one","_law_sign","_law_other_here"] c__law_reckon.body:=by trivial
def Zhl:Cmp 108 ["_law_one","_law_sign","_law_other_here","_law_some"] ["_law_one","_law_sign","_law_other_here"] c__law_so.body:=by trivial
def Zhm:Cmp 109 ["_law_operand_here","_law_values"] ["_law_operand_here","_law_values"] c__law_worth.body:=by trivial
def Zhn:Cmp 110 ["_law_program_here","_law_at","_law_values","_law_row_here","_law_there","_law_one"] ["_law_program_here","_law_at","_law_values"] c__law_next.body:=by trivial
def Zho:Cmp 111 ["_law_program_here","_law_inputs","_law_limit_here","_law_state","_law_way","_law_done"] ["_law_program_here","_law_inputs","_law_limit_here"] c__law_trail.body:=by trivial
def Zhp:Cmp 112 ["_law_one","_law_other_here","_law_n"] ["_law_one","_law_other_here"] c__law_parted.body:=by trivial
def Zhq:Cmp 113 ["_law_program_here","_law_cell","_law_low","_law_high","_law_wide_here","_law_rows","_law_row_here"] ["_law_program_here","_law_cell"] c__law_wide.body:=by trivial
def Zhr:Cmp 114 ["_law_takes","_law_breadth","_law_low","_law_high","_law_found","_law_numbers","_law_longer","_law_inputs"] ["_law_takes"] c__law_tried.body:=by trivial
def Zhs:Cmp 115 ["_law_program_here","_law_other_here","_law_breadth","_law_inputs","_law_limit_here","_law_some","_law_here","_law_there"] ["_law_program_here","_law_other_here","_law_breadth","_law_inputs","_law_limit_here"] c__law_due.body:=by trivial
def Zht:Cmp 116 ["_law_verdict","_law_due_here","_law_odd"] ["_law_verdict","_law_due_here"] c__law_same.body:=by trivial
def Zhu:Cmp 117 ["_law_program_here","_law_k","_law_row_here"] ["_law_program_here","_law_k","_law_row_here"] c__law_other.body:=by trivial
def Zhv:Cmp 118 ["_law_cell","_law_skips","_law_rows"] ["_law_cell"] c__law_counter.body:=by trivial
def Zez:Cmp 119 ["_law_script","_law_program_here","_law_start","_law_limit_here","_law_trials_here","_law_cell","_law_breadth","_law_inputs","_law_fake","_law_verdict","_law_other_here","_law_due_here"] ["_law_script"] c_law_k64.body:=by trivial
def ZfF:YG G (Z3 27 0) [S "self"] [S "self"] c_Step_word.body:=by trivial
def ZfG:YG G (Z3 27 1) [S "self",S "row",S "many"] [S "self",S "row",S "many"] c_Step_turned.body:=by trivial
def ZfH:YG G (Z3 28 0) [S "self"] [S "self"] c_Sign_word.body:=by trivial
def ZfI:YG G (Z3 28 1) [S "self",S "row",S "many"] [S "self",S "row",S "many"] c_Sign_turned.body:=by trivial
def ZfJ:YG G (Z3 29 0) [S "self"] [S "self"] c_More_word.body:=by trivial
def ZfK:YG G (Z3 29 1) [S "self",S "row",S "many",S "rows",S "i"] [S "self",S "row",S "many"] c_More_turned.body:=by trivial
def ZfL:YG G (Z3 30 0) [S "self"] [S "self"] c_Turn_word.body:=by trivial
def ZfM:YG G (Z3 30 1) [S "self",S "row",S "many"] [S "self",S "row",S "many"] c_Turn_turned.body:=by trivial
def ZfN:YG G (Z3 31 0) [S "self"] [S "self"] c_Out_word.body:=by trivial
def ZfO:YG G (Z3 31 1) [S "self",S "row",S "many"] [S "self",S "row",S "many"] c_Out_turned.body:=by trivial
def ZfP:YG G (Z3 32 0) [S "self"] [S "self"] c_Swap_word.body:=by trivial
def ZfQ:YG G (Z3 32 1) [S "self",S "row",S "many"] [S "self",S "row",S "many"] c_Swap_turned.body:=by trivial
def ZfR:YG G (Z3 33 0) [S "self"] [S "self"] c_Far_word.body:=by trivial
def ZfS:YG G (Z3 33 1) [S "self",S "row",S "many"] [S "self",S "row",S "many"] c_Far_turned.body:=by trivial
@[reducible] noncomputable def tab (l:Li (Nat×Ad)):ClsTab:=⟨λi=>(l.lookup i).getD 0⟩
section
variable [ct:ClsTab]
def ZeW{Pm:Params}{K:Fg}{h:bg}{mg:Str->Ot vL}{fa:Ad}(X:K.In h)(a:h.Ns ax mg)(hfa:mg "law"=aa (.ref fa)){C0:Ad}{C1:Ad}{C2:Ad}{C3:Ad}{C4:Ad}{C5:Ad}{C6:Ad}{A7:Ad}{ob7:Obj}{ep7:Nat}{Y:Tok}{l:Ad}{I:Obj}{bn7_0:Nat}{P:Tok}{O:Tok}{V:Tok}{k:Ad}{H:Obj}{bn7_1:Nat}{M:Tok}{L:Tok}{U:Tok}{j:Ad}{F:Obj}{bn7_2:Nat}{J:Tok}{R:Tok}{i:Ad}{E:Obj}{bn7_3:Nat}{Q:Tok}{g:Ad}{D:Obj}{bn7_4:Nat}{t14:Tok}{t15:Tok}{t16:Tok}{t17:Tok}{A18:Ad}{ob18:Obj}{on18:Nat}{t18_0:Tok}{t18_1:Tok}{t18_2:Tok}{t18_3:Tok}{t18_4:Tok}{A19:Ad}{ob19:Obj}{on19:Nat}{t19_0:Tok}{t19_1:Tok}{t19_2:Tok}{t19_3:Tok}{t19_4:Tok}{t19_5:Tok}{A25:Ad}{m:Obj}{ep25:Nat}{C:Tok}{w:Tok}{B:Tok}{r:Tok}{A:Tok}{q:Tok}{z:Tok}{p:Tok}{y:Tok}{o:Tok}{x:Tok}{n:Tok}{t38:Tok}{t40:Tok}{A48:Ad}{ob48:Obj}{on48:Nat}{t48_0:Tok}{t48_1:Tok}{A49:Ad}{ob49:Obj}{on49:Nat}{t49_0:Tok}{t49_1:Tok}{A50:Ad}{ob50:Obj}{on50:Nat}{t50_0:Tok}{A63:Ad}{Z:Obj}{on63:Nat}{t63_0:Tok}
(yz0:ClsTab.ca 146=C0) (yz1:ClsTab.ca 169=C1) (yz2:ClsTab.ca 149=C2) (yz3:ClsTab.ca 157=C3) (yz4:ClsTab.ca 152=C4) (yz5:ClsTab.ca 160=C5) (yz6:ClsTab.ca 163=C6)
  (y0:ClsAt K "Step" C0) (ym0_0:W.kitOne K (.ref C0) (.ref C0)=aa ac) (ym0_1:W.kitOne K (.ref C1) (.ref C0)=aa ac) (ym0_2:W.kitOne K (.ref C2) (.ref C0)=aa ac) (ym0_3:W.kitOne K (.ref C3) (.ref C0)=aa ac) (ym0_4:W.kitOne K (.ref C4) (.ref C0)=aa ac) (ym0_5:W.kitOne K (.ref C5) (.ref C0)=aa ac) (ym0_6:W.kitOne K (.ref C6) (.ref C0)=aa ac) (w0_147:MtAt K C0 "word" "Step.word" (Z3 27 0)) (w0_148:MtAt K C0 "turned" "Step.turned" (Z3 27 1))
  (y1:ClsAt K "Sign" C1) (ym1_1:W.kitOne K (.ref C1) (.ref C1)=aa ac) (w1_170:MtAt K C1 "word" "Sign.word" (Z3 28 0)) (w1_171:MtAt K C1 "turned" "Sign.turned" (Z3 28 1))
  (y2:ClsAt K "More" C2) (ym2_2:W.kitOne K (.ref C2) (.ref C2)=aa ac) (w2_150:MtAt K C2 "word" "More.word" (Z3 29 0)) (w2_151:MtAt K C2 "turned" "More.turned" (Z3 29 1))
  (y3:ClsAt K "Turn" C3) (ym3_3:W.kitOne K (.ref C3) (.ref C3)=aa ac) (w3_158:MtAt K C3 "word" "Turn.word" (Z3 30 0)) (w3_159:MtAt K C3 "turned" "Turn.turned" (Z3 30 1))
  (y4:ClsAt K "Out" C4) (ym4_4:W.kitOne K (.ref C4) (.ref C4)=aa ac) (w4_153:MtAt K C4 "word" "Out.word" (Z3 31 0)) (w4_154:MtAt K C4 "turned" "Out.turned" (Z3 31 1))
  (y5:ClsAt K "Swap" C5) (ym5_5:W.kitOne K (.ref C5) (.ref C5)=aa ac) (w5_161:MtAt K C5 "word" "Swap.word" (Z3 32 0)) (w5_162:MtAt K C5 "turned" "Swap.turned" (Z3 32 1))
  (y6:ClsAt K "Far" C6) (ym6_6:W.kitOne K (.ref C6) (.ref C6)=aa ac) (w6_164:MtAt K C6 "word" "Far.word" (Z3 33 0)) (w6_165:MtAt K C6 "turned" "Far.turned" (Z3 33 1))
  (g7:W.nsIn K ax "OPERAND_PLACES"=aa (aa (.ref A7))) (d7:K.lookup A7=aa ob7) (f7c:ob7.cls=.type "dict") (f7d:ob7.dict=ab) (f7s:ob7.slots=#[]) (e7:ob7.data=.dict #[⟨bq Pm "put",.str "put" Y,.ref l⟩,⟨bq Pm "if",.str "if" V,.ref k⟩,⟨bq Pm "tell",.str "tell" U,.ref j⟩,⟨bq Pm "go",.str "go" R,.ref i⟩,⟨bq Pm "skip",.str "skip" Q,.ref g⟩] ep7) (s7:(A7==bm)=ae)
  (h7_0:K.lookup l=aa I) (i7_0:I.cls=.type "tuple") (j7_0:I.data=.seq #[.int (2) P,.int (4) O] bn7_0)
  (h7_1:K.lookup k=aa H) (i7_1:H.cls=.type "tuple") (j7_1:H.data=.seq #[.int (1) M,.int (3) L] bn7_1)
  (h7_2:K.lookup j=aa F) (i7_2:F.cls=.type "tuple") (j7_2:F.data=.seq #[.int (1) J] bn7_2)
  (h7_3:K.lookup i=aa E) (i7_3:E.cls=.type "tuple") (j7_3:E.data=.seq #[] bn7_3)
  (h7_4:K.lookup g=aa D) (i7_4:D.cls=.type "tuple") (j7_4:D.data=.seq #[] bn7_4)
  (a8:FnAt K "replaced" (top 6))
  (a9:FnAt K "operand_places" (top 7))
  (a10:FnAt K "bit_of" (top 8))
  (a11:FnAt K "all_bits" (top 9))
  (a12:FnAt K "has_bit" (top 10))
  (a13:FnAt K "without_bit" (top 11))
  (g14:W.nsIn K ax "LOWEST"=aa (aa (.int (-1000000000) t14)))
  (g15:W.nsIn K ax "HIGHEST"=aa (aa (.int (999999999) t15)))
  (g16:W.nsIn K ax "HALF"=aa (aa (.int (1000000000) t16)))
  (g17:W.nsIn K ax "RING"=aa (aa (.int (2000000000) t17)))
  (g18:W.nsIn K ax "PUT_SIGNS"=aa (aa (.ref A18))) (d18:K.lookup A18=aa ob18) (f18c:ob18.cls=.type "tuple") (f18d:ob18.dict=ab) (e18:ob18.data=.seq #[.str "+" t18_0,.str "-" t18_1,.str "*" t18_2,.str "/" t18_3,.str "mod" t18_4] on18)
  (g19:W.nsIn K ax "IF_SIGNS"=aa (aa (.ref A19))) (d19:K.lookup A19=aa ob19) (f19c:ob19.cls=.type "tuple") (f19d:ob19.dict=ab) (e19:ob19.data=.seq #[.str "<" t19_0,.str "<=" t19_1,.str "=" t19_2,.str ">=" t19_3,.str ">" t19_4,.str "!=" t19_5] on19)
  (a20:FnAt K "around" (top 19))
  (a21:FnAt K "divided" (top 20))
  (a22:FnAt K "left_over" (top 21))
  (a23:FnAt K "reckon" (top 22))
  (a24:FnAt K "is_so" (top 23))
  (g25:W.nsIn K ax "CONTRARIES"=aa (aa (.ref A25))) (d25:K.lookup A25=aa m) (f25c:m.cls=.type "dict") (f25d:m.dict=ab) (f25s:m.slots=#[]) (e25:m.data=.dict #[⟨bq Pm "<",.str "<" C,.str ">=" w⟩,⟨bq Pm ">=",.str ">=" B,.str "<" r⟩,⟨bq Pm "<=",.str "<=" A,.str ">" q⟩,⟨bq Pm ">",.str ">" z,.str "<=" p⟩,⟨bq Pm "=",.str "=" y,.str "!=" o⟩,⟨bq Pm "!=",.str "!=" x,.str "=" n⟩] ep25) (s25:(A25==bm)=ae)
  (a26:FnAt K "behind" (top 26))
  (a27:FnAt K "fakes" (top 35))
  (a28:FnAt K "fake_of" (top 36))
  (a29:FnAt K "worth" (top 38))
  (a30:FnAt K "began" (top 39))
  (a31:FnAt K "at_end" (top 40))
  (a32:FnAt K "values_behind" (top 41))
  (a33:FnAt K "place_behind" (top 42))
  (a34:FnAt K "moved" (top 43))
  (a35:FnAt K "is_outcome" (top 44))
  (a36:FnAtE K "trail" (top 45) 100)
  (a37:FnAtE K "outcome" (top 46) 100)
  (g38:W.nsIn K ax "MOST_TRIALS"=aa (aa (.int (10) t38)))
  (a39:FnAt K "check_trials" (top 49))
  (g40:W.nsIn K ax "WIDEST"=aa (aa (.int (64) t40)))
  (a41:FnAt K "width" (top 52))
  (a42:FnAt K "inputs_of" (top 53))
  (a43:FnAt K "is_wide" (top 54))
  (a44:FnAt K "box" (top 55))
  (a45:FnAt K "menu_numbers" (top 56))
  (a46:FnAt K "menu" (top 57))
  (a47:FnAt K "tried" (top 58))
  (g48:W.nsIn K ax "NOUGHT"=aa (aa (.ref A48))) (d48:K.lookup A48=aa ob48) (f48c:ob48.cls=.type "tuple") (e48:ob48.data=.seq #[.str ("number") t48_0,.int (0) t48_1] on48)
  (g49:W.nsIn K ax "ONE"=aa (aa (.ref A49))) (d49:K.lookup A49=aa ob49) (f49c:ob49.cls=.type "tuple") (e49:ob49.data=.seq #[.str ("number") t49_0,.int (1) t49_1] on49)
  (g50:W.nsIn K ax "SKIP"=aa (aa (.ref A50))) (d50:K.lookup A50=aa ob50) (f50c:ob50.cls=.type "tuple") (e50:ob50.data=.seq #[.str ("skip") t50_0] on50)
  (a51:FnAt K "are_numbers" (top 63))
  (a52:FnAt K "lesser_first" (top 64))
  (a53:FnAt K "less_as_more" (top 65))
  (a54:FnAt K "without_reckoning" (top 66))
  (a55:FnAt K "made_put" (top 67))
  (a56:FnAt K "greater_as_less" (top 68))
  (a57:FnAt K "is_settled" (top 69))
  (a58:FnAt K "settled" (top 70))
  (a59:FnAt K "most_as_less" (top 71))
  (a60:FnAt K "made_if" (top 72))
  (a61:FnAt K "made_row" (top 73))
  (a62:FnAt K "made" (top 74))
  (g63:W.nsIn K ax "END"=aa (aa (.ref A63))) (d63:K.lookup A63=aa Z) (f63c:Z.cls=.type "tuple") (e63:Z.data=.seq #[.str ("end") t63_0] on63)
  (a64:FnAt K "row_at" (top 77))
  (a65:FnAt K "ends_run" (top 78))
  (a66:FnAt K "reads_only" (top 79))
  (a67:FnAt K "end_alike" (top 80))
  (a68:FnAt K "choose_alike" (top 81))
  (a69:FnAt K "staying" (top 82))
  (a70:FnAt K "places_behind" (top 83))
  (a71:FnAt K "follow" (top 84))
  (a72:FnAt K "found_paper" (top 86))
  (a73:FnAtE K "parting" (top 88) 100)
  (a74:FnAtE K "tells" (top 89) 100)
  (a75:FnAtE K "sought" (top 91) 100)
  (a76:FnAt K "first_telling" (top 93))
  (a77:FnAt K "verdict" (top 94))
  (a78:FnAtE K "verdicts" (top 95) 100)
  (a79:FnAt K "_law_whole" (top 97))
  (a80:FnAt K "_law_cell_at" (top 98))
  (a81:FnAt K "_law_small_by" (top 99))
  (a82:FnAt K "_law_operand" (top 100))
  (a83:FnAt K "_law_row" (top 101))
  (a84:FnAt K "_law_stretch" (top 102))
  (a85:FnAt K "_law_program" (top 103))
  (a86:FnAt K "_law_trials" (top 104))
  (a87:FnAt K "_law_around" (top 106))
  (a88:FnAt K "_law_reckon" (top 107))
  (a89:FnAt K "_law_so" (top 108))
  (a90:FnAt K "_law_worth" (top 109))
  (a91:FnAt K "_law_next" (top 110))
  (a92:FnAt K "_law_trail" (top 111))
  (a93:FnAt K "_law_parted" (top 112))
  (a94:FnAt K "_law_wide" (top 113))
  (a95:FnAt K "_law_tried" (top 114))
  (a96:FnAt K "_law_due" (top 115))
  (a97:FnAt K "_law_same" (top 116))
  (a98:FnAt K "_law_other" (top 117))
  (a99:FnAt K "_law_counter" (top 118))
  (a100:FnAt K "law" (top 119))
  (z101:W.nsIn K ax "len"=aa ab)
  (z102:W.nsIn K ax "range"=aa ab)
  (z103:W.nsIn K ax "tuple"=aa ab)
  (z104:W.nsIn K ax "list"=aa ab)
  (z105:W.nsIn K ax "int"=aa ab)
  (z106:W.nsIn K ax "bool"=aa ab)
  (z107:W.nsIn K ax "str"=aa ab)
  (z108:W.nsIn K ax "min"=aa ab)
  (z109:W.nsIn K ax "max"=aa ab)
  (z110:W.nsIn K ax "isinstance"=aa ab)
  (z111:W.nsIn K ax "all"=aa ab)
  (z112:W.nsIn K ax "any"=aa ab)
  (z113:W.nsIn K ax "zip"=aa ab)
  (z114:W.nsIn K ax "sorted"=aa ab)
  (z115:W.nsIn K ax "enumerate"=aa ab)
  (z116:W.nsIn K ax "set"=aa ab) :
  Text Pm K mg G T/\∃ (fd:bf) (N:Li Str),(∀ (s:Sd) (u:vL),BindsTo s fd ⟨[u],[]⟩ [(S "_law_script",u)])/\DefOk K mg G T "law" 16 [] fa fd [S "_law_script"] N:=by
 exact⟨ZdZ (gC X a yz0 y0 (gS yz0 y0 ym0_0 (gS yz1 y1 ym0_1 (gS yz2 y2 ym0_2 (gS yz3 y3 ym0_3 (gS yz4 y4 ym0_4 (gS yz5 y5 ym0_5 (gS yz6 y6 ym0_6 trivial))))))) (gM w0_147 ZfF rfl (gM w0_148 ZfG rfl trivial)) (gC X a yz1 y1 (gS yz1 y1 ym1_1 trivial) (gM w1_170 ZfH rfl (gM w1_171 ZfI rfl trivial)) (gC X a yz2 y2 (gS yz2 y2 ym2_2 trivial) (gM w2_150 ZfJ rfl (gM w2_151 ZfK rfl trivial)) (gC X a yz3 y3 (gS yz3 y3 ym3_3 trivial) (gM w3_158 ZfL rfl (gM w3_159 ZfM rfl trivial)) (gC X a yz4 y4 (gS yz4 y4 ym4_4 trivial) (gM w4_153 ZfN rfl (gM w4_154 ZfO rfl trivial)) (gC X a yz5 y5 (gS yz5 y5 ym5_5 trivial) (gM w5_161 ZfP rfl (gM w5_162 ZfQ rfl trivial)) (gC X a yz6 y6 (gS yz6 y6 ym6_6 trivial) (gM w6_164 ZfR rfl (gM w6_165 ZfS rfl trivial)) (⟨⟨A7,ob7,#[⟨bq Pm "put",.str "put" Y,.ref l⟩,⟨bq Pm "if",.str "if" V,.ref k⟩,⟨bq Pm "tell",.str "tell" U,.ref j⟩,⟨bq Pm "go",.str "go" R,.ref i⟩,⟨bq Pm "skip",.str "skip" Q,.ref g⟩],ep7,W.mg_of X a g7,d7,⟨f7c,f7d,f7s⟩,e7,s7,(by decide),(show EsOk Pm K [⟨bq Pm "put",.str "put" Y,.ref l⟩,⟨bq Pm "if",.str "if" V,.ref k⟩,⟨bq Pm "tell",.str "tell" U,.ref j⟩,⟨bq Pm "go",.str "go" R,.ref i⟩,⟨bq Pm "skip",.str "skip" Q,.ref g⟩] _ _ from .cons (v:=.ref l) (t:=Y) rfl rfl (show RelV (.ref l) (.ref l) from rfl) (λ_ _=>.tup (xs:=[.int (2),.int (4)]) (.inr ⟨I,#[.int (2) P,.int (4) O],bn7_0,h7_0,i7_0,j7_0,(show(2:Nat)<=av by decide),.cons ⟨_,rfl⟩ (.cons ⟨_,rfl⟩ (.nil))⟩) (.cons (.int _) (.cons (.int _) (.nil)))) (.cons (v:=.ref k) (t:=V) rfl rfl (show RelV (.ref k) (.ref k) from rfl) (λ_ _=>.tup (xs:=[.int (1),.int (3)]) (.inr ⟨H,#[.int (1) M,.int (3) L],bn7_1,h7_1,i7_1,j7_1,(show(2:Nat)<=av by decide),.cons ⟨_,rfl⟩ (.cons ⟨_,rfl⟩ (.nil))⟩) (.cons (.int _) (.cons (.int _) (.nil)))) (.cons (v:=.ref j) (t:=U) rfl rfl (show RelV (.ref j) (.ref j) from rfl) (λ_ _=>.tup (xs:=[.int (1)]) (.inr ⟨F,#[.int (1) J],bn7_2,h7_2,i7_2,j7_2,(show(1:Nat)<=av by decide),.cons ⟨_,rfl⟩ (.nil)⟩) (.cons (.int _) (.nil))) (.cons (v:=.ref i) (t:=R) rfl rfl (show RelV (.ref i) (.ref i) from rfl) (λ_ _=>.tup (xs:=[]) (.inr ⟨E,#[],bn7_3,h7_3,i7_3,j7_3,(show(0:Nat)<=av by decide),.nil⟩) (.nil)) (.cons (v:=.ref g) (t:=Q) rfl rfl (show RelV (.ref g) (.ref g) from rfl) (λ_ _=>.tup (xs:=[]) (.inr ⟨D,#[],bn7_4,h7_4,i7_4,j7_4,(show(0:Nat)<=av by decide),.nil⟩) (.nil)) (.nil))))))⟩,gD X a a8 q_6 rfl (gD X a a9 q_7 rfl (gD X a a10 q_8 rfl (gD X a a11 q_9 rfl (gD X a a12 Zio rfl (gD X a a13 Zip rfl (gI X a g14 (gI X a g15 (gI X a g16 (gI X a g17 (⟨⟨.ref A18,.ref A18,W.mg_of X a g18,rfl,λ_ _=>.kt (its:=#[.str "+" t18_0,.str "-" t18_1,.str "*" t18_2,.str "/" t18_3,.str "mod" t18_4]) d18 f18c f18d e18 (show(5:Nat)<=av by decide) (.cons ⟨_,rfl⟩ (.cons ⟨_,rfl⟩ (.cons ⟨_,rfl⟩ (.cons ⟨_,rfl⟩ (.cons ⟨_,rfl⟩ (.nil))))))⟩,⟨⟨.ref A19,.ref A19,W.mg_of X a g19,rfl,λ_ _=>.kt (its:=#[.str "<" t19_0,.str "<=" t19_1,.str "=" t19_2,.str ">=" t19_3,.str ">" t19_4,.str "!=" t19_5]) d19 f19c f19d e19 (show(6:Nat)<=av by decide) (.cons ⟨_,rfl⟩ (.cons ⟨_,rfl⟩ (.cons ⟨_,rfl⟩ (.cons ⟨_,rfl⟩ (.cons ⟨_,rfl⟩ (.cons ⟨_,rfl⟩ (.nil)))))))⟩,gD X a a20 Ziq rfl (gD X a a21 Zir rfl (gD X a a22 Zis rfl (gD X a a23 Zit rfl (gD X a a24 Ziu rfl (⟨⟨A25,m,#[⟨bq Pm "<",.str "<" C,.str ">=" w⟩,⟨bq Pm ">=",.str ">=" B,.str "<" r⟩,⟨bq Pm "<=",.str "<=" A,.str ">" q⟩,⟨bq Pm ">",.str ">" z,.str "<=" p⟩,⟨bq Pm "=",.str "=" y,.str "!=" o⟩,⟨bq Pm "!=",.str "!=" x,.str "=" n⟩],ep25,W.mg_of X a g25,d25,⟨f25c,f25d,f25s⟩,e25,s25,(by decide),(show EsOk Pm K [⟨bq Pm "<",.str "<" C,.str ">=" w⟩,⟨bq Pm ">=",.str ">=" B,.str "<" r⟩,⟨bq Pm "<=",.str "<=" A,.str ">" q⟩,⟨bq Pm ">",.str ">" z,.str "<=" p⟩,⟨bq Pm "=",.str "=" y,.str "!=" o⟩,⟨bq Pm "!=",.str "!=" x,.str "=" n⟩] _ _ from .cons (v:=.str ">=") (t:=C) rfl rfl (show RelV (.str ">=") (.str ">=" w) from⟨_,rfl⟩) (λ_ _=>.str _) (.cons (v:=.str "<") (t:=B) rfl rfl (show RelV (.str "<") (.str "<" r) from⟨_,rfl⟩) (λ_ _=>.str _) (.cons (v:=.str ">") (t:=A) rfl rfl (show RelV (.str ">") (.str ">" q) from⟨_,rfl⟩) (λ_ _=>.str _) (.cons (v:=.str "<=") (t:=z) rfl rfl (show RelV (.str "<=") (.str "<=" p) from⟨_,rfl⟩) (λ_ _=>.str _) (.cons (v:=.str "!=") (t:=y) rfl rfl (show RelV (.str "!=") (.str "!=" o) from⟨_,rfl⟩) (λ_ _=>.str _) (.cons (v:=.str "=") (t:=x) rfl rfl (show RelV (.str "=") (.str "=" n) from⟨_,rfl⟩) (λ_ _=>.str _) (.nil)))))))⟩,gD X a a26 Ziv rfl (gD X a a27 Ziw rfl (gD X a a28 Zix rfl (gD X a a29 Ziy rfl (gD X a a30 Ziz rfl (gD X a a31 ZiA rfl (gD X a a32 ZiB rfl (gD X a a33 ZiC rfl (gD X a a34 ZiD rfl (gD X a a35 ZiE rfl (gE X a a36 ZiF rfl (λ_ _ _ _ _ _ _ _ _ _ d e=>⟨λs b f c=>by obtain⟨_,_,_,rfl⟩:=U2 (show b.length=3 by simpa using c);exact W.binds_K f rfl d e rfl rfl,λs b f c=>by obtain⟨_,_,rfl⟩:=Zbn (show b.length=2 by simpa using c);exact W.binds_K f rfl d e rfl rfl⟩) (gE X a a37 ZiG rfl (λ_ _ _ _ _ _ _ _ _ _ d e=>⟨λs b f c=>by obtain⟨_,_,_,rfl⟩:=U2 (show b.length=3 by simpa using c);exact W.binds_K f rfl d e rfl rfl,λs b f c=>by obtain⟨_,_,rfl⟩:=Zbn (show b.length=2 by simpa using c);exact W.binds_K f rfl d e rfl rfl⟩) (gI X a g38 (gD X a a39 ZiH rfl (gI X a g40 (gD X a a41 ZiI rfl (gD X a a42 ZiJ rfl (gD X a a43 ZiK rfl (gD X a a44 ZiL rfl (gD X a a45 ZiM rfl (gD X a a46 ZiN rfl (gD X a a47 ZiO rfl (⟨⟨.ref A48,.ref A48,W.mg_of X a g48,rfl,λ_ _=>.tup (xs:=[.str ("number"),.int (0)]) (.inr ⟨ob48,#[.str ("number") t48_0,.int (0) t48_1],on48,d48,f48c,e48,(show(2:Nat)<=av by decide),.cons ⟨_,rfl⟩ (.cons ⟨_,rfl⟩ (.nil))⟩) (.cons (.str _) (.cons (.int _) (.nil)))⟩,⟨⟨.ref A49,.ref A49,W.mg_of X a g49,rfl,λ_ _=>.tup (xs:=[.str ("number"),.int (1)]) (.inr ⟨ob49,#[.str ("number") t49_0,.int (1) t49_1],on49,d49,f49c,e49,(show(2:Nat)<=av by decide),.cons ⟨_,rfl⟩ (.cons ⟨_,rfl⟩ (.nil))⟩) (.cons (.str _) (.cons (.int _) (.nil)))⟩,⟨⟨.ref A50,.ref A50,W.mg_of X a g50,rfl,λ_ _=>.tup (xs:=[.str ("skip")]) (.inr ⟨ob50,#[.str ("skip") t50_0],on50,d50,f50c,e50,(show(1:Nat)<=av by decide),.cons ⟨_,rfl⟩ (.nil)⟩) (.cons (.str _) (.nil))⟩,gD X a a51 ZiP rfl (gD X a a52 ZiQ rfl (gD X a a53 ZiR rfl (gD X a a54 ZiS rfl (gD X a a55 ZiT rfl (gD X a a56 ZiU rfl (gD X a a57 ZiV rfl (gD X a a58 ZiW rfl (gD X a a59 ZiX rfl (gD X a a60 ZiY rfl (gD X a a61 ZiZ rfl (gD X a a62 Zi0 rfl (⟨⟨.ref A63,.ref A63,W.mg_of X a g63,rfl,λ_ _=>.tup (xs:=[.str ("end")]) (.inr ⟨Z,#[.str ("end") t63_0],on63,d63,f63c,e63,(show(1:Nat)<=av by decide),.cons ⟨_,rfl⟩ (.nil)⟩) (.cons (.str _) (.nil))⟩,gD X a a64 Zi1 rfl (gD X a a65 Zi2 rfl (gD X a a66 Zi3 rfl (gD X a a67 Zi4 rfl (gD X a a68 Zi5 rfl (gD X a a69 Zi6 rfl (gD X a a70 Zi7 rfl (gD X a a71 Zi8 rfl (gD X a a72 Zi9 rfl (gE X a a73 Zja rfl (λ_ _ _ _ _ _ _ _ _ _ d e=>⟨λs b f c=>by obtain⟨_,_,_,_,rfl⟩:=Zfp (show b.length=4 by simpa using c);exact W.binds_K f rfl d e rfl rfl,λs b f c=>by obtain⟨_,_,_,rfl⟩:=U2 (show b.length=3 by simpa using c);exact W.binds_K f rfl d e rfl rfl⟩) (gE X a a74 Zjb rfl (λ_ _ _ _ _ _ _ _ _ _ d e=>⟨λs b f c=>by obtain⟨_,_,_,_,rfl⟩:=Zfp (show b.length=4 by simpa using c);exact W.binds_K f rfl d e rfl rfl,λs b f c=>by obtain⟨_,_,_,rfl⟩:=U2 (show b.length=3 by simpa using c);exact W.binds_K f rfl d e rfl rfl⟩) (gE X a a75 Zjc rfl (λ_ _ _ _ _ _ _ _ _ _ d e=>⟨λs b f c=>by obtain⟨_,_,_,rfl⟩:=U2 (show b.length=3 by simpa using c);exact W.binds_K f rfl d e rfl rfl,λs b f c=>by obtain⟨_,_,rfl⟩:=Zbn (show b.length=2 by simpa using c);exact W.binds_K f rfl d e rfl rfl⟩) (gD X a a76 Zjd rfl (gD X a a77 Zje rfl (gE X a a78 Zjf rfl (λ_ _ _ _ _ _ _ _ _ _ d e=>⟨λs b f c=>by obtain⟨_,_,_,rfl⟩:=U2 (show b.length=3 by simpa using c);exact W.binds_K f rfl d e rfl rfl,λs b f c=>by obtain⟨_,_,rfl⟩:=Zbn (show b.length=2 by simpa using c);exact W.binds_K f rfl d e rfl rfl⟩) (gD X a a79 Zjg rfl (gD X a a80 Zjh rfl (gD X a a81 Zji rfl (gD X a a82 Zhe rfl (gD X a a83 Zhf rfl (gD X a a84 Zhg rfl (gD X a a85 Zhh rfl (gD X a a86 Zhi rfl (gD X a a87 Zhj rfl (gD X a a88 Zhk rfl (gD X a a89 Zhl rfl (gD X a a90 Zhm rfl (gD X a a91 Zhn rfl (gD X a a92 Zho rfl (gD X a a93 Zhp rfl (gD X a a94 Zhq rfl (gD X a a95 Zhr rfl (gD X a a96 Zhs rfl (gD X a a97 Zht rfl (gD X a a98 Zhu rfl (gD X a a99 Zhv rfl (gD X a a100 Zez rfl (gB X a z101 (gB X a z102 (gB X a z103 (gB X a z104 (gB X a z105 (gB X a z106 (gB X a z107 (gB X a z108 (gB X a z109 (gB X a z110 (gB X a z111 (gB X a z112 (gB X a z113 (gB X a z114 (gB X a z115 (gB X a z116 (trivial)))))))))))))))))))))))))))))))))))))))))))))))))))))⟩))))))))))))⟩⟩⟩))))))))))))))))))))))⟩)))))⟩⟩))))))))))⟩)))))))),gL X a hfa a100 Zez rfl λ_ _ _ _ _ _ _=>rfl⟩
def Zdq:∀ n,YQ G (run T n):=λ_=>ZcN
end
end Dp
open PySem PySem.W PyProof.Rows
set_option maxRecDepth 100000 in
set_option maxHeartbeats 0 in
theorem PySem.Challenge.cw_fakehunt_k64_found_or_table_holds : PySem.Challenge.rw_fakehunt_k64_found_or_table.Holds := by
 w_on;o_law;k_head;(case hw=>w_witness2)
 k_fill
 refine Dp.JU (l:=PySem.Challenge.rw_fakehunt_k64_found_or_table) (G:=Dp.G) (T:=Dp.T) (n:=12) (i:=16) (x := "_law_script") rfl rfl ⟨rfl,by decide,by decide⟩ (λw h Y=>PySem.W.kIn_of Y) Dp.Zdq ?F (λns hn=>Dp.JT 0 ns)
 case F=>
  intro w mg fa h KX G0 hmg;refine' ⟨Dp.tab [(146,?C0),(169,?C1),(149,?C2),(157,?C3),(152,?C4),(160,?C5),(163,?C6)],Dp.ZeW (ct:=Dp.tab [(146,?C0),(169,?C1),(149,?C2),(157,?C3),(152,?C4),(160,?C5),(163,?C6)]) (Pm:=w.params) (C0:=?C0) (C1:=?C1) (C2:=?C2) (C3:=?C3) (C4:=?C4) (C5:=?C5) (C6:=?C6) KX G0 hmg ?z0 ?z1 ?z2 ?z3 ?z4 ?z5 ?z6 ⟨?_,?_,?_,?_,?_,?_,?_,?_,?_,?_,?_,?_⟩ ?_ ?_ ?_ ?_ ?_ ?_ ?_ (.mk ?_ ?_ ?_ ?_ ?_) (.mk ?_ ?_ ?_ ?_ ?_) ⟨?_,?_,?_,?_,?_,?_,?_,?_,?_,?_,?_,?_⟩ ?_ (.mk ?_ ?_ ?_ ?_ ?_) (.mk ?_ ?_ ?_ ?_ ?_) ⟨?_,?_,?_,?_,?_,?_,?_,?_,?_,?_,?_,?_⟩ ?_ (.mk ?_ ?_ ?_ ?_ ?_) (.mk ?_ ?_ ?_ ?_ ?_) ⟨?_,?_,?_,?_,?_,?_,?_,?_,?_,?_,?_,?_⟩ ?_ (.mk ?_ ?_ ?_ ?_ ?_) (.mk ?_ ?_ ?_ ?_ ?_) ⟨?_,?_,?_,?_,?_,?_,?_,?_,?_,?_,?_,?_⟩ ?_ (.mk ?_ ?_ ?_ ?_ ?_) (.mk ?_ ?_ ?_ ?_ ?_) ⟨?_,?_,?_,?_,?_,?_,?_,?_,?_,?_,?_,?_⟩ ?_ (.mk ?_ ?_ ?_ ?_ ?_) (.mk ?_ ?_ ?_ ?_ ?_) ⟨?_,?_,?_,?_,?_,?_,?_,?_,?_,?_,?_,?_⟩ ?_ (.mk ?_ ?_ ?_ ?_ ?_) (.mk ?_ ?_ ?_ ?_ ?_) ?_ ?_ ?_ ?_ ?_ ?_ ?_ ?_ ?_ ?_ ?_ ?_ ?_ ?_ ?_ ?_ ?_ ?_ ?_ ?_ ?_ ?_ (.mk ?_ ?_ ?_ ?_) (.mk ?_ ?_ ?_ ?_) (.mk ?_ ?_ ?_ ?_) (.mk ?_ ?_ ?_ ?_) (.mk ?_ ?_ ?_ ?_) (.mk ?_ ?_ ?_ ?_) ?_ ?_ ?_ ?_ ?_ ?_ ?_ ?_ ?_ ?_ ?_ ?_ ?_ ?_ (.mk ?_ ?_ ?_ ?_) (.mk ?_ ?_ ?_ ?_) (.mk ?_ ?_ ?_ ?_) (.mk ?_ ?_ ?_ ?_) (.mk ?_ ?_ ?_ ?_) ?_ ?_ ?_ ?_ ?_ ?_ ?_ (.mk ?_ ?_ ?_ ?_) (.mk ?_ ?_ ?_ ?_) (.mk ?_ ?_ ?_ ?_) (.mk ?_ ?_ ?_ ?_) (.mk ?_ ?_ ?_ ?_) (.mk ?_ ?_ ?_ ?_) (.mk ?_ ?_ ?_ ?_) (.mk ?_ ?_ ?_ ?_) (.mk ?_ ?_ ?_ ?_) (.mk ?_ ?_ ?_ ?_) (.mk ?_ ?_ ?_ ?_ ?_ ?_) (.mk ?_ ?_ ?_ ?_ ?_ ?_) ?_ (.mk ?_ ?_ ?_ ?_) ?_ (.mk ?_ ?_ ?_ ?_) (.mk ?_ ?_ ?_ ?_) (.mk ?_ ?_ ?_ ?_) (.mk ?_ ?_ ?_ ?_) (.mk ?_ ?_ ?_ ?_) (.mk ?_ ?_ ?_ ?_) (.mk ?_ ?_ ?_ ?_) ?_ ?_ ?_ ?_ ?_ ?_ ?_ ?_ ?_ ?_ ?_ ?_ (.mk ?_ ?_ ?_ ?_) (.mk ?_ ?_ ?_ ?_) (.mk ?_ ?_ ?_ ?_) (.mk ?_ ?_ ?_ ?_) (.mk ?_ ?_ ?_ ?_) (.mk ?_ ?_ ?_ ?_) (.mk ?_ ?_ ?_ ?_) (.mk ?_ ?_ ?_ ?_) (.mk ?_ ?_ ?_ ?_) (.mk ?_ ?_ ?_ ?_) (.mk ?_ ?_ ?_ ?_) (.mk ?_ ?_ ?_ ?_) ?_ ?_ ?_ ?_ (.mk ?_ ?_ ?_ ?_) (.mk ?_ ?_ ?_ ?_) (.mk ?_ ?_ ?_ ?_) (.mk ?_ ?_ ?_ ?_) (.mk ?_ ?_ ?_ ?_) (.mk ?_ ?_ ?_ ?_) (.mk ?_ ?_ ?_ ?_) (.mk ?_ ?_ ?_ ?_) (.mk ?_ ?_ ?_ ?_) (.mk ?_ ?_ ?_ ?_ ?_ ?_) (.mk ?_ ?_ ?_ ?_ ?_ ?_) (.mk ?_ ?_ ?_ ?_ ?_ ?_) (.mk ?_ ?_ ?_ ?_) (.mk ?_ ?_ ?_ ?_) (.mk ?_ ?_ ?_ ?_ ?_ ?_) (.mk ?_ ?_ ?_ ?_) (.mk ?_ ?_ ?_ ?_) (.mk ?_ ?_ ?_ ?_) (.mk ?_ ?_ ?_ ?_) (.mk ?_ ?_ ?_ ?_) (.mk ?_ ?_ ?_ ?_) (.mk ?_ ?_ ?_ ?_) (.mk ?_ ?_ ?_ ?_) (.mk ?_ ?_ ?_ ?_) (.mk ?_ ?_ ?_ ?_) (.mk ?_ ?_ ?_ ?_) (.mk ?_ ?_ ?_ ?_) (.mk ?_ ?_ ?_ ?_) (.mk ?_ ?_ ?_ ?_) (.mk ?_ ?_ ?_ ?_) (.mk ?_ ?_ ?_ ?_) (.mk ?_ ?_ ?_ ?_) (.mk ?_ ?_ ?_ ?_) (.mk ?_ ?_ ?_ ?_) (.mk ?_ ?_ ?_ ?_) (.mk ?_ ?_ ?_ ?_) (.mk ?_ ?_ ?_ ?_) ?_ ?_ ?_ ?_ ?_ ?_ ?_ ?_ ?_ ?_ ?_ ?_ ?_ ?_ ?_ ?_⟩
  all_goals (first|k_is|exact rfl|skip)
  all_goals (first|k_is|exact rfl|skip)

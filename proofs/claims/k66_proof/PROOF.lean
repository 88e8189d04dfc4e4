import PyProof.Rows.All
import Wide.All
import OpenK.AllK
import PySem.Challenge.RW_fakehunt_k66_trials_more
set_option Elab.async false
set_option linter.all false
set_option maxRecDepth 100000
set_option maxHeartbeats 4000000
set_option genSizeOf false
set_option genInjectivity false
set_option compiler.extract_closed false
set_option bootstrap.genMatcherCode false
def fD:=@Nat.le_refl
open PySem renaming sizeLine → ax,Expr → ay,mainGlobals → az,wpAny → a0,model → a6,Program → a7,starEach → bc,bootBuiltins → bf,Scope → bg,FuncData → bh,Heap → bj,World → bm,compareOp → bo,sysModules → bp,Around → bq,binaryOp → br
open PySem.PyData renaming keyHash → bt
open PySem.Value renaming ref → bu,none → bv
open Sum renaming inr → eL,inl → eN
open Option renaming some → aa,none → ab
open Bool renaming true → ac,false → ae
open List renaming replicate → af,range → ag
open Decidable renaming decide → aj
def ak:=@of_decide_eq_false
def am:=@of_decide_eq_true
def ao:=@if_pos
def aq:=@if_neg
def ar:=@absurd
def au:=@congrArg
def av:=@Option.some.inj
def aw:=@Eq.symm
def fH{p q:Prop}{_:Decidable p}{_:Decidable q}(h:p<->q):decide p=decide q:=decide_eq_decide.2 h
noncomputable section
def aB:=@List.length_map
def aD:=@Nat.le_refl
def aF:=@List.mem_cons
def aG:=@decide_eq_false
def aH:=@List.length_append
def aI:=@List.size_toArray
def aK:=@decide_eq_true
def aM:=@Nat.le_trans
def aO:=@List.length_cons
def aP:=@List.mem_singleton
def aQ:=@List.map_cons
def aR:=@List.mem_map
def aS:=@Nat.zero_le
def aT:=@List.getElem?_map
def aU:=@Nat.lt_of_lt_of_le
def aV:=@List.getD_eq_getElem?_getD
def aW:=@List.not_mem_nil
def aY:=@List.mem_of_getElem?
def aZ:=@Nat.ne_of_lt
def bA:=@List.mem_append
def bB:=@List.append_nil
def bC:=@decide_eq_true_eq
def bD:=@Int.toNat_natCast
def bE:=@Int.natCast_add
def bF:=@List.append_assoc
def bG:=@List.all_cons
def bJ:=@List.length_set
def bK:=@Nat.zero_add
def bL:=@List.getElem?_eq_some_iff
def bM:=@List.length_range
def bN:=@List.map_map
def bO:=@List.mem_append_right
def bP:=@List.map_append
def bQ:=@List.nodup_cons
def bR:=@List.drop_eq_getElem_cons
def bS:=@Int.toNat_of_nonneg
def bT:=@List.getElem?_set_self
def bU:=@List.getElem?_set_ne
def bV:=@List.length_replicate
def bX:=@List.drop_zero
def bY:=@List.flatMap_cons
def bZ:=@Nat.lt_irrefl
def cA:=@List.mem_range
def cB:=@Bool.or_eq_true
def cC:=@Bool.eq_iff_iff
def cD:=@List.getElem?_append_left
def cF:=@List.length_drop
def cG:=@List.any_cons
def cH:=@List.lookup_cons
def cI:=@List.length_take
def cJ:=@List.getElem?_append_right
def cK:=@List.replicate_succ
def cL:=@List.find?_cons
def cM:=@List.getElem_mem
def cN:=@Array.length_toList
def cP:=@Nat.le_of_eq
def cQ:=@Bool.or_false
def cR:=@List.cons_ne_nil
def cT:=@List.all_eq_true
def cU:=@beq_eq_false_iff_ne
def cV:=@List.length_nil
def cX:=@Nat.one_mul
def cY:=@List.map_flatMap
def cZ:=@Nat.mod_two_eq_zero_or_one
def dA:=@Nat.testBit_and
def dB:=@Nat.le_of_lt
def dC:=@List.mem_append_left
def dD:=@List.flatten_cons
def dE:=@List.nil_append
def dF:=@List.getElem?_eq_none
def dG:=@List.forIn_cons
def dH:=@List.drop_of_length_le
def dI:=@List.any_eq_true
def dJ:=@Option.bind_eq_some_iff
def dL:=@Bool.true_and
def dM:=@List.length_pos_iff
def dN:=@List.mem_flatMap
def dO:=@Nat.testBit_two_pow
def dP:=@Nat.mul_le_mul
def dQ:=@Nat.lt_succ_self
def dR:=@Int.ediv_one
def dS:=@List.map_nil
def dU:=@Option.map_eq_some_iff
def dW:=@Bool.false_eq_true
def dX:=@Bool.and_true
def dY:=@Nat.sub_zero
def dZ:=@List.getElem?_toArray
def eA:=@Nat.le_add_right
def eB:=@List.map_replicate
def eC:=@List.map_set
def eD:=@Int.natCast_mul
def eE:=@List.mem_filter
def eG:=@List.of_mem_zip
def eH:=@Nat.le_of_not_lt
def eI:=@Bool.and_eq_true_iff
def eJ:=@List.length_eq_zero_iff
def eK:=@Bool.not_eq_true'
def eM:=@List.range_eq_range'
def eO:=@List.range'_succ
def eP:=@List.getElem?_eq_none_iff
def eQ:=@List.take_of_length_le
def eR:=@Nat.eq_of_testBit_eq
def eS:=@Nat.zero_testBit
def eT:=@Int.natCast_nonneg
def eU:=@List.getElem?_replicate
def eV:=@List.length_singleton
def eW:=@Array.getElem?_toList
def eX:=@Array.getElem?_eq_getElem
def eY:=@List.mem_or_eq_of_mem_set
def eZ:=@List.mem_of_find?_eq_some
section
open PySem PySem.Spec PyProof.Rows
def aA:=@wpAny_bind
def aE:=@wpAny_pure
def aJ:=@Heap.lt_size
def aL:=@Heap.get?_push_of_some
def aX:=@Heap.get?_push_size
def bH:=@wpAny_mono
end
abbrev Li.{u}(α:Type u):Type u:=List α
abbrev Ot.{u}(α:Type u):Type u:=Option α
abbrev vL:=PySem.Value
abbrev Ad:=PySem.Addr
abbrev Sd:=PySem.Shared
def Ob{α β:Type}{a:α}{f:α->Ot β}:(aa a).bind f=f a:=rfl
abbrev Fg:=PySem.W.Frag
def Ba(a b:Bool):((a&&b)=ac)=(a=ac/\b=ac):=Bool.and_eq_true a b
def Lg{α:Type _}{l:Li α}{i:Nat}(h:i<l.length):l[i]?=aa l[i]:=List.getElem?_eq_getElem h
def Lm{α:Type _}(y:α){a:α}{l:Li α}(h:a∈l):a∈y::l:=List.mem_cons_of_mem y h
def Ls{α:Type _}{a:α}{l:Li α}:a∈a::l:=List.mem_cons_self
def Bf:¬ae=ac:=Bool.false_ne_true
namespace L2
open PySem PySem.Spec PyProof.Rows
abbrev Key:=Sum Int Str
noncomputable def keyIs:Key->vL->Bool
  |.inl k,v=>Value.isInt k v
  |.inr x,v=>Value.isStrOf x v
noncomputable def keyH(w:bm):Key->Int
  |.inl k=>hashInt k
  |.inr x=>hashStr w x
def keyIs_shape:∀ {k:Key}{v:vL},keyIs k v=ac->(∃ i t,k=eN i/\v=Value.int i t)\/(∃ x t,k=eL x/\v=Value.str x t)
  |.inl i,v,h=>by
    obtain⟨t,e⟩:=Value.isInt_shape (k:=i) (v:=v) h;exact .inl ⟨i,t,rfl,e⟩
  |.inr x,v,h=>by
    obtain⟨t,e⟩:=Value.isStrOf_shape (x:=x) (v:=v) h;exact .inr ⟨x,t,rfl,e⟩
def keyIs_int(i:Int)(t:Tok):keyIs (.inl i) (.int i t)=ac:=by simp[keyIs,Value.isInt]
def keyIs_str(x:Str)(t:Tok):keyIs (.inr x) (.str x t)=ac:=by simp[keyIs,Value.isStrOf]
def key_ll(a b:Int):aj ((eN a:Key)=eN b)=(a==b):=by
  by_cases e:a=b
  . subst e;simp
  . have h:¬(eN a:Key)=eN b:=λq=>e (eN.inj q)
    rw[aG h];exact(cU.mpr e).symm
def key_rr(a b:Str):aj ((eL a:Key)=eL b)=aj (a=b):=by
  by_cases e:a=b
  . subst e;simp
  . have h:¬(eL a:Key)=eL b:=λq=>e (eL.inj q)
    rw[aG h,aG e]
def key_lr(a:Int)(b:Str):aj ((eN a:Key)=eL b)=ae:=aG (λq=>nomatch q)
def key_rl(a:Str)(b:Int):aj ((eL a:Key)=eN b)=ae:=aG (λq=>nomatch q)
def mixKind(prog:a7)(w:bm):PySem.KeyKind prog w Key where
  is:=keyIs
  hash:=keyH w
  inj:=λv a b l f=>by
    rcases keyIs_shape l with⟨i,t,rfl,rfl⟩|⟨x,t,rfl,rfl⟩
    . rcases keyIs_shape f with⟨j,u,rfl,e⟩|⟨y,u,rfl,e⟩
      . injection e with c _;rw[c]
      . exact nomatch e
    . rcases keyIs_shape f with⟨j,u,rfl,e⟩|⟨y,u,rfl,e⟩
      . exact nomatch e
      . injection e with c _;rw[c]
  byValue:=λk v h=>by
    rcases keyIs_shape h with⟨i,t,rfl,rfl⟩|⟨x,t,rfl,rfl⟩<;>rfl
  pyHash:=λd h=>by
    rcases keyIs_shape d with⟨i,t,rfl,rfl⟩|⟨x,t,rfl,rfl⟩
    . exact wpAny_pyHash_int h
    . exact wpAny_pyHash_str h
  eqBool:=λg d h=>by
    rcases keyIs_shape g with⟨i,t,rfl,rfl⟩|⟨x,t,rfl,rfl⟩
    . rcases keyIs_shape d with⟨j,u,rfl,rfl⟩|⟨y,u,rfl,rfl⟩
      . rw[key_ll]at h;exact wpAny_eqBool_int h
      . rw[key_lr]at h;exact SeqAt.EqAt.int_str i t y u _ _ _ _ h
    . rcases keyIs_shape d with⟨j,u,rfl,rfl⟩|⟨y,u,rfl,rfl⟩
      . rw[key_rl]at h;exact SeqAt.EqAt.str_int x t j u _ _ _ _ h
      . rw[key_rr]at h;exact wpAny_eqBool_str h
  «strs»:=λk x t v h=>by
    rcases keyIs_shape h with⟨i,u,rfl,e⟩|⟨y,u,rfl,e⟩
    . exact nomatch e
    . injection e with c _
      subst c;cases v<;>rfl
def mixKind_int(prog:a7)(w:bm)(i:Int)(t:Tok):(mixKind prog w).is (.inl i) (.int i t)=ac:=keyIs_int i t
def mixKind_str(prog:a7)(w:bm)(x:Str)(t:Tok):(mixKind prog w).is (.inr x) (.str x t)=ac:=keyIs_str x t
set_option genInjectivity true in
inductive V where
  |non|bl (b:Bool)|int (i:Int)|str (x:Str)|byt (b:Array UInt8)|flt (b:UInt64)|ref (a:Addr)|ty (n:String)
  deriving DecidableEq
def RelV:V->vL->Prop
  |.non,u=>u=bv
  |.bl b,u=>u=Value.bool b
  |.int i,u=>∃ t,u=Value.int i t
  |.str x,u=>∃ t,u=Value.str x t
  |.byt b,u=>∃ t,u=Value.bytes b t
  |.flt b,u=>∃ t,u=Value.float b t
  |.ref a,u=>u=bu a
  |.ty n,u=>u=Value.type n
abbrev Vals:Li V->Li vL->Prop:=Paired RelV
variable{xs:Li V}{us:Li vL}
theorem Vals.length(r:Vals xs us):xs.length=us.length:=Paired.length r
theorem Vals.get:∀ {xs:Li V}{us:Li vL}{i:Nat}{x:V},Vals xs us->xs[i]?=aa x->∃ u,us[i]?=aa u/\RelV x u
  |_,_,_,_,.nil,e=>by simp at e
  |_,_,0,_,.cons r _,e=>by simp at e;subst e;exact⟨_,rfl,r⟩
  |_,_,i+1,x,.cons _ t,e=>by
    obtain⟨u,b,a⟩:=Vals.get (i:=i) (x:=x) t (by simpa using e)
    exact⟨u,by simpa using b,a⟩
theorem Vals.set{x:V}{u:vL}(r:RelV x u):∀ {xs:Li V}{us:Li vL} (i:Nat),Vals xs us->Vals (xs.set i x) (us.set i u)
  |_,_,_,.nil=>.nil
  |_,_,0,.cons _ t=>.cons r t
  |_,_,i+1,.cons q t=>.cons q (Vals.set r i t)
theorem Vals.append:∀ {xs ys:Li V}{us ws:Li vL},Vals xs us->Vals ys ws->Vals (xs++ys) (us++ws)
  |_,_,_,_,.nil,s=>s
  |_,_,_,_,.cons r t,s=>.cons r (Vals.append t s)
theorem Vals.take:∀ {xs:Li V}{us:Li vL} (n:Nat),Vals xs us->Vals (xs.take n) (us.take n)
  |_,_,0,_=>.nil
  |_,_,_+1,.nil=>.nil
  |_,_,n+1,.cons r t=>.cons r (Vals.take n t)
theorem Vals.drop:∀ {xs:Li V}{us:Li vL} (n:Nat),Vals xs us->Vals (xs.drop n) (us.drop n)
  |_,_,0,r=>r
  |_,_,_+1,.nil=>.nil
  |_,_,n+1,.cons _ t=>Vals.drop n t
def RelO:Ot V->Ot vL->Prop
  |some v,aa u=>RelV v u
  |none,ab=>True
  |_,_=>False
def KV{a:Type}:Li (a×V)->Li (a×vL)->Prop:=Paired λ(p:a×V) (q:a×vL)=>p.1=q.1/\RelV p.2 q.2
noncomputable def kV:Key->V
  |.inl i=>.int i
  |.inr x=>.str x
inductive HO where
    |lst (xs:List V)
    |tup (xs:List V)
    |dK (kvs:List (Key×V))|dT (kvs:List (List Key×V))
    |set (S:Int->Bool) (n:Nat)
    |ins (C dx:Addr) (fs:List (Str×V))
    |own (x:Addr)
    |xd (fs:List (Str×V))
    |met (f x:Addr)
    |rng (lo hi:Int)
    |frz (o:Obj) (u:HO)
    |tbl (ps:Array Value)
    |ext (φ:bj->Prop)
abbrev Hp:=Ad->Ot HO
noncomputable def upd(H:Hp)(a:Ad)(o:HO):Hp:=λb=>if b=a then aa o else H b
variable{H:Hp}
def upd_same{a:Ad}{o:HO}:upd H a o a=aa o:=by unfold upd;rw[ao rfl]
def upd_ne{a b:Ad}{o:HO}(h:b≠a):upd H a o b=H b:=by unfold upd;rw[aq h]
def ne_of{a b:Ad}{o u:HO}(h:H a=aa o)(c:H b=aa u)(d:o≠u):a≠b:=by
  intro e;subst e;rw[h]at c;exact d (av c)
def ne_of_none{a b:Ad}{o:HO}(h:H a=aa o)(c:H b=ab):a≠b:=by
  intro e;subst e;rw[h]at c;cases c
section
variable (P:a7) (w:bm)
def ObjOk(H:Hp)(h:bj)(a:Ad):HO->Prop
  |.lst xs=>xs.length<=ax/\∃ (c:Li vL) (n:Nat),Vals xs c/\h.get? a=aa { cls:=.type "list",data:=.seq c.toArray n }
  |.tup xs=>xs.length<=ax/\∃ c:Li vL,Vals xs c/\IsTup h a c.toArray
  |.dK b=>b.length<=ax/\(a==bp)=ae/\∃ i,KV b i/\h.DictOf (mixKind P w) a i
  |.dT b=>b.length<=ax/\(a==bp)=ae/\∃ xs:Li (Li Key×Ad×vL),
      Paired (λ(p:Li Key×V) (q:Li Key×Ad×vL)=>p.1=q.1/\H q.2.1=aa (.tup (p.1.map kV))/\RelV p.2 q.2.2) b xs /\
      ∃ o l y,h.get? a=aa o/\o.ExactDict/\o.data=.dict l y/\l.toList=xs.map (entryOfKey (tupleKind (mixKind P w)))/\(xs.map (·.1)).Nodup
  |.set S n=>h.SetOf (intKind P w) a S n
  |.ins C e fs=>H e=aa (.own a)/\fs.length<=1000/\e≠a/\h.get? a=aa (W.instObj C e) /\
      ∃ d,h.Ns1 e d/\(∀ f,RelO (fs.lookup f) (d f))/\PySem.Within d (fs.map (·.1))
  |.own _=>∃ o,h.get? a=aa o
  |.xd fs=>∃ d,h.Ns1 a d/\∀ f,RelO (fs.lookup f) (d f)
  |.rng r s=>∃ t u v,h.get? a=aa { cls:=.type "range",data:=.fields #[.int r t,.int s u,.int 1 v] }
  |.frz o u=>h.get? a=aa o/\ObjOk H h a u
  |.tbl m=>h.get? a=aa { cls:=.none,data:=.fields m }
  |.met f x=>h.get? a=aa (W.methodObj (.ref f) (.ref x))
  |.ext g=>g h/\(∃ o,h.get? a=aa o)/\∀ k j:bj,g k->(∀ o,k.get? a=aa o->j.get? a=aa o)->g j
def HOk(H:Hp)(h:bj):Prop:=∀ a o,H a=aa o->ObjOk P w H h a o
end
variable{P:a7}{w:bm}{H H':Hp}{h h':bj}{a:Ad}
section
variable{o:HO}
theorem ObjOk.lt(x:ObjOk P w H h a o):a < h.objs.size:=by
  cases o with
  |lst xs=>obtain⟨_,_,_,_,e⟩:=x;exact aJ e
  |tup xs=>obtain⟨_,_,_,p⟩:=x;exact p.lt
  |dK b=>obtain⟨_,_,_,_,o,_,_,e,_⟩:=x;exact aJ e
  |dT b=>obtain⟨_,_,_,_,o,_,_,e,_⟩:=x;exact aJ e
  |set S n=>obtain⟨o,_,_,_,e,_⟩:=x;exact aJ e
  |ins C k fs=>obtain⟨_,_,_,e,_⟩:=x;exact aJ e
  |own y=>obtain⟨_,e⟩:=x;exact aJ e
  |xd fs=>obtain⟨_,⟨_,_,_,e,_⟩,_⟩:=x;exact aJ e
  |rng i j=>obtain⟨_,_,_,e⟩:=x;exact aJ e
  |frz g u=>obtain⟨e,_⟩:=x;exact aJ e
  |tbl d=>exact aJ (show h.get? a=aa _ from x)
  |met f y=>exact aJ (show h.get? a=aa _ from x)
  |ext c=>obtain⟨_,⟨_,e⟩,_⟩:=x;exact aJ e
theorem Paired.mapP{d c:Type}{F G:d->c->Prop}:∀ {l₁:Li d}{l₂:Li c},Paired F l₁ l₂->(∀ a b,F a b->G a b)->Paired G l₁ l₂
  |_,_,.nil,_=>.nil
  |_,_,.cons r t,f=>.cons (f _ _ r) (Paired.mapP t f)
def ObjOk.stay(x:ObjOk P w H h a o)(k:∀ b u,(b=a\/H b=aa (.own a))->h.get? b=aa u->h'.get? b=aa u)(J:∀ b,H b=aa (.own a)->H' b=aa (.own a))(I:∀ b xs,H b=aa (.tup xs)->H' b=aa (.tup xs)):ObjOk P w H' h' a o:=by
  induction o with
  |lst xs=>obtain⟨z,l,n,r,e⟩:=x;exact⟨z,l,n,r,k _ _ (.inl rfl) e⟩
  |tup xs=>obtain⟨z,l,r,g,e,c⟩:=x;exact⟨z,l,r,g,k _ _ (.inl rfl) e,c⟩
  |dK A=>obtain⟨z,y,E,r,g,i,j,e,c⟩:=x;exact⟨z,y,E,r,g,i,j,k _ _ (.inl rfl) e,c⟩
  |dT A=>
    obtain⟨z,y,xs,r,g,i,j,e,c⟩:=x;exact⟨z,y,xs,Paired.mapP r λp q z=>⟨z.1,I _ _ z.2.1,z.2.2⟩,g,i,j,k _ _ (.inl rfl) e,c⟩
  |set S n=>obtain⟨g,i,j,t,e,c⟩:=x;exact⟨g,i,j,t,k _ _ (.inl rfl) e,c⟩
  |ins C O fs=>
    obtain⟨d,z,F,e,s,⟨m,i,j,K,c⟩,r⟩:=x;exact⟨J _ d,z,F,k _ _ (.inl rfl) e,s,⟨m,i,j,k _ _ (.inr d) K,c⟩,r⟩
  |own y=>obtain⟨g,e⟩:=x;exact⟨g,k _ _ (.inl rfl) e⟩
  |xd fs=>obtain⟨s,⟨m,i,j,e,c⟩,r⟩:=x;exact⟨s,⟨m,i,j,k _ _ (.inl rfl) e,c⟩,r⟩
  |rng M N=>obtain⟨t,u,v,e⟩:=x;exact⟨t,u,v,k _ _ (.inl rfl) e⟩
  |frz g u G=>obtain⟨e,q⟩:=x;exact⟨k _ _ (.inl rfl) e,G q⟩
  |tbl D=>
    have e:h.get? a=aa { cls:=.none,data:=.fields D }:=x;show h'.get? a=aa { cls:=.none,data:=.fields D };exact k a _ (.inl rfl) e
  |met f y=>
    have e:h.get? a=aa (W.methodObj (.ref f) (.ref y)):=x;show h'.get? a=aa (W.methodObj (.ref f) (.ref y));exact k a _ (.inl rfl) e
  |ext L=>obtain⟨p,⟨o,e⟩,B⟩:=x;exact⟨B _ _ p λo q=>k _ _ (.inl rfl) q,⟨o,k _ _ (.inl rfl) e⟩,B⟩
theorem HOk.lt(x:HOk P w H h)(e:H a=aa o):a < h.objs.size:=(x a o e).lt
def HOk.fresh(x:HOk P w H h)(e:h.objs.size<=a):H a=ab:=by
  cases q:H a with
  |none=>rfl
  |some u=>exact ar (aU (x.lt q) e) (bZ _)
def HOk.kept(x:HOk P w H h)(k:∀ b u,h.get? b=aa u->h'.get? b=aa u):HOk P w H h':=λa o e=>
  (x a o e).stay (λb u _ q=>k b u q) (λ_ q=>q) λ_ _ q=>q
def HOk.laid(x:HOk P w H h)(k:∀ b u,h.get? b=aa u->h'.get? b=aa u)(g:h.objs.size<=a)(new:ObjOk P w (upd H a o) h' a o):HOk P w (upd H a o) h':=λb u e=>by
  have d:=x.fresh g;by_cases f:b=a
  . subst f;rw[upd_same]at e;cases e;exact new
  . rw[upd_ne f]at e
    exact(x b u e).stay (λc v _ q=>k c v q) (λc q=>by rw[upd_ne (ne_of_none q d)];exact q) λc xs q=>by rw[upd_ne (ne_of_none q d)];exact q
end
def Rd(H:Hp)(a:Ad)(u:HO):Prop:=H a=aa u\/∃ o,H a=aa (.frz o u)
variable{w:bm}{h:bj}
def Rd.ok{P:a7}{a:Ad}{u:HO}(r:Rd H a u)(x:HOk P w H h):ObjOk P w H h a u:=by
  rcases r with r|⟨o,r⟩
  . exact x a u r
  . obtain⟨_,q⟩:=x a _ r
    exact q
def Mut:Ot HO->Prop
  |some (.lst _)=>True
  |some (.dK _)=>True
  |some (.dT _)=>True
  |some (.set _ _)=>True
  |some (.ins _ _ _)=>True
  |some (.ext _)=>True
  |_=>False
variable{x:Ad}
section
variable{e:Ad}{o':HO}
def HOk.write(ok:HOk P w H h)(mu:Mut (H x))(l:e=x\/H e=aa (.own x))(k:∀ b u,b≠e->h.get? b=aa u->h'.get? b=aa u)(i:∃ u,h'.get? e=aa u)(new:ObjOk P w (upd H x o') h' x o'):HOk P w (upd H x o') h':=λb u q=>by
  have d:∀ c y,H c=aa (.own y)->c≠x:=λc y r z=>by subst z;rw[r]at mu;exact mu
  have f:∀ c xs,H c=aa (.tup xs)->c≠x:=λc xs r z=>by subst z;rw[r]at mu;exact mu
  by_cases g:b=x
  . subst g;rw[upd_same]at q;cases q;exact new
  . rw[upd_ne g]at q
    by_cases a:b=e
    . have j:H b=aa (.own x):=by
        rcases l with z|z
        . exact ar (a.trans z) g
        . rw[a];exact z
      rw[q]at j;cases j
      obtain⟨v,m⟩:=i;exact⟨v,by rw[a];exact m⟩
    . refine(ok b u q).stay (λc v hc r=>k c v ?_ r) (λc r=>by rw[upd_ne (d c b r)];exact r) λc xs r=>by rw[upd_ne (f c xs r)];exact r
      rcases hc with rfl|hc
      . exact a
      . rintro rfl
        rcases l with z|z
        . exact d c b hc z
        . rw[hc]at z;cases z;exact g rfl
end
structure Un(fs ex:List Addr)(H H':Hp)(h h':bj):Prop where
  keep:∀ b o,h.get? b=aa o->H b=ab->b∉fs->b∉ex->h'.get? b=aa o
  slot:∀ b o,h.get? b=aa o->H b=ab->b∈fs->b∉ex->∃ sl,h'.get? b=aa { o with slots:=sl }
  free:∀ b o,h.get? b=aa o->H b=ab->b∉ex->H' b=ab
  there:∀ b o,h.get? b=aa o->b∉ex->∃ o',h'.get? b=aa o'
  tups:∀ b xs,H b=aa (.tup xs)->H' b=aa (.tup xs)
  frzs:∀ b o u,H b=aa (.frz o u)->H' b=aa (.frz o u)
  tbls:∀ b ps,H b=aa (.tbl ps)->∃ more,H' b=aa (.tbl (ps++more))
section
variable{fs fs' ex ex':Li Ad}{H1 H2:Hp}{h1 h2:bj}{e:Ad}{o:HO}
def Un.any(u:Un fs ex H H1 h h1){b:Ad}{a:Obj}(q:h.get? b=aa a)(n:H b=ab)(c:b∉ex):∃ sl,h1.get? b=aa { a with slots:=sl }:=by
  by_cases d:b∈fs
  . exact u.slot b a q n d c
  . exact⟨a.slots,u.keep b a q n d c⟩
def Un.kept(k:∀ b u,h.get? b=aa u->h'.get? b=aa u):Un fs ex H H h h':=
  ⟨λb a q _ _ _=>k b a q,λb a q _ _ _=>⟨a.slots,k b a q⟩,λ_ _ _ n _=>n,λb a q _=>⟨a,k b a q⟩,λ_ _ q=>q,λ_ _ _ q=>q,λ_ c q=>⟨#[],by rw[q];simp⟩⟩
def Un.refl:Un fs ex H H h h:=Un.kept λ_ _ q=>q
def Un.laid(k:∀ b u,h.get? b=aa u->h'.get? b=aa u)(d:h.objs.size<=a)(c:H a=ab):Un fs ex H (upd H a o) h h' where
  keep:=λb u q _ _ _=>k b u q
  slot:=λb u q _ _ _=>⟨u.slots,k b u q⟩
  free:=λb u q n _=>by rw[upd_ne (aZ (aU (aJ q) d))];exact n
  there:=λb u q _=>⟨u,k b u q⟩
  tups:=λb xs q=>by rw[upd_ne (ne_of_none q c)];exact q
  frzs:=λb u xs q=>by rw[upd_ne (ne_of_none q c)];exact q
  tbls:=λb e q=>⟨#[],by rw[upd_ne (ne_of_none q c),q];simp⟩
def Un.write(mu:Mut (H x))(i:e=x\/H e=aa (.own x))(k:∀ b u,b≠e->h.get? b=aa u->h'.get? b=aa u)(d:∃ u,h'.get? e=aa u):Un fs ex H (upd H x o) h h':=by
  have f:∀ b,H b=ab->b≠x:=λb n z=>by subst z;rw[n]at mu;exact mu
  have g:∀ b,H b=ab->b≠e:=λb n z=>by
    subst z;rcases i with r|r
    . exact f b n r
    . rw[n]at r;cases r
  have c:∀ b u,H b=aa u->¬Mut (aa u)->b≠x:=λb u q nm z=>by subst z;rw[q]at mu;exact nm mu
  refine⟨λb u q n _ _=>k b u (g b n) q,λb u q n _ _=>⟨u.slots,k b u (g b n) q⟩,λb u q n _=>by rw[upd_ne (f b n)];exact n,λb u q _=>?_,
    λb xs q=>by rw[upd_ne (c b _ q λz=>z)];exact q,λb u xs q=>by rw[upd_ne (c b _ q λz=>z)];exact q,λb j q=>⟨#[],by rw[upd_ne (c b _ q λz=>z),q];simp⟩⟩
  by_cases a:b=e
  . subst a;exact d
  . exact⟨u,k b u a q⟩
end
noncomputable def trk(h:bj)(H:Hp):Li Ad:=(ag h.objs.size).filter λa=>(H a).isSome
def hidT(h:bj)(H:Hp):bj:=W.hideAll h (trk h H)
def hidT_size(h:bj)(H:Hp):(hidT h H).objs.size=h.objs.size:=W.hideAll_size _ _
def hidT_get{b:Ad}{o:Obj}(e:h.get? b=aa o)(n:H b=ab):(hidT h H).get? b=aa o:=
  W.hideAll_get _ e λa=>by
    have q:(H b).isSome=ac:=(eE.mp a).2;rw[n]at q;simp at q
def of_hidT{b:Ad}{o:Obj}(e:(hidT h H).get? b=aa o):h.get? b=aa o/\H b=ab:=by
  have a:h.get? b=aa o:=W.of_hideAll (trk h H) e;refine⟨a,?_⟩;cases q:H b with
  |none=>rfl
  |some x=>
    have c:b∈trk h H:=eE.mpr ⟨cA.mpr (aJ a),by simp[q]⟩
    have z:(hidT h H).get? b=ab:=W.hideAll_none (trk h H) c;rw[z]at e;cases e
structure Mod(K:Fg)(mg:Str->Option Value)(base:bj):Prop where
  kin:K.In base
  glob:base.Ns az mg
  blt:∃ mb,base.Ns builtinsNs mb/\∀ x:Str,x ≠ "__name__"->mb x=bf x
  nolimit:base.NoLimit
structure Cx where
  prog:a7
  w:bm
  K:Fg
  mg:Str->Option Value
  base:bj
  A:bq
  N:List Str
  s₀:Shared
  H₀:Hp
  env:Env
  outer:List Env
  stack:List Env
  ex:List Addr
  fn:Str->Bool
  calm:Bool
  pn:List (Addr×Obj)
  xe:Value->Shared->Prop
noncomputable def frs(l:Li Env):Li Ad:=l.filterMap (·.frame)
abbrev Cx.fs(X:Cx):Li Ad:=frs X.outer
def Vis(sc:bg)(x:Str):Prop:=sc.names.lookup x=aa .local\/sc.names.lookup x=aa .cell\/sc.names.lookup x=aa .free
def Loc(sc:bg)(x:Str):Prop:=sc.names.lookup x=aa .local\/sc.names.lookup x=aa .cell
def Look(env:Env)(h:bj)(m:Str->Ot vL)(x:Str)(u:vL):Prop:=
  (env.kindOf x=aa .local/\m x=aa u)\/((env.kindOf x=aa .cell\/env.kindOf x=aa .free)/\∃ c,env.cells.lookup x=aa c/\h.IsCell c (aa u))
structure Cx.Ok(X:Cx):Prop where
  mod:Mod X.K X.mg X.base
  kind:X.env.scope.kind=.function
  glob:X.env.globals=az
  blt:X.env.builtins=builtinsNs
  above:X.s₀.heap.objs.size<=X.env.locals
  inj:∀ x y c,X.env.cells.lookup x=aa c->X.env.cells.lookup y=aa c->x=y
  has:∀ x,(X.env.kindOf x=aa .cell\/X.env.kindOf x=aa .free)->∃ c,X.env.cells.lookup x=aa c
  cab:∀ x c,X.fn x=ac->X.env.cells.lookup x=aa c->X.s₀.heap.objs.size<=c
  hd:X.calm=ac->X.A.handled=ab
  frames:X.A.frames=aa X.stack
  stk:X.stack=X.outer\/(X.stack=X.env :: X.outer/\X.env.frame=aa X.env.locals)
  exf:∀ b∈X.ex,b≠X.env.locals/\∀ x c,X.env.cells.lookup x=aa c->c≠b
  bs:∀ b o,X.base.get? b=aa o->X.s₀.heap.get? b=aa o/\X.H₀ b=ab
  bsz:X.base.objs.size<=X.s₀.heap.objs.size
  noex:∀ b o,X.base.get? b=aa o->b∉X.ex
  exfs:∀ b∈X.ex,b∉X.fs
  funs:X.s₀.heap.FunFrames X.base X.outer
  frf:∀ b∈X.fs,X.H₀ b=ab
structure Inv(X:Cx)(pQ:List (Addr×Obj))(O:List (Option V))(H:Hp)(s:Shared):Prop where
  ok:X.Ok
  os:s.os=X.s₀.os
  bare:AllBare s.gens
  base:Un X.fs X.ex X.H₀ H X.s₀.heap s.heap
  loc:∃ m,s.heap.Ns X.env.locals m/\∀ (i:Nat) (x:Str) (v:V),X.N[i]?=aa x->O[i]?=aa (aa v)->Vis X.env.scope x->∃ u,RelV v u/\Look X.env s.heap m x u
  cell:∀ x c,X.env.cells.lookup x=aa c->∃ v,s.heap.IsCell c v
  free:H X.env.locals=ab
  freeC:∀ x c,X.env.cells.lookup x=aa c->H c=ab
  pin:∀ p∈X.pn++pQ,s.heap.get? p.1=aa p.2/\H p.1=ab/\p.1≠X.env.locals/\p.1∉X.fs/\∀ v,p.2.data≠.cell v
  hok:HOk X.prog X.w H s.heap
  len:O.length=X.N.length
variable{g':Array GenState}{t' i:Nat}{d':Drawn}{N:Li Str}
variable{X:Cx}{pQ:Li (Ad×Obj)}{s:Sd}
section
variable{O:Li (Ot V)}
def Cx.Ok.nofr(ok:X.Ok){b:Ad}{o:Obj}(e:X.base.get? b=aa o):b∉X.fs:=λa=>by
  have:=(ok.funs.mem a).1;rw[e]at this;cases this
theorem Inv.bs(I:Inv X pQ O H s):∀ b o,X.base.get? b=aa o->s.heap.get? b=aa o/\H b=ab:=λb o e=>
  ⟨I.base.keep b o (I.ok.bs b o e).1 (I.ok.bs b o e).2 (I.ok.nofr e) (I.ok.noex b o e),I.base.free b o (I.ok.bs b o e).1 (I.ok.bs b o e).2 (I.ok.noex b o e)⟩
def Inv.bk(I:Inv X pQ O H s):∀ b o,X.base.get? b=aa o->s.heap.get? b=aa o:=λb o e=>(I.bs b o e).1
theorem Inv.mod(I:Inv X pQ O H s):Mod X.K X.mg X.base:=I.ok.mod
def Inv.kIn(I:Inv X pQ O H s):X.K.In s.heap:=I.ok.mod.kin.keeps I.bk
theorem Inv.lt(I:Inv X pQ O H s):X.env.locals < s.heap.objs.size:=let ⟨_,hn,_⟩:=I.loc;hn.lt
def Inv.sz(I:Inv X pQ O H s):X.s₀.heap.objs.size<=s.heap.objs.size:=aM I.ok.above (dB I.lt)
def Inv.nofs(I:Inv X pQ O H s){a:Ad}(h:s.heap.objs.size<=a):a∉X.fs:=λc=>by
  obtain⟨_,o,b,_⟩:=I.ok.funs.mem c;exact ar (aU (aJ b) (aM I.sz h)) (bZ _)
def Inv.cne(I:Inv X pQ O H s):∀ x c,X.env.cells.lookup x=aa c->c≠X.env.locals:=λx c e z=>by
  obtain⟨v,o,d,f⟩:=I.cell x c e;obtain⟨m,⟨g,h,i,a,b,_⟩,_⟩:=I.loc;rw[z,a]at d;cases d;rw[b]at f;cases f
theorem Inv.funs(I:Inv X pQ O H s):s.heap.FunFrames X.base X.outer:=by
  have all:∀ (l:Li Env),(∀ b∈frs l,b∈X.fs)->X.s₀.heap.FunFrames X.base l->s.heap.FunFrames X.base l:=by
    intro l
    induction l with
    |nil=>intro _ _;trivial
    |cons p r g=>
      intro f k;obtain⟨m,⟨L,o,a,j,i,n⟩,h⟩:=k;have d:L∈X.fs:=f L (by unfold frs;rw[List.filterMap_cons,a];exact Ls)
      obtain⟨sl,e⟩:=I.base.slot L o i (I.ok.frf L d) d λz=>I.ok.exfs L z d
      exact⟨m,⟨L,_,a,j,e,n⟩,g (λb c=>f b (by unfold frs;rw[List.filterMap_cons,a];exact Lm _ c)) h⟩
  exact all X.outer (λ_ c=>c) I.ok.funs
theorem Inv.stack(I:Inv X pQ O H s):s.heap.FunFrames X.base X.stack:=by
  rcases I.ok.stk with e|⟨e,b⟩
  . rw[e];exact I.funs
  . rw[e]
    obtain⟨m,a,_⟩:=I.loc;refine .cons (by rw[I.ok.kind];decide) b a ?_ I.funs
    exact Heap.get?_none_of_le (aM I.ok.bsz I.ok.above)
def Inv.stkSub(I:Inv X pQ O H s):∀ b∈frs X.stack,b∈X.env.locals :: X.fs:=λb a=>by
  rcases I.ok.stk with e|⟨e,c⟩
  . rw[e]at a;exact Lm _ a
  . rw[e]at a
    unfold frs at a;rw[List.filterMap_cons,c]at a;exact a
def Inv.stkFree(I:Inv X pQ O H s):∀ b∈frs X.stack,H b=ab:=λb hb=>by
  rcases aF.mp (I.stkSub b hb) with e|hb
  . rw[e];exact I.free
  . obtain⟨_,o,a,_⟩:=I.ok.funs.mem hb
    exact I.base.free b o a (I.ok.frf b hb) λz=>I.ok.exfs b z hb
def Inv.step{ch:Li Ad}(I:Inv X pQ O H s)(g:∀ b∈ch,(b∈X.ex\/X.s₀.heap.objs.size<=b)/\b≠X.env.locals/\(∀ x c,X.env.cells.lookup x=aa c->c≠b)/\∀ p∈X.pn++pQ,p.1≠b)(keep:∀ b o,b≠X.env.locals->b∉X.fs->b∉ch->s.heap.get? b=aa o->H b=ab->h'.get? b=aa o)(slot:∀ b o,b≠X.env.locals->b∈X.fs->b∉ch->s.heap.get? b=aa o->H b=ab->∃ sl,h'.get? b=aa { o with slots:=sl })(free:∀ b o,b∉ch->s.heap.get? b=aa o->H b=ab->H' b=ab)(there:∀ b o,b∉ch->s.heap.get? b=aa o->∃ B,h'.get? b=aa B)(tups:∀ b xs,H b=aa (.tup xs)->H' b=aa (.tup xs))(frzs:∀ b o u,H b=aa (.frz o u)->H' b=aa (.frz o u))(tbls:∀ b E,H b=aa (.tbl E)->∃ more,H' b=aa (.tbl (E++more)))(N:∀ m,s.heap.Ns X.env.locals m->h'.Ns X.env.locals m)(hok:HOk X.prog X.w H' h')(T:AllBare g') :
    Inv X pQ O H' { s with heap:=h',gens:=g',drawn:=d',toks:=t' }:=by
  have C:∀ b o,X.s₀.heap.get? b=aa o->b≠X.env.locals:=λb o e=>aZ (aU (aJ e) I.ok.above)
  have j:∀ b o,X.s₀.heap.get? b=aa o->b∉X.ex->b∉ch:=λb o e a y=>by
    rcases (g b y).1 with z|z
    . exact a z
    . exact ar (aU (aJ e) z) (bZ _)
  have h:∀ x c,X.env.cells.lookup x=aa c->∀ v,s.heap.IsCell c v->h'.IsCell c v:=λx c e v ⟨o,A,G⟩=>by
    have f:c∉ch:=λz=>(g c z).2.2.1 x c e rfl
    by_cases M:c∈X.fs
    . obtain⟨sl,q⟩:=slot c o (I.cne x c e) M f A (I.freeC x c e)
      exact⟨_,q,G⟩
    . exact⟨o,keep c o (I.cne x c e) M f A (I.freeC x c e),G⟩
  refine⟨I.ok,I.os,T,⟨λb o e n y a=>?_,λb o e n y a=>?_,λb o e n a=>?_,λb o e a=>?_,λb xs e=>tups b xs (I.base.tups b xs e),λb o xs e=>frzs b o xs (I.base.frzs b o xs e),λb E e=>?_⟩,?_,λx c e=>?_,?_,λx c e=>?_,λp L=>?_,hok,I.len⟩
  . exact keep b o (C b o e) y (j b o e a) (I.base.keep b o e n y a) (I.base.free b o e n a)
  . obtain⟨sl,t⟩:=I.base.slot b o e n y a
    obtain⟨F,D⟩:=slot b _ (C b o e) y (j b o e a) t (I.base.free b o e n a);exact⟨F,D⟩
  . obtain⟨B,t⟩:=I.base.there b o e a
    exact free b B (j b o e a) t (I.base.free b o e n a)
  . obtain⟨B,t⟩:=I.base.there b o e a
    exact there b B (j b o e a) t
  . obtain⟨Q,t⟩:=I.base.tbls b E e
    obtain⟨P,D⟩:=tbls b _ t;exact⟨Q++P,by rw[D,Array.append_assoc]⟩
  . obtain⟨m,R,S⟩:=I.loc
    refine⟨m,N m R,λi x v t D U=>?_⟩
    obtain⟨u,r,l⟩:=S i x v t D U;refine⟨u,r,?_⟩;rcases l with l|⟨k,c,e,z⟩
    . exact .inl l
    . exact .inr ⟨k,c,e,h x c e _ z⟩
  . obtain⟨v,z⟩:=I.cell x c e
    exact⟨v,h x c e v z⟩
  . obtain⟨m,⟨o,_,_,A,_⟩,_⟩:=I.loc
    exact free _ o (λz=>(g _ z).2.1 rfl) A I.free
  . obtain⟨v,o,A,G⟩:=I.cell x c e
    exact free c o (λz=>(g c z).2.2.1 x c e rfl) A (I.freeC x c e)
  . obtain⟨e,n,K,J,d⟩:=I.pin p L
    have f:p.1∉ch:=λz=>(g p.1 z).2.2.2 p L rfl
    exact⟨keep p.1 p.2 K J f e n,free p.1 p.2 f e n,K,J,d⟩
def Inv.un(I:Inv X pQ O H s)(u:Un X.fs [] H H' s.heap h')(hok:HOk X.prog X.w H' h'):Inv X pQ O H' { s with heap:=h',toks:=t' }:=by
  obtain⟨m,⟨o,p,q,g,r⟩,_⟩:=id I.loc;obtain⟨sl,j⟩:=u.any g I.free (by simp)
  exact I.step (g':=s.gens) (d':=s.drawn) (ch:=[]) (λ_ z=>nomatch z) (λb o _ c _ e n=>u.keep b o e n c (by simp)) (λb o _ c _ e n=>u.slot b o e n c (by simp)) (λb o _ e n=>u.free b o e n (by simp)) (λb o _ e=>u.there b o e (by simp)) u.tups u.frzs u.tbls (λl i=>by
    obtain⟨k,d,f,a,h⟩:=i;rw[g]at a;cases a
    exact⟨_,d,f,j,h⟩) hok I.bare
def Inv.call{ch:Li Ad}(I:Inv X pQ O H s)(u:Un (frs X.stack) ch H H' s.heap h')(hok:HOk X.prog X.w H' h')(q:AllBare g')(f:∀ b∈ch,(b∈X.ex\/X.s₀.heap.objs.size<=b)/\b≠X.env.locals/\(∀ x c,X.env.cells.lookup x=aa c->c≠b)/\∀ p∈X.pn++pQ,p.1≠b) :
    Inv X pQ O H' { s with heap:=h',gens:=g',drawn:=d',toks:=t' }:=by
  obtain⟨m,⟨o,A,B,j,r⟩,_⟩:=id I.loc;obtain⟨sl,g⟩:=u.any j I.free λz=>(f _ z).2.1 rfl
  exact I.step (ch:=ch) f (λb o g t a e n=>u.keep b o e n (λz=>(aF.mp (I.stkSub b z)).elim g t) a) (λb o _ _ a e n=>u.any e n a) (λb o a e n=>u.free b o e n a) (λb o a e=>u.there b o e a) u.tups u.frzs u.tbls (λy l=>by
    obtain⟨v,h,i,d,k⟩:=l;rw[j]at d;cases d
    exact⟨_,h,i,g,k⟩) hok q
def Inv.turned{a:Ad}(I:Inv X pQ O H s)(k:∀ b o,b≠a->s.heap.get? b=aa o->h'.get? b=aa o)(i:H a=ab)(g:a≠X.env.locals)(y:a∈X.ex\/X.s₀.heap.objs.size<=a)(w:∀ x c,X.env.cells.lookup x=aa c->c≠a)(t:∀ p∈X.pn++pQ,p.1≠a):Inv X pQ O H { s with heap:=h',toks:=t' }:=by
  have f:∀ b u,H b=aa u->b≠a:=λb u e z=>by rw[z,i]at e;cases e
  refine I.step (g':=s.gens) (d':=s.drawn) (ch:=[a]) (λb l=>?_) (λb o _ _ d e _=>k b o (λz=>d (by simp[z])) e) (λb o _ _ d e _=>⟨o.slots,k b o (λz=>d (by simp[z])) e⟩) (λ_ _ _ _ n=>n)
    (λb o d e=>⟨o,k b o (λz=>d (by simp[z])) e⟩) (λ_ _ e=>e) (λ_ _ _ e=>e) (λb C e=>⟨#[],by rw[e];simp⟩) (λm j=>?_) (λb u e=>?_) I.bare
  . have e:b=a:=by simpa using l
    subst e;exact⟨y,g,w,t⟩
  . obtain⟨o,A,B,h,r⟩:=j
    exact⟨o,A,B,k _ o (Ne.symm g) h,r⟩
  . refine(I.hok b u e).stay (λc v d q=>k c v ?_ q) (λ_ q=>q) λ_ _ q=>q
    rcases d with z|z
    . rw[z];exact f b u e
    . exact f c _ z
def Inv.tok(I:Inv X pQ O H s)(t:Nat):Inv X pQ O H { s with toks:=t }:=I.un (h':=s.heap) (t':=t) Un.refl I.hok
theorem Inv.kept{t':Nat}(I:Inv X pQ O H s)(k:∀ b u,s.heap.get? b=aa u->h'.get? b=aa u):Inv X pQ O H { s with heap:=h',toks:=t' }:=I.un (Un.kept k) (I.hok.kept k)
theorem Inv.laid{a:Ad}{o:HO}{t':Nat}(I:Inv X pQ O H s)(k:∀ b u,s.heap.get? b=aa u->h'.get? b=aa u)(c:s.heap.objs.size<=a)(new:ObjOk X.prog X.w (upd H a o) h' a o) :
    Inv X pQ O (upd H a o) { s with heap:=h',toks:=t' }:=I.un (Un.laid k c (I.hok.fresh c)) (I.hok.laid k c new)
theorem Inv.write{x e:Ad}{o:HO}{t':Nat}(I:Inv X pQ O H s)(mu:Mut (H x))(c:e=x\/H e=aa (.own x))(k:∀ b u,b≠e->s.heap.get? b=aa u->h'.get? b=aa u)(a:∃ u,h'.get? e=aa u)(new:ObjOk X.prog X.w (upd H x o) h' x o):Inv X pQ O (upd H x o) { s with heap:=h',toks:=t' }:=I.un (Un.write mu c k a) (I.hok.write mu c k a new)
def Inv.pins_of{a:Li (Ad×Obj)}(I:Inv X pQ O H s)(h:∀ p∈a,s.heap.get? p.1=aa p.2/\H p.1=ab/\p.1≠X.env.locals/\p.1∉X.fs/\∀ v,p.2.data≠.cell v):Inv X a O H s:=
  ⟨I.ok,I.os,I.bare,I.base,I.loc,I.cell,I.free,I.freeC,λp b=>(bA.mp b).elim (λz=>I.pin p (dC _ z)) (h p),I.hok,I.len⟩
def nodup_ix(hN:N.Nodup){j:Nat}{x:Str}(a:N[i]?=aa x)(b:N[j]?=aa x):i=j:=by
  obtain⟨f,d⟩:=bL.mp a;obtain⟨e,c⟩:=bL.mp b;exact(List.getElem_inj hN).mp (d.trans c.symm)
def store_ok2{M:Model}{A:bq}{E:vL->Sd->Prop}{x:Str}{v:V}{u:vL}{Q:Unit->Sd->Prop}(I:Inv X pQ O H s)(hN:X.N.Nodup)(P:X.N[i]?=aa x)(t:Loc X.env.scope x)(r:RelV v u)(h:∀ s',Inv X pQ (O.set i (aa v)) H s'->(∃ a,Heap.SameBut a s.heap s'.heap/\(a=X.env.locals\/X.env.cells.lookup x=aa a))->Q () s')(hf:X.fn x=ac\/X.env.scope.names.lookup x=aa .local:=by first|exact .inl rfl|exact .inr rfl|assumption):a0 M A (storeName X.env x u) Q E s:=by
  obtain⟨m,hn,hl⟩:=id I.loc;have R:(X.env.scope.kind==.class||(X.env.scope.kind==.module&&X.env.locals != X.env.globals))=ae:=by rw[I.ok.kind];rfl
  have D:i < O.length:=by rw[I.len];exact(bL.mp P).1
  have cne:=I.cne;have g:∀ {a:Ad}{h':bj},(∃ o,s.heap.get? a=aa o/\H a=ab)->Heap.SameBut a s.heap h'->HOk X.prog X.w H h':=λ{a h'} ha f b ob e=>by
    obtain⟨_,_,B⟩:=ha;refine(I.hok b ob e).stay (λc U hc q=>(f.2 c ?_).trans q) (λ_ q=>q) λ_ _ q=>q
    rintro rfl
    rcases hc with rfl|hc
    . rw[B]at e;cases e
    . rw[B]at hc;cases hc
  rcases t with hk|hk
  . refine wpAny_storeName_local hk hn (λh' hn' f=>?_) R
    obtain⟨oL,_,_,hoL,_⟩:=id hn;refine h _ ⟨I.ok,I.os,I.bare,⟨λb o e n J t=>?_,λb o e n J t=>?_,I.base.free,λb o e t=>?_,I.base.tups,I.base.frzs,I.base.tbls⟩,⟨_,hn',λj y Z l C e3=>?_⟩,λy c e=>?_,I.free,I.freeC,λp hp=>?_,g ⟨oL,hoL,I.free⟩ f,by simpa using I.len⟩ ⟨_,f,.inl rfl⟩
    . exact(f.2 b (aZ (aU (aJ e) I.ok.above))).trans (I.base.keep b o e n J t)
    . obtain⟨sl,l⟩:=I.base.slot b o e n J t
      exact⟨sl,(f.2 b (aZ (aU (aJ e) I.ok.above))).trans l⟩
    . obtain⟨o',l⟩:=I.base.there b o e t
      exact⟨o',(f.2 b (aZ (aU (aJ e) I.ok.above))).trans l⟩
    . by_cases F:j=i
      . subst F
        rw[P]at l;cases l
        rw[bT D]at C;cases C;exact⟨u,r,.inl ⟨hk,by simp⟩⟩
      . rw[bU (Ne.symm F)]at C
        obtain⟨u',r',q⟩:=hl j y Z l C e3;refine⟨u',r',?_⟩;rcases q with⟨k,e⟩|⟨k,c,e,z⟩
        . refine .inl ⟨k,?_⟩
          have:y≠x:=λe=>F (nodup_ix hN l (e ▸ P))
          simp[this,e]
        . exact .inr ⟨k,c,e,z.sameBut f (cne y c e)⟩
    . obtain⟨U,z⟩:=I.cell y c e
      exact⟨U,z.sameBut f (cne y c e)⟩
    . obtain⟨e,n,W,nf,d⟩:=I.pin p hp
      exact⟨(f.2 p.1 W).trans e,n,W,nf,d⟩
  . have G:X.fn x=ac:=by
      rcases hf with z|z
      . exact z
      . rw[z]at hk;cases hk
    obtain⟨c,hc⟩:=I.ok.has x (.inl hk);obtain⟨U,z⟩:=I.cell x c hc;refine wpAny_storeName_cell I.ok.kind hk hc z (λh' T f=>?_)
    obtain⟨oc,L,K⟩:=id z;refine h { s with heap:=h' } ⟨I.ok,I.os,I.bare,⟨λb o e n J t=>?_,λb o e n J t=>?_,I.base.free,λb o e t=>?_,I.base.tups,I.base.frzs,I.base.tbls⟩,⟨m,hn.sameBut f (Ne.symm (cne x c hc)),λj y Z l C e3=>?_⟩,λy Y e=>?_,I.free,I.freeC,λp hp=>?_,g ⟨oc,L,I.freeC x c hc⟩ f,by simpa using I.len⟩ ⟨c,f,.inr hc⟩
    . exact(f.2 b (aZ (aU (aJ e) (I.ok.cab x c G hc)))).trans (I.base.keep b o e n J t)
    . obtain⟨sl,l⟩:=I.base.slot b o e n J t
      exact⟨sl,(f.2 b (aZ (aU (aJ e) (I.ok.cab x c G hc)))).trans l⟩
    . obtain⟨o',l⟩:=I.base.there b o e t
      exact⟨o',(f.2 b (aZ (aU (aJ e) (I.ok.cab x c G hc)))).trans l⟩
    . by_cases F:j=i
      . subst F
        rw[P]at l;cases l
        rw[bT D]at C;cases C;exact⟨u,r,.inr ⟨.inl hk,c,hc,T⟩⟩
      . rw[bU (Ne.symm F)]at C
        obtain⟨u',r',q⟩:=hl j y Z l C e3;refine⟨u',r',?_⟩;rcases q with q|⟨k,Y,e,z'⟩
        . exact .inl q
        . refine .inr ⟨k,Y,e,z'.sameBut f ?_⟩
          rintro rfl
          exact F (nodup_ix hN l (I.ok.inj _ _ _ e hc ▸ P))
    . by_cases S:Y=c
      . subst S;exact⟨_,T⟩
      . obtain⟨w2,z2⟩:=I.cell y Y e
        exact⟨w2,z2.sameBut f S⟩
    . obtain⟨e,n,W,nf,d⟩:=I.pin p hp
      refine⟨(f.2 p.1 ?_).trans e,n,W,nf,d⟩;intro q;rw[q,L]at e;have q':oc=p.2:=av e;exact d U (by rw[<-q'];exact K)
def store_ok{M:Model}{A:bq}{E:vL->Sd->Prop}{x:Str}{v:V}{u:vL}{Q:Unit->Sd->Prop}(I:Inv X pQ O H s)(hN:X.N.Nodup)(c:X.N[i]?=aa x)(b:Loc X.env.scope x)(r:RelV v u)(h:∀ a,Inv X pQ (O.set i (aa v)) H a->Q () a)(d:X.fn x=ac\/X.env.scope.names.lookup x=aa .local:=by first|exact .inl rfl|exact .inr rfl|assumption):a0 M A (storeName X.env x u) Q E s:=
  store_ok2 I hN c b r (λa e _=>h a e) d
def Inv.call'{s':Sd}{ch:Li Ad}(I:Inv X pQ O H s)(f:s'.os=s.os)(u:Un (frs X.stack) ch H H' s.heap s'.heap)(hok:HOk X.prog X.w H' s'.heap)(g:AllBare s'.gens)(a:∀ b∈ch,(b∈X.ex\/X.s₀.heap.objs.size<=b)/\b≠X.env.locals/\(∀ x c,X.env.cells.lookup x=aa c->c≠b)/\∀ p∈X.pn++pQ,p.1≠b):Inv X pQ O H' s':=by
  obtain⟨h',g',d',t',d⟩:=s';have e:d=s.os:=f;subst e;exact I.call (g':=g') (t':=t') (d':=d') u hok g a
end
abbrev XK:=vL->Ot Ad->Hp->Prop
abbrev St:=Li (Ot V)
abbrev VK:=V->Hp->Prop
abbrev TE:=St->Hp->VK->Prop
abbrev TT:=St->Hp->(Bool->Hp->Prop)->Prop
abbrev TA:=St->Hp->(Li V->Hp->Prop)->Prop
structure Ends where
  nx:St->Hp->Prop
  rt:VK
  bk:St->Hp->Prop:=λ_ _=>False
  ct:St->Hp->Prop:=λ_ _=>False
abbrev TS:=Ends->St->Hp->Prop
def EP(X:Cx)(c:Li (Ad×Obj))(O:St)(Q:VK)(u:vL)(b:Sd):Prop:=∃ v a,Inv X c O a b/\RelV v u/\Q v a
def TP(X:Cx)(d:Li (Ad×Obj))(O:St)(Q:Bool->Hp->Prop)(b:Bool)(c:Sd):Prop:=∃ a,Inv X d O a c/\Q b a
def AP(X:Cx)(d:Li (Ad×Obj))(O:St)(Q:Li V->Hp->Prop)(us:Li vL)(c:Sd):Prop:=∃ a b,Inv X d O b c/\Vals a us/\Q a b
def SP(X:Cx)(d:Li (Ad×Obj))(D:Ends)(f:Flow)(c:Sd):Prop:=
  match f with
  |.next=>∃ b a,Inv X d b a c/\D.nx b a
  |.brk=>∃ b a,Inv X d b a c/\D.bk b a
  |.cont=>∃ b a,Inv X d b a c/\D.ct b a
  |.ret u=>∃ v b a,Inv X d b a c/\RelV v u/\D.rt v a
def PE(X:Cx)(e:ay)(t:TE):Prop:=
  ∀ (pQ:Li (Ad×Obj)) (s:Sd) (O:St) (H:Hp) (Q:VK),Inv X pQ O H s->t O H Q->a0 (a6 X.prog X.w) X.A (eval e X.env) (EP X pQ O Q) X.xe s
def PT(X:Cx)(e:ay)(t:TT):Prop:=
  ∀ (pQ:Li (Ad×Obj)) (s:Sd) (O:St) (H:Hp) (Q:Bool->Hp->Prop),Inv X pQ O H s->t O H Q->a0 (a6 X.prog X.w) X.A (isTrue e X.env (eval e X.env)) (TP X pQ O Q) X.xe s
def PW(X:Cx)(e:ay)(t:TT):Prop:=
  ∀ (whole:Sem vL) (pQ:Li (Ad×Obj)) (s:Sd) (O:St) (H:Hp) (Q:Bool->Hp->Prop),Inv X pQ O H s->t O H Q->a0 (a6 X.prog X.w) X.A (isTrue e X.env whole) (TP X pQ O Q) X.xe s
variable{X:Cx}
def PW.pt{e:ay}{t:TT}(h:PW X e t):PT X e t:=h _
def PA(X:Cx)(a:Li ay)(t:TA):Prop:=
  ∀ (pos:Pos) (pQ:Li (Ad×Obj)) (s:Sd) (O:St) (H:Hp) (Q:Li V->Hp->Prop),Inv X pQ O H s->t O H Q->a0 (a6 X.prog X.w) X.A (spliced (backTo pos (bc a X.env))) (AP X pQ O Q) X.xe s
def PS(X:Cx)(a:Stmt)(t:TS):Prop:=
  ∀ (pQ:Li (Ad×Obj)) (s:Sd) (O:St) (H:Hp) (D:Ends),Inv X pQ O H s->t D O H->a0 (a6 X.prog X.w) X.A (exec a X.env) (SP X pQ D) X.xe s
def PSs(X:Cx)(a:Li Stmt)(t:TS):Prop:=
  ∀ (pQ:Li (Ad×Obj)) (s:Sd) (O:St) (H:Hp) (D:Ends),Inv X pQ O H s->t D O H->a0 (a6 X.prog X.w) X.A (execs a X.env) (SP X pQ D) X.xe s
variable{M:Model}{A:bq}
def thn{b:Type}{t:Sem b}{Q c:b->Sd->Prop}{E:vL->Sd->Prop}{s:Sd}(h:a0 M A t Q E s)(d:∀ a s,Q a s->c a s):a0 M A t c E s:=bH h d λ_ _ x=>x
variable{pQ:Li (Ad×Obj)}{s:Sd}{Q:vL->Sd->Prop}
variable{b:ay}{ta tb:TE}{pos:Pos}
section
def tVar(i:Nat):TE:=λO H Q=>∃ v,O[i]?=aa (aa v)/\Q v H
def tC(v:V):TE:=λ_ H Q=>Q v H
def pe_var{x:Str}{d:Pos}(hN:X.N[i]?=aa x)(j:Vis X.env.scope x)(hd:(x==("__debug__":Str))=ae:=by decide)(f:(x==("__classdict__":Str))=ae:=by decide):PE X (.Name x d) (tVar i):=by
  intro pQ s O H Q I h;obtain⟨v,e,h⟩:=h;obtain⟨m,k,o⟩:=I.loc;obtain⟨u,r,l⟩:=o i x v hN e j;have b:EP X pQ O Q u s:=⟨v,H,I,r,h⟩;rcases l with⟨hk,n⟩|⟨hk,c,g,a⟩
  . exact wpAny_Name (wpAny_loadName_local I.ok.kind hk k n b) hd
  . rcases hk with hk|hk
    . exact wpAny_Name (wpAny_loadName_cell I.ok.kind hk g a b) hd
    . exact wpAny_Name (wpAny_loadName_free I.ok.kind hk g a b f) hd
def pe_int{i j pos}:PE X (.Constant (.int i) j pos) (tC (.int i)):=λ_ _ _ H _ I h=>wpAny_Constant_int ⟨.int i,H,I.tok _,⟨_,rfl⟩,h⟩
def pe_bl{b j pos}:PE X (.Constant (.bool b) j pos) (tC (.bl b)):=λ_ _ _ H _ I h=>Constant_bool ⟨.bl b,H,I,rfl,h⟩
def pe_non{j pos}:PE X (.Constant .none j pos) (tC .non):=λ_ _ _ H _ I h=>Constant_none ⟨.non,H,I,rfl,h⟩
def pe_str{x j pos}:PE X (.Constant (.str x) j pos) (tC (.str x)):=λ_ _ _ H _ I h=>Calls.Constant_str ⟨.str x,H,I.tok _,⟨_,rfl⟩,h⟩
def Gl(X:Cx)(x:Str):Prop:=X.env.kindOf x=aa .globalImplicit
def ld_glob{E:vL->Sd->Prop}{O:St}{x:Str}{u:vL}{a:Pos}(I:Inv X pQ O H s)(c:Gl X x)(b:X.mg x=aa u)(h:Q u s)(hd:(x==("__debug__":Str))=ae:=by decide):a0 (a6 X.prog X.w) X.A (eval (.Name x a) X.env) Q E s:=
  Calls.Name_function_global I.ok.kind c (Calls.loadGlobal_global (by rw[I.ok.glob];exact I.mod.glob.keeps I.bk) b h) hd
def ld_blt{E:vL->Sd->Prop}{O:St}{x:Str}{u:vL}{a:Pos}(I:Inv X pQ O H s)(e:Gl X x)(d:X.mg x=ab)(b:bf x=aa u)(h:Q u s)(c:x ≠ "__name__":=by decide)(hd:(x==("__debug__":Str))=ae:=by decide):a0 (a6 X.prog X.w) X.A (eval (.Name x a) X.env) Q E s:=by
  obtain⟨i,g,f⟩:=I.mod.blt;exact Calls.Name_function_global I.ok.kind e (Calls.loadGlobal_builtin (by rw[I.ok.glob];exact I.mod.glob.keeps I.bk) d (by rw[I.ok.blt];exact g.keeps I.bk) ((f x c).trans b) h) hd
def pe_glob{x:Str}{v:V}{u:vL}{a:Pos}(c:Gl X x)(b:X.mg x=aa u)(r:RelV v u)(hd:(x==("__debug__":Str))=ae:=by decide):PE X (.Name x a) (tC v):=
  λ_ _ _ H _ I h=>ld_glob I c b ⟨v,H,I,r,h⟩ hd
def pe_bltn{x:Str}{v:V}{u:vL}{a:Pos}(e:Gl X x)(d:X.mg x=ab)(b:bf x=aa u)(r:RelV v u)(c:x ≠ "__name__":=by decide)(hd:(x==("__debug__":Str))=ae:=by decide):PE X (.Name x a) (tC v):=
  λ_ _ _ H _ I h=>ld_blt I e d b ⟨v,H,I,r,h⟩ c hd
variable{a:ay}
def PC(X:Cx)(e:CmpOp)(a b:ay)(t:TE):Prop:=
  ∀ (pQ:Li (Ad×Obj)) (s:Sd) (O:St) (H:Hp) (Q:VK),Inv X pQ O H s->t O H Q->
    a0 (a6 X.prog X.w) X.A (eval a X.env) (λv d=>a0 (a6 X.prog X.w) X.A (eval b X.env) (λu c=>a0 (a6 X.prog X.w) X.A (bo e v u) (EP X pQ O Q) X.xe c) X.xe d) X.xe s
def tB(t:TE):TT:=λO H Q=>t O H λx a=>∃ c,x=.bl c/\Q c a
def pt_val{e:ay}{t:TE}(h:PE X e t)(g:∀ a,isTrue e X.env a=(do let v <-a;standAt e.pos;holding [v] (truthy v)):=by intro _;rfl):PT X e (tB t):=by
  intro pQ s O H Q I f;refine isTrue_plain (thn (h pQ s O H _ I f) λv s1 ⟨x,j,i,b,c⟩=>?_) (g _)
  obtain⟨d,rfl,q⟩:=c;cases b;exact wpAny_truthy_bool ⟨j,i,q⟩
variable{tA tB':TT}{rest:Li ay}
def tAnd(t u:TT):TT:=λO H Q=>t O H λc a=>if c=ac then u O a Q else Q ae a
def tOr(t u:TT):TT:=λO H Q=>t O H λc a=>if c=ac then Q ac a else u O a Q
def tNot(t:TT):TT:=λO H Q=>t O H λc a=>Q (!c) a
def pw_and1(b:PT X a tA):PW X (.BoolOp .And [a] pos) tA:=by
  intro d pQ s O H Q I h;refine isTrue_and (thn (b pQ s O H Q I h) λc s1 e=>?_)
  cases c with
  |true=>exact isTrue_and_nil e
  |false=>exact e
def pw_or1(b:PT X a tA):PW X (.BoolOp .Or [a] pos) tA:=by
  intro d pQ s O H Q I h;refine isTrue_or (thn (b pQ s O H Q I h) λc s1 e=>?_)
  cases c with
  |false=>exact isTrue_or_nil e
  |true=>exact e
def pw_and(j:PT X a tA)(i:PW X (.BoolOp .And (b :: rest) pos) tB'):PW X (.BoolOp .And (a :: b :: rest) pos) (tAnd tA tB'):=by
  intro g pQ s O H Q I h;refine isTrue_and (thn (j pQ s O H _ I h) λc s1 ⟨f,e,d⟩=>?_)
  cases c with
  |true=>exact i g pQ s1 O f Q e d
  |false=>exact⟨f,e,d⟩
def pw_or(j:PT X a tA)(i:PW X (.BoolOp .Or (b :: rest) pos) tB'):PW X (.BoolOp .Or (a :: b :: rest) pos) (tOr tA tB'):=by
  intro g pQ s O H Q I h;refine isTrue_or (thn (j pQ s O H _ I h) λc s1 ⟨f,e,d⟩=>?_)
  cases c with
  |true=>exact⟨f,e,d⟩
  |false=>exact i g pQ s1 O f Q e d
def pt_not(b:PT X a tA):PT X (.UnaryOp .Not a pos) (tNot tA):=by
  intro pQ s O H Q I h;exact isTrue_not (b pQ s O H (λc d=>Q (!c) d) I h)
def tAndV(ta tb:TE):TE:=λO H Q=>ta O H λx a=>∃ c,x=.bl c/\if c=ac then tb O a Q else Q (.bl ae) a
def tOrV(ta tb:TE):TE:=λO H Q=>ta O H λx a=>∃ c,x=.bl c/\if c=ac then Q (.bl ac) a else tb O a Q
def tNotV(ta:TE):TE:=λO H Q=>ta O H λx a=>∃ c,x=.bl c/\Q (.bl (!c)) a
def pe_one{op}{t:TE}(h:PE X a t):PE X (.BoolOp op [a] pos) t:=λpQ s O H Q I b=>BoolOp_one (h pQ s O H Q I b)
def pe_and(j:PE X a ta)(i:PE X (.BoolOp .And (b :: rest) pos) tb):PE X (.BoolOp .And (a :: b :: rest) pos) (tAndV ta tb):=by
  intro pQ s O H Q I h;refine BoolOp_and (thn (j pQ s O H _ I h) λv s1 ⟨x,f,e,g,d⟩=>?_)
  obtain⟨c,rfl,d⟩:=d;cases g;refine wpAny_truthy_bool ?_;cases c with
  |true=>exact i pQ s1 O f Q e d
  |false=>exact⟨.bl ae,f,e,rfl,d⟩
def pe_or(j:PE X a ta)(i:PE X (.BoolOp .Or (b :: rest) pos) tb):PE X (.BoolOp .Or (a :: b :: rest) pos) (tOrV ta tb):=by
  intro pQ s O H Q I h;refine BoolOp_or (thn (j pQ s O H _ I h) λv s1 ⟨x,f,e,g,d⟩=>?_)
  obtain⟨c,rfl,d⟩:=d;cases g;refine wpAny_truthy_bool ?_;cases c with
  |false=>exact i pQ s1 O f Q e d
  |true=>exact⟨.bl ac,f,e,rfl,d⟩
def pe_not(e:PE X a ta):PE X (.UnaryOp .Not a pos) (tNotV ta):=by
  intro pQ s O H Q I h;refine UnaryOp_ (thn (e pQ s O H _ I h) λv s1 ⟨x,g,f,d,b⟩=>?_)
  obtain⟨c,rfl,b⟩:=b;cases d;exact not_of (wpAny_truthy_bool ⟨.bl (!c),g,f,rfl,b⟩)
def tIf(t:TT)(ta tb:TE):TE:=λO H Q=>t O H λc a=>if c=ac then ta O a Q else tb O a Q
def pe_ifExp{c:ay}(i:PT X c tA)(k:PE X a ta)(j:PE X b tb):PE X (.IfExp c a b pos) (tIf tA ta tb):=by
  intro pQ s O H Q I h;refine wpAny_IfExp (thn (i pQ s O H _ I h) λd s1 ⟨g,f,e⟩=>?_)
  cases d with
  |true=>exact k pQ s1 O g Q f e
  |false=>exact j pQ s1 O g Q f e
end
def SqL(K:Fg)(H:Hp)(a:Ad)(xs:Li V):Prop:=
  Rd H a (.lst xs) \/
    ∃ (o:Obj) (its:Array vL) (n:Nat),K.lookup a=aa o/\o.cls=.type "list"/\o.dict=ab/\o.data=.seq its n/\its.size<=ax/\Vals xs its.toList
def SqT(K:Fg)(H:Hp)(a:Ad)(xs:Li V):Prop:=
  Rd H a (.tup xs) \/
    ∃ (o:Obj) (its:Array vL) (n:Nat),K.lookup a=aa o/\o.cls=.type "tuple"/\o.data=.seq its n/\its.size<=ax/\Vals xs its.toList
noncomputable def absV:vL->Ot V
  |.none=>aa .non
  |.bool b=>aa (.bl b)
  |.int i _=>aa (.int i)
  |.str x _=>aa (.str x)
  |.bytes b _=>aa (.byt b)
  |.float b _=>aa (.flt b)
  |.ref a=>aa (.ref a)
  |.type n=>aa (.ty n)
  |_=>ab
def RelV.abs{x:V}{u:vL}(r:RelV x u):absV u=aa x:=by
  cases x with
  |non=>cases r;rfl
  |bl _=>cases r;rfl
  |int _=>obtain⟨t,rfl⟩:=r;rfl
  |str _=>obtain⟨t,rfl⟩:=r;rfl
  |byt _=>obtain⟨t,rfl⟩:=r;rfl
  |flt _=>obtain⟨t,rfl⟩:=r;rfl
  |ref _=>cases r;rfl
  |ty _=>cases r;rfl
theorem RelV.inj{x y:V}{u:vL}(r:RelV x u)(q:RelV y u):x=y:=av (r.abs.symm.trans q.abs)
theorem Vals.inj:∀ {xs ys:Li V}{us:Li vL},Vals xs us->Vals ys us->xs=ys
  |_,_,_,.nil,.nil=>rfl
  |_,_,_,.cons r t,.cons a t'=>by rw[r.inj a,Vals.inj t t']
variable{K:Fg}
variable{O:St}{xs:Li V}
section
variable{ys:Li V}
def SqT.of(h:H a=aa (.tup xs)):SqT K H a xs:=.inl (.inl h)
def Inv.list(I:Inv X pQ O H s)(h:SqL X.K H a xs):∃ b:Li vL,Vals xs b/\PlainL s.heap a b.toArray/\xs.length<=ax:=by
  rcases h with h|⟨o,b,n,d,g,f,c,i,r⟩
  . obtain⟨z,b,n,r,e⟩:=h.ok I.hok
    exact⟨b,r,⟨_,n,e,rfl,rfl,rfl⟩,z⟩
  . refine⟨b.toList,r,⟨o,n,I.kIn a o d,g,f,by simpa using c⟩,?_⟩
    have e:=r.length;simp only[cN]at e;omega
def Inv.tuple(I:Inv X pQ O H s)(h:SqT X.K H a xs):∃ b:Li vL,Vals xs b/\IsTup s.heap a b.toArray/\xs.length<=ax:=by
  rcases h with h|⟨o,b,n,d,f,c,g,r⟩
  . obtain⟨z,b,r,p⟩:=h.ok I.hok
    exact⟨b,r,p,z⟩
  . refine⟨b.toList,r,⟨o,I.kIn a o d,f,n,by simpa using c⟩,?_⟩
    have e:=r.length;simp only[cN]at e;omega
def Inv.list_inj(I:Inv X pQ O H s)(h:SqL X.K H a xs)(i:SqL X.K H a ys):xs=ys:=by
  obtain⟨c,r,⟨o,n,e,_,_,d⟩,_⟩:=I.list h;obtain⟨b,g,⟨k,l,f,_,_,d'⟩,_⟩:=I.list i;rw[e]at f;cases f
  rw[d]at d'
  injection d' with j _
  have:c=b:=by simpa using au Array.toList j
  subst this;exact r.inj g
def Inv.tuple_inj(I:Inv X pQ O H s)(h:SqT X.K H a xs)(i:SqT X.K H a ys):xs=ys:=by
  obtain⟨c,r,⟨o,e,_,n,d⟩,_⟩:=I.tuple h;obtain⟨b,g,⟨k,f,_,l,d'⟩,_⟩:=I.tuple i;rw[e]at f;cases f
  rw[d]at d'
  injection d' with j _
  have:c=b:=by simpa using au Array.toList j
  subst this;exact r.inj g
end
noncomputable abbrev Cx.wish(X:Cx)(E:vL->Sd->Prop):Cx:={ X with xe:=E }
noncomputable abbrev Cx.nox(X:Cx):Cx:=X.wish λ_ _=>False
theorem Cx.Ok.wish(ok:X.Ok)(E:vL->Sd->Prop):(X.wish E).Ok:=
  ⟨ok.mod,ok.kind,ok.glob,ok.blt,ok.above,ok.inj,ok.has,ok.cab,ok.hd,ok.frames,ok.stk,ok.exf,ok.bs,ok.bsz,ok.noex,ok.exfs,ok.funs,ok.frf⟩
def Cx.Ok.unwish{E:vL->Sd->Prop}(ok:(X.wish E).Ok):X.Ok:=
  ⟨ok.mod,ok.kind,ok.glob,ok.blt,ok.above,ok.inj,ok.has,ok.cab,ok.hd,ok.frames,ok.stk,ok.exf,ok.bs,ok.bsz,ok.noex,ok.exfs,ok.funs,ok.frf⟩
variable{E:vL->Sd->Prop}
theorem Inv.wish(I:Inv X pQ O H s)(E:vL->Sd->Prop):Inv (X.wish E) pQ O H s:=⟨I.ok.wish E,I.os,I.bare,I.base,I.loc,I.cell,I.free,I.freeC,I.pin,I.hok,I.len⟩
theorem Inv.unwish(I:Inv (X.wish E) pQ O H s):Inv X pQ O H s:=⟨I.ok.unwish,I.os,I.bare,I.base,I.loc,I.cell,I.free,I.freeC,I.pin,I.hok,I.len⟩
theorem SP.unwish{D:Ends}{f:Flow}{c:Sd}(h:SP (X.wish E) pQ D f c):SP X pQ D f c:=by
  cases f with
  |next=>obtain⟨a,b,I,q⟩:=h;exact⟨a,b,I.unwish,q⟩
  |brk=>obtain⟨a,b,I,q⟩:=h;exact⟨a,b,I.unwish,q⟩
  |cont=>obtain⟨a,b,I,q⟩:=h;exact⟨a,b,I.unwish,q⟩
  |ret u=>obtain⟨v,a,b,I,r,q⟩:=h;exact⟨v,a,b,I.unwish,r,q⟩
theorem PSs.nox{a:Li Stmt}{t:TS}(h:PSs X.nox a t):PSs X a t:=λpQ s O H D I b=>
  bH (h pQ s O H D (I.wish _) b) (λ_ _ q=>q.unwish) λ_ _ z=>False.elim z
variable{e:ay}{te:TE}
section
variable{st:Stmt}{rest:Li Stmt}{t u:TS}
def tNext:TS:=λD O H=>D.nx O H
def tSeq(t u:TS):TS:=λD O H=>t { D with nx:=u D } O H
def pss_nil:PSs X [] tNext:=λ_ _ O H _ I h=>wpAny_execs_nil ⟨O,H,I,h⟩
def pss_cons(b:PS X st t)(a:PSs X rest u):PSs X (st :: rest) (tSeq t u):=by
  intro pQ s O H D I h;refine wpAny_execs_cons (thn (b pQ s O H { D with nx:=u D } I h) λf s1 q=>?_)
  cases f with
  |next=>
    obtain⟨c,e,d,q⟩:=q;exact a pQ s1 c e D d q
  |ret v=>exact q
  |brk=>exact q
  |cont=>exact q
def tBreak:TS:=λD O H=>D.bk O H
def tCont:TS:=λD O H=>D.ct O H
def ps_pass:PS X (.Pass pos) tNext:=λ_ _ O H _ I h=>wpAny_Pass ⟨O,H,I,h⟩
def ps_break:PS X (.Break pos) tBreak:=λ_ _ O H _ I h=>wpAny_Break ⟨O,H,I,h⟩
def ps_continue:PS X (.Continue pos) tCont:=λ_ _ O H _ I h=>wpAny_Continue ⟨O,H,I,h⟩
def Inv.quiet{O:St}(I:Inv X pQ O H s):interactive X.env=ae:=by simp[interactive,I.ok.kind]
def tDrop(te:TE):TS:=λD O H=>te O H λ_ a=>D.nx O a
def ps_expr(c:PE X e te)(b:swapsWith e ab pos.line X.env=pure ae:=by rfl):PS X (.Expr e pos) (tDrop te):=by
  intro pQ s O H D I h;exact wpAny_Expr_any (thn (c pQ s O H _ I h) λv s1 ⟨x,f,d,g,a⟩=>⟨O,f,d,a⟩) I.quiet b
def tRet(te:TE):TS:=λD O H=>te O H D.rt
def ps_ret(c:PE X e te):PS X (.Return (aa e) pos) (tRet te):=by
  intro pQ s O H D I h;exact wpAny_Return_some (thn (c pQ s O H _ I h) λv s1 ⟨x,f,d,a,b⟩=>⟨x,O,f,d,a,b⟩)
def tIfS(c:TT)(t u:TS):TS:=λD O H=>c O H λb a=>if b=ac then t D O a else u D O a
def ps_if{c:ay}{a b:Li Stmt}{e:TT}(j:PT X c e)(l:PSs X a t)(k:PSs X b u):PS X (.If c a b pos) (tIfS e t u):=by
  intro pQ s O H D I h;refine wpAny_If (thn (j pQ s O H _ I h) λd s1 ⟨i,g,f⟩=>?_)
  cases d with
  |true=>exact l pQ s1 O i D g f
  |false=>exact k pQ s1 O i D g f
end
abbrev TG:=V->St->Hp->(St->Hp->Prop)->Prop
abbrev TGs:=Li V->St->Hp->(St->Hp->Prop)->Prop
def PG(X:Cx)(a:ay)(t:TG):Prop:=
  ∀ (pQ:Li (Ad×Obj)) (s:Sd) (O:St) (H:Hp) (v:V) (u:vL) (Q:St->Hp->Prop),Inv X pQ O H s->RelV v u->t v O H Q->
    a0 (a6 X.prog X.w) X.A (assign a X.env u) (λ_ d=>∃ b c,Inv X pQ b c d/\Q b c) X.xe s
def PGs(X:Cx)(c:Li ay)(t:TGs):Prop:=
  ∀ (pQ:Li (Ad×Obj)) (s:Sd) (O:St) (H:Hp) (vs:Li V) (us:Li vL) (Q:St->Hp->Prop),Inv X pQ O H s->Vals vs us->t vs O H Q->
    a0 (a6 X.prog X.w) X.A (assignInOrder ((assignEach c X.env).map (·.2)) us) (λ_ d=>∃ a b,Inv X pQ a b d/\Q a b) X.xe s
abbrev TSet:=V->V->V->Hp->(Hp->Prop)->Prop
def PSet(X:Cx)(t:TSet):Prop:=
  ∀ (pQ:Li (Ad×Obj)) (s:Sd) (O:St) (H:Hp) (o i v:V) (ov iv u:vL) (Q:Hp->Prop),Inv X pQ O H s->RelV o ov->RelV i iv->RelV v u->t o i v H Q->
    a0 (a6 X.prog X.w) X.A (setItem ov iv u) (λ_ b=>∃ a,Inv X pQ O a b/\Q a) X.xe s
variable{es:Li ay}{n:Nat}{tg:ay}
def gName(i:Nat):TG:=λv O H Q=>Q (O.set i (aa v)) H
def pg_name{x:Str}(hN:X.N.Nodup)(b:X.N[i]?=aa x)(a:Loc X.env.scope x)(c:X.fn x=ac\/X.env.scope.names.lookup x=aa .local:=by first|exact .inl rfl|exact .inr rfl|assumption):PG X (.Name x pos) (gName i):=by
  intro pQ s O H v u Q I r h;exact wpAny_assign_Name (store_ok I hN b a r (λe d=>⟨_,H,d,h⟩) c)
def gNil:TGs:=λa O H Q=>a=[]/\Q O H
def gCons(t:TG)(u:TGs):TGs:=λa O H Q=>∃ v r,a=v :: r/\t v O H λb c=>u r b c Q
def pgs_nil:PGs X [] gNil:=by
  intro pQ s O H a us Q I r h;obtain⟨e,h⟩:=h;subst e;cases r;exact assignInOrder_nil ⟨O,H,I,h⟩
def pgs_cons{e:ay}{t:TG}{u:TGs}(g:PG X e t)(f:PGs X es u)(d:(assignEach (e :: es) X.env).map (·.2)=assign e X.env :: (assignEach es X.env).map (·.2):=by rfl):PGs X (e :: es) (gCons t u):=by
  intro pQ s O H l us Q I r h;obtain⟨v,m,i,h⟩:=h;subst i;cases r with
  |cons r b=>
    rw[d];refine assignInOrder_cons (thn (g pQ s O H _ _ _ I r h) λ_ s1 ⟨a,k,j,c⟩=>?_)
    exact f pQ s1 a k _ _ Q j b c
def gTup(K:Fg)(n:Nat)(t:TGs):TG:=λv O H Q=>∃ a xs,v=.ref a/\SqT K H a xs/\xs.length=n/\t xs O H Q
def pg_tup{k:Nat}{t:TGs}(p:X.calm=ac)(h:PGs X es t)(l:(assignEach es X.env).length=n:=by rfl)(d:(assignEach es X.env).findIdx? (·.1)=ab:=by rfl):PG X (.Tuple es k pos) (gTup X.K n t):=by
  intro pQ s O H v u Q I r c;obtain⟨a,xs,w,j,m,c⟩:=c;subst w;cases r;obtain⟨f,rv,i,y⟩:=I.tuple j;refine assign_Tuple_tuple (I.ok.hd p) i (by simp[l,<-m,rv.length]) d λq g=>?_
  have x:Inv X pQ O H { s with heap:=q }:=I.kept (t':=s.toks) λb o e=>g b o (aZ (aJ e)) e
  exact h pQ _ O H xs _ Q x (by simpa using rv) c
def gSub(a b:TE)(t:TSet):TG:=λv O H Q=>a O H λo e=>b O e λi d=>t o i v d λc=>Q O c
def pg_sub{o i:ay}{c d:TE}{t:TSet}(n:PE X o c)(p:PE X i d)(m:PSet X t)(q:∀ v,assign (.Subscript o i pos) X.env v=(do
      let a <-holding [v] (eval o X.env)
      let b <-holding [v,a] (eval i X.env)
      standAt pos
      holding [v,a,b] (setItem a b v)
      release [v,a,b] []):=by intro _;rfl):PG X (.Subscript o i pos) (gSub c d t):=by
  intro pQ s O H v u Q I r h;rw[q];refine aA (wpAny_holding (thn (n pQ s O H _ I h) λa s1 ⟨x,D,A,g,l⟩=>?_))
  refine aA (wpAny_holding (thn (p pQ s1 O D _ A l) λb e ⟨y,C,z,f,k⟩=>?_))
  refine aA (wpAny_standAt (aA (wpAny_holding (thn (m pQ e O C x y v a b u _ z g f r k) λ_ E ⟨B,w,j⟩=>?_))))
  exact wpAny_release ⟨O,B,w,j⟩
def tAsg(a:TE)(g:TG):TS:=λD O H=>a O H λx b=>g x O b D.nx
def ps_asg{e:ay}{a:TE}{g:TG}(j:PE X e a)(i:PG X tg g)(f:swapsWithSole [tg] e pos.line X.env=pure ae:=by rfl)(d:swappedStores [tg] e X.env=pure ab:=by rfl)(k:(assignEach [tg] X.env).map (·.2)=[assign tg X.env]:=by rfl):PS X (.Assign [tg] e pos) (tAsg a g):=by
  intro pQ s O H D I h;refine wpAny_Assign_stores (thn (j pQ s O H _ I h) λv s1 ⟨x,m,l,b,c⟩=>?_) f d
  rw[k];exact thn (i pQ s1 O m x v _ l b c) λ_ n q=>q
def ps_set{x:Str}{e:ay}{b:TE}{a:Pos}(hN:X.N.Nodup)(j:X.N[i]?=aa x)(f:Loc X.env.scope x)(l:PE X e b)(g:swapsWith e (aa (.Name x a)) pos.line X.env=pure ae:=by rfl)(k:X.fn x=ac\/X.env.scope.names.lookup x=aa .local:=by first|exact .inl rfl|exact .inr rfl|assumption) :
    PS X (.Assign [.Name x a] e pos) (tAsg b (gName i)):=by
  intro pQ s O H D I h;refine wpAny_Assign_Name (thn (l pQ s O H _ I h) λv s1 ⟨y,o,n,c,d⟩=>?_) g
  exact store_ok n hN j f c (λp m=>⟨_,o,m,d⟩) k
variable{body:Li Stmt}
def tWhile(c:TT)(g:TS):TS:=λD O H=>∃ W:Nat->St->Hp->Prop,(∃ m,W m O H)/\∀ m O H,W m O H->
  c O H λb e=>if b=ac then ∃ N:St->Hp->Prop,(∀ d f,N d f->∃ a,a < m/\W a d f)/\g { D with nx:=N,ct:=N,bk:=D.nx } O e else D.nx O e
def ps_while{c:ay}{p:TT}{q:TS}(r:PassesOwn (a6 X.prog X.w) X.A X.env X.xe)(K:PT X c p)(L:PSs X body q):PS X (.While c body [] pos) (tWhile p q):=by
  intro pQ s O H D I h;obtain⟨W,⟨J,E⟩,turn⟩:=h;refine wpAny_While (codeAny_whileLoop (λn G=>∃ u B,Inv X pQ u B G/\W n u B) ?_ J ⟨O,H,I,E⟩)
  rintro n s1 ⟨d,z,M,C⟩
  refine wpAny_passesOwn r (thn (K pQ s1 d z _ M (turn n d z C)) λb F ⟨y,x,i⟩=>?_)
  cases b with
  |true=>
    obtain⟨N,t,i⟩:=i;rw[ao rfl];refine wpAny_passesOwn r (thn (L pQ F d y _ x i) λf P g=>?_)
    cases f with
    |next=>
      obtain⟨a,e,o,k⟩:=g;obtain⟨l,m,j⟩:=t a e k;exact⟨l,m,a,e,o,j⟩
    |cont=>
      obtain⟨a,e,o,k⟩:=g;obtain⟨l,m,j⟩:=t a e k;exact⟨l,m,a,e,o,j⟩
    |brk=>exact g
    |ret v=>exact g
  |false=>
    rw[aq Bf];exact wpAny_execs_nil ⟨d,y,x,i⟩
structure It where
  go:Nat->Hp->Prop
  yld:Nat->Hp->V->Hp->Prop
  stop:Nat->Hp->Prop
def FpOk(X:Cx)(pQ:Li (Ad×Obj))(H:Hp)(b:Ad):Prop:=
  H b=ab/\b≠X.env.locals/\b∉X.fs/\(b∈X.ex\/X.s₀.heap.objs.size<=b)/\(∀ x c,X.env.cells.lookup x=aa c->c≠b)/\∀ p∈X.pn++pQ,p.1≠b
def Inv.fpOk{O:St}{d:Hp}{b:Ad}(I:Inv X pQ O H s)(a:s.heap.objs.size<=b)(g:d b=ab):FpOk X pQ d b:=by
  refine⟨g,Nat.ne_of_gt (aU I.lt a),I.nofs a,.inr (aM I.sz a),λx c e z=>?_,λp f z=>?_⟩
  . obtain⟨v,q⟩:=I.cell x c e
    exact ar (aU q.lt (by rw[z];exact a)) (bZ _)
  . exact ar (aU (aJ (I.pin p f).1) (by rw[z];exact a)) (bZ _)
structure Turn(P:a7)(w:bm)(K:Fg)(tg:ay)(J:It)(fp:List Addr)(it:Addr)(tn:Nat->bj->Prop):Prop where
  mem:it∈fp
  obj:∀ i h,tn i h->∀ b∈fp,∃ o,h.get? b=aa o/\∀ v,o.data≠.cell v
  keep:∀ i h h',tn i h->(∀ b∈fp,∀ o,h.get? b=aa o->h'.get? b=aa o)->tn i h'
  item:∀ (X:Cx),X.prog=P->X.w=w->X.K=K->X.calm=ac->∀ (i:Nat) (pQ:List (Addr×Obj)) (s:Shared) (O:St) (H:Hp) (E:Value->Shared->Prop),Inv X pQ O H s->(∀ b∈fp,FpOk X pQ H b)->tn i s.heap->J.go i H->
    a0 (a6 P w) X.A (pyNext (.ref it)) (λr s1=>∃ u,r=aa u /\
      a0 (a6 P w) X.A (letOwnedTupleGo tg (.ref it) u) (λ_ s2=>∃ x H',Inv X pQ O H' s2/\RelV x u/\J.yld i H x H'/\tn (i+1) s2.heap/\∀ b∈fp,H' b=ab) E s1) E s
  done:∀ (X:Cx),X.prog=P->X.w=w->X.K=K->X.calm=ac->∀ (i:Nat) (pQ:List (Addr×Obj)) (s:Shared) (O:St) (H:Hp) (E:Value->Shared->Prop),Inv X pQ O H s->(∀ b∈fp,FpOk X pQ H b)->tn i s.heap->J.stop i H->
    a0 (a6 P w) X.A (pyNext (.ref it)) (λr s1=>r=ab/\Inv X pQ O H s1) E s
  self:∀ (A:bq) (i:Nat) (s:Shared) (Q:Value->Shared->Prop) (E:Value->Shared->Prop),tn i s.heap->Q (.ref it) s->a0 (a6 P w) A (pyIter (.ref it)) Q E s
abbrev TI:=St->Hp->(It->Hp->Prop)->Prop
def PIE(X:Cx)(pQ:Li (Ad×Obj))(O:St)(tg:ay)(R:It->Hp->Prop)(a:vL)(c:Sd):Prop:=
  ∃ (it:Ad) (fp:Li Ad) (tn:Nat->bj->Prop) (J:It) (H':Hp),a=.ref it/\Inv X pQ O H' c/\Turn X.prog X.w X.K tg J fp it tn/\tn 0 c.heap/\(∀ b∈fp,FpOk X pQ H' b)/\R J H'
def PI(X:Cx)(tg iter:ay)(a:TI):Prop:=
  ∀ (pQ:Li (Ad×Obj)) (s:Sd) (O:St) (H:Hp) (R:It->Hp->Prop),Inv X pQ O H s->a O H R->
    a0 (a6 X.prog X.w) X.A (eval iter X.env) (λv s1=>a0 (a6 X.prog X.w) X.A (pyIter v) (PIE X pQ O tg R) X.xe s1) X.xe s
def go_of{E:vL->Sd->Prop}{c:Ad}{u:vL}{o:Obj}{n:String}{b:Array vL}{Q:Unit->Sd->Prop}(d:s.heap.get? c=aa o)(f:o.cls=.type n)(hd:o.data=.fields b)(e:["enumerate", "zip", "dict_itemiterator", "dict_reverseitemiterator", "odict_iterator", "itertools.zip_longest", "itertools.pairwise"].contains n=ae)(a:Q () s):a0 M A (letOwnedTupleGo tg (.ref c) u) Q E s:=by
  unfold letOwnedTupleGo;cases tg<;>first
    |exact aE a
    | (cases u<;>first
        |exact aE a
        | (refine aA (wpAny_load d ?_)
           rw[f,hd];show a0 M A (if (["enumerate", "zip", "dict_itemiterator", "dict_reverseitemiterator", "odict_iterator", "itertools.zip_longest", "itertools.pairwise"].contains n&&b[0]?==aa (rawInt _))=ac then _ else _) Q E s
           rw[aq (by intro h;rw[e,Bool.false_and]at h;cases h)]
           exact aE a))
noncomputable def Itl(K:Fg)(a:Ad):It:=
  ⟨λi H=>∃ xs x,SqL K H a xs/\xs[i]?=aa x,λi H x b=>b=H/\∀ xs,SqL K H a xs->xs[i]?=aa x,λi H=>∃ xs,SqL K H a xs/\xs.length<=i⟩
noncomputable def Itt(K:Fg)(a:Ad):It:=
  ⟨λi H=>∃ xs x,SqT K H a xs/\xs[i]?=aa x,λi H x b=>b=H/\∀ xs,SqT K H a xs->xs[i]?=aa x,λi H=>∃ xs,SqT K H a xs/\xs.length<=i⟩
noncomputable def Itr(a:Int)(n:Nat):It:=⟨λi _=>i < n,λi H x b=>b=H/\x=.int (a+i),λi _=>n<=i⟩
def turn_list{P:a7}(a g:Ad):Turn P w K tg (Itl K a) [g] g (λi h=>h.IsListIter g a i) where
  mem:=by simp
  obj:=λi h f b j=>by
    have e:b=g:=by simpa using j
    subst e;obtain⟨o,e,c,d⟩:=f;exact⟨o,e,λv z=>by rw[d]at z;cases z⟩
  keep:=λi h q f k=>f.at λo e=>k g (by simp) o e
  item:=by
    intro X B y C M i pQ s O H E I n f A;subst B y C;obtain⟨xs,x,m,t⟩:=A;obtain⟨r,rv,p,Q⟩:=I.list m;obtain⟨u,S,N⟩:=rv.get t;obtain⟨L,J,T,G,F,D⟩:=n g (by simp)
    refine wpAny_pyNext_list_item f p.isList (x:=u) (by simpa using S) λq l sb=>?_
    have V:Inv X pQ O H { s with heap:=q }:=I.turned (t':=s.toks) (λb o j e=>(sb.2 b j).trans e) L J G F D
    obtain⟨o,e,c,d⟩:=id l;exact⟨u,rfl,go_of (s:={ s with heap:=q }) e c d (by decide) ⟨x,H,V,N,⟨rfl,λW R=>by rw[I.list_inj R m];exact t⟩,l,λb j=>(n b j).1⟩⟩
  done:=by
    intro X B y C M i pQ s O H E I n f A;subst B y C;obtain⟨xs,m,t⟩:=A;obtain⟨r,rv,p,Q⟩:=I.list m;obtain⟨L,J,T,G,F,D⟩:=n g (by simp)
    have Y:=rv.length;exact wpAny_pyNext_list_end (I.ok.hd M) f p.isList (by simp;omega) λq U=>⟨rfl,I.turned (t':=s.toks) (λb o j e=>U b o j e) L J G F D⟩
  self:=λ_ _ _ _ _ f h=>wpAny_pyIter_listiter f h
def turn_tuple{P:a7}(a j:Ad):Turn P w K tg (Itt K a) [j] j (λi h=>h.IsTupleIter j a i) where
  mem:=by simp
  obj:=λi h f b l=>by
    have e:b=j:=by simpa using l
    subst e;obtain⟨o,e,c,d⟩:=f;exact⟨o,e,λv z=>by rw[d]at z;cases z⟩
  keep:=λi h r f k=>f.at λo e=>k j (by simp) o e
  item:=by
    intro X B y C M i pQ s O H E I q f A;subst B y C;obtain⟨xs,x,n,t⟩:=A;obtain⟨g,rv,p,Q⟩:=I.tuple n;obtain⟨u,S,N⟩:=rv.get t;obtain⟨L,J,T,G,F,D⟩:=q j (by simp)
    refine wpAny_pyNext_tuple_item f (show s.heap.IsTuple a g.toArray from p) (x:=u) (by simpa using S) λr m sb=>?_
    have V:Inv X pQ O H { s with heap:=r }:=I.turned (t':=s.toks) (λb o l e=>(sb.2 b l).trans e) L J G F D
    obtain⟨o,e,c,d⟩:=id m;exact⟨u,rfl,go_of (s:={ s with heap:=r }) e c d (by decide) ⟨x,H,V,N,⟨rfl,λW R=>by rw[I.tuple_inj R n];exact t⟩,m,λb l=>(q b l).1⟩⟩
  done:=by
    intro X B y C M i pQ s O H E I q f A;subst B y C;obtain⟨xs,n,t⟩:=A;obtain⟨g,rv,p,Q⟩:=I.tuple n;obtain⟨L,J,T,G,F,D⟩:=q j (by simp)
    have Y:=rv.length;exact wpAny_pyNext_tuple_end (I.ok.hd M) f (show s.heap.IsTuple a g.toArray from p) (by simp;omega) λr U=>⟨rfl,I.turned (t':=s.toks) (λb o l e=>U b o l e) L J G F D⟩
  self:=λ_ _ _ _ _ f h=>wpAny_pyIter_tupleiter f h
def turn_range{P:a7}(c:Ad)(g:Int)(n:Nat):Turn P w K tg (Itr g n) [c] c (λi h=>IsRangeIter h c (g+(i:Nat) * 1) ((n:Int) - (i:Nat)) 1) where
  mem:=by simp
  obj:=λi h a b d=>by
    have e:b=c:=by simpa using d
    subst e;exact⟨_,a,λv z=>by
      have F:Data.fields _=Data.cell v:=z;cases F⟩
  keep:=λi h l a k=>k c (by simp) _ a
  item:=by
    intro X r m u q i pQ s O H E I j a p;subst r m u;obtain⟨C,B,L,A,y,x⟩:=j c (by simp)
    have W:=Walks.range (prog:=X.prog) (w:=X.w) (I.ok.hd q) c g 1 n;refine W.item i s _ _ p a λv l D J f G=>?_
    obtain⟨t,rfl⟩:=J;have N:Inv X pQ O H { s with heap:=l,toks:=D }:=I.turned (λb o d e=>G b o (by simpa using d) e) C B A y x
    refine⟨_,rfl,go_of (s:={ s with heap:=l,toks:=D }) (n := "range_iterator") f rfl rfl (by decide) ⟨.int (g+i),H,N,⟨t,?_⟩,⟨rfl,rfl⟩,f,λb d=>(j b d).1⟩⟩
    rw[Int.mul_one]
  done:=by
    intro X r m u q i pQ s O H E I j a p;subst r m u;obtain⟨C,B,L,A,y,x⟩:=j c (by simp)
    exact wpAny_pyNext_range_end (I.ok.hd q) a (by have:n<=i:=p;omega) λl M=>⟨rfl,I.turned (t':=s.toks) (λb o d e=>M b o d e) C B A y x⟩
  self:=λ_ _ _ _ _ a h=>wpAny_pyIter_rangeiter a h
variable{l:ay}{lo:Int}{fp:Li Ad}
variable{tg:ay}
def iList(K:Fg)(tl:TE):TI:=λO H R=>tl O H λx b=>∃ a,x=.ref a/\(∃ xs,SqL K b a xs)/\R (Itl K a) b
def iTup(K:Fg)(tl:TE):TI:=λO H R=>tl O H λx b=>∃ a,x=.ref a/\(∃ xs,SqT K b a xs)/\R (Itt K a) b
def pi_list{tl:TE}(j:PE X l tl):PI X tg l (iList X.K tl):=by
  intro pQ s O H R I h;refine thn (j pQ s O H _ I h) λv s1 ⟨x,m,c,d,f⟩=>?_
  obtain⟨a,e,⟨xs,i⟩,q⟩:=f;subst e;cases d;obtain⟨g,rv,p,n⟩:=c.list i;refine wpAny_pyIter_list p.isList ?_;refine⟨s1.heap.objs.size,[s1.heap.objs.size],_,_,m,rfl,c.kept (t':=s1.toks) λb o e=>aL _ e,turn_list a _,⟨_,aX _ rfl,rfl,rfl⟩,λb k=>?_,q⟩
  have e:b=s1.heap.objs.size:=by simpa using k
  subst e;exact c.fpOk (aD _) (c.hok.fresh (aD _))
def pi_tup{tl:TE}(j:PE X l tl):PI X tg l (iTup X.K tl):=by
  intro pQ s O H R I h;refine thn (j pQ s O H _ I h) λv s1 ⟨x,m,c,f,g⟩=>?_
  obtain⟨a,e,⟨xs,i⟩,q⟩:=g;subst e;cases f;obtain⟨d,rv,p,n⟩:=c.tuple i;refine wpAny_pyIter_tuple (show s1.heap.IsTuple a d.toArray from p) ?_;refine⟨s1.heap.objs.size,[s1.heap.objs.size],_,_,m,rfl,c.kept (t':=s1.toks) λb o e=>aL _ e,turn_tuple a _,⟨_,aX _ rfl,rfl,rfl⟩,λb k=>?_,q⟩
  have e:b=s1.heap.objs.size:=by simpa using k
  subst e;exact c.fpOk (aD _) (c.hok.fresh (aD _))
def range_it{O:St}{R:It->Hp->Prop}{E:vL->Sd->Prop}{a:Int}{t u v:Tok}{c:Nat}(I:Inv X pQ O H s)(j:-(2 ^ 62)<=lo)(i:lo < 2 ^ 62)(h:-(2 ^ 62)<=a)(g:a < 2 ^ 62)(q:R (Itr lo (a - lo).toNat) H):a0 (a6 X.prog X.w) X.A (pyIter (.ref s.heap.objs.size)) (PIE X pQ O tg R) E { s with heap:=s.heap.push { cls:=.type "range",data:=.fields #[.int lo t,.int a u,.int 1 v] },toks:=c }:=by
  refine wpAny_pyIter_range (IsRange.new ..) (small_one j i h g) ?_;have d:Inv X pQ O H { s with heap:=s.heap.push { cls:=.type "range",data:=.fields #[.int lo t,.int a u,.int 1 v] },toks:=c }:=I.kept λb o e=>aL _ e
  refine⟨(s.heap.push { cls:=.type "range",data:=.fields #[.int lo t,.int a u,.int 1 v] }).objs.size,[(s.heap.push { cls:=.type "range",data:=.fields #[.int lo t,.int a u,.int 1 v] }).objs.size],_,_,H,rfl,
    d.kept (t':=c) λb o e=>aL _ e,turn_range _ lo (a - lo).toNat,?_,λb f=>?_,q⟩
  . have l:lo+((0:Nat):Int) * 1=lo:=by simp
    have k:(((a - lo).toNat:Nat):Int) - ((0:Nat):Int)=Builtin.Range.rangeSize lo a 1:=by rw[rangeSize_one];split<;>omega
    show IsRangeIter _ _ (lo+((0:Nat):Int) * 1) ((((a - lo).toNat:Nat):Int) - ((0:Nat):Int)) 1;rw[l,k];exact aX _ rfl
  . have e:b=(s.heap.push { cls:=.type "range",data:=.fields #[.int lo t,.int a u,.int 1 v] }).objs.size:=by simpa using f
    subst e;exact d.fpOk (aD _) (d.hok.fresh (aD _))
def iRng1(b:TA):TI:=λO H R=>b O H λa c=>∃ j:Int,a=[.int j]/\-(2 ^ 62)<=j/\j < 2 ^ 62/\R (Itr 0 j.toNat) c
def pi_range1{a:ay}{d:TA}{p b:Pos}(m:Gl X "range")(l:X.mg "range"=ab)(n:PA X [a] d)(k:bc [a] X.env=[(ae,eval a X.env)]:=by rfl):PI X tg (.Call (.Name "range" p) [a] [] b) (iRng1 d):=by
  intro pQ s O H R I h;refine Call_ (ld_blt I m l boot_range (PyProof.Rows.callWith_type1 (thn (n b pQ s O H _ I h) λus s1 ⟨u,v,o,g,c⟩=>?_) k rfl))
  obtain⟨j,e,c,i,q⟩:=c;subst e;cases g with
  |cons r f=>
    cases f;obtain⟨t,rfl⟩:=r;exact call_range_1 (range_it o (by omega) (by omega) c i (by simpa using q))
def tFor(e:TI)(g:TG)(f:TS):TS:=λD O H=>e O H λJ j=>∃ W:Nat->Nat->St->Hp->Prop,(∃ m,W 0 m O j)/\∀ i m O H,W i m O H->
  (J.stop i H/\D.nx O H)\/(J.go i H/\∃ N:St->Hp->Prop,(∀ d a,N d a->∃ c,c < m/\W (i+1) c d a)/\∀ x a,J.yld i H x a->g x O a λb h=>f { D with nx:=N,ct:=N,bk:=D.nx } b h)
noncomputable def pinsAt(fp:Li Ad)(h:bj):Li (Ad×Obj):=fp.filterMap λb=>(h.get? b).map λo=>(b,o)
def mem_pinsAt{b:Ad}{o:Obj}(a:b∈fp)(e:h.get? b=aa o):(b,o)∈pinsAt fp h:=List.mem_filterMap.mpr ⟨b,a,by rw[e];rfl⟩
def of_pinsAt{p:Ad×Obj}(a:p∈pinsAt fp h):p.1∈fp/\h.get? p.1=aa p.2:=by
  obtain⟨b,c,e⟩:=List.mem_filterMap.mp a;cases q:h.get? b with
  |none=>rw[q]at e;cases e
  |some o=>
    rw[q]at e;have d:(b,o)=p:=av e;subst d;exact⟨c,q⟩
def Inv.pinned{O:St}{fp:Li Ad}(I:Inv X pQ O H s)(h:∀ b∈fp,FpOk X pQ H b)(g:∀ b∈fp,∃ o,s.heap.get? b=aa o/\∀ v,o.data≠.cell v):Inv X (pQ++pinsAt fp s.heap) O H s:=
  I.pins_of λp f=>(bA.mp f).elim (λz=>I.pin p (bO _ z)) λz=>by
    obtain⟨a,e⟩:=of_pinsAt z;obtain⟨k,j,i,_⟩:=h p.1 a;obtain⟨o,c,d⟩:=g p.1 a;rw[e]at c;cases c
    exact⟨e,k,j,i,d⟩
def Inv.unpinned{a:Li (Ad×Obj)}{O:St}(I:Inv X (pQ++a) O H s):Inv X pQ O H s:=I.pins_of λp b=>I.pin p (bO _ (dC _ b))
def ps_for{iter:ay}{V:TI}{g:TG}{Z:TS}{Q:Pos}(E:PassesOwn (a6 X.prog X.w) X.A X.env X.xe)(hc:X.calm=ac)(hi:PI X tg iter V)(hg:PG X tg g)(k:PSs X body Z)(hs:∀ x,foldedSetIterable iter X.env x=pure x:=by intro _;rfl):PS X (.For tg iter body [] Q) (tFor V g Z):=by
  intro pQ s O H D I h;refine wpAny_For (thn (hi pQ s O H _ I h) λv s1 h1=>thn h1 λitv s2 h2=>?_) hs
  obtain⟨it,fp,Y,J,H2,e,I2,T,M,f2,W,⟨m0,w0⟩,turn⟩:=h2;subst e
  -- what stays ac of the iterator's objects through the loop
  have j:∀ {t:Hp},(∀ b∈fp,t b=ab)->∀ b∈fp,FpOk X pQ t b:=λhn b k=>⟨hn b k,(f2 b k).2⟩
  refine codeAny_forLoop_any (λn s'=>∃ i G t,Inv X pQ G t s'/\Y i s'.heap/\(∀ b∈fp,t b=ab)/\W i n G t) ?_ m0 ⟨0,O,H2,I2,M,λb k=>(f2 b k).1,w0⟩
  rintro n s3 ⟨i,c,K,I3,B,F,w3⟩
  rcases turn i n c K w3 with⟨stop,qn⟩|⟨go,N,hN,step⟩
  . refine wpAny_passesOwn E (thn (T.done X rfl rfl rfl hc i pQ s3 c K X.xe I3 (j F) B stop) λr s4 ⟨R,I4⟩=>?_)
    subst R;exact wpAny_execs_nil ⟨c,K,I4,qn⟩
  . refine wpAny_passesOwn E (thn (T.item X rfl rfl rfl hc i pQ s3 c K X.xe I3 (j F) B go) λr s4 ⟨u,R,h4⟩=>?_)
    subst R;refine wpAny_passesOwn E (thn h4 λ_ s5 ⟨x,H5,I5,r5,y5,z,S⟩=>?_)
    have U:=I5.pinned (j S) (T.obj _ _ z);refine wpAny_passesOwn E (thn (hg _ s5 c H5 x u _ U r5 (step x H5 y5)) λ_ s6 ⟨L,H6,I6,q6⟩=>?_)
    refine wpAny_passesOwn E (thn (k _ s6 L H6 _ I6 q6) λf P y=>?_)
    have l:∀ {a:St}{q:Hp},Inv X (pQ++pinsAt fp s5.heap) a q P->N a q->∃ m,m < n/\∃ i G t,Inv X pQ G t P/\Y i P.heap/\(∀ b∈fp,t b=ab)/\W i m G t:=λ{a q} p C=>by
      obtain⟨m',hm,w7⟩:=hN a q C;refine⟨m',hm,i+1,a,q,p.unpinned,T.keep _ _ _ z λb k o e=>(p.pin (b,o) (bO _ (bO _ (mem_pinsAt k e)))).1,λb k=>?_,w7⟩
      obtain⟨o,e,d⟩:=T.obj _ _ z b k;exact(p.pin (b,o) (bO _ (bO _ (mem_pinsAt k e)))).2.1
    cases f with
    |next=>obtain⟨a,q,p,C⟩:=y;exact l p C
    |cont=>obtain⟨a,q,p,C⟩:=y;exact l p C
    |brk=>obtain⟨a,q,p,y⟩:=y;exact⟨a,q,p.unpinned,y⟩
    |ret v=>obtain⟨x7,a,q,p,r7,y⟩:=y;exact⟨x7,a,q,p.unpinned,r7,y⟩
def for_tup{a:Ad}{g:TG}{k:TS}{D:Ends}{O:St}{H:Hp}(b:Nat->St->Hp->Prop)(t:b 0 O H)(r:∀ i O H,i<=xs.length->b i O H->SqT K H a xs)(o:∀ i x O H,xs[i]?=aa x->b i O H->g x O H λc j=>k { D with nx:=b (i+1),ct:=b (i+1),bk:=D.nx } c j)(hd:∀ O H,b xs.length O H->D.nx O H) :
    ∃ W:Nat->Nat->St->Hp->Prop,(∃ m,W 0 m O H)/\∀ i m O H,W i m O H->
      ((Itt K a).stop i H/\D.nx O H)\/((Itt K a).go i H/\∃ N:St->Hp->Prop,(∀ h d,N h d->∃ l,l < m/\W (i+1) l h d)/\∀ x d,(Itt K a).yld i H x d->g x O d λc j=>k { D with nx:=N,ct:=N,bk:=D.nx } c j):=by
  refine⟨λi m O H=>m=xs.length - i/\i<=xs.length/\b i O H,⟨xs.length,by simp,aS _,t⟩,?_⟩
  rintro i m O H ⟨rfl,s,p⟩
  have q:=r i O H s p;by_cases f:i < xs.length
  . refine .inr ⟨⟨xs,xs[i],q,by simp[f]⟩,b (i+1),λh d n=>⟨xs.length - (i+1),by omega,rfl,f,n⟩,λx d y=>?_⟩
    obtain⟨e,y⟩:=y;subst e;exact o i x O _ (y xs q) p
  . have e:i=xs.length:=by omega
    subst e;exact .inl ⟨⟨xs,q,aD _⟩,hd O H p⟩
def for_range{g:TG}{j:TS}{D:Ends}{O:St}{H:Hp}(c:Nat->St->Hp->Prop)(q:c 0 O H)(o:∀ i O H,i < n->c i O H->g (.int (lo+i)) O H λa h=>j { D with nx:=c (i+1),ct:=c (i+1),bk:=D.nx } a h)(hd:∀ O H,c n O H->D.nx O H) :
    ∃ W:Nat->Nat->St->Hp->Prop,(∃ m,W 0 m O H)/\∀ i m O H,W i m O H->
      ((Itr lo n).stop i H/\D.nx O H)\/((Itr lo n).go i H/\∃ N:St->Hp->Prop,(∀ f d,N f d->∃ k,k < m/\W (i+1) k f d)/\∀ x d,(Itr lo n).yld i H x d->g x O d λa h=>j { D with nx:=N,ct:=N,bk:=D.nx } a h):=by
  refine⟨λi m O H=>m=n - i/\i<=n/\c i O H,⟨n,by simp,aS _,q⟩,?_⟩
  rintro i m O H ⟨rfl,r,p⟩
  by_cases b:i < n
  . refine .inr ⟨b,c (i+1),λf d l=>⟨n - (i+1),by omega,rfl,b,l⟩,λx d y=>?_⟩
    obtain⟨e,y⟩:=y;subst e y;exact o i O _ b p
  . have e:i=n:=by omega
    subst e;exact .inl ⟨aD _,hd O H p⟩
abbrev R2:=V->V->Hp->VK->Prop
def OpR(X:Cx)(f:vL->vL->Sem vL)(r:R2):Prop:=
  ∀ (pQ:Li (Ad×Obj)) (s:Sd) (O:St) (H:Hp) (x y:V) (v u:vL) (Q:VK),Inv X pQ O H s->RelV x v->RelV y u->r x y H Q->
    a0 (a6 X.prog X.w) X.A (f v u) (EP X pQ O Q) X.xe s
def UnR(X:Cx)(f:vL->Sem vL)(r:V->Hp->VK->Prop):Prop:=
  ∀ (pQ:Li (Ad×Obj)) (s:Sd) (O:St) (H:Hp) (x:V) (v:vL) (Q:VK),Inv X pQ O H s->RelV x v->r x H Q->
    a0 (a6 X.prog X.w) X.A (f v) (EP X pQ O Q) X.xe s
def CallR(X:Cx)(f:vL)(r:Li V->Hp->VK->Prop):Prop:=
  ∀ (pQ:Li (Ad×Obj)) (s:Sd) (O:St) (H:Hp) (xs:Li V) (us:Li vL) (Q:VK),Inv X pQ O H s->Vals xs us->r xs H Q->
    a0 (a6 X.prog X.w) X.A (call f us) (EP X pQ O Q) X.xe s
def tOp(r:R2)(b a:TE):TE:=λO H Q=>b O H λx d=>a O d λy c=>r x y c Q
def tUn(r:V->Hp->VK->Prop)(a:TE):TE:=λO H Q=>a O H λx b=>r x b Q
def rI(C:Int->Int->Prop)(g:Int->Int->V):R2:=λx y H Q=>∃ i j,x=.int i/\y=.int j/\C i j/\Q (g i j) H
def rI0(g:Int->Int->V):R2:=λx y H Q=>∃ i j,x=.int i/\y=.int j/\Q (g i j) H
def rU(g:Int->V):V->Hp->VK->Prop:=λx H Q=>∃ i,x=.int i/\Q (g i) H
variable{c:ay}{tc:TE}
section
variable{a:ay}
def binT(p:PE X a ta)(o:PE X b tb){O:St}{R:V->V->Hp->Prop}(I:Inv X pQ O H s)(h:ta O H λx i=>tb O i λy c=>R x y c){f:vL->vL->Sem vL}(n:∀ v u g x y c,Inv X pQ O c g->RelV x v->RelV y u->R x y c->a0 (a6 X.prog X.w) X.A (f v u) Q X.xe g) :
    a0 (a6 X.prog X.w) X.A (eval a X.env) (λv e=>a0 (a6 X.prog X.w) X.A (eval b X.env) (λu d=>a0 (a6 X.prog X.w) X.A (f v u) Q X.xe d) X.xe e) X.xe s:=by
  refine thn (p pQ s O H _ I h) λv s1 ⟨x,i,r,k,m⟩=>?_
  refine thn (o pQ s1 O i _ r m) λu g ⟨y,c,q,j,l⟩=>?_
  exact n v u g x y c q k j l
def pe_op{c:Operator}{r:R2}(g:OpR X (br c) r)(j:PE X a ta)(i:PE X b tb):PE X (.BinOp a c b pos) (tOp r ta tb):=by
  intro pQ s O H Q I h;exact wpAny_BinOp (binT j i I h λv u d x y l k f e q=>g pQ d O l x y v u Q k f e q)
def pe_un{b:UnaryOp}{r:V->Hp->VK->Prop}(e:UnR X (unaryOp b) r)(f:PE X a ta):PE X (.UnaryOp b a pos) (tUn r ta):=by
  intro pQ s O H Q I h;exact UnaryOp_ (thn (f pQ s O H _ I h) λv s1 ⟨x,i,g,c,d⟩=>e pQ s1 O i x v Q g c d)
def opI{f:vL->vL->Sem vL}{C:Int->Int->Prop}{g:Int->Int->Int}(a:∀ (i j:Int) (t u:Tok) (s:Sd) (Q:vL->Sd->Prop) (E:vL->Sd->Prop),C i j->Q (.int (g i j) s.toks) { s with toks:=s.toks+1 }->a0 (a6 X.prog X.w) X.A (f (.int i t) (.int j u)) Q E s) :
    OpR X f (rI C λi j=>.int (g i j)):=by
  intro pQ s O H x y v u Q I c b h;obtain⟨i,j,rfl,rfl,d,q⟩:=h;obtain⟨t,rfl⟩:=c;obtain⟨t',rfl⟩:=b;exact a i j t t' s _ _ d ⟨.int (g i j),H,I.tok _,⟨_,rfl⟩,q⟩
def opI0{f:vL->vL->Sem vL}{g:Int->Int->Int}(a:∀ (i j:Int) (t u:Tok) (s:Sd) (Q:vL->Sd->Prop) (E:vL->Sd->Prop),Q (.int (g i j) s.toks) { s with toks:=s.toks+1 }->a0 (a6 X.prog X.w) X.A (f (.int i t) (.int j u)) Q E s) :
    OpR X f (rI0 λi j=>.int (g i j)):=by
  intro pQ s O H x y v u Q I c b h;obtain⟨i,j,rfl,rfl,q⟩:=h;obtain⟨t,rfl⟩:=c;obtain⟨t',rfl⟩:=b;exact a i j t t' s _ _ ⟨.int (g i j),H,I.tok _,⟨_,rfl⟩,q⟩
def opB0{f:vL->vL->Sem vL}{g:Int->Int->Bool}(a:∀ (i j:Int) (t u:Tok) (s:Sd) (Q:vL->Sd->Prop) (E:vL->Sd->Prop),Q (.bool (g i j)) s->a0 (a6 X.prog X.w) X.A (f (.int i t) (.int j u)) Q E s) :
    OpR X f (rI0 λi j=>.bl (g i j)):=by
  intro pQ s O H x y v u Q I c b h;obtain⟨i,j,rfl,rfl,q⟩:=h;obtain⟨t,rfl⟩:=c;obtain⟨t',rfl⟩:=b;exact a i j t t' s _ _ ⟨.bl (g i j),H,I,rfl,q⟩
def CDiv(i j:Int):Prop:=0 < j/\j < 1073741824
def CDivN(i j:Int):Prop:=j≠0/\j.natAbs < 1073741824
def CPow(i j:Int):Prop:=0<=j/\j<=1000000/\i.natAbs < 2 ^ 64
def CMul(i j:Int):Prop:=(-(2 ^ 64) < i/\i < 2 ^ 64)\/(-(2 ^ 64) < j/\j < 2 ^ 64)
def CMul.ok{i j:Int}(h:CMul i j):IntMulOk i j:=by
  rcases h with⟨b,a⟩|⟨b,a⟩
  . exact .of_left (intBits_le_64 b a)
  . exact .of_right (intBits_le_64 b a)
def op_add:OpR X (br .Add) (rI0 λi j=>.int (i+j)):=opI0 λ_ _ _ _ _ _ _ q=>add_int q
def op_sub:OpR X (br .Sub) (rI0 λi j=>.int (i - j)):=opI0 λ_ _ _ _ _ _ _ q=>sub_int q
def op_mul:OpR X (br .Mult) (rI CMul λi j=>.int (i * j)):=opI λ_ _ _ _ _ _ _ a q=>mul_int q a.ok
def op_fdiv:OpR X (br .FloorDiv) (rI CDiv λi j=>.int (i / j)):=opI λi j _ _ _ _ _ a q=>by
  have c:(0:Int) < j:=a.1;have b:j < 1073741824:=a.2;exact floordiv_int (by omega) (by rw[Int.fdiv_eq_ediv_of_nonneg i (by omega)];exact q) (.inl (PyProof.noPylong_small (by omega)))
def op_fdivN:OpR X (br .FloorDiv) (rI CDivN λi j=>.int (i.fdiv j)):=opI λ_ _ _ _ _ _ _ a q=>floordiv_int a.1 q (.inl (PyProof.noPylong_small a.2))
def op_mod:OpR X (br .Mod) (rI (λ_ j=>0 < j) λi j=>.int (i % j)):=opI λi j _ _ _ _ _ a q=>by
  have b:(0:Int) < j:=a;exact mod_int' (by omega) (by rw[Int.fmod_eq_emod_of_nonneg i (by omega)];exact q)
def op_modN:OpR X (br .Mod) (rI (λ_ j=>j≠0) λi j=>.int (i.fmod j)):=opI λ_ _ _ _ _ _ _ a q=>mod_int' a q
def op_pow:OpR X (br .Pow) (rI CPow λi j=>.int (i ^ j.toNat)):=opI λ_ _ _ _ _ _ _ a q=>pow_int_small a.1 a.2.1 a.2.2 q
def op_and:OpR X (br .BitAnd) (rI0 λi j=>.int (Builtin.bitAnd i j)):=opI0 λ_ _ _ _ _ _ _ q=>and_int q
def op_or:OpR X (br .BitOr) (rI0 λi j=>.int (Builtin.bitOr i j)):=opI0 λ_ _ _ _ _ _ _ q=>or_int q
def unI{f:vL->Sem vL}{g:Int->Int}(a:∀ (i:Int) (t:Tok) (s:Sd) (Q:vL->Sd->Prop) (E:vL->Sd->Prop),Q (.int (g i) s.toks) { s with toks:=s.toks+1 }->a0 (a6 X.prog X.w) X.A (f (.int i t)) Q E s) :
    UnR X f (rU λi=>.int (g i)):=by
  intro pQ s O H x v Q I b h;obtain⟨i,rfl,q⟩:=h;obtain⟨t,rfl⟩:=b;exact a i t s _ _ ⟨.int (g i),H,I.tok _,⟨_,rfl⟩,q⟩
def un_neg:UnR X (unaryOp .USub) (rU λi=>.int (-i)):=unI λ_ _ _ _ _ q=>neg_int q
def un_inv:UnR X (unaryOp .Invert) (rU λi=>.int (Builtin.bitNot i)):=unI λ_ _ _ _ _ q=>invert_int q
end
noncomputable def scal:V->V->Bool
  |.non,.non=>ac|.non,.int _=>ac|.int _,.non=>ac|.non,.bl _=>ac|.bl _,.non=>ac|.non,.str _=>ac|.str _,.non=>ac
  |.int _,.int _=>ac|.bl _,.bl _=>ac|.str _,.str _=>ac|.byt _,.byt _=>ac
  |.int _,.str _=>ac|.str _,.int _=>ac|.bl _,.str _=>ac|.str _,.bl _=>ac
  |_,_=>ae
def rEq:R2:=λx y H Q=>scal x y=ac/\Q (.bl (aj (x=y))) H
def rNe:R2:=λx y H Q=>scal x y=ac/\Q (.bl (!decide (x=y))) H
def dec_int{i j:Int}:aj (V.int i=V.int j)=(i==j):=by
  rw[cC];simp
def dec_bl{i j:Bool}:aj (V.bl i=V.bl j)=(i==j):=by
  rw[cC];simp
def dec_str{i j:Str}:aj (V.str i=V.str j)=(i==j):=by
  rw[cC];simp
def dec_byt{i j:Array UInt8}:aj (V.byt i=V.byt j)=(i.toList==j.toList):=by
  rw[cC];cases i;cases j;simp
variable{op:CmpOp}
section
variable{a:ay}
def fin_bl{O:St}{Q:VK}{k a:Bool}(I:Inv X pQ O H s)(q:Q (.bl k) H)(e:k=a):EP X pQ O Q (.bool a) s:=by
  subst e;exact⟨.bl k,H,I,rfl,q⟩
def op_eq:OpR X (bo .Eq) rEq:=by
  intro pQ s O H x y v u Q I c a h;obtain⟨b,q⟩:=h;cases x with
  |non=>
    cases c;cases y with
    |non=>cases a;exact PySem.EqNone.eq_none_none (fin_bl I q (by simp))
    |bl j=>cases a;exact PySem.EqNone.eq_none_bool (fin_bl I q (by simp))
    |int j=>obtain⟨t',rfl⟩:=a;exact PySem.EqNone.eq_none_int (fin_bl I q (by simp))
    |str j=>obtain⟨t',rfl⟩:=a;exact PySem.EqNone.eq_none_str (fin_bl I q (by simp))
    |_=>exact ar (show ae=ac from b) Bf
  |bl i=>
    cases c;cases y with
    |non=>cases a;exact PySem.EqNone.eq_bool_none (fin_bl I q (by simp))
    |bl j=>cases a;exact eq_bool (fin_bl I q dec_bl)
    |str j=>obtain⟨t',rfl⟩:=a;exact PySem.EqMixed.eq_bool_str (fin_bl I q (by simp))
    |_=>exact ar (show ae=ac from b) Bf
  |int i=>
    obtain⟨t,rfl⟩:=c;cases y with
    |non=>cases a;exact PySem.EqNone.eq_int_none (fin_bl I q (by simp))
    |int j=>obtain⟨t',rfl⟩:=a;exact eq_int (fin_bl I q dec_int)
    |str j=>obtain⟨t',rfl⟩:=a;exact PySem.EqMixed.eq_int_str (fin_bl I q (by simp))
    |_=>exact ar (show ae=ac from b) Bf
  |str i=>
    obtain⟨t,rfl⟩:=c;cases y with
    |non=>cases a;exact PySem.EqNone.eq_str_none (fin_bl I q (by simp))
    |bl j=>cases a;exact PySem.EqMixed.eq_str_bool (fin_bl I q (by simp))
    |int j=>obtain⟨t',rfl⟩:=a;exact PySem.EqMixed.eq_str_int (fin_bl I q (by simp))
    |str j=>obtain⟨t',rfl⟩:=a;exact eq_str (fin_bl I q dec_str)
    |_=>exact ar (show ae=ac from b) Bf
  |byt i=>
    obtain⟨t,rfl⟩:=c;cases y with
    |byt j=>obtain⟨t',rfl⟩:=a;exact W.eq_bytes (fin_bl I q dec_byt)
    |_=>exact ar (show ae=ac from b) Bf
  |_=>cases y<;>exact ar (show ae=ac from b) Bf
def op_ne:OpR X (bo .NotEq) rNe:=by
  intro pQ s O H x y v u Q I c a h;obtain⟨b,q⟩:=h;cases x with
  |non=>
    cases c;cases y with
    |non=>cases a;exact PySem.EqNone.ne_none_none (fin_bl I q (by simp))
    |bl j=>cases a;exact PySem.EqNone.ne_none_bool (fin_bl I q (by simp))
    |int j=>obtain⟨t',rfl⟩:=a;exact PySem.EqNone.ne_none_int (fin_bl I q (by simp))
    |str j=>obtain⟨t',rfl⟩:=a;exact PySem.EqNone.ne_none_str (fin_bl I q (by simp))
    |_=>exact ar (show ae=ac from b) Bf
  |bl i=>
    cases c;cases y with
    |non=>cases a;exact PySem.EqNone.ne_bool_none (fin_bl I q (by simp))
    |bl j=>cases a;exact ne_bool (fin_bl I q (au not dec_bl))
    |str j=>obtain⟨t',rfl⟩:=a;exact PySem.EqMixed.ne_bool_str (fin_bl I q (by simp))
    |_=>exact ar (show ae=ac from b) Bf
  |int i=>
    obtain⟨t,rfl⟩:=c;cases y with
    |non=>cases a;exact PySem.EqNone.ne_int_none (fin_bl I q (by simp))
    |int j=>obtain⟨t',rfl⟩:=a;exact ne_int (fin_bl I q (au not dec_int))
    |str j=>obtain⟨t',rfl⟩:=a;exact PySem.EqMixed.ne_int_str (fin_bl I q (by simp))
    |_=>exact ar (show ae=ac from b) Bf
  |str i=>
    obtain⟨t,rfl⟩:=c;cases y with
    |non=>cases a;exact PySem.EqNone.ne_str_none (fin_bl I q (by simp))
    |bl j=>cases a;exact PySem.EqMixed.ne_str_bool (fin_bl I q (by simp))
    |int j=>obtain⟨t',rfl⟩:=a;exact PySem.EqMixed.ne_str_int (fin_bl I q (by simp))
    |str j=>obtain⟨t',rfl⟩:=a;exact ne_str (fin_bl I q (au not dec_str))
    |_=>exact ar (show ae=ac from b) Bf
  |byt i=>
    obtain⟨t,rfl⟩:=c;cases y with
    |byt j=>obtain⟨t',rfl⟩:=a;exact W.ne_bytes (fin_bl I q (au not dec_byt))
    |_=>exact ar (show ae=ac from b) Bf
  |_=>cases y<;>exact ar (show ae=ac from b) Bf
def op_lt:OpR X (bo .Lt) (rI0 λi j=>.bl (aj (i < j))):=opB0 λ_ _ _ _ _ _ _ q=>lt_int q
def op_le:OpR X (bo .LtE) (rI0 λi j=>.bl (aj (i<=j))):=opB0 λ_ _ _ _ _ _ _ q=>le_int q
def op_gt:OpR X (bo .Gt) (rI0 λi j=>.bl (aj (j < i))):=opB0 λ_ _ _ _ _ _ _ q=>gt_int q
def op_ge:OpR X (bo .GtE) (rI0 λi j=>.bl (aj (j<=i))):=opB0 λ_ _ _ _ _ _ _ q=>ge_int q
def op_in_str:OpR X (bo .In) (λx y H Q=>∃ i j,x=.str i/\y=.str j/\Q (.bl (!(Builtin.Str.occurrences j i 0 j.length 1).isEmpty)) H):=by
  intro pQ s O H x y v u Q I b a h;obtain⟨i,j,rfl,rfl,q⟩:=h;obtain⟨t,rfl⟩:=b;obtain⟨t',rfl⟩:=a;exact in_str (fin_bl I q rfl)
def op_isN:OpR X (bo .Is) (λx y H Q=>y=.non/\Q (.bl (aj (x=.non))) H):=by
  intro pQ s O H x y v u Q I a b h;obtain⟨rfl,q⟩:=h;cases b;refine is_none_gen (fin_bl I q ?_);cases x<;>first
    | (cases a;rfl)
    | (obtain⟨t,rfl⟩:=a;rfl)
def op_notN:OpR X (bo .IsNot) (λx y H Q=>y=.non/\Q (.bl (!decide (x=.non))) H):=by
  intro pQ s O H x y v u Q I a b h;obtain⟨rfl,q⟩:=h;cases b;refine isnot_none_gen (fin_bl I q ?_);cases x<;>first
    | (cases a;rfl)
    | (obtain⟨t,rfl⟩:=a;rfl)
def pe_cmpR{r:R2}(f:OpR X (bo op) r)(j:PE X a ta)(i:PE X b tb)(g:behindInMarks op b=ae):PE X (.Compare a [op] [b] pos) (tOp r ta tb):=by
  intro pQ s O H Q I h;exact wpAny_Compare1 (binT j i I h λv u c x y l k e d q=>f pQ c O l x y v u Q k e d q) g
def tTest(t:TE):TT:=λO H Q=>t O H λx a=>∃ k,x=.bl k/\Q k a
def pt_cmpR{r:R2}(n:OpR X (bo op) r)(q:PE X a ta)(p:PE X b tb)(o:behindInMarks op b=ae):PT X (.Compare a [op] [b] pos) (tTest (tOp r ta tb)):=by
  intro pQ s O H Q I h;refine wpAny_isTrue_Compare1 (thn (q pQ s O H _ I h) λv s1 ⟨x,D,A,i,m⟩=>thn (p pQ s1 O D _ A m) λu d ⟨y,C,w,g,l⟩=>
    thn (n pQ d O C x y v u _ w i g l) λc E ⟨z,B,t,f,k,e,j⟩=>?_) o
  subst e;cases f;exact wpAny_truthy_bool ⟨B,t,j⟩
def line63:(ax:Nat) < 2 ^ 63:=by rw[sizeLine_eq];decide
def op_add_str:OpR X (br .Add) (λx y H Q=>∃ i j,x=.str i/\y=.str j/\i.length+j.length<=ax/\Q (.str (i++j)) H):=by
  intro pQ s O H x y v u Q I b a h;obtain⟨i,j,rfl,rfl,c,q⟩:=h;obtain⟨t,rfl⟩:=b;obtain⟨t',rfl⟩:=a;exact add_str (λt' d=>⟨.str (i++j),H,I.tok _,⟨_,rfl⟩,q⟩) c
def vals1{x:V}(r:Vals [x] us):∃ u,us=[u]/\RelV x u:=by
  cases r with
  |cons b a=>cases a;exact⟨_,rfl,b⟩
def vals2{x y:V}(r:Vals [x,y] us):∃ u a,us=[u,a]/\RelV x u/\RelV y a:=by
  cases r with
  |cons e d=>
    cases d with
    |cons c b=>cases b;exact⟨_,_,rfl,e,c⟩
def call_max2(b:X.calm=ac):CallR X (.builtin "max") (λxs H Q=>∃ i j,xs=[.int i,.int j]/\Q (.int (if j > i then j else i)) H):=by
  intro pQ s O H xs us Q I r h;obtain⟨i,j,rfl,q⟩:=h;obtain⟨u,c,rfl,⟨t,rfl⟩,⟨t',rfl⟩⟩:=vals2 r;refine max_two_ints (I.ok.hd b) λe d k=>⟨_,H,I.kept k,?_,q⟩
  by_cases a:j > i
  . rw[ao a,ao a];exact⟨_,rfl⟩
  . rw[aq a,aq a];exact⟨_,rfl⟩
def call_min2(b:X.calm=ac):CallR X (.builtin "min") (λxs H Q=>∃ i j,xs=[.int i,.int j]/\Q (.int (if j < i then j else i)) H):=by
  intro pQ s O H xs us Q I r h;obtain⟨i,j,rfl,q⟩:=h;obtain⟨u,c,rfl,⟨t,rfl⟩,⟨t',rfl⟩⟩:=vals2 r;refine min_two_ints (I.ok.hd b) λe d k=>⟨_,H,I.kept k,?_,q⟩
  by_cases a:j < i
  . rw[ao a,ao a];exact⟨_,rfl⟩
  . rw[aq a,aq a];exact⟨_,rfl⟩
def call_int1:CallR X (.type "int") (λxs H Q=>(∃ i,xs=[.int i]/\Q (.int i) H)\/∃ k,xs=[.bl k]/\Q (.int (if k then 1 else 0)) H):=by
  intro pQ s O H xs us Q I r h;rcases h with⟨i,rfl,q⟩|⟨k,rfl,q⟩
  . obtain⟨u,rfl,t,rfl⟩:=vals1 r
    exact call_int_int ⟨.int i,H,I,⟨_,rfl⟩,q⟩
  . obtain⟨u,rfl,a⟩:=vals1 r
    cases a;exact call_int_bool ⟨.int (if k then 1 else 0),H,I.tok _,⟨_,rfl⟩,q⟩
def LenV(K:Fg)(x:V)(H:Hp)(n:Nat):Prop:=
  match x with
  |.str y=>y.length<=ax/\n=y.length
  |.byt y=>y.size<=ax/\n=y.size
  |.ref p=>(∃ xs,SqL K H p xs/\n=xs.length)\/∃ xs,SqT K H p xs/\n=xs.length
  |_=>False
def call_len:CallR X (.builtin "len") (λxs H Q=>∃ x n,xs=[x]/\LenV X.K x H n/\Q (.int n) H):=by
  intro pQ s O H xs us Q I r h;obtain⟨x,n,rfl,e,q⟩:=h;obtain⟨u,rfl,c⟩:=vals1 r;have m:=line63;have l:ax=16777216:=sizeLine_eq;cases x with
  |str y=>
    obtain⟨t,rfl⟩:=c;obtain⟨k,b⟩:y.length<=ax/\n=y.length:=e;subst b;exact len_str (by omega) ⟨.int _,H,I.tok _,⟨_,rfl⟩,q⟩
  |byt y=>
    obtain⟨t,rfl⟩:=c;obtain⟨k,b⟩:y.size<=ax/\n=y.size:=e;subst b;exact W.len_bytes (by omega) ⟨.int _,H,I.tok _,⟨_,rfl⟩,q⟩
  |ref p=>
    cases c;have b:(∃ xs,SqL X.K H p xs/\n=xs.length)\/∃ xs,SqT X.K H p xs/\n=xs.length:=e;rcases b with⟨xs,i,b⟩|⟨xs,i,b⟩
    . subst b
      obtain⟨g,d,f,j⟩:=I.list i;have a:=d.length;exact Calls.call_len_list f.isList (by simp only[aI];omega) ⟨.int xs.length,H,I.tok _,⟨_,by simp only[aI];rw[a]⟩,q⟩
    . subst b
      obtain⟨g,d,f,j⟩:=I.tuple i;have a:=d.length;exact len_tuple f (by simp only[aI];omega) ⟨.int xs.length,H,I.tok _,⟨_,by simp only[aI];rw[a]⟩,q⟩
  |_=>exact(show False from e).elim
end
structure ObjM(h:bj)(x dx C:Addr)(mA:Str->Option Value):Prop where
  obj:h.get? x=aa (W.instObj C dx)
  ns:h.Ns1 dx mA
  ne:dx≠x
variable{mA:Str->Ot vL}
def lookIn_ns{f:Ad}(n:h.Ns1 f mA):∃ d,h.get? f=aa d/\∀ b,W.lookIn b d=aa (mA b):=by
  obtain⟨o,es,p,i,l,k,_,j⟩:=n;refine⟨o,i,λb=>?_⟩
  have e:=j b;unfold nsFind findBy at e;rw[<-Array.find?_toList]at e;unfold W.lookIn;rw[l];dsimp only;split
  . rename_i y q
    rw[q]at e;exact au aa e
  . rename_i q
    rw[q]at e;have a:es.toList.any (·.refKey)=ae:=by
      rw[List.any_eq_false];intro y g;obtain⟨z,t,c⟩:=k y (Array.mem_toList_iff.mp g);simp[DictEntry.refKey,c]
    have m:¬es.toList.any (·.refKey)=ac:=by rw[a];exact Bf
    rw[aq m];exact au aa e
def ObjM.look{x c C:Ad}(I:ObjM h x c C mA):∃ b,W.InstAt h x (W.instObj C c) C (aa b)/\∀ a,W.lookIn a b=aa (mA a):=
  let ⟨b,ho,hl⟩:=lookIn_ns I.ns
  ⟨b,⟨I.obj,rfl,rfl,ho⟩,hl⟩
variable{pl:Sem Bool}
variable{A:bq}{K:Fg}{dx C f:Ad}{mA:Str->Ot vL}
section
variable{prog:a7}{name:Str}{v:vL}
def get_meth{Q:vL×Li vL->Sd->Prop}(X:K.In s.heap)(I:ObjM s.heap x dx C mA)(a:W.plainGet K C name=ac)(g:W.findIn K (.ref C) name=aa (aa (.ref f)))(d:W.isFn K (.ref f)=ac)(c:mA name=ab)(h:Q (.ref f,[.ref x]) s) :
    a0 (a6 prog w) A (getMethod (.ref x) name pl) Q E s:=by
  obtain⟨b,J,e⟩:=I.look;exact W.method_fn X J (W.plainGet_of a).1 (W.plainGet_of a).2 g (beq_iff_eq.mp d) (by show(W.lookIn name b).map (·.isSome)=aa ae;rw[e,c];rfl) h
end
def RelO.some_of{v:V}{o:Ot vL}(r:RelO (aa v) o):∃ u,o=aa u/\RelV v u:=by
  cases o with
  |none=>exact(show False from r).elim
  |some u=>exact⟨u,rfl,r⟩
def RelO.none_of{o:Ot vL}(r:RelO ab o):o=ab:=by
  cases o with
  |none=>rfl
  |some u=>exact(show False from r).elim
variable{fs:Li (Str×V)}
section
variable{fs':Li (Str×V)}
def ins_get(hok:HOk P w H h)(e:H a=aa (.ins C dx fs)):∃ mA,ObjM h a dx C mA/\(∀ f,RelO (fs.lookup f) (mA f))/\PySem.Within mA (fs.map (·.1))/\fs.length<=1000/\H dx=aa (.own a):=by
  obtain⟨d,z,c,b,mA,n,r,q⟩:=(show ObjOk P w H h a (.ins C dx fs) from hok a _ e);exact⟨mA,⟨b,n,c⟩,r,q,z,d⟩
end
structure Cls(K:Fg)(C:Addr):Prop where
  pg:W.plainGet K C Str.empty=ac
  hd:W.hasDictIn K C=ac
  po:W.plainOver K C=ac
  sa:W.findIn K (.ref C) "__setattr__"=aa (aa (.builtin "object.__setattr__"))
def Cls.get{C:Ad}(c:Cls K C)(f:Str):W.plainGet K C f=ac:=c.pg
structure Con(K:Fg)(C:Addr)(f:Str)(v:V)(u:Value):Prop where
  at_:W.findIn K (.ref C) f=aa (aa u)
  rel:RelV v u
  get:W.specialIn K u "__get__"=aa ab
  cp:W.copiedNames.contains f=ae
structure Meth(K:Fg)(C:Addr)(m:Str)(f:Addr):Prop where
  at_:W.findIn K (.ref C) m=aa (aa (.ref f))
  fn:W.isFn K (.ref f)=ac
  kp:W.keepIn K (.ref f)=ac
section
variable{f:Str}{v:V}
def getmeth_ok{m:Str}{g:Ad}{Q:vL×Li vL->Sd->Prop}(I:Inv X pQ O H s)(e:H a=aa (.ins C dx fs))(c:Cls X.K C)(k:Meth X.K C m g)(l:fs.lookup m=ab)(h:Q (.ref g,[.ref a]) s):a0 (a6 X.prog X.w) A (getMethod (.ref a) m pl) Q E s:=by
  obtain⟨mA,d,r,_,_,_⟩:=ins_get I.hok e;have b:mA m=ab:=RelO.none_of (by rw[<-l];exact r m)
  exact get_meth I.kIn d (c.get m) k.at_ k.fn b h
def Inv.made(I:Inv X pQ O H s):Inv X pQ O (upd (upd H s.heap.objs.size (.own (s.heap.objs.size+1))) (s.heap.objs.size+1) (.ins C s.heap.objs.size []))
    { s with heap:=(s.heap.push W.emptyDict).push (W.instObj C s.heap.objs.size) }:=by
  have d:(s.heap.push W.emptyDict).get? s.heap.objs.size=aa W.emptyDict:=aX s.heap rfl;have i:((s.heap.push W.emptyDict).push (W.instObj C s.heap.objs.size)).get? (s.heap.objs.size+1)=aa (W.instObj C s.heap.objs.size):=by
    have:=aX (s.heap.push W.emptyDict) (o:=W.instObj C s.heap.objs.size) rfl
    rwa [Heap.size_push]at this
  have h:(s.heap.push W.emptyDict).Ns s.heap.objs.size (λ_=>ab):=⟨W.emptyDict,#[],_,d,rfl,(λe g=>ar g (by simp)),λ_=>rfl⟩
  have j:=I.laid (a:=s.heap.objs.size) (o:=.own (s.heap.objs.size+1)) (h':=s.heap.push W.emptyDict) (t':=s.toks) (λb u q=>aL _ q) (aD _) ⟨_,d⟩
  refine j.laid (a:=s.heap.objs.size+1) (o:=.ins C s.heap.objs.size []) (t':=s.toks) (λb u q=>aL _ q) (cP (Heap.size_push _ _)) ?_
  have c:s.heap.objs.size≠s.heap.objs.size+1:=aZ (dQ _);refine⟨by rw[upd_ne c,upd_same],aS _,c,i,λ_=>ab,(Heap.Ns1.of_empty h).at λo q=>aL _ q,λ_=>True.intro,λy f=>ar rfl f⟩
end
variable{o:ay}
section
variable{value:ay}{f:Str}{pos' tpos:Pos}{tv:TE}
end
variable{Q:vL->Sd->Prop}
section
variable{c:vL}{b:Bool}
inductive TyOf(K:Fg)(H:Hp):V->Value->Prop where
  |non:TyOf K H .non (.type "NoneType")
  |bl (x:Bool):TyOf K H (.bl x) (.type "bool")
  |int (i:Int):TyOf K H (.int i) (.type "int")
  |str (x:Str):TyOf K H (.str x) (.type "str")
  |flt (x:UInt64):TyOf K H (.flt x) (.type "float")
  |lst {a:Addr}{xs:List V} (e:H a=aa (.lst xs)):TyOf K H (.ref a) (.type "list")
  |frz {a:Addr}{o:Obj}{xs:List V} (e:H a=aa (.frz o (.lst xs))):TyOf K H (.ref a) (.type "list")
  |tup {a:Addr}{xs:List V} (e:H a=aa (.tup xs)):TyOf K H (.ref a) (.type "tuple")
  |dK {a:Addr}{kvs:List (Key×V)} (e:H a=aa (.dK kvs)):TyOf K H (.ref a) (.type "dict")
  |dT {a:Addr}{kvs:List (List Key×V)} (e:H a=aa (.dT kvs)):TyOf K H (.ref a) (.type "dict")
  |ins {a C dx:Addr}{fs:List (Str×V)} (e:H a=aa (.ins C dx fs)) (cl:Cls K C) (ha:W.findIn K (.ref C) "__class__"=aa (aa (.builtin "object.__class__")))
      (hn:W.specialIn K (.builtin "object.__class__") "__get__"=aa (aa (.builtin "getset_descriptor.__get__"))) (htk:W.takesIn K (.builtin "object.__class__")=aa ac)
      (hm:W.mroIn K C (.type "object")=aa ac):TyOf K H (.ref a) (.ref C)
def isinst_ok{x:V}{u t:vL}(I:Inv X pQ O H s)(d:RelV x u)(ty:TyOf X.K H x t)(e:W.kitOne X.K t c=aa b)(h:∀ r,Q (.bool b) { s with toks:=r }) :
    a0 (a6 X.prog X.w) A (call (.builtin "isinstance") [u,c]) Q E s:=by
  cases ty with
  |non=>cases (show u=bv from d);exact W.kia_one W.kitx_none I.kIn True.intro e (λz=>nomatch z) h
  |bl y=>cases (show u=Value.bool y from d);exact W.kia_one W.kitx_bool I.kIn True.intro e (λz=>nomatch z) h
  |int i=>obtain⟨t,q⟩:=(show ∃ t,u=Value.int i t from d);cases q;exact W.kia_one W.kitx_int I.kIn True.intro e (λz=>nomatch z) h
  |str y=>obtain⟨t,q⟩:=(show ∃ t,u=Value.str y t from d);cases q;exact W.kia_one W.kitx_str I.kIn True.intro e (λz=>nomatch z) h
  |flt y=>obtain⟨t,q⟩:=(show ∃ t,u=Value.float y t from d);cases q;exact W.kia_one W.kitx_float I.kIn True.intro e (λz=>nomatch z) h
  |@lst a xs f=>
    cases (show u=bu a from d)
    obtain⟨_,_,n,_,g⟩:=(show ObjOk X.prog X.w H s.heap a (.lst xs) from I.hok a _ f);exact W.kia_one W.kitx_list I.kIn ⟨_,g,rfl⟩ e (λz=>nomatch z) h
  |@frz a v xs f=>
    cases (show u=bu a from d)
    obtain⟨_,_,_,n,_,g⟩:=(show ObjOk X.prog X.w H s.heap a (.frz v (.lst xs)) from I.hok a _ f);exact W.kia_one W.kitx_list I.kIn ⟨_,g,rfl⟩ e (λz=>nomatch z) h
  |@tup a xs f=>
    cases (show u=bu a from d)
    obtain⟨_,_,_,p⟩:=(show ObjOk X.prog X.w H s.heap a (.tup xs) from I.hok a _ f);obtain⟨o,g,k,_⟩:=p;exact W.kia_one W.kitx_tuple I.kIn ⟨o,g,k⟩ e (λz=>nomatch z) h
  |@dK a j f=>
    cases (show u=bu a from d)
    obtain⟨_,_,M,_,p⟩:=(show ObjOk X.prog X.w H s.heap a (.dK j) from I.hok a _ f);obtain⟨o,es,G,g,k,_⟩:=p;exact W.kia_one W.kitx_dict I.kIn ⟨o,g,k.1⟩ e (λz=>nomatch z) h
  |@dT a j f=>
    cases (show u=bu a from d)
    obtain⟨_,_,xs,_,o,es,G,g,k,_⟩:=(show ObjOk X.prog X.w H s.heap a (.dT j) from I.hok a _ f);exact W.kia_one W.kitx_dict I.kIn ⟨o,g,k.1⟩ e (λz=>nomatch z) h
  |@ins a C P fs f m F B l D=>
    cases (show u=bu a from d)
    obtain⟨mA,L,_⟩:=ins_get I.hok f;obtain⟨N,J,_⟩:=L.look;exact W.kia_one (W.kitx_own (m.get _) m.hd F B l D) I.kIn J e (λz=>nomatch z) h
end
structure Room(k:Nat)(A:bq):Prop where
  hd:A.handled=ab
  dp:A.depth+3 * k+5 < recursionLimit
  un:A.units+16 * k+200 < cLine
variable{k:Nat}
theorem Room.deeper(r:Room (k+1) A)(env:Env):Room k (A.deeper env):=
  ⟨r.hd,by have:=r.dp;show A.depth+1+3 * k+5 < _;omega,by have:=r.un;show A.units+3+16 * k+200 < _;omega⟩
theorem Room.depth(r:Room k A):A.depth < recursionLimit:=by have:=r.dp;omega
theorem Room.units(r:Room k A):A.units+64 < cLine:=by have:=r.un;omega
def tNil:TA:=λ_ H Q=>Q [] H
def tCons(a:TE)(tr:TA):TA:=λO H Q=>a O H λx c=>tr O c λxs b=>Q (x :: xs) b
variable{es:Li ay}{t:TA}
def pa_nil:PA X [] tNil:=λ_ _ _ _ H Q I h=>Calls.spliced_nil ⟨[],H,I,.nil,h⟩
def pa_cons(i:PE X e te)(g:PA X es t)(f:bc (e :: es) X.env=(ae,eval e X.env) :: bc es X.env:=by rfl):PA X (e :: es) (tCons te t):=by
  intro pos pQ s O H Q I h;rw[f];show a0 _ _ (spliced ((ae,eval e X.env) :: backTo pos (bc es X.env))) _ _ s;refine Calls.spliced_cons (thn (i pQ s O H _ I h) λu s1 ⟨x,m,k,b,d⟩=>?_)
  exact thn (g pos pQ s1 O m _ k d) λus n ⟨xs,l,j,a,c⟩=>⟨x :: xs,l,j,.cons b a,c⟩
def tTup(t:TA):TE:=λO H Q=>t O H λxs a=>xs.length<=ax/\∀ p,a p=ab->Q (.ref p) (upd a p (.tup xs))
def tLst(t:TA):TE:=λO H Q=>t O H λxs a=>xs.length<=ax/\∀ p,a p=ab->Q (.ref p) (upd a p (.lst xs))
def pe_tup{x1}(h:PA X es t):PE X (.Tuple es x1 pos) (tTup t):=by
  intro pQ s O H Q I d;refine wpAny_Tuple_spliced (thn (h pos pQ s O H _ I d) λus s1 ⟨xs,c,a,r,z,q⟩=>⟨by rw[<-r.length];exact z,?_⟩)
  have f:c s1.heap.objs.size=ab:=a.hok.fresh (aD _);refine⟨.ref s1.heap.objs.size,upd c s1.heap.objs.size (.tup xs),a.laid (t':=s1.toks) (λb u e=>aL _ e) (aD _) ?_,rfl,q _ f⟩
  exact⟨z,us,r,⟨_,aX _ rfl,rfl,_,rfl⟩⟩
def pe_lst(h:PA X es t):PE X (.List es pos) (tLst t):=by
  intro pQ s O H Q I d;refine wpAny_List_spliced (thn (h pos pQ s O H _ I d) λus s1 ⟨xs,c,a,r,z,q⟩=>⟨by rw[<-r.length];exact z,?_⟩)
  have f:c s1.heap.objs.size=ab:=a.hok.fresh (aD _);refine⟨.ref s1.heap.objs.size,upd c s1.heap.objs.size (.lst xs),a.laid (t':=s1.toks) (λb u e=>aL _ e) (aD _) ?_,rfl,q _ f⟩
  exact⟨z,us,0,r,aX _ rfl⟩
abbrev Sp:=Li V->Hp->VK->XK->Prop
abbrev CXT:=Li Env->Hp->Sd->XK->vL->Sd->Prop
structure Env0(P:a7)(w:bm)(K:Fg)(mg:Str->Option Value)(base:bj)(A:bq)(outer:List Env)(s:Shared)(H:Hp):Prop where
  frames:A.frames=aa outer
  mod:Mod K mg base
  bs:∀ b o,base.get? b=aa o->s.heap.get? b=aa o/\H b=ab
  bsz:base.objs.size<=s.heap.objs.size
  funs:s.heap.FunFrames base outer
  frf:∀ b∈frs outer,H b=ab
  hok:HOk P w H s.heap
  bare:AllBare s.gens
def CE(outer:Li Env)(P:a7)(w:bm)(H:Hp)(s:Sd)(Q:VK)(u:vL)(a:Sd):Prop:=
  ∃ v b,a.os=s.os/\AllBare a.gens/\Un (frs outer) [] H b s.heap a.heap/\HOk P w b a.heap/\RelV v u/\Q v b
def CR(CX:CXT)(outer:Li Env)(P:a7)(w:bm)(H:Hp)(s:Sd)(Q:VK)(E:XK)(r:Result)(a:Sd):Prop:=
  match r with
  |.ok (.ret u)=>CE outer P w H s Q u a
  |.ok _=>False
  |.error e=>CX outer H s E e a
structure FnOk(P:a7)(w:bm)(K:Fg)(mg:Str->Option Value)(base:bj)(CX:CXT)(k:Nat)(f:Addr)(fd:bh)(ps:List Str)(sp:Sp):Prop where
  len:∀ vs H Q E,sp vs H Q E->vs.length=ps.length
  run:∀ (A:bq) (outer:List Env) (s:Shared) (H:Hp) (args:Args) (us:List Value) (vs:List V) (Q:VK) (E:XK),Room k A->Env0 P w K mg base A outer s H->BindsTo s fd args (ps.zip us)->Vals vs us->sp vs H Q E->
    codeAny (a6 P w) A (.call (.ref f) args) (CR CX outer P w H s Q E) s
section
variable{s':Sd}
def Inv.env0(I:Inv X pQ O H s):Env0 X.prog X.w X.K X.mg X.base X.A X.stack s H:=
  ⟨I.ok.frames,I.ok.mod,I.bs,aM I.ok.bsz I.sz,I.stack,I.stkFree,I.hok,I.bare⟩
def Inv.after{Q:VK}{u:vL}(I:Inv X pQ O H s)(h:CE X.stack X.prog X.w H s Q u s'):EP X pQ O Q u s':=by
  obtain⟨v,j,f,a,un,e,r,q⟩:=h;obtain⟨i,g,d,t,c⟩:=s';obtain rfl:c=s.os:=f;exact⟨v,j,I.call (h':=i) (g':=g) (d':=d) (t':=t) (ch:=[]) un e a (λb z=>ar z (by simp)),r,q⟩
end
def tCall(c:Sp)(a:Li V)(E:XK)(t:TA):TE:=λO H Q=>t O H λb d=>c (b++a) d Q E
def Binds(K:Fg)(fd:bh)(a:Li Str)(b:Li vL):Prop:=
  ∀ (s:Sd) (us:Li vL),K.In s.heap->(us++b).length=a.length->BindsTo s fd ⟨us,[]⟩ (a.zip (us++b))
variable{ps:Li Str}
def Binds.all{fd:bh}(h:∀ us:Li vL,us.length=ps.length->bindArgs fd ⟨us,[]⟩=pure (ps.zip us)):Binds K fd ps []:=λs us _ a=>by
  rw[bB]at a ⊢;exact .of_eq (h us a)
def Passes(CX:CXT)(X:Cx)(E:XK):Prop:=∀ (pQ:Li (Ad×Obj)) (O:St) (H:Hp) (s:Sd) (e:vL) (s':Sd),Inv X pQ O H s->CX X.stack H s E e s'->X.xe e s'
variable{vs:Li V}
variable{CX:CXT}{k:Nat}{fd:bh}{ps:Li Str}{sp:Sp}{m:Str}{p apos:Pos}
section
variable{dvs:Li V}{ds:Li vL}{E:XK}{x:Str}
def run_fn{O:St}{Q:VK}(F:FnOk X.prog X.w X.K X.mg X.base CX k f fd ps sp)(g:Room k X.A)(j:Binds X.K fd ps ds)(hd:Vals dvs ds)(d:Passes CX X E)(I:Inv X pQ O H s)(r:Vals vs us)(h:sp (vs++dvs) H Q E):a0 (a6 X.prog X.w) X.A (call (.ref f) us) (EP X pQ O Q) X.xe s:=by
  have b:Vals (vs++dvs) (us++ds):=r.append hd;have i:(us++ds).length=ps.length:=by rw[<-b.length];exact F.len _ _ _ _ h
  refine wpAny_call (codeAny_mono (F.run X.A X.stack s H ⟨us,[]⟩ (us++ds) (vs++dvs) Q E g I.env0 (j s us I.kIn i) b h) λr c a=>?_)
  cases r with
  |error e=>exact d pQ O H s e c I a
  |ok l=>
    cases l with
    |ret u=>exact I.after a
    |next=>exact False.elim a
    |brk=>exact False.elim a
    |cont=>exact False.elim a
def pe_call(F:FnOk X.prog X.w X.K X.mg X.base CX k f fd ps sp)(g:Room k X.A)(l:Gl X x)(i:X.mg x=aa (.ref f))(j:W.keepIn X.K (.ref f)=ac)(n:Binds X.K fd ps ds)(hd:Vals dvs ds)(d:Passes CX X E)(o:PA X (e :: es) t)(b:(x==("__debug__":Str))=ae:=by decide)(m:bc (e :: es) X.env=(ae,eval e X.env) :: bc es X.env:=by rfl)(a:(backTo pos (bc es X.env)).any (·.1)=ae:=by rfl) :
    PE X (.Call (.Name x p) (e :: es) [] pos) (tCall sp dvs E t):=by
  intro pQ s O H Q I h;refine wpAny_Call_Name_kw (ld_glob I l i ?_ b);refine W.callWith_K (h₀:=X.base) I.ok.mod.kin j (thn (o pos pQ s O H _ I h) λus s1 ⟨vs,u,c,r,q⟩=>⟨c.kIn,?_⟩) m a
  exact run_fn F g n hd d c r q
def pe_call0(F:FnOk X.prog X.w X.K X.mg X.base CX k f fd ps sp)(c:Room k X.A)(g:Gl X x)(d:X.mg x=aa (.ref f))(e:W.keepIn X.K (.ref f)=ac)(i:Binds X.K fd ps ds)(hd:Vals dvs ds)(b:Passes CX X E)(a:(x==("__debug__":Str))=ae:=by decide):PE X (.Call (.Name x p) [] [] pos) (tCall sp dvs E tNil):=by
  intro pQ s O H Q I h;refine wpAny_Call_Name_kw (ld_glob I g d ?_ a);exact W.callWith_K0 I.kIn e (run_fn (us:=[]) F c i hd b I .nil h)
structure Mk(K:Fg)(C f:Addr):Prop where
  makes:W.makesIn K C=ac
  init:W.findIn K (.ref C) "__init__"=aa (aa (.ref f))
  fn:W.isFn K (.ref f)=ac
  kp:W.keepIn K (.ref C)=ac
end
section
variable{ks:Li Str}{E:XK}{x:Str}{kpos:Pos}{kws:Li Keyword}{tk:TA}{nm:Ot Str}
structure KBinds(K:Fg)(fd:bh)(ps ks:List Str)(g:List Value->List Value->List Value)(gV:List V->List V->List V):Prop where
  to:∀ (s:Shared) (us ws:List Value),K.In s.heap->(g us ws).length=ps.length->BindsTo s fd ⟨us,ks.zip ws⟩ (ps.zip (g us ws))
  rel:∀ {vs:List V}{us:List Value}{zs:List V}{ws:List Value},Vals vs us->Vals zs ws->Vals (gV vs zs) (g us ws)
variable{g:Li vL->Li vL->Li vL}{gV:Li V->Li V->Li V}
end
structure FnScope(N P:List Str)(sc:bg):Prop where
  kind:sc.kind=.function
  co:sc.isCoroutine=ae
  gen:sc.isGenerator=ae
  nd:N.Nodup
  pre:N.take P.length=P
  par:∀ x∈P,sc.names.lookup x=aa .local\/sc.names.lookup x=aa .cell
  nofree:∀ y∈sc.names,y.2≠.free
theorem bindL_out{a:Str->Ot NameKind}{x:Str}:∀ {binds:Li (Str×vL)}{m:Str->Ot vL},(∀ v,(x,v)∉binds)->bindL a binds m x=m x
  |[],_,_=>rfl
  | (n,v) :: r,m,h=>by
    unfold bindL;rw[bindL_out λw b=>h w (Lm _ b)]
    split
    . have:x≠n:=by rintro rfl;exact h v Ls
      simp[this]
    . rfl
theorem bindC_out{a:Str->Ot NameKind}{x:Str}:∀ {binds:Li (Str×vL)}{m:Str->Ot vL},(∀ v,(x,v)∉binds)->bindC a binds m x=m x
  |[],_,_=>rfl
  | (n,v) :: r,m,h=>by
    unfold bindC;rw[bindC_out λw b=>h w (Lm _ b)]
    split
    . rfl
    . have:x≠n:=by rintro rfl;exact h v Ls
      simp[this]
theorem bindL_get{a:Str->Ot NameKind}{x:Str}{v:vL}:∀ {P:Li Str}{vs:Li vL}{i:Nat}{m:Str->Ot vL},P.Nodup->P[i]?=aa x->vs[i]?=aa v->a x=aa .local->
    bindL a (P.zip vs) m x=aa v
  |[],_,_,_,_,h,_,_=>by simp at h
  |_ :: _,[],_,_,_,_,h,_=>by simp at h
  |p :: P,w :: vs,0,m,d,c,b,e=>by
    simp at c b;subst c;subst b;show bindL a ((p,w) :: P.zip vs) m p=_;unfold bindL;rw[bindL_out λv f=>(bQ.mp d).1 (eG f).1,ao e]
    simp
  |p :: P,w :: vs,i+1,m,d,c,b,e=>by
    show bindL a ((p,w) :: P.zip vs) m x=_;unfold bindL;exact bindL_get (i:=i) (bQ.mp d).2 (by simpa using c) (by simpa using b) e
theorem bindC_get{a:Str->Ot NameKind}{x:Str}{v:vL}:∀ {P:Li Str}{vs:Li vL}{i:Nat}{m:Str->Ot vL},P.Nodup->P[i]?=aa x->vs[i]?=aa v->a x≠aa .local->
    bindC a (P.zip vs) m x=aa v
  |[],_,_,_,_,h,_,_=>by simp at h
  |_ :: _,[],_,_,_,_,h,_=>by simp at h
  |p :: P,w :: vs,0,m,d,c,b,e=>by
    simp at c b;subst c;subst b;show bindC a ((p,w) :: P.zip vs) m p=_;unfold bindC;rw[bindC_out λv f=>(bQ.mp d).1 (eG f).1,aq e]
    simp
  |p :: P,w :: vs,i+1,m,d,c,b,e=>by
    show bindC a ((p,w) :: P.zip vs) m x=_;unfold bindC;exact bindC_get (i:=i) (bQ.mp d).2 (by simpa using c) (by simpa using b) e
noncomputable def start(N:Li Str)(vs:Li V):St:=vs.map aa++af (N.length - vs.length) ab
noncomputable def cxOf(CX:CXT)(P:a7)(w:bm)(K:Fg)(mg:Str->Ot vL)(base:bj)(N:Li Str)(a:Str)(scope:bg)(f:Ad)(c:vL)(A:bq)(outer:Li Env)(s:Sd)(H:Hp)(E:XK):Cx where
  prog:=P
  w:=w
  K:=K
  mg:=mg
  base:=base
  A:=A.deeper (envOfC a scope s.heap.objs.size f c)
  N:=N
  s₀:=s
  H₀:=H
  env:=envOfC a scope s.heap.objs.size f c
  outer:=outer
  stack:=envOfC a scope s.heap.objs.size f c :: outer
  ex:=[]
  calm:=ac
  fn:=λ_=>ac
  pn:=[]
  xe:=λe d=>a0 (a6 P w) (A.deeper (envOfC a scope s.heap.objs.size f c)) (leaving (envOfC a scope s.heap.objs.size f c) e) (λ_ b=>CX outer H s E e b) (λg b=>CX outer H s E g b) d
def cell_has{sc:bg}{x:Str}(h:sc.names.lookup x=aa .cell):∃ c,(cellsFrom n sc.names []).lookup x=aa c:=by
  have q:=W.cellsFrom_some sc.names n [] (.inl h);exact Option.isSome_iff_exists.mp q
variable{mg:Str->Ot vL}{base:bj}
def inv_start{CX:CXT}{P:a7}{d:Str}{scope:bg}{f:Ad}{C:vL}{outer:Li Env}{s1:Sd}{E:XK}(S:FnScope N ps scope)(hd:A.handled=ab)(j:Env0 P w K mg base A outer s H)(L:vs.length=ps.length)(r:Vals vs us)(x:InCallC s s.heap.objs.size (bindL (envOfC d scope s.heap.objs.size f C).kindOf (ps.zip us) λ_=>ab) (cellsFrom (s.heap.objs.size+1) scope.names []) (bindC (envOfC d scope s.heap.objs.size f C).kindOf (ps.zip us) λ_=>ab) s1) :
    Inv (cxOf CX P w K mg base N d scope f C A outer s H E) [] (start N vs) H s1:=by
  have G:ps.length<=N.length:=by have:=au List.length S.pre;rw[cI]at this;omega
  obtain⟨B,J,rfl,F⟩:=x.done;have l:∀ b:Ad,b∉(cxOf CX P w K mg base N d scope f C A outer s H E).ex:=λb z=>ar (show b∈([]:Li Ad) from z) (by simp)
  refine⟨⟨j.mod,S.kind,rfl,rfl,aD _,λy z c B g=>?_,λy hy=>?_,λy c _ h=>?_,λ_=>hd,Around.frames_deeper j.frames,.inr ⟨rfl,rfl⟩,λb z=>ar z (l b),j.bs,j.bsz,λb _ _=>l b,λb z=>ar z (l b),j.funs,j.frf⟩,
    rfl,j.bare,Un.kept F,⟨_,x.toInCall.ns,λi y v B g M=>?_⟩,λy c h=>⟨_,x.cell y c h⟩,j.hok.fresh (aD _),λy c h=>?_,λp o=>ar (show p∈([]:Li (Ad×Obj)) from o) (by simp),j.hok.kept F,?_⟩
  . exact name_of_addr x.apart (PySem.mem_of_lookup B) (PySem.mem_of_lookup g)
  . have hy:scope.names.lookup y=aa .cell\/scope.names.lookup y=aa .free:=hy
    rcases hy with hy|hy
    . exact cell_has hy
    . exact ar rfl (S.nofree _ (PySem.mem_of_lookup hy))
  . exact dB (x.above y c (PySem.mem_of_lookup h))
  . have t:i < vs.length:=by
      unfold start at g;by_cases t:i < vs.length
      . exact t
      . rw[cJ (by simpa using t)]at g
        rw[eU]at g;split at g<;>cases g
    have I:vs[i]?=aa v:=by
      unfold start at g;rw[cD (by simpa using t),aT]at g
      cases e:vs[i]? with
      |none=>rw[e]at g;cases g
      |some a=>rw[e]at g;cases g;rfl
    obtain⟨u,D,rv⟩:=r.get I;have o:ps[i]?=aa y:=by
      rw[<-S.pre,List.getElem?_take_of_lt (by omega)];exact B
    have m:ps.Nodup:=by rw[<-S.pre];exact S.nd.sublist (List.take_sublist _ _)
    refine⟨u,rv,?_⟩;rcases S.par y (aY o) with k|k
    . exact .inl ⟨k,bindL_get m o D k⟩
    . obtain⟨c,e⟩:=cell_has (n:=s.heap.objs.size+1) k
      refine .inr ⟨.inl k,c,e,?_⟩;have q:=x.cell y c e;rw[bindC_get m o D (by show scope.names.lookup y≠_;rw[k];decide)]at q
      exact q
  . exact j.hok.fresh (dB (x.above y c (PySem.mem_of_lookup h)))
  . unfold start
    show _=N.length;rw[aH,aB,bV];omega
def fn_of{CX:CXT}{P:a7}{f:Ad}{g a:Str}{d:Arguments}{body:Li Stmt}{scope:bg}{T kV B R c ct oc:vL}{X Y:Ot Ad}{G:Array (Ot vL)}{D:Sp}(lk:K.lookup f=aa ⟨oc,Y,.func (W.fnOf g a d body scope T kV B R X c ct),G⟩)(O:W.codeIn K c a=ac)(S:FnScope N ps scope)(len:∀ vs H Q E,D vs H Q E->vs.length=ps.length)(j:∀ (A:bq) (outer:Li Env) (s:Sd) (H:Hp) (vs:Li V) (Q:VK) (E:XK),Room k (A.deeper (envOfC a scope s.heap.objs.size f c))->D vs H Q E->
      ∃ t,PSs (cxOf CX P w K mg base N a scope f c A outer s H E) body t/\t { nx:=λ_ h=>Q .non h,rt:=Q } (start N vs) H) :
    FnOk P w K mg base CX (k+1) f (W.fnOf g a d body scope T kV B R X c ct) ps D:=by
  refine⟨len,λA outer s H U us vs Q E M z hb r m=>?_⟩
  have hl:=len _ _ _ _ m;have KX:K.In s.heap:=z.mod.kin.keeps λb o e=>(z.bs b o e).1
  have L:s.heap.NoLimit:=z.mod.nolimit.keeps λb o e=>(z.bs b o e).1
  have i:∀ y∈ps.zip us,scope.names.lookup y.1=aa .local\/(scope.names.lookup y.1=aa .cell/\((cellsFrom (s.heap.objs.size+1) scope.names []).lookup y.1).isSome=ac):=λ⟨n,v⟩ Z=>by
    rcases S.par n (eG Z).1 with q|q
    . exact .inl q
    . exact .inr ⟨q,W.cellsFrom_some _ _ _ (.inl q)⟩
  refine codeAny_call_function M.depth (KX _ _ lk) rfl S.co S.gen rfl (W.codeRec_of KX O) (hb _ _ _ _ ?_);refine wpAny_newFunctionEnv_cells S.kind i λenv he s1 x=>?_
  subst he;refine⟨L.keeps x.toInCall.keep,codeAny_func ?_⟩;obtain⟨t,ht,hq⟩:=j A outer s H vs Q E (M.deeper _) m;have I:Inv (cxOf CX P w K mg base N a scope f c A outer s H E) [] (start N vs) H s1:=inv_start S M.hd z hl r x;refine bH (ht [] s1 (start N vs) H _ I hq) (λfl F l=>?_) λe F l=>l
  have p:∀ {C:St}{h:Hp}{v:V}{u:vL},Inv (cxOf CX P w K mg base N a scope f c A outer s H E) [] C h F->RelV v u->Q v h->CE outer P w H s Q u F:=
    λ{C h v u} J rv q=>⟨v,h,J.os,J.bare,J.base,J.hok,rv,q⟩
  cases fl with
  |ret u=>
    obtain⟨v,C,h,J,rv,q⟩:=l;exact p J rv q
  |next=>
    obtain⟨C,h,J,q⟩:=l;exact p (v:=V.non) (u:=bv) J rfl q
  |brk=>
    obtain⟨_,_,_,q⟩:=l;exact False.elim q
  |cont=>
    obtain⟨_,_,_,q⟩:=l;exact False.elim q
section
variable{x:Str}{id T:String}{r:Li V->Hp->VK->Prop}
def tCB(r:Li V->Hp->VK->Prop)(t:TA):TE:=λO H Q=>t O H λvs a=>r vs a Q
def pe_callB(l:CallR X (.builtin id) r)(j:Gl X x)(i:X.mg x=ab)(f:bf x=aa (.builtin id))(m:PA X (e :: es) t)(g:x ≠ "__name__":=by decide)(b:(x==("__debug__":Str))=ae:=by decide)(k:bc (e :: es) X.env=(ae,eval e X.env) :: bc es X.env:=by rfl)(a:(backTo pos (bc es X.env)).any (·.1)=ae:=by rfl):PE X (.Call (.Name x p) (e :: es) [] pos) (tCB r t):=by
  intro pQ s O H Q I h;refine wpAny_Call_Name_kw (ld_blt I j i f ?_ g b);exact PyProof.Rows.callWith_builtin1 (thn (m pos pQ s O H _ I h) λus s1 ⟨vs,o,n,c,d⟩=>l pQ s1 O o vs us Q n c d) k a
def pe_callTy(l:CallR X (.type T) r)(j:Gl X x)(i:X.mg x=ab)(f:bf x=aa (.type T))(m:PA X (e :: es) t)(g:x ≠ "__name__":=by decide)(b:(x==("__debug__":Str))=ae:=by decide)(k:bc (e :: es) X.env=(ae,eval e X.env) :: bc es X.env:=by rfl)(a:(backTo pos (bc es X.env)).any (·.1)=ae:=by rfl):PE X (.Call (.Name x p) (e :: es) [] pos) (tCB r t):=by
  intro pQ s O H Q I h;refine wpAny_Call_Name_kw (ld_blt I j i f ?_ g b);exact PyProof.Rows.callWith_type1 (thn (m pos pQ s O H _ I h) λus s1 ⟨vs,o,n,c,d⟩=>l pQ s1 O o vs us Q n c d) k a
end
end L2
namespace HT
open PySem PyProof.Rows
section
open PySem.SeqAt
open PySem.AutoSeq1 (wpAny_loadPart')
open PySem.MeetsSeq PySem.MeetsSeq2 PySem.MeetsSeq3
end
variable{Q:vL->Sd->Prop}{lo hi:Ot Int}
section
variable{prog:a7}{w:bm}{A:bq}{E:vL->Sd->Prop}{s:Sd}
def cat_tup{t b:Ad}{d a:Li vL}(v:IsTup s.heap t d.toArray)(x:IsTup s.heap b a.toArray)(p:d≠[])(z:a=[]->Q (.ref t) s)(y:a≠[]->Q (.ref s.heap.objs.size) { s with heap:=s.heap.push { cls:=.type "tuple",data:=.seq (d++a).toArray } })(l:d.length+a.length<=ax):a0 (a6 prog w) A (br .Add (.ref t) (.ref b)) Q E s:=by
  obtain⟨⟨cls,dd,data,sl⟩,k,r,n,q⟩:=id v;obtain⟨⟨u,i,m,f⟩,c,h,o,g⟩:=id x;simp only at r q h g;subst r q h g;have e:d.toArray++a.toArray=(d++a).toArray:=by simp
  by_cases j:a=[]
  . exact concat_meets ⟨_,k,rfl⟩ ⟨_,c,rfl⟩ noFill_tuple_add seq_tuple_add PySem.F.slot_tuple_add PySem.F.entry_tuple_add (PySem.F.args_tuple_add_2 _ _)
      (tuple_addW1 t b d.toArray a.toArray n o dd i sl f (by simpa using p) (by simp[j])) ⟨k,c,z j⟩
  . refine concat_meets ⟨_,k,rfl⟩ ⟨_,c,rfl⟩ noFill_tuple_add seq_tuple_add PySem.F.slot_tuple_add PySem.F.entry_tuple_add (PySem.F.args_tuple_add_2 _ _)
      (tuple_addW2 t b d.toArray a.toArray n o dd i sl f (by simpa using p) (by simpa using j) (by rw[aI,aI];exact l)) ⟨k,c,?_⟩
    rw[e];exact y j
noncomputable def sIx(n d:Nat):Ot Int->Nat
  |none=>d
  |some v=>if v < 0 then (v+(n:Int)).toNat else min v.toNat n
def sIx_le(n d:Nat)(hd:d<=n)(o:Ot Int):sIx n d o<=n:=by
  cases o with
  |none=>exact hd
  |some v=>
    show(if v < 0 then (v+(n:Int)).toNat else min v.toNat n)<=n
    by_cases a:v < 0
    . rw[ao a];omega
    . rw[aq a];exact Nat.min_le_right _ _
def clip_eq(v:Int)(n d:Nat):(if v < 0 then max (v+(n:Int)) 0 else min v (n:Int))=((sIx n d (aa v):Nat):Int):=by
  show(if v < 0 then max (v+(n:Int)) 0 else min v (n:Int))=(((if v < 0 then (v+(n:Int)).toNat else min v.toNat n):Nat):Int)
  by_cases a:v < 0
  . simp only[ao a];omega
  . simp only[aq a];omega
def adjust_gen(lo hi:Ot Int)(n:Nat):Builtin.Slice.sliceAdjust lo hi 1 (n:Int)=(((sIx n 0 lo:Nat):Int),((sIx n n hi:Nat):Int)):=by
  have a:¬((1:Int) < 0):=by omega
  unfold Builtin.Slice.sliceAdjust;simp only[a,if_false];refine Prod.ext ?_ ?_
  . cases lo with
    |none=>rfl
    |some v=>exact clip_eq v n 0
  . cases hi with
    |none=>rfl
    |some v=>exact clip_eq v n n
def places_gen(i j:Nat):Builtin.Slice.slicePlaces (i:Int) (j:Int) 1=j - i:=by
  unfold Builtin.Slice.slicePlaces;have a:(1:Int) > 0:=by omega
  simp only[a,if_true,dR];split<;>omega
def slicePart_{v:vL}{o:Ot Int}{Q:Ot Int->Sd->Prop}(p:IsPart v o)(h:Q o s):a0 (a6 prog w) A (Builtin.Slice.slicePartIndex v) Q E s:=by
  cases p with
  |none=>exact slicePart_none h
  |int i t=>exact slicePart_int h
def sliceApplied_gen{sl:Ad}{d c:vL}{n:Nat}{Q:Int×Int×Nat->Sd->Prop}(g:s.heap.IsSliceOf sl d c .none)(f:IsPart d lo)(e:IsPart c hi)(h:Q (((sIx n 0 lo:Nat):Int),1,sIx n n hi - sIx n 0 lo) s):a0 (a6 prog w) A (Builtin.Slice.sliceApplied (.ref sl) (pure (n:Int))) Q E s:=by
  obtain⟨j,a,i,b⟩:=id g;unfold Builtin.Slice.sliceApplied Builtin.Slice.sliceFields;refine aA (aA (wpAny_field a b (x:=d) rfl (aA (wpAny_field a b (x:=c) rfl (aA (wpAny_field a b (x:=.none) rfl (aE ?_)))))));refine aA (slicePart_none ?_);show a0 _ _ (if ((1:Int)==0)=ac then _ else _) _ _ s
  rw[aq (by decide)]
  refine aA (slicePart_ f (aA (slicePart_ e (aA (aE ?_)))));show a0 _ _ (match Builtin.Slice.sliceAdjust lo hi 1 (n:Int) with | (lo,hi)=>pure (lo,(1:Int),Builtin.Slice.slicePlaces lo hi 1)) _ _ s
  rw[adjust_gen lo hi n];show a0 _ _ (pure (((sIx n 0 lo:Nat):Int),(1:Int),Builtin.Slice.slicePlaces ((sIx n 0 lo:Nat):Int) ((sIx n n hi:Nat):Int) 1)) _ _ s;rw[places_gen];exact aE h
def pick_gen(a:Array vL)(i k:Nat):((ag k).filterMap λ(m:Nat)=>a[((i:Int)+(m:Int) * 1).toNat]?).toArray=((a.toList.drop i).take k).toArray:=by
  have e:(λ(m:Nat)=>a[((i:Int)+(m:Int) * 1).toNat]?)=λm=>a[i+m]?:=by
    funext m
    have:((i:Int)+(m:Int) * 1).toNat=i+m:=by omega
    rw[this]
  rw[e];have:=pick_run a i k;rw[List.filterMap_map]at this;have b:((λx=>a[x]?) ∘ λx=>i+x)=λm=>a[i+m]?:=rfl
  rw[b]at this;rw[this]
def getItem_tuple_cut{t sl:Ad}{a:Array vL}{j i:vL}(c:IsTup s.heap t a)(k:s.heap.IsSliceOf sl j i .none)(n:IsPart j lo)(l:IsPart i hi)(p:¬(sIx a.size 0 lo=0/\sIx a.size a.size hi=a.size))(h:Q (.ref s.heap.objs.size) { s with heap:=s.heap.push { cls:=.type "tuple",data:=.seq ((a.toList.drop (sIx a.size 0 lo)).take (sIx a.size a.size hi - sIx a.size 0 lo)).toArray } })(r:a.size<=ax):a0 (a6 prog w) A (getItem (.ref t) (.ref sl)) Q E s:=by
  have b:sizeOk (.seq ((a.toList.drop (sIx a.size 0 lo)).take (sIx a.size a.size hi - sIx a.size 0 lo)).toArray):=by
    show((a.toList.drop (sIx a.size 0 lo)).take (sIx a.size a.size hi - sIx a.size 0 lo)).toArray.size<=ax;rw[aI,cI,cF,cN];omega
  have y:sIx a.size a.size hi<=a.size:=sIx_le _ _ (aD _) hi;obtain⟨o,d,f,u⟩:=id k;have g:s.TypeIs (.ref sl) "slice":=⟨o,d,f⟩;unfold getItem
  try with_reducible refine wpAny_holding ?_
  first|refine aA (aE ?_)|skip
  refine aA (wpAny_sequenceKey c.typeIs (by decide) ?_)
  refine aA (wpAny_callSpecial?_slot (name:=Str.ofString "__getitem__") c.typeIs PyProof.Rows.slot_tuple_getitem
    (wpAny_call_entry PyProof.Rows.slot_tuple_getitem c.typeIs entry_tuple_getitem ?_ (args_tuple_getitem _ _)))
  show a0 _ _ (Builtin.Tuple.tupleItemsOf (.ref t) >>= _) _ _ s;refine aA (tupleItemsOf_ c ?_);refine aA (wpAny_typeOf g ?_);rw[ao (by decide)]
  refine aA (sliceApplied_gen k n l ?_);have e:¬((((sIx a.size 0 lo:Nat):Int)==0&&(1:Int)==1&&(sIx a.size a.size hi - sIx a.size 0 lo)==a.size)=ac):=by
    intro q;rw[Ba,Ba]at q;have x:((sIx a.size 0 lo:Nat):Int)=0:=eq_of_beq q.1.1;have v:sIx a.size a.size hi - sIx a.size 0 lo=a.size:=eq_of_beq q.2;exact p ⟨by omega,by omega⟩
  show a0 _ _ (if (((sIx a.size 0 lo:Nat):Int)==0&&(1:Int)==1&&(sIx a.size a.size hi - sIx a.size 0 lo)==a.size)=ac then _ else _) _ _ s
  rw[aq e,pick_gen]
  first
    |exact aA (m:=Builtin.Tuple.tupleExact _) (wpAny_newObj_type (aE ⟨_,rfl,aE h⟩) b)
    |exact aA (m:=Builtin.Tuple.tupleExact _) (wpAny_newObj_type (aA (aE (aE ⟨_,rfl,aE h⟩))) b)
    |exact aA (aA (m:=Builtin.Tuple.tupleExact _) (wpAny_newObj_type (aE (aE ⟨_,rfl,aE h⟩)) b))
    |exact aA (aA (m:=Builtin.Tuple.tupleExact _) (wpAny_newObj_type (aE ⟨_,rfl,aE h⟩) b))
end
end HT
namespace L2
open PySem PySem.Spec PyProof.Rows
abbrev TO:=St->Hp->(Ot Int->Hp->Prop)->Prop
def PO(X:Cx)(e:Ot ay)(t:TO):Prop:=
  ∀ (pQ:Li (Ad×Obj)) (s:Sd) (O:St) (H:Hp) (Q:Ot Int->Hp->Prop),Inv X pQ O H s->t O H Q->
    a0 (a6 X.prog X.w) X.A (evalPart e X.env) (λu b=>∃ o a,Inv X pQ O a b/\IsPart u o/\Q o a) X.xe s
def tNoPart:TO:=λ_ H Q=>Q ab H
def tPart(t:TE):TO:=λO H Q=>t O H λx a=>∃ i,x=.int i/\Q (aa i) a
variable{xs:Li V}{us:Li vL}
variable{X:Cx}{e:ay}{pos:Pos}
section
variable{te:TE}{lo hi:Ot ay}{tl th:TO}{p2:Pos}
def po_none:PO X ab tNoPart:=by
  intro a s O H Q I h;rw[evalPart_none];exact aE ⟨ab,H,I,.none,h⟩
def po_some(h:PE X e te):PO X (aa e) (tPart te):=by
  intro c s O H Q I d;rw[evalPart_some];refine thn (h c s O H _ I d) λu s1 ⟨x,g,f,a,b⟩=>?_
  obtain⟨i,rfl,q⟩:=b;obtain⟨t,rfl⟩:=a;exact⟨aa i,g,f,.int i t,q⟩
def SlR(X:Cx)(r:V->Ot Int->Ot Int->Hp->VK->Prop):Prop:=
  ∀ (pQ:Li (Ad×Obj)) (s:Sd) (O:St) (H:Hp) (x:V) (v vl vu:vL) (lo hi:Ot Int) (sl:Ad) (Q:VK),Inv X pQ O H s->RelV x v->s.heap.IsSliceOf sl vl vu .none->IsPart vl lo->IsPart vu hi->r x lo hi H Q->
    ∃ T id,typeLookup (.type T) "__getitem__"=pure (aa (.builtin id))/\s.TypeIs v T/\a0 (a6 X.prog X.w) X.A (getItem v (.ref sl)) (EP X pQ O Q) X.xe s
def tSl(r:V->Ot Int->Ot Int->Hp->VK->Prop)(te:TE)(tl th:TO):TE:=λO H Q=>te O H λx c=>tl O c λl b=>th O b λu a=>r x l u a Q
def pe_slice{r:V->Ot Int->Ot Int->Hp->VK->Prop}(y:SlR X r)(C:PE X e te)(z:PO X lo tl)(hu:PO X hi th):PE X (.Subscript e (.Slice lo hi ab p2) pos) (tSl r te tl th):=by
  intro c s O H Q I h;refine Subscript_ (thn (C c s O H _ I h) λv s1 ⟨x,L,J,j,n⟩=>?_)
  refine wpAny_Slice (thn (z c s1 O L _ J n) λf i ⟨l,K,G,p,m⟩=>thn (hu c i O K _ G m) λd a ⟨u,g,F,o,k⟩=>?_)
  rw[evalPart_none];refine aE ?_;have E:Inv X c O g { a with heap:=a.heap.push { cls:=.type "slice",data:=.fields #[f,d,.none] } }:=F.kept (t':=a.toks) λb M q=>aL _ q
  obtain⟨T,id,D,t,B⟩:=y c { a with heap:=a.heap.push { cls:=.type "slice",data:=.fields #[f,d,.none] } } O g x v f d l u a.heap.objs.size Q E j (Heap.IsSliceOf.new ..) p o k
  show a0 (a6 X.prog X.w) X.A (subscriptTail e (.Slice lo hi ab p2) v (.ref a.heap.objs.size)) (EP X c O Q) X.xe { a with heap:=a.heap.push { cls:=.type "slice",data:=.fields #[f,d,.none] } }
  exact tail_any (ops:=[.ref a.heap.objs.size,v]) t D B (by with_unfolding_all rfl)
noncomputable def cutV(xs:Li V)(lo hi:Ot Int):Li V:=(xs.drop (HT.sIx xs.length 0 lo)).take (HT.sIx xs.length xs.length hi - HT.sIx xs.length 0 lo)
def cutV_length(xs:Li V)(lo hi:Ot Int):(cutV xs lo hi).length<=xs.length:=by
  unfold cutV;rw[cI,cF];omega
def rSlT(K:Fg):V->Ot Int->Ot Int->Hp->VK->Prop:=λx lo hi H Q=>∃ a xs,x=.ref a/\SqT K H a xs /\
  ¬(HT.sIx xs.length 0 lo=0/\HT.sIx xs.length xs.length hi=xs.length)/\∀ p,H p=ab->Q (.ref p) (upd H p (.tup (cutV xs lo hi)))
def sl_tup:SlR X (rSlT X.K):=by
  intro t s O H x v p n lo hi sl Q I g m j i h;obtain⟨a,xs,rfl,k,l,q⟩:=h;cases g;obtain⟨d,r,f,e⟩:=I.tuple k;have c:d.toArray.size=xs.length:=by rw[aI];exact r.length.symm
  refine⟨"tuple",_,PyProof.Rows.slot_tuple_getitem.lookup,f.typeIs,?_⟩;refine HT.getItem_tuple_cut f m j i (by rw[c];exact l) ?_ (by rw[c];exact e)
  rw[c];refine⟨.ref s.heap.objs.size,_,I.laid (t':=s.toks) (o:=.tup (cutV xs lo hi)) (λb u q=>aL _ q) (aD _) ?_,rfl,q _ (I.hok.fresh (aD _))⟩
  exact⟨aM (cutV_length xs lo hi) e,_,(r.drop (HT.sIx xs.length 0 lo)).take (HT.sIx xs.length xs.length hi - HT.sIx xs.length 0 lo),IsTup.new _ _⟩
def rCatT(K:Fg):R2:=λx y H Q=>∃ a b xs c,x=.ref a/\y=.ref b/\SqT K H a xs/\SqT K H b c/\xs≠[]/\xs.length+c.length<=ax /\
  (c=[]->Q (.ref a) H)/\(c≠[]->∀ p,H p=ab->Q (.ref p) (upd H p (.tup (xs++c))))
def Vals.nil_iff(r:Vals xs us):us=[]↔xs=[]:=by
  cases r with
  |nil=>simp
  |cons _ _=>simp
def op_catT:OpR X (br .Add) (rCatT X.K):=by
  intro A s O H x y v u Q I j i h;obtain⟨a,b,xs,g,rfl,rfl,t,r,p,f,l,k⟩:=h;cases j;cases i;obtain⟨n,d,m,_⟩:=I.tuple t;obtain⟨e,c,p2,_⟩:=I.tuple r;refine HT.cat_tup m p2 (λz=>p (d.nil_iff.mp z)) (λz=>⟨.ref a,H,I,rfl,l (c.nil_iff.mp z)⟩) (λz=>?_) (by rw[<-d.length,<-c.length];exact f)
  refine⟨.ref s.heap.objs.size,_,I.laid (t':=s.toks) (o:=.tup (xs++g)) (λb B q=>aL _ q) (aD _) ?_,rfl,k (λw=>z (c.nil_iff.mpr w)) _ (I.hok.fresh (aD _))⟩
  exact⟨by rw[aH];exact f,_,d.append c,IsTup.new _ _⟩
end
noncomputable def ixN(n:Nat)(i:Int):Ot Nat:=if 0<=i then (if i < n then aa i.toNat else ab) else if -(n:Int)<=i then aa (i+n).toNat else ab
def atI{a:Type}(xs:Li a)(i:Int):Ot a:=(ixN xs.length i).bind λj=>xs[j]?
variable{n:Nat}
def ixN_seq{i:Int}{j:Nat}(h:ixN n i=aa j):seqIndex? i n=aa j/\j < n/\-(n:Int)<=i/\i < n:=by
  unfold ixN at h;by_cases b:0<=i
  . rw[ao b]at h
    by_cases a:i < n
    . rw[ao a]at h
      have e:i.toNat=j:=av h;exact⟨by rw[seqIndex_of b a,e],by omega,by omega,a⟩
    . rw[aq a]at h;cases h
  . rw[aq b]at h
    by_cases a:-(n:Int)<=i
    . rw[ao a]at h
      have e:(i+n).toNat=j:=av h;exact⟨by rw[seqIndex_neg (by omega) a,e],by omega,a,by omega⟩
    . rw[aq a]at h;cases h
variable{α:Type}
def atI_get{xs:Li α}{i:Int}{v:α}(h:atI xs i=aa v):∃ j,seqIndex? i xs.length=aa j/\xs[j]?=aa v/\j < xs.length/\-(xs.length:Int)<=i/\i < xs.length:=by
  unfold atI at h;cases e:ixN xs.length i with
  |none=>rw[e]at h;cases h
  |some j=>
    rw[e]at h;obtain⟨d,c,b,a⟩:=ixN_seq e;exact⟨j,d,h,c,b,a⟩
def PlainIx(b:ay):Prop:=∀ o i,subscripted b ae o i=operate [o,i] (getItem o i)
def IxR(X:Cx)(r:R2):Prop:=
  ∀ (value slice:ay) (pQ:Li (Ad×Obj)) (s:Sd) (O:St) (H:Hp) (x y:V) (v u:vL) (Q:VK),Inv X pQ O H s->RelV x v->RelV y u->r x y H Q->
    subscripted slice ae v u=operate [v,u] (getItem v u)->a0 (a6 X.prog X.w) X.A (subscriptTail value slice v u) (EP X pQ O Q) X.xe s
def MtR(X:Cx)(id:String)(r:V->Li V->Hp->VK->Prop):Prop:=
  ∀ (pQ:Li (Ad×Obj)) (s:Sd) (O:St) (H:Hp) (x:V) (xs:Li V) (v:vL) (us:Li vL) (Q:VK),Inv X pQ O H s->RelV x v->Vals xs us->r x xs H Q->
    a0 (a6 X.prog X.w) X.A (call (.builtin id) (v :: us)) (EP X pQ O Q) X.xe s
variable{pQ:Li (Ad×Obj)}{s:Sd}{its its':Li vL}{y x:V}
section
variable{a b:ay}{ta tb:TE}
def pe_ix{r:R2}(g:IxR X r)(j:PE X a ta)(i:PE X b tb)(f:PlainIx b):PE X (.Subscript a b pos) (tOp r ta tb):=by
  intro pQ s O H Q I h;exact Subscript_ (binT j i I h λv u c x y l k e d q=>g a b pQ c O l x y v u Q k e d q (f _ _))
def rIxL(K:Fg):R2:=λx y H Q=>∃ p xs i v,x=.ref p/\y=.int i/\SqL K H p xs/\atI xs i=aa v/\Q v H
def rIxT(K:Fg):R2:=λx y H Q=>∃ p xs i v,x=.ref p/\y=.int i/\SqT K H p xs/\atI xs i=aa v/\Q v H
def rIxS:R2:=λx y H Q=>∃ z i c,x=.str z/\y=.int i/\z.length<=ax/\atI z.cps.toList i=aa c/\Q (.str ⟨#[c]⟩) H
def ix_list:IxR X (rIxL X.K):=by
  intro c slice pQ s O H x y v u Q I o n h g;obtain⟨p,xs,i,z,rfl,rfl,A,C,q⟩:=h;cases o;obtain⟨t,rfl⟩:=n;obtain⟨its,r,e,G⟩:=I.list A;obtain⟨j,b,F,L,E,D⟩:=atI_get C;obtain⟨w,l,d⟩:=r.get F;have B:=r.length;have J:=line63;have a:EP X pQ O Q w s:=⟨z,H,I,d,q⟩;by_cases k:0<=i
  . have f:i.toNat=j:=by
      rw[seqIndex_of k D]at b;exact av b
    exact item_listR e.isList k (by omega) (by rw[f];simpa using l) a g
  . have f:(i+(its.toArray.size:Int)).toNat=j:=by
      rw[seqIndex_neg (by omega) E]at b
      rw[aI,<-B];exact av b
    exact subscriptTail_builtinR (x:=w) e.isList.typeIs slot_list_getitem.lookup
      (wpAny_getItem_list_neg (Q:=λr m=>r=w/\EP X pQ O Q r m) e.isList (by omega) (by rw[aI]<;>omega) (by omega) (by rw[f];simpa using l) ⟨rfl,a⟩) g
def ix_tup:IxR X (rIxT X.K):=by
  intro a slice pQ s O H x y v u Q I g f h k;obtain⟨p,xs,i,z,rfl,rfl,l,n,q⟩:=h;cases g;obtain⟨t,rfl⟩:=f;obtain⟨its,r,d,C⟩:=I.tuple l;obtain⟨j,A,o,G,F,E⟩:=atI_get n;obtain⟨w,B,b⟩:=r.get o;have m:=r.length;have D:=line63;have c:EP X pQ O Q w s:=⟨z,H,I,b,q⟩;exact subscriptTail_builtinR (x:=w) d.typeIs slot_tuple_getitem.lookup
    (getItem_tuple (j:=j) (Q:=λr e=>r=w/\EP X pQ O Q r e) d (by omega) (by omega) (by rw[aI,<-m];exact A) (by simpa using B) ⟨rfl,c⟩) k
def ix_str:IxR X rIxS:=by
  intro a slice pQ s O H x y v u Q I e d h f;obtain⟨z,i,c,rfl,rfl,w,k,q⟩:=h;obtain⟨t,rfl⟩:=e;obtain⟨r,rfl⟩:=d;obtain⟨j,b,n,B,m,l⟩:=atI_get k;have g:z.cps.toList.length=z.length:=by simp[Str.length]
  rw[g]at b m l;have A:=line63;exact tail_any (typeIs_str s z t) slot_str_getitem.lookup (getItem_str (c:=c) (by
    have p:aj (i < -(2 ^ 63:Int))=ae:=aG (by omega)
    have o:aj (i>=2 ^ 63)=ae:=aG (by omega)
    rw[p,o,cQ]) (by rw[b];simpa using n) ⟨.str ⟨#[c]⟩,H,I.tok _,⟨_,rfl⟩,q⟩) f
def mapSeq_set(its:Li vL)(n j:Nat)(u:vL):Obj.mapSeq (·.setIfInBounds j u) { cls:=.type "list",data:=.seq its.toArray n }={ cls:=.type "list",data:=.seq (its.set j u).toArray n }:=by
  simp[Obj.mapSeq]
theorem Inv.lst{pQ:Li (Ad×Obj)}{O:St}{H:Hp}{s:Sd}{p:Ad}{xs:Li V}(I:Inv X pQ O H s)(h:H p=aa (.lst xs)) :
    ∃ (its:Li vL) (n:Nat),Vals xs its/\s.heap.get? p=aa { cls:=.type "list",data:=.seq its.toArray n }/\xs.length<=ax:=by
  obtain⟨z,its,n,r,e⟩:=I.hok p _ h;exact⟨its,n,r,e,z⟩
def Inv.lstUpd{O:St}{H:Hp}{p:Ad}{a:Li V}{c:Nat}{f:Obj->Obj}(I:Inv X pQ O H s)(h:H p=aa (.lst xs))(i:s.heap.get? p=aa { cls:=.type "list",data:=.seq its.toArray n })(d:f { cls:=.type "list",data:=.seq its.toArray n }={ cls:=.type "list",data:=.seq its'.toArray c })(r:Vals a its')(g:a.length<=ax)(t:Nat) :
    Inv X pQ O (upd H p (.lst a)) { s with heap:=s.heap.update p f,toks:=t }:=by
  have e:(s.heap.update p f).get? p=aa { cls:=.type "list",data:=.seq its'.toArray c }:=by
    rw[Heap.get?_update_self f i (by rw[d]<;>rfl),d]
  refine I.write (x:=p) (e:=p) (by rw[h];trivial) (.inl rfl) (λb u j q=>(Heap.get?_update_other _ _ (Ne.symm j)).trans q) ⟨_,e⟩ ?_
  exact⟨g,its',c,r,e⟩
def rSetL:V->V->V->Hp->(Hp->Prop)->Prop:=λo i v H Q=>∃ p xs k j,o=.ref p/\i=.int k/\H p=aa (.lst xs)/\ixN xs.length k=aa j/\Q (upd H p (.lst (xs.set j v)))
def set_list:PSet X rSetL:=by
  intro pQ s O H o i v A B u Q I w x rv h;obtain⟨p,xs,k,j,rfl,rfl,e,z,q⟩:=h;cases w;obtain⟨t,rfl⟩:=x;obtain⟨its,n,r,b,y⟩:=I.lst e;obtain⟨a,D,g,f⟩:=ixN_seq z;have c:=r.length;have C:=line63;have m:Inv X pQ O (upd H p (.lst (xs.set j v))) { s with heap:=s.heap.update p (Obj.mapSeq (·.setIfInBounds j u)) }:=
    I.lstUpd e b (mapSeq_set its n j u) (r.set rv j) (by rw[bJ];exact y) s.toks
  by_cases l:0<=k
  . have d:k.toNat=j:=by
      rw[seqIndex_of l f]at a;exact av a
    exact W.ki_setAt b l (by omega) (by rw[aI,<-c];exact f) (by rw[d];exact⟨_,m,q⟩)
  . have d:(k+(its.toArray.size:Int)).toNat=j:=by
      rw[seqIndex_neg (by omega) g]at a
      rw[aI,<-c];exact av a
    exact W.ki_setBack b (by omega) (by rw[aI,<-c];exact g) (by omega) (by rw[d];exact⟨_,m,q⟩)
def slice_bounds(a b:Ot Int)(n:Nat):(sliceBounds a b ab n).1=((HT.sIx n 0 a:Nat):Int)/\(sliceBounds a b ab n).2.1=((HT.sIx n n b:Nat):Int)/\(sliceBounds a b ab n).2.2=1:=by
  refine⟨?_,?_,rfl⟩
  . cases a with
    |none=>simp[sliceBounds,HT.sIx]
    |some i=>
      simp only[sliceBounds,HT.sIx,Option.getD_none,show(1:Int) > 0 by decide,if_true]
      by_cases h:i < 0
      . simp only[h,if_true]<;>omega
      . simp only[h,if_false]<;>omega
  . cases b with
    |none=>simp[sliceBounds,HT.sIx]
    |some i=>
      simp only[sliceBounds,HT.sIx,Option.getD_none,show(1:Int) > 0 by decide,if_true]
      by_cases h:i < 0
      . simp only[h,if_true]<;>omega
      . simp only[h,if_false]<;>omega
def slicePick_cut(its:Li vL)(a b:Ot Int):slicePick its.toArray a b ab=((its.drop (HT.sIx its.length 0 a)).take (HT.sIx its.length its.length b - HT.sIx its.length 0 a)).toArray:=by
  obtain⟨e,d,c⟩:=slice_bounds a b its.toArray.size;unfold slicePick;rw[e,d,c];simp only[sliceRange_one,pick_run,aI]<;>rfl
def rSlL(K:Fg):V->Ot Int->Ot Int->Hp->VK->Prop:=λx b c H Q=>∃ a xs,x=.ref a/\SqL K H a xs/\∀ p,H p=ab->Q (.ref p) (upd H p (.lst (cutV xs b c)))
def sl_list:SlR X (rSlL X.K):=by
  intro pQ s O H x v p n d e sl Q I g m j i h;obtain⟨a,xs,rfl,l,q⟩:=h;cases g;obtain⟨its,r,f,k⟩:=I.list l;have c:=r.length;refine⟨"list",_,slot_list_getitem.lookup,f.isList.typeIs,?_⟩;refine wpAny_getItem_list_slice f.isList m j i .none (by simp) ?_ (by rw[aI]<;>omega)
  rw[slicePick_cut,<-c];refine⟨.ref s.heap.objs.size,_,I.laid (t':=s.toks) (o:=.lst (cutV xs d e)) (λb t q=>aL _ q) (aD _) ?_,rfl,q _ (I.hok.fresh (aD _))⟩
  exact⟨aM (cutV_length xs d e) k,_,0,(r.drop (HT.sIx xs.length 0 d)).take (HT.sIx xs.length xs.length e - HT.sIx xs.length 0 d),aX _ rfl⟩
noncomputable def flatV:V->Bool
  |.non=>ac
  |.bl _=>ac
  |.int _=>ac
  |.str _=>ac
  |_=>ae
noncomputable def eqV:V->V->Bool
  |.non,.non=>ac
  |.bl a,.bl b=>a==b
  |.bl a,.int b=>(if a then 1 else 0)==b
  |.int a,.bl b=>a==(if b then 1 else 0)
  |.int a,.int b=>a==b
  |.str a,.str b=>a==b
  |_,_=>ae
def eqAt_V{A:bq}{u v:vL}(e:RelV y u)(c:RelV x v)(g:flatV y=ac)(f:flatV x=ac):SeqAt.EqAt A s u v (eqV y x):=by
  cases y with
  |non=>
    cases e;cases x with
    |non=>cases c;exact SeqAt.EqAt.same _
    |bl b=>cases c;exact SeqAt.EqAt.none_bool b
    |int b=>obtain⟨t,rfl⟩:=c;exact SeqAt.EqAt.none_int b t
    |str b=>obtain⟨t,rfl⟩:=c;exact SeqAt.EqAt.none_str b t
    |_=>exact ar (show ae=ac from f) Bf
  |bl a=>
    cases e;cases x with
    |non=>cases c;exact SeqAt.EqAt.bool_none a
    |bl b=>cases c;exact SeqAt.EqAt.bool_bool a b
    |int b=>obtain⟨t,rfl⟩:=c;exact SeqAt.EqAt.bool_int a b t
    |str b=>obtain⟨t,rfl⟩:=c;exact SeqAt.EqAt.bool_str a b t
    |_=>exact ar (show ae=ac from f) Bf
  |int a=>
    obtain⟨d,rfl⟩:=e;cases x with
    |non=>cases c;exact SeqAt.EqAt.int_none a d
    |bl b=>cases c;exact SeqAt.EqAt.int_bool a d b
    |int b=>obtain⟨t,rfl⟩:=c;exact SeqAt.EqAt.int_int a d b t
    |str b=>obtain⟨t,rfl⟩:=c;exact SeqAt.EqAt.int_str a d b t
    |_=>exact ar (show ae=ac from f) Bf
  |str a=>
    obtain⟨d,rfl⟩:=e;cases x with
    |non=>cases c;exact SeqAt.EqAt.str_none a d
    |bl b=>cases c;exact SeqAt.EqAt.str_bool a d b
    |int b=>obtain⟨t,rfl⟩:=c;exact SeqAt.EqAt.str_int a d b t
    |str b=>obtain⟨t,rfl⟩:=c;exact SeqAt.EqAt.str_str a d b t
    |_=>exact ar (show ae=ac from f) Bf
  |_=>exact ar (show ae=ac from g) Bf
def eqU(x:V)(u:vL):Bool:=match u with
  |.none=>eqV .non x
  |.bool b=>eqV (.bl b) x
  |.int i _=>eqV (.int i) x
  |.str z _=>eqV (.str z) x
  |_=>ae
def eqU_of{u:vL}(r:RelV y u)(f:flatV y=ac):eqU x u=eqV y x:=by
  cases y with
  |non=>cases r;rfl
  |bl b=>cases r;rfl
  |int i=>obtain⟨t,rfl⟩:=r;rfl
  |str z=>obtain⟨t,rfl⟩:=r;rfl
  |_=>exact ar (show ae=ac from f) Bf
theorem any_eqU{x:V}:∀ {xs:Li V}{us:Li vL},Vals xs us->xs.all flatV=ac->us.any (eqU x)=xs.any λy=>eqV y x
  |_,_,.nil,_=>rfl
  |y :: xs,u :: us,.cons r t,f=>by
    rw[bG,Ba]at f;rw[cG,cG,eqU_of r f.1,any_eqU t f.2]
theorem mem_eqAt{A:bq}{s:Sd}{x:V}{v:vL}(a:RelV x v)(b:flatV x=ac):∀ {xs:Li V}{us:Li vL},Vals xs us->xs.all flatV=ac->∀ u∈us,SeqAt.EqAt A s u v (eqU x u)
  |_,_,.nil,_=>λu hu=>by cases hu
  |y :: xs,u :: us,.cons r t,f=>λc hu=>by
    rw[bG,Ba]at f;rcases aF.mp hu with rfl|hu
    . rw[eqU_of r f.1];exact eqAt_V r a f.1 b
    . exact mem_eqAt a b t f.2 c hu
def inV(x:V)(xs:Li V):Bool:=xs.any λy=>eqV y x
def rIn(K:Fg)(neg:Bool):R2:=λx y H Q=>∃ p xs,y=.ref p/\(SqL K H p xs\/SqT K H p xs)/\flatV x=ac/\xs.all flatV=ac/\Q (.bl (if neg then !inV x xs else inV x xs)) H
def op_in_seq:OpR X (bo .In) (rIn X.K ae):=by
  intro pQ s O H x y v u Q I c e h;obtain⟨p,xs,rfl,hq,d,fs,q⟩:=h;cases e;rcases hq with hq|hq
  . obtain⟨its,r,a,f⟩:=I.list hq
    refine SeqAt.in_listAt (eqU x) a.isList (λw b=>mem_eqAt c d r fs w (by simpa using b)) ⟨.bl _,H,I,rfl,?_⟩
    rw[show its.toArray.any (eqU x)=its.any (eqU x) by simp,any_eqU r fs]
    exact q
  . obtain⟨its,r,a,f⟩:=I.tuple hq
    refine SeqAt.in_tupleAt (eqU x) a (λw b=>mem_eqAt c d r fs w (by simpa using b)) ⟨.bl _,H,I,rfl,?_⟩
    rw[show its.toArray.any (eqU x)=its.any (eqU x) by simp,any_eqU r fs]
    exact q
def op_notIn_seq:OpR X (bo .NotIn) (rIn X.K ac):=by
  intro pQ s O H x y v u Q I c e h;obtain⟨p,xs,rfl,hq,d,fs,q⟩:=h;cases e;rcases hq with hq|hq
  . obtain⟨its,r,a,f⟩:=I.list hq
    refine SeqAt.notIn_listAt (eqU x) a.isList (λw b=>mem_eqAt c d r fs w (by simpa using b)) ⟨.bl _,H,I,rfl,?_⟩
    rw[show its.toArray.any (eqU x)=its.any (eqU x) by simp,any_eqU r fs]
    exact q
  . obtain⟨its,r,a,f⟩:=I.tuple hq
    refine SeqAt.notIn_tupleAt (eqU x) a (λw b=>mem_eqAt c d r fs w (by simpa using b)) ⟨.bl _,H,I,rfl,?_⟩
    rw[show its.toArray.any (eqU x)=its.any (eqU x) by simp,any_eqU r fs]
    exact q
def op_notIn_str:OpR X (bo .NotIn) (λx y H Q=>∃ i j,x=.str i/\y=.str j/\Q (.bl (!(!(Builtin.Str.occurrences j i 0 j.length 1).isEmpty))) H):=by
  intro pQ s O H x y v u Q I b a h;obtain⟨i,j,rfl,rfl,q⟩:=h;obtain⟨t,rfl⟩:=b;obtain⟨c,rfl⟩:=a;exact notIn_str ⟨.bl _,H,I,rfl,q⟩
def call_len_seq:CallR X (.builtin "len") (λxs H Q=>∃ p b,xs=[.ref p]/\(SqL X.K H p b\/SqT X.K H p b)/\Q (.int b.length) H):=by
  intro pQ s O H xs us Q I r h;obtain⟨p,b,rfl,hq,q⟩:=h;obtain⟨u,rfl,e⟩:=vals1 r;cases e;have g:=line63;rcases hq with hq|hq
  . obtain⟨its,c,d,f⟩:=I.list hq
    have a:=c.length;exact Calls.call_len_list d.isList (by simp only[aI]<;>omega) ⟨.int b.length,H,I.tok _,⟨s.toks+1,by rw[aI,a]⟩,q⟩
  . obtain⟨its,c,d,f⟩:=I.tuple hq
    have a:=c.length;exact len_tuple d (by simp only[aI]<;>omega) ⟨.int b.length,H,I.tok _,⟨s.toks+1,by rw[aI,a]⟩,q⟩
def call_list_of:CallR X (.type "list") (λxs H Q=>∃ p c,xs=[.ref p]/\(SqL X.K H p c\/SqT X.K H p c)/\∀ l,H l=ab->Q (.ref l) (upd H l (.lst c))):=by
  intro pQ s O H xs us Q I r h;obtain⟨p,c,rfl,hq,q⟩:=h;obtain⟨u,rfl,z⟩:=vals1 r;cases z;have k:∀ (its:Li vL),Vals c its->c.length<=ax->∀ (a:bj) (f:Nat),(∀ b y,s.heap.get? b=aa y->a.get? b=aa y)->
      a.get? s.heap.objs.size=aa { cls:=.type "list",dict:=ab,data:=.seq its.toArray f,slots:=#[] }->EP X pQ O Q (.ref s.heap.objs.size) { s with heap:=a }:=λits d i a f g e=>
    ⟨.ref s.heap.objs.size,_,I.laid (t':=s.toks) g (aD _) (show ObjOk X.prog X.w _ a _ (.lst c) from⟨i,its,f,d,e⟩),rfl,q _ (I.hok.fresh (aD _))⟩
  rcases hq with hq|hq
  . obtain⟨its,d,m,i⟩:=I.list hq
    have j:=d.length;obtain⟨o,t,x,n,v⟩:=m.isList;exact call_list_seq p (.inl rfl) t x v (λa f g e=>k its d i a f g e) (by simp only[aI]<;>omega)
  . obtain⟨its,d,m,i⟩:=I.tuple hq
    have j:=d.length;obtain⟨o,t,x,n,v⟩:=m;exact call_list_seq p (.inr rfl) t x v (λa f g e=>k its d i a f g e) (by simp only[aI]<;>omega)
def call_tuple_of:CallR X (.type "tuple") (λxs H Q=>∃ p a,xs=[.ref p]/\((SqL X.K H p a/\∀ l,H l=ab->Q (.ref l) (upd H l (.tup a)))\/(SqT X.K H p a/\Q (.ref p) H))):=by
  intro pQ s O H xs us Q I r h;obtain⟨p,a,rfl,h⟩:=h;obtain⟨u,rfl,m⟩:=vals1 r;cases m;rcases h with⟨g,q⟩|⟨g,q⟩
  . obtain⟨its,d,f,i⟩:=I.list g
    have j:=d.length;refine call_tuple_list f.isList (λc n=>?_) (by simp only[aI]<;>omega)
    have k:Inv X pQ O H { s with heap:=c }:=I.kept (t':=s.toks) n
    have t:Inv X pQ O (upd H c.objs.size (.tup a)) { s with heap:=c.push { cls:=.type "tuple",data:=.seq its.toArray } }:=
      k.laid (t':=s.toks) (λb o e=>aL _ e) (aD _) (show ObjOk X.prog X.w _ _ _ (.tup a) from⟨i,its,d,IsTup.new _ _⟩)
    exact⟨.ref c.objs.size,_,t,rfl,q _ (k.hok.fresh (aD _))⟩
  . obtain⟨its,d,f,i⟩:=I.tuple g
    exact call_tuple_same f ⟨.ref p,H,I,rfl,q⟩
def tyV(K:Fg)(T:String)(x:V)(H:Hp):Prop:=match x with
  |.str _=>T = "str"
  |.int _=>T = "int"
  |.ref p=>(T = "list"/\∃ xs,SqL K H p xs)\/(T = "tuple"/\∃ o,K.lookup p=aa o/\o.cls=.type "tuple"/\o.dict=ab) \/
      (T = "dict"/\((∃ a,H p=aa (.dK a))\/∃ a,H p=aa (.dT a)))\/(T = "set"/\∃ S n,H p=aa (.set S n))
  |_=>False
def tyV_is{O:St}{H:Hp}{T:String}{v:vL}(I:Inv X pQ O H s)(r:RelV x v)(ty:tyV X.K T x H) :
    s.TypeIs v T/\∀ a,v=.ref a->∃ j,s.heap.get? a=aa j/\j.dict=ab:=by
  cases x with
  |str z=>
    obtain⟨t,rfl⟩:=r;cases (show T = "str" from ty)
    exact⟨typeIs_str s z t,λ_ e=>nomatch e⟩
  |int i=>
    obtain⟨t,rfl⟩:=r;cases (show T = "int" from ty)
    exact⟨typeIs_int s i t,λ_ e=>nomatch e⟩
  |ref p=>
    cases r;rcases ty with⟨rfl,xs,k⟩|⟨rfl,o,b,l,f⟩|⟨rfl,b⟩|⟨rfl,S,n,b⟩
    . obtain⟨its,_,h,_⟩:=I.list k
      refine⟨h.isList.typeIs,λa e=>?_⟩
      cases e;obtain⟨o,n,e,c,f,_⟩:=h;exact⟨o,e,f⟩
    . refine⟨⟨o,I.kIn p o b,l⟩,λa e=>?_⟩
      cases e;exact⟨o,I.kIn _ o b,f⟩
    . have z:∃ o,s.heap.get? p=aa o/\o.ExactDict:=by
        rcases b with⟨d,b⟩|⟨d,b⟩
        . obtain⟨_,_,_,_,o,_,_,e,ex,_⟩:=I.hok p _ b
          exact⟨o,e,ex⟩
        . obtain⟨_,_,_,_,o,_,_,e,ex,_⟩:=I.hok p _ b
          exact⟨o,e,ex⟩
      obtain⟨o,e,ex⟩:=z;refine⟨⟨o,e,ex.1⟩,λa g=>?_⟩
      cases g;exact⟨o,e,ex.2.1⟩
    . obtain⟨o,_,_,_,e,ex,_⟩:=I.hok p _ b
      refine⟨⟨o,e,ex.1⟩,λa g=>?_⟩
      cases g;exact⟨o,e,ex.2.1⟩
  |_=>exact False.elim ty
def tBM0(K:Fg)(T:String)(r:V->Li V->Hp->VK->Prop)(b:TE):TE:=λO H Q=>b O H λx a=>tyV K T x a/\r x [] a Q
def tBM(K:Fg)(T:String)(r:V->Li V->Hp->VK->Prop)(b:TE)(t:TA):TE:=λO H Q=>b O H λx a=>tyV K T x a/\t O a λxs c=>r x xs c Q
variable{o:ay}{es:Li ay}{to:TE}{t:TA}{name:Str}{apos cpos:Pos}{T id:String}{r:V->Li V->Hp->VK->Prop}
def pe_bm0(g:PlainAttrs T)(slot:Slot T name id)(c:typeOf (.builtin id)=pure (.type "method_descriptor"))(j:MtR X id r)(i:PE X o to)(b:attributeBase o name X.env (eval o X.env)=eval o X.env:=by rfl)(a:(apos.endLine==cpos.line)=ac:=by rfl):PE X (.Call (.Attribute o name apos) [] [] cpos) (tBM0 X.K T r to):=by
  intro pQ s O H Q I h;refine wpAny_Call_method0_late b a (thn (i pQ s O H _ I h) λv s1 ⟨x,m,e,d,ty,f⟩=>?_)
  obtain⟨l,k⟩:=tyV_is e d ty;exact⟨T,id,g,slot,c,l,k,Calls.callWith_builtin rfl (PySem.evalArgs_none (j pQ s1 O m x [] v [] Q e d .nil f))⟩
def pe_bm(q:PlainAttrs T)(slot:Slot T name id)(f:typeOf (.builtin id)=pure (.type "method_descriptor"))(y:MtR X id r)(w:PE X o to)(z:PA X (e :: es) t)(c:attributeBase o name X.env (eval o X.env)=eval o X.env:=by rfl)(d:((backTo cpos (bc (e :: es) X.env)).all (λx=>!x.1)&&(backToKw cpos (keywordEach [] X.env)).all (λx=>x.1.isSome)
     &&aj ((e :: es).length+([]:Li Keyword).length+(if ([]:Li Keyword).isEmpty then 0 else 1) < 30))=ac:=by rfl)(b:(apos.endLine==cpos.line)=ac:=by rfl)(u:bc (e :: es) X.env=(ae,eval e X.env) :: bc es X.env:=by rfl)(a:(backTo cpos (bc es X.env)).any (·.1)=ae:=by rfl) :
    PE X (.Call (.Attribute o name apos) (e :: es) [] cpos) (tBM X.K T r to t):=by
  intro pQ s O H Q I h;refine wpAny_Call_method_late c d b rfl (thn (w pQ s O H _ I h) λv s1 ⟨x,E,j,g,ty,p⟩=>?_)
  obtain⟨B,A⟩:=tyV_is j g ty;refine⟨T,id,q,slot,f,B,A,?_⟩;have i:=z cpos pQ s1 O E _ j p;rw[u]at i ⊢;refine Calls.callWith_builtin (by show(ae||(backTo cpos (bc es X.env)).any (·.1))=ae;rw[a]<;>rfl) (Calls.evalArgs_plain ?_)
  exact thn i λus l ⟨k,D,C,m,n⟩=>y pQ l O D x k v us Q C g m n
end
def MtM(X:Cx)(id:String)(r:V->Li V->Hp->VK->Prop):Prop:=
  ∀ (pQ:Li (Ad×Obj)) (s:Sd) (O:St) (H:Hp) (x:V) (xs:Li V) (v:vL) (us:Li vL) (Q:VK),Inv X pQ O H s->RelV x v->Vals xs us->r x xs H Q->
    a0 (a6 X.prog X.w) X.A (call (.builtin id) (v :: us)) (EP X pQ O Q) X.xe s
def Vals.one(h:Vals [x] us):∃ u,us=[u]/\RelV x u:=by
  cases h with
  |cons r h=>cases h;exact⟨_,rfl,r⟩
def Vals.two(h:Vals [x,y] us):∃ u v,us=[u,v]/\RelV x u/\RelV y v:=by
  cases h with
  |cons r h=>cases h with
    |cons q h=>cases h;exact⟨_,_,rfl,r,q⟩
def Vals.zero:∀ {us:Li vL},Vals [] us->us=[]
  |_,.nil=>rfl
theorem Vals.dropLast(h:Vals xs us):Vals xs.dropLast us.dropLast:=by
  induction h with
  |nil=>exact .nil
  |cons r t a=>
    cases t with
    |nil=>exact .nil
    |cons q b=>exact .cons r a
theorem Vals.rep(h:Vals xs us):∀ k:Nat,Vals (af k xs).flatten (af k us).flatten
  |0=>.nil
  |k+1=>by
    rw[cK,cK,dD,dD];exact Vals.append h (Vals.rep h k)
def erase_last(l:Li α):l.eraseIdx (l.length - 1)=l.dropLast:=by
  induction l with
  |nil=>rfl
  |cons a r c=>
    cases r with
    |nil=>rfl
    |cons b r=>
      have e:(a :: b :: r).length - 1=((b :: r).length - 1)+1:=by
        have f:(a :: b :: r).length=r.length+2:=rfl;have d:(b :: r).length=r.length+1:=rfl;omega
      rw[e,List.eraseIdx_cons_succ,c]
      all_goals rfl
theorem foldl_rep(its:Li vL):∀ (k:Nat) (a:Li vL),
    List.foldl (λc b=>c++b) a.toArray (af k its.toArray)=(a++(af k its).flatten).toArray
  |0,a=>by simp
  |k+1,a=>by
    have e:a.toArray++its.toArray=(a++its).toArray:=by simp
    have d:(a++its)++(af k its).flatten=a++(af (k+1) its).flatten:=by
      rw[cK,dD,bF]
    rw[<-d,<-foldl_rep its k (a++its),<-e,cK,List.foldl_cons]
variable{pQ:Li (Ad×Obj)}{s:Sd}{xs:Li V}
section
variable{O:St}{H:Hp}{l b:Ad}{ys zs:Li V}
def Inv.lset{f:Array vL->Array vL}{a:Nat}(I:Inv X pQ O H s)(i:H l=aa (.lst xs))(e:s.heap.get? l=aa { cls:=.type "list",data:=.seq its.toArray n })(g:f its.toArray=its'.toArray)(c:Vals ys its')(b:ys.length<=ax) :
    Inv X pQ O (upd H l (.lst ys)) { s with heap:=s.heap.update l (Obj.mapSeq f),toks:=a }:=by
  have q:=PySem.IsL.update e f;rw[g]at q;refine I.write (x:=l) (e:=l) (by rw[i];exact trivial) (.inl rfl) (λj u h d=>(Heap.get?_update_other s.heap (Obj.mapSeq f) (Ne.symm h)).trans d) ⟨_,q⟩ ?_
  exact⟨b,its',_,c,q⟩
def Inv.lnew{t':Nat}(I:Inv X pQ O H s)(b:Vals ys its)(a:ys.length<=ax) :
    Inv X pQ O (upd H s.heap.objs.size (.lst ys)) { s with heap:=s.heap.push { cls:=.type "list",data:=.seq its.toArray },toks:=t' }:=
  I.laid (λ_ _ q=>aL _ q) (aD _) ⟨a,its,0,b,aX _ rfl⟩
theorem Inv.fresh(I:Inv X pQ O H s):H s.heap.objs.size=ab:=I.hok.fresh (aD _)
def Inv.lstM(I:Inv X pQ O H s)(a:H l=aa (.lst xs)):xs.length<=ax/\∃ (its:Li vL) (n:Nat),Vals xs its/\xs.length=its.length/\s.heap.get? l=aa { cls:=.type "list",data:=.seq its.toArray n }:=by
  obtain⟨z,its,n,r,e⟩:=I.hok l _ a;exact⟨z,its,n,r,r.length,e⟩
def notLongL(h:n<=ax):Builtin.List.listTooLong n=ae:=by
  unfold Builtin.List.listTooLong;exact aG (by omega)
end
def rAppend:V->Li V->Hp->VK->Prop:=λx a H Q=>∃ l xs y,x=.ref l/\a=[y]/\H l=aa (.lst xs)/\xs.length < ax/\Q .non (upd H l (.lst (xs++[y])))
theorem mt_append:MtM X "list.append" rAppend:=by
  intro pQ s O H x d v us Q I b rv h;obtain⟨l,xs,y,rfl,rfl,a,f,q⟩:=h;cases b;obtain⟨u,rfl,c⟩:=rv.one;obtain⟨z,its,n,r,g,e⟩:=I.lstM a;refine call_meets F.slot_list_append ⟨_,e,rfl⟩ F.entry_list_append (F.args_list_append_2 _ _) (PySem.list_append l its.toArray n u (by rw[aI];omega)) ⟨e,?_⟩
  refine⟨.non,_,I.lset (its':=its++[u]) a e (by simp) (r.append (.cons c .nil)) ?_,rfl,q⟩
  rw[aH,eV];omega
def rExtend:V->Li V->Hp->VK->Prop:=λx c H Q=>∃ l b xs a,x=.ref l/\c=[.ref b]/\H l=aa (.lst xs)/\H b=aa (.lst a)/\xs.length+a.length<=ax/\Q .non (upd H l (.lst (xs++a)))
theorem mt_extend:MtM X "list.extend" rExtend:=by
  intro pQ s O H x y v us Q I g rv h;obtain⟨l,b,xs,t,rfl,rfl,f,o,A,q⟩:=h;cases g;obtain⟨u,rfl,i⟩:=rv.one;cases i;obtain⟨z,its,n,r,B,e⟩:=I.lstM f;obtain⟨w,a,k,j,m,p⟩:=I.lstM o;have d:its.toArray.size+a.toArray.size<=ax:=by rw[aI,aI];omega
  have c:¬(!its.toArray.isEmpty&&Builtin.List.listTooLong (its.toArray.size+a.toArray.size))=ac:=by
    rw[notLongL d,Bool.and_false];exact Bf
  refine call_meets F.slot_list_extend ⟨_,e,rfl⟩ F.entry_list_extend (F.args_list_extend_2 _ _)
    (AutoSeq1.list_extend_list_list_0 l its.toArray n b a.toArray k c (by rw[aI];omega) (by omega)) ⟨e,p,?_⟩
  refine⟨.non,_,I.lset (its':=its++a) f e (by simp) (r.append j) ?_,rfl,q⟩
  rw[aH];omega
def rPop:V->Li V->Hp->VK->Prop:=λx a H Q=>∃ l xs y,x=.ref l/\a=[]/\H l=aa (.lst xs)/\xs[xs.length - 1]?=aa y/\Q y (upd H l (.lst xs.dropLast))
theorem mt_pop:MtM X "list.pop" rPop:=by
  intro pQ s O H x k v us Q I d rv h;obtain⟨l,xs,y,rfl,rfl,c,g,q⟩:=h;cases d;have b:=rv.zero;subst b;obtain⟨z,its,n,r,j,e⟩:=I.lstM c;obtain⟨u,i,f⟩:=r.get g;have a:its.toArray[its.toArray.size - 1]?=aa u:=by
    show its.toArray[its.length - 1]?=aa u;rw[<-eW,<-j];exact i
  refine call_meets F.slot_list_pop ⟨_,e,rfl⟩ F.entry_list_pop (F.args_list_pop_1 _) (MeetsSeq.list_pop_last l its.toArray n u a (by rw[aI];omega)) ⟨e,?_⟩
  refine⟨y,_,I.lset (its':=its.dropLast) c e ?_ r.dropLast ?_,f,q⟩
  . show its.toArray.eraseIdxIfInBounds (its.toArray.size - 1)=its.dropLast.toArray
    rw[aI,List.eraseIdxIfInBounds_toArray,erase_last]
  . rw[List.length_dropLast]
    omega
def rRep:R2:=λx y H Q=>∃ l k xs,x=.ref l/\y=.int k/\H l=aa (.lst xs)/\-(2 ^ 63)<=k/\k < 2 ^ 63/\xs.length * k.toNat<=ax /\
  ∀ p,H p=ab->Q (.ref p) (upd H p (.lst (af k.toNat xs).flatten))
def len_rep(xs:Li α)(k:Nat):(af k xs).flatten.length=k * xs.length:=by
  induction k with
  |zero=>simp
  |succ k a=>rw[cK,dD,aH,a,Nat.succ_mul,Nat.add_comm]
theorem op_rep:OpR X (br .Mult) rRep:=by
  intro pQ s O H x y v u Q I A w h;obtain⟨l,k,xs,rfl,rfl,C,E,D,o,q⟩:=h;cases A;obtain⟨t,rfl⟩:=w;obtain⟨z,its,n,r,B,e⟩:=I.lstM C;have d:its.toArray.size * k.toNat<=ax:=by rw[aI,<-B];exact o
  have g:¬its.toArray.size * k.toNat > (2 ^ 63 - 1) / 8:=by
    have:(ax:Nat)<=(2 ^ 63 - 1) / 8:=by decide
    omega
  have f:¬(!Builtin.List.listFitsIndex k)=ac:=by
    rw[fitsIndex_both E D];exact Bf
  have b:¬Builtin.List.listTooLong (its.toArray.size * k.toNat)=ac:=by
    rw[notLongL d];exact Bf
  have c:List.foldl (λj i=>j++i) #[] (af (if its.toArray.isEmpty=ac then 0 else k.toNat) its.toArray)=(af k.toNat its).flatten.toArray:=by
    have G:∀ m:Nat,List.foldl (λj i=>j++i) #[] (af m its.toArray)=(af m its).flatten.toArray:=λm=>by
      have:=foldl_rep its m [];rw[dE]at this;exact this
    rw[G];cases its with
    |nil=>simp
    |cons a J=>rw[aq (by simp)]
  refine wpAny_binaryOp_repeat_ref (T := "list") (U := "int") (by decide) ⟨_,e,rfl⟩ (λp=>typeIs_int p k t) noFill_list_mul F.fills_int_mul F.slot_int_rmul repeat_list F.slot_int_index.lookup
    (call_meets F.slot_int_rmul (typeIs_int s k t) F.entry_int_rmul (F.args_int_rmul_2 _ _) (int___rmul___int_list k t l its.toArray n)
      ⟨e,rfl,⟨_,e,rfl⟩,call_meets F.slot_list_mul ⟨_,e,rfl⟩ F.entry_list_mul (F.args_list_mul_2 _ _) (AutoListH.list___mul___list_int_3 l its.toArray n k t f g b) ⟨e,?_⟩⟩)
  rw[c];exact⟨.ref _,_,I.lnew (t':=s.toks) (r.rep k.toNat) (by rw[len_rep,Nat.mul_comm];exact o),rfl,q _ I.fresh⟩
section
variable{prog:a7}{w:bm}{A:bq}{E:vL->Sd->Prop}
end
end L2
namespace Att
open PySem PySem.W PySem.Calls PyProof.Rows
variable{h:bj}
def ints_of_wellAll{P:Params}:∀ (c:Li Int) (d:Li vL),WellAll P h d (c.map WData.int)->IntsAre d c:=by
  intro c
  induction c with
  |nil=>
    intro d w;rw[dS]at w;cases w;exact .nil
  |cons n c e=>
    intro d w;rw[aQ]at w;cases w with
    |cons a b=>
      cases a;exact .cons _ _ (e _ b)
variable{l:OpenLaw}
def script_of{n:Nat}(w:l.most=aa n){P:Params}{args:Li WData}{c:Li vL}(e:l.row.toRowW.claim.pre args=ac)(k:WellAll P h c args) :
    ∃ a o b,c=[bu a]/\args=[WData.list (b.map WData.int)]/\h.get? a=aa { cls:=.type "list",data:=.seq o.toArray }/\IntsAre o b/\b.length<=n:=by
  have m:WShape.hasAll [] args [.list .int]=ac:=(pre_splitW e).1;have p:l.pre.holds [] { args:=args }=ac:=(pre_splitW e).2;obtain⟨d,r,rfl,z,y⟩:=hasAllW_cons m;obtain rfl:=hasAllW_nil y;obtain⟨A,rfl,x⟩:=hasW_list z;obtain⟨b,rfl⟩:=items_int x;have f:b.length<=n:=by
    unfold OpenLaw.pre at p;have j:(WTm.not (.lt (.lit (.int (n:Int))) (.len (.arg 0)))).holds [] { args:=[.list (b.map .int)] }=ac:=by
      have j:=(holds_andW p).1;rw[w]at j;exact j
    have i:=condW_of j (w_not (w_lt w_lit (w_len_list (w_arg rfl))));rw[aB]at i;refine eH λq=>?_
    have u:(n:Int) < ((b.length:Nat):Int):=by omega
    first
      | (rw[aK u]at i;exact ar i (by decide))
      | (simp at i;omega)
  cases k with
  |cons t s=>
    cases s;cases t with
    |list v g=>exact⟨_,_,b,rfl,rfl,v,ints_of_wellAll b _ g,f⟩
def post_true(l:OpenLaw)(args:Li WData):l.row.toRowW.claim.post args (.bool ac) args=ac:=
  postW_of (r:=l.row.toRowW) (X:=(ac==ac))
    (show WShape.has [] (.bool ac) .bool=ac by first|rfl|decide|simp[WShape.has,WShape.arms,WShape.armsAll])
    (show(WTm.eq .res (.lit (.bool ac))).value [] { args:=args,res:=aa (.bool ac),after:=args }=aa (.bool (ac==ac)) from w_eq_bool (w_res rfl) w_lit) rfl
def attach_call{n:Nat}{q:a7}{c:Li Str}{H:(Str->Ot vL)->bj->Prop}{F:bm->bj->Prop}{d:DefRec}(L:l.most=aa n)(z:d.params.defaults=[])(call:∀ (w:bm) (s₀ b:Sd) (mg v:Str->Ot vL) (m:Ad) (o:Obj) (u t g:vL) (a:Ad) (h:Li vL) (s:Li Int),
      Ground q c [] H w s₀ mg v b.heap->F w b.heap->
      b.heap.get? m=aa o->o.data=.func (docDef d.name d.params d.body d.scope u t g)->b.heap.CodeRec t d.name->mg d.name=aa (.ref m)->
      b.heap.get? a=aa { cls:=.type "list",data:=.seq h.toArray }->IntsAre h s->s.length<=n->b.gens=#[]->
      codeAny (a6 l.prog w) callerA (.call (.ref m) ⟨[.ref a],[]⟩) (λr p=>r=.ok (.ret (.bool ac))/\OldK b.heap p.heap/\p.os=b.os/\AllBare p.gens) b) :
    WalkO q c H F l.row.toRowW d [] (λf h=>PySem.call f h):=by
  intro w s₀ b mg v G Y m o u t g T kV K P A D y O E B U i C I x N;obtain rfl:T=.none:=Dflts.none D z;obtain rfl:kV=.none:=Dflts.noKw D;obtain⟨a,h,s,rfl,rfl,j,e,k⟩:=script_of L i x;refine enter_call (codeAny_mono (call w s₀ b mg v m o u t g a h s G Y K (fd_plain P) A y j e k O) λr p J=>?_)
  obtain⟨rfl,S,R,Q⟩:=J;exact⟨.inl ⟨.bool ac,.bool ac,[],rfl,λ_=>rfl,.bool ac,post_true l _,λ_=>⟨List.Pairwise.nil,λ_ M=>(nomatch M)⟩⟩,S,R,Q⟩
section
variable{prog:a7}{w:bm}{A:bq}{E:vL->Sd->Prop}{s:Sd}{K:Frag}
end
end Att
namespace L2
open PySem PySem.Spec PyProof.Rows
theorem vals_ints:∀ {vs:Li vL}{ns:Li Int},IntsAre vs ns->Vals (ns.map V.int) vs
  |_,_,.nil=>.nil
  |_,_,.cons n t h=>.cons ⟨t,rfl⟩ (vals_ints h)
def Only(H:Hp):Prop:=∀ b,H b=ab\/∃ o a,H b=aa (.frz o (.lst a))
variable{w:bm}
def law_call{P:a7}{K:Fg}{mg Q:Str->Ot vL}{CX:CXT}{k:Nat}{W a:Ad}{fd:bh}{x:Str}{Y:Sp}{c:Sd}{p:Li vL}{A:Li Int}(KX:K.In c.heap)(E:c.heap.Ns az mg)(g:c.heap.Ns builtinsNs Q)(T:∀ x:Str,x ≠ "__name__"->Q x=bf x)(G:c.heap.NoLimit)(hg:c.gens=#[])(N:c.heap.get? a=aa { cls:=.type "list",data:=.seq p.toArray })(hi:IntsAre p A)(Z:A.length<=ax)(hr:Room k callerA)(F:∀ base:bj,K.In base->base.Ns az mg->FnOk P w K mg base CX k W fd [x] Y)(t:∀ (s:Sd) (u:vL),BindsTo s fd ⟨[u],[]⟩ [(x,u)])(R:∀ H:Hp,Only H->SqL K H a (A.map V.int)->Y [.ref a] H (λv _=>v=.bl ac) λ_ _ _=>False)(U:∀ H e i,CX [] H c (λ_ _ _=>False) e i->False) :
    codeAny (a6 P w) callerA (.call (.ref W) ⟨[.ref a],[]⟩) (λr i=>r=.ok (.ret (.bool ac))/\OldK c.heap i.heap/\i.os=c.os/\AllBare i.gens) c:=by
  have rv:=vals_ints hi;have B:=hi.length
  -- from an abstract heap in which nothing but the script may be tracked
  have l:∀ H:Hp,Only H->SqL K H a (A.map V.int)->HOk P w H c.heap->(∀ b,H b≠ab->b=a)->(H a≠ab->K.lookup a=ab)->
      codeAny (a6 P w) callerA (.call (.ref W) ⟨[.ref a],[]⟩) (λr i=>r=.ok (.ret (.bool ac))/\OldK c.heap i.heap/\i.os=c.os/\AllBare i.gens) c:=by
    intro H hO hS D hA hK;have f:∀ {b:Ad}{o:Obj},c.heap.get? b=aa o->H b=ab->(hidT c.heap H).get? b=aa o:=λe n=>hidT_get e n
    have O:∀ {b:Ad}{o:Obj}{J:Array DictEntry}{L:Nat},c.heap.get? b=aa o->o.data=.dict J L->H b=ab:=λ{b o J L} e d=>by
      cases q:H b with
      |none=>rfl
      |some u=>
        have X:b=a:=hA b (by rw[q];simp)
        subst X;rw[N]at e;cases e
        have d':Data.seq p.toArray _=Data.dict J L:=d;cases d'
    have j:∀ {b:Ad}{m:Str->Ot vL},c.heap.Ns b m->(hidT c.heap H).Ns b m:=λ{b m} ⟨o,J,L,e,d,r⟩=>⟨o,J,L,f e (O e d),d,r⟩
    have I:K.In (hidT c.heap H):=λb o e=>f (KX b o e) (by
      cases q:H b with
      |none=>rfl
      |some u=>
        have X:b=a:=hA b (by rw[q];simp)
        subst X;rw[hK (by rw[q];simp)]at e;cases e)
    have hM:Mod K mg (hidT c.heap H):=⟨I,j E,⟨Q,j g,T⟩,let ⟨mc,h1,h2⟩:=G;⟨mc,j h1,h2⟩⟩
    have e0:Env0 P w K mg (hidT c.heap H) callerA [] c H:=⟨rfl,hM,λb o e=>of_hidT e,cP (hidT_size _ _),trivial,λb g=>ar (show b∈([]:Li Ad) from g) (by simp),D,.of_eq hg⟩
    refine codeAny_mono ((F _ I (j E)).run callerA [] c H ⟨[.ref a],[]⟩ [.ref a] [.ref a] _ _ hr e0 (t c (.ref a)) (.cons rfl .nil) (R H hO hS)) λr i h=>?_
    cases r with
    |error e=>exact(U H e i h).elim
    |ok fl=>
      cases fl with
      |next=>exact False.elim h
      |brk=>exact False.elim h
      |cont=>exact False.elim h
      |ret u=>
        obtain⟨v,H',os,M,un,C,r',q⟩:=h;have q':v=.bl ac:=q;subst q';obtain rfl:u=Value.bool ac:=r';refine⟨rfl,OldK.of_keep λb o e=>?_,os,M⟩
        cases q:H b with
        |none=>exact un.keep b o e q (by intro z;exact ar (show b∈([]:Li Ad) from z) (by simp)) (by simp)
        |some u=>
          rcases hO b with z|⟨ob,xs,z⟩
          . rw[q]at z;cases z
          . have z2:=un.frzs b ob _ z
            obtain⟨e1,_⟩:=D b _ z;obtain⟨e2,_⟩:=C b _ z2;rw[e]at e1;cases e1
            exact e2
  cases S:K.lookup a with
  |some o=>
    -- the script is one of the module's own objects
    have e:=KX a o S;rw[N]at e;cases e;refine l (λ_=>ab) (λ_=>.inl rfl) (.inr ⟨_,p.toArray,_,S,rfl,rfl,rfl,by rw[aI,B];exact Z,by simpa using rv⟩) (λb u z=>by have y:(ab:Ot HO)=aa u:=z;cases y) (λb z=>ar rfl z) λz=>ar rfl z
  |none=>
    refine l (λb=>if b=a then aa (.frz { cls:=.type "list",data:=.seq p.toArray } (.lst (A.map V.int))) else ab) (λb=>?_) (.inl (.inr ⟨{ cls:=.type "list",data:=.seq p.toArray },ao rfl⟩)) (λb u z=>?_) (λb z=>?_) λ_=>S
    . by_cases g:b=a
      . exact .inr ⟨_,_,ao g⟩
      . exact .inl (aq g)
    . by_cases g:b=a
      . have y:=(ao g).symm.trans z
        cases y;subst g;exact⟨N,by rw[aB];exact Z,p,_,rv,N⟩
      . have y:=(aq g).symm.trans z
        cases y
    . by_cases g:b=a
      . exact g
      . exact ar (aq g) z
def walk_of{l:W.OpenLaw}{n k:Nat}{q:a7}{i:Li Str}{Z:(Str->Ot vL)->bj->Prop}{J:bm->bj->Prop}{d:DefRec}{K:Params->Fg}{CX:bm->CXT}{sp:bm->Sp}{x:Str}(M:l.most=aa n)(A:n<=ax)(C:d.params.defaults=[])(L:Room k callerA)(Q:∀ (w:bm) (h:bj),J w h->(K w.params).In h)(F:∀ (w:bm) (mg:Str->Ot vL) (t:Ad) (h:bj),(K w.params).In h->h.Ns az mg->mg d.name=aa (.ref t)->
      ∃ fd:bh,(∀ (s:Sd) (u:vL),BindsTo s fd ⟨[u],[]⟩ [(x,u)]) /\
        ∀ base:bj,(K w.params).In base->base.Ns az mg->FnOk l.prog w (K w.params) mg base (CX w) k t fd [x] (sp w))(z:∀ (w:bm) (H:Hp) (a:Ad) (r:Li Int),r.length<=n->Only H->SqL (K w.params) H a (r.map V.int)->sp w [.ref a] H (λv _=>v=.bl ac) λ_ _ _=>False)(D:∀ (w:bm) (H:Hp) (s:Sd) (e:vL) (y:Sd),CX w [] H s (λ_ _ _=>False) e y->False) :
    W.WalkO q i Z J l.row.toRowW d [] (λf E=>PySem.call f E):=by
  refine Att.attach_call M C λw I m mg mb t o pm cd X a E r G Y ho hd O B p j c N=>?_
  have KX:=Q w _ Y;obtain⟨fd,P,U⟩:=F w mg t _ KX G.T.g B;exact law_call KX G.T.g G.T.b G.T.builtins G.T.nolimit N p j (aM c A) L U P (λH S R=>z w H a r c S R) λH e y=>D w H m e y
noncomputable def defArgs(s:Stmt):Arguments:=match s with
  |.FunctionDef _ a _ _ _ _ _ _ _ _=>a
  |_=>{ posonlyargs:=[],args:=[],vararg:=ab,kwonlyargs:=[],kw_defaults:=[],kwarg:=ab,defaults:=[] }
noncomputable def defBody(s:Stmt):Li Stmt:=match s with
  |.FunctionDef _ _ b _ _ _ _ _ _ _=>b
  |_=>[]
noncomputable def defScope(s:Stmt):bg:=match s with
  |.FunctionDef _ _ _ _ _ _ sc _ _ _=>sc
  |_=>{ kind:=.function,names:=[],isGenerator:=ae,isCoroutine:=ae }
noncomputable abbrev CX0:CXT:=λ_ _ _ _ _ _=>False
abbrev E0:XK:=λ_ _ _=>False
variable{X:Cx}
def pass0:Passes CX0 X E0:=λ_ _ _ _ _ _ _ h=>h.elim
structure Fun(K:Fg)(x qual:Str)(st:Stmt)(f:Addr)(fd:bh):Prop where
  ex:∃ (oc:Value) (od:Option Addr) (kV doc pm:Value) (an:Option Addr) (cdv ct:Value) (osl:Array (Option Value)),
    fd=W.fnOf x qual (defArgs st) (defBody st) (defScope st) .none kV doc pm an cdv ct/\K.lookup f=aa ⟨oc,od,.func fd,osl⟩/\W.codeIn K cdv qual=ac
  kp:W.keepIn K (.ref f)=ac
variable{P:a7}{w:bm}
section
variable{K:Fg}{mg:Str->Ot vL}{base:bj}
end
variable{X:Cx}
variable{y:V}{u:vL}
section
variable {κ:Type} [DecidableEq κ]
noncomputable def valV(a:Li (κ×V))(k:κ):Ot V:=(a.find? λb=>aj (b.1=k)).map (·.2)
noncomputable def putK(a:Li (κ×V))(k:κ)(v:V):Li (κ×V):=
 if (a.any λb=>aj (b.1=k))=ac then a.map (λb=>if b.1=k then (b.1,v) else b) else a++[(k,v)]
def valV_pos{p:κ×V}{r:Li (κ×V)}{k:κ}(e:p.1=k):valV (p :: r) k=aa p.2:=by simp[valV,cL,e]
def valV_neg{p:κ×V}{r:Li (κ×V)}{k:κ}(e:¬p.1=k):valV (p :: r) k=valV r k:=by simp[valV,cL,e]
def length_putK(a:Li (κ×V))(k:κ)(v:V):(putK a k v).length<=a.length+1:=by
 unfold putK;split
 .rw[aB];omega
 .rw[aH,aO,cV];omega
def RelO.isSome_eq{o:Ot V}{u:Ot vL}(r:RelO o u):o.isSome=u.isSome:=by
 cases o with
 |none=>cases u with
  |none=>rfl
  |some _=>exact(show False from r).elim
 |some _=>cases u with
  |none=>exact(show False from r).elim
  |some _=>rfl
def KV.val{a:Li (κ×V)}{f:Li (κ×vL)}(r:KV a f)(k:κ):RelO (valV a k) (valueAt f k):=by
 unfold KV at r
 induction r with
 |nil=>exact True.intro
 |@cons p q l c h t i=>
  obtain⟨g,j⟩:=h;by_cases e:p.1=k
  .have d:q.1=k:=g.symm.trans e
   have b:valueAt (q :: c) k=aa q.2:=by simp[valueAt,cL,d]
   rw[valV_pos e,b];exact j
  .have d:¬q.1=k:=λz=>e (g.trans z)
   have b:valueAt (q :: c) k=valueAt c k:=by simp[valueAt,cL,d]
   rw[valV_neg e,b];exact i
theorem KV.any{a:Li (κ×V)}{c:Li (κ×vL)}(r:KV a c)(k:κ):(a.any λb=>aj (b.1=k))=c.any λb=>aj (b.1=k):=by
 unfold KV at r
 induction r with
 |nil=>rfl
 |cons h t d=>rw[cG,cG,d,h.1]
def KV.repl{b:Li (κ×V)}{d:Li (κ×vL)}(r:KV b d)(k:κ)(f:RelV y u) :
  KV (b.map λa=>if a.1=k then (a.1,y) else a) (d.map λa=>if a.1=k then (a.1,u) else a):=by
 unfold KV at r ⊢
 induction r with
 |nil=>exact .nil
 |@cons p q l j h t g=>
  rw[aQ,aQ];refine .cons ?_ g;obtain⟨c,i⟩:=h;by_cases e:p.1=k
  .rw[ao e,ao (c.symm.trans e)];exact⟨c,f⟩
  .rw[aq e,aq (λz=>e (c.trans z))];exact⟨c,i⟩
def KV.put{a:Li (κ×V)}{b:Li (κ×vL)}(r:KV a b)(k:κ)(c:RelV y u):KV (putK a k y) (stored b k u):=by
 unfold putK stored;rw[r.any k];by_cases e:(b.any λd=>aj (d.1=k))=ac
 .rw[ao e,ao e];exact r.repl k c
 .rw[aq e,aq e];exact Paired.snoc r ⟨rfl,c⟩
end
def kV_is{P:a7}{k:Key}(r:RelV (kV k) u):(mixKind P w).is k u=ac:=by
 cases k with
 |inl i=>obtain⟨t,e⟩:=(show ∃ t,u=Value.int i t from r);subst e;exact mixKind_int P w i t
 |inr x=>obtain⟨t,e⟩:=(show ∃ t,u=Value.str x t from r);subst e;exact mixKind_str P w x t
variable{H:Hp}{h:bj}{a:Ad}
def rd_of{u:HO}(ok:HOk P w H h)(e:Rd H a u):ObjOk P w H h a u:=e.ok ok
def dk_rd{b:Li (Key×V)}(ok:HOk P w H h)(e:Rd H a (.dK b)):b.length<=ax/\(a==bp)=ae/\∃ c,KV b c/\h.DictOf (mixKind P w) a c:=
 show ObjOk P w H h a (.dK b) from rd_of ok e
def dk_of{b:Li (Key×V)}(ok:HOk P w H h)(e:H a=aa (.dK b)):b.length<=ax/\(a==bp)=ae/\∃ c,KV b c/\h.DictOf (mixKind P w) a c:=dk_rd ok (.inl e)
variable{h':bj}
variable{y:V}{u:vL}
section
variable{pQ:Li (Ad×Obj)}{O:St}{s:Sd}{v:V}{r:vL}{o:Ot V}{A:bq}{E:vL->Sd->Prop}
def Inv.big(I:Inv X pQ O H s):bp < s.heap.objs.size:=by
 have h:az < s.heap.objs.size:=(I.mod.glob.keeps I.bk).lt;exact Nat.lt_trans (by decide) h
def d_write{d:Nat}{c:HO}(I:Inv X pQ O H s)(mu:Mut (H a))(f:Heap.SameBut a s.heap h')(g:∃ q,h'.get? a=aa q)(new:ObjOk X.prog X.w (upd H a c) h' a c) :
  Inv X pQ O (upd H a c) { s with heap:=h',toks:=d }:=
 I.write (x:=a) (e:=a) mu (.inl rfl) (λb q h z=>(f.2 b h).trans z) g new
def dk_new{P:a7}{e:Hp}{b:Li (Key×V)}{c:Li (Key×vL)}(z:b.length<=ax)(hd:(a==bp)=ae)(d:KV b c)(dd:h'.DictOf (mixKind P w) a c) :
  ObjOk P w e h' a (.dK b):=⟨z,hd,c,d,dd⟩
end
variable{H:Hp}
def dk_empty{P:a7}(h:bj)(a:bp < h.objs.size):ObjOk P w H (h.push { cls:=.type "dict",data:=.dict #[] }) h.objs.size (.dK []):=
 ⟨aS _,cU.mpr (Ne.symm (aZ a)),[],.nil,Heap.DictOf.new h⟩
def tPairs:Li (TE×TE)->St->Hp->(Li (V×V)->Hp->Prop)->Prop
 |[],_,H,Q=>Q [] H
 | (b,a) :: r,O,H,Q=>b O H λx f=>a O f λy e=>tPairs r O e λc d=>Q ((x,y) :: c) d
abbrev VV:Li (V×V)->Li (vL×vL)->Prop:=Paired λp q=>RelV p.1 q.1/\RelV p.2 q.2
def PPs(X:Cx)(d:Pos)(b:Li (Ot ay))(a:Li ay)(c:Li (TE×TE)):Prop:=
 ∀ (pQ:Li (Ad×Obj)) (s:Sd) (O:St) (H:Hp) (Q:Li (V×V)->Hp->Prop),Inv X pQ O H s->tPairs c O H Q->
  a0 (a6 X.prog X.w) X.A (evalPairs (pairTrees b a X.env d)) (λg h=>∃ e f,Inv X pQ O f h/\VV e g/\Q e f) X.xe s
variable{pos:Pos}
def pps_nil:PPs X pos [] [] []:=λa s O H Q I h=>pairTrees_nil_walk ⟨[],H,I,.nil,h⟩
variable{trs:Li (TE×TE)}
def pps_cons{k v:ay}{f:Li (Ot ay)}{c:Li ay}{e d:TE}(r:PE X k e)(p:PE X v d)(q:PPs X pos f c trs) :
  PPs X pos (aa k :: f) (v :: c) ((e,d) :: trs):=λb s O H Q I h=>
 pairTrees_cons_walk (thn (r b s O H _ I h) λu s1 ⟨x,C,z,j,n⟩=>thn (p b s1 O C _ z n) λE g ⟨y,B,w,i,m⟩=>
  thn (q b g O B _ w m) λD F ⟨o,A,t,a,l⟩=>⟨(x,y) :: o,A,t,.cons ⟨j,i⟩ a,l⟩)
def mergeK(a more:Li (Key×V)):Li (Key×V):=more.foldl (λb c=>putK b c.1 c.2) a
def KV.merge:∀ {more:Li (Key×V)}{rs:Li (Key×vL)}{a:Li (Key×V)}{b:Li (Key×vL)},KV more rs->KV a b->KV (mergeK a more) (merged b rs):=by
 intro more rs a b r;unfold KV at r
 induction r generalizing a b with
 |nil=>intro q;exact q
 |@cons p q g f h t d=>
  intro c;have e:KV (putK a p.1 p.2) (stored b q.1 q.2):=by
   have:=c.put p.1 h.2;rw[<-h.1];exact this
  exact d e
theorem length_mergeK:∀ (more a:Li (Key×V)),(mergeK a more).length<=a.length+more.length
 |[],a=>by show a.length<=a.length+0;omega
 |p :: r,a=>by
  have c:=length_mergeK r (putK a p.1 p.2);have b:=length_putK a p.1 p.2;show(mergeK (putK a p.1 p.2) r).length<=_;rw[aO];omega
theorem carries_of{P:a7}{w:bm}:∀ {d:Li (Key×V)}{ws:Li (vL×vL)},VV (d.map λe=>(kV e.1,e.2)) ws->∃ rs,Carries (mixKind P w) ws rs/\KV d rs
 |[],_,r=>by rw[dS]at r;cases r;exact⟨[],True.intro,.nil⟩
 |p :: d,_,r=>by
  rw[aQ]at r;cases r with
  |@cons a b i bs h t=>
   obtain⟨rs,c,q⟩:=carries_of (P:=P) (w:=w) t;obtain⟨g,f⟩:=b;exact⟨(p.1,f) :: rs,⟨kV_is h.1,rfl,c⟩,.cons ⟨rfl,h.2⟩ q⟩
def tDisp(K:Fg)(trs:Li (TE×TE)):TE:=λO H Q=>∀ p,H p=ab->(∀ o,K.lookup p≠aa o)->tPairs trs O (upd H p (.dK [])) λd c=>c p=aa (.dK [])/\∃ a:Li (Key×V),d=a.map (λb=>(kV b.1,b.2))/\a.length<=15/\Q (.ref p) (upd c p (.dK (mergeK [] a)))
def pe_disp{b:Li (Ot ay)}{d:Li ay}(h:PPs X pos b d trs)(g:b.all (·.isSome)=ac)(y:b.length=d.length)(D:b≠[])(k:b.length<=15):PE X (.Dict b d pos) (tDisp X.K trs):=by
 intro t s O H Q I q;have x:=I.hok.fresh (aD s.heap.objs.size);have F:=I.laid (a:=s.heap.objs.size) (o:=.dK []) (h':=s.heap.push { cls:=.type "dict",data:=.dict #[] }) (t':=s.toks) (λ_ _ q=>aL _ q) (aD _) (dk_empty s.heap I.big)
 refine wpAny_Dict_walk (knd:=mixKind X.prog X.w) g y D k (thn (h t _ O _ _ F (q _ x λo z=>ar (aJ (I.kIn _ o z)) (bZ _))) λG J ⟨L,M,l,j,e,f,E,lk,r⟩=>?_)
 subst E;obtain⟨rs,c,n⟩:=carries_of (P:=X.prog) (w:=X.w) j;obtain⟨z,B,m,p,dd⟩:=dk_of l.hok e;cases p;refine⟨rs,c,dd,λh' i v=>⟨.ref s.heap.objs.size,_,?_,rfl,r⟩⟩
 have u:(mergeK [] f).length<=ax:=by
  have C:=length_mergeK f [];rw[cV]at C;rw[sizeLine_eq];omega
 have A:∃ q,h'.get? s.heap.objs.size=aa q:=let ⟨q,_,_,hq,_⟩:=i;⟨q,hq⟩
 exact d_write l (by rw[e];exact True.intro) v A (dk_new u B (n.merge .nil) i)
def rIxD:R2:=λx y H Q=>∃ p a k v,x=.ref p/\y=kV k/\H p=aa (.dK a)/\valV a k=aa v/\Q v H
def ix_dct:IxR X rIxD:=by
 intro a slice t s O H x y v u Q I f e h j;obtain⟨p,g,k,z,rfl,rfl,l,m,q⟩:=h;cases f;obtain⟨n,w,d,c,dd⟩:=dk_of I.hok l;obtain⟨r,i,b⟩:=RelO.some_of (v:=z) (o:=valueAt d k) (by rw[<-m];exact c.val k)
 exact tail_any dd.typeIs PySem.F.slot_dict_getitem.lookup (wpAny_getItem_of (kV_is e) dd.mapOf i ⟨z,H,I.tok _,b,q⟩) j
def rInD:R2:=λx y H Q=>∃ p a k,y=.ref p/\x=kV k/\H p=aa (.dK a)/\Q (.bl (valV a k).isSome) H
def op_in_dct:OpR X (bo .In) rInD:=by
 intro j s O H x y v u Q I d c h;obtain⟨p,b,k,rfl,rfl,e,q⟩:=h;cases c;obtain⟨g,f,i,a,dd⟩:=dk_of I.hok e;refine wpAny_in_of (kV_is d) f dd.mapOf ?_;rw[<-(a.val k).isSome_eq];exact⟨.bl (valV b k).isSome,H,I.tok _,rfl,q⟩
section
variable {κ:Type} [DecidableEq κ]
theorem valV_any(k:κ):∀ a:Li (κ×V),(a.any λb=>aj (b.1=k))=(valV a k).isSome
 |[]=>rfl
 |p :: r=>by
  rw[cG];by_cases e:p.1=k
  .simp only[valV_pos e,aK e,Bool.true_or,Option.isSome_some]
  .rw[valV_neg e,aG e,Bool.false_or];exact valV_any k r
end
theorem items_are{P:a7}{w:bm}:∀ {a:Li Key}{us:Li vL},Vals (a.map kV) us->ItemsAre (mixKind P w) a us
 |[],_,r=>by rw[dS]at r;cases r;exact .nil
 |k :: a,_,r=>by
  rw[aQ]at r;cases r with
  |cons h t=>exact .cons (kV_is h) (items_are t)
abbrev KTp(H:Hp):Li (Li Key×V)->Li (Li Key×Ad×vL)->Prop:=Paired λp q=>p.1=q.1/\H q.2.1=aa (.tup (p.1.map kV))/\RelV p.2 q.2.2
variable{kvs:Li (Li Key×V)}{xs:Li (Li Key×Ad×vL)}
def KTp.val(r:KTp H kvs xs)(k:Li Key):RelO (valV kvs k) ((atKey xs k).map (·.2)):=by
 induction r with
 |nil=>exact True.intro
 |@cons p q i a h t f=>
  obtain⟨d,_,g⟩:=h;by_cases e:p.1=k
  .have c:q.1=k:=d.symm.trans e
   have b:atKey (q :: a) k=aa q.2:=by simp[atKey,cL,c]
   rw[valV_pos e,b];exact g
  .have c:¬q.1=k:=λz=>e (d.trans z)
   have b:atKey (q :: a) k=atKey a k:=by simp[atKey,cL,c]
   rw[valV_neg e,b];exact f
def KTp.repl(r:KTp H kvs xs)(k:Li Key)(d:RelV y u) :
  KTp H (kvs.map λb=>if b.1=k then (b.1,y) else b) (xs.map (putAt k u)):=by
 induction r with
 |nil=>exact .nil
 |@cons p q j i h t f=>
  rw[aQ,aQ];refine .cons ?_ f;obtain⟨a,c,g⟩:=h;unfold putAt;by_cases e:p.1=k
  .rw[ao e,ao (a.symm.trans e)];exact⟨a,c,d⟩
  .rw[aq e,aq (λz=>e (a.trans z))];exact⟨a,c,g⟩
def KTp.put(r:KTp H kvs xs)(k:Li Key){b:Ad}(d:H b=aa (.tup (k.map kV)))(a:RelV y u) :
  KTp H (putK kvs k y) (storedH xs k b u):=by
 have e:(kvs.any λc=>aj (c.1=k))=(atKey xs k).isSome:=by
  rw[valV_any,(r.val k).isSome_eq,Option.isSome_map]
 unfold putK storedH;rw[e];by_cases q:(atKey xs k).isSome=ac
 .rw[ao q,ao q];exact r.repl k a
 .rw[aq q,aq q];exact Paired.snoc r ⟨rfl,d,a⟩
def KTp.keeps{c:Hp}(r:KTp H kvs xs)(d:∀ b a,H b=aa (.tup a)->c b=aa (.tup a)):KTp c kvs xs:=
 Paired.mapP r λ_ _ z=>⟨z.1,d _ _ z.2.1,z.2.2⟩
variable{ks:Li Key}
def key_at{b:Li vL}(r:Vals (ks.map kV) b)(t:IsTup h a b.toArray):(tupleKind (mixKind P w)).is h ks a:=by
 obtain⟨o,e,d,n,c⟩:=t;exact⟨o,b.toArray,n,e,d,c,by simpa using items_are r⟩
def key_of(ok:HOk P w H h)(e:H a=aa (.tup (ks.map kV))):(tupleKind (mixKind P w)).is h ks a:=by
 obtain⟨_,b,r,o,f,d,n,c⟩:=(show ObjOk P w H h a (.tup (ks.map kV)) from ok a _ e);exact⟨o,b.toArray,n,f,d,c,by simpa using items_are r⟩
def dt_rd(ok:HOk P w H h)(e:Rd H a (.dT kvs)):kvs.length<=ax/\(a==bp)=ae /\
  ∃ xs,KTp H kvs xs/\h.DictOfH (tupleKind (mixKind P w)) a xs:=by
 obtain⟨z,y,xs,r,o,k,n,j,i,g,f,d⟩:=(show ObjOk P w H h a (.dT kvs) from rd_of ok e);refine⟨z,y,xs,r,o,k,n,j,i,g,f,λx hx=>?_,d⟩
 have all:∀ {l:Li (Li Key×V)}{m:Li (Li Key×Ad×vL)},KTp H l m->∀ x∈m,(tupleKind (mixKind P w)).is h x.1 x.2.1:=by
  intro l m q
  induction q with
  |nil=>intro x hx;exact nomatch hx
  |@cons p q u s b t c=>
   intro x hx;rcases aF.mp hx with e|hx
   .subst e
    exact key_of ok (by rw[<-b.1];exact b.2.1)
   .exact c x hx
 exact all r x hx
def dt_of(ok:HOk P w H h)(e:H a=aa (.dT kvs)):kvs.length<=ax/\(a==bp)=ae /\
  ∃ xs,KTp H kvs xs/\h.DictOfH (tupleKind (mixKind P w)) a xs:=dt_rd ok (.inl e)
def dt_empty{P:a7}(h:bj)(a:bp < h.objs.size):ObjOk P w H (h.push { cls:=.type "dict",data:=.dict #[] }) h.objs.size (.dT []):=
 ⟨aS _,cU.mpr (Ne.symm (aZ a)),[],.nil,_,#[],0,aX _ rfl,⟨rfl,rfl,rfl⟩,rfl,rfl,List.nodup_nil⟩
def tDNewT(K:Fg):TE:=λ_ H Q=>∀ p,H p=ab->(∀ o,K.lookup p≠aa o)->Q (.ref p) (upd H p (.dT []))
def pe_dnewT:PE X (.Dict [] [] pos) (tDNewT X.K):=λb s O H Q I h=>
 wpAny_Dict_empty ⟨.ref s.heap.objs.size,_,I.laid (a:=s.heap.objs.size) (o:=.dT []) (t':=s.toks) (λ_ _ q=>aL _ q) (aD _) (dt_empty s.heap I.big),rfl,h _ (I.hok.fresh (aD _)) λo z=>ar (aJ (I.kIn _ o z)) (bZ _)⟩
def rSetT:V->V->V->Hp->(Hp->Prop)->Prop:=λo i v H Q=>∃ p b kvs k,o=.ref p/\i=.ref b/\H p=aa (.dT kvs)/\H b=aa (.tup (k.map kV))/\kvs.length < ax/\Q (upd H p (.dT (putK kvs k v)))
def set_dT(hu:X.A.units+1 < cLine):PSet X rSetT:=by
 intro K s O H o i v L M u Q I p r rv h;obtain⟨a,b,kvs,k,rfl,rfl,e,n,l,q⟩:=h;cases p;cases r;obtain⟨z,y,xs,d,dd⟩:=dt_of I.hok e;have t:xs.length<=ax:=by rw[<-Paired.length d];exact z
 have x:(putK kvs k v).length<=ax:=by have:=length_putK kvs k v;omega
 refine wpAny_setItem_heap (hsz:=t) (tupleKind_room_in1 hu) (key_of I.hok n) dd λh' f w=>?_
 obtain⟨g,F,G,j,E,D,C,_,B⟩:=f;refine⟨upd H a (.dT (putK kvs k v)),d_write I (by rw[e];exact True.intro) w ⟨g,j⟩ ⟨x,y,_,(d.put k n rv).keeps λc J m=>?_,g,F,G,j,E,D,C,B⟩,q⟩
 rw[upd_ne (ne_of m e (λz=>nomatch z))]
 exact m
def rIxdT(K:Fg):R2:=λx y H Q=>∃ p b kvs k v,x=.ref p/\y=.ref b/\SqT K H b (k.map kV)/\H p=aa (.dT kvs)/\valV kvs k=aa v/\Q v H
def ix_dT(hu:X.A.units+1 < cLine):IxR X (rIxdT X.K):=by
 intro a slice E s O H x y v u Q I i g h n;obtain⟨p,b,kvs,k,z,rfl,rfl,B,r,w,q⟩:=h;cases i;cases g;obtain⟨C,J,xs,d,dd⟩:=dt_of I.hok r;obtain⟨l,j,f,_⟩:=I.tuple B;obtain⟨D,m,c⟩:=RelO.some_of (v:=z) (o:=(atKey xs k).map (·.2)) (by rw[<-w];exact d.val k)
 obtain⟨G,t,e⟩:=dU.mp m;refine tail_any dd.typeIs PySem.F.slot_dict_getitem.lookup (wpAny_getItem_heap (tupleKind_room_in1 hu) (key_at j f) dd t ?_) n;rw[e];exact⟨z,H,I.tok _,c,q⟩
def in_dT(hu:X.A.units+1 < cLine){c:Li (Ad×Obj)}{O:St}{s:Sd}{p b:Ad}{k:Li Key}{Q:VK}(I:Inv X c O H s)(i:H p=aa (.dT kvs))(j:SqT X.K H b (k.map kV)) :
  (Q (.bl (valV kvs k).isSome) H->a0 (a6 X.prog X.w) X.A (bo .In (.ref b) (.ref p)) (EP X c O Q) X.xe s)/\(Q (.bl (!(valV kvs k).isSome)) H->a0 (a6 X.prog X.w) X.A (bo .NotIn (.ref b) (.ref p)) (EP X c O Q) X.xe s):=by
 obtain⟨l,g,xs,a,dd⟩:=dt_of I.hok i;obtain⟨h,f,d,_⟩:=I.tuple j;have e:=(a.val k).isSome_eq;rw[Option.isSome_map]at e;rw[e];exact⟨λq=>wpAny_in_heap (tupleKind_room_in1 hu) (key_at f d) g dd ⟨.bl _,H,I.tok _,rfl,q⟩,λq=>wpAny_notIn_heap (tupleKind_room_in1 hu) (key_at f d) g dd ⟨.bl _,H,I.tok _,rfl,q⟩⟩
end L2
namespace Dp
open PySem
variable{α:Type}
def Zb{x:α}{C:Prop}(h:(ab:Ot α)=aa x):C:=nomatch h
noncomputable abbrev S(x:String):Str:=Str.ofString x
set_option genInjectivity true in
inductive D where
 |non|bl (b:Bool)|int (i:Int)|str (x:Str)|tup (xs:List D)|lst (id:Nat)|dct (ks:List Str) (vs:List D)|obj (i:Nat)|kt (ks:List Str)|dic (id:Nat)
abbrev Env:=Li (Ot D)
abbrev XA:=Bool×Li D
abbrev Za:=Li XA
abbrev Res:=Ot (D×Za)
abbrev Fn:=Li D->Za->Res
noncomputable def o2{α b a:Type}(f:α->b->a):Ot α->Ot b->Ot a
 |some x,aa y=>aa (f x y)
 |_,_=>ab
noncomputable def og{α:Type}(p:Prop)[Decidable p](o:Ot α):Ot α:=if p then o else ab
mutual
noncomputable def Zr:D->D->Bool
 |.non,.non=>ac
 |.bl a,.bl b=>a==b
 |.int a,.int b=>aj (a=b)
 |.str a,.str b=>aj (a=b)
 |.tup a,.tup b=>Zs a b
 |_,_=>ae
noncomputable def Zs:Li D->Li D->Bool
 |[],[]=>ac
 |x :: b,y :: a=>Zr x y&&Zs b a
 |_,_=>ae
end
mutual
noncomputable def okD:Nat->D->Bool
 |_,.non=>ac
 |_,.int _=>ac
 |_,.str _=>ac
 |n+1,.tup a=>Ya n a
 |_,_=>ae
noncomputable def Ya:Nat->Li D->Bool
 |_,[]=>ac
 |n,x :: a=>okD n x&&Ya n a
end
inductive Sc where
 |non|bl (b:Bool)|int (i:Int)|str (x:Str)
noncomputable def scD:D->Ot Sc
 |.non=>aa .non
 |.bl b=>aa (.bl b)
 |.int i=>aa (.int i)
 |.str x=>aa (.str x)
 |_=>ab
noncomputable def Zi7:Sc->Sc->Ot Bool
 |.non,.non=>aa ac
 |.non,.bl _=>aa ae
 |.non,.int _=>aa ae
 |.non,.str _=>aa ae
 |.bl _,.non=>aa ae
 |.bl a,.bl b=>aa (a==b)
 |.bl _,.int _=>ab
 |.bl _,.str _=>aa ae
 |.int _,.non=>aa ae
 |.int _,.bl _=>ab
 |.int a,.int b=>aa (aj (a=b))
 |.int _,.str _=>aa ae
 |.str _,.non=>aa ae
 |.str _,.bl _=>aa ae
 |.str _,.int _=>aa ae
 |.str a,.str b=>aa (aj (a=b))
def eqT(b:Li D):D->Ot Bool
 |.tup a=>if okD 8 (.tup b)&&okD 8 (.tup a) then aa (Zs b a) else ab
 |_=>ab
def eqD(x y:D):Ot Bool:=match x with
 |.tup a=>eqT a y
 |x=>(o2 Zi7 (scD x) (scD y)).join
inductive Ty where
 |int|bool|str|tuple
 deriving DecidableEq
inductive CE where
 |v (i:Nat)|c (d:D)
 |bin (op:Operator) (a b:CE)|neg (a:CE)
 |cmp (op:CmpOp) (a b:CE)
 |not (a:CE)|and (a b:CE)|or (a b:CE)|ife (c a b:CE)
 |tupE (a:CE)|lstE (a:CE)|aN|aC (a r:CE)
 |ix (a b:CE)|slice (a lo hi:CE)|nop|part (a:CE)
 |call (f:Nat) (args:CE) (ds:List D)
 |len (a:CE)|tOf (a:CE)|listOf (a:CE)|intOf (a:CE)|min (a b:CE)|max (a b:CE)|isi (T:Ty) (a:CE)
 |comp (rng:Bool) (fr:List Nat) (it elt XM:CE)|comp2 (fr:List Nat) (it elt XM:CE)|compT (fr:List Nat) (it elt XM:CE)|lstR (a b:CE)|new (i:Nat)|meth (tab:List (Nat×Nat)) (o a:CE)|isc (l:List Nat) (a:CE)|tix (o a:CE)
 |rs (k:Bool) (a:CE)
 |inv (a:CE)|tupR (a:CE)|look (ks:List Str) (ds:List D) (a:CE)|dget (a k d:CE)|all (a:CE)|any (a:CE)|inR (ng:Bool) (a b:CE)
 |dict (ks:List Str) (a:CE)|dnew|strOf (a:CE)|joinE (a b:CE)|starts (a b:CE)|rng2 (a b:CE)|srt (a:CE)
 |comp3 (fr:List Nat) (it elt XM:CE)|dd (a b e:CE)|dgN (o k d:CE)|pop (o:CE)|ksrt (o:CE)
inductive CS where
 |skip|seq (a b:CS)|ret (e:CE)|set (i:Nat) (e:CE)|app (i:Nat) (e:CE)|ext (i:Nat) (e:CE)|put (i:Nat) (k e:CE)
 |ite (c:CE) (a b:CS)|for1 (i:Nat) (rng:Bool) (it:CE) (b:CS)|for3 (i:Nat) (it:CE) (b:CS)|forP (i j:Nat) (it:CE) (b:CS)|forE (i j:Nat) (it:CE) (b:CS)|set2 (i j:Nat) (e:CE)|for4 (i j l:Nat) (it:CE) (b:CS)|for2 (i j:Nat) (it:CE) (b:CS)|whl (c:CE) (b:CS)|brk|cont|stop|set3 (i j l:Nat) (e:CE)|act (e:CE)|dput (i:Nat) (a b e:CE)|app2 (o e:CE)
noncomputable def ZZ(i:Int):Bool:=aj (-(2 ^ 64) < i)&&aj (i < 2 ^ 64)
noncomputable def Zt:Nat:=1000000
def Zck(a:Operator)(i j:Int):Ot Int:=
 match a with
 |.Add=>aa (i+j)
 |.Sub=>aa (i - j)
 |.Mult=>if ZZ i||ZZ j then aa (i * j) else ab
 |.FloorDiv=>if 0 < j/\j < 1073741824 then aa (i / j) else if j < 0/\-1073741824 < j then aa (i.fdiv j) else ab
 |.Mod=>if 0 < j then aa (i % j) else if j < 0 then aa (i.fmod j) else ab
 |.Pow=>if 0<=j/\j<=1000/\ZZ i=ac then aa (i ^ j.toNat) else ab
 |.BitAnd=>if 0<=i/\0<=j then aa ((i.toNat &&& j.toNat:Nat):Int) else if 0<=i/\j < 0 then aa (i - ((i.toNat &&& (-j - 1).toNat:Nat):Int)) else ab
 |.BitOr=>if 0<=i/\0<=j then aa ((i.toNat ||| j.toNat:Nat):Int) else ab
 |_=>ab
noncomputable def Q0:Operator->Bool
 |.Add=>ac
 |_=>ae
noncomputable def Zdd:Operator->Bool
 |.Mult=>ac
 |_=>ae
def ZbE(a b:Nat)(c:Za):Res:=match c[a]?,c[b]? with
 |some (_,e),aa (_,d)=>if e.length+d.length<=Zt then aa (.lst c.length,c++[(ac,e++d)]) else ab
 |_,_=>ab
noncomputable def ZjP(a:Nat)(j:Int)(b:Za):Res:=match b[a]? with
 |some (ac,[x])=>if j<=1000/\-1000<=j then aa (.lst b.length,b++[(ac,af j.toNat x)]) else ab
 |_=>ab
noncomputable def repT(a:Li D)(j:Int)(b:Za):Res:=match a with
 |[x]=>if j<=1000/\-1000<=j then aa (.tup (af j.toNat x),b) else ab
 |_=>ab
def UT(d:Operator)(x y:D)(c:Za):Res:=
 match x,y with
 |.int i,.int j=>match Zck d i j with
  |some k=>aa (.int k,c)
  |none=>ab
 |.tup e,.tup f=>if Q0 d=ac/\e.length+f.length<=Zt then aa (.tup (e++f),c) else ab
 |.tup e,.int j=>if Zdd d=ac then repT e j c else ab
 |.lst a,.lst b=>if Q0 d=ac then ZbE a b c else ab
 |.lst a,.int j=>if Zdd d=ac then ZjP a j c else ab
 |.str x,.str y=>if Q0 d=ac/\x.length+y.length<=Zt then aa (.str (x++y),c) else ab
 |_,_=>ab
noncomputable def Zkv(x k:Str):Bool:=!(PySem.Builtin.Str.occurrences x k 0 x.length 1).isEmpty
noncomputable def chS(x:Str):Li Str:=x.cps.toList.map λc=>⟨#[c]⟩
noncomputable def Za0(_:Za)(_ _:Li D):Ot Bool:=ab
def JK(a ys:Li D):Ot Bool:=if (a.isEmpty||ys.isEmpty)=ac then aa (a.isEmpty&&ys.isEmpty) else if Ya 7 a&&Ya 7 ys then aa (Zs a ys) else ab
def Zi8(c:Za)(b:Li D):D->Ot Bool
 |.tup a=>(match eqT b (.tup a) with
  |some k=>aa k
  |none=>Za0 c b a)
 |_=>ab
def Zi6(e:Za)(a:Nat):D->Ot Bool
 |.lst b=>(o2 (λ(c d:XA)=>JK c.2 d.2) e[a]? e[b]?).join
 |_=>ab
def eqS(b:Za)(x y:D):Ot Bool:=match x with
 |.lst a=>Zi6 b a y
 |.tup c=>Zi8 b c y
 |x=>eqD x y
noncomputable def YN:Int->Li D->Ot Bool
 |_,[]=>aa ae
 |k,.int i :: r=>(YN k r).map λb=>aj (i=k)||b
 |_,_=>ab
noncomputable def Xs:Str->Li D->Ot Bool
 |_,[]=>aa ae
 |k,.str i :: r=>(Xs k r).map λb=>aj (i=k)||b
 |_,_=>ab
noncomputable def Zhs:D->Ot Int
 |.int i=>aa i
 |_=>ab
noncomputable def iB(i:Int):D->Bool
 |.int a=>aj (a=i)
 |_=>ae
def isK(i j:Int):D->Bool
 |.tup [x,y,_]=>iB i x&&iB j y
 |_=>ae
noncomputable def Zlt:D->Ot D
 |.tup [_,_,v]=>aa v
 |_=>ab
def Yr(a:Li D)(i j:Int):Ot D:=(a.find? (isK i j)).bind Zlt
def VQ(a:Li D)(i j:Int)(v:D):Li D:=if a.any (isK i j)=ac then a.map (λe=>if isK i j e=ac then .tup [.int i,.int j,v] else e) else a++[.tup [.int i,.int j,v]]
def dAt(d:Li D)(a:Nat)(b:Za):Ot (Ot D):=match d with
 |[x,y]=>o2 (λ(p:Int×Int) (c:XA)=>Yr c.2 p.1 p.2) (o2 Prod.mk (Zhs x) (Zhs y)) b[a]?
 |_=>ab
noncomputable def Yk:Li Str->Li D->Str->Ot D
 |k :: b,v :: a,x=>if k=x then aa v else Yk b a x
 |_,_,_=>ab
noncomputable def ZbT(f:Int->Int->Bool):D->D->Ot Bool
 |.int i,.int j=>aa (f i j)
 |_,_=>ab
def Qi:Li D->Li D->Ot Bool
 |x :: d,y :: c=>if Zr x y=ac then Qi d c else match x,y with
  |.int i,.int j=>aa (aj (i < j))
  |.str a,.str b=>aa (aj (a.cps.toList < b.cps.toList))
  |_,_=>ab
 |[],c=>aa (aj (0 < c.length))
 |_ :: _,[]=>aa ae
def ltD(x y:D):Ot Bool:=match x,y with
 |.tup b,.tup a=>if okD 8 (.tup b)&&okD 8 (.tup a) then Qi b a else ab
 |x,y=>ZbT (λi j=>aj (i < j)) x y
def ltS(_:Za)(x y:D):Ot Bool:=ltD x y
def inS(c:Za)(x y:D):Ot Bool:=match x,y with
 |.int k,.lst a=>match c[a]? with
  |some (_,b)=>YN k b
  |none=>ab
 |.str k,.lst a=>match c[a]? with
  |some (_,b)=>Xs k b
  |none=>ab
 |.int k,.tup b=>YN k b
 |.str k,.tup b=>Xs k b
 |.str k,.dct d e=>aa (Yk d e k).isSome
 |.tup d,.dic a=>(dAt d a c).map Option.isSome
 |.str k,.str x=>aa (Zkv x k)
 |_,_=>ab
def niS(a:Za)(x y:D):Ot Bool:=match y with
 |.dct _ _=>ab
 |y=>(inS a x y).map not
noncomputable def isN:D->Ot Bool
 |.non=>aa ac
 |.int _=>aa ae
 |.str _=>aa ae
 |.bl _=>aa ae
 |.tup _=>aa ae
 |.lst _=>aa ae
 |.dct _ _=>ab
 |.obj _=>ab
 |.kt _=>ab
 |.dic _=>ab
noncomputable def isB(b:Bool):D->Ot Bool
 |.bl a=>aa (a==b)
 |_=>ab
def isD(x:D):D->Ot Bool
 |.non=>isN x
 |.bl b=>isB b x
 |_=>ab
def Zcw(b:CmpOp)(x y:D)(a:Za):Ot Bool:=
 match b with
 |.Lt=>ltS a x y
 |.LtE=>ZbT (λi j=>aj (i<=j)) x y
 |.Gt=>ZbT (λi j=>aj (j < i)) x y
 |.GtE=>ZbT (λi j=>aj (j<=i)) x y
 |.Eq=>eqS a x y
 |.NotEq=>(eqS a x y).map not
 |.In=>inS a x y
 |.NotIn=>niS a x y
 |.Is=>isD x y
 |.IsNot=>(isD x y).map not
noncomputable def ixN(n:Nat)(i:Int):Ot Nat:=if 0<=i then (if i < n then aa i.toNat else ab) else if -(n:Int)<=i then aa (i+n).toNat else ab
def atD(a:Li D)(i:Int):Ot D:=(ixN a.length i).bind λj=>a[j]?
def ixD(x y:D)(d:Za):Ot D:=
 match x,y with
 |.tup c,.int i=>atD c i
 |.lst a,.int i=>match d[a]? with
  |some (_,c)=>atD c i
  |none=>ab
 |.dct b e,.str k=>Yk b e k
 |.kt b,.int i=>atD (b.map .str) i
 |.dic a,.tup b=>(dAt b a d).join
 |.str x,.int i=>if x.length<=Zt then atD ((chS x).map .str) i else ab
 |_,_=>ab
noncomputable def sIx(n d:Nat):Ot Int->Nat
 |none=>d
 |some i=>if i < 0 then (i+n).toNat else Nat.min i.toNat n
def X6(a:Li D)(b c:Ot Int):Li D:=(a.drop (sIx a.length 0 b)).take (sIx a.length a.length c - sIx a.length 0 b)
def Yi(x:D)(d e:Ot Int)(c:Za):Res:=
 match x with
 |.tup b=>if sIx b.length 0 d=0/\sIx b.length b.length e=b.length then aa (.tup b,c) else aa (.tup (X6 b d e),c)
 |.lst a=>match c[a]? with
  |some (_,b)=>aa (.lst c.length,c++[(ac,X6 b d e)])
  |none=>ab
 |_=>ab
def Zfm(x:D)(c:Za):Ot Int:=
 match x with
 |.tup b=>aa b.length
 |.lst a=>match c[a]? with
  |some (_,b)=>aa b.length
  |none=>ab
 |.kt d=>aa d.length
 |.str x=>if x.length<=Zt then aa x.length else ab
 |_=>ab
noncomputable def Zhv(T:Ty):D->Ot Bool
 |.int _=>aa (aj (T=.int))
 |.bl _=>aa (aj (T=.int)||aj (T=.bool))
 |.str _=>aa (aj (T=.str))
 |.tup _=>aa (aj (T=.tuple))
 |.non=>aa ae
 |_=>ab
noncomputable def VY(rng:Bool)(x:D):Ot (Li D):=
 match rng,x with
 |true,.int n=>if n < 2 ^ 62/\-(2 ^ 62)<=n then aa ((ag n.toNat).map λ(k:Nat)=>D.int (k:Int)) else ab
 |false,.tup a=>aa a
 |_,_=>ab
noncomputable def Y9(a b c:Int):Nat:=if 0 < c then (if a < b then ((b - a - 1) / c+1).toNat else 0) else (if b < a then ((a - b - 1) / (-c)+1).toNat else 0)
noncomputable def WR(a b c:Int):Bool:=aj ((-(2 ^ 30) < a/\a < 2 ^ 30)/\(-(2 ^ 30) < b/\b < 2 ^ 30)/\(c=1\/c=-1\/c=2\/c=3\/c=4))
def XX(a b c:Int):Li Int:=(ag (Y9 a b c)).map λ(k:Nat)=>a+k * c
noncomputable def Z9(ok:Za->Prop)(f:D->Za->Res)(c:D->Za->Res):Li D->Za->Ot (Li D×Za)
 |[],b=>open Classical in if ok b then aa ([],b) else ab
 |x :: g,b=>open Classical in if ok b then (match c x b with
  |some (.bl ac,a)=>match f x a with
   |some (y,e)=>match Z9 ok f c g e with
    |some (h,d)=>aa (y :: h,d)
    |none=>ab
   |none=>ab
  |some (.bl ae,a)=>Z9 ok f c g a
  |_=>ab) else ab
def Yx(rng:Bool)(x:D)(e:Za):Ot (Li D×(Za->Prop)):=match VY rng x with
 |some d=>aa (d,λ_=>True)
 |none=>match rng,x with
  |false,.lst a=>match e[a]? with
   |some c=>aa (c.2,λs=>s[a]?=aa c)
   |none=>ab
  |false,.dct [] [.int a,.int b]=>aa ((XX a b 1).map .int,λ_=>True)
  |_,_=>ab
noncomputable def Xy:Nat->Li D->Li D
 |_,[]=>[]
 |k,x :: a=>.tup [.int (k:Int),x] :: Xy (k+1) a
def Jl(x:D)(d:Za):Ot (Li D×(Za->Prop)):=match x with
 |.tup b=>aa (Xy 0 b,λ_=>True)
 |.lst a=>match d[a]? with
  |some c=>aa (Xy 0 c.2,λs=>s[a]?=aa c)
  |none=>ab
 |_=>ab
noncomputable def Zde:D->Bool
 |.tup [_,_]=>ac
 |_=>ae
def Uj(x:D)(d:Za):Ot (Li D×(Za->Prop)):=match x with
 |.tup b=>if b.all Zde=ac then aa (b,λ_=>True) else ab
 |.lst a=>match d[a]? with
  |some c=>if c.2.all Zde=ac then aa (c.2,λs=>s[a]?=aa c) else ab
  |none=>ab
 |_=>ab
abbrev Ev:=Env->Za->Res
noncomputable def Zo(c:Ev)(g:D->Za->Res):Ev:=λU b=>match c U b with
 |some (x,a)=>g x a
 |none=>ab
noncomputable def ZQ(e d:Ev)(g:D->D->Za->Res):Ev:=λU c=>match e U c with
 |some (x,b)=>match d U b with
  |some (y,a)=>g x y a
  |none=>ab
 |none=>ab
noncomputable def YQ(h f e:Ev)(g:D->D->D->Za->Res):Ev:=λU d=>match h U d with
 |some (x,c)=>match f U c with
  |some (y,b)=>match e U b with
   |some (z,a)=>g x y z a
   |none=>ab
  |none=>ab
 |none=>ab
noncomputable def XM(e c d:Ev):Ev:=λU b=>match e U b with
 |some (.bl ac,a)=>c U a
 |some (.bl ae,a)=>d U a
 |_=>ab
noncomputable def XQ(i:Nat):Ev:=λU a=>match U[i]? with
 |some (aa d)=>aa (d,a)
 |_=>ab
noncomputable def evC(d:D):Ev:=λ_ a=>aa (d,a)
noncomputable def ZhH:D->Za->Res
 |.int i,a=>aa (.int (-i),a)
 |_,_=>ab
noncomputable def ZdA:D->Za->Res
 |.bl k,a=>aa (.bl (!k),a)
 |_,_=>ab
def ZbG(b:CmpOp)(x y:D)(a:Za):Res:=match Zcw b x y a with
 |some k=>aa (.bl k,a)
 |none=>ab
noncomputable def Zfn:D->Za->Res
 |.tup b,a=>aa (.lst a.length,a++[(ac,b)])
 |_,_=>ab
noncomputable def Uw:D->D->Za->Res
 |x,.tup a,b=>if a.length < 1000 then aa (.tup (x :: a),b) else ab
 |_,_,_=>ab
def ixR(x y:D)(a:Za):Res:=match ixD x y a with
 |some d=>aa (d,a)
 |none=>ab
def Xb:D->D->D->Za->Res
 |x,.non,.non,a=>Yi x ab ab a
 |x,.int i,.non,a=>Yi x (aa i) ab a
 |x,.non,.int j,a=>Yi x ab (aa j) a
 |x,.int i,.int j,a=>Yi x (aa i) (aa j) a
 |_,_,_,_=>ab
noncomputable def V9:D->Za->Res
 |.int i,a=>aa (.int i,a)
 |_,_=>ab
noncomputable def Vb(g:Fn)(c:Li D):D->Za->Res
 |.tup a,b=>g (a++c) b
 |_,_=>ab
noncomputable def Zdr(F:Nat->Fn)(tab:Li (Nat×Nat)):D->D->Za->Res
 |.obj i,.tup a,b=>match tab.lookup i with
  |some j=>F j (.obj i :: a) b
  |none=>ab
 |_,_,_=>ab
noncomputable def ZcN(k:Str):Li Str->Ot Nat
 |[]=>ab
 |a :: r=>if a=k then aa 0 else (ZcN k r).map (·+1)
def Ziw:D->D->Za->Res
 |.kt b,.tup [.str k],a=>match ZcN k b with
  |some i=>aa (.int (i:Int),a)
  |none=>ab
 |_,_,_=>ab
def Q6(x:D)(a:Za):Res:=match Zfm x a with
 |some n=>aa (.int n,a)
 |none=>ab
noncomputable def Qy:D->Za->Res
 |.tup b,a=>aa (.tup b,a)
 |.lst l,a=>match a[l]? with
  |some (_,b)=>aa (.tup b,a)
  |none=>ab
 |_,_=>ab
noncomputable def ZaJ:D->Za->Res
 |.tup b,a=>aa (.lst a.length,a++[(ac,b)])
 |.lst l,a=>match a[l]? with
  |some (_,b)=>aa (.lst a.length,a++[(ac,b)])
  |none=>ab
 |_,_=>ab
noncomputable def Zhr:D->Za->Res
 |.int i,a=>aa (.int i,a)
 |.bl ac,a=>aa (.int 1,a)
 |.bl ae,a=>aa (.int 0,a)
 |_,_=>ab
noncomputable def ZhB:D->D->Za->Res
 |.int i,.int j,a=>aa (.int (if j < i then j else i),a)
 |_,_,_=>ab
noncomputable def Zhz:D->D->Za->Res
 |.int i,.int j,a=>aa (.int (if j > i then j else i),a)
 |_,_,_=>ab
def Zdf(T:Ty)(x:D)(a:Za):Res:=match Zhv T x with
 |some k=>aa (.bl k,a)
 |none=>ab
noncomputable def Zht:D->Za->Res
 |.int i,a=>aa (.int (-i - 1),a)
 |_,_=>ab
def Zdm:D->D->Za->Res
 |.int a,.int b,c=>if WR a b 1=ac/\b - a<=1000 then aa (.lst c.length,c++[(ac,(XX a b 1).map .int)]) else ab
 |_,_,_=>ab
def Zdk(b:Li Str)(c:Li D):D->Za->Res
 |.str k,a=>match Yk b c k with
  |some d=>aa (d,a)
  |none=>ab
 |_,_=>ab
def getD:D->D->D->Za->Res
 |.dct c a,.str k,d,b=>aa ((Yk c a k).getD d,b)
 |_,_,_,_=>ab
noncomputable def Zkn(b:Bool):D->D->Za->Res
 |.int x,.int n,a=>if -(2 ^ 62)<=n/\n < 2 ^ 62 then aa (.bl (b != aj (0<=x/\x < n)),a) else ab
 |_,_,_=>ab
noncomputable def Zgn(a:Li Str):D->Za->Res
 |.tup b,c=>if a.length=b.length/\(a.Nodup/\a≠[])/\a.length<=15 then aa (.dct a b,c) else ab
 |_,_=>ab
noncomputable def one(d:D):Li (Ot D):=[aa d]
noncomputable def two:D->Li (Ot D)
 |.tup [a,b]=>[aa a,aa b]
 |_=>[]
noncomputable def Zbf:D->Li (Ot D)
 |.tup [a,b,c]=>[aa a,aa b,aa c]
 |_=>[]
noncomputable def Zhu:D->Bool
 |.tup [_,_,_]=>ac
 |_=>ae
def Zem(x:D)(_:Za):Ot (Li D×(Za->Prop)):=match x with
 |.tup a=>if a.all Zhu=ac then aa (a,λ_=>True) else ab
 |_=>ab
def ddE(h g f:Env->Za->Res):Env->Za->Res:=λU b=>match h U (b++[(ac,[])]) with
 |some (.int i,d)=>match g U d with
  |some (.int j,c)=>match f U c with
   |some (v,a)=>match a[b.length]? with
    |some (ac,e)=>if e.length < Zt then aa (.dic b.length,a.set b.length (ac,VQ e i j v)) else ab
    |_=>ab
   |none=>ab
  |_=>ab
 |_=>ab
def gtD:D->D->D->Za->Res
 |.dic a,.tup c,d,b=>(dAt c a b).map λo=>(o.getD d,b)
 |_,_,_,_=>ab
noncomputable def Zfy:D->Za->Res
 |.lst a,c=>match c[a]? with
  |some (ac,b)=>(b[b.length - 1]?).map λd=>(d,c.set a (ac,b.dropLast))
  |_=>ab
 |_,_=>ab
noncomputable def kOf:D->Ot (Int×Int)
 |.tup [.int i,.int j,_]=>aa (i,j)
 |_=>ab
noncomputable def kLt(p q:Int×Int):Bool:=if p.1=q.1 then aj (p.2 < q.2) else aj (p.1 < q.1)
noncomputable def goT{b:Type}(f:Nat->Nat->Bool):W.KasT b->b
 |.ret a=>a
 |.ask i j k=>goT f (k (f i j))
def Z7(a:Li D):Li (Int×Int):=a.map λe=>(kOf e).getD (0,0)
noncomputable def prD(p:Int×Int):D:=.tup [.int p.1,.int p.2]
def US(a:Li (Int×Int))(i j:Nat):Bool:=kLt (a.getD i (0,0)) (a.getD j (0,0))
def pick{b:Type}(f:Nat->Nat->Bool)(z:b)(a:Li b):Li b:=if a.length < 2 then a else (goT f (W.kas_sort a.length)).toList.map λi=>a.getD i z
def ZaG:D->Za->Res
 |.dic a,c=>match c[a]? with
  |some (_,b)=>if b.length < 64 then aa (.lst c.length,c++[(ac,pick (US (Z7 b)) .non ((Z7 b).map prD))]) else ab
  |none=>ab
 |_,_=>ab
noncomputable def ZP(b:D->Li (Ot D))(U:Env)(a:Li Nat)(d:D):Env:=b d++a.map λi=>(U[i]?).join
def Yj(b:D->Li (Ot D))(w:D->Za->Ot (Li D×(Za->Prop)))(f:Li Nat)(i j k:Ev):Ev:=λU h=>match i U h with
 |some (x,c)=>match w x c with
  |some (e,ok)=>if e.length<=1000 then
    match Z9 ok (λd s=>j (ZP b U f d) s) (λd s=>k (ZP b U f d) s) e c with
    |some (g,a)=>aa (.lst a.length,a++[(ac,g)])
    |none=>ab
   else ab
  |none=>ab
 |none=>ab
noncomputable def Zgo:Ev:=λ_ a=>aa (.dic a.length,a++[(ac,[])])
def ev(F:Nat->Fn):CE->Ev
 |.v i=>XQ i
 |.c d=>evC d
 |.bin m a b=>ZQ (ev F a) (ev F b) (UT m)
 |.neg a=>Zo (ev F a) ZhH
 |.cmp m a b=>ZQ (ev F a) (ev F b) (ZbG m)
 |.not a=>Zo (ev F a) ZdA
 |.and a b=>XM (ev F a) (ev F b) (evC (.bl ae))
 |.or a b=>XM (ev F a) (evC (.bl ac)) (ev F b)
 |.ife c a b=>XM (ev F c) (ev F a) (ev F b)
 |.tupE a=>ev F a
 |.lstE a=>Zo (ev F a) Zfn
 |.aN=>evC (.tup [])
 |.aC a r=>ZQ (ev F a) (ev F r) Uw
 |.ix a b=>ZQ (ev F a) (ev F b) ixR
 |.slice a s t=>YQ (ev F a) (ev F s) (ev F t) Xb
 |.nop=>evC .non
 |.part a=>Zo (ev F a) V9
 |.call f a p=>Zo (ev F a) (Vb (F f) p)
 |.len a=>Zo (ev F a) Q6
 |.tOf a=>Zo (ev F a) Qy
 |.listOf a=>Zo (ev F a) ZaJ
 |.intOf a=>Zo (ev F a) Zhr
 |.min a b=>ZQ (ev F a) (ev F b) ZhB
 |.max a b=>ZQ (ev F a) (ev F b) Zhz
 |.isi T a=>Zo (ev F a) (Zdf T)
 |.rs _ _=>λ_ _=>ab
 |.inv a=>Zo (ev F a) Zht
 |.tupR _=>λ_ _=>ab
 |.look n p a=>Zo (ev F a) (Zdk n p)
 |.dget a k d=>YQ (ev F a) (ev F k) (ev F d) getD
 |.inR q a b=>ZQ (ev F a) (ev F b) (Zkn q)
 |.all _=>λ_ _=>ab
 |.any _=>λ_ _=>ab
 |.comp rng l j g h=>Yj one (Yx rng) l (ev F j) (ev F g) (ev F h)
 |.comp2 l j g h=>Yj two Jl l (ev F j) (ev F g) (ev F h)
 |.compT l j g h=>Yj two Uj l (ev F j) (ev F g) (ev F h)
 |.lstR a b=>ZQ (ev F a) (ev F b) Zdm
 |.new i=>evC (.obj i)
 |.meth tab o a=>ZQ (ev F o) (ev F a) (Zdr F tab)
 |.isc _ _=>λ_ _=>ab
 |.tix o a=>ZQ (ev F o) (ev F a) Ziw
 |.dict n a=>Zo (ev F a) (Zgn n)
 |.dnew=>Zgo
 |.strOf _=>λ_ _=>ab
 |.joinE _ _=>λ_ _=>ab
 |.starts _ _=>λ_ _=>ab
 |.rng2 _ _=>λ_ _=>ab
 |.srt _=>λ_ _=>ab
 |.comp3 l j g h=>Yj Zbf Zem l (ev F j) (ev F g) (ev F h)
 |.dd a b e=>ddE (ev F a) (ev F b) (ev F e)
 |.dgN o k d=>YQ (ev F o) (ev F k) (ev F d) gtD
 |.pop o=>Zo (ev F o) Zfy
 |.ksrt o=>Zo (ev F o) ZaG
inductive Fl where
 |nx (U:Env)|rt (d:D)|bk (U:Env)|ct (U:Env)
noncomputable def Zf(U:Env)(i:Nat)(d:D):Env:=U.set i (aa d)
noncomputable def Zh(b:D->Env->Za->Ot (Fl×Za)):Li D->Env->Za->Ot (Fl×Za)
 |[],U,c=>aa (.nx U,c)
 |d :: e,U,c=>match b d U c with
  |some (.nx U',a)=>Zh b e U' a
  |some (.ct U',a)=>Zh b e U' a
  |some (.bk U',a)=>aa (.nx U',a)
  |some (.rt v,a)=>aa (.rt v,a)
  |none=>ab
noncomputable def ZA(c:D->Env->Za->Ot (Fl×Za))(a:Nat):Nat->Nat->Env->Za->Ot (Fl×Za)
 |0,i,U,e=>match e[a]? with
  |some (_,f)=>if f.length<=i then aa (.nx U,e) else ab
  |none=>ab
 |n+1,i,U,e=>match e[a]? with
  |some (_,f)=>match f[i]? with
   |none=>aa (.nx U,e)
   |some d=>match c d U e with
    |some (.nx U',b)=>ZA c a n (i+1) U' b
    |some (.ct U',b)=>ZA c a n (i+1) U' b
    |some (.bk U',b)=>aa (.nx U',b)
    |some (.rt v,b)=>aa (.rt v,b)
    |none=>ab
  |none=>ab
abbrev Ex:=Env->Za->Ot (Fl×Za)
noncomputable def YR(f g:Ex):Ex:=λU b=>match f U b with
 |some (.nx U',a)=>g U' a
 |r=>r
noncomputable def J4(f:Ev):Ex:=λU b=>match f U b with
 |some (d,a)=>aa (.rt d,a)
 |none=>ab
def Ue(i:Nat)(f:Ev):Ex:=λU b=>match f U b with
 |some (d,a)=>aa (.nx (Zf U i d),a)
 |none=>ab
def Jh(i j:Nat)(f:Ev):Ex:=λU b=>match f U b with
 |some (.tup [x,y],a)=>aa (.nx (Zf (Zf U i x) j y),a)
 |_=>ab
def Zd3(i j l:Nat)(f:Ev):Ex:=λU b=>match f U b with
 |some (.tup [x,y,z],a)=>aa (.nx (Zf (Zf (Zf U i x) j y) l z),a)
 |_=>ab
noncomputable def Zcb(f:Ev):Ex:=λU b=>match f U b with
 |some (_,a)=>aa (.nx U,a)
 |none=>ab
def Zcg(a:Nat)(d:D)(c:Za):Ot Za:=match c[a]? with
 |some (ac,b)=>if b.length < Zt then aa (c.set a (ac,b++[d])) else ab
 |_=>ab
def VA(a:Nat)(j:Int)(d:D)(c:Za):Ot Za:=match c[a]? with
 |some (ac,b)=>match ixN b.length j with
  |some p=>aa (c.set a (ac,b.set p d))
  |none=>ab
 |_=>ab
def Zci(i:Nat)(f:Ev):Ex:=λU e=>match U[i]? with
 |some (aa (.lst a))=>match f U e with
  |some (d,c)=>match Zcg a d c with
   |some b=>aa (.nx U,b)
   |none=>ab
  |none=>ab
 |_=>ab
def Zch(o f:Ev):Ex:=λU g=>match o U g with
 |some (.lst a,e)=>match f U e with
  |some (d,c)=>match Zcg a d c with
   |some b=>aa (.nx U,b)
   |none=>ab
  |none=>ab
 |_=>ab
def Zhk(a b:Nat)(c:Za):Ot Za:=match c[a]?,c[b]? with
 |some (ac,e),aa (ac,d)=>if e.length+d.length<=Zt then aa (c.set a (ac,e++d)) else ab
 |_,_=>ab
def ZcH(i:Nat)(f:Ev):Ex:=λU e=>match U[i]? with
 |some (aa (.lst a))=>match f U e with
  |some (.lst b,d)=>match Zhk a b d with
   |some c=>aa (.nx U,c)
   |none=>ab
  |_=>ab
 |_=>ab
def JZ(i:Nat)(k f:Ev):Ex:=λU g=>match f U g with
 |some (d,e)=>match U[i]? with
  |some (aa (.lst a))=>match k U e with
   |some (.int j,c)=>match VA a j d c with
    |some b=>aa (.nx U,b)
    |none=>ab
   |_=>ab
  |_=>ab
 |none=>ab
def ZcC(i:Nat)(k j f:Ev):Ex:=λU h=>match f U h with
 |some (d,e)=>match U[i]? with
  |some (aa (.dic a))=>match k U e with
   |some (.int x,c)=>match j U c with
    |some (.int y,b)=>match b[a]? with
     |some (ac,g)=>if g.length < Zt then aa (.nx U,b.set a (ac,VQ g x y d)) else ab
     |_=>ab
    |_=>ab
   |_=>ab
  |_=>ab
 |none=>ab
noncomputable def YV(c:Ev)(f g:Ex):Ex:=λU b=>match c U b with
 |some (.bl ac,a)=>f U a
 |some (.bl ae,a)=>g U a
 |_=>ab
def VT(i:Nat)(rng:Bool)(g:Ev)(b:Ex):Ex:=λU f=>match g U f with
 |some (x,c)=>match VY rng x with
  |some e=>Zh (λd U s=>b (Zf U i d) s) e U c
  |none=>match rng,x with
   |false,.lst a=>match c[a]? with
    |some (_,e)=>ZA (λd U s=>b (Zf U i d) s) a e.length 0 U c
    |none=>ab
   |_,_=>ab
 |none=>ab
noncomputable def Yg(ok:Za->Prop)(b:D->D->Env->Za->Ot (Fl×Za)):Li (D×D)->Env->Za->Ot (Fl×Za)
 |[],U,c=>open Classical in if ok c then aa (.nx U,c) else ab
 |p :: d,U,c=>open Classical in if ok c then (match b p.1 p.2 U c with
  |some (.nx U',a)=>Yg ok b d U' a
  |some (.ct U',a)=>Yg ok b d U' a
  |some (.bk U',a)=>aa (.nx U',a)
  |some (.rt v,a)=>aa (.rt v,a)
  |none=>ab) else ab
def QS(i j:Nat)(f:Ev)(b:Ex):Ex:=λU e=>match f U e with
 |some (.tup [.tup d,.tup c],a)=>Yg (λ_=>True) (λx y U s=>b (Zf (Zf U i x) j y) s) (d.zip c) U a
 |_=>ab
noncomputable def WE:Nat->Li D->Li (D×D)
 |_,[]=>[]
 |k,x :: a=>(.int (k:Int),x) :: WE (k+1) a
noncomputable def Zbl(x:D)(d:Za):Ot (Li D×(Za->Prop)):=match x with
 |.tup b=>aa (b,λ_=>True)
 |.lst a=>match d[a]? with
  |some c=>aa (c.2,λs=>s[a]?=aa c)
  |none=>ab
 |_=>ab
def QR(i j:Nat)(e:Ev)(b:Ex):Ex:=λU d=>match e U d with
 |some (x,a)=>match Zbl x a with
  |some (c,ok)=>Yg ok (λx y U s=>b (Zf (Zf U i x) j y) s) (WE 0 c) U a
  |none=>ab
 |none=>ab
def Xi(i j:Nat)(b:Ex)(d:D)(U:Env)(s:Za):Ot (Fl×Za):=match d with
 |.tup [x,y]=>b (Zf (Zf U i x) j y) s
 |_=>ab
def Zed(i j l:Nat)(b:Ex)(d:D)(U:Env)(s:Za):Ot (Fl×Za):=match d with
 |.tup [x,y,z]=>b (Zf (Zf (Zf U i x) j y) l z) s
 |_=>ab
def ZcL(i j l:Nat)(e:Ev)(b:Ex):Ex:=λU d=>match e U d with
 |some (.tup c,a)=>Zh (Zed i j l b) c U a
 |_=>ab
def ZcK(i j:Nat)(f:Ev)(b:Ex):Ex:=λU e=>match f U e with
 |some (.lst a,c)=>match c[a]? with
  |some (_,d)=>ZA (Xi i j b) a d.length 0 U c
  |none=>ab
 |some (.tup d,c)=>Zh (Xi i j b) d U c
 |_=>ab
noncomputable def Y0(f g:Ex):Ex:=λU b=>match f U b with
 |some (.nx U',a)=>g U' a
 |some (.ct U',a)=>g U' a
 |some (.bk U',a)=>aa (.nx U',a)
 |some (.rt v,a)=>aa (.rt v,a)
 |none=>ab
def YU(c:Ev)(b:Ex):Nat->Ex
 |0=>λ_ _=>ab
 |n+1=>YV c (Y0 b (YU c b n)) λU a=>aa (.nx U,a)
def ex(F:Nat->Fn):CS->Ex
 |.skip=>λU f=>aa (.nx U,f)
 |.seq a b=>YR (ex F a) (ex F b)
 |.ret e=>J4 (ev F e)
 |.set i e=>Ue i (ev F e)
 |.app i e=>Zci i (ev F e)
 |.ext i e=>ZcH i (ev F e)
 |.put i k e=>JZ i (ev F k) (ev F e)
 |.ite c a b=>YV (ev F c) (ex F a) (ex F b)
 |.for1 i rng d b=>VT i rng (ev F d) (ex F b)
 |.forP i j d b=>QS i j (ev F d) (ex F b)
 |.forE i j d b=>QR i j (ev F d) (ex F b)
 |.for3 _ _ _=>λ_ _=>ab
 |.set2 i j e=>Jh i j (ev F e)
 |.for4 i j l d b=>ZcL i j l (ev F d) (ex F b)
 |.for2 i j d b=>ZcK i j (ev F d) (ex F b)
 |.whl c b=>YU (ev F c) (ex F b) 1000
 |.brk=>λU f=>aa (.bk U,f)
 |.cont=>λU f=>aa (.ct U,f)
 |.stop=>λ_ _=>ab
 |.set3 i j l e=>Zd3 i j l (ev F e)
 |.act e=>Zcb (ev F e)
 |.dput i a b e=>ZcC i (ev F a) (ev F b) (ev F e)
 |.app2 o e=>Zch (ev F o) (ev F e)
structure FD where
 ps:Nat
 ns:Nat
 body:CS
def fnD(F:Nat->Fn)(f:FD):Fn:=λb c=>
 if b.length=f.ps then
  match ex F f.body (b.map aa++af (f.ns - b.length) ab) c with
  |some (.rt d,a)=>aa (d,a)
  |some (.nx _,a)=>aa (.non,a)
  |_=>ab
 else ab
def run(T:Nat->Ot FD):Nat->Nat->Fn
 |0,_=>λ_ _=>ab
 |n+1,i=>match T i with
  |some f=>fnD (run T n) f
  |none=>λ_ _=>ab
inductive GV where
 |fn (i:Nat) (ps:Nat) (ds:List D)|c (d:D)|blt|dct (ks:List Str) (ds:List D)|cls (i:Nat) (ms:List (Str×Nat×Nat)) (subs:List Nat)
abbrev Gs:=Li (Str×GV)
noncomputable def CE.ofConst:Const->Ot CE
 |.none=>aa (.c .non)
 |.bool b=>aa (.c (.bl b))
 |.int i=>aa (.c (.int i))
 |.str x=>aa (.c (.str x))
 |_=>ab
noncomputable def WL(sc:bg)(x:Str):Bool:=!(x==("__debug__":Str))&&!(x==("__classdict__":Str))&&match sc.names.lookup x with
 |some .local=>ac
 |some .cell=>ac
 |some .free=>ac
 |_=>ae
noncomputable def ZL(sc:bg)(x:Str):Bool:=!(x==("__debug__":Str))&&match sc.names.lookup x with
 |some .globalImplicit=>ac
 |_=>ae
noncomputable def Zj1(x:Str):Ot Ty:=
 if x = "int" then aa .int else if x = "bool" then aa .bool else if x = "str" then aa .str else if x = "tuple" then aa .tuple else ab
noncomputable def ZW(sc:bg):Li Str:=(sc.names.filter λp=>aj (p.2=.free)).map (·.1)
noncomputable def Zg9(f:Str)(x:CE):Ot CE:=
 if f = "len" then aa (.len x) else if f = "tuple" then aa (.tOf x) else if f = "list" then aa (.listOf x) else if f = "int" then aa (.intOf x) else if f = "sorted" then aa (.ksrt x) else ab
noncomputable def Zha(f:Str)(x y:CE):Ot CE:=if f = "min" then aa (.min x y) else if f = "max" then aa (.max x y) else ab
noncomputable def ZaF(G:Gs)(x:Str):Bool:=match G.lookup x with
 |some .blt=>ac
 |_=>ae
def Zix(G:Gs)(sc:bg)(t:Str):Ot Ty:=if ZL sc t&&ZaF G t then Zj1 t else ab
def Zbj(G:Gs)(sc:bg):ay->Ot Ty
 |.Name t _=>Zix G sc t
 |_=>ab
noncomputable def JF(_:Gs)(_:bg)(_:ay):Ot (Li Nat):=ab
noncomputable def Zgt(m:Str)(k:Nat)(G:Gs)(x:Str):Ot (Nat×Nat):=match G.lookup x with
 |some (.cls i b _)=>(match b.lookup m with
  |some (j,a)=>if a=k+1 then aa (i,j) else ab
  |none=>ab)
 |_=>ab
def X5(m:Str)(k:Nat)(G:Gs):Li (Nat×Nat):=(G.map Prod.fst).filterMap (Zgt m k G)
noncomputable def ZX:Li (Ot ay)->Ot (Li Str)
 |[]=>aa []
 |some (.Constant (.str k) _ _) :: r=>(ZX r).map (k :: ·)
 |_=>ab
noncomputable def Zgk:ay->Ot (Str×Li ay)
 |.Call (.Name f _) a [] _=>aa (f,a)
 |_=>ab
def fnA(G:Gs)(sc:bg)(nm:Str)(e:ay):Ot (Li ay):=(Zgk e).bind λp=>og (p.1=nm/\ZL sc p.1=ac/\ZaF G p.1=ac) (aa p.2)
noncomputable def ZhJ:Li ay->Ot ay
 |[a]=>aa a
 |_=>ab
def Z3(G:Gs)(sc:bg)(e:ay):Ot ay:=(fnA G sc "range" e).bind ZhJ
noncomputable def Zad(_:Gs)(_:bg)(_:Str)(_:ay):Ot ay:=ab
noncomputable def Zj0:Li ay->Ot (ay×ay)
 |[a,b]=>aa (a,b)
 |_=>ab
def Qg(G:Gs)(sc:bg)(f:Str)(e:ay):Ot (ay×ay):=if f = "list" then (fnA G sc "range" e).bind Zj0 else ab
def o3{g e d a:Type}(f:g->e->d->a):Ot g->Ot e->Ot d->Ot a
 |some x,b,c=>o2 (f x) b c
 |none,_,_=>ab
variable{γ:Type}
def V7{P:γ->Prop}{f:α->γ}{a:Ot α}{c:γ}(h:a.map f=aa c)(k:∀ x,a=aa x->P (f x)):P c:=by
 cases a with
 |none=>exact Zb h
 |some x=>cases h;exact k x rfl
variable{β:Type}
def Z6{P:γ->Prop}{f:α->β->γ}{a:Ot α}{b:Ot β}{c:γ}(h:o2 f a b=aa c)(k:∀ x y,a=aa x->b=aa y->P (f x y)):P c:=by
 cases a with
 |none=>exact Zb h
 |some x=>cases b with
  |none=>exact Zb h
  |some y=>cases h;exact k x y rfl rfl
def X7{g:Type}{P:g->Prop}{f:α->β->γ->g}{a:Ot α}{b:Ot β}{d:Ot γ}{c:g}(h:o3 f a b d=aa c)(k:∀ x y z,a=aa x->b=aa y->d=aa z->P (f x y z)):P c:=by
 cases a with
 |none=>exact Zb h
 |some x=>exact Z6 (P:=P) h λy z e i=>k x y z rfl e i
def X8{P:Prop}{p:Prop}[Decidable p]{o:Ot α}{c:α}(h:og p o=aa c)(k:p->o=aa c->P):P:=by
 unfold og at h;by_cases a:p
 .rw[ao a]at h;exact k a h
 .rw[aq a]at h;cases h
def j_e{P:Prop}{o:Ot (Ot α)}{c:α}(h:o.join=aa c)(k:o=aa (aa c)->P):P:=by
 cases o with
 |none=>exact Zb h
 |some x=>cases h;exact k rfl
def Zcn(G:Gs)(sc:bg)(f:Str)(a:ay)(r:ay->Ot CE):Ot CE:=match Zad G sc f a with
 |some e=>(r e).map .tupR
 |none=>match Qg G sc f a with
  |some (u,v)=>o2 .lstR (r u) (r v)
  |none=>((r a).map (Zg9 f)).join
def Zco(G:Gs)(sc:bg)(f:Str)(a b:ay)(r:ay->Ot CE):Ot CE:=if f = "isinstance" then (match JF G sc b with
  |some l=>(r a).map (.isc l)
  |none=>o2 (λx T=>.isi T x) (r a) (Zbj G sc b)) else (o2 (Zha f) (r a) (r b)).join
def Zct(G:Gs)(sc:bg)(f:Str)(d:Li ay)(h:Ot CE)(r:ay->Ot CE):Ot CE:=
 if ZL sc f then (match G.lookup f with
   |some (.fn i e g)=>og (d.length<=e/\e<=d.length+g.length) (h.map λc=>.call i c (g.drop (d.length+g.length - e)))
   |some .blt=>match d with
    |[a]=>Zcn G sc f a r
    |[a,b]=>Zco G sc f a b r
    |_=>ab
   |some (.cls i _ _)=>match d with
    |[]=>aa (.new i)
    |_=>ab
   |_=>ab) else ab
def Zkm(o:Ot CE)(d:Li ay)(r:ay->Ot CE):Ot CE:=match d with
 |[a]=>o2 (λx y=>.dgN x y (.c .non)) o (r a)
 |[a,b]=>o3 .dgN o (r a) (r b)
 |_=>ab
def Zgi(G:Gs)(c:ay)(m:Str)(g:Pos)(d:Li ay)(f:Pos)(e:Ot CE)(r:ay->Ot CE):Ot CE:=match c with
 |.Dict _ _ _=>(match d with
  |[a,b]=>og (m = "get"/\(g.endLine==f.line)=ac) (o3 .dget (r c) (r a) (r b))
  |_=>ab)
 |.Name _ _=>og ((g.endLine==f.line)=ac/\d.length < 20) (if m = "pop" then og (d.length=0) ((r c).map .pop) else if m = "get" then Zkm (r c) d r else if m = "index" then og (d.length=1) (o2 .tix (r c) e) else o2 (.meth (X5 m d.length G)) (r c) e)
 |_=>ab
def ZiZ(G:Gs)(sc:bg)(f:ay)(b:Li ay)(d:Pos)(a:Ot CE)(r:ay->Ot CE):Ot CE:=match f with
 |.Name f _=>Zct G sc f b a r
 |.Attribute c m e=>Zgi G c m e b d a r
 |_=>ab
noncomputable def Zkp:ay->Bool
 |.Slice ..=>ac
 |_=>ae
noncomputable def cVs(f:ay->Ot CE):Li ay->Ot CE
 |[]=>aa .aN
 |e :: a=>match f e,cVs f a with
  |some x,aa r=>aa (.aC x r)
  |_,_=>ab
noncomputable def UF:ay->Ot (ay×ay)
 |.Tuple [a,b] _ _=>aa (a,b)
 |_=>ab
def ZaZ:Li (Ot ay)->Ot (ay×ay)
 |[aa e]=>UF e
 |_=>ab
noncomputable def Zft:Li ay->Ot ay
 |[e]=>aa e
 |_=>ab
def Zki(f:ay->Ot CE)(a:Li (Ot ay))(b:Li ay):Ot CE:=match a with
 |[]=>og (b.length=0) (aa .dnew)
 |_=>match ZaZ a with
  |some p=>o3 .dd (f p.1) (f p.2) ((Zft b).bind f)
  |none=>og (a.length=b.length/\a≠[]/\a.length<=15) (o2 .dict (ZX a) (cVs f b))
noncomputable def W9(_:Gs)(_:bg)(_:ay):Ot (Li ay):=ab
def WS(G:Gs)(sc:bg)(e:ay):Ot (Li ay):=(fnA G sc "zip" e).bind λa=>og (a.length=2) (aa a)
def X3(G:Gs)(sc:bg)(e:ay):Ot ay:=(fnA G sc "enumerate" e).bind ZhJ
def Vv(G:Gs)(sc:bg)(e:ay):Ot ay:=X3 G sc e
noncomputable def nmE:ay->Ot Str
 |.Name x _=>aa x
 |_=>ab
def nmL:Li ay->Ot (Li Str)
 |[a,b]=>o2 (λx y=>[x,y]) (nmE a) (nmE b)
 |[a,b,c]=>o3 (λx y z=>[x,y,z]) (nmE a) (nmE b) (nmE c)
 |_=>ab
def tgN:ay->Ot (Li Str)
 |.Name x _=>aa [x]
 |.Tuple a _ _=>nmL a
 |_=>ab
noncomputable def mkC(n:Nat)(r:Ot (Ot Bool))(a:Li Nat)(c d e:CE):CE:=if n=3 then .comp3 a c d e else match r with
 |some (aa b)=>.comp b a c d e
 |some ab=>.comp2 a c d e
 |none=>.compT a c d e
noncomputable def XW(N:Li Str):Li Str->Ot (Li Nat)
 |[]=>aa []
 |x :: r=>match N.idxOf? x,XW N r with
  |some i,aa is=>aa (i :: is)
  |_,_=>ab
def Zdx(G:Gs)(sc:bg)(N:Li Str)(x:Str):Ot CE:=
 if WL sc x then (N.idxOf? x).map .v else if ZL sc x then (match G.lookup x with
  |some (.c d)=>aa (.c d)
  |_=>ab) else ab
def ZaM(G:Gs)(sc:bg):ay->Ot (Li Str×Li D)
 |.Name x _=>if ZL sc x then (match G.lookup x with
  |some (.dct a b)=>aa (a,b)
  |_=>ab) else ab
 |_=>ab
noncomputable def Vz:ay->Ot (Ot ay×Ot ay)
 |.Slice a b ab _=>aa (a,b)
 |_=>ab
noncomputable def ZgH(_:ay):Ot ay:=ab
noncomputable def Zko:CE->Bool
 |.neg (.c (.int 1))=>ac
 |_=>ae
noncomputable def VX(sc:bg)(x:Str):Bool:=match sc.names.lookup x with
 |some .cell=>ac
 |some .free=>ac
 |_=>ae
def XL(sc a:bg)(b:Li Str):Bool:=
 aj (a.kind=.function)&&(a.names.all λp=>aj (p.2≠.cell))&&(b.all λx=>aj (a.names.lookup x=aa .local))&&(a.names.all λp=>!decide (p.2=.local)||aj (a.names.lookup p.1=aa .local)) &&
 aj (b++ZW a).Nodup&&(ZW a).all (λy=>VX sc y&&aj (a.names.lookup y=aa .free))
noncomputable def Zhp(_:CmpOp):Ot Bool:=ab
noncomputable def unC(b:UnaryOp)(a:Ot CE):Ot CE:=match b with
 |.Not=>a.map .not
 |.USub=>a.map .neg
 |.Invert=>a.map .inv
 |_=>ab
def Zi1(G:Gs)(sc:bg)(f:ay->Ot CE)(a:Ot CE):Li CmpOp->Li ay->Ot CE
 |[c],[b]=>(match Z3 G sc b with
  |some e=>o3 .inR (Zhp c) a (f e)
  |none=>o2 (.cmp c) a (f b))
 |_,_=>ab
def Zgj(f:ay->Ot CE)(d:BoolOp)(c:Pos):Li ay->Ot CE
 |[]=>ab
 |[a]=>f a
 |a :: b :: r=>match d with
  |.And=>o2 .and (f a) (f (.BoolOp .And (b :: r) c))
  |.Or=>o2 .or (f a) (f (.BoolOp .Or (b :: r) c))
def Ziu(G:Gs)(sc:bg)(f:ay->Ot CE)(c:Ot ay->Ot CE)(a b:ay):Ot CE:=match Vz b with
 |some (d,g)=>o3 .slice (f a) (c d) (c g)
 |none=>match ZgH b with
  |some s=>(o2 (λx y=>og (Zko y=ac) (aa (.rs ae x))) (f a) (f s)).join
  |none=>match ZaM G sc a with
   |some (e,h)=>(f b).map (.look e h)
   |none=>o2 .ix (f a) (f b)
def itC(G:Gs)(sc:bg)(b:ay)(f:ay->Ot CE):Li Str->Ot (Ot (Ot Bool)×CE)
 |[_]=>(match Z3 G sc b with
  |some a=>(f a).map λc=>(aa (aa ac),c)
  |none=>(f b).map λc=>(aa (aa ae),c))
 |[_,_]=>(match X3 G sc b with
  |some a=>(f a).map λc=>(aa ab,c)
  |none=>(f b).map λc=>(ab,c))
 |_=>(match X3 G sc b with
  |some _=>ab
  |none=>(f b).map λc=>(ab,c))
noncomputable def ifC(f:ay->Ot CE):Li ay->Ot CE
 |[]=>aa (CE.c (.bl ac))
 |[c]=>f c
 |_=>ab
def Zgl(G:Gs)(sc a:bg)(N:Li Str)(f:ay->Ot CE)(g:Li Str->ay->Ot CE)(d:ay):Li Comprehension->Ot CE
 |[⟨e,h,c,0⟩]=>(match tgN e with
  |none=>ab
  |some b=>og (XL sc a b=ac) (o3 (λi p (q:CE×CE)=>mkC b.length p.1 i p.2 q.1 q.2) (XW N (ZW a)) (itC G sc h f b) (o2 Prod.mk (g (b++ZW a) d) (ifC (g (b++ZW a)) c))))
 |_=>ab
mutual
def cE(G:Gs):Nat->bg->Li Str->ay->Ot CE
 |0,_,_,_=>ab
 |n+1,sc,N,e=>match e with
  |.Constant c _ _=>CE.ofConst c
  |.Name x _=>Zdx G sc N x
  |.BinOp a h b _=>o2 (.bin h) (cE G n sc N a) (cE G n sc N b)
  |.UnaryOp h a _=>unC h (cE G n sc N a)
  |.Compare a l bs _=>Zi1 G sc (cE G n sc N) (cE G n sc N a) l bs
  |.BoolOp h q k=>Zgj (cE G n sc N) h k q
  |.IfExp c a b _=>o3 .ife (cE G n sc N c) (cE G n sc N a) (cE G n sc N b)
  |.Tuple m _ _=>(cEs G n sc N m).map .tupE
  |.List m _=>(cEs G n sc N m).map .lstE
  |.Dict i d _=>Zki (cE G n sc N) i d
  |.Subscript a b _=>Ziu G sc (cE G n sc N) (cO G n sc N) a b
  |.Call f p [] r=>ZiZ G sc f p r (cEs G n sc N p) (cE G n sc N)
  |.ListComp o j g _=>Zgl G sc g N (cE G n sc N) (cE G n g) o j
  |_=>ab
def cEs(G:Gs):Nat->bg->Li Str->Li ay->Ot CE
 |0,_,_,_=>ab
 |_+1,_,_,[]=>aa .aN
 |n+1,sc,N,e :: a=>o2 .aC (cE G n sc N e) (cEs G n sc N a)
def cO(G:Gs):Nat->bg->Li Str->Ot ay->Ot CE
 |0,_,_,_=>ab
 |_+1,_,_,ab=>aa .nop
 |n+1,sc,N,aa e=>(cE G n sc N e).map .part
end
noncomputable def XT:ay->Bool
 |.ListComp ..=>ac
 |.SetComp ..=>ac
 |.DictComp ..=>ac
 |_=>ae
noncomputable def Q3:ay->Bool
 |.Tuple ..=>ac
 |_=>ae
def ZiX(N:Li Str)(a e:ay)(c:Ot CE):Ot CS:=match a with
 |.Name x _=>o2 .set (N.idxOf? x) c
 |.Tuple [.Name x _,.Name y _] _ _=>og ((XT e||Q3 e)=ae) (o3 (λi j c=>og (i≠j) (aa (.set2 i j c))) (N.idxOf? x) (N.idxOf? y) c).join
 |.Tuple [.Name x _,.Name y _,.Name z _] _ _=>og ((XT e||Q3 e)=ae) (o3 (λi j (p:Nat×CE)=>.set3 i j p.1 p.2) (N.idxOf? x) (N.idxOf? y) (o2 Prod.mk (N.idxOf? z) c))
 |_=>ab
def Zju(sc:bg)(N:Li Str)(x:Str)(k e:ay)(f:ay->Ot CE):Ot CS:=og (XT e=ae/\Zkp k=ae/\WL sc x=ac) (match UF k with
 |some (a,b)=>o3 (λi (p:CE×CE) c=>.dput i p.1 p.2 c) (N.idxOf? x) (o2 Prod.mk (f a) (f b)) (f e)
 |none=>o3 .put (N.idxOf? x) (f k) (f e))
def Zhm(G:Gs)(sc:bg)(N:Li Str)(f:ay->Ot CE)(fs:Li ay->Ot CE)(h d:ay)(b:Ot CS):Ot CS:=match h with
 |.Name x _=>(match W9 G sc d with
  |some g=>o3 .for3 (N.idxOf? x) (fs g) b
  |none=>match Z3 G sc d with
   |some a=>o3 (λi c b=>.for1 i ac c b) (N.idxOf? x) (f a) b
   |none=>o3 (λi c b=>.for1 i ae c b) (N.idxOf? x) (f d) b)
 |.Tuple [.Name x _,.Name y _] _ _=>(o2 (λi j=>og (i≠j) (aa (i,j))) (N.idxOf? x) (N.idxOf? y)).join.bind λp=>(match WS G sc d with
  |some g=>o2 (.forP p.1 p.2) (fs g) b
  |none=>match Vv G sc d with
   |some e=>o2 (.forE p.1 p.2) (f e) b
   |none=>o2 (.for2 p.1 p.2) (f d) b)
 |.Tuple [.Name x _,.Name y _,.Name z _] _ _=>o3 (λ(p:Nat×Nat) (q:Nat×CE) b=>.for4 p.1 p.2 q.1 q.2 b) (o2 Prod.mk (N.idxOf? x) (N.idxOf? y)) (o2 Prod.mk (N.idxOf? z) (f d)) b
 |_=>ab
def ZiW(sc:bg)(N:Li Str)(x m:Str)(b a:Pos)(c:Ot CE):Ot CS:=og (WL sc x=ac/\(b.endLine==a.line)=ac) (if m = "append" then o2 .app (N.idxOf? x) c else if m = "extend" then o2 .ext (N.idxOf? x) c else ab)
def ZiS(sc:bg)(N:Li Str)(f:ay->Ot CE):ay->Ot CS
 |.Call (.Name g d) h c a=>(f (.Call (.Name g d) h c a)).map .act
 |.Call (.Attribute (.Name x _) m b) [e] [] a=>ZiW sc N x m b a (f e)
 |.Call (.Attribute (.Subscript o k p) m b) [e] [] a=>og (m = "append"/\(b.endLine==a.line)=ac) (o2 .app2 (f (.Subscript o k p)) (f e))
 |_=>ab
mutual
def cS(G:Gs):Nat->bg->Li Str->Stmt->Ot CS
 |0,_,_,_=>ab
 |n+1,sc,N,s=>match s with
  |.Assign [.Subscript (.Name x _) k _] e _=>Zju sc N x k e (cE G n sc N)
  |.Assign [d] e _=>ZiX N d e (cE G n sc N e)
  |.Expr e _=>ZiS sc N (cE G n sc N) e
  |.Return (aa e) _=>(cE G n sc N e).map .ret
  |.If c a b _=>o3 .ite (cE G n sc N c) (cSs G n sc N a) (cSs G n sc N b)
  |.For d f b [] _=>Zhm G sc N (cE G n sc N) (cEs G n sc N) d f (cSs G n sc N b)
  |.While c b [] _=>o2 .whl (cE G n sc N c) (cSs G n sc N b)
  |.Pass _=>aa .skip
  |.Break _=>aa .brk
  |.Continue _=>aa .cont
  |.Raise _ _ _=>aa .stop
  |_=>ab
def cSs(G:Gs):Nat->bg->Li Str->Li Stmt->Ot CS
 |0,_,_,_=>ab
 |_+1,_,_,[]=>aa .skip
 |n+1,sc,N,s :: r=>o2 .seq (cS G n sc N s) (cSs G n sc N r)
end
end Dp
namespace Dp
open PySem PySem.Spec PyProof.Rows L2
class ClsTab where
 ca:Nat->Addr
variable [ClsTab]
variable{X:Cx}{e:ay}
def Zm{t a:TE}(h:PE X e t)(i:∀ O H Q,a O H Q->t O H Q):PE X e a:=λb s O H Q I q=>h b s O H Q I (i O H Q q)
def Ub{t a:TT}(h:PT X e t)(i:∀ O H Q,a O H Q->t O H Q):PT X e a:=λb s O H Q I q=>h b s O H Q I (i O H Q q)
def ZdK{e:Li ay}{t b:TA}(h:PA X e t)(i:∀ O H Q,b O H Q->t O H Q):PA X e b:=λa c s O H Q I q=>h a c s O H Q I (i O H Q q)
def ZdP{e:Ot ay}{t a:TO}(h:PO X e t)(i:∀ O H Q,a O H Q->t O H Q):PO X e a:=λb s O H Q I q=>h b s O H Q I (i O H Q q)
def ZC{e:Stmt}{t a:TS}(h:PS X e t)(i:∀ D O H,a D O H->t D O H):PS X e a:=λb s O H D I q=>h b s O H D I (i D O H q)
def Za2{e:Li Stmt}{t a:TS}(h:PSs X e t)(i:∀ D O H,a D O H->t D O H):PSs X e a:=λb s O H D I q=>h b s O H D I (i D O H q)
def KT(K:Fg)(a:Ad)(b:Li V):Prop:=
 ∃ (o:Obj) (its:Array vL) (n:Nat),K.lookup a=aa o/\o.cls=.type "tuple"/\o.data=.seq its n/\its.size<=ax/\Vals b its.toList
def TupAt(K:Fg)(H:Hp)(a:Ad)(b:Li V):Prop:=H a=aa (.tup b)\/KT K a b
variable{K:Fg}{H:Hp}{xs:Li V}
def TupAt.sq{a:Ad}(h:TupAt K H a xs):SqT K H a xs:=by
 rcases h with h|h
 .exact .inl (.inl h)
 .exact .inr h
def Ys(H:Hp)(a:Ad):Prop:=∃ b,H a=aa (.dT b)
def LA(b:Li Ad)(H:Hp)(i:Nat)(a:Ad):Prop:=b[i]?=aa a/\¬Ys H a
variable{o:HO}
def V6{a:Ad}(h:H a=aa o)(n:∀ b,o≠.dT b):¬Ys H a:=λ⟨b,z⟩=>n b (av (h.symm.trans z))
mutual
inductive Den(K:Fg)(ad:List Addr)(H:Hp):V->D->Prop where
 |non:Den K ad H .non .non
 |bl (b:Bool):Den K ad H (.bl b) (.bl b)
 |int (i:Int):Den K ad H (.int i) (.int i)
 |str (x:Str):Den K ad H (.str x) (.str x)
 |tup {a:Addr}{xs:List V}{ds:List D} (h:TupAt K H a xs) (r:Dens K ad H xs ds):Den K ad H (.ref a) (.tup ds)
 |lst {a:Addr}{i:Nat} (h:LA ad H i a):Den K ad H (.ref a) (.lst i)
 |dic {a:Addr}{i:Nat} (h:ad[i]?=aa a) (n:Ys H a):Den K ad H (.ref a) (.dic i)
 |dct {a:Addr}{kvs:List (Key×V)}{ks:List Str}{vs:List V}{ds:List D} (h:H a=aa (.dK kvs)) (hk:kvs=(ks.zip vs).map λp=>(eL p.1,p.2)) (nd:ks.Nodup/\ks≠[]) (hl:ks.length=vs.length) (r:Dens K ad H vs ds):Den K ad H (.ref a) (.dct ks ds)
 |obj {a dx:Addr}{i:Nat} (h:H a=aa (.ins (ClsTab.ca i) dx [])) (n:a∉ad):Den K ad H (.ref a) (.obj i)
 |kt {a:Addr}{ks:List Str}{o:Obj}{its:Array Value}{n:Nat} (l:K.lookup a=aa o) (c:o.cls=.type "tuple") (g:o.dict=ab) (e:o.data=.seq its n) (z:its.size<=ax) (r:Vals (ks.map V.str) its.toList):Den K ad H (.ref a) (.kt ks)
inductive Dens(K:Fg)(ad:List Addr)(H:Hp):List V->List D->Prop where
 |nil:Dens K ad H [] []
 |cons {v:V}{d:D}{vs:List V}{ds:List D} (h:Den K ad H v d) (r:Dens K ad H vs ds):Dens K ad H (v :: vs) (d :: ds)
end
structure Ext(ad:List Addr)(H:Hp)(ad':List Addr)(H':Hp):Prop where
 pre:∀ (i:Nat) (a:Addr),ad[i]?=aa a->ad'[i]?=aa a
 tup:∀ b xs,H b=aa (.tup xs)->H' b=aa (.tup xs)
 dk:∀ b kvs,H b=aa (.dK kvs)->H' b=aa (.dK kvs)
 keep:∀ b o,H b=aa o->b∉ad->H' b=aa o
 new:∀ b,b∈ad'->b∈ad\/H b=ab
 kd:∀ (i:Nat) (a:Addr),ad[i]?=aa a->(Ys H a↔Ys H' a)
def Ext.refl(a:Li Ad)(H:Hp):Ext a H a H:=⟨λ_ _ h=>h,λ_ _ h=>h,λ_ _ h=>h,λ_ _ h _=>h,λ_ h=>.inl h,λ_ _ _=>Iff.rfl⟩
theorem Ext.trans{d j g:Li Ad}{f l k:Hp}(x:Ext d f j l)(y:Ext j l g k):Ext d f g k:=by
 refine⟨λi a h=>y.pre i a (x.pre i a h),λb c h=>y.tup b c (x.tup b c h),λb c h=>y.dk b c (x.dk b c h),λb o h n=>?_,λb h=>?_,λi a h=>(x.kd i a h).trans (y.kd i a (x.pre i a h))⟩
 .refine y.keep b o (x.keep b o h n) λz=>?_
  rcases x.new b z with z|z
  .exact n z
  .rw[h]at z;cases z
 .rcases y.new b h with z|z
  .exact x.new b z
  .cases e:f b with
   |none=>exact .inr rfl
   |some o=>
    by_cases q:b∈d
    .exact .inl q
    .rw[x.keep b o e q]at z;cases z
variable{ad ad':Li Ad}{H':Hp}
def TupAt.mono{a:Ad}(x:Ext ad H ad' H')(h:TupAt K H a xs):TupAt K H' a xs:=h.imp (x.tup _ _) id
def TupAt.upd{K:Fg}{H:Hp}{a p:Ad}{b:Li V}{o d:HO}(c:H p=aa o)(e:∀ b,o≠.tup b)(h:TupAt K H a b):TupAt K (upd H p d) a b:=by
 rcases h with h|h
 .refine .inl ?_
  have n:a≠p:=λz=>by subst z;rw[h]at c;cases c;exact e _ rfl
  rw[upd_ne n];exact h
 .exact .inr h
variable{ks:Li Str}{vs ys:Li V}{d:D}{ds es:Li D}{i:Nat}{kvs kvs':Li (Li Key×V)}{st:Za}{p:Ad}{α:Type}{O:L2.St}{U:Env}
variable{K:Fg}{ad ad':Li Ad}{H H':Hp}
def ZiB(h:ks≠[])(a:ks.length=vs.length):(ks.zip vs).map (λp=>((eL p.1:Key),p.2))≠[]:=by
 cases ks with
 |nil=>exact ar rfl h
 |cons k ks=>cases vs with
  |nil=>cases a
  |cons v vs=>exact cR _ _
structure Keeps(K:Fg)(ad ad':List Addr)(H H':Hp):Prop where
 t:∀ {a xs},TupAt K H a xs->TupAt K H' a xs
 l:∀ {i:Nat}{a:Addr},ad[i]?=aa a->ad'[i]?=aa a/\(Ys H a↔Ys H' a)
 k:∀ {a kvs},kvs≠[]->H a=aa (.dK kvs)->H' a=aa (.dK kvs)
 o:∀ {a C dx},H a=aa (.ins C dx [])->a∉ad->H' a=aa (.ins C dx [])/\a∉ad'
def Den.map(x:Keeps K ad ad' H H'){v:V}(h:Den K ad H v d):Den K ad' H' v d:=
 Den.rec (motive_1:=λv d _=>Den K ad' H' v d) (motive_2:=λvs ds _=>Dens K ad' H' vs ds) .non .bl .int .str (λh _ r=>.tup (x.t h) r) (λh=>.lst ⟨(x.l h.1).1,λz=>h.2 ((x.l h.1).2.mpr z)⟩) (λh n=>.dic (x.l h).1 ((x.l h).2.mp n)) (λh f c e _ r=>.dct (x.k (λz=>ZiB c.2 e (f.symm.trans z)) h) f c e r) (λh n=>.obj (x.o h n).1 (x.o h n).2) .kt .nil (λ_ _ a b=>.cons a b) h
theorem Dens.map(x:Keeps K ad ad' H H')(h:Dens K ad H vs ds):Dens K ad' H' vs ds:=
 Dens.rec (motive_1:=λ_ _ _=>True) (motive_2:=λvs ds _=>Dens K ad' H' vs ds) trivial (λ_=>trivial) (λ_=>trivial) (λ_=>trivial) (λ_ _ _=>trivial) (λ_=>trivial) (λ_ _=>trivial) (λ_ _ _ _ _ _=>trivial) (λ_ _=>trivial) (λ_ _ _ _ _ _=>trivial) .nil (λa _ _ b=>.cons (a.map x) b) h
def Ext.keeps(x:Ext ad H ad' H'):Keeps K ad ad' H H':=⟨λh=>h.mono x,λh=>⟨x.pre _ _ h,x.kd _ _ h⟩,λ_ h=>x.dk _ _ h,λh n=>⟨x.keep _ _ h n,λz=>(x.new _ z).elim n λq=>by rw[h]at q;cases q⟩⟩
def Den.mono(x:Ext ad H ad' H'){v:V}(h:Den K ad H v d):Den K ad' H' v d:=h.map x.keeps
def Dens.mono(x:Ext ad H ad' H')(h:Dens K ad H vs ds):Dens K ad' H' vs ds:=h.map x.keeps
def Zhw(x:∀ (i:Nat) (a:Ad),ad[i]?=aa a->ad'[i]?=aa a)(y:∀ b,b∈ad'->b∈ad\/∃ c,H b=aa (.lst c)):Keeps K ad ad' H H:=⟨id,λh=>⟨x _ _ h,Iff.rfl⟩,λ_ h=>h,λh n=>⟨h,λz=>(y _ z).elim n λ⟨c,q⟩=>by rw[h]at q;cases q⟩⟩
theorem Dens.length:∀ {vs:Li V}{ds:Li D},Dens K ad H vs ds->vs.length=ds.length
 |_,_,.nil=>rfl
 |_,_,.cons _ r=>au (·+1) (Dens.length r)
theorem Dens.get:∀ {vs:Li V}{ds:Li D}{i:Nat}{d:D},Dens K ad H vs ds->ds[i]?=aa d->∃ v,vs[i]?=aa v/\Den K ad H v d
 |_,_,_,_,.nil,e=>by simp at e
 |_,_,0,_,.cons h _,e=>by simp at e;subst e;exact⟨_,rfl,h⟩
 |_,_,i+1,d,.cons _ r,e=>by
  obtain⟨v,b,a⟩:=Dens.get (i:=i) (d:=d) r (by simpa using e)
  exact⟨v,by simpa using b,a⟩
theorem Dens.append:∀ {vs ws:Li V}{ds es:Li D},Dens K ad H vs ds->Dens K ad H ws es->Dens K ad H (vs++ws) (ds++es)
 |_,_,_,_,.nil,s=>s
 |_,_,_,_,.cons h r,s=>.cons h (Dens.append r s)
theorem Dens.take:∀ {vs:Li V}{ds:Li D} (n:Nat),Dens K ad H vs ds->Dens K ad H (vs.take n) (ds.take n)
 |_,_,0,_=>.nil
 |_,_,_+1,.nil=>.nil
 |_,_,n+1,.cons h r=>.cons h (Dens.take n r)
theorem Dens.drop:∀ {vs:Li V}{ds:Li D} (n:Nat),Dens K ad H vs ds->Dens K ad H (vs.drop n) (ds.drop n)
 |_,_,0,r=>r
 |_,_,_+1,.nil=>.nil
 |_,_,n+1,.cons _ r=>Dens.drop n r
theorem Dens.set{v:V}(h:Den K ad H v d):∀ {vs:Li V}{ds:Li D} (n:Nat),Dens K ad H vs ds->Dens K ad H (vs.set n v) (ds.set n d)
 |_,_,_,.nil=>.nil
 |_,_,0,.cons _ r=>.cons h r
 |_,_,n+1,.cons q r=>.cons q (Dens.set h n r)
theorem Dens.rep{v:V}(h:Den K ad H v d):∀ n:Nat,Dens K ad H (af n v) (af n d)
 |0=>.nil
 |n+1=>.cons h (Dens.rep h n)
def Den.ofInt{v:V}{i:Int}(h:Den K ad H v (.int i)):v=.int i:=by cases h;rfl
def Den.ofStr{v:V}{x:Str}(h:Den K ad H v (.str x)):v=.str x:=by cases h;rfl
def Den.ofBl{v:V}{b:Bool}(h:Den K ad H v (.bl b)):v=.bl b:=by cases h;rfl
def Den.ofDct{v:V}(h:Den K ad H v (.dct ks ds)):∃ a vs,v=.ref a/\H a=aa (.dK ((ks.zip vs).map λp=>(eL p.1,p.2)))/\ks.length=vs.length/\Dens K ad H vs ds:=by
 cases h with
 |dct h c d b r=>subst c;exact⟨_,_,rfl,h,b,r⟩
def Den.ofTup{v:V}(h:Den K ad H v (.tup ds)):∃ a b,v=.ref a/\TupAt K H a b/\Dens K ad H b ds:=by
 cases h with
 |tup h r=>exact⟨_,_,rfl,h,r⟩
def Den.ofLst{v:V}(h:Den K ad H v (.lst i)):∃ a,v=.ref a/\LA ad H i a:=by
 cases h with
 |lst h=>exact⟨_,rfl,h⟩
def Den.ofDic{v:V}(h:Den K ad H v (.dic i)):∃ a,v=.ref a/\ad[i]?=aa a/\Ys H a:=by
 cases h with
 |dic h n=>exact⟨_,rfl,h,n⟩
def Den.newL{a:Ad}(h:ad[i]?=aa a):Den K ad (upd H a (.lst xs)) (.ref a) (.lst i):=.lst ⟨h,V6 upd_same λ_ z=>nomatch z⟩
def LA.mono{a:Ad}(x:Ext ad H ad' H')(h:LA ad H i a):LA ad' H' i a:=⟨x.pre _ _ h.1,λz=>h.2 ((x.kd _ _ h.1).mpr z)⟩
def Den.ofKt{v:V}(h:Den K ad H v (.kt ks)):∃ a o b n,v=.ref a/\K.lookup a=aa o/\(o.cls=.type "tuple"/\o.dict=ab)/\o.data=.seq b n/\b.size<=ax/\Vals (ks.map V.str) b.toList:=by
 cases h with
 |kt l c g e z r=>exact⟨_,_,_,_,rfl,l,⟨c,g⟩,e,z,r⟩
theorem UI:∀ ks:Li Str,Dens K ad H (ks.map V.str) (ks.map D.str)
 |[]=>.nil
 |k :: ks=>.cons (.str k) (UI ks)
def Den.ofObj{v:V}(h:Den K ad H v (.obj i)):∃ a b,v=.ref a/\H a=aa (.ins (ClsTab.ca i) b []):=by
 cases h with
 |obj h n=>exact⟨_,_,rfl,h⟩
def KL(K:Fg)(a:Ad)(b:Li V):Prop:=
 ∃ (o:Obj) (its:Array vL) (n:Nat),(K.lookup a=aa o/\o.cls=.type "list")/\(o.dict=ab/\o.data=.seq its n)/\its.size<=ax/\Vals b its.toList
inductive Ents(K:Fg)(ad:List Addr)(H:Hp):List (List Key×V)->List D->Prop where
 |nil:Ents K ad H [] []
 |cons {i j:Int}{v:V}{d:D}{kvs:List (List Key×V)}{ds:List D} (h:Den K ad H v d) (r:Ents K ad H kvs ds):Ents K ad H (([.inl i,.inl j],v) :: kvs) (.tup [.int i,.int j,d] :: ds)
theorem Ents.map(x:Keeps K ad ad' H H')(h:Ents K ad H kvs ds):Ents K ad' H' kvs ds:=by
 induction h with
 |nil=>exact .nil
 |cons h _ a=>exact .cons (h.map x) a
def Ents.mono(x:Ext ad H ad' H')(h:Ents K ad H kvs ds):Ents K ad' H' kvs ds:=h.map x.keeps
inductive CellOk(K:Fg)(ad:List Addr)(H:Hp)(a:Addr)(c:XA):Prop where
 |l {xs:List V} (n:¬Ys H a) (r:Dens K ad H xs c.2) (h:(c.1=ac/\H a=aa (.lst xs))\/(c.1=ae/\((∃ o,H a=aa (.frz o (.lst xs)))\/KL K a xs)))
 |d {kvs:List (List Key×V)} (r:Ents K ad H kvs c.2) (e:c.1=ac) (h:H a=aa (.dT kvs))
structure StOk(K:Fg)(ad:List Addr)(H:Hp)(st:Za):Prop where
 len:ad.length=st.length
 nd:∀ (i j:Nat) (a:Addr) (c d:List D),ad[i]?=aa a->ad[j]?=aa a->st[i]?=aa (ac,c)->st[j]?=aa (ac,d)->i=j
 cell:∀ (i:Nat) (c:XA),st[i]?=aa c->∃ a,ad[i]?=aa a/\CellOk K ad H a c
def CellOk.sq{a:Ad}{c:XA}(h:CellOk K ad H a c)(n:¬Ys H a):∃ f,Dens K ad H f c.2/\SqL K H a f:=by
 cases h with
 |l _ r h=>
  obtain⟨_,e⟩|⟨_,⟨o,e⟩|⟨o,b,n,⟨p,m⟩,⟨k,j⟩,i,g⟩⟩:=h
  .exact⟨_,r,.inl (.inl e)⟩
  .exact⟨_,r,.inl (.inr ⟨o,e⟩)⟩
  .exact⟨_,r,.inr ⟨o,b,n,p,m,k,j,i,g⟩⟩
 |d r e h=>exact ar ⟨_,h⟩ n
def StOk.list{a:Ad}{b:Bool}(S:StOk K ad H st)(h:LA ad H i a)(e:st[i]?=aa (b,ds)):∃ d,Dens K ad H d ds/\SqL K H a d:=by
 obtain⟨g,f,c⟩:=S.cell i _ e;rw[h.1]at f;cases f
 exact c.sq h.2
def StOk.listM{a:Ad}(S:StOk K ad H st)(h:LA ad H i a)(e:st[i]?=aa (ac,ds)):∃ b,Dens K ad H b ds/\H a=aa (.lst b):=by
 obtain⟨g,f,c⟩:=S.cell i _ e;rw[h.1]at f;cases f
 cases c with
 |l _ r q=>
  obtain⟨_,q⟩|⟨q,_⟩:=q
  .exact⟨_,r,q⟩
  .cases q
 |d r _ q=>exact ar ⟨_,q⟩ h.2
def StOk.dict{a:Ad}{b:Bool}(S:StOk K ad H st)(h:ad[i]?=aa a)(n:Ys H a)(e:st[i]?=aa (b,ds)):∃ kvs,Ents K ad H kvs ds/\H a=aa (.dT kvs)/\b=ac:=by
 obtain⟨g,f,c⟩:=S.cell i _ e;rw[h]at f;cases f
 cases c with
 |l z=>exact ar n z
 |d r e q=>exact⟨_,r,q,e⟩
def Ui{a:Ad}(b:¬Ys H p)(c:∀ kvs,o≠.dT kvs):Ys H a↔Ys (upd H p o) a:=by
 by_cases z:a=p
 .subst z
  exact⟨λq=>ar q b,λq=>ar q (V6 upd_same c)⟩
 .unfold Ys
  rw[upd_ne z]
def ZaV(a:H p=ab):¬Ys H p:=λ⟨_,z⟩=>by rw[a]at z;cases z
def Ext.laid(a:H p=ab)(d:∀ kvs,o≠.dT kvs:=by intro _ z;cases z):Ext ad H ad (upd H p o):=
 ⟨λ_ _ h=>h,λb c h=>by rw[upd_ne (ne_of_none h a)];exact h,λb c h=>by rw[upd_ne (ne_of_none h a)];exact h,λb o h _=>by rw[upd_ne (ne_of_none h a)];exact h,λ_ h=>.inl h,λ_ _ _=>Ui (ZaV a) d⟩
def CellOk.laid{a:Ad}{c:XA}(g:ad[i]?=aa a)(f:H p=ab)(x:Ext ad H ad' (upd H p o))(h:CellOk K ad H a c):CellOk K ad' (upd H p o) a c:=by
 cases h with
 |l n r h=>
  refine .l (λz=>n ((x.kd i a g).mpr z)) (r.mono x) ?_
  rcases h with⟨b,e⟩|⟨b,⟨o,e⟩|e⟩
  .exact .inl ⟨b,by rw[upd_ne (ne_of_none e f)];exact e⟩
  .exact .inr ⟨b,.inl ⟨o,by rw[upd_ne (ne_of_none e f)];exact e⟩⟩
  .exact .inr ⟨b,.inr e⟩
 |d r e h=>exact .d (r.mono x) e (by rw[upd_ne (ne_of_none h f)];exact h)
theorem StOk.laid(S:StOk K ad H st)(b:H p=ab)(d:∀ kvs,o≠.dT kvs:=by intro _ z;cases z):StOk K ad (upd H p o) st:=
 ⟨S.len,S.nd,λi c e=>let ⟨a,h,q⟩:=S.cell i c e;⟨a,h,q.laid h b (Ext.laid b d)⟩⟩
def WI{l:Li α}{x y:α}(h:(l++[x])[i]?=aa y):l[i]?=aa y\/(i=l.length/\y=x):=by
 by_cases a:i < l.length
 .rw[cD a]at h
  exact .inl h
 .rw[cJ (by omega)]at h
  have:i - l.length=0:=by
   cases e:i - l.length with
   |zero=>rfl
   |succ k=>rw[e]at h;simp at h
  rw[this]at h;simp at h;exact .inr ⟨by omega,h.symm⟩
def XZ{l:Li α}{x y:α}(h:l[i]?=aa y):(l++[x])[i]?=aa y:=by
 rw[cD (bL.mp h).1];exact h
def Zu{l:Li α}{x:α}:(l++[x])[l.length]?=aa x:=by simp
def Ext.pushG(c:H p=ab)(e:∀ (i:Nat) (a:Ad),ad[i]?=aa a->(Ys H a↔Ys (upd H p o) a)):Ext ad H (ad++[p]) (upd H p o):=
 ⟨λ_ _ h=>XZ h,λb d h=>by rw[upd_ne (ne_of_none h c)];exact h,λb d h=>by rw[upd_ne (ne_of_none h c)];exact h,λb o h _=>by rw[upd_ne (ne_of_none h c)];exact h,λb h=>(bA.mp h).elim .inl λz=>.inr (by rw[aP.mp z];exact c),e⟩
def Ext.push(a:H p=ab):Ext ad H (ad++[p]) (upd H p (.lst xs)):=Ext.pushG a λ_ _ _=>Ui (ZaV a) λ_ z=>nomatch z
def StOk.more(S:StOk K ad H st)(o:∀ (i:Nat) (c:Li D),ad[i]?=aa p->st[i]?=aa (ac,c)->False)(u:∀ (i:Nat) (c:XA) (a:Ad),ad[i]?=aa a->CellOk K ad H a c->CellOk K (ad++[p]) H' a c)(t:CellOk K (ad++[p]) H' p (ac,ds)):StOk K (ad++[p]) H' (st++[(ac,ds)]):=by
 have b:∀ (i:Nat) (c:Li D) (a:Ad),(ad++[p])[i]?=aa a->st[i]?=aa (ac,c)->ad[i]?=aa a:=λi c a h e=>by
  obtain⟨z,k,_⟩:=S.cell i _ e;have n:=XZ (x:=p) k;rw[h]at n;cases n;exact k
 refine⟨by rw[aH,aH,S.len];rfl,λi j a c d m l g f=>?_,λi c e=>?_⟩
 .rcases WI g with g|⟨v,_⟩
  .rcases WI f with f|⟨r,_⟩
   .exact S.nd i j a c d (b i c a m g) (b j d a l f) g f
   .have k:=b i c a m g
    rw[r,<-S.len,Zu]at l;cases l;exact(o i c k g).elim
  .rcases WI f with f|⟨r,_⟩
   .have s:=b j d a l f
    rw[v,<-S.len,Zu]at m;cases m;exact(o j d s f).elim
   .omega
 .rcases WI e with e|⟨y,w⟩
  .obtain⟨a,h,q⟩:=S.cell i c e
   exact⟨a,XZ h,u i c a h q⟩
  .subst w
   exact⟨p,by rw[y,<-S.len];exact Zu,t⟩
def StOk.noNew(S:StOk K ad H st)(a:H p=ab)(i:Nat)(c:Li D)(h:ad[i]?=aa p)(e:st[i]?=aa (ac,c)):False:=by
 obtain⟨f,b,q⟩:=S.cell i _ e;rw[h]at b;cases b
 cases q with
 |l _ _ q=>
  obtain⟨_,q⟩|⟨q,_⟩:=q
  .rw[a]at q;cases q
  .cases q
 |d _ _ q=>rw[a]at q;cases q
theorem StOk.push(S:StOk K ad H st)(a:H p=ab)(r:Dens K ad H xs ds):StOk K (ad++[p]) (upd H p (.lst xs)) (st++[(ac,ds)]):=
 S.more (S.noNew a) (λ_ _ _ h q=>q.laid h a (Ext.push a)) (.l (V6 upd_same λ_ z=>nomatch z) (r.mono (Ext.push a)) (.inl ⟨rfl,upd_same⟩))
def StOk.wrG(S:StOk K ad H st)(g:Keeps K ad ad H (upd H p o))(j:p∉ad):StOk K ad (upd H p o) st:=
 ⟨S.len,S.nd,λi c e=>by
  obtain⟨a,h,q⟩:=S.cell i c e;have f:a≠p:=λz=>j (by rw[<-z];exact aY h)
  refine⟨a,h,?_⟩;cases q with
  |l n r q=>
   refine .l (λz=>n ((g.l h).2.mpr z)) (r.map g) ?_
   rcases q with⟨b,q⟩|⟨b,⟨o,q⟩|q⟩
   .exact .inl ⟨b,by rw[upd_ne f];exact q⟩
   .exact .inr ⟨b,.inl ⟨o,by rw[upd_ne f];exact q⟩⟩
   .exact .inr ⟨b,.inr q⟩
  |d r t q=>exact .d (r.map g) t (by rw[upd_ne f];exact q)⟩
def StOk.has{a:Ad}(S:StOk K ad H st)(b:ad[i]?=aa a):(∃ o,H a=aa o)\/∃ o,K.lookup a=aa o:=by
 obtain⟨h,c,q⟩:=S.cell i _ (Lg (show i < st.length by rw[<-S.len];exact(bL.mp b).1))
 rw[b]at c;cases c
 cases q with
 |l _ _ q=>
  obtain⟨_,q⟩|⟨_,⟨o,q⟩|⟨o,e,m,⟨f,g⟩,_⟩⟩:=q
  .exact .inl ⟨_,q⟩
  .exact .inl ⟨_,q⟩
  .exact .inr ⟨_,f⟩
 |d _ _ q=>exact .inl ⟨_,q⟩
def StOk.extD(S:StOk K ad H st)(b:H p=ab)(c:∀ o,K.lookup p≠aa o):Ext ad H (ad++[p]) (upd H p (.dT kvs)):=
 Ext.pushG b λi a h=>by
  have n:a≠p:=λz=>(S.has h).elim (λ⟨o,q⟩=>by rw[z,b]at q;cases q) λ⟨o,q⟩=>c o (z ▸ q)
  unfold Ys;rw[upd_ne n]
def StOk.pushD(S:StOk K ad H st)(a:H p=ab)(b:∀ o,K.lookup p≠aa o):StOk K (ad++[p]) (upd H p (.dT [])) (st++[(ac,[])]):=
 S.more (S.noNew a) (λ_ _ _ h q=>q.laid h a (S.extD a b)) (.d .nil rfl upd_same)
def StOk.adopt(S:StOk K ad H st)(c:H p=aa (.lst xs))(f:p∉ad)(r:Dens K ad H xs ds):StOk K (ad++[p]) H (st++[(ac,ds)]):=by
 have a:Keeps K ad (ad++[p]) H H:=Zhw (λ_ _ h=>XZ h) (λb g=>(bA.mp g).imp id λz=>⟨xs,by rw[aP.mp z];exact c⟩)
 exact S.more (λi _ h _=>f (aY h)) (λ_ _ _ _ q=>by
  cases q with
  |l n r h=>exact .l n (r.map a) h
  |d r e h=>exact .d (r.map a) e h) (.l (V6 c λ_ z=>nomatch z) (r.map a) (.inl ⟨rfl,c⟩))
def Ext.writeG{a:Ad}{d:HO}(h:H a=aa o)(i:a∈ad)(k:∀ c,o≠.tup c)(j:∀ c,o≠.dK c)(g:Ys H a↔Ys (upd H a d) a):Ext ad H ad (upd H a d):=
 ⟨λ_ _ h=>h,λb f e=>by rw[upd_ne (ne_of e h (λz=>k _ z.symm))];exact e,λb f e=>by rw[upd_ne (ne_of e h (λz=>j _ z.symm))];exact e,λb o e n=>by rw[upd_ne (show b≠a from λz=>n (by rw[z];exact i))];exact e,λ_ h=>.inl h,λ_ b _=>by
  by_cases z:b=a
  .rw[z];exact g
  .unfold Ys;rw[upd_ne z]⟩
def Ext.write{a:Ad}(h:H a=aa (.lst xs))(b:a∈ad):Ext ad H ad (upd H a (.lst ys)):=
 Ext.writeG h b (λ_ z=>nomatch z) (λ_ z=>nomatch z) ⟨λz=>ar z (V6 h λ_ z=>nomatch z),λz=>ar z (V6 upd_same λ_ z=>nomatch z)⟩
def StOk.writeG{a:Ad}{g:HO}(S:StOk K ad H st)(h:ad[i]?=aa a)(e:st[i]?=aa (ac,ds))(A:H a=aa o)(C:∀ q u,o≠.frz q u)(x:Ext ad H ad (upd H a g))(r:CellOk K ad (upd H a g) a (ac,es)) :
  StOk K ad (upd H a g) (st.set i (ac,es)):=by
 have B:i < st.length:=(bL.mp e).1;refine⟨by rw[bJ];exact S.len,λj k b c d F E s p=>?_,λj c q=>?_⟩
 .have up:∀ (j:Nat) (c:Li D),(st.set i (ac,es))[j]?=aa (ac,c)->∃ v,st[j]?=aa (ac,v):=λj c q=>by
   by_cases z:i=j
   .subst z;exact⟨_,e⟩
   .rw[bU z]at q;exact⟨_,q⟩
  obtain⟨v,s⟩:=up j c s;obtain⟨G,p⟩:=up k d p;exact S.nd j k b v G F E s p
 .by_cases z:i=j
  .subst z
   rw[bT B]at q;cases q;exact⟨a,h,r⟩
  .rw[bU z]at q
   obtain⟨b,m,hz⟩:=S.cell j c q;refine⟨b,m,?_⟩;have y:c.1=ac->b≠a:=λt w=>by
    obtain⟨J,I⟩:=c;cases (show J=ac from t)
    exact z (S.nd i j a ds I h (w ▸ m) e q)
   cases hz with
   |l n f hz=>
    refine .l (λz=>n ((x.kd j b m).mpr z)) (f.mono x) ?_
    rcases hz with⟨t,hz⟩|⟨t,⟨o,hz⟩|hz⟩
    .exact .inl ⟨t,by rw[upd_ne (y t)];exact hz⟩
    .exact .inr ⟨t,.inl ⟨o,by rw[upd_ne (ne_of hz A (λz=>C _ _ z.symm))];exact hz⟩⟩
    .exact .inr ⟨t,.inr hz⟩
   |d f t hz=>exact .d (f.mono x) t (by rw[upd_ne (y t)];exact hz)
theorem StOk.write{a:Ad}(S:StOk K ad H st)(h:LA ad H i a)(e:st[i]?=aa (ac,ds))(b:H a=aa (.lst xs))(r:Dens K ad H ys es) :
  StOk K ad (upd H a (.lst ys)) (st.set i (ac,es)):=
 S.writeG h.1 e b (λ_ _ z=>nomatch z) (Ext.write b (aY h.1)) (.l (V6 upd_same λ_ z=>nomatch z) (r.mono (Ext.write b (aY h.1))) (.inl ⟨rfl,upd_same⟩))
def Ext.writeD{a:Ad}(h:H a=aa (.dT kvs))(b:a∈ad):Ext ad H ad (upd H a (.dT kvs')):=
 Ext.writeG h b (λ_ z=>nomatch z) (λ_ z=>nomatch z) ⟨λ_=>⟨_,upd_same⟩,λ_=>⟨_,h⟩⟩
theorem StOk.writeD{a:Ad}(S:StOk K ad H st)(h:ad[i]?=aa a)(e:st[i]?=aa (ac,ds))(b:H a=aa (.dT kvs))(r:Ents K ad H kvs' es) :
  StOk K ad (upd H a (.dT kvs')) (st.set i (ac,es)):=
 S.writeG h e b (λ_ _ z=>nomatch z) (Ext.writeD b (aY h)) (.d (r.mono (Ext.writeD b (aY h))) rfl upd_same)
structure EnvOk(K:Fg)(ad:List Addr)(H:Hp)(O:L2.St)(U:Env):Prop where
 len:O.length=U.length
 at_:∀ (i:Nat) (d:D),U[i]?=aa (aa d)->∃ v,O[i]?=aa (aa v)/\Den K ad H v d
theorem EnvOk.mono(x:Ext ad H ad' H')(h:EnvOk K ad H O U):EnvOk K ad' H' O U:=⟨h.len,λi d e=>let ⟨v,e1,e2⟩:=h.at_ i d e;⟨v,e1,e2.mono x⟩⟩
theorem EnvOk.set{v:V}(h:EnvOk K ad H O U)(i:Nat)(r:Den K ad H v d):EnvOk K ad H (O.set i (aa v)) (Zf U i d):=by
 refine⟨by unfold Zf;rw[bJ,bJ];exact h.len,λj e q=>?_⟩
 unfold Zf at q;by_cases z:i=j
 .subst z
  by_cases a:i < U.length
  .rw[bT a]at q
   cases q;exact⟨v,by rw[bT (by rw[h.len];exact a)],r⟩
  .rw[dF (by rw[bJ];omega)]at q
   cases q
 .rw[bU z]at q
  obtain⟨w,c,b⟩:=h.at_ j e q;exact⟨w,by rw[bU z];exact c,b⟩
def Post(K:Fg)(ad:Li Ad)(H:Hp)(d:D)(a:Za)(Q:VK):Prop:=∀ v ad' H',Ext ad H ad' H'->StOk K ad' H' a->Den K ad' H' v d->Q v H'
def tE(K:Fg)(f:Env->Za->Res):TE:=λO H Q=>∃ ad U st d a,EnvOk K ad H O U/\StOk K ad H st/\f U st=aa (d,a)/\Post K ad H d a Q
def tT(K:Fg)(f:Env->Za->Res):TT:=λO H Q=>∃ ad U st k a,EnvOk K ad H O U/\StOk K ad H st/\f U st=aa (.bl k,a)/\∀ ad' H',Ext ad H ad' H'->StOk K ad' H' a->Q k H'
def tA(K:Fg)(f:Env->Za->Res):TA:=λO H Q=>∃ ad U st ds a,EnvOk K ad H O U/\StOk K ad H st/\f U st=aa (.tup ds,a)/\∀ vs ad' H',Ext ad H ad' H'->StOk K ad' H' a->Dens K ad' H' vs ds->Q vs H'
def rD(K:Fg)(f:D->D->Za->Res):R2:=λx y H Q=>∃ ad st c b d a,StOk K ad H st/\Den K ad H x c/\Den K ad H y b/\f c b st=aa (d,a)/\Post K ad H d a Q
noncomputable def spD(K:Fg)(g:Fn):Sp:=λvs H Q _=>∃ ad ds st d a,StOk K ad H st/\Dens K ad H vs ds/\g ds st=aa (d,a)/\Post K ad H d a Q
def tS(K:Fg)(f:Env->Za->Ot (Fl×Za)):TS:=λD O H=>∃ ad U st r a,EnvOk K ad H O U/\StOk K ad H st/\f U st=aa (r,a) /\
 match r with
 |.nx U'=>∀ b ad' H',Ext ad H ad' H'->StOk K ad' H' a->EnvOk K ad' H' b U'->D.nx b H'
 |.bk U'=>∀ b ad' H',Ext ad H ad' H'->StOk K ad' H' a->EnvOk K ad' H' b U'->D.bk b H'
 |.ct U'=>∀ b ad' H',Ext ad H ad' H'->StOk K ad' H' a->EnvOk K ad' H' b U'->D.ct b H'
 |.rt d=>Post K ad H d a D.rt
def Post.at{Q:VK}(p:Post K ad H d st Q)(S:StOk K ad H st){v:V}(h:Den K ad H v d):Q v H:=p v ad H (Ext.refl _ _) S h
def Post.later{Q:VK}(p:Post K ad H d st Q)(x:Ext ad H ad' H'):Post K ad' H' d st Q:=λv a b y S h=>p v a b (x.trans y) S h
variable [ClsTab]
variable{x:D}{st':Za}
variable{X:Cx}
section
variable{a b c:ay}{fa fb fc:Ev}{pos:Pos}
def Zff(O:L2.St)(H:Hp)(Q:VK)(h:tE K (XQ i) O H Q):tVar i O H Q:=by
 obtain⟨ad,U,st,d,st',E,S,e,p⟩:=h;unfold XQ at e;split at e
 .rename_i q
  obtain⟨v,b,a⟩:=E.at_ i _ q;cases e;exact⟨v,b,p.at S a⟩
 .exact Zb e
def QV{v:V}(hd:∀ ad H,Den K ad H v d)(O:L2.St)(H:Hp)(Q:VK)(h:tE K (evC d) O H Q):tC v O H Q:=by
 obtain⟨ad,U,st,a,st',E,S,e,p⟩:=h;cases e;exact p.at S (hd _ _)
def U7{g:D->D->Za->Res}(O:L2.St)(H:Hp)(Q:VK)(h:tE K (ZQ fa fb g) O H Q):tOp (rD K g) (tE K fa) (tE K fb) O H Q:=by
 obtain⟨ad,U,st,d,st',E,S,e,p⟩:=h;unfold ZQ at e;split at e
 .rename_i x b l
  split at e
  .rename_i y a k
   refine⟨ad,U,st,x,b,E,S,l,λs f u j q n=>⟨f,U,b,y,a,E.mono j,q,k,λr c t i o m=>?_⟩⟩
   exact⟨c,a,x,y,d,st',o,n.mono i,m,e,p.later (j.trans i)⟩
  .exact Zb e
 .exact Zb e
def rU1(K:Fg)(g:D->Za->Res):V->Hp->VK->Prop:=λx H Q=>∃ ad st a d st',StOk K ad H st/\Den K ad H x a/\g a st=aa (d,st')/\Post K ad H d st' Q
def Zc9{g:D->Za->Res}(O:L2.St)(H:Hp)(Q:VK)(h:tE K (Zo fa g) O H Q):tUn (rU1 K g) (tE K fa) O H Q:=by
 obtain⟨ad,U,st,d,st',E,S,e,p⟩:=h;unfold Zo at e;split at e
 .rename_i x a f
  exact⟨ad,U,st,x,a,E,S,f,λk b l c j i=>⟨b,a,x,d,st',j,i,e,p.later c⟩⟩
 .exact Zb e
def Zc8(O:L2.St)(H:Hp)(Q:Bool->Hp->Prop)(h:tT K fa O H Q):tE K fa O H λx d=>∃ c,x=.bl c/\Q c d:=by
 obtain⟨ad,U,st,k,st',E,S,e,p⟩:=h;exact⟨ad,U,st,.bl k,st',E,S,e,λv ad' H' x b a=>⟨k,a.ofBl,p ad' H' x b⟩⟩
def Yn{b c:Ev}{r:D×Za}(h:XM fc b c U st=aa r):∃ k a,fc U st=aa (.bl k,a)/\(if k=ac then b U a else c U a)=aa r:=by
 unfold XM at h;split at h
 .rename_i a q
  exact⟨ac,a,q,by rw[ao rfl];exact h⟩
 .rename_i a q
  exact⟨ae,a,q,by rw[aq Bf];exact h⟩
 .exact Zb h
def Zho(O:L2.St)(H:Hp)(Q:VK)(h:tE K (XM fc fa fb) O H Q):tIf (tT K fc) (tE K fa) (tE K fb) O H Q:=by
 obtain⟨ad,U,st,d,st',E,S,e,p⟩:=h;obtain⟨k,a,q,e⟩:=Yn e;refine⟨ad,U,st,k,a,E,S,q,λb g c f=>?_⟩
 cases k with
 |true=>
  rw[ao rfl]at e ⊢;exact⟨b,U,a,d,st',E.mono c,f,e,p.later c⟩
 |false=>
  rw[aq Bf]at e ⊢;exact⟨b,U,a,d,st',E.mono c,f,e,p.later c⟩
def ZcQ(O:L2.St)(H:Hp)(Q:VK)(h:tE K (XM fa fb (evC (.bl ae))) O H Q):tAndV (tE K fa) (tE K fb) O H Q:=by
 obtain⟨ad,U,st,d,st',E,S,e,p⟩:=h;obtain⟨k,a,q,e⟩:=Yn e;refine⟨ad,U,st,.bl k,a,E,S,q,λi c j b f g=>⟨k,g.ofBl,?_⟩⟩
 cases k with
 |true=>
  rw[ao rfl]at e ⊢;exact⟨c,U,a,d,st',E.mono b,f,e,p.later b⟩
 |false=>
  rw[aq Bf]at e ⊢;cases e;exact(p.later b).at f (.bl ae)
def Ze9(O:L2.St)(H:Hp)(Q:VK)(h:tE K (XM fa (evC (.bl ac)) fb) O H Q):tOrV (tE K fa) (tE K fb) O H Q:=by
 obtain⟨ad,U,st,d,st',E,S,e,p⟩:=h;obtain⟨k,a,q,e⟩:=Yn e;refine⟨ad,U,st,.bl k,a,E,S,q,λi c j b f g=>⟨k,g.ofBl,?_⟩⟩
 cases k with
 |true=>
  rw[ao rfl]at e ⊢;cases e;exact(p.later b).at f (.bl ac)
 |false=>
  rw[aq Bf]at e ⊢;exact⟨c,U,a,d,st',E.mono b,f,e,p.later b⟩
def ZcP(O:L2.St)(H:Hp)(Q:Bool->Hp->Prop)(h:tT K (XM fa fb (evC (.bl ae))) O H Q):tAnd (tT K fa) (tT K fb) O H Q:=by
 obtain⟨ad,U,st,d,st',E,S,e,p⟩:=h;obtain⟨k,a,q,e⟩:=Yn e;refine⟨ad,U,st,k,a,E,S,q,λb m c g=>?_⟩
 cases k with
 |true=>
  rw[ao rfl]at e ⊢;exact⟨b,U,a,d,st',E.mono c,g,e,λf l i j=>p f l (c.trans i) j⟩
 |false=>
  rw[aq Bf]at e ⊢;cases e;exact p b m c g
def Ze8(O:L2.St)(H:Hp)(Q:Bool->Hp->Prop)(h:tT K (XM fa (evC (.bl ac)) fb) O H Q):tOr (tT K fa) (tT K fb) O H Q:=by
 obtain⟨ad,U,st,d,st',E,S,e,p⟩:=h;obtain⟨k,a,q,e⟩:=Yn e;refine⟨ad,U,st,k,a,E,S,q,λb m c g=>?_⟩
 cases k with
 |true=>
  rw[ao rfl]at e ⊢;cases e;exact p b m c g
 |false=>
  rw[aq Bf]at e ⊢;exact⟨b,U,a,d,st',E.mono c,g,e,λf l i j=>p f l (c.trans i) j⟩
def Zc4(O:L2.St)(H:Hp)(Q:Bool->Hp->Prop)(h:tT K (Zo fa ZdA) O H Q):tNot (tT K fa) O H Q:=by
 obtain⟨ad,U,st,d,st',E,S,e,p⟩:=h;unfold Zo at e;split at e
 .rename_i x a f
  cases x with
  |bl k=>
   cases (show aa (D.bl (!k),a)=_ from e)
   exact⟨ad,U,st,k,_,E,S,f,λb i c g=>p b i c g⟩
  |_=>simp[ZdA]at e
 .exact Zb e
def Zc5(O:L2.St)(H:Hp)(Q:VK)(h:tE K (Zo fa ZdA) O H Q):tNotV (tE K fa) O H Q:=by
 obtain⟨ad,U,st,d,st',E,S,e,p⟩:=h;unfold Zo at e;split at e
 .rename_i x a c
  cases x with
  |bl k=>
   cases (show aa (D.bl (!k),a)=_ from e)
   exact⟨ad,U,st,.bl k,_,E,S,c,λj g l b i f=>⟨k,f.ofBl,(p.later b).at i (.bl _)⟩⟩
  |_=>simp[ZdA]at e
 .exact Zb e
def VU(O:L2.St)(H:Hp)(Q:Li V->Hp->Prop)(h:tA K (evC (.tup [])) O H Q):tNil O H Q:=by
 obtain⟨ad,U,st,d,st',E,S,e,p⟩:=h;cases e;exact p [] ad H (Ext.refl _ _) S .nil
def UB(O:L2.St)(H:Hp)(Q:Li V->Hp->Prop)(h:tA K (ZQ fa fb Uw) O H Q):tCons (tE K fa) (tA K fb) O H Q:=by
 obtain⟨ad,U,st,d,st',E,S,e,p⟩:=h;unfold ZQ at e;split at e
 .rename_i x a l
  split at e
  .rename_i y c k
   cases y with
   |tup b=>
    have e:(if b.length < 1000 then aa (D.tup (x :: b),c) else ab)=aa (D.tup d,st'):=e
    split at e
    .cases e
     refine⟨ad,U,st,_,a,E,S,l,λt g u j q n=>⟨g,U,a,b,_,E.mono j,q,k,λs f r i o m=>?_⟩⟩
     exact p _ f r (j.trans i) o (.cons (n.mono i) m)
    .cases e
   |_=>simp[Uw]at e
  .cases e
 .cases e
def Zfe(i:∀ U st ds st',fa U st=aa (.tup ds,st')->ds.length<=1000)(g:∀ U st d st',fa U st=aa (d,st')->∃ ds,d=.tup ds)(O:L2.St)(H:Hp)(Q:VK)(h:tE K fa O H Q):tTup (tA K fa) O H Q:=by
 obtain⟨ad,U,st,d,st',E,S,e,p⟩:=h;obtain⟨ds,rfl⟩:=g _ _ _ _ e;refine⟨ad,U,st,ds,st',E,S,e,λvs b k f j c=>⟨?_,λq a=>?_⟩⟩
 .rw[c.length]
  exact aM (i _ _ _ _ e) (by decide)
 .exact p _ b _ (f.trans (Ext.laid a)) (j.laid a) (.tup (.inl upd_same) (c.mono (Ext.laid a)))
def Ze6(k:∀ U st ds st',fa U st=aa (.tup ds,st')->ds.length<=1000)(O:L2.St)(H:Hp)(Q:VK)(h:tE K (Zo fa Zfn) O H Q):tLst (tA K fa) O H Q:=by
 obtain⟨ad,U,st,d,st',E,S,e,p⟩:=h;unfold Zo at e;split at e
 .rename_i x a c
  cases x with
  |tup ds=>
   cases (show aa (D.lst a.length,a++[(ac,ds)])=_ from e)
   refine⟨ad,U,st,ds,_,E,S,c,λvs b l j i g=>⟨?_,λq f=>?_⟩⟩
   .rw[g.length]
    exact aM (k _ _ _ _ c) (by decide)
   .refine p _ (b++[q]) _ (j.trans (Ext.push f)) (i.push f g) (.newL ?_)
    rw[<-i.len];exact Zu
  |_=>simp[Zfn]at e
 .exact Zb e
def QW{g:Fn}{a:Li V}{E:XK}(hd:∀ ad H,Dens K ad H a ds)(O:L2.St)(H:Hp)(Q:VK)(h:tE K (Zo fa (Vb g ds)) O H Q):tCall (spD K g) a E (tA K fa) O H Q:=by
 obtain⟨ad,U,st,d,st',E,S,e,p⟩:=h;unfold Zo at e;split at e
 .rename_i x i j
  cases x with
  |tup c=>exact⟨ad,U,st,c,_,E,S,j,λvs b m f l k=>⟨b,c++ds,_,d,st',l,k.append (hd _ _),e,p.later f⟩⟩
  |_=>simp[Vb]at e
 .exact Zb e
def rC(K:Fg)(g:Li D->Za->Res):Li V->Hp->VK->Prop:=λvs H Q=>∃ ad st ds d st',StOk K ad H st/\Dens K ad H vs ds/\g ds st=aa (d,st')/\Post K ad H d st' Q
noncomputable def on1(g:D->Za->Res):Li D->Za->Res
 |[x],st=>g x st
 |_,_=>ab
noncomputable def on2(g:D->D->Za->Res):Li D->Za->Res
 |[x,y],st=>g x y st
 |_,_=>ab
def XS{g:D->Za->Res}(O:L2.St)(H:Hp)(Q:VK)(h:tE K (Zo fa g) O H Q):tCB (rC K (on1 g)) (tCons (tE K fa) tNil) O H Q:=by
 obtain⟨ad,U,st,d,st',E,S,e,p⟩:=h;unfold Zo at e;split at e
 .rename_i x a f
  exact⟨ad,U,st,x,a,E,S,f,λk b l c j i=>⟨b,a,[x],d,st',j,.cons i .nil,e,p.later c⟩⟩
 .exact Zb e
def QU{g:D->D->Za->Res}(O:L2.St)(H:Hp)(Q:VK)(h:tE K (ZQ fa fb g) O H Q):tCB (rC K (on2 g)) (tCons (tE K fa) (tCons (tE K fb) tNil)) O H Q:=by
 obtain⟨ad,U,st,d,st',E,S,e,p⟩:=h;unfold ZQ at e;split at e
 .rename_i x b l
  split at e
  .rename_i y a k
   refine⟨ad,U,st,x,b,E,S,l,λs f u j q n=>⟨f,U,b,y,a,E.mono j,q,k,λr c t i o m=>?_⟩⟩
   exact⟨c,a,[x,y],d,st',o,.cons (n.mono i) (.cons m .nil),e,p.later (j.trans i)⟩
  .exact Zb e
 .exact Zb e
def tO(K:Fg)(f:Ev):TO:=λO H Q=>∃ ad U st d st',EnvOk K ad H O U/\StOk K ad H st/\f U st=aa (d,st') /\
 ((d=.non/\∀ ad' H',Ext ad H ad' H'->StOk K ad' H' st'->Q ab H')\/∃ i,d=.int i/\∀ ad' H',Ext ad H ad' H'->StOk K ad' H' st'->Q (aa i) H')
def rSl(K:Fg):V->Ot Int->Ot Int->Hp->VK->Prop:=λx b c H Q=>∃ ad st a d st',StOk K ad H st/\Den K ad H x a/\Yi a b c st=aa (d,st')/\Post K ad H d st' Q
noncomputable def part:D->Ot (Ot Int)
 |.non=>aa ab
 |.int i=>aa (aa i)
 |_=>ab
def Qs{l h:D}{r:D×Za}(e:Xb x l h st=aa r):∃ a b,part l=aa a/\part h=aa b/\Yi x a b st=aa r:=by
 unfold Xb at e;split at e
 .exact⟨_,_,rfl,rfl,e⟩
 .exact⟨_,_,rfl,rfl,e⟩
 .exact⟨_,_,rfl,rfl,e⟩
 .exact⟨_,_,rfl,rfl,e⟩
 .exact Zb e
def ZgM{f:Ev}{Q:Ot Int->Hp->Prop}{o:Ot Int}(E:EnvOk K ad H O U)(S:StOk K ad H st)(e:f U st=aa (d,st'))(a:part d=aa o)(q:∀ ad' H',Ext ad H ad' H'->StOk K ad' H' st'->Q o H'):tO K f O H Q:=by
 refine⟨ad,U,st,d,st',E,S,e,?_⟩;cases d with
 |non=>cases a;exact .inl ⟨rfl,q⟩
 |int i=>cases a;exact .inr ⟨i,rfl,q⟩
 |_=>exact Zb a
def ZbO(O:L2.St)(H:Hp)(Q:VK)(h:tE K (YQ fa fb fc Xb) O H Q):tSl (rSl K) (tE K fa) (tO K fb) (tO K fc) O H Q:=by
 obtain⟨ad,U,st,d,st',E,S,e,p⟩:=h;unfold YQ at e;split at e
 .rename_i x f m
  split at e
  .rename_i y j l
   split at e
   .rename_i z c k
    obtain⟨A,B,n,o,e⟩:=Qs e;refine⟨ad,U,st,x,f,E,S,m,λw s F b v q=>ZgM (E.mono b) v l n λr D a u=>ZgM (E.mono (b.trans a)) u k o λg C i t=>?_⟩
    exact⟨g,c,x,d,st',t,q.mono (a.trans i),e,p.later (b.trans (a.trans i))⟩
   .exact Zb e
  .exact Zb e
 .exact Zb e
def Ze7(O:L2.St)(H:Hp)(Q:Ot Int->Hp->Prop)(h:tO K (evC .non) O H Q):tNoPart O H Q:=by
 obtain⟨ad,U,st,d,st',E,S,e,p⟩:=h;cases e;rcases p with⟨_,p⟩|⟨i,z,_⟩
 .exact p ad H (Ext.refl _ _) S
 .cases z
end
variable [ClsTab]
def PostS(K:Fg)(ad:Li Ad)(H:Hp)(r:Fl)(st':Za)(D:Ends):Prop:=match r with
 |.nx U'=>∀ a ad' H',Ext ad H ad' H'->StOk K ad' H' st'->EnvOk K ad' H' a U'->D.nx a H'
 |.bk U'=>∀ a ad' H',Ext ad H ad' H'->StOk K ad' H' st'->EnvOk K ad' H' a U'->D.bk a H'
 |.ct U'=>∀ a ad' H',Ext ad H ad' H'->StOk K ad' H' st'->EnvOk K ad' H' a U'->D.ct a H'
 |.rt d=>Post K ad H d st' D.rt
theorem PostS.later{r:Fl}{D:Ends}(x:Ext ad H ad' H')(p:PostS K ad H r st D):PostS K ad' H' r st D:=by
 cases r with
 |nx U=>exact λa b c y S E=>p a b c (x.trans y) S E
 |bk U=>exact λa b c y S E=>p a b c (x.trans y) S E
 |ct U=>exact λa b c y S E=>p a b c (x.trans y) S E
 |rt d=>exact Post.later p x
def Z0{f:Ex}{D:Ends}{r:Fl}(E:EnvOk K ad H O U)(S:StOk K ad H st)(e:f U st=aa (r,st'))(p:PostS K ad H r st' D):tS K f D O H:=by
 refine⟨ad,U,st,r,st',E,S,e,?_⟩;cases r<;>exact p
def Z2{f:Ex}{D:Ends}(h:tS K f D O H):∃ ad U st r st',EnvOk K ad H O U/\StOk K ad H st/\f U st=aa (r,st')/\PostS K ad H r st' D:=by
 obtain⟨ad,U,st,r,st',E,S,e,p⟩:=h;refine⟨ad,U,st,r,st',E,S,e,?_⟩;cases r<;>exact p
variable{j l m:Nat}{E:Ends}{B:D->Env->Za->Ot (Fl×Za)}
section
variable{f g:Ex}{fe fi fk:Ev}
def QY(D:Ends)(O:L2.St)(H:Hp)(h:tS K (λU st=>aa (.nx U,st)) D O H):tNext D O H:=by
 obtain⟨ad,U,st,r,st',E,S,e,p⟩:=Z2 h;cases e;exact p O ad H (Ext.refl _ _) S E
def Ze0(D:Ends)(O:L2.St)(H:Hp)(h:tS K (λU st=>aa (.bk U,st)) D O H):tBreak D O H:=by
 obtain⟨ad,U,st,r,st',E,S,e,p⟩:=Z2 h;cases e;exact p O ad H (Ext.refl _ _) S E
def ZcS(D:Ends)(O:L2.St)(H:Hp)(h:tS K (λU st=>aa (.ct U,st)) D O H):tCont D O H:=by
 obtain⟨ad,U,st,r,st',E,S,e,p⟩:=Z2 h;cases e;exact p O ad H (Ext.refl _ _) S E
def Zfd(D:Ends)(O:L2.St)(H:Hp)(h:tS K (YR f g) D O H):tSeq (tS K f) (tS K g) D O H:=by
 obtain⟨ad,U,st,r,st',E,S,e,p⟩:=Z2 h;unfold YR at e;split at e
 .rename_i a i q
  exact Z0 E S q λb j m c k l=>Z0 l k e (p.later c)
 .rename_i q
  refine Z0 E S e ?_;cases r with
  |nx a=>exact ar e (q a st')
  |bk a=>exact p
  |ct a=>exact p
  |rt d=>exact p
def Zfc(D:Ends)(O:L2.St)(H:Hp)(h:tS K (J4 fe) D O H):tRet (tE K fe) D O H:=by
 obtain⟨ad,U,st,r,st',E,S,e,p⟩:=Z2 h;unfold J4 at e;split at e
 .rename_i d a q
  cases e;exact⟨ad,U,st,d,_,E,S,q,p⟩
 .exact Zb e
def U8(D:Ends)(O:L2.St)(H:Hp)(h:tS K (Ue i fe) D O H):tAsg (tE K fe) (gName i) D O H:=by
 obtain⟨ad,U,st,r,st',E,S,e,p⟩:=Z2 h;unfold Ue at e;split at e
 .rename_i d c q
  cases e;exact⟨ad,U,st,d,_,E,S,q,λv a j b g f=>p _ a j b g ((E.mono b).set i f)⟩
 .exact Zb e
def Zc6(D:Ends)(O:L2.St)(H:Hp)(h:tS K (Jh i j fe) D O H):tAsg (tE K fe) (gTup K 2 (gCons (gName i) (gCons (gName j) gNil))) D O H:=by
 obtain⟨ad,U,st,r,st',E,S,e,p⟩:=Z2 h;unfold Jh at e;split at e
 .rename_i x y f q
  cases e;refine⟨ad,U,st,_,_,E,S,q,λv c m d l b=>?_⟩
  obtain⟨a,vs,rfl,g,rv⟩:=b.ofTup;cases rv with
  |cons b rv=>
   cases rv with
   |cons k rv=>
    cases rv;exact⟨a,_,rfl,(g).sq,rfl,_,_,rfl,_,_,rfl,rfl,p _ c m d l (((E.mono d).set i b).set j k)⟩
 .exact Zb e
def Zc7(D:Ends)(O:L2.St)(H:Hp)(h:tS K (Zd3 i j l fe) D O H):tAsg (tE K fe) (gTup K 3 (gCons (gName i) (gCons (gName j) (gCons (gName l) gNil)))) D O H:=by
 obtain⟨ad,U,st,r,st',E,S,e,p⟩:=Z2 h;unfold Zd3 at e;split at e
 .rename_i x y z f q
  cases e;refine⟨ad,U,st,_,_,E,S,q,λv c o d n b=>?_⟩
  obtain⟨a,vs,rfl,g,rv⟩:=b.ofTup;cases rv with
  |cons b rv=>
   cases rv with
   |cons m rv=>
    cases rv with
    |cons k rv=>
     cases rv;exact⟨a,_,rfl,(g).sq,rfl,_,_,rfl,_,_,rfl,_,_,rfl,rfl,p _ c o d n ((((E.mono d).set i b).set j m).set l k)⟩
 .exact Zb e
def ZeY(D:Ends)(O:L2.St)(H:Hp)(h:tS K (Zcb fe) D O H):tDrop (tE K fe) D O H:=by
 obtain⟨ad,U,st,r,st',E,S,e,p⟩:=Z2 h;unfold Zcb at e;split at e
 .rename_i d c q
  cases e;exact⟨ad,U,st,d,_,E,S,q,λv a g b f i=>p _ a g b f (E.mono b)⟩
 .exact Zb e
def Ze5(D:Ends)(O:L2.St)(H:Hp)(h:tS K (YV fe f g) D O H):tIfS (tT K fe) (tS K f) (tS K g) D O H:=by
 obtain⟨ad,U,st,r,st',E,S,e,p⟩:=Z2 h;unfold YV at e;split at e
 .rename_i a q
  refine⟨ad,U,st,ac,a,E,S,q,λc i b d=>?_⟩
  dsimp only;rw[ao rfl];exact Z0 (E.mono b) d e (p.later b)
 .rename_i a q
  refine⟨ad,U,st,ae,a,E,S,q,λc i b d=>?_⟩
  dsimp only;rw[aq Bf];exact Z0 (E.mono b) d e (p.later b)
 .exact Zb e
def Qw{a:Ad}(S:StOk K ad H st)(h:LA ad H i a):∃ b ds,st[i]?=aa (b,ds):=by
 have c:i < st.length:=by rw[<-S.len];exact(bL.mp h.1).1
 exact⟨st[i].1,st[i].2,by rw[Lg c]⟩
def Zao{c:Za}{a:Ad}{v:V}(S:StOk K ad H st)(h:LA ad H i a)(hd:Den K ad H v d)(e:Zcg i d st=aa c) :
  ∃ b,H a=aa (.lst b)/\b.length < ax/\Ext ad H ad (upd H a (.lst (b++[v])))/\StOk K ad (upd H a (.lst (b++[v]))) c:=by
 unfold Zcg at e;split at e
 .rename_i ds q
  split at e
  .rename_i g
   cases e;obtain⟨b,r,f⟩:=S.listM h q;refine⟨b,f,?_,Ext.write f (aY h.1),S.write h q f (r.append (.cons hd .nil))⟩;rw[r.length];exact aU g (by decide)
  .exact Zb e
 .exact Zb e
def ZeZ(D:Ends)(O:L2.St)(H:Hp)(h:tS K (Zci i fe) D O H):tDrop (tBM K "list" rAppend (tVar i) (tCons (tE K fe) tNil)) D O H:=by
 obtain⟨ad,U,st,r,st',E,S,e,p⟩:=Z2 h;unfold Zci at e;split at e
 .rename_i a s
  split at e
  .rename_i d f q
   split at e
   .rename_i n o
    cases e;obtain⟨v,z,y⟩:=E.at_ i _ s;obtain⟨l,rfl,g⟩:=y.ofLst;obtain⟨b,ds,x⟩:=Qw S g;obtain⟨m,_,sq⟩:=S.list g x;refine⟨_,z,.inl ⟨rfl,m,sq⟩,ad,U,st,d,f,E,S,q,λw j F c C A=>?_⟩
    obtain⟨ys,u,t,k,B⟩:=Zao C (g.mono c) A o;exact⟨l,ys,w,rfl,rfl,u,t,p _ j _ (c.trans k) B (E.mono (c.trans k))⟩
   .exact Zb e
  .exact Zb e
 .exact Zb e
def ZcR{o:Ev}(D:Ends)(O:L2.St)(H:Hp)(h:tS K (Zch o fe) D O H):tDrop (tBM K "list" rAppend (tE K o) (tCons (tE K fe) tNil)) D O H:=by
 obtain⟨ad,U,st,r,st',E,S,e,p⟩:=Z2 h;unfold Zch at e;split at e
 .rename_i a c x
  split at e
  .rename_i d i u
   split at e
   .rename_i s t
    cases e;refine⟨ad,U,st,.lst a,c,E,S,x,λv m J g S0 C=>?_⟩
    obtain⟨l,rfl,j⟩:=C.ofLst;obtain⟨b,ds,A⟩:=Qw S0 j;obtain⟨q,_,sq⟩:=S0.list j A;refine⟨.inl ⟨rfl,q,sq⟩,m,U,c,d,i,E.mono g,S0,u,λw k I f G B=>?_⟩
    obtain⟨ys,z,y,n,F⟩:=Zao G (j.mono f) B t;exact⟨l,ys,w,rfl,rfl,z,y,p _ k _ ((g.trans f).trans n) F (E.mono ((g.trans f).trans n))⟩
   .exact Zb e
  .exact Zb e
 .exact Zb e
def Ze1(D:Ends)(O:L2.St)(H:Hp)(h:tS K (ZcH i fe) D O H):tDrop (tBM K "list" rExtend (tVar i) (tCons (tE K fe) tNil)) D O H:=by
 obtain⟨ad,U,st,r,st',E,S,e,p⟩:=Z2 h;unfold ZcH at e;split at e
 .rename_i a C
  split at e
  .rename_i b g B
   split at e
   .rename_i A d
    cases e;obtain⟨v,M,L⟩:=E.at_ i _ C;obtain⟨l,rfl,n⟩:=L.ofLst;obtain⟨Q,ds,I⟩:=Qw S n;obtain⟨z,_,sq⟩:=S.list n I;refine⟨_,M,.inl ⟨rfl,z,sq⟩,ad,U,st,.lst b,g,E,S,B,λw o R f q N=>?_⟩
    obtain⟨m,rfl,G⟩:=N.ofLst;unfold Zhk at d;split at d
    .rename_i P es y J
     split at d
     .rename_i F
      cases d;have c:=n.mono f;obtain⟨ys,x,k⟩:=q.listM c y;obtain⟨s,u,j⟩:=q.listM G J;have t:=Ext.write (ys:=ys++s) k (aY c.1);refine⟨l,m,ys,s,rfl,rfl,k,j,?_,p _ o _ (f.trans t) (q.write c y k (x.append u)) (E.mono (f.trans t))⟩;rw[x.length,u.length];exact aM F (by decide)
     .exact Zb d
    .exact Zb d
   .exact Zb e
  .exact Zb e
 .exact Zb e
def Zfb(D:Ends)(O:L2.St)(H:Hp)(h:tS K (JZ i fk fe) D O H):tAsg (tE K fe) (gSub (tVar i) (tE K fk) rSetL) D O H:=by
 obtain⟨ad,U,st,r,st',E,S,e,p⟩:=Z2 h;unfold JZ at e;split at e
 .rename_i d g F
  split at e
  .rename_i a G
   split at e
   .rename_i j o C
    split at e
    .rename_i A f
     cases e;obtain⟨v,L,J⟩:=E.at_ i _ G;obtain⟨l,rfl,I⟩:=J.ofLst;refine⟨ad,U,st,d,g,E,S,F,λw s R n P N=>⟨_,L,s,U,g,.int j,o,E.mono n,P,C,λQ c z m y M=>?_⟩⟩
     cases M.ofInt;unfold VA at f;split at f
     .rename_i ds x
      split at f
      .rename_i k B
       cases f;have b:=I.mono (n.trans m);obtain⟨t,r,q⟩:=y.listM b x;have u:Ext c z c (upd z l (.lst (t.set k w))):=Ext.write q (aY b.1);refine⟨l,t,j,k,rfl,rfl,q,?_,p _ c _ (n.trans (m.trans u)) (y.write b x q (r.set (N.mono m) k)) (E.mono (n.trans (m.trans u)))⟩;rw[r.length];exact B
      .exact Zb f
     .exact Zb f
    .exact Zb e
   .exact Zb e
  .exact Zb e
 .exact Zb e
def JP(a b i j:Int):aj (([.inl a,.inl b]:Li Key)=[.inl i,.inl j])=(aj (a=i)&&aj (b=j)):=by
 rw[cC];simp
def ZcE{i j:Int}(r:Ents K ad H kvs ds):(kvs.any λa=>aj (a.1=[.inl i,.inl j]))=ds.any (isK i j):=by
 induction r with
 |nil=>rfl
 |cons h _ b=>rw[cG,cG,b,JP];rfl
def QP{i j:Int}{v:V}(hd:Den K ad H v d)(r:Ents K ad H kvs ds):Ents K ad H (putK kvs [.inl i,.inl j] v) (VQ ds i j d):=by
 unfold putK VQ;rw[ZcE r];by_cases e:ds.any (isK i j)=ac
 .rw[ao e,ao e]
  clear e
  induction r with
  |nil=>exact .nil
  |@cons a b w c _ _ h _ f=>
   rw[aQ,aQ];have z:=JP a b i j;by_cases q:(aj (a=i)&&aj (b=j))=ac
   .rw[ao (am (z.trans q)),ao (show isK i j (.tup [.int a,.int b,c])=ac from q)]
    rw[Ba,bC,bC]at q;rw[q.1,q.2];exact .cons hd f
   .rw[aq (λt=>q (z.symm.trans (aK t))),aq (show ¬isK i j (.tup [.int a,.int b,c])=ac from q)]
    exact .cons h f
 .rw[aq e,aq e]
  clear e
  induction r with
  |nil=>exact .cons hd .nil
  |cons h _ f=>exact .cons h f
def X2{i j:Int}(r:Ents K ad H kvs ds):(∃ v d,valV kvs [.inl i,.inl j]=aa v/\Yr ds i j=aa d/\Den K ad H v d)\/(valV kvs [.inl i,.inl j]=ab/\Yr ds i j=ab):=by
 induction r with
 |nil=>exact .inr ⟨rfl,rfl⟩
 |@cons a b w c kvs ds h _ e=>
  have z:=JP a b i j;by_cases q:(aj (a=i)&&aj (b=j))=ac
  .exact .inl ⟨w,c,valV_pos (am (z.trans q)),by unfold Yr;rw[List.find?_cons_of_pos (show isK i j (.tup [.int a,.int b,c])=ac from q)];rfl,h⟩
  .have g:valV ((([.inl a,.inl b]:Li Key),w) :: kvs) [.inl i,.inl j]=valV kvs [.inl i,.inl j]:=valV_neg λt=>q (z.symm.trans (aK t))
   have f:Yr (.tup [.int a,.int b,c] :: ds) i j=Yr ds i j:=by unfold Yr;rw[List.find?_cons_of_neg (show ¬isK i j (.tup [.int a,.int b,c])=ac from q)]
   rw[g,f];exact e
def ZbL{i j:Int}(r:Ents K ad H kvs ds):(valV kvs [.inl i,.inl j]).isSome=(Yr ds i j).isSome:=by
 rcases X2 r with⟨w,d,b,a,c⟩|⟨b,a⟩
 .rw[b,a];rfl
 .rw[b,a];rfl
def Vc(r:Ents K ad H kvs ds):kvs.length=ds.length:=by
 induction r with
 |nil=>rfl
 |cons _ _ a=>rw[aO,aO,a]
def ZcU(O:L2.St)(H:Hp)(Q:VK)(h:tE K Zgo O H Q):tDNewT K O H Q:=by
 obtain⟨ad,U,st,d,st',E,S,e,p⟩:=h;cases e;intro q a b;exact p _ (ad++[q]) _ (S.extD a b) (S.pushD a b) (.dic (by rw[<-S.len];exact Zu) ⟨_,upd_same⟩)
def ZcV{I G:Ev}(D:Ends)(O:L2.St)(H:Hp)(h:tS K (ZcC i I G fe) D O H):tAsg (tE K fe) (gSub (tVar i) (tTup (tCons (tE K I) (tCons (tE K G) tNil))) rSetT) D O H:=by
 obtain⟨ad,U,st,r,st',E,S,e,p⟩:=Z2 h;unfold ZcC at e;split at e
 .rename_i d g N
  split at e
  .rename_i a P
   split at e
   .rename_i x f M
    split at e
    .rename_i y c L
     split at e
     .rename_i ds C
      split at e
      .rename_i Q
       cases e;obtain⟨v,T,R⟩:=E.at_ i _ P;obtain⟨l,rfl,j,n⟩:=R.ofDic;refine⟨ad,U,st,d,g,E,S,N,λw u H1 o S1 Y=>⟨_,T,u,U,g,.int x,f,E.mono o,S1,M,λw2 s H2 m S2 W=>⟨s,U,f,.int y,c,E.mono (o.trans m),S2,L,λw3 b k B Z V=>⟨show 2<=ax by decide,λt F=>?_⟩⟩⟩⟩
       cases W.ofInt;cases V.ofInt;have A:Ext b k b (upd k t (.tup [.int x,.int y])):=Ext.laid F;have X:=o.trans (m.trans (B.trans A));have J:StOk K b (upd k t (.tup [.int x,.int y])) c:=Z.laid F;obtain⟨kvs,r,q,_⟩:=J.dict (X.pre _ _ j) ((X.kd _ _ j).mp n) C;have z:Ext b _ b (upd (upd k t (.tup [.int x,.int y])) l (.dT (putK kvs [.inl x,.inl y] w))):=Ext.writeD q (aY (X.pre _ _ j))
       exact⟨l,t,kvs,[.inl x,.inl y],rfl,rfl,q,upd_same,by rw[Vc r];exact aU Q (by decide),p _ b _ (X.trans z) (J.writeD (X.pre _ _ j) C q (QP (Y.mono (m.trans (B.trans A))) r)) (E.mono (X.trans z))⟩
      .exact Zb e
     .exact Zb e
    .exact Zb e
   .exact Zb e
  .exact Zb e
 .exact Zb e
def Left(K:Fg)(b:D->Env->Za->Ot (Fl×Za))(E:Ends)(a:Li D)(O:L2.St)(H:Hp):Prop:=∃ ad U st r st',EnvOk K ad H O U/\StOk K ad H st/\Zh b a U st=aa (r,st')/\PostS K ad H r st' E
def Left.turn{b:Ex}{n:Li D}{H:Hp}{v:V}(t:∀ ad H,Den K ad H v x)(h:Left K (λd U s=>b (Zf U i d) s) E (x :: n) O H) :
  tS K b { E with nx:=Left K (λd U s=>b (Zf U i d) s) E n,ct:=Left K (λd U s=>b (Zf U i d) s) E n,bk:=E.nx } (O.set i (aa v)) H:=by
 obtain⟨ad,U,st,r,st',En,S,e,p⟩:=h;unfold Zh at e;have g:=En.set i (t ad H);split at e
 .rename_i f a q
  exact Z0 g S q λj c o k l m=>⟨c,f,a,r,st',m,l,e,p.later k⟩
 .rename_i f a q
  exact Z0 g S q λj c o k l m=>⟨c,f,a,r,st',m,l,e,p.later k⟩
 .rename_i f a q
  cases e;exact Z0 g S q λj c o k l m=>p j c o k l m
 .rename_i d a q
  cases e;exact Z0 g S q p
 .exact Zb e
def Left.turnD{b:Ex}{n:Li D}{U:Env}{r:Fl}{v:V}(En:EnvOk K ad H O U)(S:StOk K ad H st)(t:Den K ad H v x)(e:Zh (λd U s=>b (Zf U i d) s) (x :: n) U st=aa (r,st'))(p:PostS K ad H r st' E)(L:L2.St->Hp->Prop)(o:∀ c a h g f,Ext ad H a h->StOk K a h f->EnvOk K a h c g->Zh (λd U s=>b (Zf U i d) s) n g f=aa (r,st')->L c h) :
  tS K b { E with nx:=L,ct:=L,bk:=E.nx } (O.set i (aa v)) H:=by
 unfold Zh at e;have j:=En.set i t;split at e
 .rename_i g f q
  exact Z0 j S q λc a h k l m=>o c a h g f k l m e
 .rename_i g f q
  exact Z0 j S q λc a h k l m=>o c a h g f k l m e
 .rename_i g f q
  cases e;exact Z0 j S q λc a h k l m=>p c a h k l m
 .rename_i d f q
  cases e;exact Z0 j S q p
 .exact Zb e
def Left.done{b:D->Env->Za->Ot (Fl×Za)}(h:Left K b E [] O H):E.nx O H:=by
 obtain⟨ad,U,st,r,st',En,S,e,p⟩:=h;cases e;exact p O ad H (Ext.refl _ _) S En
def J2(n k:Nat)(h:k < n):((ag n).map λ(j:Nat)=>D.int (j:Int)).drop k=D.int (k:Int) :: ((ag n).map λ(j:Nat)=>D.int (j:Int)).drop (k+1):=by
 rw[bR (by simpa using h)]
 simp
def Zc1(E:Ends)(O:L2.St)(H:Hp)(h:tS K (VT i ac fi f) E O H):tFor (iRng1 (tCons (tE K fi) tNil)) (gName i) (tS K f) E O H:=by
 obtain⟨ad,U,st,r,st',En,S,e,p⟩:=Z2 h;unfold VT at e;split at e
 .rename_i x a m
  cases x with
  |int n=>
   have e:(match (if n < 2 ^ 62/\-(2 ^ 62)<=n then aa ((ag n.toNat).map λ(k:Nat)=>D.int (k:Int)) else ab) with
    |some l=>Zh (λd U s=>f (Zf U i d) s) l U a
    |none=>ab)=aa (r,st'):=e
   by_cases b:n < 2 ^ 62/\-(2 ^ 62)<=n
   .rw[ao b]at e
    refine⟨ad,U,st,.int n,a,En,S,m,λv c u j t q=>⟨n,by rw[q.ofInt],b.2,b.1,?_⟩⟩
    refine for_range (λk g H'=>Left K (λd U s=>f (Zf U i d) s) E (((ag n.toNat).map λ(k:Nat)=>D.int (k:Int)).drop k) g H') ⟨c,U,a,r,st',En.mono j,t,e,p.later j⟩ (λk g H' o L=>?_) λg H' L=>?_
    .rw[J2 _ _ o]at L
     have z:(0:Int)+(k:Int)=(k:Int):=Int.zero_add _;rw[z];exact L.turn λ_ _=>.int _
    .rw[List.drop_eq_nil_of_le (by simp)]at L
     exact L.done
   .rw[aq b]at e
    cases e
  |_=>simp[VY]at e
 .exact Zb e
def ZaD{i:Int}(h:Zhs d=aa i):d=.int i:=by cases d<;>first | (cases h;done) | (cases h;rfl)
def Zgg(K:Fg)(b:D->Env->Za->Ot (Fl×Za))(E:Ends)(a:Ad)(vs:Li V)(c:Li D)(k:Nat)(O:L2.St)(H:Hp):Prop:=
 ∃ ad U st r st',EnvOk K ad H O U/\StOk K ad H st/\(TupAt K H a vs/\Dens K ad H vs c)/\Zh b (c.drop k) U st=aa (r,st')/\PostS K ad H r st' E
def Zc2(E:Ends)(O:L2.St)(H:Hp){U:Env}{g:Za}{r:Fl}{xs:Li D}(En:EnvOk K ad H O U)(S:StOk K ad H st)(R:fi U st=aa (.tup xs,g))(e:Zh (λd U s=>f (Zf U i d) s) xs U g=aa (r,st'))(p:PostS K ad H r st' E):tFor (iTup K (tE K fi)) (gName i) (tS K f) E O H:=by
 refine⟨ad,U,st,.tup xs,g,En,S,R,λv F H1 I Z X=>?_⟩
 obtain⟨a,vs,rfl,M,rv⟩:=X.ofTup;refine⟨a,rfl,⟨vs,(M).sq⟩,?_⟩;refine for_tup (xs:=vs) (λk u H'=>Zgg K (λd U s=>f (Zf U i d) s) E a vs xs k u H') ⟨F,U,g,r,st',En.mono I,Z,⟨M,rv⟩,by rw[bX];exact e,p.later I⟩ (λk u H' _ L=>?_) (λk y u H' J L=>?_) λu H' L=>?_
 .obtain⟨_,_,_,_,_,_,_,⟨h,_⟩,_⟩:=L
  exact(h).sq
 .obtain⟨q,l,m,B,b,j,G,⟨N,c⟩,o,t⟩:=L
  have n:k < xs.length:=by rw[<-c.length];exact(bL.mp J).1
  have T:xs[k]?=aa xs[k]:=Lg n;obtain⟨w,P,W⟩:=c.get T;rw[J]at P;cases P
  rw[bR n]at o;exact Left.turnD j G W o t _ λQ C H3 x A z Y E3 V=>⟨C,x,A,B,b,E3,Y,⟨N.mono z,c.mono z⟩,V,t.later z⟩
 .obtain⟨q,l,m,B,b,j,G,⟨N,c⟩,o,t⟩:=L
  rw[c.length,List.drop_length]at o;exact Left.done ⟨q,l,m,B,b,j,G,o,t⟩
def QX{G:TG}(E:Ends)(O:L2.St)(H:Hp){ad:Li Ad}{U:Env}{st i:Za}{r:Fl}{bb:Bool}{X:Li D}(En:EnvOk K ad H O U)(S:StOk K ad H st)(q1:fi U st=aa (.lst l,i))(q2:i[l]?=aa (bb,X))(e:ZA B l X.length 0 U i=aa (r,st'))(p:PostS K ad H r st' E)(R:∀ (x:D) (v:V) (O:L2.St) (H:Hp) (ad:Li Ad) (U:Env) (st i:Za) (r1:Fl) (E':Ends),EnvOk K ad H O U->StOk K ad H st->Den K ad H v x->B x U st=aa (r1,i)->PostS K ad H r1 i E'->G v O H λW H2=>tS K f E' W H2) :
  tFor (iList K (tE K fi)) G (tS K f) E O H:=by
 refine⟨ad,U,st,.lst l,i,En,S,q1,λv ad1 H1 x1 S1 d1=>?_⟩
 obtain⟨a,rfl,ha⟩:=d1.ofLst;obtain⟨vs,rv,sq⟩:=S1.list ha q2;refine⟨a,rfl,⟨vs,sq⟩,?_⟩;refine⟨λk m O' H'=>∃ b c g,(EnvOk K b H' O' c/\StOk K b H' g/\LA b H' l a)/\ZA B l m k c g=aa (r,st')/\PostS K b H' r st' E,⟨X.length,ad1,U,i,⟨En.mono x1,S1,ha⟩,e,p.later x1⟩,?_⟩
 rintro k m O' H' ⟨b,c,g,⟨s,C,t⟩,n,M⟩
 obtain⟨b2,ys,N⟩:=Qw C t;obtain⟨Y,L,A⟩:=C.list t N;have stop:ys.length<=k->ZA B l m k c g=aa (.nx c,g):=λF=>by
  cases m with
  |zero=>unfold ZA;simp only[N];rw[ao F]
  |succ m=>unfold ZA;simp only[N,dF F]
 by_cases F:ys.length<=k
 .refine .inl ⟨⟨Y,A,by rw[L.length];exact F⟩,?_⟩
  rw[stop F]at n;cases n;exact M O' b H' (Ext.refl _ _) C s
 .have hk':k < ys.length:=by omega
  have hy:ys[k]?=aa ys[k]:=Lg hk';obtain⟨w,ew,T⟩:=L.get hy;cases m with
  |zero=>
   unfold ZA at n;simp only[N]at n;rw[aq F]at n;cases n
  |succ m=>
   unfold ZA at n;simp only[N,hy]at n;refine .inr ⟨⟨Y,w,A,ew⟩,λJ I=>∃ u j h,(EnvOk K u I J j/\StOk K u I h/\LA u I l a)/\ZA B l m (k+1) j h=aa (r,st')/\PostS K u I r st' E,λJ I h3=>⟨m,dQ m,h3⟩,λx I Z=>?_⟩
   obtain⟨rfl,Z⟩:=Z;have ex:=Z Y A;rw[ew]at ex;cases ex
   split at n
   .rename_i j h q
    exact R _ _ _ _ b c g _ _ _ s C T q λy o H4 z P Q=>⟨o,j,h,⟨Q,P,t.mono z⟩,n,M.later z⟩
   .rename_i j h q
    exact R _ _ _ _ b c g _ _ _ s C T q λy o H4 z P Q=>⟨o,j,h,⟨Q,P,t.mono z⟩,n,M.later z⟩
   .rename_i j h q
    cases n;exact R _ _ _ _ b c g _ _ _ s C T q λy o H4 z P Q=>M y o H4 z P Q
   .rename_i d h q
    cases n;exact R _ _ _ _ b c g _ _ _ s C T q M
   .exact Zb n
def ZcZ(E:Ends)(O:L2.St)(H:Hp)(h:tS K (VT i ae fi f) E O H):tFor (iTup K (tE K fi)) (gName i) (tS K f) E O H\/tFor (iList K (tE K fi)) (gName i) (tS K f) E O H:=by
 obtain⟨ad,U,st,r,st',En,S,e,p⟩:=Z2 h;unfold VT at e;split at e
 .rename_i x a c
  cases x with
  |tup b=>exact .inl (Zc2 E O H En S c e p)
  |lst l=>
   have e:(match a[l]? with
    |some (_,b)=>ZA (λd U s=>f (Zf U i d) s) l b.length 0 U a
    |none=>ab)=aa (r,st'):=e
   split at e
   .rename_i o b g
    refine .inr (QX E O H En S c g e p λx v O H ad U st a n q En S m k j=>?_)
    exact Z0 (En.set i m) S k j
   .exact Zb e
  |_=>simp[VY]at e
 .exact Zb e
def UC{G:TG}(E:Ends)(O:L2.St)(H:Hp){ad:Li Ad}{U:Env}{st b:Za}{r:Fl}{xs:Li D}(En:EnvOk K ad H O U)(S:StOk K ad H st)(q1:fi U st=aa (.tup xs,b))(e:Zh B xs U b=aa (r,st'))(p:PostS K ad H r st' E)(N:∀ (x:D) (v:V) (O:L2.St) (H:Hp) (ad:Li Ad) (U:Env) (st b:Za) (Z:Fl) (E':Ends),EnvOk K ad H O U->StOk K ad H st->Den K ad H v x->B x U st=aa (Z,b)->PostS K ad H Z b E'->G v O H λR H2=>tS K f E' R H2) :
  tFor (iTup K (tE K fi)) G (tS K f) E O H:=by
 refine⟨ad,U,st,.tup xs,b,En,S,q1,λv W H1 Y S1 d1=>?_⟩
 obtain⟨a,vs,rfl,ha,rv⟩:=d1.ofTup;refine⟨a,rfl,⟨vs,(ha).sq⟩,?_⟩;refine for_tup (xs:=vs) (λk Q H'=>Zgg K B E a vs xs k Q H') ⟨W,U,b,r,st',En.mono Y,S1,⟨ha,rv⟩,by rw[bX];exact e,p.later Y⟩ (λk Q H' _ L=>?_) (λk y Q H' hk L=>?_) λQ H' L=>?_
 .obtain⟨_,_,_,_,_,_,_,⟨h,_⟩,_⟩:=L
  exact(h).sq
 .obtain⟨l,g,i,M,c,m,C,⟨T,j⟩,o,A⟩:=L
  have F:k < xs.length:=by rw[<-j.length];exact(bL.mp hk).1
  have hx:xs[k]?=aa xs[k]:=Lg F;obtain⟨w,ew,P⟩:=j.get hx;rw[hk]at ew;cases ew
  rw[bR F]at o;unfold Zh at o;split at o
  .rename_i t n q
   exact N _ _ _ _ l g i _ _ _ m C P q λz s X u I J=>⟨s,t,n,M,c,J,I,⟨T.mono u,j.mono u⟩,o,A.later u⟩
  .rename_i t n q
   exact N _ _ _ _ l g i _ _ _ m C P q λz s X u I J=>⟨s,t,n,M,c,J,I,⟨T.mono u,j.mono u⟩,o,A.later u⟩
  .rename_i t n q
   cases o;exact N _ _ _ _ l g i _ _ _ m C P q λz s X u I J=>A z s X u I J
  .rename_i d n q
   cases o;exact N _ _ _ _ l g i _ _ _ m C P q A
  .exact Zb o
 .obtain⟨l,g,i,M,c,m,C,⟨T,j⟩,o,A⟩:=L
  rw[j.length,List.drop_length]at o;exact Left.done ⟨l,g,i,M,c,m,C,o,A⟩
def ZcX(E:Ends)(O:L2.St)(H:Hp)(h:tS K (ZcL i j l fi f) E O H):tFor (iTup K (tE K fi)) (gTup K 3 (gCons (gName i) (gCons (gName j) (gCons (gName l) gNil)))) (tS K f) E O H:=by
 obtain⟨ad,U,st,r,st',En,S,e,p⟩:=Z2 h;unfold ZcL at e;split at e
 .rename_i s c d
  refine UC E O H En S d e p λx v O H ad U st c t w En S m b g=>?_
  unfold Zed at b;split at b
  .rename_i y z u
   obtain⟨a,vs,rfl,k,rv⟩:=m.ofTup;cases rv with
   |cons q rv=>
    cases rv with
    |cons o rv=>
     cases rv with
     |cons n rv=>
      cases rv;exact⟨a,_,rfl,(k).sq,rfl,_,_,rfl,_,_,rfl,_,_,rfl,rfl,Z0 (((En.set i q).set j o).set l n) S b g⟩
  .exact Zb b
 .exact Zb e
def ZcW(E:Ends)(O:L2.St)(H:Hp)(h:tS K (ZcK i j fi f) E O H):tFor (iTup K (tE K fi)) (gTup K 2 (gCons (gName i) (gCons (gName j) gNil))) (tS K f) E O H\/tFor (iList K (tE K fi)) (gTup K 2 (gCons (gName i) (gCons (gName j) gNil))) (tS K f) E O H:=by
 obtain⟨ad,U,st,r,st',En,S,e,p⟩:=Z2 h;unfold ZcK at e;split at e
 .rename_i l c d
  split at e
  .rename_i w q t
   right
   refine QX E O H En S d t e p λx v O H ad U st c s u En S m b g=>?_
   unfold Xi at b;split at b
   .rename_i y z
    obtain⟨a,vs,rfl,k,rv⟩:=m.ofTup;cases rv with
    |cons o rv=>
     cases rv with
     |cons n rv=>
      cases rv;exact⟨a,_,rfl,(k).sq,rfl,_,_,rfl,_,_,rfl,rfl,Z0 ((En.set i o).set j n) S b g⟩
   .exact Zb b
  .exact Zb e
 .rename_i q c d
  left
  refine UC E O H En S d e p λx v O H ad U st c s u En S m b g=>?_
  unfold Xi at b;split at b
  .rename_i y z
   obtain⟨a,vs,rfl,k,rv⟩:=m.ofTup;cases rv with
   |cons o rv=>
    cases rv with
    |cons n rv=>
     cases rv;exact⟨a,_,rfl,(k).sq,rfl,_,_,rfl,_,_,rfl,rfl,Z0 ((En.set i o).set j n) S b g⟩
  .exact Zb b
 .exact Zb e
def ZbP(E:Ends)(O:L2.St)(H:Hp)(h:tS K (YU fe f m) E O H):tWhile (tT K fe) (tS K f) E O H:=by
 obtain⟨ad,U,st,r,st',En,S,e,p⟩:=Z2 h;refine⟨λm O H=>∃ ad U st,(EnvOk K ad H O U/\StOk K ad H st)/\YU fe f m U st=aa (r,st')/\PostS K ad H r st' E,⟨m,ad,U,st,⟨En,S⟩,e,p⟩,?_⟩
 rintro m O H ⟨ad,U,st,⟨En,S⟩,e,p⟩
 cases m with
 |zero=>exact Zb e
 |succ m=>
  have e:YV fe (Y0 f (YU fe f m)) (λU st=>aa (.nx U,st)) U st=aa (r,st'):=e
  unfold YV at e;split at e
  .rename_i i q
   refine⟨ad,U,st,ac,i,En,S,q,λn u a k=>?_⟩
   dsimp only;rw[ao rfl];refine⟨λO H=>∃ ad U st,(EnvOk K ad H O U/\StOk K ad H st)/\YU fe f m U st=aa (r,st')/\PostS K ad H r st' E,λw H' h=>⟨m,dQ m,h⟩,?_⟩
   have e:Y0 f (YU fe f m) U i=aa (r,st'):=e;unfold Y0 at e;split at e
   .rename_i d b j
    exact Z0 (En.mono a) k j λg c t l o s=>⟨c,d,b,⟨s,o⟩,e,p.later (a.trans l)⟩
   .rename_i d b j
    exact Z0 (En.mono a) k j λg c t l o s=>⟨c,d,b,⟨s,o⟩,e,p.later (a.trans l)⟩
   .rename_i d b j
    cases e;exact Z0 (En.mono a) k j λg c t l o s=>p g c t (a.trans l) o s
   .rename_i v b j
    cases e;exact Z0 (En.mono a) k j (Post.later p a)
   .exact Zb e
  .rename_i i q
   cases e;refine⟨ad,U,st,ae,_,En,S,q,λn u a k=>?_⟩
   dsimp only;rw[aq Bf];exact p O n u a k (En.mono a)
  .exact Zb e
def Itz(K:Fg)(a b:Ad):It:=
 ⟨λi H=>∃ c ys x y,SqT K H a c/\SqT K H b ys/\c[i]?=aa x/\ys[i]?=aa y,
  λi H v H'=>∃ p x y,v=.ref p/\H p=ab/\H'=upd H p (.tup [x,y])/\(∀ c,SqT K H a c->c[i]?=aa x)/\∀ ys,SqT K H b ys->ys[i]?=aa y,
  λi H=>∃ c ys,SqT K H a c/\SqT K H b ys/\min c.length ys.length<=i⟩
def Zjc(K:Fg)(e:TA):TI:=λO H R=>e O H λvs c=>∃ a b,vs=[.ref a,.ref b]/\(∃ d,SqT K c a d)/\(∃ ys,SqT K c b ys)/\R (Itz K a b) c
def Zdl{ok:Za->Prop}{B:D->D->Env->Za->Ot (Fl×Za)}{l:Li (D×D)}{z:Fl×Za}(e:Yg ok B l U st=aa z):ok st:=by
 cases l with
 |nil=>
  unfold Yg at e;by_cases h:ok st
  .exact h
  .rw[aq h]at e;cases e
 |cons _ _=>
  unfold Yg at e;by_cases h:ok st
  .exact h
  .rw[aq h]at e;cases e
inductive LK(K:Fg)(ok:Za->Prop)(B:D->D->Env->Za->Option (Fl×Za))(qs:List (D×D))(Good:List Addr->Hp->Prop)(r:Fl)(st':Za)(E:Ends)(k m:Nat)(O:L2.St)(H:Hp):Prop
 |mk {ad:List Addr}{U:Env}{st:Za} (hk:k+m=qs.length) (En:EnvOk K ad H O U) (S:StOk K ad H st) (g:Good ad H) (e:Yg ok B (qs.drop k) U st=aa (r,st')) (p:PostS K ad H r st' E):LK K ok B qs Good r st' E k m O H
def ZiR(K:Fg)(f:Ex)(i j:Nat)(J:It)(E:Ends)(O:L2.St)(g:Hp):Prop:=∃ W:Nat->Nat->L2.St->Hp->Prop,(∃ m,W 0 m O g)/\∀ a m O H,W a m O H->(J.stop a H/\E.nx O H)\/(J.go a H/\∃ N:L2.St->Hp->Prop,(∀ d H',N d H'->∃ c,c < m/\W (a+1) c d H')/\∀ x H',J.yld a H x H'->gTup K 2 (gCons (gName i) (gCons (gName j) gNil)) x O H' λb e=>tS K f { E with nx:=N,ct:=N,bk:=E.nx } b e)
def V2{ok:Za->Prop}{c:Li (D×D)}{a:Li Ad->Hp->Prop}{r:Fl}{J:It}(gm:∀ ad H ad' H',Ext ad H ad' H'->a ad H->a ad' H')(stop:∀ ad H st,a ad H->StOk K ad H st->ok st->J.stop c.length H)(go:∀ k ad H st q,a ad H->StOk K ad H st->ok st->c[k]?=aa q->∃ w v,J.go k H/\Den K ad H w q.1/\Den K ad H v q.2/\∀ x H',J.yld k H x H'->∃ pt,x=.ref pt/\H pt=ab/\H'=upd H pt (.tup [w,v]))(k m:Nat)(O:L2.St)(H:Hp)(h:LK K ok (λx y U s=>f (Zf (Zf U i x) j y) s) c a r st' E k m O H) :
  (J.stop k H/\E.nx O H)\/(J.go k H/\∃ N:L2.St->Hp->Prop,(∀ W H',N W H'->∃ R,R < m/\LK K ok (λx y U s=>f (Zf (Zf U i x) j y) s) c a r st' E (k+1) R W H')/\∀ x H',J.yld k H x H'->gTup K 2 (gCons (gName i) (gCons (gName j) gNil)) x O H' λt P=>tS K f { E with nx:=N,ct:=N,bk:=E.nx } t P):=by
 cases h with
 |@mk ad U st L En S g e p=>
  have n:=Zdl e;by_cases V:c.length<=k
  .have l:k=c.length:=by omega
   subst l;rw[List.drop_length]at e;unfold Yg at e;rw[ao n]at e;cases e;exact .inl ⟨stop _ _ _ g S n,p O _ H (Ext.refl _ _) S En⟩
  .have l:k < c.length:=Nat.lt_of_not_le V
   obtain⟨w,v,C,G,F,T⟩:=go k _ _ _ c[k] g S n (Lg l);rw[bR l]at e;unfold Yg at e;rw[ao n]at e;generalize c[k]=q at e G F;refine .inr ⟨C,LK K ok (λx y U s=>f (Zf (Zf U i x) j y) s) c a r st' E (k+1) (m - 1),λY X h3=>⟨m - 1,by omega,h3⟩,λx X hx=>?_⟩
   obtain⟨pt,rfl,B,rfl⟩:=T x X hx;have u:Ext ad H ad (upd H pt (.tup [w,v])):=Ext.laid B;have o:∀ {rr:Fl}{s3:Za}{E':Ends},f (Zf (Zf U i q.1) j q.2) st=aa (rr,s3)->PostS K ad (upd H pt (.tup [w,v])) rr s3 E'->gTup K 2 (gCons (gName i) (gCons (gName j) gNil)) (.ref pt) O (upd H pt (.tup [w,v])) λt P=>tS K f E' t P:=λq Z=>
    ⟨pt,_,rfl,SqT.of upd_same,rfl,_,_,rfl,_,_,rfl,rfl,Z0 (((En.mono u).set i (G.mono u)).set j (F.mono u)) (S.laid B) q Z⟩
   have nxt:∀ {ρ3:Env}{st3:Za},Yg ok (λx y U s=>f (Zf (Zf U i x) j y) s) (c.drop (k+1)) ρ3 st3=aa (r,st')->∀ (d:L2.St) (b:Li Ad) (A:Hp),Ext ad (upd H pt (.tup [w,v])) b A->StOk K b A st3->EnvOk K b A d ρ3->LK K ok (λx y U s=>f (Zf (Zf U i x) j y) s) c a r st' E (k+1) (m - 1) d A:=λe3 d b A I M Q=>
    .mk (by omega) Q M (gm _ _ _ _ (u.trans I) g) e3 (p.later (u.trans I))
   clear T go stop L V l C;split at e
   .rename_i z
    exact o z (nxt e)
   .rename_i z
    exact o z (nxt e)
   .rename_i z
    cases e;exact o z λd b A I M Q=>p d b A (u.trans I) M Q
   .rename_i z
    cases e;exact o z (p.later u)
   .exact Zb e
def Zc0(E:Ends)(O:L2.St)(H:Hp)(h:tS K (QS i j fi f) E O H):tFor (Zjc K (tA K fi)) (gTup K 2 (gCons (gName i) (gCons (gName j) gNil))) (tS K f) E O H:=by
 obtain⟨ad,U,st,r,st',En,S,e,p⟩:=Z2 h;unfold QS at e;split at e
 .rename_i F ys t W
  refine⟨ad,U,st,_,t,En,S,W,λvs m Q G Z c=>?_⟩
  obtain⟨s,n,rfl,D,C⟩:∃ s n,vs=[s,n]/\Den K m Q s (.tup F)/\Den K m Q n (.tup ys):=by
   cases c with
   |cons B c=>
    cases c with
    |cons A c=>cases c;exact⟨_,_,rfl,B,A⟩
  obtain⟨a,l,rfl,M,v⟩:=D.ofTup;obtain⟨b,d,rfl,L,u⟩:=C.ofTup;refine⟨a,b,rfl,⟨l,M.sq⟩,⟨d,L.sq⟩,_,⟨_,.mk (Good:=λad H=>(TupAt K H a l/\Dens K ad H l F)/\TupAt K H b d/\Dens K ad H d ys) (bK _) (En.mono G) Z ⟨⟨M,v⟩,L,u⟩ e (p.later G)⟩,V2 (λ_ _ _ _ x g=>⟨⟨g.1.1.mono x,g.1.2.mono x⟩,g.2.1.mono x,g.2.2.mono x⟩) (λad H st g S o=>?_) λk ad H st q g S o X=>?_⟩
  .exact⟨l,d,g.1.1.sq,g.2.1.sq,by rw[g.1.2.length,g.2.2.length];exact cP (List.length_zip ..).symm⟩
  .obtain⟨B,A⟩:=List.getElem?_zip_eq_some.mp X
   obtain⟨J,P,c⟩:=g.1.2.get B;obtain⟨I,N,Y⟩:=g.2.2.get A;exact⟨J,I,⟨l,d,J,I,g.1.1.sq,g.2.1.sq,P,N⟩,c,Y,λx H' ⟨pt,y1,y2,V,T,R,y,w⟩=>⟨pt,V,T,by have z:=y l g.1.1.sq;rw[P]at z;cases z;have z:=w d g.2.1.sq;rw[N]at z;cases z;exact R⟩⟩
 .exact Zb e
end
variable [ClsTab]
mutual
theorem ZeL:∀ {x y:D},Zr x y=ac->x=y
 |.non,y,h=>by cases y<;>simp[Zr]at h ⊢
 |.bl a,y,h=>by cases y<;>simp[Zr]at h ⊢;exact h
 |.int a,y,h=>by cases y<;>simp[Zr]at h ⊢;exact h
 |.str a,y,h=>by cases y<;>simp[Zr]at h ⊢;exact h
 |.tup a,y,h=>by
  cases y with
  |tup b=>rw[QD (x:=a) (y:=b) (by simpa[Zr] using h)]
  |_=>simp[Zr]at h
 |.lst a,y,h=>by cases y<;>simp[Zr]at h
 |.dct a b,y,h=>by cases y<;>simp[Zr]at h
 |.obj a,y,h=>by cases y<;>simp[Zr]at h
 |.kt a,y,h=>by cases y<;>simp[Zr]at h
 |.dic a,y,h=>by cases y<;>simp[Zr]at h
theorem QD:∀ {x y:Li D},Zs x y=ac->x=y
 |[],y,h=>by cases y<;>simp[Zs]at h ⊢
 |a :: x,y,h=>by
  cases y with
  |nil=>simp[Zs]at h
  |cons b y=>
   have h:(Zr a b&&Zs x y)=ac:=h;rw[Ba]at h;rw[ZeL h.1,QD h.2]
end
mutual
theorem Uv:∀ {n:Nat}{x:D},okD n x=ac->Zr x x=ac
 |_,.non,_=>rfl
 |_,.bl a,_=>by simp[Zr]
 |_,.int a,_=>by simp[Zr]
 |_,.str a,_=>by simp[Zr]
 |0,.tup a,h=>by simp[okD]at h
 |n+1,.tup a,h=>VE (n:=n) (x:=a) h
 |_,.lst a,h=>by simp[okD]at h
 |_,.dct a b,h=>by simp[okD]at h
 |_,.obj a,h=>by simp[okD]at h
 |_,.kt a,h=>by simp[okD]at h
 |_,.dic a,h=>by simp[okD]at h
theorem VE:∀ {n:Nat}{x:Li D},Ya n x=ac->Zs x x=ac
 |_,[],_=>rfl
 |n,a :: x,h=>by
  have h:(okD n a&&Ya n x)=ac:=h;rw[Ba]at h;show(Zr a a&&Zs x x)=ac;rw[Uv h.1,VE h.2];rfl
end
theorem XU:∀ {n:Nat}{a:Li D}{i:Nat}{d:D},Ya n a=ac->a[i]?=aa d->okD n d=ac
 |_,[],_,_,_,e=>by simp at e
 |n,x :: a,i,d,h,e=>by
  have h:(okD n x&&Ya n a)=ac:=h;rw[Ba]at h;cases i with
  |zero=>simp at e;subst e;exact h.1
  |succ i=>exact XU (i:=i) h.2 (by simpa using e)
theorem Xe:∀ {a ys:Li D},Zs a ys=((ag (min a.length ys.length)).all (λi=>Zr ((a[i]?).getD .non) ((ys[i]?).getD .non))&&a.length==ys.length)
 |[],[]=>rfl
 |[],_ :: _=>by simp[Zs]
 |_ :: _,[]=>by simp[Zs]
 |x :: a,y :: ys=>by
  have b:=@Xe a ys;show(Zr x y&&Zs a ys)=_;rw[b];have e:min (x :: a).length (y :: ys).length=min a.length ys.length+1:=by simp only[aO];omega
  rw[e,List.range_succ_eq_map,bG,List.all_map];simp only[aO];have z:(a.length+1==ys.length+1)=(a.length==ys.length):=by
   rw[cC];simp
  rw[z,Bool.and_assoc];rfl
variable{n:Nat}{pQ:Li (Ad×Obj)}{s:Sd}{A:bq}
def ZiP(X:Cx)(ad:Li Ad)(H:Hp)(v:V)(x:D):Prop:=∀ n m y,okD n x=ac->okD m y=ac->Den X.K ad H v y->x=y
def Wc{n:Nat}{P:Prop}(h:okD n x=ac)(a:∀ n,okD n x=ae):P:=by rw[a]at h;cases h
def ZdF(i n:Nat):okD n (.lst i)=ae:=by cases n<;>rfl
def ZdD(ks:Li Str)(vs:Li D)(n:Nat):okD n (.dct ks vs)=ae:=by cases n<;>rfl
def ZdE(i n:Nat):okD n (.dic i)=ae:=by cases n<;>rfl
def ZdG(i n:Nat):okD n (.obj i)=ae:=by cases n<;>rfl
def Zgy(ks:Li Str)(n:Nat):okD n (.kt ks)=ae:=by cases n<;>rfl
def ZdH{a:Li D}(h:okD n (.tup a)=ac):∃ m,Ya m a=ac:=by
 cases n with
 |zero=>cases h
 |succ n=>exact⟨n,h⟩
def Den.injP(J:∀ (a:Ad) (d ys:Li V),TupAt X.K H a d->TupAt X.K H a ys->d=ys){v:V}(h:Den X.K ad H v x):ZiP X ad H v x:=
 Den.rec (motive_1:=λv x _=>ZiP X ad H v x) (motive_2:=λvs d _=>∀ n m ys,Ya n d=ac->Ya m ys=ac->Dens X.K ad H vs ys->d=ys)
  (λ_ _ _ _ _ h=>by cases h;rfl) (λ_ _ _ _ _ _ h=>by cases h;rfl) (λ_ _ _ _ _ _ h=>by cases h;rfl) (λ_ _ _ _ _ _ h=>by cases h;rfl)
  (λe _ j n m y b c h=>by
   obtain⟨g,b⟩:=ZdH b;cases h with
   |tup o f=>
    cases J _ _ _ e o
    obtain⟨i,c⟩:=ZdH c;rw[j g i _ b c f]
   |lst _=>exact Wc c (ZdF _)
   |dic _ _=>exact Wc c (ZdE _)
   |dct _ _ _ _ _=>exact Wc c (ZdD _ _)
   |obj _ _=>exact Wc c (ZdG _)
   |kt _ _ _ _ _ _=>exact Wc c (Zgy _))
  (λ_ _ _ _ b _ _=>Wc b (ZdF _)) (λ_ _ _ _ _ b _ _=>Wc b (ZdE _)) (λ_ _ _ _ _ _ _ _ _ b _ _=>Wc b (ZdD _ _)) (λ_ _ _ _ _ b _ _=>Wc b (ZdG _)) (λ_ _ _ _ _ _ _ _ _ b _ _=>Wc b (Zgy _))
  (λ_ _ _ _ _ h=>by cases h;rfl)
  (λ_ _ l k n m ys b c h=>by
   cases h with
   |cons p f=>
    have b:=eI.mp b;have c:=eI.mp c;rw[l n m _ b.1 c.1 p,k n m _ b.2 c.2 f]) h
def Den.inj(J:∀ (a:Ad) (b ys:Li V),TupAt X.K H a b->TupAt X.K H a ys->b=ys){v:V}{y:D}(d:okD n x=ac)(c:okD m y=ac)(h:Den X.K ad H v x)(e:Den X.K ad H v y):x=y:=h.injP J n m y d c e
theorem Dens.inj(J:∀ (a:Ad) (b ys:Li V),TupAt X.K H a b->TupAt X.K H a ys->b=ys){b ys:Li D}(d:Ya n b=ac)(c:Ya m ys=ac)(h:Dens X.K ad H vs b)(e:Dens X.K ad H vs ys):b=ys:=by
 induction vs generalizing b ys with
 |nil=>cases h;cases e;rfl
 |cons v vs g=>
  cases h with
  |cons a r=>cases e with
   |cons i f=>
    have d:=eI.mp d;have c:=eI.mp c;rw[a.inj J d.1 c.1 i,g d.2 c.2 r f]
open PySem.SeqAt in
def Zhj(I:Inv X pQ O H s):∀ (n:Nat) (x y:D) (A:bq) (B w:V) (E C:vL),okD n x=ac->okD n y=ac->A.units+n < cLine->Den X.K ad H B x->Den X.K ad H w y->RelV B E->RelV w C->EqAt A s E C (Zr x y):=by
 intro n
 induction n with
 |zero=>
  intro x y A B w E C u h hu J l k d;cases J with
  |non=>
   cases k;cases l with
   |non=>cases d;exact EqAt.same _
   |int j=>obtain⟨c,rfl⟩:=d;exact EqAt.none_int j c
   |str j=>obtain⟨c,rfl⟩:=d;exact EqAt.none_str j c
   |_=>simp[okD]at h
  |int i=>
   obtain⟨t,rfl⟩:=k;cases l with
   |non=>cases d;exact EqAt.int_none i t
   |int j=>obtain⟨c,rfl⟩:=d;exact(show Zr (.int i) (.int j)=(i==j) from by rw[cC];simp[Zr]) ▸ EqAt.int_int i t j c
   |str j=>obtain⟨c,rfl⟩:=d;exact EqAt.int_str i t j c
   |_=>simp[okD]at h
  |str i=>
   obtain⟨t,rfl⟩:=k;cases l with
   |non=>cases d;exact EqAt.str_none i t
   |int j=>obtain⟨c,rfl⟩:=d;exact EqAt.str_int i t j c
   |str j=>obtain⟨c,rfl⟩:=d;exact(show Zr (.str i) (.str j)=(i==j) from by rw[cC];simp[Zr]) ▸ EqAt.str_str i t j c
   |_=>simp[okD]at h
  |_=>simp[okD]at u
 |succ n ih=>
  intro x y A B w E C u h hu J l k d;cases J with
  |non=>
   cases k;cases l with
   |non=>cases d;exact EqAt.same _
   |int j=>obtain⟨c,rfl⟩:=d;exact EqAt.none_int j c
   |str j=>obtain⟨c,rfl⟩:=d;exact EqAt.none_str j c
   |tup e r=>
    cases d;obtain⟨f,_,p,_⟩:=I.tuple ((e).sq);exact EqAt.none_tuple p (by omega)
   |_=>simp[okD]at h
  |int i=>
   obtain⟨t,rfl⟩:=k;cases l with
   |non=>cases d;exact EqAt.int_none i t
   |int j=>obtain⟨c,rfl⟩:=d;exact(show Zr (.int i) (.int j)=(i==j) from by rw[cC];simp[Zr]) ▸ EqAt.int_int i t j c
   |str j=>obtain⟨c,rfl⟩:=d;exact EqAt.int_str i t j c
   |tup e r=>
    cases d;obtain⟨f,_,p,_⟩:=I.tuple ((e).sq);exact EqAt.int_tuple i t p (by omega)
   |_=>simp[okD]at h
  |str i=>
   obtain⟨t,rfl⟩:=k;cases l with
   |non=>cases d;exact EqAt.str_none i t
   |int j=>obtain⟨c,rfl⟩:=d;exact EqAt.str_int i t j c
   |str j=>obtain⟨c,rfl⟩:=d;exact(show Zr (.str i) (.str j)=(i==j) from by rw[cC];simp[Zr]) ▸ EqAt.str_str i t j c
   |tup e r=>
    cases d;obtain⟨f,_,p,_⟩:=I.tuple ((e).sq);exact EqAt.str_tuple i t p (by omega)
   |_=>simp[okD]at h
  |@tup a xs ds e r=>
   cases k;obtain⟨f,rv,p,_⟩:=I.tuple ((e).sq);cases l with
   |non=>cases d;exact EqAt.tuple_none p (by omega)
   |int j=>obtain⟨c,rfl⟩:=d;exact EqAt.tuple_int j c p (by omega)
   |str j=>obtain⟨c,rfl⟩:=d;exact EqAt.tuple_str j c p (by omega)
   |@tup b ys es Q F=>
    cases d;by_cases v:a=b
    .subst v
     have z:=Den.inj (λ_ _ _ e G=>I.tuple_inj e.sq G.sq) (n:=n+1) (m:=n+1) u h (Den.tup e r) (Den.tup Q F)
     cases z;rw[Uv u];exact EqAt.same _
    .obtain⟨g,o,p',_⟩:=I.tuple ((Q).sq)
     refine EqAt.of_refs v ?_;have q:=RcAt.tuples (A:=A) (s:=s) (e:=λi=>Zr ((ds[i]?).getD .non) ((es[i]?).getD .non)) p p' (by omega) λj P N=>?_
     .have e1:f.toArray.size=ds.length:=by rw[aI,<-rv.length,r.length]
      have G:g.toArray.size=es.length:=by rw[aI,<-o.length,F.length]
      rw[e1,G]at q;show RcAt A s (.ref a) (.ref b) (Zs ds es);rw[Xe];exact q
     .have l1:j < ds.length:=by rw[<-r.length,rv.length];simpa using P
      have l2:j < es.length:=by rw[<-F.length,o.length];simpa using N
      have g1:ds[j]?=aa ds[j]:=Lg l1;have g2:es[j]?=aa es[j]:=Lg l2;obtain⟨U,q1,d1⟩:=r.get g1;obtain⟨T,Z,d2⟩:=F.get g2;obtain⟨M,S,Y⟩:=rv.get q1;obtain⟨L,R,W⟩:=o.get Z;have f1:f.toArray[j]=M:=by
       have:f[j]?=aa (f[j]'(by simpa using P)):=Lg _
       rw[S]at this;simpa using(av this).symm
      have f2:g.toArray[j]=L:=by
       have:g[j]?=aa (g[j]'(by simpa using N)):=Lg _
       rw[R]at this;simpa using(av this).symm
      rw[f1,f2,g1,g2];exact ih ds[j] es[j] A.in1 U T M L (XU u g1) (XU h g2) (by show A.units+1+n < cLine;omega) d1 d2 Y W
   |_=>simp[okD]at h
  |_=>simp[okD]at u
open PySem.SeqAt in
def Qa(I:Inv X pQ O H s){a b:Ad}{d c:Li vL}(z:Ya n ds=ac)(y:Ya n es=ac)(hu:A.units+n+1 < cLine)(r:Dens X.K ad H xs ds)(h:Dens X.K ad H ys es)(rv:Vals xs d)(e:Vals ys c)(j:Nat)(k:j < d.toArray.size)(i:j < c.toArray.size):EqAt A.in1 s d.toArray[j] c.toArray[j] (Zr ((ds[j]?).getD .non) ((es[j]?).getD .non)):=by
 have x:j < ds.length:=by rw[<-r.length,rv.length];simpa using k
 have w:j < es.length:=by rw[<-h.length,e.length];simpa using i
 have g1:ds[j]?=aa ds[j]:=Lg x;have g2:es[j]?=aa es[j]:=Lg w;obtain⟨p,v,E⟩:=r.get g1;obtain⟨o,u,D⟩:=h.get g2;obtain⟨g,m,t⟩:=rv.get v;obtain⟨f,l,q⟩:=e.get u;have C:d.toArray[j]=g:=by
  have:d[j]?=aa (d[j]'(by simpa using k)):=Lg _
  rw[m]at this;simpa using(av this).symm
 have B:c.toArray[j]=f:=by
  have:c[j]?=aa (c[j]'(by simpa using i)):=Lg _
  rw[l]at this;simpa using(av this).symm
 rw[C,B,g1,g2];exact Zhj I n ds[j] es[j] A.in1 p o g f (XU z g1) (XU y g2) (by show A.units+1+n < cLine;omega) E D t q
open PySem.SeqAt in
def ZfA(I:Inv X pQ O H s){a b:Ad}(t:Ya n ds=ac)(o:Ya n es=ac)(hu:A.units+n+1 < cLine)(e:TupAt X.K H a xs)(r:Dens X.K ad H xs ds)(w:TupAt X.K H b ys)(f:Dens X.K ad H ys es):RcAt A s (.ref a) (.ref b) (Zs ds es)/\RcNeAt A s (.ref a) (.ref b) (!Zs ds es):=by
 obtain⟨g,rv,p,_⟩:=I.tuple (e.sq);obtain⟨d,c,m,_⟩:=I.tuple (w.sq);have v:g.toArray.size=ds.length:=by rw[aI,<-rv.length,r.length]
 have u:d.toArray.size=es.length:=by rw[aI,<-c.length,f.length]
 have q:=RcAt.tuples (A:=A) (s:=s) (e:=λi=>Zr ((ds[i]?).getD .non) ((es[i]?).getD .non)) p m (by omega) λj k h=>Qa (a:=a) (b:=b) I t o hu r f rv c j k h
 have l:=RcNeAt.tuples (A:=A) (s:=s) (e:=λi=>Zr ((ds[i]?).getD .non) ((es[i]?).getD .non)) p m (by omega) λj k h=>Qa (a:=a) (b:=b) I t o hu r f rv c j k h
 rw[v,u]at q l;rw[Xe];exact⟨q,l⟩
end Dp
namespace Dp
open PySem PySem.Spec PyProof.Rows L2 Builtin Builtin.Str
variable [ClsTab]
section
variable{X:Cx}{tg:ay}
end
end Dp
namespace Dp
open PySem PySem.Spec PyProof.Rows L2
variable [ClsTab]
variable{X:Cx}{pQ:Li (Ad×Obj)}{s:Sd}{O:L2.St}{H:Hp}{a:Ad}{Q:VK}
section
open Builtin
open AutoSeq1 (wpAny_loadPart')
theorem W7:fillsNumberSlot (.type "tuple") "mul"=pure ae:=
 PySem.fillsNumberSlot_seq (id := "tuple.__mul__") (r:=aa (.builtin "tuple.__rmul__")) F.slot_tuple_mul.lookup (by decide +kernel) F.slot_tuple_rmul.lookup (by decide +kernel)
theorem Qp:seqRepeat? (.type "tuple")=pure (aa (.builtin "tuple.__mul__")):=by
 unfold seqRepeat?
 rw[PySem.seqSlot_of (T := "tuple") (name := "__mul__") (id := "tuple.__mul__") F.slot_tuple_mul.lookup (by decide +kernel),PySem.seqSlot_of (T := "tuple") (name := "__rmul__") (id := "tuple.__rmul__") F.slot_tuple_rmul.lookup (by decide +kernel)]
 rfl
def J5(a:Int)(t:Tok)(l:Ad)(b:Array vL)(n:Nat)(dd:Ot Ad)(sl:Array (Ot vL)):Meets (Builtin.«int.__rmul__» ⟨[.int a t,.ref l],[]⟩) (λ_ R s=>s.heap.get? l=aa { cls:=.type "tuple",dict:=dd,data:=.seq b n,slots:=sl }/\R (.ok (.ret Value.notImplemented)) s):=
 .of_wp λc w A R s h=>by obtain⟨i,g,d,e,f⟩:=s;obtain⟨j,h⟩:=h;wp_walk;exact⟨_,rfl,h⟩
def Zef(l:Ad)(a:Array vL)(n:Nat)(dd:Ot Ad)(sl:Array (Ot vL))(u:Tok) :
  Meets (Builtin.«tuple.__mul__» ⟨[.ref l,.int 1 u],[]⟩) (λ_ R s=>s.heap.get? l=aa { cls:=.type "tuple",dict:=dd,data:=.seq a n,slots:=sl }/\R (.ok (.ret (bu l))) s):=
 .of_wp λb w A R s h=>by
  obtain⟨i,g,d,e,f⟩:=s;obtain⟨c,h⟩:=h;have j:=AutoSeq1.idx_int;wp_walk using wpAny_loadPart' c;exact⟨_,rfl,h⟩
def Zee(l:Ad)(items:Array vL)(n:Nat)(dd:Ot Ad)(sl:Array (Ot vL))(k:Int)(u:Tok)(e:¬items.isEmpty=ac)(c:k<=0)(p:-1000<=k) :
  Meets (Builtin.«tuple.__mul__» ⟨[.ref l,.int k u],[]⟩) (λ_ R s=>s.heap.get? l=aa { cls:=.type "tuple",dict:=dd,data:=.seq items n,slots:=sl }/\R (.ok (.ret (bu s.heap.objs.size))) { s with heap:=s.heap.push { cls:=.type "tuple",data:=.seq #[] } }):=
 .of_wp λb w A R s h=>by
  obtain⟨o,g,d,j,m⟩:=s;obtain⟨a,h⟩:=h;have q:=AutoSeq1.idx_int;have i:(aj (k < -(2 ^ 63))||aj (k>=2 ^ 63))=ae:=by rw[aG (by omega),aG (by omega)];rfl
  have f:(items.isEmpty||k==1)=ae:=by
   have:(k==1)=ae:=by rw[cU];omega
   rw[this,cQ];simpa using e
  have r:(aj (k<=0)||items.isEmpty)=ac:=by rw[aK c];rfl
  wp_walk using wpAny_loadPart' a
  refine wpAny_ite_false (by rw[i];rfl) ?_
  wp_walk using wpAny_loadPart' a
  refine wpAny_ite_false (by rw[f];rfl) ?_
  wp_walk using wpAny_loadPart' a
  exact⟨_,rfl,h⟩
def Zeg(l:Ad)(items:Array vL)(n:Nat)(dd:Ot Ad)(sl:Array (Ot vL))(k:Int)(u:Tok)(b:items.size=1)(y:2<=k)(x:k<=1000) :
  Meets (Builtin.«tuple.__mul__» ⟨[.ref l,.int k u],[]⟩) (λ_ R s=>s.heap.get? l=aa { cls:=.type "tuple",dict:=dd,data:=.seq items n,slots:=sl }/\R (.ok (.ret (bu s.heap.objs.size))) { s with heap:=s.heap.push { cls:=.type "tuple",data:=.seq ((af k.toNat items).foldl (λe c=>e++c) #[]) } }):=
 .of_wp λf w A R s h=>by
  obtain⟨v,g,d,r,t⟩:=s;obtain⟨a,h⟩:=h;have B:=AutoSeq1.idx_int;have q:(aj (k < -(2 ^ 63))||aj (k>=2 ^ 63))=ae:=by rw[aG (by omega),aG (by omega)];rfl
  have i:items.isEmpty=ae:=by
   rw[Array.isEmpty_eq_false_iff];intro z;rw[z]at b;simp at b
  have p:(items.isEmpty||k==1)=ae:=by
   have:(k==1)=ae:=by rw[cU];omega
   rw[this,cQ];exact i
  have o:(aj (k<=0)||items.isEmpty)=ae:=by rw[aG (by omega),i];rfl
  have m:aj ((items.size:Int) * k > (2 ^ 63 - 1) / 8)=ae:=by rw[b];exact aG (by omega)
  have j:Tuple.tupleTooMany ((items.size:Int) * k)=ae:=by
   unfold Tuple.tupleTooMany;rw[b];exact aG (by have:(ax:Int)>=1000:=(by decide);omega)
  have C:aj (((af k.toNat items).foldl (λe c=>e++c) #[]).size > ax)=ae:=by
   rw[AutoListH.size_joined];refine aG ?_;have:ax>=1000:=by decide
   simp only[b,Array.size_empty];omega
  wp_walk using wpAny_loadPart' a
  refine wpAny_ite_false (by rw[q];rfl) ?_
  wp_walk using wpAny_loadPart' a
  refine wpAny_ite_false (by rw[p];rfl) ?_
  wp_walk using wpAny_loadPart' a
  refine wpAny_ite_false (by rw[o];rfl) ?_
  wp_walk using wpAny_loadPart' a
  refine wpAny_ite_false m ?_
  wp_walk using wpAny_loadPart' a
  refine wpAny_ite_false (by rw[j];rfl) ?_
  wp_walk using wpAny_loadPart' a
  exact⟨_,rfl,h⟩
theorem ZfB{v:V}{k:Int}{t:Tok}(I:L2.Inv X pQ O H s)(L:TupAt X.K H a [v])(N:k<=1000)(M:-1000<=k)(E:k=1->Q (.ref a) H)(D:∀ p,H p=ab->Q (.ref p) (upd H p (.tup (af k.toNat v)))):a0 (a6 X.prog X.w) X.A (br .Mult (.ref a) (.int k t)) (EP X pQ O Q) X.xe s:=by
 obtain⟨J,r,G,_⟩:=I.tuple (L.sq);obtain⟨u,rfl,B⟩:=r.one;obtain⟨⟨Y,dd,W,sl⟩,d,l,n,i⟩:=id G;simp only at l i;subst l i;have f:∀ c:Li vL,Vals (af k.toNat v) c->EP X pQ O Q (.ref s.heap.objs.size) { s with heap:=s.heap.push { cls:=.type "tuple",data:=.seq c.toArray } }:=λc C=>
  ⟨.ref s.heap.objs.size,_,I.laid (t':=s.toks) (o:=.tup (af k.toNat v)) (λb S q=>aL _ q) (aD _) ⟨by rw[bV];exact aM (show k.toNat<=1000 by omega) (by decide),c,C,IsTup.new _ _⟩,rfl,D _ (I.hok.fresh (aD _))⟩
 refine wpAny_binaryOp_repeat_ref (T := "tuple") (U := "int") (by decide) ⟨_,d,rfl⟩ (λy=>typeIs_int y k t) W7 F.fills_int_mul F.slot_int_rmul Qp F.slot_int_index.lookup
  (call_meets F.slot_int_rmul (typeIs_int s k t) F.entry_int_rmul (F.args_int_rmul_2 _ _) (J5 k t a _ n dd sl) ⟨d,rfl,⟨_,d,rfl⟩,?_⟩)
 by_cases P:k=1
 .subst P
  exact call_meets F.slot_tuple_mul ⟨_,d,rfl⟩ F.entry_tuple_mul (F.args_tuple_mul_2 _ _) (Zef a _ n dd sl t) ⟨d,⟨.ref a,H,I,rfl,E rfl⟩⟩
 .by_cases R:k<=0
  .refine call_meets F.slot_tuple_mul ⟨_,d,rfl⟩ F.entry_tuple_mul (F.args_tuple_mul_2 _ _) (Zee a _ n dd sl k t (by simp) R M) ⟨d,?_⟩
   have z:k.toNat=0:=by omega
   exact f [] (by rw[z];exact .nil)
  .refine call_meets F.slot_tuple_mul ⟨_,d,rfl⟩ F.entry_tuple_mul (F.args_tuple_mul_2 _ _) (Zeg a _ n dd sl k t (by simp) (by omega) N) ⟨d,?_⟩
   have e:List.foldl (λx m=>x++m) #[] (af k.toNat [u].toArray)=(af k.toNat u).toArray:=by
    have h:=foldl_rep [u] k.toNat [];rw[dE]at h;rw[show([]:Li vL).toArray=#[] from rfl]at h;rw[h]
    congr 1
    generalize k.toNat=j
    induction j with
    |zero=>rfl
    |succ j g=>rw[cK,dD,g,cK];rfl
   rw[e];refine f _ ?_;generalize k.toNat=j
   induction j with
   |zero=>exact .nil
   |succ j g=>exact .cons B g
end
def YS:Zt<=ax:=by decide
variable{i j:Int}{xs ys vs:Li V}{op:Operator}{ds:Li D}{ad:Li Ad}{d:D}{st:Za}{lo hi:Ot Int}{k:Bool}
variable{X:Cx}
def JR(h:ZZ i=ac):-(2 ^ 64) < i/\i < 2 ^ 64:=by
 unfold ZZ at h;rw[Ba]at h;exact⟨am h.1,am h.2⟩
def ZeO{b:Ad}(I:Inv X pQ O H s)(q:TupAt X.K H a xs)(o:TupAt X.K H b ys)(B:xs.length+ys.length<=ax)(v:xs=[]->Q (.ref b) H)(u:ys=[]->Q (.ref a) H)(t:∀ p,H p=ab->Q (.ref p) (upd H p (.tup (xs++ys)))):a0 (a6 X.prog X.w) X.A (br .Add (.ref a) (.ref b)) (EP X pQ O Q) X.xe s:=by
 by_cases i:xs=[]
 .obtain⟨h,r,y,_⟩:=I.tuple (q.sq)
  obtain⟨c,E,x,_⟩:=I.tuple (o.sq);have C:h=[]:=r.nil_iff.mpr i;subst C;obtain⟨⟨L,dd,G,sl⟩,k,m,n,l⟩:=id y;obtain⟨⟨J,j,D,g⟩,d,f,z,e⟩:=id x;simp only at m l f e;subst m l f e;exact concat_meets ⟨_,k,rfl⟩ ⟨_,d,rfl⟩ noFill_tuple_add seq_tuple_add PySem.F.slot_tuple_add PySem.F.entry_tuple_add (PySem.F.args_tuple_add_2 _ _)
   (tuple_addW0 a b #[] c.toArray n z dd j sl g rfl) ⟨k,d,⟨.ref b,H,I,rfl,v i⟩⟩
 .exact op_catT pQ s O H (.ref a) (.ref b) _ _ Q I rfl rfl ⟨a,b,xs,ys,rfl,rfl,(q).sq,(o).sq,i,B,u,λ_=>t⟩
def Zbv(hi:0<=i)(a:0<=j):Builtin.bitAnd i j=((i.toNat &&& j.toNat:Nat):Int):=by
 unfold Builtin.bitAnd;simp[hi,a]
def Zbw(hi:0<=i)(a:j < 0):Builtin.bitAnd i j=i - ((i.toNat &&& (-j - 1).toNat:Nat):Int):=by
 unfold Builtin.bitAnd;rw[aK hi,aG (by omega)]
 rfl
def Zcm(hi:0<=i)(b:0<=j):Builtin.bitOr i j=((i.toNat ||| j.toNat:Nat):Int):=by
 unfold Builtin.bitOr;have n:∀ {k:Int},0<=k->aj (0<=Builtin.bitNot k)=ae:=λ{k} h=>by unfold Builtin.bitNot;exact aG (by omega)
 have a:∀ k:Int,Builtin.bitNot (Builtin.bitNot k)=k:=λk=>by unfold Builtin.bitNot;omega
 have e:Builtin.bitAnd (Builtin.bitNot i) (Builtin.bitNot j)=Builtin.bitNot ((Builtin.bitNot (Builtin.bitNot i)).toNat ||| (Builtin.bitNot (Builtin.bitNot j)).toNat:Nat):=by
  unfold Builtin.bitAnd;rw[n hi,n b]
 rw[e,a,a,a]
def Zfv{k:Int}{v u:vL}(I:L2.Inv X pQ O H s)(c:RelV (.int i) v)(b:RelV (.int j) u)(e:Zck op i j=aa k)(p:Q (.int k) H) :
  a0 (a6 X.prog X.w) X.A (br op v u) (EP X pQ O Q) X.xe s:=by
 unfold Zck at e;split at e
 .cases e
  exact op_add pQ s O H _ _ v u Q I c b ⟨_,_,rfl,rfl,p⟩
 .cases e
  exact op_sub pQ s O H _ _ v u Q I c b ⟨_,_,rfl,rfl,p⟩
 .split at e
  .rename_i a
   cases e;refine op_mul pQ s O H _ _ v u Q I c b ⟨_,_,rfl,rfl,?_,p⟩;rw[cB]at a;exact a.elim (λz=>.inl (JR z)) λz=>.inr (JR z)
  .cases e
 .split at e
  .rename_i a
   cases e;exact op_fdiv pQ s O H _ _ v u Q I c b ⟨_,_,rfl,rfl,a,p⟩
  .split at e
   .rename_i a
    cases e;exact op_fdivN pQ s O H _ _ v u Q I c b ⟨_,_,rfl,rfl,⟨by omega,by omega⟩,p⟩
   .cases e
 .split at e
  .rename_i a
   cases e;exact op_mod pQ s O H _ _ v u Q I c b ⟨_,_,rfl,rfl,a,p⟩
  .split at e
   .rename_i a
    cases e;exact op_modN pQ s O H _ _ v u Q I c b ⟨_,_,rfl,rfl,(by omega),p⟩
   .cases e
 .split at e
  .rename_i a
   cases e;have:=JR a.2.2;exact op_pow pQ s O H _ _ v u Q I c b ⟨_,_,rfl,rfl,⟨a.1,by omega,by omega⟩,p⟩
  .cases e
 .split at e
  .rename_i a
   cases e;refine op_and pQ s O H _ _ v u Q I c b ⟨_,_,rfl,rfl,?_⟩;dsimp only;rw[Zbv a.1 a.2];exact p
  .split at e
   .rename_i a
    cases e;refine op_and pQ s O H _ _ v u Q I c b ⟨_,_,rfl,rfl,?_⟩;dsimp only;rw[Zbw a.1 a.2];exact p
   .cases e
 .split at e
  .rename_i a
   cases e;refine op_or pQ s O H _ _ v u Q I c b ⟨_,_,rfl,rfl,?_⟩;dsimp only;rw[Zcm a.1 a.2];exact p
  .cases e
 .cases e
def ZbF{b:Ad}(I:L2.Inv X pQ O H s)(C:SqL X.K H a xs)(B:SqL X.K H b ys)(G:xs.length+ys.length<=ax)(q:∀ p,H p=ab->Q (.ref p) (upd H p (.lst (xs++ys)))):a0 (a6 X.prog X.w) X.A (br .Add (.ref a) (.ref b)) (EP X pQ O Q) X.xe s:=by
 obtain⟨d,r,y,_⟩:=I.list C;obtain⟨c,l,x,_⟩:=I.list B;obtain⟨⟨cls,dd,u,sl⟩,m,t,n,o⟩:=id y.isList;obtain⟨⟨v,j,k,i⟩,f,h,z,g⟩:=id x.isList;simp only at t o h g;subst t o h g;have e:d.toArray++c.toArray=(d++c).toArray:=by simp
 have E:=r.length;have D:=l.length;refine concat_meets ⟨_,m,rfl⟩ ⟨_,f,rfl⟩ noFill_list_add seq_list_add PySem.F.slot_list_add PySem.F.entry_list_add (PySem.F.args_list_add_2 _ _) (list_addW a b d.toArray c.toArray n z dd j sl i (by simp;omega)) ⟨m,f,?_⟩
 rw[e];exact⟨.ref _,_,I.lnew (t':=s.toks) (r.append l) (by rw[aH];omega),rfl,q _ I.fresh⟩
def Jr(h:Q0 op=ac):op=.Add:=by cases op<;>first|rfl|cases h
def Zdw(h:Zdd op=ac):op=.Mult:=by cases op<;>first|rfl|cases h
def Zfu:OpR X (br op) (rD X.K (UT op)):=by
 intro pQ s O H x y v u Q I r o h;obtain⟨ad,st,R,P,d,st',S,m,l,e,p⟩:=h;unfold UT at e;split at e
 .split at e
  .rename_i k q
   cases e;cases m;cases l
   exact Zfv I r o q (p.at S (.int _))
  .exact Zb e
 .split at e
  .rename_i i
   cases Jr i.1
   have g:=i.2;cases e;obtain⟨a,xs,rfl,j,c⟩:=m.ofTup;obtain⟨b,ys,rfl,E,A⟩:=l.ofTup;cases r;cases o
   refine ZeO I j E (by rw[c.length,A.length];exact aM g YS) (λz=>?_) (λz=>?_) λq f=>?_
   .subst z;cases c
    exact p.at S l
   .subst z;cases A
    rw[bB]at p;exact p.at S m
   .exact p _ ad _ (Ext.laid f) (S.laid f) (.tup (.inl upd_same) ((c.append A).mono (Ext.laid f)))
  .exact Zb e
 .split at e
  .rename_i i
   cases Zdw i
   obtain⟨a,xs,rfl,j,c⟩:=m.ofTup;cases l;cases r;obtain⟨t,rfl⟩:=o;cases c with
   |nil=>exact Zb e
   |cons B c=>cases c with
    |cons _ _=>exact Zb e
    |nil=>
     have e:(if _/\_ then aa (D.tup (af _ _),st) else ab)=aa (d,st'):=e
     split at e
     .rename_i g
      cases e;refine ZfB I j g.1 g.2 (λz=>?_) λq f=>p _ ad _ (Ext.laid f) (S.laid f) (.tup (.inl upd_same) ((Dens.rep B _).mono (Ext.laid f)))
      subst z;exact p.at S (.tup j (.cons B .nil))
     .exact Zb e
  .exact Zb e
 .split at e
  .rename_i n
   cases Jr n
   unfold ZbE at e;split at e
   .rename_i xs ys C G
    split at e
    .rename_i g
     cases e;obtain⟨a,rfl,j⟩:=m.ofLst;obtain⟨b,rfl,E⟩:=l.ofLst;obtain⟨vs,c,F⟩:=S.list j C;obtain⟨N,A,L⟩:=S.list E G;cases r;cases o
     refine ZbF I F L (by rw[c.length,A.length];exact aM g YS) λq f=>?_
     refine p _ (ad++[q]) _ (Ext.push f) (S.push f (c.append A)) (.newL ?_);rw[<-S.len];exact Zu
    .exact Zb e
   .exact Zb e
  .exact Zb e
 .split at e
  .rename_i n
   cases Zdw n
   unfold ZjP at e;split at e
   .rename_i z C
    split at e
    .rename_i g
     cases e;obtain⟨a,rfl,j⟩:=m.ofLst;obtain⟨vs,c,F⟩:=S.listM j C;cases l;cases c with
     |cons B c=>
      cases c;rename_i w;refine op_rep pQ s O H _ _ v u Q I r o ⟨a,_,[w],rfl,rfl,F,by omega,by omega,?_,λq f=>?_⟩
      .rw[eV,cX]
       exact aM (show _<=1000 by omega) (by decide)
      .have M:∀ k:Nat,(af k [w]).flatten=af k w:=λk=>by
        induction k with
        |zero=>rfl
        |succ k J=>rw[cK,dD,J,cK];rfl
       rw[M];refine p _ (ad++[q]) _ (Ext.push f) (S.push f (Dens.rep B _)) (.newL ?_);rw[<-S.len];exact Zu
    .exact Zb e
   .exact Zb e
  .exact Zb e
 .split at e
  .rename_i g
   cases Jr g.1
   cases e;cases m;cases l
   exact op_add_str pQ s O H _ _ v u Q I r o ⟨_,_,rfl,rfl,aM g.2 YS,p.at S (.str _)⟩
  .exact Zb e
 .exact Zb e
def Zf9:UnR X (unaryOp .USub) (rU1 X.K ZhH):=by
 intro pQ s O H x v Q I a h;obtain⟨ad,st,c,d,st',S,b,e,p⟩:=h;unfold ZhH at e;split at e
 .cases e;cases b
  exact un_neg pQ s O H _ v Q I a ⟨_,rfl,p.at S (.int _)⟩
 .exact Zb e
def Zf8:UnR X (unaryOp .Invert) (rU1 X.K Zht):=by
 intro pQ s O H x v Q I a h;obtain⟨ad,st,c,d,st',S,b,e,p⟩:=h;unfold Zht at e;split at e
 .cases e;cases b
  exact un_inv pQ s O H _ v Q I a ⟨_,rfl,p.at S (.int _)⟩
 .exact Zb e
def Ju(r:Dens X.K ad H xs ds)(e:atD ds i=aa d):∃ v,atI xs i=aa v/\Den X.K ad H v d:=by
 unfold atD at e;have a:L2.ixN xs.length i=Dp.ixN ds.length i:=by rw[r.length];rfl
 cases q:Dp.ixN ds.length i with
 |none=>rw[q]at e;cases e
 |some j=>
  rw[q]at e;obtain⟨v,c,b⟩:=r.get (i:=j) e;refine⟨v,?_,b⟩;unfold atI;rw[a,q];exact c
theorem WN{ad:Li Ad}{H:Hp}{k:Str}:∀ {ks:Li Str}{vs:Li V}{ds:Li D},Dens X.K ad H vs ds->ks.length=vs.length->
  (∃ v d,valV ((ks.zip vs).map λp=>((eL p.1:Key),p.2)) (eL k)=aa v/\Yk ks ds k=aa d/\Den X.K ad H v d)\/(valV ((ks.zip vs).map λp=>((eL p.1:Key),p.2)) (eL k)=ab/\Yk ks ds k=ab)
 |[],_,_,.nil,_=>.inr ⟨rfl,rfl⟩
 |[],_,_,.cons _ _,h=>by simp at h
 |_ :: _,_,_,.nil,h=>by simp at h
 |x :: ks,v :: vs,d :: ds,.cons b r,h=>by
  by_cases e:x=k
  .subst e
   exact .inl ⟨v,d,valV_pos rfl,by simp[Yk],b⟩
  .have a:=WN (k:=k) r (by simpa using h)
   have f:valV (((x :: ks).zip (v :: vs)).map λp=>((eL p.1:Key),p.2)) (eL k)=valV ((ks.zip vs).map λp=>((eL p.1:Key),p.2)) (eL k):=valV_neg (p:=(eL x,v)) (by intro z;exact e (eL.inj z))
   have c:Yk (x :: ks) (d :: ds) k=Yk ks ds k:=by simp[Yk,e]
   rw[f,c];exact a
def JH{ks:Li D}{a:Nat}{o:Ot D}(h:dAt ks a st=aa o):∃ i j b xs,ks=[.int i,.int j]/\st[a]?=aa (b,xs)/\o=Yr xs i j:=by
 cases ks with
 |nil=>exact Zb h
 |cons x ks=>cases ks with
  |nil=>exact Zb h
  |cons y ks=>cases ks with
   |cons _ _=>exact Zb h
   |nil=>
    refine Z6 (P:=λo=>∃ i j b xs,[x,y]=[D.int i,.int j]/\st[a]?=aa (b,xs)/\o=Yr xs i j) h λp c d f=>?_
    refine Z6 (P:=λp:Int×Int=>∃ i j b xs,[x,y]=[D.int i,.int j]/\st[a]?=aa (b,xs)/\Yr c.2 p.1 p.2=Yr xs i j) d λi j hi e=>?_
    exact⟨i,j,c.1,c.2,by rw[ZaD hi,ZaD e],f,rfl⟩
def WC{y:V}(a:Den X.K ad H y (.tup [.int i,.int j])):∃ b,y=.ref b/\SqT X.K H b (([.inl i,.inl j]:Li Key).map kV):=by
 obtain⟨b,xs,rfl,c,r⟩:=a.ofTup;cases r with
 |cons e r=>cases r with
  |cons d r=>cases r;cases e;cases d;exact⟨b,rfl,c.sq⟩
def Zi0{x:Str}(q:atD ((chS x).map D.str) i=aa d):∃ c,atI x.cps.toList i=aa c/\d=.str ⟨#[c]⟩:=by
 unfold atD at q;unfold atI;have b:((chS x).map D.str).length=x.cps.toList.length:=by simp[chS]
 rw[b]at q;show ∃ c,(Dp.ixN x.cps.toList.length i).bind (λj=>x.cps.toList[j]?)=aa c/\_
 cases e:Dp.ixN x.cps.toList.length i with
 |none=>rw[e]at q;cases q
 |some j=>
  rw[e]at q;have q:((chS x).map D.str)[j]?=aa d:=q;unfold chS at q;rw[aT,aT]at q;show ∃ c,x.cps.toList[j]?=aa c/\_;cases a:x.cps.toList[j]? with
  |none=>rw[a]at q;cases q
  |some c=>rw[a]at q;cases q;exact⟨c,rfl,rfl⟩
def Zkq(hu:X.A.units+64 < cLine):IxR X (rD X.K ixR):=by
 intro f slice pQ s O H x y v u Q I t m h C;obtain⟨ad,st,Z,Y,d,st',S,B,z,e,p⟩:=h;unfold ixR at e;split at e
 .rename_i d' q
  cases e;unfold ixD at q;split at q
  .obtain⟨a,xs,rfl,l,r⟩:=B.ofTup
   cases z;obtain⟨w,k,g⟩:=Ju r q;exact ix_tup f slice pQ s O H _ _ v u Q I t m ⟨a,xs,_,w,rfl,rfl,(l).sq,k,p.at S g⟩ C
  .split at q
   .rename_i D
    obtain⟨a,rfl,l⟩:=B.ofLst;cases z;obtain⟨xs,r,sq⟩:=S.list l D;obtain⟨w,k,g⟩:=Ju r q;exact ix_list f slice pQ s O H _ _ v u Q I t m ⟨a,xs,_,w,rfl,rfl,sq,k,p.at S g⟩ C
   .exact Zb q
  .obtain⟨a,vs,rfl,l,L,r⟩:=B.ofDct
   cases z;rcases WN r L with⟨w,W,k,g,F⟩|⟨_,g⟩
   .rw[g]at q
    cases q;exact ix_dct f slice pQ s O H _ _ v u Q I t m ⟨a,_,eL _,w,rfl,rfl,l,k,p.at S F⟩ C
   .rw[g]at q;cases q
  .obtain⟨a,o,E,n,rfl,V,U,T,R,P⟩:=B.ofKt
   cases z;obtain⟨w,k,g⟩:=Ju (UI _) q;exact ix_tup f slice pQ s O H _ _ v u Q I t m ⟨a,_,_,w,rfl,rfl,.inr ⟨o,E,n,V,U.1,T,R,P⟩,k,p.at S g⟩ C
  .refine j_e q λq=>?_
   obtain⟨i,j,bb,es,rfl,D,q⟩:=JH q;obtain⟨a,rfl,l,J⟩:=B.ofDic;obtain⟨kvs,r,M,_⟩:=S.dict l J D;obtain⟨b,rfl,N⟩:=WC z;rcases X2 r with⟨w,W,k,g,F⟩|⟨_,g⟩
   .rw[g]at q
    cases q;exact ix_dT (by omega) f slice pQ s O H _ _ v u Q I t m ⟨a,b,kvs,_,w,rfl,rfl,N,M,k,p.at S F⟩ C
   .rw[g]at q;cases q
  .split at q
   .rename_i G
    cases B;cases z
    obtain⟨c,k,rfl⟩:=Zi0 q;exact ix_str f slice pQ s O H _ _ v u Q I t m ⟨_,_,c,rfl,rfl,aM G YS,k,p.at S (.str _)⟩ C
   .exact Zb q
  .exact Zb q
 .exact Zb e
def Xj(n d:Nat)(o:Ot Int):Dp.sIx n d o=HT.sIx n d o:=by cases o<;>rfl
def ZcA(r:Dens X.K ad H xs ds):Dens X.K ad H (cutV xs lo hi) (X6 ds lo hi):=by
 unfold cutV X6;rw[<-r.length,Xj,Xj];exact(r.drop _).take _
def Up{prog:a7}{w:bm}{A:bq}{E:vL->Sd->Prop}{t sl:Ad}{a:Array vL}{i g:vL}{Q:vL->Sd->Prop}(c:IsTup s.heap t a)(k:s.heap.IsSliceOf sl i g .none)(m:IsPart i lo)(l:IsPart g hi)(j:HT.sIx a.size 0 lo=0/\HT.sIx a.size a.size hi=a.size)(h:Q (.ref t) s):a0 (a6 prog w) A (getItem (.ref t) (.ref sl)) Q E s:=by
 obtain⟨n,d,e,o⟩:=id k;have f:s.TypeIs (.ref sl) "slice":=⟨n,d,e⟩;unfold getItem
 try with_reducible refine wpAny_holding ?_
 first|refine aA (aE ?_)|skip
 refine aA (wpAny_sequenceKey c.typeIs (by decide) ?_)
 refine aA (wpAny_callSpecial?_slot (name:=Str.ofString "__getitem__") c.typeIs PyProof.Rows.slot_tuple_getitem
  (wpAny_call_entry PyProof.Rows.slot_tuple_getitem c.typeIs PyProof.Rows.entry_tuple_getitem ?_ (PyProof.Rows.args_tuple_getitem _ _)))
 show a0 _ _ (Builtin.Tuple.tupleItemsOf (.ref t) >>= _) _ _ s;refine aA (tupleItemsOf_ c ?_);refine aA (wpAny_typeOf f ?_);rw[ao (by decide)]
 refine aA (HT.sliceApplied_gen k m l ?_);rw[j.1,j.2];have b:(((0:Nat):Int)==0&&(1:Int)==1&&(a.size - 0)==a.size)=ac:=by simp
 show a0 _ _ (if (((0:Nat):Int)==0&&(1:Int)==1&&(a.size - 0)==a.size)=ac then _ else _) _ _ s
 rw[ao b];unfold Builtin.Tuple.tupleIsExact
 wp_walk using wpAny_typeOf c.typeIs
 exact⟨_,rfl,aE h⟩
def Zd5:SlR X (λx lo hi H Q=>∃ a xs,x=.ref a/\SqT X.K H a xs/\(HT.sIx xs.length 0 lo=0/\HT.sIx xs.length xs.length hi=xs.length)/\Q (.ref a) H):=by
 intro pQ s O H x v m l lo hi sl Q I e k g f h;obtain⟨a,xs,rfl,i,j,q⟩:=h;cases e;obtain⟨c,r,d,n⟩:=I.tuple i;have b:c.toArray.size=xs.length:=by rw[aI];exact r.length.symm
 refine⟨"tuple",_,PyProof.Rows.slot_tuple_getitem.lookup,d.typeIs,?_⟩;exact Up d k g f (by rw[b];exact j) ⟨.ref a,H,I,rfl,q⟩
def Zls:SlR X (rSl X.K):=by
 intro pQ s O H x v i g lo hi sl Q I j n l k h;obtain⟨ad,st,t,d,st',S,f,e,p⟩:=h;unfold Yi at e;split at e
 .rename_i ds
  split at e
  .rename_i m
   cases e;obtain⟨a,xs,rfl,c,r⟩:=f.ofTup;refine Zd5 pQ s O H _ v i g lo hi sl Q I j n l k ⟨a,xs,rfl,c.sq,?_,p.at S f⟩;rw[r.length,<-Xj,<-Xj];exact m
  .rename_i m
   cases e;obtain⟨a,xs,rfl,c,r⟩:=f.ofTup;refine sl_tup pQ s O H _ v i g lo hi sl Q I j n l k ⟨a,xs,rfl,(c).sq,?_,λq b=>p _ ad _ (Ext.laid b) (S.laid b) (.tup (.inl upd_same) ((ZcA r).mono (Ext.laid b)))⟩
   rw[r.length,<-Xj,<-Xj];exact m
 .split at e
  .rename_i o
   cases e;obtain⟨a,rfl,c⟩:=f.ofLst;obtain⟨xs,r,sq⟩:=S.list c o;refine sl_list pQ s O H _ v i g lo hi sl Q I j n l k ⟨a,xs,rfl,sq,λq b=>p _ (ad++[q]) _ (Ext.push b) (S.push b (ZcA r)) (.newL ?_)⟩
   rw[<-S.len];exact Zu
  .exact Zb e
 .exact Zb e
def VP(h:Dens X.K ad H vs [d]):∃ v,vs=[v]/\Den X.K ad H v d:=by
 cases h with
 |cons h r=>cases r;exact⟨_,rfl,h⟩
def Zgm{e:D}(h:Dens X.K ad H vs [d,e]):∃ v w,vs=[v,w]/\Den X.K ad H v d/\Den X.K ad H w e:=by
 cases h with
 |cons h r=>
  cases r with
  |cons a r=>cases r;exact⟨_,_,rfl,h,a⟩
def YF{g:D->Za->Res}{r:D×Za}(h:on1 g ds st=aa r):∃ d,ds=[d]/\g d st=aa r:=by
 unfold on1 at h;split at h
 .exact⟨_,rfl,h⟩
 .exact Zb h
def UE{g:D->D->Za->Res}{r:D×Za}(h:on2 g ds st=aa r):∃ d e,ds=[d,e]/\g d e st=aa r:=by
 unfold on2 at h;split at h
 .exact⟨_,_,rfl,h⟩
 .exact Zb h
def Zbz:CallR X (.builtin "len") (rC X.K (on1 Q6)):=by
 intro pQ s O H xs b Q I r h;obtain⟨ad,st,ds,d,st',S,l,e,p⟩:=h;obtain⟨x,rfl,z⟩:=YF e;have e:=z;obtain⟨v,rfl,c⟩:=VP l;unfold Q6 at e;split at e
 .rename_i n q
  cases e;unfold Zfm at q;split at q
  .cases q
   obtain⟨a,ys,rfl,i,f⟩:=c.ofTup;refine call_len_seq pQ s O H _ b Q I r ⟨a,ys,rfl,.inr ((i).sq),?_⟩;rw[f.length];exact p.at S (.int _)
  .split at q
   .rename_i j
    cases q;obtain⟨a,rfl,i⟩:=c.ofLst;obtain⟨ys,f,sq⟩:=S.list i j;refine call_len_seq pQ s O H _ b Q I r ⟨a,ys,rfl,.inl sq,?_⟩;rw[f.length];exact p.at S (.int _)
   .cases q
  .cases q
   obtain⟨a,o,g,n,rfl,y,w,u,t,m⟩:=c.ofKt;refine call_len_seq pQ s O H _ b Q I r ⟨a,_,rfl,.inr (.inr ⟨o,g,n,y,w.1,u,t,m⟩),?_⟩;rw[aB];exact p.at S (.int _)
  .split at q
   .rename_i k
    cases q;cases c
    exact call_len pQ s O H _ b Q I r ⟨_,_,rfl,⟨aM k YS,rfl⟩,p.at S (.int _)⟩
   .cases q
  .cases q
 .exact Zb e
def QG:CallR X (.type "tuple") (rC X.K (on1 Qy)):=by
 intro pQ s O H xs g Q I r h;obtain⟨ad,st,ds,d,st',S,k,e,p⟩:=h;obtain⟨x,rfl,m⟩:=YF e;have e:=m;obtain⟨v,rfl,b⟩:=VP k;unfold Qy at e;split at e
 .cases e
  obtain⟨a,ys,rfl,f,i⟩:=b.ofTup;exact call_tuple_of pQ s O H _ g Q I r ⟨a,ys,rfl,.inr ⟨(f).sq,p.at S b⟩⟩
 .split at e
  .rename_i j
   cases e;obtain⟨a,rfl,f⟩:=b.ofLst;obtain⟨ys,i,sq⟩:=S.list f j;exact call_tuple_of pQ s O H _ g Q I r ⟨a,ys,rfl,.inl ⟨sq,λl c=>p _ ad _ (Ext.laid c) (S.laid c) (.tup (.inl upd_same) (i.mono (Ext.laid c)))⟩⟩
  .cases e
 .cases e
def JE:CallR X (.type "list") (rC X.K (on1 ZaJ)):=by
 intro pQ s O H xs g Q I r h;obtain⟨ad,st,ds,d,st',S,k,e,p⟩:=h;obtain⟨x,rfl,m⟩:=YF e;have e:=m;obtain⟨v,rfl,i⟩:=VP k;unfold ZaJ at e;split at e
 .cases e
  obtain⟨a,ys,rfl,f,c⟩:=i.ofTup;refine call_list_of pQ s O H _ g Q I r ⟨a,ys,rfl,.inr ((f).sq),λl b=>p _ (ad++[l]) _ (Ext.push b) (S.push b c) (.newL ?_)⟩
  rw[<-S.len];exact Zu
 .split at e
  .rename_i j
   cases e;obtain⟨a,rfl,f⟩:=i.ofLst;obtain⟨ys,c,sq⟩:=S.list f j;refine call_list_of pQ s O H _ g Q I r ⟨a,ys,rfl,.inl sq,λl b=>p _ (ad++[l]) _ (Ext.push b) (S.push b c) (.newL ?_)⟩
   rw[<-S.len];exact Zu
  .cases e
 .cases e
def Zby:CallR X (.type "int") (rC X.K (on1 Zhr)):=by
 intro pQ s O H xs a Q I r h;obtain⟨ad,st,ds,d,st',S,c,e,p⟩:=h;obtain⟨x,rfl,f⟩:=YF e;have e:=f;obtain⟨v,rfl,b⟩:=VP c;unfold Zhr at e;split at e
 .cases e;cases b
  exact call_int1 pQ s O H _ a Q I r (.inl ⟨_,rfl,p.at S (.int _)⟩)
 .cases e;cases b
  exact call_int1 pQ s O H _ a Q I r (.inr ⟨ac,rfl,p.at S (.int _)⟩)
 .cases e;cases b
  exact call_int1 pQ s O H _ a Q I r (.inr ⟨ae,rfl,p.at S (.int _)⟩)
 .exact Zb e
def ZbB(g:X.calm=ac):CallR X (.builtin "min") (rC X.K (on2 ZhB)):=by
 intro pQ s O H xs a Q I r h;obtain⟨ad,st,ds,d,st',S,f,e,p⟩:=h;obtain⟨x,y,rfl,i⟩:=UE e;have e:=i;obtain⟨v,w,rfl,c,b⟩:=Zgm f;unfold ZhB at e;split at e
 .cases e;cases c;cases b
  exact call_min2 g pQ s O H _ a Q I r ⟨_,_,rfl,p.at S (.int _)⟩
 .exact Zb e
def ZbA(g:X.calm=ac):CallR X (.builtin "max") (rC X.K (on2 Zhz)):=by
 intro pQ s O H xs a Q I r h;obtain⟨ad,st,ds,d,st',S,f,e,p⟩:=h;obtain⟨x,y,rfl,i⟩:=UE e;have e:=i;obtain⟨v,w,rfl,c,b⟩:=Zgm f;unfold Zhz at e;split at e
 .cases e;cases c;cases b
  exact call_max2 g pQ s O H _ a Q I r ⟨_,_,rfl,p.at S (.int _)⟩
 .exact Zb e
noncomputable def tyN:Ty->String
 |.int => "int"
 |.bool => "bool"
 |.str => "str"
 |.tuple => "tuple"
noncomputable def Zdh:D->String
 |.int _ => "int"
 |.bl _ => "bool"
 |.str _ => "str"
 |.tup _ => "tuple"
 |.non => "NoneType"
 |_ => "list"
def Zdi(K:Fg){T:Ty}(h:Zhv T d=aa k):W.kitOne K (.type (Zdh d)) (.type (tyN T))=aa k:=by
 cases d<;>first | (cases h;done) | (cases T<;>(cases h;rfl))
def Zj2{K:Fg}{v:V}{T:Ty}(h:Zhv T d=aa k)(c:Den K ad H v d):TyOf K H v (.type (Zdh d))\/∃ a xs,v=.ref a/\SqT K H a xs/\Zdh d = "tuple":=by
 cases c with
 |non=>exact .inl .non
 |bl b=>exact .inl (.bl b)
 |int i=>exact .inl (.int i)
 |str x=>exact .inl (.str x)
 |tup e r=>exact .inr ⟨_,_,rfl,e.sq,rfl⟩
 |lst e=>exact Zb h
 |dic _ _=>exact Zb h
 |dct _ _ _ _ _=>exact Zb h
 |obj _ _=>exact Zb h
 |kt _ _ _ _ _ _=>exact Zb h
def Zcu{T:Ty}:CallR X (.builtin "isinstance") (λvs H Q=>∃ v,vs=[v,.ty (tyN T)]/\rC X.K (on1 (Zdf T)) [v] H Q):=by
 intro pQ s O H xs D Q I r h;obtain⟨v,rfl,ad,st,ds,d,st',S,u,e,p⟩:=h;obtain⟨x,rfl,B⟩:=YF e;have e:=B;obtain⟨w,n,t⟩:=VP u;cases n;unfold Zdf at e;split at e
 .rename_i k q
  cases e;cases r with
  |cons b i=>
   cases i with
   |cons g f=>
    cases f;cases g;rcases Zj2 q t with ty|⟨a,C,rfl,sq,l⟩
    .exact isinst_ok I b ty (Zdi X.K q) λc=>⟨.bl k,H,I.tok _,rfl,p.at S (.bl k)⟩
    .have kt:=Zdi X.K q
     rw[l]at kt;cases b;obtain⟨m,_,j,_⟩:=I.tuple sq;obtain⟨o,A,y,_⟩:=j;exact W.kia_one W.kitx_tuple I.kIn ⟨o,A,y⟩ kt (λz=>nomatch z) λc=>⟨.bl k,H,I.tok _,rfl,p.at S (.bl k)⟩
 .exact Zb e
variable [ClsTab]
def tDd(K:Fg)(c d:TE):TE:=λO H Q=>∀ p,H p=ab->(∀ o,K.lookup p≠aa o)->c O (upd H p (.dT [])) λx e=>d O e λv a=>∃ kvs b k,a p=aa (.dT kvs)/\kvs.length < ax/\x=.ref b/\a b=aa (.tup (k.map kV))/\Q (.ref p) (upd a p (.dT (putK kvs k v)))
def Zjs(hu:X.A.units+1 < cLine){f:Pos}{a e:ay}{j l:TE}(L:PE X a j)(G:PE X e l):PE X (.Dict [aa a] [e] f) (tDd X.K j l):=by
 intro pQ s O H Q I q;have F:=I.hok.fresh (aD s.heap.objs.size);have U:=I.laid (a:=s.heap.objs.size) (o:=.dT []) (h':=s.heap.push { cls:=.type "dict",data:=.dict #[] }) (t':=s.toks) (λ_ _ q=>aL _ q) (aD _) (dt_empty s.heap I.big)
 refine wpAny_Dict_any rfl rfl (by simp) (by show 1<=15;decide) (pairTrees_cons_walk (thn (L pQ _ O _ _ U (q _ F λo z=>ar (aJ (I.kIn _ o z)) (bZ _))) λu s1 ⟨x,W,T,y,C⟩=>thn (G pQ s1 O W _ T C) λY Z ⟨v,V,i,rv,kvs,b,k,g,p,ex,t,B⟩=>pairTrees_nil_walk ?_))
 subst ex;cases (show u=bu b from y)
 obtain⟨z,J,xs,d,dd⟩:=dt_of i.hok g;have D:xs.length<=ax:=by rw[<-Paired.length d];exact z
 have p:(putK kvs k v).length<=ax:=by have:=length_putK kvs k v;omega
 unfold storeAll;rw[dG];refine aA (aA (wpAny_dictSet_heap (hsz:=D) (show(tupleKind (mixKind X.prog X.w)).room X.A from Nat.lt_of_succ_lt hu) (key_of i.hok t) dd λh' h E=>aE ?_))
 dsimp only;rw[List.forIn_nil];refine aE ?_;obtain⟨m,es,S,n,R,P,N,_,M⟩:=h;refine⟨.ref _,upd V _ (.dT (putK kvs k v)),d_write i (by rw[g];exact True.intro) E ⟨m,n⟩ ⟨p,J,_,(d.put k t rv).keeps λc ys r=>?_,m,es,S,n,R,P,N,M⟩,rfl,B⟩
 rw[upd_ne (ne_of r g (λz=>nomatch z))]
 exact r
variable{fa:Ev}
def Zhn{D C:Ev}(O:L2.St)(H:Hp)(Q:VK)(h:tE X.K (ddE fa D C) O H Q):tDd X.K (tTup (tCons (tE X.K fa) (tCons (tE X.K D) tNil))) (tE X.K C) O H Q:=by
 obtain⟨ad,U,st,d,st',E,S,e,p⟩:=h;unfold ddE at e;split at e
 .rename_i i g P
  split at e
  .rename_i j f N
   split at e
   .rename_i z m M
    split at e
    .rename_i xs w
     split at e
     .rename_i R
      cases e;intro q y B;have k:=S.extD (kvs:=[]) y B;refine⟨ad++[q],U,st++[(ac,[])],.int i,g,E.mono k,S.pushD y B,P,λw1 o H1 l Z W=>⟨o,U,g,.int j,f,E.mono (k.trans l),Z,N,λw2 c I v Y V=>⟨show 2<=ax by decide,λt x=>?_⟩⟩⟩
      cases W.ofInt;cases V.ofInt;have u:Ext c I c (upd I t (.tup [.int i,.int j])):=Ext.laid x;refine⟨c,U,f,z,m,E.mono (k.trans (l.trans (v.trans u))),Y.laid x,M,λL b G s F T=>?_⟩
      have X:=l.trans (v.trans (u.trans s));have A:(ad++[q])[st.length]?=aa q:=by rw[<-S.len];exact Zu
      have a:=X.pre _ _ A;obtain⟨kvs,r,n,_⟩:=F.dict a ((X.kd _ _ A).mp ⟨_,upd_same⟩) w;have J:Ext b G b (upd G q (.dT (putK kvs [.inl i,.inl j] L))):=Ext.writeD n (aY a);exact⟨kvs,t,[.inl i,.inl j],n,by rw[Vc r];exact aU R (by decide),rfl,s.tup t _ upd_same,p _ b _ (k.trans (X.trans J)) (F.writeD a w n (QP T r)) (.dic a ⟨_,upd_same⟩)⟩
     .exact Zb e
    .exact Zb e
   .exact Zb e
  .exact Zb e
 .exact Zb e
def Zfa{K:Fg}(O:L2.St)(H:Hp)(Q:VK)(h:tE K (Zo fa Zfy) O H Q):tBM0 K "list" rPop (tE K fa) O H Q:=by
 obtain⟨ad,U,st,d,st',E,S,e,p⟩:=h;unfold Zo at e;split at e
 .rename_i x c q
  unfold Zfy at e;split at e
  .rename_i i
   split at e
   .rename_i ds j
    obtain⟨w,o,e⟩:=dU.mp e;cases e;refine⟨ad,U,st,.lst i,c,E,S,q,λv a m n k u=>?_⟩
    obtain⟨l,rfl,f⟩:=u.ofLst;obtain⟨xs,r,b⟩:=k.listM f j;obtain⟨y,s,t⟩:=r.get o;have g:Ext a m a (upd m l (.lst xs.dropLast)):=Ext.write b (aY f.1);refine⟨.inl ⟨rfl,xs,.inl (.inl b)⟩,l,xs,y,rfl,rfl,b,by rw[r.length];exact s,p _ a _ (n.trans g) (k.write f j b ?_) (t.mono g)⟩
    rw[List.dropLast_eq_take,List.dropLast_eq_take,r.length];exact r.take _
   .exact Zb e
  .exact Zb e
 .exact Zb e
def ZdU(K:Fg):V->Li V->Hp->VK->Prop:=λx vs H Q=>∃ p kvs b k,x=.ref p/\H p=aa (.dT kvs)/\SqT K H b (k.map kV)/\((vs=[.ref b]/\Q ((valV kvs k).getD .non) H)\/∃ a,vs=[.ref b,a]/\Q ((valV kvs k).getD a) H)
def UG{a:Ot V}{b:Ot vL}{x:V}{u:vL}(h:L2.RelO a b)(r:L2.RelV x u):L2.RelV (a.getD x) (b.getD u):=by
 cases a with
 |none=>cases b with
  |none=>exact r
  |some _=>exact h.elim
 |some _=>cases b with
  |none=>exact h.elim
  |some _=>exact h
def ZaT(hu:X.A.units+1 < cLine):MtM X "dict.get" (ZdU X.K):=by
 intro pQ s O H x vs v u Q I j rv h;obtain⟨p,kvs,b,k,rfl,o,r,h⟩:=h;cases j;obtain⟨t,e,xs,a,dd⟩:=dt_of I.hok o;obtain⟨n,l,i,_⟩:=I.tuple r;have d:=key_at (P:=X.prog) (w:=X.w) l i;rcases h with⟨rfl,q⟩|⟨y,rfl,q⟩
 .obtain⟨g,rfl,c⟩:=rv.one
  cases c;exact call_meetsIn PySem.F.slot_dict_get dd.typeIs PySem.F.entry_dict_get (PySem.F.args_dict_get_2 _ _) (meetsH_dict_get (tupleKind (mixKind X.prog X.w)) p b e) ⟨tupleKind_room_in1 hu,k,xs,d,dd,⟨_,H,I.tok _,UG (x:=V.non) (a.val k) (show L2.RelV .non .none from rfl),q⟩⟩
 .obtain⟨g,f,rfl,c,m⟩:=rv.two
  cases c;exact call_meetsIn PySem.F.slot_dict_get dd.typeIs PySem.F.entry_dict_get (PySem.F.args_dict_get_3 _ _ _) (meetsH_dict_get_default (tupleKind (mixKind X.prog X.w)) p b e f) ⟨tupleKind_room_in1 hu,k,xs,d,dd,⟨_,H,I.tok _,UG (a.val k) m,q⟩⟩
def Zgr{x y z:D}{st':Za}(h:gtD x y z st=aa (d,st')):∃ a i j b ds,x=.dic a/\y=.tup [.int i,.int j]/\st[a]?=aa (b,ds)/\d=(Yr ds i j).getD z/\st'=st:=by
 unfold gtD at h;split at h
 .obtain⟨o,f,c⟩:=dU.mp h
  cases c;obtain⟨i,j,b,ds,rfl,e,rfl⟩:=JH f;exact⟨_,i,j,b,ds,rfl,rfl,e,rfl,rfl⟩
 .exact Zb h
def Ze3{C fd:Ev}(O:L2.St)(H:Hp)(Q:VK)(h:tE X.K (YQ fa C fd gtD) O H Q):tBM X.K "dict" (ZdU X.K) (tE X.K fa) (tCons (tE X.K C) (tCons (tE X.K fd) tNil)) O H Q:=by
 obtain⟨ad,U,st,d,st',E,S,e,p⟩:=h;unfold YQ at e;split at e
 .rename_i x g M
  split at e
  .rename_i y f L
   split at e
   .rename_i z G J
    obtain⟨a,i,j,bb,ds,rfl,rfl,I,rfl,rfl⟩:=Zgr e;refine⟨ad,U,st,_,g,E,S,M,λv1 t H1 m Z W=>?_⟩
    obtain⟨l,rfl,B,n⟩:=W.ofDic;refine⟨.inr (.inr (.inl ⟨rfl,.inr n⟩)),t,U,g,_,f,E.mono m,Z,L,λv2 s H2 A Y V=>⟨s,U,f,_,_,E.mono (m.trans A),Y,J,λF k D v u T=>?_⟩⟩
    have c:=A.trans v;obtain⟨kvs,r,N,_⟩:=u.dict (c.pre _ _ B) ((c.kd _ _ B).mp n) I;obtain⟨b,rfl,P⟩:=WC (V.mono v);refine⟨l,kvs,b,_,rfl,N,P,.inr ⟨F,rfl,?_⟩⟩;rcases X2 r with⟨w,d0,q,o,R⟩|⟨q,o⟩
    .rw[q];rw[o]at p
     exact p _ k D (m.trans c) u R
    .rw[q];rw[o]at p
     exact p _ k D (m.trans c) u T
   .exact Zb e
  .exact Zb e
 .exact Zb e
def Ze2{v:Ev}(O:L2.St)(H:Hp)(Q:VK)(h:tE X.K (YQ fa v (evC .non) gtD) O H Q):tBM X.K "dict" (ZdU X.K) (tE X.K fa) (tCons (tE X.K v) tNil) O H Q:=by
 obtain⟨ad,U,st,d,st',E,S,e,p⟩:=h;unfold YQ at e;split at e
 .rename_i x c C
  split at e
  .rename_i y m B
   obtain⟨a,i,j,R,ds,rfl,rfl,A,rfl,rfl⟩:=Zgr (show gtD x y .non m=aa (d,st') from e);refine⟨ad,U,st,_,c,E,S,C,λN s T k L J=>?_⟩
   obtain⟨l,rfl,u,n⟩:=J.ofDic;refine⟨.inr (.inr (.inl ⟨rfl,.inr n⟩)),s,U,c,_,_,E.mono k,L,B,λM f z g t I=>?_⟩
   obtain⟨kvs,r,D,_⟩:=t.dict (g.pre _ _ u) ((g.kd _ _ u).mp n) A;obtain⟨b,rfl,F⟩:=WC I;refine⟨l,kvs,b,_,rfl,D,F,.inl ⟨rfl,?_⟩⟩;rcases X2 r with⟨w,P,q,o,G⟩|⟨q,o⟩
   .rw[q];rw[o]at p
    exact p _ f z (k.trans g) t G
   .rw[q];rw[o]at p
    exact p _ f z (k.trans g) t .non
  .exact Zb e
 .exact Zb e
end Dp
namespace Dp
open PySem PySem.Spec PyProof.Rows L2 PySem.W
variable [ClsTab]
variable{n:Nat}
section
variable{α β:Type}{ok:α->Prop}{ok':β->Prop}
def TOk(n:Nat)(ok:α->Prop):KasT α->Prop
 |.ret a=>ok a
 |.ask i j k=>i < n/\j < n/\∀ b,TOk n ok (k b)
omit [ClsTab] in
theorem TOk.bind{f:α->KasT β}(h:∀ a,ok a->TOk n ok' (f a)):∀ {t:KasT α},TOk n ok t->TOk n ok' (t.bind f)
 |.ret a,x=>h a x
 |.ask _ _ _,x=>⟨x.1,x.2.1,λb=>TOk.bind h (x.2.2 b)⟩
omit [ClsTab] in
theorem TOk.go{f:Nat->Nat->Bool}:∀ {t:KasT α},TOk n ok t->ok (goT f t)
 |.ret _,x=>x
 |.ask i j k,x=>TOk.go (t:=k (f i j)) (x.2.2 (f i j))
omit [ClsTab] in
theorem TOk.wp{f:Nat->Nat->Bool}{cmp:Nat->Nat->(Bool->Sd->Prop)->Sd->Prop}{G:α->Sd->Prop}{s:Sd}(a:∀ i j C,i < n->j < n->C (f i j) s->cmp i j C s):∀ {t:KasT α},TOk n ok t->G (goT f t) s->t.kasWp cmp G s
 |.ret _,_,h=>h
 |.ask i j _,x,h=>a i j _ x.1 x.2.1 (TOk.wp a (x.2.2 (f i j)) h)
end
abbrev PrA(n:Nat)(p:Array Nat):Prop:=p.Perm (ag n).toArray
section
variable{p:Array Nat}
omit [ClsTab] in
def PrA.lt(h:PrA n p)(b:0 < n)(i:Nat):p.getD i 0 < n:=by
 by_cases a:i < p.size
 .have m:p[i]∈(ag n).toArray:=(Array.Perm.mem_iff h).mp (Array.getElem_mem a)
  have e:p.getD i 0=p[i]:=by simp[Array.getD,a]
  rw[e];simpa using m
 .have e:p.getD i 0=0:=by simp[Array.getD,a]
  rw[e];exact b
omit [ClsTab] in
def PrA.rev(h:PrA n p)(i j:Nat):PrA n (kas_rev p i j):=(mirror_perm _ _ _ _).trans h
omit [ClsTab] in
theorem Jt(h:PrA n p)(a:0 < n):∀ (f k:Nat),TOk n (λ_=>True) (kas_asc p f k)
 |0,_=>trivial
 |f+1,k=>⟨h.lt a _,h.lt a _,λb=>by
  cases b with
  |true=>exact trivial
  |false=>exact Jt h a f (k+1)⟩
omit [ClsTab] in
theorem Vu(a:0 < n):∀ (f:Nat) {p:Array Nat} (k q:Nat),PrA n p->TOk n (λr=>PrA n r.1) (kas_desc f p k q)
 |0,_,_,_,h=>h
 |f+1,p,k,q,h=>⟨h.lt a _,h.lt a _,λb=>by
  cases b with
  |true=>
   show TOk n _ (if q > 0 then _ else _)
   split
   .exact Vu a f _ _ (h.rev _ _)
   .exact Vu a f _ _ h
  |false=>exact⟨h.lt a _,h.lt a _,λd=>by
    cases d with
    |true=>exact h
    |false=>exact Vu a f _ _ h⟩⟩
omit [ClsTab] in
def Zbe(h:PrA n p)(a:0 < n)(k m:Nat):TOk n (λr=>PrA n r.2) (kas_tail3 k m p):=TOk.bind (ok':=λr:Nat×Array Nat=>PrA n r.2) (f:=λm=>.ret (m,kas_rev p 0 k)) (λ_ _=>h.rev 0 k) (Jt (h.rev _ _) a _ _)
omit [ClsTab] in
def QM(h:PrA n p)(a:0 < n)(k m:Nat):TOk n (λr=>PrA n r.2) (kas_descPart k m p):=(Vu a _ _ _ h).bind λr b=>by
 split
 .exact Zbe (b.rev _ _) a _ _
 .exact Zbe b a _ _
omit [ClsTab] in
def Zcy(h:PrA n p)(a:0 < n)(m:Nat):TOk n (λr=>PrA n r.2) (kas_count m p):=(Jt h a _ _).bind λk _=>by
 split
 .exact h
 .split
  .exact⟨h.lt a _,h.lt a _,λc=>by
    cases c with
    |true=>exact h
    |false=>exact QM (h.rev _ _) a _ _⟩
  .exact QM h a _ _
omit [ClsTab] in
theorem Ua(h:PrA n p)(a:0 < n)(k:Nat):∀ (f l r:Nat),TOk n (λ_=>True) (kas_place p k f l r)
 |0,_,_=>trivial
 |f+1,l,r=>by
  unfold kas_place;split
  .exact trivial
  .exact⟨h.lt a _,h.lt a _,λc=>by
    cases c with
    |true=>exact Ua h a k f _ _
    |false=>exact Ua h a k f _ _⟩
omit [ClsTab] in
theorem Zcl(a:0 < n):∀ (f:Nat) {p:Array Nat} (k:Nat),PrA n p->TOk n (PrA n) (kas_bin f p k)
 |0,_,_,h=>h
 |f+1,p,k,h=>(Ua h a k _ _ _).bind λl _=>Zcl a f _ ((bubble_perm _ _ _).trans h)
omit [ClsTab] in
def Qt(b:0 < n):TOk n (PrA n) (kas_sort n):=(Zcy (Array.Perm.refl _) b _).bind λr a=>by
 split
 .exact Zcl b _ _ a
 .exact a
end
variable{prog:a7}{w:bm}{A:bq}{E:vL->Sd->Prop}{s:Sd}
omit [ClsTab] in
def Zf1{a:Ad}{vs:Li vL}{n:Nat}{P:PySem.Fin->Sd->Prop}{κ:SortKind}{f:Nat->Nat->Bool}(t:s.heap.get? a=aa (seqObj "list" vs.toArray n))(v:vs.length < 64)(K:∀ k,(∀ b o,b≠a->s.heap.get? b=aa o->k.get? b=aa o)->2<=vs.length->∀ (Q:SortKind->Sd->Prop),Q κ { s with heap:=k }->a0 (a6 prog w) A (keyKind' vs.toArray) Q (λ_ _=>False) { s with heap:=k })(M:∀ k,(∀ b o,b≠a->s.heap.get? b=aa o->k.get? b=aa o)->∀ i j C,i < vs.length->j < vs.length->C (f i j) { s with heap:=k }->kas_ask prog w A κ vs i j C { s with heap:=k })(h:P (.done (.ret .none)) { s with heap:=sortedHeap s.heap a vs (pick f bv vs).toArray }) :
  a0 (a6 prog w) A (Builtin.«list.sort» ⟨[.ref a],[]⟩) P E s:=by
 rw[list_sort_plain];have J:a < s.heap.objs.size:=aJ t;refine aA (listItems_at t rfl ?_);refine aA (listUpdate_at t rfl ?_ (by rw[aI,sizeLine_eq];omega) (aS _))
 obtain⟨z,m⟩:∃ z,(s.heap.update a (Obj.mapSeq λ_=>#[])).get? a=aa (seqObj "list" #[] z):=⟨_,get?_update_seq t (λ_=>#[])⟩
 refine aA (seqEpoch_at m rfl ?_);refine aA (wpAny_newTuple ?_ (by show vs.length<=_;rw[sizeLine_eq];omega))
 refine aA (wpAny_newList ?_ (aS _));refine wpAny_holding ?_;have c:(((s.heap.update a (Obj.mapSeq λ_=>#[])).push (seqObj "tuple" vs.toArray 0)).push (seqObj "list" #[] 0)).get? a=aa (seqObj "list" #[] z):=aL _ (aL _ m)
 have B:∀ b o,b≠a->s.heap.get? b=aa o->(((s.heap.update a (Obj.mapSeq λ_=>#[])).push (seqObj "tuple" vs.toArray 0)).push (seqObj "list" #[] 0)).get? b=aa o:=λb o F q=>
  aL _ (aL _ (by rw[Heap.get?_update_ne _ _ _ _ F];exact q))
 show a0 (a6 prog w) A _ P E { s with heap:=((s.heap.update a (Obj.mapSeq λ_=>#[])).push (seqObj "tuple" vs.toArray 0)).push (seqObj "list" #[] 0) }
 dsimp only;by_cases d:vs.toArray.size < 2
 .rw[ao d,ao d]
  refine aA (aE ?_);rw[StateT.run_pure];refine aA (aE ?_);dsimp only;have y:(arrOf (SortSt.mk' general' (vs.toArray.zip vs.toArray) #[] 7 ab)).map (·.2)=(pick f bv vs).toArray:=by
   unfold pick;rw[ao (by simpa using d)]
   show(vs.toArray.zip vs.toArray).map (·.2)=_;apply Array.toList_inj.mp
   simp only[Array.toList_map,Array.toList_zip,List.toList_toArray];exact List.map_snd_zip (aD _)
  rw[y];refine aA (seqEpoch_at c rfl ?_);refine aA (listUpdate_at c rfl ?_ (aS _) (by unfold pick;rw[ao (by simpa using d),aI,sizeLine_eq];omega))
  simp only[bne_self_eq_false,dW,if_false];exact aE h
 .rw[aq d,aq d]
  have r:2<=vs.length:=by rw[aI]at d;omega
  refine aA (bH (K _ B r (λl g=>l=κ/\g=_) ⟨rfl,rfl⟩) (λl g I=>?_) λ_ _ x=>x.elim)
  obtain⟨rfl,rfl⟩:=I;have T:=Qt (n:=vs.length) (by omega)
  refine aA (bH (kat_run (Q:=λst' g=>g={ s with heap:=((s.heap.update a (Obj.mapSeq λ_=>#[])).push (seqObj "tuple" vs.toArray 0)).push (seqObj "list" #[] 0) }/\arrOf st'=(goT f (kas_sort vs.length)).map (kas_item (vs.toArray.zip vs.toArray))/\failedOf st'=ab)
   (G:=λp g=>p=goT f (kas_sort vs.length)/\g={ s with heap:=((s.heap.update a (Obj.mapSeq λ_=>#[])).push (seqObj "tuple" vs.toArray 0)).push (seqObj "list" #[] 0) })
   rfl r v (λp st' g _ S R D=>⟨D.2,by rw[S,D.1],R⟩) (T.wp (λi j C O d N=>M _ B i j C O d N) ⟨rfl,rfl⟩)) ?_ λ_ _ e=>e)
  rintro⟨⟨⟩,st'⟩ g ⟨rfl,u,L⟩
  dsimp only;have y:(arrOf st').map (·.2)=(pick f bv vs).toArray:=by
   rw[kat_snds rfl u];unfold pick;rw[aq (by omega)]
  rw[y];have H:(pick f bv vs).toArray.size<=ax:=by
   unfold pick;rw[aq (by omega),aI,aB,cN,(T.go (f:=f)).size_eq,aI,bM,sizeLine_eq]
   omega
  refine aA (seqEpoch_at c rfl ?_);refine aA (listUpdate_at c rfl ?_ (aS _) (Nat.le_succ_of_le H));rw[L];simp only[bne_self_eq_false,dW,if_false];exact aE h
section
variable{d:Ad}{es:Array DictEntry}{ep:Nat}
def Raw(h:bj)(d:Ad)(es:Array DictEntry)(ep:Nat):Prop:=∃ o,h.get? d=aa o/\o.ExactDict/\o.data=.dict es ep
omit [ClsTab] in
def Raw.typeIs{d:Ad}{es:Array DictEntry}{ep:Nat}(x:Raw s.heap d es ep):s.TypeIs (.ref d) "dict":=let ⟨o,ho,hc,_⟩:=x;⟨o,ho,hc.1⟩
omit [ClsTab] in
def ZdJ:Builtin.Dict_items.ownsTuple "dict_keyiterator"=ae:=by decide
omit [ClsTab] in
theorem Zdy{b:Ad}{i:Nat}{Q:Ot vL->Sd->Prop}(a:s.heap.IsKeyIter b d i es.size ep)(l:Raw s.heap d es ep)(j:i < es.size)(p:∀ k,k.IsKeyIter b d (i+1) es.size ep->Heap.SameBut b s.heap k->Q (aa es[i].key) { s with heap:=k }):a0 (a6 prog w) A (pyNext (.ref b)) Q E s:=by
 obtain⟨o,h,n,g⟩:=id a;obtain⟨q,e,m,f⟩:=id l;unfold pyNext;refine aA (wpAny_attempt (wpAny_callSpecial?_slot (name:=Str.ofString "__next__") a.typeIs F.slot_dict_keyiterator_next (wpAny_call_entry F.slot_dict_keyiterator_next a.typeIs F.entry_dict_keyiterator_next ?_ (F.args_dict_keyiterator_next_1 _))));refine aA (aE (aA (aA ?_)))
 refine aA (wpAny_typeNameOfWhole_keyiter a.typeIs (aE (aA (wpAny_fieldsOf h g ?_))));simp only[ZdJ,dW,if_false];show a0 _ _ (if (bu d==bv)=ac then _ else _) _ _ s
 rw[aq (show ¬((bu d==bv)=ac) from Bf)];refine aA (aE (aA (wpAny_dictEntries e f ?_)));rw[aq (by simp)]
 refine aA (aE (aA (wpAny_dictEpoch e f ?_)));rw[aq (by simp)]
 refine aE ?_;simp only[show ¬((i:Int) < 0) from by omega,if_false,bD,eX j]
 refine aA (aA (wpAny_typeNameOfWhole_keyiter a.typeIs (aE (aA (wpAny_isOneOf_keyiter a.typeIs ?_)))));show a0 _ _ (setField (.ref b) 1 (rawInt ((i:Int)+1)) >>= _) _ _ s;refine aA (wpAny_setField h g (by simp) ?_)
 have c:(s.heap.update b (Obj.mapFields (·.setIfInBounds 1 (rawInt ((i:Int)+1))))).IsKeyIter b d (i+1) es.size ep:=
  ⟨_,Heap.get?_update_self _ h (Obj.isFreed_of_fields (Obj.data_mapFields g _)),(Obj.cls_mapFields ..).trans n,by rw[Obj.data_mapFields g];simp[rawInt]⟩
 refine aA (wpAny_holding (aA (wpAny_isOneOf_keyiter (s:={ s with heap:=s.heap.update b (Obj.mapFields (·.setIfInBounds 1 (rawInt ((i:Int)+1)))) }) c.typeIs ?_)))
 show a0 _ _ (pure es[i].key) _ _ _;exact aE (aE ⟨_,rfl,aE (p _ c (Heap.SameBut.update ..))⟩)
omit [ClsTab] in
theorem ZeV{g:Ad}{Q:Ot vL->Sd->Prop}(l:A.handled=ab)(c:s.heap.IsKeyIter g d es.size es.size ep)(k:Raw s.heap d es ep)(p:∀ j,Heap.ExtBut g s.heap j->Q ab { s with heap:=j }):a0 (a6 prog w) A (pyNext (.ref g)) Q E s:=by
 obtain⟨o,h,r,i⟩:=id c;obtain⟨q,e,n,f⟩:=id k;unfold pyNext;refine aA (wpAny_attempt (wpAny_callSpecial?_slot (name:=Str.ofString "__next__") c.typeIs F.slot_dict_keyiterator_next (wpAny_call_entry F.slot_dict_keyiterator_next c.typeIs F.entry_dict_keyiterator_next ?_ (F.args_dict_keyiterator_next_1 _))));refine aA (aE (aA (aA ?_)))
 refine aA (wpAny_typeNameOfWhole_keyiter c.typeIs (aE (aA (wpAny_fieldsOf h i ?_))));simp only[ZdJ,dW,if_false];show a0 _ _ (if (bu d==bv)=ac then _ else _) _ _ s
 rw[aq (show ¬((bu d==bv)=ac) from Bf)];refine aA (aE (aA (wpAny_dictEntries e f ?_)));rw[aq (by simp)]
 refine aA (aE (aA (wpAny_dictEpoch e f ?_)));rw[aq (by simp)]
 refine aE ?_;simp only[show ¬((es.size:Int) < 0) from by omega,if_false,bD,Array.getElem?_eq_none (aD es.size)]
 refine aA (aA (wpAny_typeNameOfWhole_keyiter c.typeIs (aE ?_)));show a0 _ _ (setField (.ref g) 0 .none >>= _) _ _ s;refine aA (wpAny_setField h i (by simp) ?_)
 show a0 _ _ (newExc (.type "StopIteration") [] >>= _) _ _ _;refine aA ?_;simp only[newExc,newTuple];refine aA (wpAny_newObj_type ?_ (by size_fits))
 refine aA (m:=firstArgMember _ _) (wpAny_of_eq (a:=bv) (by first|rfl | (simp only[firstArgMember];rfl)) (wpAny_newObj_type ?_ (by size_fits)))
 simp only[raiseNew];refine aA (wpAny_handled ?_);rw[show A.in1.handled=ab from l];refine aA (aE (wpAny_throw ?_));exact aA (wpAny_isInstance (T := "StopIteration") (b:=ac) ⟨_,aX _ rfl,rfl⟩ isSubtype_stop (aE (p _ (((Heap.SameBut.update ..).extBut.push _).push _))))
omit [ClsTab] in
def Raw.at{h a:bj}(x:Raw h d es ep)(e:∀ o,h.get? d=aa o->a.get? d=aa o):Raw a d es ep:=let ⟨o,ho,r⟩:=x;⟨o,e _ ho,r⟩
omit [ClsTab] in
def Raw.lt{h:bj}(x:Raw h d es ep):d < h.objs.size:=let ⟨_,ho,_⟩:=x;aJ ho
omit [ClsTab] in
def ZbX(p:A.handled=ab)(I:Ad)(j:d≠I):Walks prog w A I [I,d] [I] es.size (λi v=>∃ e,es[i]?=aa e/\v=e.key) (λi h=>h.IsKeyIter I d i es.size ep/\Raw h d es ep) where
 sub:=λb a=>by simp at a;simp[a]
 frame:=λ_ _ _ st m=>⟨st.1.at λo e=>m I (by simp) o e,st.2.at λo e=>m d (by simp) o e⟩
 item:=λi s Q E n st g=>Zdy st.1 st.2 n λl f c=>g _ l s.toks ⟨_,eX n,rfl⟩ ⟨f,st.2.at λo e=>c.extBut d o j e⟩ λb o a e=>c.extBut b o (λh=>a (by simp[h])) e
 done:=λs Q E st g=>ZeV p st.1 st.2 λl k=>g l s.toks λb o a e=>k b o (λh=>a (by simp[h])) e
 self:=λ_ _ _ _ st g=>wpAny_pyIter_keyiter st.1 g
omit [ClsTab] in
theorem ZbQ{Q:vL->Sd->Prop}(hd:(d==bp)=ae)(e:Raw s.heap d es ep)(f:Q (.ref s.heap.objs.size) { s with heap:=s.heap.push { cls:=.type "dict_keyiterator",data:=.fields #[.ref d,.int 0 0,.int es.size 0,.int ep 0] } }) :
  a0 (a6 prog w) A (pyIter (.ref d)) Q E s:=by
 obtain⟨o,c,g,a⟩:=id e;have b:s.TypeIs (.ref d) "dict":=e.typeIs;refine wpAny_pyIter_slot b F.slot_dict_iter (wpAny_call_entry F.slot_dict_iter b F.entry_dict_iter ?_ (F.args_dict_iter_1 _));unfold Builtin.«dict.__iter__»
 refine aA ?_;unfold Builtin.Dict.dictSlotNone;refine aA (wpAny_notOrdered_dict b ?_);show a0 _ _ (pure (bu d)) _ _ s;refine aE ?_;show a0 _ _ (Builtin.Dict.showsAll d >>= _) _ _ s;unfold Builtin.Dict.showsAll;rw[aq (by rw[hd];exact Bf)]
 refine aA (aE ?_);refine aA (wpAny_dictEntries c a ?_);refine aA (wpAny_dictEpoch c a ?_);refine aA (wpAny_newObj_type (aE ⟨_,rfl, "dict_keyiterator",_,⟨_,aX _ rfl,rfl⟩,F.slot_dict_keyiterator_next.lookup,?_⟩));simpa[rawInt] using f
omit [ClsTab] in
def Zea(hd:(d==bp)=ae):KdlSrc prog w "dict" d d es.size (λi v=>∃ e,es[i]?=aa e/\v=e.key) (λh=>Raw h d es ep) where
 type:=λ_ a=>a.typeIs
 there:=λ_ a=>⟨a.lt,a.lt⟩
 keep:=λ_ _ a c=>a.at λo e=>c d (.inl rfl) o e
 notList:=by decide
 notTuple:=by decide
 hint:=λ_ _ _ _ a b=>kdl_hint_dict a.typeIs b
 iter:=λ_ _ f a=>⟨_,_,(λ_ _ b=>ZbQ hd a b),ZbX f _ (aZ a.lt),⟨⟨_,aX _ rfl,rfl,rfl⟩,a.at λo e=>aL _ e⟩⟩
omit [ClsTab] in
def J8{vs:Li vL}{κ:SortKind}{f:Nat->Nat->Bool}{Q:vL->Sd->Prop}(H:A.handled=ab)(hd:(d==bp)=ae)(F:Raw s.heap d es ep)(B:es.toList.map (·.key)=vs)(x:vs.length < 64)(G:∀ a g,(∀ b o,s.heap.get? b=aa o->a.get? b=aa o)->2<=vs.length->∀ (Q:SortKind->Sd->Prop),Q κ { s with heap:=a,toks:=g }->a0 (a6 prog w) A.in1.in1 (keyKind' vs.toArray) Q (λ_ _=>False) { s with heap:=a,toks:=g })(J:∀ a g,(∀ b o,s.heap.get? b=aa o->a.get? b=aa o)->∀ i j C,i < vs.length->j < vs.length->C (f i j) { s with heap:=a,toks:=g }->kas_ask prog w A.in1.in1 κ vs i j C { s with heap:=a,toks:=g })(h:∀ (r a:bj) (g c:Nat),(∀ b o,s.heap.get? b=aa o->r.get? b=aa o)->(∀ b o,r.get? b=aa o->a.get? b=aa o)->a.get? r.objs.size=aa (seqObj "list" (pick f bv vs).toArray c)->Q (.ref r.objs.size) { s with heap:=a,toks:=g }) :
  a0 (a6 prog w) A (call (.builtin "sorted") [.ref d]) Q E s:=by
 refine Calls.call_function_entry kind_sorted plain_sorted entry_sorted (args_sorted1 _) ?_;unfold Builtin.«sorted»
 refine aA (m:=checkCount "sorted" 1 1 _) (aE ?_);have t:es.size=vs.length:=by rw[<-B,aB,cN]
 refine aA (kdu_collect (A:=A.in1) (Zea (es:=es) (ep:=ep) hd) H F (by rw[t,sizeLine_eq];omega) λa g q p n=>?_)
 have M:q.toList=vs:=by
  rw[<-B];apply List.ext_getElem?
  intro i;rw[eW,aT,eW];cases e:q[i]? with
  |none=>
   have:q.size<=i:=Array.getElem?_eq_none_iff.mp e;rw[n.1]at this;rw[Array.getElem?_eq_none this];rfl
  |some v=>
   obtain⟨O,N,rfl⟩:=n.2 i v e;rw[N];rfl
 rw[M];refine aA (wpAny_newList ?_ (by rw[sizeLine_eq];omega))
 have u:(a.push { cls:=.type "list",data:=.seq vs.toArray }).get? a.objs.size=aa (seqObj "list" vs.toArray 0):=aX _ rfl;have z:∀ (l:bj),(∀ b o,b≠a.objs.size->(a.push { cls:=.type "list",data:=.seq vs.toArray }).get? b=aa o->l.get? b=aa o)->∀ b o,s.heap.get? b=aa o->l.get? b=aa o:=λl k b o e=>
  k b o (aZ (aJ (p b o e))) (aL _ (p b o e))
 refine aA (wpAny_holding (wpAny_call_entry slot_list_sort ⟨_,u,rfl⟩ entry_list_sort ?_ (args_list_sort _)));refine Zf1 (s:={ s with heap:=a.push { cls:=.type "list",data:=.seq vs.toArray },toks:=g }) (κ:=κ) (f:=f) u x (λl k D Q K=>G l g (z l k) D Q K) (λl k i j C r y L=>J l g (z l k) i j C r y L) ?_
 refine⟨_,rfl,aE ⟨_,rfl,?_⟩⟩;obtain⟨c,I⟩:=sortedHeap_at (out:=(pick f bv vs).toArray) u;refine h a _ g c p (λb o e=>?_) I
 rw[sortedHeap_old (aZ (aJ e)) (by rw[size_push'];exact Nat.lt_succ_of_lt (aJ e))]
 exact aL _ e
end
def Wf(h:bj)(p:Int×Int)(v:vL):Prop:=∃ a o n t u,v=.ref a/\h.get? a=aa o/\o.cls=.type "tuple"/\o.data=.seq #[.int p.1 t,.int p.2 u] n
omit [ClsTab] in
def Zfw{h:bj}{i j:Int}{a:Ad}(x:(tupleKind (mixKind prog w)).is h [.inl i,.inl j] a):Wf h (i,j) (.ref a):=by
 obtain⟨o,c,n,p,m,g,f⟩:=(show IsTupleKey (mixKind prog w) h [.inl i,.inl j] a from x);have b:∀ {k:Int}{v:vL},(mixKind prog w).is (.inl k) v=ac->∃ t,v=.int k t:=λ{k v} z=>by
  rcases keyIs_shape (show keyIs (.inl k) v=ac from z) with⟨i,t,e,rfl⟩|⟨x,t,e,_⟩
  .cases e;exact⟨t,rfl⟩
  .exact nomatch e
 obtain⟨l,d⟩:∃ l,c.toList=l:=⟨_,rfl⟩;rw[d]at f;cases f with
 |cons s r=>cases r with
  |cons q r=>
   cases r;obtain⟨t,rfl⟩:=b s;obtain⟨u,rfl⟩:=b q;refine⟨a,o,n,t,u,rfl,p,m,?_⟩;rw[g,<-d]
omit [ClsTab] in
def Zcj{p q:Int×Int}{v u:vL}{C:Bool->Sd->Prop}(f:Wf s.heap p v)(d:Wf s.heap q u)(h:C (kLt p q) s):a0 (a6 prog w) A (keyLt' (tuples' ac) v u) C E s:=by
 obtain⟨a,o,n,t,k,rfl,i,y,g⟩:=f;obtain⟨b,x,m,r,l,rfl,g1,g2,j⟩:=d;refine kat_lt i g g1 j ?_;unfold kLt at h;refine kat_cons (wpAny_eqBool_int ?_);by_cases e:p.1=q.1
 .rw[ao e]at h
  rw[show(p.1==q.1)=ac from beq_iff_eq.mpr e];refine kat_yes (kat_cons (wpAny_eqBool_int ?_));by_cases c:p.2=q.2
  .rw[show(p.2==q.2)=ac from beq_iff_eq.mpr c]
   refine kat_yes (kat_nil ?_);rw[show aj (p.2 < q.2)=ae from aG (by omega)]at h
   exact h
  .rw[show(p.2==q.2)=ae from cU.mpr c]
   exact kat_no (kat_one _ _ (wpAny_lt_int h))
 .rw[aq e]at h
  rw[show(p.1==q.1)=ae from cU.mpr e];exact kat_no (oneLt_int h)
omit [ClsTab] in
def JQ{vs:Li vL}{Q:SortKind->Sd->Prop}(b:∀ v∈vs,∃ p,Wf s.heap p v)(f:2<=vs.length)(h:Q (tuples' ac) s):a0 (a6 prog w) A (keyKind' vs.toArray) Q E s:=by
 have all:∀ {l:Li vL},(∀ v∈l,∃ p,Wf s.heap p v)->∃ fs,KatTups s.heap l fs/\fs.length=l.length/\∀ v∈fs,∃ i t,v=Value.int i t:=by
  intro l
  induction l with
  |nil=>intro _;exact⟨[],.nil,rfl,λ_ z=>nomatch z⟩
  |cons v l j=>
   intro e;obtain⟨fs,d,g,c⟩:=j λv b=>e v (Lm _ b)
   obtain⟨p,a,o,n,t,u,rfl,m,f,k⟩:=e v Ls;refine⟨.int p.1 t :: fs,.cons m f k rfl d,by rw[aO,aO,g],λx hx=>?_⟩
   rcases aF.mp hx with rfl|hx
   .exact⟨_,_,rfl⟩
   .exact c x hx
 obtain⟨fs,d,g,c⟩:=all b;refine kat_kind (T:=.type "int") d (by omega) (λv b=>?_) (by decide) h
 obtain⟨i,t,rfl⟩:=c v b;exact Looks.now
section
variable{K:Fg}{ad:Li Ad}{H:Hp}
def Zfj{kvs:Li (Li Key×V)}{ds:Li D}{ys:Li (Li Key×Ad×vL)}(e:Ents K ad H kvs ds)(r:KTp H kvs ys):Dens K ad H (ys.map λy=>V.ref y.2.1) ((Z7 ds).map prD)/\∀ (i:Nat) (y:Li Key×Ad×vL),ys[i]?=aa y->y.1=[.inl ((Z7 ds).getD i (0,0)).1,.inl ((Z7 ds).getD i (0,0)).2]:=by
 induction e generalizing ys with
 |nil=>cases r;exact⟨.nil,λi y h=>nomatch h⟩
 |cons _ _ c=>cases r with
  |cons h r=>
   obtain⟨a,b⟩:=c r;refine⟨.cons (.tup (.inl h.2.1) (.cons (.int _) (.cons (.int _) .nil))) a,λi y e=>?_⟩
   cases i with
   |zero=>cases e;exact h.1.symm
   |succ i=>exact b i y e
theorem Ux{vs:Li V}{ds:Li D}(r:Dens K ad H vs ds):∀ (l:Li Nat),(∀ i∈l,i < ds.length)->Dens K ad H (l.map λi=>vs.getD i .non) (l.map λi=>ds.getD i .non)
 |[],_=>.nil
 |i :: l,h=>by
  refine .cons ?_ (Ux r l λj d=>h j (Lm _ d))
  have a:=h i Ls;obtain⟨v,f,e⟩:=r.get (Lg a);have c:vs.getD i .non=v:=by rw[aV,f];rfl
  have b:ds.getD i .non=ds[i]:=by rw[aV,Lg a];rfl
  show Den K ad H (vs.getD i .non) (ds.getD i .non);rw[c,b];exact e
omit [ClsTab] in
theorem UK{vs:Li V}{a:Li vL}(r:Vals vs a):∀ (l:Li Nat),(∀ i∈l,i < vs.length)->Vals (l.map λi=>vs.getD i .non) (l.map λi=>a.getD i .none)
 |[],_=>.nil
 |i :: l,h=>by
  refine .cons ?_ (UK r l λj e=>h j (Lm _ e))
  have b:=h i Ls;obtain⟨u,g,f⟩:=r.get (Lg b);have d:a.getD i .none=u:=by rw[aV,g];rfl
  have c:vs.getD i .non=vs[i]:=by rw[aV,Lg b];rfl
  show L2.RelV (vs.getD i .non) (a.getD i .none);rw[d,c];exact f
omit [ClsTab] in
def Qm{n:Nat}{f:Nat->Nat->Bool}(a:0 < n):∀ i∈(goT f (kas_sort n)).toList,i < n:=λi b=>by
 have m:=(Array.Perm.mem_iff ((Qt a).go (f:=f))).mp (Array.mem_toList_iff.mp b);simpa using m
omit [ClsTab] in
def Je{α:Type}{f:Nat->Nat->Bool}{z:α}{a:Li α}:(pick f z a).length=a.length:=by
 unfold pick;split
 .rfl
 .rw[aB,cN,((Qt (by omega)).go (f:=f)).size_eq,aI,bM]
end
omit [ClsTab] in
theorem Ud:∀ {ys:Li (Li Key×Ad×vL)},Vals (ys.map λy=>V.ref y.2.1) (ys.map λy=>bu y.2.1)
 |[]=>.nil
 |_ :: _=>.cons rfl Ud
def JD{X:Cx}(hc:X.calm=ac):CallR X (.builtin "sorted") (rC X.K (on1 ZaG)):=by
 intro pQ s O H xs us Q I r h;obtain⟨ad,st,ds,d,st',S,hd,e,p⟩:=h;obtain⟨x,rfl,A⟩:=YF e;obtain⟨v,rfl,M⟩:=VP hd;unfold ZaG at A;split at A
 .rename_i a
  split at A
  .rename_i b m q0
   split at A
   .rename_i hz
    cases A;obtain⟨l,rfl,hl,n⟩:=M.ofDic;obtain⟨kvs,U,hx,_⟩:=S.dict hl n q0;obtain⟨u1,rfl,r1⟩:=r.one;cases r1;obtain⟨_,F,ys,J,o,es,ep,h1,T,h3,h4,R,_⟩:=dt_of I.hok hx;obtain⟨L,kk⟩:=Zfj U J;have G:ys.length=(Z7 m).length:=by have:=L.length;rwa [aB,aB]at this
    have hl0:(Z7 m).length=m.length:=by unfold Z7;rw[aB]
    have N:∀ (q:bj),(∀ b o,s.heap.get? b=aa o->q.get? b=aa o)->∀ (i:Nat),i < ys.length->Wf q ((Z7 m).getD i (0,0)) ((ys.map λy=>bu y.2.1).getD i .none):=λq k i B=>by
     have z:(ys.map λy=>bu y.2.1).getD i .none=.ref ys[i].2.1:=by rw[aV,aT,Lg B];rfl
     have w:=R ys[i] (cM B);rw[kk i _ (Lg B)]at w;obtain⟨a,o,n,t,u,A,e2,e3,e4⟩:=Zfw w;rw[z];exact⟨a,o,n,t,u,A,k _ _ e2,e3,e4⟩
    have hm:∀ (q:bj),(∀ b o,s.heap.get? b=aa o->q.get? b=aa o)->∀ v∈(ys.map λy=>bu y.2.1),∃ p,Wf q p v:=λq k v M=>by
     obtain⟨i,B,rfl⟩:=List.mem_iff_getElem.mp M;have P:i < ys.length:=by rwa [aB]at B
     have Z:(ys.map λy=>bu y.2.1).getD i .none=(ys.map λy=>bu y.2.1)[i]:=by rw[aV,Lg B];rfl
     rw[<-Z];exact⟨_,N q k i P⟩
    refine J8 (vs:=ys.map λy=>bu y.2.1) (κ:=tuples' ac) (f:=US (Z7 m)) (I.ok.hd hc) F ⟨o,h1,T,h3⟩ (by rw[h4,bN];rfl) (by rw[aB];omega)
     (λq E k T Q hQ=>JQ (s:={ s with heap:=q,toks:=E }) (hm q k) T hQ)
     (λq E k i j C B hj hC=>Zcj (s:={ s with heap:=q,toks:=E }) (N q k i (by rwa [aB]at B)) (N q k j (by rwa [aB]at hj)) hC)
     λg g' E c k k' hg=>?_
    have Y:L2.Inv X pQ O H { s with heap:=g,toks:=E }:=I.kept (t':=E) k
    have W:=Y.hok.fresh (aD _);have hV:Vals (pick (US (Z7 m)) V.non (ys.map λy=>V.ref y.2.1)) (pick (US (Z7 m)) bv (ys.map λy=>bu y.2.1)):=by
     unfold pick;rw[aB,aB];split
     .exact Ud
     .exact UK Ud _ (by rw[aB];exact Qm (by omega))
    have hD:Dens X.K ad H (pick (US (Z7 m)) V.non (ys.map λy=>V.ref y.2.1)) (pick (US (Z7 m)) D.non ((Z7 m).map prD)):=by
     unfold pick;rw[aB,aB,G];split
     .exact L
     .exact Ux L _ (by rw[aB];exact Qm (by omega))
    refine⟨.ref g.objs.size,upd H g.objs.size (.lst (pick (US (Z7 m)) V.non (ys.map λy=>V.ref y.2.1))),Y.laid (t':=E) k' (aD _) (show ObjOk X.prog X.w _ _ _ (.lst _) from⟨?_,_,c,hV,hg⟩),rfl,p _ (ad++[_]) _ (Ext.push W) (S.push W hD) (.newL ?_)⟩
    .rw[Je,aB,sizeLine_eq];omega
    .rw[<-S.len];exact Zu
   .exact Zb A
  .exact Zb A
 .exact Zb A
end Dp
namespace Dp
open PySem PySem.Spec PyProof.Rows L2
variable [ClsTab]
variable{A:bq}
section
open PySem.SeqAt PySem.MeetsSeq PySem.MeetsSeq2 PySem.MeetsSeq3 PySem.SeqRoads2
open AutoSeq1 (wpAny_loadPart')
def LtAt(A:bq)(s:Sd)(y x:vL)(b:Bool):Prop:=
 ∀ (prog:a7) (w:bm) (E:vL->Sd->Prop) (Q:vL->Sd->Prop),Q (.bool b) s->a0 (a6 prog w) A (richCompare .Lt y x) Q E s
noncomputable def ltR(e lt:Nat->Bool)(f:Bool):Li Nat->Bool
 |[]=>f
 |j :: r=>if e j=ac then ltR e lt f r else lt j
def Zae(l b:Ad)(items items2:Array vL)(n n2:Nat)(dd dd2:Ot Ad)(sl sl2:Array (Ot vL))(e lt:Nat->Bool) :
  Meets (Builtin.«tuple.__lt__» ⟨[.ref l,.ref b],[]⟩)
   (λA R s=>s.heap.get? l=aa { cls:=.type "tuple",dict:=dd,data:=.seq items n,slots:=sl }/\s.heap.get? b=aa { cls:=.type "tuple",dict:=dd2,data:=.seq items2 n2,slots:=sl2 } /\
    (∀ j (h1:j < items.size) (h2:j < items2.size),EqAt A.in1 s items[j] items2[j] (e j))/\(∀ j (h1:j < items.size) (h2:j < items2.size),(∀ i,i < j->e i=ac)->e j=ae->LtAt A.in1 s items[j] items2[j] (lt j)) /\
    R (.ok (.ret (.bool (ltR e lt (aj (items.size < items2.size)) (ag (min items.size items2.size)))))) s):=
 .of_wp λprog w A R s h=>by
  obtain⟨hp,g,d,tk,os⟩:=s;obtain⟨hl,hb,he,hq,h⟩:=h;have f2:=AutoSeq1.sub_tuple_tuple;have hZ:(items.toList.zip items2.toList).length=min items.size items2.size:=by simp
  wp_walk using wpAny_loadPart' hl,wpAny_loadPart' hb,wpAny_forIn_list _ (λrest b s'=>b.1=ab/\s'=⟨hp,g,d,tk,os⟩/\∃ i,rest=(items.toList.zip items2.toList).drop i/\(∀ k,k < i->e k=ac) /\
   R (.ok (.ret (.bool (ltR e lt (aj (items.size < items2.size)) ((ag (min items.size items2.size)).drop i))))) ⟨hp,g,d,tk,os⟩) _
  case turn=>
   rintro⟨y,x⟩ rest b s' ⟨hb',rfl,i,hz,hk,hR⟩
   have hlt:i < (items.toList.zip items2.toList).length:=by
    rcases Nat.lt_or_ge i (items.toList.zip items2.toList).length with h'|h'
    .exact h'
    .rw[dH h']at hz;cases hz
   have hm:i < min items.size items2.size:=hZ ▸ hlt;have h1:i < items.size:=aU hm (Nat.min_le_left _ _);have h2:i < items2.size:=aU hm (Nat.min_le_right _ _);rw[bR hlt]at hz
   injection hz with hyx hrest
   have hy:y=items[i]:=by have:=au Prod.fst hyx;simpa using this
   have hx:x=items2[i]:=by have:=au Prod.snd hyx;simpa using this
   subst hy hx;have hd:(ag (min items.size items2.size)).drop i=i :: (ag (min items.size items2.size)).drop (i+1):=by simp[bR,hm]
   rw[hd]at hR;have hR:R (.ok (.ret (.bool (if e i=ac then ltR e lt (aj (items.size < items2.size)) ((ag (min items.size items2.size)).drop (i+1)) else lt i)))) ⟨hp,g,d,tk,os⟩:=hR
   refine aA (he i h1 h2 prog w _ _ ?_);cases hy:e i with
   |true=>
    rw[hy]at hR
    wp_walk
    refine⟨rfl,rfl,i+1,hrest,λk hk'=>?_,by simpa using hR⟩
    rcases Nat.lt_or_ge k i with h|h
    .exact hk k h
    .rw[show k=i by omega];exact hy
   |false=>
    rw[hy]at hR;have hz:∀ (E:vL->Sd->Prop) (Q:vL->Sd->Prop),Q (.bool (lt i)) ⟨hp,g,d,tk,os⟩->a0 (a6 prog w) A.in1 (richCompare .Lt items[i] items2[i]) Q E ⟨hp,g,d,tk,os⟩:=λE Q=>hq i h1 h2 hk hy prog w E Q
    generalize richCompare .Lt items[i] items2[i]=rc at hz ⊢
    wp_walk using hz _ _
    exact⟨_,rfl,by simpa using hR⟩
  case fin=>
   rintro⟨b1,b2⟩ s' ⟨hb',rfl,i,hz,_,hR⟩
   simp only at hb';subst hb';have hge:min items.size items2.size<=i:=by
    rcases Nat.lt_or_ge i (items.toList.zip items2.toList).length with h'|h'
    .rw[bR h']at hz;cases hz
    .exact hZ ▸ h'
   rw[dH (by simpa using hge)]at hR
   wp_walk
   exact⟨_,rfl,by simpa[Builtin.Tuple.tupleCompareSizes,ltR] using hR⟩
  case h=>
   exact⟨rfl,rfl,0,rfl,λk hk=>ar hk (by omega),by simpa using h⟩
theorem LtAt.tuples{s:Sd}{l b:Ad}{c a:Array vL}{e lt:Nat->Bool}(B:s.heap.IsTuple l c)(D:s.heap.IsTuple b a)(hu:A.units < cLine)(C:∀ j (H:j < c.size) (G:j < a.size),EqAt A.in1 s c[j] a[j] (e j))(z:∀ j (H:j < c.size) (G:j < a.size),(∀ i,i < j->e i=ac)->e j=ae->LtAt A.in1 s c[j] a[j] (lt j)):LtAt A s (.ref l) (.ref b) (ltR e lt (aj (c.size < a.size)) (ag (min c.size a.size))):=λp w E Q h=>by
 obtain⟨⟨cls,dd,u,sl⟩,q,t,n,r⟩:=id B;obtain⟨⟨v,m,o,k⟩,d,g,y,f⟩:=id D;simp only at t r g f;subst t r g f;exact richCompare_meets_room (op:=.Lt) ⟨_,q,rfl⟩ ⟨_,d,rfl⟩ F.slot_tuple_lt F.entry_tuple_lt (F.args_tuple_lt_2 _ _) (Zae l b c a n y dd m sl k e lt)
  ⟨q,d,C,z,show Value.bool (ltR e lt (aj (c.size < a.size)) (ag (min c.size a.size)))≠Value.notImplemented/\Q (.bool (ltR e lt (aj (c.size < a.size)) (ag (min c.size a.size)))) s from⟨(λx=>nomatch x),h⟩⟩ hu
end
def eF(ds es:Li D)(i:Nat):Bool:=Zr ((ds[i]?).getD .non) ((es[i]?).getD .non)
noncomputable def lF(ds es:Li D)(i:Nat):Bool:=match ds[i]?,es[i]? with
 |some (.int a),aa (.int b)=>aj (a < b)
 |some (.str a),aa (.str b)=>aj (a.cps.toList < b.cps.toList)
 |_,_=>ae
theorem ZaN{e lt:Nat->Bool}{f:Bool}:∀ {l:Li Nat},ltR e lt f (l.map Nat.succ)=ltR (λi=>e (i+1)) (λi=>lt (i+1)) f l
 |[]=>rfl
 |i :: l=>by
  show(if e (i+1)=ac then ltR e lt f (l.map Nat.succ) else lt (i+1))=_
  rw[ZaN];rfl
theorem Zdn:∀ {ds es:Li D}{k:Bool},Qi ds es=aa k->ltR (eF ds es) (lF ds es) (aj (ds.length < es.length)) (ag (min ds.length es.length))=k
 |[],[],k,h=>by cases h;rfl
 |[],y :: ys,k,h=>by
  have h:aa (aj (0 < ys.length+1))=aa k:=h;cases h;simp[ltR]
 |x :: a,[],k,h=>by cases h;simp[ltR]
 |x :: a,y :: ys,k,h=>by
  have e:min (x :: a).length (y :: ys).length=min a.length ys.length+1:=by simp only[aO];omega
  rw[e,List.range_succ_eq_map];show(if Zr x y=ac then ltR (eF (x :: a) (y :: ys)) (lF (x :: a) (y :: ys)) _ ((ag (min a.length ys.length)).map Nat.succ) else lF (x :: a) (y :: ys) 0)=k
  unfold Qi at h;by_cases c:Zr x y=ac
  .rw[ao c]at h ⊢
   rw[ZaN,show aj ((x :: a).length < (y :: ys).length)=aj (a.length < ys.length) by simp]
   exact Zdn h
  .rw[aq c]at h ⊢
   split at h
   .cases h;rfl
   .cases h;rfl
   .exact Zb h
theorem ZaO:∀ {ds es:Li D}{k:Bool}{j:Nat},Qi ds es=aa k->j < ds.length->j < es.length->(∀ i,i < j->eF ds es i=ac)->eF ds es j=ae->(∃ a b,ds[j]?=aa (.int a)/\es[j]?=aa (.int b))\/(∃ a b,ds[j]?=aa (.str a)/\es[j]?=aa (.str b))
 |[],_,_,_,_,f,_,_,_=>ar f (by simp)
 |_ :: _,[],_,_,_,_,d,_,_=>ar d (by simp)
 |x :: l,y :: ys,k,0,h,_,_,_,e=>by
  have e:Zr x y=ae:=e;unfold Qi at h;rw[aq (by rw[e];simp)]at h
  split at h
  .exact .inl ⟨_,_,rfl,rfl⟩
  .exact .inr ⟨_,_,rfl,rfl⟩
  .exact Zb h
 |x :: l,y :: ys,k,j+1,h,f,d,g,e=>by
  have c:Zr x y=ac:=g 0 (by omega)
  unfold Qi at h;rw[ao c]at h;exact ZaO (j:=j) h (by simpa using f) (by simpa using d) (λi m=>g (i+1) (by omega)) e
variable{X:Cx}{H:Hp}{ad:Li Ad}{ys:Li V}{ds es:Li D}{k:Bool}
open PySem.SeqAt in
def Zfo{s:Sd}{f:Li V}{a b:Li vL}(r:Dens X.K ad H f ds)(x:Dens X.K ad H ys es)(rv:Vals f a)(e:Vals ys b)(h:Qi ds es=aa k) :
  ∀ j (l:j < a.toArray.size) (y:j < b.toArray.size),(∀ i,i < j->eF ds es i=ac)->eF ds es j=ae->LtAt A s a.toArray[j] b.toArray[j] (lF ds es j):=λj l y M N=>by
 have R:a.toArray.size=ds.length:=by rw[aI,<-rv.length,r.length]
 have P:b.toArray.size=es.length:=by rw[aI,<-e.length,x.length]
 have get:∀ {f:Li V}{ds:Li D}{a:Li vL}{d:D} (l:j < a.toArray.size),Dens X.K ad H f ds->Vals f a->ds[j]?=aa d->∃ v,Den X.K ad H v d/\RelV v a.toArray[j]:=λ{f ds a d} l r rv g=>by
  obtain⟨v,J,o⟩:=r.get g;obtain⟨u,B,m⟩:=rv.get J;have O:a.toArray[j]=u:=by
   have:a[j]?=aa (a[j]'(by simpa using l)):=Lg _
   rw[B]at this;simpa using(av this).symm
  exact⟨v,o,by rw[O];exact m⟩
 rcases ZaO h (by omega) (by omega) M N with⟨i,L,g1,g2⟩|⟨i,L,g1,g2⟩
 .obtain⟨F,o,m⟩:=get l r rv g1
  obtain⟨C,z,t⟩:=get y x e g2;cases o;cases z
  obtain⟨I,q⟩:=m;obtain⟨G,p⟩:=t;rw[q,p];intro n w E Q c;have c:Q (.bool (lF ds es j)) s:=c;unfold lF at c;rw[g1,g2]at c;exact lt_int c
 .obtain⟨F,o,m⟩:=get l r rv g1
  obtain⟨C,z,t⟩:=get y x e g2;cases o;cases z
  obtain⟨I,q⟩:=m;obtain⟨G,p⟩:=t;rw[q,p];intro n w E Q c;have c:Q (.bool (lF ds es j)) s:=c;unfold lF at c;rw[g1,g2]at c;exact lt_str c
variable{pQ:Li (Ad×Obj)}{O:L2.St}{n:Nat}
open PySem.SeqAt in
def Zfp{s:Sd}(I:Inv X pQ O H s){a b:Ad}{i:Li V}(o:Ya n ds=ac)(m:Ya n es=ac)(hu:A.units+n+1 < cLine)(e:TupAt X.K H a i)(r:Dens X.K ad H i ds)(x:TupAt X.K H b ys)(f:Dens X.K ad H ys es)(h:Qi ds es=aa k):LtAt A s (.ref a) (.ref b) k:=by
 obtain⟨g,rv,p,_⟩:=I.tuple (e.sq);obtain⟨d,c,l,_⟩:=I.tuple (x.sq);have w:g.toArray.size=ds.length:=by rw[aI,<-rv.length,r.length]
 have v:d.toArray.size=es.length:=by rw[aI,<-c.length,f.length]
 have q:=LtAt.tuples (A:=A) (s:=s) (e:=eF ds es) (lt:=lF ds es) p l (by omega) (λj u t=>Qa (a:=a) (b:=b) I o m hu r f rv c j u t) (Zfo r f rv c h)
 rw[w,v,Zdn h]at q;exact q
variable{dx dy:D}{u:vL}{Q:VK}{st:Za}{op:CmpOp}
variable{X:Cx}
section
theorem Zda{ad:Li Ad}{H:Hp}{k:Int}:∀ {xs:Li V}{ds:Li D}{b:Bool},Dens X.K ad H xs ds->YN k ds=aa b->xs.all flatV=ac/\inV (.int k) xs=b
 |_,_,_,.nil,e=>by cases e;exact⟨rfl,rfl⟩
 |_,_,b,.cons (d:=d) h r,e=>by
  cases d with
  |int i=>
   cases h;unfold YN at e;cases q:YN k _ with
   |none=>rw[q]at e;cases e
   |some b'=>
    rw[q]at e;cases e;obtain⟨c,a⟩:=Zda r q;refine⟨by rw[bG,c];rfl,?_⟩
    show((i==k)||inV (.int k) _)=(aj (i=k)||b');rw[a];rfl
  |_=>simp[YN]at e
theorem JM{ad:Li Ad}{H:Hp}{k:Str}:∀ {xs:Li V}{ds:Li D}{b:Bool},Dens X.K ad H xs ds->Xs k ds=aa b->xs.all flatV=ac/\inV (.str k) xs=b
 |_,_,_,.nil,e=>by cases e;exact⟨rfl,rfl⟩
 |_,_,b,.cons (d:=d) h r,e=>by
  cases d with
  |str i=>
   cases h;unfold Xs at e;cases q:Xs k _ with
   |none=>rw[q]at e;cases e
   |some b'=>
    rw[q]at e;cases e;obtain⟨c,a⟩:=JM r q;refine⟨by rw[bG,c];rfl,?_⟩
    show((i==k)||inV (.str k) _)=(aj (i=k)||b');rw[a]
    congr 1
  |_=>simp[Xs]at e
def CW(X:Cx)(pQ:Li (Ad×Obj))(O:L2.St)(Q:VK)(s:Sd)(op:CmpOp)(v u:vL):Prop:=a0 (a6 X.prog X.w) X.A (bo op v u) (EP X pQ O Q) X.xe s
def CW2(X:Cx)(pQ:Li (Ad×Obj))(O:L2.St)(Q:VK)(s:Sd)(H:Hp)(op a:CmpOp)(v u:vL)(k:Bool):Prop:=(Q (.bl k) H->CW X pQ O Q s op v u)/\(Q (.bl (!k)) H->CW X pQ O Q s a v u)
noncomputable def vSc:Sc->V
 |.non=>.non
 |.bl b=>.bl b
 |.int i=>.int i
 |.str x=>.str x
def Den.vSc{K:Fg}{ad:Li Ad}{H:Hp}{x:V}{d:D}{a:Sc}(h:Den K ad H x d)(e:scD d=aa a):x=vSc a:=by
 cases h<;>cases e<;>rfl
def ZeX{a b:Sc}(h:Zi7 a b=aa k):scal (vSc a) (vSc b)=ac/\aj (vSc a=vSc b)=k:=by
 cases a<;>cases b<;>first
  | (cases h;done)
  | (cases h;exact⟨rfl,rfl⟩)
  | (cases h;exact⟨rfl,dec_bl⟩)
  | (cases h;exact⟨rfl,by simp[vSc]⟩)
inductive EqD(x y:V):D->D->Bool->Prop
 |sc {dx dy:D}{k:Bool} (h3:scal x y=ac) (h4:aj (x=y)=k):EqD x y dx dy k
 |tup {xs ys:List D} (h:(okD 8 (.tup xs)&&okD 8 (.tup ys))=ac):EqD x y (.tup xs) (.tup ys) (Zs xs ys)
def ZeW{K:Fg}{x y:V}(i:Den K ad H x dx)(g:Den K ad H y dy)(e:eqD dx dy=aa k):EqD x y dx dy k:=by
 unfold eqD at e;split at e
 .unfold eqT at e
  split at e
  .split at e
   .rename_i c
    cases e;exact .tup c
   .exact Zb e
  .exact Zb e
 .refine j_e e λe=>Z6 (P:=λo=>o=aa k->EqD x y dx dy k) e (λa b l j h=>?_) rfl
  obtain⟨f,d⟩:=ZeX h;rw[<-i.vSc l,<-g.vSc j]at f d;exact .sc f d
def Zi9(hu:X.A.units+64 < cLine){s:Sd}{x y:V}{v:vL}(I:Inv X pQ O H s)(f:RelV x v)(d:RelV y u)(S:StOk X.K ad H st)(h:Den X.K ad H x dx)(g:Den X.K ad H y dy)(e:eqD dx dy=aa k):CW2 X pQ O Q s H .Eq .NotEq v u k:=by
 cases ZeW h g e with
 |sc i p=>
  subst p;exact⟨λq=>op_eq pQ s O H x y v u Q I f d ⟨i,q⟩,λq=>op_ne pQ s O H x y v u Q I f d ⟨i,q⟩⟩
 |tup c=>
  rw[Ba]at c;obtain⟨a,r,rfl,o,l⟩:=h.ofTup;obtain⟨b,ys,rfl,m,j⟩:=g.ofTup;cases f;cases d
  obtain⟨g1,g2⟩:=ZfA (ad:=ad) (A:=X.A) I (n:=7) c.1 c.2 (by omega) o l m j
  exact⟨λq=>g1 X.prog X.w X.xe _ ⟨.bl _,H,I,rfl,q⟩,λq=>g2 X.prog X.w X.xe _ ⟨.bl _,H,I,rfl,q⟩⟩
open PySem.SeqAt in
def Zfz{s:Sd}(I:Inv X pQ O H s){a b:Ad}{m:Li V}{d c:Li vL}(w:Ya n ds=ac)(v:Ya n es=ac)(hu:A.units+n+1 < cLine)(r:Dens X.K ad H m ds)(o:Dens X.K ad H ys es)(rv:Vals m d)(f:Vals ys c)(p:s.heap.IsList a d.toArray)(h:s.heap.IsList b c.toArray):RcAt A s (.ref a) (.ref b) (Zs ds es)/\RcNeAt A s (.ref a) (.ref b) (!Zs ds es):=by
 have l:d.toArray.size=ds.length:=by rw[aI,<-rv.length,r.length]
 have u:c.toArray.size=es.length:=by rw[aI,<-f.length,o.length]
 by_cases k:ds.length=es.length
 .have t:=λj y x=>Qa (a:=a) (b:=b) I w v hu r o rv f j y x
  have q:=RcAt.lists (A:=A) (s:=s) (e:=λi=>Zr ((ds[i]?).getD .non) ((es[i]?).getD .non)) p h (by omega) (by omega) t
  have g:=RcNeAt.lists (A:=A) (s:=s) (e:=λi=>Zr ((ds[i]?).getD .non) ((es[i]?).getD .non)) p h (by omega) (by omega) t
  rw[l]at q g;rw[Xe,show min ds.length es.length=ds.length by omega,show(ds.length==es.length)=ac by simpa using k,dX]
  exact⟨q,g⟩
 .have q:=RcAt.lists_lengths (A:=A) (s:=s) p h (by rw[l,u];simpa using k) (by omega)
  have g:=RcNeAt.lists_lengths (A:=A) (s:=s) p h (by rw[l,u];simpa using k) (by omega)
  rw[Xe,show(ds.length==es.length)=ae by simpa using k,Bool.and_false]
  exact⟨q,g⟩
open PySem.SeqAt in
def Zkk(hu:X.A.units+64 < cLine){s:Sd}{x y:V}{v:vL}(I:Inv X pQ O H s)(b:RelV x v)(a:RelV y u)(S:StOk X.K ad H st)(d:Den X.K ad H x (.tup ds))(c:Den X.K ad H y (.tup es))(e:Za0 st ds es=aa k):CW2 X pQ O Q s H .Eq .NotEq v u k:=by cases e
def Zja(hu:X.A.units+64 < cLine){s:Sd}{x y:V}{v:vL}(I:Inv X pQ O H s)(r:RelV x v)(p:RelV y u)(S:StOk X.K ad H st)(M:Den X.K ad H x dx)(L:Den X.K ad H y dy)(e:eqS st dx dy=aa k):CW2 X pQ O Q s H .Eq .NotEq v u k:=by
 have sc:scal x y=ac->(aj (x=y))=k->CW2 X pQ O Q s H .Eq .NotEq v u k:=λC h2=>by
  subst h2;exact⟨λq=>op_eq pQ s O H x y v u Q I r p ⟨C,q⟩,λq=>op_ne pQ s O H x y v u Q I r p ⟨C,q⟩⟩
 unfold eqS at e;split at e
 .unfold Zi6 at e
  split at e
  case h_2=>exact Zb e
  obtain⟨a,rfl,ha⟩:=M.ofLst;obtain⟨b,rfl,hb⟩:=L.ofLst;cases r;cases p
  have two:∀ {ba bb:Bool}{i ys:Li D},st[_]?=aa (ba,i)->st[_]?=aa (bb,ys)->(i=[]\/ys=[])->(i.isEmpty&&ys.isEmpty)=k->CW2 X pQ O Q s H .Eq .NotEq (.ref a) (.ref b) k:=λ{ba bb i ys} J G E hk=>by
   obtain⟨vs,T,s1⟩:=S.list ha J;obtain⟨ws,R,N⟩:=S.list hb G;obtain⟨h,rv,B,_⟩:=I.list s1;obtain⟨g,l,t,_⟩:=I.list N;have Z:h.toArray.size=i.length:=by rw[aI,<-rv.length,T.length]
   have Y:g.toArray.size=ys.length:=by rw[aI,<-l.length,R.length]
   by_cases n:i.length=ys.length
   .have W:i=[]:=by
     rcases E with z|z
     .exact z
     .rw[z]at n;exact eJ.mp n
    have z2:ys=[]:=by rw[W]at n;exact eJ.mp n.symm
    subst W z2;cases hk;have f:h=[]:=eJ.mp (by simpa using Z)
    have f':g=[]:=eJ.mp (by simpa using Y)
    subst f f';refine⟨λq=>SeqAt.RcAt.lists (e:=λ_=>ac) B.isList t.isList rfl (by omega) (λj C _=>ar C (by simp)) X.prog X.w X.xe _ ⟨.bl ac,H,I,rfl,q⟩,λq=>SeqAt.RcNeAt.lists (e:=λ_=>ac) B.isList t.isList rfl (by omega) (λj C _=>ar C (by simp)) X.prog X.w X.xe _ ⟨.bl ae,H,I,rfl,q⟩⟩
   .have U:k=ae:=by
     rw[<-hk];rcases E with z|z
     .subst z
      cases ys with
      |nil=>exact ar rfl n
      |cons _ _=>rfl
     .subst z
      cases i with
      |nil=>exact ar rfl n
      |cons _ _=>rfl
    subst U;have F:(h.toArray.size != g.toArray.size)=ac:=by rw[Z,Y];simpa using n
    exact⟨λq=>SeqAt.RcAt.lists_lengths B.isList t.isList F (by omega) X.prog X.w X.xe _ ⟨.bl ae,H,I,rfl,q⟩,λq=>SeqAt.RcNeAt.lists_lengths B.isList t.isList F (by omega) X.prog X.w X.xe _ ⟨.bl ac,H,I,rfl,q⟩⟩
  refine j_e e λe=>Z6 (P:=λo=>o=aa k->CW2 X pQ O Q s H .Eq .NotEq (.ref a) (.ref b) k) e (λc d J G e=>?_) rfl
  obtain⟨c1,c2⟩:=c;obtain⟨d1,d2⟩:=d;unfold JK at e;split at e
  .rename_i E
   cases e;rw[cB]at E;exact two J G (E.imp List.isEmpty_iff.mp List.isEmpty_iff.mp) rfl
  .split at e
   .rename_i m
    cases e;rw[Ba]at m;obtain⟨vs,T,s1⟩:=S.list ha J;obtain⟨ws,R,N⟩:=S.list hb G;obtain⟨h,rv,B,_⟩:=I.list s1;obtain⟨g,l,t,_⟩:=I.list N;obtain⟨g1,g2⟩:=Zfz (ad:=ad) (A:=X.A) I m.1 m.2 (by omega) T R rv l B.isList t.isList
    exact⟨λq=>g1 X.prog X.w X.xe _ ⟨.bl _,H,I,rfl,q⟩,λq=>g2 X.prog X.w X.xe _ ⟨.bl _,H,I,rfl,q⟩⟩
   .exact Zb e
 .unfold Zi8 at e
  split at e
  .split at e
   .rename_i k' q
    cases e;exact Zi9 hu I r p S M L (show eqD (.tup _) (.tup _)=aa _ from q)
   .exact Zkk hu I r p S M L e
  .exact Zb e
 .exact Zi9 hu I r p S M L e
open Classical in
def Zlu(K:Fg)(ad:Li Ad)(H:Hp)(d:D)(u:vL):Bool:=aj (∃ y e,RelV y u/\Den K ad H y e/\okD 8 e=ac/\Zr e d=ac)
section
variable{pQ:Li (Ad×Obj)}{s:Sd}{O:L2.St}{H:Hp}{x y:V}{v u:vL}{Q:VK}{ad:Li Ad}{st:Za}{dx dy:D}{k:Bool}
def U9{a:Ad}{b:Li V}(I:Inv X pQ O H s)(d:RelV x v)(c:RelV y u)(g:y=.ref a)(sq:SqL X.K H a b\/SqT X.K H a b)(f:flatV x=ac)(h:b.all flatV=ac/\inV x b=k):CW2 X pQ O Q s H .In .NotIn v u k:=by
 obtain⟨e,i⟩:=h;subst i;exact⟨λpk=>op_in_seq pQ s O H _ _ v u Q I d c ⟨a,b,g,sq,f,e,pk⟩,λpk=>op_notIn_seq pQ s O H _ _ v u Q I d c ⟨a,b,g,sq,f,e,pk⟩⟩
def InW(X:Cx)(pQ:Li (Ad×Obj))(O:L2.St)(Q:VK)(s:Sd)(H:Hp)(v u:vL)(dy:D)(k:Bool):Prop:=(Q (.bl k) H->CW X pQ O Q s .In v u)/\((∀ ks vs,dy≠.dct ks vs)->Q (.bl (!k)) H->CW X pQ O Q s .NotIn v u)
def CW2.inW(h:CW2 X pQ O Q s H .In .NotIn v u k):InW X pQ O Q s H v u dy k:=⟨h.1,λ_=>h.2⟩
def Zjd(hu:X.A.units+64 < cLine)(I:Inv X pQ O H s)(f:RelV x v)(d:RelV y u)(S:StOk X.K ad H st)(h:Den X.K ad H x dx)(g:Den X.K ad H y dy)(q:inS st dx dy=aa k):InW X pQ O Q s H v u dy k:=by
 unfold inS at q;split at q
 .split at q
  .rename_i l
   obtain⟨a,e,c⟩:=g.ofLst;obtain⟨m,r,sq⟩:=S.list c l;cases h;exact(U9 I f d e (.inl sq) rfl (Zda r q)).inW
  .exact Zb q
 .split at q
  .rename_i l
   obtain⟨a,e,c⟩:=g.ofLst;obtain⟨m,r,sq⟩:=S.list c l;cases h;exact(U9 I f d e (.inl sq) rfl (JM r q)).inW
  .exact Zb q
 .obtain⟨a,m,e,c,r⟩:=g.ofTup
  cases h;exact(U9 I f d e (.inr c.sq) rfl (Zda r q)).inW
 .obtain⟨a,m,e,c,r⟩:=g.ofTup
  cases h;exact(U9 I f d e (.inr c.sq) rfl (JM r q)).inW
 .obtain⟨a,vs,rfl,c,C,r⟩:=g.ofDct
  cases h;cases q;refine⟨λpk=>op_in_dct pQ s O H _ _ v u Q I f d ⟨a,_,eL _,rfl,rfl,c,?_⟩,λz=>ar rfl (z _ _)⟩
  rcases WN r C with⟨w,G,p,n,F⟩|⟨p,n⟩
  .rw[p];rw[n]at pk;exact pk
  .rw[p];rw[n]at pk;exact pk
 .obtain⟨o,t,rfl⟩:=dU.mp q
  obtain⟨i,j,J,es,rfl,l,rfl⟩:=JH t;obtain⟨a,rfl,c,B⟩:=g.ofDic;obtain⟨kvs,r,D,_⟩:=S.dict c B l;obtain⟨b,rfl,E⟩:=WC h;cases f;cases d
  have z:=in_dT (X:=X) (Q:=Q) (by omega) I D E
  rw[ZbL r]at z;exact⟨z.1,λ_=>z.2⟩
 .cases h;cases g;cases q
  exact⟨λpk=>op_in_str pQ s O H _ _ v u Q I f d ⟨_,_,rfl,rfl,pk⟩,λ_ pk=>op_notIn_str pQ s O H _ _ v u Q I f d ⟨_,_,rfl,rfl,pk⟩⟩
 .exact Zb q
def Zfi(a:Den X.K ad H x dx)(q:isN dx=aa k):aj (x=V.non)=k:=by
 cases a<;>cases q<;>rfl
def Zje(I:Inv X pQ O H s)(d:RelV x v)(c:RelV y u)(g:Den X.K ad H x dx)(f:Den X.K ad H y dy)(q:isD dx dy=aa k):CW2 X pQ O Q s H .Is .IsNot v u k:=by
 unfold isD at q;split at q
 .cases f
  have z:=Zfi g q;subst z;exact⟨λpk=>op_isN pQ s O H _ _ v u Q I d c ⟨rfl,pk⟩,λpk=>op_notN pQ s O H _ _ v u Q I d c ⟨rfl,pk⟩⟩
 .unfold isB at q
  split at q
  .cases q
   cases g;cases f
   cases d;cases c
   have e:∀ a b:Bool,(Value.bool a==Value.bool b)=(a==b):=λa b=>by cases a<;>cases b<;>rfl
   exact⟨λpk=>wpAny_is_plain rfl (by rw[e];exact⟨.bl _,H,I,rfl,pk⟩),λpk=>wpAny_isNot_plain rfl (by rw[e];exact⟨.bl _,H,I,rfl,pk⟩)⟩
  .cases q
 .cases q
def Vy{f:Int->Int->Bool}(b:Den X.K ad H x dx)(a:Den X.K ad H y dy)(q:ZbT f dx dy=aa k):∃ i j,x=.int i/\y=.int j/\f i j=k:=by
 unfold ZbT at q;split at q
 .cases q;cases b;cases a;exact⟨_,_,rfl,rfl,rfl⟩
 .exact Zb q
def Zku(hu:X.A.units+64 < cLine)(I:Inv X pQ O H s)(e:RelV x v)(d:RelV y u)(S:StOk X.K ad H st)(g:Den X.K ad H x dx)(f:Den X.K ad H y dy)(q:ltS st dx dy=aa k)(pk:Q (.bl k) H):CW X pQ O Q s .Lt v u:=by
   have q:ltD dx dy=aa k:=q;unfold ltD at q;split at q
   .split at q
    .rename_i ds es c
     rw[Ba]at c;obtain⟨a,p,rfl,o,l⟩:=g.ofTup;obtain⟨b,ys,rfl,m,h⟩:=f.ofTup;cases e;cases d
     exact Zfp (ad:=ad) (A:=X.A) I (n:=7) c.1 c.2 (by omega) o l m h q X.prog X.w X.xe _ ⟨.bl _,H,I,rfl,pk⟩
    .exact Zb q
   obtain⟨i,j,rfl,rfl,z⟩:=Vy g f q;exact op_lt pQ s O H _ _ v u Q I e d ⟨_,_,rfl,rfl,by cases z;exact pk⟩
def Qj{o:Ot Bool}(q:o.map not=aa k):o=aa (!k):=by
 cases o with
 |none=>exact Zb q
 |some a=>cases q;rw[Bool.not_not]
def ZdB{a:CmpOp}(h:CW2 X pQ O Q s H op a v u (!k))(pk:Q (.bl k) H):CW X pQ O Q s a v u:=h.2 (by rw[Bool.not_not];exact pk)
end
def ZaY(hu:X.A.units+64 < cLine):OpR X (bo op) (rD X.K (ZbG op)):=by
 intro pQ s O H x y v u Q I b a h;obtain⟨ad,st,dx,dy,d,st',S,f,c,e,p⟩:=h
 change CW X pQ O Q s op v u;unfold ZbG at e;cases q:Zcw op dx dy st with
 |none=>rw[q]at e;cases e
 |some k=>
  rw[q]at e;cases e;have pk:=p.at S (.bl k);clear p;cases op with
  |Lt=>exact Zku hu I b a S f c q pk
  |LtE=>
   obtain⟨i,j,rfl,rfl,z⟩:=Vy f c q;exact op_le pQ s O H _ _ v u Q I b a ⟨_,_,rfl,rfl,by cases z;exact pk⟩
  |Gt=>
   obtain⟨i,j,rfl,rfl,z⟩:=Vy f c q;exact op_gt pQ s O H _ _ v u Q I b a ⟨_,_,rfl,rfl,by cases z;exact pk⟩
  |GtE=>
   obtain⟨i,j,rfl,rfl,z⟩:=Vy f c q;exact op_ge pQ s O H _ _ v u Q I b a ⟨_,_,rfl,rfl,by cases z;exact pk⟩
  |Eq=>exact(Zja hu I b a S f c q).1 pk
  |NotEq=>exact ZdB (Zja hu I b a S f c (Qj q)) pk
  |In=>exact(Zjd hu I b a S f c q).1 pk
  |NotIn=>
   have q:niS st dx dy=aa k:=q;unfold niS at q;split at q
   .exact Zb q
   .rename_i g
    exact(Zjd hu I b a S f c (Qj q)).2 g (by rw[Bool.not_not];exact pk)
  |Is=>exact(Zje I b a f c q).1 pk
  |IsNot=>exact ZdB (Zje I b a f c (Qj q)) pk
end
variable [ClsTab]
noncomputable def Zg:ay->Bool
 |.Starred ..=>ae
 |.Set ..=>ae
 |.Slice ..=>ae
 |_=>ac
variable{sc:bg}{N:Li Str}{e:ay}
def Ze{G:Gs}{c:CE}(h:cE G n sc N e=aa c):Zg e=ac:=by
 cases n with
 |zero=>exact nomatch (show(ab:Ot CE)=aa c from h)
 |succ n=>cases e<;>first|rfl|exact nomatch (show(ab:Ot CE)=aa c from h)
variable{env:PySem.Env}
def Zd{es:Li ay}(h:Zg e=ac):bc (e :: es) env=(ae,eval e env) :: bc es env:=by
 cases e<;>first|rfl|cases h
def Vf{b:ay}(h:Zg b=ac):behindInMarks op b=ae:=by
 cases b<;>first|rfl|cases h
def Q4{b:ay}(h:Zg b=ac):PlainIx b:=by
 cases b<;>first | (intro o i;rfl)|cases h
theorem Xd{pos:Pos}{env:PySem.Env}:∀ {es:Li ay},es.all Zg=ac->(backTo pos (bc es env)).any (·.1)=ae
 |[],_=>rfl
 |e :: es,h=>by
  rw[bG,Ba]at h;rw[Zd h.1];show(ae||(backTo pos (bc es env)).any (·.1))=ae;rw[Xd h.2];rfl
inductive EsOk(Pm:Params)(K:Fg):List DictEntry->List Str->List D->Prop where
 |nil:EsOk Pm K [] [] []
 |cons {e:DictEntry}{es:List DictEntry}{k:Str}{ks:List Str}{d:D}{ds:List D}{v:V}{t:Tok} (h1:e.hash=bt Pm k) (h2:e.key=.str k t) (h3:RelV v e.val) (h4:∀ ad H,Den K ad H v d) (r:EsOk Pm K es ks ds):EsOk Pm K (e :: es) (k :: ks) (d :: ds)
def Zal(b:Params)(K:Fg)(mg:Str->Ot vL)(x:Str)(ks:Li Str)(ds:Li D):Prop:=
 ∃ A o es a,mg x=aa (.ref A)/\K.lookup A=aa o/\o.ExactDict/\o.data=.dict es a/\(A==bp)=ae/\ks.Nodup/\EsOk b K es.toList ks ds
variable{w:bm}
theorem EsOk.open{P:a7}{K:Fg}:∀ {es:Li DictEntry}{ks:Li Str}{ds:Li D},EsOk w.params K es ks ds->∃ kvs:Li (Key×vL),Pairs (mixKind P w) es kvs/\kvs.map (·.1)=ks.map eL/\(∀ e∈es,∃ k,(mixKind P w).is k e.key=ac/\e.hash=(mixKind P w).hash k) /\
  ∀ k d,Yk ks ds k=aa d->∃ u v,valueAt kvs (eL k)=aa u/\RelV v u/\∀ ad H,Den K ad H v d
 |_,_,_,.nil=>⟨[],.nil,rfl,(λ_ h=>nomatch h),λk d h=>by simp[Yk]at h⟩
 |e :: es,a :: ks,n :: ds,.cons (v:=v) (t:=t) m l j i r=>by
  obtain⟨kvs,B,A,y,s⟩:=EsOk.open (P:=P) r;have b:(mixKind P w).is (eL a) e.key=ac:=by rw[l];exact mixKind_str P w a t
  refine⟨(eL a,e.val) :: kvs,.cons b rfl B,by rw[aQ,aQ,A],λx hx=>?_,λk d h=>?_⟩
  .rcases aF.mp hx with rfl|hx
   .exact⟨eL a,b,m⟩
   .exact y x hx
  .unfold valueAt
   by_cases c:a=k
   .subst c
    have h:Yk (a :: ks) (n :: ds) a=aa d:=h;simp only[Yk,ao]at h;cases h;exact⟨e.val,v,by simp,j,i⟩
   .have h:Yk ks ds k=aa d:=by
     simp only[Yk,aq c]at h;exact h
    obtain⟨u,f,q,p,o⟩:=s k d h;refine⟨u,f,?_,p,o⟩;have g:¬(eL a:Key)=eL k:=λz=>c (eL.inj z)
    rw[List.find?_cons_of_neg (by simpa using g)]
    exact q
structure SubOk(K:Fg)(C B:Addr):Prop where
 cl:Cls K C
 ha:W.findIn K (.ref C) "__class__"=aa (aa (.builtin "object.__class__"))
 hn:W.specialIn K (.builtin "object.__class__") "__get__"=aa (aa (.builtin "getset_descriptor.__get__"))
 ht:W.takesIn K (.builtin "object.__class__")=aa ac
 hm:W.mroIn K C (.type "object")=aa ac
 kit:W.kitOne K (.ref C) (.ref B)=aa ac
structure NewOk(K:Fg)(C:Addr):Prop where
 makes:W.makesIn K C=ac
 init:W.findIn K (.ref C) "__init__"=aa (aa (.builtin "object.__init__"))
 kp:W.keepIn K (.ref C)=ac
 cl:Cls K C
def GOk(P:a7)(w:bm)(K:Fg)(mg:Str->Ot vL)(base:bj)(A:bq)(F:Nat->Fn)(x:Str):GV->Prop
 |.c d=>∃ v u,mg x=aa u/\RelV v u/\∀ ad H,Den K ad H v d
 |.blt=>mg x=ab
 |.dct ks ds=>Zal w.params K mg x ks ds
 |.cls i l a=>mg x=aa (.ref (ClsTab.ca i))/\NewOk K (ClsTab.ca i)/\(∀ h,a.contains h=ac->SubOk K (ClsTab.ca h) (ClsTab.ca i)) /\
   ∀ m j g,l.lookup m=aa (j,g)->∃ (k:Nat) (f:Ad) (fd:bh) (pn:Li Str),FnOk P w K mg base CX0 k f fd pn (spD K (F j))/\Room k A/\Meth K (ClsTab.ca i) m f/\Binds K fd pn []
 |.fn i g ds=>∃ (k:Nat) (f:Ad) (fd:bh) (pn:Li Str),FnOk P w K mg base CX0 k f fd pn (spD K (F i))/\Room k A/\mg x=aa (.ref f)/\W.keepIn K (.ref f)=ac /\
   ∀ m,m<=ds.length->∃ b e,(∀ ad H,Dens K ad H b (ds.drop m))/\Vals b e/\Binds K fd pn e
structure Cxt(X:Cx)(G:Gs)(F:Nat->Fn)(sc:bg)(N:List Str):Prop where
 hN:X.N=N
 vis:∀ x,WL sc x=ac->Vis X.env.scope x
 glb:∀ x,ZL sc x=ac->Gl X x
 calm:X.calm=ac
 hu:X.A.units+64 < cLine
 gl:∀ x g,G.lookup x=aa g->GOk X.prog X.w X.K X.mg X.base X.A F x g
 cel:∀ x,VX sc x=ac->X.env.scope.names.lookup x=aa .cell\/X.env.scope.names.lookup x=aa .free
 nx:X.xe=λ_ _=>False
variable{i:Nat}
def Ws{x:Str}(h:N.idxOf? x=aa i):N[i]?=aa x:=by
 unfold List.idxOf? at h
 rw[List.findIdx?_eq_some_iff_getElem]at h;obtain⟨a,b,_⟩:=h;rw[Lg a];rw[beq_iff_eq.mp b]
def Qe{x:Str}(h:WL sc x=ac):(x==("__debug__":Str))=ae/\(x==("__classdict__":Str))=ae:=by
 unfold WL at h;rw[Ba,Ba,eK,eK]at h;exact h.1
def XR{x:Str}(h:ZL sc x=ac):(x==("__debug__":Str))=ae:=by
 unfold ZL at h;rw[Ba,eK]at h;exact h.1
variable{fa:Ev}{pos:Pos}{U:Env}{st':Za}{d:D}
variable{F:Nat->Fn}
def Zjt{f:Ev}(h:PE X e (tE X.K f))(b:∀ a,isTrue e X.env a=(do let v <-a;standAt e.pos;holding [v] (truthy v)):=by intro _;rfl):PT X e (tT X.K f):=Ub (pt_val h b) Zc8
def ZhO{c a b:ay}{u v:Ev}(y:PT X c (tT X.K u))(A:PT X a (tT X.K fa))(z:PT X b (tT X.K v)):PT X (.IfExp c a b pos) (tT X.K (XM u fa v)):=by
 intro pQ s O H Q I h;obtain⟨ad,U,st,d,st',E,S,e,p⟩:=h;obtain⟨k,g,q,e⟩:=Yn e;show a0 _ _ (isTrue c X.env (eval c X.env) >>= λt=>if t then isTrue a X.env (eval a X.env) else isTrue b X.env (eval b X.env)) _ _ s
 refine aA (thn (y pQ s O H (λx l=>x=k/\∃ f,Ext ad H f l/\StOk X.K f l g) I ⟨ad,U,st,k,g,E,S,q,λf l j m=>⟨rfl,f,j,m⟩⟩) λt s1 ⟨l,w,B,f,j,m⟩=>?_)
 subst B;cases t with
 |true=>
  rw[ao rfl]at e ⊢;exact A pQ s1 O l Q w ⟨f,U,g,d,st',E.mono j,m,e,λi r n o=>p i r (j.trans n) o⟩
 |false=>
  rw[aq Bf]at e ⊢;exact z pQ s1 O l Q w ⟨f,U,g,d,st',E.mono j,m,e,λi r n o=>p i r (j.trans n) o⟩
def Jn:CE->Prop
 |.aN=>True
 |.aC _ _=>True
 |_=>False
def Vn{c:CE}(h:Jn c)(e:ev F c U st=aa (d,st')):∃ ds,d=.tup ds/\ds.length<=1000:=by
 cases c with
 |aN=>cases e;exact⟨[],rfl,by decide⟩
 |aC a r=>
  have e:ZQ (ev F a) (ev F r) Uw U st=aa (d,st'):=e;unfold ZQ at e;split at e
  .split at e
   .rename_i y b _
    cases y with
    |tup f=>
     have e:(if f.length < 1000 then aa (D.tup (_ :: f),b) else ab)=aa (d,st'):=e
     split at e
     .rename_i g
      cases e;exact⟨_,rfl,g⟩
     .exact Zb e
    |_=>simp[Uw]at e
   .exact Zb e
  .exact Zb e
 |_=>exact False.elim h
structure SE(X:Cx)(F:Nat->Fn)(e:ay)(c:CE):Prop where
 pe:PE X e (tE X.K (ev F c))
 pt:PT X e (tT X.K (ev F c))
def SE.of{c:CE}(h:PE X e (tE X.K (ev F c)))(b:∀ a,isTrue e X.env a=(do let v <-a;standAt e.pos;holding [v] (truthy v)):=by intro _;rfl):SE X F e c:=⟨h,Zjt h b⟩
def Jf{op:BoolOp}{es:Li ay}{t:TT}(h:PT X (.BoolOp op es pos) t):PW X (.BoolOp op es pos) t:=λ_ pQ s O H Q I q=>h pQ s O H Q I q
variable{vs:Li V}{ad0:Li Ad}
variable{ad:Li Ad}{H:Hp}{p:Ad}
section
variable{o:HO}
variable (ho:∀ kvs,o≠.dT kvs)
include ho
def Zdg{K:Fg}(a:H p=aa (.dK [])):Keeps K ad ad H (upd H p o):=⟨λh=>h.upd a (by intro b z;cases z),λh=>⟨h,Ui (V6 a λ_ z=>nomatch z) ho⟩,λn h=>by rw[upd_ne (ne_of h a (by intro z;injection z with z;exact n z))];exact h,λh n=>⟨by rw[upd_ne (ne_of h a (by intro z;cases z))];exact h,n⟩⟩
def Dens.wrK{K:Fg}(a:H p=aa (.dK []))(h:Dens K ad H vs ds):Dens K ad (upd H p o) vs ds:=h.map (Zdg ho a)
def StOk.wrK{K:Fg}(S:StOk K ad H st)(a:H p=aa (.dK []))(b:p∉ad):StOk K ad (upd H p o) st:=
 S.wrG (Zdg ho a) b
def Ext.wrK{e:Hp}(x:Ext ad0 e ad H)(f:H p=aa (.dK []))(d:e p=ab):Ext ad0 e ad (upd H p o):=by
 refine⟨x.pre,λb c h=>?_,λb c h=>?_,λb o h n=>?_,x.new,λi a h=>(x.kd i a h).trans (Ui (V6 f λ_ z=>nomatch z) ho)⟩
 .rw[upd_ne (ne_of_none h d)];exact x.tup b c h
 .rw[upd_ne (ne_of_none h d)];exact x.dk b c h
 .rw[upd_ne (ne_of_none h d)];exact x.keep b o h n
end
theorem UD:∀ (kvs a:Li (Key×V)),(∀ p∈kvs,∀ q∈a,q.1≠p.1)->(kvs.map (·.1)).Nodup->mergeK a kvs=a++kvs
 |[],a,_,_=>by show a=a++[];rw[bB]
 |p :: r,a,h,n=>by
  rw[aQ,bQ]at n;have e:putK a p.1 p.2=a++[p]:=by
   unfold putK;rw[aq];intro z;rw[dI]at z;obtain⟨q,hq,z⟩:=z;exact h p (Ls ..) q hq (am z)
  show mergeK (putK a p.1 p.2) r=_;rw[e,UD r (a++[p]) (λx b q hq=>?_) n.2,bF];rfl
  rcases bA.mp hq with hq|hq
  .exact h x (Lm _ b) q hq
  .rw[aP]at hq
   subst hq;intro z;exact n.1 (by rw[z];exact List.mem_map_of_mem b)
theorem VZ:∀ {ks:Li Str}{vs:Li V},ks.Nodup->(((ks.zip vs).map λp=>((eL p.1:Key),p.2)).map (·.1)).Nodup
 |[],_,_=>by simp
 |_ :: _,[],_=>by simp
 |k :: ks,v :: vs,h=>by
  rw[bQ]at h;show((eL k:Key) :: ((ks.zip vs).map λp=>((eL p.1:Key),p.2)).map (·.1)).Nodup
  rw[bQ];refine⟨λz=>h.1 ?_,VZ h.2⟩
  rw[bN,aR]at z;obtain⟨q,a,e⟩:=z;have e:(eL q.1:Key)=eL k:=e;rw[<-eL.inj e];exact(eG a).1
theorem WM:∀ {keys:Li (Ot ay)}{ks:Li Str},ZX keys=aa ks->keys.length=ks.length/\keys.all (·.isSome)=ac
 |[],_,h=>by cases h;exact⟨rfl,rfl⟩
 |some (.Constant (.str k) a b) :: r,ks,h=>by
  have h:(ZX r).map (k :: ·)=aa ks:=h;cases q:ZX r with
  |none=>rw[q]at h;cases h
  |some c=>
   rw[q]at h;cases h;obtain⟨f,d⟩:=WM q;exact⟨by rw[aO,aO,f],by rw[bG,d];rfl⟩
 |none :: _,_,h=>by simp[ZX]at h
 |some e :: r,ks,h=>by
  cases e with
  |Constant v a b=>cases v with
   |str k=>
    have h:(ZX r).map (k :: ·)=aa ks:=h;cases q:ZX r with
    |none=>rw[q]at h;cases h
    |some c=>
     rw[q]at h;cases h;obtain⟨f,d⟩:=WM q;exact⟨by rw[aO,aO,f],by rw[bG,d];rfl⟩
   |_=>simp[ZX]at h
  |_=>simp[ZX]at h
variable{vals:Li ay}{keys:Li (Ot ay)}{ks:Li Str}
variable{pos:Pos}
section
variable{f:ay->Ot CE}
theorem ZdQ(n:∀ e c,f e=aa c->PE X e (tE X.K (ev F c))):∀ {vals:Li ay}{keys:Li (Ot ay)}{ks:Li Str}{c:CE},ZX keys=aa ks->cVs f vals=aa c->ks.length=vals.length->
  Jn c/\∃ i,PPs X pos keys vals i/\∀ O H (Q:Li (V×V)->Hp->Prop),tA X.K (ev F c) O H (λvs H'=>Q ((ks.zip vs).map λp=>(V.str p.1,p.2)) H')->tPairs i O H Q
 |[],keys,ks,c,g,j,l=>by
  cases j;cases ks with
  |cons _ _=>simp at l
  |nil=>
   have A:=(WM g).1;cases keys with
   |cons _ _=>simp at A
   |nil=>exact⟨trivial,[],pps_nil,λO H Q h=>VU O H _ h⟩
 |v :: vals,keys,ks,c,g,j,l=>by
  cases ks with
  |nil=>simp at l
  |cons k ks=>
   have j:(match f v,cVs f vals with
    |some x,aa r=>aa (CE.aC x r)
    |_,_=>ab)=aa c:=j
   split at j
   .rename_i x r u w
    cases j;cases keys with
    |nil=>cases g
    |cons m keys=>
     cases m with
     |none=>simp[ZX]at g
     |some e=>
      cases e with
      |Constant C a b=>
       cases C with
       |str t=>
        have g:(ZX keys).map (t :: ·)=aa (k :: ks):=g;cases q:ZX keys with
        |none=>rw[q]at g;cases g
        |some s=>
         rw[q]at g;cases g;obtain⟨_,i,z,y⟩:=ZdQ n q w (by simpa using l)
         refine⟨trivial,(tC (.str k),tE X.K (ev F x)) :: i,pps_cons pe_str (n v x u) z,λO H Q h=>?_⟩
         have h:=UB O H _ h;obtain⟨ad,U,st,d,st',E,S,e,p⟩:=h;exact⟨ad,U,st,d,st',E,S,e,λv ad' H' o D B=>y O H' _ (p v ad' H' o D B)⟩
       |_=>simp[ZX]at g
      |_=>simp[ZX]at g
   .exact Zb j
def ZdN(L:∀ e c,f e=aa c->PE X e (tE X.K (ev F c))){c:CE}(x:ZX keys=aa ks)(M:cVs f vals=aa c)(I:keys.length=vals.length)(T:keys≠[])(u:keys.length<=15) :
  PE X (.Dict keys vals pos) (tE X.K (ev F (.dict ks c))):=by
 obtain⟨Z,C⟩:=WM x;obtain⟨N,B,R,P⟩:=ZdQ (pos:=pos) L x M (by omega)
 refine Zm (pe_disp R C I T u) λO H Q h=>?_
 obtain⟨ad,U,st,d,st',E,S,e,p⟩:=h;have e:Zo (ev F c) (Zgn ks) U st=aa (d,st'):=e;unfold Zo at e;split at e
 .rename_i y m w
  obtain⟨ds,rfl,_⟩:=Vn N w;have e:(if ks.length=ds.length/\(ks.Nodup/\ks≠[])/\ks.length<=15 then aa (D.dct ks ds,m) else ab)=aa (d,st'):=e
  split at e
  .rename_i v
   cases e;intro a b t;refine P O _ _ ⟨ad,U,st,ds,_,E.mono (Ext.laid b),S.laid b,w,λvs g Y k W A=>?_⟩
   have j:Y a=aa (.dK []):=k.dk a [] upd_same;have n:∀ {l:Li (Key×V)} (kvs:Li (Li Key×V)),HO.dK l≠.dT kvs:=λ_ z=>nomatch z
   have s:ks.length=vs.length:=by rw[A.length];exact v.1
   have r:a∉g:=λz=>by
    rcases k.new a z with z|z
    .obtain⟨i,J⟩:=List.mem_iff_getElem?.mp z
     rcases S.has J with⟨o,q⟩|⟨o,q⟩
     .rw[b]at q;cases q
     .exact t o q
    .rw[upd_same]at z;cases z
   refine⟨j,(ks.zip vs).map λp=>((eL p.1:Key),p.2),by rw[bN];rfl,by rw[aB,List.length_zip];omega,?_⟩
   rw[UD _ [] (λ_ _ q G=>nomatch G) (VZ v.2.1.1),dE]
   exact p _ g _ ((((Ext.laid b).trans k)).wrK n j b) (W.wrK n j r) (.dct upd_same rfl v.2.1 s (A.wrK n j))
  .exact Zb e
 .exact Zb e
end
variable [ClsTab]
def QF:bf "tuple"=aa (.type "tuple"):=by decide +kernel
def Zaq:bf "list"=aa (.type "list"):=by decide +kernel
def Zcp:bf "int"=aa (.type "int"):=by decide +kernel
def ZeM:bf "bool"=aa (.type "bool"):=by decide +kernel
def Zhe:bf "str"=aa (.type "str"):=by decide +kernel
def Zhd:bf "min"=aa (.builtin "min"):=by decide +kernel
def Zhc:bf "max"=aa (.builtin "max"):=by decide +kernel
def Uk:bf "isinstance"=aa (.builtin "isinstance"):=by decide +kernel
def Zbx:bf "sorted"=aa (.builtin "sorted"):=by decide +kernel
def Zhb:bf "len"=aa (.builtin "len"):=by decide +kernel
variable{as:Li ay}{cs:CE}{ap cp yp:Pos}{prog:a7}{ms:Li (Str×Nat×Nat)}{subs:Li Nat}{m:Str}{j:Nat}
variable{G:Gs}
section
def Zq(G:Gs)(F:Nat->Fn)(n:Nat):Prop:=∀ X sc N,Cxt X G F sc N->∀ e c,cE G n sc N e=aa c->SE X F e c
def YZ(G:Gs)(F:Nat->Fn)(n:Nat):Prop:=∀ X sc N,Cxt X G F sc N->∀ es c,cEs G n sc N es=aa c->PA X es (tA X.K (ev F c))/\Jn c/\es.all Zg=ac/\(es=[]->c=.aN)
def UR(G:Gs)(F:Nat->Fn)(n:Nat):Prop:=∀ X sc N,Cxt X G F sc N->∀ e c,cO G n sc N e=aa c->PO X e (tO X.K (ev F c))
def Zd1{v:Const}{k:Nat}{c:CE}(h:CE.ofConst v=aa c):SE X F (.Constant v k pos) c:=by
 cases v with
 |none=>cases h;exact .of (Zm pe_non (QV λ_ _=>.non))
 |bool b=>cases h;exact .of (Zm pe_bl (QV λ_ _=>.bl b))
 |int i=>cases h;exact .of (Zm pe_int (QV λ_ _=>.int i))
 |str x=>cases h;exact .of (Zm pe_str (QV λ_ _=>.str x))
 |_=>exact Zb h
def ZfM{x:Str}{c:CE}(K:Cxt X G F sc N)(h:Zdx G sc N x=aa c):SE X F (.Name x pos) c:=by
 unfold Zdx at h;split at h
 .rename_i a
  cases q:N.idxOf? x with
  |none=>rw[q]at h;cases h
  |some i=>
   rw[q]at h;cases h;obtain⟨j,g⟩:=Qe a;exact .of (Zm (pe_var (i:=i) (by rw[K.hN];exact Ws q) (K.vis x a) j g) Zff)
 .split at h
  .rename_i b
   split at h
   .rename_i d q
    cases h;obtain⟨v,u,e,r,f⟩:=K.gl x _ q;exact .of (Zm (pe_glob (K.glb x b) e r (XR b)) (QV f))
   .exact Zb h
  .exact Zb h
def pa1{a:ay}{t:TE}(b:Zg a=ac)(c:PE X a t):PA X [a] (tCons t tNil):=pa_cons c pa_nil (Zd b)
def pa2{a b:ay}{t u:TE}(d:Zg a=ac)(c:Zg b=ac)(f:PE X a t)(e:PE X b u):PA X [a,b] (tCons t (tCons u tNil)):=pa_cons f (pa1 c e) (Zd d)
def ZfE{f:Str}{a:ay}{x c:CE}{p:Pos}(K:Cxt X G F sc N)(i:ZL sc f=ac)(d:X.mg f=ab)(b:Zg a=ac)(A:PE X a (tE X.K (ev F x)))(h:Zg9 f x=aa c) :
  PE X (.Call (.Name f p) [a] [] pos) (tE X.K (ev F c)):=by 
 have g:=K.glb f i;unfold Zg9 at h;split at h
 .rename_i e;subst e;cases h
  exact Zm (pe_callB Zbz g d Zhb (pa1 b A) (by decide) (by decide) (Zd b) rfl) XS
 .split at h
  .rename_i e;subst e;cases h
   exact Zm (pe_callTy QG g d QF (pa1 b A) (by decide) (by decide) (Zd b) rfl) XS
  .split at h
   .rename_i e;subst e;cases h
    exact Zm (pe_callTy JE g d Zaq (pa1 b A) (by decide) (by decide) (Zd b) rfl) XS
   .split at h
    .rename_i e;subst e;cases h
     exact Zm (pe_callTy Zby g d Zcp (pa1 b A) (by decide) (by decide) (Zd b) rfl) XS
    .split at h
     .rename_i e;subst e;cases h
      exact Zm (pe_callB (JD K.calm) g d Zbx (pa1 b A) (by decide) (by decide) (Zd b) rfl) XS
     .exact Zb h
def Zcf{b:ay}(a:Zg b=ac):(backTo pos (bc [b] X.env)).any (·.1)=ae:=Xd (by rw[bG,a];rfl)
def ZfF{f:Str}{a b:ay}{x y c:CE}{p:Pos}(K:Cxt X G F sc N)(k:ZL sc f=ac)(i:X.mg f=ab)(g:Zg a=ac)(d:Zg b=ac)(A:PE X a (tE X.K (ev F x)))(B:PE X b (tE X.K (ev F y)))(h:Zha f x y=aa c):PE X (.Call (.Name f p) [a,b] [] pos) (tE X.K (ev F c)):=by
 have j:=K.glb f k;unfold Zha at h;split at h
 .rename_i e;subst e;cases h
  exact Zm (pe_callB (ZbB K.calm) j i Zhd (pa2 g d A B) (by decide) (by decide) (Zd g) (Zcf d)) QU
 .split at h
  .rename_i e;subst e;cases h
   exact Zm (pe_callB (ZbA K.calm) j i Zhc (pa2 g d A B) (by decide) (by decide) (Zd g) (Zcf d)) QU
  .exact Zb h
def Ze4{K:Fg}{T:Ty}(O:L2.St)(H:Hp)(Q:VK)(h:tE K (Zo fa (Zdf T)) O H Q) :
  tCB (λvs H Q=>∃ v,vs=[v,.ty (tyN T)]/\rC K (on1 (Zdf T)) [v] H Q) (tCons (tE K fa) (tCons (tC (.ty (tyN T))) tNil)) O H Q:=by
 obtain⟨ad,U,st,d,st',E,S,e,p⟩:=h;unfold Zo at e;split at e
 .rename_i x a g
  exact⟨ad,U,st,x,a,E,S,g,λf b k c j i=>⟨f,rfl,b,a,[x],d,st',j,.cons i .nil,e,p.later c⟩⟩
 .exact Zb e
def Zei{b:ay}{T:Ty}(K:Cxt X G F sc N)(h:Zbj G sc b=aa T):Zg b=ac/\PE X b (tC (.ty (tyN T))):=by
 cases b with
 |Name t p=>
  have a:Zix G sc t=aa T:=h;clear h;unfold Zix at a;split at a
  .rename_i f
   rw[Ba]at f;have c:X.mg t=ab:=by
    have z:=f.2;unfold ZaF at z;split at z
    .rename_i q;exact K.gl t _ q
    .cases z
   have d:=K.glb t f.1;refine⟨rfl,?_⟩;unfold Zj1 at a;split at a
   .rename_i e;subst e;cases a
    exact pe_bltn d c Zcp rfl
   .split at a
    .rename_i e;subst e;cases a
     exact pe_bltn d c ZeM rfl
    .split at a
     .rename_i e;subst e;cases a
      exact pe_bltn d c Zhe rfl
     .split at a
      .rename_i e;subst e;cases a
       exact pe_bltn d c QF rfl
      .exact Zb a
  .exact Zb a
 |_=>simp[Zbj]at h
def Zib{a b:ay}{x:CE}{T:Ty}{p:Pos}(K:Cxt X G F sc N)(f:ZL sc "isinstance"=ac)(e:X.mg "isinstance"=ab)(d:Zg a=ac)(A:PE X a (tE X.K (ev F x)))(g:Zbj G sc b=aa T) :
  PE X (.Call (.Name "isinstance" p) [a,b] [] pos) (tE X.K (ev F (.isi T x))):=by
 obtain⟨c,B⟩:=Zei K g;exact Zm (pe_callB (Zcu (T:=T)) (K.glb _ f) e Uk (pa2 d c A B) (by decide) (by decide) (Zd d) (Zcf c)) Ze4
def ZfH{f:Str}{a:Nat}{p:Pos}(K:Cxt X G F sc N)(c:ZL sc f=ac)(t:G.lookup f=aa (.fn i a ds))(x:as.length<=a/\a<=as.length+ds.length)(A:PA X as (tA X.K (ev F cs))/\Jn cs/\as.all Zg=ac/\(as=[]->cs=.aN)):PE X (.Call (.Name f p) as [] pos) (tE X.K (ev F (.call i cs (ds.drop (as.length+ds.length - a))))):=by
 obtain⟨k,fa,fd,w,q,l,m,n,s⟩:=K.gl f _ t;obtain⟨u,v,o,j,b⟩:=s (as.length+ds.length - a) (by omega)
 obtain⟨g,_,d,r⟩:=A;cases as with
 |nil=>
  refine Zm (pe_call0 (E:=E0) q l (K.glb f c) m n b j pass0 (XR c)) λO H Q h=>?_
  rw[r rfl]at h;exact VU O H _ (QW (E:=E0) o O H Q h)
 |cons e es=>
  rw[bG,Ba]at d;exact Zm (pe_call (E:=E0) q l (K.glb f c) m n b j pass0 g (XR c) (Zd d.1) (Xd d.2)) (QW o)
def U5{nm:Str}{b:ay}(K:Cxt X G F sc N)(h:fnA G sc nm b=aa as):∃ p pos,b=.Call (.Name nm p) as [] pos/\Gl X nm/\X.mg nm=ab:=by
 obtain⟨q,a,g⟩:=dJ.mp h;refine X8 g λe f=>?_
 obtain⟨rfl,d,c⟩:=e;cases f;unfold Zgk at a;split at a
 .cases a
  refine⟨_,_,rfl,K.glb _ d,?_⟩;unfold ZaF at c;split at c
  .rename_i q;exact K.gl _ _ q
  .cases c
 .cases a
def ZaX{a:ay}(h:ZhJ as=aa a):as=[a]:=by
 cases as with
 |nil=>exact Zb h
 |cons x as=>cases as with
  |nil=>cases h;rfl
  |cons _ _=>exact Zb h
def Uq{b:ay}(K:Cxt X G F sc N)(h:Z3 G sc b=aa e):∃ p pos,b=.Call (.Name "range" p) [e] [] pos/\Gl X "range"/\X.mg "range"=ab:=by
 obtain⟨as,a,c⟩:=dJ.mp h;rw[ZaX c]at a;exact U5 K a
def Zh9{a b:ay}{x y:CE}{c:Bool}(K:Cxt X G F sc N)(g:Z3 G sc b=aa e)(d:Zhp op=aa c)(f:Zg e=ac)(A:PE X a (tE X.K (ev F x)))(B:PE X e (tE X.K (ev F y))):SE X F (.Compare a [op] [b] pos) (.inR c x y):=by cases d
def Zif{f:Str}{a:ay}{o:Ot CE}{c:CE}{p:Pos}(K:Cxt X G F sc N)(g:ZL sc f=ac)(d:X.mg f=ab)(b:Zad G sc f a=aa e)(B:∀ c,o=aa c->Zg e=ac/\PE X e (tE X.K (ev F c)))(h:o.map CE.tupR=aa c):SE X F (.Call (.Name f p) [a] [] pos) c:=by cases b
def rLk(K:Fg)(A:Ad)(ks:Li Str)(ds:Li D):R2:=λx y H Q=>x=.ref A/\∃ k d,y=.str k/\Yk ks ds k=aa d/\∀ v,(∀ ad H,Den K ad H v d)->Q v H
def Zjf{A:Ad}{o:Obj}{es:Array DictEntry}{f:Nat}(lk:X.K.lookup A=aa o)(ex:o.ExactDict)(hd:o.data=.dict es f)(t:(A==bp)=ae)(nd:ks.Nodup)(p:EsOk X.w.params X.K es.toList ks ds):IxR X (rLk X.K A ks ds):=by
 intro a slice pQ s O H x y v u Q I i g h n;obtain⟨rfl,k,d,rfl,c,q⟩:=h;cases i;obtain⟨kvs,pr,j,l,val⟩:=p.open (P:=X.prog);have dd:s.heap.DictOf (mixKind X.prog X.w) A kvs:=by
  refine⟨o,es,f,I.kIn A o lk,ex,hd,λe c=>l e (by simpa using c),pr,?_⟩
  rw[j];exact List.pairwise_map.mpr (nd.imp λh z=>h (eL.inj z))
 obtain⟨w,z,m,b,r⟩:=val k d c;exact tail_any dd.typeIs PySem.F.slot_dict_getitem.lookup (wpAny_getItem_of (kV_is (k:=eL k) g) dd.mapOf m ⟨z,H,I.tok _,b,q z r⟩) n
def Zc3{K:Fg}{A:Ad}(O:L2.St)(H:Hp)(Q:VK)(h:tE K (Zo fa (Zdk ks ds)) O H Q):tOp (rLk K A ks ds) (tC (.ref A)) (tE K fa) O H Q:=by
 obtain⟨ad,U,st,d,st',E,S,e,p⟩:=h;unfold Zo at e;split at e
 .rename_i x f g
  unfold Zdk at e;split at e
  .rename_i k
   split at e
   .rename_i n i
    cases e;exact⟨ad,U,st,.str k,_,E,S,g,λv a b c m l=>⟨rfl,k,d,l.ofStr,i,λw j=>p w a b c m (j a b)⟩⟩
   .exact Zb e
  .exact Zb e
 .exact Zb e
def J3{d:ay}{l f:TE}{p:Pos}{s:Sd}{n:vL->Sd->Prop}(E:Gl X "range")(D:X.mg "range"=ab)(m:Zg e=ac)(g:Zg d=ac)(F:PE X e l)(k:PE X d f)(I:L2.Inv X pQ O H s)(h:tCons l (tCons f tNil) O H λvs x=>∃ a b:Int,vs=[.int a,.int b]/\∀ i r t u v,L2.Inv X pQ O x i->IsRange i.heap r a b 1 t u v->n (.ref r) i):a0 (a6 X.prog X.w) X.A (eval (.Call (.Name "range" p) [e,d] [] pos) X.env) n X.xe s:=by
 have c:bc [d] X.env=[(ae,eval d X.env)]:=Zd g;have C:bc [e,d] X.env=[(ae,eval e X.env),(ae,eval d X.env)]:=by rw[Zd m,c]
 refine Call_ (ld_blt I E D boot_range (PyProof.Rows.callWith_type1 (thn (pa2 m g F k pos pQ s O H _ I h) λJ s1 ⟨vs,x,G,y,B⟩=>?_) (by rw[C,c]) (by rw[c];rfl)))
 obtain⟨a,b,rfl,q⟩:=B;cases y with
 |cons r j=>
  cases j with
  |cons z j=>
   cases j;obtain⟨t,rfl⟩:=r;obtain⟨t',rfl⟩:=z;exact call_range_2 (q _ _ _ _ _ (G.kept (t':=_) λb o e=>aL _ e) (IsRange.new ..))
def JS{i h:Ev}(e:ZQ i h Zdm U st=aa (d,st')):∃ a b g f,i U st=aa (.int a,g)/\h U g=aa (.int b,f)/\(WR a b 1=ac/\b - a<=1000)/\d=.lst f.length/\st'=f++[(ac,(XX a b 1).map .int)]:=by
 unfold ZQ at e;split at e
 .rename_i dx g k
  split at e
  .rename_i dy f j
   unfold Zdm at e;split at e
   .split at e
    .rename_i c
     cases e;exact⟨_,_,_,_,k,j,c,rfl,rfl⟩
    .exact Zb e
   .exact Zb e
  .exact Zb e
 .exact Zb e
def J0{a b:Int}(h:WR a b 1=ac):Builtin.Range.rangeSize a b 1=((Y9 a b 1:Nat):Int)/\Builtin.Range.small a b 1=ac/\((Y9 a b 1:Nat):Int)=if a < b then b - a else 0:=by
 have h:=am h;obtain⟨⟨g,f⟩,⟨e,d⟩,c⟩:=h;unfold Y9 Builtin.Range.small Builtin.Range.rangeSize;simp only[Builtin.Range.rangeFitsLong,Ba,cB,bC,beq_iff_eq,gt_iff_lt,Int.neg_neg,dR];refine⟨?_,?_,?_⟩
 .split
  .split<;>omega
  .split<;>omega
 .refine⟨⟨by omega,?_⟩,.inr ?_⟩
  .constructor
   .repeat' split
    all_goals omega
   .repeat' split
    all_goals omega
  .simp
   omega
 .split
  .split<;>omega
  .omega
theorem Vj{a:Int}:∀ {m k:Nat}{b:Li vL},b.length=m->(∀ (i:Nat) v,b[i]?=aa v->∃ t,v=.int (a+((k+i:Nat):Int) * 1) t)->Vals ((List.range' k m).map λ(k:Nat)=>V.int (a+(k:Int) * 1)) b
 |0,k,b,c,h=>by
  cases b with
  |nil=>exact .nil
  |cons _ _=>cases c
 |m+1,k,b,c,h=>by
  cases b with
  |nil=>cases c
  |cons u b=>
   obtain⟨t,rfl⟩:=h 0 u rfl;refine .cons ⟨t,rfl⟩ (Vj (k:=k+1) (Nat.succ.inj c) λi v e=>?_)
   obtain⟨t,q⟩:=h (i+1) v e;exact⟨t,by rw[q,show k+1+i=k+(i+1) by omega]⟩
theorem Vi{K:Fg}{ad:Li Ad}{H:Hp}{a:Int}:∀ l:Li Nat,Dens K ad H (l.map λ(k:Nat)=>V.int (a+(k:Int) * 1)) ((l.map λ(k:Nat)=>a+(k:Int) * 1).map D.int)
 |[]=>.nil
 |k :: l=>.cons (.int _) (Vi l)
def Zf7{p:ay×ay}(h:Zj0 as=aa p):as=[p.1,p.2]:=by
 cases as with
 |nil=>exact Zb h
 |cons x as=>cases as with
  |nil=>exact Zb h
  |cons y as=>cases as with
   |nil=>cases h;rfl
   |cons _ _=>exact Zb h
def ZfK{f:Str}{a u v:ay}{x y:CE}{p:Pos}(K:Cxt X G F sc N)(hg:ZL sc f=ac)(hm:X.mg f=ab)(o:Qg G sc f a=aa (u,v))(hu:Zg u=ac)(D:Zg v=ac)(A:PE X u (tE X.K (ev F x)))(B:PE X v (tE X.K (ev F y))):PE X (.Call (.Name f p) [a] [] pos) (tE X.K (ev F (.lstR x y))):=by
 unfold Qg at o;split at o
 .rename_i m
  subst m;obtain⟨as,h1,h2⟩:=dJ.mp o;obtain⟨T,c,rfl,J,E⟩:=U5 K h1;cases Zf7 h2
  .intro pQ s O H Q I h
   obtain⟨ad,U,st,d,st',En,S,e1,pq⟩:=h;obtain⟨a,b,j,q,q1,q2,Y,rfl,rfl⟩:=JS e1;obtain⟨z1,z2,z3⟩:=J0 Y.1;have W:bc [.Call (.Name "range" T) [u,v] [] c] X.env=[(ae,eval (.Call (.Name "range" T) [u,v] [] c) X.env)]:=Zd rfl;refine Call_ (ld_blt I (K.glb _ hg) hm Zaq (PyProof.Rows.callWith_type1 ?_ W rfl));rw[W];refine Calls.spliced_cons (J3 J E hu D A B I ⟨ad,U,st,_,j,En,S,q1,λv1 M H1 R S1 d1=>⟨M,U,j,_,q,En.mono R,S1,q2,λv2 L H2 x2 Z d2=>⟨a,b,by rw[d1.ofInt,d2.ofInt],λC r t u w P hr=>?_⟩⟩⟩)
   refine Calls.spliced_nil ?_;have hz:Y9 a b 1<=1000:=by
    have:=Y.2;split at z3<;>omega
   refine call_list_range (n:=Y9 a b 1) (P.ok.hd K.calm) hr z2 z1 (by omega) λh' tk l c' hk hS g=>?_
   have D:Vals ((ag (Y9 a b 1)).map λ(k:Nat)=>V.int (a+(k:Int) * 1)) l.toList:=by
    rw[eM];refine Vj (by rw[cN,g.1]) λi v e=>?_
    obtain⟨t,z⟩:=g.2 i v (by rw[<-e];simp)
    exact⟨t,by rw[z];simp⟩
   have m:=P.hok.fresh (aD _);refine⟨.ref C.heap.objs.size,upd H2 C.heap.objs.size (.lst ((ag (Y9 a b 1)).map λ(k:Nat)=>V.int (a+(k:Int) * 1))),P.laid (t':=tk) hk (aD _) (show ObjOk X.prog X.w _ _ _ (.lst _) from⟨?_,l.toList,c',D,?_⟩),rfl,pq _ (L++[C.heap.objs.size]) _ ((R.trans x2).trans (Ext.push m)) (Z.push m (Vi _)) (.newL ?_)⟩
   .rw[aB,bM,sizeLine_eq];omega
   .rw[Array.toArray_toList]
    exact hS
   .rw[<-Z.len]
    exact Zu
 .exact Zb o
def ZfJ{a b:ay}{y:CE}(K:Cxt X G F sc N)(c:ZaM G sc a=aa (ks,ds))(g:Zg b=ac)(B:PE X b (tE X.K (ev F y))):PE X (.Subscript a b pos) (tE X.K (ev F (.look ks ds y))):=by
 unfold ZaM at c;split at c
 .split at c
  .rename_i d
   split at c
   .rename_i q
    cases c;obtain⟨A,o,es,k,h,lk,ex,i,f,e,j⟩:=K.gl _ _ q;exact Zm (pe_ix (Zjf lk ex i f e j) (pe_glob (K.glb _ d) h (show RelV (.ref A) (.ref A) from rfl) (XR d)) B (Q4 g)) Zc3
   .exact Zb c
  .exact Zb c
 .exact Zb c
def ZjN:V->Li V->Hp->VK->Prop:=λx vs H Q=>∃ p kvs k a,x=.ref p/\vs=[kV k,a]/\H p=aa (.dK kvs)/\Q ((valV kvs k).getD a) H
def ZhE:MtM X "dict.get" ZjN:=by
 intro pQ s O H x vs v r Q I g rv h;obtain⟨p,kvs,k,n,rfl,rfl,l,q⟩:=h;cases g;obtain⟨t,f,rfl,j,i⟩:=rv.two;obtain⟨o,m,e,d,dd⟩:=dk_of I.hok l;refine call_meetsIn PySem.F.slot_dict_get dd.typeIs PySem.F.entry_dict_get (PySem.F.args_dict_get_3 _ _ _) (meets_dict_get_default (mixKind X.prog X.w) p (kV_is j) m f) ⟨_,dd.mapOf,?_⟩;have a:=d.val k;cases b:valV kvs k with
 |none=>
  cases c:valueAt e k with
  |none=>rw[b]at q;exact⟨n,H,I.tok _,i,q⟩
  |some w=>rw[b,c]at a;exact a.elim
 |some z=>
  cases c:valueAt e k with
  |none=>rw[b,c]at a;exact a.elim
  |some w=>rw[b]at q;rw[b,c]at a;exact⟨z,H,I.tok _,a,q⟩
def ZcT{t fd:Ev}(O:L2.St)(H:Hp)(Q:VK)(h:tE X.K (YQ fa t fd getD) O H Q):tBM X.K "dict" ZjN (tE X.K fa) (tCons (tE X.K t) (tCons (tE X.K fd) tNil)) O H Q:=by
 obtain⟨ad,U,st,d,st',E,S,e,p⟩:=h;unfold YQ at e;split at e
 .rename_i x c J
  split at e
  .rename_i y b I
   split at e
   .rename_i z D G
    unfold getD at e;split at e
    .rename_i ks vs k
     cases e;refine⟨ad,U,st,_,c,E,S,J,λv1 s H1 j W v=>?_⟩
     obtain⟨a,Y,rfl,L,hl,F⟩:=v.ofDct;refine⟨.inr (.inr (.inl ⟨rfl,.inl ⟨_,L⟩⟩)),s,U,c,_,b,E.mono j,W,I,λZ r H2 i V T=>⟨r,U,b,_,_,E.mono (j.trans i),V,G,λC f A g w R=>?_⟩⟩
     obtain⟨a',B,N,n,m,l⟩:=(v.mono (i.trans g)).ofDct;cases N;have M:=(T.mono g).ofStr;refine⟨a,_,eL k,C,rfl,by rw[M];rfl,n,?_⟩
     rcases WN (k:=k) l m with⟨u,d0,q,o,P⟩|⟨q,o⟩
     .rw[q]
      rw[o]at p;exact p _ f A (j.trans (i.trans g)) w P
     .rw[q]
      rw[o]at p;exact p _ f A (j.trans (i.trans g)) w R
    .exact Zb e
   .exact Zb e
  .exact Zb e
 .exact Zb e
def ZfI{ks:Li (Ot ay)}{vs:Li ay}{a b:ay}{x y z:CE}{f:Pos}(K:Cxt X G F sc N)(c:(ap.endLine==cp.line)=ac)(e:Zg a=ac)(d:Zg b=ac)(D:PE X (.Dict ks vs f) (tE X.K (ev F x)))(A:PE X a (tE X.K (ev F y)))(B:PE X b (tE X.K (ev F z))) :
  PE X (.Call (.Attribute (.Dict ks vs f) "get" ap) [a,b] [] cp) (tE X.K (ev F (.dget x y z))):=by
 refine Zm (pe_bm PySem.F.plainAttrs_dict PySem.F.slot_dict_get PySem.F.type_dict_get ZhE D (pa2 e d A B) rfl ?_ c (Zd e) (Zcf d)) ZcT;rw[Zd e,Zd d];rfl
def Zh8{u:Str}{a b:ay}{x y z:CE}{up:Pos}(K:Cxt X G F sc N)(c:(ap.endLine==cp.line)=ac)(e:Zg a=ac)(d:Zg b=ac)(D:PE X (.Name u up) (tE X.K (ev F x)))(A:PE X a (tE X.K (ev F y)))(B:PE X b (tE X.K (ev F z))) :
  PE X (.Call (.Attribute (.Name u up) "get" ap) [a,b] [] cp) (tE X.K (ev F (.dgN x y z))):=by
 refine Zm (pe_bm PySem.F.plainAttrs_dict PySem.F.slot_dict_get PySem.F.type_dict_get (ZaT (by have:=K.hu;omega)) D (pa2 e d A B) rfl ?_ c (Zd e) (Zcf d)) Ze3
 rw[Zd e,Zd d];rfl
def Zh7{u:Str}{a:ay}{x y:CE}{up:Pos}(K:Cxt X G F sc N)(b:(ap.endLine==cp.line)=ac)(d:Zg a=ac)(D:PE X (.Name u up) (tE X.K (ev F x)))(A:PE X a (tE X.K (ev F y))) :
  PE X (.Call (.Attribute (.Name u up) "get" ap) [a] [] cp) (tE X.K (ev F (.dgN x y (.c .non)))):=
 Zm (pe_bm PySem.F.plainAttrs_dict PySem.F.slot_dict_get PySem.F.type_dict_get (ZaT (by have:=K.hu;omega)) D (pa1 d A) rfl (by rw[Zd d];rfl) b (Zd d) rfl) Ze2
def ZjR{p:ay×ay}{x y z:CE}(K:Cxt X G F sc N)(d:∀ e c,cE G n sc N e=aa c->PE X e (tE X.K (ev F c)))(a:ZaZ keys=aa p)(h:cE G n sc N p.1=aa x)(g:cE G n sc N p.2=aa y)(f:(Zft vals).bind (cE G n sc N)=aa z)(j:Zg p.1=ac)(i:Zg p.2=ac) :
  PE X (.Dict keys vals pos) (tE X.K (ev F (.dd x y z))):=by
 obtain⟨e,b,k⟩:=dJ.mp f;obtain rfl:vals=[e]:=by
  unfold Zft at b;split at b
  .cases b;rfl
  .exact Zb b
 unfold ZaZ at a;split at a
 .unfold UF at a
  split at a
  .obtain rfl:=av a
   exact Zm (Zjs (by have:=K.hu;omega) (pe_tup (pa2 j i (d _ x h) (d _ y g))) (d e z k)) Zhn
  .exact Zb a
 .exact Zb a
def Zdp{K:Fg}{C:Ad}{s:Sd}{R:Result->Sd->Prop}(X:K.In s.heap)(k:W.makesIn K C=ac)(l:W.findIn K (.ref C) "__init__"=aa (aa (.builtin "object.__init__")))(h:R (.ok (.ret (.ref (s.heap.objs.size+1)))) { s with heap:=(s.heap.push W.emptyDict).push (W.instObj C s.heap.objs.size) }):codeAny (a6 prog w) A (.call (.ref C) ⟨[],[]⟩) R s:=by
 obtain⟨a,g,d,t,m⟩:=s;have Y:=W.makes_of (M:=a6 prog w) X k;have j:((a.push W.emptyDict).push (W.instObj C a.objs.size)).get? (a.objs.size+1)=aa (W.instObj C a.objs.size):=by
  have:=aX (a.push W.emptyDict) (o:=W.instObj C a.objs.size) rfl
  rwa [Heap.size_push]at this
 refine W.make_core Y (W.looks_findIn X l) (λc=>W.Looks.of_pure (W.oi_bind c)) (.inr ⟨rfl,rfl⟩) ?_
 have i:W.Looks (a6 prog w) ((a.push W.emptyDict).push (W.instObj C a.objs.size)) (typeOf (.ref (a.objs.size+1))) (.ref C):=(W.Looks.ld j).andThen .now;have f:W.Looks (a6 prog w) ((a.push W.emptyDict).push (W.instObj C a.objs.size)) (isInstance (.ref (a.objs.size+1)) (.type "object")) ac:=i.andThen (Y.top.keeps λb o e=>aL _ (aL _ e))
 refine codeAny_call_builtin W.oi_plain W.entry_oi (@W.check_slot (a6 prog w) _ _ _ "object.__init__" "object" "__init__" (.ref (a.objs.size+1)) [] [] _ W.oi_kind W.oi_split f (W.oi_args (.ref (a.objs.size+1))) ?_);rw[W.oi_run];exact aE (And.intro rfl h)
def ZcM{s:Sd}(I:L2.Inv X pQ O H s)(S:StOk X.K ad H st){a:Ad}(h:s.heap.objs.size<=a):a∉ad:=λb=>by
 obtain⟨i,c⟩:=List.getElem?_of_mem b;rcases S.has c with⟨o,q⟩|⟨o,q⟩
 .rw[I.hok.fresh h]at q;cases q
 .exact ar (aJ (I.kIn a o q)) (Nat.not_lt.mpr h)
def Zic{f:Str}{p:Pos}(K:Cxt X G F sc N)(b:ZL sc f=ac)(k:G.lookup f=aa (.cls i ms subs)):PE X (.Call (.Name f p) [] [] pos) (tE X.K (ev F (.new i))):=by
 obtain⟨j,a,_,_⟩:=K.gl f _ k;intro pQ s O H Q I h;obtain⟨ad,U,st,d,st',E,S,e,q⟩:=h;have e:aa (D.obj i,st)=aa (d,st'):=e;cases e;refine wpAny_Call_Name_kw (ld_glob I (K.glb f b) j ?_ (XR b));refine W.callWith_K0 I.kIn a.kp (wpAny_call (Zdp I.kIn a.makes a.init ?_));have g:H s.heap.objs.size=ab:=I.hok.fresh (aD _);have c:upd H s.heap.objs.size (.own (s.heap.objs.size+1)) (s.heap.objs.size+1)=ab:=by
  rw[upd_ne (Nat.ne_of_gt (dQ _))];exact I.hok.fresh (Nat.le_succ _)
 exact⟨.ref (s.heap.objs.size+1),_,I.made,rfl,q _ ad _ ((Ext.laid g).trans (Ext.laid c)) ((S.laid g).laid c) (.obj upd_same (ZcM I S (Nat.le_succ _)))⟩
def Zia{a b:ay}{x:CE}{l:Li Nat}{p:Pos}(K:Cxt X G F sc N)(f:ZL sc "isinstance"=ac)(e:X.mg "isinstance"=ab)(d:Zg a=ac)(A:PE X a (tE X.K (ev F x)))(c:JF G sc b=aa l) :
  PE X (.Call (.Name "isinstance" p) [a,b] [] pos) (tE X.K (ev F (.isc l x))):=by cases c
def Zjj{α:Type}:∀ {us:Li α},us.length=1->∃ a,us=[a]
 |[a],_=>⟨a,rfl⟩
def UA(h:as.all Zg=ac)(d:as.length < 20):((backTo pos (bc as env)).all (λx=>!x.1)&&(backToKw pos (keywordEach [] env)).all (λx=>x.1.isSome)
  &&aj (as.length+([]:Li Keyword).length+(if ([]:Li Keyword).isEmpty then 0 else 1) < 30))=ac:=by
 have a:=Xd (pos:=pos) (env:=env) h;have b:(backTo pos (bc as env)).all (λx=>!x.1)=ac:=by
  rw[cT];intro x c;have:=List.any_eq_false.mp a x c;simpa using this
 rw[b,aK (show as.length+([]:Li Keyword).length+(if ([]:Li Keyword).isEmpty then 0 else 1) < 30 by simp;omega)]
 rfl
def Zfr{o:ay}{a:Str}{b:Pos}{args:Li ay}{Q:vL->Sd->Prop}{s:Sd}(i:attributeBase o a X.env (eval o X.env)=eval o X.env)(m:((backTo pos (bc args X.env)).all (λx=>!x.1)&&(backToKw pos (keywordEach [] X.env)).all (λx=>x.1.isSome)&&aj (args.length+([]:Li Keyword).length+(if ([]:Li Keyword).isEmpty then 0 else 1) < 30))=ac)(f:(b.endLine==pos.line)=ac)(h:a0 (a6 X.prog X.w) X.A (eval o X.env) (λp d=>∀ q,a0 (a6 X.prog X.w) X.A (getMethod p a q) (λn c=>a0 (a6 X.prog X.w) X.A (callWith pos n.1 n.2 (backTo pos (bc args X.env)) (backToKw pos (keywordEach [] X.env))) Q X.xe c) X.xe d) X.xe s) :
  a0 (a6 X.prog X.w) X.A (eval (.Call (.Attribute o a b) args [] pos) X.env) Q X.xe s:=by
 rw[arm_eval_Call,i];refine aA (bH h (λp d k=>?_) λ_ _ e=>e)
 refine aA (wpAny_standAt ?_);have g:methodCallForm (args.length+([]:Li Keyword).length) (backTo pos (bc args X.env)) (backToKw pos (keywordEach [] X.env))=ac:=m;have l:methodCallPos ac o X.env b pos=pure pos:=by unfold methodCallPos;simp[f]
 unfold methodCall;rw[g];refine aA (wpAny_holding ?_);exact bH (k _) (λn c j=>aA (wpAny_of_eq l j)) λ_ _ e=>e
def Ziv{k:Nat}(h:(X5 m k G).lookup i=aa j):∃ x ms subs,G.lookup x=aa (.cls i ms subs)/\ms.lookup m=aa (j,k+1):=by
 have g:(i,j)∈X5 m k G:=by
  generalize X5 m k G=l at h
  induction l with
  |nil=>exact Zb h
  |cons p l f=>
   obtain⟨a,b⟩:=p;rw[cH]at h;split at h
   .rename_i z
    cases h;rw[beq_iff_eq.mp z];exact Ls
   .exact Lm _ (f h)
 obtain⟨x,_,c⟩:=List.mem_filterMap.mp g;unfold Zgt at c;split at c
 .rename_i r ms subs q
  split at c
  .rename_i o n d
   split at c
   .rename_i e
    subst e;cases c;exact⟨x,ms,subs,q,d⟩
   .exact Zb c
  .exact Zb c
 .exact Zb c
section
open PySem.SeqAt PySem.MeetsSeq PySem.MeetsSeq2 PySem.MeetsSeq3 PySem.SeqRoads2
theorem QT{prog:a7}{w:bm}{A:bq}{E:vL->Sd->Prop}{s:Sd}{a:Array vL}{x:vL}{e:vL->Bool}{j:Nat}(l:j < a.size)(d:e a[j]=ac)(c:∀ m (p:m < a.size),m < j->e a[m]=ae)(g:∀ y,y∈a->EqAt A s y x (e y)):∀ (k i:Nat) (Q:Ot Fin×Unit->Sd->Prop),i<=j->i+k=a.size->Q (aa (.done (.ret (.int j s.toks))),()) { s with toks:=s.toks+1 }->
  a0 (a6 prog w) A (forIn (List.range' i k) ((ab,()):Ot Fin×Unit) λ(i:Nat) __s=>
      match a[i]? with
      |some y=>do
       let __do_lift <-eqBool y x
       if __do_lift=ac then do
         let __do_lift <-retInt (i:Int)
         pure (ForInStep.done (aa __do_lift,()))
        else pure (ForInStep.yield (ab,()))
      |x=>pure (ForInStep.yield (ab,()))) Q E s
 |0,i,Q,o,n,_=>by omega
 |k+1,i,Q,o,n,h=>by
  have b:i < a.size:=by omega
  rw[eO,dG];refine aA ?_;rw[eX b];refine aA (g _ (Array.getElem_mem b) prog w _ _ ?_);by_cases f:i=j
  .subst f
   rw[d]
   wp_walk
   exact h
  .rw[c i b (by omega)]
   wp_walk
   exact QT l d c g k (i+1) Q (by omega) (by omega) h
def Ur(l:Ad)(a:Array vL)(n:Nat)(o:Obj)(x:vL)(e:vL->Bool)(j:Nat)(k:j < a.size)(c:e a[j]=ac)(b:∀ m (v:m < a.size),m < j->e a[m]=ae)(hd:o.data=.seq a n) :
  Meets (Builtin.«tuple.index» ⟨[.ref l,x],[]⟩)
   (λA R s=>s.heap.get? l=aa o/\(∀ y,y∈a->EqAt A.in1 s y x (e y))/\R (.ok (.ret (.int j s.toks))) { s with toks:=s.toks+1 }):=by
 refine .of_wp λprog w A R s h=>?_
 obtain⟨u,g,d,q,r⟩:=s;obtain⟨i,p,h⟩:=h;obtain⟨oc,t,z,f⟩:=o;cases hd;unfold Builtin.«tuple.index»
 simp only[Std.Legacy.Range.forIn_eq_forIn_range',Std.Legacy.Range.size,dY,Nat.add_sub_cancel,Nat.div_one]
 wp_walk using wpAny_loadPart' i
 refine QT k c b p (min a.size a.size - 0) 0 _ (aS _) (by simp) ?_
 exact aE ⟨_,rfl,h⟩
end
def ZcO{k:Str}{tk:Tok}{i:Nat}:∀ {ks:Li Str}{b:Li vL},Vals (ks.map V.str) b->ZcN k ks=aa i->∃ h:i < b.length,(λy:vL=>match y with
   |.str a _=>a==k
   |_=>ae) b[i]=ac/\∀ m (c:m < b.length),m < i->(λy:vL=>match y with
   |.str a _=>a==k
   |_=>ae) b[m]=ae:=by
 intro ks
 induction ks generalizing i with
 |nil=>intro b _ h;cases h
 |cons a ks l=>
  intro b r h;cases r with
  |@cons v u vs f j g=>
   obtain⟨t,rfl⟩:=j;have h:(if a=k then aa 0 else (ZcN k ks).map (·+1))=aa i:=h
   split at h
   .rename_i e
    cases h;refine⟨by simp,by simpa using e,λm _ c=>ar c (Nat.not_lt_zero m)⟩
   .rename_i e
    cases q:ZcN k ks with
    |none=>rw[q]at h;cases h
    |some n=>
     rw[q]at h;cases h;obtain⟨s,p,o⟩:=l g q;refine⟨by simpa using s,by simpa using p,λm c d=>?_⟩
     cases m with
     |zero=>simpa using e
     |succ m=>
      have d:m+1 < n+1:=d;simpa using o m (by simpa using c) (by omega)
def Zce{b:Li vL}(r:Vals (ks.map V.str) b):∀ y∈b,∃ a t,y=.str a t:=by
 induction ks generalizing b with
 |nil=>cases r;intro y hy;exact nomatch hy
 |cons a ks f=>
  cases r with
  |@cons v u vs c e d=>
   intro y hy;rcases aF.mp hy with rfl|hy
   .obtain⟨t,rfl⟩:=e;exact⟨a,t,rfl⟩
   .exact f d y hy
def Zie{y:Str}{x:CE}(K:Cxt X G F sc N)(l:(ap.endLine==cp.line)=ac)(C:as.length=1)(B:PE X (.Name y yp) (tE X.K (ev F x)))(A:PA X as (tA X.K (ev F cs))/\Jn cs/\as.all Zg=ac/\(as=[]->cs=.aN)):PE X (.Call (.Attribute (.Name y yp) "index" ap) as [] cp) (tE X.K (ev F (.tix x cs))):=by
 obtain⟨PAs,_,P,_⟩:=A;obtain⟨e0,rfl⟩:=Zjj C;intro pQ s O H Q I h;obtain⟨ad,U,st,d,st',E,S,e,p⟩:=h;replace e:ZQ (ev F x) (ev F cs) Ziw U st=aa (d,st'):=e;unfold ZQ at e;split at e
 .rename_i dx g q1
  split at e
  .rename_i dy st2 q2
   unfold Ziw at e;split at e
   .rename_i ks k
    split at e
    .rename_i i hi
     cases e;rw[bG,Ba]at P;refine wpAny_Call_method_late rfl (UA (by rw[bG,P.1];rfl) (by simp)) l rfl (thn (B pQ s O H (λv r=>∃ c,Ext ad H c r/\StOk X.K c r g/\Den X.K c r v (.kt ks)) I ⟨ad,U,st,.kt ks,g,E,S,q1,λv c r J S1 Y=>⟨c,J,S1,Y⟩⟩) λu s1 ⟨v,r,I1,rv,c,J,S1,Y⟩=>?_)
     obtain⟨a,o,j,n,rfl,h1,V,h3,h4,h5⟩:=Y.ofKt;cases (show u=bu a from rv)
     have ga:s1.heap.get? a=aa o:=I1.kIn a o h1;refine⟨"tuple", "tuple.index",PySem.F.plainAttrs_tuple,PySem.F.slot_tuple_index,PySem.F.type_tuple_index,⟨o,ga,V.1⟩,λb eb=>by cases eb;exact⟨o,ga,V.2⟩,?_⟩
     have hA:=PAs cp pQ s1 O r (λvs q=>∃ f,Ext c r f q/\StOk X.K f q st'/\Dens X.K f q vs [.str k]) I1 ⟨c,U,g,[.str k],st',E.mono J,S1,q2,λvs f q L Z W=>⟨f,L,Z,W⟩⟩
     rw[Zd P.1]at hA ⊢;refine Calls.callWith_builtin rfl (Calls.evalArgs_plain (thn hA λus s2 ⟨vs,q,I2,r2,f,L,Z,W⟩=>?_))
     obtain⟨w,rfl,dw⟩:=VP W;cases dw;obtain⟨u1,rfl,M,rfl⟩:=r2.one;have D:s2.heap.get? a=aa o:=I2.kIn a o h1;obtain⟨hj,T,R⟩:=ZcO (k:=k) (tk:=M) h5 hi;have sz:j.toList.length=j.size:=cN;refine call_meets PySem.F.slot_tuple_index ⟨o,D,V.1⟩ PySem.F.entry_tuple_index (PySem.F.args_tuple_index_2 _ _) (Ur a j n o (.str k M) (λy:vL=>match y with
      |.str a _=>a==k
      |_=>ae) i (by rw[<-sz];exact hj) (by simpa using T) (λm hm hl=>by
      have z:=R m (by rw[sz];exact hm) hl
      simp only[Array.getElem_toList]at z;exact z) h3) ⟨D,λy hy=>?_,?_⟩
     .obtain⟨b,t,rfl⟩:=Zce h5 y (by simpa using hy)
      exact PySem.SeqAt.EqAt.str_str b t k M
     .exact⟨.int (i:Int),q,I2.tok _,⟨_,rfl⟩,p.later (J.trans L) _ f q (Ext.refl _ _) Z (.int _)⟩
    .exact Zb e
   .exact Zb e
  .exact Zb e
 .exact Zb e
def ZfL{y:Str}{x:CE}(K:Cxt X G F sc N)(o:(ap.endLine==cp.line)=ac)(z:as.length < 20)(B:PE X (.Name y yp) (tE X.K (ev F x)))(A:PA X as (tA X.K (ev F cs))/\Jn cs/\as.all Zg=ac/\(as=[]->cs=.aN)):PE X (.Call (.Attribute (.Name y yp) m ap) as [] cp) (tE X.K (ev F (.meth (X5 m as.length G) x cs))):=by
 obtain⟨PAs,_,P,hn⟩:=A;intro pQ s O H Q I h;obtain⟨ad,U,st,d,st',E,S,e,p⟩:=h;replace e:ZQ (ev F x) (ev F cs) (Zdr F (X5 m as.length G)) U st=aa (d,st'):=e;unfold ZQ at e;split at e
 .rename_i dx g q1
  split at e
  .rename_i dy l M
   unfold Zdr at e;split at e
   .rename_i i J
    split at e
    .rename_i j hj
     obtain⟨cx,ms,subs,hG,hl⟩:=Ziv hj;obtain⟨_,nw,_,V⟩:=K.gl cx _ hG;obtain⟨k,f,fd,pn,Fk,hr,n,hb⟩:=V m j _ hl;refine Zfr rfl (UA P z) o (thn (B pQ s O H (λv q=>∃ b,Ext ad H b q/\StOk X.K b q g/\Den X.K b q v (.obj i)) I ⟨ad,U,st,.obj i,g,E,S,q1,λv b q w R C=>⟨b,w,R,C⟩⟩) λu s1 ⟨v,q,T,rv,b,w,R,C⟩ pl=>?_)
     obtain⟨a,dx,rfl,ha⟩:=C.ofObj;cases (show u=bu a from rv)
     refine getmeth_ok T ha nw.cl n rfl ?_;cases as with
     |nil=>
      have hc:=hn rfl;subst hc;have M:aa (D.tup [],g)=aa (.tup J,l):=M;cases M;exact W.callWith_K0 (first:=[.ref a]) T.kIn n.kp (run_fn (us:=[.ref a]) (vs:=[.ref a]) (E:=E0) Fk hr hb .nil pass0 T (.cons rfl .nil) ⟨b,[.obj i],g,d,st',R,.cons C .nil,e,p.later w⟩)
     |cons e0 es=>
      rw[bG,Ba]at P;refine W.callWith_K (first:=[.ref a]) (h₀:=X.base) I.ok.mod.kin n.kp (thn (PAs cp pQ s1 O q _ T ⟨b,U,g,J,l,E.mono w,R,M,λvs c t L Z Y=>(show(λvs t=>∃ c,Ext b q c t/\StOk X.K c t l/\Dens X.K c t vs J) vs t from⟨c,L,Z,Y⟩)⟩) λus s2 ⟨vs,t,I2,r,c,L,Z,Y⟩=>⟨I2.kIn,?_⟩) (Zd P.1) (Xd P.2)
      refine run_fn (us:=.ref a :: us) (vs:=.ref a :: vs) (E:=E0) Fk hr hb .nil pass0 I2 (.cons rfl r) ?_;rw[bB];exact⟨c,.obj i :: J,l,d,st',Z,.cons (C.mono L) Y,e,p.later (w.trans L)⟩
    .exact Zb e
   .exact Zb e
  .exact Zb e
 .exact Zb e
def J7{b:ay}{p:Ot ay×Ot ay}(q:Vz b=aa p):∃ a,b=.Slice p.1 p.2 ab a:=by
 unfold Vz at q;split at q
 .cases q;exact⟨_,rfl⟩
 .exact Zb q
def ZjS{op:UnaryOp}{a:ay}{o:Ot CE}{c:CE}(A:∀ x,o=aa x->SE X F a x)(h:unC op o=aa c):SE X F (.UnaryOp op a pos) c:=by
 cases op with
 |Not=>exact V7 (P:=SE X F _) (show o.map CE.not=aa c from h) λx b=>⟨Zm (pe_not (A x b).pe) Zc5,Ub (pt_not (A x b).pt) Zc4⟩
 |USub=>exact V7 (P:=SE X F _) (show o.map CE.neg=aa c from h) λx b=>.of (Zm (pe_un Zf9 (A x b).pe) Zc9)
 |Invert=>exact V7 (P:=SE X F _) (show o.map CE.inv=aa c from h) λx b=>.of (Zm (pe_un Zf8 (A x b).pe) Zc9)
 |_=>exact Zb h
section
variable {X:Cx}{sc:bg}{N:Li Str}{n:Nat}{c:CE} (K:Cxt X G F sc N) (hf:∀ e c,cE G n sc N e=aa c->SE X F e c)
include K hf
def Zh6{a:ay}{d:Li CmpOp}{bs:Li ay}(h:Zi1 G sc (cE G n sc N) (cE G n sc N a) d bs=aa c):SE X F (.Compare a d bs pos) c:=by
 cases d with
 |nil=>exact Zb h
 |cons op d=>cases bs with
  |nil=>cases d with
   |nil=>exact Zb h
   |cons _ r=>cases r<;>cases h
  |cons b bs=>cases d with
   |nil=>cases bs with
    |cons _ _=>exact Zb h
    |nil=>
     replace h:(match Z3 G sc b with
      |some e=>o3 CE.inR (Zhp op) (cE G n sc N a) (cE G n sc N e)
      |none=>o2 (CE.cmp op) (cE G n sc N a) (cE G n sc N b))=aa c:=h
     cases i:Z3 G sc b with
     |some e=>
      rw[i]at h;exact X7 (P:=SE X F _) h λl x y k g f=>Zh9 K i k (Ze f) (hf a x g).pe (hf e y f).pe
     |none=>
      rw[i]at h;exact Z6 (P:=SE X F _) h λx y g f=>⟨Zm (pe_cmpR (ZaY K.hu) (hf a x g).pe (hf b y f).pe (Vf (Ze f))) U7,Ub (pt_cmpR (ZaY K.hu) (hf a x g).pe (hf b y f).pe (Vf (Ze f))) λO H Q q=>U7 O H _ (Zc8 O H Q q)⟩
   |cons j d=>exact Zb h
omit K in
def ZfG{op:BoolOp}{vs:Li ay}{pos:Pos}(h:Zgj (cE G n sc N) op pos vs=aa c):SE X F (.BoolOp op vs pos) c:=by
 cases vs with
 |nil=>exact Zb h
 |cons a r=>cases r with
  |nil=>
   have A:=hf a c h;refine⟨pe_one A.pe,?_⟩;cases op with
   |And=>exact(pw_and1 A.pt).pt
   |Or=>exact(pw_or1 A.pt).pt
  |cons b r=>cases op with
   |And=>exact Z6 (P:=SE X F _) (show o2 CE.and (cE G n sc N a) (cE G n sc N (.BoolOp .And (b :: r) pos))=aa c from h) λx y e d=>⟨Zm (pe_and (hf a x e).pe (hf _ y d).pe) ZcQ,Ub (pw_and (hf a x e).pt (Jf (hf _ y d).pt)).pt ZcP⟩
   |Or=>exact Z6 (P:=SE X F _) (show o2 CE.or (cE G n sc N a) (cE G n sc N (.BoolOp .Or (b :: r) pos))=aa c from h) λx y e d=>⟨Zm (pe_or (hf a x e).pe (hf _ y d).pe) Ze9,Ub (pw_or (hf a x e).pt (Jf (hf _ y d).pt)).pt Ze8⟩
def Zid(d:UR G F n){a b:ay}(h:Ziu G sc (cE G n sc N) (cO G n sc N) a b=aa c):SE X F (.Subscript a b pos) c:=by
 unfold Ziu at h;cases q:Vz b with
 |some p=>
  obtain⟨j,o⟩:=p;rw[q]at h;obtain⟨r,rfl⟩:=J7 q;exact X7 (P:=SE X F _) h λx l u f m k=>.of (Zm (pe_slice Zls (hf a x f).pe (d X sc N K j l m) (d X sc N K o u k)) ZbO)
 |none=>
  rw[q]at h;dsimp only at h;cases i:ZgH b with
  |some s=>
   cases i
  |none=>
   rw[i]at h;dsimp only at h;cases g:ZaM G sc a with
   |some p=>
    obtain⟨ks,ds⟩:=p;rw[g]at h;exact V7 (P:=SE X F _) h λy e=>.of (ZfJ K g (Ze e) (hf b y e).pe)
   |none=>
    rw[g]at h;exact Z6 (P:=SE X F _) h λx y f e=>.of (Zm (pe_ix (Zkq K.hu) (hf a x f).pe (hf b y e).pe (Q4 (Ze e))) U7)
def ZdY{f:Str}{a:ay}{p:Pos}(i:ZL sc f=ac)(d:X.mg f=ab)(h:Zcn G sc f a (cE G n sc N)=aa c):SE X F (.Call (.Name f p) [a] [] pos) c:=by
 unfold Zcn at h;cases j:Zad G sc f a with
 |some e=>
  rw[j]at h;exact Zif K i d j (λc l=>⟨Ze l,(hf e c l).pe⟩) h
 |none=>
  rw[j]at h;dsimp only at h;cases g:Qg G sc f a with
  |some q=>
   obtain⟨u,v⟩:=q;rw[g]at h;exact Z6 (P:=SE X F _) h λx y b k=>.of (ZfK K i d g (Ze b) (Ze k) (hf u x b).pe (hf v y k).pe)
  |none=>
   rw[g]at h;exact j_e h λh=>V7 (P:=λo=>o=aa c->SE X F _ c) h (λx b h=>.of (ZfE K i d (Ze b) (hf a x b).pe h)) rfl
def ZdZ{f:Str}{a b:ay}{p:Pos}(i:ZL sc f=ac)(e:X.mg f=ab)(h:Zco G sc f a b (cE G n sc N)=aa c):SE X F (.Call (.Name f p) [a,b] [] pos) c:=by
 unfold Zco at h;by_cases k:f = "isinstance"
 .subst k
  rw[ao rfl]at h;cases g:JF G sc b with
  |some l=>
   rw[g]at h;exact V7 (P:=SE X F _) h λx q=>.of (Zia K i e (Ze q) (hf a x q).pe g)
  |none=>
   rw[g]at h;exact Z6 (P:=SE X F _) h λx T d m=>.of (Zib K i e (Ze d) (hf a x d).pe m)
 .rw[aq k]at h
  exact j_e h λh=>Z6 (P:=λo=>o=aa c->SE X F _ c) h (λx y d j h=>.of (ZfF K i e (Ze d) (Ze j) (hf a x d).pe (hf b y j).pe h)) rfl
def Zd0(j:YZ G F n){f:Str}{p:Pos}(h:Zct G sc f as (cEs G n sc N as) (cE G n sc N)=aa c):SE X F (.Call (.Name f p) as [] pos) c:=by
 unfold Zct at h;cases d:ZL sc f with
 |false=>rw[d]at h;cases h
 |true=>
 rw[d,ao rfl]at h;cases e:G.lookup f with
 |none=>rw[e]at h;cases h
 |some g=>
  rw[e]at h;cases g with
  |fn i o ds=>exact X8 h λm h=>V7 (P:=SE X F _) h λcs k=>.of (ZfH K d e m (j X sc N K as cs k))
  |blt=>
   have l:X.mg f=ab:=K.gl f _ e;cases as with
   |nil=>exact Zb h
   |cons a as=>cases as with
    |nil=>exact ZdY K hf d l h
    |cons b as=>cases as with
     |nil=>exact ZdZ K hf d l h
     |cons _ _=>exact Zb h
  |cls i ms subs=>cases as with
   |cons _ _=>exact Zb h
   |nil=>cases h;exact .of (Zic K d e)
  |_=>exact Zb h
def ZfD(j:YZ G F n){o:ay}(h:Zgi G o m ap as pos (cEs G n sc N as) (cE G n sc N)=aa c):SE X F (.Call (.Attribute o m ap) as [] pos) c:=by
 cases o with
 |Dict ks vs t=>cases as with
  |nil=>exact Zb h
  |cons a as=>cases as with
   |nil=>exact Zb h
   |cons b as=>cases as with
    |cons _ _=>exact Zb h
    |nil=>
     refine X8 h λf h=>X7 (P:=SE X F _) h λx y z d q e=>?_
     obtain⟨rfl,g⟩:=f;exact .of (ZfI K g (Ze q) (Ze e) (hf _ x d).pe (hf a y q).pe (hf b z e).pe)
 |Name y yp=>
  refine X8 h λf h=>?_
  by_cases k:m = "pop"
  .subst k
   rw[ao rfl]at h;refine X8 h λp h=>V7 (P:=SE X F _) h λx d=>?_
   cases as with
   |cons _ _=>exact nomatch p
   |nil=>exact .of (Zm (pe_bm0 PySem.F.plainAttrs_list PySem.F.slot_list_pop PySem.F.type_list_pop mt_pop (hf _ x d).pe rfl f.1) Zfa)
  .rw[aq k]at h
   by_cases l:m = "get"
   .subst l
    rw[ao rfl]at h;cases as with
    |nil=>exact Zb h
    |cons a as=>cases as with
     |nil=>exact Z6 (P:=SE X F _) h λx z d e=>.of (Zh7 K f.1 (Ze e) (hf _ x d).pe (hf a z e).pe)
     |cons b as=>cases as with
      |cons _ _=>exact Zb h
      |nil=>exact X7 (P:=SE X F _) h λx u z d r e=>.of (Zh8 K f.1 (Ze r) (Ze e) (hf _ x d).pe (hf a u r).pe (hf b z e).pe)
   .rw[aq l]at h
    by_cases s:m = "index"
    .subst s
     rw[ao rfl]at h;exact X8 h λp h=>Z6 (P:=SE X F _) h λx cs d i=>.of (Zie K f.1 p (hf _ x d).pe (j X sc N K as cs i))
    .rw[aq s]at h
     exact Z6 (P:=SE X F _) h λx cs d i=>.of (ZfL K f.1 f.2 (hf _ x d).pe (j X sc N K as cs i))
 |_=>exact Zb h
end
def J9(H:Zq G F n)(j:YZ G F n)(E:UR G F n)(u:∀ X sc N,Cxt X G F sc N->∀ o gens i pos c,cE G (n+1) sc N (.ListComp o gens i pos)=aa c->SE X F (.ListComp o gens i pos) c):Zq G F (n+1):=by
 intro X sc N K e c h;have g:=H X sc N K;have no:∀ {P:Prop},(ab:Ot CE)=aa c->P:=λz=>nomatch z
 cases e with
 |Constant v k pos=>exact Zd1 h
 |Name x pos=>exact ZfM K h
 |BinOp a op b pos=>exact Z6 (P:=SE X F _) (show o2 (CE.bin op) (cE G n sc N a) (cE G n sc N b)=aa c from h) λx y s r=>.of (Zm (pe_op Zfu (g a x s).pe (g b y r).pe) U7)
 |UnaryOp op a pos=>exact ZjS (g a) h
 |Compare a L bs pos=>exact Zh6 K g h
 |BoolOp op vs pos=>exact ZfG g h
 |IfExp t a b pos=>exact X7 (P:=SE X F _) (show o3 CE.ife (cE G n sc N t) (cE G n sc N a) (cE G n sc N b)=aa c from h) λz x y l s r=>⟨Zm (pe_ifExp (g t z l).pt (g a x s).pe (g b y r).pe) Zho,ZhO (g t z l).pt (g a x s).pt (g b y r).pt⟩
 |Tuple es k pos=>
  refine V7 (P:=SE X F _) (show(cEs G n sc N es).map CE.tupE=aa c from h) λx q=>?_
  obtain⟨A,C,_,_⟩:=j X sc N K es x q;exact .of (Zm (pe_tup A) (Zfe (λU st ds st' e=>by obtain⟨w,z,l⟩:=Vn C e;cases z;exact l) λU st d st' e=>by obtain⟨w,z,l⟩:=Vn C e;exact⟨w,z⟩))
 |List es pos=>
  refine V7 (P:=SE X F _) (show(cEs G n sc N es).map CE.lstE=aa c from h) λx q=>?_
  obtain⟨A,C,_,_⟩:=j X sc N K es x q;exact .of (Zm (pe_lst A) (Ze6 λU st ds st' e=>by obtain⟨w,z,l⟩:=Vn C e;cases z;exact l))
 |Dict keys vals pos=>cases keys with
  |nil=>cases vals with
   |nil=>cases h;exact .of (Zm pe_dnewT ZcU)
   |cons _ _=>exact Zb h
  |cons B keys=>
   have h:(match ZaZ (B :: keys) with
    |some p=>o3 .dd (cE G n sc N p.1) (cE G n sc N p.2) ((Zft vals).bind (cE G n sc N))
    |none=>og ((B :: keys).length=vals.length/\(B :: keys)≠[]/\(B :: keys).length<=15) (o2 CE.dict (ZX (B :: keys)) (cVs (cE G n sc N) vals)))=aa c:=h
   split at h
   .rename_i p I
    exact X7 (P:=SE X F _) h λx y z s r l=>.of (ZjR K (λe c h=>(g e c h).pe) I s r l (Ze s) (Ze r))
   .exact X8 h λJ h=>Z6 (P:=SE X F _) h λks cs I M=>.of (ZdN (λe c h=>(g e c h).pe) I M J.1 J.2.1 J.2.2)
 |Subscript a b pos=>exact Zid K g E h
 |Call f as D pos=>cases D with
  |cons _ _=>exact no h
  |nil=>cases f with
   |Attribute O m ap=>exact ZfD K g j h
   |Name f p=>exact Zd0 K g j h
   |_=>exact no h
 |ListComp o gens i pos=>exact u X sc N K o gens i pos c h
 |_=>exact no h
def Ji(a:Zq G F n)(b:YZ G F n):YZ G F (n+1):=by
 intro X sc N K es c h;cases es with
 |nil=>
  simp only[cEs]at h;cases h;exact⟨ZdK pa_nil VU,trivial,rfl,λ_=>rfl⟩
 |cons e es=>
  refine Z6 (P:=λc=>PA X _ (tA X.K (ev F c))/\Jn c/\_/\(_->c=.aN)) (show o2 CE.aC (cE G n sc N e) (cEs G n sc N es)=aa c from h) λx r d f=>?_
  obtain⟨A,i,g,_⟩:=b X sc N K es r f;exact⟨ZdK (pa_cons (a X sc N K e x d).pe A (Zd (Ze d))) UB,trivial,by rw[bG,g,Ze d];rfl,λz=>nomatch z⟩
def Jj(b:Zq G F n):UR G F (n+1):=by
 intro X sc N K e c h;cases e with
 |none=>
  simp only[cO]at h;cases h;exact ZdP po_none Ze7
 |some e=>
  simp only[cO]at h;cases q:cE G n sc N e with
  |none=>rw[q]at h;cases h
  |some x=>
   rw[q]at h;cases h;refine ZdP (po_some (b X sc N K e x q).pe) λO H Q k=>?_
   obtain⟨ad,U,st,d,st',E,S,a,p⟩:=k;have a:Zo (ev F x) V9 U st=aa (d,st'):=a;unfold Zo at a;split at a
   .rename_i y f g
    cases y with
    |int i=>
     cases a;rcases p with⟨z,_⟩|⟨j,z,p⟩
     .cases z
     .cases z
      exact⟨ad,U,st,.int i,_,E,S,g,λv ad' H' x m l=>⟨i,l.ofInt,p ad' H' x m⟩⟩
    |_=>simp[V9]at a
   .exact Zb a
end
variable [ClsTab]
variable{α β:Type}
def b_e{P:Prop}{o:Ot α}{f:α->Ot β}{c:β}(h:o.bind f=aa c)(k:∀ x,o=aa x->f x=aa c->P):P:=by
 cases o with
 |none=>exact Zb h
 |some x=>exact k x rfl h
def ZgE{s:Stmt}{t u:TS}(b:PS X s t)(a:PS X s u):PS X s (λD O H=>t D O H\/u D O H):=λpQ s O H D I q=>q.elim (b pQ s O H D I) (a pQ s O H D I)
variable{l:Nat}
def Vk{a:Ot ay}(h:XT e=ae):swapsWith e a l env=pure ae:=by
 cases e<;>first|rfl|cases h
variable{tg:ay}
def Xv(h:XT e=ae):swapsWithSole [tg] e l env=pure ae:=Vk h
def VC{o k:ay}{p:Pos}(h:Zg k=ac):∀ v,assign (.Subscript o k p) env v=(do
   let a <-holding [v] (eval o env)
   let b <-holding [v,a] (eval k env)
   standAt p
   holding [v,a,b] (setItem a b v)
   release [v,a,b] []):=by
 cases k<;>first | (intro _;rfl)|cases h
def Uf{o k:ay}{p:Pos}:swappedStores [.Subscript o k p] e env=pure ab:=by
 cases e<;>rfl
def ZU(h:Zg e=ac):∀ x,foldedSetIterable e env x=pure x:=by
 cases e<;>first | (intro _;rfl)|cases h
structure CxtS(X:Cx)(G:Gs)(F:Nat->Fn)(sc:bg)(N:List Str):Prop extends Cxt X G F sc N where
 nd:N.Nodup
 loc:∀ x∈N,Loc X.env.scope x
 fn:∀ x,X.fn x=ac
variable{it elt:ay}{gens:Li Comprehension}{sc2:bg}{tp p2 p3:Pos}{ctx t' kk:Nat}{h' h:bj}{items:Array vL}{E:vL->Sd->Prop}{z:Ad}{elts:Li ay}
section
def Jq(G:Gs)(F:Nat->Fn)(n:Nat):Prop:=∀ X sc N,CxtS X G F sc N->∀ s c,cS G n sc N s=aa c->PS X s (tS X.K (ex F c))
def Z4(G:Gs)(F:Nat->Fn)(n:Nat):Prop:=∀ X sc N,CxtS X G F sc N->∀ s c,cSs G n sc N s=aa c->PSs X s (tS X.K (ex F c))
def U6{x:Str}(h:N.idxOf? x=aa i):x∈N:=aY (Ws h)
def Yh{x:Str}{p:Pos}(K:CxtS X G F sc N)(h:N.idxOf? x=aa i):PG X (.Name x p) (gName i):=
 pg_name (by rw[K.hN];exact K.nd) (by rw[K.hN];exact Ws h) (K.loc x (U6 h)) (.inl (K.fn x))
def Xt(K:CxtS X G F sc N):PassesOwn (a6 X.prog X.w) X.A X.env X.xe:=by
 rw[K.nx];exact PassesOwn.never
def Za1{x:Str}{p:Pos}(K:Cxt X G F sc N)(a:WL sc x=ac)(b:N.idxOf? x=aa i):PE X (.Name x p) (tVar i):=
 pe_var (by rw[K.hN];exact Ws b) (K.vis _ a) (Qe a).1 (Qe a).2
def Vh{a:ay}{x:CE}(K:Cxt X G F sc N)(h:Z3 G sc it=aa a)(b:Zg a=ac)(A:PE X a (tE X.K (ev F x))):Zg it=ac/\PI X tg it (iRng1 (tCons (tE X.K (ev F x)) tNil)):=by
 obtain⟨_,_,rfl,d,c⟩:=Uq K h;exact⟨rfl,pi_range1 d c (pa1 b A) (Zd b)⟩
def VB(G:Gs)(F:Nat->Fn)(n:Nat):Prop:=∀ X sc N,CxtS X G F sc N->∀ (x:Str) (i:Nat) (p:Pos) elt gens sc2 epos (pos:Pos) c,N.idxOf? x=aa i->cE G n sc N (.ListComp elt gens sc2 epos)=aa c->
 swapsWith (.ListComp elt gens sc2 epos) (aa (.Name x p)) pos.line X.env=pure ac->PS X (.Assign [.Name x p] (.ListComp elt gens sc2 epos) pos) (tAsg (tE X.K (ev F c)) (gName i))
def Zaa{epos p:Pos}{x:Str}:∃ b:Bool,swapsWith (.ListComp elt gens sc2 epos) (aa (.Name x p)) l env=pure b:=⟨_,rfl⟩
def ZdC{c:CE}(h:cE G n sc N e=aa c):XT e=ae\/∃ elt gens sc2 a,e=.ListComp elt gens sc2 a:=by
 cases n with
 |zero=>exact nomatch (show(ab:Ot CE)=aa c from h)
 |succ n=>cases e<;>first|exact .inl rfl|exact .inr ⟨_,_,_,_,rfl⟩|exact nomatch (show(ab:Ot CE)=aa c from h)
def Zii(a:Zq G F n)(o:VB G F n)(K:CxtS X G F sc N){c:CS}{x:Str}{p:Pos}(h:o2 CS.set (N.idxOf? x) (cE G n sc N e)=aa c):PS X (.Assign [.Name x p] e pos) (tS X.K (ex F c)):=by
 refine Z6 (P:=λc=>PS X _ (tS X.K (ex F c))) h λi y f d=>?_
 have g:∀ j,PS X (.Assign [.Name x p] e pos) (tAsg (tE X.K (ev F y)) (gName i)):=λj=>ps_set (by rw[K.hN];exact K.nd) (by rw[K.hN];exact Ws f) (K.loc _ (U6 f)) (a X sc N K.toCxt _ y d).pe j (.inl (K.fn _))
 rcases ZdC d with m|⟨elt,gens,sc2,epos,rfl⟩
 .exact ZC (g (Vk m)) U8
 .obtain⟨b,k⟩:=Zaa (elt:=elt) (gens:=gens) (sc2:=sc2) (epos:=epos) (p:=p) (x:=x) (l:=pos.line) (env:=X.env)
  cases b with
  |false=>exact ZC (g k) U8
  |true=>exact ZC (o X sc N K _ i p elt gens sc2 epos pos y f d k) U8
def Ug{a:Li ay}{k:Nat}(h:Q3 e=ae):swappedStores [.Tuple a k tp] e env=pure ab:=by
 cases e with
 |Tuple=>cases h
 |_=>rfl
def ZfX(a:Zq G F n)(K:CxtS X G F sc N){c:CS}{x y:Str}{p:Pos}(h:og ((XT e||Q3 e)=ae) (o3 (λi j c=>og (i≠j) (aa (CS.set2 i j c))) (N.idxOf? x) (N.idxOf? y) (cE G n sc N e)).join=aa c):PS X (.Assign [.Tuple [.Name x p,.Name y p2] ctx tp] e pos) (tS X.K (ex F c)):=by
 refine X8 h λb h=>j_e h λh=>X7 (P:=λo=>o=aa c->PS X _ (tS X.K (ex F c))) h (λi j k g f d h=>X8 h λ_ h=>?_) rfl
 cases h;rw[Bool.or_eq_false_iff]at b;exact ZC (ps_asg (a X sc N K.toCxt _ k d).pe (pg_tup K.calm (pgs_cons (Yh K g) (pgs_cons (Yh K f) pgs_nil))) (Xv b.1) (Ug b.2)) Zc6
def ZfY(a:Zq G F n)(K:CxtS X G F sc N){c:CS}{x y z:Str}{p:Pos}(h:og ((XT e||Q3 e)=ae) (o3 (λi j (p:Nat×CE)=>CS.set3 i j p.1 p.2) (N.idxOf? x) (N.idxOf? y) (o2 Prod.mk (N.idxOf? z) (cE G n sc N e)))=aa c):PS X (.Assign [.Tuple [.Name x p,.Name y p2,.Name z p3] ctx tp] e pos) (tS X.K (ex F c)):=by
 refine X8 h λb h=>X7 (P:=λc=>PS X _ (tS X.K (ex F c))) h λi j q m k f=>Z6 (P:=λq=>PS X _ (tS X.K (ex F (.set3 i j q.1 q.2)))) f λl o g d=>?_
 rw[Bool.or_eq_false_iff]at b;exact ZC (ps_asg (a X sc N K.toCxt _ o d).pe (pg_tup K.calm (pgs_cons (Yh K m) (pgs_cons (Yh K k) (pgs_cons (Yh K g) pgs_nil)))) (Xv b.1) (Ug b.2)) Zc7
def Zig(a:Zq G F n)(K:CxtS X G F sc N){c:CS}{f:Str}{d:Pos}{b:Li Keyword}(h:(cE G n sc N (.Call (.Name f d) as b cp)).map CS.act=aa c):PS X (.Expr (.Call (.Name f d) as b cp) pos) (tS X.K (ex F c)):=by
 obtain⟨g,e,rfl⟩:=dU.mp h;exact ZC (ps_expr (a X sc N K.toCxt _ g e).pe rfl) ZeY
def ZdL{k a b:ay}(h:UF k=aa (a,b)):∃ c p,k=.Tuple [a,b] c p:=by
 unfold UF at h;split at h
 .cases h;exact⟨_,_,rfl⟩
 .exact Zb h
def Zij(d:Zq G F n)(K:CxtS X G F sc N){c:CS}{x:Str}{k:ay}{p q:Pos}(h:Zju sc N x k e (cE G n sc N)=aa c):PS X (.Assign [.Subscript (.Name x p) k q] e pos) (tS X.K (ex F c)):=
 X8 h λl h=>by
 cases o:UF k with
 |some u=>
  rw[o]at h;obtain⟨a,b⟩:=u;obtain⟨_,_,rfl⟩:=ZdL o;refine X7 (P:=λc=>PS X _ (tS X.K (ex F c))) h λ_ j y r f m=>?_
  exact Z6 (P:=λj:CE×CE=>PS X _ (tS X.K (ex F (.dput _ j.1 j.2 y)))) f λt s i g=>ZC (ps_asg (d X sc N K.toCxt _ y m).pe (pg_sub (Za1 K.toCxt l.2.2 r) (pe_tup (pa_cons (d X sc N K.toCxt _ t i).pe (pa_cons (d X sc N K.toCxt _ s g).pe pa_nil (Zd (Ze g))) (Zd (Ze i)))) (set_dT (by have:=K.toCxt.hu;omega)) (VC rfl)) (Xv l.1) Uf) ZcV
 |none=>
 rw[o]at h;exact X7 (P:=λc=>PS X _ (tS X.K (ex F c))) h λ_ j y r f m=>ZC (ps_asg (d X sc N K.toCxt _ y m).pe (pg_sub (Za1 K.toCxt l.2.2 r) (d X sc N K.toCxt _ j f).pe set_list (VC (Ze f))) (Xv l.1) Uf) Zfb
def Zik(a:Zq G F n)(K:CxtS X G F sc N){c:CS}(h:(cE G n sc N e).map CS.ret=aa c):PS X (.Return (aa e) pos) (tS X.K (ex F c)):=
 V7 (P:=λc=>PS X _ (tS X.K (ex F c))) h λx q=>ZC (ps_ret (a X sc N K.toCxt _ x q).pe) Zfc
def ZjT(f:Zq G F n)(d:Z4 G F n)(K:CxtS X G F sc N){c:CS}{a b:Li Stmt}(h:o3 CS.ite (cE G n sc N e) (cSs G n sc N a) (cSs G n sc N b)=aa c):PS X (.If e a b pos) (tS X.K (ex F c)):=
 X7 (P:=λc=>PS X _ (tS X.K (ex F c))) h λk m l g j i=>ZC (ps_if (f X sc N K.toCxt _ k g).pt (d X sc N K _ m j) (d X sc N K _ l i)) Ze5
def ZfS(d:YZ G F n)(a:Z4 G F n)(K:CxtS X G F sc N){c:CS}{x:Str}{b:Li Stmt}{p:Pos}(e:W9 G sc it=aa as)(h:o3 CS.for3 (N.idxOf? x) (cEs G n sc N as) (cSs G n sc N b)=aa c):PS X (.For (.Name x p) it b [] pos) (tS X.K (ex F c)):=by cases e
def ZfQ(e:Zq G F n)(d:Z4 G F n)(K:CxtS X G F sc N){c:CS}{x:Str}{b:Li Stmt}{p:Pos}(h:(match Z3 G sc it with
   |some a=>o3 (λi c b=>CS.for1 i ac c b) (N.idxOf? x) (cE G n sc N a) (cSs G n sc N b)
   |none=>o3 (λi c b=>CS.for1 i ae c b) (N.idxOf? x) (cE G n sc N it) (cSs G n sc N b))=aa c):PS X (.For (.Name x p) it b [] pos) (tS X.K (ex F c)):=by
 cases k:Z3 G sc it with
 |some a=>
  rw[k]at h;refine X7 (P:=λc=>PS X _ (tS X.K (ex F c))) h λi r j f q g=>?_
  obtain⟨o,m⟩:=Vh K.toCxt k (Ze q) (e X sc N K.toCxt a _ q).pe;exact ZC (ps_for (Xt K) K.calm m (Yh K f) (d X sc N K _ j g) (ZU o)) Zc1
 |none=>
  rw[k]at h;refine X7 (P:=λc=>PS X _ (tS X.K (ex F c))) h λi r j f q g=>?_
  have A:=(e X sc N K.toCxt _ _ q).pe;have l:=ZU (env:=X.env) (Ze q);exact ZC (ZgE (ps_for (Xt K) K.calm (pi_tup A) (Yh K f) (d X sc N K _ j g) l) (ps_for (Xt K) K.calm (pi_list A) (Yh K f) (d X sc N K _ j g) l)) ZcZ
def Ve{s:Sd}{wr:Li Ad}(I:L2.Inv X pQ O H s)(d:∀ b∈wr,FpOk X pQ H b)(k:∀ b o,b∉wr->s.heap.get? b=aa o->h'.get? b=aa o):L2.Inv X pQ O H { s with heap:=h',toks:=t' }:=by
 have g:∀ b u,H b=aa u->b∉wr:=λb u e f=>by have:=(d b f).1;rw[e]at this;cases this
 refine I.step (g':=s.gens) (d':=s.drawn) (ch:=wr) (λb f=>⟨(d b f).2.2.2.1,(d b f).2.1,(d b f).2.2.2.2.1,(d b f).2.2.2.2.2⟩) (λb o _ _ a e _=>k b o a e) (λb o _ _ a e _=>⟨o.slots,k b o a e⟩)
  (λb o _ e n=>n) (λb o a e=>⟨o,k b o a e⟩) (λb ys e=>e) (λb o u e=>e) (λb l e=>⟨#[],by rw[e];simp⟩) (λm i=>?_) (λb u e=>?_) I.bare
 .obtain⟨o,es,j,h,r⟩:=i
  exact⟨o,es,j,k _ o (λz=>(d _ z).2.1 rfl) h,r⟩
 .refine(I.hok b u e).stay (λc v a q=>k c v ?_ q) (λc q=>q) λc ys q=>q
  rcases a with z|z
  .rw[z];exact g b u e
  .exact g c _ z
def Wb{s:Sd}{wr:Li Ad}{T:Ad}{h:Li V}(I:L2.Inv X pQ O H s)(f:∀ b∈wr,FpOk X pQ H b)(k:∀ b o,b∉wr->s.heap.get? b=aa o->h'.get? b=aa o)(j:s.heap.objs.size<=T)(new:ObjOk X.prog X.w (upd H T (.tup h)) h' T (.tup h)):L2.Inv X pQ O (upd H T (.tup h)) { s with heap:=h',toks:=t' }:=by
 have g:H T=ab:=I.hok.fresh j;have l:∀ b u,s.heap.get? b=aa u->b≠T:=λb u e=>aZ (aU (aJ e) j)
 have i:∀ b u,H b=aa u->b∉wr:=λb u e a=>by have:=(f b a).1;rw[e]at this;cases this
 refine I.step (g':=s.gens) (d':=s.drawn) (ch:=wr) (λb a=>⟨(f b a).2.2.2.1,(f b a).2.1,(f b a).2.2.2.2.1,(f b a).2.2.2.2.2⟩) (λb o _ _ d e _=>k b o d e) (λb o _ _ d e _=>⟨o.slots,k b o d e⟩)
  (λb o _ e n=>by rw[upd_ne (l b o e)];exact n) (λb o d e=>⟨o,k b o d e⟩) (λb ys e=>by rw[upd_ne (ne_of_none e g)];exact e) (λb o u e=>by rw[upd_ne (ne_of_none e g)];exact e) (λb y e=>⟨#[],by rw[upd_ne (ne_of_none e g),e];simp⟩) (λm t=>?_) (λb u e=>?_) I.bare
 .obtain⟨o,es,x,p,r⟩:=t
  exact⟨o,es,x,k _ o (λz=>(f _ z).2.1 rfl) p,r⟩
 .by_cases a:b=T
  .subst a;rw[upd_same]at e;cases e;exact new
  .rw[upd_ne a]at e
   refine(I.hok b u e).stay (λc v d q=>k c v ?_ q) (λc q=>by rw[upd_ne (ne_of_none q g)];exact q) λc ys q=>by rw[upd_ne (ne_of_none q g)];exact q
   rcases d with z|z
   .rw[z];exact i b u e
   .exact i c _ z
def Zf2{s:Sd}{a:Ad}{b:Li V}(I:L2.Inv X pQ O H s)(j:SqL X.K H a b)(i:SqL X.K H a ys):ys=b:=by
 obtain⟨d,h,⟨l,n,g1,_,_,k⟩,_⟩:=I.list j;obtain⟨c,g,⟨o2,m,g2,_,_,f⟩,_⟩:=I.list i;rw[g1]at g2;cases g2;rw[k]at f;have e:d.toArray=c.toArray:=by injection f
 have e:d=c:=by simpa using e
 subst e;exact Vals.inj g h
def Zdz{a b:String}{p:Prop}(h:Value.type a=Value.type b)(n:¬a=b):p:=by
 injection h with h
 exact ar h n
section
variable{prog:a7}{w:bm}{A:bq}{E:vL->Sd->Prop}{s:Sd}
open Sem (wp)
open AutoSeq1 (wpAny_loadPart')
def Xh{it l:Ad}{Q:vL->Sd->Prop}(j:A.handled=ab)(b:s.heap.IsTupleIter it l i)(k:s.heap.IsTuple l items)(p:∀ x h',items[i]?=aa x->h'.IsTupleIter it l (i+1)->Heap.SameBut it s.heap h'->Q x { s with heap:=h' })(q:items[i]?=ab->∀ h' e,Heap.ExtBut it s.heap h'->(∃ o,h'.get? e=aa o/\o.cls=.type "StopIteration")->E (.ref e) { s with heap:=h' }) :
  a0 (a6 prog w) A (Builtin.SmallTypes.nextOf (.ref it)) Q E s:=by
 obtain⟨o,d,n,c⟩:=id b;obtain⟨r,g,_,nl,h⟩:=k;unfold Builtin.SmallTypes.nextOf;refine aA (wpAny_callSpecial?_slot (name:=Str.ofString "__next__") b.typeIs PySem.F.slot_tuple_iterator_next
  (wpAny_call_entry PySem.F.slot_tuple_iterator_next b.typeIs PySem.F.entry_tuple_iterator_next ?_ (PySem.F.args_tuple_iterator_next_1 _)))
 show a0 _ _ (field (.ref it) 0 >>= _) _ _ s;refine aA (wpAny_field d c (x:=.ref l) rfl ?_);show a0 _ _ (if (bu l==bv)=ac then _ else _) _ _ s
 rw[aq (show ¬((bu l==bv)=ac) from Bf)];show a0 _ _ (field (.ref it) 1 >>= _) _ _ s;refine aA (wpAny_field d c (x:=.int i 0) rfl ?_);show a0 _ _ (seqItems? (.ref l) >>= _) _ _ s;refine aA (wpAny_seqItems g h ?_);cases f:items[i]? with
 |some x=>
  simp only[bD,f];refine aA (wpAny_setField d c (by simp) (aE ⟨x,rfl,aE (p _ _ f ?_ (Heap.SameBut.update ..))⟩))
  exact⟨_,Heap.get?_update_self _ d (Obj.isFreed_of_fields (Obj.data_mapFields c _)),(Obj.cls_mapFields ..).trans n,by
   rw[Obj.data_mapFields c];simp[rawInt]⟩
 |none=>
  simp only[bD,f];refine aA (wpAny_rule (aA (wpAny_setField d c (by simp) ?_)))
  show a0 _ _ (newExc (.type "StopIteration") [] >>= _) _ _ _;refine aA ?_;simp only[newExc,newTuple];refine aA (wpAny_newObj_type ?_ (by size_fits))
  refine aA (m:=firstArgMember _ _) (wpAny_of_eq (a:=bv) (by first|rfl | (simp only[firstArgMember];rfl)) ?_)
  refine wpAny_newObj_type ?_ (by size_fits)
  simp only[raiseNew];refine aA (wpAny_handled ?_)
  first|rw[show A.in1.handled=ab from j]|rw[j]
  refine aA (aE (wpAny_throw ?_));exact q f _ _ (((Heap.SameBut.update ..).extBut.push _).push _) ⟨_,aX _ rfl,rfl⟩
end
structure ZD(z TI TO i1 i2:Addr):Prop where
 a:TI≠z
 b:TO≠z
 c:i1≠z
 d:i2≠z
 e:TI≠TO
 f:TI≠i1
 g:TI≠i2
 h:TO≠i1
 i:TO≠i2
 j:i1≠i2
section
variable{prog:a7}{w:bm}{A:bq}{s:Sd}{z TI TO i1 i2:Ad}{x y a b:vL}{S1 S2:bj->Prop}
open Builtin.SmallTypes
def KB(l:Li Ad)(h h':bj):Prop:=∀ c o,c∉l->h.get? c=aa o->h'.get? c=aa o
def KB.of{l:Li Ad}{p:Ad}(k:Heap.SameBut p h h')(m:p∈l):KB l h h':=λc o n e=>k.extBut c o (λq=>n (q ▸ m)) e
def KB.trans{l:Li Ad}{d b a:bj}(x:KB l d b)(y:KB l b a):KB l d a:=λc o n e=>y c o n (x c o n e)
def Zjm{TO:Ad}:z∈[z,TO,i1,i2]/\TO∈[z,TO,i1,i2]/\i1∈[z,TO,i1,i2]/\i2∈[z,TO,i1,i2]:=⟨.head _,.tail _ (.head _),.tail _ (.tail _ (.head _)),.tail _ (.tail _ (.tail _ (.head _)))⟩
def Nx(prog:a7)(w:bm)(A:bq)(s:Sd)(l:Li Ad)(i:Ad)(x:vL)(S:bj->Prop):Prop:=
 ∀ (h:bj) (Q E:vL->Sd->Prop),KB l s.heap h->(∀ h',S h'->Heap.SameBut i h h'->Q x { s with heap:=h' })->a0 (a6 prog w) A (nextOf (.ref i)) Q E { s with heap:=h }
def Nz(prog:a7)(w:bm)(A:bq)(s:Sd)(l:Li Ad)(i:Ad):Prop:=
 ∀ (h:bj) (Q E:vL->Sd->Prop),KB l s.heap h->(∀ h' e,Heap.ExtBut i h h'->(∃ o,h'.get? e=aa o/\o.cls=.type "StopIteration")->E (.ref e) { s with heap:=h' })->a0 (a6 prog w) A (nextOf (.ref i)) Q E { s with heap:=h }
def Zgd{Q:vL->Sd->Prop}(d:ZD z TI TO i1 i2)(r:IsZip s.heap z TI TO .none)(hI:IsPair s.heap TI (.ref i1) (.ref i2))(hO:IsPair s.heap TO a b)(V:Nx prog w A s [z] i1 x S1)(U:Nx prog w A s [z,TO,i1] i2 y S2)(Z:∀ h h',S1 h->(∀ o,h.get? i1=aa o->h'.get? i1=aa o)->S1 h')(Y:∀ h h',S2 h->(∀ o,h.get? i2=aa o->h'.get? i2=aa o)->S2 h')(hQ:∀ h',IsZip h' z TI TO (rawInt s.heap.objs.size)->IsPair h' TO x y->S1 h'->S2 h'->IsPair h' s.heap.objs.size x y->KB [z,TO,i1,i2] s.heap h'->Q (.ref s.heap.objs.size) { s with heap:=h' }) :
  a0 (a6 prog w) A (Builtin.«zip.__next__» ⟨[.ref z],[]⟩) (λF T=>∃ v,F=.done (.ret v)/\Q v T) E s:=by
 obtain⟨N,M,X,W⟩:=Zjm (z:=z) (TO:=TO) (i1:=i1) (i2:=i2);show a0 _ _ (field (.ref z) 2 >>= _) _ _ _;refine aA (wpAny_field r rfl (x:=.bool ae) rfl (aA (wpAny_field r rfl (x:=.ref TI) rfl (aA (wpAny_seqItems hI rfl ?_)))));show a0 _ _ (ownedTupleIsFree (.ref z) >>= _) _ _ _;unfold ownedTupleIsFree;refine aA (aA (wpAny_field r rfl (x:=.none) rfl (aE ?_)))
 simp only[if_true];refine aA (wpAny_rule (aA (wpAny_field r rfl (x:=.ref TO) rfl (aA (wpAny_setField_rec r (by simp) λg1 S p=>aA ?_)))))
 simp only[List.zipIdx_cons,List.zipIdx_nil,dG,List.forIn_nil];refine aA (aA (wpAny_onRaise ?_));show a0 _ _ (nextOf (.ref i1) >>= _) _ _ _;have K1:KB [z] s.heap g1:=KB.of p (.head _);refine aA (V g1 _ _ K1 λg2 P m=>aE ?_)
 have o2:IsPair g2 TO a b:=m.extBut _ _ d.h (p.extBut _ _ d.b hO);refine aA (wpAny_seqItems o2 rfl (aA (wpAny_updateSeq_pair o2 λD o3 l=>aA (wpAny_letGo (aE ?_)))))
 have o3:IsPair D TO x b:=o3;refine aA (aA (wpAny_onRaise ?_));show a0 _ _ (nextOf (.ref i2) >>= _) _ _ _;have K3:KB [z,TO,i1] s.heap D:=(KB.of p (.head _)).trans ((KB.of m (.tail _ (.tail _ (.head _)))).trans (KB.of l (.tail _ (.head _))));refine aA (U D _ _ K3 λg4 O k=>aE ?_)
 have L:IsPair g4 TO x b:=k.extBut _ _ d.i o3;refine aA (wpAny_seqItems L rfl (aA (wpAny_updateSeq_pair L λf u g=>aA (wpAny_letGo (aE (aE ?_))))))
 have u:IsPair f TO x y:=u;refine aA (wpAny_seqItems u rfl (aA (wpAny_newTuple ?_)));have K4:KB [z,TO,i1,i2] s.heap f:=((KB.of p N).trans ((KB.of m X).trans ((KB.of l M).trans ((KB.of k W).trans (KB.of g M)))));have sz:f.objs.size=s.heap.objs.size:=by rw[g.1,k.1,l.1,m.1,p.1]
 have H:IsZip f z TI TO .ellipsis:=g.extBut _ _ d.b.symm (k.extBut _ _ d.d.symm (l.extBut _ _ d.b.symm (m.extBut _ _ d.c.symm S)));have G:=aJ H;show a0 _ _ (ownedTupleHandOut (.ref z) (.ref f.objs.size) >>= _) _ _ _;unfold ownedTupleHandOut;have R:IsZip (f.push { cls:=.type "tuple",data:=.seq #[x,y] }) z TI TO .ellipsis:=aL _ H;refine aA (aA (wpAny_setField_rec R (by simp) λg7 C J=>?_))
 have C:IsZip g7 z TI TO (rawInt f.objs.size):=C;refine wpAny_setField_rec C (by simp) λB t I=>aE ⟨_,rfl,?_⟩
 have t:IsZip B z TI TO (rawInt f.objs.size):=t;have up:∀ c o,c≠z->f.get? c=aa o->B.get? c=aa o:=λc o n e=>I.extBut _ _ n (J.extBut _ _ n (aL _ e))
 have K:IsPair B f.objs.size x y:=I.extBut _ _ (Nat.ne_of_gt G) (J.extBut _ _ (Nat.ne_of_gt G) (aX _ rfl));show Q (.ref f.objs.size) _;rw[sz]at t K ⊢;exact hQ B t (up _ _ d.b u) (Z _ _ P λo e=>up _ _ d.c (g.extBut _ _ d.h.symm (k.extBut _ _ d.j (l.extBut _ _ d.h.symm e)))) (Y _ _ O λo e=>up _ _ d.d (g.extBut _ _ d.i.symm e)) K (K4.trans λc o n e=>up c o (λq=>n (q ▸ N)) e)
def Zet{Q:Fin->Sd->Prop}(d:ZD z TI TO i1 i2)(m:IsZip s.heap z TI TO .none)(T:IsPair s.heap TI (.ref i1) (.ref i2))(R:IsPair s.heap TO a b)(n:Nz prog w A s [z] i1\/∃ x S,Nx prog w A s [z] i1 x S/\Nz prog w A s [z,TO,i1] i2)(U:∀ h' e,KB [z,TO,i1,i2] s.heap h'->(∃ o,h'.get? e=aa o/\o.cls=.type "StopIteration")->E (.ref e) { s with heap:=h' }):a0 (a6 prog w) A (Builtin.«zip.__next__» ⟨[.ref z],[]⟩) Q E s:=by
 obtain⟨y,P,H,O⟩:=Zjm (z:=z) (TO:=TO) (i1:=i1) (i2:=i2);show a0 _ _ (field (.ref z) 2 >>= _) _ _ _;refine aA (wpAny_field m rfl (x:=.bool ae) rfl (aA (wpAny_field m rfl (x:=.ref TI) rfl (aA (wpAny_seqItems T rfl ?_)))));show a0 _ _ (ownedTupleIsFree (.ref z) >>= _) _ _ _;unfold ownedTupleIsFree;refine aA (aA (wpAny_field m rfl (x:=.none) rfl (aE ?_)))
 simp only[if_true];refine aA (wpAny_rule (aA (wpAny_field m rfl (x:=.ref TO) rfl (aA (wpAny_setField_rec m (by simp) λg1 p j=>aA ?_)))))
 simp only[List.zipIdx_cons,List.zipIdx_nil,dG,List.forIn_nil];refine aA (aA (wpAny_onRaise ?_));show a0 _ _ (nextOf (.ref i1) >>= _) _ _ _;have p:IsZip g1 z TI TO .ellipsis:=p;have J:KB [z] s.heap g1:=KB.of j (.head _);have l:∀ {g:bj}{e:Ad},IsZip g z TI TO .ellipsis->KB [z,TO,i1,i2] s.heap g->(∃ o,g.get? e=aa o/\o.cls=.type "StopIteration")->∀ v,Heap.SameBut z g v->E (.ref e) { s with heap:=v }:=λ{g e} u k ⟨o,B,I⟩ v t=>by
  have L:e≠z:=λq=>by subst q;rw[u]at B;cases B;simp at I
  exact U v e (k.trans (KB.of t y)) ⟨o,t.extBut _ _ L B,I⟩
 rcases n with n|⟨x,S,N,M⟩
 .refine aA (n g1 _ _ J λg2 e f C=>?_)
  have F:IsZip g2 z TI TO .ellipsis:=f _ _ d.c.symm p;exact wpAny_setField_rec F (by simp) λr _ i=>l F ((KB.of j y).trans λc o n e=>f c o (λq=>n (q ▸ H)) e) C r i
 .refine aA (N g1 _ _ J λg2 Y f=>aE ?_)
  have o2:IsPair g2 TO a b:=f.extBut _ _ d.h (j.extBut _ _ d.b R);refine aA (wpAny_seqItems o2 rfl (aA (wpAny_updateSeq_pair o2 λr o3 i=>aA (wpAny_letGo (aE ?_)))))
  refine aA (aA (wpAny_onRaise ?_));show a0 _ _ (nextOf (.ref i2) >>= _) _ _ _;have X:KB [z,TO,i1] s.heap r:=(KB.of j (.head _)).trans ((KB.of f (.tail _ (.tail _ (.head _)))).trans (KB.of i (.tail _ (.head _))));refine aA (M r _ _ X λW e G C=>?_)
  have D:IsZip W z TI TO .ellipsis:=G _ _ d.d.symm (i.extBut _ _ d.b.symm (f.extBut _ _ d.c.symm p));exact wpAny_setField_rec D (by simp) λV _ K=>l D ((KB.of j y).trans ((KB.of f H).trans ((KB.of i P).trans λc o n e=>G c o (λq=>n (q ▸ O)) e))) C V K
end
structure ZSt(z TI TO i1 i2 a b:Addr)(i:Nat)(h:bj):Prop where
 hz:IsZip h z TI TO .none
 hI:IsPair h TI (.ref i1) (.ref i2)
 hO:∃ u v,IsPair h TO u v
 h1:h.IsTupleIter i1 a i
 h2:h.IsTupleIter i2 b i
def Zbn{TI TO b a c:Ad}(h:c∈[z,TO,b,a]):c∈[z,TI,TO,b,a]:=by
 rcases aF.mp h with rfl|h
 .exact .head _
 .exact .tail _ (.tail _ h)
def Zbo{TI TO e d a b c:Ad}(st:ZSt z TI TO e d a b i h)(f:c∈[z,TI,TO,e,d]):∃ o,h.get? c=aa o/\∀ v,o.data≠.cell v:=by
 obtain⟨g,k,⟨u,v,j⟩,⟨n,g1,_,m⟩,⟨o2,g2,_,l⟩⟩:=st;simp only[aF,aW,or_false]at f;rcases f with rfl|rfl|rfl|rfl|rfl
 .exact⟨_,g,λv q=>by cases (show Data.fields _=Data.cell v from q)⟩
 .exact⟨_,k,λv q=>by cases (show Data.seq _ _=Data.cell v from q)⟩
 .exact⟨_,j,λv q=>by cases (show Data.seq _ _=Data.cell v from q)⟩
 .exact⟨_,g1,λv q=>by rw[m]at q;cases q⟩
 .exact⟨_,g2,λv q=>by rw[l]at q;cases q⟩
def Zgp{s:Sd}{a c:Ad}(I:L2.Inv X pQ O H s)(f:FpOk X pQ H c)(h:(∃ o,H a=aa o)\/∃ o,X.K.lookup a=aa o):a≠c:=λq=>by
 subst q;rcases h with⟨o,h⟩|⟨o,h⟩
 .rw[f.1]at h;cases h
 .have b:=I.ok.mod.kin a o h
  rcases f.2.2.2.1 with g|g
  .exact I.ok.noex a o b g
  .exact ar (aJ (I.ok.bs a o b).1) (Nat.not_lt.mpr g)
def Zd9{K:Fg}{a:Ad}{b:Li V}(h:SqT K H a b):(∃ o,H a=aa o)\/∃ o,K.lookup a=aa o:=by
 rcases h with(h|⟨o,h⟩)|⟨o,c,n,h,_⟩
 .exact .inl ⟨_,h⟩
 .exact .inl ⟨_,h⟩
 .exact .inr ⟨_,h⟩
theorem Jm{s:Sd}{TI TO:Ad}{Q:Ot vL->Sd->Prop}(g:IsZip s.heap z TI TO .none)(h:∀ {d:Fin->Sd->Prop}{f:vL->Sd->Prop},(∀ v a,Q (aa v) a->d (.done (.ret v)) a)->(∀ e a,(∃ o,a.heap.get? e=aa o/\o.cls=.type "StopIteration")->Q ab a->f (.ref e) a)->a0 (a6 prog w) A.in1 (Builtin.«zip.__next__» ⟨[.ref z],[]⟩) d f s):a0 (a6 prog w) A (pyNext (.ref z)) Q E s:=by
 have c:s.TypeIs (.ref z) "zip":=⟨_,g,rfl⟩;unfold pyNext;refine aA (wpAny_attempt (wpAny_callSpecial?_slot (name:=Str.ofString "__next__") c F.slot_zip_next (wpAny_call_entry F.slot_zip_next c F.entry_zip_next (h (λv a q=>⟨v,rfl,aE q⟩) λe a j q=>?_) (F.args_zip_next_1 _))))
 obtain⟨o,i,k⟩:=j;exact aA (wpAny_isInstance (T := "StopIteration") (b:=ac) ⟨o,i,k⟩ isSubtype_stop (aE q))
section
variable{X:Cx}{z TI TO i1 i2 a b:Ad}{i:Nat}{pQ:Li (Ad×Obj)}{s:Sd}{O:L2.St}{H:Hp}{E:vL->Sd->Prop}
def nl{l:Li Ad}{c:Ad}(h:∀ d∈l,c≠d):c∉l:=λm=>h c m rfl
def Zeu(d:ZD z TI TO i1 i2)(S:X.calm=ac)(I:L2.Inv X pQ O H s)(F:∀ c∈[z,TI,TO,i1,i2],FpOk X pQ H c)(st:ZSt z TI TO i1 i2 a b i s.heap){L:Li V}(C:SqT X.K H a L)(B:SqT X.K H b ys){g f:Li vL}(M:s.heap.IsTuple a g.toArray)(p2:s.heap.IsTuple b f.toArray) :
  (∀ u,g.toArray[i]?=aa u->Nx X.prog X.w X.A.in1 s [z] i1 u λh=>h.IsTupleIter i1 a (i+1))/\(g.toArray[i]?=ab->Nz X.prog X.w X.A.in1 s [z] i1)/\(∀ u,f.toArray[i]?=aa u->Nx X.prog X.w X.A.in1 s [z,TO,i1] i2 u λh=>h.IsTupleIter i2 b (i+1))/\(f.toArray[i]?=ab->Nz X.prog X.w X.A.in1 s [z,TO,i1] i2):=by
 have P:∀ {c},c∈[z,TI,TO,i1,i2]->a≠c:=λm=>Zgp I (F _ m) (Zd9 C)
 have N:∀ {c},c∈[z,TI,TO,i1,i2]->b≠c:=λm=>Zgp I (F _ m) (Zd9 B)
 have R:z∈[z,TI,TO,i1,i2]:=.head _;have J:∀ h,KB [z] s.heap h->h.IsTupleIter i1 a i/\h.IsTuple a g.toArray:=λh k=>⟨st.h1.at λo e=>k _ o (nl λc m=>by rw[aP.mp m];exact d.c) e,M.at λo e=>k _ o (nl λc m=>by rw[aP.mp m];exact P R) e⟩
 have G:∀ h,KB [z,TO,i1] s.heap h->h.IsTupleIter i2 b i/\h.IsTuple b f.toArray:=λh k=>⟨st.h2.at λo e=>k _ o (nl λc m=>by
   simp only[aF,aW,or_false]at m;rcases m with rfl|rfl|rfl
   .exact d.d
   .exact d.i.symm
   .exact d.j.symm) e,p2.at λo e=>k _ o (nl λc m=>N (by
   simp only[aF,aW,or_false]at m ⊢;rcases m with rfl|rfl|rfl
   .exact .inl rfl
   .exact .inr (.inr (.inl rfl))
   .exact .inr (.inr (.inr (.inl rfl))))) e⟩
 have y:X.A.in1.handled=ab:=I.ok.hd S;refine⟨λu n h Q E k p=>?_,λn h Q E k p=>?_,λu n h Q E k p=>?_,λn h Q E k p=>?_⟩
 .obtain⟨r,q⟩:=J h k
  exact Xh (s:={ s with heap:=h }) y r q (λx l ex v t=>by rw[n]at ex;cases ex;exact p l v t) λex=>by rw[n]at ex;cases ex
 .obtain⟨r,q⟩:=J h k
  exact Xh (s:={ s with heap:=h }) y r q (λx l ex v t=>by rw[n]at ex;cases ex) λ_ l e t D=>p l e t D
 .obtain⟨r,q⟩:=G h k
  exact Xh (s:={ s with heap:=h }) y r q (λx l ex v t=>by rw[n]at ex;cases ex;exact p l v t) λex=>by rw[n]at ex;cases ex
 .obtain⟨r,q⟩:=G h k
  exact Xh (s:={ s with heap:=h }) y r q (λx l ex v t=>by rw[n]at ex;cases ex) λ_ l e t D=>p l e t D
def Zes(d:ZD z TI TO i1 i2)(hc:X.calm=ac)(I:L2.Inv X pQ O H s)(D:∀ c∈[z,TI,TO,i1,i2],FpOk X pQ H c)(st:ZSt z TI TO i1 i2 a b i s.heap)(hg:(Itz X.K a b).go i H) :
  a0 (a6 X.prog X.w) X.A (pyNext (.ref z)) (λr s1=>∃ u,r=aa u/\a0 (a6 X.prog X.w) X.A (letOwnedTupleGo (.Tuple elts kk pos) (.ref z) u) (λ_ L=>∃ x H',L2.Inv X pQ O H' L/\RelV x u/\(Itz X.K a b).yld i H x H'/\ZSt z TI TO i1 i2 a b (i+1) L.heap/\∀ c∈[z,TI,TO,i1,i2],H' c=ab) E s1) E s:=by
 obtain⟨xs,ys,x,y,p,l,ex,N⟩:=hg;obtain⟨B,V,W,_⟩:=I.tuple p;obtain⟨t,U,p2,_⟩:=I.tuple l;obtain⟨Z,_,Y,_⟩:=Zeu d hc I D st p l W p2;obtain⟨u,F,T⟩:=V.get ex;obtain⟨v,ev,rv⟩:=U.get N;have F:B.toArray[i]?=aa u:=by rw[dZ];exact F
 have ev:t.toArray[i]?=aa v:=by rw[dZ];exact ev
 obtain⟨oa,ob,hO⟩:=st.hO;refine Jm st.hz λ{Qf Ef} hq _=>bH (Zgd d st.hz st.hI hO (Z u F) (Y v ev) (λh h' q k=>q.at k) (λh h' q k=>q.at k) (Q:=λr s1=>Qf (.done (.ret r)) s1) (E:=Ef) λg a1 a2 a3 a4 a5 M=>hq _ _ ⟨_,rfl,?_⟩) (λr s1 ⟨v,e,q⟩=>by rw[e];exact q) λ_ _ e=>e
 refine wpAny_letOwnedTupleGo_zip (s:={ s with heap:=g }) a1 λg2 b1 J=>?_
 have hT:s.heap.objs.size<=s.heap.objs.size:=aD _;have G:∀ c∈[z,TI,TO,i1,i2],c≠s.heap.objs.size:=λc j q=>by
  obtain⟨o,e,_⟩:=Zbo st j;exact ar (aJ e) (by rw[q];exact bZ _)
 have C:KB [z,TO,i1,i2] s.heap g2:=M.trans (KB.of J (.head _));have S:s.heap.objs.size≠z:=λq=>G z (.head _) q.symm
 have up:∀ c o,c≠z->g.get? c=aa o->g2.get? c=aa o:=λc o n e=>J.extBut c o n e
 have I2:L2.Inv X pQ O (upd H s.heap.objs.size (.tup [x,y])) { s with heap:=g2,toks:=s.toks }:=Wb (wr:=[z,TO,i1,i2]) I (λc j=>D c (Zbn j)) (λc o n e=>C c o n e) hT ⟨show 2<=ax by decide,[u,v],.cons T (.cons rv .nil),⟨_,up _ _ S a5,rfl,_,rfl⟩⟩
 have fr:H s.heap.objs.size=ab:=I.hok.fresh (aD _);refine⟨.ref s.heap.objs.size,upd H s.heap.objs.size (.tup [x,y]),I2,rfl,⟨_,x,y,rfl,fr,rfl,λR q=>by rw[I.tuple_inj q p];exact ex,λP q=>by rw[I.tuple_inj q l];exact N⟩,⟨b1,up _ _ d.a (M _ _ (nl λc m=>?_) st.hI),⟨_,_,up _ _ d.b a2⟩,a3.at λo e=>up _ o d.c e,a4.at λo e=>up _ o d.d e⟩,λc j=>?_⟩
 .simp only[aF,aW,or_false]at m
  rcases m with rfl|rfl|rfl|rfl
  .exact d.a
  .exact d.e
  .exact d.f
  .exact d.g
 .rw[upd_ne (G c j)]
  exact(D c j).1
def Zer(d:ZD z TI TO i1 i2)(M:X.calm=ac)(I:L2.Inv X pQ O H s)(m:∀ c∈[z,TI,TO,i1,i2],FpOk X pQ H c)(st:ZSt z TI TO i1 i2 a b i s.heap)(J:(Itz X.K a b).stop i H) :
  a0 (a6 X.prog X.w) X.A (pyNext (.ref z)) (λr s1=>r=ab/\L2.Inv X pQ O H s1) E s:=by
 obtain⟨Q,ys,h,f,G⟩:=J;obtain⟨j,y,B,_⟩:=I.tuple h;obtain⟨l,v,p2,_⟩:=I.tuple f;obtain⟨C,t,U,p⟩:=Zeu d M I m st h f B p2;obtain⟨T,R,N⟩:=st.hO;have W:=y.length;have V:=v.length;have P:Nz X.prog X.w X.A.in1 s [z] i1\/∃ x S,Nx X.prog X.w X.A.in1 s [z] i1 x S/\Nz X.prog X.w X.A.in1 s [z,TO,i1] i2:=by
  cases q:j.toArray[i]? with
  |none=>exact .inl (t q)
  |some u=>
   rw[dZ,bL]at q;refine .inr ⟨u,_,C u (by rw[dZ,bL];exact q),p ?_⟩
   rw[dZ,eP];have:=q.1;omega
 exact Jm st.hz λ{Y Z} _ L=>Zet d st.hz st.hI N P λg e D F=>L e _ F ⟨rfl,Ve (t':=s.toks) (wr:=[z,TO,i1,i2]) I (λc k=>m c (Zbn k)) λc o n e=>D c o n e⟩
end
def Zeh{P:a7}{K:Fg}(z TI TO j g a b:Ad)(d:ZD z TI TO j g):Turn P w K (.Tuple elts kk pos) (Itz K a b) [z,TI,TO,j,g] z (ZSt z TI TO j g a b) where
 mem:=.head _
 obj:=λi h st c f=>Zbo st f
 keep:=λi h h' st k=>by
  obtain⟨r,x,⟨u,v,t⟩,A,y⟩:=st;exact⟨k z (.head _) _ r,k TI (.tail _ (.head _)) _ x,⟨u,v,k TO (.tail _ (.tail _ (.head _))) _ t⟩,A.at λo e=>k j (.tail _ (.tail _ (.tail _ (.head _)))) o e,y.at λo e=>k g (.tail _ (.tail _ (.tail _ (.tail _ (.head _))))) o e⟩
 item:=λX p l q f i pQ s O H E I n st m=>by
  subst p l q;exact Zes d f I n st m
 done:=λX p l q f i pQ s O H E I n st m=>by
  subst p l q;exact Zer d f I n st m
 self:=λ_ _ _ _ _ st h=>wpAny_pyIter_zip st.hz h
def Zhf:bf "zip"=aa (.type "zip"):=by decide +kernel
def JT(a b:Ad)(k ys:Array vL) :
  Meets (Builtin.«zip.__new__» ⟨[.type "zip",.ref a,.ref b],[]⟩) (λ_ R s=>s.heap.IsTuple a k/\s.heap.IsTuple b ys/\∀ h',h'=((((s.heap.push { cls:=.type "tuple_iterator",data:=.fields #[.ref a,.int 0 0] }).push { cls:=.type "tuple_iterator",data:=.fields #[.ref b,.int 0 0] }).push { cls:=.type "tuple",data:=.seq #[.ref s.heap.objs.size,.ref (s.heap.push { cls:=.type "tuple_iterator",data:=.fields #[.ref a,.int 0 0] }).objs.size] }).push { cls:=.type "tuple",data:=.seq #[.none,.none] })->
   R (.ok (.ret (.ref h'.objs.size))) { s with heap:=h'.push { cls:=.type "zip",data:=.fields #[.none,.bool ae,.bool ae,.ref ((s.heap.push { cls:=.type "tuple_iterator",data:=.fields #[.ref a,.int 0 0] }).push { cls:=.type "tuple_iterator",data:=.fields #[.ref b,.int 0 0] }).objs.size,.ref (((s.heap.push { cls:=.type "tuple_iterator",data:=.fields #[.ref a,.int 0 0] }).push { cls:=.type "tuple_iterator",data:=.fields #[.ref b,.int 0 0] }).push { cls:=.type "tuple",data:=.seq #[.ref s.heap.objs.size,.ref (s.heap.push { cls:=.type "tuple_iterator",data:=.fields #[.ref a,.int 0 0] }).objs.size] }).objs.size] } }):=
 .of_wp λprog w A R s h=>by
  obtain⟨p,g,d,l,m⟩:=s;obtain⟨f,c,h⟩:=h;have n:=sub_zip;have j:Heap.IsTuple (Shared.heap ⟨p,g,d,l,m⟩) a k:=f;have i:Heap.IsTuple (Shared.heap ⟨p.push { cls:=.type "tuple_iterator",data:=.fields #[.ref a,.int 0 0] },g,d,l,m⟩) b ys:=c.at λo e=>aL _ e
  wp_walk using wpAny_pyIter_tuple j,wpAny_pyIter_tuple i
  exact⟨_,rfl,h _ rfl⟩
theorem ZbC{s:Sd}{i f:Ad}{t ys:Array vL}{Q:vL->Sd->Prop}(r:s.heap.IsTuple i t)(q:s.heap.IsTuple f ys)(h:∀ h',ZSt (s.heap.objs.size+4) (s.heap.objs.size+2) (s.heap.objs.size+3) s.heap.objs.size (s.heap.objs.size+1) i f 0 h'->(∀ c o,s.heap.get? c=aa o->h'.get? c=aa o)->Q (.ref (s.heap.objs.size+4)) { s with heap:=h' }) :
  a0 (a6 prog w) A (call (.type "zip") [.ref i,.ref f]) Q E s:=by
 refine callType_new F.called_zip (by decide) (F.typeCall_zip_2 _ _) (F.newCall_zip_2 _ _) (λobj=>F.args_object_init_3 obj _ _) F.entry_zip_new (JT i f t ys) ⟨r,q,λh' e=>?_⟩
 have k:∀ (g:bj) (o:Obj),(g.push o).objs.size=g.objs.size+1:=λg o=>Heap.size_push ..
 generalize d:s.heap.push { cls:=.type "tuple_iterator",data:=.fields #[.ref i,.int 0 0] }=g1 at e;generalize b:g1.push { cls:=.type "tuple_iterator",data:=.fields #[.ref f,.int 0 0] }=g2 at e;generalize a:g2.push { cls:=.type "tuple",data:=.seq #[.ref s.heap.objs.size,.ref g1.objs.size] }=g3 at e;have s1:g1.objs.size=s.heap.objs.size+1:=by rw[<-d,k]
 have p:g2.objs.size=s.heap.objs.size+2:=by rw[<-b,k,s1]
 have n:g3.objs.size=s.heap.objs.size+3:=by rw[<-a,k,p]
 have v:h'.objs.size=s.heap.objs.size+4:=by rw[e,k,n]
 have H:g1.get? s.heap.objs.size=aa { cls:=.type "tuple_iterator",data:=.fields #[.ref i,.int 0 0] }:=by rw[<-d];exact aX _ rfl
 have G:g2.get? (s.heap.objs.size+1)=aa { cls:=.type "tuple_iterator",data:=.fields #[.ref f,.int 0 0] }:=by rw[<-b,<-s1];exact aX _ rfl
 have D:IsPair g3 (s.heap.objs.size+2) (.ref s.heap.objs.size) (.ref (s.heap.objs.size+1)):=by rw[<-a,<-p,<-s1];exact aX _ rfl
 have C:IsPair h' (s.heap.objs.size+3) .none .none:=by rw[e,<-n];exact aX _ rfl
 have u:∀ c o,g1.get? c=aa o->g2.get? c=aa o:=λc o x=>by rw[<-b];exact aL _ x
 have m:∀ c o,g2.get? c=aa o->g3.get? c=aa o:=λc o x=>by rw[<-a];exact aL _ x
 have l:∀ c o,g3.get? c=aa o->h'.get? c=aa o:=λc o x=>by rw[e];exact aL _ x
 have j:∀ {c:Ad}{o:Obj} (z:Obj),h'.get? c=aa o->(h'.push z).get? c=aa o:=λz x=>aL _ x
 have B:∀ c o,s.heap.get? c=aa o->g1.get? c=aa o:=λc o x=>by rw[<-d];exact aL _ x
 show _/\_;rw[p,n];have y:IsZip (h'.push { cls:=.type "zip",data:=.fields #[.none,.bool ae,.bool ae,.ref (s.heap.objs.size+2),.ref (s.heap.objs.size+3)] }) (s.heap.objs.size+4) (s.heap.objs.size+2) (s.heap.objs.size+3) .none:=by rw[<-v];exact aX _ rfl
 rw[v];exact⟨⟨_,y,rfl⟩,h _ ⟨y,j _ (l _ _ D),⟨_,_,j _ C⟩,⟨_,j _ (l _ _ (m _ _ (u _ _ H))),rfl,rfl⟩,⟨_,j _ (l _ _ (m _ _ G)),rfl,rfl⟩⟩ λc o x=>j _ (l _ _ (m _ _ (u _ _ (B _ _ x))))⟩
def ZhN{x y:ay}{u:TA}{p:Pos}(G:Gl X "zip")(F:X.mg "zip"=ab)(J:PA X [x,y] u)(t:[x,y].all Zg=ac):PI X (.Tuple elts kk tp) (.Call (.Name "zip" p) [x,y] [] pos) (Zjc X.K u):=by
 intro pQ s O H R I h;rw[bG,bG,Ba,Ba]at t;have e:bc [y] X.env=[(ae,eval y X.env)]:=Zd t.2.1;have E:bc [x,y] X.env=[(ae,eval x X.env),(ae,eval y X.env)]:=by rw[Zd t.1,e]
 refine Call_ (ld_blt I G F Zhf (PyProof.Rows.callWith_type1 (thn (J pos pQ s O H _ I h) λN s1 ⟨vs,L,l,A,C⟩=>?_) (by rw[E,e]) (by rw[e];rfl)))
 obtain⟨a,b,rfl,⟨M,n⟩,⟨ys,m⟩,q⟩:=C;cases A with
 |cons r o=>
  cases o with
  |cons B o=>
   cases o;cases r;cases B;obtain⟨v,_,D,_⟩:=l.tuple n;obtain⟨f,_,p2,_⟩:=l.tuple m;have d:∀ {i j:Nat},i≠j->(s1.heap.objs.size+i:Nat)≠s1.heap.objs.size+j:=λh z=>h (Nat.add_left_cancel z)
   refine ZbC D (show s1.heap.IsTuple b f.toArray from p2) λh' st k=>wpAny_pyIter_zip st.hz ?_
   refine⟨s1.heap.objs.size+4,[s1.heap.objs.size+4,s1.heap.objs.size+2,s1.heap.objs.size+3,s1.heap.objs.size,s1.heap.objs.size+1],_,_,L,rfl,l.kept (t':=s1.toks) k,Zeh _ _ _ _ _ a b ⟨d (i:=2) (j:=4) (by decide),d (i:=3) (j:=4) (by decide),d (i:=0) (j:=4) (by decide),d (i:=1) (j:=4) (by decide),d (i:=2) (j:=3) (by decide),d (i:=2) (j:=0) (by decide),d (i:=2) (j:=1) (by decide),d (i:=3) (j:=0) (by decide),d (i:=3) (j:=1) (by decide),d (i:=0) (j:=1) (by decide)⟩,st,λc g=>?_,q⟩
   have w:s1.heap.objs.size<=c:=by
    simp only[aF,aW,or_false]at g;rcases g with rfl|rfl|rfl|rfl|rfl
    .exact eA _ _
    .exact eA _ _
    .exact eA _ _
    .exact aD _
    .exact eA _ _
   exact l.fpOk w (l.hok.fresh w)
section
variable{prog:a7}{w:bm}{A:bq}{E:vL->Sd->Prop}{s:Sd}
open Sem (wp)
open AutoSeq1 (wpAny_loadPart')
def ZbJ(f:A.handled=ab)(it l:Ad)(c:l≠it)(items:Array vL) :
  Draws prog w A it [it,l] items.size (λi v=>items[i]?=aa v) (λi h=>h.IsTupleIter it l i/\h.IsTuple l items) where
 live:=λ_ _ st=>let ⟨o,ho,_⟩:=st.1;⟨o,ho⟩
 frame:=λ_ _ _ st d=>⟨st.1.at λo e=>d it (by simp) o e,st.2.at λo e=>d l (by simp) o e⟩
 item:=λi s Q E g st j=>Xh f st.1 st.2 (λx h' e b a=>j x h' s.toks e ⟨b,st.2.extBut a.extBut c⟩ a) λe=>ar e (by simp[g])
 done:=λs Q E st k=>Xh f st.1 st.2 (λx h' e=>ar e (by simp)) λ_=>k
def V3(l:Ad)(items:Array vL)(n:Nat)(dct:Ot Ad)(sl:Array (Ot vL)) :
  Meets (Builtin.«enumerate.__new__» ⟨[.type "enumerate",.ref l],[]⟩) (λ_ R s=>s.heap.get? l=aa { cls:=.type "tuple",dict:=dct,data:=.seq items n,slots:=sl } /\
   R (.ok (.ret (.ref (s.heap.push { cls:=.type "tuple_iterator",data:=.fields #[.ref l,.int 0 0] }).objs.size)))
    { s with heap:=(s.heap.push { cls:=.type "tuple_iterator",data:=.fields #[.ref l,.int 0 0] }).push { cls:=.type "enumerate",data:=.fields #[.none,.bool ae,.ref s.heap.objs.size,rawInt 0,.none,.none] } }):=
 .of_wp λprog w A R s h=>by
  obtain⟨j,g,d,f,i⟩:=s;obtain⟨a,h⟩:=h;have e:=sub_enumerate;have b:Heap.IsTuple (Shared.heap ⟨j,g,d,f,i⟩) l items:=⟨_,a,rfl,n,rfl⟩
  wp_walk using wpAny_loadPart' a
  refine wpAny_stack_any λst=>aE ?_
  split
  .rename_i c _ _ _ _ _
   cases (c==Value.type "enumerate")
   .wp_walk using wpAny_loadPart' a,wpAny_pyIter_tuple b
    exact⟨_,rfl,h⟩
   .wp_walk using wpAny_loadPart' a,wpAny_pyIter_tuple b
    exact⟨_,rfl,h⟩
  .wp_walk using wpAny_loadPart' a,wpAny_pyIter_tuple b
   exact⟨_,rfl,h⟩
def Um{l:Ad}{Q:vL->Sd->Prop}(i:s.heap.IsTuple l items)(h:∀ h',IsEnum h' (s.heap.objs.size+1) s.heap.objs.size 0 .none->h'.IsTupleIter s.heap.objs.size l 0->h'.objs.size=s.heap.objs.size+2->
   (∀ b o,s.heap.get? b=aa o->h'.get? b=aa o)->Q (.ref (s.heap.objs.size+1)) { s with heap:=h' }) :
  a0 (a6 prog w) A (call (.type "enumerate") [.ref l]) Q E s:=by
 obtain⟨⟨c,dct,j,sl⟩,g,e,n,d⟩:=i;replace e:c=.type "tuple":=e;replace d:j=.seq items n:=d;subst e d;refine callType_new PySem.F.called_enumerate (by decide) (PySem.F.typeCall_enumerate_1 _) (PySem.F.newCall_enumerate_1 _) (λobj=>PySem.F.args_object_init_2 obj _) PySem.F.entry_enumerate_new
  (V3 l items n dct sl) ⟨g,?_⟩
 have a:(s.heap.push { cls:=.type "tuple_iterator",data:=.fields #[.ref l,.int 0 0] }).objs.size=s.heap.objs.size+1:=Heap.size_push ..;show _/\_;rw[a];have f:IsEnum ((s.heap.push { cls:=.type "tuple_iterator",data:=.fields #[.ref l,.int 0 0] }).push
   { cls:=.type "enumerate",data:=.fields #[.none,.bool ae,.ref s.heap.objs.size,rawInt 0,.none,.none] }) (s.heap.objs.size+1) s.heap.objs.size 0 .none:=by
  have:=aX (s.heap.push { cls:=.type "tuple_iterator",data:=.fields #[.ref l,.int 0 0] })
   (o:={ cls:=.type "enumerate",data:=.fields #[.none,.bool ae,.ref s.heap.objs.size,rawInt 0,.none,.none] }) rfl
  rw[a]at this;exact this
 refine⟨⟨_,f,rfl⟩,h _ f ⟨_,aL _ (aX _ rfl),rfl,rfl⟩ (by rw[Heap.size_push,a]) λb o x=>aL _ (aL _ x)⟩
end
def Ite(sq:Hp->Li V->Prop):It:=
 ⟨λi H=>∃ a x,sq H a/\a[i]?=aa x,λi H v H'=>∃ T x,v=.ref T/\H T=ab/\H'=upd H T (.tup [.int (i:Int),x])/\∀ a,sq H a->a[i]?=aa x,λi H=>∃ a,sq H a/\a.length=i⟩
def ZaA(K:Fg)(d:TA):TI:=λO H R=>d O H λvs b=>∃ a,vs=[.ref a]/\(((∃ c,SqL K b a c)/\R (Ite λH=>SqL K H a) b)\/((∃ c,SqT K b a c)/\R (Ite λH=>SqT K H a) b))
def UJ{P:a7}{K:Fg}{sq:Hp->Li V->Prop}{it1:Nat->bj->Prop}(e it a:Ad)(d:e≠it)(hi:∀ i h,it1 i h->∃ o,h.get? it=aa o/\∀ v,o.data≠.cell v)(hk:∀ i h h',it1 i h->(∀ o,h.get? it=aa o->h'.get? it=aa o)->it1 i h')(hD:∀ (X:Cx),X.prog=P->X.w=w->X.K=K->X.calm=ac->∀ (pQ:Li (Ad×Obj)) (s:Sd) (O:L2.St) (H:Hp) (i:Nat) (j:Li V),L2.Inv X pQ O H s->(∃ f,IsEnum s.heap e it i f)->it1 i s.heap->sq H j->
   (∀ ys,sq H ys->ys=j)/\∃ (b:Li vL) (N:bj->Prop),Vals j b/\a≠e/\N s.heap/\Draws P w X.A.in1 it [it,a] b.toArray.size (λi v=>b.toArray[i]?=aa v) (λi h=>it1 i h/\N h)) :
  Turn P w K (.Tuple elts kk pos) (Ite sq) [e,it] e (λi h=>(∃ f,IsEnum h e it i f)/\it1 i h) where
 mem:=by simp
 obj:=λi h st c p=>by
  obtain⟨⟨f,m⟩,M⟩:=st;simp only[aF,aW,or_false]at p;rcases p with rfl|rfl
  .exact⟨_,m,λv q=>by cases (show Data.fields _=Data.cell v from q)⟩
  .exact hi i h M
 keep:=λi h h' st k=>by
  obtain⟨⟨f,m⟩,M⟩:=st;exact⟨⟨f,k e (by simp) _ m⟩,hk i h h' M λo g=>k it (by simp) o g⟩
 item:=by
  intro X G C J p i pQ s O H E I Q st Z;obtain⟨j,x,Y,ex⟩:=Z;obtain⟨l,b,N,r,U,S,D⟩:=hD X G C J p pQ s O H i j I st.1 st.2 Y;subst G C J;have W:=WalksT.enumerateD D e d (by simp only[aF,aW,or_false];exact λq=>q.elim d λq=>U q.symm) (by simp)
  have l1:=r.length;have ix:i < j.length:=(bL.mp ex).1;refine W.item i s _ _ (by simp;omega) ⟨st.1,st.2,S⟩ λT vals h' tk hv hT tup B k1=>?_
  obtain⟨t,u,eu,rfl⟩:=hv;refine⟨.ref T,rfl,W.go elts kk pos i T _ _ _ B λL z k2=>?_⟩
  have nT:=W.apart i T h' B;have ru:RelV x u:=by
   obtain⟨u',R,e2⟩:=r.get ex;have:b[i]?=aa u:=by simpa using eu
   rw[this]at R;cases R;exact e2
  have y:L.IsTuple T #[.int i t,u]:=tup.at λo g=>k2 T o nT g
  have I2:L2.Inv X pQ O (upd H T (.tup [.int (i:Int),x])) { s with heap:=L,toks:=tk }:=Wb (wr:=[e,it]) I Q (λc o F g=>k2 c o F (k1 c o F g)) hT ⟨show 2<=ax by decide,[.int i t,u],.cons ⟨t,rfl⟩ (.cons ru .nil),y⟩
  refine⟨.ref T,_,I2,rfl,⟨T,x,rfl,I.hok.fresh hT,rfl,λxs' q=>by rw[l _ q];exact ex⟩,⟨z.1,z.2.1⟩,λc n=>?_⟩
  have:c≠T:=λq=>by
   have lt:∀ {o},s.heap.get? c=aa o->False:=λg=>ar (aJ g) (Nat.not_lt.mpr (by rw[q];exact hT))
   obtain⟨⟨_,m⟩,M⟩:=st;obtain⟨_,g,_⟩:=hi _ _ M;simp only[aF,aW,or_false]at n;rcases n with rfl|rfl
   .exact lt m
   .exact lt g
  rw[upd_ne this];exact(Q c n).1
 done:=by
  intro X G C J p i pQ s O H E I Q st Z;obtain⟨j,Y,hle⟩:=Z;obtain⟨l,b,N,r,U,S,D⟩:=hD X G C J p pQ s O H i j I st.1 st.2 Y;subst G C J;have W:=WalksT.enumerateD D e d (by simp only[aF,aW,or_false];exact λq=>q.elim d λq=>U q.symm) (by simp)
  have l1:=r.length;have R:i=b.toArray.size:=by simp;omega
  subst R;exact W.done s _ _ ⟨st.1,st.2,S⟩ λh' tk k=>⟨rfl,Ve (wr:=[e,it]) I Q k⟩
 self:=λ_ _ _ _ _ st h=>let ⟨⟨_,m⟩,_⟩:=st;wpAny_pyIter_enum m h
def Jc{e it:Ad}{i:Int}{d:vL}{a:Ad}{o:Obj}{n:String}(b:IsEnum h e it i d)(g:h.get? a=aa o)(c:o.cls=.type n)(f:¬n = "enumerate"):a≠e:=λq=>by
 subst q;have b:h.get? a=aa _:=b;rw[g]at b;cases b;exact Zdz c λz=>f z.symm
def Jd{a b:Ad}{o u:Obj}{n m:String}(g:h.get? a=aa o)(c:o.cls=.type n)(g2:h.get? b=aa u)(d:u.cls=.type m)(e:¬n=m):a≠b:=λq=>by
 subst q;rw[g]at g2;cases g2;rw[c]at d;exact Zdz d e
def ZeN:bf "enumerate"=aa (.type "enumerate"):=by decide +kernel
def Zfx{x:ay}{E:TA}{p:Pos}(P:Gl X "enumerate")(N:X.mg "enumerate"=ab)(Q:PA X [x] E)(M:bc [x] X.env=[(ae,eval x X.env)]):PI X (.Tuple elts kk tp) (.Call (.Name "enumerate" p) [x] [] pos) (ZaA X.K E):=by
 intro pQ s O H R I h;refine Call_ (ld_blt I P N ZeN (PyProof.Rows.callWith_type1 (thn (Q pos pQ s O H _ I h) λS s1 ⟨vs,D,l,J,L⟩=>?_) M rfl))
 obtain⟨a,rfl,q⟩:=L;have F:∀ c∈[s1.heap.objs.size+1,s1.heap.objs.size],FpOk X pQ D c:=λc m=>by
  have j:s1.heap.objs.size<=c:=by
   simp only[aF,aW,or_false]at m;rcases m with rfl|rfl
   .exact eA _ _
   .exact aD _
  exact l.fpOk j (l.hok.fresh j)
 cases J with
 |cons r G=>
  cases G;cases r;rcases q with⟨⟨n,sq⟩,q⟩|⟨⟨n,sq⟩,q⟩
  .obtain⟨b,_,t,_⟩:=l.list sq
   refine call_enumerate_list t.isList λh' d e y k=>wpAny_pyIter_enum d ?_
   refine⟨s1.heap.objs.size+1,[s1.heap.objs.size+1,s1.heap.objs.size],_,_,D,rfl,l.kept (t':=s1.toks) k,UJ (it1:=λi h=>h.IsListIter _ a i) _ _ a (Nat.succ_ne_self _) (λi h st=>?_) (λi h h' st k=>st.at k) (λX z w B j pQ s O H i n I d e sq=>?_),⟨⟨_,d⟩,e⟩,F,q⟩
   .obtain⟨o,g,_,f⟩:=st
    exact⟨o,g,λv q=>by rw[f]at q;cases q⟩
   .rw[<-z,<-w]
    rw[<-B]at sq ⊢;obtain⟨b,r,p,_⟩:=I.list sq;obtain⟨⟨_,d⟩,⟨o2,g2,C,_⟩⟩:=And.intro d e;obtain⟨o,g,c,_⟩:=p.isList;exact⟨λys u=>Zf2 I sq u,b,λh=>h.IsList a b.toArray,r,Jc d g c (by decide),p.isList,Draws.list (show X.A.in1.handled=ab from I.ok.hd j) _ a (Jd g c g2 C (by decide)) b.toArray⟩
  .obtain⟨b,_,t,_⟩:=l.tuple sq
   refine Um (show s1.heap.IsTuple a b.toArray from t) λh' d e y k=>wpAny_pyIter_enum d ?_
   refine⟨s1.heap.objs.size+1,[s1.heap.objs.size+1,s1.heap.objs.size],_,_,D,rfl,l.kept (t':=s1.toks) k,UJ (it1:=λi h=>h.IsTupleIter _ a i) _ _ a (Nat.succ_ne_self _) (λi h st=>?_) (λi h h' st k=>st.at k) (λX z w B j pQ s O H i n I d e sq=>?_),⟨⟨_,d⟩,e⟩,F,q⟩
   .obtain⟨o,g,_,f⟩:=st
    exact⟨o,g,λv q=>by rw[f]at q;cases q⟩
   .rw[<-z,<-w]
    rw[<-B]at sq ⊢;obtain⟨b,r,p,_⟩:=I.tuple sq;have p:s.heap.IsTuple a b.toArray:=p;obtain⟨⟨_,d⟩,⟨o2,g2,C,_⟩⟩:=And.intro d e;obtain⟨o,g,c,_⟩:=id p;exact⟨λys u=>I.tuple_inj u sq,b,λh=>h.IsTuple a b.toArray,r,Jc d g c (by decide),p,ZbJ (show X.A.in1.handled=ab from I.ok.hd j) _ a (Jd g c g2 C (by decide)) b.toArray⟩
theorem Uz:∀ {a:Li D}{k i:Nat}{x:D},a[i]?=aa x->(WE k a)[i]?=aa (.int ((k+i:Nat):Int),x)
 |[],_,_,_,h=>nomatch h
 |x :: a,k,0,_,h=>by cases h;rfl
 |x :: a,k,i+1,y,h=>by
  show(WE (k+1) a)[i]?=_;rw[Uz (show a[i]?=aa y from h),show k+1+i=k+(i+1) by omega]
theorem W6:∀ {a:Li D}{k:Nat},(WE k a).length=a.length
 |[],_=>rfl
 |x :: a,k=>au (·+1) W6
def ZcY{K:Fg}{L:Ev}{f:Ex}(E:Ends)(O:L2.St)(H:Hp)(h:tS K (QR i j L f) E O H):tFor (ZaA K (tCons (tE K L) tNil)) (gTup K 2 (gCons (gName i) (gCons (gName j) gNil))) (tS K f) E O H:=by
 obtain⟨ad,U,st,r,st',En,S,e,p⟩:=Z2 h;unfold QR at e;split at e
 .rename_i x d P
  split at e
  .rename_i C ok n
   have t:∀ {sq:Hp->Li V->Prop}{m:Li Ad}{B:Hp} (b:Li Ad->Hp->Prop),(∀ ad H ad' H',Ext ad H ad' H'->b ad H->b ad' H')->b m B->
     (∀ ad H st,b ad H->StOk K ad H st->ok st->∃ vs,Dens K ad H vs C/\sq H vs)->Ext ad H m B->StOk K m B d->ZiR K f i j (Ite sq) E O B:=λb T g1 I u A=>
    ⟨_,⟨_,.mk (bK _) (En.mono u) A g1 e (p.later u)⟩,V2 T (λad H st g S o=>by
      obtain⟨vs,rv,D⟩:=I ad H st g S o;exact⟨vs,D,by rw[rv.length,W6]⟩) λk ad H st q g S o F=>by
      obtain⟨vs,rv,D⟩:=I ad H st g S o;have R:k < C.length:=by rw[<-W6 (k:=0)];exact(bL.mp F).1
      have J:=Lg R;rw[Uz (k:=0) J,bK]at F;cases F;obtain⟨w,M,Z⟩:=rv.get J;exact⟨_,w,⟨vs,w,D,M⟩,.int _,Z,λx H' ⟨pt,y1,Y,X,W,Q⟩=>⟨pt,Y,X,by have z:=Q vs D;rw[M]at z;cases z;exact W⟩⟩⟩
   refine⟨ad,U,st,x,d,En,S,P,λv m B u A N=>?_⟩
   cases x with
   |tup ys=>
    cases n;obtain⟨a,vs,rfl,y,rv⟩:=N.ofTup;exact⟨a,rfl,.inr ⟨⟨vs,y.sq⟩,t (λad H=>TupAt K H a vs/\Dens K ad H vs C) (λ_ _ _ _ x g=>⟨g.1.mono x,g.2.mono x⟩) ⟨y,rv⟩ (λad H st g _ _=>⟨vs,g.2,g.1.sq⟩) u A⟩⟩
   |lst l=>
    have n:(match d[l]? with
     |some c=>aa (c.2,λs=>s[l]?=aa c)
     |none=>ab)=aa (C,ok):=n
    cases G:d[l]? with
    |none=>rw[G]at n;cases n
    |some c=>
     rw[G]at n;cases n;obtain⟨a,rfl,y⟩:=N.ofLst;obtain⟨vs,rv,sq⟩:=A.list y (show d[l]?=aa (c.1,c.2) from G);exact⟨a,rfl,.inl ⟨⟨vs,sq⟩,t (λad H=>LA ad H l a) (λ_ _ _ _ x g=>g.mono x) y (λad H st g S e=>S.list g (show st[l]?=aa (c.1,c.2) from e)) u A⟩⟩
   |_=>exact Zb n
  .exact Zb e
 .exact Zb e
def VS{a:ay}{x:CE}(K:Cxt X G F sc N)(h:X3 G sc it=aa a)(b:Zg a=ac)(A:PE X a (tE X.K (ev F x))):Zg it=ac/\PI X (.Tuple elts kk tp) it (ZaA X.K (tCons (tE X.K (ev F x)) tNil)):=by
 obtain⟨as,c,f⟩:=dJ.mp h;rw[ZaX f]at c;obtain⟨_,_,rfl,e,d⟩:=U5 K c;exact⟨rfl,Zfx e d (pa1 b A) (Zd b)⟩
def Us(K:Cxt X G F sc N)(h:WS G sc it=aa as):∃ p pos a b,it=.Call (.Name "zip" p) [a,b] [] pos/\as=[a,b]/\Gl X "zip"/\X.mg "zip"=ab:=by
 obtain⟨bs,i,g⟩:=dJ.mp h;obtain⟨p,pos,rfl,e,d⟩:=U5 K i;refine X8 g λc f=>?_
 cases f;cases as with
 |nil=>cases c
 |cons a as=>cases as with
  |nil=>cases c
  |cons b as=>cases as with
   |nil=>exact⟨p,pos,_,_,rfl,rfl,e,d⟩
   |cons _ _=>cases c
def Zd2(d:Zq G F n)(a:Z4 G F n)(K:CxtS X G F sc N){c:CS}{b:Li Stmt}(h:o2 CS.whl (cE G n sc N e) (cSs G n sc N b)=aa c):PS X (.While e b [] pos) (tS X.K (ex F c)):=
 Z6 (P:=λc=>PS X _ (tS X.K (ex F c))) h λi j f g=>ZC (ps_while (Xt K) (d X sc N K.toCxt _ i f).pt (a X sc N K _ j g)) ZbP
def ZfW(e:YZ G F n)(d:Z4 G F n)(K:CxtS X G F sc N){c:CS}{x y:Str}{b:Li Stmt}{p:Pos}(m:N.idxOf? x=aa i)(l:N.idxOf? y=aa j)(g:WS G sc it=aa as)(h:o2 (CS.forP i j) (cEs G n sc N as) (cSs G n sc N b)=aa c):PS X (.For (.Tuple [.Name x p,.Name y p2] ctx tp) it b [] pos) (tS X.K (ex F c)):=by
 refine Z6 (P:=λc=>PS X _ (tS X.K (ex F c))) h λs t q r=>?_
 obtain⟨u,p3,a,v,rfl,rfl,o,k⟩:=Us K.toCxt g;obtain⟨A,_,f,_⟩:=e X sc N K.toCxt _ s q;exact ZC (ps_for (Xt K) K.calm (ZhN o k A f) (pg_tup K.calm (pgs_cons (Yh K m) (pgs_cons (Yh K l) pgs_nil))) (d X sc N K _ t r) (ZU rfl)) Zc0
def ZfV(d:Zq G F n)(a:Z4 G F n)(K:CxtS X G F sc N){c:CS}{x y:Str}{b:Li Stmt}{p:Pos}(m:N.idxOf? x=aa i)(l:N.idxOf? y=aa j)(k:Vv G sc it=aa e)(h:o2 (CS.forE i j) (cE G n sc N e) (cSs G n sc N b)=aa c):PS X (.For (.Tuple [.Name x p,.Name y p2] ctx tp) it b [] pos) (tS X.K (ex F c)):=by
 refine Z6 (P:=λc=>PS X _ (tS X.K (ex F c))) h λq r f o=>?_
 obtain⟨g,A⟩:=VS (elts:=[.Name x p,.Name y p2]) (kk:=ctx) (tp:=tp) K.toCxt k (Ze f) (d X sc N K.toCxt _ q f).pe;exact ZC (ps_for (Xt K) K.calm A (pg_tup K.calm (pgs_cons (Yh K m) (pgs_cons (Yh K l) pgs_nil))) (a X sc N K _ r o) (ZU g)) ZcY
def ZfT(d:Zq G F n)(a:Z4 G F n)(K:CxtS X G F sc N){c:CS}{x y z:Str}{b:Li Stmt}{p:Pos}(h:o3 (λ(p:Nat×Nat) (q:Nat×CE) b=>CS.for4 p.1 p.2 q.1 q.2 b) (o2 Prod.mk (N.idxOf? x) (N.idxOf? y)) (o2 Prod.mk (N.idxOf? z) (cE G n sc N it)) (cSs G n sc N b)=aa c):PS X (.For (.Tuple [.Name x p,.Name y p2,.Name z p3] ctx tp) it b [] pos) (tS X.K (ex F c)):=
 X7 (P:=λc=>PS X _ (tS X.K (ex F c))) h λu v e k g s=>Z6 (P:=λu:Nat×Nat=>PS X _ (tS X.K (ex F (.for4 u.1 u.2 v.1 v.2 e)))) k λi j r o=>Z6 (P:=λv:Nat×CE=>PS X _ (tS X.K (ex F (.for4 i j v.1 v.2 e)))) g λl t m f=>
  ZC (ps_for (Xt K) K.calm (pi_tup (d X sc N K.toCxt _ t f).pe) (pg_tup K.calm (pgs_cons (Yh K r) (pgs_cons (Yh K o) (pgs_cons (Yh K m) pgs_nil)))) (a X sc N K _ e s) (ZU (Ze f))) ZcX
def ZfR(d:Zq G F n)(a:Z4 G F n)(K:CxtS X G F sc N){c:CS}{x y:Str}{b:Li Stmt}{p:Pos}(f:N.idxOf? x=aa i)(e:N.idxOf? y=aa j)(h:o2 (CS.for2 i j) (cE G n sc N it) (cSs G n sc N b)=aa c):PS X (.For (.Tuple [.Name x p,.Name y p2] ctx tp) it b [] pos) (tS X.K (ex F c)):=by
 refine Z6 (P:=λc=>PS X _ (tS X.K (ex F c))) h λo m k l=>?_
 have A:=(d X sc N K.toCxt _ o k).pe;have g:=ZU (env:=X.env) (Ze k);exact ZC (ZgE (ps_for (Xt K) K.calm (pi_tup A) (pg_tup K.calm (pgs_cons (Yh K f) (pgs_cons (Yh K e) pgs_nil))) (a X sc N K _ m l) g) (ps_for (Xt K) K.calm (pi_list A) (pg_tup K.calm (pgs_cons (Yh K f) (pgs_cons (Yh K e) pgs_nil))) (a X sc N K _ m l) g)) ZcW
def Zih(b:Zq G F n)(K:CxtS X G F sc N){c:CS}{x:Str}{p:Pos}(h:ZiW sc N x m ap cp (cE G n sc N e)=aa c):PS X (.Expr (.Call (.Attribute (.Name x p) m ap) [e] [] cp) pos) (tS X.K (ex F c)):=by
 refine X8 h λd h=>?_
 by_cases j:m = "append"
 .subst j
  rw[ao rfl]at h;exact Z6 (P:=λc=>PS X _ (tS X.K (ex F c))) h λi y f a=>ZC (ps_expr (pe_bm PySem.F.plainAttrs_list PySem.F.slot_list_append PySem.F.type_list_append mt_append (Za1 K.toCxt d.1 f) (pa1 (Ze a) (b X sc N K.toCxt _ y a).pe) rfl (by rw[Zd (Ze a)];rfl) d.2 (Zd (Ze a)) rfl) rfl) ZeZ
 .rw[aq j]at h
  by_cases g:m = "extend"
  .subst g
   rw[ao rfl]at h;exact Z6 (P:=λc=>PS X _ (tS X.K (ex F c))) h λi y f a=>ZC (ps_expr (pe_bm PySem.F.plainAttrs_list PySem.F.slot_list_extend PySem.F.type_list_extend mt_extend (Za1 K.toCxt d.1 f) (pa1 (Ze a) (b X sc N K.toCxt _ y a).pe) rfl (by rw[Zd (Ze a)];rfl) d.2 (Zd (Ze a)) rfl) rfl) Ze1
  .rw[aq g]at h;cases h
def ZfP(d:Zq G F n)(f:VB G F n)(K:CxtS X G F sc N){c:CS}(h:ZiX N tg e (cE G n sc N e)=aa c):PS X (.Assign [tg] e pos) (tS X.K (ex F c)):=by
 have no:∀ {P:Prop},(ab:Ot CS)=aa c->P:=λz=>nomatch z
 cases tg with
 |Name x p=>exact Zii d f K h
 |Tuple es ctx tp=>cases es with
  |nil=>exact no h
  |cons a es=>cases a with
   |Name _ _=>cases es with
    |nil=>exact no h
    |cons b es=>cases b with
     |Name _ _=>cases es with
      |nil=>exact ZfX d K h
      |cons g es=>cases g with
       |Name _ _=>cases es with
        |nil=>exact ZfY d K h
        |cons _ _=>exact no h
       |_=>exact no h
     |_=>exact no h
   |_=>exact no h
 |_=>exact no h
def ZfU(f:Zq G F n)(g:YZ G F n)(d:Z4 G F n)(K:CxtS X G F sc N){c:CS}{b:Li Stmt}(h:Zhm G sc N (cE G n sc N) (cEs G n sc N) tg it (cSs G n sc N b)=aa c):PS X (.For tg it b [] pos) (tS X.K (ex F c)):=by
 have no:∀ {P:Prop},(ab:Ot CS)=aa c->P:=λz=>nomatch z
 cases tg with
 |Name x p=>
  unfold Zhm at h;cases l:W9 G sc it with
  |some as=>
   rw[l]at h;exact ZfS g d K l h
  |none=>
   rw[l]at h;exact ZfQ f d K h
 |Tuple es ctx tp=>cases es with
  |nil=>exact no h
  |cons a es=>cases a with
   |Name x p=>cases es with
    |nil=>exact no h
    |cons v es=>cases v with
     |Name y p2=>cases es with
      |nil=>
       replace h:((o2 (λi j=>og (i≠j) (aa (i,j))) (N.idxOf? x) (N.idxOf? y)).join.bind λp=>(match WS G sc it with
        |some as=>o2 (CS.forP p.1 p.2) (cEs G n sc N as) (cSs G n sc N b)
        |none=>match Vv G sc it with
         |some e=>o2 (CS.forE p.1 p.2) (cE G n sc N e) (cSs G n sc N b)
         |none=>o2 (CS.for2 p.1 p.2) (cE G n sc N it) (cSs G n sc N b)))=aa c:=h
       refine b_e h λq m h=>j_e m λm=>Z6 (P:=λo=>o=aa q->PS X _ (tS X.K (ex F c))) m (λi j s r e=>X8 e λ_ e=>?_) rfl
       cases e;cases k:WS G sc it with
       |some as=>
        rw[k]at h;exact ZfW g d K s r k h
       |none=>
        rw[k]at h;dsimp only at h;cases t:Vv G sc it with
        |some e=>
         rw[t]at h;exact ZfV f d K s r t h
        |none=>
         rw[t]at h;exact ZfR f d K s r h
      |cons u es=>cases u with
       |Name _ _=>cases es with
        |nil=>exact ZfT f d K h
        |cons _ _=>exact no h
       |_=>exact no h
     |_=>exact no h
   |_=>exact no h
 |_=>exact no h
def ZfO(a:Zq G F n)(K:CxtS X G F sc N){c:CS}{o k:ay}{p:Pos}(h:og (m = "append"/\(ap.endLine==cp.line)=ac) (o2 CS.app2 (cE G n sc N (.Subscript o k p)) (cE G n sc N e))=aa c):PS X (.Expr (.Call (.Attribute (.Subscript o k p) m ap) [e] [] cp) pos) (tS X.K (ex F c)):=by
 refine X8 h λg h'=>?_
 obtain⟨i,f⟩:=g;subst i;exact Z6 (P:=λc=>PS X _ (tS X.K (ex F c))) h' λz y d b=>ZC (ps_expr (pe_bm PySem.F.plainAttrs_list PySem.F.slot_list_append PySem.F.type_list_append mt_append (a X sc N K.toCxt _ z d).pe (pa1 (Ze b) (a X sc N K.toCxt _ y b).pe) rfl (by rw[Zd (Ze b)];rfl) f (Zd (Ze b)) rfl) rfl) ZcR
def ZfN(a:Zq G F n)(K:CxtS X G F sc N){c:CS}{v:ay}(h:ZiS sc N (cE G n sc N) v=aa c):PS X (.Expr v pos) (tS X.K (ex F c)):=by
 have no:∀ {P:Prop},(ab:Ot CS)=aa c->P:=λz=>nomatch z
 cases v with
 |Call f as b cp=>cases f with
  |Attribute o m ap=>cases o with
   |Name x p=>cases as with
    |nil=>exact no h
    |cons e es=>cases es with
     |nil=>cases b with
      |nil=>exact Zih a K h
      |cons _ _=>exact no h
     |cons _ _=>exact no h
   |Subscript o k p=>cases as with
    |nil=>exact no h
    |cons e es=>cases es with
     |nil=>cases b with
      |nil=>exact ZfO a K h
      |cons _ _=>exact no h
     |cons _ _=>exact no h
   |_=>exact no h
  |Name f d=>exact Zig a K h
  |_=>exact no h
 |_=>exact no h
def Jk(d:Zq G F n)(j:YZ G F n)(f:Z4 G F n)(m:VB G F n):Jq G F (n+1):=by
 intro X sc N K s c h;have no:∀ {P:Prop},(ab:Ot CS)=aa c->P:=λz=>nomatch z
 cases s with
 |Assign g e pos=>cases g with
  |nil=>exact no h
  |cons t l=>cases l with
   |cons _ _=>cases t with
    |Subscript o k p=>cases o<;>exact no h
    |_=>exact no h
   |nil=>cases t with
    |Subscript o k p=>cases o with
     |Name x q=>exact Zij d K h
     |_=>exact no h
    |_=>exact ZfP d m K h
 |Return e pos=>cases e with
  |none=>exact no h
  |some e=>exact Zik d K h
 |If e a b pos=>exact ZjT d f K h
 |While e b i pos=>cases i with
  |cons _ _=>exact no h
  |nil=>exact Zd2 d f K h
 |For t it b i pos=>cases i with
  |cons _ _=>exact no h
  |nil=>exact ZfU d j f K h
 |Expr v pos=>exact ZfN d K h
 |Pass pos=>
  cases (show aa CS.skip=aa c from h)
  exact ZC ps_pass QY
 |Break pos=>
  cases (show aa CS.brk=aa c from h)
  exact ZC ps_break Ze0
 |Raise a b pos=>
  cases (show aa CS.stop=aa c from h)
  exact λpQ s O H D I q=>by
   obtain⟨_,_,_,_,_,_,_,e,_⟩:=Z2 q;cases e
 |Continue pos=>
  cases (show aa CS.cont=aa c from h)
  exact ZC ps_continue ZcS
 |_=>exact no h
def Qu(e:Jq G F n)(d:Z4 G F n):Z4 G F (n+1):=by
 intro X sc N K s c h;cases s with
 |nil=>
  simp only[cSs]at h;cases h;exact Za2 pss_nil QY
 |cons s r=>
  exact Z6 (P:=λc=>PSs X _ (tS X.K (ex F c))) (show o2 CS.seq (cS G n sc N s) (cSs G n sc N r)=aa c from h) λa b g f=>Za2 (pss_cons (e X sc N K s a g) (d X sc N K r b f)) Zfd
end
variable [ClsTab]
def XB(G:Gs)(F:Nat->Fn):Prop:=∀ n,Zq G F n->(∀ X sc N,Cxt X G F sc N->∀ elt gens sc2 pos c,cE G (n+1) sc N (.ListComp elt gens sc2 pos)=aa c->SE X F (.ListComp elt gens sc2 pos) c)/\VB G F (n+1)
theorem UH{G:Gs}{F:Nat->Fn}(d:XB G F):∀ n,(Zq G F n/\YZ G F n/\UR G F n)/\Jq G F n/\Z4 G F n/\VB G F n
 |0=>⟨⟨λX sc N K e c h=>(nomatch (show(ab:Ot CE)=aa c from h)),λX sc N K e c h=>(nomatch (show(ab:Ot CE)=aa c from h)),λX sc N K e c h=>(nomatch (show(ab:Ot CE)=aa c from h))⟩,λX sc N K e c h=>(nomatch (show(ab:Ot CS)=aa c from h)),λX sc N K e c h=>(nomatch (show(ab:Ot CS)=aa c from h)),λX sc N K x i p elt gens sc2 j pos c _ h=>(nomatch (show(ab:Ot CE)=aa c from h))⟩
 |n+1=>by
  obtain⟨⟨a,g,l⟩,k,b,f⟩:=UH d n;exact⟨⟨J9 a g l (d n a).1,Ji a g,Jj a⟩,Jk a g b f,Qu k b,(d n a).2⟩
def Zbu(K:Fg)(G:Gs)(T:Nat->Ot FD)(x y:Str)(i:Nat)(f:Ad)(fd:bh)(pn N:Li Str):Prop:=∃ (st:Stmt) (oc:vL) (od:Ot Ad) (dV kV doc pm:vL) (an:Ot Ad) (cdv ct:vL) (osl:Array (Ot vL)) (code:CS),
  fd=W.fnOf x y (defArgs st) (defBody st) (defScope st) dV kV doc pm an cdv ct/\K.lookup f=aa ⟨oc,od,.func fd,osl⟩/\W.codeIn K cdv y=ac/\FnScope N pn (defScope st)/\(∀ y∈N,Loc (defScope st) y) /\
  cSs G 60 (defScope st) N (defBody st)=aa code/\T i=aa ⟨pn.length,N.length,code⟩
def ZeG(K:Fg)(mg:Str->Ot vL)(G:Gs)(T:Nat->Ot FD)(i:Nat)(f:Ad)(fd:bh)(pn:Li Str):Prop:=∀ (P:a7) (w:bm) (base:bj) (n:Nat),(∀ m,m<=n->∀ A,Room m A->∀ y g,G.lookup y=aa g->GOk P w K mg base A (run T m) y g)->FnOk P w K mg base CX0 (n+1) f fd pn (spD K (run T (n+1) i))
structure DefOk(K:Fg)(mg:Str->Option Value)(G:Gs)(T:Nat->Option FD)(x:Str)(i:Nat)(ds:List D)(f:Addr)(fd:bh)(pn N:List Str):Prop where
 ob:Zbu K G T x x i f fd pn N\/ZeG K mg G T i f fd pn
 kp:W.keepIn K (.ref f)=ac
 at_:mg x=aa (.ref f)
 bn:∀ m,m<=ds.length->∃ dvs us,(∀ ad H,Dens K ad H dvs (ds.drop m))/\Vals dvs us/\Binds K fd pn us
structure MethOk(K:Fg)(G:Gs)(T:Nat->Option FD)(C:Addr)(x y:Str)(i:Nat)(f:Addr)(fd:bh)(pn N:List Str):Prop where
 ob:Zbu K G T x y i f fd pn N
 mt:Meth K C x f
 bn:Binds K fd pn []
structure Text(Pm:Params)(K:Fg)(mg:Str->Option Value)(G:Gs)(T:Nat->Option FD):Prop where
 cst:∀ x d,G.lookup x=aa (.c d)->∃ v u,mg x=aa u/\RelV v u/\∀ ad H,Den K ad H v d
 blt:∀ x,G.lookup x=aa .blt->mg x=ab
 dct:∀ x ks ds,G.lookup x=aa (.dct ks ds)->Zal Pm K mg x ks ds
 fn:∀ x i ps ds,G.lookup x=aa (.fn i ps ds)->∃ f fd pn N,DefOk K mg G T x i ds f fd pn N
 cls:∀ x i ms subs,G.lookup x=aa (.cls i ms subs)->(mg x=aa (.ref (ClsTab.ca i))/\NewOk K (ClsTab.ca i)/\∀ i',subs.contains i'=ac->SubOk K (ClsTab.ca i') (ClsTab.ca i)) /\
  ∀ m j ps,ms.lookup m=aa (j,ps)->∃ y f fd pn N,MethOk K G T (ClsTab.ca i) m y j f fd pn N
variable{pn:Li Str}
variable{P:a7}{w:bm}{K:Fg}{mg:Str->Ot vL}{base:bj}{T:Nat->Ot FD}
def Zel{x:Str}(h:WL sc x=ac):Vis sc x:=by
 unfold WL at h;rw[Ba]at h;have h:=h.2;split at h
 .rename_i q;exact .inl q
 .rename_i q;exact .inr (.inl q)
 .rename_i q;exact .inr (.inr q)
 .cases h
def Zaz{x:Str}(h:ZL sc x=ac):sc.names.lookup x=aa .globalImplicit:=by
 unfold ZL at h;rw[Ba]at h;have h:=h.2;split at h
 .rename_i q;exact q
 .cases h
def Zar{x:Str}(h:VX sc x=ac):sc.names.lookup x=aa .cell\/sc.names.lookup x=aa .free:=by
 unfold VX at h;split at h
 .rename_i q;exact .inl q
 .rename_i q;exact .inr q
 .cases h
def ZbM(h:Dens K ad H vs ds)(j:ds.length<=N.length):EnvOk K ad H (L2.start N vs) (ds.map aa++af (N.length - ds.length) ab):=by
 have e:=h.length;refine⟨by unfold L2.start;simp[e],λi d q=>?_⟩
 by_cases a:i < ds.length
 .rw[cD (by simpa using a),aT,Lg a]at q
  have b:ds[i]=d:=by simpa using q
  have g:ds[i]?=aa d:=by rw[Lg a,b]
  obtain⟨v,f,c⟩:=h.get g;refine⟨v,?_,c⟩;unfold L2.start;rw[cD (by simpa[e] using a),aT,f]
  rfl
 .rw[cJ (by simpa using a),eU]at q
  split at q<;>cases q
def ZhK{n:Nat}(M:∀ n,XB G (run T n))(gl:∀ A,Room n A->∀ y g,G.lookup y=aa g->GOk P w K mg base A (run T n) y g){x y:Str}{f:Ad}{fd:bh}(L:Zbu K G T x y i f fd pn N):FnOk P w K mg base CX0 (n+1) f fd pn (spD K (run T (n+1) i)):=by
 obtain⟨st,oc,Z,dV,kV,R,Y,an,z,ct,J,l,rfl,lk,v,S,k,c,O⟩:=L;have a:run T (n+1) i=fnD (run T n) ⟨pn.length,N.length,l⟩:=by
  show(match T i with|some f=>fnD (run T n) f|none=>λ_ _=>ab)=_
  rw[O]
 refine fn_of lk v S (λvs H Q E h=>?_) (λA b s H vs Q E D h=>?_)
 .obtain⟨ad,es,st,d,st',_,u,e,_⟩:=h
  rw[a]at e;unfold fnD at e;split at e
  .rename_i t
   rw[u.length];exact t
  .exact Zb e
 .obtain⟨ad,es,X,d,st',S0,u,e,p⟩:=h
  rw[a]at e;unfold fnD at e;split at e
  .rename_i t
   have C:CxtS (cxOf CX0 P w K mg base N y (defScope st) f z A b s H E).nox G (run T n) (defScope st) N:={
    hN:=rfl
    vis:=λy j=>Zel j
    glb:=λy j=>Zaz j
    calm:=rfl
    hu:=D.units
    gl:=gl _ D
    cel:=λy j=>Zar j
    nx:=rfl
    nd:=S.nd
    loc:=k
    fn:=λ_=>rfl }
   have B:=(UH (M n) 60).2.2.1 _ _ _ C _ _ c;have r:pn.length<=N.length:=by have:=au List.length S.pre;rw[cI]at this;omega
   have m:=ZbM (N:=N) u (by rw[show es.length=pn.length from t];exact r)
   refine⟨_,B.nox,?_⟩;split at e
   .rename_i d' o q
    cases e;exact Z0 m S0 q p
   .rename_i U o q
    cases e;exact Z0 m S0 q λF V H1 I W E1=>(p.later I).at W .non
   .exact Zb e
  .exact Zb e
def Zgc{f:Ad}{fd:bh}:FnOk P w K mg base CX0 0 f fd pn (spD K (run T 0 i)):=by
 refine⟨λvs H Q E h=>?_,λA a s H b c vs Q E _ _ _ _ h=>?_⟩
 .obtain⟨_,_,_,_,_,_,_,e,_⟩:=h;cases e
 .obtain⟨_,_,_,_,_,_,_,e,_⟩:=h;cases e
def Zgq(X:Text w.params K mg G T)(h:∀ {x y:Str}{i:Nat}{f:Ad}{fd:bh}{pn N:Li Str},Zbu K G T x y i f fd pn N\/ZeG K mg G T i f fd pn->FnOk P w K mg base CX0 n f fd pn (spD K (run T n i)))(A:bq)(e:Room n A):∀ y g,G.lookup y=aa g->GOk P w K mg base A (run T n) y g:=λy g a=>by
 cases g with
 |c d=>exact X.cst y d a
 |blt=>exact X.blt y a
 |dct ks ds=>exact X.dct y ks ds a
 |fn j k es=>
  obtain⟨f,fd,pn,N,b⟩:=X.fn y j k es a;exact⟨n,f,fd,pn,h b.ob,e,b.at_,b.kp,b.bn⟩
 |cls i ms subs=>
  obtain⟨⟨s,r,q⟩,p⟩:=X.cls y i ms subs a;refine⟨s,r,q,λm j l o=>?_⟩
  obtain⟨z,f,fd,pn,N,Mk⟩:=p m j l o;exact⟨n,f,fd,pn,h (.inl Mk.ob),e,Mk.mt,Mk.bn⟩
theorem Js(c:∀ n,XB G (run T n))(X:Text w.params K mg G T):∀ (n m:Nat),m<=n->∀ {x y:Str}{i:Nat}{f:Ad}{fd:bh}{pn N:Li Str},Zbu K G T x y i f fd pn N\/ZeG K mg G T i f fd pn->FnOk P w K mg base CX0 m f fd pn (spD K (run T m i))
 |n,0,_,_,_,_,_,_,_,_,_=>Zgc
 |n+1,m+1,h,_,_,_,_,_,_,_,.inl a=>ZhK c (λA b=>Zgq X (λa=>Js c X n m (Nat.le_of_succ_le_succ h) a) A b) a
 |n+1,m+1,h,_,_,_,_,_,_,_,.inr e=>e P w base m λl d A b=>Zgq X (λa=>Js c X n l (aM d (Nat.le_of_succ_le_succ h)) a) A b
def Zg5(a:∀ n,XB G (run T n))(X:Text w.params K mg G T)(n:Nat){x y:Str}{f:Ad}{fd:bh}(h:Zbu K G T x y i f fd pn N\/ZeG K mg G T i f fd pn):FnOk P w K mg base CX0 n f fd pn (spD K (run T n i)):=Js a X n n (aD _) h
variable [ClsTab]
variable{ys:Li V}
section
variable{xs:Li V}
def Qh(b:H p=aa (.lst xs)){a:Ad}:Ys H a↔Ys (upd H p (.lst ys)) a:=Ui (V6 b λ_ z=>nomatch z) λ_ z=>nomatch z
def JO{K:Fg}(a:H p=aa (.lst xs)):Keeps K ad ad H (upd H p (.lst ys)):=⟨λh=>h.upd a (by intro xs z;cases z),λh=>⟨h,Qh a⟩,λ_ h=>by rw[upd_ne (ne_of h a (by intro z;cases z))];exact h,λh n=>⟨by rw[upd_ne (ne_of h a (by intro z;cases z))];exact h,n⟩⟩
def Den.wr{K:Fg}(a:H p=aa (.lst xs)){v:V}(h:Den K ad H v d):Den K ad (upd H p (.lst ys)) v d:=h.map (JO a)
def Dens.wr{K:Fg}(a:H p=aa (.lst xs))(h:Dens K ad H vs ds):Dens K ad (upd H p (.lst ys)) vs ds:=h.map (JO a)
theorem EnvOk.wr{K:Fg}(a:H p=aa (.lst xs))(h:EnvOk K ad H O U):EnvOk K ad (upd H p (.lst ys)) O U:=⟨h.len,λi d e=>let ⟨v,e1,e2⟩:=h.at_ i d e;⟨v,e1,e2.wr a⟩⟩
def StOk.wr{K:Fg}(S:StOk K ad H st)(a:H p=aa (.lst xs))(b:p∉ad):StOk K ad (upd H p (.lst ys)) st:=
 S.wrG (JO a) b
def Ext.wr{e:Hp}(x:Ext ad0 e ad H)(f:H p=aa (.lst xs))(d:e p=ab):Ext ad0 e ad (upd H p (.lst ys)):=by
 refine⟨x.pre,λb c h=>?_,λb c h=>?_,λb o h n=>?_,x.new,λi a h=>(x.kd i a h).trans (Qh f)⟩
 .rw[upd_ne (ne_of_none h d)];exact x.tup b c h
 .rw[upd_ne (ne_of_none h d)];exact x.dk b c h
 .rw[upd_ne (ne_of_none h d)];exact x.keep b o h n
end
theorem V1{c:Str->NameKind->Bool}:∀ {l:Li (Str×NameKind)}{y:Str},(l.map λ(n,k)=>if c n k=ac then (n,NameKind.cell) else (n,k)).lookup y=(l.lookup y).map λk=>if c y k=ac then NameKind.cell else k
 |[],_=>rfl
 | (n,k) :: r,y=>by
  have a:=@V1 c r y;rw[aQ];have e:(if c n k=ac then (n,NameKind.cell) else (n,k))=(n,if c n k=ac then NameKind.cell else k):=by split<;>rfl
  show List.lookup y ((if c n k=ac then (n,NameKind.cell) else (n,k)) :: _)=_
  rw[e,cH,cH];cases q:y==n with
  |true=>rw[beq_iff_eq.mp q];rfl
  |false=>exact a
def YO{env:PySem.Env}{y:Str}:(relabel sc env).names.lookup y=(sc.names.lookup y).map λk=>if (k==NameKind.free&&env.scope.kind==.function&&env.kindOf y==aa .cell)=ac then NameKind.cell else k:=
 V1 (c:=λn k=>k==NameKind.free&&env.scope.kind==.function&&env.kindOf n==aa .cell)
def Xa{y:Str}{k:NameKind}(h:sc.names.lookup y=aa k)(a:k≠.free):(relabel sc env).names.lookup y=aa k:=by
 rw[YO,h];have:(k==NameKind.free)=ae:=by simpa using a
 show aa (if (k==NameKind.free&&_&&_)=ac then NameKind.cell else k)=aa k
 rw[this,Bool.false_and,Bool.false_and,aq Bf]
def Xu{y:Str}(h:sc.names.lookup y=aa .free):(relabel sc env).names.lookup y=aa .cell\/(relabel sc env).names.lookup y=aa .free:=by
 rw[YO,h];show(aa (if _ then NameKind.cell else NameKind.free))=_\/(aa (if _ then NameKind.cell else NameKind.free))=_
 split
 .exact .inl rfl
 .exact .inr rfl
def Qo{sc:bg}{y:Str}(d:∀ p∈sc.names,p.2≠.cell)(h:(relabel sc env).names.lookup y=aa .cell\/(relabel sc env).names.lookup y=aa .free):sc.names.lookup y=aa .free:=by
 rw[YO]at h;cases q:sc.names.lookup y with
 |none=>rw[q]at h;rcases h with h|h<;>cases h
 |some k=>
  rw[q]at h;cases k with
  |free=>rfl
  |cell=>
   have:∀ {l:Li (Str×NameKind)},l.lookup y=aa .cell->∃ p∈l,p.2=.cell:=λ{l} e=>by
    induction l with
    |nil=>exact Zb e
    |cons a l c=>
     obtain⟨n,k⟩:=a;rw[cH]at e;split at e
     .cases e;exact⟨_,Ls,rfl⟩
     .obtain⟨p,b,f⟩:=c e;exact⟨p,Lm _ b,f⟩
   obtain⟨p,b,e⟩:=this q;exact ar e (d p b)
  |_=>rcases h with h|h<;>simp at h
theorem Wr{env:PySem.Env}:∀ (l:Li (Str×NameKind)) (b:Li (Str×Ad)),(∀ p∈l,p.2=.free->∃ c,env.cells.lookup p.1=aa c)->
  ∃ d,(forIn l b λ(x:Str×NameKind) (r:Li (Str×Ad))=>(do
   if (x.2==NameKind.free)=ac then
    let a <-cellOf env x.1
    pure (ForInStep.yield ((x.1,a) :: r))
   else pure (ForInStep.yield r):Sem (ForInStep (Li (Str×Ad)))))=pure d /\
   (∀ y c,d.lookup y=aa c->b.lookup y=aa c\/((y,NameKind.free)∈l/\env.cells.lookup y=aa c))/\(∀ y,(y,NameKind.free)∈l\/(b.lookup y).isSome->(d.lookup y).isSome)
 |[],b,_=>⟨b,by simp only[List.forIn_nil],λy c h=>.inl h,λy h=>by simpa using h⟩
 | (n,k) :: l,b,h=>by
  by_cases m:k=.free
  .subst m
   obtain⟨t,f⟩:=h (n,.free) Ls rfl;obtain⟨d,e,s,o⟩:=Wr (env:=env) l ((n,t) :: b) λp j=>h p (Lm _ j)
   refine⟨d,?_,λy c q=>?_,λy q=>?_⟩
   .rw[dG]
    simp only[beq_self_eq_true,if_true];have:cellOf env n=pure t:=by unfold cellOf;rw[f]
    simp only[this,pure_bind];exact e
   .rcases s y c q with z|⟨i,g⟩
    .rw[cH]at z
     split at z
     .rename_i u
      cases z;rw[beq_iff_eq.mp u];exact .inr ⟨Ls,f⟩
     .exact .inl z
    .exact .inr ⟨Lm _ i,g⟩
   .refine o y ?_
    rcases q with q|q
    .rcases aF.mp q with z|z
     .cases z
      exact .inr (by rw[cH];simp)
     .exact .inl z
    .refine .inr ?_
     rw[cH];split
     .rfl
     .exact q
  .obtain⟨d,e,s,o⟩:=Wr (env:=env) l b λp j=>h p (Lm _ j)
   refine⟨d,?_,λy c q=>?_,λy q=>?_⟩
   .rw[dG]
    have:(k==NameKind.free)=ae:=by simpa using m
    simp only[this,dW,if_false,pure_bind];exact e
   .rcases s y c q with z|⟨i,g⟩
    .exact .inl z
    .exact .inr ⟨Lm _ i,g⟩
   .refine o y ?_
    rcases q with q|q
    .rcases aF.mp q with z|z
     .cases z;exact ar rfl m
     .exact .inl z
    .exact .inr q
def QI{sc:bg}(h:∀ p∈sc.names,p.2=.free->∃ c,env.cells.lookup p.1=aa c):∃ a,closureFor sc env=pure a/\(∀ y c,a.lookup y=aa c->env.cells.lookup y=aa c)/\∀ y,(y,NameKind.free)∈sc.names->(a.lookup y).isSome:=by
 obtain⟨a,e,d,b⟩:=Wr (env:=env) sc.names [] h;refine⟨a,?_,λy c q=>?_,λy q=>b y (.inl q)⟩
 .unfold closureFor
  rw[show(λ(x:Str×NameKind) (r:Li (Str×Ad))=>_)=_ from rfl]at e
  first|exact(by simp only[e,pure_bind]) | (simp only[bind_pure]at *;exact e)|exact e
 .rcases d y c q with z|⟨_,z⟩
  .exact Zb z
  .exact z
variable [ClsTab]
variable{iter:ay}{ifs:Li ay}
def QJ{R:Result->Sd->Prop}{s:Sd}{a:ay}{scope:bg}{it p:vL}(I:Nat->Sd->Prop)(turn:∀ n s,I n s->a0 (a6 prog w) A (pyNext it) (λr g=>match r with
   |none=>R (.ok .next) g
   |some v=>a0 (a6 prog w) A (letOwnedTupleGo a it v) (λ_ f=>a0 (a6 prog w) A (assign a env v) (λ_ l=>
     a0 (a6 prog w) A (forIn ifs ac λc r=>if r=ac then do let ok <-isTrue c env (eval c env);pure (ForInStep.yield ok) else pure (ForInStep.yield r)) (λok d=>
      if ok=ac then a0 (a6 prog w) A (eval elt env) (λx k=>
       a0 (a6 prog w) A (call (.builtin "list.append") [p,x]) (λ_ j=>∃ m,m < n/\I m j) (notedBy (a6 prog w) A env λe i=>R (.error e) i) k) (notedBy (a6 prog w) A env λe i=>R (.error e) i) d
      else ∃ m,m < n/\I m d) (notedBy (a6 prog w) A env λe i=>R (.error e) i) l) (notedBy (a6 prog w) A env λe i=>R (.error e) i) f) (notedBy (a6 prog w) A env λe i=>R (.error e) i) g) (notedBy (a6 prog w) A env λe i=>R (.error e) i) s)(n:Nat)(h:I n s):codeAny (a6 prog w) A (.compLoop (.ListComp elt [⟨a,iter,ifs,0⟩] scope pos) 0 it p env) R s:=by
 refine codeAny_loop rfl I (λn s y=>?_) n h
 show a0 _ A ((compTurn (.ListComp elt [⟨a,iter,ifs,0⟩] scope pos) 0 it p env).onRaise (λx=>do noteFrame x env;theTreesLotGoes x)) _ _ s
 refine wpAny_noted ?_;rw[compTurn_list];refine aA (wpAny_standAt (aA (bH (turn n s y) (λr g b=>?_) λ_ _ h'=>h')))
 cases r with
 |none=>exact aE b
 |some v=>
  refine aA (bH b (λ_ f b=>?_) λ_ _ h'=>h')
  refine aA (bH b (λ_ l u=>aA (bH u (λok d o=>?_) λ_ _ h'=>h')) λ_ _ h'=>h')
  cases ok with
  |false=>exact aE ⟨rfl,o⟩
  |true=>
   exact aA (aA (bH o (λx k t=>aA (bH t (λ_ j q=>aE (aE ⟨rfl,q⟩)) λ_ _ h'=>h')) λ_ _ h'=>h'))
def cxC(X:Cx)(N:Li Str)(env:PySem.Env)(a:Sd)(c:Hp)(b:Li Ad)(pQ:Li (Ad×Obj)):Cx:=
 { X with N:=N,s₀:=a,H₀:=c,env:=env,outer:=X.stack,ex:=b,fn:=λ_=>ae,pn:=X.pn++pQ,xe:=λ_ _=>False }
variable{m0:Str->Ot vL}{tk:Nat}{O':L2.St}
variable{pQ:Li (Ad×Obj)}{O:L2.St}{sc2:bg}{cl:Li (Str×Ad)}{N:Li Str}
section
variable{H3:Hp}{s3:Sd}{fp:Li Ad}
def Zdc(a:L2.Inv X pQ O H3 s3){G:bj}(R:sc2.kind=.function)(f:∀ p∈sc2.names,p.2≠.cell)(E:G.Ns s3.heap.objs.size m0)(up:∀ b u,s3.heap.get? b=aa u->G.get? b=aa u)(k:∀ y c,cl.lookup y=aa c->X.env.cells.lookup y=aa c)(J:∀ y,sc2.names.lookup y=aa .free->(cl.lookup y).isSome)(s:∀ b∈fp,FpOk X pQ H3 b)(S:∀ b∈fp,b < s3.heap.objs.size)(A:∀ (i:Nat) (y:Str) (v:V),N[i]?=aa y->O'[i]?=aa (aa v)->∃ j:Nat,X.N[j]?=aa y/\O[j]?=aa (aa v)/\sc2.names.lookup y=aa .free/\(X.env.scope.names.lookup y=aa .cell\/X.env.scope.names.lookup y=aa .free))(Q:O'.length=N.length) :
  L2.Inv (cxC X N (compEnvC sc2 cl s3.heap.objs.size X.env) s3 H3 fp pQ) [] O' H3 { s3 with heap:=G,toks:=tk } where
 ok:={
  mod:=a.ok.mod
  kind:=R
  glob:=a.ok.glob
  blt:=a.ok.blt
  above:=aD _
  inj:=λx y c e W=>a.ok.inj x y c (k _ _ e) (k _ _ W)
  has:=λx h=>by
   have e:=Qo (env:=X.env) f h;have:=J x e;cases q:cl.lookup x with
   |none=>rw[q]at this;cases this
   |some c=>exact⟨c,q⟩
  cab:=λx c h=>nomatch h
  hd:=a.ok.hd
  frames:=a.ok.frames
  stk:=.inl rfl
  exf:=λb g=>⟨aZ (S b g),λx c e=>(s b g).2.2.2.2.1 x c (k _ _ e)⟩
  bs:=a.bs
  bsz:=aM a.ok.bsz a.sz
  noex:=λb o e g=>by
   rcases (s b g).2.2.2.1 with z|z
   .exact a.ok.noex b o e z
   .exact ar (aU (aJ e) (aM a.ok.bsz z)) (bZ _)
  exfs:=λb g B=>by
   rcases aF.mp (a.stkSub b B) with z|z
   .exact(s b g).2.1 z
   .exact(s b g).2.2.1 z
  funs:=a.stack
  frf:=a.stkFree }
 os:=rfl
 bare:=a.bare
 base:=Un.kept up
 loc:=⟨m0,E,λi y v U T Z=>by
  obtain⟨j,g1,g2,I,H⟩:=A i y v U T;obtain⟨m,Y,F⟩:=a.loc;obtain⟨u,r,l⟩:=F j y v g1 g2 (.inr H);refine⟨u,r,.inr ⟨Xu I,?_⟩⟩;rcases l with⟨z,_⟩|⟨_,c,e,z⟩
  .have K:X.env.scope.names.lookup y=aa .local:=z
   rcases H with w|w<;>(rw[K]at w;cases w)
  .have q:=J y I
   cases t:cl.lookup y with
   |none=>rw[t]at q;cases q
   |some c'=>
    have:=k _ _ t;rw[e]at this;cases this
    obtain⟨o,D,hd⟩:=z;exact⟨c,t,o,up c o D,hd⟩⟩
 cell:=λy c e=>by
  obtain⟨v,o,D,hd⟩:=a.cell y c (k _ _ e);exact⟨v,o,up c o D,hd⟩
 free:=a.hok.fresh (aD _)
 freeC:=λy c e=>a.freeC y c (k _ _ e)
 pin:=λp P=>by
  have C:p∈X.pn++pQ:=by simpa[cxC] using P
  obtain⟨e,n,M,L,d⟩:=a.pin p C;refine⟨up _ _ e,n,aZ (aJ e),λB=>?_,d⟩
  rcases aF.mp (a.stkSub _ B) with z|z
  .exact M z
  .exact L z
 hok:=a.hok.kept up
 len:=Q
def Zdb(r:L2.Inv X pQ O H3 s3){d:Li (Ad×Obj)}{H':Hp}{s':Sd}(p:env.locals=s3.heap.objs.size)(g:L2.Inv (cxC X N env s3 H3 fp pQ) d O' H' s')(sb:Heap.SameBut s3.heap.objs.size s'.heap h')(h:∀ b∈fp,FpOk X pQ H3 b):L2.Inv X pQ O H' { s' with heap:=h' }:=by
 have u:Un (frs X.stack) fp H3 H' s3.heap s'.heap:=g.base;have i:∀ b o,s3.heap.get? b=aa o->b≠s3.heap.objs.size:=λb o e=>aZ (aJ e)
 have k:H' s3.heap.objs.size=ab:=by have:=g.free;rw[show(cxC X N env s3 H3 fp pQ).env.locals=s3.heap.objs.size from p]at this;exact this
 refine r.call' (s':={ s' with heap:=h' }) (ch:=fp) g.os ⟨λb o e n a f=>?_,λb o e n a f=>?_,u.free,λb o e f=>?_,u.tups,u.frzs,u.tbls⟩ (λb l e=>?_) g.bare (λb a=>?_)
 .exact(sb.2 b (i b o e)).trans (u.keep b o e n a f)
 .obtain⟨sl,j⟩:=u.slot b o e n a f
  exact⟨sl,(sb.2 b (i b o e)).trans j⟩
 .obtain⟨m,j⟩:=u.there b o e f
  exact⟨m,(sb.2 b (i b o e)).trans j⟩
 .refine(g.hok b l e).stay (λc s hc q=>(sb.2 c ?_).trans q) (λ_ q=>q) λ_ _ q=>q
  rintro rfl
  rcases hc with rfl|hc
  .rw[k]at e;cases e
  .rw[k]at hc;cases hc
 .exact⟨(h b a).2.2.2.1,(h b a).2.1,(h b a).2.2.2.2.1,(h b a).2.2.2.2.2⟩
end
variable [ClsTab]
theorem V8{N:Li Str}:∀ {l:Li Str}{b:Li Nat},XW N l=aa b->b.length=l.length/\∀ (i:Nat) (k:Nat),b[i]?=aa k->∃ y,l[i]?=aa y/\N[k]?=aa y
 |[],b,h=>by cases h;exact⟨rfl,λi k e=>by simp at e⟩
 |x :: r,b,h=>by
  unfold XW at h;split at h
  .rename_i a as g f
   cases h;obtain⟨d,c⟩:=V8 f;refine⟨by simp[d],λi k e=>?_⟩
   cases i with
   |zero=>simp at e;subst e;exact⟨x,rfl,Ws g⟩
   |succ i=>exact c i k (by simpa using e)
  .exact Zb h
theorem StOk.lt{s:Sd}{a:Ad}(I:L2.Inv X pQ O H s)(S:StOk X.K ad H st)(h:a∈ad):a < s.heap.objs.size:=by
 obtain⟨i,b,e⟩:=List.getElem_of_mem h;rcases S.has (show ad[i]?=aa a by rw[Lg b,e]) with⟨o,q⟩|⟨o,q⟩
 .exact I.hok.lt q
 .exact aJ (I.kIn a o q)
variable{fr:Li Nat}
def ZcG{K:Fg}{bs:L2.St}{b:D->Li (Ot D)}(E:EnvOk K ad H O U)(hd:EnvOk K ad H bs (b d)):EnvOk K ad H (bs++fr.map λi=>(O[i]?).join) (ZP b U fr d):=by
 refine⟨by simp[ZP,hd.len],λi e h=>?_⟩
 unfold ZP at h;by_cases a:i < (b d).length
 .rw[cD a]at h
  rw[cD (by rw[hd.len];exact a)]
  exact hd.at_ i e h
 .have a:(b d).length<=i:=eH a
  rw[cJ a,aT]at h;rw[cJ (by rw[hd.len];exact a),aT,hd.len]
  cases q:fr[i - (b d).length]? with
  |none=>rw[q]at h;cases h
  |some k=>
   rw[q]at h;have h:(U[k]?).join=aa e:=by simpa using h
   have c:U[k]?=aa (aa e):=by
    cases z:U[k]? with
    |none=>rw[z]at h;cases h
    |some o=>rw[z]at h;rw[show o=aa e from h]
   obtain⟨w,g,f⟩:=E.at_ k e c;exact⟨w,by simp[g],f⟩
def Wd(K:Fg)(tg:ay)(a:Li Str)(b:D->Li (Ot D))(ds:Li D):Prop:=
 ∀ X:Cx,X.K=K->X.calm=ac->X.N.Nodup->(∀ (i:Nat) x,a[i]?=aa x->X.N[i]?=aa x)->(∀ y∈a,X.env.scope.names.lookup y=aa .local)->∀ (pQ:Li (Ad×Obj)) (s:Sd) (os fv:L2.St) (H:Hp) (ad:Li Ad) (v:V) (u:vL) (d:D),os.length=a.length->L2.Inv X pQ (os++fv) H s->RelV v u->Den K ad H v d->d∈ds->
  a0 (a6 X.prog X.w) X.A (assign tg X.env u) (λ_ c=>∃ bs,bs.length=a.length/\EnvOk K ad H bs (b d)/\L2.Inv X pQ (bs++fv) H c) X.xe s
variable{px:Pos}
def QE{K:Fg}{x:Str}:Wd K (.Name x px) [x] one ds:=by
 intro X w t k f j pQ s a l H ad v u d g I r n _;obtain⟨o,rfl⟩:∃ o,a=[o]:=by match a,g with|[o],_=>exact⟨o,rfl⟩
 have b:=j x Ls;have c:PG X (.Name x px) (gName 0):=pg_name k (f 0 x rfl) (.inl b) (.inr b);refine thn (c pQ s _ H v u (λO' H'=>O'=[aa v]++l/\H'=H) I r ⟨rfl,rfl⟩) λ_ q ⟨O',H',p,e,m⟩=>?_
 subst e;subst m
 exact⟨[aa v],rfl,⟨rfl,λi e h=>by
  cases i with
  |zero=>cases h;exact⟨v,rfl,n⟩
  |succ i=>exact nomatch (show(ab:Ot (Ot D))=aa (aa e) from h)⟩,p⟩
variable{py:Pos}
def VG{K:Fg}{x y:Str}{k:Nat}{ds:Li D}(j:∀ d∈ds,∃ a b,d=.tup [a,b]):Wd K (.Tuple [.Name x px,.Name y py] k tp) [x,y] two ds:=by
 intro X F C w q t pQ s l G H ad v u d A I r L B;obtain⟨o,g,rfl⟩:∃ o g,l=[o,g]:=by match l,A with|[o,g],_=>exact⟨o,g,rfl⟩
 obtain⟨a,b,rfl⟩:=j d B;have n:=t x Ls;have m:=t y (Lm _ Ls);have g1:PG X (.Name x px) (gName 0):=pg_name w (q 0 x rfl) (.inl n) (.inr n);have g2:PG X (.Name y py) (gName 1):=pg_name w (q 1 y rfl) (.inl m) (.inr m);have z:PG X (.Tuple [.Name x px,.Name y py] k tp) _:=pg_tup C (pgs_cons g1 (pgs_cons g2 pgs_nil))
 obtain⟨p,vs,rfl,E,rv⟩:=L.ofTup;cases rv with
 |cons N rv=>cases rv with
  |cons M rv=>
   cases rv;rename_i f c;refine thn (z pQ s _ H _ u (λO' H'=>O'=[aa f,aa c]++G/\H'=H) I r ⟨p,[f,c],rfl,by rw[F];exact E.sq,rfl,f,[c],rfl,c,[],rfl,rfl,rfl,rfl⟩) λ_ P ⟨O',H',O,e,J⟩=>?_
   subst e;subst J
   exact⟨[aa f,aa c],rfl,⟨rfl,λi e h=>by
    cases i with
    |zero=>cases h;exact⟨f,rfl,N⟩
    |succ i=>cases i with
     |zero=>cases h;exact⟨c,rfl,M⟩
     |succ i=>exact nomatch (show(ab:Ot (Ot D))=aa (aa e) from h)⟩,O⟩
def Jz{K:Fg}{x y z:Str}{m:Pos}{k:Nat}{ds:Li D}(t:∀ d∈ds,∃ a b c,d=.tup [a,b,c]):Wd K (.Tuple [.Name x px,.Name y py,.Name z m] k tp) [x,y,z] Zbf ds:=by
 intro X N L w n q pQ s A P H ad v u d G I r R J;obtain⟨o,l,o2,rfl⟩:∃ o l o2,A=[o,l,o2]:=by match A,G with|[o,l,o2],_=>exact⟨o,l,o2,rfl⟩
 obtain⟨a,b,c,rfl⟩:=t d J;have E:=q x Ls;have C:=q y (Lm _ Ls);have B:=q z (Lm _ (Lm _ Ls));have g1:PG X (.Name x px) (gName 0):=pg_name w (n 0 x rfl) (.inl E) (.inr E);have g2:PG X (.Name y py) (gName 1):=pg_name w (n 1 y rfl) (.inl C) (.inr C);have O:PG X (.Name z m) (gName 2):=pg_name w (n 2 z rfl) (.inl B) (.inr B)
 have F:PG X (.Tuple [.Name x px,.Name y py,.Name z m] k tp) _:=pg_tup L (pgs_cons g1 (pgs_cons g2 (pgs_cons O pgs_nil)));obtain⟨p,vs,rfl,M,rv⟩:=R.ofTup;cases rv with
 |cons U rv=>cases rv with
  |cons T rv=>cases rv with
   |cons S rv=>
    cases rv;rename_i j g f;refine thn (F pQ s _ H _ u (λO' H'=>O'=[aa j,aa g,aa f]++P/\H'=H) I r ⟨p,[j,g,f],rfl,by rw[N];exact M.sq,rfl,j,[g,f],rfl,g,[f],rfl,f,[],rfl,rfl,rfl,rfl⟩) λ_ W ⟨O',H',V,e,Q⟩=>?_
    subst e;subst Q
    exact⟨[aa j,aa g,aa f],rfl,⟨rfl,λi e h=>by
     cases i with
     |zero=>cases h;exact⟨j,rfl,U⟩
     |succ i=>cases i with
      |zero=>cases h;exact⟨g,rfl,T⟩
      |succ i=>cases i with
       |zero=>cases h;exact⟨f,rfl,S⟩
       |succ i=>exact nomatch (show(ab:Ot (Ot D))=aa (aa e) from h)⟩,V⟩
variable{cl:Li (Str×Ad)}{ce cc:CE}{bd:D->Li (Ot D)}{J:It}{tn:Nat->bj->Prop}{Good:Li Ad->Hp->Prop}{ad2:Li Ad}{H2:Hp}{use:Ot (vL->Sem Unit)}{R0:vL->Sd->Prop}{st1:Za}
variable{sc:bg}
section
variable{xs:Li Str}
def YD(h:XL sc sc2 xs=ac):sc2.kind=.function/\(∀ p∈sc2.names,p.2≠.cell)/\(∀ x∈xs,sc2.names.lookup x=aa .local)/\(∀ p∈sc2.names,p.2=.local->sc2.names.lookup p.1=aa .local)/\(xs++ZW sc2).Nodup/\∀ y∈ZW sc2,VX sc y=ac/\sc2.names.lookup y=aa .free:=by
 unfold XL at h;simp only[Ba,bC,cT,cB,eK,decide_eq_false_iff_not]at h;obtain⟨⟨⟨⟨⟨i,g⟩,f⟩,d⟩,c⟩,b⟩:=h;exact⟨i,g,f,λp a e=>(d p a).elim (λz=>ar e z) id,c,b⟩
def mem_frees{y:Str}:y∈ZW sc2↔(y,NameKind.free)∈sc2.names:=by
 unfold ZW;rw[aR];constructor
 .rintro⟨⟨n,k⟩,h,rfl⟩
  rw[eE]at h;have:k=.free:=am h.2;rw[<-this];exact h.1
 .intro h
  exact⟨(y,.free),eE.mpr ⟨h,by simp⟩,rfl⟩
theorem mem_of_lookup{y:Str}{k:NameKind}:∀ {l:Li (Str×NameKind)},l.lookup y=aa k->(y,k)∈l
 |[],h=>by cases h
 | (n,q) :: l,h=>by
  rw[cH]at h;split at h
  .rename_i e
   cases h;rw[beq_iff_eq.mp e];exact Ls
  .exact Lm _ (mem_of_lookup h)
def ZcB(c:Cxt X G F sc N)(b:XL sc sc2 xs=ac){C:Ad}{s3:Sd}{H3:Hp}{fp:Li Ad}:Cxt (cxC X (xs++ZW sc2) (compEnvC sc2 cl C X.env) s3 H3 fp pQ) G F sc2 (xs++ZW sc2):=by
 obtain⟨i,d,h,g,f,e⟩:=YD b;exact {
  hN:=rfl
  vis:=λy a=>by
   rcases Zel a with z|z|z
   .exact .inl (Xa z (by intro q;cases q))
   .exact ar rfl (d _ (mem_of_lookup z))
   .rcases Xu (env:=X.env) z with w|w
    .exact .inr (.inl w)
    .exact .inr (.inr w)
  glb:=λy a=>Xa (Zaz a) (by intro q;cases q)
  calm:=c.calm
  hu:=c.hu
  gl:=c.gl
  cel:=λy a=>by
   rcases Zar a with z|z
   .exact ar rfl (d _ (mem_of_lookup z))
   .exact Xu z
  nx:=rfl }
def Zcx{ok:Za->Prop}{f c:D->Za->Res}{xs:Li D}{r:Li D×Za}(h:Z9 ok f c xs st=aa r):ok st:=by
 unfold Z9 at h;split at h
 .split at h
  .assumption
  .exact Zb h
 .split at h
  .assumption
  .exact Zb h
def evB(F:Nat->Fn)(c:CE)(b:D->Li (Ot D))(U:Env)(fr:Li Nat):D->Za->Res:=λd s=>ev F c (ZP b U fr d) s
inductive CI(X:Cx)(tn:Nat->bj->Prop)(fp:List Addr)(fv O:L2.St)(U:Env)(w:Nat)(ds:List D)(go:List D->Za->Option (List D×Za))(Good:List Addr->Hp->Prop)(dd:Addr)(ad2:List Addr)(H2:Hp)(st':Za)(ys:List D)(m:Nat)(s:Shared):Prop
 |mk (i:Nat) (o0:L2.St) (H:Hp) (ad:List Addr) (st:Za) (vs:List V) (es zs:List D) (him:i+m=ds.length) (hol:o0.length=w) (I:L2.Inv X [] (o0++fv) H s) (ti:tn i s.heap) (fi:∀ b∈fp,H b=ab) (En:EnvOk X.K ad H O U) (S:StOk X.K ad H st) (Gd:Good ad H) (nd:dd∉ad) (hv:H dd=aa (.lst vs)) (rv:Dens X.K ad H vs es) (hel:es.length<=i)
  (hcp:go (ds.drop i) st=aa (zs,st')) (hys:es++zs=ys) (ex:Ext ad2 H2 ad H):CI X tn fp fv O U w ds go Good dd ad2 H2 st' ys m s
def ZbI(Kx:Cxt X G F sc2 N)(ihE:Zq G F n)(hce:cE G n sc2 N elt=aa ce)(hcc:(ifs=[]/\cc=.c (.bl ac))\/∃ e,ifs=[e]/\cE G n sc2 N e=aa cc){fp:Li Ad}{it:Ad}{ok:Za->Prop}(gm:∀ ad H ad' H',Ext ad H ad' H'->Good ad H->Good ad' H')(gw:∀ ad H p xs ys,H p=aa (.lst xs)->Good ad H->Good ad (upd H p (.lst ys)))(go:∀ i ad H st,Good ad H->StOk X.K ad H st->ok st->i < ds.length->J.go i H)(stop:∀ i ad H st,Good ad H->StOk X.K ad H st->ok st->ds.length=i->J.stop i H)(yl:∀ i ad H st v H',Good ad H->StOk X.K ad H st->ok st->J.yld i H v H'->i < ds.length->Ext ad H ad H'/\StOk X.K ad H' st/\∃ d,ds[i]?=aa d/\Den X.K ad H' v d)(T:Turn X.prog X.w X.K tg J fp it tn)(B:Wd X.K tg xs bd ds)(hN:X.N.Nodup)(hx:∀ (i:Nat) x,xs[i]?=aa x->X.N[i]?=aa x)(hl:∀ y∈xs,X.env.scope.names.lookup y=aa .local)(exx:X.xe=λ_ _=>False)(fpk:∀ {H:Hp},(∀ b∈fp,H b=ab)->∀ b∈fp,FpOk X [] H b){fv:L2.St}(ec:∀ {ad H bs d},EnvOk X.K ad H O U->EnvOk X.K ad H bs (bd d)->EnvOk X.K ad H (bs++fv) (ZP bd U fr d)){dd:Ad}{ys:Li D}(D0:H2 dd=ab)(hz:ds.length<=1000){R:Result->Sd->Prop}(done:∀ s5 σ5 H ad vs,L2.Inv X [] σ5 H s5->StOk X.K ad H st'->dd∉ad->H dd=aa (.lst vs)->Dens X.K ad H vs ys->Ext ad2 H2 ad H->R (.ok .next) s5){s:Sd}{m:Nat}(h0:CI X tn fp fv O U xs.length ds (Z9 ok (evB F ce bd U fr) (evB F cc bd U fr)) Good dd ad2 H2 st' ys m s) :
  codeAny (a6 X.prog X.w) X.A (.compLoop (.ListComp elt [⟨tg,iter,ifs,0⟩] sc2 pos) 0 (.ref it) (.ref dd) X.env) R s:=by
 refine QJ _ (λm s h=>?_) m h0
 cases h with
 |mk i o0 H ad st vs es zs him hol I ti fi En S Gd nd hv rv hel a Z ex=>
 have W:=Zcx a;have none_of:∀ {E:vL->Sd->Prop}{α:Type}{t:Sem α}{R:α->Sd->Prop}{s0:Sd},a0 (a6 X.prog X.w) X.A t R X.xe s0->a0 (a6 X.prog X.w) X.A t R E s0:=λh=>by
  rw[exx]at h;exact bH h (λ_ _ q=>q) λ_ _ q=>q.elim
 by_cases hi:i < ds.length
 .refine thn (T.item X rfl rfl rfl Kx.calm i [] s _ H _ I (fpk fi) ti (go i ad H st Gd S W hi)) λr s5 ⟨u,hr,h5'⟩=>?_
  subst hr;refine thn h5' λ_ s6 ⟨v,H',I6,r6,y6,t6,f6⟩=>?_
  obtain⟨x6,S6,d,ed,dv⟩:=yl i ad H st v H' Gd S W y6 hi;have hd:ds.drop i=d :: ds.drop (i+1):=by
   rw[bR hi];rw[Lg hi]at ed;cases ed;rfl
  refine thn (none_of (B X rfl Kx.calm hN hx hl _ s6 o0 _ H' ad v u _ hol (I6.pinned (fpk f6) (T.obj _ _ t6)) r6 dv (aY ed))) λ_ s7 ⟨bs,lb,Eb,I7⟩=>?_
  have En6:=En.mono x6;have En7:=ec En6 Eb
  -- behind the item's turn
  have Y:∀ {M:Hp}{s9:Sd}{g:Li Ad}{st9:Za}{vs9:Li V}{es9 zs9:Li D},L2.Inv X ([]++pinsAt fp s6.heap) (bs++fv) M s9->StOk X.K g M st9->Good g M->dd∉g->M dd=aa (.lst vs9)->Dens X.K g M vs9 es9->es9.length<=i+1->
    Z9 ok (evB F ce bd U fr) (evB F cc bd U fr) (ds.drop (i+1)) st9=aa (zs9,st')->es9++zs9=ys->Ext ad2 H2 g M->EnvOk X.K g M O U->
    ∃ m',m' < m/\CI X tn fp fv O U xs.length ds (Z9 ok (evB F ce bd U fr) (evB F cc bd U fr)) Good dd ad2 H2 st' ys m' s9:=
   λI9 S9 G9 n9 v9 r9 l9 c9 y9 x9 e9=>
    have pk:=λb hb o e=>I9.pin (b,o) (bO _ (bO _ (mem_pinsAt hb e)))
    ⟨m - 1,by omega,.mk (i+1) bs _ _ _ _ _ _ (by omega) lb I9.unpinned (T.keep _ _ _ t6 λb hb o e=>(pk b hb o e).1) (λb hb=>let ⟨o,e,_⟩:=T.obj _ _ t6 b hb;(pk b hb o e).2.1) e9 S9 G9 n9 v9 r9 l9 c9 y9 x9⟩
  -- the L
  have L:∀ {k:Bool}{j:Za},evB F cc bd U fr d st=aa (.bl k,j)->∀ {R:Bool->Sd->Prop}{E:vL->Sd->Prop},(∀ s8 l f,L2.Inv X ([]++pinsAt fp s6.heap) (bs++fv) l s8->Ext ad H' f l->StOk X.K f l j->R k s8)->
    a0 (a6 X.prog X.w) X.A (forIn ifs ac λc r=>if r=ac then do let ok <-isTrue c X.env (eval c X.env);pure (ForInStep.yield ok) else pure (ForInStep.yield r)) R E s7:=λ{k j} q {R E} hR=>by
   rcases hcc with⟨rfl,rfl⟩|⟨e,rfl,he⟩
   .cases q
    exact wpAny_tests_nil (hR s7 H' ad I7 (Ext.refl _ _) S6)
   .refine wpAny_tests_one (thn (none_of ((ihE X sc2 _ Kx e cc he).pt _ s7 _ H' (λk' l=>k'=k/\∃ f,Ext ad H' f l/\StOk X.K f l j) I7 ⟨ad,ZP bd U fr d,st,k,j,En7,S6,q,λad' H' x S'=>⟨rfl,ad',x,S'⟩⟩)) λk' s8 ⟨l,I8,e8,f,C,S8⟩=>?_)
    subst e8;exact hR s8 l f I8 C S8
  have n8:∀ {f l},Ext ad H' f l->dd∉f:=λC z=>((x6.trans C).new dd z).elim nd λw=>by rw[hv]at w;cases w
  have v8:∀ {f l},Ext ad H' f l->l dd=aa (.lst vs):=λC=>(x6.trans C).keep dd _ hv nd
  have rv6:=rv.mono x6;have ex6:=ex.trans x6;have G6:=gm _ _ _ _ x6 Gd;clear x6 En Eb ex Gd S I hv rv;rw[hd]at a;unfold Z9 at a;rw[ao W]at a;split at a
  .rename_i j q1
   split at a
   .rename_i y st3 q2
    split at a
    .rename_i zs' st4 q3
     cases a;refine L q1 λs8 l f I8 C S8=>?_
     rw[ao rfl];refine thn (none_of ((ihE X sc2 _ Kx elt ce hce).pe _ s8 _ l (λv8 M=>∃ g,Ext f l g M/\StOk X.K g M st3/\Den X.K g M v8 y) I8 ⟨f,ZP bd U fr d,j,y,st3,En7.mono C,S8,q2,λv8 ad' H' x S' dn=>⟨ad',x,S',dn⟩⟩)) λu9 s9 ⟨v9,M,I9,r9,g,x9,S9,d9⟩=>?_
     have P:=C.trans x9;have Q:=v8 P;have hlen:vs.length=es.length:=rv6.length;refine thn (none_of (mt_append (X:=X) _ s9 _ M (.ref dd) [v9] (.ref dd) [u9] (λ_ H10=>H10=upd M dd (.lst (vs++[v9]))) I9 rfl (.cons r9 .nil) ⟨dd,vs,v9,rfl,rfl,Q,Nat.lt_of_le_of_lt (show vs.length<=1000 by omega) (by decide),rfl⟩)) λu10 s10 ⟨v10,H10,I10,r10,e10⟩=>?_
     subst e10;have nd9:=n8 P;exact Y (vs9:=vs++[v9]) (es9:=es++[y]) (zs9:=zs') I10 (S9.wr Q nd9) (gw _ _ _ _ _ Q (gm _ _ _ _ P G6)) nd9 upd_same (((rv6.mono P).append (.cons d9 .nil)).wr Q) (by rw[aH,eV];omega) q3 (by rw[<-Z,bF];rfl) ((ex6.trans P).wr Q D0) ((En6.mono P).wr Q)
    .exact Zb a
   .exact Zb a
  .rename_i j q1
   refine L q1 λs8 l f I8 C S8=>?_
   rw[aq Bf];exact Y I8 S8 (gm _ _ _ _ C G6) (n8 C) (v8 C) (rv6.mono C) (by omega) a Z (ex6.trans C) (En6.mono C)
  .exact Zb a
 .refine thn (T.done X rfl rfl rfl Kx.calm i [] s _ H _ I (fpk fi) ti (stop i ad H st Gd S W (by omega))) λr s5 ⟨hr,I5⟩=>?_
  subst hr;rw[List.drop_eq_nil_of_le (eH hi)]at a;unfold Z9 at a;rw[ao W]at a;cases a;rw[bB]at Z;subst Z;exact done s5 _ H ad vs I5 S nd hv rv ex
def JG(Kx:Cxt X G F sc N)(ihE:Zq G F n)(P:XL sc sc2 xs=ac)(hfr:XW N (ZW sc2)=aa fr)(hce:cE G n sc2 (xs++ZW sc2) elt=aa ce)(hcc:(ifs=[]/\cc=.c (.bl ac))\/∃ e,ifs=[e]/\cE G n sc2 (xs++ZW sc2) e=aa cc)(c1:∀ y c,cl.lookup y=aa c->X.env.cells.lookup y=aa c)(c2:∀ y,(y,NameKind.free)∈sc2.names->(cl.lookup y).isSome){fp:Li Ad}{it:Ad}{ok:Za->Prop}(gm:∀ ad H ad' H',Ext ad H ad' H'->Good ad H->Good ad' H')(gw:∀ ad H p xs ys,H p=aa (.lst xs)->Good ad H->Good ad (upd H p (.lst ys)))(go:∀ i ad H st,Good ad H->StOk X.K ad H st->ok st->i < ds.length->J.go i H)(stop:∀ i ad H st,Good ad H->StOk X.K ad H st->ok st->ds.length=i->J.stop i H)(yl:∀ i ad H st v H',Good ad H->StOk X.K ad H st->ok st->J.yld i H v H'->i < ds.length->Ext ad H ad H'/\StOk X.K ad H' st/\∃ d,ds[i]?=aa d/\Den X.K ad H' v d){s2 s3:Sd}{dd:Ad}{h:bj}{ys:Li D}(B:Wd X.K tg xs bd ds)(T:Turn X.prog X.w X.K tg J fp it tn)(t2:tn 0 s2.heap)(I:∀ b∈fp,FpOk X pQ H2 b)(fb:∀ b∈fp,b < dd)(E2:EnvOk X.K ad2 H2 O U)(S2:StOk X.K ad2 H2 st1)(g2:Good ad2 H2)(r:Z9 ok (λd s=>ev F ce (ZP bd U fr d) s) (λd s=>ev F cc (ZP bd U fr d) s) ds st1=aa (ys,st'))(hz:ds.length<=1000)(hp:Post X.K ad2 H2 (.lst st'.length) (st'++[(ac,ys)]) Q)(V:∀ C dd t H5 Z,t.heap.Ns C Z->(∀ h',Heap.SameBut C t.heap h'->L2.Inv X pQ O H5 { t with heap:=h' })->FpOk X pQ H5 C->Q (.ref dd) H5->compPost (a6 X.prog X.w) X.A X.xe use R0 (.ref dd) C (.ok .next) t)  (L:H2 dd=ab) (W:L2.Inv X pQ O (upd H2 dd (.lst [])) s3) (z3:s3.heap.objs.size=dd+1) (Y:dd∉ad2) (l:h.Ns s3.heap.objs.size m0) (up:∀ b u,s3.heap.get? b=aa u->h.get? b=aa u) (M:∀ b u,s2.heap.get? b=aa u->s3.heap.get? b=aa u) :
  codeAny (a6 X.prog X.w) X.A (.compStart (.ListComp elt [⟨tg,iter,ifs,0⟩] sc2 pos) 0 (.ref it) (.ref dd) (compEnvC sc2 cl s3.heap.objs.size X.env)) (compPost (a6 X.prog X.w) X.A X.xe use R0 (.ref dd) s3.heap.objs.size) { s3 with heap:=h,toks:=tk }:=by
 obtain⟨h1,h2,h3,h4,h5,h6⟩:=YD P;have f3:∀ b∈fp,FpOk X pQ (upd H2 dd (.lst [])) b:=λb f=>⟨by rw[upd_ne (aZ (fb b f))];exact(I b f).1,(I b f).2⟩
 obtain⟨fl,fg⟩:=V8 hfr;have I4:=Zdc (N:=xs++ZW sc2) (cl:=cl) (fp:=fp) (tk:=tk) (O':=af xs.length ab++fr.map λi=>(O[i]?).join) W h1 h2 l up c1 (λy e=>c2 y (mem_of_lookup e)) f3 (λb f=>by rw[z3];exact Nat.lt_succ_of_lt (fb b f)) (λi y v e1 g=>by
  by_cases E:i < xs.length
  .rw[cD (by simpa using E),eU,ao E]at g;cases g
  .have E:xs.length<=i:=eH E
   rw[cJ (by simpa using E),aT,bV]at g
   rw[cJ E]at e1;cases q:fr[i - xs.length]? with
   |none=>rw[q]at g;cases g
   |some k=>
    rw[q]at g;have g:(O[k]?).join=aa v:=by simpa using g
    have e3:O[k]?=aa (aa v):=by
     cases w:O[k]? with
     |none=>rw[w]at g;cases g
     |some o=>rw[w]at g;rw[show o=aa v from g]
    obtain⟨y',g1,g2⟩:=fg _ k q;rw[e1]at g1;cases g1
    obtain⟨k1,k2⟩:=h6 y (aY e1);exact⟨k,by rw[Kx.hN];exact g2,e3,k2,Kx.cel y k1⟩) (by simp[fl])
 have K':=ZcB (cl:=cl) (C:=s3.heap.objs.size) (s3:=s3) (H3:=upd H2 dd (.lst [])) (fp:=fp) (pQ:=pQ) Kx P;have m:=ZbI (R:=compPost (a6 X.prog X.w) X.A X.xe use R0 (.ref dd) s3.heap.objs.size) (pos:=pos) (iter:=iter) K' ihE hce hcc gm gw go stop yl T B h5 (λi x e=>by show(xs++ZW sc2)[i]?=aa x;rw[cD (bL.mp e).1];exact e) (λy hy=>Xa (h3 y hy) (by intro q;cases q)) rfl (λ{H} hn b f=>⟨hn b f,by
  show b≠s3.heap.objs.size;rw[z3];exact aZ (Nat.lt_succ_of_lt (fb b f)),λhs=>(aF.mp (W.stkSub b hs)).elim (I b f).2.1 (I b f).2.2.1,.inl f,λy c e=>(I b f).2.2.2.2.1 y c (c1 _ _ e),λp hp=>(I b f).2.2.2.2.2 p (by simpa[cxC] using hp)⟩) (O:=O) (U:=U) (fr:=fr) (λa b=>ZcG a b) (dd:=dd) (ad2:=ad2) (H2:=H2) (st':=st') (ys:=ys) L hz (λt σ5 H ad vs I5 S nd hv rv ex=>by
   obtain⟨Z,hn,_⟩:=I5.loc;refine V s3.heap.objs.size dd t H Z hn (λh' sb=>Zdb W rfl I5 sb f3) (W.fpOk (aD _) I5.free) (hp (.ref dd) (ad++[dd]) H ⟨λj a e=>XZ (ex.pre j a e),ex.tup,ex.dk,ex.keep,λb f=>?_,ex.kd⟩ (S.adopt hv nd rv) (.lst ⟨by rw[<-S.len];exact Zu,V6 hv λ_ z=>nomatch z⟩))
   rcases bA.mp f with z|z
   .exact ex.new b z
   .rw[aP.mp z];exact .inr L)
  (.mk 0 (af xs.length ab) (upd H2 dd (.lst [])) ad2 st1 [] [] ys (bK _) (bV ..) I4 (T.keep _ _ _ t2 λb _ o e=>up b o (M b o e)) (λb f=>(f3 b f).1) (E2.mono (Ext.laid L)) (S2.laid L) (gm _ _ _ _ (Ext.laid L) g2) Y upd_same .nil (aD _) r rfl (Ext.laid L))
 exact codeAny_compStart_list m (T.self X.A 0 _ _ _ (T.keep _ _ _ t2 λb _ o e=>up b o (M b o e)) m)
def ZbH(Kx:Cxt X G F sc N)(x:Zq G F n)(m:XL sc sc2 xs=ac)(E:XW N (ZW sc2)=aa fr)(I:cE G n sc2 (xs++ZW sc2) elt=aa ce)(L:(ifs=[]/\cc=.c (.bl ac))\/∃ e,ifs=[e]/\cE G n sc2 (xs++ZW sc2) e=aa cc)(c1:∀ y c,cl.lookup y=aa c->X.env.cells.lookup y=aa c)(c2:∀ y,(y,NameKind.free)∈sc2.names->(cl.lookup y).isSome){M:Li Ad}{it:Ad}{ok:Za->Prop}(Good:Li Ad->Hp->Prop)(gm:∀ ad H ad' H',Ext ad H ad' H'->Good ad H->Good ad' H')(gw:∀ ad H p xs ys,H p=aa (.lst xs)->Good ad H->Good ad (upd H p (.lst ys)))(go:∀ i ad H st,Good ad H->StOk X.K ad H st->ok st->i < ds.length->J.go i H)(stop:∀ i ad H st,Good ad H->StOk X.K ad H st->ok st->ds.length=i->J.stop i H)(Y:∀ i ad H st v H',Good ad H->StOk X.K ad H st->ok st->J.yld i H v H'->i < ds.length->Ext ad H ad H'/\StOk X.K ad H' st/\∃ d,ds[i]?=aa d/\Den X.K ad H' v d){g:Sd}{ys:Li D}(P:L2.Inv X pQ O H2 g)(B:Wd X.K tg xs bd ds)(T:Turn X.prog X.w X.K tg J M it tn)(S:tn 0 g.heap)(f2:∀ b∈M,FpOk X pQ H2 b)(E2:EnvOk X.K ad2 H2 O U)(W:StOk X.K ad2 H2 st1)(g2:Good ad2 H2)(j:Z9 ok (λd s=>ev F ce (ZP bd U fr d) s) (λd s=>ev F cc (ZP bd U fr d) s) ds st1=aa (ys,st'))(hz:ds.length<=1000)(hp:Post X.K ad2 H2 (.lst st'.length) (st'++[(ac,ys)]) Q)(q:∀ C dd t R Z,t.heap.Ns C Z->(∀ h',Heap.SameBut C t.heap h'->L2.Inv X pQ O R { t with heap:=h' })->FpOk X pQ R C->Q (.ref dd) R->compPost (a6 X.prog X.w) X.A X.xe use R0 (.ref dd) C (.ok .next) t) :
  a0 (a6 X.prog X.w) X.A (newList []) (λr l=>a0 (a6 X.prog X.w) X.A (newFunctionEnv sc2 X.env.globals cl [] X.env.qual ab .none (aa X.env)) (λh k=>
   codeAny (a6 X.prog X.w) X.A (.compStart (.ListComp elt [⟨tg,iter,ifs,0⟩] sc2 pos) 0 (.ref it) r { h with scope:=relabel sc2 X.env }) (compPost (a6 X.prog X.w) X.A X.xe use R0 r h.locals) k) X.xe l) X.xe g:=by
 obtain⟨h1,h2,h3,h4,h5,h6⟩:=YD m;have fb:∀ b∈M,b < g.heap.objs.size:=λb hb=>let ⟨o,e,_⟩:=T.obj 0 _ S b hb;aJ e
 refine wpAny_newObj_type (wpAny_newFunctionEnv h2 (by intro y hy;simp at hy) (λV f a=>?_) h1)
 dsimp only at f a ⊢;have I3:L2.Inv X pQ O (upd H2 g.heap.objs.size (.lst [])) { g with heap:=g.heap.push { cls:=.type "list",dict:=ab,data:=.seq ([]:Li vL).toArray } }:=P.lnew (its:=[]) (t':=g.toks) .nil (aS _)
 have e3:g.heap.push { cls:=.type "list",dict:=ab,data:=.seq ([]:Li vL).toArray }=({ g with heap:=g.heap.push { cls:=.type "list",dict:=ab,data:=.seq ([]:Li vL).toArray } }:Sd).heap:=rfl
 exact JG Kx x m E I L c1 c2 gm gw go stop Y B T S f2 fb E2 W g2 j hz hp q (P.hok.fresh (aD _)) I3 (Heap.size_push ..) (λz=>ar (W.lt P z) (bZ _)) f (λb u e=>a.extBut b u (aZ (aJ e)) (aL _ e)) (λb u e=>aL _ e)
end
variable [ClsTab]
def Zbp(X:Cx)(O:L2.St)(U:Env)(ds:Li D)(ok:Za->Prop)(st1 a:Za)(ys:Li D)(Q:VK)(J:It)(b:Hp):Prop:=
 ∃ (ad1:Li Ad) (Good:Li Ad->Hp->Prop),(∀ ad H ad' H',Ext ad H ad' H'->Good ad H->Good ad' H')/\(∀ ad H p c ys,H p=aa (.lst c)->Good ad H->Good ad (upd H p (.lst ys))) /\
  (∀ i ad H st,Good ad H->StOk X.K ad H st->ok st->i < ds.length->J.go i H)/\(∀ i ad H st,Good ad H->StOk X.K ad H st->ok st->ds.length=i->J.stop i H)/\(∀ i ad H st v H',Good ad H->StOk X.K ad H st->ok st->J.yld i H v H'->i < ds.length->Ext ad H ad H'/\StOk X.K ad H' st/\∃ d,ds[i]?=aa d/\Den X.K ad H' v d) /\
  EnvOk X.K ad1 b O U/\StOk X.K ad1 b st1/\Good ad1 b/\Post X.K ad1 b (.lst a.length) (a++[(ac,ys)]) Q
variable{st2:Za}
def VO{ys:Li D}{f:Ev}(E:EnvOk X.K ad H O U)(S:StOk X.K ad H st)(q:f U st=aa (.tup ds,st1))(p:Post X.K ad H (.lst st2.length) (st2++[(ac,ys)]) Q) :
  iTup X.K (tE X.K f) O H (Zbp X O U ds (λ_=>True) st1 st2 ys Q):=by
 refine⟨ad,U,st,.tup ds,st1,E,S,q,λv c o d n m=>?_⟩
 obtain⟨a,vs,rfl,j,rv⟩:=m.ofTup;refine⟨a,rfl,⟨vs,(j).sq⟩,c,λad H=>TupAt X.K H a vs/\Dens X.K ad H vs ds,λ_ _ _ _ x g=>⟨g.1.mono x,g.2.mono x⟩,λ_ H p k ys h g=>⟨g.1.upd h (by intro k z;cases z),g.2.wr h⟩,λi ad H st g _ _ b=>?_,λi ad H st g _ _ b=>⟨vs,(g.1).sq,by rw[g.2.length];exact cP b⟩,
  λi ad H st v H' g S _ y b=>?_,E.mono d,n,⟨j,rv⟩,p.later d⟩
 .obtain⟨v,e,_⟩:=g.2.get (Lg b)
  exact⟨vs,v,(g.1).sq,e⟩
 .obtain⟨w,e,l⟩:=g.2.get (Lg b)
  have:=y.2 vs ((g.1).sq);rw[e]at this;cases this
  cases y.1;exact⟨Ext.refl _ _,S,_,Lg b,l⟩
def Zcv{n:Int}{ys:Li D}{f:Ev}(e:n < 2 ^ 62/\-(2 ^ 62)<=n)(E:EnvOk X.K ad H O U)(S:StOk X.K ad H st)(q:f U st=aa (.int n,st1))(p:Post X.K ad H (.lst st2.length) (st2++[(ac,ys)]) Q) :
  iRng1 (tCons (tE X.K f) tNil) O H (Zbp X O U ((ag n.toNat).map λ(k:Nat)=>D.int (k:Int)) (λ_=>True) st1 st2 ys Q):=by
 refine⟨ad,U,st,.int n,st1,E,S,q,λv c j d h g=>?_⟩
 cases g.ofInt;refine⟨n,rfl,e.2,e.1,c,λ_ _=>True,λ_ _ _ _ _ _=>trivial,λ_ _ _ _ _ _ _=>trivial,λi ad H st _ _ _ a=>(show i < n.toNat by simpa using a),λi ad H st _ _ _ a=>(show n.toNat<=i by simpa using cP a),λi ad H st v H' _ S _ y a=>?_,E.mono d,h,trivial,p.later d⟩
 cases y.1;have b:i < n.toNat:=by simpa using a
 refine⟨Ext.refl _ _,S,.int (i:Int),?_,?_⟩
 .rw[aT,List.getElem?_range b];rfl
 .rw[y.2,Int.zero_add];exact .int _
def QH{c:XA}{ys:Li D}{f:Ev}(E:EnvOk X.K ad H O U)(S:StOk X.K ad H st)(q:f U st=aa (.lst l,st1))(m:st1[l]?=aa c)(p:Post X.K ad H (.lst st2.length) (st2++[(ac,ys)]) Q) :
  iList X.K (tE X.K f) O H (Zbp X O U c.2 (λs=>s[l]?=aa c) st1 st2 ys Q):=by
 refine⟨ad,U,st,.lst l,st1,E,S,q,λv d r h k o=>?_⟩
 obtain⟨a,rfl,j⟩:=o.ofLst;obtain⟨vs,rv,sq⟩:=k.list j (show st1[l]?=aa (c.1,c.2) from m);refine⟨a,rfl,⟨vs,sq⟩,d,λad H=>LA ad H l a,λ_ _ _ _ x g=>g.mono x,λ_ _ _ _ _ e g=>⟨g.1,λz=>g.2 ((Qh e).mpr z)⟩,λi ad H st g S e b=>?_,λi ad H st g S e b=>?_,λi ad H st v H' g S e y b=>?_,E.mono h,k,j,p.later h⟩
 .obtain⟨vs,rv,sq⟩:=S.list g (show st[l]?=aa (c.1,c.2) from e)
  obtain⟨v,e,_⟩:=rv.get (Lg b);exact⟨vs,v,sq,e⟩
 .obtain⟨vs,rv,sq⟩:=S.list g (show st[l]?=aa (c.1,c.2) from e)
  exact⟨vs,sq,by rw[rv.length];exact cP b⟩
 .obtain⟨vs,rv,sq⟩:=S.list g (show st[l]?=aa (c.1,c.2) from e)
  obtain⟨w,e,n⟩:=rv.get (Lg b);have:=y.2 vs sq;rw[e]at this;cases this
  cases y.1;exact⟨Ext.refl _ _,S,_,Lg b,n⟩
theorem Uy:∀ {a:Li D}{k i:Nat},(Xy k a)[i]?=(a[i]?).map λx=>.tup [.int ((k+i:Nat):Int),x]
 |[],_,_=>rfl
 |x :: a,k,0=>rfl
 |x :: a,k,i+1=>by
  show(Xy (k+1) a)[i]?=_;rw[Uy,show k+1+i=k+(i+1) by omega]
  rfl
theorem X4:∀ {a:Li D}{k:Nat},(Xy k a).length=a.length
 |[],_=>rfl
 |x :: a,k=>au (·+1) X4
theorem W5:∀ {c:Li D}{k:Nat},∀ d∈Xy k c,∃ a b,d=.tup [a,b]
 |[],_,_,h=>nomatch h
 |x :: c,k,d,h=>by
  rcases aF.mp h with rfl|h
  .exact⟨_,_,rfl⟩
  .exact W5 d h
def ZbD{x:D}{ok:Za->Prop}{ys:Li D}{f:Ev}(E:EnvOk X.K ad H O U)(S:StOk X.K ad H st)(q:f U st=aa (x,st1))(j:Jl x st1=aa (ds,ok))(p:Post X.K ad H (.lst st2.length) (st2++[(ac,ys)]) Q) :
  ZaA X.K (tCons (tE X.K f) tNil) O H (Zbp X O U ds ok st1 st2 ys Q):=by
 have k:∀ {sq:Hp->Li V->Prop}{d:Li D}{ok:Za->Prop}{b:Li Ad}{m:Hp} (Good:Li Ad->Hp->Prop),(∀ ad H ad' H',Ext ad H ad' H'->Good ad H->Good ad' H')->(∀ ad H p d ys,H p=aa (.lst d)->Good ad H->Good ad (upd H p (.lst ys)))->Good b m->
   (∀ ad H st,Good ad H->StOk X.K ad H st->ok st->∃ vs,Dens X.K ad H vs d/\sq H vs)->EnvOk X.K b m O U->StOk X.K b m st1->Post X.K b m (.lst st2.length) (st2++[(ac,ys)]) Q->Zbp X O U (Xy 0 d) ok st1 st2 ys Q (Ite sq) m:=
  λ{sq d ok b m} Good J I g1 t M o F=>by
   refine⟨b,Good,J,I,λi ad H st g S e h=>?_,λi ad H st g S e h=>?_,λi ad H st v H' g S e y h=>?_,M,o,g1,F⟩
   .rw[X4]at h
    obtain⟨vs,rv,sq⟩:=t ad H st g S e;obtain⟨v,e,_⟩:=rv.get (Lg h);exact⟨vs,v,sq,e⟩
   .rw[X4]at h
    obtain⟨vs,rv,sq⟩:=t ad H st g S e;exact⟨vs,sq,by rw[rv.length];exact h⟩
   .rw[X4]at h
    obtain⟨vs,rv,sq⟩:=t ad H st g S e;obtain⟨w,e,L⟩:=rv.get (Lg h);obtain⟨T,x,rfl,A,rfl,G⟩:=y;have:=G vs sq;rw[e]at this;cases this
    refine⟨Ext.laid A,S.laid A,_,by rw[Uy,Lg h];rfl,.tup (.inl upd_same) (.cons ?_ (.cons (L.mono (Ext.laid A)) .nil))⟩
    rw[bK];exact .int _
 refine⟨ad,U,st,x,st1,E,S,q,λv b m r o C=>?_⟩
 cases x with
 |tup d=>
  cases j;obtain⟨a,vs,rfl,n,rv⟩:=C.ofTup;exact⟨a,rfl,.inr ⟨⟨vs,n.sq⟩,k (λad H=>TupAt X.K H a vs/\Dens X.K ad H vs d) (λ_ _ _ _ x g=>⟨g.1.mono x,g.2.mono x⟩) (λ_ H p d ys B g=>⟨g.1.upd B (by intro d z;cases z),g.2.wr B⟩) ⟨n,rv⟩ (λad H st g _ _=>⟨vs,g.2,g.1.sq⟩) (E.mono r) o (p.later r)⟩⟩
 |lst l=>
  have j:(match st1[l]? with
   |some c=>aa (Xy 0 c.2,λs=>s[l]?=aa c)
   |none=>ab)=aa (ds,ok):=j
  cases u:st1[l]? with
  |none=>rw[u]at j;cases j
  |some c=>
   rw[u]at j;cases j;obtain⟨a,rfl,n⟩:=C.ofLst;obtain⟨vs,rv,sq⟩:=o.list n (show st1[l]?=aa (c.1,c.2) from u);exact⟨a,rfl,.inl ⟨⟨vs,sq⟩,k (λad H=>LA ad H l a) (λ_ _ _ _ x g=>g.mono x) (λ_ _ _ _ _ e g=>⟨g.1,λz=>g.2 ((Qh e).mpr z)⟩) n (λad H st g S e=>S.list g (show st[l]?=aa (c.1,c.2) from e)) (E.mono r) o (p.later r)⟩⟩
 |_=>exact Zb j
def ZbV{x:D}{ds:Li D}{ok:Za->Prop}(h:Jl x st=aa (ds,ok)):∀ d∈ds,∃ a b,d=.tup [a,b]:=by
 cases x with
 |tup c=>cases h;exact W5
 |lst l=>
  unfold Jl at h;simp only at h;split at h
  .cases h;exact W5
  .exact Zb h
 |_=>exact Zb h
def ZdR{ds:Li D}(e:ds.all Zde=ac):∀ d∈ds,∃ a b,d=.tup [a,b]:=λd c=>by
 have:=cT.mp e d c;unfold Zde at this;split at this
 .exact⟨_,_,rfl⟩
 .cases this
def ZbW{x:D}{ds:Li D}{ok:Za->Prop}(h:Uj x st=aa (ds,ok)):((x=.tup ds/\ok=λ_=>True)\/∃ l c,x=.lst l/\st[l]?=aa c/\ds=c.2/\ok=λs=>s[l]?=aa c)/\∀ d∈ds,∃ a b,d=.tup [a,b]:=by
 unfold Uj at h;split at h
 .split at h
  .rename_i e
   cases h;exact⟨.inl ⟨rfl,rfl⟩,ZdR e⟩
  .exact Zb h
 .split at h
  .rename_i c f
   split at h
   .rename_i e
    cases h;exact⟨.inr ⟨_,c,rfl,f,rfl,rfl⟩,ZdR e⟩
   .exact Zb h
  .exact Zb h
 .exact Zb h
def ZbU{d:Li Str}(h:tgN tg=aa d):(∃ x px,tg=.Name x px/\d=[x])\/(∃ x y px py k tp,tg=.Tuple [.Name x px,.Name y py] k tp/\d=[x,y])\/∃ x y z px py g k tp,tg=.Tuple [.Name x px,.Name y py,.Name z g] k tp/\d=[x,y,z]:=by
 unfold tgN at h;split at h
 .cases h;exact .inl ⟨_,_,rfl,rfl⟩
 .rename_i es k tp
  have nm:∀ {e:ay}{x:Str},nmE e=aa x->∃ p,e=.Name x p:=λ{e x} h=>by
   unfold nmE at h;split at h
   .cases h;exact⟨_,rfl⟩
   .exact Zb h
  cases es with
  |nil=>exact Zb h
  |cons a es=>cases es with
   |nil=>exact Zb h
   |cons b es=>cases es with
    |cons c es=>cases es with
     |cons _ _=>exact Zb h
     |nil=>
      refine X7 (P:=λd=>_\/_\/∃ x y z px py g i f,Expr.Tuple [a,b,c] k tp=.Tuple [.Name x px,.Name y py,.Name z g] i f/\d=[x,y,z]) h λx y z l j m=>?_
      obtain⟨px,rfl⟩:=nm l;obtain⟨py,rfl⟩:=nm j;obtain⟨g,rfl⟩:=nm m;exact .inr (.inr ⟨x,y,z,px,py,g,k,tp,rfl,rfl⟩)
    |nil=>
     refine Z6 (P:=λd=>_\/(∃ x y px py i f,Expr.Tuple [a,b] k tp=.Tuple [.Name x px,.Name y py] i f/\d=[x,y])\/_) h λx y l j=>?_
     obtain⟨px,rfl⟩:=nm l;obtain⟨py,rfl⟩:=nm j;exact .inr (.inl ⟨x,y,px,py,k,tp,rfl,rfl⟩)
 .exact Zb h
inductive CSh(G:Gs)(n:Nat)(sc:bg)(N:List Str)(elt:ay)(sc2:bg):List Comprehension->CE->Prop
 |mk {tg it:ay}{ifs:List ay}{xs:List Str}{fr:List Nat}{r:Option (Option Bool)}{ci ce cc:CE} (htg:tgN tg=aa xs) (hsc:XL sc sc2 xs=ac) (hfr:XW N (ZW sc2)=aa fr) (hi:itC G sc it (cE G n sc N) xs=aa (r,ci)) (hce:cE G n sc2 (xs++ZW sc2) elt=aa ce) (hcc:(ifs=[]/\cc=.c (.bl ac))\/∃ e,ifs=[e]/\cE G n sc2 (xs++ZW sc2) e=aa cc):CSh G n sc N elt sc2 [⟨tg,it,ifs,0⟩] (mkC xs.length r fr ci ce cc)
def ZeR{G:Gs}{c:CE}(h:cE G (n+1) sc N (.ListComp elt gens sc2 pos)=aa c):CSh G n sc N elt sc2 gens c:=by
 replace h:Zgl G sc sc2 N (cE G n sc N) (cE G n sc2) elt gens=aa c:=h;have no:∀ {P:Prop},(ab:Ot CE)=aa c->P:=λz=>nomatch z
 cases gens with
 |nil=>exact no h
 |cons g gs=>
  obtain⟨tg,it,ifs,k⟩:=g;cases k with
  |negSucc _=>cases gs<;>exact no h
  |ofNat m=>cases m with
   |succ _=>cases gs<;>exact no h
   |zero=>cases gs with
    |cons _ _=>exact no h
    |nil=>
     replace h:(match tgN tg with
      |none=>ab
      |some b=>og (XL sc sc2 b=ac) (o3 (λfr p (q:CE×CE)=>mkC b.length p.1 fr p.2 q.1 q.2) (XW N (ZW sc2)) (itC G sc it (cE G n sc N) b) (o2 Prod.mk (cE G n sc2 (b++ZW sc2) elt) (ifC (cE G n sc2 (b++ZW sc2)) ifs))))=aa c:=h
     cases d:tgN tg with
     |none=>rw[d]at h;cases h
     |some b=>
      rw[d]at h;refine X8 h λf h=>X7 (P:=CSh G n sc N elt sc2 _) h λfr p q i r o=>Z6 (P:=λq:CE×CE=>CSh G n sc N elt sc2 _ (mkC b.length p.1 fr p.2 q.1 q.2)) o λce cc j e=>.mk d f i r j ?_
      cases ifs with
      |nil=>cases e;exact .inl ⟨rfl,rfl⟩
      |cons a l=>cases l with
       |nil=>exact .inr ⟨a,rfl,e⟩
       |cons _ _=>exact Zb e
inductive CR(b:D->List (Option D))(w:D->Za->Option (List D×(Za->Prop)))(fr:List Nat)(fi fe fc:Ev)(U:Env)(st:Za):D->Za->Prop
 |mk {x:D}{st1 st2:Za}{ds ys:List D}{ok:Za->Prop} (q1:fi U st=aa (x,st1)) (q2:w x st1=aa (ds,ok)) (hz:ds.length<=1000) (q3:Z9 ok (λd s=>fe (ZP b U fr d) s) (λd s=>fc (ZP b U fr d) s) ds st1=aa (ys,st2)):CR b w fr fi fe fc U st (.lst st2.length) (st2++[(ac,ys)])
def Xf{b:D->Li (Ot D)}{w:D->Za->Ot (Li D×(Za->Prop))}{a c f:Ev}(e:Yj b w fr a c f U st=aa (d,st')):CR b w fr a c f U st d st':=by
 unfold Yj at e;split at e
 .split at e
  .split at e
   .split at e
    .cases e;exact .mk ‹_› ‹_› ‹_› ‹_›
    .exact Zb e
   .exact Zb e
  .exact Zb e
 .exact Zb e
inductive CIt(X:Cx)(pQ:List (Addr×Obj))(s:Shared)(O:L2.St)(U:Env)(tg it:ay)(xs:List Str)(F:Nat->Fn)(fr:List Nat)(ce cc:CE)(Q:VK):Prop
 |mk {bd:D->List (Option D)}{ds:List D}{ok:Za->Prop}{st1 st2:Za}{ys:List D} (B:Wd X.K tg xs bd ds) (hz:ds.length<=1000) (q3:Z9 ok (λd s=>ev F ce (ZP bd U fr d) s) (λd s=>ev F cc (ZP bd U fr d) s) ds st1=aa (ys,st2)) (hp:Zg it=ac) (pi:a0 (a6 X.prog X.w) X.A (eval it X.env) (λv s1=>a0 (a6 X.prog X.w) X.A (pyIter v) (PIE X pQ O tg (Zbp X O U ds ok st1 st2 ys Q)) X.xe s1) X.xe s):CIt X pQ s O U tg it xs F fr ce cc Q
def WO{f:α->β}{o:Ot α}{b:β}(h:o.map f=aa b):∃ a,o=aa a/\f a=b:=by
 cases o with
 |none=>exact Zb h
 |some a=>exact⟨a,rfl,by cases h;rfl⟩
variable{F:Nat->Fn}
def ZeP{G:Gs}(h:Zq G F n)(t:Cxt X G F sc N){j:Li Str}{r:Ot (Ot Bool)}{C:CE}(P:tgN tg=aa j)(g:itC G sc it (cE G n sc N) j=aa (r,C)){s:Sd}(I:L2.Inv X pQ O H s)(E:EnvOk X.K ad H O U)(S:StOk X.K ad H st)(e:ev F (mkC j.length r fr C ce cc) U st=aa (d,st'))(p:Post X.K ad H d st' Q):CIt X pQ s O U tg it j F fr ce cc Q:=by
 rcases ZbU P with⟨x,px,rfl,rfl⟩|⟨x,y,px,py,k,tp,rfl,rfl⟩|⟨x,y,z,px,py,pz,k,tp,rfl,rfl⟩
 .replace g:(match Z3 G sc it with
   |some a=>(cE G n sc N a).map λc=>(aa (aa ac),c)
   |none=>(cE G n sc N it).map λc=>(aa (aa ae),c))=aa (r,C):=g
  split at g
  .rename_i a W
   obtain⟨J,q,g⟩:=WO g;cases g;obtain⟨R,M⟩:=Vh (tg:=.Name x px) t W (Ze q) (h X sc N t a _ q).pe;cases Xf e with
   |@mk A st1 st2 ds ys ok i f o m=>
    refine .mk QE o m R (M pQ s O H _ I ?_);cases A with
    |int k=>
     have f:(match (if k < 2 ^ 62/\-(2 ^ 62)<=k then aa ((ag k.toNat).map λ(k:Nat)=>D.int (k:Int)) else ab) with
      |some j=>aa (j,λ_=>True)
      |none=>ab)=aa (ds,ok):=f
     by_cases T:k < 2 ^ 62/\-(2 ^ 62)<=k
     .rw[ao T]at f
      cases f;exact Zcv T E S i p
     .rw[aq T]at f
      cases f
    |_=>exact Zb f
  .obtain⟨J,q,g⟩:=WO g
   cases g;cases Xf e with
   |@mk A st1 st2 ds ys ok i f o m=>
    refine .mk QE o m (Ze q) ?_;cases A with
    |tup j=>cases f;exact pi_tup (h X sc N t it _ q).pe pQ s O H _ I (VO E S i p)
    |lst l=>
     have f:(match st1[l]? with
      |some c=>aa (c.2,λs=>s[l]?=aa c)
      |none=>ab)=aa (ds,ok):=f
     cases B:st1[l]? with
     |none=>rw[B]at f;cases f
     |some c0=>
      rw[B]at f;cases f;exact pi_list (h X sc N t it _ q).pe pQ s O H _ I (QH E S i B p)
    |str z=>exact Zb f
    |dct ks vs=>
     have no:∀ {v:V}{u:Li Ad}{L:Hp},Den X.K u L v (.dct ks vs)->False:=λ{v u L} Y=>by
      obtain⟨a,ws,_,_,hl,r⟩:=Y.ofDct;cases ks with
      |cons _ _=>exact Zb f
      |nil=>
       cases ws with
       |cons _ _=>cases hl
       |nil=>cases r;cases f
     exact thn ((h X sc N t it _ q).pe pQ s O H (λ_ _=>False) I ⟨ad,U,st,_,st1,E,S,i,λv u L x1 S1 Y=>no Y⟩) λv s1 ⟨x,L,I1,r1,z⟩=>z.elim
    |_=>exact Zb f
 .replace g:(match X3 G sc it with
   |some a=>(cE G n sc N a).map λc=>(aa ab,c)
   |none=>(cE G n sc N it).map λc=>(ab,c))=aa (r,C):=g
  split at g
  .rename_i a W
   obtain⟨J,q,g⟩:=WO g;cases g;cases Xf e with
   |mk i f o m=>
    obtain⟨R,M⟩:=VS (elts:=[.Name x px,.Name y py]) (kk:=k) (tp:=tp) t W (Ze q) (h X sc N t a _ q).pe;exact .mk (VG (ZbV f)) o m R (M pQ s O H _ I (ZbD E S i f p))
  .obtain⟨J,q,g⟩:=WO g
   cases g;cases Xf e with
   |mk i f o m=>
    obtain⟨hw,Z⟩:=ZbW f;rcases hw with⟨rfl,rfl⟩|⟨l,c0,rfl,B,rfl,rfl⟩
    .exact .mk (VG Z) o m (Ze q) (pi_tup (h X sc N t it _ q).pe pQ s O H _ I (VO E S i p))
    .exact .mk (VG Z) o m (Ze q) (pi_list (h X sc N t it _ q).pe pQ s O H _ I (QH E S i B p))
 .replace g:(match X3 G sc it with
   |some _=>ab
   |none=>(cE G n sc N it).map λc=>(ab,c))=aa (r,C):=g
  split at g
  .exact Zb g
  .obtain⟨J,q,g⟩:=WO g
   cases g;cases Xf (b:=Zbf) (w:=Zem) e with
   |@mk A st1 st2 ds ys ok i f o m=>
    cases A with
    |tup j=>
     have f:(if j.all Zhu=ac then aa (j,λ(_:Za)=>True) else ab)=aa (ds,ok):=f
     split at f
     .rename_i ht
      cases f;exact .mk (Jz λd hd=>by
       have:=cT.mp ht d hd;unfold Zhu at this;split at this
       .exact⟨_,_,_,rfl⟩
       .cases this) o m (Ze q) (pi_tup (h X sc N t it _ q).pe pQ s O H _ I (VO E S i p))
     .exact Zb f
    |_=>exact Zb f
def Zas{G:Gs}(b:Zq G F n)(t:Cxt X G F sc N){c:CE}(h:cE G (n+1) sc N (.ListComp elt gens sc2 pos)=aa c){s:Sd}(I:L2.Inv X pQ O H s)(Y:tE X.K (ev F c) O H Q)(g:∀ C dd i u M,i.heap.Ns C M->(∀ h',Heap.SameBut C i.heap h'->L2.Inv X pQ O u { i with heap:=h' })->FpOk X pQ u C->Q (.ref dd) u->compPost (a6 X.prog X.w) X.A X.xe use R0 (.ref dd) C (.ok .next) i) :
  ∃ tg it ifs,gens=[⟨tg,it,ifs,0⟩]/\∀ a,a0 (a6 X.prog X.w) X.A (comprehension (.ListComp elt [⟨tg,it,ifs,0⟩] sc2 pos) sc2 X.env a (newList []) ae (eval it X.env) use) R0 X.xe s:=by
 cases ZeR h with
 |@mk tg it ifs xs fr r ci ce cc j f k hi l m=>
  obtain⟨h1,h2,h3,h4,h5,h6⟩:=YD f;obtain⟨ad,U,st,d,st',E,S,e,p⟩:=Y;obtain⟨cl,ec,c1,c2⟩:=QI (env:=X.env) (sc:=sc2) (λy W hf=>by
   have hm:(y.1,NameKind.free)∈sc2.names:=by rw[<-hf];exact W
   exact I.ok.has y.1 (t.cel y.1 (h6 y.1 (mem_frees.mpr hm)).1))
  refine⟨tg,it,ifs,rfl,λa=>?_⟩
  cases ZeP b t j hi I E S e p with
  |mk B V D Z L=>
   refine wpAny_comprehension_free (use:=use) rfl (ZU Z) ec h1 h4 (thn L λv s1 q=>thn q λP s2 o=>?_)
   obtain⟨R,fp,tn,J,H2,rfl,I2,T,z,f2,ad1,Good,gm,gw,go,stop,x,E2,S2,g2,p2⟩:=o;exact ZbH t b f k l m c1 c2 Good gm gw go stop x I2 B T z f2 E2 S2 g2 D V p2 g
def ZeQ{G:Gs}:XB G F:=by
 intro n f;refine⟨λX sc N R elt gens sc2 pos c h=>SE.of ?_,λX sc N K y i p elt gens sc2 j pos c E h r=>?_⟩
 .intro pQ s O H Q I g
  obtain⟨tg,it,ifs,rfl,go⟩:=Zas f R h I g (use:=ab) (R0:=EP X pQ O Q) λC dd l x m t u _ q=>⟨m,t,λh' sb=>⟨.ref dd,x,u h' sb,rfl,q⟩⟩
  rw[eval_ListComp];exact go _
 .intro pQ s O H D I g
  obtain⟨tg,it,ifs,rfl,go⟩:=Zas f K.toCxt h I g (use:=aa (assign (.Name y p) X.env)) (R0:=λ_ B=>SP X pQ D .next B) λC dd l x m t u d q=>by
   have T:=u l.heap (Heap.SameBut.refl _ _);show a0 _ X.A (assign (.Name y p) X.env (.ref dd)) _ _ l;refine wpAny_assign_Name (store_ok2 (v:=.ref dd) T (by rw[K.hN];exact K.nd) (by rw[K.hN];exact Ws E) (K.loc _ (U6 E)) rfl (λJ S ⟨a,sb,P⟩=>?_) (.inl (K.fn _)))
   have L:C≠a:=by
    rcases P with z|z
    .rw[z];exact d.2.1
    .exact λw=>d.2.2.2.2.1 _ _ z w.symm
   exact⟨m,t.sameBut sb L,λU k=>⟨_,x,S.turned (t':=J.toks) (λb o M e=>k.extBut b o M e) d.1 d.2.1 d.2.2.2.1 d.2.2.2.2.1 d.2.2.2.2.2,q⟩⟩
  rw[exec_Assign_Name_used _ _ _ _ r];refine aA (wpAny_standAt (aA ?_));show a0 _ X.A (do let _ <-comprehension (.ListComp elt [⟨tg,it,ifs,0⟩] sc2 j) sc2 X.env _ (newList []) ae (eval it X.env) (aa (assign (.Name y p) X.env))) _ _ s
  exact aA (bH (go _) (λ_ B g=>aE (aE g)) λ_ _ e=>e)
variable [ClsTab]
def Zkr{α:Type}:∀ {us:Li α},us.length=0->us=[]
 |[],_=>rfl
def Zji{α:Type}:∀ {us:Li α},us.length=1->∃ a,us=[a]
 |[a],_=>⟨a,rfl⟩
def Zjk{α:Type}:∀ {us:Li α},us.length=2->∃ a b,us=[a,b]
 |[a,b],_=>⟨a,b,rfl⟩
def Zfl{α:Type}:∀ {us:Li α},us.length=3->∃ a b c,us=[a,b,c]
 |[a,b,c],_=>⟨a,b,c,rfl⟩
def Zhy{α:Type}:∀ {us:Li α},us.length=4->∃ a b c d,us=[a,b,c,d]
 |[a,b,c,d],_=>⟨a,b,c,d,rfl⟩
def Zks{α:Type}:∀ {us:Li α},us.length=5->∃ a b c d e,us=[a,b,c,d,e]
 |[a,b,c,d,e],_=>⟨a,b,c,d,e,rfl⟩
def Zkt{α:Type}:∀ {us:Li α},us.length=6->∃ a b c d e f,us=[a,b,c,d,e,f]
 |[a,b,c,d,e,f],_=>⟨a,b,c,d,e,f,rfl⟩
def We(K:Fg)(G:Gs)(T:Nat->Ot FD)(C:Ad):Li (Str×Nat×Nat)->Prop
 |[]=>True
 | (m,j,_) :: r=>(∃ y f fd pn N,MethOk K G T C m y j f fd pn N)/\We K G T C r
def Wg(K:Fg)(B:Ad):Li Nat->Prop
 |[]=>True
 |i :: r=>SubOk K (ClsTab.ca i) B/\Wg K B r
def Xz(a:Params)(K:Fg)(mg:Str->Ot vL)(G:Gs)(T:Nat->Ot FD):Gs->Prop
 |[]=>True
 | (x,.c d) :: r=>(∃ v u,mg x=aa u/\RelV v u/\∀ ad H,Den K ad H v d)/\Xz a K mg G T r
 | (x,.blt) :: r=>mg x=ab/\Xz a K mg G T r
 | (x,.dct ks ds) :: r=>Zal a K mg x ks ds/\Xz a K mg G T r
 | (x,.fn i _ ds) :: r=>(∃ f fd pn N,DefOk K mg G T x i ds f fd pn N)/\Xz a K mg G T r
 | (x,.cls i ms subs) :: r=>((mg x=aa (.ref (ClsTab.ca i))/\NewOk K (ClsTab.ca i)/\Wg K (ClsTab.ca i) subs)/\We K G T (ClsTab.ca i) ms)/\Xz a K mg G T r
def Zg0(a:Params)(K:Fg)(mg:Str->Ot vL)(G:Gs)(T:Nat->Ot FD)(x:Str):GV->Prop
 |.c d=>∃ v u,mg x=aa u/\RelV v u/\∀ ad H,Den K ad H v d
 |.blt=>mg x=ab
 |.dct ks ds=>Zal a K mg x ks ds
 |.fn i _ ds=>∃ f fd pn N,DefOk K mg G T x i ds f fd pn N
 |.cls i ms subs=>(mg x=aa (.ref (ClsTab.ca i))/\NewOk K (ClsTab.ca i)/\Wg K (ClsTab.ca i) subs)/\We K G T (ClsTab.ca i) ms
theorem Xg{b:Params}:∀ {l:Gs}{x:Str}{g:GV},Xz b K mg G T l->l.lookup x=aa g->Zg0 b K mg G T x g
 |[],_,_,_,h=>by cases h
 | (y,v) :: r,x,g,a,h=>by
  have tl:Xz b K mg G T r/\Zg0 b K mg G T y v:=by
   cases v with
   |c d=>exact⟨a.2,a.1⟩
   |blt=>exact⟨a.2,a.1⟩
   |dct ks ds=>exact⟨a.2,a.1⟩
   |fn i f ds=>exact⟨a.2,a.1⟩
   |cls i ms subs=>exact⟨a.2,a.1⟩
  rw[cH]at h;cases e:x==y with
  |true=>
   rw[e]at h;cases h;rw[beq_iff_eq.mp e];exact tl.2
  |false=>
   rw[e]at h;exact Xg tl.1 h
theorem Zbd{B:Ad}:∀ {l:Li Nat},Wg K B l->∀ i,l.contains i=ac->SubOk K (ClsTab.ca i) B
 |[],_,_,h=>by cases h
 |j :: r,a,i,h=>by
  rw[List.contains_cons,cB]at h;rcases h with h|h
  .rw[beq_iff_eq.mp h];exact a.1
  .exact Zbd a.2 i h
theorem Ja{C:Ad}:∀ {l:Li (Str×Nat×Nat)},We K G T C l->∀ m j b,l.lookup m=aa (j,b)->∃ y f fd pn N,MethOk K G T C m y j f fd pn N
 |[],_,_,_,_,h=>by cases h
 | (d,g,c) :: r,a,m,j,b,h=>by
  rw[cH]at h;cases e:m==d with
  |true=>
   rw[e]at h;cases h;rw[beq_iff_eq.mp e];exact a.1
  |false=>
   rw[e]at h;exact Ja a.2 m j b h
def Zf5{a:Params}(h:Xz a K mg G T G):Text a K mg G T:=
 ⟨λ_ _ e=>Xg h e,λ_ e=>Xg h e,λ_ _ _ e=>Xg h e,λ_ _ _ _ e=>Xg h e,λx i ms subs e=>by
  have g:Zg0 a K mg G T x (.cls i ms subs):=Xg h e;exact⟨⟨g.1.1,g.1.2.1,Zbd g.1.2.2⟩,Ja g.2⟩⟩
def Zhi(a:∀ n,XB G (run T n))(X:Text w.params K mg G T)(n:Nat){x:Str}{f:Ad}{fd:bh}(b:DefOk K mg G T x i ds f fd pn N):FnOk P w K mg base CX0 n f fd pn (spD K (run T n i)):=Zg5 a X n b.ob
def Zir{a:Ad}{f:Li Int}(r:Only H)(u:SqL K H a (f.map V.int))(h:∃ st',run T n i [.lst 0] [(ae,f.map .int)]=aa (.bl ac,st')):spD K (run T n i) [.ref a] H (λv _=>v=.bl ac) λ_ _ _=>False:=by
 obtain⟨st',e⟩:=h;have ds:∀ f:Li Int,Dens K [a] H (f.map V.int) (f.map D.int):=λf=>by
  induction f with
  |nil=>exact .nil
  |cons n l t=>exact .cons (.int n) t
 have p:¬Ys H a:=λ⟨kvs,q⟩=>by
  rcases r a with z|⟨o,s,z⟩<;>(rw[q]at z;cases z)
 refine⟨[a],[.lst 0],[(ae,f.map .int)],.bl ac,st',⟨rfl,λi j b c d _ _ k _=>?_,λi c g=>?_⟩,.cons (.lst ⟨rfl,p⟩) .nil,e,λv ad' H' x S h=>h.ofBl⟩
 .cases i with
  |zero=>simp at k
  |succ i=>simp at k
 .cases i with
  |succ i=>simp at g
  |zero=>
   have g:(ae,f.map D.int)=c:=by simpa using g
   subst g;refine⟨a,rfl,.l p (ds f) (.inr ⟨rfl,?_⟩)⟩;rcases u with(h|⟨o,h⟩)|⟨o,m,n,C,B,k,A,y,w⟩
   .rcases r a with z|⟨o,s,z⟩
    .rw[h]at z;cases z
    .rw[h]at z;cases z
   .exact .inl ⟨o,h⟩
   .exact .inr ⟨o,m,n,⟨C,B⟩,⟨k,A⟩,y,w⟩
abbrev fnS(x y:Str)(s:Stmt)(c kV b a:vL)(e:Ot Ad)(d ct:vL):bh:=W.fnOf x y (defArgs s) (defBody s) (defScope s) c kV b a e d ct
inductive FnAt(K:Fg)(x:Str)(s:Stmt):Prop
 |mk {f:Addr}{oc kV dc pm cd ct:Value}{od an:Option Addr}{sl:Array (Option Value)} (a:W.nsIn K az x=aa (aa (.ref f))) (l:K.lookup f=aa ⟨oc,od,.func (W.fnOf x x (defArgs s) (defBody s) (defScope s) .none kV dc pm an cd ct),sl⟩) (e:W.codeIn K cd x=ac) (k:W.keepIn K (.ref f)=ac):FnAt K x s
inductive FnAtE(K:Fg)(x:Str)(s:Stmt)(v:Int):Prop
 |mk {f E:Addr}{eo:Obj}{en:Nat}{et:Tok}{oc kV dc pm cd ct:Value}{od an:Option Addr}{sl:Array (Option Value)} (a:W.nsIn K az x=aa (aa (.ref f))) (l:K.lookup f=aa ⟨oc,od,.func (W.fnOf x x (defArgs s) (defBody s) (defScope s) (.ref E) kV dc pm an cd ct),sl⟩) (e:W.codeIn K cd x=ac) (k:W.keepIn K (.ref f)=ac) (d:K.lookup E=aa eo) (g:eo.data=.seq #[.int v et] en):FnAtE K x s v
inductive MtAt(K:Fg)(C:Addr)(x y:Str)(s:Stmt):Prop
 |mk {f:Addr}{oc kV dc pm cd ct:Value}{od an:Option Addr}{sl:Array (Option Value)} (m:W.findIn K (.ref C) x=aa (aa (.ref f))) (l:K.lookup f=aa ⟨oc,od,.func (W.fnOf x y (defArgs s) (defBody s) (defScope s) .none kV dc pm an cd ct),sl⟩) (e:W.codeIn K cd y=ac) (k:W.keepIn K (.ref f)=ac) (i:W.isFn K (.ref f)=ac):MtAt K C x y s
structure ClsAt(K:Fg)(x:Str)(C:Addr):Prop where
 ya:W.nsIn K az x=aa (aa (.ref C))
 yb:W.makesIn K C=ac
 yc:W.findIn K (.ref C) "__init__"=aa (aa (.builtin "object.__init__"))
 yd:W.keepIn K (.ref C)=ac
 ye:W.plainGet K C Str.empty=ac
 yf:W.hasDictIn K C=ac
 yg:W.plainOver K C=ac
 yh:W.findIn K (.ref C) "__setattr__"=aa (aa (.builtin "object.__setattr__"))
 yi:W.findIn K (.ref C) "__class__"=aa (aa (.builtin "object.__class__"))
 yj:W.mroIn K C (.type "object")=aa ac
 yk:W.specialIn K (.builtin "object.__class__") "__get__"=aa (aa (.builtin "getset_descriptor.__get__"))
 yl:W.takesIn K (.builtin "object.__class__")=aa ac
abbrev Zbq(G:Gs)(s:Stmt)(N a:Li Str)(c:CS):Prop:=FnScope N a (defScope s)/\(∀ y∈N,L2.Loc (defScope s) y)/\cSs G 60 (defScope s) N (defBody s)=aa c
variable{ps:Li Str}
section
variable{fd:bh}
def bd1(b:ps.length=1)(h:∀ a,bindArgs fd ⟨[a],[]⟩=pure (ps.zip [a])):Binds K fd ps []:=.all λc e=>by obtain⟨_,rfl⟩:=Zji (e.trans b);exact h _
def bd2(c:ps.length=2)(h:∀ a b,bindArgs fd ⟨[a,b],[]⟩=pure (ps.zip [a,b])):Binds K fd ps []:=.all λd e=>by obtain⟨_,_,rfl⟩:=Zjk (e.trans c);exact h _ _
def bd3(d:ps.length=3)(h:∀ a b c,bindArgs fd ⟨[a,b,c],[]⟩=pure (ps.zip [a,b,c])):Binds K fd ps []:=.all λf e=>by obtain⟨_,_,_,rfl⟩:=Zfl (e.trans d);exact h _ _ _
def bd4(f:ps.length=4)(h:∀ a b c d,bindArgs fd ⟨[a,b,c,d],[]⟩=pure (ps.zip [a,b,c,d])):Binds K fd ps []:=.all λg e=>by obtain⟨_,_,_,_,rfl⟩:=Zhy (e.trans f);exact h _ _ _ _
def bd5(f:ps.length=5)(h:∀ a b c d k,bindArgs fd ⟨[a,b,c,d,k],[]⟩=pure (ps.zip [a,b,c,d,k])):Binds K fd ps []:=.all λg e=>by obtain⟨_,_,_,_,_,rfl⟩:=Zks (e.trans f);exact h _ _ _ _ _
def bd6(f:ps.length=6)(h:∀ a b c d k l,bindArgs fd ⟨[a,b,c,d,k,l],[]⟩=pure (ps.zip [a,b,c,d,k,l])):Binds K fd ps []:=.all λg e=>by obtain⟨_,_,_,_,_,_,rfl⟩:=Zkt (e.trans f);exact h _ _ _ _ _ _
def bd0(a:ps.length=0)(h:bindArgs fd ⟨[],[]⟩=pure []):Binds K fd ps []:=.all λb e=>by rw[Zkr (e.trans a),List.zip_nil_right];exact h
end
variable{h:bj}{i:Nat}
section
variable{Pm:Params}{x y:Str}{p:Nat}{s:Stmt}{c:CS}{r:Gs}
def gD(X:K.In h)(o:h.Ns az mg)(F:FnAt K x s)(q:Zbq G s N ps c)(f:T i=aa ⟨ps.length,N.length,c⟩)(t:Xz Pm K mg G T r)(d:∀ kV g b n j ct,Binds K (fnS x x s .none kV g b n j ct) ps []:=by intros;(first|refine bd0 rfl ?_|refine bd1 rfl ?_|refine bd2 rfl ?_|refine bd3 rfl ?_|refine bd4 rfl ?_|refine bd5 rfl ?_|refine bd6 rfl ?_);intros;rfl):Xz Pm K mg G T ((x,.fn i p []) :: r):=by
 cases F with
 |mk a l e k=>exact⟨⟨_,_,ps,N,.inl ⟨s,_,_,_,_,_,_,_,_,_,_,c,rfl,l,e,q.1,q.2.1,q.2.2,f⟩,k,W.mg_of X o a,λm u=>⟨[],[],λ_ _=>by rw[List.drop_nil];exact .nil,.nil,d _ _ _ _ _ _⟩⟩,t⟩
def gE{v:Int}(X:K.In h)(B:h.Ns az mg)(F:FnAtE K x s v)(q:Zbq G s N ps c)(z:T i=aa ⟨ps.length,N.length,c⟩)(f:∀ E kV o b w u ct n j A,K.lookup E=aa n->n.data=.seq #[.int v j] A->Binds K (fnS x x s (.ref E) kV o b w u ct) ps []/\Binds K (fnS x x s (.ref E) kV o b w u ct) ps [.int v j])(t:Xz Pm K mg G T r):Xz Pm K mg G T ((x,.fn i p [.int v]) :: r):=by
 cases F with
 |mk a l e k d g=>
  refine⟨⟨_,_,ps,N,.inl ⟨s,_,_,_,_,_,_,_,_,_,_,c,rfl,l,e,q.1,q.2.1,q.2.2,z⟩,k,W.mg_of X B a,λm y=>?_⟩,t⟩
  match m,y with
  |0,_=>exact⟨[.int v],[.int v _],λ_ _=>.cons (.int _) .nil,.cons ⟨_,rfl⟩ .nil,(f _ _ _ _ _ _ _ _ _ _ d g).2⟩
  |1,_=>exact⟨[],[],λ_ _=>.nil,.nil,(f _ _ _ _ _ _ _ _ _ _ d g).1⟩
def gM{C:Ad}{r:Li (Str×Nat×Nat)}(F:MtAt K C x y s)(q:Zbq G s N ps c)(d:T i=aa ⟨ps.length,N.length,c⟩)(t:We K G T C r)(b:∀ kV f a h g ct,Binds K (fnS x y s .none kV f a h g ct) ps []:=by intros;(first|refine bd0 rfl ?_|refine bd1 rfl ?_|refine bd2 rfl ?_|refine bd3 rfl ?_|refine bd4 rfl ?_|refine bd5 rfl ?_|refine bd6 rfl ?_);intros;rfl):We K G T C ((x,i,p) :: r):=by
 cases F with
 |mk m l e k j=>exact⟨⟨y,_,_,ps,N,⟨s,_,_,_,_,_,_,_,_,_,_,c,rfl,l,e,q.1,q.2.1,q.2.2,d⟩,⟨m,j,k⟩,b _ _ _ _ _ _⟩,t⟩
def gS{C B:Ad}{l:Li Nat}(a:ClsTab.ca i=C)(F:ClsAt K x C)(m:W.kitOne K (.ref C) (.ref B)=aa ac)(t:Wg K B l):Wg K B (i :: l):=by
 subst a;exact⟨⟨⟨F.ye,F.yf,F.yg,F.yh⟩,F.yi,F.yk,F.yl,F.yj,m⟩,t⟩
def gC{C:Ad}(X:K.In h)(d:h.Ns az mg)(c:ClsTab.ca i=C)(F:ClsAt K x C)(a:Wg K C subs)(b:We K G T C ms)(t:Xz Pm K mg G T r):Xz Pm K mg G T ((x,.cls i ms subs) :: r):=by
 subst c;exact⟨⟨⟨W.mg_of X d F.ya,⟨F.yb,F.yc,F.yd,⟨F.ye,F.yf,F.yg,F.yh⟩⟩,a⟩,b⟩,t⟩
def gB(X:K.In h)(a:h.Ns az mg)(z:W.nsIn K az x=aa ab)(t:Xz Pm K mg G T r):Xz Pm K mg G T ((x,.blt) :: r):=⟨W.mg_none_of X a z,t⟩
def gI{v:Int}{k:Tok}(X:K.In h)(a:h.Ns az mg)(g:W.nsIn K az x=aa (aa (.int v k)))(t:Xz Pm K mg G T r):Xz Pm K mg G T ((x,.c (.int v)) :: r):=⟨⟨.int v,_,W.mg_of X a g,⟨_,rfl⟩,λ_ _=>.int _⟩,t⟩
def gL{fa:Ad}{z:Str}(X:K.In h)(j:h.Ns az mg)(b:mg x=aa (.ref fa))(F:FnAt K x s)(q:Zbq G s N [z] c)(p:T i=aa ⟨1,N.length,c⟩)(g:∀ kV r n v t ct u,bindArgs (fnS x x s .none kV r n v t ct) ⟨[u],[]⟩=pure [(z,u)]):∃ (fd:bh) (N:Li Str),(∀ (s:Sd) (u:vL),BindsTo s fd ⟨[u],[]⟩ [(z,u)])/\DefOk K mg G T x i [] fa fd [z] N:=by
 cases F with
 |@mk f _ _ _ _ _ _ _ _ _ a l e k=>
  have d:=b.symm.trans (W.mg_of X j a);have d:fa=f:=by cases d;rfl
  rw[d];exact⟨_,N,λ_ u=>.of_eq (g _ _ _ _ _ _ u),.inl ⟨s,_,_,_,_,_,_,_,_,_,_,c,rfl,l,e,q.1,q.2.1,q.2.2,p⟩,k,W.mg_of X j a,λm y=>⟨[],[],λ_ _=>by rw[List.drop_nil];exact .nil,.nil,.all λw o=>by obtain⟨u,rfl⟩:=Zji o;exact g _ _ _ _ _ _ u⟩⟩
end
omit [ClsTab] in
def ZbS{l:W.OpenLaw}{q:a7}{e:Li Str}{V:(Str->Ot vL)->bj->Prop}{r:bm->bj->Prop}{d:DefRec}{K:Params->Fg}{G:Gs}{T:Nat->Ot FD}{n i:Nat}{x:Str}(y:l.most=aa 63)(o:d.params.defaults=[])(v:Room n callerA)(I:∀ (w:bm) (h:bj),r w h->(K w.params).In h)(C:∀ [ClsTab] n,XB G (run T n))(F:∀ (w:bm) (mg:Str->Ot vL) (fa:Ad) (h:bj),(K w.params).In h->h.Ns az mg->mg d.name=aa (.ref fa)->
   ∃ _:ClsTab,Text w.params (K w.params) mg G T/\∃ (fd:bh) (N:Li Str),(∀ (s:Sd) (u:vL),BindsTo s fd ⟨[u],[]⟩ [(x,u)])/\DefOk (K w.params) mg G T d.name i [] fa fd [x] N)(L:∀ j:Li Int,j.length<=63->∃ st',run T n i [.lst 0] [(ae,j.map .int)]=aa (.bl ac,st')) :
  W.WalkO q e V r l.row.toRowW d [] (λf vs=>PySem.call f vs):=
 L2.walk_of (n:=63) (k:=n) (x:=x) (CX:=λ_=>CX0) (sp:=λw vs H Q E=>∀ c:ClsTab,@spD c (K w.params) (run T n i) vs H Q E) y (by decide) o v I
  (λw mg fa h KX Y m=>by
   obtain⟨c,X,fd,N,D,Z⟩:=F w mg fa h KX Y m;refine⟨fd,D,λbase _ _=>?_⟩
   have p:=Zhi (P:=l.prog) (w:=w) (base:=base) (λn=>C n) X n Z
   exact⟨λvs H Q E z=>p.len vs H Q E (z c),λA b s H g t vs Q E U S R O z=>p.run A b s H g t vs Q E U S R O (z c)⟩)
  (λw H a j B M J c=>Zir M J (L j B)) λ_ _ _ _ _ z=>z
end Dp
namespace Dp
open PySem
noncomputable def Wp:FD:=⟨3,3,(.seq (.ret (.bin .Add (.bin .Add (.slice (.v 0) .nop (.part (.v 1))) (.tupE (.aC (.v 2) .aN))) (.slice (.v 0) (.part (.bin .Add (.v 1) (.c (.int 1)))) .nop)))
 .skip)⟩
def Z5:FD:=⟨1,1,(.seq (.ret (.look [(S "put"),(S "if"),(S "tell"),(S "go"),(S "skip")] [(.tup [(.int 2),(.int 4)]),(.tup [(.int 1),(.int 3)]),(.tup [(.int 1)]),(.tup []),(.tup [])] (.ix (.v 0) (.c (.int 0)))))
 .skip)⟩
noncomputable def Wh:CS:=(.seq (.set 1 (.bin .Mult (.v 1) (.c (.int 2))))
 .skip)
def VJ:FD:=⟨1,3,(.seq (.set 1 (.c (.int 1)))
 (.seq (.for1 2 ac (.v 0) Wh)
 (.seq (.ret (.v 1))
 .skip)))⟩
noncomputable def Wn:FD:=⟨1,1,(.seq (.ret (.bin .Sub (.call 43 (.aC (.v 0) .aN) []) (.c (.int 1))))
 .skip)⟩
noncomputable def WY:FD:=⟨2,2,(.seq (.ret (.cmp .NotEq (.bin .BitAnd (.v 0) (.call 43 (.aC (.v 1) .aN) [])) (.c (.int 0))))
 .skip)⟩
noncomputable def Y8:FD:=⟨2,2,(.seq (.ret (.bin .BitAnd (.v 0) (.inv (.call 43 (.aC (.v 1) .aN) []))))
 .skip)⟩
noncomputable def VH:FD:=⟨1,1,(.seq (.ret (.bin .Sub (.bin .Mod (.bin .Add (.v 0) (.c (.int 1000000000))) (.c (.int 2000000000))) (.c (.int 1000000000))))
 .skip)⟩
noncomputable def X1:FD:=⟨2,2,(.seq (.ite (.cmp .Eq (.v 1) (.c (.int 0))) (.seq (.ret (.c (.int 0)))
 .skip) .skip)
 (.seq (.ret (.call 0 (.aC (.bin .FloorDiv (.v 0) (.v 1)) .aN) []))
 .skip))⟩
noncomputable def YW:FD:=⟨2,2,(.seq (.ite (.cmp .Eq (.v 1) (.c (.int 0))) (.seq (.ret (.v 0))
 .skip) .skip)
 (.seq (.ret (.bin .Sub (.v 0) (.bin .Mult (.v 1) (.bin .FloorDiv (.v 0) (.v 1)))))
 .skip))⟩
def VM:FD:=⟨3,3,(.seq (.ite (.cmp .Eq (.v 1) (.c (.str (S "+")))) (.seq (.ret (.call 0 (.aC (.bin .Add (.v 0) (.v 2)) .aN) []))
 .skip) .skip)
 (.seq (.ite (.cmp .Eq (.v 1) (.c (.str (S "-")))) (.seq (.ret (.call 0 (.aC (.bin .Sub (.v 0) (.v 2)) .aN) []))
 .skip) .skip)
 (.seq (.ite (.cmp .Eq (.v 1) (.c (.str (S "*")))) (.seq (.ret (.call 0 (.aC (.bin .Mult (.v 0) (.v 2)) .aN) []))
 .skip) .skip)
 (.seq (.ite (.cmp .Eq (.v 1) (.c (.str (S "/")))) (.seq (.ret (.call 1 (.aC (.v 0) (.aC (.v 2) .aN)) []))
 .skip) .skip)
 (.seq (.ret (.call 2 (.aC (.v 0) (.aC (.v 2) .aN)) []))
 .skip)))))⟩
def UX:FD:=⟨3,3,(.seq (.ite (.cmp .Eq (.v 1) (.c (.str (S "<")))) (.seq (.ret (.cmp .Lt (.v 0) (.v 2)))
 .skip) .skip)
 (.seq (.ite (.cmp .Eq (.v 1) (.c (.str (S "<=")))) (.seq (.ret (.cmp .LtE (.v 0) (.v 2)))
 .skip) .skip)
 (.seq (.ite (.cmp .Eq (.v 1) (.c (.str (S "=")))) (.seq (.ret (.cmp .Eq (.v 0) (.v 2)))
 .skip) .skip)
 (.seq (.ite (.cmp .Eq (.v 1) (.c (.str (S ">=")))) (.seq (.ret (.cmp .GtE (.v 0) (.v 2)))
 .skip) .skip)
 (.seq (.ite (.cmp .Eq (.v 1) (.c (.str (S ">")))) (.seq (.ret (.cmp .Gt (.v 0) (.v 2)))
 .skip) .skip)
 (.seq (.ret (.cmp .NotEq (.v 0) (.v 2)))
 .skip))))))⟩
noncomputable def Wz:FD:=⟨2,2,(.seq (.ret (.ix (.v 0) (.bin .Mod (.bin .Add (.tix (.v 0) (.aC (.v 1) .aN)) (.c (.int 1))) (.len (.v 0)))))
 .skip)⟩
def Va:FD:=⟨1,1,(.seq (.ret (.c (.str (S "none"))))
 .skip)⟩
noncomputable def Wa:FD:=⟨3,3,(.seq (.ret (.tupE .aN))
 .skip)⟩
def XE:FD:=⟨1,1,(.seq (.ret (.c (.str (S "sign"))))
 .skip)⟩
def ZI:FD:=⟨3,3,(.seq (.ite (.cmp .Eq (.ix (.v 1) (.c (.int 0))) (.c (.str (S "put")))) (.seq (.ret (.tupE (.aC (.call 42 (.aC (.v 1) (.aC (.c (.int 3)) (.aC (.call 70 (.aC (.c (.kt [(S "+"),(S "-"),(S "*"),(S "/"),(S "mod")])) (.aC (.ix (.v 1) (.c (.int 3))) .aN)) []) .aN))) []) .aN)))
 .skip) .skip)
 (.seq (.ite (.cmp .Eq (.ix (.v 1) (.c (.int 0))) (.c (.str (S "if")))) (.seq (.ret (.tupE (.aC (.call 42 (.aC (.v 1) (.aC (.c (.int 2)) (.aC (.call 70 (.aC (.c (.kt [(S "<"),(S "<="),(S "="),(S ">="),(S ">"),(S "!=")])) (.aC (.ix (.v 1) (.c (.int 2))) .aN)) []) .aN))) []) .aN)))
 .skip) .skip)
 (.seq (.ret (.tupE .aN))
 .skip)))⟩
def XD:FD:=⟨1,1,(.seq (.ret (.c (.str (S "more"))))
 .skip)⟩
def Yt:CS:=(.seq (.ite (.cmp .Eq (.ix (.ix (.v 1) (.v 4)) (.c (.int 0))) (.c (.str (S "number")))) (.seq (.app 3 (.call 42 (.aC (.v 1) (.aC (.v 4) (.aC (.tupE (.aC (.c (.str (S "number"))) (.aC (.call 0 (.aC (.bin .Add (.ix (.ix (.v 1) (.v 4)) (.c (.int 1))) (.c (.int 1))) .aN) []) .aN))) .aN))) []))
 .skip) .skip)
 .skip)
def Y2:FD:=⟨3,5,(.seq (.set 3 (.lstE .aN))
 (.seq (.for1 4 ae (.call 113 (.aC (.v 1) .aN) []) Yt)
 (.seq (.ret (.tOf (.v 3)))
 .skip)))⟩
def XG:FD:=⟨1,1,(.seq (.ret (.c (.str (S "turn"))))
 .skip)⟩
def ZK:FD:=⟨3,3,(.seq (.ite (.cmp .NotEq (.ix (.v 1) (.c (.int 0))) (.c (.str (S "if")))) (.seq (.ret (.tupE .aN))
 .skip) .skip)
 (.seq (.ret (.tupE (.aC (.call 42 (.aC (.v 1) (.aC (.c (.int 2)) (.aC (.look [(S "<"),(S ">="),(S "<="),(S ">"),(S "="),(S "!=")] [(.str (S ">=")),(.str (S "<")),(.str (S ">")),(.str (S "<=")),(.str (S "!=")),(.str (S "="))] (.ix (.v 1) (.c (.int 2)))) .aN))) []) .aN)))
 .skip))⟩
def Wj:FD:=⟨1,1,(.seq (.ret (.c (.str (S "out"))))
 .skip)⟩
def ZT:FD:=⟨3,3,(.seq (.ite (.cmp .Eq (.ix (.v 1) (.c (.int 0))) (.c (.str (S "skip")))) (.seq (.ret (.tupE .aN))
 .skip) .skip)
 (.seq (.ret (.tupE (.aC (.tupE (.aC (.c (.str (S "skip"))) .aN)) .aN)))
 .skip))⟩
def XF:FD:=⟨1,1,(.seq (.ret (.c (.str (S "swap"))))
 .skip)⟩
def ZJ:FD:=⟨3,3,(.seq (.ite (.and (.cmp .Eq (.ix (.v 1) (.c (.int 0))) (.c (.str (S "put")))) (.cmp .NotEq (.ix (.v 1) (.c (.int 2))) (.ix (.v 1) (.c (.int 4))))) (.seq (.ret (.tupE (.aC (.tupE (.aC (.c (.str (S "put"))) (.aC (.ix (.v 1) (.c (.int 1))) (.aC (.ix (.v 1) (.c (.int 4))) (.aC (.ix (.v 1) (.c (.int 3))) (.aC (.ix (.v 1) (.c (.int 2))) .aN)))))) .aN)))
 .skip) .skip)
 (.seq (.ite (.and (.cmp .Eq (.ix (.v 1) (.c (.int 0))) (.c (.str (S "if")))) (.cmp .NotEq (.ix (.v 1) (.c (.int 1))) (.ix (.v 1) (.c (.int 3))))) (.seq (.ret (.tupE (.aC (.tupE (.aC (.c (.str (S "if"))) (.aC (.ix (.v 1) (.c (.int 3))) (.aC (.ix (.v 1) (.c (.int 2))) (.aC (.ix (.v 1) (.c (.int 1))) (.aC (.ix (.v 1) (.c (.int 4))) .aN)))))) .aN)))
 .skip) .skip)
 (.seq (.ret (.tupE .aN))
 .skip)))⟩
def Wi:FD:=⟨1,1,(.seq (.ret (.c (.str (S "far"))))
 .skip)⟩
def ZS:FD:=⟨3,3,(.seq (.ite (.or (.cmp .NotIn (.ix (.v 1) (.c (.int 0))) (.tupE (.aC (.c (.str (S "go"))) (.aC (.c (.str (S "if"))) .aN)))) (.cmp .GtE (.ix (.v 1) (.neg (.c (.int 1)))) (.v 2))) (.seq (.ret (.tupE .aN))
 .skip) .skip)
 (.seq (.ret (.tupE (.aC (.bin .Add (.slice (.v 1) .nop (.part (.neg (.c (.int 1))))) (.tupE (.aC (.bin .Add (.ix (.v 1) (.neg (.c (.int 1)))) (.c (.int 1))) .aN))) .aN)))
 .skip))⟩
noncomputable def ZbK:CE:=(.comp ae [4,6] (.meth [(146,148),(169,171),(149,151),(157,159),(152,154),(160,162),(163,165)] (.v 6) (.aC (.v 5) (.aC (.len (.v 1)) .aN))) (.tupE (.aC (.v 1) (.aC (.meth [(146,147),(169,170),(149,150),(157,158),(152,153),(160,161),(163,164)] (.v 2) .aN) (.aC (.v 0) .aN)))) (.c (.bl ac)))
def WU:CS:=(.seq (.ext 3 ZbK)
 .skip)
def WV:CS:=(.seq (.for1 6 ae (.v 2) WU)
 .skip)
def UW:FD:=⟨1,7,(.seq (.set 1 (.ix (.v 0) (.c (.int 2))))
 (.seq (.set 2 (.lstE (.aC (.new 169) (.aC (.new 149) (.aC (.new 157) (.aC (.new 152) (.aC (.new 160) (.aC (.new 163) .aN))))))))
 (.seq (.set 3 (.lstE .aN))
 (.seq (.forE 4 5 (.v 1) WV)
 (.seq (.ret (.tOf (.v 3)))
 .skip)))))⟩
noncomputable def WX:FD:=⟨3,3,(.seq (.ret (.tupE (.aC (.ix (.v 0) (.c (.int 0))) (.aC (.ix (.v 0) (.c (.int 1))) (.aC (.call 42 (.aC (.ix (.v 0) (.c (.int 2))) (.aC (.v 1) (.aC (.v 2) .aN))) []) .aN)))))
 .skip)⟩
def Vt:FD:=⟨2,2,(.seq (.ite (.cmp .Eq (.ix (.v 0) (.c (.int 0))) (.c (.str (S "name")))) (.seq (.ret (.ix (.v 1) (.ix (.v 0) (.c (.int 1)))))
 .skip) .skip)
 (.seq (.ret (.ix (.v 0) (.c (.int 1))))
 .skip))⟩
noncomputable def UV:FD:=⟨2,2,(.seq (.ret (.tupE (.aC (.c (.int 0)) (.aC (.bin .Add (.v 1) (.bin .Mult (.tupE (.aC (.c (.int 0)) .aN)) (.bin .Sub (.ix (.v 0) (.c (.int 1))) (.len (.v 1))))) .aN))))
 .skip)⟩
noncomputable def VI:FD:=⟨2,2,(.seq (.ret (.cmp .GtE (.ix (.v 1) (.c (.int 0))) (.len (.ix (.v 0) (.c (.int 2))))))
 .skip)⟩
def ZE:FD:=⟨2,3,(.seq (.ite (.cmp .NotEq (.ix (.v 0) (.c (.int 0))) (.c (.str (S "put")))) (.seq (.ret (.v 1))
 .skip) .skip)
 (.seq (.set 2 (.call 3 (.aC (.call 5 (.aC (.ix (.v 0) (.c (.int 2))) (.aC (.v 1) .aN)) []) (.aC (.ix (.v 0) (.c (.int 3))) (.aC (.call 5 (.aC (.ix (.v 0) (.c (.int 4))) (.aC (.v 1) .aN)) []) .aN))) []))
 (.seq (.ret (.call 42 (.aC (.v 1) (.aC (.ix (.v 0) (.c (.int 1))) (.aC (.v 2) .aN))) []))
 .skip)))⟩
def ZO:FD:=⟨3,3,(.seq (.ite (.cmp .Eq (.ix (.v 0) (.c (.int 0))) (.c (.str (S "go")))) (.seq (.ret (.ix (.v 0) (.c (.int 1))))
 .skip) .skip)
 (.seq (.ite (.and (.cmp .Eq (.ix (.v 0) (.c (.int 0))) (.c (.str (S "if")))) (.call 4 (.aC (.call 5 (.aC (.ix (.v 0) (.c (.int 1))) (.aC (.v 2) .aN)) []) (.aC (.ix (.v 0) (.c (.int 2))) (.aC (.call 5 (.aC (.ix (.v 0) (.c (.int 3))) (.aC (.v 2) .aN)) []) .aN))) [])) (.seq (.ret (.ix (.v 0) (.c (.int 4))))
 .skip) .skip)
 (.seq (.ret (.bin .Add (.v 1) (.c (.int 1))))
 .skip)))⟩
def Vp:FD:=⟨2,5,(.seq (.ite (.call 7 (.aC (.v 0) (.aC (.v 1) .aN)) []) (.seq (.ret (.tupE (.aC (.c (.str (S "none"))) .aN)))
 .skip) .skip)
 (.seq (.set 2 (.ix (.v 1) (.c (.int 0))))
 (.seq (.set 3 (.ix (.v 1) (.c (.int 1))))
 (.seq (.set 4 (.ix (.ix (.v 0) (.c (.int 2))) (.v 2)))
 (.seq (.ite (.cmp .Eq (.ix (.v 4) (.c (.int 0))) (.c (.str (S "tell")))) (.seq (.ret (.tupE (.aC (.c (.str (S "told"))) (.aC (.call 5 (.aC (.ix (.v 4) (.c (.int 1))) (.aC (.v 3) .aN)) []) .aN))))
 .skip) .skip)
 (.seq (.ret (.tupE (.aC (.call 9 (.aC (.v 4) (.aC (.v 2) (.aC (.v 3) .aN))) []) (.aC (.call 8 (.aC (.v 4) (.aC (.v 3) .aN)) []) .aN))))
 .skip))))))⟩
noncomputable def YC:FD:=⟨1,1,(.seq (.ret (.isi .str (.ix (.v 0) (.c (.int 0)))))
 .skip)⟩
noncomputable def ZN:CS:=(.seq (.set 6 (.call 10 (.aC (.v 0) (.aC (.v 3) .aN)) []))
 (.seq (.app 4 (.v 6))
 (.seq (.ite (.call 11 (.aC (.v 6) .aN) []) (.seq (.ret (.tOf (.v 4)))
 .skip) .skip)
 (.seq (.set 3 (.v 6))
 .skip))))
def Vq:FD:=⟨3,7,(.seq (.set 3 (.call 6 (.aC (.v 0) (.aC (.v 1) .aN)) []))
 (.seq (.set 4 (.lstE (.aC (.v 3) .aN)))
 (.seq (.for1 5 ac (.v 2) ZN)
 (.seq (.app 4 (.ife (.call 7 (.aC (.v 0) (.aC (.v 3) .aN)) []) (.tupE (.aC (.c (.str (S "none"))) .aN)) (.tupE (.aC (.c (.str (S "late"))) .aN))))
 (.seq (.ret (.tOf (.v 4)))
 .skip)))))⟩
noncomputable def W1:FD:=⟨3,3,(.seq (.ret (.ix (.call 12 (.aC (.v 0) (.aC (.v 1) (.aC (.v 2) .aN))) []) (.neg (.c (.int 1)))))
 .skip)⟩
noncomputable def YK:FD:=⟨1,1,(.seq (.ite (.cmp .Gt (.len (.v 0)) (.c (.int 10))) (.seq .stop
 .skip) .skip)
 .skip)⟩
noncomputable def Ym:CS:=(.seq (.set 1 (.bin .Mult (.v 1) (.bin .Add (.bin .Sub (.v 3) (.v 2)) (.c (.int 1)))))
 .skip)
def UZ:FD:=⟨1,4,(.seq (.set 1 (.c (.int 1)))
 (.seq (.for2 2 3 (.ix (.v 0) (.c (.int 0))) Ym)
 (.seq (.ret (.v 1))
 .skip)))⟩
noncomputable def Uo:CE:=(.comp ae [4] (.v 2) (.bin .Add (.v 1) (.tupE (.aC (.v 0) .aN))) (.c (.bl ac)))
def Y1:CS:=(.seq (.ext 3 Uo)
 .skip)
def ZH:CS:=(.seq (.set 3 (.lstE .aN))
 (.seq (.for1 4 ae (.v 1) Y1)
 (.seq (.set 1 (.v 3))
 .skip)))
def XJ:FD:=⟨1,5,(.seq (.set 1 (.lstE (.aC (.tupE .aN) .aN)))
 (.seq (.for1 2 ae (.v 0) ZH)
 (.seq (.ret (.tOf (.v 1)))
 .skip)))⟩
noncomputable def WZ:FD:=⟨1,1,(.seq (.ret (.cmp .Gt (.call 133 (.aC (.v 0) .aN) []) (.c (.int 64))))
 .skip)⟩
noncomputable def Zcs:FD:=⟨1,1,(.seq (.ite (.call 135 (.aC (.v 0) .aN) []) (.seq .stop
 .skip) .skip)
 (.seq (.ret (.call 134 (.aC (.compT [] (.ix (.v 0) (.c (.int 0))) (.lstR (.v 0) (.bin .Add (.v 1) (.c (.int 1)))) (.c (.bl ac))) .aN) []))
 .skip))⟩
noncomputable def Zv:CS:=(.seq (.ite (.cmp .NotIn (.v 3) (.v 2)) (.seq (.app 2 (.v 3))
 .skip) .skip)
 .skip)
def YL:FD:=⟨2,4,(.seq (.set 2 (.lstE .aN))
 (.seq (.for1 3 ae (.tupE (.aC (.v 0) (.aC (.bin .FloorDiv (.bin .Add (.v 0) (.v 1)) (.c (.int 2))) (.aC (.v 1) .aN)))) Zv)
 (.seq (.ret (.v 2))
 .skip)))⟩
noncomputable def JC:FD:=⟨1,1,(.seq (.ret (.call 134 (.aC (.compT [] (.ix (.v 0) (.c (.int 0))) (.call 137 (.aC (.v 0) (.aC (.v 1) .aN)) []) (.c (.bl ac))) .aN) []))
 .skip)⟩
noncomputable def Vr:FD:=⟨1,1,(.seq (.ret (.ife (.call 135 (.aC (.v 0) .aN) []) (.call 138 (.aC (.v 0) .aN) []) (.call 136 (.aC (.v 0) .aN) [])))
 .skip)⟩
def Y6:FD:=⟨2,2,(.seq (.ret (.and (.cmp .Eq (.ix (.v 0) (.c (.int 0))) (.c (.str (S "number")))) (.cmp .Eq (.ix (.v 1) (.c (.int 0))) (.c (.str (S "number"))))))
 .skip)⟩
noncomputable def Yf:FD:=⟨3,3,(.seq (.ite (.cmp .Lt (.ix (.v 0) (.v 2)) (.ix (.v 0) (.v 1))) (.seq (.ret (.call 42 (.aC (.call 42 (.aC (.v 0) (.aC (.v 1) (.aC (.ix (.v 0) (.v 2)) .aN))) []) (.aC (.v 2) (.aC (.ix (.v 0) (.v 1)) .aN))) []))
 .skip) .skip)
 (.seq (.ret (.v 0))
 .skip))⟩
def Ye:FD:=⟨1,1,(.seq (.ite (.and (.cmp .Eq (.ix (.v 0) (.c (.int 3))) (.c (.str (S "-")))) (.cmp .Eq (.ix (.ix (.v 0) (.c (.int 4))) (.c (.int 0))) (.c (.str (S "number"))))) (.seq (.ret (.bin .Add (.slice (.v 0) .nop (.part (.c (.int 3)))) (.tupE (.aC (.c (.str (S "+"))) (.aC (.tupE (.aC (.c (.str (S "number"))) (.aC (.call 0 (.aC (.neg (.ix (.ix (.v 0) (.c (.int 4))) (.c (.int 1)))) .aN) []) .aN))) .aN)))))
 .skip) .skip)
 (.seq (.ret (.v 0))
 .skip))⟩
def Z8:FD:=⟨1,4,(.seq (.set 1 (.ix (.v 0) (.c (.int 2))))
 (.seq (.set 2 (.ix (.v 0) (.c (.int 3))))
 (.seq (.set 3 (.ix (.v 0) (.c (.int 4))))
 (.seq (.ite (.or (.and (.cmp .Eq (.v 2) (.c (.str (S "*")))) (.cmp .Eq (.v 3) (.c (.tup [(.str (S "number")),(.int 0)])))) (.or (.and (.cmp .Eq (.v 2) (.c (.str (S "mod")))) (.cmp .Eq (.v 3) (.c (.tup [(.str (S "number")),(.int 1)])))) (.and (.cmp .Eq (.v 2) (.c (.str (S "-")))) (.cmp .Eq (.v 1) (.v 3))))) (.seq (.ret (.tupE (.aC (.c (.str (S "put"))) (.aC (.ix (.v 0) (.c (.int 1))) (.aC (.c (.tup [(.str (S "number")),(.int 0)])) (.aC (.c (.str (S "+"))) (.aC (.c (.tup [(.str (S "number")),(.int 0)])) .aN)))))))
 .skip) .skip)
 (.seq (.ite (.and (.cmp .In (.v 2) (.tupE (.aC (.c (.str (S "*"))) (.aC (.c (.str (S "/"))) .aN)))) (.cmp .Eq (.v 3) (.c (.tup [(.str (S "number")),(.int 1)])))) (.seq (.ret (.tupE (.aC (.c (.str (S "put"))) (.aC (.ix (.v 0) (.c (.int 1))) (.aC (.v 1) (.aC (.c (.str (S "+"))) (.aC (.c (.tup [(.str (S "number")),(.int 0)])) .aN)))))))
 .skip) .skip)
 (.seq (.ret (.v 0))
 .skip))))))⟩
def Wo:FD:=⟨1,1,(.seq (.ite (.call 73 (.aC (.ix (.v 0) (.c (.int 2))) (.aC (.ix (.v 0) (.c (.int 4))) .aN)) []) (.seq (.ret (.tupE (.aC (.c (.str (S "put"))) (.aC (.ix (.v 0) (.c (.int 1))) (.aC (.tupE (.aC (.c (.str (S "number"))) (.aC (.call 3 (.aC (.ix (.ix (.v 0) (.c (.int 2))) (.c (.int 1))) (.aC (.ix (.v 0) (.c (.int 3))) (.aC (.ix (.ix (.v 0) (.c (.int 4))) (.c (.int 1))) .aN))) []) .aN))) (.aC (.c (.str (S "+"))) (.aC (.c (.tup [(.str (S "number")),(.int 0)])) .aN)))))))
 .skip) .skip)
 (.seq (.set 0 (.call 75 (.aC (.v 0) .aN) []))
 (.seq (.ite (.cmp .In (.ix (.v 0) (.c (.int 3))) (.tupE (.aC (.c (.str (S "+"))) (.aC (.c (.str (S "*"))) .aN)))) (.seq (.set 0 (.call 74 (.aC (.v 0) (.aC (.c (.int 2)) (.aC (.c (.int 4)) .aN))) []))
 .skip) .skip)
 (.seq (.set 0 (.call 76 (.aC (.v 0) .aN) []))
 (.seq (.ite (.cmp .Eq (.v 0) (.tupE (.aC (.c (.str (S "put"))) (.aC (.ix (.v 0) (.c (.int 1))) (.aC (.tupE (.aC (.c (.str (S "name"))) (.aC (.ix (.v 0) (.c (.int 1))) .aN))) (.aC (.c (.str (S "+"))) (.aC (.c (.tup [(.str (S "number")),(.int 0)])) .aN))))))) (.seq (.ret (.c (.tup [(.str (S "skip"))])))
 .skip) .skip)
 (.seq (.ret (.v 0))
 .skip))))))⟩
def Yd:FD:=⟨1,1,(.seq (.ite (.cmp .Eq (.ix (.v 0) (.c (.int 2))) (.c (.str (S ">")))) (.seq (.ret (.tupE (.aC (.c (.str (S "if"))) (.aC (.ix (.v 0) (.c (.int 3))) (.aC (.c (.str (S "<"))) (.aC (.ix (.v 0) (.c (.int 1))) (.aC (.ix (.v 0) (.c (.int 4))) .aN)))))))
 .skip) .skip)
 (.seq (.ite (.cmp .Eq (.ix (.v 0) (.c (.int 2))) (.c (.str (S ">=")))) (.seq (.ret (.tupE (.aC (.c (.str (S "if"))) (.aC (.ix (.v 0) (.c (.int 3))) (.aC (.c (.str (S "<="))) (.aC (.ix (.v 0) (.c (.int 1))) (.aC (.ix (.v 0) (.c (.int 4))) .aN)))))))
 .skip) .skip)
 (.seq (.ret (.v 0))
 .skip)))⟩
noncomputable def Xq:FD:=⟨1,1,(.seq (.ret (.or (.call 73 (.aC (.ix (.v 0) (.c (.int 1))) (.aC (.ix (.v 0) (.c (.int 3))) .aN)) []) (.cmp .Eq (.ix (.v 0) (.c (.int 1))) (.ix (.v 0) (.c (.int 3))))))
 .skip)⟩
def W3:FD:=⟨1,2,(.seq (.set 1 (.call 4 (.aC (.ix (.ix (.v 0) (.c (.int 1))) (.c (.int 1))) (.aC (.ix (.v 0) (.c (.int 2))) (.aC (.ix (.ix (.v 0) (.c (.int 3))) (.c (.int 1))) .aN))) []))
 (.seq (.ret (.ife (.v 1) (.tupE (.aC (.c (.str (S "go"))) (.aC (.ix (.v 0) (.c (.int 4))) .aN))) (.c (.tup [(.str (S "skip"))]))))
 .skip))⟩
def YM:FD:=⟨1,3,(.seq (.set 1 (.ix (.v 0) (.c (.int 1))))
 (.seq (.set 2 (.ix (.v 0) (.c (.int 3))))
 (.seq (.ite (.cmp .NotEq (.ix (.v 0) (.c (.int 2))) (.c (.str (S "<=")))) (.seq (.ret (.v 0))
 .skip) .skip)
 (.seq (.ite (.and (.cmp .Eq (.ix (.v 2) (.c (.int 0))) (.c (.str (S "number")))) (.cmp .Lt (.ix (.v 2) (.c (.int 1))) (.c (.int 999999999)))) (.seq (.ret (.tupE (.aC (.c (.str (S "if"))) (.aC (.v 1) (.aC (.c (.str (S "<"))) (.aC (.tupE (.aC (.c (.str (S "number"))) (.aC (.bin .Add (.ix (.v 2) (.c (.int 1))) (.c (.int 1))) .aN))) (.aC (.ix (.v 0) (.c (.int 4))) .aN)))))))
 .skip) .skip)
 (.seq (.ite (.and (.cmp .Eq (.ix (.v 1) (.c (.int 0))) (.c (.str (S "number")))) (.cmp .Gt (.ix (.v 1) (.c (.int 1))) (.c (.int (-1000000000))))) (.seq (.ret (.tupE (.aC (.c (.str (S "if"))) (.aC (.tupE (.aC (.c (.str (S "number"))) (.aC (.bin .Sub (.ix (.v 1) (.c (.int 1))) (.c (.int 1))) .aN))) (.aC (.c (.str (S "<"))) (.aC (.v 2) (.aC (.ix (.v 0) (.c (.int 4))) .aN)))))))
 .skip) .skip)
 (.seq (.ret (.v 0))
 .skip))))))⟩
def W0:FD:=⟨2,2,(.seq (.ite (.cmp .Eq (.ix (.v 0) (.c (.int 4))) (.bin .Add (.v 1) (.c (.int 1)))) (.seq (.ret (.c (.tup [(.str (S "skip"))])))
 .skip) .skip)
 (.seq (.set 0 (.call 78 (.aC (.v 0) .aN) []))
 (.seq (.ite (.call 79 (.aC (.v 0) .aN) []) (.seq (.ret (.call 80 (.aC (.v 0) .aN) []))
 .skip) .skip)
 (.seq (.ite (.cmp .In (.ix (.v 0) (.c (.int 2))) (.tupE (.aC (.c (.str (S "="))) (.aC (.c (.str (S "!="))) .aN)))) (.seq (.set 0 (.call 74 (.aC (.v 0) (.aC (.c (.int 1)) (.aC (.c (.int 3)) .aN))) []))
 .skip) .skip)
 (.seq (.ret (.call 81 (.aC (.v 0) .aN) []))
 .skip)))))⟩
def Yb:FD:=⟨2,2,(.seq (.ite (.cmp .Eq (.ix (.v 0) (.c (.int 0))) (.c (.str (S "put")))) (.seq (.ret (.call 77 (.aC (.v 0) .aN) []))
 .skip) .skip)
 (.seq (.ite (.cmp .Eq (.ix (.v 0) (.c (.int 0))) (.c (.str (S "if")))) (.seq (.ret (.call 82 (.aC (.v 0) (.aC (.v 1) .aN)) []))
 .skip) .skip)
 (.seq (.ite (.cmp .Eq (.v 0) (.tupE (.aC (.c (.str (S "go"))) (.aC (.bin .Add (.v 1) (.c (.int 1))) .aN)))) (.seq (.ret (.c (.tup [(.str (S "skip"))])))
 .skip) .skip)
 (.seq (.ret (.v 0))
 .skip))))⟩
noncomputable def QO:CE:=(.comp2 [] (.ix (.v 0) (.c (.int 2))) (.call 83 (.aC (.v 1) (.aC (.v 0) .aN)) []) (.c (.bl ac)))
def JB:FD:=⟨1,2,(.seq (.set 1 QO)
 (.seq (.ret (.tupE (.aC (.ix (.v 0) (.c (.int 0))) (.aC (.ix (.v 0) (.c (.int 1))) (.aC (.tOf (.v 1)) .aN)))))
 .skip))⟩
def WA:FD:=⟨2,2,(.seq (.ite (.cmp .GtE (.v 1) (.len (.ix (.v 0) (.c (.int 2))))) (.seq (.ret (.c (.tup [(.str (S "end"))])))
 .skip) .skip)
 (.seq (.ret (.call 83 (.aC (.ix (.ix (.v 0) (.c (.int 2))) (.v 1)) (.aC (.v 1) .aN)) []))
 .skip))⟩
def Xp:FD:=⟨1,1,(.seq (.ret (.or (.cmp .Eq (.v 0) (.c (.tup [(.str (S "end"))]))) (.cmp .Eq (.ix (.v 0) (.c (.int 0))) (.c (.str (S "tell"))))))
 .skip)⟩
def VD:CS:=(.seq (.ite (.and (.cmp .Eq (.ix (.ix (.v 0) (.v 2)) (.c (.int 0))) (.c (.str (S "name")))) (.not (.call 114 (.aC (.v 1) (.aC (.ix (.ix (.v 0) (.v 2)) (.c (.int 1))) .aN)) []))) (.seq (.ret (.c (.bl ae)))
 .skip) .skip)
 .skip)
def Xr:FD:=⟨2,3,(.seq (.for1 2 ae (.call 113 (.aC (.v 0) .aN) []) VD)
 (.seq (.ret (.c (.bl ac)))
 .skip))⟩
def XI:FD:=⟨3,3,(.seq (.ret (.and (.cmp .Eq (.v 0) (.v 1)) (.or (.cmp .Eq (.v 0) (.c (.tup [(.str (S "end"))]))) (.call 117 (.aC (.v 0) (.aC (.v 2) .aN)) []))))
 .skip)⟩
def Z1:FD:=⟨3,3,(.seq (.ret (.and (.cmp .Eq (.ix (.v 0) (.c (.int 0))) (.c (.str (S "if")))) (.and (.cmp .Eq (.ix (.v 1) (.c (.int 0))) (.c (.str (S "if")))) (.and (.cmp .Eq (.slice (.v 0) (.part (.c (.int 1))) (.part (.c (.int 4)))) (.slice (.v 1) (.part (.c (.int 1))) (.part (.c (.int 4))))) (.call 117 (.aC (.v 0) (.aC (.v 2) .aN)) [])))))
 .skip)⟩
def ZF:CS:=(.seq (.ite (.cmp .Eq (.ix (.v 3) (.c (.int 0))) (.c (.str (S "put")))) (.seq (.set 2 (.call 57 (.aC (.v 2) (.aC (.ix (.v 3) (.c (.int 1))) .aN)) []))
 .skip) .skip)
 .skip)
def W4:FD:=⟨3,4,(.seq (.ite (.and (.cmp .Eq (.ix (.v 0) (.c (.int 0))) (.c (.str (S "put")))) (.and (.cmp .Eq (.v 0) (.v 1)) (.call 117 (.aC (.v 0) (.aC (.v 2) .aN)) []))) (.seq (.ret (.bin .BitOr (.v 2) (.call 43 (.aC (.ix (.v 0) (.c (.int 1))) .aN) [])))
 .skip) .skip)
 (.seq (.for1 3 ae (.tupE (.aC (.v 0) (.aC (.v 1) .aN))) ZF)
 (.seq (.ret (.v 2))
 .skip)))⟩
def ZV:FD:=⟨2,2,(.seq (.ite (.cmp .Eq (.ix (.v 0) (.c (.int 0))) (.c (.str (S "go")))) (.seq (.ret (.tupE (.aC (.ix (.v 0) (.c (.int 1))) .aN)))
 .skip) .skip)
 (.seq (.ite (.cmp .Eq (.ix (.v 0) (.c (.int 0))) (.c (.str (S "if")))) (.seq (.ret (.tupE (.aC (.ix (.v 0) (.c (.int 4))) (.aC (.bin .Add (.v 1) (.c (.int 1))) .aN))))
 .skip) .skip)
 (.seq (.ret (.tupE (.aC (.bin .Add (.v 1) (.c (.int 1))) .aN)))
 .skip)))⟩
noncomputable def JJ:CE:=(.comp ae [9,7] (.call 121 (.aC (.v 6) (.aC (.v 3) .aN)) []) (.tupE (.aC (.v 1) (.aC (.v 0) (.aC (.v 2) .aN)))) (.c (.bl ac)))
def Jw:CS:=(.seq (.ext 8 JJ)
 .skip)
def VL:FD:=⟨5,10,(.seq (.set 5 (.call 115 (.aC (.v 0) (.aC (.v 2) .aN)) []))
 (.seq (.set 6 (.call 115 (.aC (.v 1) (.aC (.v 3) .aN)) []))
 (.seq (.ite (.or (.call 116 (.aC (.v 5) .aN) []) (.call 116 (.aC (.v 6) .aN) [])) (.seq (.ret (.ife (.call 118 (.aC (.v 5) (.aC (.v 6) (.aC (.v 4) .aN))) []) (.tupE .aN) (.c .non)))
 .skip) .skip)
 (.seq (.ite (.call 119 (.aC (.v 5) (.aC (.v 6) (.aC (.v 4) .aN))) []) (.seq (.ret (.tupE (.aC (.tupE (.aC (.ix (.v 5) (.c (.int 4))) (.aC (.ix (.v 6) (.c (.int 4))) (.aC (.v 4) .aN)))) (.aC (.tupE (.aC (.bin .Add (.v 2) (.c (.int 1))) (.aC (.bin .Add (.v 3) (.c (.int 1))) (.aC (.v 4) .aN)))) .aN))))
 .skip) .skip)
 (.seq (.set 7 (.call 120 (.aC (.v 5) (.aC (.v 6) (.aC (.v 4) .aN))) []))
 (.seq (.set 8 (.lstE .aN))
 (.seq (.for1 9 ae (.call 121 (.aC (.v 5) (.aC (.v 2) .aN)) []) Jw)
 (.seq (.ret (.tOf (.v 8)))
 .skip))))))))⟩
noncomputable def Yp:FD:=⟨2,10,(.seq (.set 2 (.dd (.c (.int 0)) (.c (.int 0)) (.call 56 (.aC (.ix (.v 0) (.c (.int 1))) .aN) [])))
 (.seq (.set 3 (.lstE (.aC (.tupE (.aC (.c (.int 0)) (.aC (.c (.int 0)) .aN))) .aN)))
 (.seq (.whl (.cmp .Gt (.len (.v 3)) (.c (.int 0))) (.seq (.set 4 (.pop (.v 3)))
 (.seq (.set 5 (.call 122 (.aC (.v 0) (.aC (.v 1) (.aC (.ix (.v 4) (.c (.int 0))) (.aC (.ix (.v 4) (.c (.int 1))) (.aC (.ix (.v 2) (.v 4)) .aN))))) []))
 (.seq (.ite (.cmp .Is (.v 5) (.c .non)) (.seq (.ret (.c .non))
 .skip) .skip)
 (.seq (.for4 6 7 8 (.v 5) (.seq (.set 9 (.bin .BitAnd (.v 8) (.dgN (.v 2) (.tupE (.aC (.v 6) (.aC (.v 7) .aN))) (.v 8))))
 (.seq (.ite (.cmp .NotEq (.dgN (.v 2) (.tupE (.aC (.v 6) (.aC (.v 7) .aN))) (.c .non)) (.v 9)) (.seq (.dput 2 (.v 6) (.v 7) (.v 9))
 (.seq (.app 3 (.tupE (.aC (.v 6) (.aC (.v 7) .aN))))
 .skip)) .skip)
 .skip)))
 .skip)))))
 (.seq (.ret (.tOf (.compT [2] (.ksrt (.v 2)) (.tupE (.aC (.v 0) (.aC (.v 1) (.aC (.ix (.v 2) (.tupE (.aC (.v 0) (.aC (.v 1) .aN)))) .aN)))) (.c (.bl ac)))))
 .skip))))⟩
noncomputable def QC:CS:=(.seq (.ite (.cmp .NotEq (.ix (.v 4) (.v 6)) (.ix (.v 5) (.v 6))) (.seq (.ret (.tupE (.aC (.v 6) (.aC (.ix (.v 4) (.v 6)) (.aC (.ix (.v 5) (.v 6)) .aN)))))
 .skip) .skip)
 .skip)
def W2:FD:=⟨4,7,(.seq (.set 4 (.call 12 (.aC (.v 0) (.aC (.v 2) (.aC (.v 3) .aN))) []))
 (.seq (.set 5 (.call 12 (.aC (.v 1) (.aC (.v 2) (.aC (.v 3) .aN))) []))
 (.seq (.for1 6 ac (.min (.len (.v 4)) (.len (.v 5))) QC)
 (.seq (.ret (.c .non))
 .skip))))⟩
noncomputable def UY:FD:=⟨4,4,(.seq (.ret (.cmp .NotEq (.call 13 (.aC (.v 0) (.aC (.v 2) (.aC (.v 3) .aN))) []) (.call 13 (.aC (.v 1) (.aC (.v 2) (.aC (.v 3) .aN))) [])))
 .skip)⟩
noncomputable def Jx:CS:=(.seq (.ite (.call 99 (.aC (.v 0) (.aC (.v 1) (.aC (.v 3) (.aC (.v 2) .aN)))) []) (.seq (.ret (.v 3))
 .skip) .skip)
 .skip)
def VN:FD:=⟨3,4,(.seq (.for1 3 ae (.call 139 (.aC (.v 0) .aN) []) Jx)
 (.seq (.ret (.c .non))
 .skip))⟩
noncomputable def Wy:CS:=(.seq (.ite (.call 99 (.aC (.v 0) (.aC (.v 1) (.aC (.v 5) (.aC (.v 3) .aN)))) []) (.seq (.ret (.v 4))
 .skip) .skip)
 .skip)
def Yv:FD:=⟨4,6,(.seq (.forE 4 5 (.v 2) Wy)
 (.seq (.ret (.c .non))
 .skip))⟩
abbrev jN(n:Nat):Option D:=aa (.int n)
abbrev jI(n:Int):Option D:=aa (.int n)
abbrev jL(n:Nat):Option D:=aa (.lst n)
noncomputable abbrev CE.i(n:Int):CE:=.c (.int n)
noncomputable abbrev CE.t(s:String):CE:=.c (.str (S s))
noncomputable abbrev CE.u(a:CE):CE:=.aC a .aN
noncomputable abbrev CS.z(a:CS):CS:=.seq a .skip
noncomputable abbrev CS.w(c:CE)(a:CS):CS:=.ite c a .skip
abbrev CE.f(n:Nat)(a:CE):CE:=.call n a []
abbrev CE.x(n:Nat)(i:Int):CE:=.ix (.v n) (.i i)
abbrev CE.a(n:Nat)(b:CE):CE:=.aC (.v n) b
abbrev CE.s(n:Nat):CE:=.u (.v n)
abbrev CE.e(a b:CE):CE:=.cmp .Eq a b
abbrev CE.p(a b:CE):CE:=.bin .Add a b
abbrev CE.m(a b:CE):CE:=.bin .Mod a b
abbrev CE.h(a b:CE):CE:=.bin .Mult a b
abbrev CE.k(a b:CE):CE:=.bin .FloorDiv a b
abbrev CE.l(a b:CE):CE:=.bin .Sub a b
abbrev CE.g(a:CE):CE:=.tupE a
abbrev CS.y(n:Nat)(a:CE)(b:CS):CS:=.seq (.set n a) b
abbrev CS.k(a:CE)(b c:CS):CS:=.seq (.w a b) c
abbrev CS.q(a:CE):CS:=.z (.ret a)
def c_verdict:FD:=⟨4,7,(.k (.e (.f 106 (.s 1)) (.f 106 (.s 0))) (.q (.g (.u (.t "same"))))
 (.y 4 (.f 281 (.a 0 (.a 1 (.a 2 (.s 3)))))
 (.k (.cmp .IsNot (.v 4) (.c .non)) (.q (.g (.aC (.t "trial") (.a 4 (.u (.ix (.f 98 (.a 0 (.a 1 (.aC (.ix (.v 2) (.v 4)) (.s 3))))) (.i 0)))))))
 (.y 5 (.f 201 (.a 0 (.s 1)))
 (.k (.cmp .IsNot (.v 5) (.c .non)) (.q (.g (.aC (.t "paper") (.s 5))))
 (.y 6 (.f 140 (.a 0 (.a 1 (.s 3))))
 (.k (.cmp .IsNot (.v 6) (.c .non)) (.q (.g (.aC (.t "found") (.a 6 (.u (.ix (.f 98 (.a 0 (.a 1 (.a 6 (.s 3))))) (.i 0)))))))
 (.q (.ife (.f 135 (.s 0)) (.g (.u (.t "unknown"))) (.g (.u (.t "table"))))))))))))⟩
noncomputable def Wq:FD:=⟨3,3,(.seq (.act (.f 181 (.s 1)))
 (.q (.tOf (.comp3 [2,0,1] (.f 172 (.s 0)) (.f 282 (.a 4 (.aC (.f 180 (.a 4 (.a 0 (.s 2)))) (.a 5 (.s 3))))) (.c (.bl ac))))))⟩
def ZY:CS:=(.z (.w (.e (.x 5 0) (.t "found")) (.y 6 (.f 180 (.a 0 (.aC (.x 4 0) (.u (.x 4 2)))))
 (.z (.w (.cmp .Is (.f 281 (.a 0 (.a 6 (.a 3 (.s 2))))) (.c .non)) (.z (.app 3 (.x 5 1))))))))
def Yw:FD:=⟨3,7,(.y 3 (.lstE .aN)
 (.seq (.forP 4 5 (.aC (.f 172 (.s 0)) (.s 1)) ZY)
 (.q (.tOf (.v 3)))))⟩
noncomputable def Y7:FD:=⟨3,3,(.q (.f 289 (.a 0 (.aC (.f 283 (.a 0 (.a 1 (.s 2)))) (.s 2)))))⟩
noncomputable def Xo:FD:=⟨1,1,(.q (.and (.isi .int (.v 0)) (.not (.isi .bool (.v 0)))))⟩
def YG:FD:=⟨2,2,(.k (.cmp .Lt (.v 1) (.len (.v 0))) (.q (.ix (.v 0) (.v 1)))
 (.k (.e (.v 0) (.lstE .aN)) (.q (.m (.h (.p (.h (.v 1) (.v 1)) (.i 7)) (.i 48271)) (.i 2147483629)))
 (.q (.m (.h (.p (.m (.x 0 0) (.i 2147483647)) (.i 7)) (.p (.h (.v 1) (.v 1)) (.i 48271))) (.i 2147483629)))))⟩
def Yu:FD:=⟨1,2,(.y 1 (.lstE (.aC (.neg (.i 1000000000)) (.aC (.neg (.i 999999999)) (.aC (.neg (.i 2)) (.aC (.neg (.i 1)) (.aC (.i 0) (.aC (.i 1) (.aC (.i 2) (.u (.i 999999999))))))))))
 (.k (.e (.m (.v 0) (.i 8)) (.i 0)) (.q (.ix (.v 1) (.m (.k (.v 0) (.i 8)) (.i 8))))
 (.k (.e (.m (.v 0) (.i 8)) (.i 1)) (.q (.l (.m (.h (.k (.v 0) (.i 8)) (.i 48271)) (.i 2000000000)) (.i 1000000000)))
 (.q (.l (.m (.k (.v 0) (.i 8)) (.i 7)) (.i 3))))))⟩
def YH:FD:=⟨2,2,(.k (.cmp .Gt (.m (.v 0) (.i 3)) (.i 0)) (.q (.g (.aC (.t "name") (.u (.m (.k (.v 0) (.i 3)) (.v 1))))))
 (.q (.g (.aC (.t "number") (.u (.f 19 (.u (.k (.v 0) (.i 3)))))))))⟩
def Wm:FD:=⟨4,9,(.y 4 (.f 28 (.aC (.m (.h (.v 1) (.i 48271)) (.i 2147483647)) (.s 2)))
 (.y 5 (.f 28 (.aC (.m (.h (.p (.v 1) (.i 5)) (.i 1226874159)) (.i 2147483647)) (.s 2)))
 (.y 6 (.m (.h (.v 0) (.i 48271)) (.i 2147483647))
 (.y 7 (.m (.m (.h (.p (.v 0) (.i 1)) (.i 742938285)) (.i 2147483647)) (.p (.v 3) (.i 1)))
 (.k (.cmp .Lt (.m (.v 0) (.i 8)) (.i 4)) (.y 8 (.m (.m (.h (.p (.v 1) (.i 3)) (.i 950706376)) (.i 2147483647)) (.v 2))
 (.q (.g (.aC (.t "put") (.a 8 (.a 4 (.aC (.ix (.lstE (.aC (.t "+") (.aC (.t "-") (.aC (.t "*") (.aC (.t "/") (.u (.t "mod"))))))) (.m (.v 6) (.i 5))) (.s 5))))))))
 (.k (.cmp .Lt (.m (.v 0) (.i 8)) (.i 6)) (.q (.g (.aC (.t "if") (.a 4 (.aC (.ix (.lstE (.aC (.t "<") (.aC (.t "<=") (.aC (.t "=") (.aC (.t ">=") (.aC (.t ">") (.u (.t "!=")))))))) (.m (.v 6) (.i 6))) (.a 5 (.s 7)))))))
 (.k (.e (.m (.v 0) (.i 8)) (.i 6)) (.q (.ix (.lstE (.aC (.g (.aC (.t "go") (.s 7))) (.u (.g (.u (.t "skip")))))) (.m (.v 6) (.i 2))))
 (.q (.g (.aC (.t "tell") (.s 4)))))))))))⟩
def YJ:FD:=⟨1,2,(.y 1 (.l (.m (.k (.v 0) (.i 8)) (.i 7)) (.i 3))
 (.q (.g (.a 1 (.u (.p (.v 1) (.m (.k (.v 0) (.i 56)) (.i 3))))))))⟩
def Yo:CE:=(.comp ac [0] (.v 3) (.f 284 (.u (.f 27 (.a 1 (.u (.p (.i 2) (.v 0))))))) (.c (.bl ac)))
def WT:CS:=(.y 8 (.f 27 (.a 0 (.u (.p (.i 5) (.h (.i 2) (.v 7))))))
 (.z (.app 6 (.f 29 (.a 8 (.aC (.f 27 (.a 0 (.u (.p (.i 6) (.h (.i 2) (.v 7)))))) (.a 4 (.s 5))))))))
def YI:FD:=⟨2,10,(.y 2 (.m (.f 27 (.a 0 (.u (.i 0)))) (.i 2147483647))
 (.y 3 (.m (.v 2) (.i 4))
 (.y 4 (.max (.i 1) (.p (.v 3) (.h (.m (.k (.v 2) (.i 4)) (.i 2)) (.intOf (.cmp .Lt (.v 3) (.i 4))))))
 (.y 5 (.m (.f 27 (.a 0 (.u (.i 1)))) (.p (.v 1) (.i 1)))
 (.y 6 (.lstE .aN)
 (.seq (.for1 7 ac (.v 5) WT)
 (.k (.and (.cmp .Gt (.v 5) (.i 0)) (.cmp .Gt (.m (.k (.v 2) (.i 8)) (.i 4)) (.i 0))) (.z (.put 6 (.neg (.i 1)) (.g (.aC (.t "tell") (.u (.g (.aC (.t "name") (.u (.m (.k (.v 2) (.i 32)) (.v 4))))))))))
 (.y 9 Yo
 (.q (.g (.aC (.tOf (.v 9)) (.a 4 (.u (.tOf (.v 6)))))))))))))))⟩
def Xw:CE:=(.comp ac [4,0,1,2] (.v 2) (.f 27 (.a 2 (.u (.p (.p (.p (.v 3) (.i 1)) (.h (.v 1) (.v 4))) (.v 0))))) (.c (.bl ac)))
noncomputable def Xx:CE:=(.comp ae [] (.v 5) (.f 19 (.s 0)) (.c (.bl ac)))
def Vl:CS:=(.y 5 Xw
 (.z (.app 3 (.tOf Xx))))
def Y5:FD:=⟨3,6,(.y 3 (.lstE .aN)
 (.seq (.for1 4 ac (.m (.f 27 (.a 0 (.s 1))) (.i 4)) Vl)
 (.q (.tOf (.v 3)))))⟩
def UU:FD:=⟨1,1,(.k (.e (.m (.k (.v 0) (.i 11)) (.i 8)) (.i 3)) (.q (.i 30))
 (.q (.m (.v 0) (.i 11))))⟩
def Y3:FD:=⟨1,1,(.q (.l (.m (.p (.v 0) (.i 1000000000)) (.i 2000000000)) (.i 1000000000)))⟩
def Y4:FD:=⟨3,3,(.k (.e (.v 1) (.t "+")) (.q (.f 31 (.u (.p (.v 0) (.v 2)))))
 (.k (.e (.v 1) (.t "-")) (.q (.f 31 (.u (.l (.v 0) (.v 2)))))
 (.k (.e (.v 1) (.t "*")) (.q (.f 31 (.u (.h (.v 0) (.v 2)))))
 (.k (.e (.v 2) (.i 0)) (.q (.ix (.lstE (.a 0 (.u (.i 0)))) (.intOf (.e (.v 1) (.t "/")))))
 (.k (.e (.v 1) (.t "/")) (.q (.f 31 (.u (.k (.v 0) (.v 2)))))
 (.q (.l (.v 0) (.h (.v 2) (.k (.v 0) (.v 2))))))))))⟩
def Yc:FD:=⟨3,4,(.y 3 (.dict [(S "<"),(S "<="),(S "=")] (.aC (.cmp .Lt (.v 0) (.v 2)) (.aC (.cmp .LtE (.v 0) (.v 2)) (.u (.e (.v 0) (.v 2))))))
 (.k (.cmp .In (.v 1) (.v 3)) (.q (.ix (.v 3) (.v 1)))
 (.q (.not (.ix (.dict [(S ">="),(S ">"),(S "!=")] (.aC (.cmp .Lt (.v 0) (.v 2)) (.aC (.cmp .LtE (.v 0) (.v 2)) (.u (.e (.v 0) (.v 2)))))) (.v 1))))))⟩
def YA:FD:=⟨2,2,(.k (.e (.x 0 0) (.t "name")) (.q (.ix (.v 1) (.x 0 1)))
 (.q (.x 0 1)))⟩
def XH:FD:=⟨3,6,(.y 3 (.ix (.x 0 2) (.v 1))
 (.k (.e (.x 3 0) (.t "tell")) (.q (.g (.aC (.t "told") (.u (.f 34 (.aC (.x 3 1) (.s 2)))))))
 (.k (.e (.x 3 0) (.t "put")) (.y 4 (.listOf (.v 2))
 (.seq (.put 4 (.x 3 1) (.f 32 (.aC (.f 34 (.aC (.x 3 2) (.s 2))) (.aC (.x 3 3) (.u (.f 34 (.aC (.x 3 4) (.s 2))))))))
 (.q (.g (.aC (.p (.v 1) (.i 1)) (.u (.tOf (.v 4))))))))
 (.k (.e (.x 3 0) (.t "go")) (.q (.g (.aC (.x 3 1) (.s 2))))
 (.k (.e (.x 3 0) (.t "if")) (.y 5 (.f 34 (.aC (.x 3 1) (.s 2)))
 (.z (.w (.f 33 (.a 5 (.aC (.x 3 2) (.u (.f 34 (.aC (.x 3 3) (.s 2))))))) (.q (.g (.aC (.x 3 4) (.s 2)))))))
 (.q (.g (.aC (.p (.v 1) (.i 1)) (.s 2)))))))))⟩
def Zn:CS:=(.k (.e (.x 3 0) (.len (.x 0 2))) (.q (.p (.v 4) (.lstE (.u (.g (.u (.t "none")))))))
 (.y 3 (.f 35 (.a 0 (.aC (.x 3 0) (.u (.x 3 1)))))
 (.seq (.app 4 (.v 3))
 (.z (.w (.e (.x 3 0) (.t "told")) (.q (.v 4)))))))
def Yz:FD:=⟨3,6,(.y 3 (.g (.aC (.i 0) (.u (.p (.v 1) (.h (.g (.u (.i 0))) (.l (.x 0 1) (.len (.v 1))))))))
 (.y 4 (.lstE (.s 3))
 (.seq (.for1 5 ac (.v 2) Zn)
 (.q (.p (.v 4) (.lstE (.u (.ix (.lstE (.aC (.g (.u (.t "late"))) (.u (.g (.u (.t "none")))))) (.intOf (.e (.x 3 0) (.len (.x 0 2))))))))))))⟩
def Ul:FD:=⟨2,3,(.y 2 (.i 0)
 (.seq (.whl (.e (.ix (.v 0) (.v 2)) (.ix (.v 1) (.v 2))) (.z (.set 2 (.p (.v 2) (.i 1)))))
 (.q (.v 2))))⟩
def ZG:CS:=(.k (.e (.x 6 0) (.t "if")) (.z (.set 6 (.p (.slice (.v 6) .nop (.part (.i 4))) (.g (.u (.min (.x 6 4) (.i 2)))))))
 (.k (.e (.x 6 0) (.t "go")) (.z (.set 6 (.g (.aC (.t "go") (.u (.min (.x 6 1) (.i 2)))))))
 (.z (.app 5 (.v 6)))))
def Yq:FD:=⟨2,7,(.k (.or (.e (.len (.x 0 0)) (.i 0)) (.cmp .Gt (.m (.v 1) (.i 4)) (.i 1))) (.q (.v 0))
 (.y 2 (.f 19 (.u (.k (.v 1) (.i 8))))
 (.k (.e (.m (.v 1) (.i 4)) (.i 0)) (.y 3 (.f 19 (.u (.m (.h (.k (.v 1) (.i 3)) (.i 69621)) (.i 2147483629))))
 (.q (.g (.aC (.p (.g (.u (.g (.aC (.min (.v 2) (.v 3)) (.u (.max (.v 2) (.v 3))))))) (.slice (.x 0 0) (.part (.i 1)) .nop)) (.aC (.x 0 1) (.u (.x 0 2)))))))
 (.y 2 (.max (.neg (.i 1000000000)) (.min (.v 2) (.i 999999900)))
 (.y 4 (.g (.a 2 (.u (.p (.p (.v 2) (.i 62)) (.m (.k (.v 1) (.i 4)) (.i 4))))))
 (.y 5 (.lstE .aN)
 (.seq (.for1 6 ae (.slice (.x 0 2) (.part (.neg (.i 2))) .nop) ZG)
 (.q (.g (.aC (.p (.g (.s 4)) (.h (.g (.u (.g (.aC (.i 1) (.u (.i 1)))))) (.l (.len (.x 0 0)) (.i 1)))) (.aC (.x 0 1) (.u (.tOf (.v 5))))))))))))))⟩
def XN:CE:=(.comp ac [5] (.len (.v 5)) (.ix (.v 1) (.v 0)) (.or (.e (.v 0) (.i 0)) (.cmp .NotEq (.ix (.v 1) (.v 0)) (.ix (.v 1) (.l (.v 0) (.i 1))))))
noncomputable def XO:CE:=(.comp ae [7] (.v 5) (.p (.v 1) (.g (.s 0))) (.c (.bl ac)))
def Zx:CS:=(.z (.set 6 (.p (.v 6) XO)))
def Zy:CS:=(.y 5 (.lstE (.a 2 (.aC (.k (.p (.v 2) (.v 3)) (.i 2)) (.s 3))))
 (.k (.cmp .LtE (.v 1) (.i 64)) (.z (.set 5 (.lstR (.v 2) (.p (.v 3) (.i 1)))))
 (.y 5 XN
 (.y 6 (.lstE .aN)
 (.seq (.for1 7 ae (.v 4) Zx)
 (.z (.set 4 (.v 6))))))))
def Zz:CS:=(.z (.set 1 (.h (.v 1) (.p (.l (.v 3) (.v 2)) (.i 1)))))
def Xn:FD:=⟨1,8,(.y 1 (.i 1)
 (.seq (.for2 2 3 (.v 0) Zz)
 (.y 4 (.lstE (.u (.g .aN)))
 (.seq (.for2 2 3 (.v 0) Zy)
 (.q (.g (.a 1 (.s 4))))))))⟩
def Xm:FD:=⟨4,4,(.q (.cmp .NotEq (.ix (.f 26 (.a 0 (.a 2 (.s 3)))) (.neg (.i 1))) (.ix (.f 26 (.a 1 (.a 2 (.s 3)))) (.neg (.i 1)))))⟩
def WD:CE:=(.comp ae [3,6,0] (.p (.listOf (.v 1)) (.v 4)) (.i 1) (.f 291 (.a 3 (.a 2 (.a 0 (.s 1))))))
def Yy:CS:=(.z (.w (.f 291 (.a 0 (.a 6 (.a 7 (.s 3))))) (.seq (.app 4 (.v 7))
 (.z .brk))))
def Xk:CS:=(.y 6 (.p (.slice (.v 0) .nop (.part (.i 2))) (.g (.u (.p (.p (.slice (.x 0 2) .nop (.part (.x 5 0))) (.g (.u (.x 5 2)))) (.slice (.x 0 2) (.part (.p (.x 5 0) (.i 1))) .nop)))))
 (.y 8 WD
 (.z (.w (.e (.v 8) (.lstE .aN)) (.z (.for1 7 ae (.v 2) Yy))))))
def Wl:FD:=⟨4,9,(.y 4 (.lstE .aN)
 (.seq (.for1 5 ae (.f 172 (.s 0)) Xk)
 (.q (.v 4))))⟩
def VR:CE:=(.comp ae [] (.v 1) (.i 1) (.not (.f 17 (.s 0))))
def XC:CS:=(.z (.w (.or (.not (.isi .tuple (.v 1))) (.cmp .NotEq VR (.lstE .aN))) (.q (.c (.bl ae)))))
def Xl:FD:=⟨1,2,(.k (.not (.isi .tuple (.v 0))) (.q (.c (.bl ae)))
 (.seq (.for1 1 ae (.v 0) XC)
 (.q (.c (.bl ac)))))⟩
def QN:CE:=(.comp ae [] (.f 283 (.a 1 (.a 8 (.s 3)))) (.i 1) (.e (.x 0 0) (.t "found")))
def c_law_k66:FD:=⟨1,9,(.y 1 (.f 30 (.a 0 (.u (.i 3))))
 (.y 2 (.p (.i 5) (.h (.i 2) (.len (.x 1 2))))
 (.y 1 (.f 287 (.a 1 (.u (.m (.f 27 (.a 0 (.s 2))) (.bin .Pow (.i 10) (.i 15))))))
 (.y 3 (.m (.f 27 (.a 0 (.u (.p (.v 2) (.i 1))))) (.i 11))
 (.y 4 (.slice (.f 51 (.a 0 (.aC (.p (.v 2) (.i 2)) (.u (.len (.x 1 0)))))) .nop (.part (.i 2)))
 (.k (.e (.m (.k (.f 27 (.a 0 (.u (.p (.v 2) (.i 1))))) (.i 11)) (.i 4)) (.i 1)) (.z (.set 4 (.h (.slice (.p (.v 4) (.g (.u (.h (.g (.u (.i 0))) (.len (.x 1 0)))))) .nop (.part (.i 1))) (.p (.i 9) (.m (.k (.f 27 (.a 0 (.u (.p (.v 2) (.i 1))))) (.i 44)) (.i 2))))))
 (.seq (.set2 5 6 (.f 195 (.u (.x 1 0))))
 (.k (.cmp .Gt (.len (.v 6)) (.i 27)) (.z (.set 3 (.m (.v 3) (.i 6))))
 (.y 7 (.f 290 (.a 1 (.a 4 (.s 3))))
 (.k (.or (.not (.f 246 (.s 7))) (.cmp .NotEq (.listOf (.v 7)) (.f 38 (.a 1 (.a 4 (.a 6 (.s 3))))))) (.q (.c (.bl ae)))
 (.y 8 (.p (.v 4) (.v 7))
 (.k (.cmp .Gt (.len (.v 8)) (.i 10)) (.q (.c (.bl ac)))
 (.k (.cmp .NotEq (.f 290 (.a 1 (.a 8 (.s 3)))) (.g .aN)) (.q (.c (.bl ae)))
 (.q (.e QN (.lstE .aN))))))))))))))))⟩
end Dp
noncomputable section
namespace Dp
open PySem
def T:Nat->Ot FD
 |42=>aa Wp
 |113=>aa Z5
 |43=>aa VJ
 |56=>aa Wn
 |114=>aa WY
 |57=>aa Y8
 |0=>aa VH
 |1=>aa X1
 |2=>aa YW
 |3=>aa VM
 |4=>aa UX
 |70=>aa Wz
 |147=>aa Va
 |148=>aa Wa
 |170=>aa XE
 |171=>aa ZI
 |150=>aa XD
 |151=>aa Y2
 |158=>aa XG
 |159=>aa ZK
 |153=>aa Wj
 |154=>aa ZT
 |161=>aa XF
 |162=>aa ZJ
 |164=>aa Wi
 |165=>aa ZS
 |172=>aa UW
 |180=>aa WX
 |5=>aa Vt
 |6=>aa UV
 |7=>aa VI
 |8=>aa ZE
 |9=>aa ZO
 |10=>aa Vp
 |11=>aa YC
 |12=>aa Vq
 |13=>aa W1
 |181=>aa YK
 |133=>aa UZ
 |134=>aa XJ
 |135=>aa WZ
 |136=>aa Zcs
 |137=>aa YL
 |138=>aa JC
 |139=>aa Vr
 |73=>aa Y6
 |74=>aa Yf
 |75=>aa Ye
 |76=>aa Z8
 |77=>aa Wo
 |78=>aa Yd
 |79=>aa Xq
 |80=>aa W3
 |81=>aa YM
 |82=>aa W0
 |83=>aa Yb
 |106=>aa JB
 |115=>aa WA
 |116=>aa Xp
 |117=>aa Xr
 |118=>aa XI
 |119=>aa Z1
 |120=>aa W4
 |121=>aa ZV
 |122=>aa VL
 |201=>aa Yp
 |98=>aa W2
 |99=>aa UY
 |140=>aa VN
 |281=>aa Yv
 |282=>aa c_verdict
 |283=>aa Wq
 |289=>aa Yw
 |290=>aa Y7
 |17=>aa Xo
 |27=>aa YG
 |19=>aa Yu
 |28=>aa YH
 |29=>aa Wm
 |284=>aa YJ
 |30=>aa YI
 |51=>aa Y5
 |102=>aa UU
 |31=>aa Y3
 |32=>aa Y4
 |33=>aa Yc
 |34=>aa YA
 |35=>aa XH
 |26=>aa Yz
 |286=>aa Ul
 |287=>aa Yq
 |195=>aa Xn
 |291=>aa Xm
 |38=>aa Wl
 |246=>aa Xl
 |16=>aa c_law_k66
 |_=>ab
abbrev rT:=run T
structure Grw(s s':Za):Prop where
 old:∀ i,i < s.length->s'[i]?=s[i]?
 len:s.length<=s'.length
variable{α:Type}{U':Env}{wk:D->Za->Ot (Li D×(Za->Prop))}{fr:Li Nat}{it elt:CE}
variable{F:Nat->Fn}{s st:Za}{e a b c:CE}{U:Env}{d x y:D}{q p:CS}{n f i j w:Nat}{xs ds:Li D}
section
variable{s' s1 s2:Za}{z:D}{k m:Bool}{t:XA}
def ZB{l:Li α}{x:α}(h:l[i]?=aa x):i < l.length:=(bL.mp h).1
def Grw.refl:Grw s s:=⟨λ_ _=>rfl,aD _⟩
theorem Grw.trans(a:Grw s s1)(b:Grw s1 s2):Grw s s2:=⟨λi h=>(b.old i (aU h a.len)).trans (a.old i h),aM a.len b.len⟩
def Grw.get(g:Grw s s')(h:s[i]?=aa t):s'[i]?=aa t:=(g.old i (ZB h)).trans h
def Grw.push:Grw s (s++[t]):=⟨λi h=>cD h,by rw[aH];omega⟩
def Grw.nil:Grw [] s:=⟨λ_ h=>ar h (Nat.not_lt_zero _),aS _⟩
def Gv(s:Za)(f:Za->Res)(d:D):Prop:=∀ st,Grw s st->∃ st',f st=aa (d,st')/\Grw st st'
def Y(F:Nat->Fn)(s:Za)(e:CE)(U:Env)(d:D):Prop:=Gv s (ev F e U) d
def C(F:Nat->Fn)(s:Za)(f:Nat)(ds:Li D)(d:D):Prop:=Gv s (F f ds) d
def R(F:Nat->Fn)(s:Za)(q:CS)(U:Env)(d:D):Prop:=∀ st,Grw s st->∃ st',ex F q U st=aa (.rt d,st')/\Grw st st'
def rf{f:Za->Res}(x:Za):f x=f x:=rfl
def Y.r(h:∀ st,ev F e U st=aa (d,st)):Y F s e U d:=λst _=>⟨st,h st,.refl⟩
def Y.at(h:∀ st,Grw s st->ev F e U st=aa (d,st)):Y F s e U d:=λst g=>⟨st,h st g,.refl⟩
def Gv.mono{f:Za->Res}(h:Gv s f d)(g:Grw s s'):Gv s' f d:=λst k=>h st (g.trans k)
def C.up(h:C F [] f ds d):C F s f ds d:=Gv.mono h .nil
def g1{g:D->Za->Res}(e:Y F s a U x)(h:Gv s (g x) d):Gv s (Zo (ev F a) g U) d:=λst k=>by
 obtain⟨s1,i,b⟩:=e st k;obtain⟨s2,f,c⟩:=h s1 (k.trans b);exact⟨s2,by unfold Zo;rw[i];exact f,b.trans c⟩
def g2{g:D->D->Za->Res}(l:Y F s a U x)(j:Y F s b U y)(h:Gv s (g x y) d):Gv s (ZQ (ev F a) (ev F b) g U) d:=λst k=>by
 obtain⟨s1,o,c⟩:=l st k;obtain⟨s2,n,e⟩:=j s1 (k.trans c);obtain⟨f,m,i⟩:=h s2 (k.trans (c.trans e));exact⟨f,by unfold ZQ;rw[o];simp only[n];exact m,c.trans (e.trans i)⟩
def gp{f:Za->Res}(h:∀ st,f st=aa (d,st)):Gv s f d:=λst _=>⟨st,h st,.refl⟩
def gs{f:Za->Res}(h:∀ st,Grw s st->f st=aa (d,st)):Gv s f d:=λst k=>⟨st,h st k,.refl⟩
theorem Y.cmp{op:CmpOp}(d:Y F s a U x)(c:Y F s b U y)(h:∀ st,Zcw op x y st=aa k):Y F s (.cmp op a b) U (.bl k):=g2 d c (gp λst=>by unfold ZbG;rw[h])
def gc{e b c:Ev}(i:Gv s (e U) (.bl k))(h:Gv s ((if k then b else c) U) d):Gv s (XM e b c U) d:=λst g=>by
 obtain⟨s1,l,a⟩:=i st g;obtain⟨s2,j,f⟩:=h s1 (g.trans a);exact⟨s2,by unfold XM;rw[l];cases k<;>exact j,a.trans f⟩
theorem Y.and(c:Y F s a U (.bl k))(d:k=ac->Y F s b U (.bl m)):Y F s (.and a b) U (.bl (k&&m)):=by
 cases k
 .exact gc c (gp λ_=>rfl)
 .exact gc c (d rfl)
theorem Y.or(c:Y F s a U (.bl k))(d:k=ae->Y F s b U (.bl m)):Y F s (.or a b) U (.bl (k||m)):=by
 cases k
 .exact gc c (d rfl)
 .exact gc c (gp λ_=>rfl)
theorem Y.not(b:Y F s a U (.bl k)):Y F s (.not a) U (.bl (!k)):=g1 b (gp λ_=>rfl)
theorem Y.ife(e:Y F s c U (.bl k))(h:Y F s (if k then a else b) U d):Y F s (.ife c a b) U d:=by
 cases k<;>exact gc e h
theorem Y.call(b:Y F s a U (.tup xs))(h:C F s f (xs++ds) d):Y F s (.call f a ds) U d:=g1 b h
def Y.cons(e:Y F s a U x)(d:Y F s b U (.tup xs))(c:xs.length < 1000:=by first|decide | (simp only[aO,cV];decide)):Y F s (.aC a b) U (.tup (x :: xs)):=g2 e d (gp λst=>ao c)
def Y.nil:Y F s .aN U (.tup []):=.r rf
def Y.call1(b:Y F s a U x)(h:C F s f [x] d):Y F s (.f f (.u a)) U d:=.call (.cons b .nil) h
theorem R.ret(h:Y F s e U d):R F s (.seq (.ret e) q) U d:=λst g=>by
 obtain⟨s1,b,a⟩:=h st g;exact⟨s1,by show YR (J4 (ev F e)) (ex F q) U st=_;unfold YR J4;rw[b],a⟩
def R.set(h:Y F s e U x)(c:R F s q (Zf U i x) d):R F s (.y i e q) U d:=λst g=>by
 obtain⟨s1,j,a⟩:=h st g;obtain⟨s2,f,b⟩:=c s1 (g.trans a);exact⟨s2,by show YR (Ue i (ev F e)) (ex F q) U st=_;unfold YR Ue;rw[j];exact f,a.trans b⟩
def R.no(h:Y F s e U (.bl ae))(c:R F s q U d):R F s (.seq (.ite e p .skip) q) U d:=λst g=>by
 obtain⟨s1,i,a⟩:=h st g;obtain⟨s2,f,b⟩:=c s1 (g.trans a);exact⟨s2,by show YR (YV (ev F e) (ex F p) (ex F .skip)) (ex F q) U st=_;unfold YR YV;rw[i];exact f,a.trans b⟩
def R.yB(h:Y F s e U (.bl ac))(c:R F s p U d):R F s (.seq (.ite e p .skip) q) U d:=λst g=>by
 obtain⟨s1,i,a⟩:=h st g;obtain⟨s2,f,b⟩:=c s1 (g.trans a);exact⟨s2,by show YR (YV (ev F e) (ex F p) (ex F .skip)) (ex F q) U st=_;unfold YR YV;rw[i];simp only[f],a.trans b⟩
def R.yes(h:Y F s e U (.bl ac))(b:Y F s a U d):R F s (.seq (.ite e (.q a) .skip) q) U d:=.yB h (.ret b)
def ZjO{v:FD}(h:T f=aa v)(a:ds.length=v.ps):rT (n+1) f ds st=match ex (rT n) v.body (ds.map aa++af (v.ns - ds.length) ab) st with
  |some (.rt d,st')=>aa (d,st')
  |some (.nx _,st')=>aa (.non,st')
  |_=>ab:=by
 show(match T f with|some f=>fnD (rT n) f|none=>λ_ _=>ab) ds st=_
 rw[h];exact ao a
def W8{v:FD}(h:T f=aa v)(b:ds.length=v.ps)(a:ex (rT n) v.body (ds.map aa++af (v.ns - ds.length) ab) st=aa (.rt d,s')):rT (n+1) f ds st=aa (d,s'):=by rw[ZjO h b,a]
def Zlr{v:FD}(h:T f=aa v)(b:ds.length=v.ps)(a:ex (rT n) v.body (ds.map aa++af (v.ns - ds.length) ab) st=aa (.nx U',s')):rT (n+1) f ds st=aa (.non,s'):=by rw[ZjO h b,a]
def C.of{v:FD}(h:T f=aa v)(c:ds.length=v.ps)(b:R (rT n) s v.body (ds.map aa++af (v.ns - ds.length) ab) d):C (rT (n+1)) s f ds d:=λst g=>by
 obtain⟨s1,e,a⟩:=b st g;exact⟨s1,W8 h c e,a⟩
def Zc(h:ex F p U st=aa (.nx U',s')):ex F (.seq p q) U st=ex F q U' s':=by
 show YR (ex F p) (ex F q) U st=_;unfold YR;rw[h]
def Zj(h:ex F p U st=aa (.rt d,s')):ex F (.seq p q) U st=aa (.rt d,s'):=by
 show YR (ex F p) (ex F q) U st=_;unfold YR;rw[h]
theorem U0{α:Type}{f g:α->D}{ok:Za->Prop}{fe fc:D->Za->Res}(e:∀ d st,fc d st=aa (.bl ac,st))(b:∀ st,Grw s st->ok st):∀ {l:Li α},(∀ a∈l,Gv s (fe (f a)) (g a))->∀ st,Grw s st->∃ st',Z9 ok fe fc (l.map f) st=aa (l.map g,st')/\Grw st st'
 |[],_,st,k=>⟨st,ao (b st k),.refl⟩
 |x :: xs,h,st,k=>by
  obtain⟨s1,n,c⟩:=h x Ls st k;obtain⟨s2,m,i⟩:=U0 e b (λd j=>h d (Lm _ j)) s1 (k.trans c)
  refine⟨s2,?_,c.trans i⟩;rw[aQ,Z9,ao (b st k),e];simp only[n,m,aQ]
def Lv(s:Za)(f:Za->Res)(xs:Li D):Prop:=∀ st,Grw s st->∃ st' j b,f st=aa (.lst j,st')/\st'[j]?=aa (b,xs)/\Grw st st'
def Zl:(s++[t])[s.length]?=aa t:=by rw[cJ (aD _),Nat.sub_self];rfl
def Wk(F:Nat->Fn)(s:Za)(it:CE)(U:Env)(wk:D->Za->Ot (Li D×(Za->Prop)))(xs:Li D):Prop:=∀ st,Grw s st->∃ x a ok,ev F it U st=aa (x,a)/\Grw st a/\wk x a=aa (xs,ok)/\∀ st',Grw a st'->ok st'
def Wk.of(b:Y F s e U x)(h:∀ st,wk x st=aa (xs,λ_=>True)):Wk F s e U wk xs:=λst k=>by
 obtain⟨s1,c,a⟩:=b st k;exact⟨x,s1,_,c,a,h s1,λ_ _=>trivial⟩
def ZaI{b:D->Li (Ot D)}{en g:α->D}{l:Li α}(m:Wk F s it U wk (l.map en))(j:l.length<=1000)(h:∀ a∈l,Y F s elt (ZP b U fr (en a)) (g a)):Lv s (Yj b wk fr (ev F it) (ev F elt) (ev F (.c (.bl ac))) U) (l.map g):=λst k=>by
 obtain⟨x,s1,ok,q,e,p,i⟩:=m st k;obtain⟨s2,o,f⟩:=U0 (s:=s1) (ok:=ok) (fe:=λd=>ev F elt (ZP b U fr d)) (fc:=λd=>ev F (.c (.bl ac)) (ZP b U fr d)) (λ_ _=>rfl) i (λa n=>Gv.mono (h a n) (k.trans e)) s1 .refl
 refine⟨s2++[(ac,l.map g)],_,_,?_,Zl,(e.trans f).trans .push⟩;unfold Yj;simp only[q,p,aB,ao j,o]
def Jv(h:xs[j]?=aa d):atD xs (j:Int)=aa d:=by
 have:=ZB h;unfold atD ixN;rw[ao (by omega),ao (by omega),Ob,bD,h]
def Y.ixl(c:s[w]?=aa t)(f:Y F s a U (.lst w))(e:Y F s b U (.int (j:Int)))(h:t.2[j]?=aa d):Y F s (.ix a b) U d:=g2 f e (gs λst k=>by
 show ixR (.lst w) (.int (j:Int)) st=_;unfold ixR ixD;simp only[k.get c,Jv h])
def Y.ixt(e:Y F s a U (.tup xs))(c:Y F s b U (.int (j:Int)))(h:xs[j]?=aa d):Y F s (.ix a b) U d:=g2 e c (gp λst=>by
 show ixR (.tup xs) (.int (j:Int)) st=_;unfold ixR ixD;simp only[Jv h])
def Y.lenl(b:s[w]?=aa t)(c:Y F s a U (.lst w)):Y F s (.len a) U (.int (t.2.length:Int)):=g1 c (gs λst k=>by
 show Q6 (.lst w) st=_;unfold Q6 Zfm;simp only[k.get b])
def Lv.sl{e g:Ot Int}(l:s[w]?=aa t)(o:Y F s a U (.lst w))(n:Y F s b U x)(m:Y F s c U y)(h:∀ st,Xb (.lst w) x y st=Yi (.lst w) e g st):Lv s (ev F (.slice a b c) U) (X6 t.2 e g):=λst k=>by
 obtain⟨s1,r,d⟩:=o st k;obtain⟨s2,q,f⟩:=n s1 (k.trans d);obtain⟨j,p,i⟩:=m s2 (k.trans (d.trans f));refine⟨j++[(ac,X6 t.2 e g)],_,_,?_,Zl,(d.trans (f.trans i)).trans .push⟩;show YQ (ev F a) (ev F b) (ev F c) Xb U st=_;unfold YQ;simp only[r,q,p,h];unfold Yi;simp only[(k.trans (d.trans (f.trans i))).get l]
def Lv.mk(h:Y F s e U (.tup xs)):Lv s (ev F (.lstE e) U) xs:=λst k=>by
 obtain⟨s1,b,a⟩:=h st k;exact⟨_,_,_,by show Zo (ev F e) Zfn U st=_;unfold Zo;rw[b];rfl,Zl,a.trans .push⟩
def R.setL(h:Lv s (ev F e U) xs)(f:∀ s' j b,Grw s s'->s'[j]?=aa (b,xs)->R F s' q (Zf U i (.lst j)) d):R F s (.y i e q) U d:=λst g=>by
 obtain⟨s1,j,b,m,k,a⟩:=h st g;obtain⟨s2,l,c⟩:=f s1 j b (g.trans a) k s1 .refl;exact⟨s2,by show YR (Ue i (ev F e)) (ex F q) U st=_;unfold YR Ue;rw[m];exact l,a.trans c⟩
def YE{c:XA}(h:ev F e U st=aa (.lst j,s'))(a:s'[j]?=aa c):ev F (.tOf e) U st=aa (.tup c.2,s'):=by
 show Zo (ev F e) Qy U st=_;unfold Zo;rw[h];show(match s'[j]? with
  |some (_,xs)=>aa (D.tup xs,s')
  |none=>ab)=_
 rw[a]
def ZR(h:ev F e U st=aa (d,s')):ex F (.ret e) U st=aa (.rt d,s'):=by
 show J4 (ev F e) U st=_;unfold J4;rw[h]
def Zk(h:ev F e U st=aa (v,st')):ex F (.set i e) U st=aa (.nx (Zf U i v),st'):=by
 show Ue i (ev F e) U st=_;unfold Ue;rw[h]
def X9(h:ev F e U st=aa (.bl ae,st')):ex F (.ite e p q) U st=ex F q U st':=by
 show YV (ev F e) (ex F p) (ex F q) U st=_;unfold YV;rw[h]
def Yl(h:ev F e U st=aa (.bl ac,st')):ex F (.ite e p q) U st=ex F p U st':=by
 show YV (ev F e) (ex F p) (ex F q) U st=_;unfold YV;rw[h]
def Zi:ex F .skip U st=aa (.nx U,st):=rfl
def Zj5(h:ev F e U st=aa (d,s')):ex F (.act e) U st=aa (.nx U,s'):=by
 show Zcb (ev F e) U st=_;unfold Zcb;rw[h]
end
section
local macro_rules|`(())=>`(.r rf)
local macro_rules|`(∅)=>`(by omega)
local macro_rules|`(#[])=>`(by decide)
variable{st' st1:Za}{U':Env}{ys:Li D}
section
variable{U'':Env}{k:Bool}
structure Kj(j:Nat)(st st':Za):Prop where
 old:∀ i,i < st.length->i≠j->st'[i]?=st[i]?
 len:st.length<=st'.length
def Grw.kj(g:Grw st st'):Kj j st st':=⟨λi h _=>g.old i h,g.len⟩
theorem Kj.trans(a:Kj j st st1)(b:Kj j st1 st'):Kj j st st':=⟨λi h c=>(b.old i (aU h a.len) c).trans (a.old i h c),aM a.len b.len⟩
def Kj.grw(k:Kj j st st')(a:s.length<=j)(g:Grw s st):Grw s st':=⟨λi h=>(k.old i (aU h g.len) ∅).trans (g.old i h),aM g.len k.len⟩
def Vw{c:XA}(h:i < st.length):(st.set i c)[j]?=if i=j then aa c else st[j]?:=by
 rw[List.getElem?_set];split
 .rename_i e;subst e
  first|rfl|rw[ao h]
 .rfl
def Ap(F:Nat->Fn)(s:Za)(j:Nat)(q:CS)(U U':Env)(xs:Li D):Prop:=∀ st a,Grw s st->st[j]?=aa (ac,a)->a.length+xs.length<=900->∃ st',ex F q U st=aa (.nx U',st')/\Kj j st st'/\st'[j]?=aa (ac,a++xs)
theorem Ap.skip:Ap F s j .skip U U []:=λst a g h _=>⟨st,rfl,Grw.refl.kj,by rw[bB];exact h⟩
theorem Ap.seq(f:s.length<=j)(k:Ap F s j q U U' xs)(i:Ap F s j p U' U'' ys):Ap F s j (.seq q p) U U'' (xs++ys):=λst a g h e=>by
 rw[aH]at e;obtain⟨s1,m,g1,d⟩:=k st a g h ∅
 obtain⟨b,l,g2,c⟩:=i s1 _ (g1.grw f g) d (by rw[aH];omega)
 exact⟨b,by show YR (ex F q) (ex F p) U st=_;unfold YR;rw[m];exact l,g1.trans g2,by rw[<-bF];exact c⟩
def Ap.one(h:Ap F s j q U U' xs):Ap F s j (.z q) U U' xs:=λst a g d c=>by
 obtain⟨s1,e,g1,b⟩:=h st a g d c;exact⟨s1,by show YR (ex F q) (ex F .skip) U st=_;unfold YR;rw[e];rfl,g1,b⟩
theorem Ap.app(o:U[i]?=aa (jL j))(h:Y F s e U d):Ap F s j (.app i e) U U [d]:=λst a g n f=>by
 obtain⟨s1,p,b⟩:=h st g;have c:=b.get n;have f:a.length+1<=900:=f;refine⟨s1.set j (ac,a++[d]),?_,⟨λm l k=>?_,by rw[bJ];exact b.len⟩,by rw[Vw (ZB c),ao rfl]⟩
 .show Zci i (ev F e) U st=_
  unfold Zci Zcg;simp only[o,p,c];rw[ao (by unfold Zt;omega)]
 .rw[Vw (ZB c),aq (Ne.symm k)]
  exact b.old m l
theorem Ap.ite(h:Y F s e U (.bl k))(f:Ap F s j (if k then q else p) U U' xs):Ap F s j (.ite e q p) U U' xs:=λst b g l i=>by
 obtain⟨s1,n,a⟩:=h st g;obtain⟨c,m,g2,d⟩:=f s1 b (g.trans a) (a.get l) i;exact⟨c,by show YV (ev F e) (ex F q) (ex F p) U st=_;unfold YV;rw[n];cases k<;>exact m,a.kj.trans g2,d⟩
theorem Ap.set(h:Y F s e U d):Ap F s j (.set i e) U (Zf U i d) []:=λst f g b k=>by
 obtain⟨s1,c,a⟩:=h st g;exact⟨s1,by show Ue i (ev F e) U st=_;unfold Ue;rw[c],a.kj,by rw[bB];exact a.get b⟩
end
variable{q':CS}
variable{Q:D->Za->Prop}
section
variable{st2:Za}{m:Bool}{c:Nat}{tx:Str}
def Lv.v(b:s[j]?=aa (m,xs))(h:Y F s e U (.lst j)):Lv s (ev F e U) xs:=λst g=>by
 obtain⟨s1,c,a⟩:=h st g;exact⟨s1,j,m,c,(g.trans a).get b,a⟩
def Lv.mono{f:Za->Res}(h:Lv s f xs)(g:Grw s st):Lv st f xs:=λst1 k=>h st1 (g.trans k)
def Lv.cat(k:Lv s (ev F a U) xs)(j:Lv s (ev F b U) ys)(i:xs.length+ys.length<=Zt):Lv s (ev F (.p a b) U) (xs++ys):=λst g=>by
 obtain⟨s1,h,r,o,m,e⟩:=k st g;obtain⟨c,f,q,n,l,d⟩:=j s1 (g.trans e);refine⟨c++[(ac,xs++ys)],_,_,?_,Zl,(e.trans d).trans .push⟩;show ZQ (ev F a) (ev F b) (UT .Add) U st=_;unfold ZQ;simp only[o,n];show ZbE h f c=_;unfold ZbE;simp only[d.get m,l];exact ao i
def RP(F:Nat->Fn)(q:CS)(U:Env)(st:Za)(Q:D->Za->Prop):Prop:=∃ d st',ex F q U st=aa (.rt d,st')/\Grw st st'/\Q d st'
def RP.pre(h:ex F q U st=ex F q' U' st1)(g:Grw st st1)(a:RP F q' U' st1 Q):RP F q U st Q:=by
 obtain⟨d,st',e,b,k⟩:=a;exact⟨d,st',h.trans e,g.trans b,k⟩
def RP.setL(h:Lv s (ev F e U) xs)(g:Grw s st)(d:∀ a j b,Grw st a->a[j]?=aa (b,xs)->RP F q (Zf U i (.lst j)) a Q):RP F (.y i e q) U st Q:=by
 obtain⟨s1,j,b,k,f,c⟩:=h st g;exact .pre (Zc (Zk k)) c (d s1 j b c f)
def RP.setY(h:Y F s e U d)(g:Grw s st)(c:∀ a,Grw st a->RP F q (Zf U i d) a Q):RP F (.y i e q) U st Q:=by
 obtain⟨s1,f,b⟩:=h st g;exact .pre (Zc (Zk f)) b (c s1 b)
def RP.no{p:CS}(h:Y F s e U (.bl ae))(g:Grw s st)(c:∀ a,Grw st a->RP F q U a Q):RP F (.seq (.ite e p .skip) q) U st Q:=by
 obtain⟨s1,d,b⟩:=h st g;exact .pre (Zc ((X9 d).trans Zi)) b (c s1 b)
theorem RP.ret(h:Y F s e U d)(g:Grw s st)(c:∀ a,Grw st a->Q d a):RP F (.seq (.ret e) q) U st Q:=by
 obtain⟨s1,f,b⟩:=h st g;exact⟨d,s1,Zj (ZR f),b,c s1 b⟩
def RP.yes{p:CS}(h:Y F s e U (.bl ac))(g:Grw s st)(i:∀ a,Grw st a->RP F p U a Q):RP F (.seq (.ite e p .skip) q) U st Q:=by
 obtain⟨s1,l,b⟩:=h st g;obtain⟨d,c,k,f,j⟩:=i s1 b;exact⟨d,c,Zj ((Yl l).trans k),b.trans f,j⟩
def CP(F:Nat->Fn)(f:Nat)(ds:Li D)(st:Za)(Q:D->Za->Prop):Prop:=∃ d st',F f ds st=aa (d,st')/\Grw st st'/\Q d st'
def CP.of{v:FD}{f:Nat}{ds:Li D}(h:T f=aa v)(c:ds.length=v.ps)(b:RP (rT n) v.body (ds.map aa++af (v.ns - ds.length) ab) st Q):CP (rT (n+1)) f ds st Q:=by
 obtain⟨d,s1,g,a,e⟩:=b;exact⟨d,s1,W8 h c g,a,e⟩
end
def Sm(a:Int):Prop:=-1000000000<=a/\a<=999999999
variable{m sz:Nat}{ns:Li Int}
section
variable{i j k c:Int}{op:Operator}
def Y.bi(d:Y F s a U (.int i))(c:Y F s b U (.int j))(h:Zck op i j=aa k):Y F s (.bin op a b) U (.int k):=g2 d c (gp λst=>by
 show UT op (.int i) (.int j) st=_;unfold UT;simp only[h])
def Y.add(d:Y F s a U (.int i))(c:Y F s b U (.int j)):Y F s (.p a b) U (.int (i+j)):=.bi d c rfl
def Y.sub(d:Y F s a U (.int i))(c:Y F s b U (.int j)):Y F s (.l a b) U (.int (i - j)):=.bi d c rfl
def Y.mul(d:Y F s a U (.int i))(c:Y F s b U (.int j))(h:ZZ j=ac):Y F s (.h a b) U (.int (i * j)):=.bi d c (by show(if ZZ i||ZZ j then aa (i * j) else ab)=_;rw[h,Bool.or_true];rfl)
def Y.md(d:Y F s a U (.int i))(c:Y F s b U (.int j))(h:0 < j):Y F s (.m a b) U (.int (i % j)):=.bi d c (ao h)
def Y.fd(d:Y F s a U (.int i))(c:Y F s b U (.int j))(h:0 < j/\j < 1073741824):Y F s (.k a b) U (.int (i / j)):=.bi d c (ao h)
def Y.ixL{j:Nat}(k:Lv s (ev F a U) xs)(i:Y F s b U (.int (j:Int)))(h:xs[j]?=aa d):Y F s (.ix a b) U d:=λst g=>by
 obtain⟨s1,q,t,n,l,f⟩:=k st g;obtain⟨c,m,e⟩:=i s1 (g.trans f);refine⟨c,?_,f.trans e⟩;show ZQ (ev F a) (ev F b) ixR U st=_;unfold ZQ;simp only[n,m];show ixR (.lst q) (.int (j:Int)) c=_;unfold ixR ixD;simp only[e.get l,Jv h]
def Zp(i:Int)(h:0 < j):0<=i % j/\i % j < j:=⟨Int.emod_nonneg _ ∅,Int.emod_lt_of_pos _ h⟩
def Q7(h:-(2 ^ 64) < i/\i < 2 ^ 64):ZZ i=ac:=by unfold ZZ;rw[aK h.1,aK h.2];rfl
end
variable{st1:Za}
variable{N:Nat}
def JN{v:Int}(b:v < 2 ^ 62)(a:-(2 ^ 62)<=v):VY ac (.int v)=aa ((ag v.toNat).map λ(k:Nat)=>D.int (k:Int)):=by
 show(if v < 2 ^ 62/\-(2 ^ 62)<=v then aa ((ag v.toNat).map λ(k:Nat)=>D.int (k:Int)) else ab)=_
 rw[ao ⟨b,a⟩]
def WH{v:Int}(b:v < 2 ^ 62)(a:-(2 ^ 62)<=v)(c:ev F e U st=aa (.int v,st1)):ex F (.for1 i ac e q) U st=Zh (λd U s=>ex F q (Zf U i d) s) ((ag v.toNat).map λ(k:Nat)=>D.int (k:Int)) U st1:=by
 show VT i ac (ev F e) (ex F q) U st=_;unfold VT;rw[c];simp only[JN b a]
noncomputable def arI(x:Int):Int:=(x+1000000000) % 2000000000 - 1000000000
noncomputable def fdI(i j:Int):Int:=if 0 < j then i / j else i.fdiv j
def rkI(a:Int)(g:Str)(b:Int):Int:=if g=S "+" then arI (a+b) else if g=S "-" then arI (a - b) else if g=S "*" then arI (a * b) else if g=S "/" then (if b=0 then 0 else arI (fdI a b)) else if b=0 then a else a - b * fdI a b
def soI(a:Int)(g:Str)(b:Int):Bool:=if g=S "<" then aj (a < b) else if g=S "<=" then aj (a<=b) else if g=S "=" then aj (a=b) else if g=S ">=" then aj (b<=a) else if g=S ">" then aj (b < a) else !decide (a=b)
def psL:Li Str:=[S "+",S "-",S "*",S "/",S "mod"]
def isL:Li Str:=[S "<",S "<=",S "=",S ">=",S ">",S "!="]
inductive Op where
 |nm (i:Nat)|nu (v:Int)
 deriving DecidableEq
noncomputable def opE:Op->D
 |.nm i=>.tup [.str "name",.int (i:Int)]
 |.nu v=>.tup [.str "number",.int v]
def Wx(m:Nat):Op->Prop
 |.nm i=>i < m
 |.nu v=>Sm v
inductive Rw where
 |put (x:Nat) (y:Op) (g:Str) (z:Op)|ifr (y:Op) (g:Str) (z:Op) (t:Nat)|go (t:Nat)|tell (y:Op)|skip
 deriving DecidableEq
def rwE:Rw->D
 |.put x y g z=>.tup [.str "put",.int (x:Int),opE y,.str g,opE z]
 |.ifr y g z t=>.tup [.str "if",opE y,.str g,opE z,.int (t:Int)]
 |.go t=>.tup [.str "go",.int (t:Int)]
 |.tell y=>.tup [.str "tell",opE y]
 |.skip=>.tup [.str "skip"]
def Zw(m sz:Nat):Rw->Prop
 |.put x y g z=>x < m/\Wx m y/\g∈psL/\Wx m z
 |.ifr y g z t=>Wx m y/\g∈isL/\Wx m z/\t<=sz
 |.go t=>t<=sz
 |.tell y=>Wx m y
 |.skip=>True
noncomputable def woI(vs:Li Int):Op->Int
 |.nm i=>vs.getD i 0
 |.nu v=>v
structure Vs(m:Nat)(vs:List Int):Prop where
 l:vs.length=m
 s:∀ v∈vs,Sm v
noncomputable def inZ(vs:Li Int):Li D:=vs.map D.int
variable{vs:Li Int}{g:Str}{o:Op}{r:Rw}
section
variable{i j:Int}
def Uu:Sm (arI i):=by
 have:=Zp (i+1000000000) (j:=2000000000) #[]
 unfold Sm arI;omega
def Zkl(h:j≠0):(0 < j/\j * fdI i j<=i/\i < j * fdI i j+j)\/(j < 0/\i<=j * fdI i j/\j * fdI i j+j < i):=by
 unfold fdI;by_cases a:0 < j
 .rw[ao a]
  have b:=Int.mul_ediv_add_emod i j;have d:=Int.emod_nonneg i h;have e:=Int.emod_lt_of_pos i a;exact .inl ⟨a,∅,∅⟩
 .rw[aq a]
  have b:=Int.fmod_def i j;have d:j < 0:=by omega
  have e:=Int.emod_nonneg i h;have g:i % j < -j:=by have:=Int.emod_lt i h;omega
  rw[Int.fmod_eq_emod]at b;by_cases c:j ∣ i
  .rw[ao (.inr c),Int.emod_eq_zero_of_dvd c]at b
   exact .inr ⟨d,∅,∅⟩
  .have f:i % j≠0:=λz=>c (Int.dvd_of_emod_eq_zero z)
   rw[aq ∅]at b
   exact .inr ⟨d,∅,∅⟩
def ZdV(a:Sm i)(e:Sm j):Sm (rkI i g j):=by
 unfold rkI;split
 .exact Uu
 .split
  .exact Uu
  .split
   .exact Uu
   .split
    .split
     .exact⟨#[],#[]⟩
     .exact Uu
    .split
     .exact a
     .rename_i h
      have:=Zkl (i:=i) h;unfold Sm at *
      rcases this with⟨d,c,b⟩|⟨d,c,b⟩
      .generalize j * fdI i j=q at *
       omega
      .generalize j * fdI i j=q at *
       omega
theorem Y.v{i:Nat}(h:U[i]?=aa (aa d)):Y F s (.v i) U d:=.r λst=>by show XQ i U st=_;unfold XQ;rw[h]
def Y.fdv(f:Y F s a U (.int i))(e:Y F s b U (.int j))(h:j≠0)(d:Sm j):Y F s (.k a b) U (.int (fdI i j)):=.bi f e (by
 unfold Sm at d;show(if 0 < j/\j < 1073741824 then aa (i / j) else if j < 0/\-1073741824 < j then aa (i.fdiv j) else ab)=_
 unfold fdI;by_cases c:0 < j
 .rw[ao c,ao ⟨c,∅⟩]
 .rw[aq c,aq ∅,ao ⟨∅,∅⟩])
def Qb(h:Sm j):ZZ j=ac:=Q7 (by unfold Sm at h;omega)
def Y.arx(b:Y F s a U (.int i)):Y F s (.l (.m (.p a (.i 1000000000)) (.i 2000000000)) (.i 1000000000)) U (.int (arI i)):=.sub (.md (.add b ()) () #[]) ()
def Xc:C (rT (n+1)) s 0 [.int i] (.int (arI i)):=.of (v:=VH) rfl rfl (.ret (.arx ()))
def ZiD(a:Sm j):C (rT (n+2)) s 1 [.int i,.int j] (.int (if j=0 then 0 else arI (fdI i j))):=by
 by_cases h:j=0
 .subst h;exact .of (v:=X1) rfl rfl (.yes () ())
 .rw[aq h]
  exact .of (v:=X1) rfl rfl (.no (.cmp () () λ_=>au aa (aG h)) (.ret (.call1 (.fdv () () h a) Xc)))
def ZgT(a:Sm j):C (rT (n+1)) s 2 [.int i,.int j] (.int (if j=0 then i else i - j * fdI i j)):=by
 by_cases h:j=0
 .subst h;exact .of (v:=YW) rfl rfl (.yes () ())
 .rw[aq h]
  refine .of (v:=YW) rfl rfl (.no (.cmp () () λ_=>au aa (aG h)) (.ret (.sub () (.bi (i:=j) (j:=fdI i j) () (.fdv () () h a) ?_))))
  show(if ZZ j||ZZ (fdI i j) then aa (j * fdI i j) else ab)=_
  rw[Qb a];rfl
def Y.eqs{x y:Str}(d:Y F s a U (.str x))(c:Y F s b U (.str y)):Y F s (.e a b) U (.bl (aj (x=y))):=.cmp d c λ_=>rfl
def R.pick{k:Bool}{q p:CS}(h:Y F s e U (.bl k))(b:k=ac->R F s p U d)(a:k=ae->R F s q U d):R F s (.seq (.ite e p .skip) q) U d:=by
 cases k
 .exact .no h (a rfl)
 .exact .yB h (b rfl)
def ZiK(e:Sm i)(c:Sm j):C (rT (n+3)) s 3 [.int i,.str g,.int j] (.int (rkI i g j)):=by
 unfold rkI;refine .of (v:=VM) rfl rfl (.pick (.eqs () ()) (λh=>?_) λh=>.pick (.eqs () ()) (λa=>?_) λa=>.pick (.eqs () ()) (λb=>?_) λb=>.pick (.eqs () ()) (λd=>?_) λd=>?_)
 .rw[ao (am h)];exact .ret (.call1 (.add () ()) Xc)
 .rw[aq (ak h),ao (am a)];exact .ret (.call1 (.sub () ()) Xc)
 .rw[aq (ak h),aq (ak a),ao (am b)];exact .ret (.call1 (.mul () () (Qb c)) Xc)
 .rw[aq (ak h),aq (ak a),aq (ak b),ao (am d)];exact .ret (.call (xs:=[.int i,.int j]) () (ZiD c))
 .rw[aq (ak h),aq (ak a),aq (ak b),aq (ak d)];exact .ret (.call (xs:=[.int i,.int j]) () (ZgT c))
def ZiM:C (rT (n+1)) s 4 [.int i,.str g,.int j] (.bl (soI i g j)):=by
 unfold soI;refine .of (v:=UX) rfl rfl (.pick (.eqs () ()) (λh=>?_) λh=>.pick (.eqs () ()) (λa=>?_) λa=>.pick (.eqs () ()) (λb=>?_) λb=>.pick (.eqs () ()) (λc=>?_) λc=>.pick (.eqs () ()) (λd=>?_) λd=>?_)
 .rw[ao (am h)];exact .ret ()
 .rw[aq (ak h),ao (am a)];exact .ret ()
 .rw[aq (ak h),aq (ak a),ao (am b)];exact .ret ()
 .rw[aq (ak h),aq (ak a),aq (ak b),ao (am c)];exact .ret ()
 .rw[aq (ak h),aq (ak a),aq (ak b),aq (ak c),ao (am d)];exact .ret ()
 .rw[aq (ak h),aq (ak a),aq (ak b),aq (ak c),aq (ak d)];exact .ret ()
def ZgP{i:Nat}(a:Vs m vs)(h:i < m):(inZ vs)[i]?=aa (.int (woI vs (.nm i))):=by
 have b:=a.l;unfold inZ;rw[aT,Lg ∅]
 show aa (D.int vs[i])=aa (D.int (vs.getD i 0));rw[aV,Lg ∅];rfl
def UM(a:Vs m vs)(h:Wx m o):Sm (woI vs o):=by
 cases o with
 |nm i=>
  have b:=a.l;have c:i < m:=h;show Sm (vs.getD i 0);rw[aV,Lg ∅]
  exact a.s _ (cM _)
 |nu v=>exact h
def Wu(a:Vs m vs)(h:Wx m o):C (rT (n+1)) s 5 [opE o,.tup (inZ vs)] (.int (woI vs o)):=by
 cases o with
 |nm i=>exact .of (v:=Vt) rfl rfl (.yes () (.ixt (j:=i) () () (ZgP a h)))
 |nu v=>exact .of (v:=Vt) rfl rfl (.no () (.ret ()))
end
def pgD(a:D)(m:Nat)(rs:Li Rw):D:=.tup [a,.int (m:Int),.tup (rs.map rwE)]
def stD(k:Nat)(vs:Li Int):D:=.tup [.int (k:Int),.tup (inZ vs)]
noncomputable def noD:D:=.tup [.str "none"]
noncomputable def laD:D:=.tup [.str "late"]
noncomputable def teD(v:Int):D:=.tup [.str "told",.int v]
def vsN(vs:Li Int):Rw->Li Int
 |.put x y g z=>vs.set x (rkI (woI vs y) g (woI vs z))
 |_=>vs
def pkN(k:Nat)(vs:Li Int):Rw->Nat
 |.go t=>t
 |.ifr y g z t=>if soI (woI vs y) g (woI vs z)=ac then t else k+1
 |_=>k+1
def mv(rs:Li Rw)(k:Nat)(vs:Li Int):Sum D (Nat×Li Int):=match rs[k]? with
 |none=>.inl noD
 |some (.tell y)=>.inl (teD (woI vs y))
 |some r=>.inr (pkN k vs r,vsN vs r)
def oc(rs:Li Rw):Nat->Nat->Li Int->D
 |0,k,_=>if rs.length<=k then noD else laD
 |n+1,k,vs=>match mv rs k vs with
  |.inl o=>o
  |.inr p=>oc rs n p.1 p.2
def tl(rs:Li Rw):Nat->Nat->Li Int->Li D
 |0,k,_=>[if rs.length<=k then noD else laD]
 |n+1,k,vs=>match mv rs k vs with
  |.inl o=>[o]
  |.inr p=>stD p.1 p.2 :: tl rs n p.1 p.2
structure Rs(m:Nat)(rs:List Rw):Prop where
 l:rs.length<=50
 ok:∀ r∈rs,Zw m rs.length r
noncomputable def v0(m:Nat)(ins:Li Int):Li Int:=ins++af (m - ins.length) 0
variable{tk:D}{k:Nat}{ins:Li Int}{rs:Li Rw}
def Zcz{j:Nat}:sIx w j (aa (i:Int))=Nat.min i w:=by
 show(if (i:Int) < 0 then ((i:Int)+(w:Int)).toNat else Nat.min (i:Int).toNat w)=_
 rw[aq ∅,bD]
def Zhh(h:i<=xs.length):X6 xs ab (aa (i:Int))=xs.take i:=by
 unfold X6;rw[Zcz,show Nat.min i xs.length=i from Nat.min_eq_left h];rfl
def Zhg(h:i<=xs.length):X6 xs (aa (i:Int)) ab=xs.drop i:=by
 unfold X6;rw[Zcz,show Nat.min i xs.length=i from Nat.min_eq_left h];exact eQ (by rw[cF];exact aD _)
def sl_tup{a b:Ot Int}:Yi (.tup xs) a b st=aa (.tup (X6 xs a b),st):=by
 show(if sIx xs.length 0 a=0/\sIx xs.length xs.length b=xs.length then aa (D.tup xs,st) else aa (.tup (X6 xs a b),st))=_
 split
 .rename_i h
  unfold X6;rw[h.1,h.2,bX,dY,List.take_length]
 .rfl
def Y.tkT(j:Y F s a U (.tup xs))(f:Y F s b U (.int (i:Int)))(h:i<=xs.length):Y F s (.slice a .nop (.part b)) U (.tup (xs.take i)):=λst g=>by
 obtain⟨s1,l,d⟩:=j st g;obtain⟨c,k,e⟩:=f s1 (g.trans d);refine⟨c,?_,d.trans e⟩;show YQ (ev F a) (evC .non) (Zo (ev F b) V9) Xb U st=_;unfold YQ Zo evC;simp only[l,k];show Yi (.tup xs) ab (aa (i:Int)) c=_;rw[sl_tup,Zhh h]
def Y.dpT(j:Y F s a U (.tup xs))(f:Y F s b U (.int (i:Int)))(h:i<=xs.length):Y F s (.slice a (.part b) .nop) U (.tup (xs.drop i)):=λst g=>by
 obtain⟨s1,l,d⟩:=j st g;obtain⟨c,k,e⟩:=f s1 (g.trans d);refine⟨c,?_,d.trans e⟩;show YQ (ev F a) (Zo (ev F b) V9) (evC .non) Xb U st=_;unfold YQ Zo evC;simp only[l,k];show Yi (.tup xs) (aa (i:Int)) ab c=_;rw[sl_tup,Zhg h]
def Y.adT(d:Y F s a U (.tup xs))(c:Y F s b U (.tup ys))(h:xs.length+ys.length<=100000):Y F s (.p a b) U (.tup (xs++ys)):=g2 d c (gp λst=>by
 show(if Q0 .Add=ac/\xs.length+ys.length<=Zt then aa (D.tup (xs++ys),st) else ab)=_
 exact ao ⟨rfl,by unfold Zt;omega⟩)
def Y.rep(e:Y F s a U d)(c:Y F s b U (.int (i:Int)))(h:i<=1000):Y F s (.h (.g (.u a)) b) U (.tup (af i d)):=g2 (x:=.tup [d]) (.cons e .nil) c (gp λst=>by
 show(if (i:Int)<=1000/\-1000<=(i:Int) then aa (D.tup (af (i:Int).toNat d),st) else ab)=_
 rw[ao ⟨∅,∅⟩,bD])
def Y.lnT(b:Y F s a U (.tup xs)):Y F s (.len a) U (.int (xs.length:Int)):=g1 b (gp λst=>rfl)
def YY(h:i < xs.length)(a:xs.length<=1000):C (rT (n+1)) s 42 [.tup xs,.int (i:Int),d] (.tup (xs.set i d)):=by
 rw[show xs.set i d=(xs.take i++[d])++xs.drop (i+1) by rw[bF];exact List.set_eq_take_append_cons_drop.trans (ao h)]
 refine .of (v:=Wp) rfl rfl (.ret (.adT (.adT (.tkT () () ∅) (.cons () .nil) ?_) (.dpT (i:=i+1) () (by rw[bE];exact .add () ()) ∅) ?_))
 .rw[cI];show _+1<=_;omega
 .rw[aH,cI,cF];show _+1+_<=_;omega
def Zej(a:ins.length<=m)(h:∀ v∈ins,Sm v):Vs m (v0 m ins):=by
 unfold v0;refine⟨by rw[aH,bV];omega,λv hv=>?_⟩
 rcases bA.mp hv with hv|hv
 .exact h v hv
 .rw[(List.mem_replicate.mp hv).2];exact⟨#[],#[]⟩
def Zev(b:ins.length<=m)(d:m<=1000):C (rT (n+1)) s 6 [pgD tk m rs,.tup (inZ ins)] (stD 0 (v0 m ins)):=by
 unfold stD v0 inZ;rw[bP,eB];refine .of (v:=UV) rfl rfl (.ret (.cons () (.cons (.adT () (.rep (i:=m - ins.length) () ?_ ∅) (by rw[aB,bV];omega)) .nil)))
 have c:Y (rT n) s (.len (.v 1)) [aa (pgD tk m rs),aa (.tup (ins.map D.int))] (.int (ins.length:Int)):=by
  have:=Y.lnT (F:=rT n) (s:=s) (a:=.v 1) (U:=[aa (pgD tk m rs),aa (.tup (ins.map D.int))]) (xs:=ins.map D.int) ();rw[aB]at this;exact this
 rw[Int.natCast_sub b];exact .sub () c
def Zge:C (rT (n+1)) s 7 [pgD tk m rs,stD k vs] (.bl (aj (rs.length<=k))):=by
 have b:Y (rT n) s (.len (.x 0 2)) [aa (pgD tk m rs),aa (stD k vs)] (.int (rs.length:Int)):=by
  have:=Y.lnT (F:=rT n) (s:=s) (a:=.x 0 2) (U:=[aa (pgD tk m rs),aa (stD k vs)]) (xs:=rs.map rwE) ();rw[aB]at this;exact this
 exact .of (v:=VI) rfl rfl (.ret (.cmp () b λ_=>by show aa (aj ((rs.length:Int)<=(k:Int)))=_;exact au aa (fH ∅)))
def Zd4{j:Int}:(inZ vs).set i (.int j)=inZ (vs.set i j):=by unfold inZ;rw[eC]
def ZgZ(a:Vs m vs)(j:m<=1000)(h:Zw m w r)(e:∀ y,r≠.tell y):C (rT (n+4)) s 8 [rwE r,.tup (inZ vs)] (.tup (inZ (vsN vs r))):=by
 cases r with
 |put x y g z=>
  obtain⟨f,c,o,b⟩:=h;have k:=a.l;refine .of (v:=ZE) rfl rfl (.no () (.set (.call (xs:=[.int (woI vs y),.str g,.int (woI vs z)]) (.cons (.call (xs:=[opE y,.tup (inZ vs)]) () (Wu a c)) (.cons () (.cons (.call (xs:=[opE z,.tup (inZ vs)]) () (Wu a b)) .nil))) (ZiK (UM a c) (UM a b))) (.ret (.call (xs:=[.tup (inZ vs),.int (x:Int),.int (rkI (woI vs y) g (woI vs z))]) () ?_))))
  have:=YY (n:=n+2) (s:=s) (xs:=inZ vs) (i:=x) (d:=.int (rkI (woI vs y) g (woI vs z))) (by unfold inZ;rw[aB];omega) (by unfold inZ;rw[aB];omega)
  rw[Zd4]at this;exact this
 |ifr y g z t=>exact .of (v:=ZE) rfl rfl (.yes () ())
 |go t=>exact .of (v:=ZE) rfl rfl (.yes () ())
 |tell y=>exact ar rfl (e y)
 |skip=>exact .of (v:=ZE) rfl rfl (.yes () ())
def ZeD(a:Vs m vs)(h:Zw m w r)(d:∀ y,r≠.tell y):C (rT (n+2)) s 9 [rwE r,.int (k:Int),.tup (inZ vs)] (.int (pkN k vs r:Int)):=by
 have one:∀ {U:Env},U[1]?=aa (jN k)->Y (rT (n+1)) s (.p (.v 1) (.i 1)) U (.int ((k+1:Nat):Int)):=λ{U} h=>by
  rw[bE];exact .add (.v h) ()
 cases r with
 |put x y g z=>exact .of (v:=ZO) rfl rfl (.no () (.no () (.ret (one rfl))))
 |go t=>exact .of (v:=ZO) rfl rfl (.yes () ())
 |skip=>exact .of (v:=ZO) rfl rfl (.no () (.no () (.ret (one rfl))))
 |tell y=>exact ar rfl (d y)
 |ifr y g z t=>
  obtain⟨c,f,b,e⟩:=h;refine .of (v:=ZO) rfl rfl (.no () (.pick (k:=ac&&soI (woI vs y) g (woI vs z)) (.and () λ_=>.call (xs:=[.int (woI vs y),.str g,.int (woI vs z)]) (.cons (.call (xs:=[opE y,.tup (inZ vs)]) () (Wu a c)) (.cons () (.cons (.call (xs:=[opE z,.tup (inZ vs)]) () (Wu a b)) .nil))) ZiM) (λq=>?_) λq=>?_))
  .rw[dL]at q
   show R _ _ _ _ (.int ((if soI (woI vs y) g (woI vs z)=ac then t else k+1:Nat):Int))
   rw[ao q];exact .ret ()
  .rw[dL]at q
   show R _ _ _ _ (.int ((if soI (woI vs y) g (woI vs z)=ac then t else k+1:Nat):Int))
   rw[aq (by rw[q];decide)]
   exact .ret (one rfl)
def mvD(rs:Li Rw)(k:Nat)(vs:Li Int):D:=match mv rs k vs with
 |.inl o=>o
 |.inr p=>stD p.1 p.2
def ZeB(i:Rs m rs)(l:m<=1000)(d:Vs m vs):C (rT (n+5)) s 10 [pgD tk m rs,stD k vs] (mvD rs k vs):=by
 have c:=Y.call (F:=rT (n+4)) (s:=s) (a:=.a 0 (.s 1)) (U:=[aa (pgD tk m rs),aa (stD k vs),ab,ab,ab]) (xs:=[pgD tk m rs,stD k vs]) (ds:=[]) () (Zge (n:=n+3));unfold mvD mv;cases q:rs[k]? with
 |none=>
  rw[aK (eP.mp q)]at c;exact .of (v:=Vp) rfl rfl (.yes c ())
 |some r=>
  have o:=ZB q;rw[aG ∅]at c
  have ok:=i.ok r (aY q);have h:Y (rT (n+4)) s (.ix (.x 0 2) (.v 2)) [aa (pgD tk m rs),aa (stD k vs),jN k,aa (.tup (inZ vs)),ab] (rwE r):=.ixt (j:=k) (xs:=rs.map rwE) () () (by rw[aT,q];rfl)
  refine .of (v:=Vp) rfl rfl (.no c (.set () (.set () (.set h ?_))));have b:(∀ y,r≠.tell y)->R (rT (n+4)) s (.q (.g (.aC (.f 9 (.a 4 (.a 2 (.s 3)))) (.u (.f 8 (.a 4 (.s 3))))))) [aa (pgD tk m rs),aa (stD k vs),jN k,aa (.tup (inZ vs)),aa (rwE r)] (stD (pkN k vs r) (vsN vs r)):=λe=>.ret (.cons (.call (xs:=[rwE r,.int (k:Int),.tup (inZ vs)]) () (ZeD (n:=n+2) d ok e)) (.cons (.call (xs:=[rwE r,.tup (inZ vs)]) () (ZgZ d l ok e)) .nil))
  cases r with
  |tell y=>exact .yes () (.cons () (.cons (.call (xs:=[opE y,.tup (inZ vs)]) () (Wu d ok)) .nil))
  |put x y g z=>exact .no () (b λy z=>nomatch z)
  |ifr y g z t=>exact .no () (b λy z=>nomatch z)
  |go t=>exact .no () (b λy z=>nomatch z)
  |skip=>exact .no () (b λy z=>nomatch z)
variable{x2:Ot D}
variable{L:Nat}{acc:Li D}
def enD(rs:Li Rw)(k:Nat):D:=if rs.length<=k then noD else laD
noncomputable def isO:D->Bool
 |.tup (.str _ :: _)=>ac
 |_=>ae
def Jb(a:Vs m vs)(d:Rs m rs){p:Nat×Li Int}(h:mv rs k vs=.inr p):Vs m p.2:=by
 unfold mv at h;cases q:rs[k]? with
 |none=>rw[q]at h;cases h
 |some r=>
  rw[q]at h;have ok:=d.ok r (aY q);cases r with
  |tell y=>cases h
  |put x y g z=>
   cases h;obtain⟨e,c,f,b⟩:=ok;refine⟨by show(vs.set x _).length=m;rw[bJ];exact a.l,λv h=>?_⟩
   rcases eY h with h|h
   .exact a.s v h
   .rw[h];exact ZdV (UM a c) (UM a b)
  |ifr y g z t=>cases h;exact a
  |go t=>cases h;exact a
  |skip=>cases h;exact a
def ZhG{o:D}(h:mv rs k vs=.inl o):isO o=ac/\∃ a,o=.tup (.str (if rs.length<=k then S "none" else S "told") :: a):=by
 unfold mv at h;cases q:rs[k]? with
 |none=>rw[q]at h;cases h;exact⟨rfl,[],by rw[ao (eP.mp q)];rfl⟩
 |some r=>
  rw[q]at h;have:=ZB q;cases r with
  |tell y=>cases h;exact⟨rfl,[.int (woI vs y)],by rw[aq ∅];rfl⟩
  |_=>cases h
def Zgf{k:Bool}(h:(∃ x a,d=.tup (.str x :: a)/\k=ac)\/(∃ i a,d=.tup (.int i :: a)/\k=ae)):C (rT (n+1)) s 11 [d] (.bl k):=by
 rcases h with⟨x,a,rfl,rfl⟩|⟨i,a,rfl,rfl⟩
 .exact .of (v:=YC) rfl rfl (.ret (g1 (x:=.str x) (.ixt (j:=0) () () rfl) (gp λ_=>rfl)))
 .exact .of (v:=YC) rfl rfl (.ret (g1 (x:=.int i) (.ixt (j:=0) () () rfl) (gp λ_=>rfl)))
def Zf6{y z:Ot D}(H:Rs m rs)(J:m<=1000)(G:Vs m vs)(N:s.length<=j)(g:Grw s st)(h:st[j]?=aa (ac,acc))(M:acc.length < 900){x0:Ot D}:match mv rs k vs with
  |.inl o=>∃ st',Kj j st st'/\ex (rT (n+5)) ZN [aa (pgD tk m rs),x0,x2,aa (stD k vs),jL j,y,z] st=aa (.rt (.tup (acc++[o])),st')
  |.inr p=>∃ st',Kj j st st'/\st'[j]?=aa (ac,acc++[stD p.1 p.2])/\ex (rT (n+5)) ZN [aa (pgD tk m rs),x0,x2,aa (stD k vs),jL j,y,z] st=aa (.nx [aa (pgD tk m rs),x0,x2,aa (stD p.1 p.2),jL j,y,aa (stD p.1 p.2)],st'):=by
 obtain⟨s1,L,u⟩:=Y.call (F:=rT (n+5)) (s:=s) (a:=.a 0 (.s 3)) (U:=[aa (pgD tk m rs),x0,x2,aa (stD k vs),jL j,y,z]) (xs:=[pgD tk m rs,stD k vs]) (ds:=[]) () (ZeB H J G) st g;obtain⟨b,K,E,l⟩:=Ap.app (F:=rT (n+5)) (s:=s) (j:=j) (i:=4) (e:=.v 6) (U:=[aa (pgD tk m rs),x0,x2,aa (stD k vs),jL j,y,aa (mvD rs k vs)]) (d:=mvD rs k vs) rfl () s1 acc (g.trans u) (u.get h) (by show _+1<=900;omega)
 have pre:∀ {r},ex (rT (n+5)) (.seq (.ite (.f 11 (.s 6)) (.q (.tOf (.v 4))) .skip) (.z (.set 3 (.v 6)))) [aa (pgD tk m rs),x0,x2,aa (stD k vs),jL j,y,aa (mvD rs k vs)] b=r->ex (rT (n+5)) ZN [aa (pgD tk m rs),x0,x2,aa (stD k vs),jL j,y,z] st=r:=λh=>(Zc (Zk L)).trans ((Zc K).trans h)
 have B:=u.kj.trans E;cases q:mv rs k vs with
 |inl o=>
  have w:mvD rs k vs=o:=by unfold mvD;rw[q]
  rw[w]at l pre;obtain⟨_,C,I⟩:=ZhG q;obtain⟨t,A,c⟩:=Y.call1 (F:=rT (n+5)) (s:=b) (f:=11) (a:=.v 6) (x:=o) (U:=[aa (pgD tk m rs),x0,x2,aa (stD k vs),jL j,y,aa o]) () (Zgf (n:=n+4) (.inl ⟨_,C,I,rfl⟩)) b .refl;exact⟨t,B.trans c.kj,pre (Zj ((Yl A).trans (Zj (ZR (YE rfl (c.get l))))))⟩
 |inr p=>
  have w:mvD rs k vs=stD p.1 p.2:=by unfold mvD;rw[q]
  rw[w]at l pre;obtain⟨t,A,c⟩:=Y.call1 (F:=rT (n+5)) (s:=b) (f:=11) (a:=.v 6) (x:=stD p.1 p.2) (U:=[aa (pgD tk m rs),x0,x2,aa (stD k vs),jL j,y,aa (stD p.1 p.2)]) () (Zgf (n:=n+4) (.inr ⟨_,_,rfl,rfl⟩)) b .refl;exact⟨t,B.trans c.kj,c.get l,pre ((Zc ((X9 A).trans Zi)).trans ((Zc (Zk rfl)).trans Zi))⟩
theorem Zbi(E:Rs m rs)(H:m<=1000)(G:s.length<=j){x0 x2:Ot D}:∀ (M a k:Nat) (vs:Li Int) (acc:Li D) (st:Za) (y z:Ot D),Vs m vs->Grw s st->st[j]?=aa (ac,acc)->acc.length+M<=900->
  (∃ l b c x w st',Vs m b/\tl rs M k vs=c++[enD rs l]/\Zh (λd U s=>ex (rT (n+5)) ZN (Zf U 5 d) s) ((List.range' a M).map λ(k:Nat)=>D.int (k:Int)) [aa (pgD tk m rs),x0,x2,aa (stD k vs),jL j,y,z] st=aa (.nx [aa (pgD tk m rs),x0,x2,aa (stD l b),jL j,x,w],st')/\Kj j st st'/\st'[j]?=aa (ac,acc++c)) \/
  (∃ st',Zh (λd U s=>ex (rT (n+5)) ZN (Zf U 5 d) s) ((List.range' a M).map λ(k:Nat)=>D.int (k:Int)) [aa (pgD tk m rs),x0,x2,aa (stD k vs),jL j,y,z] st=aa (.rt (.tup (acc++tl rs M k vs)),st')/\Kj j st st')
 |0,a,k,vs,acc,st,y,z,t,g,h,_=>.inl ⟨k,vs,[],y,z,st,t,rfl,rfl,Grw.refl.kj,by rw[bB];exact h⟩
 |M+1,a,k,vs,acc,st,y,z,t,g,h,N=>by
  have i:=Zf6 (n:=n) (tk:=tk) (k:=k) (y:=jN a) (z:=z) (x0:=x0) (x2:=x2) E H t G g h ∅
  rw[eO,aQ];have C:∀ {r},ex (rT (n+5)) ZN [aa (pgD tk m rs),x0,x2,aa (stD k vs),jL j,jN a,z] st=r->Zh (λd U s=>ex (rT (n+5)) ZN (Zf U 5 d) s) (D.int (a:Int) :: (List.range' (a+1) M).map λ(k:Nat)=>D.int (k:Int)) [aa (pgD tk m rs),x0,x2,aa (stD k vs),jL j,y,z] st=match r with
    |some (.nx U',st')=>Zh (λd U s=>ex (rT (n+5)) ZN (Zf U 5 d) s) ((List.range' (a+1) M).map λ(k:Nat)=>D.int (k:Int)) U' st'
    |some (.ct U',st')=>Zh (λd U s=>ex (rT (n+5)) ZN (Zf U 5 d) s) ((List.range' (a+1) M).map λ(k:Nat)=>D.int (k:Int)) U' st'
    |some (.bk U',st')=>aa (.nx U',st')
    |some (.rt v,st')=>aa (.rt v,st')
    |none=>ab:=λ{r} e=>by rw[<-e];rfl
  unfold tl;cases q:mv rs k vs with
  |inl o=>
   rw[q]at i;obtain⟨st',f,u⟩:=i;exact .inr ⟨st',C u,f⟩
  |inr p=>
   rw[q]at i;obtain⟨st1,f,L,u⟩:=i;have F:(acc++[stD p.1 p.2]).length+M<=900:=by rw[aH];show _+1+M<=900;omega
   rcases Zbi E H G M (a+1) p.1 p.2 _ st1 (jN a) (aa (stD p.1 p.2)) (Jb t E q) (f.grw G g) L F with⟨l,b,c,x,w,st',K,J,B,A,I⟩|⟨st',B,A⟩
   .exact .inl ⟨l,b,stD p.1 p.2 :: c,x,w,st',K,by show stD p.1 p.2 :: tl rs M p.1 p.2=_;rw[J];rfl,(C u).trans B,f.trans A,by rw[I,bF];rfl⟩
   .exact .inr ⟨st',(C u).trans (B.trans (by rw[bF];rfl)),f.trans A⟩
def UQ(V:Rs m rs)(I:m<=1000)(K:ins.length<=m)(T:∀ v∈ins,Sm v)(hL:L<=800):C (rT (n+6)) s 12 [pgD tk m rs,.tup (inZ ins),.int (L:Int)] (.tup (stD 0 (v0 m ins) :: tl rs L 0 (v0 m ins))):=λst g=>by
 have S:=Zej K T;obtain⟨s1,O,x⟩:=Y.call (F:=rT (n+5)) (s:=s) (f:=6) (a:=.a 0 (.s 1)) (U:=[aa (pgD tk m rs),aa (.tup (inZ ins)),jN L,ab,ab,ab,ab]) (xs:=[pgD tk m rs,.tup (inZ ins)]) (ds:=[]) () (Zev K I) st g;have H:ex (rT (n+5)) (.set 4 (.lstE (.s 3))) [aa (pgD tk m rs),aa (.tup (inZ ins)),jN L,aa (stD 0 (v0 m ins)),ab,ab,ab] s1=aa (.nx [aa (pgD tk m rs),aa (.tup (inZ ins)),jN L,aa (stD 0 (v0 m ins)),jL s1.length,ab,ab],s1++[(ac,[stD 0 (v0 m ins)])]):=Zk rfl
 have g2:Grw s (s1++[(ac,[stD 0 (v0 m ins)])]):=(g.trans x).trans .push;have N:Grw st (s1++[(ac,[stD 0 (v0 m ins)])]):=x.trans .push;have fr:=WH (F:=rT (n+5)) (i:=5) (e:=.v 2) (q:=ZN) (U:=[aa (pgD tk m rs),aa (.tup (inZ ins)),jN L,aa (stD 0 (v0 m ins)),jL s1.length,ab,ab]) (st:=s1++[(ac,[stD 0 (v0 m ins)])]) (v:=(L:Int)) ∅ ∅ rfl
 rw[bD,eM]at fr;have J:s.length<=s1.length:=aM g.len x.len;have o:st.length<=s1.length:=x.len;rcases Zbi (n:=n) (tk:=tk) (x0:=aa (.tup (inZ ins))) (x2:=jN L) V I J L 0 0 (v0 m ins) [stD 0 (v0 m ins)] _ ab ab S g2 Zl (by show 1+L<=900;omega) with⟨h,b,l,B,A,z,w1,E,y,w,P⟩|⟨z,y,w⟩
 .obtain⟨G,e4,Q,W⟩:=Ap.app (F:=rT (n+5)) (s:=s) (j:=s1.length) (i:=4) (e:=.ife (.f 7 (.a 0 (.s 3))) (.g (.u (.t "none"))) (.g (.u (.t "late")))) (U:=[aa (pgD tk m rs),aa (.tup (inZ ins)),jN L,aa (stD h b),jL s1.length,B,A]) (d:=enD rs h) rfl (.ife (.call (xs:=[pgD tk m rs,stD h b]) () (Zge (n:=n+4))) (by
   unfold enD;by_cases c:rs.length<=h
   .rw[ao c,aK c];exact .r rf
   .rw[aq c,aG c];exact .r rf)) z _ (w.grw J g2) P (by
    have:l.length<=L:=by
     have Z:=au List.length E;rw[aH]at Z;have X:∀ {M k:Nat}{vs:Li Int},(tl rs M k vs).length<=M+1:=λ{M}=>by
      induction M with
      |zero=>intro k vs;exact aD _
      |succ M R=>
       intro k vs;unfold tl;split
       .show 1<=_;omega
       .rename_i p _;have:=R (k:=p.1) (vs:=p.2);rw[aO];omega
     have:=X (M:=L) (k:=0) (vs:=v0 m ins);have h3:([enD rs h]:Li D).length=1:=rfl;omega
    rw[aH];show 1+l.length+1<=900;omega)
  refine⟨G,W8 (v:=Vq) rfl rfl ((Zc (Zk O)).trans ((Zc H).trans ((Zc (fr.trans y)).trans ((Zc e4).trans (Zj (ZR ?_)))))),(w.trans Q).grw o N⟩;have:=YE (F:=rT (n+5)) (e:=.v 4) (U:=[aa (pgD tk m rs),aa (.tup (inZ ins)),jN L,aa (stD h b),jL s1.length,B,A]) (st:=G) rfl W;rw[this,E];rfl
 .exact⟨z,W8 (v:=Vq) rfl rfl ((Zc (Zk O)).trans ((Zc H).trans (Zj (fr.trans y)))),w.grw o N⟩
section
variable{l:Li Nat}
def Zec:tl rs n k vs≠[]:=by
 cases n with
 |zero=>exact cR _ _
 |succ n=>unfold tl;split<;>exact cR _ _
theorem Qx:∀ {n k:Nat}{vs:Li Int},(tl rs n k vs).getLastD .non=oc rs n k vs
 |0,k,vs=>rfl
 |n+1,k,vs=>by
  unfold tl oc;cases q:mv rs k vs with
  |inl o=>rfl
  |inr p=>
   show(stD p.1 p.2 :: tl rs n p.1 p.2).getLastD .non=oc rs n p.1 p.2;rw[<-Qx (n:=n)];cases h:tl rs n p.1 p.2 with
   |nil=>exact ar h Zec
   |cons z a=>rfl
def Zap(h:xs≠[])(a:xs.length<=100000):atD xs (-1)=aa (xs.getLastD .non):=by
 have b:0 < xs.length:=dM.mpr h;unfold atD ixN;rw[aq #[],ao ∅,Ob,show(-1+(xs.length:Int)).toNat=xs.length - 1 by omega,<-List.getLast?_eq_getElem?,List.getLastD_eq_getLast?]
 cases q:xs.getLast? with
 |none=>exact ar (List.getLast?_eq_none_iff.mp q) h
 |some z=>rfl
def Y.lastT(c:Y F s a U (.tup xs))(h:xs≠[])(b:xs.length<=100000):Y F s (.ix a (.neg (.i 1))) U (xs.getLastD .non):=g2 (y:=.int (-1)) c () (gp λst=>by
 show ixR (.tup xs) (.int (-1)) st=_;unfold ixR ixD;simp only[Zap h b])
theorem Uh:∀ {M k:Nat}{vs:Li Int},(tl rs M k vs).length<=M+1
 |0,k,vs=>aD _
 |M+1,k,vs=>by
  unfold tl;split
  .show 1<=_;omega
  .rename_i p _;have:=Uh (M:=M) (k:=p.1) (vs:=p.2);rw[aO];omega
end
section
variable{l:Li Nat}
theorem Q8{I:Nat->Env->Prop}{body:D->Env->Za->Ot (Fl×Za)}:∀ {xs:Li D} (a:Nat) (U:Env) (st1:Za),(∀ i d U b,xs[i]?=aa d->I (a+i) U->Grw st1 b->∃ U' c,body d U b=aa (.nx U',c)/\Grw b c/\I (a+i+1) U')->I a U->∃ U' b,Zh body xs U st1=aa (.nx U',b)/\Grw st1 b/\I (a+xs.length) U'
 |[],a,U,st1,_,h=>⟨U,st1,rfl,.refl,h⟩
 |x :: xs,a,U,st1,k,h=>by
  obtain⟨f,m,r,j,t⟩:=k 0 x U st1 rfl h .refl;obtain⟨e,l,q,n,s⟩:=Q8 (xs:=xs) (a+1) f m (λi d U b p o g=>by
   have:=k (i+1) d U b p (by rw[show a+(i+1)=a+1+i by omega];exact o) (j.trans g)
   rw[show a+(i+1)+1=a+1+i+1 by omega]at this
   exact this) t
  refine⟨e,l,?_,j.trans n,by rw[aO,show a+(xs.length+1)=a+1+xs.length by omega];exact s⟩
  show(match body x U st1 with
   |some (.nx U',st')=>Zh body xs U' st'
   |some (.ct U',st')=>Zh body xs U' st'
   |some (.bk U',st')=>aa (.nx U',st')
   |some (.rt v,st')=>aa (.rt v,st')
   |none=>ab)=_
  rw[r];exact q
def WG{bb:Bool}(a:ev F e U st=aa (.lst j,st1))(h:st1[j]?=aa (bb,xs)):ex F (.for1 i ae e q) U st=ZA (λd U s=>ex F q (Zf U i d) s) j xs.length 0 U st1:=by
 show VT i ae (ev F e) (ex F q) U st=_;unfold VT;rw[a];show(match st1[j]? with
  |some (_,xs)=>ZA (λd U s=>ex F q (Zf U i d) s) j xs.length 0 U st1
  |none=>ab)=_
 rw[h]
def for_tup(a:ev F e U st=aa (.tup xs,st1)):ex F (.for1 i ae e q) U st=Zh (λd U s=>ex F q (Zf U i d) s) xs U st1:=by
 show VT i ae (ev F e) (ex F q) U st=_;unfold VT;rw[a];rfl
def Zaf(t:k<=60):C (rT (n+1)) s 43 [.int (k:Int)] (.int ((2 ^ k:Nat):Int)):=λst g=>by
 obtain⟨U',j,f,m,y,rfl⟩:=Q8 (st1:=st) (I:=λi U=>∃ y,U=[jN k,aa (.int ((2 ^ i:Nat):Int)),y]) (body:=λd U s=>ex (rT n) Wh (Zf U 2 d) s) (xs:=(ag k).map λ(k:Nat)=>D.int (k:Int)) 0 [jN k,aa (.int ((2 ^ 0:Nat):Int)),ab] (λi d U c u o g2=>by
  obtain⟨y,rfl⟩:=o;obtain⟨h,p,l⟩:=Y.mul (F:=rT n) (s:=c) (a:=.v 1) (b:=.i 2) (U:=[jN k,aa (.int ((2 ^ (0+i):Nat):Int)),aa d]) () () rfl c .refl;refine⟨_,h,(Zc (Zk p)).trans Zi,l,aa d,?_⟩;rw[show((2 ^ (0+i+1):Nat):Int)=((2 ^ (0+i):Nat):Int) * 2 by rw[Nat.pow_succ,eD];rfl]
  rfl) ⟨ab,rfl⟩
 have fr:=WH (F:=rT n) (i:=2) (e:=.v 0) (q:=Wh) (U:=[jN k,aa (.int ((2 ^ 0:Nat):Int)),ab]) (st:=st) (v:=(k:Int)) ∅ ∅ rfl
 rw[bD]at fr;rw[aB,bM,bK]at f;exact⟨j,W8 (v:=VJ) rfl rfl ((Zc (Zk rfl)).trans ((Zc (fr.trans f)).trans (Zj (ZR rfl)))),m⟩
end
def nxt(l:Li Str)(g:Str):Str:=l.getD ((l.idxOf g+1) % l.length) (S "")
def cnt(g:Str):Str:=if g=S "<" then S ">=" else if g=S ">=" then S "<" else if g=S "<=" then S ">" else if g=S ">" then S "<=" else if g=S "=" then S "!=" else S "="
def WK:Op->Li Op
 |.nu v=>[.nu (arI (v+1))]
 |.nm _=>[]
def sgR:Rw->Li Rw
 |.put x y g z=>[.put x y (nxt psL g) z]
 |.ifr y g z t=>[.ifr y (nxt isL g) z t]
 |_=>[]
def moR:Rw->Li Rw
 |.put x y g z=>(WK y).map (λq=>.put x q g z)++(WK z).map (λq=>.put x y g q)
 |.ifr y g z t=>(WK y).map (λq=>.ifr q g z t)++(WK z).map (λq=>.ifr y g q t)
 |.tell y=>(WK y).map .tell
 |_=>[]
def tuR:Rw->Li Rw
 |.ifr y g z t=>[.ifr y (cnt g) z t]
 |_=>[]
noncomputable def ouR:Rw->Li Rw
 |.skip=>[]
 |_=>[.skip]
noncomputable def swR:Rw->Li Rw
 |.put x y g z=>if y=z then [] else [.put x z g y]
 |.ifr y g z t=>if y=z then [] else [.ifr z g y t]
 |_=>[]
noncomputable def faR(sz:Nat):Rw->Li Rw
 |.ifr y g z t=>if sz<=t then [] else [.ifr y g z (t+1)]
 |.go t=>if sz<=t then [] else [.go (t+1)]
 |_=>[]
variable{z:Op}{obj:D}
def ZiC(h:(xs=[.kt psL,.str g]/\g∈psL/\d=.str (nxt psL g))\/(xs=[.kt isL,.str g]/\g∈isL/\d=.str (nxt isL g))):C (rT (n+1)) s 70 xs d:=by
 rcases h with⟨rfl,h,rfl⟩|⟨rfl,h,rfl⟩
 .simp only[psL,aF,aW,or_false]at h
  rcases h with rfl|rfl|rfl|rfl|rfl<;>exact .of (v:=Wz) rfl rfl (.ret (.r λst=>by rfl))
 .simp only[isL,aF,aW,or_false]at h
  rcases h with rfl|rfl|rfl|rfl|rfl|rfl<;>exact .of (v:=Wz) rfl rfl (.ret (.r λst=>by rfl))
def Zka(h:Zw m sz r):C (rT (n+2)) s 171 [obj,rwE r,.int (sz:Int)] (.tup ((sgR r).map rwE)):=by
 cases r with
 |put x y g z=>
  obtain⟨_,_,a,_⟩:=h;exact .of (v:=ZI) rfl rfl (.yes () (.cons (.call (xs:=[rwE (.put x y g z),.int ((3:Nat):Int),.str (nxt psL g)]) (.cons () (.cons () (.cons (.call (xs:=[.kt psL,.str g]) () (ZiC (.inl ⟨rfl,a,rfl⟩))) .nil))) (YY (i:=3) (by show 3 < 5;decide) (by show 5<=1000;decide))) .nil))
 |ifr y g z t=>
  obtain⟨_,a,_,_⟩:=h;exact .of (v:=ZI) rfl rfl (.no () (.yes () (.cons (.call (xs:=[rwE (.ifr y g z t),.int ((2:Nat):Int),.str (nxt isL g)]) (.cons () (.cons () (.cons (.call (xs:=[.kt isL,.str g]) () (ZiC (.inr ⟨rfl,a,rfl⟩))) .nil))) (YY (i:=2) (by show 2 < 5;decide) (by show 5<=1000;decide))) .nil)))
 |go t=>exact .of (v:=ZI) rfl rfl (.no () (.no () (.ret ())))
 |tell y=>exact .of (v:=ZI) rfl rfl (.no () (.no () (.ret ())))
 |skip=>exact .of (v:=ZI) rfl rfl (.no () (.no () (.ret ())))
def Zkc(h:Zw m sz r):C (rT (n+2)) s 159 [obj,rwE r,.int (sz:Int)] (.tup ((tuR r).map rwE)):=by
 cases r with
 |ifr y g z t=>
  obtain⟨_,a,_,_⟩:=h;refine .of (v:=ZK) rfl rfl (.no () (.ret (.cons (.call (xs:=[rwE (.ifr y g z t),.int ((2:Nat):Int),.str (cnt g)]) (.cons () (.cons () (.cons ?_ .nil))) (YY (i:=2) (by show 2 < 5;decide) (by show 5<=1000;decide))) .nil)))
  simp only[isL,aF,aW,or_false]at a;rcases a with rfl|rfl|rfl|rfl|rfl|rfl<;>exact .r λst=>rfl
 |put x y g z=>exact .of (v:=ZK) rfl rfl (.yes () ())
 |go t=>exact .of (v:=ZK) rfl rfl (.yes () ())
 |tell y=>exact .of (v:=ZK) rfl rfl (.yes () ())
 |skip=>exact .of (v:=ZK) rfl rfl (.yes () ())
def Zj9:C (rT (n+1)) s 154 [obj,rwE r,.int (sz:Int)] (.tup ((ouR r).map rwE)):=by
 cases r with
 |skip=>exact .of (v:=ZT) rfl rfl (.yes () ())
 |put x y g z=>exact .of (v:=ZT) rfl rfl (.no () (.ret ()))
 |ifr y g z t=>exact .of (v:=ZT) rfl rfl (.no () (.ret ()))
 |go t=>exact .of (v:=ZT) rfl rfl (.no () (.ret ()))
 |tell y=>exact .of (v:=ZT) rfl rfl (.no () (.ret ()))
def op_eq:eqS st (opE o) (opE z)=aa (aj (o=z)):=by
 cases o with
 |nm i=>cases z with
  |nm j=>
   show aa (aj (S "name"=S "name")&&(aj ((i:Int)=(j:Int))&&ac))=_;rw[aK rfl,dL,dX];exact au aa (fH ⟨λh=>by rw[Int.ofNat_inj.mp h],λh=>by cases h;rfl⟩)
  |nu v=>
   show aa (aj (S "name"=S "number")&&(aj ((i:Int)=v)&&ac))=_;rw[show aj (S "name"=S "number")=ae by decide +kernel]
   exact au aa (aG λh=>nomatch h).symm
 |nu u=>cases z with
  |nm j=>
   show aa (aj (S "number"=S "name")&&(aj (u=(j:Int))&&ac))=_;rw[show aj (S "number"=S "name")=ae by decide +kernel]
   exact au aa (aG λh=>nomatch h).symm
  |nu v=>
   show aa (aj (S "number"=S "number")&&(aj (u=v)&&ac))=_;rw[aK rfl,dL,dX];exact au aa (fH ⟨λh=>by rw[h],λh=>by cases h;rfl⟩)
def Y.neO(d:Y F s a U (opE o))(c:Y F s b U (opE z)):Y F s (.cmp .NotEq a b) U (.bl (!decide (o=z))):=.cmp d c λst=>by
 show(eqS st (opE o) (opE z)).map Bool.not=_;rw[op_eq];rfl
def Zkb:C (rT (n+1)) s 162 [obj,rwE r,.int (sz:Int)] (.tup ((swR r).map rwE)):=by
 cases r with
 |put x y g z=>
  refine .of (v:=ZJ) rfl rfl (.pick (k:=ac&&!decide (y=z)) (.and () λ_=>.neO () ()) (λh=>?_) λh=>.no () ?_)
  .have:¬y=z:=λe=>by rw[aK e]at h;cases h
   show R _ _ _ _ (.tup ((if y=z then [] else [Rw.put x z g y]).map rwE))
   rw[aq this];exact .ret ()
  .have:y=z:=by
    by_cases e:y=z
    .exact e
    .rw[aG e]at h;cases h
   show R _ _ _ _ (.tup ((if y=z then [] else [Rw.put x z g y]).map rwE))
   rw[ao this];exact .ret ()
 |ifr y g z t=>
  refine .of (v:=ZJ) rfl rfl (.no () (.pick (k:=ac&&!decide (y=z)) (.and () λ_=>.neO () ()) (λh=>?_) λh=>?_))
  .have:¬y=z:=λe=>by rw[aK e]at h;cases h
   show R _ _ _ _ (.tup ((if y=z then [] else [Rw.ifr z g y t]).map rwE))
   rw[aq this];exact .ret ()
  .have:y=z:=by
    by_cases e:y=z
    .exact e
    .rw[aG e]at h;cases h
   show R _ _ _ _ (.tup ((if y=z then [] else [Rw.ifr z g y t]).map rwE))
   rw[ao this];exact .ret ()
 |go t=>exact .of (v:=ZJ) rfl rfl (.no () (.no () (.ret ())))
 |tell y=>exact .of (v:=ZJ) rfl rfl (.no () (.no () (.ret ())))
 |skip=>exact .of (v:=ZJ) rfl rfl (.no () (.no () (.ret ())))
def Zj7:C (rT (n+1)) s 165 [obj,rwE r,.int (sz:Int)] (.tup ((faR sz r).map rwE)):=by
 have a:∀ {t:Nat},aj ((sz:Int)<=(t:Int))=aj (sz<=t):=λ{t}=>fH ∅
 cases r with
 |go t=>
  refine .of (v:=ZS) rfl rfl (.pick (k:=ae||aj (sz<=t)) (.or () λ_=>.cmp (x:=.int (t:Int)) () () λ_=>au aa a) (λh=>?_) λh=>?_)
  .show R _ _ _ _ (.tup ((if sz<=t then [] else [Rw.go (t+1)]).map rwE))
   rw[ao (am h)];exact .ret ()
  .show R _ _ _ _ (.tup ((if sz<=t then [] else [Rw.go (t+1)]).map rwE))
   rw[aq (ak h)];exact .ret (.cons (.adT (xs:=[.str "go"]) (ys:=[.int ((t+1:Nat):Int)]) () (.cons (by rw[bE];exact .add (i:=(t:Int)) () ()) .nil) (by show 1+1<=_;decide)) .nil)
 |ifr y g z t=>
  refine .of (v:=ZS) rfl rfl (.pick (k:=ae||aj (sz<=t)) (.or () λ_=>.cmp (x:=.int (t:Int)) () () λ_=>au aa a) (λh=>?_) λh=>?_)
  .show R _ _ _ _ (.tup ((if sz<=t then [] else [Rw.ifr y g z (t+1)]).map rwE))
   rw[ao (am h)];exact .ret ()
  .show R _ _ _ _ (.tup ((if sz<=t then [] else [Rw.ifr y g z (t+1)]).map rwE))
   rw[aq (ak h)];exact .ret (.cons (.adT (xs:=[.str "if",opE y,.str g,opE z]) (ys:=[.int ((t+1:Nat):Int)]) () (.cons (by rw[bE];exact .add (i:=(t:Int)) () ()) .nil) (by show 4+1<=_;decide)) .nil)
 |put x y g z=>exact .of (v:=ZS) rfl rfl (.yes (.or (k:=ac) (m:=ae) () λh=>nomatch h) ())
 |tell y=>exact .of (v:=ZS) rfl rfl (.yes (.or (k:=ac) (m:=ae) () λh=>nomatch h) ())
 |skip=>exact .of (v:=ZS) rfl rfl (.yes (.or (k:=ac) (m:=ae) () λh=>nomatch h) ())
variable{i0:Nat}
section
variable{g0:Str}
theorem ZiV{α:Type}{b:α->D}{g:α->Li D}{E:Ot D->Env}(n:∀ y d,Zf (E y) i d=E (aa d))(m:s.length<=j):∀ {l:Li α},(∀ a∈l,Ap F s j q (E (aa (b a))) (E (aa (b a))) (g a))->∀ {y:Ot D}{st:Za}{acc:Li D},Grw s st->st[j]?=aa (ac,acc)->acc.length+(l.flatMap g).length<=900->∃ e st',Zh (λd U s=>ex F q (Zf U i d) s) (l.map b) (E y) st=aa (.nx (E e),st')/\Kj j st st'/\st'[j]?=aa (ac,acc++l.flatMap g)
 |[],_,y,st,acc,k,f,_=>⟨y,st,rfl,Grw.refl.kj,by rw[List.flatMap_nil,bB];exact f⟩
 |a :: l,h,y,st,acc,k,f,t=>by
  rw[bY,aH]at t;obtain⟨s1,x,g1,r⟩:=h a Ls st acc k f ∅
  obtain⟨e,o,w,g2,p⟩:=ZiV n m (λc u=>h c (Lm _ u)) (y:=aa (b a)) (g1.grw m k) r (by rw[aH];omega)
  refine⟨e,o,?_,g1.trans g2,by rw[bY,<-bF];exact p⟩
  rw[aQ];show(match ex F q (Zf (E y) i (b a)) st with
   |some (.nx U',st')=>Zh _ (l.map b) U' st'
   |some (.ct U',st')=>Zh _ (l.map b) U' st'
   |some (.bk U',st')=>aa (.nx U',st')
   |some (.rt v,st')=>aa (.rt v,st')
   |none=>ab)=_
  rw[n,x];exact w
theorem Zg6{α:Type}{en:α->D}{g:α->Li D}{E:Ot D->Env}{la:Nat}{bb:Bool}{all:Li α}(n:∀ y d,Zf (E y) i d=E (aa d))(m:s.length<=j)(l:la≠j)(h:∀ a∈all,Ap F s j q (E (aa (en a))) (E (aa (en a))) (g a)):∀ (M t:Nat) {y:Ot D}{st:Za}{acc:Li D},t+M=all.length->Grw s st->st[la]?=aa (bb,all.map en)->st[j]?=aa (ac,acc)->acc.length+((all.drop t).flatMap g).length<=900->∃ e st',ZA (λd U s=>ex F q (Zf U i d) s) la M t (E y) st=aa (.nx (E e),st')/\Kj j st st'/\st'[j]?=aa (ac,acc++(all.drop t).flatMap g)
 |0,t,y,st,acc,v,k,b,f,_=>⟨y,st,by unfold ZA;rw[b];exact ao (by rw[aB];omega),Grw.refl.kj,by rw[dH ∅,List.flatMap_nil,bB];exact f⟩
 |M+1,t,y,st,acc,v,k,b,f,w=>by
  have c:t < all.length:=by omega
  rw[bR c,bY,aH]at w;obtain⟨s1,z,g1,r⟩:=h _ (cM c) st acc k f ∅
  obtain⟨e,o,x,g2,p⟩:=Zg6 n m l h M (t+1) (y:=aa (en all[t])) ∅ (g1.grw m k) ((g1.old _ (ZB b) l).trans b) r (by rw[aH];omega)
  refine⟨e,o,?_,g1.trans g2,by rw[bR c,bY,<-bF];exact p⟩
  conv=>lhs;unfold ZA
  have u:(all.map en)[t]?=aa (en all[t]):=by rw[aT,Lg c];rfl
  simp only[b,u,n,z];exact x
def Zkh{u v:α->D}{g:α->Li D}{E:Ot D->Ot D->Ot D->Env}{i':Nat}(H:∀ y z w u v,Zf (Zf (E y z w) i u) i' v=E (aa u) (aa v) w)(C:s.length<=j){l:Li α}:(∀ a∈l,∀ w st acc,Grw s st->st[j]?=aa (ac,acc)->acc.length+(g a).length<=900->∃ U' st',(∃ y z w,U'=E y z w)/\ex F q (E (aa (u a)) (aa (v a)) w) st=aa (.nx U',st')/\Kj j st st'/\st'[j]?=aa (ac,acc++g a))->∀ {y z w:Ot D}{st:Za}{acc:Li D},Grw s st->st[j]?=aa (ac,acc)->acc.length+(l.flatMap g).length<=900->∃ d b e st',Yg (λ_=>True) (λx y U S=>ex F q (Zf (Zf U i x) i' y) S) (l.map λa=>(u a,v a)) (E y z w) st=aa (.nx (E d b e),st')/\Kj j st st'/\st'[j]?=aa (ac,acc++l.flatMap g):=by
 induction l with
 |nil=>intro _ y z w st acc k f _;exact⟨y,z,w,st,ao trivial,Grw.refl.kj,by rw[List.flatMap_nil,bB];exact f⟩
 |cons a l A=>
  intro h y z w st acc k f B;rw[bY,aH]at B;obtain⟨_,s1,⟨n,m,o,rfl⟩,J,g1,t⟩:=h a Ls w st acc k f ∅
  obtain⟨d,b,e,p,I,g2,r⟩:=A (λc G=>h c (Lm _ G)) (y:=n) (z:=m) (w:=o) (g1.grw C k) t (by rw[aH];omega)
  refine⟨d,b,e,p,?_,g1.trans g2,by rw[bY,<-bF];exact r⟩
  rw[aQ,Yg,ao trivial];simp only[H,J];exact I
def Lf(s:Za)(f:Za->Res)(xs:Li D):Prop:=∀ st,Grw s st->∃ st' j,f st=aa (.lst j,st')/\st'[j]?=aa (ac,xs)/\Grw st st'
def Lf.lv{f:Za->Res}(h:Lf s f xs):Lv s f xs:=λst g=>by
 obtain⟨s1,j,c,b,a⟩:=h st g;exact⟨s1,j,ac,c,b,a⟩
def V0{b:D->Li (Ot D)}{en g:α->D}{l:Li α}(n:Wk F s it U wk (l.map en))(m:l.length<=1000)(h:∀ a∈l,Y F s elt (ZP b U fr (en a)) (g a)):Lf s (Yj b wk fr (ev F it) (ev F elt) (ev F (.c (.bl ac))) U) (l.map g):=λst k=>by
 obtain⟨x,s1,ok,r,e,q,j⟩:=n st k;obtain⟨f,p,i⟩:=U0 (s:=s1) (ok:=ok) (fe:=λd=>ev F elt (ZP b U fr d)) (fc:=λd=>ev F (.c (.bl ac)) (ZP b U fr d)) (λ_ _=>rfl) j (λa o=>Gv.mono (h a o) (k.trans e)) s1 .refl
 refine⟨f++[(ac,l.map g)],_,?_,Zl,(e.trans i).trans .push⟩;unfold Yj;simp only[r,q,aB,ao m,p]
theorem Ap.ext(k:U[i]?=aa (jL j))(h:Lf s (ev F e U) xs):Ap F s j (.ext i e) U U xs:=λst acc g f o=>by
 obtain⟨s1,q,n,l,a⟩:=h st g;have b:=a.get f;refine⟨s1.set j (ac,acc++xs),?_,⟨λm d c=>?_,by rw[bJ];exact a.len⟩,by rw[Vw (ZB b),ao rfl]⟩
 .show ZcH i (ev F e) U st=_
  unfold ZcH Zhk;simp only[k,n,b,l];rw[ao (by unfold Zt;omega)]
 .rw[Vw (ZB b),aq (Ne.symm c)]
  exact a.old m d
def R.gather{l:Li α}{en:α->D}{g:α->Li D}{E:Ot D->Nat->Env}(w:∀ j,Zf U i0 (.lst j)=E ab j)(t:∀ y j d,Zf (E y j) i d=E (aa d) j)(n:∀ y j,(E y j)[i0]?=aa (jL j))(p:∀ j,Y F s e (E ab j) (.tup (l.map en)))(r:∀ j,s.length<=j->∀ a∈l,Ap F s j q (E (aa (en a)) j) (E (aa (en a)) j) (g a))(o:(l.flatMap g).length<=900):R F s (.y i0 (.lstE .aN) (.seq (.for1 i ae e q) (.q (.tOf (.v i0))))) U (.tup (l.flatMap g)):=λst b=>by
 obtain⟨s1,z,f⟩:=p st.length (st++[(ac,[])]) (b.trans .push);obtain⟨A,h,x,m,u⟩:=ZiV (i:=i) (E:=λy=>E y st.length) (λy d=>t y st.length d) b.len (r st.length b.len) (y:=ab) ((b.trans .push).trans f) (f.get Zl) (by rw[cV,bK];exact o)
 refine⟨h,?_,(f.kj.trans m).grw (aD _) .push⟩;have k:ex F (.set i0 (.lstE .aN)) U st=aa (.nx (E ab st.length),st++[(ac,[])]):=by rw[<-w];exact Zk rfl
 exact(Zc k).trans ((Zc ((for_tup z).trans x)).trans (Zj (ZR (YE (c:=(ac,[]++l.flatMap g)) (by show XQ i0 _ _=_;unfold XQ;rw[n]) u))))
def Zj8(h:Zw m sz r):C (rT (n+2)) s 151 [obj,rwE r,.int (sz:Int)] (.tup ((moR r).map rwE)):=by
 have c:∀ (l:Li (Nat×Li Rw)),(∀ {s:Za},C (rT (n+1)) s 113 [rwE r] (.tup (l.map λp=>D.int (p.1:Int))))->(l.flatMap λp=>p.2.map rwE)=(moR r).map rwE->((moR r).map rwE).length<=900->(∀ p∈l,∀ j,s.length<=j->Ap (rT (n+1)) s j Yt [aa obj,aa (rwE r),jN sz,jL j,jN p.1] [aa obj,aa (rwE r),jN sz,jL j,jN p.1] (p.2.map rwE))->C (rT (n+2)) s 151 [obj,rwE r,.int (sz:Int)] (.tup ((moR r).map rwE)):=λl J I F H=>by
  rw[<-I]at F ⊢;exact .of (v:=Y2) rfl rfl (.gather (i0:=3) (i:=4) (E:=λy j=>[aa obj,aa (rwE r),jN sz,jL j,y]) (en:=λp:Nat×Li Rw=>D.int (p.1:Int)) (g:=λp=>p.2.map rwE) (λ_=>rfl) (λ_ _ _=>rfl) (λ_ _=>rfl) (λj=>.call1 () J) (λj A p b=>H p b j A) F)
 have one:∀ {a:Li D}{p j:Nat}{o:Op}{f:Op->Rw},rwE r=.tup a->a.length<=5->a[p]?=aa (opE o)->(∀ q,.tup (a.set p (opE q))=rwE (f q))->Ap (rT (n+1)) s j Yt [aa obj,aa (rwE r),jN sz,jL j,jN p] [aa obj,aa (rwE r),jN sz,jL j,jN p] (((WK o).map f).map rwE):=λ{a p j o f} L M G K=>by
  rw[L];have B:∀ {s:Za},Y (rT (n+1)) s (.ix (.v 1) (.v 4)) [aa obj,aa (.tup a),jN sz,jL j,jN p] (opE o):=.ixt (j:=p) () () G;cases o with
  |nm i=>exact .one (.ite (k:=ae) (.cmp (x:=.str "name") (.ixt (j:=0) B () rfl) () λ_=>rfl) .skip)
  |nu v=>
   refine .one (.ite (k:=ac) (.cmp (x:=.str "number") (.ixt (j:=0) B () rfl) () λ_=>rfl) (.one (.app rfl ?_)))
   have:=YY (n:=n) (s:=s) (xs:=a) (i:=p) (d:=opE (.nu (arI (v+1)))) (ZB G) ∅
   rw[K]at this;exact .call (xs:=[.tup a,.int (p:Int),opE (.nu (arI (v+1)))]) (.cons () (.cons () (.cons (.cons () (.cons (.call1 (.add (.ixt (j:=1) B () rfl) ()) Xc) .nil)) .nil))) this
 have w:∀ {o:Op},(WK o).length<=1:=λ{o}=>by cases o with
  |nm i=>exact aS _
  |nu v=>exact aD _
 have u:∀ {s:Za}{l:Li D},(match r with|.put _ _ _ _=>[D.int 2,.int 4]|.ifr _ _ _ _=>[.int 1,.int 3]|.tell _=>[.int 1]|_=>[])=l->C (rT (n+1)) s 113 [rwE r] (.tup l):=λ{s l} e=>by
  rw[<-e];cases r<;>exact .of (v:=Z5) rfl rfl (.ret ())
 cases r with
 |put x y g z=>
  refine c [(2,(WK y).map λq=>.put x q g z),(4,(WK z).map λq=>.put x y g q)] (u rfl) (by show _++(_++[])=List.map rwE (_++_);rw[bB,bP]) (by show(List.map rwE (_++_)).length<=900;rw[aB,aH,aB,aB];have:=w (o:=y);have:=w (o:=z);omega) λp b j A=>?_
  simp only[aF,aW,or_false]at b;rcases b with rfl|rfl
  .exact one (f:=λq=>.put x q g z) rfl (by show 5<=5;decide) rfl λq=>rfl
  .exact one (f:=λq=>.put x y g q) rfl (by show 5<=5;decide) rfl λq=>rfl
 |ifr y g z t=>
  refine c [(1,(WK y).map λq=>.ifr q g z t),(3,(WK z).map λq=>.ifr y g q t)] (u rfl) (by show _++(_++[])=List.map rwE (_++_);rw[bB,bP]) (by show(List.map rwE (_++_)).length<=900;rw[aB,aH,aB,aB];have:=w (o:=y);have:=w (o:=z);omega) λp b j A=>?_
  simp only[aF,aW,or_false]at b;rcases b with rfl|rfl
  .exact one (f:=λq=>.ifr q g z t) rfl (by show 5<=5;decide) rfl λq=>rfl
  .exact one (f:=λq=>.ifr y g q t) rfl (by show 5<=5;decide) rfl λq=>rfl
 |tell y=>
  refine c [(1,(WK y).map .tell)] (u rfl) (by show _++[]=_;rw[bB];rfl) (by show(List.map rwE (List.map _ _)).length<=900;rw[aB,aB];have:=w (o:=y);omega) λp b j A=>?_
  rw[aP.mp b];exact one (f:=.tell) rfl (by show 2<=5;decide) rfl λq=>rfl
 |go t=>exact c [] (u rfl) rfl (aS _) λp b=>nomatch b
 |skip=>exact c [] (u rfl) rfl (aS _) λp b=>nomatch b
end
structure Stp where
 c:Nat
 t:Nat
 v:Nat
 w:Str
 f:Rw->List Rw
def stp(sz:Nat):Li Stp:=[⟨169,171,170,S "sign",sgR⟩,⟨149,151,150,S "more",moR⟩,⟨157,159,158,S "turn",tuR⟩,⟨152,154,153,S "out",ouR⟩,⟨160,162,161,S "swap",swR⟩,⟨163,165,164,S "far",faR sz⟩]
def tD(p:Nat×Str×Rw):D:=.tup [.int (p.1:Int),.str p.2.1,rwE p.2.2]
def fkR(sz k:Nat)(r:Rw):Li (Nat×Str×Rw):=(stp sz).flatMap λp=>(p.f r).map λq=>(k,p.w,q)
def fkL(rs:Li Rw):Li (Nat×Str×Rw):=rs.zipIdx.flatMap λp=>fkR rs.length p.2 p.1
def Y.methO{b:Nat}{tab:Li (Nat×Nat)}(g:Y F s e U (.obj b))(f:tab.lookup b=aa j)(i:Y F s a U (.tup xs))(h:C F s j (.obj b :: xs) d):Y F s (.meth tab e a) U d:=g2 g i λst k=>by
 obtain⟨s1,l,c⟩:=h st k;refine⟨s1,?_,c⟩;show(match tab.lookup b with
  |some j=>F j (.obj b :: xs) st
  |none=>ab)=_
 rw[f];exact l
def ZhC:(moR r).length<=2:=by
 have a:∀ {o:Op},(WK o).length<=1:=λ{o}=>by
  cases o with
  |nm i=>exact aS _
  |nu v=>exact aD _
 cases r with
 |put x y g z=>show(_++_:Li Rw).length<=2;rw[aH,aB,aB];have:=a (o:=y);have:=a (o:=z);omega
 |ifr y g z t=>show(_++_:Li Rw).length<=2;rw[aH,aB,aB];have:=a (o:=y);have:=a (o:=z);omega
 |tell y=>show(List.map _ _).length<=2;rw[aB];have:=a (o:=y);omega
 |go t=>exact aS _
 |skip=>exact aS _
def Zbc{p:Stp}(a:p∈stp sz):(p.f r).length<=2:=by
 simp only[stp,aF,aW,or_false]at a;rcases a with rfl|rfl|rfl|rfl|rfl|rfl
 .cases r<;>first|exact aS _|exact(by decide:1<=2)
 .exact ZhC
 .cases r<;>first|exact aS _|exact(by decide:1<=2)
 .cases r<;>first|exact aS _|exact(by decide:1<=2)
 .cases r with
  |put x y g z=>show(if y=z then [] else [Rw.put x z g y]).length<=2;split<;>first|exact aS _|exact(by decide:1<=2)
  |ifr y g z t=>show(if y=z then [] else [Rw.ifr z g y t]).length<=2;split<;>first|exact aS _|exact(by decide:1<=2)
  |_=>exact aS _
 .cases r with
  |go t=>show(if sz<=t then [] else [Rw.go (t+1)]).length<=2;split<;>first|exact aS _|exact(by decide:1<=2)
  |ifr y g z t=>show(if sz<=t then [] else [Rw.ifr y g z (t+1)]).length<=2;split<;>first|exact aS _|exact(by decide:1<=2)
  |_=>exact aS _
def UP{p:Stp}(a:p∈stp sz)(h:Zw m sz r):C (rT (n+2)) s p.t [.obj p.c,rwE r,.int (sz:Int)] (.tup ((p.f r).map rwE))/\C (rT (n+2)) s p.v [.obj p.c] (.str p.w)/\List.lookup p.c [(146,148),(169,171),(149,151),(157,159),(152,154),(160,162),(163,165)]=aa p.t/\List.lookup p.c [(146,147),(169,170),(149,150),(157,158),(152,153),(160,161),(163,164)]=aa p.v:=by
 simp only[stp,aF,aW,or_false]at a;rcases a with rfl|rfl|rfl|rfl|rfl|rfl
 .exact⟨Zka h,.of (v:=XE) rfl rfl (.ret ()),rfl,rfl⟩
 .exact⟨Zj8 h,.of (v:=XD) rfl rfl (.ret ()),rfl,rfl⟩
 .exact⟨Zkc h,.of (v:=XG) rfl rfl (.ret ()),rfl,rfl⟩
 .exact⟨Zj9,.of (v:=Wj) rfl rfl (.ret ()),rfl,rfl⟩
 .exact⟨Zkb,.of (v:=XF) rfl rfl (.ret ()),rfl,rfl⟩
 .exact⟨Zj7,.of (v:=Wi) rfl rfl (.ret ()),rfl,rfl⟩
def Zjb{e:Nat}{p:Stp}(i:Rs m rs)(d:p∈stp rs.length)(h:Zw m rs.length r):Ap (rT (n+3)) s j WU [aa (pgD tk m rs),aa (.tup (rs.map rwE)),jL e,jL j,jN k,aa (rwE r),aa (.obj p.c)] [aa (pgD tk m rs),aa (.tup (rs.map rwE)),jL e,jL j,jN k,aa (rwE r),aa (.obj p.c)] (((p.f r).map λq=>(k,p.w,q)).map tD):=by
 refine .one (.ext rfl ?_);rw[bN];refine V0 (b:=one) (en:=rwE) (g:=tD ∘ λq=>(k,p.w,q)) (l:=p.f r) (.of (x:=.tup ((p.f r).map rwE)) (.methO (xs:=[rwE r,.int (rs.length:Int)]) () (UP (n:=n) (s:=s) d h).2.2.1 (.cons () (.cons ?_ .nil)) ?_) λst=>rfl) (by have:=Zbc (r:=r) d;omega) λq o=>.cons () (.cons (.methO (xs:=[]) () (UP (n:=n) (s:=s) d h).2.2.2 () ?_) (.cons () .nil))
 .have:=Y.lnT (F:=rT (n+3)) (s:=s) (a:=.v 1) (U:=[aa (pgD tk m rs),aa (.tup (rs.map rwE)),jL e,jL j,jN k,aa (rwE r),aa (.obj p.c)]) (xs:=rs.map rwE) ()
  rw[aB]at this;exact this
 .exact(UP (n:=n+1) d h).1
 .exact(UP (n:=n+1) d h).2.1
def Zhl:(fkR sz k r).length<=12:=by
 have h:∀ l:Li Stp,(∀ p∈l,(p.f r).length<=2)->(l.flatMap λp=>(p.f r).map λq=>(k,p.w,q)).length<=2 * l.length:=λl=>by
  induction l with
  |nil=>intro _;exact aD _
  |cons p l a=>
   intro h;rw[bY,aH,aB,aO];have e:=h p Ls;have d:=a λq b=>h q (Lm _ b)
   omega
 exact h (stp sz) λp c=>Zbc c
theorem ZcF:∀ {rs:Li Rw}{k:Nat},WE k (rs.map rwE)=(rs.zipIdx k).map λp=>(D.int (p.2:Int),rwE p.1)
 |[],_=>rfl
 |r :: rs,k=>by
  rw[aQ,WE,ZcF,List.zipIdx_cons,aQ]
def WF:(fkL rs).length<=12 * rs.length:=by
 have h:∀ {l:Li (Rw×Nat)},(l.flatMap λp=>fkR rs.length p.2 p.1).length<=12 * l.length:=λ{l}=>by
  induction l with
  |nil=>exact aD _
  |cons p l a=>
   rw[bY,aH,aO];have:=Zhl (sz:=rs.length) (k:=p.2) (r:=p.1);omega
 have:=h (l:=rs.zipIdx);rw[List.length_zipIdx]at this;exact this
def UN(h:Rs m rs):C (rT (n+4)) s 172 [pgD tk m rs] (.tup ((fkL rs).map tD)):=λst g=>by
 have S:=WF (rs:=rs);have R:=h.l;have r:ex (rT (n+3)) (.set 2 (.lstE (.aC (.new 169) (.aC (.new 149) (.aC (.new 157) (.aC (.new 152) (.aC (.new 160) (.u (.new 163))))))))) [aa (pgD tk m rs),aa (.tup (rs.map rwE)),ab,ab,ab,ab,ab] st=aa (.nx [aa (pgD tk m rs),aa (.tup (rs.map rwE)),jL st.length,ab,ab,ab,ab],st++[(ac,(stp rs.length).map λp=>.obj p.c)]):=Zk rfl
 have b:(st++[(ac,(stp rs.length).map λp=>D.obj p.c)])[st.length]?=aa (ac,(stp rs.length).map λp=>.obj p.c):=Zl
 obtain⟨a,d⟩:∃ a,st++[(ac,(stp rs.length).map λp=>D.obj p.c)]=a:=⟨_,rfl⟩
 rw[d]at r b;have g2:Grw st a:=by rw[<-d];exact .push
 have H:ex (rT (n+3)) (.set 3 (.lstE .aN)) [aa (pgD tk m rs),aa (.tup (rs.map rwE)),jL st.length,ab,ab,ab,ab] a=aa (.nx [aa (pgD tk m rs),aa (.tup (rs.map rwE)),jL st.length,jL a.length,ab,ab,ab],a++[(ac,[])]):=Zk rfl;have M:=ZB b;obtain⟨B,A,e,o,Q,J,x⟩:=Zkh (F:=rT (n+3)) (s:=a) (j:=a.length) (q:=WV) (i:=4) (i':=5) (E:=λy z w=>[aa (pgD tk m rs),aa (.tup (rs.map rwE)),jL st.length,jL a.length,y,z,w]) (u:=λp:Rw×Nat=>D.int (p.2:Int)) (v:=λp=>rwE p.1) (g:=λp=>(fkR rs.length p.2 p.1).map tD) (l:=rs.zipIdx) (λ_ _ _ _ _=>rfl) (aD _) (λp L w st1 acc g1 N k=>by
  have ok:Zw m rs.length p.1:=h.ok _ (List.fst_mem_of_mem_zipIdx L);obtain⟨e,G,P,I,t⟩:=Zg6 (F:=rT (n+3)) (s:=a) (j:=a.length) (q:=WU) (i:=6) (la:=st.length) (bb:=ac) (E:=λw=>[aa (pgD tk m rs),aa (.tup (rs.map rwE)),jL st.length,jL a.length,jN p.2,aa (rwE p.1),w]) (en:=λp:Stp=>D.obj p.c) (g:=λq=>((q.f p.1).map λz=>(p.2,q.w,z)).map tD) (all:=stp rs.length) (λ_ _=>rfl) (aD _) ∅ (λq K=>Zjb h K ok) 6 0 (y:=w) rfl g1 (g1.get b) N (by rw[bX];rw[show(stp rs.length).flatMap (λq=>((q.f p.1).map λz=>(p.2,q.w,z)).map tD)=(fkR rs.length p.2 p.1).map tD from(cY ..).symm];exact k)
  rw[bX,show(stp rs.length).flatMap (λq=>((q.f p.1).map λz=>(p.2,q.w,z)).map tD)=(fkR rs.length p.2 p.1).map tD from(cY ..).symm]at t
  exact⟨_,G,⟨_,_,e,rfl⟩,(Zc ((WG (bb:=ac) (xs:=(stp rs.length).map λp=>.obj p.c) rfl (g1.get b)).trans P)).trans Zi,I,t⟩) (y:=ab) (z:=ab) (w:=ab) (.push:Grw a (a++[(ac,[])])) Zl (by rw[cV,bK,<-cY,aB];show(fkL rs).length<=900;omega)
 rw[dE,<-cY]at x;have O:ex (rT (n+3)) (.forE 4 5 (.v 1) WV) [aa (pgD tk m rs),aa (.tup (rs.map rwE)),jL st.length,jL a.length,ab,ab,ab] (a++[(ac,[])])=aa (.nx [aa (pgD tk m rs),aa (.tup (rs.map rwE)),jL st.length,jL a.length,B,A,e],o):=by
  rw[<-Q,<-ZcF];rfl
 refine⟨o,W8 (v:=UW) rfl rfl ((Zc (Zk rfl)).trans ((Zc r).trans ((Zc H).trans ((Zc O).trans (Zj (ZR (YE (c:=(ac,(fkL rs).map tD)) rfl x))))))),?_⟩;exact g2.trans (J.grw (aD _) .push)
variable{v:Int}
section
variable{q:Rw}
def Zhq(h:Sm v):arI (v+1)≠v:=by
 unfold Sm at h;unfold arI;have:=Zp (v+1+1000000000) (j:=2000000000) #[]
 intro e;have a:=Int.mul_ediv_add_emod (v+1+1000000000) 2000000000;generalize (v+1+1000000000) / 2000000000=u at *
 omega
def VW(h:Wx m o):∀ q∈WK o,Wx m q/\q≠o:=λq a=>by
 cases o with
 |nm i=>cases a
 |nu v=>
  rw[aP.mp a];exact⟨Uu,λe=>Zhq h (by injection e)⟩
def Zin:(∀ g∈psL,nxt psL g∈psL/\nxt psL g≠g)/\∀ g∈isL,(nxt isL g∈isL/\nxt isL g≠g)/\(cnt g∈isL/\cnt g≠g)/\nxt isL g≠cnt g:=by decide +kernel
def Zit(h:Zw m sz r){p:Stp}(b:p∈stp sz):∀ q∈p.f r,Zw m sz q:=λq hq=>by
 simp only[stp,aF,aW,or_false]at b;rcases b with rfl|rfl|rfl|rfl|rfl|rfl
 .cases r with
  |put x y g z=>rw[aP.mp hq];exact⟨h.1,h.2.1,(Zin.1 g h.2.2.1).1,h.2.2.2⟩
  |ifr y g z t=>rw[aP.mp hq];exact⟨h.1,(Zin.2 g h.2.1).1.1,h.2.2⟩
  |_=>cases hq
 .cases r with
  |put x y g z=>
   rcases bA.mp hq with hq|hq
   .obtain⟨u,a,rfl⟩:=aR.mp hq;exact⟨h.1,(VW h.2.1 u a).1,h.2.2⟩
   .obtain⟨u,a,rfl⟩:=aR.mp hq;exact⟨h.1,h.2.1,h.2.2.1,(VW h.2.2.2 u a).1⟩
  |ifr y g z t=>
   rcases bA.mp hq with hq|hq
   .obtain⟨u,a,rfl⟩:=aR.mp hq;exact⟨(VW h.1 u a).1,h.2⟩
   .obtain⟨u,a,rfl⟩:=aR.mp hq;exact⟨h.1,h.2.1,(VW h.2.2.1 u a).1,h.2.2.2⟩
  |tell y=>obtain⟨u,a,rfl⟩:=aR.mp hq;exact(VW h u a).1
  |_=>cases hq
 .cases r with
  |ifr y g z t=>rw[aP.mp hq];exact⟨h.1,(Zin.2 g h.2.1).2.1.1,h.2.2⟩
  |_=>cases hq
 .cases r with
  |skip=>cases hq
  |_=>rw[aP.mp hq];trivial
 .cases r with
  |put x y g z=>
   have hq:q∈if y=z then [] else [Rw.put x z g y]:=hq
   split at hq
   .cases hq
   .rw[aP.mp hq];exact⟨h.1,h.2.2.2,h.2.2.1,h.2.1⟩
  |ifr y g z t=>
   have hq:q∈if y=z then [] else [Rw.ifr z g y t]:=hq
   split at hq
   .cases hq
   .rw[aP.mp hq];exact⟨h.2.2.1,h.2.1,h.1,h.2.2.2⟩
  |_=>cases hq
 .cases r with
  |go t=>
   have hq:q∈if sz<=t then [] else [Rw.go (t+1)]:=hq
   split at hq
   .cases hq
   .rw[aP.mp hq];show t+1<=sz;omega
  |ifr y g z t=>
   have hq:q∈if sz<=t then [] else [Rw.ifr y g z (t+1)]:=hq
   split at hq
   .cases hq
   .rw[aP.mp hq];exact⟨h.1,h.2.1,h.2.2.1,∅⟩
  |_=>cases hq
def U4{p:Nat×Str×Rw}(d:Rs m rs)(h:p∈fkL rs):p.1 < rs.length/\Zw m rs.length p.2.2:=by
 obtain⟨u,b,f⟩:=dN.mp h;obtain⟨t,c,e⟩:=dN.mp f;obtain⟨q,a,rfl⟩:=aR.mp e;exact⟨by have:=List.snd_lt_of_mem_zipIdx b;simpa using this,Zit (d.ok _ (List.fst_mem_of_mem_zipIdx b)) c q a⟩
theorem Rs.set(a:Rs m rs)(h:Zw m rs.length q):Rs m (rs.set k q):=by
 refine⟨by rw[bJ];exact a.l,λr h'=>?_⟩
 rw[bJ];rcases eY h' with h'|h'
 .exact a.ok r h'
 .rw[h'];exact h
end
mutual
theorem Jy:∀ {x y:D},Zr x y=ac->x=y
 |.non,.non,_=>rfl
 |.bl a,.bl b,h=>by have h:(a==b)=ac:=h;rw[eq_of_beq h]
 |.int a,.int b,h=>by rw[am (p:=a=b) h]
 |.str a,.str b,h=>by rw[am (p:=a=b) h]
 |.tup a,.tup b,h=>by rw[Vo (xs:=a) (ys:=b) h]
theorem Vo:∀ {xs ys:Li D},Zs xs ys=ac->xs=ys
 |[],[],_=>rfl
 |x :: xs,y :: ys,h=>by
  have h:(Zr x y&&Zs xs ys)=ac:=h;rw[Ba]at h;rw[Jy h.1,Vo h.2]
end
def ZM{a b:Str}{c ys:Li D}(h:D.tup (.str a :: c)=.tup (.str b :: ys)):a=b:=by injection h with h;injection h with h _;injection h
def XV{o z:Op}(h:opE o=opE z):o=z:=by
 cases o with
 |nm i=>cases z with
  |nm j=>
   have h:D.tup [.str "name",.int (i:Int)]=.tup [.str "name",.int (j:Int)]:=h
   injection h with h;injection h with _ h;injection h with h _;injection h with h;rw[Int.ofNat.inj h]
  |nu v=>exact ar (ZM h) (by decide +kernel)
 |nu u=>cases z with
  |nm j=>exact ar (ZM h) (by decide +kernel)
  |nu v=>
   have h:D.tup [.str "number",.int u]=.tup [.str "number",.int v]:=h
   injection h with h;injection h with _ h;injection h with h _;injection h with h;rw[h]
def Qr{r q:Rw}(h:rwE r=rwE q):r=q:=by
 have B:S "put"≠S "if"/\S "put"≠S "go"/\S "put"≠S "tell"/\S "put"≠S "skip"/\S "if"≠S "go"/\S "if"≠S "tell"/\S "if"≠S "skip"/\S "go"≠S "tell"/\S "go"≠S "skip"/\S "tell"≠S "skip":=by decide +kernel
 obtain⟨w,v,u,s,p,o,n,m,l,f⟩:=B;cases r with
 |put x y g z=>cases q with
  |put A a k i=>
   have h:D.tup [.str "put",.int (x:Int),opE y,.str g,opE z]=.tup [.str "put",.int (A:Int),opE a,.str k,opE i]:=h
   injection h with h;injection h with _ h;injection h with e h;injection h with d h;injection h with c h;injection h with b _;injection e with e;injection c with c
   rw[Int.ofNat.inj e,XV d,c,XV b]
  |ifr _ _ _ _=>exact ar (ZM h) w
  |go _=>exact ar (ZM h) v
  |tell _=>exact ar (ZM h) u
  |skip=>exact ar (ZM h) s
 |ifr y g z t=>cases q with
  |put _ _ _ _=>exact ar (ZM h) w.symm
  |ifr a k i j=>
   have h:D.tup [.str "if",opE y,.str g,opE z,.int (t:Int)]=.tup [.str "if",opE a,.str k,opE i,.int (j:Int)]:=h
   injection h with h;injection h with _ h;injection h with e h;injection h with d h;injection h with c h;injection h with b _;injection b with b;injection d with d
   rw[XV e,d,XV c,Int.ofNat.inj b]
  |go _=>exact ar (ZM h) p
  |tell _=>exact ar (ZM h) o
  |skip=>exact ar (ZM h) n
 |go t=>cases q with
  |put _ _ _ _=>exact ar (ZM h) v.symm
  |ifr _ _ _ _=>exact ar (ZM h) p.symm
  |go j=>
   have h:D.tup [.str "go",.int (t:Int)]=.tup [.str "go",.int (j:Int)]:=h
   injection h with h;injection h with _ h;injection h with h _;injection h with h;rw[Int.ofNat.inj h]
  |tell _=>exact ar (ZM h) m
  |skip=>exact ar (ZM h) l
 |tell y=>cases q with
  |put _ _ _ _=>exact ar (ZM h) u.symm
  |ifr _ _ _ _=>exact ar (ZM h) o.symm
  |go _=>exact ar (ZM h) m.symm
  |tell a=>
   have h:D.tup [.str "tell",opE y]=.tup [.str "tell",opE a]:=h
   injection h with h;injection h with _ h;injection h with h _;rw[XV h]
  |skip=>exact ar (ZM h) f
 |skip=>cases q with
  |put _ _ _ _=>exact ar (ZM h) s.symm
  |ifr _ _ _ _=>exact ar (ZM h) n.symm
  |go _=>exact ar (ZM h) l.symm
  |tell _=>exact ar (ZM h) f.symm
  |skip=>rfl
theorem QZ:∀ {a b:Li Int},a.map D.int=b.map D.int->a=b
 |[],[],_=>rfl
 |x :: a,y :: b,h=>by
  rw[aQ,aQ]at h
  injection h with c d;injection c with c
  rw[c,QZ d]
mutual
theorem Zg8:∀ {n:Nat}{x:D},okD n x=ac->Zr x x=ac
 |_,.non,_=>rfl
 |_,.int i,_=>aK rfl
 |_,.str i,_=>aK rfl
 |n+1,.tup xs,h=>X0 (n:=n) (xs:=xs) h
 |0,.tup xs,h=>nomatch h
 |0,.bl _,h=>nomatch h
 |_+1,.bl _,h=>nomatch h
 |0,.lst _,h=>nomatch h
 |_+1,.lst _,h=>nomatch h
 |0,.dic _,h=>nomatch h
 |_+1,.dic _,h=>nomatch h
 |0,.dct _ _,h=>nomatch h
 |_+1,.dct _ _,h=>nomatch h
 |0,.obj _,h=>nomatch h
 |_+1,.obj _,h=>nomatch h
 |0,.kt _,h=>nomatch h
 |_+1,.kt _,h=>nomatch h
theorem X0:∀ {n:Nat}{xs:Li D},Ya n xs=ac->Zs xs xs=ac
 |_,[],_=>rfl
 |n,x :: xs,h=>by
  have h:(okD n x&&Ya n xs)=ac:=h;rw[Ba]at h;show(Zr x x&&Zs xs xs)=ac;rw[Zg8 h.1,X0 h.2];rfl
end
def ZdI(o:Op):∃ a,opE o=.tup a/\okD 8 (.tup a)=ac:=by cases o<;>exact⟨_,rfl,rfl⟩
def J6(r:Rw):∃ a,rwE r=.tup a/\okD 8 (.tup a)=ac:=by
 cases r with
 |put x y g z=>exact⟨_,rfl,by cases y<;>cases z<;>rfl⟩
 |ifr y g z t=>exact⟨_,rfl,by cases y<;>cases z<;>rfl⟩
 |go t=>exact⟨_,rfl,rfl⟩
 |tell y=>exact⟨_,rfl,by cases y<;>rfl⟩
 |skip=>exact⟨_,rfl,rfl⟩
def Y.eqd(d:Y F s a U (.tup xs))(c:Y F s b U (.tup ys))(g:okD 8 (.tup xs)=ac)(f:okD 8 (.tup ys)=ac):Y F s (.e a b) U (.bl (Zs xs ys)):=.cmp d c λst=>by
 have e:eqT xs (.tup ys)=aa (Zs xs ys):=ao (by rw[g,f];rfl)
 show(match eqT xs (.tup ys) with
  |some k=>aa k
  |none=>Za0 st xs ys)=_
 rw[e]
open Classical in
def VF(a:okD 8 (.tup xs)=ac):Zs xs ys=aj (xs=ys):=by
 by_cases c:xs=ys
 .subst c;rw[aK rfl];exact X0 (n:=7) a
 .rw[aG c]
  cases q:Zs xs ys with
  |false=>rfl
  |true=>exact ar (Vo q) c
def Y.ned(d:Y F s a U (.tup xs))(c:Y F s b U (.tup ys))(g:okD 8 (.tup xs)=ac)(f:okD 8 (.tup ys)=ac):Y F s (.cmp .NotEq a b) U (.bl (!Zs xs ys)):=.cmp d c λst=>by
 have e:eqT xs (.tup ys)=aa (Zs xs ys):=ao (by rw[g,f];rfl)
 show Option.map Bool.not (match eqT xs (.tup ys) with
  |some k=>aa k
  |none=>Za0 st xs ys)=_
 rw[e];rfl
def rv(k:Nat)(vs:Li Int):Rw->Sum D (Nat×Li Int)
 |.tell y=>.inl (teD (woI vs y))
 |r=>.inr (pkN k vs r,vsN vs r)
def ZaU(h:rs[k]?=aa r):mv rs k vs=rv k vs r:=by unfold mv;rw[h];cases r<;>rfl
def Als(m j:Nat)(r a:Rw):Prop:=∀ vs,Vs m vs->rv j vs a=rv j vs r
section
variable{a b:Int}{x:Nat}
def Zgh(h:Sm a):arI a=a:=by unfold Sm at h;unfold arI;omega
def Zg7:arI (a+arI (-b))=arI (a - b):=by unfold arI;omega
def XY:rkI a (S "+") b=arI (a+b):=ao rfl
def ZdW:rkI a (S "-") b=arI (a - b):=by
 unfold rkI;rw[aq (by decide +kernel),ao rfl]
def Qq:rkI a (S "*") b=arI (a * b):=by
 unfold rkI;rw[aq (by decide +kernel),aq (by decide +kernel),ao rfl]
def Zh3:rkI a (S "/") b=if b=0 then 0 else arI (fdI a b):=by
 unfold rkI;rw[aq (by decide +kernel),aq (by decide +kernel),aq (by decide +kernel),ao rfl]
def Zh4:rkI a (S "mod") b=if b=0 then a else a - b * fdI a b:=by
 unfold rkI;rw[aq (by decide +kernel),aq (by decide +kernel),aq (by decide +kernel),aq (by decide +kernel)]
def ZcJ:fdI a 1=a:=by unfold fdI;rw[ao #[],dR]
def Zim(a:Vs m vs)(b:x < m)(h:v=woI vs (.nm x)):vs.set x v=vs:=by
 have c:=a.l;subst h;show vs.set x (vs.getD x 0)=vs;rw[aV,Lg ∅,Option.getD_some,List.set_getElem_self]
def Zba:soI a (S "<") b=aj (a < b):=ao rfl
def Za9:soI a (S "<=") b=aj (a<=b):=by
 unfold soI;rw[aq (by decide +kernel),ao rfl]
def Zd7:soI a (S "=") b=aj (a=b):=by
 unfold soI;rw[aq (by decide +kernel),aq (by decide +kernel),ao rfl]
def ZgK:soI a (S ">=") b=aj (b<=a):=by
 unfold soI;rw[aq (by decide +kernel),aq (by decide +kernel),aq (by decide +kernel),ao rfl]
def ZgL:soI a (S ">") b=aj (b < a):=by
 unfold soI;rw[aq (by decide +kernel),aq (by decide +kernel),aq (by decide +kernel),aq (by decide +kernel),ao rfl]
def Zd8:soI a (S "!=") b=!decide (a=b):=by
 unfold soI;rw[aq (by decide +kernel),aq (by decide +kernel),aq (by decide +kernel),aq (by decide +kernel),aq (by decide +kernel)]
def Zf0:soI a g a=soI b g b:=by
 unfold soI;rw[aG (Int.lt_irrefl a),aG (Int.lt_irrefl b),aK (Int.le_refl a),aK (Int.le_refl b),aK (rfl:a=a),aK (rfl:b=b)]
end
def RX(F:Nat->Fn)(q:CS)(U:Env)(P:D->Prop):Prop:=∃ d,(∀ s,R F s q U d)/\P d
def CX(F:Nat->Fn)(f:Nat)(ds:Li D)(P:D->Prop):Prop:=∃ d,(∀ s,C F s f ds d)/\P d
variable{P:D->Prop}
section
variable{k:Bool}{Q:D->Prop}
theorem CX.of{v:FD}(h:T f=aa v)(b:ds.length=v.ps)(a:RX (rT n) v.body (ds.map aa++af (v.ns - ds.length) ab) P):CX (rT (n+1)) f ds P:=by
 obtain⟨d,e,c⟩:=a;exact⟨d,λs=>.of h b (e s),c⟩
def RX.pick(h:∀ s,Y F s e U (.bl k))(f:k=ac->RX F p U P)(c:k=ae->RX F q U P):RX F (.seq (.ite e p .skip) q) U P:=by
 cases k with
 |true=>obtain⟨d,a,b⟩:=f rfl;exact⟨d,λs=>.yB (h s) (a s),b⟩
 |false=>obtain⟨d,a,b⟩:=c rfl;exact⟨d,λs=>.no (h s) (a s),b⟩
theorem RX.ret(h:∀ s,Y F s e U d)(a:P d):RX F (.seq (.ret e) q) U P:=⟨d,λs=>.ret (h s),a⟩
theorem RX.set(h:∀ s,Y F s e U d)(c:RX F q (Zf U i d) P):RX F (.y i e q) U P:=by
 obtain⟨d,a,b⟩:=c;exact⟨d,λs=>.set (h s) (a s),b⟩
def CX.mono(h:CX F f ds P)(c:∀ d,P d->Q d):CX F f ds Q:=let ⟨d,a,b⟩:=h;⟨d,a,c d b⟩
def RX.retC(c:∀ s,Y F s a U (.tup xs))(h:CX F f (xs++ds) P):RX F (.seq (.ret (.call f a ds)) q) U P:=by
 obtain⟨d,a,b⟩:=h;exact .ret (λs=>.call (c s) (a s)) b
def RX.setC(e:∀ s,Y F s a U (.tup xs))(h:CX F f (xs++ds) P)(c:∀ d,P d->RX F q (Zf U i d) Q):RX F (.y i (.call f a ds) q) U Q:=by
 obtain⟨d,a,b⟩:=h;exact .set (λs=>.call (e s) (a s)) (c d b)
def RX.iset{e':CE}(h:∀ s,Y F s e U (.bl k))(p:k=ac->∃ d,(∀ s,Y F s e' U d)/\RX F q (Zf U i d) P)(o:k=ae->RX F q U P):RX F (.seq (.ite e (.z (.set i e')) .skip) q) U P:=by
 cases k with
 |true=>
  obtain⟨v,n,d,a,b⟩:=p rfl;refine⟨d,λs st g=>?_,b⟩
  obtain⟨s1,u,c⟩:=h s st g;obtain⟨l,t,f⟩:=n s s1 (g.trans c);obtain⟨j,r,m⟩:=a s l (g.trans (c.trans f));exact⟨j,(Zc ((Yl u).trans ((Zc (Zk t)).trans Zi))).trans r,c.trans (f.trans m)⟩
 |false=>obtain⟨d,a,b⟩:=o rfl;exact⟨d,λs=>.no (h s) (a s),b⟩
end
noncomputable def Q2:Op->Bool
 |.nm _=>ae
 |.nu _=>ac
variable{g:Str}
section
variable{k:Bool}{Q:D->Prop}
def Y.eqo{u:Op}(f:∀ s,Y F s a U (opE o))(d:∀ s,Y F s b U (opE u)):∀ s,Y F s (.e a b) U (.bl (aj (o=u))):=λs=>by
 obtain⟨xs,c,i⟩:=ZdI o;obtain⟨ys,g,j⟩:=ZdI u;have e:aj (o=u)=Zs xs ys:=by
  rw[VF i];refine fH ⟨λh=>?_,λh=>XV (by rw[c,g,h])⟩
  rw[h,g]at c;injection c with c;exact c.symm
 have f:=f s;have d:=d s;rw[c]at f;rw[g]at d;rw[e];exact .eqd f d i j
def Y.eqr{o u:Rw}(f:∀ s,Y F s a U (rwE o))(d:∀ s,Y F s b U (rwE u)):∀ s,Y F s (.e a b) U (.bl (aj (o=u))):=λs=>by
 obtain⟨xs,c,i⟩:=J6 o;obtain⟨ys,g,j⟩:=J6 u;have e:aj (o=u)=Zs xs ys:=by
  rw[VF i];refine fH ⟨λh=>?_,λh=>Qr (by rw[c,g,h])⟩
  rw[h,g]at c;injection c with c;exact c.symm
 have f:=f s;have d:=d s;rw[c]at f;rw[g]at d;rw[e];exact .eqd f d i j
def IsPut(m sz:Nat)(r:Rw)(d:D):Prop:=∃ x y g z,d=rwE (.put x y g z)/\Zw m sz (.put x y g z)/\∀ vs,Vs m vs->vsN vs (.put x y g z)=vsN vs r
def IsIf(m sz:Nat)(r:Rw)(d:D):Prop:=∃ y g z t,d=rwE (.ifr y g z t)/\Zw m sz (.ifr y g z t)/\∀ vs j,Vs m vs->pkN j vs (.ifr y g z t)=pkN j vs r
def IsRw(m sz j:Nat)(r:Rw)(d:D):Prop:=∃ a,d=rwE a/\Zw m sz a/\Als m j r a
def Zb4(y z:Op):C (rT (n+1)) s 73 [opE y,opE z] (.bl (Q2 y&&Q2 z)):=by
 cases y<;>cases z<;>exact .of (v:=Y6) rfl rfl (.ret ())
def Zgs(o u:Op):∃ k,∀ st,Zcw .Lt (opE o) (opE u) st=aa k:=by
 have a:∀ (i j:Int),∃ k:Bool,(if Zr (.int i) (.int j)=ac then aa (aj (0 < ([]:Li D).length)) else aa (aj (i < j)))=aa k:=λi j=>by
  split<;>exact⟨_,rfl⟩
 cases o<;>cases u
 .rename_i i j
  obtain⟨k,h⟩:=a i j;exact⟨k,λst=>h⟩
 .exact⟨_,λst=>rfl⟩
 .exact⟨_,λst=>rfl⟩
 .rename_i i j
  obtain⟨k,h⟩:=a i j;exact⟨k,λst=>h⟩
def Zez{x:Nat}{y z:Op}(h:Zw m sz (.put x y g z)):CX (rT (n+2)) 75 [rwE (.put x y g z)] (IsPut m sz (.put x y g z)):=by
 obtain⟨b,a,e,c⟩:=h;have same:IsPut m sz (.put x y g z) (rwE (.put x y g z)):=⟨x,y,g,z,rfl,⟨b,a,e,c⟩,λ_ _=>rfl⟩
 cases z with
 |nm j=>exact .of (v:=Ye) rfl rfl (.pick (k:=aj (g=S "-")&&ae) (λs=>.and (.eqs () ()) λ_=>.r rf) (λq=>by rw[Bool.and_false]at q;cases q) λ_=>.ret (λs=>.r rf) same)
 |nu v=>
  refine .of (v:=Ye) rfl rfl (.pick (k:=aj (g=S "-")&&ac) (λs=>.and (.eqs () ()) λ_=>.r rf) (λq=>?_) λ_=>.ret (λs=>.r rf) same)
  rw[dX]at q;have q:=am q;refine .ret (λs=>.adT (xs:=[.str "put",.int (x:Int),opE y]) (.tkT (i:=3) (xs:=[.str "put",.int (x:Int),opE y,.str g,opE (.nu v)]) () () (show 3<=5 by decide)) (.cons () (.cons (.cons () (.cons (.call1 (g1 (.ixt (j:=1) (xs:=[.str "number",.int v]) () () rfl) (d:=.int (-v)) (gp λ_=>rfl)) Xc) .nil)) .nil)) (show 3+2<=100000 by decide)) ⟨x,y,S "+",.nu (arI (-v)),rfl,⟨b,a,#[],Uu⟩,λvs _=>?_⟩
  subst q;show vs.set x (rkI (woI vs y) (S "+") (arI (-v)))=vs.set x (rkI (woI vs y) (S "-") v);rw[XY,ZdW,Zg7]
end
def YB(F:Nat->Fn)(U:Env)(e:CE):Prop:=∃ k,∀ s,Y F s e U (.bl k)
section
variable{k:Bool}{Q:D->Prop}
theorem YB.and(d:YB F U a)(c:YB F U b):YB F U (.and a b):=let ⟨_,x⟩:=d;let ⟨_,y⟩:=c;⟨_,λs=>.and (x s) λ_=>y s⟩
theorem YB.or(d:YB F U a)(c:YB F U b):YB F U (.or a b):=let ⟨_,x⟩:=d;let ⟨_,y⟩:=c;⟨_,λs=>.or (x s) λ_=>y s⟩
theorem YB.eqs{u v:Str}(d:∀ s,Y F s a U (.str u))(c:∀ s,Y F s b U (.str v)):YB F U (.e a b):=⟨_,λs=>.eqs (d s) (c s)⟩
def YB.eqi{u v:Int}(d:∀ s,Y F s a U (.int u))(c:∀ s,Y F s b U (.int v)):YB F U (.e a b):=⟨_,λs=>.cmp (d s) (c s) λ_=>rfl⟩
def RX.pk(h:YB F U e)(b:RX F p U P)(a:RX F q U P):RX F (.seq (.ite e p .skip) q) U P:=let ⟨_,x⟩:=h;.pick x (λ_=>b) λ_=>a
def RX.is{a:CE}(h:YB F U e)(c:∃ d,(∀ s,Y F s a U d)/\RX F q (Zf U i d) P)(b:RX F q U P):RX F (.seq (.ite e (.z (.set i a)) .skip) q) U P:=let ⟨_,x⟩:=h;.iset x (λ_=>c) λ_=>b
def ZiG{x:Nat}{y z:Op}(h:Zw m sz (.put x y g z))(f:g=S "+"\/g=S "*"):CX (rT (n+2)) 74 [rwE (.put x y g z),.int 2,.int 4] (IsPut m sz (.put x y g z)):=by
 obtain⟨c,b,d,a⟩:=h;obtain⟨k,e⟩:=Zgs z y;refine .of (v:=Yf) rfl rfl (.pick (k:=k) (λs=>.cmp (x:=opE z) (y:=opE y) () () e) (λ_=>?_) λ_=>.ret (λs=>.r rf) ⟨x,y,g,z,rfl,⟨c,b,d,a⟩,λ_ _=>rfl⟩)
 refine .ret (λs=>.call (xs:=[.tup [.str "put",.int (x:Int),opE z,.str g,opE z],.int 4,opE y]) (.cons (.call (xs:=[rwE (.put x y g z),.int 2,opE z]) () (YY (xs:=[.str "put",.int (x:Int),opE y,.str g,opE z]) (i:=2) (show 2 < 5 by decide) (show 5<=1000 by decide))) (.cons () (.cons () .nil))) (YY (xs:=[.str "put",.int (x:Int),opE z,.str g,opE z]) (i:=4) (show 4 < 5 by decide) (show 5<=1000 by decide))) ⟨x,z,g,y,rfl,⟨c,a,d,b⟩,λvs _=>?_⟩
 show vs.set x (rkI (woI vs z) g (woI vs y))=vs.set x (rkI (woI vs y) g (woI vs z));rcases f with rfl|rfl
 .rw[XY,XY,Int.add_comm]
 .rw[Qq,Qq,Int.mul_comm]
def ZiF{t:Nat}{y z:Op}(h:Zw m sz (.ifr y g z t))(f:g=S "="\/g=S "!="):CX (rT (n+2)) 74 [rwE (.ifr y g z t),.int 1,.int 3] (IsIf m sz (.ifr y g z t)):=by
 obtain⟨b,d,a,c⟩:=h;obtain⟨k,e⟩:=Zgs z y;refine .of (v:=Yf) rfl rfl (.pick (k:=k) (λs=>.cmp (x:=opE z) (y:=opE y) () () e) (λ_=>?_) λ_=>.ret (λs=>.r rf) ⟨y,g,z,t,rfl,⟨b,d,a,c⟩,λ_ _ _=>rfl⟩)
 refine .ret (λs=>.call (xs:=[.tup [.str "if",opE z,.str g,opE z,.int (t:Int)],.int 3,opE y]) (.cons (.call (xs:=[rwE (.ifr y g z t),.int 1,opE z]) () (YY (xs:=[.str "if",opE y,.str g,opE z,.int (t:Int)]) (i:=1) (show 1 < 5 by decide) (show 5<=1000 by decide))) (.cons () (.cons () .nil))) (YY (xs:=[.str "if",opE z,.str g,opE z,.int (t:Int)]) (i:=3) (show 3 < 5 by decide) (show 5<=1000 by decide))) ⟨z,g,y,t,rfl,⟨a,d,b,c⟩,λvs j _=>?_⟩
 show(if soI (woI vs z) g (woI vs y)=ac then t else j+1)=if soI (woI vs y) g (woI vs z)=ac then t else j+1
 rcases f with rfl|rfl
 .rw[Zd7,Zd7,fH ⟨aw,aw⟩]
 .rw[Zd8,Zd8,fH ⟨aw,aw⟩]
def ZiO{x:Nat}{y z:Op}(h:Zw m sz (.put x y g z)):CX (rT (n+2)) 76 [rwE (.put x y g z)] (IsPut m sz (.put x y g z)):=by
 obtain⟨a,c,f,e⟩:=h;refine .of (v:=Z8) rfl rfl (.set (d:=opE y) (λs=>.r rf) (.set (d:=.str g) (λs=>.r rf) (.set (d:=opE z) (λs=>.r rf) (.pick (k:=(aj (g=S "*")&&aj (z=.nu 0))||((aj (g=S "mod")&&aj (z=.nu 1))||(aj (g=S "-")&&aj (y=z)))) (λs=>.or (.and (.eqs () ()) λ_=>Y.eqo (o:=z) (u:=.nu 0) (λs=>.r rf) (λs=>.r rf) s) λ_=>.or (.and (.eqs () ()) λ_=>Y.eqo (o:=z) (u:=.nu 1) (λs=>.r rf) (λs=>.r rf) s) λ_=>.and (.eqs () ()) λ_=>Y.eqo (o:=y) (u:=z) (λs=>.r rf) (λs=>.r rf) s) (λq=>?_) λ_=>.pick (k:=(aj (S "*"=g)||(aj (S "/"=g)||false))&&aj (z=.nu 1)) (λs=>.and (.cmp (x:=.str g) () () λst=>rfl) λ_=>Y.eqo (o:=z) (u:=.nu 1) (λs=>.r rf) (λs=>.r rf) s) (λq=>?_) λ_=>.ret (λs=>.r rf) ⟨x,y,g,z,rfl,⟨a,c,f,e⟩,λ_ _=>rfl⟩))))
 .refine .ret (λs=>.r rf) ⟨x,.nu 0,S "+",.nu 0,rfl,⟨a,⟨#[],#[]⟩,#[],⟨#[],#[]⟩⟩,λvs _=>?_⟩
  show vs.set x (rkI 0 (S "+") 0)=vs.set x (rkI (woI vs y) g (woI vs z));have b:rkI 0 (S "+") 0=0:=XY;rw[cB,cB,Ba,Ba,Ba,bC,bC,bC,bC,bC,bC]at q;rcases q with⟨rfl,rfl⟩|⟨rfl,rfl⟩|⟨rfl,rfl⟩
  .rw[b,Qq]
   show vs.set x 0=vs.set x (arI (_ * 0));rw[Int.mul_zero];rfl
  .rw[b,Zh4]
   show vs.set x 0=vs.set x (if (1:Int)=0 then _ else _ - 1 * fdI _ 1);rw[aq #[],ZcJ,Int.one_mul,Int.sub_self]
  .rw[b,ZdW,Int.sub_self];rfl
 .refine .ret (λs=>.r rf) ⟨x,y,S "+",.nu 0,rfl,⟨a,c,#[],⟨#[],#[]⟩⟩,λvs _=>?_⟩
  show vs.set x (rkI (woI vs y) (S "+") 0)=vs.set x (rkI (woI vs y) g (woI vs z));rw[cQ,Ba,cB,bC,bC,bC]at q;rcases q with⟨rfl|rfl,rfl⟩
  .rw[XY,Qq,Int.add_zero]
   show _=vs.set x (arI (_ * 1));rw[Int.mul_one]
  .rw[XY,Zh3,Int.add_zero]
   show _=vs.set x (if (1:Int)=0 then 0 else arI (fdI _ 1));rw[aq #[],ZcJ]
def IsPut.rw{x j:Nat}{y z:Op}(h:IsPut m sz (.put x y g z) d):IsRw m sz j (.put x y g z) d:=let ⟨_,_,_,_,a,b,c⟩:=h;⟨_,a,b,λvs e=>au (λw=>eL (j+1,w)) (c vs e)⟩
def IsIf.rw{t j:Nat}{y z:Op}(h:IsIf m sz (.ifr y g z t) d):IsRw m sz j (.ifr y g z t) d:=let ⟨_,_,_,_,a,b,c⟩:=h;⟨_,a,b,λvs e=>au (λw=>eL (w,vs)) (c vs j e)⟩
def IsRw.tr{j:Nat}{e:Rw}(h:IsRw m sz j e d)(g:Als m j r e):IsRw m sz j r d:=let ⟨_,a,b,c⟩:=h;⟨_,a,b,λvs f=>(c vs f).trans (g vs f)⟩
def ZgV{x j:Nat}{y z:Op}(h:Zw m sz (.put x y g z)):CX (rT (n+4)) 77 [rwE (.put x y g z)] (IsRw m sz j (.put x y g z)):=by
 have A:∀ {x:Nat}{y z:Op}{g:Str},Zw m sz (.put x y g z)->RX (rT (n+3)) (.y 0 (.f 76 (.s 0))
 (.seq (.ite (.e (.v 0) (.g (.aC (.t "put") (.aC (.x 0 1) (.aC (.g (.aC (.t "name") (.u (.x 0 1)))) (.aC (.t "+") (.u (.c (.tup [(.str "number"),(.int 0)]))))))))) (.q (.c (.tup [(.str "skip")]))) .skip)
 (.q (.v 0)))) [aa (rwE (.put x y g z))] (IsRw m sz j (.put x y g z)):=λ{x y z g} h=>by
  refine .setC (xs:=[rwE (.put x y g z)]) (λs=>.r rf) (ZiO h) λd ⟨l,E,g2,C,M,J,T⟩=>?_
  subst M;have B:Als m j (.put x y g z) (.put l E g2 C):=λvs p=>au (λw=>eL (j+1,w)) (T vs p)
  refine .pick (k:=aj (Rw.put l E g2 C=.put l (.nm l) (S "+") (.nu 0))) (λs=>Y.eqr (o:=.put l E g2 C) (u:=.put l (.nm l) (S "+") (.nu 0)) (λs=>.r rf) (λs=>.r rf) s) (λq=>?_) λ_=>.ret (λs=>.r rf) ⟨_,rfl,J,B⟩
  refine .ret (λs=>.r rf) ⟨.skip,rfl,trivial,λvs p=>(B vs p).symm.symm ▸ ?_⟩
  rw[am q];show eL (j+1,vs)=eL (j+1,vs.set l (rkI (woI vs (.nm l)) (S "+") 0));rw[XY,Int.add_zero,Zgh (UM (o:=.nm l) p J.1),Zim p J.1 rfl]
 have W:=h;obtain⟨V,I,hg,H⟩:=W;refine .of (v:=Wo) rfl rfl (.pick (k:=Q2 y&&Q2 z) (λs=>.call (xs:=[opE y,opE z]) () (Zb4 y z)) (λq=>?_) λ_=>?_)
 .cases y with
  |nm _=>cases q
  |nu a=>cases z with
   |nm _=>cases q
   |nu b=>
    refine .ret (λs=>.cons () (.cons () (.cons (.cons () (.cons (.call (xs:=[.int a,.str g,.int b]) () (ZiK I H)) .nil)) (.cons () (.cons () .nil))))) ⟨.put x (.nu (rkI a g b)) (S "+") (.nu 0),rfl,⟨V,ZdV I H,#[],⟨#[],#[]⟩⟩,λvs _=>?_⟩
    show eL (j+1,vs.set x (rkI (rkI a g b) (S "+") 0))=eL (j+1,vs.set x (rkI a g b));rw[XY,Int.add_zero,Zgh (ZdV I H)]
 .refine .setC (xs:=[rwE (.put x y g z)]) (λs=>.r rf) (Zez h) λd ⟨G,F,g1,D,N,Q,O⟩=>?_
  subst N;have B:Als m j (.put x y g z) (.put G F g1 D):=λvs p=>au (λw=>eL (j+1,w)) (O vs p)
  have go:∀ (k:Bool),Xs g1 [.str "+",.str "*"]=aa k->(k=ac->g1=S "+"\/g1=S "*")->RX (rT (n+3)) _ _ _:=λk N M=>.iset (k:=k) (i:=0) (e:=.cmp .In (.x 0 3) (.g (.aC (.t "+") (.u (.t "*"))))) (e':=.call 74 (.a 0 (.aC (.i 2) (.u (.i 4)))) []) (U:=[aa (rwE (.put G F g1 D))]) (P:=IsRw m sz j (.put x y g z)) (λs=>.cmp (x:=.str g1) (y:=.tup [.str "+",.str "*"]) () () λst=>N) (λq=>by
    obtain⟨d,X,x3,y3,g3,z3,rfl,Z,R⟩:=ZiG (n:=n+1) Q (M q);obtain⟨d,L,K⟩:=A Z;exact⟨_,λs=>.call (xs:=[rwE (.put G F g1 D),.int 2,.int 4]) () (X s),d,L,K.tr λvs p=>au (λw=>eL (j+1,w)) ((R vs p).trans (O vs p))⟩) λ_=>by
    obtain⟨d,L,K⟩:=A Q;exact⟨d,L,K.tr B⟩
  exact go (aj (S "+"=g1)||(aj (S "*"=g1)||false)) rfl λq=>by
   rw[cB,bC,cQ,bC]at q;exact q.imp aw aw
end
section
variable{k:Bool}{Q:D->Prop}
noncomputable def opV:Op->Int
 |.nm i=>i
 |.nu v=>v
def Zi3{a b:Int}:aj (a - 1 < b)=aj (a<=b):=fH ⟨λh=>by omega,λh=>by omega⟩
def Zi4{a b:Int}:aj (a < b+1)=aj (a<=b):=fH ⟨λh=>by omega,λh=>by omega⟩
def ZiE{t:Nat}{y z:Op}(h:Zw m sz (.ifr y g z t)):CX (rT (n+1)) 78 [rwE (.ifr y g z t)] (IsIf m sz (.ifr y g z t)):=by
 obtain⟨b,d,a,c⟩:=h;refine .of (v:=Yd) rfl rfl (.pick (λs=>.eqs () ()) (λq=>.ret (λs=>.r rf) ⟨z,S "<",y,t,rfl,⟨a,#[],b,c⟩,λvs j _=>?_⟩) λ_=>.pick (λs=>.eqs () ()) (λq=>.ret (λs=>.r rf) ⟨z,S "<=",y,t,rfl,⟨a,#[],b,c⟩,λvs j _=>?_⟩) λ_=>.ret (λs=>.r rf) ⟨y,g,z,t,rfl,⟨b,d,a,c⟩,λ_ _ _=>rfl⟩)
 .cases am q
  show(if soI (woI vs z) (S "<") (woI vs y)=ac then t else j+1)=if soI (woI vs y) (S ">") (woI vs z)=ac then t else j+1
  rw[Zba,ZgL]
 .cases am q
  show(if soI (woI vs z) (S "<=") (woI vs y)=ac then t else j+1)=if soI (woI vs y) (S ">=") (woI vs z)=ac then t else j+1
  rw[Za9,ZgK]
def Zey{t:Nat}{y z:Op}:C (rT (n+2)) s 79 [rwE (.ifr y g z t)] (.bl ((Q2 y&&Q2 z)||aj (y=z))):=
 .of (v:=Xq) rfl rfl (.ret (.or (.call (xs:=[opE y,opE z]) () (Zb4 y z)) λ_=>Y.eqo (o:=y) (u:=z) (λs=>.r rf) (λs=>.r rf) s))
def Zbr{t j:Nat}{y z:Op}(h:Zw m sz (.ifr y g z t))(d:((Q2 y&&Q2 z)||aj (y=z))=ac):CX (rT (n+2)) 80 [rwE (.ifr y g z t)] (IsRw m sz j (.ifr y g z t)):=by
 obtain⟨p,w,o,l⟩:=h;have c:∀ s,Y (rT (n+1)) s (.f 4 (.aC (.ix (.x 0 1) (.i 1)) (.aC (.x 0 2) (.u (.ix (.x 0 3) (.i 1)))))) [aa (rwE (.ifr y g z t)),ab] (.bl (soI (opV y) g (opV z))):=λs=>by
  cases y<;>cases z<;>exact .call () ZiM
 have e:∀ vs,soI (woI vs y) g (woI vs z)=soI (opV y) g (opV z):=λvs=>by
  rw[cB,bC]at d;rcases d with d|rfl
  .cases y with
   |nm _=>cases d
   |nu a=>cases z with
    |nm _=>cases d
    |nu b=>rfl
  .exact Zf0
 refine .of (v:=W3) rfl rfl (.set c ?_);cases q:soI (opV y) g (opV z) with
 |true=>exact .ret (λs=>.ife (k:=ac) () ()) ⟨.go t,rfl,l,λvs _=>by show eL (t,vs)=eL (if soI (woI vs y) g (woI vs z)=ac then t else j+1,vs);rw[e,q,ao rfl]⟩
 |false=>exact .ret (λs=>.ife (k:=ae) () ()) ⟨.skip,rfl,trivial,λvs _=>by show eL (j+1,vs)=eL (if soI (woI vs y) g (woI vs z)=ac then t else j+1,vs);rw[e,q,aq #[]]⟩
def ZiH{t:Nat}{y z:Op}(h:Zw m sz (.ifr y g z t)):CX (rT (n+1)) 81 [rwE (.ifr y g z t)] (IsIf m sz (.ifr y g z t)):=by
 obtain⟨p,B,o,w⟩:=h;have same:IsIf m sz (.ifr y g z t) (rwE (.ifr y g z t)):=⟨y,g,z,t,rfl,⟨p,B,o,w⟩,λ_ _ _=>rfl⟩
 have b:g=S "<="->RX (rT n) (.seq (.ite (.and (.e (.x 1 0) (.t "number")) (.cmp .Gt (.x 1 1) (.i (-1000000000)))) (.q (.g (.aC (.t "if") (.aC (.g (.aC (.t "number") (.u (.l (.x 1 1) (.i 1))))) (.aC (.t "<") (.a 2 (.u (.x 0 4)))))))) .skip)
 (.q (.v 0))) [aa (rwE (.ifr y g z t)),aa (opE y),aa (opE z)] (IsIf m sz (.ifr y g z t)):=λf=>by
  cases y with
  |nm i=>exact .pick (k:=ae) (λs=>.and (k:=ae) (m:=ae) () λq=>nomatch q) (λq=>nomatch q) λ_=>.ret (λs=>.r rf) same
  |nu v=>
   refine .pick (k:=ac&&aj (-1000000000 < v)) (λs=>.and () λ_=>.cmp (x:=.int v) (y:=.int (-1000000000)) () () λ_=>rfl) (λq=>?_) λ_=>.ret (λs=>.r rf) same
   have q:-1000000000 < v:=am (by rwa [dL]at q)
   have A:Sm v:=p;refine .ret (λs=>.r rf) ⟨.nu (v - 1),S "<",z,t,rfl,⟨(show Sm (v - 1) by unfold Sm at *;omega),#[],o,w⟩,λvs j _=>?_⟩
   subst f;show(if soI (v - 1) (S "<") (woI vs z)=ac then t else j+1)=if soI v (S "<=") (woI vs z)=ac then t else j+1
   rw[Zba,Za9,Zi3]
 refine .of (v:=YM) rfl rfl (.set (d:=opE y) (λs=>.r rf) (.set (d:=opE z) (λs=>.r rf) (.pick (k:=!decide (g=S "<=")) (λs=>.cmp (x:=.str g) (y:=.str "<=") () () λ_=>rfl) (λ_=>.ret (λs=>.r rf) same) λq=>?_)))
 have f:g=S "<=":=am (by cases c:aj (g=S "<=") with|true=>rfl|false=>rw[c]at q;cases q)
 cases z with
 |nm i=>exact .pick (k:=ae) (λs=>.and (k:=ae) (m:=ae) () λq=>nomatch q) (λq=>nomatch q) λ_=>b f
 |nu v=>
  refine .pick (k:=ac&&aj (v < 999999999)) (λs=>.and () λ_=>.cmp (x:=.int v) (y:=.int 999999999) () () λ_=>rfl) (λq=>?_) λ_=>b f
  have q:v < 999999999:=am (by rwa [dL]at q)
  have A:Sm v:=o;refine .ret (λs=>.r rf) ⟨y,S "<",.nu (v+1),t,rfl,⟨p,#[],(show Sm (v+1) by unfold Sm at *;omega),w⟩,λvs j _=>?_⟩
  subst f;show(if soI (woI vs y) (S "<") (v+1)=ac then t else j+1)=if soI (woI vs y) (S "<=") v=ac then t else j+1
  rw[Zba,Za9,Zi4]
def ZiI{t j:Nat}{y z:Op}(h:Zw m sz (.ifr y g z t)):CX (rT (n+3)) 82 [rwE (.ifr y g z t),.int (j:Int)] (IsRw m sz j (.ifr y g z t)):=by
 refine .of (v:=W0) rfl rfl (.pick (k:=aj ((t:Int)=(j:Int)+1)) (λs=>.cmp (x:=.int (t:Int)) (y:=.int ((j:Int)+1)) () (.add () ()) λ_=>rfl) (λq=>?_) λ_=>?_)
 .have q:=am q
  refine .ret (λs=>.r rf) ⟨.skip,rfl,trivial,λvs _=>?_⟩
  show eL (j+1,vs)=eL (if soI (woI vs y) g (woI vs z)=ac then t else j+1,vs)
  rw[show t=j+1 by omega];split<;>rfl
 .refine .setC (xs:=[rwE (.ifr y g z t)]) (λs=>.r rf) (ZiE h) λd ⟨c,g1,b,l,D,A,E⟩=>?_
  subst D;have F:Als m j (.ifr y g z t) (.ifr c g1 b l):=λvs p=>au (λw=>eL (w,vs)) (E vs j p)
  have o:∀ {t:Nat}{y z:Op}{g:Str},Zw m sz (.ifr y g z t)->RX (rT (n+2)) (.q (.f 81 (.s 0))) [aa (rwE (.ifr y g z t)),jN j] (IsRw m sz j (.ifr y g z t)):=λ{t y z g} h=>.retC (xs:=[rwE (.ifr y g z t)]) (λs=>.r rf) ((ZiH h).mono λ_=>IsIf.rw)
  refine .pick (λs=>.call (xs:=[rwE (.ifr c g1 b l)]) () Zey) (λq=>.retC (xs:=[rwE (.ifr c g1 b l)]) (λs=>.r rf) ((Zbr A q).mono λ_ w=>w.tr F)) λ_=>?_
  have go:∀ (k:Bool),Xs g1 [.str "=",.str "!="]=aa k->(k=ac->g1=S "="\/g1=S "!=")->RX (rT (n+2)) _ _ _:=λk D J=>.iset (k:=k) (i:=0) (e:=.cmp .In (.x 0 2) (.g (.aC (.t "=") (.u (.t "!="))))) (e':=.call 74 (.a 0 (.aC (.i 1) (.u (.i 3)))) []) (U:=[aa (rwE (.ifr c g1 b l)),jN j]) (P:=IsRw m sz j (.ifr y g z t)) (λs=>.cmp (x:=.str g1) (y:=.tup [.str "=",.str "!="]) () () λst=>D) (λq=>by
    obtain⟨d,H,L,N,K,M,rfl,I,G⟩:=ZiF (n:=n) A (J q);obtain⟨d,C,B⟩:=o I;exact⟨_,λs=>.call (xs:=[rwE (.ifr c g1 b l),.int 1,.int 3]) () (H s),d,C,B.tr λvs p=>au (λw=>eL (w,vs)) ((G vs j p).trans (E vs j p))⟩) λ_=>by
    obtain⟨d,C,B⟩:=o A;exact⟨d,C,B.tr F⟩
  exact go (aj (S "="=g1)||(aj (S "!="=g1)||false)) rfl λq=>by
   rw[cB,bC,cQ,bC]at q;exact q.imp aw aw
def Zb3{j:Nat}(h:Zw m sz r):CX (rT (n+5)) 83 [rwE r,.int (j:Int)] (IsRw m sz j r):=by
 have go:∀ (r:Rw),Zw m sz r->RX (rT (n+4)) (.seq (.ite (.e (.v 0) (.g (.aC (.t "go") (.u (.p (.v 1) (.i 1)))))) (.q (.c (.tup [(.str "skip")]))) .skip)
 (.q (.v 0))) [aa (rwE r),jN j] (IsRw m sz j r):=λr h=>.pick (k:=aj (r=.go (j+1))) (λs=>Y.eqr (o:=r) (u:=.go (j+1)) (λs=>.r rf) (λs=>by
   show Y _ _ _ _ (.tup [.str "go",.int ((j+1:Nat):Int)]);rw[bE];exact .cons () (.cons (.add () ()) .nil)) s) (λq=>by cases am q;exact .ret (λs=>.r rf) ⟨.skip,rfl,trivial,λ_ _=>rfl⟩) λ_=>.ret (λs=>.r rf) ⟨r,rfl,h,λ_ _=>rfl⟩
 cases r with
 |put x y g z=>exact .of (v:=Yb) rfl rfl (.pick (k:=ac) (λs=>.r rf) (λ_=>.retC (xs:=[rwE (.put x y g z)]) (λs=>.r rf) (ZgV h)) λq=>nomatch q)
 |ifr y g z t=>exact .of (v:=Yb) rfl rfl (.pick (k:=ae) (λs=>.r rf) (λq=>nomatch q) λ_=>.pick (k:=ac) (λs=>.r rf) (λ_=>.retC (xs:=[rwE (.ifr y g z t),.int (j:Int)]) (λs=>.r rf) (ZiI h)) λq=>nomatch q)
 |go t=>exact .of (v:=Yb) rfl rfl (.pick (k:=ae) (λs=>.r rf) (λq=>nomatch q) λ_=>.pick (k:=ae) (λs=>.r rf) (λq=>nomatch q) λ_=>go _ h)
 |tell y=>exact .of (v:=Yb) rfl rfl (.pick (k:=ae) (λs=>.r rf) (λq=>nomatch q) λ_=>.pick (k:=ae) (λs=>.r rf) (λq=>nomatch q) λ_=>go _ h)
 |skip=>exact .of (v:=Yb) rfl rfl (.pick (k:=ae) (λs=>.r rf) (λq=>nomatch q) λ_=>.pick (k:=ae) (λs=>.r rf) (λq=>nomatch q) λ_=>go _ h)
end
section
variable{k t:Bool}{Q:D->Prop}
open Classical in
def Zhx{α:Type}{b:D->Li (Ot D)}{en:α->D}{l:Li α}{P:α->D->Prop}(j:∀ s,Wk F s it U wk (l.map en))(i:l.length<=1000)(h:∀ a∈l,∃ d,(∀ s,Y F s elt (ZP b U fr (en a)) d)/\P a d):∃ g:α->D,(∀ s,Lv s (Yj b wk fr (ev F it) (ev F elt) (ev F (.c (.bl ac))) U) (l.map g))/\∀ a∈l,P a (g a):=by
 have f:∀ a (e:a∈l),(if h':a∈l then Classical.choose (h a h') else D.non)=Classical.choose (h a e):=λa e=>dif_pos e
 refine⟨λa=>if h':a∈l then Classical.choose (h a h') else .non,λs=>ZaI (j s) i λa e=>?_,λa e=>?_⟩
 .show Y F s elt (ZP b U fr (en a)) (if h':a∈l then Classical.choose (h a h') else D.non)
  rw[f a e];exact(Classical.choose_spec (h a e)).1 s
 .show P a (if h':a∈l then Classical.choose (h a h') else D.non)
  rw[f a e];exact(Classical.choose_spec (h a e)).2
def Y.tof(b:s[j]?=aa (t,xs))(h:Y F s e U (.lst j)):Y F s (.tOf e) U (.tup xs):=λst g=>by
 obtain⟨s1,c,a⟩:=h st g;exact⟨s1,YE c ((g.trans a).get b),a⟩
def Lv.tof(h:Lv s (ev F e U) xs):Y F s (.tOf e) U (.tup xs):=λst g=>by
 obtain⟨s1,j,b,d,c,a⟩:=h st g;exact⟨s1,YE d c,a⟩
noncomputable def enm{α:Type}:Nat->Li α->Li (Nat×α)
 |_,[]=>[]
 |k,x :: xs=>(k,x) :: enm (k+1) xs
theorem U1{α:Type}:∀ {k:Nat}{l:Li α},(enm k l).length=l.length
 |_,[]=>rfl
 |k,_ :: l=>by show(enm (k+1) l).length+1=_;rw[U1];rfl
theorem U2{α:Type}{x:Nat×α}:∀ {k:Nat}{l:Li α},x∈enm k l->x.2∈l
 |k,y :: l,h=>by
  rcases aF.mp (show x∈(k,y) :: enm (k+1) l from h) with rfl|h
  .exact Ls
  .exact Lm _ (U2 h)
theorem Zav{α:Type}{f:α->D}:∀ {k:Nat}{l:Li α},Xy k (l.map f)=(enm k l).map λp=>.tup [.int (p.1:Int),f p.2]
 |_,[]=>rfl
 |k,x :: l=>by show _ :: Xy (k+1) (l.map f)=_;rw[Zav];rfl
theorem Zau{α:Type}:∀ {k i:Nat}{l:Li α},(enm k l)[i]?=(l[i]?).map λx=>(k+i,x)
 |_,_,[]=>rfl
 |k,0,x :: l=>rfl
 |k,i+1,x :: l=>by show(enm (k+1) l)[i]?=(l[i]?).map _;rw[Zau,show k+1+i=k+(i+1) by omega]
theorem Za5:∀ {ys:Li D},(∀ d∈ys,∃ r,d=rwE r)->∃ rs:Li Rw,ys=rs.map rwE
 |[],_=>⟨[],rfl⟩
 |y :: ys,h=>by
  obtain⟨r,rfl⟩:=h y Ls;obtain⟨rs,rfl⟩:=Za5 λd a=>h d (Lm _ a)
  exact⟨r :: rs,rfl⟩
def Mds(m:Nat)(rs a:Li Rw):Prop:=a.length=rs.length/\∀ (k:Nat) r r',rs[k]?=aa r->a[k]?=aa r'->Als m k r r'
def Zb2(w:∀ r∈rs,Zw m sz r)(y:rs.length<=1000):CX (rT (n+6)) 106 [pgD tk m rs] (λd=>∃ c:Li Rw,d=pgD tk m c/\Mds m rs c):=by
 obtain⟨g,t,h⟩:=Zhx (F:=rT (n+5)) (U:=[aa (pgD tk m rs),ab]) (b:=two) (wk:=Jl) (fr:=[]) (it:=.x 0 2) (elt:=.call 83 (.a 1 (.s 0)) []) (en:=λp:Nat×Rw=>.tup [.int (p.1:Int),rwE p.2]) (l:=enm 0 rs) (P:=λp d=>IsRw m sz p.1 p.2 d)
  (λs=>.of (x:=.tup (rs.map rwE)) () λst=>by show aa (Xy 0 (rs.map rwE),_)=_;rw[Zav]) (by rw[U1];exact y) (λp h=>by
   obtain⟨d,f,o⟩:=Zb3 (n:=n) (j:=p.1) (w _ (U2 h));exact⟨d,λs=>.call (xs:=[rwE p.2,.int (p.1:Int)]) () (f s),o⟩)
 obtain⟨c,e⟩:=Za5 (ys:=(enm 0 rs).map g) λd A=>by obtain⟨p,f,rfl⟩:=aR.mp A;obtain⟨i,e,_⟩:=h p f;exact⟨i,e⟩
 have u:c.length=rs.length:=by
  have:=au List.length e;rw[aB,aB,U1]at this;exact this.symm
 refine⟨pgD tk m c,λs=>?_,c,rfl,u,λk r i f o=>?_⟩
 .rw[e]at t
  exact .of (v:=JB) rfl rfl (.setL (e:=QO) (t s) λD j b _ z=>.ret (.cons () (.cons () (.cons (.tof z ()) .nil))))
 .have q:(enm 0 rs)[k]?=aa (k,r):=by rw[Zau,f,bK];rfl
  obtain⟨E,C,_,B⟩:=h _ (aY q);have:((enm 0 rs).map g)[k]?=aa (rwE i):=by rw[e,aT,o];rfl
  rw[aT,q]at this
  injection this with this
  rw[C]at this;rw[<-Qr this];exact B
end
def QB(a b:Nat):a+b=(a ^^^ b)+2 * (a &&& b):=by
 induction a using Nat.strongRecOn generalizing b with
 |_ a c=>
  by_cases h:a=0
  .subst h;simp
  .have i:=c (a / 2) ∅ (b / 2)
   rw[<-Nat.xor_div_two,<-Nat.and_div_two]at i;have x:=@Nat.xor_mod_two_eq_one a b;have n:=@Nat.and_mod_two_eq_one a b;generalize a ^^^ b=q at *
   generalize a &&& b=r at *
   rcases cZ a with ha|ha<;>rcases cZ b with hb|hb<;>rw[ha,hb]at x n
   .have:=(cZ q).resolve_right λz=>(by simp at x;omega)
    have:=(cZ r).resolve_right λz=>(by simp at n;omega)
    omega
   .have:=x.mpr (by simp)
    have:=(cZ r).resolve_right λz=>(by simp at n;omega)
    omega
   .have:=x.mpr (by simp)
    have:=(cZ r).resolve_right λz=>(by simp at n;omega)
    omega
   .have:=(cZ q).resolve_right λz=>(by simp at x;omega)
    have:=n.mpr ⟨rfl,rfl⟩;omega
def Zf3{c i:Nat}(h:c.testBit i=ac):c - 2 ^ i=c ^^^ 2 ^ i:=by
 have a:=QB (c ^^^ 2 ^ i) (2 ^ i);have d:(c ^^^ 2 ^ i) ^^^ 2 ^ i=c:=by rw[Nat.xor_assoc,Nat.xor_self,Nat.xor_zero]
 have b:(c ^^^ 2 ^ i) &&& 2 ^ i=0:=by
  apply eR
  intro j;rw[dA,Nat.testBit_xor,dO,eS];by_cases e:i=j
  .subst e;simp[h]
  .simp[e]
 rw[d,b]at a;omega
noncomputable def woN(c i:Nat):Nat:=c - (c &&& 2 ^ i)
def Ziz{c i j:Nat}:(woN c i).testBit j=(c.testBit j&&!decide (j=i)):=by
 unfold woN;cases h:c.testBit i with
 |false=>
  have e:c &&& 2 ^ i=0:=by
   apply eR
   intro k;rw[dA,dO,eS];by_cases e:i=k
   .subst e;simp[h]
   .simp[e]
  rw[e,dY];by_cases e:j=i
  .subst e;simp[h]
  .simp[e]
 |true=>
  have e:c &&& 2 ^ i=2 ^ i:=by
   apply eR
   intro k;rw[dA,dO];by_cases e:i=k
   .subst e;simp[h]
   .simp[e]
  rw[e,Zf3 h,Nat.testBit_xor,dO];by_cases e:j=i
  .subst e;simp[h]
  .have:¬i=j:=λz=>e z.symm
   simp[e,this]
def ZeK{a k:Nat}:aj (((a &&& 2 ^ k:Nat):Int)=0)=!a.testBit k:=by
 have:(a &&& 2 ^ k=0)↔a.testBit k=ae:=by
  constructor
  .intro h
   have:=au (λz=>z.testBit k) h
   simp only[dA,Nat.testBit_two_pow_self,dX,eS]at this;exact this
  .intro h
   refine eR λi=>?_
   rw[dA,dO,eS];by_cases c:k=i
   .rw[<-c,h];rfl
   .rw[aG c,Bool.and_false]
 cases q:a.testBit k with
 |false=>rw[aK (by rw[this.mpr q];rfl)];rfl
 |true=>rw[aG (λh=>by have:=this.mp (Int.ofNat.inj h);rw[q]at this;cases this)];rfl
variable{E:Ot D->Env}
variable{it:CE}{i':Nat}{u:Ot Rw}
section
variable{c:Nat}{t:Bool}{o:Ot Rw}
def Y.band(e:Y F s a U (.int (c:Int)))(d:Y F s b U (.int (k:Int))):Y F s (.bin .BitAnd a b) U (.int ((c &&& k:Nat):Int)):=.bi e d (by
 show(if 0<=(c:Int)/\0<=(k:Int) then aa (((c:Int).toNat &&& (k:Int).toNat:Nat):Int) else if 0<=(c:Int)/\(k:Int) < 0 then aa ((c:Int) - (((c:Int).toNat &&& (-(k:Int) - 1).toNat:Nat):Int)) else ab)=_
 rw[ao ⟨eT _,eT _⟩,bD,bD])
def Y.bor(e:Y F s a U (.int (c:Int)))(d:Y F s b U (.int (k:Int))):Y F s (.bin .BitOr a b) U (.int ((c ||| k:Nat):Int)):=.bi e d (by
 show(if 0<=(c:Int)/\0<=(k:Int) then aa (((c:Int).toNat ||| (k:Int).toNat:Nat):Int) else ab)=_
 rw[ao ⟨eT _,eT _⟩,bD,bD])
def ZgS(a:k<=60):C (rT (n+2)) s 114 [.int (c:Int),.int (k:Int)] (.bl (c.testBit k)):=
 .of (v:=WY) rfl rfl (.ret (.cmp (.band () (.call1 () (Zaf a))) () λst=>by
  show(aa (aj (((c &&& 2 ^ k:Nat):Int)=0))).map Bool.not=_;rw[ZeK];show aa (!!c.testBit k)=_;rw[Bool.not_not]))
def Zj4{v:Nat}:Zck .BitAnd (c:Int) (-(v:Int) - 1)=aa ((c - (c &&& v):Nat):Int):=by
 have a:c &&& v<=c:=Nat.and_le_left;show(if 0<=(c:Int)/\0<=-(v:Int) - 1 then aa (((c:Int).toNat &&& (-(v:Int) - 1).toNat:Nat):Int) else if 0<=(c:Int)/\-(v:Int) - 1 < 0 then aa ((c:Int) - (((c:Int).toNat &&& (-(-(v:Int) - 1) - 1).toNat:Nat):Int)) else ab)=_
 rw[aq ∅,ao ∅,bD,show(-(-(v:Int) - 1) - 1).toNat=v by omega,Int.ofNat_sub a]
def ZiN(a:k<=60):C (rT (n+2)) s 57 [.int (c:Int),.int (k:Int)] (.int ((woN c k:Nat):Int)):=
 .of (v:=Y8) rfl rfl (.ret (.bi (i:=(c:Int)) (j:=-((2 ^ k:Nat):Int) - 1) () (g1 (.call1 () (Zaf a)) (gp λ_=>rfl)) Zj4))
def ZgR(a:k<=60):C (rT (n+2)) s 56 [.int (k:Int)] (.int ((2 ^ k - 1:Nat):Int)):=by
 refine .of (v:=Wn) rfl rfl (.ret ?_);rw[Int.ofNat_sub (Nat.one_le_two_pow)];exact .sub (.call1 () (Zaf a)) ()
def Bs(F:Nat->Fn)(s:Za)(q:CS)(U:Env)(o:Ot D):Prop:=∀ st,Grw s st->∃ st',ex F q U st=aa (match o with|some d=>.rt d|none=>.nx U,st')/\Grw st st'
theorem Bs.skip:Bs F s .skip U ab:=λst _=>⟨st,rfl,.refl⟩
theorem Bs.ite{o:Ot D}(h:Y F s e U (.bl t))(l:t=ac->Y F s a U d)(k:t=ae->Bs F s q U o):Bs F s (.seq (.ite e (.q a) .skip) q) U (if t=ac then aa d else o):=λst g=>by
 obtain⟨s1,j,b⟩:=h st g;cases t with
 |true=>
  obtain⟨c,i,f⟩:=l rfl s1 (g.trans b);exact⟨c,Zj ((Yl j).trans (Zj (ZR i))),b.trans f⟩
 |false=>
  obtain⟨c,i,f⟩:=k rfl s1 (g.trans b);exact⟨c,(Zc ((X9 j).trans Zi)).trans i,b.trans f⟩
noncomputable def skR{α:Type}(f:α->Ot D):Li α->Ot D
 |[]=>ab
 |x :: l=>match f x with
  |some d=>aa d
  |none=>skR f l
theorem Zio{α:Type}{en:α->D}{f:α->Ot D}{E:Ot D->Env}(c:∀ y d,Zf (E y) i d=E (aa d)):∀ {l:Li α},(∀ x∈l,Bs F s q (E (aa (en x))) (f x))->∀ {y:Ot D}{st:Za},Grw s st->∃ a st',Zh (λd U s=>ex F q (Zf U i d) s) (l.map en) (E y) st=aa (match skR f l with|some d=>.rt d|none=>.nx (E a),st')/\Grw st st'
 |[],_,y,st,_=>⟨y,st,rfl,.refl⟩
 |x :: l,h,y,st,g=>by
  obtain⟨s1,n,b⟩:=h x Ls st g;obtain⟨a,e,m,j⟩:=Zio c (λz k=>h z (Lm _ k)) (y:=aa (en x)) (g.trans b)
  show ∃ a st',(match ex F q (Zf (E y) i (en x)) st with
   |some (.nx U',st')=>Zh (λd U s=>ex F q (Zf U i d) s) (l.map en) U' st'
   |some (.ct U',st')=>Zh (λd U s=>ex F q (Zf U i d) s) (l.map en) U' st'
   |some (.bk U',st')=>aa (.nx U',st')
   |some (.rt v,st')=>aa (.rt v,st')
   |none=>ab)=_/\_
  rw[c,n];unfold skR;cases f x with
  |some d=>exact⟨y,s1,rfl,b⟩
  |none=>exact⟨a,e,m,b.trans j⟩
def R.seekD{l:Li α}{en:α->D}{f:α->Ot D}{y:Ot D}(u:∀ y d,Zf (E y) i d=E (aa d))(r:Y F s it (E y) (.tup (l.map en)))(t:∀ x∈l,Bs F s q (E (aa (en x))) (f x))(o:∀ y,R F s p (E y) d):R F s (.seq (.for1 i ae it q) p) (E y) ((skR f l).getD d):=λst g=>by
 obtain⟨s1,j,a⟩:=r st g;obtain⟨k,h,b,e⟩:=Zio u t (y:=y) (g.trans a);cases c:skR f l with
 |some v=>rw[c]at b;exact⟨h,Zj ((for_tup j).trans b),a.trans e⟩
 |none=>
  rw[c]at b;obtain⟨m,w,n⟩:=o k h (g.trans (a.trans e));exact⟨m,(Zc ((for_tup j).trans b)).trans w,a.trans (e.trans n)⟩
def R.seekR{N:Nat}{f:Nat->Ot D}{y:Ot D}(A:∀ y d,Zf (E y) i d=E (aa d))(w:Y F s it (E y) (.int (N:Int)))(hN:N<=1000000)(z:∀ x,x < N->Bs F s q (E (jN x)) (f x))(u:∀ y,R F s p (E y) d):R F s (.seq (.for1 i ac it q) p) (E y) ((skR f (ag N)).getD d):=λst g=>by
 obtain⟨s1,C,a⟩:=w st g;obtain⟨n,m,b,h⟩:=Zio (en:=λ(k:Nat)=>D.int (k:Int)) (l:=ag N) A (λx t=>z x (cA.mp t)) (y:=y) (g.trans a)
 have j:=WH (F:=F) (i:=i) (e:=it) (q:=q) (v:=(N:Int)) ∅ ∅ C
 rw[bD]at j;cases c:skR f (ag N) with
 |some v=>rw[c]at b;exact⟨m,Zj (j.trans b),a.trans h⟩
 |none=>
  rw[c]at b;obtain⟨o,B,r⟩:=u n m (g.trans (a.trans h));exact⟨o,(Zc (j.trans b)).trans B,a.trans (h.trans r)⟩
theorem ZjU{α:Type}{ok:Za->Prop}{u v:α->D}{f:α->Ot D}{E:Ot D->Ot D->Env}(j:∀ st,Grw s st->ok st)(k:∀ y z c d,Zf (Zf (E y z) i c) i' d=E (aa c) (aa d)):∀ {l:Li α},(∀ x∈l,Bs F s q (E (aa (u x)) (aa (v x))) (f x))->∀ {y z:Ot D}{st:Za},Grw s st->∃ b a st',Yg ok (λx y U s=>ex F q (Zf (Zf U i x) i' y) s) (l.map λx=>(u x,v x)) (E y z) st=aa (match skR f l with|some d=>.rt d|none=>.nx (E b a),st')/\Grw st st'
 |[],_,y,z,st,g=>⟨y,z,st,ao (j st g),.refl⟩
 |x :: l,h,y,z,st,g=>by
  obtain⟨s1,r,e⟩:=h x Ls st g;obtain⟨b,a,m,p,n⟩:=ZjU j k (λz o=>h z (Lm _ o)) (y:=aa (u x)) (z:=aa (v x)) (g.trans e)
  rw[aQ,Yg,ao (j st g)];simp only[k];rw[r];unfold skR;cases f x with
  |some d=>exact⟨y,z,s1,rfl,e⟩
  |none=>exact⟨b,a,m,p,e.trans n⟩
theorem QQ{α:Type}{f:α->D}:∀ {k:Nat}{l:Li α},WE k (l.map f)=(enm k l).map λp=>(D.int (p.1:Int),f p.2)
 |_,[]=>rfl
 |k,x :: l=>by show _ :: WE (k+1) (l.map f)=_;rw[QQ];rfl
def R.seekE{α:Type}{l:Li α}{en:α->D}{f:Nat×α->Ot D}{E:Ot D->Ot D->Env}{y z:Ot D}(H:∀ y z c d,Zf (Zf (E y z) i c) i' d=E (aa c) (aa d))(C:Wk F s it (E y z) Zbl (l.map en))(G:∀ x∈enm 0 l,Bs F s q (E (jN x.1) (aa (en x.2))) (f x))(A:∀ y z,R F s p (E y z) d):R F s (.seq (.forE i i' it q) p) (E y z) ((skR f (enm 0 l)).getD d):=λst g=>by
 obtain⟨x,s1,ok,K,a,I,B⟩:=C st g;obtain⟨n,m,j,b,e⟩:=ZjU (s:=s1) (u:=λp:Nat×α=>D.int (p.1:Int)) (v:=λp=>en p.2) B H (λx t st h=>G x t st ((g.trans a).trans h)) (y:=y) (z:=z) .refl
 have k:ex F (.forE i i' it q) (E y z) st=Yg ok (λx y U s=>ex F q (Zf (Zf U i x) i' y) s) ((enm 0 l).map λp=>(D.int (p.1:Int),en p.2)) (E y z) s1:=by
  rw[<-QQ];show QR i i' (ev F it) (ex F q) (E y z) st=_;unfold QR;simp only[K,I]
 cases c:skR f (enm 0 l) with
 |some w=>rw[c]at b;exact⟨j,Zj (k.trans b),a.trans e⟩
 |none=>
  rw[c]at b;obtain⟨o,J,r⟩:=A n m j (g.trans (a.trans e));exact⟨o,(Zc (k.trans b)).trans J,a.trans (e.trans r)⟩
theorem Za6{α:Type}{f:α->Ot D}:∀ {l:Li α},(∀ x∈l,f x=ab)->skR f l=ab
 |[],_=>rfl
 |x :: l,h=>by unfold skR;rw[h x Ls];exact Za6 λz a=>h z (Lm _ a)
theorem Za7{α:Type}{f:α->Ot D}:∀ {l:Li α},skR f l=aa d->∃ x∈l,f x=aa d
 |x :: l,h=>by
  unfold skR at h;cases c:f x with
  |some v=>rw[c]at h;cases h;exact⟨x,Ls,c⟩
  |none=>rw[c]at h;obtain⟨z,a,e⟩:=Za7 h;exact⟨z,Lm _ a,e⟩
end
noncomputable def Zi5:D:=.tup [.str "end"]
def roD:Ot Rw->D
 |none=>Zi5
 |some r=>rwE r
noncomputable def isE:Ot Rw->Bool
 |none=>ac
 |some (.tell _)=>ac
 |_=>ae
noncomputable def WQ:Rw->Li (Nat×Op)
 |.put _ y _ z=>[(2,y),(4,z)]
 |.ifr y _ z _=>[(1,y),(3,z)]
 |.tell y=>[(1,y)]
 |_=>[]
noncomputable def inB(b:Nat):Op->Bool
 |.nm i=>b.testBit i
 |.nu _=>ac
def rdO(b:Nat)(r:Rw):Bool:=(WQ r).all λp=>inB b p.2
def eaB(b:Nat)(o u:Ot Rw):Bool:=aj (o=u)&&(match o with|none=>ac|some r=>rdO b r)
def caB(b:Nat):Rw->Rw->Bool
 |.ifr y g z t,.ifr c d a _=>Zs [opE y,.str g,opE z] [opE c,.str d,opE a]&&rdO b (.ifr y g z t)
 |_,_=>ae
def woX(b:Nat):Rw->Nat
 |.put x _ _ _=>woN b x
 |_=>b
noncomputable def isP:Rw->Bool
 |.put _ _ _ _=>ac
 |_=>ae
noncomputable def tgR:Rw->Nat
 |.put x _ _ _=>x
 |_=>0
def stN(b:Nat)(r q:Rw):Nat:=if (isP r&&(aj (aa r=aa q)&&rdO b r))=ac then b ||| 2 ^ tgR r else woX (woX b r) q
noncomputable def pbN(k:Nat):Rw->Li Nat
 |.go t=>[t]
 |.ifr _ _ _ t=>[t,k+1]
 |_=>[k+1]
section
variable{c:Nat}{q:Rw}{o:Ot Rw}
def Zjg:S "put"≠S "end"/\S "if"≠S "end"/\S "go"≠S "end"/\S "tell"≠S "end"/\S "skip"≠S "end":=by decide +kernel
def ZdX(o:Ot Rw):∃ a,roD o=.tup a/\okD 8 (.tup a)=ac:=by
 cases o with
 |none=>exact⟨_,rfl,rfl⟩
 |some r=>exact J6 r
def Zh5(h:roD o=roD u):o=u:=by
 obtain⟨f,e,d,c,b⟩:=Zjg;have a:∀ r:Rw,rwE r≠Zi5:=λr h=>by
  cases r with
  |put _ _ _ _=>exact ar (ZM h) f
  |ifr _ _ _ _=>exact ar (ZM h) e
  |go _=>exact ar (ZM h) d
  |tell _=>exact ar (ZM h) c
  |skip=>exact ar (ZM h) b
 cases o with
 |none=>cases u with
  |none=>rfl
  |some r=>exact ar h.symm (a r)
 |some r=>cases u with
  |none=>exact ar h (a r)
  |some q=>rw[Qr h]
def Y.eqro(g:Y F s a U (roD o))(f:Y F s b U (roD u)):Y F s (.e a b) U (.bl (aj (o=u))):=by
 obtain⟨j,c,i⟩:=ZdX o;obtain⟨ys,d,k⟩:=ZdX u;have e:aj (o=u)=Zs j ys:=by
  rw[VF i];refine fH ⟨λh=>?_,λh=>Zh5 (by rw[c,d,h])⟩
  rw[h,d]at c;injection c with c;exact c.symm
 rw[c]at g;rw[d]at f;rw[e];exact .eqd g f i k
inductive RoP(m:Nat)(rs:List Rw)(k:Nat):Option Rw->Prop where
 |e (h:rs.length<=k):RoP m rs k ab
 |r {r r':Rw} (h:rs[k]?=aa r) (ok:Zw m rs.length r') (al:Als m k r r'):RoP m rs k (aa r')
def Zaj(p:Rs m rs):CX (rT (n+6)) 115 [pgD tk m rs,.int (k:Int)] (λd=>∃ o,d=roD o/\RoP m rs k o):=by
 have f:∀ s,Y (rT (n+5)) s (.cmp .GtE (.v 1) (.len (.x 0 2))) [aa (pgD tk m rs),jN k] (.bl (aj ((rs.length:Int)<=(k:Int)))):=λs=>by
  have:=Y.cmp (F:=rT (n+5)) (s:=s) (op:=.GtE) (a:=.v 1) (b:=.len (.x 0 2)) (U:=[aa (pgD tk m rs),jN k]) (x:=.int (k:Int)) (y:=.int ((rs.map rwE).length:Int)) () (.lnT ()) λ_=>rfl
  rw[aB]at this;exact this
 by_cases h:rs.length<=k
 .exact .of (v:=WA) rfl rfl (.pick f (λ_=>.ret (λs=>.r rf) ⟨ab,rfl,.e h⟩) λq=>ar (ak q) ∅)
 .have c:=Lg (l:=rs) (i:=k) ∅
  obtain⟨d,t,g,u,ok,w⟩:=Zb3 (n:=n) (j:=k) (p.ok _ (aY c));subst u;exact .of (v:=WA) rfl rfl (.pick f (λq=>ar (am q) ∅) λ_=>.ret (λs=>.call (xs:=[rwE rs[k],.int (k:Int)]) (.cons (.ixt (j:=k) (xs:=rs.map rwE) () () (by rw[aT,c];rfl)) ()) (t s)) ⟨aa g,rfl,.r c ok w⟩)
def ZbZ:C (rT (n+1)) s 116 [roD o] (.bl (isE o)):=by
 have a:Y (rT n) s (.e (.v 0) (.c (.tup [.str "end"]))) [aa (roD o)] (.bl (aj (o=ab))):=.eqro (u:=ab) () ();cases o with
 |none=>exact .of (v:=Xp) rfl rfl (.ret (.or (k:=ac) (m:=ae) a λq=>nomatch q))
 |some r=>cases r<;>exact .of (v:=Xp) rfl rfl (.ret (.or (k:=ae) a λ_=>.r rf))
def ZhL:∀ p∈WQ r,∃ b,rwE r=.tup b/\b[p.1]?=aa (opE p.2):=λp a=>by
 cases r with
 |put x y g z=>
  simp only[WQ,aF,aW,or_false]at a;rcases a with rfl|rfl<;>exact⟨_,rfl,rfl⟩
 |ifr y g z t=>
  simp only[WQ,aF,aW,or_false]at a;rcases a with rfl|rfl<;>exact⟨_,rfl,rfl⟩
 |tell y=>
  simp only[WQ,aF,aW,or_false]at a;subst a;exact⟨_,rfl,rfl⟩
 |go t=>cases a
 |skip=>cases a
def ZhM(h:Zw m sz r):∀ p∈WQ r,Wx m p.2:=λp a=>by
 cases r with
 |put x y g z=>
  simp only[WQ,aF,aW,or_false]at a;rcases a with rfl|rfl
  .exact h.2.1
  .exact h.2.2.2
 |ifr y g z t=>
  simp only[WQ,aF,aW,or_false]at a;rcases a with rfl|rfl
  .exact h.1
  .exact h.2.2.1
 |tell y=>
  simp only[WQ,aF,aW,or_false]at a;subst a;exact h
 |go t=>cases a
 |skip=>cases a
def Zb7:C (rT (n+1)) s 113 [rwE r] (.tup ((WQ r).map λp=>.int (p.1:Int))):=by
 cases r<;>exact .of (v:=Z5) rfl rfl (.ret ())
def UO(f:m<=60)(h:Zw m sz r):C (rT (n+3)) s 117 [rwE r,.int (c:Int)] (.bl (rdO c r)):=by
 have e:D.bl (rdO c r)=(skR (λp:Nat×Op=>if (!inB c p.2)=ac then aa (.bl ae) else ab) (WQ r)).getD (.bl ac):=by
  unfold rdO
  induction WQ r with
  |nil=>rfl
  |cons p l d=>
   unfold skR;rw[bG];cases inB c p.2 with
   |true=>exact d
   |false=>rfl
 rw[e];refine .of (v:=Xr) rfl rfl (.seekD (i:=2) (l:=WQ r) (en:=λp=>.int (p.1:Int)) (E:=λy=>[aa (rwE r),jN c,y]) (λ_ _=>rfl) (.call (xs:=[rwE r]) () Zb7) (λp b=>?_) λy=>.ret ())
 obtain⟨xs,o,g⟩:=ZhL p b;have a:Y (rT (n+2)) s (.ix (.v 0) (.v 2)) [aa (rwE r),jN c,jN p.1] (opE p.2):=by
  rw[o];exact .ixt (j:=p.1) (xs:=xs) () () g
 have ok:=ZhM h p b;refine .ite (t:=!inB c p.2) ?_ (λ_=>.r rf) λ_=>.skip
 cases q:p.2 with
 |nm x=>
  rw[q]at a ok;exact .and (k:=ac) (.cmp (x:=.str "name") (.ixt (j:=0) a () rfl) () λ_=>rfl) λ_=>.not (.call (xs:=[.int (c:Int),.int (x:Int)]) (.cons () (.cons (.ixt (j:=1) a () rfl) .nil)) (ZgS (dB (aU ok f))))
 |nu v=>
  rw[q]at a;exact .and (k:=ae) (m:=ae) (.cmp (x:=.str "number") (.ixt (j:=0) a () rfl) () λ_=>rfl) λq=>nomatch q
def Zag(b:m<=60)(h:∀ r,o=aa r->Zw m sz r):C (rT (n+4)) s 118 [roD o,roD u,.int (c:Int)] (.bl (eaB c o u)):=by
 refine .of (v:=XI) rfl rfl (.ret (.and (.eqro () ()) λ_=>?_))
 have a:Y (rT (n+3)) s (.e (.v 0) (.c (.tup [.str "end"]))) [aa (roD o),aa (roD u),jN c] (.bl (aj (o=ab))):=.eqro (u:=ab) () ();cases o with
 |none=>exact .or (k:=ac) (m:=ae) a λq=>nomatch q
 |some r=>exact .or (k:=ae) a λ_=>.call (xs:=[rwE r,.int (c:Int)]) () (UO b (h r rfl))
def Zex(d:m<=60)(h:Zw m sz r):C (rT (n+4)) s 119 [rwE r,rwE q,.int (c:Int)] (.bl (caB c r q)):=by
 cases r with
 |ifr y g z t=>cases q with
  |ifr b e a f=>
   refine .of (v:=Z1) rfl rfl (.ret (.and (k:=ac) () λ_=>.and (k:=ac) () λ_=>.and (.eqd (xs:=[opE y,.str g,opE z]) (ys:=[opE b,.str e,opE a]) () () ?_ ?_) λ_=>.call (xs:=[rwE (.ifr y g z t),.int (c:Int)]) () (UO d h)))
   .cases y<;>cases z<;>rfl
   .cases b<;>cases a<;>rfl
  |_=>exact .of (v:=Z1) rfl rfl (.ret (.and (k:=ac) () λ_=>.and (k:=ae) (m:=ae) () λq=>nomatch q))
 |_=>exact .of (v:=Z1) rfl rfl (.ret (.and (k:=ae) (m:=ae) () λq=>nomatch q))
def Zbb{A B y:Ot D}(d:m<=60)(h:Zw m sz r):∀ st,Grw s st->∃ st',ex (rT (n+3)) ZF [A,B,jN c,aa (rwE r)] st=aa (.nx [A,B,aa (.int ((woX c r:Nat):Int)),aa (rwE r)],st')/\Grw st st':=λst g=>by
 cases r with
 |put x y g z=>
  obtain⟨s1,e,b⟩:=Y.call (F:=rT (n+3)) (s:=st) (f:=57) (a:=.a 2 (.u (.x 3 1))) (U:=[A,B,jN c,aa (rwE (.put x y g z))]) (xs:=[.int (c:Int),.int (x:Int)]) (ds:=[]) () (ZiN (n:=n+1) (dB (aU h.1 d))) st .refl;exact⟨s1,(Zc ((Yl rfl).trans ((Zc (Zk e)).trans Zi))).trans Zi,b⟩
 |_=>exact⟨st,(Zc ((X9 rfl).trans Zi)).trans Zi,.refl⟩
def ZgY(b:m<=60)(h:Zw m sz r)(D:Zw m sz q):C (rT (n+4)) s 120 [rwE r,rwE q,.int (c:Int)] (.int ((stN c r q:Nat):Int)):=by
 have f:R (rT (n+3)) s (.seq (.for1 3 ae (.g (.a 0 (.s 1))) ZF) (.q (.v 2))) [aa (rwE r),aa (rwE q),jN c,ab] (.int ((woX (woX c r) q:Nat):Int)):=λst g=>by
  obtain⟨s1,F,p⟩:=Zbb (n:=n) (s:=st) (c:=c) (A:=aa (rwE r)) (B:=aa (rwE q)) (y:=ab) b h st .refl;obtain⟨i,E,l⟩:=Zbb (n:=n) (s:=s1) (c:=woX c r) (A:=aa (rwE r)) (B:=aa (rwE q)) (y:=ab) b D s1 .refl;refine⟨i,(Zc (U':=[aa (rwE r),aa (rwE q),aa (.int ((woX (woX c r) q:Nat):Int)),aa (rwE q)]) (s':=i) ((for_tup (xs:=[rwE r,rwE q]) rfl).trans ?_)).trans (Zj (ZR rfl)),p.trans l⟩
  show(match ex (rT (n+3)) ZF [aa (rwE r),aa (rwE q),jN c,aa (rwE r)] st with
   |some (.nx U',st')=>Zh (λd U s=>ex (rT (n+3)) ZF (Zf U 3 d) s) [rwE q] U' st'
   |some (.ct U',st')=>Zh (λd U s=>ex (rT (n+3)) ZF (Zf U 3 d) s) [rwE q] U' st'
   |some (.bk U',st')=>aa (.nx U',st')
   |some (.rt v,st')=>aa (.rt v,st')
   |none=>ab)=_
  rw[F];show(match ex (rT (n+3)) ZF [aa (rwE r),aa (rwE q),aa (.int ((woX c r:Nat):Int)),aa (rwE q)] s1 with
   |some (.nx U',st')=>Zh (λd U s=>ex (rT (n+3)) ZF (Zf U 3 d) s) [] U' st'
   |some (.ct U',st')=>Zh (λd U s=>ex (rT (n+3)) ZF (Zf U 3 d) s) [] U' st'
   |some (.bk U',st')=>aa (.nx U',st')
   |some (.rt v,st')=>aa (.rt v,st')
   |none=>ab)=_
  rw[E];rfl
 have j:Y (rT (n+3)) s (.e (.x 0 0) (.t "put")) [aa (rwE r),aa (rwE q),jN c,ab] (.bl (isP r)):=by cases r<;>exact .r rf
 refine .of (v:=W4) rfl rfl (.pick (k:=isP r&&(aj (aa r=aa q)&&rdO c r)) (.and j λ_=>.and (.eqro (o:=aa r) (u:=aa q) () ()) λ_=>.call (xs:=[rwE r,.int (c:Int)]) () (UO b h)) (λz=>?_) λz=>?_)
 .unfold stN
  rw[ao z];cases r with
  |put x y g w=>exact .ret (.bor () (.call1 (x:=.int (x:Int)) () (Zaf (dB (aU h.1 b)))))
  |_=>cases z
 .unfold stN
  rw[aq (by rw[z];decide)]
  exact f
def Qz:C (rT (n+1)) s 121 [rwE r,.int (k:Int)] (.tup ((pbN k r).map λ(x:Nat)=>D.int (x:Int))):=by
 have one:∀ {U:Env},U[1]?=aa (jN k)->Y (rT n) s (.p (.v 1) (.i 1)) U (.int ((k+1:Nat):Int)):=λ{U} h=>by
  rw[bE];exact .add (.v h) ()
 cases r with
 |go t=>exact .of (v:=ZV) rfl rfl (.yes () ())
 |ifr y g z t=>
  show C _ _ _ _ (.tup [.int (t:Int),.int ((k+1:Nat):Int)]);exact .of (v:=ZV) rfl rfl (.no () (.yes () (.cons () (.cons (one rfl) .nil))))
 |_=>
  show C _ _ _ _ (.tup [.int ((k+1:Nat):Int)]);exact .of (v:=ZV) rfl rfl (.no () (.no () (.ret (.cons (one rfl) .nil))))
end
noncomputable def trD(t:Nat×Nat×Nat):D:=.tup [.int (t.1:Int),.int (t.2.1:Int),.int (t.2.2:Int)]
def Ag(c:Nat)(vs a:Li Int):Prop:=∀ i,c.testBit i=ac->vs.getD i 0=a.getD i 0
def Mt(a:Li (Nat×Nat×Nat)):Sum D (Nat×Li Int)->Sum D (Nat×Li Int)->Prop
 |.inl o,.inl b=>o=b
 |.inr p,.inr q=>∃ t∈a,t.1=p.1/\t.2.1=q.1/\Ag t.2.2 p.2 q.2
 |_,_=>False
def roM(k:Nat)(vs:Li Int):Ot Rw->Sum D (Nat×Li Int)
 |none=>.inl noD
 |some r=>rv k vs r
structure FolT(m:Nat)(rs rs':List Rw)(k j c:Nat)(ts:List (Nat×Nat×Nat)):Prop where
 l:ts.length<=4
 b:∀ t∈ts,t.1<=rs.length/\t.2.1<=rs'.length/\t.2.2 < 2 ^ m
 s:∀ vs ws,Vs m vs->Vs m ws->Ag c vs ws->Mt ts (mv rs k vs) (mv rs' j ws)
def Zkd(m:Nat)(rs a:Li Rw)(k j c:Nat)(d:D):Prop:=d=.non\/∃ b,d=.tup (b.map trD)/\FolT m rs a k j c b
variable{rs':Li Rw}{ws:Li Int}
section
variable{c:Nat}{q:Rw}{o:Ot Rw}{y:Op}
theorem RoP.mv(h:RoP m rs k o)(a:Vs m vs):mv rs k vs=roM k vs o:=by
 cases h with
 |e h=>unfold Dp.mv;rw[dF h];rfl
 |r h ok b=>rw[ZaU h];exact(b vs a).symm
def Zj3(h:inB c y=ac)(a:Ag c vs ws):woI vs y=woI ws y:=by
 cases y with
 |nm i=>exact a i h
 |nu v=>rfl
def Jg(h:rdO c r=ac)(a:Ag c vs ws):∀ p∈WQ r,woI vs p.2=woI ws p.2:=λp b=>Zj3 (cT.mp h p b) a
def Zip(h:eaB c o u=ac)(b:(isE o||isE u)=ac)(a:Ag c vs ws):Mt [] (roM k vs o) (roM j ws u):=by
 unfold eaB at h;rw[Ba,bC]at h;obtain⟨rfl,h⟩:=h;rw[Bool.or_self]at b;cases o with
 |none=>rfl
 |some r=>cases r with
  |tell y=>show teD _=teD _;rw[Jg h a (1,y) Ls]
  |_=>cases b
def Zd6(h:caB c r q=ac)(a:Ag c vs ws):∃ y g z t b,r=.ifr y g z t/\q=.ifr y g z b/\Mt [(t,b,c),(k+1,j+1,c)] (rv k vs r) (rv j ws q):=by
 cases r with
 |ifr y g z t=>cases q with
  |ifr i l f b=>
   have h:(Zs [opE y,.str g,opE z] [opE i,.str l,opE f]&&rdO c (.ifr y g z t))=ac:=h;rw[Ba]at h;have e:=Vo h.1
   injection e with n e;injection e with d e;injection e with m _;injection d with d
   cases XV n;cases d;cases XV m
   refine⟨y,g,z,t,b,rfl,rfl,?_⟩;show ∃ p∈[(t,b,c),(k+1,j+1,c)],p.1=(if soI (woI vs y) g (woI vs z)=ac then t else k+1)/\p.2.1=(if soI (woI ws y) g (woI ws z)=ac then b else j+1)/\Ag p.2.2 vs ws
   rw[Jg h.2 a (1,y) Ls,Jg h.2 a (3,z) (Lm _ Ls)];split
   .exact⟨_,Ls,rfl,rfl,a⟩
   .exact⟨_,Lm _ Ls,rfl,rfl,a⟩
  |_=>cases h
 |_=>cases h
def Zep(h:(woX c r).testBit i=ac):c.testBit i=ac/\(isP r=ac->i≠tgR r):=by
 cases r with
 |put x y g z=>
  have h:(woN c x).testBit i=ac:=h;rw[Ziz,Ba]at h;refine⟨h.1,λ_ e=>?_⟩
  have e:i=x:=e;rw[aK e]at h;cases h.2
 |_=>exact⟨h,λq=>nomatch q⟩
def Zbk(h:isP r=ac->i≠tgR r):(vsN vs r).getD i 0=vs.getD i 0:=by
 cases r with
 |put x y g z=>
  have h:i≠x:=h rfl;show(vs.set x _).getD i 0=_;rw[aV,aV,bU (Ne.symm h)]
 |_=>rfl
def ZjV(p:Vs m vs)(o:Vs m ws)(ok:Zw m sz r)(a:Ag c vs ws):Ag (stN c r q) (vsN vs r) (vsN ws q):=λi h=>by
 unfold stN at h;split at h
 .rename_i z
  rw[Ba,Ba,bC]at z;obtain⟨j,f,d⟩:=z;cases f;cases r with
  |put x y g z=>
   have e:rkI (woI vs y) g (woI vs z)=rkI (woI ws y) g (woI ws z):=by
    rw[Jg d a (2,y) Ls,Jg d a (4,z) (Lm _ Ls)]
   have v:=p.l;have u:=o.l;have w:x < m:=ok.1;show(vs.set x _).getD i 0=(ws.set x _).getD i 0;rw[aV,aV];by_cases b:x=i
   .subst b
    rw[bT ∅,bT ∅,e]
   .rw[bU b,bU b,<-aV,<-aV]
    have h:(c ||| 2 ^ x).testBit i=ac:=h;rw[Nat.testBit_or,dO,aG b,cQ]at h;exact a i h
  |_=>cases j
 .obtain⟨t,n⟩:=Zep h
  obtain⟨s,k⟩:=Zep t;rw[Zbk k,Zbk n];exact a i s
def ZgQ:woX c r<=c:=by
 cases r with
 |put x y g z=>exact Nat.sub_le _ _
 |_=>exact aD _
def ZjW(a:c < 2 ^ m)(ok:Zw m sz r):stN c r q < 2 ^ m:=by
 unfold stN;split
 .rename_i z
  rw[Ba]at z;cases r with
  |put x y g w=>exact Nat.or_lt_two_pow a (Nat.pow_lt_pow_right #[] ok.1)
  |_=>cases z.1
 .exact Nat.lt_of_le_of_lt (aM ZgQ ZgQ) a
def ZdM(a:∀ y,r≠.tell y):∃ x∈pbN k r,rv k vs r=.inr (x,vsN vs r):=by
 cases r with
 |tell y=>exact ar rfl (a y)
 |ifr y g z t=>
  show ∃ x∈[t,k+1],eL (if soI (woI vs y) g (woI vs z)=ac then t else k+1,vs)=eL (x,vs)
  split
  .exact⟨_,Ls,rfl⟩
  .exact⟨_,Lm _ Ls,rfl⟩
 |_=>exact⟨_,Ls,rfl⟩
def ZgD(a:k < sz)(ok:Zw m sz r):∀ x∈pbN k r,x<=sz:=λx hx=>by
 cases r with
 |go t=>rw[aP.mp hx];exact ok
 |ifr y g z t=>
  rcases aF.mp hx with rfl|hx
  .exact ok.2.2.2
  .rw[aP.mp hx];exact a
 |_=>rw[aP.mp hx];exact a
def JX:(pbN k r).length<=2:=by cases r<;>first|exact aD _|exact Nat.le_succ _
def ZbN(k j c:Nat)(r q:Rw):Li (Nat×Nat×Nat):=(pbN k r).flatMap λp=>(pbN j q).map λa=>(p,a,stN c r q)
def Zay:(ZbN k j c r q).length<=4:=by
 have d:=JX (k:=j) (r:=q);have h:∀ l:Li Nat,(l.flatMap λp=>(pbN j q).map λa=>(p,a,stN c r q)).length<=2 * l.length:=λl=>by
  induction l with
  |nil=>exact aD _
  |cons x l b=>rw[bY,aH,aB,aO];omega
 have:=h (pbN k r);have:=JX (k:=k) (r:=r);unfold ZbN;omega
def Ziq(f:Vs m vs)(e:Vs m ws)(ok:Zw m sz r)(h:∀ y,r≠.tell y)(g:∀ y,q≠.tell y)(a:Ag c vs ws):Mt (ZbN k j c r q) (rv k vs r) (rv j ws q):=by
 obtain⟨x,d,l⟩:=ZdM (k:=k) (vs:=vs) h;obtain⟨z,b,i⟩:=ZdM (k:=j) (vs:=ws) g;rw[l,i];exact⟨(x,z,stN c r q),dN.mpr ⟨x,d,aR.mpr ⟨z,b,rfl⟩⟩,rfl,rfl,ZjV f e ok a⟩
def Zb0(V:Rs m rs)(J:Rs m rs')(H:m<=60)(K:c < 2 ^ m):CX (rT (n+7)) 122 [pgD tk m rs,pgD tk m rs',.int (k:Int),.int (j:Int),.int (c:Int)] (Zkd m rs rs' k j c):=by
 refine .of (v:=VL) rfl rfl (.setC (xs:=[pgD tk m rs,.int (k:Int)]) (λs=>.r rf) (Zaj V) λd ⟨o,M,G⟩=>.setC (xs:=[pgD tk m rs',.int (j:Int)]) (λs=>.r rf) (Zaj J) λd' ⟨u,L,F⟩=>?_)
 subst M;subst L
 have w:∀ r,o=aa r->Zw m rs.length r:=λr e=>by
  subst e;cases G with|r h ok N=>exact ok
 have I:∀ r,u=aa r->Zw m rs'.length r:=λr e=>by
  subst e;cases F with|r h ok N=>exact ok
 refine .pick (k:=isE o||isE u) (λs=>.or (.call1 () ZbZ) λ_=>.call1 () ZbZ) (λA=>?_) λA=>?_
 .cases q:eaB c o u with
  |true=>
   refine .ret (d:=.tup []) (λs=>.ife (k:=ac) (by rw[<-q];exact .call (xs:=[roD o,roD u,.int (c:Int)]) () (Zag (n:=n+2) H w)) ()) (.inr ⟨[],rfl,aS _,λt h=>(nomatch h),λvs ws C B a=>?_⟩)
   rw[G.mv C,F.mv B];exact Zip q A a
  |false=>exact .ret (d:=.non) (λs=>.ife (k:=ae) (by rw[<-q];exact .call (xs:=[roD o,roD u,.int (c:Int)]) () (Zag (n:=n+2) H w)) ()) (.inl rfl)
 .rw[Bool.or_eq_false_iff]at A
  cases o with
  |none=>cases A.1
  |some r=>cases u with
   |none=>cases A.2
   |some q=>
    have b:=w r rfl;have o2:=I q rfl;have Q:k < rs.length:=by cases G with|r h ok N=>exact ZB h
    have P:j < rs'.length:=by cases F with|r h ok N=>exact ZB h
    refine .pick (k:=caB c r q) (λs=>.call (xs:=[rwE r,rwE q,.int (c:Int)]) () (Zex (n:=n+2) H b)) (λR=>?_) λ_=>?_
    .obtain⟨y,g,z,t,O,rfl,rfl,_⟩:=Zd6 (vs:=[]) (ws:=[]) (k:=k) (j:=j) R λ_ _=>rfl
     refine .ret (d:=.tup [trD (t,O,c),trD (k+1,j+1,c)]) (λs=>?_) (.inr ⟨[(t,O,c),(k+1,j+1,c)],rfl,(show 2<=4 by decide),λp hp=>?_,λvs ws C B a=>?_⟩)
     .have one:∀ {i v:Nat}{U:Env},U[i]?=aa (jN v)->Y (rT (n+6)) s (.p (.v i) (.i 1)) U (.int ((v+1:Nat):Int)):=λ{i v U} h=>by
       rw[bE];exact .add (.v h) ()
      exact .cons (.cons () (.cons () (.cons () .nil))) (.cons (.cons (one (i:=2) rfl) (.cons (one (i:=3) rfl) (.cons () .nil))) .nil)
     .rcases aF.mp hp with rfl|hp
      .exact⟨b.2.2.2,o2.2.2.2,K⟩
      .rw[aP.mp hp];exact⟨Q,P,K⟩
     .rw[G.mv C,F.mv B]
      obtain⟨_,_,_,_,_,M,L,W⟩:=Zd6 (k:=k) (j:=j) R a;cases M;cases L
      exact W
    .refine .set (λs=>.call (xs:=[rwE r,rwE q,.int (c:Int)]) () (ZgY (n:=n+2) (sz:=max rs.length rs'.length) H ?_ ?_)) ⟨.tup ((ZbN k j c r q).map trD),λs=>?_,.inr ⟨_,rfl,Zay,λp hp=>?_,λvs ws C B a=>?_⟩⟩
     .cases r<;>first|exact b|exact aM b (Nat.le_max_left _ _)|exact⟨b.1,b.2.1,b.2.2.1,aM b.2.2.2 (Nat.le_max_left _ _)⟩
     .cases q<;>first|exact o2|exact aM o2 (Nat.le_max_right _ _)|exact⟨o2.1,o2.2.1,o2.2.2.1,aM o2.2.2.2 (Nat.le_max_right _ _)⟩
     .have e:(ZbN k j c r q).map trD=(pbN k r).flatMap λp=>(pbN j q).map λa=>trD (p,a,stN c r q):=by
       unfold ZbN;rw[cY];exact au (λf=>(pbN k r).flatMap f) (funext λp=>bN)
      rw[e];refine .gather (i0:=8) (i:=9) (E:=λy l=>[aa (pgD tk m rs),aa (pgD tk m rs'),jN k,jN j,jN c,aa (rwE r),aa (rwE q),jI (stN c r q:Nat),jL l,y]) (en:=λ(p:Nat)=>D.int (p:Int)) (λ_=>rfl) (λ_ _ _=>rfl) (λ_ _=>rfl) (λl=>.call (xs:=[rwE r,.int (k:Int)]) () Qz) (λl X p hp=>.one (.ext rfl (V0 (en:=λ(p:Nat)=>D.int (p:Int)) (g:=λa=>trD (p,a,stN c r q)) (.of (x:=.tup ((pbN j q).map λ(x:Nat)=>D.int (x:Int))) (.call (xs:=[rwE q,.int (j:Int)]) () Qz) λst=>rfl) (by have:=JX (k:=j) (r:=q);omega) λa Z=>.cons () (.cons () (.cons () .nil))))) ?_
      rw[<-e,aB];have:=Zay (k:=k) (j:=j) (c:=c) (r:=r) (q:=q);omega
     .obtain⟨x,T,hp⟩:=dN.mp hp
      obtain⟨z,S,rfl⟩:=aR.mp hp;exact⟨ZgD Q b x T,ZgD P o2 z S,ZjW K b⟩
     .rw[G.mv C,F.mv B]
      exact Ziq C B b (λy e=>by subst e;cases A.1) (λy e=>by subst e;cases A.2) a
end
noncomputable abbrev Tr:=Nat×Nat×Nat
def lk:Li Tr->Nat->Nat->Ot Nat
 |[],_,_=>ab
 |t :: a,k,j=>if t.1=k/\t.2.1=j then aa t.2.2 else lk a k j
def pt:Li Tr->Nat->Nat->Nat->Li Tr
 |[],k,j,b=>[(k,j,b)]
 |t :: a,k,j,b=>if t.1=k/\t.2.1=j then (k,j,b) :: a else t :: pt a k j b
def ky(t:Tr):Nat×Nat:=(t.1,t.2.1)
def sb(a:Li Tr):Nat:=(a.map λt=>t.2.2).sum
def Sb(b c:Nat):Prop:=∀ i,b.testBit i=ac->c.testBit i=ac
variable{ts us:Li Tr}{ah:Li (Nat×Nat)}
section
variable{b c k' j':Nat}{t u:Tr}
theorem Qd:∀ {ts:Li Tr},lk ts k j=aa b->(k,j,b)∈ts
 |t :: ts,h=>by
  unfold lk at h;split at h
  .rename_i e;cases h;rw[<-e.1,<-e.2];exact Ls
  .exact Lm _ (Qd h)
theorem Qc:∀ {ts:Li Tr},(k,j)∈ts.map ky->∃ b,lk ts k j=aa b
 |t :: ts,h=>by
  unfold lk;split
  .exact⟨_,rfl⟩
  .rename_i n
   rcases aF.mp h with h|h
   .exact ar ⟨(au Prod.fst h).symm,(au Prod.snd h).symm⟩ n
   .exact Qc h
theorem ZaK:∀ {ts:Li Tr},lk ts k j=ab->∀ t∈ts,¬(t.1=k/\t.2.1=j)
 |t :: ts,h,u,hu=>by
  unfold lk at h;split at h
  .cases h
  .rename_i n
   rcases aF.mp hu with rfl|hu
   .exact n
   .exact ZaK h u hu
theorem ZaL:∀ {ts:Li Tr},lk (pt ts k j b) k' j'=if k'=k/\j'=j then aa b else lk ts k' j'
 |[]=>by
  show(if k=k'/\j=j' then aa b else ab)=if k'=k/\j'=j then aa b else ab
  by_cases e:k'=k/\j'=j
  .rw[ao e,ao ⟨e.1.symm,e.2.symm⟩]
  .rw[aq e,aq λh=>e ⟨h.1.symm,h.2.symm⟩]
 |t :: ts=>by
  unfold pt;split
  .rename_i e
   show(if k=k'/\j=j' then aa b else lk ts k' j')=if k'=k/\j'=j then aa b else if t.1=k'/\t.2.1=j' then aa t.2.2 else lk ts k' j'
   rw[e.1,e.2];by_cases c:k'=k/\j'=j
   .rw[ao c,ao ⟨c.1.symm,c.2.symm⟩]
   .have a:¬(k=k'/\j=j'):=λh=>c ⟨h.1.symm,h.2.symm⟩
    rw[aq c,aq a,aq a]
  .rename_i n
   show(if t.1=k'/\t.2.1=j' then aa t.2.2 else lk (pt ts k j b) k' j')=if k'=k/\j'=j then aa b else if t.1=k'/\t.2.1=j' then aa t.2.2 else lk ts k' j'
   rw[ZaL];by_cases c:t.1=k'/\t.2.1=j'
   .rw[ao c,ao c,aq λh=>n ⟨c.1.trans h.1,c.2.trans h.2⟩]
   .rw[aq c,aq c]
theorem JY:∀ {ts:Li Tr},u∈pt ts k j b->u=(k,j,b)\/u∈ts
 |[],h=>.inl (aP.mp h)
 |t :: ts,h=>by
  unfold pt at h;split at h
  .rcases aF.mp h with h|h
   .exact .inl h
   .exact .inr (Lm _ h)
  .rcases aF.mp h with rfl|h
   .exact .inr Ls
   .exact(JY h).imp_right (Lm _)
theorem ZgF:∀ {ts:Li Tr},(ts.map ky).Nodup->((pt ts k j b).map ky).Nodup
 |[],_=>bQ.mpr ⟨λh=>(nomatch h),List.nodup_nil⟩
 |t :: ts,h=>by
  have h:(ky t :: ts.map ky).Nodup:=h;unfold pt;split
  .rename_i e
   have e:ky t=(k,j):=by show(t.1,t.2.1)=_;rw[e.1,e.2]
   rw[e]at h;exact h
  .rename_i n
   rw[bQ]at h;refine bQ.mpr ⟨λq=>?_,ZgF h.2⟩
   obtain⟨u,hu,a⟩:=aR.mp q;rcases JY hu with rfl|hu
   .exact n ⟨(au Prod.fst a).symm,(au Prod.snd a).symm⟩
   .exact h.1 (aR.mpr ⟨u,hu,a⟩)
theorem Uc:∀ {ts:Li Tr}{x:Nat×Nat},x=(k,j)\/x∈ts.map ky->x∈(pt ts k j b).map ky
 |[],x,h=>h.elim (λe=>by rw[e];exact Ls) λh=>nomatch h
 |t :: ts,x,h=>by
  unfold pt;split
  .rename_i e
   have e:ky t=(k,j):=by show(t.1,t.2.1)=_;rw[e.1,e.2]
   rcases h with h|h
   .rw[h];exact Ls
   .rcases aF.mp h with h|h
    .rw[h,e];exact Ls
    .exact Lm _ h
  .rcases h with h|h
   .exact Lm _ (Uc (.inl h))
   .rcases aF.mp h with h|h
    .rw[h];exact Ls
    .exact Lm _ (Uc (.inr h))
theorem Za4:∀ {ts:Li Tr},lk ts k j=aa c->(pt ts k j b).length=ts.length/\sb (pt ts k j b)+c=sb ts+b
 |t :: ts,h=>by
  unfold lk at h;unfold pt;split at h
  .rename_i e
   cases h;rw[ao e];refine⟨rfl,?_⟩;show b+sb ts+t.2.2=t.2.2+sb ts+b;omega
  .rename_i n
   rw[aq n];obtain⟨a,d⟩:=Za4 h;refine⟨au (·+1) a,?_⟩;show t.2.2+sb (pt ts k j b)+c=t.2.2+sb ts+b;omega
theorem Za3:∀ {ts:Li Tr},lk ts k j=ab->(pt ts k j b).length=ts.length+1/\sb (pt ts k j b)=sb ts+b
 |[],_=>⟨rfl,by show b+0=0+b;omega⟩
 |t :: ts,h=>by
  unfold lk at h;unfold pt;split at h
  .cases h
  .rename_i n
   rw[aq n];obtain⟨a,c⟩:=Za3 h;refine⟨au (·+1) a,?_⟩;show t.2.2+sb (pt ts k j b)=t.2.2+sb ts+b;omega
theorem Zgx{α:Type}[DecidableEq α]:∀ {l l':Li α},l.Nodup->(∀ x∈l,x∈l')->l.length<=l'.length
 |[],_,_,_=>aS _
 |x :: l,l',h,c=>by
  rw[bQ]at h;have b:=c x Ls;have:=Zgx (l':=l'.erase x) h.2 λz a=>(List.mem_erase_of_ne λe=>h.1 (by rw[<-e];exact a)).mpr (c z (Lm _ a))
  rw[List.length_erase_of_mem b]at this;have:=List.length_pos_of_mem b;rw[aO];omega
noncomputable def Zg3(sz:Nat):Li (Nat×Nat):=(ag (sz+1)).flatMap λk=>(ag (sz+1)).map λj=>(k,j)
def Zcd:(Zg3 sz).length=(sz+1) * (sz+1):=by
 have h:∀ l:Li Nat,(l.flatMap λk=>(ag (sz+1)).map λj=>(k,j)).length=l.length * (sz+1):=λl=>by
  induction l with
  |nil=>exact(Nat.zero_mul _).symm
  |cons x l a=>rw[bY,aH,a,aB,bM,aO,Nat.add_mul,cX,Nat.add_comm]
 unfold Zg3;rw[h,bM]
def Zac(c:(ts.map ky).Nodup)(d:∀ t∈ts,t.1<=sz/\t.2.1<=sz/\t.2.2 < 2 ^ m):ts.length<=(sz+1) * (sz+1):=by
 have:=Zgx (l':=Zg3 sz) c λx a=>by
  obtain⟨t,b,rfl⟩:=aR.mp a;obtain⟨f,e,_⟩:=d t b;exact dN.mpr ⟨t.1,cA.mpr ∅,aR.mpr ⟨t.2.1,cA.mpr ∅,rfl⟩⟩
 rwa [Zcd,aB]at this
def Cu(ts:Li Tr)(u:Tr):Prop:=∃ b,lk ts u.1 u.2.1=aa b/\Sb b u.2.2
def Cv(m:Nat)(rs rs':Li Rw)(ts:Li Tr)(k j b:Nat):Prop:=∃ us,FolT m rs rs' k j b us/\∀ u∈us,Cu ts u
def mu(m sz:Nat)(ts:Li Tr)(ah:Li (Nat×Nat)):Nat:=2 * (sb ts+2 ^ m * ((sz+1) * (sz+1) - ts.length))+ah.length
structure In(m sz:Nat)(rs rs':List Rw)(p:Tr)(M:Nat)(ts:List Tr)(ah:List (Nat×Nat))(dn:List Tr):Prop where
 nd:(ts.map ky).Nodup
 bd:∀ t∈ts,t.1<=sz/\t.2.1<=sz/\t.2.2 < 2 ^ m
 ai:∀ x∈ah,x∈ts.map ky
 rt:(0,0)∈ts.map ky
 cv:∀ k j b,lk ts k j=aa b->(k,j)∈ah\/Cv m rs rs' ts k j b\/(k,j,b)=p
 dn:∀ u∈dn,Cu ts u
 mu:mu m sz ts ah<=M
def s1(x:Li Tr×Li (Nat×Nat))(u:Tr):Li Tr×Li (Nat×Nat):=
 if lk x.1 u.1 u.2.1=aa (u.2.2 &&& (lk x.1 u.1 u.2.1).getD u.2.2) then x else (pt x.1 u.1 u.2.1 (u.2.2 &&& (lk x.1 u.1 u.2.1).getD u.2.2),x.2++[(u.1,u.2.1)])
def Zil:Sb (b &&& c) b:=λi h=>by rw[dA,Ba]at h;exact h.1
def ZfZ:Sb (b &&& c) c:=λi h=>by rw[dA,Ba]at h;exact h.2
def In.step{p:Tr}{M:Nat}{y:Li Tr}(h:In m sz rs rs' p M ts ah y)(hu:u.1<=sz/\u.2.1<=sz/\u.2.2 < 2 ^ m):In m sz rs rs' p M (s1 (ts,ah) u).1 (s1 (ts,ah) u).2 (y++[u]):=by
 unfold s1;generalize d:u.2.2 &&& (lk ts u.1 u.2.1).getD u.2.2=b;have C:Sb b u.2.2:=d ▸ Zil;have bl:b < 2 ^ m:=by
  rw[<-d];exact Nat.lt_of_le_of_lt Nat.and_le_left hu.2.2
 dsimp only;split
 .rename_i e
  exact⟨h.nd,h.bd,h.ai,h.rt,h.cv,λv hv=>(bA.mp hv).elim (h.dn v) λq=>by rw[aP.mp q];exact⟨b,e,C⟩,h.mu⟩
 .rename_i e
  have g:∀ c,lk ts u.1 u.2.1=aa c->Sb b c:=λc q=>by rw[<-d,q];exact ZfZ
  have A:∀ v,Cu ts v->Cu (pt ts u.1 u.2.1 b) v:=λv ⟨c,l,s⟩=>by
   unfold Cu;rw[ZaL];by_cases q:v.1=u.1/\v.2.1=u.2.1
   .rw[ao q]
    rw[q.1,q.2]at l;exact⟨b,rfl,λi F=>s i (g c l i F)⟩
   .rw[aq q];exact⟨c,l,s⟩
  have n:=ZgF (k:=u.1) (j:=u.2.1) (b:=b) h.nd;have B:∀ t∈pt ts u.1 u.2.1 b,t.1<=sz/\t.2.1<=sz/\t.2.2 < 2 ^ m:=λt ht=>by
   rcases JY ht with rfl|ht
   .exact⟨hu.1,hu.2.1,bl⟩
   .exact h.bd t ht
  have D:=Zac n B;refine⟨n,B,λx hx=>?_,Uc (.inr h.rt),λk j c q=>?_,λv hv=>?_,?_⟩
  .rcases bA.mp hx with hx|hx
   .exact Uc (.inr (h.ai x hx))
   .exact Uc (.inl (aP.mp hx))
  .rw[ZaL]at q
   split at q
   .rename_i z
    exact .inl (bO _ (by rw[z.1,z.2];exact Ls))
   .rcases h.cv k j c q with z|⟨us,f,z⟩|z
    .exact .inl (dC _ z)
    .exact .inr (.inl ⟨us,f,λv hv=>A v (z v hv)⟩)
    .exact .inr (.inr z)
  .rcases bA.mp hv with hv|hv
   .exact A v (h.dn v hv)
   .rw[aP.mp hv]
    exact⟨b,by rw[ZaL,ao ⟨rfl,rfl⟩],C⟩
  .have r:=h.mu
   unfold Dp.mu at r ⊢
   rw[aH];show 2 * (sb (pt ts u.1 u.2.1 b)+2 ^ m * ((sz+1) * (sz+1) - (pt ts u.1 u.2.1 b).length))+(ah.length+1)<=M;cases q:lk ts u.1 u.2.1 with
   |some c=>
    obtain⟨a,o⟩:=Za4 (b:=b) q;rw[a];have:b<=c:=by rw[<-d,q];exact Nat.and_le_right
    have:b≠c:=λz=>e (by rw[q,z])
    omega
   |none=>
    obtain⟨a,o⟩:=Za3 (b:=b) q;rw[a,o];rw[a]at D;obtain⟨w,E⟩:∃ w,(sz+1) * (sz+1) - ts.length=w+1:=⟨(sz+1) * (sz+1) - ts.length - 1,∅⟩
    rw[show(sz+1) * (sz+1) - (ts.length+1)=w by omega]
    rw[E,Nat.mul_succ]at r;omega
structure Cl(m sz:Nat)(rs rs':List Rw)(ts:List Tr):Prop where
 nd:(ts.map ky).Nodup
 bd:∀ t∈ts,t.1<=sz/\t.2.1<=sz/\t.2.2 < 2 ^ m
 rt:(0,0)∈ts.map ky
 cv:∀ k j b,lk ts k j=aa b->Cv m rs rs' ts k j b
def Zgw(h:mv rs k vs=.inl noD):rs.length<=k:=by
 unfold mv at h;cases q:rs[k]? with
 |none=>exact eP.mp q
 |some r=>
  rw[q]at h;cases r with
  |tell y=>
   have h:eN (teD (woI vs y))=(eN noD:Sum D (Nat×Li Int)):=h
   injection h with h
   exact ar (ZM h) (by decide +kernel)
  |_=>cases h
def V5(h:rs.length<=k):mv rs k vs=.inl noD:=by unfold mv;rw[dF h]
theorem Cl.oc(h:Cl m sz rs rs' ts)(t:Rs m rs)(e:Rs m rs'):∀ (L k j b:Nat) (vs ws:Li Int),lk ts k j=aa b->Vs m vs->Vs m ws->Ag b vs ws->oc rs L k vs=oc rs' L j ws
 |0,k,j,b,vs,ws,n,l,g,a=>by
  obtain⟨us,f,_⟩:=h.cv k j b n;have:=f.s vs ws l g a;unfold Dp.oc;by_cases c:rs.length<=k
  .rw[ao c]
   rw[V5 c]at this;cases q:mv rs' j ws with
   |inl o=>rw[q]at this;rw[ao (Zgw (q.trans (au eN (show noD=o from this).symm)))]
   |inr p=>rw[q]at this;exact this.elim
  .rw[aq c]
   by_cases w:rs'.length<=j
   .rw[V5 w]at this
    cases q:mv rs k vs with
    |inl o=>rw[q]at this;exact ar (Zgw (q.trans (au eN (show o=noD from this)))) c
    |inr p=>rw[q]at this;exact this.elim
   .rw[aq w]
 |L+1,k,j,b,vs,ws,n,l,g,a=>by
  obtain⟨us,f,D⟩:=h.cv k j b n;have:=f.s vs ws l g a;unfold Dp.oc;cases q:mv rs k vs with
  |inl o=>cases d:mv rs' j ws with
   |inl x=>rw[q,d]at this;exact this
   |inr p=>rw[q,d]at this;exact this.elim
  |inr p=>cases d:mv rs' j ws with
   |inl x=>rw[q,d]at this;exact this.elim
   |inr r=>
    rw[q,d]at this;obtain⟨u,y,C,B,E⟩:=this;obtain⟨c,v,A⟩:=D u y;rw[C,B]at v;exact h.oc t e L p.1 r.1 c p.2 r.2 v (Jb l t q) (Jb g e d) λi z=>E i (A i z)
def Cl.same(h:Cl m sz rs rs' ts)(d:Rs m rs)(a:Rs m rs')(c:Vs m vs)(L:Nat):Dp.oc rs L 0 vs=Dp.oc rs' L 0 vs:=by
 obtain⟨b,e⟩:=Qc h.rt;exact h.oc d a L 0 0 b vs vs e c c λ_ _=>rfl
end
noncomputable def prN(p:Nat×Nat):D:=.tup [.int (p.1:Int),.int (p.2:Int)]
noncomputable def iN(b:Nat):D:=.int (b:Int)
def bI:CS:=.y 9 (.bin .BitAnd (.v 8) (.dgN (.v 2) (.g (.a 6 (.s 7))) (.v 8)))
 (.z (.ite (.cmp .NotEq (.dgN (.v 2) (.g (.a 6 (.s 7))) (.c .non)) (.v 9)) (.seq (.dput 2 (.v 6) (.v 7) (.v 9))
 (.z (.app 3 (.g (.a 6 (.s 7)))))) .skip))
def cW:CE:=.cmp .Gt (.len (.v 3)) (.i 0)
def bW:CS:=.y 4 (.pop (.v 3))
 (.y 5 (.f 122 (.a 0 (.a 1 (.aC (.x 4 0) (.aC (.x 4 1) (.u (.ix (.v 2) (.v 4))))))))
 (.seq (.ite (.cmp .Is (.v 5) (.c .non)) (.q (.c .non)) .skip)
 (.z (.for4 6 7 8 (.v 5) bI))))
variable{A B:D}{x4 x5 x6 x7 x8 x9:Ot D}
section
variable{b c M q:Nat}{dn:Li Tr}{u p:Tr}
noncomputable def En(A B:D)(q w:Nat)(x4 x5 x6 x7 x8 x9:Ot D):Env:=[aa A,aa B,aa (.dic q),jL w,x4,x5,x6,x7,x8,x9]
def isk:isK (k:Int) (j:Int) (trD u)=aj (u.1=k/\u.2.1=j):=by
 show(aj ((u.1:Int)=(k:Int))&&aj ((u.2.1:Int)=(j:Int)))=_;rw[<-Bool.decide_and];exact fH ⟨λh=>⟨Int.ofNat.inj h.1,Int.ofNat.inj h.2⟩,λh=>⟨au Int.ofNat h.1,au Int.ofNat h.2⟩⟩
theorem QL:∀ {ts:Li Tr},Yr (ts.map trD) (k:Int) (j:Int)=(lk ts k j).map iN
 |[]=>rfl
 |t :: ts=>by
  unfold Yr lk;rw[aQ,cL,isk];by_cases h:t.1=k/\t.2.1=j
  .rw[ao h,aK h];rfl
  .rw[aq h,aG h];exact QL
theorem ZdS:∀ {ts:Li Tr},lk ts k j=ab->pt ts k j b=ts++[(k,j,b)]
 |[],_=>rfl
 |t :: ts,h=>by
  unfold lk at h;split at h
  .cases h
  .rename_i n
   unfold pt;rw[aq n,ZdS h];rfl
theorem ZdT:∀ {ts:Li Tr},(ts.map ky).Nodup->lk ts k j=aa c->(ts.map trD).map (λe=>if isK (k:Int) (j:Int) e=ac then D.tup [.int (k:Int),.int (j:Int),.int (b:Int)] else e)=(pt ts k j b).map trD
 |t :: ts,a,h=>by
  have a:(ky t :: ts.map ky).Nodup:=a;rw[bQ]at a;unfold lk at h;unfold pt;rw[aQ,aQ,isk];split at h
  .rename_i e
   rw[ao e,ao (aK e),aQ];refine au (D.tup [.int (k:Int),.int (j:Int),.int (b:Int)] :: ·) ?_;rw[bN];refine List.map_congr_left λu d=>?_
   show(if isK (k:Int) (j:Int) (trD u)=ac then _ else trD u)=trD u
   rw[isk,aq λz=>a.1 ?_]
   have z:=am z;exact aR.mpr ⟨u,d,by show(u.1,u.2.1)=(t.1,t.2.1);rw[z.1,z.2,e.1,e.2]⟩
  .rename_i n
   rw[aq n,aq (λz=>n (am z)),aQ,ZdT a.2 h]
def ZeT(nd:(ts.map ky).Nodup):VQ (ts.map trD) (k:Int) (j:Int) (.int (b:Int))=(pt ts k j b).map trD:=by
 unfold VQ;cases h:lk ts k j with
 |none=>
  rw[aq λz=>?_,ZdS h,bP];rfl
  obtain⟨e,d,z⟩:=dI.mp z;obtain⟨u,a,rfl⟩:=aR.mp d;rw[isk]at z;exact ZaK h u a (am z)
 |some c=>
  rw[ao (dI.mpr ⟨trD (k,j,c),aR.mpr ⟨_,Qd h,rfl⟩,by rw[isk];exact aK ⟨rfl,rfl⟩⟩)]
  exact ZdT nd h
def JI(a:st[q]?=aa (ac,ts.map trD)):dAt [.int (k:Int),.int (j:Int)] q st=aa ((lk ts k j).map iN):=by
 show o2 (λ(p:Int×Int) (c:XA)=>Yr c.2 p.1 p.2) (aa ((k:Int),(j:Int))) st[q]?=_
 rw[a];show aa (Yr (ts.map trD) (k:Int) (j:Int))=_;rw[QL]
def Y.dg{a:CE}(l:s[q]?=aa (ac,ts.map trD))(p:Y F s a U (.dic q)){kk:CE}(n:Y F s kk U (.tup [.int (k:Int),.int (j:Int)]))(m:Y F s e U d):Y F s (.dgN a kk e) U (((lk ts k j).map iN).getD d):=λst g=>by
 obtain⟨s1,u,b⟩:=p st g;obtain⟨i,t,f⟩:=n s1 (g.trans b);obtain⟨c,r,h⟩:=m i (g.trans (b.trans f));refine⟨c,?_,b.trans (f.trans h)⟩;show YQ (ev F a) (ev F kk) (ev F e) gtD U st=_;unfold YQ;simp only[u,t,r];show(dAt [.int (k:Int),.int (j:Int)] q c).map (λo=>(o.getD d,c))=_
 rw[JI ((g.trans (b.trans (f.trans h))).get l)];rfl
def WJ{b:XA}(g:Grw s st)(h:s.length<=q):Grw s (st.set q b):=⟨λi a=>by rw[bU ∅];exact g.old i a,by rw[bJ];exact g.len⟩
def Zfg(nd:(ts.map ky).Nodup)(T:ts.length<=100)(V:ah.length<=890)(E:q≠w)(x:st[q]?=aa (ac,ts.map trD))(P:st[w]?=aa (ac,ah.map prN))(M:s.length<=q)(L:s.length<=w)(g:Grw s st) :
  ∃ p st',ex F bI (En A B q w x4 x5 (jN u.1) (jN u.2.1) (jN u.2.2) x9) st=aa (.nx (En A B q w x4 x5 (jN u.1) (jN u.2.1) (jN u.2.2) p),st')/\Grw s st'/\st'[q]?=aa (ac,(s1 (ts,ah) u).1.map trD)/\st'[w]?=aa (ac,(s1 (ts,ah) u).2.map prN):=by
 have O:((lk ts u.1 u.2.1).map iN).getD (.int (u.2.2:Int))=.int (((lk ts u.1 u.2.1).getD u.2.2:Nat):Int):=by cases lk ts u.1 u.2.1<;>rfl
 have C:=Y.dg (F:=F) (s:=st) (a:=.v 2) (kk:=.g (.a 6 (.s 7))) (e:=.v 8) (U:=En A B q w x4 x5 (jN u.1) (jN u.2.1) (jN u.2.2) x9) (k:=u.1) (j:=u.2.1) (d:=.int (u.2.2:Int)) x () () ();rw[O]at C;obtain⟨t,z,l⟩:=Y.band (c:=u.2.2) (a:=.v 8) () C st .refl;generalize N:u.2.2 &&& (lk ts u.1 u.2.1).getD u.2.2=v at z
 have J:=Y.dg (F:=F) (s:=t) (a:=.v 2) (kk:=.g (.a 6 (.s 7))) (e:=.c .non) (U:=En A B q w x4 x5 (jN u.1) (jN u.2.1) (jN u.2.2) (jN v)) (k:=u.1) (j:=u.2.1) (d:=.non) (l.get x) () () ();have I:Y F t (.cmp .NotEq (.dgN (.v 2) (.g (.a 6 (.s 7))) (.c .non)) (.v 9)) (En A B q w x4 x5 (jN u.1) (jN u.2.1) (jN u.2.2) (jN v)) (.bl (!decide (lk ts u.1 u.2.1=aa v))):=.cmp (y:=.int (v:Int)) J () λst=>by
  cases lk ts u.1 u.2.1 with
  |none=>rfl
  |some c=>
   show aa (!decide ((c:Int)=(v:Int)))=aa (!decide (aa c=aa v));have e:aj ((c:Int)=(v:Int))=aj (aa c=aa v):=fH ⟨λh=>au aa ∅,λh=>by injection h with h;omega⟩
   rw[e]
 obtain⟨b,o,n⟩:=I t .refl;unfold s1;dsimp only;rw[N];have f:=(l.trans n).get x;have m:=(l.trans n).get P;by_cases c:lk ts u.1 u.2.1=aa v
 .rw[aK c]at o
  rw[ao c];exact⟨_,b,(Zc (Zk z)).trans ((Zc ((X9 o).trans Zi)).trans Zi),g.trans (l.trans n),f,m⟩
 .rw[aG c]at o
  rw[aq c];have S:ex F (.dput 2 (.v 6) (.v 7) (.v 9)) (En A B q w x4 x5 (jN u.1) (jN u.2.1) (jN u.2.2) (jN v)) b=aa (.nx (En A B q w x4 x5 (jN u.1) (jN u.2.1) (jN u.2.2) (jN v)),b.set q (ac,(pt ts u.1 u.2.1 v).map trD)):=by
   show(match b[q]? with
    |some (ac,D)=>if D.length < Zt then aa (Fl.nx _,b.set q (ac,VQ D (u.1:Int) (u.2.1:Int) (.int (v:Int)))) else ab
    |_=>ab)=_
   rw[f];show(if (ts.map trD).length < Zt then _ else _)=_
   rw[ao (by rw[aB];unfold Zt;omega),ZeT nd]
  have H:q < b.length:=ZB f;obtain⟨K,R,G,Q⟩:=Ap.app (F:=F) (s:=b.set q (ac,(pt ts u.1 u.2.1 v).map trD)) (j:=w) (i:=3) (e:=.g (.a 6 (.s 7))) (U:=En A B q w x4 x5 (jN u.1) (jN u.2.1) (jN u.2.2) (jN v)) (d:=prN (u.1,u.2.1)) rfl () _ (ah.map prN) .refl (by rw[bU E];exact m) (by rw[aB];show _+1<=900;omega)
  refine⟨_,K,(Zc (Zk z)).trans ((Zc ((Yl o).trans ((Zc S).trans ((Zc R).trans Zi)))).trans Zi),G.grw L (WJ (g.trans (l.trans n)) M),?_,by rw[Q,bP];rfl⟩
  rw[G.old q (by rw[bJ];exact H) E,bT H]
theorem ZaC(C:(sz+1) * (sz+1)<=100)(G:M<=890)(k:q≠w)(j:s.length<=q)(i:s.length<=w):∀ (us dn ts:Li Tr) (ah:Li (Nat×Nat)) (st:Za) (x6 x7 x8 x9:Ot D),(∀ u∈us,u.1<=sz/\u.2.1<=sz/\u.2.2 < 2 ^ m)->In m sz rs rs' p M ts ah dn->st[q]?=aa (ac,ts.map trD)->st[w]?=aa (ac,ah.map prN)->Grw s st->
  ∃ e d c a st',Zh (Zed 6 7 8 (ex F bI)) (us.map trD) (En A B q w x4 x5 x6 x7 x8 x9) st=aa (.nx (En A B q w x4 x5 e d c a),st')/\Grw s st'/\st'[q]?=aa (ac,(us.foldl s1 (ts,ah)).1.map trD)/\st'[w]?=aa (ac,(us.foldl s1 (ts,ah)).2.map prN)
 |[],dn,ts,ah,st,x6,x7,x8,x9,_,_,h,f,g=>⟨x6,x7,x8,x9,st,rfl,g,h,f⟩
 |u :: us,dn,ts,ah,st,x6,x7,x8,x9,l,b,h,f,g=>by
  have O:=Zac b.nd b.bd;have z:=b.mu;unfold mu at z;obtain⟨a,y,I,g1,N,K⟩:=Zfg (F:=F) (A:=A) (B:=B) (x4:=x4) (x5:=x5) (u:=u) (x9:=x9) b.nd ∅ ∅ k h f j i g
  obtain⟨t,r,o,n,x,H,g2,L,J⟩:=ZaC C G k j i us (dn++[u]) _ _ y (jN u.1) (jN u.2.1) (jN u.2.2) a (λv E=>l v (Lm _ E)) (b.step (l u Ls)) N K g1
  refine⟨t,r,o,n,x,?_,g2,L,J⟩;show(match ex F bI (En A B q w x4 x5 (jN u.1) (jN u.2.1) (jN u.2.2) x9) st with
   |some (.nx U',st')=>Zh (Zed 6 7 8 (ex F bI)) (us.map trD) U' st'
   |some (.ct U',st')=>Zh (Zed 6 7 8 (ex F bI)) (us.map trD) U' st'
   |some (.bk U',st')=>aa (.nx U',st')
   |some (.rt v,st')=>aa (.rt v,st')
   |none=>ab)=_
  rw[I];exact H
theorem In.all:∀ {us dn ts:Li Tr}{ah:Li (Nat×Nat)},(∀ u∈us,u.1<=sz/\u.2.1<=sz/\u.2.2 < 2 ^ m)->In m sz rs rs' p M ts ah dn->In m sz rs rs' p M (us.foldl s1 (ts,ah)).1 (us.foldl s1 (ts,ah)).2 (dn++us)
 |[],dn,ts,ah,_,h=>by rw[bB];exact h
 |u :: us,dn,ts,ah,a,h=>by
  have:=In.all (us:=us) (λv b=>a v (Lm _ b)) (h.step (a u Ls))
  rw[bF]at this;exact this
structure Ou(m sz:Nat)(rs rs':List Rw)(M:Nat)(ts:List Tr)(ah:List (Nat×Nat)):Prop where
 nd:(ts.map ky).Nodup
 bd:∀ t∈ts,t.1<=sz/\t.2.1<=sz/\t.2.2 < 2 ^ m
 ai:∀ x∈ah,x∈ts.map ky
 rt:(0,0)∈ts.map ky
 cv:∀ k j b,lk ts k j=aa b->(k,j)∈ah\/Cv m rs rs' ts k j b
 mu:mu m sz ts ah<=M
def wl(hz:(sz+1) * (sz+1)<=100)(hr:Rs m rs)(hr':Rs m rs')(h1:rs.length=sz)(h2:rs'.length=sz)(hm:m<=60):∀ (M:Nat) (ts:Li Tr) (ah:Li (Nat×Nat)),M<=890->Ou m sz rs rs' M ts ah->∃ r:Ot (Li Tr),(∀ C,r=aa C->Cl m sz rs rs' C)/\∀ (l:Nat),M < l->∀ (s st:Za) (q w:Nat) (x4 x5 x6 x7 x8 x9:Ot D),q≠w->s.length<=q->s.length<=w->st[q]?=aa (ac,ts.map trD)->st[w]?=aa (ac,ah.map prN)->Grw s st->
  ∃ st',Grw s st'/\match r with
   |none=>YU (ev (rT (n+7)) cW) (ex (rT (n+7)) bW) l (En (pgD tk m rs) (pgD tk m rs') q w x4 x5 x6 x7 x8 x9) st=aa (.rt .non,st')
   |some C=>(∃ y4 y5 W V T S,YU (ev (rT (n+7)) cW) (ex (rT (n+7)) bW) l (En (pgD tk m rs) (pgD tk m rs') q w x4 x5 x6 x7 x8 x9) st=aa (.nx (En (pgD tk m rs) (pgD tk m rs') q w y4 y5 W V T S),st'))/\st'[q]?=aa (ac,C.map trD):=λM=>by
 induction M using Nat.strongRecOn with
 |_ M ih=>
  intro ts ah hM h;rcases List.eq_nil_or_concat ah with rfl|⟨t,p,O⟩
  .refine⟨aa ts,λC e=>by cases e;exact⟨h.nd,h.bd,h.rt,λk j b q=>(h.cv k j b q).resolve_left λz=>nomatch z⟩,λl hf s st q w x4 x5 x6 x7 x8 x9 J Q I R L g=>?_⟩
   obtain⟨f,rfl⟩:∃ f,l=f+1:=⟨l - 1,∅⟩
   obtain⟨t1,e1,k1⟩:=Y.cmp (F:=rT (n+7)) (s:=st) (op:=.Gt) (a:=.len (.v 3)) (b:=.i 0) (U:=En (pgD tk m rs) (pgD tk m rs') q w x4 x5 x6 x7 x8 x9) (x:=.int 0) (y:=.int 0) (k:=ae) (.lenl L ()) () (λ_=>rfl) st .refl
   refine⟨t1,g.trans k1,⟨x4,x5,x6,x7,x8,x9,?_⟩,k1.get R⟩;show YV (ev _ cW) _ _ _ st=_;unfold YV;rw[show ev (rT (n+7)) cW _ st=_ from e1]
  .rw[List.concat_eq_append]at O
   subst O;obtain⟨M,rfl⟩:∃ N,M=N+1:=⟨M - 1,by
    have hm:=h.mu;unfold mu at hm;rw[aH]at hm;show M=M - 1+1;have:[p].length=1:=rfl;omega⟩
   replace ih:=ih M (dQ M);obtain⟨c,H⟩:=Qc (h.ai p (bO _ Ls));have hcb:=(h.bd _ (Qd H)).2.2;obtain⟨d,hd,hP⟩:=Zb0 (n:=n) (tk:=tk) (k:=p.1) (j:=p.2) hr hr' hm hcb;have X:=h.mu
   -- a turn up to the triples
   have turn:∀ (s st:Za) (q w:Nat) (x4 x5 x6 x7 x8 x9:Ot D),q≠w->s.length<=q->s.length<=w->st[q]?=aa (ac,ts.map trD)->st[w]?=aa (ac,(t++[p]).map prN)->Grw s st->∃ o G,ev (rT (n+7)) cW (En (pgD tk m rs) (pgD tk m rs') q w x4 x5 x6 x7 x8 x9) st=aa (.bl ac,o)/\Grw s G/\G[q]?=aa (ac,ts.map trD)/\G[w]?=aa (ac,t.map prN)/\∀ P,ex (rT (n+7)) (.y 4 (.pop (.v 3)) (.y 5 (.f 122 (.a 0 (.a 1 (.aC (.x 4 0) (.aC (.x 4 1) (.u (.ix (.v 2) (.v 4)))))))) P)) (En (pgD tk m rs) (pgD tk m rs') q w x4 x5 x6 x7 x8 x9) o=ex (rT (n+7)) P (En (pgD tk m rs) (pgD tk m rs') q w (aa (prN p)) (aa d) x6 x7 x8 x9) G:=λs st q w x4 x5 x6 x7 x8 x9 J Q I R L g=>by
    have hl:((t++[p]).map prN).length=t.length+1:=by rw[aB,aH];rfl
    obtain⟨o,O,k0⟩:=Y.cmp (F:=rT (n+7)) (s:=st) (op:=.Gt) (a:=.len (.v 3)) (b:=.i 0) (U:=En (pgD tk m rs) (pgD tk m rs') q w x4 x5 x6 x7 x8 x9) (x:=.int (((t++[p]).map prN).length:Int)) (y:=.int 0) (k:=ac) (.lenl L ()) () (λ_=>by
     show aa (aj ((0:Int) < (((t++[p]).map prN).length:Int)))=_;rw[hl,aK ∅]) st .refl
    have b0:=k0.get L;have hw:w < o.length:=ZB b0;have e1:ev (rT (n+7)) (.pop (.v 3)) (En (pgD tk m rs) (pgD tk m rs') q w x4 x5 x6 x7 x8 x9) o=aa (prN p,o.set w (ac,t.map prN)):=by
     show Zfy (.lst w) o=_;show(match o[w]? with
      |some (ac,xs)=>(xs[xs.length - 1]?).map λd=>(d,o.set w (ac,xs.dropLast))
      |_=>ab)=_
     rw[b0];show(((t++[p]).map prN)[((t++[p]).map prN).length - 1]?).map (λd=>(d,o.set w (ac,((t++[p]).map prN).dropLast)))=_
     rw[hl,bP,List.map_singleton,List.dropLast_concat,cJ (by rw[aB];omega),aB,Nat.add_sub_cancel,Nat.sub_self];rfl
    have g2:Grw s (o.set w (ac,t.map prN)):=WJ (g.trans k0) I;have a2:(o.set w (ac,t.map prN))[q]?=aa (ac,ts.map trD):=by rw[bU (Ne.symm J)];exact k0.get R
    have b2:(o.set w (ac,t.map prN))[w]?=aa (ac,t.map prN):=bT hw;generalize o.set w (ac,t.map prN)=t2 at *
    have yi:Y (rT (n+7)) t2 (.ix (.v 2) (.v 4)) (En (pgD tk m rs) (pgD tk m rs') q w (aa (prN p)) x5 x6 x7 x8 x9) (.int (c:Int)):=Dp.g2 (a:=.v 2) (b:=.v 4) (x:=.dic q) (y:=prN p) () () (gs λst k=>by
     show ixR (.dic q) (prN p) st=_;unfold ixR;show(match ((dAt [.int (p.1:Int),.int (p.2:Int)] q st).join) with|some d=>aa (d,st)|none=>ab)=_
     rw[JI (k.get a2),H];rfl)
    obtain⟨G,Z,k3⟩:=Y.call (F:=rT (n+7)) (s:=t2) (f:=122) (a:=.a 0 (.a 1 (.aC (.x 4 0) (.aC (.x 4 1) (.u (.ix (.v 2) (.v 4))))))) (U:=En (pgD tk m rs) (pgD tk m rs') q w (aa (prN p)) x5 x6 x7 x8 x9) (xs:=[pgD tk m rs,pgD tk m rs',.int (p.1:Int),.int (p.2:Int),.int (c:Int)]) (ds:=[]) (.cons () (.cons () (.cons () (.cons () (.cons yi .nil))))) (hd t2) t2 .refl
    exact⟨o,G,O,g2.trans k3,k3.get a2,k3.get b2,λP=>(Zc (Zk e1)).trans (Zc (Zk Z))⟩
   rcases hP with rfl|⟨us,rfl,fT⟩
   .refine⟨ab,λC e=>(nomatch e),λl hf s st q w x4 x5 x6 x7 x8 x9 J Q I R L g=>?_⟩
    obtain⟨f,rfl⟩:∃ f,l=f+1:=⟨l - 1,∅⟩
    obtain⟨o,G,O,g3,a3,b3,Z⟩:=turn s st q w x4 x5 x6 x7 x8 x9 J Q I R L g;refine⟨G,g3,?_⟩;show YV (ev _ cW) (Y0 (ex _ bW) _) _ _ st=_;unfold YV;rw[O];show Y0 (ex _ bW) _ _ o=_;unfold Y0;rw[show ex (rT (n+7)) bW _ o=aa (.rt .non,G) from(Z _).trans (Zj ((Yl rfl).trans (Zj (ZR rfl))))]
   .have hI:In m sz rs rs' (p.1,p.2,c) M ts t []:=⟨h.nd,h.bd,λx hx=>h.ai x (dC _ hx),h.rt,λk j b z=>by
     rcases h.cv k j b z with z2|z2
     .rcases bA.mp z2 with z2|z2
      .exact .inl z2
      .have z2:=aP.mp z2
       rw[<-z2]at H;have H:lk ts k j=aa c:=H;rw[z]at H
       injection H with H
       exact .inr (.inr (by rw[<-z2,H]))
     .exact .inr (.inl z2),λu K=>(nomatch K),by
     unfold mu at X ⊢
     rw[aH]at X;have:([p]:Li (Nat×Nat)).length=1:=rfl;omega⟩
    have K:∀ u∈us,u.1<=sz/\u.2.1<=sz/\u.2.2 < 2 ^ m:=λu K=>by
     have:=fT.b u K;rw[h1,h2]at this;exact this
    have E:=In.all K hI;have hO:Ou m sz rs rs' M (us.foldl s1 (ts,t)).1 (us.foldl s1 (ts,t)).2:=⟨E.nd,E.bd,E.ai,E.rt,λk j b z=>by
     rcases E.cv k j b z with z2|z2|z2
     .exact .inl z2
     .exact .inr z2
     .cases z2
      exact .inr ⟨us,fT,λu K=>E.dn u (bO _ K)⟩,E.mu⟩
    obtain⟨r,hr1,hr2⟩:=ih _ _ ∅ hO
    refine⟨r,hr1,λl hf s st q w x4 x5 x6 x7 x8 x9 J Q I R L g=>?_⟩
    obtain⟨f,rfl⟩:∃ f,l=f+1:=⟨l - 1,∅⟩
    obtain⟨o,G,O,g3,a3,b3,Z⟩:=turn s st q w x4 x5 x6 x7 x8 x9 J Q I R L g;obtain⟨W,V,T,S,t4,e4,g4,a4,b4⟩:=ZaC (F:=rT (n+7)) (A:=pgD tk m rs) (B:=pgD tk m rs') (x4:=aa (prN p)) (x5:=aa (.tup (us.map trD))) hz (show M<=890 by omega) J Q I us [] ts t G x6 x7 x8 x9 K hI a3 b3 g3
    obtain⟨t5,g5,h5⟩:=hr2 f ∅ s t4 q w (aa (prN p)) (aa (.tup (us.map trD))) W V T S J Q I a4 b4 g4
    have e5:ex (rT (n+7)) (.for4 6 7 8 (.v 5) bI) (En (pgD tk m rs) (pgD tk m rs') q w (aa (prN p)) (aa (.tup (us.map trD))) x6 x7 x8 x9) G=aa (.nx (En (pgD tk m rs) (pgD tk m rs') q w (aa (prN p)) (aa (.tup (us.map trD))) W V T S),t4):=e4;have eb:ex (rT (n+7)) bW (En (pgD tk m rs) (pgD tk m rs') q w x4 x5 x6 x7 x8 x9) o=aa (.nx (En (pgD tk m rs) (pgD tk m rs') q w (aa (prN p)) (aa (.tup (us.map trD))) W V T S),t4):=(Z _).trans ((Zc ((X9 rfl).trans Zi)).trans ((Zc e5).trans Zi))
    have ew:YU (ev (rT (n+7)) cW) (ex (rT (n+7)) bW) (f+1) (En (pgD tk m rs) (pgD tk m rs') q w x4 x5 x6 x7 x8 x9) st=YU (ev (rT (n+7)) cW) (ex (rT (n+7)) bW) f (En (pgD tk m rs) (pgD tk m rs') q w (aa (prN p)) (aa (.tup (us.map trD))) W V T S) t4:=by
     show YV (ev _ cW) (Y0 (ex _ bW) _) _ _ st=_;unfold YV;rw[O];show Y0 (ex _ bW) _ _ o=_;unfold Y0;rw[eb]
    refine⟨t5,g5,?_⟩;cases r with
    |none=>rw[ew];exact h5
    |some C=>rw[ew];exact h5
end
def ZdO{f:Nat->Nat->Bool}{z d:α}{a:Li α}(h:d∈pick f z a):d∈a:=by
 unfold pick at h;split at h
 .exact h
 .obtain⟨i,b,rfl⟩:=aR.mp h
  have:=Qm ∅ i b
  rw[aV,Lg this];exact cM this
theorem Vx{α:Type}{en:α->D}{P:α->Prop}:∀ {ys:Li D},(∀ d∈ys,∃ r,d=en r/\P r)->∃ rs:Li α,ys=rs.map en/\∀ r∈rs,P r
 |[],_=>⟨[],rfl,λ_ h=>nomatch h⟩
 |y :: ys,h=>by
  obtain⟨r,rfl,b⟩:=h y Ls;obtain⟨rs,rfl,a⟩:=Vx λd c=>h d (Lm _ c)
  exact⟨r :: rs,rfl,λx hx=>by
   rcases aF.mp hx with rfl|hx
   .exact b
   .exact a x hx⟩
def Zkg(m:Nat)(rs a:Li Rw)(d:D):Prop:=d=.non\/∃ b:Li Tr,d=.tup (b.map trD)/\∀ L vs,Vs m vs->oc rs L 0 vs=oc a L 0 vs
section
variable{q:Nat}
def Zeb(j:ts.length < 64):∃ ks:Li (Nat×Nat),ks.length<=64/\(∀ k∈ks,k∈ts.map ky)/\∀ F s q (U:Env),U[2]?=aa (aa (.dic q))->s[q]?=aa (ac,ts.map trD)->Wk F s (.ksrt (.v 2)) U Uj (ks.map prN):=by
 have f:(Z7 (ts.map trD)).map prD=ts.map λt=>prN (ky t):=by
  unfold Z7;rw[bN,bN];rfl
 obtain⟨ks,e,l⟩:=Vx (en:=prN) (P:=λk=>k∈ts.map ky) (ys:=pick (US (Z7 (ts.map trD))) .non ((Z7 (ts.map trD)).map prD)) λd b=>by
  have:=ZdO b;rw[f]at this;obtain⟨t,h,rfl⟩:=aR.mp this;exact⟨ky t,rfl,aR.mpr ⟨t,h,rfl⟩⟩
 refine⟨ks,?_,l,λF s q U m i st g=>?_⟩
 .have:=au List.length e
  rw[Je,f,aB,aB]at this;omega
 .refine⟨.lst st.length,st++[(ac,ks.map prN)],λs=>s[st.length]?=aa (ac,ks.map prN),?_,.push,?_,λst' n=>n.get Zl⟩
  .show Zo (XQ 2) ZaG U st=_
   unfold Zo XQ;rw[m];show(match st[q]? with
    |some (_,a)=>if a.length < 64 then aa (D.lst st.length,st++[(ac,pick (US (Z7 a)) D.non ((Z7 a).map prD))]) else ab
    |none=>ab)=_
   rw[g.get i];show(if (ts.map trD).length < 64 then _ else ab)=_
   rw[ao (by rw[aB];exact j),e]
  .show(match (st++[(ac,ks.map prN)])[st.length]? with
    |some c=>if c.2.all Zde=ac then aa (c.2,λs=>s[st.length]?=aa c) else ab
    |none=>ab)=_
   rw[Zl];exact ao (cT.mpr λd b=>by obtain⟨k,_,rfl⟩:=aR.mp b;rfl)
def Zab(h:Cl m sz rs rs' ts)(l:ts.length < 64):∃ j:Li Tr,∀ F s A B q w x4 x5 x6 x7 x8 x9,s[q]?=aa (ac,ts.map trD)->Y F s (.tOf (.compT [2] (.ksrt (.v 2)) (.g (.a 0 (.a 1 (.u (.ix (.v 2) (.g (.a 0 (.s 1)))))))) (.c (.bl ac)))) (En A B q w x4 x5 x6 x7 x8 x9) (.tup (j.map trD)):=by
 obtain⟨ks,p,n,o⟩:=Zeb l;refine⟨ks.map λk=>(k.1,k.2,(lk ts k.1 k.2).getD 0),λF s A B q w x4 x5 x6 x7 x8 x9 f=>?_⟩
 rw[bN];refine Lv.tof (ZaI (U:=En A B q w x4 x5 x6 x7 x8 x9) (b:=two) (wk:=Uj) (fr:=[2]) (en:=prN) (o F s q _ rfl f) ∅ λk e=>?_)
 obtain⟨b,i⟩:=Qc (n k e);show Y F s _ [jN k.1,jN k.2,aa (.dic q)] (trD (k.1,k.2,(lk ts k.1 k.2).getD 0));rw[i];exact .cons () (.cons () (.cons (Dp.g2 (a:=.v 2) (b:=.g (.a 0 (.s 1))) (x:=.dic q) (y:=prN k) () () (gs λst g=>by
  show(match ((dAt [.int (k.1:Int),.int (k.2:Int)] q st).join) with|some d=>aa (d,st)|none=>ab)=_
  rw[JI (g.get f),i];rfl)) .nil))
def Zkj{e:CE}{v:D}{a:Za}(h:ev F e U (st++[(ac,[])])=aa (v,a))(c:a[st.length]?=aa (ac,[])):ev F (.dd (.i 0) (.i 0) e) U st=aa (.dic st.length,a.set st.length (ac,[.tup [.int 0,.int 0,v]])):=by
 have b:∀ s,ev F (.i 0) U s=aa (.int 0,s):=λ_=>rfl
 show ddE (ev F (.i 0)) (ev F (.i 0)) (ev F e) U st=_;unfold ddE;simp only[b,h,c];rw[ao (by unfold Zt;decide)]
 rfl
def ZhF{b:Nat}:mu m sz [(0,0,b)] [(0,0)]=2 * (b+2 ^ m * ((sz+1) * (sz+1) - 1))+1:=by
 exact rfl
def Zjo{a:Nat}(h:a * ((sz+1) * (sz+1))<=440)(c:1<=a):2 * (a - 1+a * ((sz+1) * (sz+1) - 1))+1<=890:=by
 obtain⟨v,b⟩:∃ v,(sz+1) * (sz+1)=v+1:=⟨(sz+1) * (sz+1) - 1,by have:1<=(sz+1) * (sz+1):=dP (Nat.le_add_left 1 sz) (Nat.le_add_left 1 sz);omega⟩
 rw[b,Nat.mul_succ]at h;rw[b,Nat.add_sub_cancel];omega
def ZeC(T:Rs m rs)(o:Rs m rs')(h1:rs.length=sz)(h2:rs'.length=sz)(V:m<=60)(hz:(sz+1) * (sz+1) < 64)(hB:2 ^ m * ((sz+1) * (sz+1))<=440):CX (rT (n+8)) 201 [pgD tk m rs,pgD tk m rs'] (Zkg m rs rs'):=by
 have X:1<=2 ^ m:=Nat.one_le_two_pow;obtain⟨M,z⟩:∃ M,M=890:=⟨_,rfl⟩;have hO:Ou m sz rs rs' M [(0,0,2 ^ m - 1)] [(0,0)]:=by
  refine⟨bQ.mpr ⟨λh=>(nomatch h),List.nodup_nil⟩,λt ht=>?_,λx Z=>Z,Ls,λk j b q=>?_,?_⟩
  .rw[aP.mp ht];exact⟨aS _,aS _,by show 2 ^ m - 1 < 2 ^ m;omega⟩
  .have:=Qd q
   have:=aP.mp this;cases this;exact .inl Ls
  .exact aM (cP ZhF) (z ▸ Zjo hB X)
 obtain⟨r,E,l⟩:=wl (n:=n) (tk:=tk) (show(sz+1) * (sz+1)<=100 by omega) T o h1 h2 V M _ _ (cP z) hO
 -- up to the loop
 have pre:∀ st:Za,∃ t q w,st.length<=q/\st.length<=w/\q≠w/\Grw st t/\t[q]?=aa (ac,[(0,0,2 ^ m - 1)].map trD)/\t[w]?=aa (ac,[(0,0)].map prN)/\∀ P,ex (rT (n+7)) (.y 2 (.dd (.i 0) (.i 0) (.f 56 (.u (.x 0 1)))) (.y 3 (.lstE (.u (.g (.aC (.i 0) (.u (.i 0)))))) P)) [aa (pgD tk m rs),aa (pgD tk m rs'),ab,ab,ab,ab,ab,ab,ab,ab] st=ex (rT (n+7)) P (En (pgD tk m rs) (pgD tk m rs') q w ab ab ab ab ab ab) t:=λst=>by
  obtain⟨c,H,p⟩:=Y.call1 (F:=rT (n+7)) (s:=st++[(ac,[])]) (f:=56) (a:=.x 0 1) (x:=.int (m:Int)) (U:=[aa (pgD tk m rs),aa (pgD tk m rs'),ab,ab,ab,ab,ab,ab,ab,ab]) () (ZgR (n:=n+5) V) _ .refl;have W:c[st.length]?=aa (ac,[]):=p.get Zl;have ed:ev (rT (n+7)) (.dd (.i 0) (.i 0) (.f 56 (.u (.x 0 1)))) [aa (pgD tk m rs),aa (pgD tk m rs'),ab,ab,ab,ab,ab,ab,ab,ab] st=aa (.dic st.length,c.set st.length (ac,[(0,0,2 ^ m - 1)].map trD)):=by
   exact Zkj H W
  have hl:st.length < c.length:=ZB W;have ll:(c.set st.length (ac,[(0,0,2 ^ m - 1)].map trD)).length=c.length:=bJ;have gg:Grw st (c.set st.length (ac,[(0,0,2 ^ m - 1)].map trD)):=WJ (Grw.push.trans p) (aD _);have c4:(c.set st.length (ac,[(0,0,2 ^ m - 1)].map trD))[st.length]?=aa (ac,[(0,0,2 ^ m - 1)].map trD):=bT hl
  generalize c.set st.length (ac,[(0,0,2 ^ m - 1)].map trD)=t4 at *
  refine⟨t4++[(ac,[(0,0)].map prN)],st.length,t4.length,aD _,∅,∅,gg.trans .push,Grw.push.get c4,Zl,λP=>?_⟩
  exact(Zc (Zk ed)).trans (Zc (Zk rfl))
 cases r with
 |none=>
  refine⟨.non,λs=>.of (v:=Yp) rfl rfl λst g=>?_,.inl rfl⟩
  obtain⟨t,q,w,D,C,B,G,a,b,e⟩:=pre st;obtain⟨d,g2,I⟩:=l 1000 (by rw[z];decide) st t q w ab ab ab ab ab ab B D C a b G
  exact⟨d,(e _).trans (Zj I),g2⟩
 |some ts=>
  have A:=E ts rfl;have tl:=Zac A.nd A.bd;obtain⟨S,hu⟩:=Zab A ∅
  refine⟨.tup (S.map trD),λs=>.of (v:=Yp) rfl rfl λst g=>?_,.inr ⟨S,rfl,λL vs hv=>A.same T o hv L⟩⟩
  obtain⟨t,q,w,D,C,B,G,a,b,e⟩:=pre st;obtain⟨d,g2,⟨R,Q,O,N,K,J,I⟩,c2⟩:=l 1000 (by rw[z];decide) st t q w ab ab ab ab ab ab B D C a b G
  obtain⟨c,H,p⟩:=hu (rT (n+7)) d (pgD tk m rs) (pgD tk m rs') q w R Q O N K J c2 d .refl;have e4:ex (rT (n+7)) (.whl cW bW) (En (pgD tk m rs) (pgD tk m rs') q w ab ab ab ab ab ab) t=aa (.nx (En (pgD tk m rs) (pgD tk m rs') q w R Q O N K J),d):=I;exact⟨c,(e _).trans ((Zc e4).trans (Zj (ZR H))),g2.trans p⟩
end
def inT(ins:Li Int):D:=.tup (inZ ins)
def tel(m:Nat)(rs a:Li Rw)(L:Nat)(ins:Li Int):Bool:=!Zr (oc rs L 0 (v0 m ins)) (oc a L 0 (v0 m ins))
noncomputable def fT(t:Li Int->Bool):Nat->Li (Li Int)->Ot Nat
 |_,[]=>ab
 |k,x :: l=>if t x=ac then aa k else fT t (k+1) l
variable{t:Li Int->Bool}{l:Li (Li Int)}
section
variable{l':Li (Li Int)}
theorem Qk:∀ {vs:Li Int},Ya w (vs.map D.int)=ac
 |[]=>by cases w<;>rfl
 |v :: vs=>by
  show(okD w (.int v)&&Ya w (vs.map D.int))=ac;rw[Qk];cases w<;>rfl
def ZgA:okD 8 (stD k vs)=ac:=by
 show(ac&&(Ya 6 (vs.map D.int)&&ac))=ac;rw[Qk];rfl
theorem WP:∀ {n k:Nat}{vs:Li Int},∃ a,oc rs n k vs=.tup a/\okD 8 (.tup a)=ac
 |0,k,vs=>by unfold oc;split<;>exact⟨_,rfl,rfl⟩
 |n+1,k,vs=>by
  unfold oc;cases q:mv rs k vs with
  |inr p=>exact WP
  |inl o=>
   unfold mv at q;cases z:rs[k]? with
   |none=>rw[z]at q;cases q;exact⟨_,rfl,rfl⟩
   |some r=>
    rw[z]at q;cases r with
    |tell y=>cases q;exact⟨_,rfl,rfl⟩
    |_=>cases q
theorem ZgB:∀ {n k:Nat}{vs:Li Int},∀ d∈tl rs n k vs,∃ b,d=.tup b/\okD 8 (.tup b)=ac
 |0,k,vs=>λd hd=>by rw[aP.mp hd];exact WP (n:=0) (k:=k) (vs:=vs)
 |n+1,k,vs=>λd hd=>by
  unfold tl at hd;have a:=WP (rs:=rs) (n:=n+1) (k:=k) (vs:=vs);unfold oc at a;cases q:mv rs k vs with
  |inl o=>rw[q]at hd a;rw[aP.mp hd];exact a
  |inr p=>
   rw[q]at hd;rcases aF.mp hd with rfl|hd
   .exact⟨_,rfl,ZgA⟩
   .exact ZgB d hd
def Zb5(c:Rs m rs)(d:m<=1000)(f:ins.length<=m)(b:∀ v∈ins,Sm v)(g:L<=800):C (rT (n+7)) s 13 [pgD tk m rs,inT ins,.int (L:Int)] (oc rs L 0 (v0 m ins)):=by
 have h:=Y.lastT (F:=rT (n+6)) (s:=s) (a:=.call 12 (.a 0 (.a 1 (.s 2))) []) (U:=[aa (pgD tk m rs),aa (inT ins),jN L]) (xs:=stD 0 (v0 m ins) :: tl rs L 0 (v0 m ins)) (.call (xs:=[pgD tk m rs,.tup (inZ ins),.int (L:Int)]) () (UQ c d f b g)) (cR _ _) (by have:=Uh (rs:=rs) (M:=L) (k:=0) (vs:=v0 m ins);rw[aO];omega)
 have e:(stD 0 (v0 m ins) :: tl rs L 0 (v0 m ins)).getLastD .non=oc rs L 0 (v0 m ins):=by
  rw[<-Qx];cases q:tl rs L 0 (v0 m ins) with
  |nil=>exact ar q Zec
  |cons x xs=>rfl
 rw[e]at h;exact .of (v:=W1) rfl rfl (.ret h)
def Zak(o:Rs m rs)(a:Rs m rs')(c:m<=1000)(d:ins.length<=m)(b:∀ v∈ins,Sm v)(e:L<=800):C (rT (n+8)) s 99 [pgD tk m rs,pgD tk m rs',inT ins,.int (L:Int)] (.bl (tel m rs rs' L ins)):=by
 obtain⟨xs,i,l⟩:=WP (rs:=rs) (n:=L) (k:=0) (vs:=v0 m ins);obtain⟨ys,h,j⟩:=WP (rs:=rs') (n:=L) (k:=0) (vs:=v0 m ins);have g:=Zb5 (n:=n) (s:=s) (tk:=tk) o c d b e;have f:=Zb5 (n:=n) (s:=s) (tk:=tk) a c d b e;unfold tel;rw[i]at g;rw[h]at f;rw[i,h];exact .of (v:=UY) rfl rfl (.ret (.ned (.call (xs:=[pgD tk m rs,inT ins,.int (L:Int)]) () g) (.call (xs:=[pgD tk m rs',inT ins,.int (L:Int)]) () f) l j))
def Zis{p q:Nat×Li Int}(h:stD p.1 p.2=stD q.1 q.2):p=q:=by
 have h:D.tup [.int (p.1:Int),.tup (p.2.map D.int)]=.tup [.int (q.1:Int),.tup (q.2.map D.int)]:=h
 injection h with h;injection h with b h;injection h with a _;injection b with b;injection a with a
 exact Prod.ext (Int.ofNat.inj b) (QZ a)
theorem Zbg:∀ {L k:Nat}{vs:Li Int},(∀ (i:Nat) x y,(tl rs L k vs)[i]?=aa x->(tl rs' L k vs)[i]?=aa y->x=y)->oc rs L k vs=oc rs' L k vs
 |0,k,vs,h=>h 0 _ _ rfl rfl
 |L+1,k,vs,h=>by
  unfold tl at h;unfold oc;cases q:mv rs k vs with
  |inl o=>cases c:mv rs' k vs with
   |inl d=>rw[q,c]at h;exact h 0 _ _ rfl rfl
   |inr p=>
    rw[q,c]at h;have e:=h 0 _ _ rfl rfl;have:=(ZhG q).1;rw[e]at this;cases this
  |inr p=>cases c:mv rs' k vs with
   |inl d=>
    rw[q,c]at h;have e:=h 0 _ _ rfl rfl;have:=(ZhG c).1;rw[<-e]at this;cases this
   |inr f=>
    rw[q,c]at h;cases Zis (h 0 _ _ rfl rfl)
    exact Zbg λi x y a b=>h (i+1) x y a b
def Zb6(U:Rs m rs)(u:Rs m rs')(J:m<=1000)(w:ins.length<=m)(I:∀ v∈ins,Sm v)(N:L<=800)(t:tel m rs rs' L ins=ac):∃ (i:Nat) (x y:D),∀ s,C (rT (n+7)) s 98 [pgD tk m rs,pgD tk m rs',inT ins,.int (L:Int)] (.tup [.int (i:Int),x,y]):=by
 obtain⟨A,p⟩:∃ A,stD 0 (v0 m ins) :: tl rs L 0 (v0 m ins)=A:=⟨_,rfl⟩;obtain⟨B,F⟩:∃ B,stD 0 (v0 m ins) :: tl rs' L 0 (v0 m ins)=B:=⟨_,rfl⟩;have ok:∀ {rs:Li Rw}{A:Li D}{i:Nat}{x:D},stD 0 (v0 m ins) :: tl rs L 0 (v0 m ins)=A->A[i]?=aa x->∃ xs,x=.tup xs/\okD 8 (.tup xs)=ac:=λ{rs A i x} e h=>by
  rw[<-e]at h;rcases aF.mp (aY h) with rfl|h
  .exact⟨_,rfl,ZgA⟩
  .exact ZgB _ h
 let f:Nat->Ot D:=λi=>if (!Zr (A.getD i .non) (B.getD i .non))=ac then aa (.tup [.int (i:Int),A.getD i .non,B.getD i .non]) else ab
 have K:∀ s,C (rT (n+7)) s 98 [pgD tk m rs,pgD tk m rs',inT ins,.int (L:Int)] ((skR f (ag (min A.length B.length))).getD .non):=λs=>by
  have tA:=UQ (n:=n) (s:=s) (tk:=tk) U J w I N;have tB:=UQ (n:=n) (s:=s) (tk:=tk) u J w I N;rw[p]at tA;rw[F]at tB;have X:A.length<=802:=by rw[<-p,aO];have:=Uh (rs:=rs) (M:=L) (k:=0) (vs:=v0 m ins);omega
  refine .of (v:=W2) rfl rfl (.set (.call (xs:=[pgD tk m rs,.tup (inZ ins),.int (L:Int)]) () tA) (.set (.call (xs:=[pgD tk m rs',.tup (inZ ins),.int (L:Int)]) () tB) (.seekR (i:=6) (E:=λy=>[aa (pgD tk m rs),aa (pgD tk m rs'),aa (inT ins),jN L,aa (.tup A),aa (.tup B),y]) (f:=f) (λ_ _=>rfl) ?_ ∅ (λi w=>?_) λy=>.ret ())))
  .refine Dp.g2 (x:=.int (A.length:Int)) (y:=.int (B.length:Int)) (.lnT ()) (.lnT ()) (gp λst=>?_)
   show aa (D.int (if (B.length:Int) < (A.length:Int) then (B.length:Int) else (A.length:Int)),st)=_
   rw[show(if (B.length:Int) < (A.length:Int) then (B.length:Int) else (A.length:Int))=((min A.length B.length:Nat):Int) by split<;>omega]
  .have o:=Lg (l:=A) (i:=i) ∅
   have iB:=Lg (l:=B) (i:=i) ∅
   obtain⟨xs,ex,R⟩:=ok p o;obtain⟨ys,O,ky⟩:=ok F iB;have V:A.getD i .non=A[i]:=by rw[aV,o];rfl
   have gB:B.getD i .non=B[i]:=by rw[aV,iB];rfl
   show Bs _ s _ _ (if (!Zr (A.getD i .non) (B.getD i .non))=ac then aa (.tup [.int (i:Int),A.getD i .non,B.getD i .non]) else ab)
   rw[V,gB];rw[ex]at o;rw[O]at iB;rw[ex,O];have H:Y (rT (n+6)) s (.ix (.v 4) (.v 6)) [aa (pgD tk m rs),aa (pgD tk m rs'),aa (inT ins),jN L,aa (.tup A),aa (.tup B),jN i] (.tup xs):=.ixt (j:=i) () () o;have yB:Y (rT (n+6)) s (.ix (.v 5) (.v 6)) [aa (pgD tk m rs),aa (pgD tk m rs'),aa (inT ins),jN L,aa (.tup A),aa (.tup B),jN i] (.tup ys):=.ixt (j:=i) () () iB
   exact .ite (.ned H yB R ky) (λ_=>.cons () (.cons H (.cons yB .nil))) λ_=>.skip
 cases q:skR f (ag (min A.length B.length)) with
 |some d=>
  obtain⟨i,_,g⟩:=Za7 q;have g:(if (!Zr (A.getD i .non) (B.getD i .non))=ac then aa (D.tup [.int (i:Int),A.getD i .non,B.getD i .non]) else ab)=aa d:=g
  split at g
  .cases g
   rw[q]at K;exact⟨i,_,_,K⟩
  .cases g
 |none=>
  exfalso
  have e:oc rs L 0 (v0 m ins)=oc rs' L 0 (v0 m ins):=Zbg λi x y a b=>by
   have all:∀ {l:Li Nat},skR f l=ab->∀ z∈l,f z=ab:=λ{l} h=>by
    induction l with
    |nil=>intro z hz;cases hz
    |cons v l T=>
     intro z hz;unfold skR at h;cases c:f v with
     |some _=>rw[c]at h;cases h
     |none=>
      rw[c]at h;rcases aF.mp hz with rfl|hz
      .exact c
      .exact T h z hz
   have Q:A[i+1]?=aa x:=by rw[<-p];exact a
   have P:B[i+1]?=aa y:=by rw[<-F];exact b
   have:=all q (i+1) (cA.mpr (by have:=ZB Q;have:=ZB P;omega))
   have this:(if (!Zr (A.getD (i+1) .non) (B.getD (i+1) .non))=ac then aa (D.tup [.int ((i+1:Nat):Int),A.getD (i+1) .non,B.getD (i+1) .non]) else ab)=ab:=this
   rw[aV,aV,Q,P,Option.getD_some,Option.getD_some]at this;split at this
   .cases this
   .rename_i z
    cases G:Zr x y with
    |true=>exact Jy G
    |false=>rw[G]at z;exact ar rfl z
  unfold tel at t;obtain⟨xs,W,S⟩:=WP (rs:=rs') (n:=L) (k:=0) (vs:=v0 m ins);rw[e,W,show Zr (.tup xs) (.tup xs)=ac from X0 (n:=7) S]at t;cases t
theorem ZgI{f:Nat×Li Int->Ot D}(a:∀ p,f p=if t p.2=ac then aa (iN p.1) else ab):∀ {k:Nat}{l:Li (Li Int)},skR f (enm k l)=(fT t k l).map iN
 |_,[]=>rfl
 |k,x :: l=>by
  show(match f (k,x) with|some d=>aa d|none=>skR f (enm (k+1) l))=_
  rw[a];unfold fT;by_cases c:t x=ac
  .rw[ao c,ao c];rfl
  .rw[aq c,aq c];exact ZgI a
def Zah{x:D}(b:∀ st,Grw s st->∃ ok,Zbl x st=aa (l.map inT,ok)/\∀ st',Grw st st'->ok st')(c:Rs m rs)(a:Rs m rs')(e:m<=1000)(j:∀ ins∈l,ins.length<=m/\∀ v∈ins,Sm v)(k:L<=800):C (rT (n+9)) s 281 [pgD tk m rs,pgD tk m rs',x,.int (L:Int)] (((fT (tel m rs rs' L) 0 l).map iN).getD .non):=by
 rw[<-ZgI (f:=λp:Nat×Li Int=>if tel m rs rs' L p.2=ac then aa (iN p.1) else ab) λ_=>rfl]
 refine .of (v:=Yv) rfl rfl (.seekE (i:=4) (i':=5) (l:=l) (en:=inT) (E:=λy z=>[aa (pgD tk m rs),aa (pgD tk m rs'),aa x,jN L,y,z]) (λ_ _ _ _=>rfl) (λst g=>let ⟨ok,h,h2⟩:=b st g;⟨x,st,ok,rfl,.refl,h,h2⟩) (λp d=>?_) λy z=>.ret ())
 have:=j _ (U2 d);exact .ite (.call (xs:=[pgD tk m rs,pgD tk m rs',inT p.2,.int (L:Int)]) () (Zak c a e this.1 this.2 k)) (λ_=>.r rf) λ_=>.skip
theorem Zax:∀ {k:Nat}{l:Li (Li Int)},fT t k l=aa i->k<=i/\∃ x,l[i - k]?=aa x/\t x=ac
 |k,x :: l,h=>by
  unfold fT at h;split at h
  .cases h;exact⟨aD _,x,by rw[Nat.sub_self];rfl,‹_›⟩
  .obtain⟨c,y,b,a⟩:=Zax h
   refine⟨∅,y,?_,a⟩
   rw[show i - k=(i - (k+1))+1 by omega];exact b
def QA(b:k < rs.length)(a:rs.length<=1000):C (rT (n+2)) s 180 [pgD tk m rs,.int (k:Int),rwE r] (pgD tk m (rs.set k r)):=by
 have:=YY (n:=n) (s:=s) (xs:=rs.map rwE) (i:=k) (d:=rwE r) (by rw[aB];exact b) (by rw[aB];exact a)
 rw[<-eC]at this;exact .of (v:=WX) rfl rfl (.ret (.cons () (.cons () (.cons (.call (xs:=[.tup (rs.map rwE),.int (k:Int),rwE r]) () this) .nil))))
end
noncomputable def pdD(p:Int×Int):D:=.tup [.int p.1,.int p.2]
noncomputable def exL(b:Li Int)(a:Li (Li Int)):Li (Li Int):=a.flatMap λins=>b.map λv=>ins++[v]
def prL(b:Li (Li Int))(d:Li (Li Int)):Li (Li Int):=d.foldl (λa c=>exL c a) b
noncomputable def wdI(b:Li (Int×Int))(a:Int):Int:=b.foldl (λa p=>a * (p.2 - p.1+1)) a
def bxL(p:Int×Int):Li Int:=XX p.1 (p.2+1) 1
noncomputable def nwL(a:Li Int)(v:Int):Li Int:=if v∈a then a else a++[v]
def mnL(p:Int×Int):Li Int:=[p.1,(p.1+p.2) / 2,p.2].foldl nwL []
noncomputable def plL:Li (Li Int)->Nat
 |[]=>1
 |ns :: a=>ns.length * plL a
structure Tk(tks:List (Int×Int)):Prop where
 l:tks.length<=3
 b:∀ p∈tks,Sm p.1/\p.1<=p.2/\Sm p.2
def tdL(a:Li (Int×Int)):Li (Li Int):=prL [[]] (a.map (if 64 < wdI a 1 then mnL else bxL))
variable{b2:Bool}{lo hi:Int}
variable{bb:Bool}{tks:Li (Int×Int)}
section
variable{x0:D}{acc ls:Li (Li Int)}
theorem Wk.lst(d:s[w]?=aa (bb,xs))(h:Y F s e U (.lst w)):Wk F s e U (Yx ae) xs:=λst g=>by
 obtain⟨s1,i,a⟩:=h st g;have b:=(g.trans a).get d;refine⟨.lst w,s1,λs=>s[w]?=aa (bb,xs),i,a,?_,λst' f=>f.get b⟩
 show(match s1[w]? with
  |some c=>aa (c.2,λs=>s[w]?=aa c)
  |none=>ab)=_
 rw[b]
def Zfh{y3 y4:Ot D}(e:st[i]?=aa (bb,acc.map inT))(o:st[j]?=aa (b2,ns.map D.int))(n:(exL ns acc).length<=900)(w:ns.length<=900)(hi:∀ ins∈acc,ins.length<=900):∃ c d st',ex F ZH [aa x0,jL i,jL j,y3,y4] st=aa (.nx [aa x0,jL c,jL j,jL c,d],st')/\Grw st st'/\st'[c]?=aa (ac,(exL ns acc).map inT):=by
 have la:=ZB e;obtain⟨h,k,t,m,l⟩:=Zg6 (F:=F) (s:=st) (j:=st.length) (q:=Y1) (i:=4) (la:=i) (bb:=bb) (E:=λy=>[aa x0,jL i,jL j,jL st.length,y]) (en:=inT) (g:=λins=>(ns.map λv=>ins++[v]).map inT) (all:=acc) (λ_ _=>rfl) (aD _) ∅ (λins a=>.one (.ext rfl (by
   rw[bN];exact V0 (b:=one) (fr:=[4]) (wk:=Yx ae) (en:=D.int) (Wk.lst o ()) ∅ λv u=>by
    have:=hi ins a;show Y F st _ [jI v,aa (inT ins)] (inT (ins++[v]));unfold inT inZ;rw[bP];exact .adT () (.cons () .nil) (by rw[aB];show _+1<=_;omega)))) acc.length 0 (y:=y4) (st:=st++[(ac,[])]) (acc:=[]) (bK _) .push (Grw.push.get e) Zl (by
    rw[bX,cV,bK,<-cY,aB];exact n)
 rw[bX,dE,<-cY]at l;have p:ex F (.for1 4 ae (.v 1) Y1) [aa x0,jL i,jL j,jL st.length,y4] (st++[(ac,[])])=aa (.nx [aa x0,jL i,jL j,jL st.length,h],k):=by
  rw[<-t,<-aB (as:=acc) (f:=inT)];exact WG (bb:=bb) (xs:=acc.map inT) rfl (Grw.push.get e)
 exact⟨st.length,h,k,(Zc (Zk (v:=.lst st.length) (st':=st++[(ac,[])]) rfl)).trans ((Zc p).trans ((Zc (Zk rfl)).trans Zi)),m.grw (aD _) .push,l⟩
def JL:(exL ns acc).length=acc.length * ns.length:=by
 unfold exL
 induction acc with
 |nil=>exact(Nat.zero_mul _).symm
 |cons x l a=>rw[bY,aH,a,aB,aO,Nat.add_mul,cX,Nat.add_comm]
def Al(c:Nat)(acc:Li (Li Int)):Prop:=∀ ins∈acc,ins.length=c/\∀ v∈ins,Sm v
def Al.ex(h:Al k acc)(c:∀ v∈ns,Sm v):Al (k+1) (exL ns acc):=λins hi=>by
 obtain⟨x,a,hi⟩:=dN.mp hi;obtain⟨v,b,rfl⟩:=aR.mp hi;obtain⟨e,d⟩:=h x a;refine⟨by rw[aH,e];rfl,λz hz=>?_⟩
 rcases bA.mp hz with hz|hz
 .exact d z hz
 .rw[aP.mp hz];exact c v b
theorem Al.pr:∀ {ls:Li (Li Int)}{k:Nat}{acc:Li (Li Int)},Al k acc->(∀ ns∈ls,∀ v∈ns,Sm v)->Al (k+ls.length) (prL acc ls)
 |[],_,_,h,_=>h
 |ns :: ls,k,acc,h,a=>by
  have:=Al.pr (ls:=ls) (h.ex (a ns Ls)) λz b=>a z (Lm _ b)
  rw[aO,show k+(ls.length+1)=k+1+ls.length by omega]
  exact this
def Cs(s:Za)(l:Li Nat)(ls:Li (Li Int)):Prop:=l.length=ls.length/\∀ (i:Nat) j ns,l[i]?=aa j->ls[i]?=aa ns->∃ b,s[j]?=aa (b,ns.map D.int)
theorem Qn:∀ {ls:Li (Li Int)},(∀ ns∈ls,ns≠[])->1<=plL ls
 |[],_=>aD _
 |ns :: ls,h=>Nat.mul_pos (dM.mpr (h ns Ls)) (Qn λz a=>h z (Lm _ a))
theorem ZaE{r:Za}{l:Li Nat}(y:r[w]?=aa (bb,l.map D.lst))(m:Cs r l ls)(u:∀ ns∈ls,ns≠[])(Q:ls.length<=3):∀ (M i:Nat) (acc:Li (Li Int)) (c:Nat) (b:Bool) (k y3 y4:Ot D) (st:Za),i+M=ls.length->acc.length * plL (ls.drop i)<=100->1<=acc.length->Al i acc->(∀ ns∈ls,∀ v∈ns,Sm v)->Grw r st->st[c]?=aa (b,acc.map inT)->∃ j Y p o n st',ZA (λd U s=>ex F ZH (Zf U 2 d) s) w M i [jL w,jL c,k,y3,y4] st=aa (.nx [jL w,jL j,p,o,n],st')/\Grw st st'/\st'[j]?=aa (Y,(prL acc (ls.drop i)).map inT)
 |0,i,acc,c,b,k,y3,y4,st,hi,_,_,_,_,g,x=>⟨c,b,k,y3,y4,st,by unfold ZA;rw[g.get y];exact ao (by rw[aB,m.1];omega),.refl,by rw[dH ∅];exact x⟩
 |M+1,i,acc,c,b,k,y3,y4,st,hi,a,E,G,C,g,x=>by
  have f:i < ls.length:=by omega
  have e:i < l.length:=by rw[m.1];exact f
  obtain⟨b2,R⟩:=m.2 i _ _ (Lg e) (Lg f);have K:=dM.mpr (u _ (cM f));have h:=JL (ns:=ls[i]) (acc:=acc);rw[bR f]at a ⊢;have a:acc.length * (ls[i].length * plL (ls.drop (i+1)))<=100:=a;rw[<-Nat.mul_assoc,<-h]at a;have J:=Qn (ls:=ls.drop (i+1)) λz P=>u z (List.mem_of_mem_drop P)
  have N:(exL ls[i] acc).length<=100:=aM (by have:=Nat.mul_le_mul_left (exL ls[i] acc).length J;rwa [Nat.mul_one]at this) a
  have Z:ls[i].length<=100:=aM (by have:=Nat.mul_le_mul_right ls[i].length E;rw[cX]at this;exact this) (h ▸ N)
  have L:1<=(exL ls[i] acc).length:=by rw[h];exact Nat.mul_pos E K
  obtain⟨j,q,I,h,B,T⟩:=Zfh (F:=F) (x0:=.lst w) (y3:=y3) (y4:=y4) x (g.get R) ∅ ∅ λins t=>by have:=(G ins t).1;omega
  have A:=G.ex (C _ (cM f));obtain⟨W,X,p,o,n,H,V,O,S⟩:=ZaE y m u Q M (i+1) (exL ls[i] acc) j ac (jL l[i]) (jL j) q I ∅ a L A C (g.trans B) T
  refine⟨W,X,p,o,n,H,?_,B.trans O,S⟩
  conv=>lhs;unfold ZA
  have t:(l.map D.lst)[i]?=jL l[i]:=by rw[aT,Lg e];rfl
  simp only[g.get y,t];show(match ex F ZH [jL w,jL c,jL l[i],y3,y4] st with
   |some (.nx U',st')=>ZA (λd U s=>ex F ZH (Zf U 2 d) s) w M (i+1) U' st'
   |some (.ct U',st')=>ZA (λd U s=>ex F ZH (Zf U 2 d) s) w M (i+1) U' st'
   |some (.bk U',st')=>aa (.nx U',st')
   |some (.rt v,st')=>aa (.rt v,st')
   |none=>ab)=_
  rw[h];exact V
def Zb1{s0:Za}{l:Li Nat}(e:s0[w]?=aa (bb,l.map D.lst))(b:Cs s0 l ls)(q:∀ ns∈ls,ns≠[])(p:plL ls<=100)(r:ls.length<=3)(o:∀ ns∈ls,∀ v∈ns,Sm v):C (rT (n+1)) s0 134 [.lst w] (.tup ((prL [[]] ls).map inT)):=λst g=>by
 obtain⟨u,x,j,i,f,a,t,k,d⟩:=ZaE (F:=rT n) e b q r ls.length 0 [[]] st.length ac ab ab ab (st++[(ac,[.tup []])]) (bK _) (by rw[bX];show 1 * _<=_;rw[cX];exact p) (aD _) (λins h=>by rw[aP.mp h];exact⟨rfl,λv m=>nomatch m⟩) o (g.trans .push) Zl
 rw[bX]at d;have s:ex (rT n) (.for1 2 ae (.v 0) ZH) [jL w,jL st.length,ab,ab,ab] (st++[(ac,[.tup []])])=aa (.nx [jL w,jL u,j,i,f],a):=by
  rw[<-t,show ls.length=(l.map D.lst).length by rw[aB,b.1]]
  exact WG (bb:=bb) (xs:=l.map D.lst) rfl ((g.trans .push).get e)
 exact⟨a,W8 (v:=XJ) rfl rfl ((Zc (Zk (v:=.lst st.length) (st':=st++[(ac,[.tup []])]) rfl)).trans ((Zc s).trans (Zj (ZR (YE (c:=(x,(prL [[]] ls).map inT)) rfl d))))),Grw.push.trans k⟩
theorem Zat{α:Type}{en:α->D}{g:α->Li D}{ok:Za->Prop}{fe fc:D->Za->Res}(n:∀ d st,fc d st=aa (.bl ac,st))(e:∀ st,ok st):∀ {l:Li α},(∀ a∈l,Lv s (fe (en a)) (g a))->∀ st,Grw s st->∃ (c:Li Nat) (st':Za),Z9 ok fe fc (l.map en) st=aa (c.map D.lst,st')/\Grw st st'/\c.length=l.length/\∀ (i:Nat) j a,c[i]?=aa j->l[i]?=aa a->∃ b,st'[j]?=aa (b,g a)
 |[],_,st,k=>⟨[],st,ao (e st),.refl,rfl,λi j a h=>nomatch h⟩
 |x :: xs,h,st,k=>by
  obtain⟨s1,j,b,w,u,m⟩:=h x Ls st k;obtain⟨c,p,v,f,q,y⟩:=Zat n e (λd t=>h d (Lm _ t)) s1 (k.trans m)
  refine⟨j :: c,p,?_,m.trans f,au (·+1) q,λi r a hi o=>?_⟩
  .rw[aQ,Z9,ao (e st),n]
   simp only[w,v,aQ]
  .cases i with
   |zero=>cases hi;cases o;exact⟨b,f.get u⟩
   |succ i=>exact y i r a hi o
def JA{p:Int×Int}:∀ v∈bxL p,p.1<=v/\v<=p.2:=λv a=>by
 obtain⟨k,b,rfl⟩:=aR.mp a;have:=cA.mp b;unfold Y9 at this;rw[ao #[],dR]at this
 split at this<;>omega
theorem Zbm{x:Ot D}:∀ {tks:Li (Int×Int)}{a:Int}{y z:Ot D}{st:Za},(∀ p∈tks,ZZ (p.2 - p.1+1)=ac)->∃ c b,Zh (Xi 2 3 (ex F Ym)) (tks.map pdD) [x,jI a,y,z] st=aa (.nx [x,jI (wdI tks a),c,b],st)
 |[],a,y,z,st,_=>⟨y,z,rfl⟩
 |p :: tks,a,y,z,st,h=>by
  have e:ex F Ym [x,jI a,jI p.1,jI p.2] st=aa (.nx [x,aa (.int (a * (p.2 - p.1+1))),jI p.1,jI p.2],st):=by
   have:ev F (.h (.v 1) (.p (.l (.v 3) (.v 2)) (.i 1))) [x,jI a,jI p.1,jI p.2] st=aa (.int (a * (p.2 - p.1+1)),st):=by
    show UT .Mult (.int a) (.int (p.2 - p.1+1)) st=_;show(match (if ZZ a||ZZ (p.2 - p.1+1) then aa (a * (p.2 - p.1+1)) else ab) with|some k=>aa (D.int k,st)|none=>ab)=_
    rw[h p Ls,Bool.or_true];rfl
   exact(Zc (Zk this)).trans Zi
  obtain⟨c,b,f⟩:=Zbm (tks:=tks) (a:=a * (p.2 - p.1+1)) (y:=jI p.1) (z:=jI p.2) (st:=st) λq d=>h q (Lm _ d)
  refine⟨c,b,?_⟩;show(match ex F Ym [x,jI a,jI p.1,jI p.2] st with
   |some (.nx U',st')=>Zh (Xi 2 3 (ex F Ym)) (tks.map pdD) U' st'
   |some (.ct U',st')=>Zh (Xi 2 3 (ex F Ym)) (tks.map pdD) U' st'
   |some (.bk U',st')=>aa (.nx U',st')
   |some (.rt v,st')=>aa (.rt v,st')
   |none=>ab)=_
  rw[e];exact f
def WW{p:Int×Int}(h:p.1<=p.2):((bxL p).length:Int)=p.2 - p.1+1:=by
 unfold bxL XX Y9;rw[aB,bM,ao #[],ao ∅,dR]
 omega
theorem ZgO:∀ {tks:Li (Int×Int)}{a:Int},(∀ p∈tks,p.1<=p.2)->wdI tks a=a * (plL (tks.map bxL):Int)
 |[],a,_=>by show a=a * 1;omega
 |p :: tks,a,h=>by
  show wdI tks (a * (p.2 - p.1+1))=a * (((bxL p).length * plL (tks.map bxL):Nat):Int);rw[ZgO λz b=>h z (Lm _ b),eD,WW (h p Ls),Int.mul_assoc]
def ZeF(h:Tk tks):C (rT (n+1)) s 133 [pgD (.tup (tks.map pdD)) m rs] (.int (wdI tks 1)):=λst g=>by
 obtain⟨d,c,e⟩:=Zbm (F:=rT n) (x:=aa (pgD (.tup (tks.map pdD)) m rs)) (tks:=tks) (a:=1) (y:=ab) (z:=ab) (st:=st) λp f=>Q7 (by have:=h.b p f;unfold Sm at this;omega)
 have i:ex (rT n) (.for2 2 3 (.x 0 0) Ym) [aa (pgD (.tup (tks.map pdD)) m rs),jI 1,ab,ab] st=aa (.nx [aa (pgD (.tup (tks.map pdD)) m rs),jI (wdI tks 1),d,c],st):=e;exact⟨st,W8 (v:=UZ) rfl rfl ((Zc (Zk rfl)).trans ((Zc i).trans (Zj (ZR rfl)))),.refl⟩
def Jp(h:Tk tks):C (rT (n+2)) s 135 [pgD (.tup (tks.map pdD)) m rs] (.bl (aj (64 < wdI tks 1))):=.of (v:=WZ) rfl rfl (.ret (.cmp (.call1 () (ZeF h)) () λ_=>rfl))
theorem ZaB{v:Int}:∀ {l:Li Int},YN v (l.map D.int)=aa (aj (v∈l))
 |[]=>rfl
 |x :: l=>by
  show(YN v (l.map D.int)).map (λb=>aj (x=v)||b)=_
  rw[ZaB];show aa (aj (x=v)||aj (v∈l))=aa (aj (v∈x :: l));rw[<-Bool.decide_or];exact au aa (fH ⟨λh=>aF.mpr (h.imp aw id),λh=>(aF.mp h).imp aw id⟩)
def JV{a:Li Int}{v:Int}:(nwL a v).length<=a.length+1/\a.length<=(nwL a v).length:=by
 unfold nwL;split
 .omega
 .rw[aH];show _+1<=_/\_<=_+1;omega
theorem ZaR{x0 x1:Ot D}(t:s.length<=j):∀ (vs a:Li Int) (y:Ot D) (st:Za),Grw s st->st[j]?=aa (ac,a.map D.int)->a.length+vs.length<=100->∃ n st',Zh (λd U s=>ex F Zv (Zf U 3 d) s) (vs.map D.int) [x0,x1,jL j,y] st=aa (.nx [x0,x1,jL j,n],st')/\Kj j st st'/\st'[j]?=aa (ac,(vs.foldl nwL a).map D.int)
 |[],a,y,st,g,h,_=>⟨y,st,rfl,Grw.refl.kj,h⟩
 |v :: vs,a,y,st,g,h,A=>by
  rw[aO]at A;have u:Y F st (.cmp .NotIn (.v 3) (.v 2)) [x0,x1,jL j,jI v] (.bl (!decide (v∈a))):=Dp.g2 (x:=.int v) (y:=.lst j) () () (gs λst' C=>by
   show(match (Option.map Bool.not (match st'[j]? with|some (_,xs)=>YN v xs|none=>ab)) with|some k=>aa (D.bl k,st')|none=>ab)=_
   rw[C.get h];show(match (Option.map Bool.not (YN v (a.map D.int))) with|some k=>aa (D.bl k,st')|none=>ab)=_
   rw[ZaB];rfl)
  obtain⟨o,m,l⟩:=u st .refl;have step:∃ b,ex F Zv [x0,x1,jL j,jI v] st=aa (.nx [x0,x1,jL j,jI v],b)/\Kj j st b/\b[j]?=aa (ac,(nwL a v).map D.int):=by
   unfold nwL;by_cases c:v∈a
   .rw[aK c]at m
    rw[ao c];exact⟨o,(Zc ((X9 m).trans Zi)).trans Zi,l.kj,l.get h⟩
   .rw[aG c]at m
    rw[aq c];obtain⟨b,q,f,p⟩:=Ap.app (F:=F) (s:=o) (j:=j) (i:=2) (e:=.v 3) (U:=[x0,x1,jL j,jI v]) (d:=.int v) rfl () o (a.map D.int) .refl (l.get h) (by rw[aB];show _+1<=900;omega)
    exact⟨b,(Zc ((Yl m).trans ((Zc q).trans Zi))).trans Zi,l.kj.trans f,by rw[p,bP];rfl⟩
  obtain⟨b,q,f,p⟩:=step;obtain⟨n,w,E,z,B⟩:=ZaR t vs (nwL a v) (jI v) b (f.grw t g) p (by have:=JV (a:=a) (v:=v);omega)
  refine⟨n,w,?_,f.trans z,B⟩;show(match ex F Zv [x0,x1,jL j,jI v] st with
   |some (.nx U',st')=>Zh (λd U s=>ex F Zv (Zf U 3 d) s) (vs.map D.int) U' st'
   |some (.ct U',st')=>Zh (λd U s=>ex F Zv (Zf U 3 d) s) (vs.map D.int) U' st'
   |some (.bk U',st')=>aa (.nx U',st')
   |some (.rt v,st')=>aa (.rt v,st')
   |none=>ab)=_
  rw[q];exact E
def ZeA:Lv s (rT (n+1) 137 [.int lo,.int hi]) ((mnL (lo,hi)).map D.int):=λst g=>by
 have c:Y (rT n) (st++[(ac,[])]) (.g (.a 0 (.aC (.k (.p (.v 0) (.v 1)) (.i 2)) (.s 1)))) [jI lo,jI hi,jL st.length,ab] (.tup ([lo,(lo+hi) / 2,hi].map D.int)):=by
  show Y _ _ _ _ (.tup [.int lo,.int ((lo+hi) / 2),.int hi]);exact .cons () (.cons (.fd (.add () ()) () #[]) (.cons () .nil))
 obtain⟨e,m,b⟩:=c _ .refl;obtain⟨o,d,l,f,h⟩:=ZaR (F:=rT n) (s:=st) (j:=st.length) (x0:=jI lo) (x1:=jI hi) (aD _) [lo,(lo+hi) / 2,hi] [] ab e (Grw.push.trans b) (b.get Zl) (by show 0+3<=100;decide)
 exact⟨d,st.length,ac,W8 (v:=YL) rfl rfl ((Zc (Zk (v:=.lst st.length) (st':=st++[(ac,[])]) rfl)).trans ((Zc ((for_tup m).trans l)).trans (Zj (ZR rfl)))),h,(b.kj.trans f).grw (aD _) .push⟩
def JW{a:Li Int}{v z:Int}(h:z∈nwL a v):z∈a\/z=v:=by
 unfold nwL at h;split at h
 .exact .inl h
 .exact(bA.mp h).imp id aP.mp
def JU{p:Int×Int}(h:p.1<=p.2):∀ v∈mnL p,p.1<=v/\v<=p.2:=λv b=>by
 rcases JW (a:=nwL (nwL [] p.1) ((p.1+p.2) / 2)) b with b|rfl
 .rcases JW (a:=nwL [] p.1) b with b|rfl
  .rcases JW (a:=[]) b with b|rfl
   .cases b
   .omega
  .omega
 .omega
def V4{p:Int×Int}:1<=(mnL p).length/\(mnL p).length<=3:=by
 have d:=JV (a:=nwL (nwL [] p.1) ((p.1+p.2) / 2)) (v:=p.2);have c:=JV (a:=nwL [] p.1) (v:=(p.1+p.2) / 2);have b:(nwL [] p.1).length=1:=by unfold nwL;rw[aq (by intro h;cases h)];rfl
 show 1<=(nwL (nwL (nwL [] p.1) ((p.1+p.2) / 2)) p.2).length/\(nwL (nwL (nwL [] p.1) ((p.1+p.2) / 2)) p.2).length<=3;omega
theorem Zds:∀ {tks:Li (Int×Int)},plL (tks.map mnL)<=3 ^ tks.length
 |[]=>aD _
 |p :: tks=>by
  rw[aO,Nat.pow_succ,Nat.mul_comm];exact dP V4.2 Zds
def Zai{f:Int×Int->Li Int}(h:Tk tks)(G:∀ p∈tks,Lv s (ev (rT (n+2)) elt [jI p.1,jI p.2]) ((f p).map D.int))(F:∀ p∈tks,f p≠[])(E:∀ p∈tks,∀ v∈f p,Sm v)(a:plL (tks.map f)<=100):Y (rT (n+2)) s (.f 134 (.u (.compT [] (.x 0 0) elt (.c (.bl ac))))) [aa (pgD (.tup (tks.map pdD)) m rs)] (.tup ((prL [[]] (tks.map f)).map inT)):=λst g=>by
 obtain⟨r,k,M,A,y,O⟩:=Zat (s:=s) (ok:=λ_=>True) (fe:=λd=>ev (rT (n+2)) elt (ZP two [aa (pgD (.tup (tks.map pdD)) m rs)] [] d)) (fc:=λd=>ev (rT (n+2)) (.c (.bl ac)) (ZP two [aa (pgD (.tup (tks.map pdD)) m rs)] [] d)) (en:=pdD) (g:=λp=>(f p).map D.int) (l:=tks) (λ_ _=>rfl) (λ_=>trivial) (λp a=>G p a) st g
 have L:ev (rT (n+2)) (.compT [] (.x 0 0) elt (.c (.bl ac))) [aa (pgD (.tup (tks.map pdD)) m rs)] st=aa (.lst k.length,k++[(ac,r.map D.lst)]):=by
  show Yj two Uj [] _ _ _ _ st=_;unfold Yj;rw[show ev (rT (n+2)) (.x 0 0) [aa (pgD (.tup (tks.map pdD)) m rs)] st=aa (.tup (tks.map pdD),st) from rfl];have B:Uj (.tup (tks.map pdD)) st=aa (tks.map pdD,λ_=>True):=ao (cT.mpr λd H=>by obtain⟨p,_,rfl⟩:=aR.mp H;rfl)
  simp only[B];rw[ao (by rw[aB];have:=h.l;omega),M]
 have N:=Zb1 (n:=n+1) (w:=k.length) (bb:=ac) (s0:=k++[(ac,r.map D.lst)]) (l:=r) (ls:=tks.map f) Zl ⟨by rw[y,aB],λi j ns J e=>by
  rw[aT]at e;cases q:tks[i]? with
  |none=>rw[q]at e;cases e
  |some p=>rw[q]at e;cases e;obtain⟨b,I⟩:=O i j p J q;exact⟨b,Grw.push.get I⟩⟩ (λns o=>by obtain⟨p,a,rfl⟩:=aR.mp o;exact F p a) a (by rw[aB];exact h.l) (λns o v C=>by obtain⟨p,a,rfl⟩:=aR.mp o;exact E p a v C)
 obtain⟨t,K,z⟩:=N _ .refl;refine⟨t,?_,A.trans (Grw.push.trans z)⟩;show Zo (ZQ (ev (rT (n+2)) (.compT [] (.x 0 0) elt (.c (.bl ac)))) (evC (.tup [])) Uw) (Vb (rT (n+2) 134) []) [aa (pgD (.tup (tks.map pdD)) m rs)] st=_;unfold Zo ZQ;rw[L];exact K
def Zcq(h:Tk tks)(o:¬64 < wdI tks 1):plL (tks.map bxL)<=64/\∀ p∈tks,p.2 - p.1+1<=64:=by
 have e:=ZgO (tks:=tks) (a:=1) λp hp=>(h.b p hp).2.1
 rw[e,Int.one_mul]at o;have f:plL (tks.map bxL)<=64:=by omega
 refine⟨f,?_⟩;have g:∀ {l:Li (Int×Int)},(∀ p∈l,p.1<=p.2)->∀ ns∈l.map bxL,ns≠[]:=λ{l} c ns n e=>by
  obtain⟨p,hp,rfl⟩:=aR.mp n;have:=WW (c p hp);rw[e]at this;have:=c p hp;have:(([]:Li Int).length:Int)=0:=rfl;omega
 have k:∀ {l:Li (Int×Int)},(∀ p∈l,p.1<=p.2)->∀ p∈l,(bxL p).length<=plL (l.map bxL):=λ{l} c=>by
  induction l with
  |nil=>intro p hp;cases hp
  |cons q l m=>
   intro p hp;have j:=Qn (g (l:=l) λz d=>c z (Lm _ d))
   have i:=dM.mpr (g c (bxL q) (aR.mpr ⟨q,Ls,rfl⟩));show _<=(bxL q).length * plL (l.map bxL);rcases aF.mp hp with rfl|hp
   .have:=Nat.mul_le_mul_left (bxL p).length j;rwa [Nat.mul_one]at this
   .have:=m (λz d=>c z (Lm _ d)) p hp
    have r:=Nat.mul_le_mul_right (plL (l.map bxL)) i;rw[cX]at r;omega
 intro p hp;have:=k (λz d=>(h.b z d).2.1) p hp
 have:=WW (h.b p hp).2.1;omega
def Zcr{p:Int×Int}(h:p.1<=p.2):bxL p≠[]:=λe=>by
 have:=WW h;rw[e]at this;have:(([]:Li Int).length:Int)=0:=rfl;omega
def ZeE(h:Tk tks):C (rT (n+4)) s 139 [pgD (.tup (tks.map pdD)) m rs] (.tup ((tdL tks).map inT)):=by
 have tl:=h.l;unfold tdL;by_cases c:64 < wdI tks 1
 .rw[ao c]
  have f:=Jp (n:=n+1) (s:=s) (m:=m) (rs:=rs) h;rw[aK c]at f;have u:C (rT (n+3)) s 138 [pgD (.tup (tks.map pdD)) m rs] (.tup ((prL [[]] (tks.map mnL)).map inT)):=.of (v:=JC) rfl rfl (.ret (Zai h (λp d st g=>by
   obtain⟨t,j,b,e,w,k⟩:=ZeA (n:=n+1) (s:=st) (lo:=p.1) (hi:=p.2) st .refl;exact⟨t,j,b,by show Zo (ev (rT (n+2)) (.a 0 (.s 1))) (Vb (rT (n+2) 137) []) _ st=_;unfold Zo;exact e,w,k⟩) (λp d e=>by have:=(V4 (p:=p)).1;rw[e]at this;cases this) (λp d v i=>by have:=h.b p d;have:=JU this.2.1 v i;unfold Sm at *;omega) (aM Zds (aM (Nat.pow_le_pow_right #[] tl) #[]))))
  exact .of (v:=Vr) rfl rfl (.ret (.ife (k:=ac) (.call1 () f) (.call1 () u)))
 .rw[aq c]
  obtain⟨q,o⟩:=Zcq h c;have f:=λ{n:Nat}=>Jp (n:=n) (s:=s) (m:=m) (rs:=rs) h
  rw[aG c]at f;have x:C (rT (n+3)) s 136 [pgD (.tup (tks.map pdD)) m rs] (.tup ((prL [[]] (tks.map bxL)).map inT)):=.of (v:=Zcs) rfl rfl (.no (.call1 () f) (.ret (Zai h (λp d st g=>by
   have z:=o p d;have y:=h.b p d;unfold Sm at y;refine⟨st++[(ac,(bxL p).map D.int)],st.length,ac,?_,Zl,.push⟩;show(if WR p.1 (p.2+1) 1=ac/\p.2+1 - p.1<=1000 then aa (D.lst st.length,st++[(ac,(XX p.1 (p.2+1) 1).map D.int)]) else ab)=_
   exact ao ⟨aK ⟨⟨∅,∅⟩,⟨∅,∅⟩,.inl rfl⟩,∅⟩) (λp d=>Zcr (h.b p d).2.1) (λp d v i=>by have:=h.b p d;have:=JA v i;unfold Sm at *;omega) ∅)))
  exact .of (v:=Vr) rfl rfl (.ret (.ife (k:=ae) (.call1 () f) (.call1 () x)))
def YT(h:Tk tks):∀ ins∈tdL tks,ins.length=tks.length/\∀ v∈ins,Sm v:=by
 have:=Al.pr (ls:=tks.map (if 64 < wdI tks 1 then mnL else bxL)) (k:=0) (acc:=[[]]) (λins h=>by rw[aP.mp h];exact⟨rfl,λv a=>nomatch a⟩) λns d v a=>by
  obtain⟨p,c,rfl⟩:=aR.mp d;have e:=h.b p c;split at a
  .have:=JU e.2.1 v a;unfold Sm at *;omega
  .have:=JA v a;unfold Sm at *;omega
 rw[bK,aB]at this;exact this
def Zb8(h:Tk tks)(c:m<=1000)(f:tks.length<=m)(b:Rs m rs)(a:Rs m rs')(d:L<=800):C (rT (n+9)) s 140 [pgD (.tup (tks.map pdD)) m rs,pgD (.tup (tks.map pdD)) m rs',.int (L:Int)] ((skR (λins=>if tel m rs rs' L ins=ac then aa (inT ins) else ab) (tdL tks)).getD .non):=by
 refine .of (v:=VN) rfl rfl (.seekD (i:=3) (en:=inT) (E:=λy=>[aa (pgD (.tup (tks.map pdD)) m rs),aa (pgD (.tup (tks.map pdD)) m rs'),jN L,y]) (λ_ _=>rfl) (.call1 () (ZeE (n:=n+4) h)) (λins hi=>?_) λy=>.ret ())
 obtain⟨g,e⟩:=YT h ins hi;exact .ite (.call (xs:=[pgD (.tup (tks.map pdD)) m rs,pgD (.tup (tks.map pdD)) m rs',inT ins,.int (L:Int)]) () (Zak b a c ∅ e d)) (λ_=>.r rf) λ_=>.skip
end
inductive Vd(t:List Int->Bool)(tks:List (Int×Int))(tr:List (List Int)):D->Prop where
 |no (x:Str) (zs:List D) (h:x≠S "found") (h2:tr.any t=ac\/(tdL tks).find? t=ab):Vd t tks tr (.tup (.str x :: zs))
 |f (ins:List Int) (k:D) (h:tr.any t=ae) (h2:(tdL tks).find? t=aa ins):Vd t tks tr (.tup [.str "found",inT ins,k])
noncomputable def tlS:Nat->CS->CS
 |n+1,.seq _ q=>tlS n q
 |_,q=>q
variable{vd:Nat×Str×Rw->D}
variable{tr:Li (Li Int)}
theorem Ql{α:Type}{f:α->D}:∀ {l:Li α},(∀ a∈l,okD w (f a)=ac)->Ya w (l.map f)=ac
 |[],_=>by cases w<;>rfl
 |a :: l,h=>by
  show(okD w (f a)&&Ya w (l.map f))=ac;rw[h a Ls,Ql λz b=>h z (Lm _ b)];rfl
def ZhI{r:Rw}:okD 6 (rwE r)=ac:=by
 cases r with
 |put x y g z=>cases y<;>cases z<;>rfl
 |ifr y g z t=>cases y<;>cases z<;>rfl
 |tell y=>cases y<;>rfl
 |go t=>rfl
 |skip=>rfl
def Zgz:okD 8 (pgD (.tup (tks.map pdD)) m rs)=ac:=by
 show(Ya 6 (tks.map pdD)&&(ac&&(Ya 6 (rs.map rwE)&&ac)))=ac;rw[Ql λ_ _=>rfl,Ql λ_ _=>ZhI];rfl
theorem Zdq{α:Type}{f:α->D}(d:∀ a b,f a=f b->a=b):∀ {l c:Li α},l.map f=c.map f->l=c
 |[],[],_=>rfl
 |a :: l,b :: c,h=>by
  rw[aQ,aQ]at h
  injection h with g e
  rw[d a b g,Zdq d e]
def ZhA{a:Li Rw}{vs:Li Int}(d:Mds m rs a)(h:Mds m rs' a)(b:Vs m vs)(i:rs.length=rs'.length):mv rs k vs=mv rs' k vs:=by
 by_cases c:k < rs.length
 .have g:=Lg c
  have f:=Lg (show k < rs'.length by omega)
  have e:=Lg (l:=a) (show k < a.length by rw[d.1];exact c)
  rw[ZaU g,ZaU f,<-d.2 k _ _ g e vs b,<-h.2 k _ _ f e vs b]
 .rw[V5 ∅,V5 ∅]
theorem ZaW(h:∀ k vs,Vs m vs->mv rs k vs=mv rs' k vs)(c:rs.length=rs'.length)(b:Rs m rs):∀ (L k:Nat) (vs:Li Int),Vs m vs->oc rs L k vs=oc rs' L k vs
 |0,k,vs,_=>by unfold oc;rw[c]
 |L+1,k,vs,a=>by
  unfold oc;rw[<-h k vs a];cases q:mv rs k vs with
  |inl o=>rfl
  |inr p=>exact ZaW h c b L p.1 p.2 (Jb a b q)
theorem ZgJ{f:Li Int->D}:∀ {l:Li (Li Int)},skR (λins=>if t ins=ac then aa (f ins) else ab) l=(l.find? t).map f
 |[]=>rfl
 |x :: l=>by
  unfold skR;rw[cL];cases t x with
  |true=>rfl
  |false=>exact ZgJ
theorem Zaw:∀ {k:Nat}{l:Li (Li Int)},fT t k l=ab->l.any t=ae
 |k,[],_=>rfl
 |k,x :: l,h=>by
  unfold fT at h;split at h
  .cases h
  .rename_i c
   rw[cG,Zaw h,cQ];exact Bool.eq_false_iff.mpr c
def ZgX(h:Rs m rs)(a:Rs m rs')(k:m<=1000)(hN:Tk tks)(o:tks.length<=m)(l:L<=800)(t:tr.any (tel m rs rs' L)=ae):∃ d,Vd (tel m rs rs' L) tks tr d/\∀ s (g e c:Ot D),R (rT (n+9)) s (tlS 5 c_verdict.body) [aa (pgD (.tup (tks.map pdD)) m rs),aa (pgD (.tup (tks.map pdD)) m rs'),g,jN L,e,c,ab] d:=by
 have b:=λs=>Zb8 (n:=n) (s:=s) hN k o h a l
 rw[ZgJ]at b;cases q:(tdL tks).find? (tel m rs rs' L) with
 |some ins=>
  rw[q]at b;obtain⟨u,o2⟩:=YT hN ins (eZ q);obtain⟨i,x,y,p⟩:=Zb6 (n:=n+2) (tk:=.tup (tks.map pdD)) h a k ∅ o2 l (List.find?_some q)
  exact⟨_,.f ins (.int (i:Int)) t q,λs g e c=>.set (.call (xs:=[pgD (.tup (tks.map pdD)) m rs,pgD (.tup (tks.map pdD)) m rs',.int (L:Int)]) () (b s)) (.yes () (.cons () (.cons () (.cons (.ixt (j:=0) (xs:=[.int (i:Int),x,y]) (.call (xs:=[pgD (.tup (tks.map pdD)) m rs,pgD (.tup (tks.map pdD)) m rs',inT ins,.int (L:Int)]) () (p s)) () rfl) .nil))))⟩
 |none=>
  rw[q]at b;refine⟨.tup [.str (if aj (64 < wdI tks 1) then S "unknown" else S "table")],.no _ _ (by split<;>decide +kernel) (.inr q),λs g e c=>.set (.call (xs:=[pgD (.tup (tks.map pdD)) m rs,pgD (.tup (tks.map pdD)) m rs',.int (L:Int)]) () (b s)) (.no () (.ret (.ife (.call1 () (Jp (n:=n+7) hN)) ?_)))⟩
  cases aj (64 < wdI tks 1)<;>exact .r rf
def Zbt(g:Rs m rs)(a:Rs m rs')(w:rs.length=sz)(u:rs'.length=sz)(T:m<=60)(O:(sz+1) * (sz+1) < 64)(X:2 ^ m * ((sz+1) * (sz+1))<=440)(hN:Tk tks)(Q:tks.length<=m)(F:L<=800)(t:∀ ins∈tr,ins.length<=m/\∀ v∈ins,Sm v):∃ d,Vd (tel m rs rs' L) tks tr d/\∀ s,C (rT (n+10)) s 282 [pgD (.tup (tks.map pdD)) m rs,pgD (.tup (tks.map pdD)) m rs',.tup (tr.map inT),.int (L:Int)] d:=by
 obtain⟨d1,c1,f,rfl,E⟩:=Zb2 (n:=n+3) (tk:=.tup (tks.map pdD)) g.ok (by have:=g.l;omega)
 obtain⟨d2,Z,c,rfl,B⟩:=Zb2 (n:=n+3) (tk:=.tup (tks.map pdD)) a.ok (by have:=a.l;omega)
 obtain⟨d3,J,M⟩:=ZeC (n:=n+1) (tk:=.tup (tks.map pdD)) g a w u T O X;have o:m<=1000:=by omega
 have no:(∀ vs,Vs m vs->oc rs L 0 vs=oc rs' L 0 vs)->(tdL tks).find? (tel m rs rs' L)=ab:=λh=>List.find?_eq_none.mpr λins hi=>by
  obtain⟨o1,o2⟩:=YT hN ins hi;obtain⟨xs,Y,N⟩:=WP (rs:=rs') (n:=L) (k:=0) (vs:=v0 m ins);unfold tel;rw[h _ (Zej ∅ o2),Y,show Zr (.tup xs) (.tup xs)=ac from X0 (n:=7) N];decide
 obtain⟨p,I⟩:∃ p,p=Zr (pgD (.tup (tks.map pdD)) m c) (pgD (.tup (tks.map pdD)) m f):=⟨_,rfl⟩;have go:∀ {d},(p=ac->d=.tup [.str "same"])->(p=ae->∀ s,R (rT (n+9)) s (tlS 1 c_verdict.body) [aa (pgD (.tup (tks.map pdD)) m rs),aa (pgD (.tup (tks.map pdD)) m rs'),aa (.tup (tr.map inT)),jN L,ab,ab,ab] d)->∀ s,C (rT (n+10)) s 282 [pgD (.tup (tks.map pdD)) m rs,pgD (.tup (tks.map pdD)) m rs',.tup (tr.map inT),.int (L:Int)] d:=λw u s=>.of (v:=c_verdict) rfl rfl (.pick (k:=p) (by rw[I];exact .eqd (.call1 () (Z s)) (.call1 () (c1 s)) Zgz Zgz) (λq=>by rw[w q];exact .ret ()) λq=>u q s)
 cases p with
 |true=>
  refine⟨_,.no (S "same") [] (by decide +kernel) (.inr (no ?_)),go (λ_=>rfl) λq=>nomatch q⟩
  have e:D.tup [.tup (tks.map pdD),.int (m:Int),.tup (c.map rwE)]=.tup [.tup (tks.map pdD),.int (m:Int),.tup (f.map rwE)]:=Jy I.symm
  injection e with e;injection e with _ e;injection e with _ e;injection e with e _;injection e with e
  have e:c=f:=Zdq (λ_ _=>Qr) e
  subst e;exact ZaW (λk vs P=>ZhA E B P (w.trans u.symm)) (w.trans u.symm) g L 0
 |false=>
  have A:=λs=>Zah (n:=n) (s:=s) (tk:=.tup (tks.map pdD)) (x:=.tup (tr.map inT)) (λ_ _=>⟨_,rfl,λ_ _=>trivial⟩) g a o t F
  cases z:fT (tel m rs rs' L) 0 tr with
  |some i=>
   obtain⟨_,ins,hi,G⟩:=Zax z;rw[dY]at hi;have H:=aY hi;have b:=t ins H;obtain⟨j,x,y,V⟩:=Zb6 (n:=n+2) (tk:=.tup (tks.map pdD)) g a o b.1 b.2 F G;rw[z]at A;exact⟨_,.no (S "trial") [.int (i:Int),.int (j:Int)] (by decide +kernel) (.inl (dI.mpr ⟨ins,H,G⟩)),go (λq=>nomatch q) λ_ s=>.set (.call (xs:=[pgD (.tup (tks.map pdD)) m rs,pgD (.tup (tks.map pdD)) m rs',.tup (tr.map inT),.int (L:Int)]) () (A s)) (.yes () (.cons () (.cons () (.cons (.ixt (j:=0) (xs:=[.int (j:Int),x,y]) (.call (xs:=[pgD (.tup (tks.map pdD)) m rs,pgD (.tup (tks.map pdD)) m rs',inT ins,.int (L:Int)]) (.cons () (.cons () (.cons (.ixt (j:=i) (xs:=tr.map inT) () () (by rw[aT,hi];rfl)) (.cons () .nil)))) (V s)) () rfl) .nil))))⟩
  |none=>
   rw[z]at A;rcases M with rfl|⟨K,rfl,h⟩
   .obtain⟨d,U,W⟩:=ZgX (n:=n) (tr:=tr) g a o hN Q F (Zaw z)
    exact⟨d,U,go (λq=>nomatch q) λ_ s=>.set (.call (xs:=[pgD (.tup (tks.map pdD)) m rs,pgD (.tup (tks.map pdD)) m rs',.tup (tr.map inT),.int (L:Int)]) () (A s)) (.no () (.set (.call (xs:=[pgD (.tup (tks.map pdD)) m rs,pgD (.tup (tks.map pdD)) m rs']) () (J s)) (.no () (W s _ _ _))))⟩
   .exact⟨_,.no (S "paper") [.tup (K.map trD)] (by decide +kernel) (.inr (no (h L))),go (λq=>nomatch q) λ_ s=>.set (.call (xs:=[pgD (.tup (tks.map pdD)) m rs,pgD (.tup (tks.map pdD)) m rs',.tup (tr.map inT),.int (L:Int)]) () (A s)) (.no () (.set (.call (xs:=[pgD (.tup (tks.map pdD)) m rs,pgD (.tup (tks.map pdD)) m rs']) () (J s)) (.yes () ())))⟩
def Zew(h:xs.length<=10):C (rT (n+1)) s 181 [.tup xs] .non:=λst g=>by
 have:Y (rT n) s (.cmp .Gt (.len (.v 0)) (.i 10)) [aa (.tup xs)] (.bl ae):=.cmp (.lnT ()) () λ_=>by show aa (aj ((10:Int) < (xs.length:Int)))=_;rw[aG ∅]
 obtain⟨s1,b,a⟩:=this st g;exact⟨s1,Zlr (v:=YK) rfl rfl ((Zc ((X9 b).trans Zi)).trans Zi),a⟩
def Jo(h:Rs m rs)(t:l.length<=10)(q:∀ p∈fkL rs,∀ s,C (rT (n+10)) s 282 [pgD tk m rs,pgD tk m (rs.set p.1 p.2.2),.tup (l.map inT),.int (L:Int)] (vd p)):C (rT (n+11)) s 283 [pgD tk m rs,.tup (l.map inT),.int (L:Int)] (.tup ((fkL rs).map vd)):=by
 refine .of (v:=Wq) rfl rfl λst g=>?_
 obtain⟨s1,z,o⟩:=Y.call1 (F:=rT (n+10)) (s:=st) (f:=181) (a:=.v 1) (x:=.tup (l.map inT)) (U:=[aa (pgD tk m rs),aa (.tup (l.map inT)),jN L]) () (Zew (n:=n+9) (by rw[aB];exact t)) st .refl
 have A:=h.l;have D:=WF (rs:=rs);obtain⟨j,y,k⟩:=Lv.tof (F:=rT (n+10)) (e:=.comp3 [2,0,1] (.f 172 (.s 0)) (.f 282 (.a 4 (.aC (.f 180 (.a 4 (.a 0 (.s 2)))) (.a 5 (.s 3))))) (.c (.bl ac))) (U:=[aa (pgD tk m rs),aa (.tup (l.map inT)),jN L]) (ZaI (F:=rT (n+10)) (s:=s1) (U:=[aa (pgD tk m rs),aa (.tup (l.map inT)),jN L]) (b:=Zbf) (wk:=Zem) (fr:=[2,0,1]) (it:=.call 172 (.s 0) []) (elt:=.call 282 (.a 4 (.aC (.f 180 (.a 4 (.a 0 (.s 2)))) (.a 5 (.s 3)))) []) (en:=tD) (g:=vd) (l:=fkL rs) (.of (x:=.tup ((fkL rs).map tD)) (.call1 () (UN (n:=n+6) h)) λst=>ao (cT.mpr λd u=>by obtain⟨p,_,rfl⟩:=aR.mp u;rfl)) ∅ λp i=>by
  obtain⟨w,B⟩:=U4 h i;exact .call (xs:=[pgD tk m rs,pgD tk m (rs.set p.1 p.2.2),.tup (l.map inT),.int (L:Int)]) (.cons () (.cons (.call (xs:=[pgD tk m rs,.int (p.1:Int),rwE p.2.2]) () (QA (n:=n+8) w ∅)) (.cons () (.cons () .nil)))) (q p i s1)) s1 .refl
 exact⟨j,(Zc (Zj5 z)).trans (Zj (ZR y)),o.trans k⟩
noncomputable def S0(a:Li Int):Za:=[(ae,a.map D.int)]
noncomputable def ceI(a:Li Int)(k:Nat):Int:=if k < a.length then a.getD k 0 else if a=[] then ((k:Int) * k+7) * 48271 % 2147483629 else (a.getD 0 0 % 2147483647+7) * ((k:Int) * k+48271) % 2147483629
noncomputable def smL:Li Int:=[-1000000000,-999999999,-2,-1,0,1,2,999999999]
def smI(c:Int):Int:=if c % 8=0 then smL.getD (c / 8 % 8).toNat 0 else if c % 8=1 then c / 8 * 48271 % 2000000000 - 1000000000 else c / 8 % 7 - 3
def opI(c:Int)(m:Nat):Op:=if 0 < c % 3 then .nm (c / 3 % m).toNat else .nu (smI (c / 3))
section
variable{c:Int}{Q:D->Prop}
def ZjQ(g:Grw (S0 ns) s):s[0]?=aa (ae,ns.map D.int):=g.get rfl
def Y.lts{i j:Int}(d:Y F s a U (.int i))(c:Y F s b U (.int j)):Y F s (.cmp .Lt a b) U (.bl (aj (i < j))):=.cmp d c λ_=>rfl
def Y.gts{i j:Int}(d:Y F s a U (.int i))(c:Y F s b U (.int j)):Y F s (.cmp .Gt a b) U (.bl (aj (j < i))):=.cmp d c λ_=>rfl
def Y.eqi{i j:Int}(d:Y F s a U (.int i))(c:Y F s b U (.int j)):Y F s (.e a b) U (.bl (aj (i=j))):=.cmp d c λ_=>rfl
def YX(h:k<=1000):C (rT (n+1)) (S0 ns) 27 [.lst 0,.int (k:Int)] (.int (ceI ns k)):=by
 have a:(S0 ns)[0]?=aa (ae,ns.map D.int):=rfl;have f:(ns.map D.int).length=ns.length:=aB ..;have b:ZZ (k:Int)=ac:=Q7 ∅
 have o:(k:Int) * k<=1000000:=by
  have:k * k<=1000 * 1000:=dP h h;omega
 have m:0<=(k:Int) * k:=Int.mul_nonneg ∅ ∅
 unfold ceI;refine .of (v:=YG) rfl rfl (.pick (k:=aj ((k:Int) < ((ns.map D.int).length:Int))) (.lts () (.lenl a ())) (λq=>?_) λq=>?_)
 .have q:=am q
  rw[f]at q;rw[ao ∅]
  refine .ret (.ixl (j:=k) a () () ?_);show(ns.map D.int)[k]?=_;rw[aT,aV,Lg ∅];rfl
 .have q:=ak q
  rw[f]at q;rw[aq ∅]
  have l:Y (rT n) (S0 ns) (.e (.v 0) (.lstE .aN)) [jL 0,jN k] (.bl (aj (ns=[]))):=λst g=>by
   refine⟨st++[(ac,[])],?_,.push⟩;show(match (o2 (λ(c d:XA)=>JK c.2 d.2) (st++[(ac,[])])[0]? (st++[(ac,[])])[st.length]?).join with|some k=>aa (D.bl k,st++[(ac,[])])|none=>ab)=_
   rw[ZjQ (g.trans .push),Zl];cases ns with
   |nil=>rfl
   |cons v ns=>rw[aG (cR _ _)];rfl
  refine .pick l (λz=>?_) λz=>?_
  .rw[ao (am z)]
   exact .ret (.md (.mul (.add (.mul () () b) ()) () rfl) () #[])
  .have z:=ak z
   rw[aq z];cases ns with
   |nil=>exact ar rfl z
   |cons v ns=>
    have i:Y (rT n) (S0 (v :: ns)) (.x 0 0) [jL 0,jN k] (.int v):=.ixl (j:=0) a () () rfl;exact .ret (.md (.mul (.add (.md i () #[]) ()) (.add (.mul () () b) ()) (Q7 ∅)) () #[])
def Za8:Sm (smI c):=by
 unfold smI;split
 .have h:=Zp (c / 8) (j:=8) #[]
  have:(c / 8 % 8).toNat < 8:=by omega
  generalize (c / 8 % 8).toNat=i at *
  exact(by unfold Sm smL;decide:∀ i:Nat,i < 8->Sm (smL.getD i 0)) i this
 .split
  .have h:=Zp (c / 8 * 48271) (j:=2000000000) #[]
   unfold Sm;omega
  .have h:=Zp (c / 8) (j:=7) #[]
   unfold Sm;omega
def Vm:C (rT (n+1)) s 19 [.int c] (.int (smI c)):=by
 unfold smI;refine .of (v:=Yu) rfl rfl (.setL (xs:=smL.map D.int) (.mk ()) λe j b g d=>.pick (.eqi (.md () () #[]) ()) (λq=>?_) λq=>.pick (.eqi (.md () () #[]) ()) (λz=>?_) λz=>?_)
 .rw[ao (am q)]
  have h:=Zp (c / 8) (j:=8) #[]
  have a:(c / 8 % 8).toNat < smL.length:=by show _ < 8;omega
  refine .ret (.ixl (j:=(c / 8 % 8).toNat) d () (by rw[bS h.1];exact .md (.fd () () #[]) () #[]) ?_)
  show(smL.map D.int)[_]?=_;rw[aT,aV,Lg a];rfl
 .rw[aq (ak q),ao (am z)]
  exact .ret (.sub (.md (.mul (.fd () () #[]) () rfl) () #[]) ())
 .rw[aq (ak q),aq (ak z)]
  exact .ret (.sub (.md (.fd () () #[]) () #[]) ())
def ZgC(a:0 < m):Wx m (opI c m):=by
 unfold opI;split
 .have h:=Zp (c / 3) (j:=(m:Int)) ∅
  show(c / 3 % (m:Int)).toNat < m;omega
 .exact Za8
def Ut(a:0 < m):C (rT (n+2)) s 28 [.int c,.int (m:Int)] (opE (opI c m)):=by
 unfold opI;refine .of (v:=YH) rfl rfl (.pick (.gts (.md () () #[]) ()) (λq=>?_) λq=>?_)
 .rw[ao (am q)]
  have h:=Zp (c / 3) (j:=(m:Int)) ∅
  show R _ _ _ _ (.tup [.str "name",.int ((c / 3 % (m:Int)).toNat:Int)]);rw[bS h.1];exact .ret (.cons () (.cons (.md (.fd () () #[]) () ∅) .nil))
 .rw[aq (ak q)]
  exact .ret (.cons () (.cons (.call1 (.fd () () #[]) Vm) .nil))
def Y.pickL{l:Li α}{f:α->D}{i:Int}(d:∀ s,Lv s (ev F a U) (l.map f))(c:∀ s,Y F s b U (.int i))(e:0<=i)(g:i < l.length):∃ x∈l,∀ s,Y F s (.ix a b) U (f x):=by
 have hi:i.toNat < l.length:=by omega
 refine⟨l[i.toNat],cM hi,λs=>.ixL (d s) (j:=i.toNat) (by rw[bS e];exact c s) ?_⟩
 rw[aT,Lg hi];rfl
def IsR(m sz:Nat)(d:D):Prop:=∃ r,d=rwE r/\Zw m sz r
def ZiL{more:Int}(q:0 < m)(I:m<=1000)(L:sz<=1000):CX (rT (n+3)) 29 [.int c,.int more,.int (m:Int),.int (sz:Int)] (IsR m sz):=by
 obtain⟨k,K,y⟩:∃ o,(∀ s,Y (rT (n+2)) s (.f 28 (.aC (.m (.h (.v 1) (.i 48271)) (.i 2147483647)) (.s 2))) [jI c,jI more,jN m,jN sz,ab,ab,ab,ab,ab] (opE o))/\Wx m o:=⟨_,λs=>.call (xs:=[.int (more * 48271 % 2147483647),.int (m:Int)]) (.cons (.md (.mul () () rfl) () #[]) (.cons () .nil)) (Ut q),ZgC q⟩
 obtain⟨o2,J,B⟩:∃ o,(∀ s,Y (rT (n+2)) s (.f 28 (.aC (.m (.h (.p (.v 1) (.i 5)) (.i 1226874159)) (.i 2147483647)) (.s 2))) [jI c,jI more,jN m,jN sz,aa (opE k),ab,ab,ab,ab] (opE o))/\Wx m o:=⟨_,λs=>.call (xs:=[.int ((more+5) * 1226874159 % 2147483647),.int (m:Int)]) (.cons (.md (.mul (.add () ()) () rfl) () #[]) (.cons () .nil)) (Ut q),ZgC q⟩
 have E:=Zp ((c+1) * 742938285 % 2147483647) (j:=(sz:Int)+1) ∅
 obtain⟨e,G⟩:∃ t:Nat,(c+1) * 742938285 % 2147483647 % ((sz:Int)+1)=(t:Int):=⟨_,(bS E.1).symm⟩;rw[G]at E;have C:=Zp ((more+3) * 950706376 % 2147483647) (j:=(m:Int)) ∅
 obtain⟨x,ex⟩:∃ t:Nat,(more+3) * 950706376 % 2147483647 % (m:Int)=(t:Int):=⟨_,(bS C.1).symm⟩;rw[ex]at C;generalize z:c * 48271 % 2147483647=sg;refine .of (v:=Wm) rfl rfl (.set K (.set J (.set (d:=.int sg) (λs=>by rw[<-z];exact .md (.mul () () rfl) () #[]) (.set (d:=.int (e:Int)) (λs=>by rw[<-G];exact .md (.md (.mul (.add () ()) () rfl) () #[]) (.add () ()) ∅) (.pick (λs=>.lts (.md () () #[]) ()) (λ_=>.set (d:=.int (x:Int)) (λs=>by rw[<-ex];exact .md (.md (.mul (.add () ()) () rfl) () #[]) () ∅) ?_) λ_=>.pick (λs=>.lts (.md () () #[]) ()) (λ_=>?_) λ_=>.pick (λs=>.eqi (.md () () #[]) ()) (λ_=>?_) λ_=>.ret (λs=>.cons () (.cons () .nil)) ⟨.tell k,rfl,y⟩)))))
 .have h:=Zp sg (j:=5) #[]
  obtain⟨g,A,w⟩:=Y.pickL (F:=rT (n+2)) (a:=.lstE (.aC (.t "+") (.aC (.t "-") (.aC (.t "*") (.aC (.t "/") (.u (.t "mod"))))))) (b:=.m (.v 6) (.i 5)) (U:=[jI c,jI more,jN m,jN sz,aa (opE k),aa (opE o2),jI sg,jN e,jN x]) (l:=psL) (f:=D.str) (λs=>.mk ()) (λs=>.md () () #[]) h.1 h.2
  exact .ret (λs=>.cons () (.cons () (.cons () (.cons (w s) (.cons () .nil))))) ⟨.put x k g o2,rfl,∅,y,A,B⟩
 .have h:=Zp sg (j:=6) #[]
  obtain⟨g,A,w⟩:=Y.pickL (F:=rT (n+2)) (a:=.lstE (.aC (.t "<") (.aC (.t "<=") (.aC (.t "=") (.aC (.t ">=") (.aC (.t ">") (.u (.t "!=")))))))) (b:=.m (.v 6) (.i 6)) (U:=[jI c,jI more,jN m,jN sz,aa (opE k),aa (opE o2),jI sg,jN e,ab]) (l:=isL) (f:=D.str) (λs=>.mk ()) (λs=>.md () () #[]) h.1 h.2
  exact .ret (λs=>.cons () (.cons () (.cons (w s) (.cons () (.cons () .nil))))) ⟨.ifr k g o2 e,rfl,y,A,B,∅⟩
 .have h:=Zp sg (j:=2) #[]
  obtain⟨r,hr,H⟩:=Y.pickL (F:=rT (n+2)) (a:=.lstE (.aC (.g (.aC (.t "go") (.s 7))) (.u (.g (.u (.t "skip")))))) (b:=.m (.v 6) (.i 2)) (U:=[jI c,jI more,jN m,jN sz,aa (opE k),aa (opE o2),jI sg,jN e,ab]) (l:=[.go e,.skip]) (f:=rwE) (λs=>.mk ()) (λs=>.md () () #[]) h.1 h.2
  refine .ret H ⟨r,rfl,?_⟩;rcases aF.mp hr with rfl|hr
  .show e<=sz;omega
  .rw[aP.mp hr];trivial
noncomputable def stI(c:Int):Int×Int:=(c / 8 % 7 - 3,c / 8 % 7 - 3+c / 56 % 3)
def Zbs:C (rT (n+1)) s 284 [.int c] (pdD (stI c)):=
 .of (v:=YJ) rfl rfl (.set (.sub (.md (.fd () () #[]) () #[]) ()) (.ret (.cons () (.cons (.add () (.md (.fd () () #[]) () #[])) .nil))))
def ZjX:-10<=(stI c).1/\(stI c).1<=(stI c).2/\(stI c).2<=(stI c).1+2/\(stI c).1<=10:=by
 have b:=Zp (c / 8) (j:=7) #[]
 have a:=Zp (c / 56) (j:=3) #[]
 unfold stI;dsimp only;omega
end
variable{mo:Nat}
section
variable{c:Int}
theorem rl2{I:Env->Prop}{P:Nat->D->Prop}(p:s.length<=j)(r:∀ k,k < N->∀ U st b,I U->Grw s st->st[j]?=aa (ac,b)->b.length < 800->∃ d c st',P k d/\I c/\ex F q (Zf U i (.int (k:Int))) st=aa (.nx c,st')/\Kj j st st'/\st'[j]?=aa (ac,b++[d])):∀ (M a:Nat),a+M=N->∀ U st b,I U->Grw s st->st[j]?=aa (ac,b)->b.length+M<=800->∃ xs c st',xs.length=M/\(∀ (t:Nat) d,xs[t]?=aa d->P (a+t) d)/\I c/\Zh (λd U s=>ex F q (Zf U i d) s) ((List.range' a M).map λ(k:Nat)=>D.int (k:Int)) U st=aa (.nx c,st')/\Kj j st st'/\st'[j]?=aa (ac,b++xs)
 |0,a,_,U,st,b,n,g,h,_=>⟨[],U,st,rfl,λt d h=>(nomatch h),n,rfl,Grw.refl.kj,by rw[bB];exact h⟩
 |M+1,a,J,U,st,b,n,g,h,H=>by
  obtain⟨d,f,s1,z,m,E,o,B⟩:=r a ∅ U st b n g h ∅
  obtain⟨xs,e,u,y,x,l,C,w,A⟩:=rl2 p r M (a+1) ∅ f s1 (b++[d]) m (o.grw p g) B (by rw[aH];show _+1+M<=800;omega)
  refine⟨d :: xs,e,u,by rw[aO,y],λt G h=>?_,l,?_,o.trans w,by rw[A,bF];rfl⟩
  .cases t with
   |zero=>cases h;exact z
   |succ t=>have:=x t G h;rw[show a+1+t=a+(t+1) by omega]at this;exact this
  .rw[eO,aQ]
   show(match ex F q (Zf U i (.int (a:Int))) st with
    |some (.nx c,st')=>Zh _ _ c st'
    |some (.ct c,st')=>Zh _ _ c st'
    |some (.bk c,st')=>aa (.nx c,st')
    |some (.rt v,st')=>aa (.rt v,st')
    |none=>ab)=_
   rw[E];exact C
def RP.fillW{I:Nat->Env->Prop}{P:Nat->D->Prop}{v:Int}(A:∀ j,Y F s e (Zf U i0 (.lst j)) (.int v))(u:v=(N:Int))(hN:N<=700)(C:∀ j,I j (Zf U i0 (.lst j)))(g:Grw s st)(z:∀ j,s.length<=j->∀ k,k < N->∀ U st a,I j U->Grw s st->st[j]?=aa (ac,a)->a.length < 800->∃ d b st',P k d/\I j b/\ex F q (Zf U i (.int (k:Int))) st=aa (.nx b,st')/\Kj j st st'/\st'[j]?=aa (ac,a++[d]))(w:∀ j xs b st',xs.length=N->(∀ (t:Nat) d,xs[t]?=aa d->P t d)->I j b->st.length<=j->Grw st st'->st'[j]?=aa (ac,xs)->∃ d t,ex F q' b st'=aa (.rt d,t)/\Grw st t/\Q d t):RP F (.y i0 (.lstE .aN) (.seq (.for1 i ac e q) q')) U st Q:=by
 have m:Grw s (st++[(ac,[])]):=g.trans .push;obtain⟨s1,K,c⟩:=A st.length (st++[(ac,[])]) m;obtain⟨xs,b,l,x,r,f,J,o,E⟩:=rl2 (I:=I st.length) (P:=P) g.len (z st.length g.len) N 0 ∅ _ s1 [] (C st.length) (m.trans c) (c.get Zl) (by show 0+N<=800;omega)
 have n:Grw st l:=(c.kj.trans o).grw (aD _) .push;obtain⟨d,t,H,G,B⟩:=w st.length xs b l x (λt d h=>by have:=r t d h;rw[bK]at this;exact this) f (aD _) n E
 refine⟨d,t,(Zc (p:=.set i0 (.lstE .aN)) (s':=st++[(ac,[])]) rfl).trans ((Zc ?_).trans H),G,B⟩;rw[WH (v:=v) ∅ ∅ K,u,bD,eM]
 exact J
inductive Pg(mo:Nat)(d:D):Prop where
 |mk (tks:List (Int×Int)) (m:Nat) (rs:List Rw) (e:d=pgD (.tup (tks.map pdD)) m rs) (nw:Tk tks) (t:tks.length<=m) (m4:m<=4) (r:Rs m rs) (l:rs.length<=mo)
def ZfC:∀ {xs:Li D},(∀ (t:Nat) d,xs[t]?=aa d->IsR m sz d)->∃ rs:Li Rw,xs=rs.map rwE/\∀ r∈rs,Zw m sz r:=λ{xs} h=>Vx λd b=>by
 obtain⟨t,a⟩:=List.getElem?_of_mem b;exact h t d a
def Zdj{b:D->Li (Ot D)}{en g:α->D}{l:Li α}(hi:Wk F s it U wk (l.map en))(e:l.length<=1000)(h:∀ a∈l,Y F s elt (ZP b U fr (en a)) (g a))(k:Grw s st):∃ st' j,Yj b wk fr (ev F it) (ev F elt) (ev F (.c (.bl ac))) U st=aa (.lst j,st')/\st'[j]?=aa (ac,l.map g)/\Grw st st':=by
 obtain⟨s1,j,i,f,d⟩:=V0 hi e h st k;exact⟨s1,j,i,f,d⟩
def Ziy{v:Int}(b:v < 2 ^ 62)(a:-(2 ^ 62)<=v)(h:Y F s e U (.int v)):Wk F s e U (Yx ac) ((ag v.toNat).map λ(k:Nat)=>D.int (k:Int)):=.of h λst=>by
 unfold Yx;rw[JN b a]
def n62{v:Int}(a:0<=v)(h:v<=700):v < 2 ^ 62/\-(2 ^ 62)<=v:=⟨∅,∅⟩
def Zeo(a:N<=700)(h:Y F s e U (.int (N:Int))):Wk F s e U (Yx ac) ((ag N).map λ(k:Nat)=>D.int (k:Int)):=by
 have b:=n62 (v:=(N:Int)) ∅ ∅
 have:=Ziy b.1 b.2 h;rw[bD]at this;exact this
def Vg{x7 x8:Ot D}{tk:Nat}{ht:Int}{rs:Li Rw}(d:tk<=3)(e:st[j]?=aa (ac,rs.map rwE))(g:Grw (S0 ns) st):∃ (tks:Li (Int×Int)) (t:Za),tks.length=tk/\Tk tks/\Grw st t/\ex (rT (n+4)) (.y 9 Yo (.q (.g (.aC (.tOf (.v 9)) (.a 4 (.u (.tOf (.v 6)))))))) [jL 0,jN mo,jI ht,jN tk,jN m,jN sz,jL j,x7,x8,ab] st=aa (.rt (pgD (.tup (tks.map pdD)) m rs),t):=by
 obtain⟨s1,w,K,z,o⟩:=Zdj (F:=rT (n+4)) (s:=S0 ns) (st:=st) (U:=[jL 0,jN mo,jI ht,jN tk,jN m,jN sz,jL j,x7,x8,ab]) (b:=one) (wk:=Yx ac) (fr:=[0]) (it:=.v 3) (elt:=.call 284 (.u (.f 27 (.a 1 (.u (.p (.i 2) (.v 0)))))) []) (l:=ag tk) (en:=λ(k:Nat)=>D.int (k:Int)) (g:=λk=>pdD (stI (ceI ns (2+k)))) (Zeo ∅ ()) (by rw[bM];omega) (λk G=>by
  have:=cA.mp G;refine .call1 (x:=.int (ceI ns (2+k))) (.call (xs:=[.lst 0,.int ((2+k:Nat):Int)]) (.cons () (.cons (by rw[bE];exact .add () ()) .nil)) (YX (n:=n+3) ∅)) (Zbs (n:=n+3))) g
 have H:(ag tk).map (λk=>pdD (stI (ceI ns (2+k))))=((ag tk).map λk=>stI (ceI ns (2+k))).map pdD:=by rw[bN];rfl
 rw[H]at z;have A:=Y.cons (F:=rT (n+4)) (s:=s1) (U:=[jL 0,jN mo,jI ht,jN tk,jN m,jN sz,jL j,x7,x8,jL w]) (a:=.tOf (.v 9)) (b:=.a 4 (.u (.tOf (.v 6)))) (.tof z ()) (.cons (x:=.int (m:Int)) () (.cons (.tof (o.get e) ()) .nil))
 obtain⟨B,J,C⟩:=A s1 .refl;have I:ex (rT (n+4)) (.set 9 Yo) [jL 0,jN mo,jI ht,jN tk,jN m,jN sz,jL j,x7,x8,ab] st=aa (.nx [jL 0,jN mo,jI ht,jN tk,jN m,jN sz,jL j,x7,x8,jL w],s1):=Zk K
 exact⟨(ag tk).map λk=>stI (ceI ns (2+k)),B,by rw[aB,bM],⟨by rw[aB,bM];exact d,λp E=>by obtain⟨k,_,rfl⟩:=aR.mp E;have h:=ZjX (c:=ceI ns (2+k));exact⟨by unfold Sm;omega,h.2.1,by unfold Sm;omega⟩⟩,o.trans C,(Zc I).trans (Zj (ZR J))⟩
end
section
variable{c:Int}
def Zj6{t:Za}(h:ev F e U st=aa (d,t))(hi:U[i]?=aa (jL j))(b:t[j]?=aa (ac,xs))(a:xs≠[])(c:xs.length<=1000):ex F (.put i (.neg (.i 1)) e) U st=aa (.nx U,t.set j (ac,xs.set (xs.length - 1) d)):=by
 have f:0 < xs.length:=dM.mpr a;show JZ i (λ_ s=>aa (.int (-1),s)) (ev F e) U st=_
 unfold JZ;simp only[h,hi];unfold VA;simp only[b];unfold ixN;rw[aq #[],ao ∅,show(-1+(xs.length:Int)).toNat=xs.length - 1 by omega]
def Rs.of{rs:Li Rw}(h:∀ r∈rs,Zw m sz r)(b:rs.length=sz)(c:sz<=50):Rs m rs:=⟨∅,λr a=>by rw[b];exact h r a⟩
def ZgW(hmo:mo<=4)(g:Grw (S0 ns) st):CP (rT (n+5)) 30 [.lst 0,.int (mo:Int)] st λd _=>Pg mo d:=by
 obtain⟨l,ehd,hd0⟩:∃ v,(∀ U:Env,U[0]?=aa (jL 0)->Y (rT (n+4)) (S0 ns) (.m (.f 27 (.a 0 (.u (.i 0)))) (.i 2147483647)) U (.int v))/\0<=v:=⟨ceI ns 0 % 2147483647,λU h=>.md (.call (xs:=[.lst 0,.int ((0:Nat):Int)]) (.cons (.v h) (.cons () .nil)) (YX (n:=n+3) ∅)) () #[],(Zp _ #[]).1⟩
 have h4:=Zp l (j:=4) #[]
 obtain⟨tk,L⟩:∃ t:Nat,l % 4=(t:Int):=⟨_,(bS h4.1).symm⟩;rw[L]at h4;have h2:=Zp (l / 4) (j:=2) #[]
 obtain⟨m,em⟩:∃ m:Nat,(if (tk:Int)+l / 4 % 2 * 1 > 1 then (tk:Int)+l / 4 % 2 * 1 else 1)=(m:Int):=⟨_,(bS (by split<;>omega)).symm⟩
 have hm:1<=m/\tk<=m/\m<=4:=by
  have:(m:Int)=_:=em.symm;split at this<;>omega
 have hz:=Zp (ceI ns 1) (j:=(mo:Int)+1) ∅
 obtain⟨sz,M⟩:∃ t:Nat,ceI ns 1 % ((mo:Int)+1)=(t:Int):=⟨_,(bS hz.1).symm⟩;rw[M]at hz;have hx:=Zp (l / 32) (j:=(m:Int)) ∅
 obtain⟨x,K⟩:∃ t:Nat,l / 32 % (m:Int)=(t:Int):=⟨_,(bS hx.1).symm⟩;rw[K]at hx;have yb:∀ {s:Za}{B x8 x7 x6 x5 x4 x1 x0:Ot D},Y (rT (n+4)) s (.max (.i 1) (.p (.v 3) (.h (.m (.k (.v 2) (.i 4)) (.i 2)) (.intOf (.cmp .Lt (.v 3) (.i 4)))))) [x0,x1,jI l,jN tk,x4,x5,x6,x7,x8,B] (.int (m:Int)):=λ{s B x8 x7 x6 x5 x4 x1 x0}=>by
  rw[<-em];refine Dp.g2 (x:=.int 1) (y:=.int ((tk:Int)+l / 4 % 2 * 1)) () (.add () (.mul (.md (.fd () () #[]) () #[]) (j:=1) (g1 (x:=.bl ac) (.cmp (x:=.int (tk:Int)) (y:=.int 4) () () λ_=>au aa (aK ∅)) (gp λ_=>rfl)) rfl)) (gp λ_=>rfl)
 refine .of (v:=YI) rfl rfl (.setY (ehd _ rfl) g λs1 Q=>.setY (s:=S0 ns) (d:=.int (tk:Int)) (by rw[<-L];exact .md () () #[]) (g.trans Q) λs2 X=>.setY (s:=S0 ns) yb (g.trans (Q.trans X)) λs3 k3=>.setY (s:=S0 ns) (d:=.int (sz:Int)) (by rw[<-M];exact .md (.call (xs:=[.lst 0,.int ((1:Nat):Int)]) () (YX (n:=n+3) ∅)) (.add () ()) ∅) (g.trans (Q.trans (X.trans k3))) λs4 k4=>?_)
 have g4:Grw (S0 ns) s4:=g.trans (Q.trans (X.trans (k3.trans k4)));refine .fillW (s:=S0 ns) (N:=sz) (i0:=6) (i:=7) (I:=λj U=>∃ y z,U=[jL 0,jN mo,jI l,jN tk,jN m,jN sz,jL j,y,z,ab]) (P:=λ_ d=>IsR m sz d) (λj=>.r rf) rfl ∅ (λj=>⟨ab,ab,rfl⟩) g4 (λj hj k hk U t acc hI J ht hc=>?_) λj xs U t Z hP hI jl J ht=>?_
 .obtain⟨y,z,rfl⟩:=hI
  obtain⟨dr,H,r,er,ok⟩:=ZiL (n:=n+1) (c:=ceI ns (5+2 * k)) (more:=ceI ns (6+2 * k)) (m:=m) (sz:=sz) ∅ ∅ ∅
  have lk:ZZ (k:Int)=ac:=Q7 ∅
  have O:∀ (w:Int) (v:Nat) {s:Za}{x8 B:Ot D},(v:Int)=w->Y (rT (n+4)) s (.p (.i w) (.h (.i 2) (.v 7))) [jL 0,jN mo,jI l,jN tk,jN m,jN sz,jL j,jN k,x8,B] (.int ((v+2 * k:Nat):Int)):=λw v {s x8 B} e=>by
   rw[bE,eD,e];exact .add () (.mul () () lk)
  have A:=Ap.seq (F:=rT (n+4)) (s:=S0 ns) hj (q:=.set 8 (.f 27 (.a 0 (.u (.p (.i 5) (.h (.i 2) (.v 7))))))) (U:=[jL 0,jN mo,jI l,jN tk,jN m,jN sz,jL j,jN k,z,ab]) (.set (.call (xs:=[.lst 0,.int ((5+2 * k:Nat):Int)]) (.cons () (.cons (O 5 5 rfl) .nil)) (YX (n:=n+3) ∅))) (.one (.app (i:=6) (e:=.call 29 (.a 8 (.aC (.f 27 (.a 0 (.u (.p (.i 6) (.h (.i 2) (.v 7)))))) (.a 4 (.s 5)))) []) rfl (.call (xs:=[.int (ceI ns (5+2 * k)),.int (ceI ns (6+2 * k)),.int (m:Int),.int (sz:Int)]) (.cons () (.cons (.call (xs:=[.lst 0,.int ((6+2 * k:Nat):Int)]) (.cons () (.cons (O 6 6 rfl) .nil)) (YX (n:=n+3) ∅)) (.cons () (.cons () .nil)))) (H _))))
  obtain⟨t',e',k',h'⟩:=A t acc J ht (by show _+1<=900;omega)
  exact⟨dr,_,t',⟨r,er,ok⟩,⟨_,_,rfl⟩,e',k',h'⟩
 .obtain⟨y,z,rfl⟩:=hI
  obtain⟨rs,rfl,G⟩:=ZfC hP;rw[aB]at Z;have gS:Grw (S0 ns) t:=g4.trans J;have O:Y (rT (n+4)) t (.and (.cmp .Gt (.v 5) (.i 0)) (.cmp .Gt (.m (.k (.v 2) (.i 8)) (.i 4)) (.i 0))) [jL 0,jN mo,jI l,jN tk,jN m,jN sz,jL j,y,z,ab] (.bl (aj (0 < (sz:Int))&&aj (0 < l / 8 % 4))):=.and (.gts () ()) λ_=>.gts (.md (.fd () () #[]) () #[]) ()
  obtain⟨t1,S,C⟩:=O t .refl;cases V:aj (0 < (sz:Int))&&aj (0 < l / 8 % 4) with
  |false=>
   rw[V]at S;obtain⟨o,T,lt,W,R,e2⟩:=Vg (n:=n) (m:=m) (sz:=sz) (x7:=y) (x8:=z) (ht:=l) (tk:=tk) (mo:=mo) (rs:=rs) ∅ (C.get ht) (gS.trans C)
   exact⟨_,T,(Zc ((X9 S).trans Zi)).trans e2,J.trans (C.trans R),o,m,rs,rfl,W,∅,∅,.of G Z ∅,∅⟩
  |true=>
   rw[V]at S;rw[Ba,bC]at V;have yt:=Y.cons (F:=rT (n+4)) (s:=t1) (a:=.t "tell") (b:=.aC (.g (.aC (.t "name") (.u (.m (.k (.v 2) (.i 32)) (.v 4))))) .aN) (U:=[jL 0,jN mo,jI l,jN tk,jN m,jN sz,jL j,y,z,ab]) (x:=.str "tell") (xs:=[opE (.nm x)]) () (.cons (.cons () (.cons (by rw[<-K];exact .md (.fd () () #[]) () ∅) .nil)) .nil)
   obtain⟨T,e2,R⟩:=yt t1 .refl;have E:=(C.trans R).get ht;have ep:=Zj6 (F:=rT (n+4)) (e:=.g (.aC (.t "tell") (.u (.g (.aC (.t "name") (.u (.m (.k (.v 2) (.i 32)) (.v 4)))))))) (i:=6) e2 rfl E (λh=>by have:=au List.length h;rw[aB]at this;have:rs.length=0:=this;omega) (by rw[aB];omega)
   rw[aB,show D.tup [.str "tell",opE (.nm x)]=rwE (.tell (.nm x)) from rfl,<-eC]at ep;have g5:Grw s4 (T.set j (ac,(rs.set (rs.length - 1) (.tell (.nm x))).map rwE)):=WJ (J.trans (C.trans R)) jl;obtain⟨o,t3,lt,W,j3,e3⟩:=Vg (n:=n) (m:=m) (sz:=sz) (x7:=y) (x8:=z) (ht:=l) (tk:=tk) (mo:=mo) (rs:=rs.set (rs.length - 1) (.tell (.nm x))) ∅ (bT (ZB E)) (g4.trans g5)
   refine⟨_,t3,(Zc ((Yl S).trans ((Zc ep).trans Zi))).trans e3,g5.trans j3,o,m,_,rfl,W,∅,∅,Rs.of (sz:=sz) (λr H=>?_) (by rw[bJ];exact Z) ∅,by rw[bJ];omega⟩
   rcases eY H with H|rfl
   .exact G r H
   .show x < m;omega
def Ts(a:Nat)(d:D):Prop:=∃ tr:Li (Li Int),d=.tup (tr.map inT)/\tr.length<=3/\∀ ins∈tr,ins.length=a/\∀ v∈ins,Sm v
def Zb9{m f:Nat}(h1:m<=100)(h2:f<=3)(g:Grw (S0 ns) st):CP (rT (n+3)) 51 [.lst 0,.int (m:Int),.int (f:Int)] st λd _=>Ts f d:=by
 have S:=Zp (ceI ns m) (j:=4) #[]
 obtain⟨N,T⟩:∃ t:Nat,ceI ns m % 4=(t:Int):=⟨_,(bS S.1).symm⟩;rw[T]at S;refine .of (v:=Y5) rfl rfl (.fillW (s:=S0 ns) (N:=N) (i0:=3) (i:=4) (I:=λj U=>∃ y z,U=[jL 0,jN m,jN f,jL j,y,z]) (P:=λ_ d=>∃ ins:Li Int,d=inT ins/\(ins.length=f/\∀ v∈ins,Sm v)) (v:=(N:Int)) (λj=>by rw[<-T];exact .md (.call (xs:=[.lst 0,.int (m:Int)]) () (YX (n:=n+1) ∅)) () #[]) rfl ∅ (λj=>⟨ab,ab,rfl⟩) g (λj hj k hk U t Q J L B hc=>?_) λj xs U t Z hP J jl L B=>?_)
 .obtain⟨y,z,rfl⟩:=J
  have kt:k * f<=3 * 3:=dP ∅ h2
  have C:ZZ (f:Int)=ac:=Q7 ∅
  obtain⟨A,w,e1,q,G⟩:=Zdj (F:=rT (n+2)) (s:=S0 ns) (st:=t) (U:=[jL 0,jN m,jN f,jL j,jN k,z]) (b:=one) (wk:=Yx ac) (fr:=[4,0,1,2]) (it:=.v 2) (elt:=.call 27 (.a 2 (.u (.p (.p (.p (.v 3) (.i 1)) (.h (.v 1) (.v 4))) (.v 0)))) []) (l:=ag f) (en:=λ(k:Nat)=>D.int (k:Int)) (g:=λi=>D.int (ceI ns (m+1+k * f+i))) (Zeo ∅ ()) (by rw[bM];omega) (λi hi=>by
   have:=cA.mp hi;exact .call (xs:=[.lst 0,.int ((m+1+k * f+i:Nat):Int)]) (.cons () (.cons (by
    rw[bE,bE,bE,eD];exact .add (.add (.add () ()) (.mul () () C)) ()) .nil)) (YX (n:=n+1) ∅)) L
  have ez:(ag f).map (λi=>D.int (ceI ns (m+1+k * f+i)))=((ag f).map λi=>ceI ns (m+1+k * f+i)).map D.int:=by rw[bN];rfl
  rw[ez]at q;obtain⟨o,O,E⟩:∃ o:Li Int,(ag f).map (λi=>ceI ns (m+1+k * f+i))=o/\o.length=f:=⟨_,rfl,by rw[aB,bM]⟩
  rw[O]at q;have X:j < A.length:=aU (ZB B) G.len;have R:=ZaI (F:=rT (n+2)) (s:=A) (U:=[jL 0,jN m,jN f,jL j,jN k,jL w]) (b:=one) (wk:=Yx ae) (fr:=[]) (it:=.v 5) (elt:=.call 19 (.s 0) []) (l:=o) (en:=D.int) (g:=λc=>D.int (smI c)) (Wk.lst q ()) ∅ λc _=>.call1 (x:=.int c) () (Vm (n:=n+1))
  have M:o.map (λc=>D.int (smI c))=inZ (o.map smI):=by unfold inZ;rw[bN];rfl
  rw[M]at R;obtain⟨V,e2,W,K⟩:=Ap.app (F:=rT (n+2)) (s:=A) (j:=j) (i:=3) (e:=.tOf Xx) (U:=[jL 0,jN m,jN f,jL j,jN k,jL w]) (d:=inT (o.map smI)) rfl (Lv.tof R) A Q .refl (G.get B) (by show _+1<=900;omega)
  have e3:ex (rT (n+2)) (.set 5 Xw) [jL 0,jN m,jN f,jL j,jN k,z] t=aa (.nx [jL 0,jN m,jN f,jL j,jN k,jL w],A):=Zk e1;exact⟨inT (o.map smI),_,V,⟨o.map smI,rfl,by rw[aB];exact E,λv Y=>by obtain⟨c,_,rfl⟩:=aR.mp Y;exact Za8⟩,⟨_,_,rfl⟩,(Zc e3).trans ((Zc e2).trans Zi),G.kj.trans W,K⟩
 .obtain⟨y,z,rfl⟩:=J
  obtain⟨tr,rfl,H⟩:=Vx (en:=inT) (P:=λins=>ins.length=f/\∀ v∈ins,Sm v) (ys:=xs) λd hd=>by
   obtain⟨i,hi⟩:=List.getElem?_of_mem hd;exact hP i d hi
  rw[aB]at Z;exact⟨_,t,Zj (ZR (YE (c:=(ac,tr.map inT)) rfl B)),L,tr,rfl,∅,H⟩
end
section
variable{u:Int}
def Wv:C (rT (n+1)) s 31 [.int u] (.int (arI u)):=.of (v:=Y3) rfl rfl (.ret (.arx ()))
def Y.eqv{i j:Int}(d:Y F s a U (.int i))(c:Y F s b U (.int j)):Y F s (.e a b) U (.bl (aj (i=j))):=.cmp d c λ_=>rfl
def Zca(f:Sm v):C (rT (n+2)) s 32 [.int u,.str g,.int v] (.int (rkI u g v)):=by
 unfold rkI;refine .of (v:=Y4) rfl rfl (.pick (.eqs () ()) (λh=>?_) λh=>.pick (.eqs () ()) (λb=>?_) λb=>.pick (.eqs () ()) (λd=>?_) λd=>.pick (.eqv () ()) (λa=>?_) λa=>.pick (.eqs () ()) (λk=>?_) λk=>?_)
 .rw[ao (am h)];exact .ret (.call1 (.add () ()) Wv)
 .rw[aq (ak h),ao (am b)];exact .ret (.call1 (.sub () ()) Wv)
 .rw[aq (ak h),aq (ak b),ao (am d)];exact .ret (.call1 (.mul () () (Qb f)) Wv)
 .rw[aq (ak h),aq (ak b),aq (ak d),ao (am a),ao (am a)]
  have l:Y (rT (n+1)) s (.intOf (.e (.v 1) (.t "/"))) [jI u,aa (.str g),jI v] (.int ((if g=S "/" then 1 else 0:Nat):Int)):=by
   refine g1 (x:=.bl (aj (g=S "/"))) (.eqs () ()) (gp λ_=>?_)
   by_cases c:g=S "/"
   .rw[aK c,ao c];rfl
   .rw[aG c,aq c];rfl
  refine .ret (.ixL (xs:=[.int u,.int 0]) (.mk ()) l ?_);by_cases c:g=S "/"
  .rw[ao c,ao c];rfl
  .rw[aq c,aq c];rfl
 .have a:=ak a
  rw[aq (ak h),aq (ak b),aq (ak d),ao (am k),aq a];exact .ret (.call1 (.fdv () () a f) Wv)
 .have a:=ak a
  rw[aq (ak h),aq (ak b),aq (ak d),aq (ak k),aq a];refine .ret (.sub () (.bi (i:=v) (j:=fdI u v) () (.fdv () () a f) ?_));show(if ZZ v||ZZ (fdI u v) then aa (v * fdI u v) else ab)=_
  rw[Qb f];rfl
theorem Y.dct{ks:Li Str}(h:Y F s a U (.tup xs))(b:ks.length=xs.length/\(ks.Nodup/\ks≠[])/\ks.length<=15):Y F s (.dict ks a) U (.dct ks xs):=g1 h (gp λ_=>ao b)
def Zkf(d:g∈isL):C (rT (n+1)) s 33 [.int u,.str g,.int v] (.bl (soI u g v)):=by
 have a:∀ {s:Za}{b:Ot D},Y (rT n) s (.dict [(S "<"),(S "<="),(S "=")] (.aC (.cmp .Lt (.v 0) (.v 2)) (.aC (.cmp .LtE (.v 0) (.v 2)) (.u (.e (.v 0) (.v 2)))))) [jI u,aa (.str g),jI v,b] (.dct [(S "<"),(S "<="),(S "=")] [.bl (aj (u < v)),.bl (aj (u<=v)),.bl (aj (u=v))]):=λ{s b}=>.dct (.cons (.cmp (x:=.int u) (y:=.int v) () () λ_=>rfl) (.cons (.cmp (x:=.int u) (y:=.int v) () () λ_=>rfl) (.cons (.cmp (x:=.int u) (y:=.int v) () () λ_=>rfl) .nil))) ⟨rfl,⟨by decide +kernel,cR _ _⟩,#[]⟩
 have f:∀ {s:Za}{b:Ot D},Y (rT n) s (.dict [(S ">="),(S ">"),(S "!=")] (.aC (.cmp .Lt (.v 0) (.v 2)) (.aC (.cmp .LtE (.v 0) (.v 2)) (.u (.e (.v 0) (.v 2)))))) [jI u,aa (.str g),jI v,b] (.dct [(S ">="),(S ">"),(S "!=")] [.bl (aj (u < v)),.bl (aj (u<=v)),.bl (aj (u=v))]):=λ{s b}=>.dct (.cons (.cmp (x:=.int u) (y:=.int v) () () λ_=>rfl) (.cons (.cmp (x:=.int u) (y:=.int v) () () λ_=>rfl) (.cons (.cmp (x:=.int u) (y:=.int v) () () λ_=>rfl) .nil))) ⟨rfl,⟨by decide +kernel,cR _ _⟩,#[]⟩
 have i:(!decide (u < v))=aj (v<=u):=by
  by_cases c:u < v
  .rw[aK c,aG ∅];rfl
  .rw[aG c,aK ∅];rfl
 have h:(!decide (u<=v))=aj (v < u):=by
  by_cases c:u<=v
  .rw[aK c,aG ∅];rfl
  .rw[aG c,aK ∅];rfl
 unfold isL at d;simp only[aF,aW,or_false]at d;rcases d with rfl|rfl|rfl|rfl|rfl|rfl
 .rw[Zba];exact .of (v:=Yc) rfl rfl (.set a (.yes () ()))
 .rw[Za9];exact .of (v:=Yc) rfl rfl (.set a (.yes () ()))
 .rw[Zd7];exact .of (v:=Yc) rfl rfl (.set a (.yes () ()))
 .rw[ZgK,<-i];exact .of (v:=Yc) rfl rfl (.set a (.no () (.ret (.not (g2 f (y:=.str ">=") () (gp λ_=>rfl))))))
 .rw[ZgL,<-h];exact .of (v:=Yc) rfl rfl (.set a (.no () (.ret (.not (g2 f (y:=.str ">") () (gp λ_=>rfl))))))
 .rw[Zd8];exact .of (v:=Yc) rfl rfl (.set a (.no () (.ret (.not (g2 f (y:=.str "!=") () (gp λ_=>rfl))))))
def Ww(a:Vs m vs)(h:Wx m o):C (rT (n+1)) s 34 [opE o,.tup (inZ vs)] (.int (woI vs o)):=by
 cases o with
 |nm i=>exact .of (v:=YA) rfl rfl (.yes () (.ixt (j:=i) () () (ZgP a h)))
 |nu v=>exact .of (v:=YA) rfl rfl (.no () (.ret ()))
def ZiA{t b:Za}{x:Nat}(h:ev F e U st=aa (d,t))(hi:U[i]?=aa (jL j))(c:ev F a U t=aa (.int (x:Int),b))(f:b[j]?=aa (ac,xs))(g:x < xs.length):ex F (.put i a e) U st=aa (.nx U,b.set j (ac,xs.set x d)):=by
 show JZ i (ev F a) (ev F e) U st=_;unfold JZ;simp only[h,hi,c];unfold VA;simp only[f];unfold ixN;rw[ao ∅,ao ∅,bD]
def Zg1(T:Rs m rs)(hm:m<=1000)(e:Vs m vs)(V:k < rs.length):C (rT (n+3)) s 35 [pgD tk m rs,.int (k:Int),.tup (inZ vs)] (mvD rs k vs):=by
 have q:=Lg V;generalize rs[k]=r at q;have ok:=T.ok r (aY q);have S:Y (rT (n+2)) s (.ix (.x 0 2) (.v 1)) [aa (pgD tk m rs),jN k,aa (.tup (inZ vs)),ab,ab,ab] (rwE r):=.ixt (j:=k) (xs:=rs.map rwE) () () (by rw[aT,q];rfl)
 have one:∀ {s:Za}{M L K:Ot D},Y (rT (n+2)) s (.p (.v 1) (.i 1)) [aa (pgD tk m rs),jN k,aa (.tup (inZ vs)),M,L,K] (.int ((k+1:Nat):Int)):=λ{s M L K}=>by
  rw[bE];exact .add () ()
 unfold mvD;rw[ZaU q];refine .of (v:=XH) rfl rfl (.set S ?_);cases r with
 |tell y=>exact .yes () (.cons () (.cons (.call (xs:=[opE y,.tup (inZ vs)]) () (Ww e ok)) .nil))
 |put x y g z=>
  obtain⟨hx,I,O,A⟩:=ok;refine .no () (.yB () λst W=>?_)
  have hl:(inZ vs).length=m:=by unfold inZ;rw[aB,e.l]
  have B:ex (rT (n+2)) (.set 4 (.listOf (.v 2))) [aa (pgD tk m rs),jN k,aa (.tup (inZ vs)),aa (rwE (.put x y g z)),ab,ab] st=aa (.nx [aa (pgD tk m rs),jN k,aa (.tup (inZ vs)),aa (rwE (.put x y g z)),jL st.length,ab],st++[(ac,inZ vs)]):=Zk rfl;have R:Y (rT (n+2)) (st++[(ac,inZ vs)]) (.f 32 (.aC (.f 34 (.aC (.x 3 2) (.s 2))) (.aC (.x 3 3) (.u (.f 34 (.aC (.x 3 4) (.s 2))))))) [aa (pgD tk m rs),jN k,aa (.tup (inZ vs)),aa (rwE (.put x y g z)),jL st.length,ab] (.int (rkI (woI vs y) g (woI vs z))):=.call (xs:=[.int (woI vs y),.str g,.int (woI vs z)]) (.cons (.call (xs:=[opE y,.tup (inZ vs)]) () (Ww e I)) (.cons () (.cons (.call (xs:=[opE z,.tup (inZ vs)]) () (Ww e A)) .nil))) (Zca (UM e A))
  obtain⟨d,o,w⟩:=R _ .refl;have Q:d[st.length]?=aa (ac,inZ vs):=w.get Zl;have Z:=ZiA (F:=rT (n+2)) (i:=4) (a:=.x 3 1) (x:=x) o rfl rfl Q ∅
  have gs:Grw st (d.set st.length (ac,(inZ vs).set x (.int (rkI (woI vs y) g (woI vs z))))):=WJ (Grw.push.trans w) (aD _);have P:(d.set st.length (ac,(inZ vs).set x (.int (rkI (woI vs y) g (woI vs z)))))[st.length]?=aa (ac,(inZ vs).set x (.int (rkI (woI vs y) g (woI vs z)))):=bT (ZB Q);generalize d.set st.length (ac,(inZ vs).set x (.int (rkI (woI vs y) g (woI vs z))))=h at *
  have X:(inZ vs).set x (.int (rkI (woI vs y) g (woI vs z)))=inZ (vs.set x (rkI (woI vs y) g (woI vs z))):=by unfold inZ;rw[eC]
  rw[X]at P;have E:=Y.cons (F:=rT (n+2)) (s:=h) (a:=.p (.v 1) (.i 1)) (b:=.aC (.tOf (.v 4)) .aN) (U:=[aa (pgD tk m rs),jN k,aa (.tup (inZ vs)),aa (rwE (.put x y g z)),jL st.length,ab]) one (.cons (.tof P ()) .nil);obtain⟨G,J,H⟩:=E h .refl;exact⟨G,(Zc B).trans ((Zc Z).trans (Zj (ZR J))),gs.trans H⟩
 |go t=>exact .no () (.no () (.yes () ()))
 |skip=>exact .no () (.no () (.no () (.no () (.ret (.cons one (.cons () .nil))))))
 |ifr y g z t=>
  obtain⟨I,O,A,ht⟩:=ok;refine .no () (.no () (.no () λst W=>?_))
  obtain⟨d,B,N⟩:=Y.call (F:=rT (n+2)) (s:=st) (f:=34) (a:=.aC (.x 3 1) (.s 2)) (U:=[aa (pgD tk m rs),jN k,aa (.tup (inZ vs)),aa (rwE (.ifr y g z t)),ab,ab]) (xs:=[opE y,.tup (inZ vs)]) (ds:=[]) () (Ww (n:=n+1) e I) st .refl;have ys:Y (rT (n+2)) d (.f 33 (.a 5 (.aC (.x 3 2) (.u (.f 34 (.aC (.x 3 3) (.s 2))))))) [aa (pgD tk m rs),jN k,aa (.tup (inZ vs)),aa (rwE (.ifr y g z t)),ab,jI (woI vs y)] (.bl (soI (woI vs y) g (woI vs z))):=.call (xs:=[.int (woI vs y),.str g,.int (woI vs z)]) (.cons () (.cons () (.cons (.call (xs:=[opE z,.tup (inZ vs)]) () (Ww e A)) .nil))) (Zkf O)
  obtain⟨h,o,w⟩:=ys d .refl;show ∃ st',_=aa (Fl.rt (stD (if soI (woI vs y) g (woI vs z)=ac then t else k+1) vs),st')/\Grw st st'
  cases c:soI (woI vs y) g (woI vs z) with
  |true=>
   rw[c]at o;exact⟨h,Zj ((Yl rfl).trans ((Zc (Zk B)).trans (Zj ((Yl o).trans (Zj (ZR rfl)))))),N.trans w⟩
  |false=>
   rw[c]at o;have E:=Y.cons (F:=rT (n+2)) (s:=h) (a:=.p (.v 1) (.i 1)) (b:=.a 2 .aN) (U:=[aa (pgD tk m rs),jN k,aa (.tup (inZ vs)),aa (rwE (.ifr y g z t)),ab,jI (woI vs y)]) one (.cons (x:=.tup (inZ vs)) () .nil);obtain⟨G,J,H⟩:=E h .refl;exact⟨G,(Zc ((Yl rfl).trans ((Zc (Zk B)).trans ((Zc ((X9 o).trans Zi)).trans Zi)))).trans (Zj (ZR J)),N.trans (w.trans H)⟩
end
def trL(m:Nat)(rs:Li Rw)(L:Nat)(ins:Li Int):Li D:=stD 0 (v0 m ins) :: tl rs L 0 (v0 m ins)
variable{x1:Ot D}
def Zjp(b:Rs m rs){p:Nat×Li Int}(h:mv rs k vs=.inr p):p.1<=rs.length:=by
 unfold mv at h;cases q:rs[k]? with
 |none=>rw[q]at h;cases h
 |some r=>
  rw[q]at h;have a:=ZB q;have ok:=b.ok r (aY q);cases r with
  |tell y=>cases h
  |put x y g z=>cases h;exact a
  |skip=>cases h;exact a
  |go t=>cases h;exact ok
  |ifr y g z t=>
   cases h;show(if soI (woI vs y) g (woI vs z)=ac then t else k+1)<=rs.length
   split
   .exact ok.2.2.2
   .exact a
def Zjq(a:k < rs.length){o:D}(h:mv rs k vs=.inl o):∃ v,o=teD v:=by
 unfold mv at h;rw[Lg a]at h;cases q:rs[k] with
 |tell y=>rw[q]at h;cases h;exact⟨_,rfl⟩
 |_=>rw[q]at h;cases h
def ZcD{w:Nat}{b1:Bool}{t t2:Za}(d:ev F a U st=aa (.lst i,t))(c:ev F b U t=aa (.lst j,t2))(f:t2[i]?=aa (b1,xs))(e:t2[j]?=aa (b2,ys))(g:xs.length+ys.length<=1000):ev F (.p a b) U st=aa (.lst t2.length,t2++[(ac,xs++ys)]):=by
 show ZQ (ev F a) (ev F b) (UT .Add) U st=_;unfold ZQ;simp only[d,c];show ZbE i j t2=_;unfold ZbE;simp only[f,e];exact ao (by unfold Zt;omega)
def Zfq{y:Ot D}(O:Rs m rs)(Q:m<=1000)(N:Vs m vs)(V:k<=rs.length)(W:s.length<=j)(g:Grw s st)(h:st[j]?=aa (ac,acc))(T:acc.length < 900):match mv rs k vs with
  |.inl o=>∃ st' w b,Kj j st st'/\st'[w]?=aa (b,acc++[o])/\ex (rT (n+3)) Zn [aa (pgD tk m rs),x1,x2,aa (stD k vs),jL j,y] st=aa (.rt (.lst w),st')
  |.inr p=>∃ st',Kj j st st'/\st'[j]?=aa (ac,acc++[stD p.1 p.2])/\ex (rT (n+3)) Zn [aa (pgD tk m rs),x1,x2,aa (stD k vs),jL j,y] st=aa (.nx [aa (pgD tk m rs),x1,x2,aa (stD p.1 p.2),jL j,y],st'):=by
 have L:Y (rT (n+3)) st (.e (.x 3 0) (.len (.x 0 2))) [aa (pgD tk m rs),x1,x2,aa (stD k vs),jL j,y] (.bl (aj (k=rs.length))):=by
  have:=Y.eqv (F:=rT (n+3)) (s:=st) (a:=.x 3 0) (b:=.len (.x 0 2)) (U:=[aa (pgD tk m rs),x1,x2,aa (stD k vs),jL j,y]) (i:=(k:Int)) (j:=((rs.map rwE).length:Int)) () (.lnT ());rw[aB,fH (⟨λh=>by omega,λh=>by omega⟩:(k:Int)=(rs.length:Int)↔k=rs.length)]at this
  exact this
 obtain⟨l,G,C⟩:=L st .refl;by_cases c:k=rs.length
 .rw[aK c]at G
  rw[V5 ∅]
  have S:=C.get h;have I:=ZcD (F:=rT (n+3)) (a:=.v 4) (b:=.lstE (.u (.g (.u (.t "none"))))) (U:=[aa (pgD tk m rs),x1,x2,aa (stD k vs),jL j,y]) (st:=l) (t:=l) (t2:=l++[(ac,[noD])]) (i:=j) (j:=l.length) (w:=0) (b1:=ac) (b2:=ac) (xs:=acc) (ys:=[noD]) rfl rfl (Grw.push.get S) Zl (by show _+1<=1000;omega)
  exact⟨_,_,_,(C.trans (Grw.push.trans .push)).kj,Zl,Zj ((Yl G).trans (Zj (ZR I)))⟩
 .rw[aG c]at G
  have A:k < rs.length:=by omega
  obtain⟨t2,I,K⟩:=Y.call (F:=rT (n+3)) (s:=l) (f:=35) (a:=.a 0 (.aC (.x 3 0) (.u (.x 3 1)))) (U:=[aa (pgD tk m rs),x1,x2,aa (stD k vs),jL j,y]) (xs:=[pgD tk m rs,.int (k:Int),.tup (inZ vs)]) (ds:=[]) () (Zg1 O Q N A) l .refl;obtain⟨B,R,M,E⟩:=Ap.app (F:=rT (n+3)) (s:=t2) (j:=j) (i:=4) (e:=.v 3) (U:=[aa (pgD tk m rs),x1,x2,aa (mvD rs k vs),jL j,y]) (d:=mvD rs k vs) rfl () t2 acc .refl ((C.trans K).get h) (by show _+1<=900;omega)
  have J:Kj j st B:=(C.trans K).kj.trans M;have pre:∀ {r},ex (rT (n+3)) (.z (.ite (.e (.x 3 0) (.t "told")) (.q (.v 4)) .skip)) [aa (pgD tk m rs),x1,x2,aa (mvD rs k vs),jL j,y] B=r->ex (rT (n+3)) Zn [aa (pgD tk m rs),x1,x2,aa (stD k vs),jL j,y] st=r:=λh=>(Zc ((X9 G).trans Zi)).trans ((Zc (Zk I)).trans ((Zc R).trans h))
  cases q:mv rs k vs with
  |inl o=>
   have H:mvD rs k vs=o:=by unfold mvD;rw[q]
   obtain⟨v,P⟩:=Zjq A q;rw[H]at E pre;refine⟨B,j,ac,J,E,pre ?_⟩;rw[P];exact Zj ((Yl rfl).trans (Zj (ZR rfl)))
  |inr p=>
   have H:mvD rs k vs=stD p.1 p.2:=by unfold mvD;rw[q]
   rw[H]at E pre;exact⟨B,J,E,pre ((Zc ((X9 rfl).trans Zi)).trans Zi)⟩
theorem ZaP(u:Rs m rs)(L:m<=1000)(J:s.length<=j){x1 x2:Ot D}:∀ (M a k:Nat) (vs:Li Int) (acc:Li D) (st:Za) (y:Ot D),Vs m vs->k<=rs.length->Grw s st->st[j]?=aa (ac,acc)->acc.length+M<=900->
  (∃ l f c z st',l<=rs.length/\tl rs M k vs=c++[enD rs l]/\Zh (λd U s=>ex (rT (n+3)) Zn (Zf U 5 d) s) ((List.range' a M).map λ(k:Nat)=>D.int (k:Int)) [aa (pgD tk m rs),x1,x2,aa (stD k vs),jL j,y] st=aa (.nx [aa (pgD tk m rs),x1,x2,aa (stD l f),jL j,z],st')/\Kj j st st'/\st'[j]?=aa (ac,acc++c)) \/
  (∃ st' w b,Zh (λd U s=>ex (rT (n+3)) Zn (Zf U 5 d) s) ((List.range' a M).map λ(k:Nat)=>D.int (k:Int)) [aa (pgD tk m rs),x1,x2,aa (stD k vs),jL j,y] st=aa (.rt (.lst w),st')/\Kj j st st'/\st'[w]?=aa (b,acc++tl rs M k vs))
 |0,a,k,vs,acc,st,y,G,I,g,h,_=>.inl ⟨k,vs,[],y,st,I,rfl,rfl,Grw.refl.kj,by rw[bB];exact h⟩
 |M+1,a,k,vs,acc,st,y,G,I,g,h,P=>by
  have t:=Zfq (n:=n) (tk:=tk) (k:=k) (y:=jN a) (x1:=x1) (x2:=x2) u L G I J g h ∅
  rw[eO,aQ];have F:∀ {r},ex (rT (n+3)) Zn [aa (pgD tk m rs),x1,x2,aa (stD k vs),jL j,jN a] st=r->Zh (λd U s=>ex (rT (n+3)) Zn (Zf U 5 d) s) (D.int (a:Int) :: (List.range' (a+1) M).map λ(k:Nat)=>D.int (k:Int)) [aa (pgD tk m rs),x1,x2,aa (stD k vs),jL j,y] st=match r with
    |some (.nx U',st')=>Zh (λd U s=>ex (rT (n+3)) Zn (Zf U 5 d) s) ((List.range' (a+1) M).map λ(k:Nat)=>D.int (k:Int)) U' st'
    |some (.ct U',st')=>Zh (λd U s=>ex (rT (n+3)) Zn (Zf U 5 d) s) ((List.range' (a+1) M).map λ(k:Nat)=>D.int (k:Int)) U' st'
    |some (.bk U',st')=>aa (.nx U',st')
    |some (.rt v,st')=>aa (.rt v,st')
    |none=>ab:=λ{r} e=>by rw[<-e];rfl
  unfold tl;cases q:mv rs k vs with
  |inl o=>
   rw[q]at t;obtain⟨st',w,b,i,K,x⟩:=t;exact .inr ⟨st',w,b,F x,i,K⟩
  |inr p=>
   rw[q]at t;obtain⟨E,i,K,x⟩:=t;have H:(acc++[stD p.1 p.2]).length+M<=900:=by rw[aH];show _+1+M<=900;omega
   rcases ZaP u L J M (a+1) p.1 p.2 _ E (jN a) (Jb G u q) (Zjp u q) (i.grw J g) K H with⟨l,f,c,z,st',O,N,C,B,A⟩|⟨st',w,b,C,B,A⟩
   .exact .inl ⟨l,f,stD p.1 p.2 :: c,z,st',O,by show stD p.1 p.2 :: tl rs M p.1 p.2=_;rw[N];rfl,(F x).trans C,i.trans B,by rw[A,bF];rfl⟩
   .exact .inr ⟨st',w,b,(F x).trans C,i.trans B,by rw[A,bF];rfl⟩
def Zan(V:Rs m rs)(W:m<=1000)(hi:ins.length<=m)(T:∀ v∈ins,Sm v)(hL:L<=800):Lv s (rT (n+4) 26 [pgD tk m rs,inT ins,.int (L:Int)]) (trL m rs L ins):=λst g=>by
 have S:=Zej hi T;have Q:Y (rT (n+3)) st (.g (.aC (.i 0) (.u (.p (.v 1) (.h (.g (.u (.i 0))) (.l (.x 0 1) (.len (.v 1)))))))) [aa (pgD tk m rs),aa (inT ins),jN L,ab,ab,ab] (stD 0 (v0 m ins)):=by
  have I:(inZ ins).length=ins.length:=aB ..;have ez:D.tup (inZ (v0 m ins))=.tup (inZ ins++af (m - ins.length) (.int 0)):=by
   unfold v0 inZ;rw[bP,eB]
  show Y (rT (n+3)) st _ _ (.tup [.int 0,.tup (inZ (v0 m ins))]);rw[ez];refine .cons () (.cons (.adT (xs:=inZ ins) () (.rep () ?_ ∅) (by rw[I,bV];omega)) .nil)
  rw[Int.ofNat_sub hi,<-I];exact .sub () (.lnT ())
 obtain⟨s1,N,K⟩:=Q st .refl;have H:ex (rT (n+3)) (.set 4 (.lstE (.s 3))) [aa (pgD tk m rs),aa (inT ins),jN L,aa (stD 0 (v0 m ins)),ab,ab] s1=aa (.nx [aa (pgD tk m rs),aa (inT ins),jN L,aa (stD 0 (v0 m ins)),jL s1.length,ab],s1++[(ac,[stD 0 (v0 m ins)])]):=Zk rfl;have E:=WH (F:=rT (n+3)) (i:=5) (e:=.v 2) (q:=Zn) (U:=[aa (pgD tk m rs),aa (inT ins),jN L,aa (stD 0 (v0 m ins)),jL s1.length,ab]) (st:=s1++[(ac,[stD 0 (v0 m ins)])]) (v:=(L:Int)) ∅ ∅ rfl
 rw[bD,eM]at E;have C:Grw s1 (s1++[(ac,[stD 0 (v0 m ins)])]):=.push;unfold trL;rcases ZaP (n:=n) (tk:=tk) (s:=s1) (x1:=aa (inT ins)) (x2:=jN L) V W (aD _) L 0 0 (v0 m ins) [stD 0 (v0 m ins)] _ ab S (aS _) C Zl (by show 1+L<=900;omega) with⟨d,f,j,y,o,w1,G,B,A,z⟩|⟨o,w,b,B,A,z⟩
 .have sl:j.length<=L:=by
   have Z:=au List.length G;rw[aH]at Z;have:=Uh (rs:=rs) (M:=L) (k:=0) (vs:=v0 m ins);have h3:([enD rs d]:Li D).length=1:=rfl;omega
  have O:Lv o (ev (rT (n+3)) (.lstE (.u (.ix (.lstE (.aC (.g (.u (.t "late"))) (.u (.g (.u (.t "none")))))) (.intOf (.e (.x 3 0) (.len (.x 0 2))))))) [aa (pgD tk m rs),aa (inT ins),jN L,aa (stD d f),jL s1.length,y]) [enD rs d]:=by
   have P:Y (rT (n+3)) o (.intOf (.e (.x 3 0) (.len (.x 0 2)))) [aa (pgD tk m rs),aa (inT ins),jN L,aa (stD d f),jL s1.length,y] (.int ((if rs.length<=d then 1 else 0:Nat):Int)):=by
    refine g1 (x:=.bl (aj ((d:Int)=((rs.map rwE).length:Int)))) (.eqv () (.lnT ())) (gp λ_=>?_)
    rw[aB];by_cases c:rs.length<=d
    .rw[aK ∅,ao c];rfl
    .rw[aG ∅,aq c];rfl
   refine .mk (.cons (.ixL (xs:=[laD,noD]) (.mk ()) P ?_) .nil);unfold enD;by_cases c:rs.length<=d
   .rw[ao c,ao c];rfl
   .rw[aq c,aq c];rfl
  obtain⟨R,jj,bb,e4,X,J⟩:=O o .refl;have e5:=ZcD (F:=rT (n+3)) (a:=.v 4) (U:=[aa (pgD tk m rs),aa (inT ins),jN L,aa (stD d f),jL s1.length,y]) (st:=o) (t:=o) (i:=s1.length) (w:=0) (b1:=ac) (xs:=[stD 0 (v0 m ins)]++j) rfl e4 (J.get z) X (by rw[aH];show 1+j.length+1<=1000;omega)
  refine⟨_,R.length,ac,W8 (v:=Yz) rfl rfl ((Zc (Zk N)).trans ((Zc H).trans ((Zc (E.trans B)).trans (Zj (ZR e5))))),?_,K.trans ((A.grw (aD _) C).trans (J.trans .push))⟩;rw[G,Zl,bF];rfl
 .exact⟨o,w,b,W8 (v:=Yz) rfl rfl ((Zc (Zk N)).trans ((Zc H).trans (Zj (E.trans B)))),z,K.trans (A.grw (aD _) C)⟩
def Zbh:(trL m rs L ins).getLastD .non=oc rs L 0 (v0 m ins):=by
 unfold trL;rw[<-Qx];cases q:tl rs L 0 (v0 m ins) with
 |nil=>exact ar q Zec
 |cons x xs=>rfl
noncomputable def adL(a:Li Int):Li Int:=((ag a.length).filter λk=>aj (k=0)||!decide (a.getD k 0=a.getD (k - 1) 0)).map λk=>a.getD k 0
section
variable{acc:Li (Li Int)}
def Zcc{a:Int}(i:lo<=a)(g:a<=hi):adL [lo,a,hi]=[lo,a,hi].foldl nwL []:=by
 show(([0,1,2]:Li Nat).filter λk=>aj (k=0)||!decide (([lo,a,hi]:Li Int).getD k 0=([lo,a,hi]:Li Int).getD (k - 1) 0)).map (λk=>([lo,a,hi]:Li Int).getD k 0)=nwL (nwL (nwL [] lo) a) hi
 have f:nwL [] lo=[lo]:=aq (λh=>nomatch h)
 rw[f];by_cases c:a=lo
 .have e:nwL [lo] a=[lo]:=ao (by rw[c];exact Ls)
  rw[e];by_cases b:hi=a
  .have d:nwL [lo] hi=[lo]:=ao (by rw[b,c];exact Ls)
   rw[d];subst b;subst c;simp
  .have d:nwL [lo] hi=[lo,hi]:=aq (λh=>b (by rw[aP.mp h,c]))
   rw[d];subst c;simp[b]
 .have e:nwL [lo] a=[lo,a]:=aq (λh=>c (aP.mp h))
  rw[e];by_cases b:hi=a
  .have d:nwL [lo,a] hi=[lo,a]:=ao (by rw[b];exact Lm _ Ls)
   rw[d];subst b;simp[c]
  .have d:nwL [lo,a] hi=[lo,a,hi]:=aq (λh=>by
    rcases aF.mp h with h|h
    .omega
    .exact b (aP.mp h))
   rw[d];simp[c,b]
def ZiU(h:lo<=hi):adL [lo,(lo+hi) / 2,hi]=mnL (lo,hi):=Zcc ∅ ∅
def ZiT{p:Int×Int}:adL (bxL p)=bxL p:=by
 unfold adL;rw[List.filter_eq_self.mpr]
 .refine List.ext_getElem? λi=>?_
  rw[aT];by_cases c:i < (bxL p).length
  .rw[List.getElem?_range c]
   show aa ((bxL p).getD i 0)=_;rw[aV,Lg c];rfl
  .rw[dF (by rw[bM];omega),dF ∅];rfl
 .intro k b
  have b:=cA.mp b;have a:∀ {i:Nat},i < (bxL p).length->(bxL p).getD i 0=p.1+i * 1:=λ{i} h=>by
   rw[aV];unfold bxL XX at h ⊢
   rw[aB,bM]at h;rw[aT,List.getElem?_range h];rfl
  by_cases c:k=0
  .rw[aK c];rfl
  .rw[aG c,a b,a (i:=k - 1) ∅,aG ∅];rfl
theorem WB{α:Type}{en g:α->D}{c:α->Bool}{ok:Za->Prop}{fe fc:D->Za->Res}(h:∀ st,Grw s st->ok st):∀ {l:Li α},(∀ a∈l,Gv s (fc (en a)) (.bl (c a)))->(∀ a∈l,c a=ac->Gv s (fe (en a)) (g a))->∀ st,Grw s st->∃ st',Z9 ok fe fc (l.map en) st=aa ((l.filter c).map g,st')/\Grw st st'
 |[],_,_,st,d=>⟨st,ao (h st d),.refl⟩
 |x :: l,k,j,st,d=>by
  obtain⟨s1,r,e⟩:=k x Ls st d;rw[aQ,Z9,ao (h st d),r];cases q:c x with
  |false=>
   obtain⟨i,m,f⟩:=WB h (λz b=>k z (Lm _ b)) (λz b=>j z (Lm _ b)) s1 (d.trans e)
   rw[List.filter_cons_of_neg (by rw[q];decide)]
   exact⟨i,m,e.trans f⟩
  |true=>
   obtain⟨i,m,f⟩:=j x Ls q s1 (d.trans e);obtain⟨n,p,o⟩:=WB h (λz b=>k z (Lm _ b)) (λz b=>j z (Lm _ b)) i (d.trans (e.trans f))
   rw[List.filter_cons_of_pos q];exact⟨n,by simp only[m,p,aQ],e.trans (f.trans o)⟩
def Zga{v:Int}(b:v < 2 ^ 62)(a:-(2 ^ 62)<=v):Yx ac (.int v) st=aa ((ag v.toNat).map λ(k:Nat)=>D.int (k:Int),λ_=>True):=by
 unfold Yx;rw[JN b a]
def Zgb(a:N<=600):Yx ac (.int (N:Int)) st=aa ((ag N).map λ(k:Nat)=>D.int (k:Int),λ_=>True):=by
 have b:=n62 (v:=(N:Int)) ∅ ∅
 have:=Zga (st:=st) b.1 b.2;rw[bD]at this;exact this
def QK{b:D->Li (Ot D)}{c e f:Ev}{x:D}{a:Za}{ok:Za->Prop}(i:c U st=aa (x,st1))(g:wk x st1=aa (xs,ok))(h:xs.length<=1000)(j:Z9 ok (λd s=>e (ZP b U fr d) s) (λd s=>f (ZP b U fr d) s) xs st1=aa (ys,a)):Yj b wk fr c e f U st=aa (.lst a.length,a++[(ac,ys)]):=by
 unfold Yj;rw[i];simp only[g,ao h,j]
def Zke(o:U[5]?=aa (jL j))(m:st[j]?=aa (bb,ns.map D.int))(A:ns.length<=600):∃ st' w,ev F XN U st=aa (.lst w,st')/\st'[w]?=aa (ac,(adL ns).map D.int)/\Grw st st':=by
 have n:∀ {k:Nat},k < ns.length->(ns.map D.int)[k]?=jI (ns.getD k 0):=λ{k} h=>by rw[aT,aV,Lg h];rfl
 obtain⟨t,u,z⟩:=WB (s:=st) (ok:=λ_=>True) (en:=λ(k:Nat)=>D.int (k:Int)) (g:=λk=>D.int (ns.getD k 0)) (c:=λk=>aj (k=0)||!decide (ns.getD k 0=ns.getD (k - 1) 0)) (fe:=λd=>ev F (.ix (.v 1) (.v 0)) (ZP one U [5] d)) (fc:=λd=>ev F (.or (.e (.v 0) (.i 0)) (.cmp .NotEq (.ix (.v 1) (.v 0)) (.ix (.v 1) (.l (.v 0) (.i 1))))) (ZP one U [5] d)) (l:=ag ns.length) (λ_ _=>trivial) (λk f=>by
  have f:=cA.mp f;have p:ZP one U [5] (.int (k:Int))=[jN k,jL j]:=by show[aa (D.int (k:Int)),(U[5]?).join]=_;rw[o];rfl
  show Gv st (ev F _ (ZP one U [5] (.int (k:Int)))) _;rw[p];refine Y.or (k:=aj (k=0)) ?_ λq=>?_
  .have:=Y.eqv (F:=F) (s:=st) (a:=.v 0) (b:=.i 0) (U:=[jN k,jL j]) (i:=(k:Int)) (j:=0) () ()
   rw[fH (⟨λh=>by omega,λh=>by omega⟩:(k:Int)=0↔k=0)]at this
   exact this
  .have q:=ak q
   exact .cmp (x:=.int (ns.getD k 0)) (y:=.int (ns.getD (k - 1) 0)) (.ixl (j:=k) m () () (n f)) (.ixl (j:=k - 1) m () (by rw[Int.ofNat_sub ∅];exact .sub () ()) (n ∅)) λ_=>rfl) (λk f _=>by
  have f:=cA.mp f;have p:ZP one U [5] (.int (k:Int))=[jN k,jL j]:=by show[aa (D.int (k:Int)),(U[5]?).join]=_;rw[o];rfl
  show Gv st (ev F _ (ZP one U [5] (.int (k:Int)))) _;rw[p];exact Y.ixl (j:=k) m () () (n f)) st .refl
 have C:ev F (.len (.v 5)) U st=aa (.int (ns.length:Int),st):=by
  show Zo (XQ 5) Q6 U st=_;unfold Zo XQ;rw[o];show Q6 (.lst j) st=_;unfold Q6 Zfm;simp only[m,aB]
 have B:((ag ns.length).filter λk=>aj (k=0)||!decide (ns.getD k 0=ns.getD (k - 1) 0)).map (λk=>D.int (ns.getD k 0))=(adL ns).map D.int:=by unfold adL;rw[bN];rfl
 rw[B]at u;exact⟨t++[(ac,(adL ns).map D.int)],t.length,QK C (Zgb A) (by rw[aB,bM];omega) u,Zl,z.trans .push⟩
theorem ZgN{x0 x1 x2 x3:Ot D}{c:Nat}{P:Bool}{s0:Za}(q:s0[c]?=aa (P,acc.map inT))(z:s0[j]?=aa (bb,ns.map D.int))(I:ns.length<=600)(hi:∀ ins∈acc,ins.length<=600):∀ (M a w:Nat) (cont:Li (Li Int)) (f:Ot D) (b:Bool) (st:Za),a+M=acc.length->Grw s0 st->st[w]?=aa (b,cont.map inT)->cont.length+(exL ns (acc.drop a)).length<=1000->∃ k x e st',ZA (λd U s=>ex F Zx (Zf U 7 d) s) c M a [x0,x1,x2,x3,jL c,jL j,jL w,f] st=aa (.nx [x0,x1,x2,x3,jL c,jL j,jL k,e],st')/\Grw st st'/\st'[k]?=aa (x,(cont++exL ns (acc.drop a)).map inT)
 |0,a,w,cont,f,b,st,h,g,o,_=>⟨w,b,f,st,by unfold ZA;rw[g.get q];exact ao (by rw[aB];omega),.refl,by rw[dH ∅];show _=aa (b,(cont++[]).map inT);rw[bB];exact o⟩
 |M+1,a,w,cont,f,b,st,h,g,o,y=>by
  have u:a < acc.length:=by omega
  rw[bR u]at y ⊢;have A:exL ns (acc[a] :: acc.drop (a+1))=(ns.map λv=>acc[a]++[v])++exL ns (acc.drop (a+1)):=by unfold exL;rw[bY]
  rw[A,aH,aB]at y;have E:=V0 (F:=F) (s:=st) (U:=[x0,x1,x2,x3,jL c,jL j,jL w,aa (inT acc[a])]) (b:=one) (wk:=Yx ae) (fr:=[7]) (it:=.v 5) (elt:=.p (.v 1) (.g (.s 0))) (l:=ns) (en:=D.int) (g:=λv=>inT (acc[a]++[v])) (Wk.lst (g.get z) ()) ∅ λv R=>by
   have:=hi _ (cM u);show Y F st _ [jI v,aa (inT acc[a])] (inT (acc[a]++[v]));unfold inT inZ;rw[bP];exact .adT () (.cons () .nil) (by rw[aB];show _+1<=_;omega)
  obtain⟨m,Q,O,K,n⟩:=E st .refl;have B:=ZcD (F:=F) (a:=.v 6) (b:=XO) (U:=[x0,x1,x2,x3,jL c,jL j,jL w,aa (inT acc[a])]) (st:=st) (t:=st) (i:=w) (w:=0) (b1:=b) (xs:=cont.map inT) rfl O (n.get o) K (by rw[aB,aB];omega)
  have L:cont.map inT++ns.map (λv=>inT (acc[a]++[v]))=(cont++ns.map λv=>acc[a]++[v]).map inT:=by rw[bP,bN];rfl
  rw[L]at B;obtain⟨k,x,e,C,N,G,J⟩:=ZgN q z I hi M (a+1) m.length (cont++ns.map λv=>acc[a]++[v]) (aa (inT acc[a])) ac (m++[(ac,(cont++ns.map λv=>acc[a]++[v]).map inT)]) ∅ (g.trans (n.trans .push)) Zl (by rw[aH,aB];omega)
  refine⟨k,x,e,C,?_,n.trans (Grw.push.trans G),by rw[J,A,bF]⟩
  conv=>lhs;unfold ZA
  have H:(acc.map inT)[a]?=aa (inT acc[a]):=by rw[aT,Lg u];rfl
  simp only[g.get q,H];show(match ex F Zx [x0,x1,x2,x3,jL c,jL j,jL w,aa (inT acc[a])] st with
   |some (.nx U',st')=>ZA (λd U s=>ex F Zx (Zf U 7 d) s) c M (a+1) U' st'
   |some (.ct U',st')=>ZA (λd U s=>ex F Zx (Zf U 7 d) s) c M (a+1) U' st'
   |some (.bk U',st')=>aa (.nx U',st')
   |some (.rt v,st')=>aa (.rt v,st')
   |none=>ab)=_
  rw[show ex F Zx [x0,x1,x2,x3,jL c,jL j,jL w,aa (inT acc[a])] st=aa (.nx [x0,x1,x2,x3,jL c,jL j,jL m.length,aa (inT acc[a])],m++[(ac,(cont++ns.map λv=>acc[a]++[v]).map inT)]) from(Zc (Zk B)).trans Zi]
  exact N
end
def nbL(a:Int)(p:Int×Int):Li Int:=if 64 < a then mnL p else bxL p
section
variable{acc:Li (Li Int)}{p:Int×Int}{wd:Int}
def Zdo{x0 y5 y6 y7:Ot D}{c:Nat}{K:Bool}(G:st[c]?=aa (K,acc.map inT))(o:Sm p.1/\p.1<=p.2/\Sm p.2)(E:¬64 < wd->p.2 - p.1+1<=64)(hl:(exL (nbL wd p) acc).length<=900)(hi:∀ ins∈acc,ins.length<=600):∃ J w t q d st',ex F Zy [x0,jI wd,jI p.1,jI p.2,jL c,y5,y6,y7] st=aa (.nx [x0,jI wd,jI p.1,jI p.2,jL J,t,q,d],st')/\Grw st st'/\st'[J]?=aa (w,(exL (nbL wd p) acc).map inT):=by
 have M:Y F st (.a 2 (.aC (.k (.p (.v 2) (.v 3)) (.i 2)) (.s 3))) [x0,jI wd,jI p.1,jI p.2,jL c,y5,y6,y7] (.tup [.int p.1,.int ((p.1+p.2) / 2),.int p.2]):=.cons () (.cons (.fd (.add () ()) () #[]) (.cons () .nil))
 obtain⟨l,n,b1,e1,V,Q⟩:=Lv.mk M st .refl
 -- the numbers
 obtain⟨b,m,b2,ns,h,T,j,X,ln⟩:∃ b m b2 ns,ex F (.ite (.cmp .LtE (.v 1) (.i 64)) (.z (.set 5 (.lstR (.v 2) (.p (.v 3) (.i 1))))) .skip) [x0,jI wd,jI p.1,jI p.2,jL c,jL n,y6,y7] l=aa (.nx [x0,jI wd,jI p.1,jI p.2,jL c,jL m,y6,y7],b)/\b[m]?=aa (b2,ns.map D.int)/\Grw l b/\adL ns=nbL wd p/\ns.length<=64:=by
  have L:Y F l (.cmp .LtE (.v 1) (.i 64)) [x0,jI wd,jI p.1,jI p.2,jL c,jL n,y6,y7] (.bl (aj (wd<=64))):=.cmp (x:=.int wd) (y:=.int 64) () () λ_=>rfl
  obtain⟨b,h,j⟩:=L l .refl;unfold nbL;by_cases u:64 < wd
  .rw[aG ∅]at h
   rw[ao u];exact⟨b,n,b1,[p.1,(p.1+p.2) / 2,p.2],(X9 h).trans Zi,j.get V,j,ZiU o.2.1,by show 3<=64;decide⟩
  .rw[aK ∅]at h
   rw[aq u];have S:=E u;have R:=o;unfold Sm at R;have W:ev F (.lstR (.v 2) (.p (.v 3) (.i 1))) [x0,jI wd,jI p.1,jI p.2,jL c,jL n,y6,y7] b=aa (.lst b.length,b++[(ac,(bxL p).map D.int)]):=by
    show(if WR p.1 (p.2+1) 1=ac/\p.2+1 - p.1<=1000 then aa (D.lst b.length,b++[(ac,(XX p.1 (p.2+1) 1).map D.int)]) else ab)=_
    exact ao ⟨aK ⟨⟨∅,∅⟩,⟨∅,∅⟩,.inl rfl⟩,∅⟩
   exact⟨b++[(ac,(bxL p).map D.int)],b.length,ac,bxL p,(Yl h).trans ((Zc (Zk W)).trans Zi),Zl,j.trans .push,ZiT,by have:=WW o.2.1;omega⟩
 obtain⟨e,C,e3,I,P⟩:=Zke (F:=F) (U:=[x0,jI wd,jI p.1,jI p.2,jL c,jL m,y6,y7]) rfl T ∅
 rw[X]at I;have N:(nbL wd p).length<=64:=by
  unfold nbL;split
  .have:=(V4 (p:=p)).2;omega
  .rename_i c;have:=E c;have:=WW o.2.1;omega
 have g:Grw st e:=Q.trans (j.trans P);obtain⟨A,w,d,B,e5,O,H⟩:=ZgN (F:=F) (x0:=x0) (x1:=jI wd) (x2:=jI p.1) (x3:=jI p.2) (s0:=e) (g.get G) I ∅ hi acc.length 0 e.length [] y7 ac (e++[(ac,[])]) (bK _) .push Zl (by rw[bX];show 0+_<=1000;omega)
 rw[bX,dE]at H;have Z:ex F (.for1 7 ae (.v 4) Zx) [x0,jI wd,jI p.1,jI p.2,jL c,jL C,jL e.length,y7] (e++[(ac,[])])=aa (.nx [x0,jI wd,jI p.1,jI p.2,jL c,jL C,jL A,d],B):=by
  rw[<-e5,<-aB (as:=acc) (f:=inT)];exact WG (bb:=K) (xs:=acc.map inT) rfl ((g.trans .push).get G)
 exact⟨A,w,_,_,d,B,(Zc (Zk e1)).trans ((Zc h).trans ((Zc (Zk e3)).trans ((Zc (Zk (v:=.lst e.length) (st':=e++[(ac,[])]) rfl)).trans ((Zc Z).trans ((Zc (Zk rfl)).trans Zi))))),g.trans (Grw.push.trans O),H⟩
theorem Q9{x0:Ot D}(E:¬64 < wd->∀ p∈tks,p.2 - p.1+1<=64):∀ {tks':Li (Int×Int)},(∀ p∈tks',p∈tks)->(∀ p∈tks',Sm p.1/\p.1<=p.2/\Sm p.2)->∀ (acc:Li (Li Int)) (c:Nat) (k:Bool) (g f y5 y6 y7:Ot D) (st:Za) (i:Nat),acc.length * plL (tks'.map (nbL wd))<=100->1<=acc.length->Al i acc->i+tks'.length<=10->st[c]?=aa (k,acc.map inT)->∃ j C r o n m l st',Zh (Xi 2 3 (ex F Zy)) (tks'.map pdD) [x0,jI wd,g,f,jL c,y5,y6,y7] st=aa (.nx [x0,jI wd,r,o,jL j,n,m,l],st')/\Grw st st'/\st'[j]?=aa (C,(prL acc (tks'.map (nbL wd))).map inT)
 |[],_,_,acc,c,k,g,f,y5,y6,y7,st,i,_,_,_,_,B=>⟨c,k,g,f,y5,y6,y7,st,rfl,.refl,B⟩
 |p :: tks',G,A,acc,c,k,g,f,y5,y6,y7,st,i,d,S,H,hi,B=>by
  have a:=A p Ls;have x:∀ q∈tks',nbL wd q≠[]:=λq y e=>by
   unfold nbL at e;split at e
   .have:=(V4 (p:=q)).1;rw[e]at this;cases this
   .exact Zcr (A q (Lm _ y)).2.1 e
  have L:1<=(nbL wd p).length:=by
   unfold nbL;split
   .exact(V4 (p:=p)).1
   .exact dM.mpr (Zcr a.2.1)
  have d:acc.length * ((nbL wd p).length * plL (tks'.map (nbL wd)))<=100:=d;rw[<-Nat.mul_assoc,<-JL]at d;have K:=Qn (ls:=tks'.map (nbL wd)) λz b=>by obtain⟨q,y,rfl⟩:=aR.mp b;exact x q y
  have W:(exL (nbL wd p) acc).length<=100:=aM (by have:=Nat.mul_le_mul_left (exL (nbL wd p) acc).length K;rwa [Nat.mul_one]at this) d
  have M:1<=(exL (nbL wd p) acc).length:=by rw[JL];exact Nat.mul_pos S L
  have w:∀ v∈nbL wd p,Sm v:=λv h=>by
   unfold nbL at h;split at h
   .have:=JU a.2.1 v h;unfold Sm at *;omega
   .have:=JA v h;unfold Sm at *;omega
  rw[aO]at hi;obtain⟨j,C,u,t,s,J,U,O,R⟩:=Zdo (F:=F) (x0:=x0) (y5:=y5) (y6:=y6) (y7:=y7) B a (λq=>E q p (G p Ls)) ∅ λins P=>by have:=(H ins P).1;omega
  obtain⟨V,b2,r,o,n,m,l,I,T,N,Q⟩:=Q9 E (λz b=>G z (Lm _ b)) (λz b=>A z (Lm _ b)) _ j C (jI p.1) (jI p.2) u t s J (i+1) d M (H.ex w) ∅ R
  refine⟨V,b2,r,o,n,m,l,I,?_,O.trans N,Q⟩;show(match ex F Zy [x0,jI wd,jI p.1,jI p.2,jL c,y5,y6,y7] st with
   |some (.nx U',st')=>Zh (Xi 2 3 (ex F Zy)) (tks'.map pdD) U' st'
   |some (.ct U',st')=>Zh (Xi 2 3 (ex F Zy)) (tks'.map pdD) U' st'
   |some (.bk U',st')=>aa (.nx U',st')
   |some (.rt v,st')=>aa (.rt v,st')
   |none=>ab)=_
  rw[U];exact T
theorem ZaQ{x x4 x5 x6 x7:Ot D}:∀ {tks:Li (Int×Int)}{a:Int}{y z:Ot D}{st:Za},(∀ p∈tks,ZZ (p.2 - p.1+1)=ac)->∃ c b,Zh (Xi 2 3 (ex F Zz)) (tks.map pdD) [x,jI a,y,z,x4,x5,x6,x7] st=aa (.nx [x,jI (wdI tks a),c,b,x4,x5,x6,x7],st)
 |[],a,y,z,st,_=>⟨y,z,rfl⟩
 |p :: tks,a,y,z,st,h=>by
  have e:ex F Zz [x,jI a,jI p.1,jI p.2,x4,x5,x6,x7] st=aa (.nx [x,aa (.int (a * (p.2 - p.1+1))),jI p.1,jI p.2,x4,x5,x6,x7],st):=by
   have:ev F (.h (.v 1) (.p (.l (.v 3) (.v 2)) (.i 1))) [x,jI a,jI p.1,jI p.2,x4,x5,x6,x7] st=aa (.int (a * (p.2 - p.1+1)),st):=by
    show UT .Mult (.int a) (.int (p.2 - p.1+1)) st=_;show(match (if ZZ a||ZZ (p.2 - p.1+1) then aa (a * (p.2 - p.1+1)) else ab) with|some k=>aa (D.int k,st)|none=>ab)=_
    rw[h p Ls,Bool.or_true];rfl
   exact(Zc (Zk this)).trans Zi
  obtain⟨c,b,f⟩:=ZaQ (tks:=tks) (a:=a * (p.2 - p.1+1)) (y:=jI p.1) (z:=jI p.2) (st:=st) λq d=>h q (Lm _ d)
  refine⟨c,b,?_⟩;show(match ex F Zz [x,jI a,jI p.1,jI p.2,x4,x5,x6,x7] st with
   |some (.nx U',st')=>Zh (Xi 2 3 (ex F Zz)) (tks.map pdD) U' st'
   |some (.ct U',st')=>Zh (Xi 2 3 (ex F Zz)) (tks.map pdD) U' st'
   |some (.bk U',st')=>aa (.nx U',st')
   |some (.rt v,st')=>aa (.rt v,st')
   |none=>ab)=_
  rw[e];exact f
def ZjY:tdL tks=prL [[]] (tks.map (nbL (wdI tks 1))):=by
 unfold tdL;by_cases c:64 < wdI tks 1
 .rw[ao c,show nbL (wdI tks 1)=mnL from funext λp=>ao c]
 .rw[aq c,show nbL (wdI tks 1)=bxL from funext λp=>aq c]
def ZjZ(h:Tk tks):plL (tks.map (nbL (wdI tks 1)))<=100:=by
 have tl:=h.l;by_cases c:64 < wdI tks 1
 .rw[show nbL (wdI tks 1)=mnL from funext λp=>ao c]
  exact aM Zds (aM (Nat.pow_le_pow_right #[] tl) #[])
 .rw[show nbL (wdI tks 1)=bxL from funext λp=>aq c]
  have:=(Zcq h c).1;omega
def ZeI(h:Tk tks):∃ st' j b,rT (n+1) 195 [.tup (tks.map pdD)] st=aa (.tup [.int (wdI tks 1),.lst j],st')/\Grw st st'/\st'[j]?=aa (b,(tdL tks).map inT):=by
 have tl:=h.l;obtain⟨e,d,C⟩:=ZaQ (F:=rT n) (x:=aa (.tup (tks.map pdD))) (x4:=ab) (x5:=ab) (x6:=ab) (x7:=ab) (tks:=tks) (a:=1) (y:=ab) (z:=ab) (st:=st) λp u=>Q7 (by have:=h.b p u;unfold Sm at this;omega)
 obtain⟨i,D,r,q,o,m,k,f,B,s,g⟩:=Q9 (F:=rT n) (x0:=aa (.tup (tks.map pdD))) (wd:=wdI tks 1) (tks:=tks) (λc=>(Zcq h c).2) (tks':=tks) (λ_ h=>h) h.b [[]] st.length ac e d ab ab ab (st++[(ac,[.tup []])]) 0 (by show 1 * _<=_;rw[cX];exact ZjZ h) (aD _) (λins h=>by rw[aP.mp h];exact⟨rfl,λv t=>nomatch t⟩) ∅ Zl
 rw[<-ZjY]at g;have A:ex (rT n) (.for2 2 3 (.v 0) Zz) [aa (.tup (tks.map pdD)),jI 1,ab,ab,ab,ab,ab,ab] st=aa (.nx [aa (.tup (tks.map pdD)),jI (wdI tks 1),e,d,ab,ab,ab,ab],st):=C;have w:ex (rT n) (.for2 2 3 (.v 0) Zy) [aa (.tup (tks.map pdD)),jI (wdI tks 1),e,d,jL st.length,ab,ab,ab] (st++[(ac,[.tup []])])=aa (.nx [aa (.tup (tks.map pdD)),jI (wdI tks 1),r,q,jL i,o,m,k],f):=B
 exact⟨f,i,D,W8 (v:=Xn) rfl rfl ((Zc (Zk rfl)).trans ((Zc A).trans ((Zc (Zk (v:=.lst st.length) (st':=st++[(ac,[.tup []])]) rfl)).trans ((Zc w).trans (Zj (ZR rfl)))))),Grw.push.trans s,g⟩
end
noncomputable def cpR:Rw->Rw
 |.ifr y g z t=>.ifr y g z (Nat.min t 2)
 |.go t=>.go (Nat.min t 2)
 |r=>r
variable{x3 x4:Ot D}
section
variable{t:Nat}{c:Int}
def Y.min2(h:Y F s a U (.int (t:Int))):Y F s (.min a (.i 2)) U (.int ((Nat.min t 2:Nat):Int)):=g2 (y:=.int 2) h () (gp λst=>by
 show aa (D.int (if (2:Int) < (t:Int) then 2 else (t:Int)),st)=_
 rw[show(if (2:Int) < (t:Int) then (2:Int) else (t:Int))=((Nat.min t 2:Nat):Int) by rw[show Nat.min t 2=min t 2 from rfl];split<;>omega])
def Y.last2(c:Y F s a U (.tup xs)):Y F s (.slice a (.part (.neg (.i 2))) .nop) U (.tup (xs.drop (xs.length - 2))):=λst g=>by
 obtain⟨s1,e,b⟩:=c st g;refine⟨s1,?_,b⟩;have d:ev F (.neg (.i 2)) U s1=aa (.int (-2),s1):=rfl;show YQ (ev F a) (Zo (ev F (.neg (.i 2))) V9) (evC .non) Xb U st=_;unfold YQ Zo evC;simp only[e,d];show Yi (.tup xs) (aa (-2)) ab s1=_;rw[sl_tup];unfold X6;have:sIx xs.length 0 (aa (-2))=xs.length - 2:=by
  show(if (-2:Int) < 0 then ((-2:Int)+(xs.length:Int)).toNat else Nat.min (-2:Int).toNat xs.length)=_
  rw[ao #[]];omega
 rw[this];rw[show sIx xs.length xs.length ab=xs.length from rfl,eQ (by rw[cF];exact aD _)]
def ZbY{x0:Ot D}{r:Rw}(b:s.length<=j):Ap F s j ZG [x0,x1,x2,x3,x4,jL j,aa (rwE r)] [x0,x1,x2,x3,x4,jL j,aa (rwE (cpR r))] [rwE (cpR r)]:=by
 have a:∀ {r':Rw},Ap F s j (.z (.app 5 (.v 6))) [x0,x1,x2,x3,x4,jL j,aa (rwE r')] [x0,x1,x2,x3,x4,jL j,aa (rwE r')] [rwE r']:=.one (.app rfl ());cases r with
 |put x y g z=>exact .seq b (.ite (k:=ae) (.cmp (x:=.str "put") (y:=.str "if") (.ixt (j:=0) () () rfl) () λ_=>rfl) .skip) (.seq b (.ite (k:=ae) (.cmp (x:=.str "put") (y:=.str "go") (.ixt (j:=0) () () rfl) () λ_=>rfl) .skip) (a (r':=.put x y g z)))
 |tell y=>exact .seq b (.ite (k:=ae) (.cmp (x:=.str "tell") (y:=.str "if") (.ixt (j:=0) () () rfl) () λ_=>rfl) .skip) (.seq b (.ite (k:=ae) (.cmp (x:=.str "tell") (y:=.str "go") (.ixt (j:=0) () () rfl) () λ_=>rfl) .skip) (a (r':=.tell y)))
 |skip=>exact .seq b (.ite (k:=ae) (.cmp (x:=.str "skip") (y:=.str "if") (.ixt (j:=0) () () rfl) () λ_=>rfl) .skip) (.seq b (.ite (k:=ae) (.cmp (x:=.str "skip") (y:=.str "go") (.ixt (j:=0) () () rfl) () λ_=>rfl) .skip) (a (r':=.skip)))
 |go t=>exact .seq b (.ite (k:=ae) (.cmp (x:=.str "go") (y:=.str "if") (.ixt (j:=0) () () rfl) () λ_=>rfl) .skip) (.seq b (.ite (k:=ac) (.cmp (x:=.str "go") (y:=.str "go") (.ixt (j:=0) () () rfl) () λ_=>rfl) (.one (.set (.cons () (.cons (.min2 (.ixt (j:=1) (xs:=[.str "go",.int (t:Int)]) () () rfl)) .nil))))) (a (r':=.go (Nat.min t 2))))
 |ifr y g z t=>exact .seq b (.ite (k:=ac) (.cmp (x:=.str "if") (y:=.str "if") (.ixt (j:=0) () () rfl) () λ_=>rfl) (.one (.set (.adT (.tkT (i:=4) (xs:=[.str "if",opE y,.str g,opE z,.int (t:Int)]) () () (show 4<=5 by decide)) (.cons (.min2 (.ixt (j:=4) (xs:=[.str "if",opE y,.str g,opE z,.int (t:Int)]) () () rfl)) .nil) (show 4+1<=100000 by decide))))) (.seq b (.ite (k:=ae) (.cmp (x:=.str "if") (y:=.str "go") (.ixt (j:=0) () () rfl) () λ_=>rfl) .skip) (a (r':=.ifr y g z (Nat.min t 2))))
theorem UL{x0 x1 x2 x3 x4:Ot D}(e:s.length<=j):∀ {l:Li Rw}{y:Ot D}{st:Za}{a:Li D},Grw s st->st[j]?=aa (ac,a)->a.length+l.length<=900->∃ b st',Zh (λd U s=>ex F ZG (Zf U 6 d) s) (l.map rwE) [x0,x1,x2,x3,x4,jL j,y] st=aa (.nx [x0,x1,x2,x3,x4,jL j,b],st')/\Kj j st st'/\st'[j]?=aa (ac,a++(l.map cpR).map rwE)
 |[],y,st,a,k,c,_=>⟨y,st,rfl,Grw.refl.kj,by rw[dS,dS,bB];exact c⟩
 |r :: l,y,st,a,k,c,i=>by
  rw[aO]at i;obtain⟨s1,n,g1,h⟩:=ZbY (F:=F) (x0:=x0) (x1:=x1) (x2:=x2) (x3:=x3) (x4:=x4) (r:=r) e st a k c (by show _+1<=_;omega)
  obtain⟨b,g,m,g2,f⟩:=UL e (l:=l) (y:=aa (rwE (cpR r))) (g1.grw e k) h (by rw[aH];show _+1+_<=_;omega)
  refine⟨b,g,?_,g1.trans g2,by rw[bF]at f;exact f⟩
  show(match ex F ZG [x0,x1,x2,x3,x4,jL j,aa (rwE r)] st with
   |some (.nx U',st')=>Zh (λd U s=>ex F ZG (Zf U 6 d) s) (l.map rwE) U' st'
   |some (.ct U',st')=>Zh (λd U s=>ex F ZG (Zf U 6 d) s) (l.map rwE) U' st'
   |some (.bk U',st')=>aa (.nx U',st')
   |some (.rt v,st')=>aa (.rt v,st')
   |none=>ab)=_
  rw[n];exact m
def Zi2(c:Rs m rs):Rs m ((rs.drop (rs.length - 2)).map cpR):=by
 have e:=c.l;refine⟨by rw[aB,cF];omega,λr h=>?_⟩
 obtain⟨a,d,rfl⟩:=aR.mp h;have ok:=c.ok a (List.mem_of_mem_drop d);rw[aB,cF];have b:∀ {t:Nat},t<=rs.length->Nat.min t 2<=rs.length - (rs.length - 2):=λ{t} h=>by rw[show Nat.min t 2=min t 2 from rfl];omega
 cases a with
 |put x y g z=>exact ok
 |tell y=>exact ok
 |skip=>exact ok
 |go t=>exact b ok
 |ifr y g z t=>exact⟨ok.1,ok.2.1,ok.2.2.1,b ok.2.2.2⟩
def Zen{x0:Ot D}{l:Li Rw}(k:Y F (st++[(ac,[])]) e [x0,x1,x2,x3,x4,jL st.length,ab] (.tup (l.map rwE)))(w:l.length<=900)(m:∀ y t,t[st.length]?=aa (ac,(l.map cpR).map rwE)->Y F t a [x0,x1,x2,x3,x4,jL st.length,y] d):∃ f,ex F (.y 5 (.lstE .aN) (.seq (.for1 6 ae e ZG) (.seq (.ret a) q))) [x0,x1,x2,x3,x4,ab,ab] st=aa (.rt d,f)/\Grw st f:=by
 obtain⟨u,r,b⟩:=k _ .refl;obtain⟨g,c,p,j,n⟩:=UL (F:=F) (s:=st) (x0:=x0) (x1:=x1) (x2:=x2) (x3:=x3) (x4:=x4) (aD _) (l:=l) (y:=ab) (Grw.push.trans b) (b.get Zl) (by rw[cV];omega)
 obtain⟨h,o,i⟩:=m g c n c .refl;exact⟨h,(Zc (Zk (v:=.lst st.length) (st':=st++[(ac,[])]) rfl)).trans ((Zc ((for_tup r).trans p)).trans (Zj (ZR o))),((b.kj.trans j).grw (aD _) .push).trans i⟩
def Zg2(M:Tk tks)(H:tks.length<=m)(L:Rs m rs)(Q:rs.length<=4):∃ k B,Tk k/\k.length<=m/\Rs m B/\B.length<=4/\∀ s,C (rT (n+2)) s 287 [pgD (.tup (tks.map pdD)) m rs,.int c] (pgD (.tup (k.map pdD)) m B):=by
 have w:∀ {s:Za}{U:Env} (i:Nat) {d:D},U[0]?=aa (aa (pgD (.tup (tks.map pdD)) m rs))->[D.tup (tks.map pdD),.int (m:Int),.tup (rs.map rwE)][i]?=aa d->Y (rT (n+1)) s (.ix (.v 0) (.i (i:Int))) U d:=λi _ S o=>.ixt (.v S) () o
 have G:∀ s,Y (rT (n+1)) s (.or (.e (.len (.x 0 0)) (.i 0)) (.cmp .Gt (.m (.v 1) (.i 4)) (.i 1))) [aa (pgD (.tup (tks.map pdD)) m rs),jI c,ab,ab,ab,ab,ab] (.bl (aj (((tks.map pdD).length:Int)=0)||aj (1 < c % 4))):=λs=>.or (.eqi (.lnT (w 0 rfl rfl)) ()) λ_=>.gts (.md () () #[]) ()
 by_cases q:(aj (((tks.map pdD).length:Int)=0)||aj (1 < c % 4))=ac
 .rw[q]at G
  exact⟨tks,rs,M,H,L,Q,λs=>.of (v:=Yq) rfl rfl (.yes (G s) ())⟩
 rw[Bool.eq_false_iff.mpr q]at G;cases tks with
 |nil=>exact ar rfl q
 |cons p tks=>
  have K:=M.l;rw[aO]at K H;obtain⟨lo,N,A⟩:∃ lo,smI (c / 8)=lo/\Sm lo:=⟨_,rfl,Za8⟩;have F:∀ s,C (rT (n+1)) s 19 [.int (c / 8)] (.int lo):=λs=>N ▸ Vm
  by_cases z:c % 4=0
  .obtain⟨hi,P,J⟩:∃ hi,smI (c / 3 * 69621 % 2147483629)=hi/\Sm hi:=⟨_,rfl,Za8⟩
   have I:∀ s,C (rT (n+1)) s 19 [.int (c / 3 * 69621 % 2147483629)] (.int hi):=λs=>P ▸ Vm
   refine⟨(if hi < lo then hi else lo,if hi > lo then hi else lo) :: tks,rs,⟨K,λr h=>?_⟩,H,L,Q,λs=>.of (v:=Yq) rfl rfl (.no (G s) (.set (.call1 (.fd () () #[]) (F _)) (.pick (.eqi (.md () () #[]) ()) (λ_=>.set (.call1 (.md (.mul (.fd () () #[]) () rfl) () #[]) (I _)) (.ret (.cons (.adT (xs:=[pdD (if hi < lo then hi else lo,if hi > lo then hi else lo)]) (ys:=tks.map pdD) (.cons (.cons (g2 (x:=.int lo) (y:=.int hi) () () (gp λ_=>rfl)) (.cons (g2 (x:=.int lo) (y:=.int hi) () () (gp λ_=>rfl)) .nil)) .nil) (.dpT (i:=1) (xs:=(p :: tks).map pdD) (w 0 rfl rfl) () (by rw[aB];show 1<=_+1;omega)) (by rw[aB];show 1+_<=_;omega)) (.cons (w 1 rfl rfl) (.cons (w 2 rfl rfl) .nil))))) λh=>ar z (ak h))))⟩
   rcases aF.mp h with rfl|h
   .unfold Sm at *
    by_cases u:hi < lo
    .rw[ao u,aq ∅];exact⟨J,∅,A⟩
    .rw[aq u]
     split<;>exact⟨A,∅,∅⟩
   .exact M.b r (Lm _ h)
  .unfold Sm at A
   obtain⟨a,O,E⟩:∃ a:Int,(if (if (999999900:Int) < lo then 999999900 else lo) > -1000000000 then (if (999999900:Int) < lo then 999999900 else lo) else -1000000000)=a/\-1000000000<=a/\a<=999999900:=⟨_,rfl,by split<;>split<;>omega,by split<;>split<;>omega⟩
   have V:=Zp (c / 4) (j:=4) #[]
   obtain⟨o,T,b2⟩:∃ o,a+62+c / 4 % 4=o/\a<=o/\o<=999999999:=⟨_,rfl,∅,∅⟩
   refine⟨(a,o) :: af tks.length (1,1),(rs.drop (rs.length - 2)).map cpR,⟨by rw[aO,bV];exact K,λr h=>?_⟩,by rw[aO,bV];exact H,Zi2 L,by rw[aB,cF];omega,λs=>.of (v:=Yq) rfl rfl (.no (G s) (.set (.call1 (.fd () () #[]) (F _)) (.pick (.eqi (.md () () #[]) ()) (λh=>ar (am h) z) λ_=>.set (x:=.int a) (by
    rw[<-O];exact g2 (x:=.int (-1000000000)) (y:=.int (if (999999900:Int) < lo then 999999900 else lo)) () (g2 (x:=.int lo) (y:=.int 999999900) () () (gp λ_=>rfl)) (gp λ_=>rfl)) (.set (x:=pdD (a,o)) (by
    rw[<-T];exact .cons () (.cons (.add (.add () ()) (.md (.fd () () #[]) () #[])) .nil)) λst g=>Zen (l:=rs.drop (rs.length - 2)) ?_ (by rw[cF];omega) λy t R=>?_))))⟩
   .rcases aF.mp h with rfl|h
    .exact⟨⟨E.1,Int.le_trans E.2 #[]⟩,b2.1,Int.le_trans E.1 b2.1,b2.2⟩
    .rw[(List.mem_replicate.mp h).2];exact⟨⟨#[],#[]⟩,#[],#[],#[]⟩
   .rw[List.map_drop,<-aB (as:=rs) (f:=rwE)]
    exact .last2 (w 2 rfl rfl)
   .rw[show((a,o) :: af tks.length ((1:Int),(1:Int))).map pdD=[pdD (a,o)]++af tks.length (pdD (1,1)) from au _ eB]
    refine .cons (.adT (xs:=[pdD (a,o)]) (.cons () .nil) (.rep (i:=tks.length) (d:=pdD (1,1)) () ?_ ∅) (by rw[bV];show 1+_<=_;omega)) (.cons (w 1 rfl rfl) (.cons (.tof R ()) .nil))
    rw[show(tks.length:Int)=(((p :: tks).map pdD).length:Int) - 1 by rw[aB,aO];omega]
    exact .sub (.lnT (w 0 rfl rfl)) ()
end
def mrS(t:Li Int->Bool)(b:Li (Int×Int))(tr a:Li (Li Int)):Li (Li Int):=if (tr++a).any t=ac then a else a++((tdL b).find? t).toList
variable{ins:Li Int}
variable{α:Type}
section
variable{T1:α->Li Int->Bool}{acc:Li (Li Int)}
def Zgv(h:tr.any t=ac\/(tdL tks).find? t=ab):mrS t tks tr acc=acc:=by
 unfold mrS;split
 .rfl
 .rename_i c
  rcases h with h|h
  .rw[List.any_append,h,Bool.true_or]at c;exact ar rfl c
  .rw[h];exact bB _
def ZhD:(mrS t tks tr acc).length<=acc.length+1:=by
 unfold mrS;split
 .omega
 .rw[aH]
  cases (tdL tks).find? t with
  |none=>exact Nat.le_succ _
  |some _=>exact aD _
def Zjn(h:ins∈mrS t tks tr acc):ins∈acc\/ins∈tdL tks:=by
 unfold mrS at h;split at h
 .exact .inl h
 .rcases bA.mp h with h|h
  .exact .inl h
  .exact .inr (eZ (Option.mem_toList.mp h))
def Zdv(h:ins∈acc):ins∈mrS t tks tr acc:=by
 unfold mrS;split
 .exact h
 .exact dC _ h
theorem ZaS{ins:Li Int}:∀ {l:Li α}{acc:Li (Li Int)},ins∈acc->ins∈l.foldl (λa p=>mrS (T1 p) tks tr a) acc
 |[],_,h=>h
 |x :: l,_,h=>ZaS (l:=l) (Zdv (t:=T1 x) (tks:=tks) (tr:=tr) h)
theorem Zdt{p:α}:∀ {l:Li α}{acc:Li (Li Int)},p∈l->(tr++l.foldl (λa p=>mrS (T1 p) tks tr a) acc).any (T1 p)=ac\/(tdL tks).find? (T1 p)=ab
 |x :: l,acc,h=>by
  rcases aF.mp h with rfl|h
  .have up:∀ {ins:Li Int},ins∈tr++mrS (T1 p) tks tr acc->T1 p ins=ac->(tr++(p :: l).foldl (λa p=>mrS (T1 p) tks tr a) acc).any (T1 p)=ac:=λ{ins} h b=>dI.mpr ⟨ins,(bA.mp h).elim (dC _) λh=>bO _ (ZaS (l:=l) h),b⟩
   by_cases c:(tr++acc).any (T1 p)=ac
   .obtain⟨ins,hi,b⟩:=dI.mp c
    exact .inl (up (bA.mpr ((bA.mp hi).imp_right Zdv)) b)
   .cases q:(tdL tks).find? (T1 p) with
    |none=>exact .inr rfl
    |some ins=>exact .inl (up (bO _ (by unfold mrS;rw[aq c,q];exact bO _ Ls)) (List.find?_some q))
  .exact Zdt (l:=l) h
theorem Zdu:∀ {l:Li α},(∀ p∈l,tr.any (T1 p)=ac\/(tdL tks).find? (T1 p)=ab)->l.foldl (λa p=>mrS (T1 p) tks tr a) acc=acc
 |[],_=>rfl
 |x :: l,h=>by
  rw[List.foldl_cons,Zgv (h x Ls)];exact Zdu λp b=>h p (Lm _ b)
end
variable{J:Env->Za->Prop}
section
variable{acc:Li (Li Int)}
def KX(F:Nat->Fn)(q:CS)(U:Env)(st:Za)(J:Env->Za->Prop):Prop:=∃ a st',ex F q U st=aa (.nx a,st')/\J a st'
def KX.set(h:Y F st e U d)(c:∀ t,Grw st t->KX F q (Zf U i d) t J):KX F (.y i e q) U st J:=by
 obtain⟨t,j,b⟩:=h st .refl;obtain⟨k,a,g,f⟩:=c t b;exact⟨k,a,(Zc (Zk j)).trans g,f⟩
def KX.iff{c:Bool}(h:Y F st e U (.bl c))(i:c=ac->∀ t,Grw st t->KX F p U t J)(g:c=ae->∀ t,Grw st t->J U t):KX F (.z (.ite e p .skip)) U st J:=by
 obtain⟨t,b,a⟩:=h st .refl;cases c with
 |false=>exact⟨U,t,(Zc ((X9 b).trans Zi)).trans Zi,g rfl t a⟩
 |true=>
  obtain⟨k,d,j,f⟩:=i rfl t a;exact⟨k,d,(Zc ((Yl b).trans j)).trans Zi,f⟩
theorem Zjl{α β:Type}{u v:α->D}{J:Nat->β->Env->Za->Prop}{g:β->α->β}:∀ {l:Li α}{k:Nat},k+l.length<=N->(∀ x∈l,∀ k b U st,k < N->J k b U st->KX F q (Zf (Zf U i (u x)) i' (v x)) st (J (k+1) (g b x)))->∀ b U st,J k b U st->∃ f st',Yg (λ_=>True) (λx y U s=>ex F q (Zf (Zf U i x) i' y) s) (l.map λx=>(u x,v x)) U st=aa (.nx f,st')/\J (k+l.length) (l.foldl g b) f st'
 |[],k,_,_,b,U,st,h=>⟨U,st,ao trivial,h⟩
 |x :: l,k,n,d,b,U,st,h=>by
  rw[aO]at n ⊢;obtain⟨c,s1,r,o⟩:=d x Ls k b U st ∅ h
  obtain⟨a,j,p,e⟩:=Zjl (l:=l) (k:=k+1) ∅ (λz m=>d z (Lm _ m)) _ c s1 o
  rw[Nat.add_right_comm]at e;exact⟨a,j,by rw[aQ,Yg,ao trivial];simp only[r];exact p,e⟩
theorem Zjh{α β:Type}{u:α->D}{J:Nat->β->Env->Za->Prop}{g:β->α->β}:∀ {l:Li α}{k:Nat},k+l.length<=N->(∀ x∈l,∀ k b U st,k < N->J k b U st->KX F q (Zf U i (u x)) st (J (k+1) (g b x)))->∀ b U st,J k b U st->∃ j st',Zh (λd U s=>ex F q (Zf U i d) s) (l.map u) U st=aa (.nx j,st')/\J (k+l.length) (l.foldl g b) j st'
 |[],k,_,_,b,U,st,h=>⟨U,st,rfl,h⟩
 |x :: l,k,o,e,b,U,st,h=>by
  rw[aO]at o ⊢;obtain⟨c,s1,t,p⟩:=e x Ls k b U st ∅ h
  obtain⟨a,m,r,f⟩:=Zjh (l:=l) (k:=k+1) ∅ (λz n=>e z (Lm _ n)) _ c s1 p
  rw[Nat.add_right_comm]at f;exact⟨a,m,by rw[aQ,Zh];simp only[t];exact r,f⟩
structure Mr(s:Za)(tks:List (Int×Int))(j k:Nat)(acc:List (List Int))(st:Za):Prop where
 g:Grw s st
 at':st[j]?=aa (ac,acc.map inT)
 le:acc.length<=k
 ok:∀ ins∈acc,ins∈tdL tks
def Mr.grw(h:Mr s tks j k acc st)(g:Grw st st'):Mr s tks j k acc st':=⟨h.g.trans g,g.get h.at',h.le,h.ok⟩
def Mr.up(h:Mr s tks j k acc st):Mr s tks j (k+1) acc st:=⟨h.g,h.at',Nat.le_succ_of_le h.le,h.ok⟩
theorem Mr.app(h:Mr s tks j k acc st)(d:s.length<=j)(hi:U[i]?=aa (jL j))(f:Y F st e U (inT ins))(c:ins∈tdL tks)(n:k<=800):∃ t,ex F (.app i e) U st=aa (.nx U,t)/\Mr s tks j (k+1) (acc++[ins]) t:=by
 have:=h.le;obtain⟨t,m,a,l⟩:=Ap.app (F:=F) (s:=st) (i:=i) hi f st (acc.map inT) .refl h.at' (by rw[aB];show _+1<=_;omega)
 exact⟨t,m,a.grw d h.g,by rw[bP];exact l,by rw[aH];exact Nat.succ_le_succ this,λx b=>(bA.mp b).elim (h.ok x) λz=>by rw[aP.mp z];exact c⟩
theorem ZcI{k:Nat}:∀ {k:Nat}{l:Li (Li Int)},Zcw .Is (((fT t k l).map iN).getD .non) .non st=aa (!l.any t)
 |k,[]=>rfl
 |k,x :: l=>by
  unfold fT;rw[cG];cases t x with
  |true=>rfl
  |false=>exact ZcI (k:=k)
def Zf4{u:Ot D}{p:Nat×Str×Rw}(b:Rs m rs)(H:m<=1000)(M:L<=800)(K:Tk tks)(Z:tks.length<=m)(G:p∈fkL rs)(hd:Vd (tel m rs (rs.set p.1 p.2.2) L) tks tr d)(I:s.length<=j)(hk:k<=700)(h:Mr s tks j k acc st):KX (rT (n+9)) ZY [aa (pgD tk m rs),x1,jN L,jL j,aa (tD p),aa d,u] st λU t=>(∃ y w u,U=[aa (pgD tk m rs),x1,jN L,jL j,y,w,u])/\Mr s tks j (k+1) (mrS (tel m rs (rs.set p.1 p.2.2) L) tks tr acc) t:=by
 obtain⟨P,O⟩:=U4 b G;have X:=b.l;cases hd with
 |no x T E o=>
  rw[Zgv o];exact .iff (c:=ae) (.cmp (x:=.str x) (.ixt (j:=0) () () rfl) () λ_=>by show aa (aj (x=S "found"))=_;rw[aG E]) (λq=>nomatch q) λ_ t g=>⟨⟨_,_,_,rfl⟩,(h.grw g).up⟩
 |f ins v J o=>
  refine .iff (c:=ac) (.cmp (x:=.str "found") (.ixt (j:=0) () () rfl) () λ_=>by show aa (aj (S "found"=S "found"))=_;rw[aK rfl]) (λ_ W C=>.set (.call (xs:=[pgD tk m rs,.int (p.1:Int),rwE p.2.2]) (.cons () (.cons (.ixt (j:=0) (xs:=[.int (p.1:Int),.str p.2.1,rwE p.2.2]) () () rfl) (.cons (.ixt (j:=2) (xs:=[.int (p.1:Int),.str p.2.1,rwE p.2.2]) () () rfl) .nil))) (QA (n:=n+7) P ∅)) λV B=>?_) λq=>nomatch q
  have a:=h.grw (C.trans B);unfold mrS;rw[List.any_append,J,Bool.false_or,o];refine .iff (.cmp (.call (xs:=[pgD tk m rs,pgD tk m (rs.set p.1 p.2.2),.lst j,.int (L:Int)]) () (Zah (n:=n) (l:=acc) (λst g=>⟨λs=>s[j]?=aa (ac,acc.map inT),by unfold Zbl;simp only[g.get a.at'],λ_ Q=>Q.get (g.get a.at')⟩) b (b.set (k:=p.1) O) H (λins hi=>by obtain⟨Y,o2⟩:=YT K ins (a.ok ins hi);exact⟨∅,o2⟩) M)) () λ_=>ZcI (k:=0)) (λq t g=>?_) λq t g=>?_
  .rw[aq (λz=>by rw[z]at q;cases q)]
   obtain⟨A,R,N⟩:=(a.grw g).app (F:=rT (n+9)) (U:=[aa (pgD tk m rs),x1,jN L,jL j,aa (tD p),aa (.tup [.str "found",inT ins,v]),aa (pgD tk m (rs.set p.1 p.2.2))]) (i:=3) (e:=.x 5 1) I rfl (.ixt (j:=1) (xs:=[.str "found",inT ins,v]) () () rfl) (eZ o) ∅
   exact⟨_,A,(Zc R).trans Zi,⟨_,_,_,rfl⟩,N⟩
  .rw[ao (by cases z:acc.any _ with|true=>rfl|false=>rw[z]at q;cases q)]
   exact⟨⟨_,_,_,rfl⟩,(a.grw g).up⟩
def ZgU(w:Rs m rs)(G:m<=1000)(I:L<=800)(H:Tk tks)(E:tks.length<=m)(D:∀ p∈fkL rs,Vd (tel m rs (rs.set p.1 p.2.2) L) tks tr (vd p)):C (rT (n+10)) s 289 [pgD tk m rs,.tup ((fkL rs).map vd),.int (L:Int)] (.tup (((fkL rs).foldl (λa p=>mrS (tel m rs (rs.set p.1 p.2.2) L) tks tr a) []).map inT)):=.of (v:=Yw) rfl rfl λst g=>by
 have Q:=w.l;have S:=WF (rs:=rs);obtain⟨B,P,z⟩:=Y.cons (F:=rT (n+9)) (s:=st++[(ac,[])]) (a:=.call 172 (.s 0) []) (b:=.a 1 .aN) (x:=.tup ((fkL rs).map tD)) (xs:=[.tup ((fkL rs).map vd)]) (U:=[aa (pgD tk m rs),aa (.tup ((fkL rs).map vd)),jN L,jL st.length,ab,ab,ab]) (.call1 () (UN (n:=n+5) (tk:=tk) w)) () (by show 1 < 1000;decide) _ .refl
 obtain⟨T,y,O,K,o⟩:=Zjl (F:=rT (n+9)) (N:=700) (k:=0) (i:=4) (i':=5) (q:=ZY) (u:=tD) (v:=vd) (J:=λk acc U st'=>(∃ j e d,U=[aa (pgD tk m rs),aa (.tup ((fkL rs).map vd)),jN L,jL st.length,j,e,d])/\Mr st tks st.length k acc st') (g:=λa p=>mrS (tel m rs (rs.set p.1 p.2.2) L) tks tr a) (l:=fkL rs) ∅ (λp A k acc U st' R ⟨⟨j,e,d,t⟩,o⟩=>by
  subst t;exact Zf4 w G I H E A (D p A) (aD _) ∅ o) [] _ B ⟨⟨ab,ab,ab,rfl⟩,Grw.push.trans z,z.get Zl,aD _,λ_ h=>nomatch h⟩
 obtain⟨j,e,d,rfl⟩:=K;have M:ex (rT (n+9)) (.forP 4 5 (.aC (.f 172 (.s 0)) (.s 1)) ZY) [aa (pgD tk m rs),aa (.tup ((fkL rs).map vd)),jN L,jL st.length,ab,ab,ab] (st++[(ac,[])])=aa (.nx [aa (pgD tk m rs),aa (.tup ((fkL rs).map vd)),jN L,jL st.length,j,e,d],y):=by
  show QS 4 5 (ev (rT (n+9)) _) (ex (rT (n+9)) _) _ _=_;unfold QS;rw[P];show Yg _ _ (((fkL rs).map tD).zip ((fkL rs).map vd)) _ _=_;rw[List.zip_map'];exact O
 exact⟨y,(Zc (Zk (v:=.lst st.length) (st':=st++[(ac,[])]) rfl)).trans ((Zc M).trans (Zj (ZR (YE (c:=(ac,_)) rfl o.at')))),o.g⟩
end
variable{cnd elt:CE}
section
variable{acc:Li (Li Int)}
theorem Lv.call(i:Y F s a U (.tup xs))(h:Lv s (F f (xs++ds)) ys):Lv s (ev F (.call f a ds) U) ys:=λst g=>by
 obtain⟨s1,m,c⟩:=i st g;obtain⟨d,j,b,l,k,e⟩:=h s1 (g.trans c);exact⟨d,j,b,by show Zo (ev F a) (Vb (F f) ds) U st=_;unfold Zo;rw[m];exact l,k,c.trans e⟩
def Y.lastL(h:Lv s (ev F a U) xs)(e:xs≠[])(f:xs.length<=100000):Y F s (.ix a (.neg (.i 1))) U (xs.getLastD .non):=λst g=>by
 obtain⟨s1,j,b,l,k,c⟩:=h st g;refine⟨s1,?_,c⟩;show ZQ (ev F a) (ev F (.neg (.i 1))) ixR U st=_;unfold ZQ;simp only[l];show(match (match s1[j]? with
  |some (_,xs)=>atD xs (-1)
  |none=>ab) with|some d=>aa (d,s1)|none=>ab)=_
 rw[k];show(match atD xs (-1) with|some d=>aa (d,s1)|none=>ab)=_
 rw[Zap e f]
def Zam(o:Rs m rs)(b:Rs m rs')(d:m<=1000)(e:L<=800)(hi:ins.length<=m)(c:∀ v∈ins,Sm v):C (rT (n+5)) s 291 [pgD tk m rs,pgD tk m rs',inT ins,.int (L:Int)] (.bl (tel m rs rs' L ins)):=by
 obtain⟨i,g,l⟩:=WP (rs:=rs) (n:=L) (k:=0) (vs:=v0 m ins);obtain⟨h,f,j⟩:=WP (rs:=rs') (n:=L) (k:=0) (vs:=v0 m ins);have a:∀ {rs:Li Rw},trL m rs L ins≠[]/\(trL m rs L ins).length<=100000:=λ{rs}=>⟨cR _ _,by unfold trL;rw[aO];have:=Uh (rs:=rs) (M:=L) (k:=0) (vs:=v0 m ins);omega⟩
 rw[show tel m rs rs' L ins=!Zs i h by unfold tel;rw[g,f];rfl]
 refine .of (v:=Xm) rfl rfl (.ret (.ned ?_ ?_ l j))
 .rw[<-g,<-Zbh];exact .lastL (.call (xs:=[pgD tk m rs,inT ins,.int (L:Int)]) () (Zan o d hi c e)) a.1 a.2
 .rw[<-f,<-Zbh];exact .lastL (.call (xs:=[pgD tk m rs',inT ins,.int (L:Int)]) () (Zan b d hi c e)) a.1 a.2
def Y.eqnil(h:Lv s (ev F a U) xs):Y F s (.e a (.lstE .aN)) U (.bl xs.isEmpty):=λst g=>by
 obtain⟨s1,j,b,l,i,f⟩:=h st g;refine⟨s1++[(ac,[])],?_,f.trans .push⟩;show ZQ (ev F a) (ev F (.lstE .aN)) (ZbG .Eq) U st=_;unfold ZQ;simp only[l];show(match (o2 (λ(c d:XA)=>JK c.2 d.2) (s1++[(ac,[])])[j]? (s1++[(ac,[])])[s1.length]?).join with|some k=>aa (D.bl k,s1++[(ac,[])])|none=>ab)=_
 rw[Grw.push.get i,Zl];cases xs<;>rfl
def Wk.lv(h:Lv s (ev F e U) xs):Wk F s e U (Yx ae) xs:=λst g=>by
 obtain⟨s1,j,b,i,a,d⟩:=h st g;refine⟨.lst j,s1,λs=>s[j]?=aa (b,xs),i,d,?_,λst' f=>f.get a⟩
 show(match s1[j]? with
  |some c=>aa (c.2,λs=>s[j]?=aa c)
  |none=>ab)=_
 rw[a]
def Lv.lof(h:Y F s a U (.tup xs)):Lv s (ev F (.listOf a) U) xs:=λst g=>by
 obtain⟨s1,c,b⟩:=h st g;exact⟨_,_,_,by show Zo (ev F a) ZaJ U st=_;unfold Zo;rw[c];rfl,Zl,b.trans .push⟩
def Lv.filt{b:D->Li (Ot D)}{en g:α->D}{c:α->Bool}{l:Li α}(hi:Wk F s it U wk (l.map en))(j:l.length<=1000)(o:∀ a∈l,Y F s cnd (ZP b U fr (en a)) (.bl (c a)))(n:∀ a∈l,c a=ac->Y F s elt (ZP b U fr (en a)) (g a)):Lv s (Yj b wk fr (ev F it) (ev F elt) (ev F cnd) U) ((l.filter c).map g):=λst k=>by
 obtain⟨x,s1,ok,r,e,q,i⟩:=hi st k;obtain⟨t,p,h⟩:=WB (s:=s1) (fe:=λd=>ev F elt (ZP b U fr d)) (fc:=λd=>ev F cnd (ZP b U fr d)) i (λa f=>Gv.mono (o a f) (k.trans e)) (λa f m=>Gv.mono (n a f m) (k.trans e)) s1 .refl
 exact⟨_,_,_,QK r q (by rw[aB];exact j) p,Zl,(e.trans h).trans .push⟩
theorem U3{g:Li Int->D}:∀ {l:Li (Li Int)},((l.filter t).map g).isEmpty=!l.any t
 |[]=>rfl
 |x :: l=>by
  rw[cG];cases c:t x with
  |true=>rw[List.filter_cons_of_pos c];rfl
  |false=>rw[List.filter_cons_of_neg (by rw[c];decide),U3];rfl
def KX.setL(h:Lv st (ev F e U) xs)(d:∀ t w b,Grw st t->t[w]?=aa (b,xs)->KX F q (Zf U i (.lst w)) t J):KX F (.y i e q) U st J:=by
 obtain⟨t,w,b,k,g,c⟩:=h st .refl;obtain⟨U',a,j,f⟩:=d t w b c g;exact⟨U',a,(Zc (Zk k)).trans j,f⟩
def Zeq(h:ex F q U st=aa (.bk U',st')):ex F (.seq q q') U st=aa (.bk U',st'):=by
 show YR (ex F q) (ex F q') U st=_;unfold YR;rw[h]
theorem ZiY{x1 x5 y8:Ot D}(A:Rs m rs)(l:Rs m rs')(B:m<=1000)(H:L<=800)(G:Tk tks)(N:tks.length<=m)(hi:s[i]?=aa (bb,(tdL tks).map inT))(E:s.length<=j)(C:k<=800):∀ (M a:Nat) (U:Env) (st:Za),a+M=(tdL tks).length->Mr s tks j k acc st->(∃ y,U=[aa (pgD tk m rs),x1,jL i,jN L,jL j,x5,aa (pgD tk m rs'),y,y8])->∃ U' st',ZA (λd U s=>ex (rT (n+5)) Yy (Zf U 7 d) s) i M a U st=aa (.nx U',st')/\(∃ y,U'=[aa (pgD tk m rs),x1,jL i,jN L,jL j,x5,aa (pgD tk m rs'),y,y8])/\Mr s tks j (k+1) (acc++(((tdL tks).drop a).find? (tel m rs rs' L)).toList) st'
 |0,a,U,st,h,q,b=>⟨U,st,by unfold ZA;rw[q.g.get hi];exact ao (by rw[aB];omega),b,by
  rw[dH ∅]
  show Mr s tks j (k+1) (acc++[]) st;rw[bB];exact q.up⟩
 |M+1,a,U,st,h,q,⟨y,b⟩=>by
  have u:a < (tdL tks).length:=by omega
  have o:=cM u;obtain⟨Q,o2⟩:=YT G _ o;have es:Zf U 7 (inT (tdL tks)[a])=[aa (pgD tk m rs),x1,jL i,jN L,jL j,x5,aa (pgD tk m rs'),aa (inT (tdL tks)[a]),y8]:=by rw[b];rfl
  have I:Y (rT (n+5)) st (.f 291 (.a 0 (.a 6 (.a 7 (.s 3))))) (Zf U 7 (inT (tdL tks)[a])) (.bl (tel m rs rs' L (tdL tks)[a])):=by
   rw[es];exact .call (xs:=[pgD tk m rs,pgD tk m rs',inT (tdL tks)[a],.int (L:Int)]) () (Zam (n:=n) A l B H ∅ o2)
  obtain⟨z,t,J⟩:=I st .refl;have p:=q.grw J;have K:((tdL tks).map inT)[a]?=aa (inT (tdL tks)[a]):=by rw[aT,Lg u];rfl
  rw[bR u,cL];unfold ZA;simp only[q.g.get hi,K];cases c:tel m rs rs' L (tdL tks)[a] with
  |true=>
   rw[c]at t;obtain⟨x,P,O⟩:=p.app (F:=rT (n+5)) (U:=Zf U 7 (inT (tdL tks)[a])) (i:=4) (e:=.v 7) E (by rw[es];rfl) (by rw[es];exact .r rf) o C
   have w:ex (rT (n+5)) Yy (Zf U 7 (inT (tdL tks)[a])) st=aa (.bk (Zf U 7 (inT (tdL tks)[a])),x):=Zeq ((Yl t).trans ((Zc P).trans (Zeq rfl)));exact⟨_,x,by rw[w],⟨_,es⟩,O⟩
  |false=>
   rw[c]at t;have w:ex (rT (n+5)) Yy (Zf U 7 (inT (tdL tks)[a])) st=aa (.nx (Zf U 7 (inT (tdL tks)[a])),z):=(Zc ((X9 t).trans Zi)).trans Zi;rw[w];exact ZiY A l B H G N hi E C M (a+1) _ z ∅ p ⟨_,es⟩
def ZeU{E u y8:Ot D}{p:Nat×Str×Rw}(o:Rs m rs)(N:m<=1000)(P:L<=800)(O:Tk tks)(V:tks.length<=m)(W:p∈fkL rs)(H:∀ ins∈tr,ins.length<=m/\∀ v∈ins,Sm v)(h10:tr.length<=10)(hi:s[i]?=aa (bb,(tdL tks).map inT))(X:s.length<=j)(hk:k<=700)(h:Mr s tks j k acc st):KX (rT (n+5)) Xk [aa (pgD tk m rs),aa (.tup (tr.map inT)),jL i,jN L,jL j,aa (tD p),E,u,y8] st λU t=>(∃ R E u y8,U=[aa (pgD tk m rs),aa (.tup (tr.map inT)),jL i,jN L,jL j,R,E,u,y8])/\Mr s tks j (k+1) (mrS (tel m rs (rs.set p.1 p.2.2) L) tks tr acc) t:=by
 obtain⟨h1,h2⟩:=U4 o W;have rl:=o.l;have M:=o.set (k:=p.1) h2;have ly:(rs.map rwE).length=rs.length:=aB ..;have e:pgD tk m (rs.set p.1 p.2.2)=.tup ([tk,.int (m:Int),.tup (rs.map rwE)].take 2++[.tup (((rs.map rwE).take p.1++[rwE p.2.2])++(rs.map rwE).drop (p.1+1))]):=by
  have:=(List.set_eq_take_append_cons_drop (l:=rs.map rwE) (a:=rwE p.2.2) (i:=p.1)).trans (ao ∅)
  rw[bF,List.singleton_append,<-this,<-eC];rfl
 have J:∀ {U:Env},U[5]?=aa (aa (tD p))->Y (rT (n+5)) st (.x 5 0) U (.int (p.1:Int)):=λh=>.ixt (j:=0) (xs:=[.int (p.1:Int),.str p.2.1,rwE p.2.2]) (.v h) () rfl
 have I:∀ {U:Env},U[0]?=aa (aa (pgD tk m rs))->Y (rT (n+5)) st (.x 0 2) U (.tup (rs.map rwE)):=λh=>.ixt (j:=2) (xs:=[tk,.int (m:Int),.tup (rs.map rwE)]) (.v h) () rfl
 refine .set (d:=pgD tk m (rs.set p.1 p.2.2)) ?_ λt1 T=>?_
 .rw[e]
  exact .adT (.tkT (i:=2) (xs:=[tk,.int (m:Int),.tup (rs.map rwE)]) () () (show 2<=3 by decide)) (.cons (.adT (.adT (.tkT (I rfl) (J rfl) ∅) (.cons (.ixt (j:=2) (xs:=[.int (p.1:Int),.str p.2.1,rwE p.2.2]) () () rfl) .nil) (by rw[cI];show _+1<=_;omega)) (.dpT (i:=p.1+1) (I rfl) (by rw[bE];exact .add (J rfl) ()) ∅) (by rw[aH,cI,cF];show _+1+_<=_;omega)) .nil) (show 2+1<=100000 by decide)
 have C:=h.grw T;have tl:=h.le;have all:∀ ins∈tr++acc,ins.length<=m/\∀ v∈ins,Sm v:=λins B=>(bA.mp B).elim (H ins) λz=>by obtain⟨o1,o2⟩:=YT O ins (h.ok ins z);exact⟨∅,o2⟩
 refine .setL (e:=WD) (Lv.filt (b:=one) (wk:=Yx ae) (en:=inT) (g:=λ_=>.int 1) (c:=tel m rs (rs.set p.1 p.2.2) L) (l:=tr++acc) (.lv (by rw[bP];exact .cat (.lof ()) (.v C.at' ()) (by rw[aB,aB];unfold Zt;omega))) (by rw[aH];omega) (λins B=>.call (xs:=[pgD tk m rs,pgD tk m (rs.set p.1 p.2.2),inT ins,.int (L:Int)]) () (Zam (n:=n) o M N P (all ins B).1 (all ins B).2)) λ_ _ _=>.r rf) λt2 w b F c2=>.iff (.eqnil (.v c2 ())) (λq K A=>?_) λq K A=>?_
 .rw[U3]at q
  unfold mrS;rw[aq (λz=>by rw[z]at q;cases q)]
  obtain⟨U',S,Q,G,Z⟩:=ZiY (n:=n) (tk:=tk) (x1:=aa (.tup (tr.map inT))) (x5:=aa (tD p)) (y8:=jL w) o M N P O V hi X ∅ (tdL tks).length 0 _ K (bK _) (C.grw (F.trans A)) ⟨u,rfl⟩
  rw[<-aB (as:=tdL tks) (f:=inT)]at Q;exact⟨U',S,(Zc ((WG (e:=.v 2) rfl ((C.grw (F.trans A)).g.get hi)).trans Q)).trans Zi,by obtain⟨y,h⟩:=G;exact⟨_,_,_,_,h⟩,Z⟩
 .rw[U3]at q
  unfold mrS;rw[ao (by cases z:(tr++acc).any _ with|true=>rfl|false=>rw[z]at q;cases q)]
  exact⟨⟨_,_,_,_,rfl⟩,(C.grw (F.trans A)).up⟩
def ZiQ(w:Rs m rs)(E:m<=1000)(H:L<=800)(G:Tk tks)(C:tks.length<=m)(t:∀ ins∈tr,ins.length<=m/\∀ v∈ins,Sm v)(y:tr.length<=10)(hi:s[i]?=aa (bb,(tdL tks).map inT)):Lv s (rT (n+6) 38 [pgD tk m rs,.tup (tr.map inT),.lst i,.int (L:Int)]) (((fkL rs).foldl (λa p=>mrS (tel m rs (rs.set p.1 p.2.2) L) tks tr a) []).map inT):=λst g=>by
 have O:=w.l;have Q:=WF (rs:=rs);obtain⟨B,M,z⟩:=Y.call1 (F:=rT (n+5)) (s:=st++[(ac,[])]) (f:=172) (a:=.v 0) (x:=pgD tk m rs) (U:=[aa (pgD tk m rs),aa (.tup (tr.map inT)),jL i,jN L,jL st.length,ab,ab,ab,ab]) () (UN (n:=n+1) (tk:=tk) w) _ .refl;obtain⟨U',A,K,I,b⟩:=Zjh (F:=rT (n+5)) (N:=700) (k:=0) (i:=5) (q:=Xk) (u:=tD) (J:=λk acc U st'=>(∃ j e d c,U=[aa (pgD tk m rs),aa (.tup (tr.map inT)),jL i,jN L,jL st.length,j,e,d,c])/\Mr st tks st.length k acc st') (g:=λa p=>mrS (tel m rs (rs.set p.1 p.2.2) L) tks tr a) (l:=fkL rs) ∅ (λp D k acc U st' P ⟨⟨j,e,d,c,o⟩,b⟩=>by
  subst o;exact ZeU w E H G C D t y (g.get hi) (aD _) ∅ b) [] _ B ⟨⟨ab,ab,ab,ab,rfl⟩,Grw.push.trans z,z.get Zl,aD _,λ_ h=>nomatch h⟩
 obtain⟨j,e,d,c,rfl⟩:=I;exact⟨A,_,_,W8 (v:=Wl) rfl rfl ((Zc (Zk (v:=.lst st.length) (st':=st++[(ac,[])]) rfl)).trans ((Zc ((for_tup M).trans K)).trans (Zj (ZR rfl)))),b.at',b.g⟩
end
def mrL(m:Nat)(rs:Li Rw)(L:Nat)(b:Li (Int×Int))(tr:Li (Li Int)):Li (Li Int):=(fkL rs).foldl (λa p=>mrS (tel m rs (rs.set p.1 p.2.2) L) b tr a) []
variable{Q1:D->Za->Prop}
section
variable{acc:Li (Li Int)}
def Y.repT(e:Y F s a U (.tup [d]))(c:Y F s b U (.int (i:Int)))(h:i<=1000):Y F s (.h a b) U (.tup (af i d)):=g2 e c (gp λst=>by
 show(if (i:Int)<=1000/\-1000<=(i:Int) then aa (D.tup (af (i:Int).toNat d),st) else ab)=_
 rw[ao ⟨∅,∅⟩,bD])
def Lv.filt0{b:D->Li (Ot D)}{en:α->D}{l:Li α}(hi:Wk F s it U wk (l.map en))(d:l.length<=1000)(e:∀ a∈l,Y F s cnd (ZP b U fr (en a)) (.bl ae)):Lv s (Yj b wk fr (ev F it) (ev F elt) (ev F cnd) U) []:=by
 have:=Lv.filt (elt:=elt) (g:=λ_=>.non) (c:=λ_=>ae) hi d e λ_ _ h=>nomatch h
 rw[show l.filter (λ_=>ae)=[] from List.filter_eq_nil_iff.mpr λ_ _=>by decide]at this
 exact this
def Y.nel(n:Lv s (ev F a U) xs)(m:Lv s (ev F b U) xs)(ok:Ya 7 xs=ac):Y F s (.cmp .NotEq a b) U (.bl ae):=λst g=>by
 obtain⟨s1,j,_,r,p,i⟩:=n st g;obtain⟨e,l,_,q,o,f⟩:=m s1 (g.trans i);refine⟨e,?_,i.trans f⟩;show ZQ (ev F a) (ev F b) (ZbG .NotEq) U st=_;unfold ZQ;simp only[r,q];show(match ((o2 (λ(c d:XA)=>JK c.2 d.2) e[j]? e[l]?).join).map Bool.not with|some k=>aa (D.bl k,e)|none=>ab)=_
 rw[f.get p,o];show(match (JK xs xs).map Bool.not with|some k=>aa (D.bl k,e)|none=>ab)=_
 unfold JK;cases xs with
 |nil=>rfl
 |cons x xs=>
  rw[aq (c:=((x :: xs).isEmpty||(x :: xs).isEmpty)=ac) (λh=>nomatch h),ao (by rw[ok];rfl),X0 ok];rfl
def Zjr:Ya 7 (l.map inT)=ac:=Ql λ_ _=>Qk (w:=6)
def ZeJ{v:Int}:C (rT (n+1)) s 17 [.int v] (.bl ac):=.of (v:=Xo) rfl rfl (.ret ())
def ZeH(h:∀ ins∈l,ins.length<=600):C (rT (n+2)) s 246 [.tup (l.map inT)] (.bl ac):=by
 have:=R.seekD (F:=rT (n+1)) (s:=s) (i:=1) (it:=.v 0) (q:=XC) (p:=.seq (.ret (.c (.bl ac))) .skip) (en:=inT) (l:=l) (f:=λ_=>ab) (E:=λy=>[aa (.tup (l.map inT)),y]) (y:=ab) (d:=.bl ac) (λ_ _=>rfl) () (λins hi=>.ite (d:=.bl ae) (t:=ae) (.or (k:=ae) (m:=ae) (.not (k:=ac) ()) λ_=>.nel (.filt0 (.of (x:=inT ins) () λ_=>rfl) (by have:=h ins hi;omega) λv _=>.not (k:=ac) (.call1 (x:=.int v) () ZeJ)) (.mk .nil) rfl) (λq=>nomatch q) λ_=>.skip) λy=>.ret ()
 rw[Za6 λ_ _=>rfl]at this
 exact .of (v:=Xl) rfl rfl (.no (.not (k:=ac) ()) this)
def Zek(a:Rs m rs)(u:rs.length<=4)(l:m<=4)(hN:Tk tks)(i:tks.length<=m)(o:L<=800)(e:tr.length<=10)(j:∀ ins∈tr,ins.length<=m/\∀ v∈ins,Sm v):∃ vd:Nat×Str×Rw->D,(∀ p∈fkL rs,Vd (tel m rs (rs.set p.1 p.2.2) L) tks tr (vd p))/\∀ s,C (rT (n+11)) s 283 [pgD (.tup (tks.map pdD)) m rs,.tup (tr.map inT),.int (L:Int)] (.tup ((fkL rs).map vd)):=by
 have g:(rs.length+1) * (rs.length+1)<=5 * 5:=dP ∅ ∅
 have q:2 ^ m * ((rs.length+1) * (rs.length+1))<=2 ^ 4 * 25:=dP (Nat.pow_le_pow_right #[] l) g
 obtain⟨vd,f⟩:=Classical.axiomOfChoice (r:=λ(p:Nat×Str×Rw) (d:D)=>p∈fkL rs->Vd (tel m rs (rs.set p.1 p.2.2) L) tks tr d/\∀ s,C (rT (n+10)) s 282 [pgD (.tup (tks.map pdD)) m rs,pgD (.tup (tks.map pdD)) m (rs.set p.1 p.2.2),.tup (tr.map inT),.int (L:Int)] d) λp=>by
  by_cases c:p∈fkL rs
  .obtain⟨w,t⟩:=U4 a c
   obtain⟨d,h⟩:=Zbt (n:=n) (sz:=rs.length) a (a.set (k:=p.1) t) rfl bJ ∅ ∅ (aM q #[]) hN i o j
   exact⟨d,λ_=>h⟩
  .exact⟨.non,λh=>ar h c⟩
 exact⟨vd,λp b=>(f p b).1,λs=>Jo a e λp b=>(f p b).2⟩
def ZiJ(c:Rs m rs)(h:rs.length<=4)(g:m<=4)(hN:Tk tks)(b:tks.length<=m)(d:L<=800)(a:tr.length<=10)(f:∀ ins∈tr,ins.length<=m/\∀ v∈ins,Sm v):C (rT (n+12)) s 290 [pgD (.tup (tks.map pdD)) m rs,.tup (tr.map inT),.int (L:Int)] (.tup ((mrL m rs L tks tr).map inT)):=by
 obtain⟨vd,e,i⟩:=Zek (n:=n) c h g hN b d a f;exact .of (v:=Y7) rfl rfl (.ret (.call (xs:=[pgD (.tup (tks.map pdD)) m rs,.tup ((fkL rs).map vd),.int (L:Int)]) (.cons () (.cons (.call (xs:=[pgD (.tup (tks.map pdD)) m rs,.tup (tr.map inT),.int (L:Int)]) () (i s)) (.cons () .nil))) (ZgU (n:=n+1) c ∅ d hN b e)))
theorem Zgu{α:Type}{T1:α->Li Int->Bool}:∀ {l:Li α}{acc:Li (Li Int)},(l.foldl (λa p=>mrS (T1 p) tks tr a) acc).length<=acc.length+l.length/\∀ ins∈l.foldl (λa p=>mrS (T1 p) tks tr a) acc,ins∈acc\/ins∈tdL tks
 |[],acc=>⟨aD _,λ_ h=>.inl h⟩
 |x :: l,acc=>by
  obtain⟨c,b⟩:=Zgu (T1:=T1) (l:=l) (acc:=mrS (T1 x) tks tr acc);have:=ZhD (t:=T1 x) (tks:=tks) (tr:=tr) (acc:=acc);exact⟨by rw[List.foldl_cons,aO];omega,λins h=>(b ins h).elim Zjn .inr⟩
def ZaH{B:Ot D}(q:Rs m rs)(A:rs.length<=4)(z:m<=4)(a:Tk tks)(o:tks.length<=m)(w:L<=800)(E:tr.length<=10)(g:∀ ins∈tr,ins.length<=m/\∀ v∈ins,Sm v)(T:s[j]?=aa (bb,(tdL tks).map inT)):RP (rT (n+12)) (tlS 8 c_law_k66.body) [jL 0,aa (pgD (.tup (tks.map pdD)) m rs),x2,jN L,aa (.tup (tr.map inT)),B,jL j,ab,ab] s λd _=>d=.bl ac:=by
 have fl:=WF (rs:=rs);obtain⟨f1,X⟩:(mrL m rs L tks tr).length<=0+(fkL rs).length/\∀ ins∈mrL m rs L tks tr,ins∈[]\/ins∈tdL tks:=Zgu;have H:∀ ins∈mrL m rs L tks tr,ins.length<=m/\∀ v∈ins,Sm v:=λins h=>by obtain⟨g,o2⟩:=YT a ins ((X ins h).elim (λh=>nomatch h) id);exact⟨∅,o2⟩
 have G:∀ p∈fkL rs,(tr++mrL m rs L tks tr).any (tel m rs (rs.set p.1 p.2.2) L)=ac\/(tdL tks).find? (tel m rs (rs.set p.1 p.2.2) L)=ab:=λp u=>Zdt (T1:=λp=>tel m rs (rs.set p.1 p.2.2) L) u
 have W:mrL m rs L tks (tr++mrL m rs L tks tr)=[]:=Zdu G;have F:∀ ins∈tr++mrL m rs L tks tr,ins.length<=m/\∀ v∈ins,Sm v:=λins h=>(bA.mp h).elim (g ins) (H ins)
 refine .setY (.call (xs:=[pgD (.tup (tks.map pdD)) m rs,.tup (tr.map inT),.int (L:Int)]) () (ZiJ q A z a o w E g)) .refl λs1 O=>.no (.or (k:=ae) (m:=ae) (.not (k:=ac) (.call1 () (ZeH (n:=n+10) λins h=>by have:=(H ins h).1;omega))) λ_=>.nel (.lof ()) (.call (xs:=[pgD (.tup (tks.map pdD)) m rs,.tup (tr.map inT),.lst j,.int (L:Int)]) () (ZiQ (n:=n+6) q ∅ w a o g E (O.get T))) Zjr) .refl λZ k2=>.setY (.adT () () (by rw[aB,aB];omega)) .refl λM k3=>?_
 rw[<-bP];have y:Y (rT (n+12)) M (.cmp .Gt (.len (.v 8)) (.i 10)) [jL 0,aa (pgD (.tup (tks.map pdD)) m rs),x2,jN L,aa (.tup (tr.map inT)),B,jL j,aa (.tup ((mrL m rs L tks tr).map inT)),aa (.tup ((tr++mrL m rs L tks tr).map inT))] (.bl (aj ((10:Int) < (((tr++mrL m rs L tks tr).map inT).length:Int)))):=.gts (.lnT ()) ()
 by_cases c:(tr++mrL m rs L tks tr).length<=10
 .rw[aB,aG ∅]at y
  have I:=λs=>ZiJ (n:=n) (s:=s) q A z a o w c F
  rw[W]at I;refine .no y .refl λK N=>.no (.ned (xs:=[]) (ys:=[]) (.call (xs:=[pgD (.tup (tks.map pdD)) m rs,.tup ((tr++mrL m rs L tks tr).map inT),.int (L:Int)]) () (I _)) () rfl rfl) .refl λC k5=>?_
  obtain⟨vd,Q,U⟩:=Zek (n:=n+1) q A z a o w c F;exact .ret (.eqnil (.filt0 (b:=one) (wk:=Yx ae) (fr:=[]) (elt:=.i 1) (cnd:=.e (.x 0 0) (.t "found")) (en:=vd) (l:=fkL rs) (.of (x:=.tup ((fkL rs).map vd)) (.call (xs:=[pgD (.tup (tks.map pdD)) m rs,.tup ((tr++mrL m rs L tks tr).map inT),.int (L:Int)]) () (U C)) λ_=>rfl) ∅ λp u=>by
   have h:=Q p u;show Y _ C _ [aa (vd p)] (.bl ae);generalize vd p=d at h ⊢;cases h with
   |no x J P _=>exact .cmp (x:=.str x) (.ixt (j:=0) (xs:=.str x :: J) () () rfl) () λ_=>by show aa (aj (x=S "found"))=_;rw[aG P]
   |f ins v V R=>
    rcases G p u with h|h
    .rw[V]at h;cases h
    .rw[R]at h;cases h)) .refl λ_ _=>rfl
 .rw[aB,aK ∅]at y
  exact .yes y .refl λK N=>.ret () .refl λ_ _=>rfl
end
section
variable{sa:Nat}
def RP.setCP(k:Y F s a U (.tup xs))(g:Grw s st)(j:∀ t,Grw st t->CP F f (xs++ds) t Q1)(h:∀ d t,Grw st t->Q1 d t->RP F q (Zf U i d) t Q):RP F (.y i (.call f a ds) q) U st Q:=by
 obtain⟨s1,n,b⟩:=k st g;obtain⟨d,e,m,c,l⟩:=j s1 b;exact .pre (Zc (Zk (by show Zo (ev F a) (Vb (F f) ds) U st=_;unfold Zo;rw[n];exact m))) (b.trans c) (h d e (b.trans c) l)
theorem RP.set2{x y:D}{t:Za}(h:ev F e U st=aa (.tup [x,y],t))(g:Grw st t)(a:RP F q (Zf (Zf U i x) j y) t Q):RP F (.seq (.set2 i j e) q) U st Q:=.pre (Zc (by show Jh i j (ev F e) U st=_;unfold Jh;rw[h])) g a
def RP.iteSet{k:Bool}(h:Y F st e U (.bl k))(hd:∀ t,Grw st t->Y F t a U d)(l:k=ac->∀ t,Grw st t->RP F q (Zf U i d) t Q)(j:k=ae->∀ t,Grw st t->RP F q U t Q):RP F (.seq (.ite e (.z (.set i a)) .skip) q) U st Q:=by
 obtain⟨t,f,b⟩:=h st .refl;cases k with
 |false=>exact .pre (Zc ((X9 f).trans Zi)) b (j rfl t b)
 |true=>
  obtain⟨g,m,c⟩:=hd t b t .refl;exact .pre (Zc ((Yl f).trans ((Zc (Zk m)).trans Zi))) (b.trans c) (l rfl g (b.trans c))
def ZeS:X6 xs ab (aa 2)=xs.take 2:=by
 unfold X6;have:sIx xs.length xs.length (aa 2)=Nat.min 2 xs.length:=rfl;rw[this,show sIx xs.length 0 ab=0 from rfl,bX,dY];by_cases h:2<=xs.length
 .rw[show Nat.min 2 xs.length=2 from Nat.min_eq_left h]
 .rw[show Nat.min 2 xs.length=xs.length from Nat.min_eq_right ∅,eQ (aD _),eQ ∅]
def RP.setCut(k:Y F s a U (.tup xs))(g:Grw s st)(j:∀ t,Grw st t->CP F f (xs++ds) t Q1)(h:∀ d t,Grw st t->Q1 d t->∃ ys,d=.tup ys/\RP F q (Zf U i (.tup (ys.take 2))) t Q):RP F (.y i (.slice (.call f a ds) .nop (.part (.i 2))) q) U st Q:=by
 obtain⟨s1,r,c⟩:=k st g;obtain⟨d,b,p,e,m⟩:=j s1 c;obtain⟨ys,rfl,l⟩:=h d b (c.trans e) m;have o:ev F (.call f a ds) U st=aa (.tup ys,b):=by show Zo (ev F a) (Vb (F f) ds) U st=_;unfold Zo;rw[r];exact p
 have n:ev F (.slice (.call f a ds) .nop (.part (.i 2))) U st=aa (.tup (ys.take 2),b):=by
  show YQ (ev F (.call f a ds)) (evC .non) (Zo (ev F (.i 2)) V9) Xb U st=_;unfold YQ;simp only[o];show Yi (.tup ys) ab (aa 2) b=_;rw[sl_tup,ZeS]
 exact .pre (Zc (Zk n)) (c.trans e) l
def Q5(h:Rs m rs)(l:rs.length<=4)(i:m<=4)(b:Tk tks)(g:tks.length<=m)(u:L<=300)(f:tr.length<=10)(e:∀ ins∈tr,ins.length<=m/\∀ v∈ins,Sm v):RP (rT (n+12)) (tlS 6 c_law_k66.body) [jL 0,aa (pgD (.tup (tks.map pdD)) m rs),x2,jN L,aa (.tup (tr.map inT)),ab,ab,ab,ab] st λd _=>d=.bl ac:=by
 obtain⟨s,j,bb,q,p,c⟩:=ZeI (n:=n+11) (st:=st) b;have o:=Zp (L:Int) (j:=6) #[]
 obtain⟨L2,a⟩:∃ L2:Nat,(L:Int) % 6=(L2:Int):=⟨_,(bS o.1).symm⟩;rw[a]at o;exact .set2 q p (.iteSet (d:=.int (L2:Int)) (.gts (.lenl c ()) ()) (λ_ _=>by rw[<-a];exact .md () () #[]) (λ_ t k=>ZaH h l i b g ∅ f e (k.get c)) λ_ t k=>ZaH h l i b g ∅ f e (k.get c))
def Zfk(z:Rs m rs)(B:rs.length<=4)(A:m<=4)(q:Tk tks)(e:tks.length<=m)(C:L<=300)(I:tr.length<=10)(y:∀ ins∈tr,ins.length<=m/\∀ v∈ins,Sm v)(M:sa<=50)(g:Grw (S0 ns) st):RP (rT (n+12)) (tlS 5 c_law_k66.body) [jL 0,aa (pgD (.tup (tks.map pdD)) m rs),jN sa,jN L,aa (.tup (tr.map inT)),ab,ab,ab,ab] st λd _=>d=.bl ac:=by
 obtain⟨c,o⟩:∃ c,c=ceI ns (sa+1):=⟨_,rfl⟩;have w:∀ {t:Za},Grw st t->Y (rT (n+12)) t (.f 27 (.a 0 (.u (.p (.v 2) (.i 1))))) [jL 0,aa (pgD (.tup (tks.map pdD)) m rs),jN sa,jN L,aa (.tup (tr.map inT)),ab,ab,ab,ab] (.int c):=λk=>by
  rw[o];exact Gv.mono (Y.call (xs:=[.lst 0,.int ((sa+1:Nat):Int)]) (.cons () (.cons (by rw[bE];exact .add () ()) .nil)) (YX (n:=n+11) ∅)) (g.trans k)
 have E:=Zp (c / 44) (j:=2) #[]
 obtain⟨b,G⟩:∃ b:Nat,c / 44 % 2=(b:Int):=⟨_,(bS E.1).symm⟩;rw[G]at E;obtain⟨x,J,H⟩:∃ x,(tr.map inT++[D.tup (af tks.length (.int 0))]).take 1=[inT x]/\x.length<=m/\∀ v∈x,Sm v:=by
  cases tr with
  |nil=>exact⟨af tks.length 0,by unfold inT inZ;rw[eB];rfl,by rw[bV];exact e,λv K=>by rw[List.eq_of_mem_replicate K];unfold Sm;decide⟩
  |cons x tr=>exact⟨x,rfl,y x Ls⟩
 refine .iteSet (d:=.tup ((af (9+b) x).map inT)) (.eqv (.md (.fd (w .refl) () #[]) () #[]) ()) (λt k=>?_) (λ_ t k=>Q5 z B A q e C (by rw[bV];omega) λins h=>by rw[List.eq_of_mem_replicate h];exact H) λ_ t k=>Q5 z B A q e C I y
 rw[eB];refine .repT ?_ (by rw[bE,<-G];exact .add () (.md (.fd (w k) () #[]) () #[])) ∅
 rw[<-J];have lt:=Y.lnT (F:=rT (n+12)) (s:=t) (a:=.x 1 0) (xs:=tks.map pdD) (U:=[jL 0,aa (pgD (.tup (tks.map pdD)) m rs),jN sa,jN L,aa (.tup (tr.map inT)),ab,ab,ab,ab]) ();rw[aB]at lt;exact .tkT (.adT () (.cons (.rep () lt (by have:=q.l;omega)) .nil) (by rw[aB];show _+1<=_;omega)) () (by rw[aH];show 1<=_+1;omega)
end
def ZbR(n:Nat)(b:Li Int):∃ st',rT (n+13) 16 [.lst 0] [(ae,b.map .int)]=aa (.bl ac,st'):=by
 have g:Grw (S0 b) (S0 b):=.refl;have w:CP (rT (n+13)) 16 [.lst 0] (S0 b) λd _=>d=.bl ac:=by
  refine .of (v:=c_law_k66) rfl rfl (.setCP (s:=S0 b) (xs:=[.lst 0,.int ((3:Nat):Int)]) () g (λt k=>ZgW (n:=n+7) #[] (g.trans k)) λd t k V=>?_)
  obtain⟨o,m,f,e,A,K,N,M,l0⟩:=V;subst e;have g1:Grw (S0 b) t:=g.trans k;have O:∀ {s:Za}{U:Env},U[1]?=aa (aa (pgD (.tup (o.map pdD)) m f))->Y (rT (n+12)) s (.p (.i 5) (.h (.i 2) (.len (.x 1 2)))) U (.int ((5+2 * f.length:Nat):Int)):=λ{s U} h=>by
   have:=Y.lnT (F:=rT (n+12)) (s:=s) (a:=.x 1 2) (xs:=f.map rwE) (U:=U) (.ixt (j:=2) (xs:=[.tup (o.map pdD),.int (m:Int),.tup (f.map rwE)]) (.v h) () rfl);rw[aB]at this;rw[bE,eD];exact .add () (.mul () this (Q7 ∅))
  refine .setY (s:=S0 b) (O rfl) g1 λJ R=>?_
  obtain⟨q,C⟩:∃ q,5+2 * f.length=q:=⟨_,rfl⟩;have S:q<=20:=by omega
  rw[C];obtain⟨u,rs,E,G,T,W,Z⟩:=Zg2 (n:=n+10) (c:=ceI b q % 1000000000000000) A K M ∅
  have g2:Grw (S0 b) J:=g1.trans R;refine .setY (s:=S0 b) (.call (xs:=[pgD (.tup (o.map pdD)) m f,.int (ceI b q % 1000000000000000)]) (.cons () (.cons (.md (.call (xs:=[.lst 0,.int (q:Int)]) () (YX (n:=n+11) ∅)) () #[]) .nil)) (Z _)) g2 λt3 Q=>?_
  have y:=Zp (ceI b (q+1)) (j:=11) #[]
  obtain⟨L,I⟩:∃ L:Nat,ceI b (q+1) % 11=(L:Int):=⟨_,(bS y.1).symm⟩;rw[I]at y;have H:=g2.trans Q;refine .setY (s:=S0 b) (d:=.int (L:Int)) (by
   rw[<-I];exact .md (.call (xs:=[.lst 0,.int ((q+1:Nat):Int)]) (.cons () (.cons (by rw[bE];exact .add () ()) .nil)) (YX (n:=n+11) ∅)) () #[]) H λt4 P=>?_
  have B:=H.trans P;have lt:=Y.lnT (F:=rT (n+12)) (s:=S0 b) (a:=.x 1 0) (xs:=u.map pdD) (U:=[jL 0,aa (pgD (.tup (u.map pdD)) m rs),jN q,jN L,ab,ab,ab,ab,ab]) ();rw[aB]at lt;refine .setCut (s:=S0 b) (xs:=[.lst 0,.int ((q+2:Nat):Int),.int (u.length:Int)]) (.cons () (.cons (by rw[bE];exact .add () ()) (.cons lt .nil))) B (λt k=>Zb9 (n:=n+9) ∅ E.l (B.trans k)) λd t k ⟨z,X,l1,D⟩=>⟨z.map inT,X,?_⟩
  rw[<-List.map_take];exact Zfk T W N E G ∅ (by rw[cI];omega) (λins h=>⟨by rw[(D ins (List.mem_of_mem_take h)).1];exact G,(D ins (List.mem_of_mem_take h)).2⟩) ∅ (B.trans k)
 obtain⟨d,st',e,_,rfl⟩:=w;exact⟨st',e⟩
end
end Dp
namespace PySem.W.Fast
local macro_rules|`(command|universe $xs*)=>do return Lean.mkNullNode (← xs.mapM fun x=>`(def $x :=fD))
universe tw5779955552125073376 tw12971164411104275341 tw7264380404919648741 tw9051606480263915278 tw11541789181858357189 tw12277836008474183380 tw1019672969149189087 tw13157579651184402163 tw17620341144880615238 tw2349756907646126494 tw12931533795957359029 tw7292767963146548682 tw5197779016709918039 tw13985832671905472870 tw3388015112059888457 tw10462716531908039453 tw633647282233925351 tw14633125166894847279 tw16984782397652874379 tw16736194168925990023 tw10815892088064636874 tw12308857336042331198 tw1925823630880736748 tw18328866654257806253 tw13434086988642676876 tw14342364097710913690 tw11639652326308767999 tw9192116080157733534 tw5226771137637032343 tw10042974574548599438 tw10011922954854060265 tw2676498909917868606 tw7219805044783136341 tw5626440728423042959 tw7037071412353907005 tw3307853827831214900 tw13966699032909723710 tw8428660345681635657 tw14103787308767162442 tw12700101021541591801 tw9184924677447080744 tw1622045090433671861 tw16690137868169586680 tw16089049964440245389 tw11605451706000271902 tw13682205759914150655 tw3237526546820640815 tw16215640431131615622 tw1813979342931697638 tw10112473696103558334 tw9337603845909191133 tw2815560981529815020 tw22281921461571973 tw9388369813372137017 tw871603999949645140 tw6118121320117033432 tw2840729488474568067 tw1697042076584160874 tw12633007525181162011 tw9066181610899441210 tw8230430325074629089 tw6326627707559179485 tw2180488379388903405 tw14171593256707648111 tw17555195613275556436 tw18308027290240657815 tw2257323658890959853 tw2319660351100826127 tw7959886910524933244 tw13833623272058167392 tw9536047730298476078 tw12944824167597653986 tw980312438163373689 tw11848954005705823599 tw3984602875527282696 tw14175127419449344687 tw14156285084047027792 tw14126946412186332977 tw9332154313147559500 tw7752359287777765923 tw5069760581187109671 tw5914151168049455417 tw4490292915538553582 tw7869508026640682023 tw8281768467369752782 tw4300022033404463633 tw14011059396742596943 tw6338967990431689851 tw15165080351371239792 tw15506022387291444924 tw7646127650651615615 tw2898014885505314465 tw10605222070610714693 tw15338363151536533661 tw8061301179887538791 tw11840033401590310660 tw1792584553834851855 tw6328897319021145290 tw17597607476251670923 tw16000383914710517006 tw5951990127048804953 tw8260372134022958755 tw13969524717221957445 tw7422005951094911562 tw6707133254321071788 tw977304002475536854 tw16994283008460285366 tw3353720437447059242 tw4547771536080169925 tw4776459731159330490 tw151444670716852710 tw1937913379351656442 tw12421345670876873390 tw16765299465088428581 tw13012629227186650086 tw17851443215349090324 tw15090837773127048723 tw18027646677082753067 tw14217486153201854331 tw9993842198141426946 tw17509269045021665568 tw6875355625977239617 tw556181666747232620 tw11690948413808737683 tw5727332966578654339 tw16119931686177620998 tw4082831331158131661 tw6428662423051426364 tw1400903211239892501 tw15088719770051499128 tw9490447636932983208 tw4842667772663794159 tw1666924439971204014 tw17570406827568902448 tw14677632356128764492 tw17154026427896736693 tw5058561144195774721 tw4032868017738670314 tw1770321167965963799 tw633125175930067454 tw13559474990418489146 tw16674995422945274085 tw2559145404097966451 tw8828643526431176749 tw5468553430138065116 tw11370372740618982638 tw2916404575067136306 tw11530860785892440433 tw6768567234239507286 tw10681904097734859154 tw7887815114560627385 tw13746991092254706145 tw1346699555323920845 tw3112795386169438065 tw4092961739427513838 tw17093525260600535072 tw12942018340502930381 tw18273909724792838919 tw946384007664548940 tw2710804851682257374 tw17700357844621979908 tw407283224785709479 tw16571053698309522079 tw16628457284146387673 tw5022032928907689553 tw15479758121567157773 tw9667501836744771948 tw12623488916629971451 tw8786861976492221759 tw5972489570368072072 tw13620092940395449789 tw11889766871908843875 tw14516717781782831051 tw14185956909977776384 tw14405166861816844022 tw9137822814534918287 tw14822419634259172773 tw4943775994813513052 tw14798206980651470446 tw14287851466987569697 tw7037360907878646517 tw2416057409121932434 tw13277010563504940862 tw12807180380491929625 tw10657221416986383067 tw1085473004186658466 tw7939753603178573410 tw7345467613445906959 tw266979764509350526 tw9410575484254439203 tw5196475063613199031 tw15922559375739077893 tw2783289974797596419 tw9744044145824249834 tw11655914444198933645 tw15135773200090472117 tw13733719238121185142 tw16589108521217636826 tw864787629788725985 tw13338884728704969980 tw5091021674501706918 tw9720456114721698837 tw15259194417025495555 tw2677265400058135145 tw3889882182550289059 tw605175344509525608 tw17401765564504772547 tw143673433794730513 tw11352502015205518382 tw1526721455819592052 tw6503822662419344327 tw3801222075513946543 tw17359372415056568006 tw14573226524056373364 tw1084782573265503973 tw12947074739667201182 tw8683305360380212130 tw10226101429499086461 tw6986246401440280803 tw10784753530749044104 tw17690677957021124703 tw7065211335726846315 tw8155856167490751106 tw10602217227109501948 tw1061537293820705271 tw9525004345431943910 tw13317351577104992051 tw12836288350727461704 tw1419567783006499546 tw16410928833364171956 tw18259052347117045479 tw1493190223735433617 tw12168059061762458794 tw2372189776074586222 tw10778431671708489731 tw5978753099195915798 tw16692265082072358992 tw1148963232975562507 tw1112557567042200611 tw11820863376080160769 tw14324930100644826372 tw15719257947808385704 tw15461656568728861061 tw11322076527931437218 tw15778991783687552478 tw7923498378704090453 tw11317204985838207958 tw5196861267135192352 tw17172451715486134996 tw6010198272746882863 tw8893856218365021327 tw8042338821707083767 tw817887419088586971 tw3718921104900500457 tw4007654279284624592 tw10980326938007095953 tw14136751766946675795 tw17796736260619022046 tw5599926638401446172 tw1782887124383135630 tw6437764177754869889 tw1271416649754435467 tw18411148029478768348 tw11638482003706142042 tw334278283831771845 tw15372260702834163155 tw12019240856275229230 tw14964695514987674018 tw5801171876929034298 tw10973861777129842415 tw1418644699324682315 tw11646303068238249006 tw9120457672893907977 tw8044166397437084611 tw1309529791062779731 tw5175973176612531426 tw17754672202456947811 tw852175577328366061 tw12041712914297741971 tw1571119509668202035 tw6696774630495611598 tw5175770695601120675 tw9250204406089342258 tw15212987545673716021 tw7089781278898064086 tw8078317387850997478 tw10804681670998923496 tw13738288131640874090 tw8851120898356481870 tw7666586317280275626 tw4602460760590052616 tw15026267477481691094 tw8833460983985840655 tw14849797310034983024 tw8907241579356217359 tw8662834459753067462 tw11341814563286803351 tw7727682690177231850 tw3203331926759615184 tw10828456895102675090 tw6984788736545989511 tw17623197171713402245 tw16574554595197928661 tw2775410461165761087 tw13080198889789485982 tw9168379939963376317 tw13539139750931566897 tw1443156981726843215 tw9461527227362645498 tw5016154095180960347 tw18034163149170045874 tw9588302639490035792 tw2415758305519193558 tw2225539516425058263 tw16019512119517141146 tw15132238057436923325 tw13048668864883293373 tw422932902450334782 tw11275276190635316885 tw10852295226045082811 tw4314312489795704785 tw8430694417950270468 tw2129096595451659358 tw8434717285832416410 tw14089736475248261875 tw6357178596337978910 tw7354122705171812292 tw2399809878845438952 tw18091686152569063206 tw16437957769688835237 tw8069099512048870202 tw3601418100678267796 tw14277270189239937521 tw5721084601964865772 tw6286509129949320830 tw5422650991052501115 tw17884494417446249692 tw11944872785046836062 tw7325837431197512852 tw7183666436451315251 tw8952940599815334985 tw7987914103908942499 tw8057622660101113230 tw14109117120976592426 tw12089905038923130516 tw12079607529266847355 tw3662732321630905105 tw10792750998461681088 tw15156958476357327608 tw16757101760482378930 tw15620836272279635075 tw9021461104660628666 tw7329060395243865964 tw5836365548825480270 tw481367152048859813 tw8555082180127478402 tw7659335778502078537 tw16936614444720006397 tw1397288554350618033 tw12090771513403318745 tw1146502326310482291 tw16368955494362983200 tw10719910742708100391
end PySem.W.Fast
namespace Dp
open PySem L2
noncomputable def top(i:Nat):Stmt:=PySem.Challenge.pw_fakehunt_k66_trials_more.main.body.getD i (.Pass ⟨0,0,0,0⟩)
def G:Gs:=[(S "Step",GV.cls 146 [(S "word",147,1),(S "turned",148,3)] [146,169,149,157,152,160,163]),(S "Sign",GV.cls 169 [(S "word",170,1),(S "turned",171,3)] [169]),(S "More",GV.cls 149 [(S "word",150,1),(S "turned",151,3)] [149]),(S "Turn",GV.cls 157 [(S "word",158,1),(S "turned",159,3)] [157]),(S "Out",GV.cls 152 [(S "word",153,1),(S "turned",154,3)] [152]),(S "Swap",GV.cls 160 [(S "word",161,1),(S "turned",162,3)] [160]),(S "Far",GV.cls 163 [(S "word",164,1),(S "turned",165,3)] [163]),(S "OPERAND_PLACES",GV.dct [(S "put"),(S "if"),(S "tell"),(S "go"),(S "skip")] [(.tup [(.int 2),(.int 4)]),(.tup [(.int 1),(.int 3)]),(.tup [(.int 1)]),(.tup []),(.tup [])]),(S "replaced",GV.fn 42 3 []),(S "operand_places",GV.fn 113 1 []),(S "bit_of",GV.fn 43 1 []),(S "all_bits",GV.fn 56 1 []),(S "has_bit",GV.fn 114 2 []),(S "without_bit",GV.fn 57 2 []),(S "LOWEST",GV.c (.int (-1000000000))),(S "HIGHEST",GV.c (.int 999999999)),(S "HALF",GV.c (.int 1000000000)),(S "RING",GV.c (.int 2000000000)),(S "PUT_SIGNS",GV.c (.kt [(S "+"),(S "-"),(S "*"),(S "/"),(S "mod")])),(S "IF_SIGNS",GV.c (.kt [(S "<"),(S "<="),(S "="),(S ">="),(S ">"),(S "!=")])),(S "around",GV.fn 0 1 []),(S "divided",GV.fn 1 2 []),(S "left_over",GV.fn 2 2 []),(S "reckon",GV.fn 3 3 []),(S "is_so",GV.fn 4 3 []),(S "CONTRARIES",GV.dct [(S "<"),(S ">="),(S "<="),(S ">"),(S "="),(S "!=")] [(.str (S ">=")),(.str (S "<")),(.str (S ">")),(.str (S "<=")),(.str (S "!=")),(.str (S "="))]),(S "behind",GV.fn 70 2 []),(S "fakes",GV.fn 172 1 []),(S "fake_of",GV.fn 180 3 []),(S "worth",GV.fn 5 2 []),(S "began",GV.fn 6 2 []),(S "at_end",GV.fn 7 2 []),(S "values_behind",GV.fn 8 2 []),(S "place_behind",GV.fn 9 3 []),(S "moved",GV.fn 10 2 []),(S "is_outcome",GV.fn 11 1 []),(S "trail",GV.fn 12 3 [(.int 100)]),(S "outcome",GV.fn 13 3 [(.int 100)]),(S "MOST_TRIALS",GV.c (.int 10)),(S "check_trials",GV.fn 181 1 []),(S "WIDEST",GV.c (.int 64)),(S "width",GV.fn 133 1 []),(S "inputs_of",GV.fn 134 1 []),(S "is_wide",GV.fn 135 1 []),(S "box",GV.fn 136 1 []),(S "menu_numbers",GV.fn 137 2 []),(S "menu",GV.fn 138 1 []),(S "tried",GV.fn 139 1 []),(S "NOUGHT",GV.c (.tup [(.str (S "number")),(.int 0)])),(S "ONE",GV.c (.tup [(.str (S "number")),(.int 1)])),(S "SKIP",GV.c (.tup [(.str (S "skip"))])),(S "are_numbers",GV.fn 73 2 []),(S "lesser_first",GV.fn 74 3 []),(S "less_as_more",GV.fn 75 1 []),(S "without_reckoning",GV.fn 76 1 []),(S "made_put",GV.fn 77 1 []),(S "greater_as_less",GV.fn 78 1 []),(S "is_settled",GV.fn 79 1 []),(S "settled",GV.fn 80 1 []),(S "most_as_less",GV.fn 81 1 []),(S "made_if",GV.fn 82 2 []),(S "made_row",GV.fn 83 2 []),(S "made",GV.fn 106 1 []),(S "END",GV.c (.tup [(.str (S "end"))])),(S "row_at",GV.fn 115 2 []),(S "ends_run",GV.fn 116 1 []),(S "reads_only",GV.fn 117 2 []),(S "end_alike",GV.fn 118 3 []),(S "choose_alike",GV.fn 119 3 []),(S "staying",GV.fn 120 3 []),(S "places_behind",GV.fn 121 2 []),(S "follow",GV.fn 122 5 []),(S "found_paper",GV.fn 201 2 []),(S "parting",GV.fn 98 4 [(.int 100)]),(S "tells",GV.fn 99 4 [(.int 100)]),(S "sought",GV.fn 140 3 [(.int 100)]),(S "first_telling",GV.fn 281 4 []),(S "verdict",GV.fn 282 4 []),(S "verdicts",GV.fn 283 3 [(.int 100)]),(S "trials_behind",GV.fn 289 3 []),(S "more_trials",GV.fn 290 3 [(.int 100)]),(S "_law_whole",GV.fn 17 1 []),(S "_law_cell_at",GV.fn 27 2 []),(S "_law_small_by",GV.fn 19 1 []),(S "_law_operand",GV.fn 28 2 []),(S "_law_row",GV.fn 29 4 []),(S "_law_stretch",GV.fn 284 1 []),(S "_law_program",GV.fn 30 2 []),(S "_law_trials",GV.fn 51 3 []),(S "_law_around",GV.fn 31 1 []),(S "_law_reckon",GV.fn 32 3 []),(S "_law_so",GV.fn 33 3 []),(S "_law_worth",GV.fn 34 2 []),(S "_law_next",GV.fn 35 3 []),(S "_law_trail",GV.fn 26 3 []),(S "_law_wide",GV.fn 287 2 []),(S "_law_tried",GV.fn 195 1 []),(S "_law_tells",GV.fn 291 4 []),(S "_law_due",GV.fn 38 4 []),(S "_law_kinds",GV.fn 246 1 []),(S "law",GV.fn 16 1 []),(S "len",GV.blt),(S "range",GV.blt),(S "tuple",GV.blt),(S "list",GV.blt),(S "int",GV.blt),(S "bool",GV.blt),(S "str",GV.blt),(S "min",GV.blt),(S "max",GV.blt),(S "isinstance",GV.blt),(S "all",GV.blt),(S "any",GV.blt),(S "zip",GV.blt),(S "sorted",GV.blt),(S "enumerate",GV.blt),(S "set",GV.blt)]
def Wt(i k:Nat):Stmt:=match top i with
 |.ClassDef _ _ _ b _ _ _ _ _ _ _=>b.getD k (.Pass ⟨0,0,0,0⟩)
 |s=>s
abbrev Cmp(i:Nat)(N:Li Str)(k:Nat)(c:FD):Prop:=Zbq G (top i) N (N.take k) c.body
abbrev Cmt(i j:Nat)(N:Li Str)(k:Nat)(c:FD):Prop:=Zbq G (Wt i j) N (N.take k) c.body
abbrev fA9(K:Fg)(x:Str)(i:Nat):Prop:=FnAt K x (top i)
abbrev kO9(K:Fg)(a b:Ad):Prop:=W.kitOne K (.ref a) (.ref b)=aa ac
abbrev nN9(K:Fg)(x:Str):Prop:=W.nsIn K az x=aa ab
abbrev nV9(K:Fg)(x:Str)(v:vL):Prop:=W.nsIn K az x=aa (aa v)
local macro_rules
 |`(tactic| trivial)=>`(tactic| exact⟨⟨rfl,rfl,rfl,by decide +kernel,rfl,by decide +kernel,by decide +kernel⟩,by unfold L2.Loc;decide +kernel,by kernel_rfl⟩)
def q_6:Cmp 6 ["things","i","thing"] 3 Wp:=by trivial
def q_7:Cmp 7 ["row"] 1 Z5:=by trivial
def q_8:Cmp 8 ["i","bit","times"] 1 VJ:=by trivial
def q_9:Cmp 9 ["many"] 1 Wn:=by trivial
def Zkw:Cmp 10 ["bits","i"] 2 WY:=by trivial
def Zkx:Cmp 11 ["bits","i"] 2 Y8:=by trivial
def Zky:Cmp 19 ["number"] 1 VH:=by trivial
def Zkz:Cmp 20 ["one","other"] 2 X1:=by trivial
def ZkA:Cmp 21 ["one","other"] 2 YW:=by trivial
def ZkB:Cmp 22 ["one","sign","other"] 3 VM:=by trivial
def ZkC:Cmp 23 ["one","sign","other"] 3 UX:=by trivial
def ZkD:Cmp 26 ["ring","sign"] 2 Wz:=by trivial
def ZkE:Cmp 35 ["program","rows","steps","told","k","row","step"] 1 UW:=by trivial
def ZkF:Cmp 36 ["program","k","row"] 3 WX:=by trivial
def ZkG:Cmp 38 ["operand","values"] 2 Vt:=by trivial
def ZkH:Cmp 39 ["program","inputs"] 2 UV:=by trivial
def ZkI:Cmp 40 ["program","state"] 2 VI:=by trivial
def ZkJ:Cmp 41 ["row","values","number"] 2 ZE:=by trivial
def ZkK:Cmp 42 ["row","k","values"] 3 ZO:=by trivial
def ZkL:Cmp 43 ["program","state","k","values","row"] 2 Vp:=by trivial
def ZkM:Cmp 44 ["thing"] 1 YC:=by trivial
def ZkN:Cmp 45 ["program","inputs","limit","state","things","done","thing"] 3 Vq:=by trivial
def ZkO:Cmp 46 ["program","inputs","limit"] 3 W1:=by trivial
def ZkP:Cmp 49 ["trials"] 1 YK:=by trivial
def ZkQ:Cmp 52 ["program","many","low","high"] 1 UZ:=by trivial
def ZkR:Cmp 53 ["numbers_taken","told","numbers","longer","inputs"] 1 XJ:=by trivial
def ZkS:Cmp 54 ["program"] 1 WZ:=by trivial
def ZkT:Cmp 55 ["program"] 1 Zcs:=by trivial
def ZkU:Cmp 56 ["low","high","numbers","number"] 2 YL:=by trivial
def ZkV:Cmp 57 ["program"] 1 JC:=by trivial
def ZkW:Cmp 58 ["program"] 1 Vr:=by trivial
def ZkX:Cmp 63 ["y","z"] 2 Y6:=by trivial
def ZkY:Cmp 64 ["row","i","j"] 3 Yf:=by trivial
def ZkZ:Cmp 65 ["row"] 1 Ye:=by trivial
def Zk0:Cmp 66 ["row","y","sign","z"] 1 Z8:=by trivial
def Zk1:Cmp 67 ["row"] 1 Wo:=by trivial
def Zk2:Cmp 68 ["row"] 1 Yd:=by trivial
def Zk3:Cmp 69 ["row"] 1 Xq:=by trivial
def Zk4:Cmp 70 ["row","so"] 1 W3:=by trivial
def Zk5:Cmp 71 ["row","y","z"] 1 YM:=by trivial
def Zk6:Cmp 72 ["row","k"] 2 W0:=by trivial
def Zk7:Cmp 73 ["row","k"] 2 Yb:=by trivial
def Zk8:Cmp 74 ["program","rows"] 1 JB:=by trivial
def Zk9:Cmp 77 ["program","k"] 2 WA:=by trivial
def Zla:Cmp 78 ["row"] 1 Xp:=by trivial
def Zlb:Cmp 79 ["row","bits","i"] 2 Xr:=by trivial
def Zlc:Cmp 80 ["row","beside","bits"] 3 XI:=by trivial
def Zld:Cmp 81 ["row","beside","bits"] 3 Z1:=by trivial
def Zle:Cmp 82 ["row","beside","bits","each"] 3 W4:=by trivial
def Zlf:Cmp 83 ["row","k"] 2 ZV:=by trivial
def Zlg:Cmp 84 ["one","other","k","j","bits","row","beside","stay","triples","place"] 5 VL:=by trivial
def Zlh:Cmp 86 ["one","other","paper","ahead","pair","triples","k","j","stay","bits"] 2 Yp:=by trivial
def Zli:Cmp 88 ["one","other","inputs","limit","things","beside","n"] 4 W2:=by trivial
def Zlj:Cmp 89 ["one","other","inputs","limit"] 4 UY:=by trivial
def Zlk:Cmp 91 ["one","other","limit","inputs"] 3 VN:=by trivial
def Zll:Cmp 93 ["one","other","trials","limit","i","inputs"] 4 Yv:=by trivial
def Zlm:Cmp 94 ["program","other","trials","limit","i","paper","inputs"] 4 c_verdict:=by trivial
def Zln:Cmp 95 ["program","trials","limit"] 3 Wq:=by trivial
def Zlo:Cmp 96 ["program","told","limit","more","fake","each","other"] 3 Yw:=by trivial
def Zlp:Cmp 97 ["program","trials","limit"] 3 Y7:=by trivial
def Zlq:Cmp 99 ["_law_found"] 1 Xo:=by trivial
def Zjv:Cmp 100 ["_law_script","_law_k"] 2 YG:=by trivial
def Zjw:Cmp 101 ["_law_cell","_law_some"] 1 Yu:=by trivial
def Zjx:Cmp 102 ["_law_number","_law_many"] 2 YH:=by trivial
def Zjy:Cmp 103 ["_law_cell","_law_more","_law_many","_law_size","_law_one","_law_other","_law_sign","_law_at","_law_x"] 4 Wm:=by trivial
def Zjz:Cmp 104 ["_law_cell","_law_low"] 1 YJ:=by trivial
def ZjA:Cmp 105 ["_law_script","_law_most","_law_head","_law_taken","_law_many","_law_size","_law_rows","_law_k","_law_cell","_law_takes"] 2 YI:=by trivial
def ZjB:Cmp 106 ["_law_script","_law_start","_law_taken","_law_trials_here","_law_k","_law_cells"] 3 Y5:=by trivial
def ZjC:Cmp 108 ["_law_number"] 1 Y3:=by trivial
def ZjD:Cmp 109 ["_law_one","_law_sign","_law_other"] 3 Y4:=by trivial
def ZjE:Cmp 110 ["_law_one","_law_sign","_law_other","_law_some"] 3 Yc:=by trivial
def ZjF:Cmp 111 ["_law_operand_here","_law_values"] 2 YA:=by trivial
def ZjG:Cmp 112 ["_law_program_here","_law_at","_law_values","_law_row_here","_law_there","_law_one"] 3 XH:=by trivial
def ZjH:Cmp 113 ["_law_program_here","_law_inputs","_law_limit_here","_law_state","_law_way","_law_done"] 3 Yz:=by trivial
def ZjI:Cmp 115 ["_law_program_here","_law_cell","_law_low","_law_high","_law_wide_here","_law_rows","_law_row_here"] 2 Yq:=by trivial
def ZjJ:Cmp 116 ["_law_takes","_law_breadth","_law_low","_law_high","_law_found","_law_numbers","_law_longer","_law_inputs"] 1 Xn:=by trivial
def ZjK:Cmp 117 ["_law_program_here","_law_other","_law_some","_law_limit_here"] 4 Xm:=by trivial
def ZjL:Cmp 118 ["_law_program_here","_law_trials_here","_law_inputs","_law_limit_here","_law_due_here","_law_fake","_law_other","_law_some","_law_told"] 4 Wl:=by trivial
def ZjM:Cmp 119 ["_law_found","_law_some"] 1 Xl:=by trivial
def ZgG:Cmp 120 ["_law_script","_law_program_here","_law_start","_law_limit_here","_law_trials_here","_law_breadth","_law_inputs","_law_found","_law_every"] 1 c_law_k66:=by trivial
def ZhP:Cmt 27 0 [S "self"] 1 Va:=by trivial
def ZhQ:Cmt 27 1 [S "self",S "row",S "many"] 3 Wa:=by trivial
def ZhR:Cmt 28 0 [S "self"] 1 XE:=by trivial
def ZhS:Cmt 28 1 [S "self",S "row",S "many"] 3 ZI:=by trivial
def ZhT:Cmt 29 0 [S "self"] 1 XD:=by trivial
def ZhU:Cmt 29 1 [S "self",S "row",S "many",S "rows",S "i"] 3 Y2:=by trivial
def ZhV:Cmt 30 0 [S "self"] 1 XG:=by trivial
def ZhW:Cmt 30 1 [S "self",S "row",S "many"] 3 ZK:=by trivial
def ZhX:Cmt 31 0 [S "self"] 1 Wj:=by trivial
def ZhY:Cmt 31 1 [S "self",S "row",S "many"] 3 ZT:=by trivial
def ZhZ:Cmt 32 0 [S "self"] 1 XF:=by trivial
def Zh0:Cmt 32 1 [S "self",S "row",S "many"] 3 ZJ:=by trivial
def Zh1:Cmt 33 0 [S "self"] 1 Wi:=by trivial
def Zh2:Cmt 33 1 [S "self",S "row",S "many"] 3 ZS:=by trivial
@[reducible] noncomputable def tab (l:Li (Nat×Ad)):ClsTab:=⟨λi=>(l.lookup i).getD 0⟩
section
variable [ct:ClsTab]
def Zg4{Pm:Params}{K:Fg}{h:bj}{mg:Str->Ot vL}{fa:Ad}(X:K.In h)(a:h.Ns az mg)(hfa:mg "law"=aa (.ref fa)){C0 C1 C2 C3 C4 C5 C6 A7 i g f c b A18 A19 A25 A48 A49 A50 A63:Ad}{ob7 E D C B A ob18 ob19 j Z Y V U:Obj}{ep7 bn7_0 bn7_1 bn7_2 bn7_3 bn7_4 on18 on19 ep25 on48 on49 on50 on63:Nat}{R L J Q I H P F O M t14 t15 t16 t17 t18_0 t18_1 t18_2 t18_3 t18_4 t19_0 t19_1 t19_2 t19_3 t19_4 t19_5 z p y o x n w m r l q k t38 t40 t48_0 t48_1 t49_0 t49_1 t50_0 t63_0:Tok}
(yz0:ClsTab.ca 146=C0) (yz1:ClsTab.ca 169=C1) (yz2:ClsTab.ca 149=C2) (yz3:ClsTab.ca 157=C3) (yz4:ClsTab.ca 152=C4) (yz5:ClsTab.ca 160=C5) (yz6:ClsTab.ca 163=C6)
  (y0:ClsAt K "Step" C0) (ym0_0:kO9 K C0 C0) (ym0_1:kO9 K C1 C0) (ym0_2:kO9 K C2 C0) (ym0_3:kO9 K C3 C0) (ym0_4:kO9 K C4 C0) (ym0_5:kO9 K C5 C0) (ym0_6:kO9 K C6 C0) (w0_147:MtAt K C0 "word" "Step.word" (Wt 27 0)) (w0_148:MtAt K C0 "turned" "Step.turned" (Wt 27 1))
  (y1:ClsAt K "Sign" C1) (ym1_1:kO9 K C1 C1) (w1_170:MtAt K C1 "word" "Sign.word" (Wt 28 0)) (w1_171:MtAt K C1 "turned" "Sign.turned" (Wt 28 1))
  (y2:ClsAt K "More" C2) (ym2_2:kO9 K C2 C2) (w2_150:MtAt K C2 "word" "More.word" (Wt 29 0)) (w2_151:MtAt K C2 "turned" "More.turned" (Wt 29 1))
  (y3:ClsAt K "Turn" C3) (ym3_3:kO9 K C3 C3) (w3_158:MtAt K C3 "word" "Turn.word" (Wt 30 0)) (w3_159:MtAt K C3 "turned" "Turn.turned" (Wt 30 1))
  (y4:ClsAt K "Out" C4) (ym4_4:kO9 K C4 C4) (w4_153:MtAt K C4 "word" "Out.word" (Wt 31 0)) (w4_154:MtAt K C4 "turned" "Out.turned" (Wt 31 1))
  (y5:ClsAt K "Swap" C5) (ym5_5:kO9 K C5 C5) (w5_161:MtAt K C5 "word" "Swap.word" (Wt 32 0)) (w5_162:MtAt K C5 "turned" "Swap.turned" (Wt 32 1))
  (y6:ClsAt K "Far" C6) (ym6_6:kO9 K C6 C6) (w6_164:MtAt K C6 "word" "Far.word" (Wt 33 0)) (w6_165:MtAt K C6 "turned" "Far.turned" (Wt 33 1))
  (g7:nV9 K "OPERAND_PLACES" (.ref A7)) (d7:K.lookup A7=aa ob7) (f7c:ob7.cls=.type "dict") (f7d:ob7.dict=ab) (f7s:ob7.slots=#[]) (e7:ob7.data=.dict #[⟨bt Pm "put",.str "put" R,.ref i⟩,⟨bt Pm "if",.str "if" Q,.ref g⟩,⟨bt Pm "tell",.str "tell" P,.ref f⟩,⟨bt Pm "go",.str "go" O,.ref c⟩,⟨bt Pm "skip",.str "skip" M,.ref b⟩] ep7) (s7:(A7==bp)=ae)
  (h7_0:K.lookup i=aa E) (i7_0:E.cls=.type "tuple") (j7_0:E.data=.seq #[.int (2) L,.int (4) J] bn7_0)
  (h7_1:K.lookup g=aa D) (i7_1:D.cls=.type "tuple") (j7_1:D.data=.seq #[.int (1) I,.int (3) H] bn7_1)
  (h7_2:K.lookup f=aa C) (i7_2:C.cls=.type "tuple") (j7_2:C.data=.seq #[.int (1) F] bn7_2)
  (h7_3:K.lookup c=aa B) (i7_3:B.cls=.type "tuple") (j7_3:B.data=.seq #[] bn7_3)
  (h7_4:K.lookup b=aa A) (i7_4:A.cls=.type "tuple") (j7_4:A.data=.seq #[] bn7_4)
  (a8:fA9 K "replaced" 6)
  (a9:fA9 K "operand_places" 7)
  (a10:fA9 K "bit_of" 8)
  (a11:fA9 K "all_bits" 9)
  (a12:fA9 K "has_bit" 10)
  (a13:fA9 K "without_bit" 11)
  (g14:nV9 K "LOWEST" (.int (-1000000000) t14))
  (g15:nV9 K "HIGHEST" (.int (999999999) t15))
  (g16:nV9 K "HALF" (.int (1000000000) t16))
  (g17:nV9 K "RING" (.int (2000000000) t17))
  (g18:nV9 K "PUT_SIGNS" (.ref A18)) (d18:K.lookup A18=aa ob18) (f18c:ob18.cls=.type "tuple") (f18d:ob18.dict=ab) (e18:ob18.data=.seq #[.str "+" t18_0,.str "-" t18_1,.str "*" t18_2,.str "/" t18_3,.str "mod" t18_4] on18)
  (g19:nV9 K "IF_SIGNS" (.ref A19)) (d19:K.lookup A19=aa ob19) (f19c:ob19.cls=.type "tuple") (f19d:ob19.dict=ab) (e19:ob19.data=.seq #[.str "<" t19_0,.str "<=" t19_1,.str "=" t19_2,.str ">=" t19_3,.str ">" t19_4,.str "!=" t19_5] on19)
  (a20:fA9 K "around" 19)
  (a21:fA9 K "divided" 20)
  (a22:fA9 K "left_over" 21)
  (a23:fA9 K "reckon" 22)
  (a24:fA9 K "is_so" 23)
  (g25:nV9 K "CONTRARIES" (.ref A25)) (d25:K.lookup A25=aa j) (f25c:j.cls=.type "dict") (f25d:j.dict=ab) (f25s:j.slots=#[]) (e25:j.data=.dict #[⟨bt Pm "<",.str "<" z,.str ">=" p⟩,⟨bt Pm ">=",.str ">=" y,.str "<" o⟩,⟨bt Pm "<=",.str "<=" x,.str ">" n⟩,⟨bt Pm ">",.str ">" w,.str "<=" m⟩,⟨bt Pm "=",.str "=" r,.str "!=" l⟩,⟨bt Pm "!=",.str "!=" q,.str "=" k⟩] ep25) (s25:(A25==bp)=ae)
  (a26:fA9 K "behind" 26)
  (a27:fA9 K "fakes" 35)
  (a28:fA9 K "fake_of" 36)
  (a29:fA9 K "worth" 38)
  (a30:fA9 K "began" 39)
  (a31:fA9 K "at_end" 40)
  (a32:fA9 K "values_behind" 41)
  (a33:fA9 K "place_behind" 42)
  (a34:fA9 K "moved" 43)
  (a35:fA9 K "is_outcome" 44)
  (a36:FnAtE K "trail" (top 45) 100)
  (a37:FnAtE K "outcome" (top 46) 100)
  (g38:nV9 K "MOST_TRIALS" (.int (10) t38))
  (a39:fA9 K "check_trials" 49)
  (g40:nV9 K "WIDEST" (.int (64) t40))
  (a41:fA9 K "width" 52)
  (a42:fA9 K "inputs_of" 53)
  (a43:fA9 K "is_wide" 54)
  (a44:fA9 K "box" 55)
  (a45:fA9 K "menu_numbers" 56)
  (a46:fA9 K "menu" 57)
  (a47:fA9 K "tried" 58)
  (g48:nV9 K "NOUGHT" (.ref A48)) (d48:K.lookup A48=aa Z) (f48c:Z.cls=.type "tuple") (e48:Z.data=.seq #[.str ("number") t48_0,.int (0) t48_1] on48)
  (g49:nV9 K "ONE" (.ref A49)) (d49:K.lookup A49=aa Y) (f49c:Y.cls=.type "tuple") (e49:Y.data=.seq #[.str ("number") t49_0,.int (1) t49_1] on49)
  (g50:nV9 K "SKIP" (.ref A50)) (d50:K.lookup A50=aa V) (f50c:V.cls=.type "tuple") (e50:V.data=.seq #[.str ("skip") t50_0] on50)
  (a51:fA9 K "are_numbers" 63)
  (a52:fA9 K "lesser_first" 64)
  (a53:fA9 K "less_as_more" 65)
  (a54:fA9 K "without_reckoning" 66)
  (a55:fA9 K "made_put" 67)
  (a56:fA9 K "greater_as_less" 68)
  (a57:fA9 K "is_settled" 69)
  (a58:fA9 K "settled" 70)
  (a59:fA9 K "most_as_less" 71)
  (a60:fA9 K "made_if" 72)
  (a61:fA9 K "made_row" 73)
  (a62:fA9 K "made" 74)
  (g63:nV9 K "END" (.ref A63)) (d63:K.lookup A63=aa U) (f63c:U.cls=.type "tuple") (e63:U.data=.seq #[.str ("end") t63_0] on63)
  (a64:fA9 K "row_at" 77)
  (a65:fA9 K "ends_run" 78)
  (a66:fA9 K "reads_only" 79)
  (a67:fA9 K "end_alike" 80)
  (a68:fA9 K "choose_alike" 81)
  (a69:fA9 K "staying" 82)
  (a70:fA9 K "places_behind" 83)
  (a71:fA9 K "follow" 84)
  (a72:fA9 K "found_paper" 86)
  (a73:FnAtE K "parting" (top 88) 100)
  (a74:FnAtE K "tells" (top 89) 100)
  (a75:FnAtE K "sought" (top 91) 100)
  (a76:fA9 K "first_telling" 93)
  (a77:fA9 K "verdict" 94)
  (a78:FnAtE K "verdicts" (top 95) 100)
  (a79:fA9 K "trials_behind" 96)
  (a80:FnAtE K "more_trials" (top 97) 100)
  (a81:fA9 K "_law_whole" 99)
  (a82:fA9 K "_law_cell_at" 100)
  (a83:fA9 K "_law_small_by" 101)
  (a84:fA9 K "_law_operand" 102)
  (a85:fA9 K "_law_row" 103)
  (a86:fA9 K "_law_stretch" 104)
  (a87:fA9 K "_law_program" 105)
  (a88:fA9 K "_law_trials" 106)
  (a89:fA9 K "_law_around" 108)
  (a90:fA9 K "_law_reckon" 109)
  (a91:fA9 K "_law_so" 110)
  (a92:fA9 K "_law_worth" 111)
  (a93:fA9 K "_law_next" 112)
  (a94:fA9 K "_law_trail" 113)
  (a95:fA9 K "_law_wide" 115)
  (a96:fA9 K "_law_tried" 116)
  (a97:fA9 K "_law_tells" 117)
  (a98:fA9 K "_law_due" 118)
  (a99:fA9 K "_law_kinds" 119)
  (a100:fA9 K "law" 120)
  (z101:nN9 K "len")
  (z102:nN9 K "range")
  (z103:nN9 K "tuple")
  (z104:nN9 K "list")
  (z105:nN9 K "int")
  (z106:nN9 K "bool")
  (z107:nN9 K "str")
  (z108:nN9 K "min")
  (z109:nN9 K "max")
  (z110:nN9 K "isinstance")
  (z111:nN9 K "all")
  (z112:nN9 K "any")
  (z113:nN9 K "zip")
  (z114:nN9 K "sorted")
  (z115:nN9 K "enumerate")
  (z116:nN9 K "set") :
  Text Pm K mg G T/\∃ (fd:bh) (N:Li Str),(∀ (s:Sd) (u:vL),BindsTo s fd ⟨[u],[]⟩ [(S "_law_script",u)])/\DefOk K mg G T "law" 16 [] fa fd [S "_law_script"] N:=by
 refine⟨Zf5 (gC X a yz0 y0 (gS yz0 y0 ym0_0 (gS yz1 y1 ym0_1 (gS yz2 y2 ym0_2 (gS yz3 y3 ym0_3 (gS yz4 y4 ym0_4 (gS yz5 y5 ym0_5 (gS yz6 y6 ym0_6 trivial))))))) (gM w0_147 ZhP rfl (gM w0_148 ZhQ rfl trivial)) (gC X a yz1 y1 (gS yz1 y1 ym1_1 trivial) (gM w1_170 ZhR rfl (gM w1_171 ZhS rfl trivial)) (gC X a yz2 y2 (gS yz2 y2 ym2_2 trivial) (gM w2_150 ZhT rfl (gM w2_151 ZhU rfl trivial)) (gC X a yz3 y3 (gS yz3 y3 ym3_3 trivial) (gM w3_158 ZhV rfl (gM w3_159 ZhW rfl trivial)) (gC X a yz4 y4 (gS yz4 y4 ym4_4 trivial) (gM w4_153 ZhX rfl (gM w4_154 ZhY rfl trivial)) (gC X a yz5 y5 (gS yz5 y5 ym5_5 trivial) (gM w5_161 ZhZ rfl (gM w5_162 Zh0 rfl trivial)) (gC X a yz6 y6 (gS yz6 y6 ym6_6 trivial) (gM w6_164 Zh1 rfl (gM w6_165 Zh2 rfl trivial)) (⟨⟨A7,ob7,#[⟨bt Pm "put",.str "put" R,.ref i⟩,⟨bt Pm "if",.str "if" Q,.ref g⟩,⟨bt Pm "tell",.str "tell" P,.ref f⟩,⟨bt Pm "go",.str "go" O,.ref c⟩,⟨bt Pm "skip",.str "skip" M,.ref b⟩],ep7,W.mg_of X a g7,d7,⟨f7c,f7d,f7s⟩,e7,s7,(by decide),(show EsOk Pm K [⟨bt Pm "put",.str "put" R,.ref i⟩,⟨bt Pm "if",.str "if" Q,.ref g⟩,⟨bt Pm "tell",.str "tell" P,.ref f⟩,⟨bt Pm "go",.str "go" O,.ref c⟩,⟨bt Pm "skip",.str "skip" M,.ref b⟩] _ _ from .cons (v:=.ref i) (t:=R) rfl rfl (show RelV (.ref i) (.ref i) from rfl) (λ_ _=>.tup (xs:=[.int (2),.int (4)]) (.inr ⟨E,#[.int (2) L,.int (4) J],bn7_0,h7_0,i7_0,j7_0,(show(2:Nat)<=ax by decide),.cons ⟨_,rfl⟩ (.cons ⟨_,rfl⟩ (.nil))⟩) (.cons (.int _) (.cons (.int _) (.nil)))) (.cons (v:=.ref g) (t:=Q) rfl rfl (show RelV (.ref g) (.ref g) from rfl) (λ_ _=>.tup (xs:=[.int (1),.int (3)]) (.inr ⟨D,#[.int (1) I,.int (3) H],bn7_1,h7_1,i7_1,j7_1,(show(2:Nat)<=ax by decide),.cons ⟨_,rfl⟩ (.cons ⟨_,rfl⟩ (.nil))⟩) (.cons (.int _) (.cons (.int _) (.nil)))) (.cons (v:=.ref f) (t:=P) rfl rfl (show RelV (.ref f) (.ref f) from rfl) (λ_ _=>.tup (xs:=[.int (1)]) (.inr ⟨C,#[.int (1) F],bn7_2,h7_2,i7_2,j7_2,(show(1:Nat)<=ax by decide),.cons ⟨_,rfl⟩ (.nil)⟩) (.cons (.int _) (.nil))) (.cons (v:=.ref c) (t:=O) rfl rfl (show RelV (.ref c) (.ref c) from rfl) (λ_ _=>.tup (xs:=[]) (.inr ⟨B,#[],bn7_3,h7_3,i7_3,j7_3,(show(0:Nat)<=ax by decide),.nil⟩) (.nil)) (.cons (v:=.ref b) (t:=M) rfl rfl (show RelV (.ref b) (.ref b) from rfl) (λ_ _=>.tup (xs:=[]) (.inr ⟨A,#[],bn7_4,h7_4,i7_4,j7_4,(show(0:Nat)<=ax by decide),.nil⟩) (.nil)) (.nil))))))⟩,gD X a a8 q_6 rfl (gD X a a9 q_7 rfl (gD X a a10 q_8 rfl (gD X a a11 q_9 rfl (gD X a a12 Zkw rfl (gD X a a13 Zkx rfl (gI X a g14 (gI X a g15 (gI X a g16 (gI X a g17 (⟨⟨.ref A18,.ref A18,W.mg_of X a g18,rfl,λ_ _=>.kt (its:=#[.str "+" t18_0,.str "-" t18_1,.str "*" t18_2,.str "/" t18_3,.str "mod" t18_4]) d18 f18c f18d e18 (show(5:Nat)<=ax by decide) (.cons ⟨_,rfl⟩ (.cons ⟨_,rfl⟩ (.cons ⟨_,rfl⟩ (.cons ⟨_,rfl⟩ (.cons ⟨_,rfl⟩ (.nil))))))⟩,⟨⟨.ref A19,.ref A19,W.mg_of X a g19,rfl,λ_ _=>.kt (its:=#[.str "<" t19_0,.str "<=" t19_1,.str "=" t19_2,.str ">=" t19_3,.str ">" t19_4,.str "!=" t19_5]) d19 f19c f19d e19 (show(6:Nat)<=ax by decide) (.cons ⟨_,rfl⟩ (.cons ⟨_,rfl⟩ (.cons ⟨_,rfl⟩ (.cons ⟨_,rfl⟩ (.cons ⟨_,rfl⟩ (.cons ⟨_,rfl⟩ (.nil)))))))⟩,gD X a a20 Zky rfl (gD X a a21 Zkz rfl (gD X a a22 ZkA rfl (gD X a a23 ZkB rfl (gD X a a24 ZkC rfl (⟨⟨A25,j,#[⟨bt Pm "<",.str "<" z,.str ">=" p⟩,⟨bt Pm ">=",.str ">=" y,.str "<" o⟩,⟨bt Pm "<=",.str "<=" x,.str ">" n⟩,⟨bt Pm ">",.str ">" w,.str "<=" m⟩,⟨bt Pm "=",.str "=" r,.str "!=" l⟩,⟨bt Pm "!=",.str "!=" q,.str "=" k⟩],ep25,W.mg_of X a g25,d25,⟨f25c,f25d,f25s⟩,e25,s25,(by decide),(show EsOk Pm K [⟨bt Pm "<",.str "<" z,.str ">=" p⟩,⟨bt Pm ">=",.str ">=" y,.str "<" o⟩,⟨bt Pm "<=",.str "<=" x,.str ">" n⟩,⟨bt Pm ">",.str ">" w,.str "<=" m⟩,⟨bt Pm "=",.str "=" r,.str "!=" l⟩,⟨bt Pm "!=",.str "!=" q,.str "=" k⟩] _ _ from .cons (v:=.str ">=") (t:=z) rfl rfl (show RelV (.str ">=") (.str ">=" p) from⟨_,rfl⟩) (λ_ _=>.str _) (.cons (v:=.str "<") (t:=y) rfl rfl (show RelV (.str "<") (.str "<" o) from⟨_,rfl⟩) (λ_ _=>.str _) (.cons (v:=.str ">") (t:=x) rfl rfl (show RelV (.str ">") (.str ">" n) from⟨_,rfl⟩) (λ_ _=>.str _) (.cons (v:=.str "<=") (t:=w) rfl rfl (show RelV (.str "<=") (.str "<=" m) from⟨_,rfl⟩) (λ_ _=>.str _) (.cons (v:=.str "!=") (t:=r) rfl rfl (show RelV (.str "!=") (.str "!=" l) from⟨_,rfl⟩) (λ_ _=>.str _) (.cons (v:=.str "=") (t:=q) rfl rfl (show RelV (.str "=") (.str "=" k) from⟨_,rfl⟩) (λ_ _=>.str _) (.nil)))))))⟩,gD X a a26 ZkD rfl (gD X a a27 ZkE rfl (gD X a a28 ZkF rfl (gD X a a29 ZkG rfl (gD X a a30 ZkH rfl (gD X a a31 ZkI rfl (gD X a a32 ZkJ rfl (gD X a a33 ZkK rfl (gD X a a34 ZkL rfl (gD X a a35 ZkM rfl (gE X a a36 ZkN rfl ?_ (gE X a a37 ZkO rfl ?_ (gI X a g38 (gD X a a39 ZkP rfl (gI X a g40 (gD X a a41 ZkQ rfl (gD X a a42 ZkR rfl (gD X a a43 ZkS rfl (gD X a a44 ZkT rfl (gD X a a45 ZkU rfl (gD X a a46 ZkV rfl (gD X a a47 ZkW rfl (⟨⟨.ref A48,.ref A48,W.mg_of X a g48,rfl,λ_ _=>.tup (xs:=[.str ("number"),.int (0)]) (.inr ⟨Z,#[.str ("number") t48_0,.int (0) t48_1],on48,d48,f48c,e48,(show(2:Nat)<=ax by decide),.cons ⟨_,rfl⟩ (.cons ⟨_,rfl⟩ (.nil))⟩) (.cons (.str _) (.cons (.int _) (.nil)))⟩,⟨⟨.ref A49,.ref A49,W.mg_of X a g49,rfl,λ_ _=>.tup (xs:=[.str ("number"),.int (1)]) (.inr ⟨Y,#[.str ("number") t49_0,.int (1) t49_1],on49,d49,f49c,e49,(show(2:Nat)<=ax by decide),.cons ⟨_,rfl⟩ (.cons ⟨_,rfl⟩ (.nil))⟩) (.cons (.str _) (.cons (.int _) (.nil)))⟩,⟨⟨.ref A50,.ref A50,W.mg_of X a g50,rfl,λ_ _=>.tup (xs:=[.str ("skip")]) (.inr ⟨V,#[.str ("skip") t50_0],on50,d50,f50c,e50,(show(1:Nat)<=ax by decide),.cons ⟨_,rfl⟩ (.nil)⟩) (.cons (.str _) (.nil))⟩,gD X a a51 ZkX rfl (gD X a a52 ZkY rfl (gD X a a53 ZkZ rfl (gD X a a54 Zk0 rfl (gD X a a55 Zk1 rfl (gD X a a56 Zk2 rfl (gD X a a57 Zk3 rfl (gD X a a58 Zk4 rfl (gD X a a59 Zk5 rfl (gD X a a60 Zk6 rfl (gD X a a61 Zk7 rfl (gD X a a62 Zk8 rfl (⟨⟨.ref A63,.ref A63,W.mg_of X a g63,rfl,λ_ _=>.tup (xs:=[.str ("end")]) (.inr ⟨U,#[.str ("end") t63_0],on63,d63,f63c,e63,(show(1:Nat)<=ax by decide),.cons ⟨_,rfl⟩ (.nil)⟩) (.cons (.str _) (.nil))⟩,gD X a a64 Zk9 rfl (gD X a a65 Zla rfl (gD X a a66 Zlb rfl (gD X a a67 Zlc rfl (gD X a a68 Zld rfl (gD X a a69 Zle rfl (gD X a a70 Zlf rfl (gD X a a71 Zlg rfl (gD X a a72 Zlh rfl (gE X a a73 Zli rfl (λ_ _ _ _ _ _ _ _ _ _ d e=>⟨λs us hK hl=>by obtain⟨_,_,_,_,rfl⟩:=Zhy (show us.length=4 by simpa using hl);exact W.binds_K hK rfl d e rfl rfl,λs us hK hl=>by obtain⟨_,_,_,rfl⟩:=Zfl (show us.length=3 by simpa using hl);exact W.binds_K hK rfl d e rfl rfl⟩) (gE X a a74 Zlj rfl (λ_ _ _ _ _ _ _ _ _ _ d e=>⟨λs us hK hl=>by obtain⟨_,_,_,_,rfl⟩:=Zhy (show us.length=4 by simpa using hl);exact W.binds_K hK rfl d e rfl rfl,λs us hK hl=>by obtain⟨_,_,_,rfl⟩:=Zfl (show us.length=3 by simpa using hl);exact W.binds_K hK rfl d e rfl rfl⟩) (gE X a a75 Zlk rfl ?_ (gD X a a76 Zll rfl (gD X a a77 Zlm rfl (gE X a a78 Zln rfl ?_ (gD X a a79 Zlo rfl (gE X a a80 Zlp rfl ?_ (gD X a a81 Zlq rfl (gD X a a82 Zjv rfl (gD X a a83 Zjw rfl (gD X a a84 Zjx rfl (gD X a a85 Zjy rfl (gD X a a86 Zjz rfl (gD X a a87 ZjA rfl (gD X a a88 ZjB rfl (gD X a a89 ZjC rfl (gD X a a90 ZjD rfl (gD X a a91 ZjE rfl (gD X a a92 ZjF rfl (gD X a a93 ZjG rfl (gD X a a94 ZjH rfl (gD X a a95 ZjI rfl (gD X a a96 ZjJ rfl (gD X a a97 ZjK rfl (gD X a a98 ZjL rfl (gD X a a99 ZjM rfl (gD X a a100 ZgG rfl (gB X a z101 (gB X a z102 (gB X a z103 (gB X a z104 (gB X a z105 (gB X a z106 (gB X a z107 (gB X a z108 (gB X a z109 (gB X a z110 (gB X a z111 (gB X a z112 (gB X a z113 (gB X a z114 (gB X a z115 (gB X a z116 (trivial)))))))))))))))))))))))))))))))))))))))))))))))))))))⟩))))))))))))⟩⟩⟩))))))))))))))))))))))⟩)))))⟩⟩))))))))))⟩)))))))),gL X a hfa a100 ZgG rfl λ_ _ _ _ _ _ _=>rfl⟩
 all_goals exact λ_ _ _ _ _ _ _ _ _ _ d e=>⟨λs us hK hl=>by obtain⟨_,_,_,z⟩:=Zfl (show us.length=3 by simpa using hl);subst z;exact PySem.W.binds_K hK rfl d e rfl rfl,λs us hK hl=>by obtain⟨_,_,z⟩:=Zjk (show us.length=2 by simpa using hl);subst z;exact PySem.W.binds_K hK rfl d e rfl rfl⟩
def Zfs:∀ n,XB G (run T n):=λ_=>ZeQ
end
end Dp
open PySem PySem.W PyProof.Rows
local macro_rules
 |`(∅)=>`(.mk ?_ ?_ ?_ ?_)
set_option maxHeartbeats 0 in
theorem PySem.Challenge.cw_fakehunt_k66_trials_more_holds : PySem.Challenge.rw_fakehunt_k66_trials_more.Holds := by
 w_on;o_law;k_head;(case hw=>w_witness2)
 k_fill
 refine Dp.ZbS (l:=PySem.Challenge.rw_fakehunt_k66_trials_more) (G:=Dp.G) (T:=Dp.T) (n:=13) (i:=16) (x := "_law_script") rfl rfl ⟨rfl,by decide,by decide⟩ (λw h Y=>PySem.W.kIn_of Y) Dp.Zfs ?F (λns hn=>Dp.ZbR 0 ns)
 case F=>
  intro w mg fa h KX G0 hmg;refine' ⟨Dp.tab [(146,?C0),(169,?C1),(149,?C2),(157,?C3),(152,?C4),(160,?C5),(163,?C6)],Dp.Zg4 (ct:=Dp.tab [(146,?C0),(169,?C1),(149,?C2),(157,?C3),(152,?C4),(160,?C5),(163,?C6)]) (Pm:=w.params) (C0:=?C0) (C1:=?C1) (C2:=?C2) (C3:=?C3) (C4:=?C4) (C5:=?C5) (C6:=?C6) KX G0 hmg ?z0 ?z1 ?z2 ?z3 ?z4 ?z5 ?z6 ⟨?_,?_,?_,?_,?_,?_,?_,?_,?_,?_,?_,?_⟩ ?_ ?_ ?_ ?_ ?_ ?_ ?_ (.mk ?_ ?_ ?_ ?_ ?_) (.mk ?_ ?_ ?_ ?_ ?_) ⟨?_,?_,?_,?_,?_,?_,?_,?_,?_,?_,?_,?_⟩ ?_ (.mk ?_ ?_ ?_ ?_ ?_) (.mk ?_ ?_ ?_ ?_ ?_) ⟨?_,?_,?_,?_,?_,?_,?_,?_,?_,?_,?_,?_⟩ ?_ (.mk ?_ ?_ ?_ ?_ ?_) (.mk ?_ ?_ ?_ ?_ ?_) ⟨?_,?_,?_,?_,?_,?_,?_,?_,?_,?_,?_,?_⟩ ?_ (.mk ?_ ?_ ?_ ?_ ?_) (.mk ?_ ?_ ?_ ?_ ?_) ⟨?_,?_,?_,?_,?_,?_,?_,?_,?_,?_,?_,?_⟩ ?_ (.mk ?_ ?_ ?_ ?_ ?_) (.mk ?_ ?_ ?_ ?_ ?_) ⟨?_,?_,?_,?_,?_,?_,?_,?_,?_,?_,?_,?_⟩ ?_ (.mk ?_ ?_ ?_ ?_ ?_) (.mk ?_ ?_ ?_ ?_ ?_) ⟨?_,?_,?_,?_,?_,?_,?_,?_,?_,?_,?_,?_⟩ ?_ (.mk ?_ ?_ ?_ ?_ ?_) (.mk ?_ ?_ ?_ ?_ ?_) ?_ ?_ ?_ ?_ ?_ ?_ ?_ ?_ ?_ ?_ ?_ ?_ ?_ ?_ ?_ ?_ ?_ ?_ ?_ ?_ ?_ ?_ ∅ ∅ ∅ ∅ ∅ ∅ ?_ ?_ ?_ ?_ ?_ ?_ ?_ ?_ ?_ ?_ ?_ ?_ ?_ ?_ ∅ ∅ ∅ ∅ ∅ ?_ ?_ ?_ ?_ ?_ ?_ ?_ ∅ ∅ ∅ ∅ ∅ ∅ ∅ ∅ ∅ ∅ (.mk ?_ ?_ ?_ ?_ ?_ ?_) (.mk ?_ ?_ ?_ ?_ ?_ ?_) ?_ ∅ ?_ ∅ ∅ ∅ ∅ ∅ ∅ ∅ ?_ ?_ ?_ ?_ ?_ ?_ ?_ ?_ ?_ ?_ ?_ ?_ ∅ ∅ ∅ ∅ ∅ ∅ ∅ ∅ ∅ ∅ ∅ ∅ ?_ ?_ ?_ ?_ ∅ ∅ ∅ ∅ ∅ ∅ ∅ ∅ ∅ (.mk ?_ ?_ ?_ ?_ ?_ ?_) (.mk ?_ ?_ ?_ ?_ ?_ ?_) (.mk ?_ ?_ ?_ ?_ ?_ ?_) ∅ ∅ (.mk ?_ ?_ ?_ ?_ ?_ ?_) ∅ (.mk ?_ ?_ ?_ ?_ ?_ ?_) ∅ ∅ ∅ ∅ ∅ ∅ ∅ ∅ ∅ ∅ ∅ ∅ ∅ ∅ ∅ ∅ ∅ ∅ ∅ ∅ ?_ ?_ ?_ ?_ ?_ ?_ ?_ ?_ ?_ ?_ ?_ ?_ ?_ ?_ ?_ ?_⟩
  all_goals (first|k_is|exact rfl|skip)
  all_goals (first|k_is|exact rfl|skip)

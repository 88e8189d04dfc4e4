import PyProof.Rows.All
import Wide.All
import OpenK.AllK
import Wide.FinOn
import Lean
import PyProof.EqAt
import PyProof.EqKinds
import PyProof.TupleCall
import PySem.Challenge.RW_fakehunt_k61_whole_fewest_of_a_program
set_option Elab.async false
set_option linter.all false
set_option maxRecDepth 100000
set_option maxHeartbeats 4000000
set_option genSizeOf false
abbrev Li.{u}(α:Type u):Type u:=List α
abbrev Ot.{u}(α:Type u):Type u:=Option α
abbrev vL:=PySem.Value
abbrev Ad:=PySem.Addr
abbrev Sd:=PySem.Shared
theorem Ob{α β:Type}{a:α}{f:α->Ot β}:(some a).bind f=f a:=rfl
abbrev Fg:=PySem.W.Frag
theorem Ba(a b:Bool):((a&&b)=true)=(a=true/\b=true):=Bool.and_eq_true a b
theorem Lg{α:Type _}{l:Li α}{i:Nat}(h:i<l.length):l[i]?=some l[i]:=List.getElem?_eq_getElem h
theorem Lm{α:Type _}(y:α){a:α}{l:Li α}(h:a∈l):a∈y::l:=List.mem_cons_of_mem y h
theorem Ls{α:Type _}{a:α}{l:Li α}:a∈a::l:=List.mem_cons_self
theorem Bf:¬false=true:=Bool.false_ne_true
namespace L2
open PySem PySem.Spec PyProof.Rows

noncomputable abbrev Key:=Sum Int Str
noncomputable def keyIs:Key->vL->Bool
  |.inl k,v=>Value.isInt k v
  |.inr x,v=>Value.isStrOf x v
noncomputable def keyH(w:World):Key->Int
  |.inl k=>hashInt k
  |.inr x=>hashStr w x
theorem keyIs_shape:∀ {k:Key}{v:vL},keyIs k v=true->(∃ i t,k=Sum.inl i/\v=Value.int i t)\/(∃ x t,k=Sum.inr x/\v=Value.str x t)
  |.inl i,v,h=>by
    obtain⟨t,e⟩:=Value.isInt_shape (k:=i) (v:=v) h;exact .inl ⟨i,t,rfl,e⟩
  |.inr x,v,h=>by
    obtain⟨t,e⟩:=Value.isStrOf_shape (x:=x) (v:=v) h;exact .inr ⟨x,t,rfl,e⟩
theorem keyIs_int(i:Int)(t:Tok):keyIs (.inl i) (.int i t)=true:=by simp[keyIs,Value.isInt]
theorem keyIs_str(x:Str)(t:Tok):keyIs (.inr x) (.str x t)=true:=by simp[keyIs,Value.isStrOf]
theorem key_ll(a b:Int):decide ((Sum.inl a:Key)=Sum.inl b)=(a==b):=by
  by_cases e:a=b
  · subst e;simp
  · have h:¬(Sum.inl a:Key)=Sum.inl b:=fun q=>e (Sum.inl.inj q)
    rw[decide_eq_false h];exact(beq_eq_false_iff_ne.mpr e).symm
theorem key_rr(a b:Str):decide ((Sum.inr a:Key)=Sum.inr b)=decide (a=b):=by
  by_cases e:a=b
  · subst e;simp
  · have h:¬(Sum.inr a:Key)=Sum.inr b:=fun q=>e (Sum.inr.inj q)
    rw[decide_eq_false h,decide_eq_false e]
theorem key_lr(a:Int)(b:Str):decide ((Sum.inl a:Key)=Sum.inr b)=false:=decide_eq_false (fun q=>nomatch q)
theorem key_rl(a:Str)(b:Int):decide ((Sum.inr a:Key)=Sum.inl b)=false:=decide_eq_false (fun q=>nomatch q)

noncomputable def mixKind(prog:Program)(w:World):PySem.KeyKind prog w Key where
  is:=keyIs
  hash:=keyH w
  inj:=fun v a b ha hb=>by
    rcases keyIs_shape ha with⟨i,t,rfl,rfl⟩|⟨x,t,rfl,rfl⟩
    · rcases keyIs_shape hb with⟨j,u,rfl,e⟩|⟨y,u,rfl,e⟩
      · injection e with e1 _;rw[e1]
      · exact nomatch e
    · rcases keyIs_shape hb with⟨j,u,rfl,e⟩|⟨y,u,rfl,e⟩
      · exact nomatch e
      · injection e with e1 _;rw[e1]
  byValue:=fun k v h=>by
    rcases keyIs_shape h with⟨i,t,rfl,rfl⟩|⟨x,t,rfl,rfl⟩<;>rfl
  pyHash:=fun hv h=>by
    rcases keyIs_shape hv with⟨i,t,rfl,rfl⟩|⟨x,t,rfl,rfl⟩
    · exact wpAny_pyHash_int h
    · exact wpAny_pyHash_str h
  eqBool:=fun hu hv h=>by
    rcases keyIs_shape hu with⟨i,t,rfl,rfl⟩|⟨x,t,rfl,rfl⟩
    · rcases keyIs_shape hv with⟨j,u,rfl,rfl⟩|⟨y,u,rfl,rfl⟩
      · rw[key_ll]at h;exact wpAny_eqBool_int h
      · rw[key_lr]at h;exact SeqAt.EqAt.int_str i t y u _ _ _ _ h
    · rcases keyIs_shape hv with⟨j,u,rfl,rfl⟩|⟨y,u,rfl,rfl⟩
      · rw[key_rl]at h;exact SeqAt.EqAt.str_int x t j u _ _ _ _ h
      · rw[key_rr]at h;exact wpAny_eqBool_str h
  «strs»:=fun k x t v h=>by
    rcases keyIs_shape h with⟨i,u,rfl,e⟩|⟨y,u,rfl,e⟩
    · exact nomatch e
    · injection e with e1 _
      subst e1;cases v<;>rfl

theorem mixKind_int(prog:Program)(w:World)(i:Int)(t:Tok):(mixKind prog w).is (.inl i) (.int i t)=true:=keyIs_int i t
theorem mixKind_str(prog:Program)(w:World)(x:Str)(t:Tok):(mixKind prog w).is (.inr x) (.str x t)=true:=keyIs_str x t
end L2

namespace L2
open PySem PySem.Spec PyProof.Rows

inductive V where
  |non|bl (b:Bool)|int (i:Int)|str (x:Str)|byt (b:Array UInt8)|flt (b:UInt64)|ref (a:Addr)|ty (n:String)
  deriving DecidableEq

def RelV:V->vL->Prop
  |.non,u=>u=Value.none
  |.bl b,u=>u=Value.bool b
  |.int i,u=>∃ t,u=Value.int i t
  |.str x,u=>∃ t,u=Value.str x t
  |.byt b,u=>∃ t,u=Value.bytes b t
  |.flt b,u=>∃ t,u=Value.float b t
  |.ref a,u=>u=Value.ref a
  |.ty n,u=>u=Value.type n

abbrev Vals:Li V->Li vL->Prop:=Paired RelV
theorem Vals.length{xs:Li V}{us:Li vL}(r:Vals xs us):xs.length=us.length:=Paired.length r
theorem Vals.get:∀ {xs:Li V}{us:Li vL}{i:Nat}{x:V},Vals xs us->xs[i]?=some x->∃ u,us[i]?=some u/\RelV x u
  |_,_,_,_,.nil,e=>by simp at e
  |_,_,0,_,.cons r _,e=>by simp at e;subst e;exact⟨_,rfl,r⟩
  |_,_,i+1,x,.cons _ t,e=>by
    obtain⟨u,h1,h2⟩:=Vals.get (i:=i) (x:=x) t (by simpa using e)
    exact⟨u,by simpa using h1,h2⟩
theorem Vals.set{x:V}{u:vL}(r:RelV x u):∀ {xs:Li V}{us:Li vL} (i:Nat),Vals xs us->Vals (xs.set i x) (us.set i u)
  |_,_,_,.nil=>.nil
  |_,_,0,.cons _ t=>.cons r t
  |_,_,i+1,.cons q t=>.cons q (Vals.set r i t)
theorem Vals.append:∀ {xs ys:Li V}{us ws:Li vL},Vals xs us->Vals ys ws->Vals (xs++ys) (us++ws)
  |_,_,_,_,.nil,s=>s
  |_,_,_,_,.cons r t,s=>.cons r (Vals.append t s)
theorem Vals.take:∀ {xs:Li V}{us:Li vL} (n:Nat),Vals xs us->Vals (xs.take n) (us.take n)
  |_,_,0,_=>.nil
  |_,_,_+1,.nil=>.nil
  |_,_,n+1,.cons r t=>.cons r (Vals.take n t)
theorem Vals.drop:∀ {xs:Li V}{us:Li vL} (n:Nat),Vals xs us->Vals (xs.drop n) (us.drop n)
  |_,_,0,r=>r
  |_,_,_+1,.nil=>.nil
  |_,_,n+1,.cons _ t=>Vals.drop n t

def RelO:Ot V->Ot vL->Prop
  |some v,some u=>RelV v u
  |none,none=>True
  |_,_=>False
def KV{κ:Type}:Li (κ×V)->Li (κ×vL)->Prop:=Paired fun(p:κ×V) (q:κ×vL)=>p.1=q.1/\RelV p.2 q.2

noncomputable def kV:Key->V
  |.inl i=>.int i
  |.inr x=>.str x

inductive HO where
    |lst (xs:List V)
    |tup (xs:List V)
    |dK (kvs:List (Key×V))|dT (kvs:List (List Key×V))
    |set (S:Int->Bool) (n:Nat)
    |ins (C dx:Addr) (fs:List (Str×V))
    |own (x:Addr)
    |xd (fs:List (Str×V))
    |met (f x:Addr)
    |rng (lo hi:Int)
    |frz (o:Obj) (u:HO)
    |tbl (ps:Array Value)
    |ext (φ:Heap->Prop)

noncomputable abbrev Hp:=Ad->Ot HO
noncomputable def upd(H:Hp)(a:Ad)(o:HO):Hp:=fun b=>if b=a then some o else H b
theorem upd_same{H:Hp}{a:Ad}{o:HO}:upd H a o a=some o:=by unfold upd;rw[if_pos rfl]
theorem upd_ne{H:Hp}{a b:Ad}{o:HO}(h:b≠a):upd H a o b=H b:=by unfold upd;rw[if_neg h]
theorem ne_of{H:Hp}{a b:Ad}{o u:HO}(h:H a=some o)(h':H b=some u)(d:o≠u):a≠b:=by
  intro e;subst e;rw[h]at h';exact d (Option.some.inj h')
theorem ne_of_none{H:Hp}{a b:Ad}{o:HO}(h:H a=some o)(h':H b=none):a≠b:=by
  intro e;subst e;rw[h]at h';cases h'

section
variable (P:Program) (w:World)
def ObjOk(H:Hp)(h:Heap)(a:Ad):HO->Prop
  |.lst xs=>xs.length<=sizeLine/\∃ (its:Li vL) (n:Nat),Vals xs its/\h.get? a=some { cls:=.type "list",data:=.seq its.toArray n }
  |.tup xs=>xs.length<=sizeLine/\∃ its:Li vL,Vals xs its/\IsTup h a its.toArray
  |.dK kvs=>kvs.length<=sizeLine/\(a==sysModules)=false/\∃ vs,KV kvs vs/\h.DictOf (mixKind P w) a vs
  |.dT kvs=>kvs.length<=sizeLine/\(a==sysModules)=false/\∃ xs:Li (Li Key×Ad×vL),
      Paired (fun(p:Li Key×V) (q:Li Key×Ad×vL)=>p.1=q.1/\H q.2.1=some (.tup (p.1.map kV))/\RelV p.2 q.2.2) kvs xs /\
      ∃ o es ep,h.get? a=some o/\o.ExactDict/\o.data=.dict es ep/\es.toList=xs.map (entryOfKey (tupleKind (mixKind P w)))/\(xs.map (·.1)).Nodup
  |.set S n=>h.SetOf (intKind P w) a S n
  |.ins C dx fs=>H dx=some (.own a)/\fs.length<=1000/\dx≠a/\h.get? a=some (PySem.W.instObj C dx) /\
      ∃ mA,h.Ns1 dx mA/\(∀ f,RelO (fs.lookup f) (mA f))/\PySem.Within mA (fs.map (·.1))
  |.own _=>∃ o,h.get? a=some o
  |.xd fs=>∃ mA,h.Ns1 a mA/\∀ f,RelO (fs.lookup f) (mA f)
  |.rng lo hi=>∃ t u v,h.get? a=some { cls:=.type "range",data:=.fields #[.int lo t,.int hi u,.int 1 v] }
  |.frz o u=>h.get? a=some o/\ObjOk H h a u
  |.tbl ps=>h.get? a=some { cls:=.none,data:=.fields ps }
  |.met f x=>h.get? a=some (PySem.W.methodObj (.ref f) (.ref x))
  |.ext φ=>φ h/\(∃ o,h.get? a=some o)/\∀ h1 h2:Heap,φ h1->(∀ o,h1.get? a=some o->h2.get? a=some o)->φ h2
def HOk(H:Hp)(h:Heap):Prop:=∀ a o,H a=some o->ObjOk P w H h a o
end

section
variable {P:Program}{w:World}{H H':Hp}{h h':Heap}{a:Ad}{o:HO}
theorem ObjOk.lt(x:ObjOk P w H h a o):a < h.objs.size:=by
  cases o with
  |lst xs=>obtain⟨_,_,_,_,e⟩:=x;exact Heap.lt_size e
  |tup xs=>obtain⟨_,_,_,p⟩:=x;exact p.lt
  |dK kvs=>obtain⟨_,_,_,_,o,_,_,e,_⟩:=x;exact Heap.lt_size e
  |dT kvs=>obtain⟨_,_,_,_,o,_,_,e,_⟩:=x;exact Heap.lt_size e
  |set S n=>obtain⟨o,_,_,_,e,_⟩:=x;exact Heap.lt_size e
  |ins C dx fs=>obtain⟨_,_,_,e,_⟩:=x;exact Heap.lt_size e
  |own y=>obtain⟨_,e⟩:=x;exact Heap.lt_size e
  |xd fs=>obtain⟨_,⟨_,_,_,e,_⟩,_⟩:=x;exact Heap.lt_size e
  |rng lo hi=>obtain⟨_,_,_,e⟩:=x;exact Heap.lt_size e
  |frz ob u=>obtain⟨e,_⟩:=x;exact Heap.lt_size e
  |tbl ps=>exact Heap.lt_size (show h.get? a=some _ from x)
  |met f y=>exact Heap.lt_size (show h.get? a=some _ from x)
  |ext φ=>obtain⟨_,⟨_,e⟩,_⟩:=x;exact Heap.lt_size e
theorem Paired.mapP{α β:Type}{F G:α->β->Prop}:∀ {l₁:Li α}{l₂:Li β},Paired F l₁ l₂->(∀ a b,F a b->G a b)->Paired G l₁ l₂
  |_,_,.nil,_=>.nil
  |_,_,.cons r t,f=>.cons (f _ _ r) (Paired.mapP t f)
theorem ObjOk.stay(x:ObjOk P w H h a o)(k:∀ b u,(b=a\/H b=some (.own a))->h.get? b=some u->h'.get? b=some u)(ho:∀ b,H b=some (.own a)->H' b=some (.own a))(ht:∀ b xs,H b=some (.tup xs)->H' b=some (.tup xs)):ObjOk P w H' h' a o:=by
  induction o with
  |lst xs=>obtain⟨z,its,n,r,e⟩:=x;exact⟨z,its,n,r,k _ _ (.inl rfl) e⟩
  |tup xs=>obtain⟨z,its,r,ob,e,c⟩:=x;exact⟨z,its,r,ob,k _ _ (.inl rfl) e,c⟩
  |dK kvs=>obtain⟨z,y,vs,r,ob,es,ep,e,c⟩:=x;exact⟨z,y,vs,r,ob,es,ep,k _ _ (.inl rfl) e,c⟩
  |dT kvs=>
    obtain⟨z,y,xs,r,ob,es,ep,e,c⟩:=x;exact⟨z,y,xs,Paired.mapP r fun p q z=>⟨z.1,ht _ _ z.2.1,z.2.2⟩,ob,es,ep,k _ _ (.inl rfl) e,c⟩
  |set S n=>obtain⟨ob,es,ep,t,e,c⟩:=x;exact⟨ob,es,ep,t,k _ _ (.inl rfl) e,c⟩
  |ins C dx fs=>
    obtain⟨d,z,ne,e,mA,⟨od,es,ep,e2,c⟩,r⟩:=x;exact⟨ho _ d,z,ne,k _ _ (.inl rfl) e,mA,⟨od,es,ep,k _ _ (.inr d) e2,c⟩,r⟩
  |own y=>obtain⟨ob,e⟩:=x;exact⟨ob,k _ _ (.inl rfl) e⟩
  |xd fs=>obtain⟨mA,⟨od,es,ep,e,c⟩,r⟩:=x;exact⟨mA,⟨od,es,ep,k _ _ (.inl rfl) e,c⟩,r⟩
  |rng lo hi=>obtain⟨t,u,v,e⟩:=x;exact⟨t,u,v,k _ _ (.inl rfl) e⟩
  |frz ob u ih=>obtain⟨e,q⟩:=x;exact⟨k _ _ (.inl rfl) e,ih q⟩
  |tbl ps=>
    have e:h.get? a=some { cls:=.none,data:=.fields ps }:=x;show h'.get? a=some { cls:=.none,data:=.fields ps };exact k a _ (.inl rfl) e
  |met f y=>
    have e:h.get? a=some (PySem.W.methodObj (.ref f) (.ref y)):=x;show h'.get? a=some (PySem.W.methodObj (.ref f) (.ref y));exact k a _ (.inl rfl) e
  |ext φ=>obtain⟨p,⟨o,e⟩,st⟩:=x;exact⟨st _ _ p fun o q=>k _ _ (.inl rfl) q,⟨o,k _ _ (.inl rfl) e⟩,st⟩
theorem HOk.lt(x:HOk P w H h)(e:H a=some o):a < h.objs.size:=(x a o e).lt
theorem HOk.fresh(x:HOk P w H h)(e:h.objs.size<=a):H a=none:=by
  cases q:H a with
  |none=>rfl
  |some u=>exact absurd (Nat.lt_of_lt_of_le (x.lt q) e) (Nat.lt_irrefl _)
theorem HOk.kept(x:HOk P w H h)(k:∀ b u,h.get? b=some u->h'.get? b=some u):HOk P w H h':=fun a o e=>
  (x a o e).stay (fun b u _ q=>k b u q) (fun _ q=>q) fun _ _ q=>q
theorem HOk.laid(x:HOk P w H h)(k:∀ b u,h.get? b=some u->h'.get? b=some u)(hp:h.objs.size<=a)(new:ObjOk P w (upd H a o) h' a o):HOk P w (upd H a o) h':=fun b u e=>by
  have hn:=x.fresh hp;by_cases hb:b=a
  · subst hb;rw[upd_same]at e;cases e;exact new
  · rw[upd_ne hb]at e
    exact(x b u e).stay (fun c v _ q=>k c v q) (fun c q=>by rw[upd_ne (ne_of_none q hn)];exact q) fun c xs q=>by rw[upd_ne (ne_of_none q hn)];exact q
end

def Rd(H:Hp)(a:Ad)(u:HO):Prop:=H a=some u\/∃ o,H a=some (.frz o u)
theorem Rd.ok{P:Program}{w:World}{H:Hp}{h:Heap}{a:Ad}{u:HO}(r:Rd H a u)(x:HOk P w H h):ObjOk P w H h a u:=by
  rcases r with r|⟨o,r⟩
  · exact x a u r
  · obtain⟨_,q⟩:=x a _ r
    exact q
def Mut:Ot HO->Prop
  |some (.lst _)=>True
  |some (.dK _)=>True
  |some (.dT _)=>True
  |some (.set _ _)=>True
  |some (.ins _ _ _)=>True
  |some (.ext _)=>True
  |_=>False
section
variable {P:Program}{w:World}{H:Hp}{h h':Heap}{x e:Ad}{o':HO}
theorem HOk.write(ok:HOk P w H h)(mu:Mut (H x))(he:e=x\/H e=some (.own x))(k:∀ b u,b≠e->h.get? b=some u->h'.get? b=some u)(heo:∃ u,h'.get? e=some u)(new:ObjOk P w (upd H x o') h' x o'):HOk P w (upd H x o') h':=fun b u q=>by
  have nown:∀ c y,H c=some (.own y)->c≠x:=fun c y r z=>by subst z;rw[r]at mu;exact mu
  have ntup:∀ c xs,H c=some (.tup xs)->c≠x:=fun c xs r z=>by subst z;rw[r]at mu;exact mu
  by_cases hb:b=x
  · subst hb;rw[upd_same]at q;cases q;exact new
  · rw[upd_ne hb]at q
    by_cases hbe:b=e
    · have q':H b=some (.own x):=by
        rcases he with z|z
        · exact absurd (hbe.trans z) hb
        · rw[hbe];exact z
      rw[q]at q';cases q'
      obtain⟨v,hv⟩:=heo;exact⟨v,by rw[hbe];exact hv⟩
    · refine(ok b u q).stay (fun c v hc r=>k c v ?_ r) (fun c r=>by rw[upd_ne (nown c b r)];exact r) fun c xs r=>by rw[upd_ne (ntup c xs r)];exact r
      rcases hc with rfl|hc
      · exact hbe
      · rintro rfl
        rcases he with z|z
        · exact nown c b hc z
        · rw[hc]at z;cases z;exact hb rfl
end

structure Un(fs ex:List Addr)(H H':Hp)(h h':Heap):Prop where
  keep:∀ b o,h.get? b=some o->H b=none->b∉fs->b∉ex->h'.get? b=some o
  slot:∀ b o,h.get? b=some o->H b=none->b∈fs->b∉ex->∃ sl,h'.get? b=some { o with slots:=sl }
  free:∀ b o,h.get? b=some o->H b=none->b∉ex->H' b=none
  there:∀ b o,h.get? b=some o->b∉ex->∃ o',h'.get? b=some o'
  tups:∀ b xs,H b=some (.tup xs)->H' b=some (.tup xs)
  frzs:∀ b o u,H b=some (.frz o u)->H' b=some (.frz o u)
  tbls:∀ b ps,H b=some (.tbl ps)->∃ more,H' b=some (.tbl (ps++more))
section
variable {fs fs' ex ex':Li Ad}{H H1 H2:Hp}{h h1 h2 h':Heap}{a x e:Ad}{o:HO}
theorem Un.any(u:Un fs ex H H1 h h1){b:Ad}{ob:Obj}(q:h.get? b=some ob)(n:H b=none)(hx:b∉ex):∃ sl,h1.get? b=some { ob with slots:=sl }:=by
  by_cases hb:b∈fs
  · exact u.slot b ob q n hb hx
  · exact⟨ob.slots,u.keep b ob q n hb hx⟩
theorem Un.kept(k:∀ b u,h.get? b=some u->h'.get? b=some u):Un fs ex H H h h':=
  ⟨fun b ob q _ _ _=>k b ob q,fun b ob q _ _ _=>⟨ob.slots,k b ob q⟩,fun _ _ _ n _=>n,fun b ob q _=>⟨ob,k b ob q⟩,fun _ _ q=>q,fun _ _ _ q=>q,fun _ ps q=>⟨#[],by rw[q];simp⟩⟩
theorem Un.refl:Un fs ex H H h h:=Un.kept fun _ _ q=>q
theorem Un.laid(k:∀ b u,h.get? b=some u->h'.get? b=some u)(hp:h.objs.size<=a)(hn:H a=none):Un fs ex H (upd H a o) h h' where
  keep:=fun b u q _ _ _=>k b u q
  slot:=fun b u q _ _ _=>⟨u.slots,k b u q⟩
  free:=fun b u q n _=>by rw[upd_ne (Nat.ne_of_lt (Nat.lt_of_lt_of_le (Heap.lt_size q) hp))];exact n
  there:=fun b u q _=>⟨u,k b u q⟩
  tups:=fun b xs q=>by rw[upd_ne (ne_of_none q hn)];exact q
  frzs:=fun b u xs q=>by rw[upd_ne (ne_of_none q hn)];exact q
  tbls:=fun b ps q=>⟨#[],by rw[upd_ne (ne_of_none q hn),q];simp⟩
theorem Un.write(mu:Mut (H x))(he:e=x\/H e=some (.own x))(k:∀ b u,b≠e->h.get? b=some u->h'.get? b=some u)(heo:∃ u,h'.get? e=some u):Un fs ex H (upd H x o) h h':=by
  have hx:∀ b,H b=none->b≠x:=fun b n z=>by subst z;rw[n]at mu;exact mu
  have hb:∀ b,H b=none->b≠e:=fun b n z=>by
    subst z;rcases he with r|r
    · exact hx b n r
    · rw[n]at r;cases r
  have hm:∀ b u,H b=some u->¬Mut (some u)->b≠x:=fun b u q nm z=>by subst z;rw[q]at mu;exact nm mu
  refine⟨fun b u q n _ _=>k b u (hb b n) q,fun b u q n _ _=>⟨u.slots,k b u (hb b n) q⟩,fun b u q n _=>by rw[upd_ne (hx b n)];exact n,fun b u q _=>?_,
    fun b xs q=>by rw[upd_ne (hm b _ q fun z=>z)];exact q,fun b u xs q=>by rw[upd_ne (hm b _ q fun z=>z)];exact q,fun b ps q=>⟨#[],by rw[upd_ne (hm b _ q fun z=>z),q];simp⟩⟩
  by_cases hbe:b=e
  · subst hbe;exact heo
  · exact⟨u,k b u hbe q⟩
end

noncomputable def trk(h:Heap)(H:Hp):Li Ad:=(List.range h.objs.size).filter fun a=>(H a).isSome
noncomputable def hidT(h:Heap)(H:Hp):Heap:=PySem.W.hideAll h (trk h H)
theorem hidT_size(h:Heap)(H:Hp):(hidT h H).objs.size=h.objs.size:=PySem.W.hideAll_size _ _
theorem hidT_get{h:Heap}{H:Hp}{b:Ad}{o:Obj}(e:h.get? b=some o)(n:H b=none):(hidT h H).get? b=some o:=
  PySem.W.hideAll_get _ e fun hm=>by
    have q:(H b).isSome=true:=(List.mem_filter.mp hm).2;rw[n]at q;simp at q
theorem of_hidT{h:Heap}{H:Hp}{b:Ad}{o:Obj}(e:(hidT h H).get? b=some o):h.get? b=some o/\H b=none:=by
  have e':h.get? b=some o:=PySem.W.of_hideAll (trk h H) e;refine⟨e',?_⟩;cases q:H b with
  |none=>rfl
  |some x=>
    have hm:b∈trk h H:=List.mem_filter.mpr ⟨List.mem_range.mpr (Heap.lt_size e'),by simp[q]⟩
    have z:(hidT h H).get? b=none:=PySem.W.hideAll_none (trk h H) hm;rw[z]at e;cases e

end L2

namespace L2
open PySem PySem.Spec PyProof.Rows

structure Mod(K:Fg)(mg:Str->Option Value)(base:Heap):Prop where
  kin:K.In base
  glob:base.Ns mainGlobals mg
  blt:∃ mb,base.Ns builtinsNs mb/\∀ x:Str,x ≠ "__name__"->mb x=bootBuiltins x
  nolimit:base.NoLimit

structure Cx where
  prog:Program
  w:World
  K:Fg
  mg:Str->Option Value
  base:Heap
  A:Around
  N:List Str
  s₀:Shared
  H₀:Hp
  env:Env
  outer:List Env
  stack:List Env
  ex:List Addr
  fn:Str->Bool
  calm:Bool
  pn:List (Addr×Obj)
  xe:Value->Shared->Prop
noncomputable def frs(l:Li Env):Li Ad:=l.filterMap (·.frame)
noncomputable abbrev Cx.fs(X:Cx):Li Ad:=frs X.outer

def Vis(sc:Scope)(x:Str):Prop:=sc.names.lookup x=some .local\/sc.names.lookup x=some .cell\/sc.names.lookup x=some .free
def Loc(sc:Scope)(x:Str):Prop:=sc.names.lookup x=some .local\/sc.names.lookup x=some .cell
def Look(env:Env)(h:Heap)(m:Str->Ot vL)(x:Str)(u:vL):Prop:=
  (env.kindOf x=some .local/\m x=some u)\/((env.kindOf x=some .cell\/env.kindOf x=some .free)/\∃ c,env.cells.lookup x=some c/\h.IsCell c (some u))

structure Cx.Ok(X:Cx):Prop where
  mod:Mod X.K X.mg X.base
  kind:X.env.scope.kind=.function
  glob:X.env.globals=mainGlobals
  blt:X.env.builtins=builtinsNs
  above:X.s₀.heap.objs.size<=X.env.locals
  inj:∀ x y c,X.env.cells.lookup x=some c->X.env.cells.lookup y=some c->x=y
  has:∀ x,(X.env.kindOf x=some .cell\/X.env.kindOf x=some .free)->∃ c,X.env.cells.lookup x=some c
  cab:∀ x c,X.fn x=true->X.env.cells.lookup x=some c->X.s₀.heap.objs.size<=c
  hd:X.calm=true->X.A.handled=none
  frames:X.A.frames=some X.stack
  stk:X.stack=X.outer\/(X.stack=X.env :: X.outer/\X.env.frame=some X.env.locals)
  exf:∀ b∈X.ex,b≠X.env.locals/\∀ x c,X.env.cells.lookup x=some c->c≠b
  bs:∀ b o,X.base.get? b=some o->X.s₀.heap.get? b=some o/\X.H₀ b=none
  bsz:X.base.objs.size<=X.s₀.heap.objs.size
  noex:∀ b o,X.base.get? b=some o->b∉X.ex
  exfs:∀ b∈X.ex,b∉X.fs
  funs:X.s₀.heap.FunFrames X.base X.outer
  frf:∀ b∈X.fs,X.H₀ b=none

structure Inv(X:Cx)(pQ:List (Addr×Obj))(σ:List (Option V))(H:Hp)(s:Shared):Prop where
  ok:X.Ok
  os:s.os=X.s₀.os
  bare:AllBare s.gens
  base:Un X.fs X.ex X.H₀ H X.s₀.heap s.heap
  loc:∃ m,s.heap.Ns X.env.locals m/\∀ (i:Nat) (x:Str) (v:V),X.N[i]?=some x->σ[i]?=some (some v)->Vis X.env.scope x->∃ u,RelV v u/\Look X.env s.heap m x u
  cell:∀ x c,X.env.cells.lookup x=some c->∃ v,s.heap.IsCell c v
  free:H X.env.locals=none
  freeC:∀ x c,X.env.cells.lookup x=some c->H c=none
  pin:∀ p∈X.pn++pQ,s.heap.get? p.1=some p.2/\H p.1=none/\p.1≠X.env.locals/\p.1∉X.fs/\∀ v,p.2.data≠.cell v
  hok:HOk X.prog X.w H s.heap
  len:σ.length=X.N.length

section
variable {X:Cx}{pQ:Li (Ad×Obj)}{σ:Li (Ot V)}{H H':Hp}{s:Sd}{h':Heap}

theorem Cx.Ok.nofr(ok:X.Ok){b:Ad}{o:Obj}(e:X.base.get? b=some o):b∉X.fs:=fun hb=>by
  have:=(ok.funs.mem hb).1;rw[e]at this;cases this
theorem Inv.bs(I:Inv X pQ σ H s):∀ b o,X.base.get? b=some o->s.heap.get? b=some o/\H b=none:=fun b o e=>
  ⟨I.base.keep b o (I.ok.bs b o e).1 (I.ok.bs b o e).2 (I.ok.nofr e) (I.ok.noex b o e),I.base.free b o (I.ok.bs b o e).1 (I.ok.bs b o e).2 (I.ok.noex b o e)⟩
theorem Inv.bk(I:Inv X pQ σ H s):∀ b o,X.base.get? b=some o->s.heap.get? b=some o:=fun b o e=>(I.bs b o e).1
theorem Inv.mod(I:Inv X pQ σ H s):Mod X.K X.mg X.base:=I.ok.mod
theorem Inv.kIn(I:Inv X pQ σ H s):X.K.In s.heap:=I.ok.mod.kin.keeps I.bk
theorem Inv.lt(I:Inv X pQ σ H s):X.env.locals < s.heap.objs.size:=let ⟨_,hn,_⟩:=I.loc;hn.lt
theorem Inv.sz(I:Inv X pQ σ H s):X.s₀.heap.objs.size<=s.heap.objs.size:=Nat.le_trans I.ok.above (Nat.le_of_lt I.lt)
theorem Inv.nofs(I:Inv X pQ σ H s){a:Ad}(h:s.heap.objs.size<=a):a∉X.fs:=fun hb=>by
  obtain⟨_,o,ho,_⟩:=I.ok.funs.mem hb;exact absurd (Nat.lt_of_lt_of_le (Heap.lt_size ho) (Nat.le_trans I.sz h)) (Nat.lt_irrefl _)
theorem Inv.cne(I:Inv X pQ σ H s):∀ x c,X.env.cells.lookup x=some c->c≠X.env.locals:=fun x c e z=>by
  obtain⟨v,o,ho,hd⟩:=I.cell x c e;obtain⟨m,⟨o',es,ep,ho',hd',_⟩,_⟩:=I.loc;rw[z,ho']at ho;cases ho;rw[hd']at hd;cases hd
theorem Inv.funs(I:Inv X pQ σ H s):s.heap.FunFrames X.base X.outer:=by
  have all:∀ (l:Li Env),(∀ b∈frs l,b∈X.fs)->X.s₀.heap.FunFrames X.base l->s.heap.FunFrames X.base l:=by
    intro l
    induction l with
    |nil=>intro _ _;trivial
    |cons env r ih=>
      intro hs hl;obtain⟨hk,⟨L,o,hf,hn,ho,hd⟩,hr⟩:=hl;have hL:L∈X.fs:=hs L (by unfold frs;rw[List.filterMap_cons,hf];exact Ls)
      obtain⟨sl,e⟩:=I.base.slot L o ho (I.ok.frf L hL) hL fun z=>I.ok.exfs L z hL
      exact⟨hk,⟨L,_,hf,hn,e,hd⟩,ih (fun b hb=>hs b (by unfold frs;rw[List.filterMap_cons,hf];exact Lm _ hb)) hr⟩
  exact all X.outer (fun _ hb=>hb) I.ok.funs

theorem Inv.stack(I:Inv X pQ σ H s):s.heap.FunFrames X.base X.stack:=by
  rcases I.ok.stk with e|⟨e,hf⟩
  · rw[e];exact I.funs
  · rw[e]
    obtain⟨m,hn,_⟩:=I.loc;refine .cons (by rw[I.ok.kind];decide) hf hn ?_ I.funs
    exact Heap.get?_none_of_le (Nat.le_trans I.ok.bsz I.ok.above)
theorem Inv.stkSub(I:Inv X pQ σ H s):∀ b∈frs X.stack,b∈X.env.locals :: X.fs:=fun b hb=>by
  rcases I.ok.stk with e|⟨e,hf⟩
  · rw[e]at hb;exact Lm _ hb
  · rw[e]at hb
    unfold frs at hb;rw[List.filterMap_cons,hf]at hb;exact hb
theorem Inv.stkFree(I:Inv X pQ σ H s):∀ b∈frs X.stack,H b=none:=fun b hb=>by
  rcases List.mem_cons.mp (I.stkSub b hb) with e|hb
  · rw[e];exact I.free
  · obtain⟨_,o,ho,_⟩:=I.ok.funs.mem hb
    exact I.base.free b o ho (I.ok.frf b hb) fun z=>I.ok.exfs b z hb

theorem Inv.step{g':Array GenState}{t':Nat}{d':Drawn}{ch:Li Ad}(I:Inv X pQ σ H s)(hch:∀ b∈ch,(b∈X.ex\/X.s₀.heap.objs.size<=b)/\b≠X.env.locals/\(∀ x c,X.env.cells.lookup x=some c->c≠b)/\∀ p∈X.pn++pQ,p.1≠b)(keep:∀ b o,b≠X.env.locals->b∉X.fs->b∉ch->s.heap.get? b=some o->H b=none->h'.get? b=some o)(slot:∀ b o,b≠X.env.locals->b∈X.fs->b∉ch->s.heap.get? b=some o->H b=none->∃ sl,h'.get? b=some { o with slots:=sl })(free:∀ b o,b∉ch->s.heap.get? b=some o->H b=none->H' b=none)(there:∀ b o,b∉ch->s.heap.get? b=some o->∃ o',h'.get? b=some o')(tups:∀ b xs,H b=some (.tup xs)->H' b=some (.tup xs))(frzs:∀ b o u,H b=some (.frz o u)->H' b=some (.frz o u))(tbls:∀ b ps,H b=some (.tbl ps)->∃ more,H' b=some (.tbl (ps++more)))(ns:∀ m,s.heap.Ns X.env.locals m->h'.Ns X.env.locals m)(hok:HOk X.prog X.w H' h')(hg:AllBare g') :
    Inv X pQ σ H' { s with heap:=h',gens:=g',drawn:=d',toks:=t' }:=by
  have neL:∀ b o,X.s₀.heap.get? b=some o->b≠X.env.locals:=fun b o e=>Nat.ne_of_lt (Nat.lt_of_lt_of_le (Heap.lt_size e) I.ok.above)
  have neC:∀ b o,X.s₀.heap.get? b=some o->b∉X.ex->b∉ch:=fun b o e hx hb=>by
    rcases (hch b hb).1 with z|z
    · exact hx z
    · exact absurd (Nat.lt_of_lt_of_le (Heap.lt_size e) z) (Nat.lt_irrefl _)
  have cellK:∀ x c,X.env.cells.lookup x=some c->∀ v,s.heap.IsCell c v->h'.IsCell c v:=fun x c e v ⟨o,ho,hd⟩=>by
    have nch:c∉ch:=fun z=>(hch c z).2.2.1 x c e rfl
    by_cases hc:c∈X.fs
    · obtain⟨sl,q⟩:=slot c o (I.cne x c e) hc nch ho (I.freeC x c e)
      exact⟨_,q,hd⟩
    · exact⟨o,keep c o (I.cne x c e) hc nch ho (I.freeC x c e),hd⟩
  refine⟨I.ok,I.os,hg,⟨fun b o e n hb hx=>?_,fun b o e n hb hx=>?_,fun b o e n hx=>?_,fun b o e hx=>?_,fun b xs e=>tups b xs (I.base.tups b xs e),fun b o xs e=>frzs b o xs (I.base.frzs b o xs e),fun b ps e=>?_⟩,?_,fun x c e=>?_,?_,fun x c e=>?_,fun p hp=>?_,hok,I.len⟩
  · exact keep b o (neL b o e) hb (neC b o e hx) (I.base.keep b o e n hb hx) (I.base.free b o e n hx)
  · obtain⟨sl,e1⟩:=I.base.slot b o e n hb hx
    obtain⟨sl',e2⟩:=slot b _ (neL b o e) hb (neC b o e hx) e1 (I.base.free b o e n hx);exact⟨sl',e2⟩
  · obtain⟨o',e1⟩:=I.base.there b o e hx
    exact free b o' (neC b o e hx) e1 (I.base.free b o e n hx)
  · obtain⟨o',e1⟩:=I.base.there b o e hx
    exact there b o' (neC b o e hx) e1
  · obtain⟨m1,e1⟩:=I.base.tbls b ps e
    obtain⟨m2,e2⟩:=tbls b _ e1;exact⟨m1++m2,by rw[e2,Array.append_assoc]⟩
  · obtain⟨m,hn,hl⟩:=I.loc
    refine⟨m,ns m hn,fun i x v e1 e2 e3=>?_⟩
    obtain⟨u,r,l⟩:=hl i x v e1 e2 e3;refine⟨u,r,?_⟩;rcases l with l|⟨k,c,e,z⟩
    · exact .inl l
    · exact .inr ⟨k,c,e,cellK x c e _ z⟩
  · obtain⟨v,z⟩:=I.cell x c e
    exact⟨v,cellK x c e v z⟩
  · obtain⟨m,⟨o,_,_,ho,_⟩,_⟩:=I.loc
    exact free _ o (fun z=>(hch _ z).2.1 rfl) ho I.free
  · obtain⟨v,o,ho,hd⟩:=I.cell x c e
    exact free c o (fun z=>(hch c z).2.2.1 x c e rfl) ho (I.freeC x c e)
  · obtain⟨e,n,ne,nf,d⟩:=I.pin p hp
    have nch:p.1∉ch:=fun z=>(hch p.1 z).2.2.2 p hp rfl
    exact⟨keep p.1 p.2 ne nf nch e n,free p.1 p.2 nch e n,ne,nf,d⟩
theorem Inv.un{t':Nat}(I:Inv X pQ σ H s)(u:Un X.fs [] H H' s.heap h')(hok:HOk X.prog X.w H' h'):Inv X pQ σ H' { s with heap:=h',toks:=t' }:=by
  obtain⟨m,⟨o,es,ep,ho,r⟩,_⟩:=id I.loc;obtain⟨sl,hL⟩:=u.any ho I.free (by simp)
  exact I.step (g':=s.gens) (d':=s.drawn) (ch:=[]) (fun _ z=>nomatch z) (fun b o _ hb _ e n=>u.keep b o e n hb (by simp)) (fun b o _ hb _ e n=>u.slot b o e n hb (by simp)) (fun b o _ e n=>u.free b o e n (by simp)) (fun b o _ e=>u.there b o e (by simp)) u.tups u.frzs u.tbls (fun m' hm=>by
    obtain⟨o',es',ep',ho',r'⟩:=hm;rw[ho]at ho';cases ho'
    exact⟨_,es',ep',hL,r'⟩) hok I.bare
theorem Inv.call{g':Array GenState}{t':Nat}{d':Drawn}{ch:Li Ad}(I:Inv X pQ σ H s)(u:Un (frs X.stack) ch H H' s.heap h')(hok:HOk X.prog X.w H' h')(hg:AllBare g')(hch:∀ b∈ch,(b∈X.ex\/X.s₀.heap.objs.size<=b)/\b≠X.env.locals/\(∀ x c,X.env.cells.lookup x=some c->c≠b)/\∀ p∈X.pn++pQ,p.1≠b) :
    Inv X pQ σ H' { s with heap:=h',gens:=g',drawn:=d',toks:=t' }:=by
  obtain⟨m,⟨o,es,ep,ho,r⟩,_⟩:=id I.loc;obtain⟨sl,hL⟩:=u.any ho I.free fun z=>(hch _ z).2.1 rfl
  exact I.step (ch:=ch) hch (fun b o hL hb hc e n=>u.keep b o e n (fun z=>(List.mem_cons.mp (I.stkSub b z)).elim hL hb) hc) (fun b o _ _ hc e n=>u.any e n hc) (fun b o hc e n=>u.free b o e n hc) (fun b o hc e=>u.there b o e hc) u.tups u.frzs u.tbls (fun m' hm=>by
    obtain⟨o',es',ep',ho',r'⟩:=hm;rw[ho]at ho';cases ho'
    exact⟨_,es',ep',hL,r'⟩) hok hg
theorem Inv.turned{t':Nat}{it:Ad}(I:Inv X pQ σ H s)(k:∀ b o,b≠it->s.heap.get? b=some o->h'.get? b=some o)(hn:H it=none)(hL:it≠X.env.locals)(h1:it∈X.ex\/X.s₀.heap.objs.size<=it)(h2:∀ x c,X.env.cells.lookup x=some c->c≠it)(h3:∀ p∈X.pn++pQ,p.1≠it):Inv X pQ σ H { s with heap:=h',toks:=t' }:=by
  have nit:∀ b u,H b=some u->b≠it:=fun b u e z=>by rw[z,hn]at e;cases e
  refine I.step (g':=s.gens) (d':=s.drawn) (ch:=[it]) (fun b hb=>?_) (fun b o _ _ hc e _=>k b o (fun z=>hc (by simp[z])) e) (fun b o _ _ hc e _=>⟨o.slots,k b o (fun z=>hc (by simp[z])) e⟩) (fun _ _ _ _ n=>n)
    (fun b o hc e=>⟨o,k b o (fun z=>hc (by simp[z])) e⟩) (fun _ _ e=>e) (fun _ _ _ e=>e) (fun b ps e=>⟨#[],by rw[e];simp⟩) (fun m hm=>?_) (fun b u e=>?_) I.bare
  · have e:b=it:=by simpa using hb
    subst e;exact⟨h1,hL,h2,h3⟩
  · obtain⟨o,es,ep,ho,r⟩:=hm
    exact⟨o,es,ep,k _ o (Ne.symm hL) ho,r⟩
  · refine(I.hok b u e).stay (fun c v hc q=>k c v ?_ q) (fun _ q=>q) fun _ _ q=>q
    rcases hc with z|z
    · rw[z];exact nit b u e
    · exact nit c _ z
theorem Inv.tok(I:Inv X pQ σ H s)(t:Nat):Inv X pQ σ H { s with toks:=t }:=I.un (h':=s.heap) (t':=t) Un.refl I.hok
theorem Inv.kept{t':Nat}(I:Inv X pQ σ H s)(k:∀ b u,s.heap.get? b=some u->h'.get? b=some u):Inv X pQ σ H { s with heap:=h',toks:=t' }:=I.un (Un.kept k) (I.hok.kept k)
theorem Inv.laid{a:Ad}{o:HO}{t':Nat}(I:Inv X pQ σ H s)(k:∀ b u,s.heap.get? b=some u->h'.get? b=some u)(hp:s.heap.objs.size<=a)(new:ObjOk X.prog X.w (upd H a o) h' a o) :
    Inv X pQ σ (upd H a o) { s with heap:=h',toks:=t' }:=I.un (Un.laid k hp (I.hok.fresh hp)) (I.hok.laid k hp new)
theorem Inv.write{x e:Ad}{o:HO}{t':Nat}(I:Inv X pQ σ H s)(mu:Mut (H x))(he:e=x\/H e=some (.own x))(k:∀ b u,b≠e->s.heap.get? b=some u->h'.get? b=some u)(heo:∃ u,h'.get? e=some u)(new:ObjOk X.prog X.w (upd H x o) h' x o):Inv X pQ σ (upd H x o) { s with heap:=h',toks:=t' }:=I.un (Un.write mu he k heo) (I.hok.write mu he k heo new)
theorem Inv.pins_of{pins':Li (Ad×Obj)}(I:Inv X pQ σ H s)(h:∀ p∈pins',s.heap.get? p.1=some p.2/\H p.1=none/\p.1≠X.env.locals/\p.1∉X.fs/\∀ v,p.2.data≠.cell v):Inv X pins' σ H s:=
  ⟨I.ok,I.os,I.bare,I.base,I.loc,I.cell,I.free,I.freeC,fun p hp=>(List.mem_append.mp hp).elim (fun z=>I.pin p (List.mem_append_left _ z)) (h p),I.hok,I.len⟩

theorem nodup_ix{N:Li Str}(hN:N.Nodup){i j:Nat}{x:Str}(a:N[i]?=some x)(b:N[j]?=some x):i=j:=by
  obtain⟨h1,e1⟩:=List.getElem?_eq_some_iff.mp a;obtain⟨h2,e2⟩:=List.getElem?_eq_some_iff.mp b;exact(List.getElem_inj hN).mp (e1.trans e2.symm)

theorem store_ok2{M:Model}{A:Around}{E:vL->Sd->Prop}{i:Nat}{x:Str}{v:V}{u:vL}{Q:Unit->Sd->Prop}(I:Inv X pQ σ H s)(hN:X.N.Nodup)(hi:X.N[i]?=some x)(hx:Loc X.env.scope x)(r:RelV v u)(h:∀ s',Inv X pQ (σ.set i (some v)) H s'->(∃ a,Heap.SameBut a s.heap s'.heap/\(a=X.env.locals\/X.env.cells.lookup x=some a))->Q () s')(hf:X.fn x=true\/X.env.scope.names.lookup x=some .local:=by first|exact .inl rfl|exact .inr rfl|assumption):wpAny M A (storeName X.env x u) Q E s:=by
  obtain⟨m,hn,hl⟩:=id I.loc;have hcls:(X.env.scope.kind==.class||(X.env.scope.kind==.module&&X.env.locals != X.env.globals))=false:=by rw[I.ok.kind];rfl
  have hiσ:i < σ.length:=by rw[I.len];exact(List.getElem?_eq_some_iff.mp hi).1
  have cne:=I.cne;have tracked:∀ {a:Ad}{h':Heap},(∃ o,s.heap.get? a=some o/\H a=none)->Heap.SameBut a s.heap h'->HOk X.prog X.w H h':=fun {a h'} ha hs b ob e=>by
    obtain⟨_,_,hfree⟩:=ha;refine(I.hok b ob e).stay (fun c w' hc q=>(hs.2 c ?_).trans q) (fun _ q=>q) fun _ _ q=>q
    rintro rfl
    rcases hc with rfl|hc
    · rw[hfree]at e;cases e
    · rw[hfree]at hc;cases hc
  rcases hx with hk|hk
  · refine wpAny_storeName_local hk hn (fun h' hn' hs=>?_) hcls
    obtain⟨oL,_,_,hoL,_⟩:=id hn;refine h _ ⟨I.ok,I.os,I.bare,⟨fun b o e n hb hx=>?_,fun b o e n hb hx=>?_,I.base.free,fun b o e hx=>?_,I.base.tups,I.base.frzs,I.base.tbls⟩,⟨_,hn',fun j y v' e1 e2 e3=>?_⟩,fun y c e=>?_,I.free,I.freeC,fun p hp=>?_,tracked ⟨oL,hoL,I.free⟩ hs,by simpa using I.len⟩ ⟨_,hs,.inl rfl⟩
    · exact(hs.2 b (Nat.ne_of_lt (Nat.lt_of_lt_of_le (Heap.lt_size e) I.ok.above))).trans (I.base.keep b o e n hb hx)
    · obtain⟨sl,e1⟩:=I.base.slot b o e n hb hx
      exact⟨sl,(hs.2 b (Nat.ne_of_lt (Nat.lt_of_lt_of_le (Heap.lt_size e) I.ok.above))).trans e1⟩
    · obtain⟨o',e1⟩:=I.base.there b o e hx
      exact⟨o',(hs.2 b (Nat.ne_of_lt (Nat.lt_of_lt_of_le (Heap.lt_size e) I.ok.above))).trans e1⟩
    · by_cases hj:j=i
      · subst hj
        rw[hi]at e1;cases e1
        rw[List.getElem?_set_self hiσ]at e2;cases e2;exact⟨u,r,.inl ⟨hk,by simp⟩⟩
      · rw[List.getElem?_set_ne (Ne.symm hj)]at e2
        obtain⟨u',r',q⟩:=hl j y v' e1 e2 e3;refine⟨u',r',?_⟩;rcases q with⟨k,e⟩|⟨k,c,e,z⟩
        · refine .inl ⟨k,?_⟩
          have:y≠x:=fun e=>hj (nodup_ix hN e1 (e ▸ hi))
          simp[this,e]
        · exact .inr ⟨k,c,e,z.sameBut hs (cne y c e)⟩
    · obtain⟨w',z⟩:=I.cell y c e
      exact⟨w',z.sameBut hs (cne y c e)⟩
    · obtain⟨e,n,ne,nf,d⟩:=I.pin p hp
      exact⟨(hs.2 p.1 ne).trans e,n,ne,nf,d⟩
  · have hfn:X.fn x=true:=by
      rcases hf with z|z
      · exact z
      · rw[z]at hk;cases hk
    obtain⟨c,hc⟩:=I.ok.has x (.inl hk);obtain⟨w',z⟩:=I.cell x c hc;refine wpAny_storeName_cell I.ok.kind hk hc z (fun h' hc' hs=>?_)
    obtain⟨oc,hoc,hocd⟩:=id z;refine h { s with heap:=h' } ⟨I.ok,I.os,I.bare,⟨fun b o e n hb hx=>?_,fun b o e n hb hx=>?_,I.base.free,fun b o e hx=>?_,I.base.tups,I.base.frzs,I.base.tbls⟩,⟨m,hn.sameBut hs (Ne.symm (cne x c hc)),fun j y v' e1 e2 e3=>?_⟩,fun y c' e=>?_,I.free,I.freeC,fun p hp=>?_,tracked ⟨oc,hoc,I.freeC x c hc⟩ hs,by simpa using I.len⟩ ⟨c,hs,.inr hc⟩
    · exact(hs.2 b (Nat.ne_of_lt (Nat.lt_of_lt_of_le (Heap.lt_size e) (I.ok.cab x c hfn hc)))).trans (I.base.keep b o e n hb hx)
    · obtain⟨sl,e1⟩:=I.base.slot b o e n hb hx
      exact⟨sl,(hs.2 b (Nat.ne_of_lt (Nat.lt_of_lt_of_le (Heap.lt_size e) (I.ok.cab x c hfn hc)))).trans e1⟩
    · obtain⟨o',e1⟩:=I.base.there b o e hx
      exact⟨o',(hs.2 b (Nat.ne_of_lt (Nat.lt_of_lt_of_le (Heap.lt_size e) (I.ok.cab x c hfn hc)))).trans e1⟩
    · by_cases hj:j=i
      · subst hj
        rw[hi]at e1;cases e1
        rw[List.getElem?_set_self hiσ]at e2;cases e2;exact⟨u,r,.inr ⟨.inl hk,c,hc,hc'⟩⟩
      · rw[List.getElem?_set_ne (Ne.symm hj)]at e2
        obtain⟨u',r',q⟩:=hl j y v' e1 e2 e3;refine⟨u',r',?_⟩;rcases q with q|⟨k,c',e,z'⟩
        · exact .inl q
        · refine .inr ⟨k,c',e,z'.sameBut hs ?_⟩
          rintro rfl
          exact hj (nodup_ix hN e1 (I.ok.inj _ _ _ e hc ▸ hi))
    · by_cases hcc:c'=c
      · subst hcc;exact⟨_,hc'⟩
      · obtain⟨w2,z2⟩:=I.cell y c' e
        exact⟨w2,z2.sameBut hs hcc⟩
    · obtain⟨e,n,ne,nf,d⟩:=I.pin p hp
      refine⟨(hs.2 p.1 ?_).trans e,n,ne,nf,d⟩;intro q;rw[q,hoc]at e;have q':oc=p.2:=Option.some.inj e;exact d w' (by rw[<-q'];exact hocd)
theorem store_ok{M:Model}{A:Around}{E:vL->Sd->Prop}{i:Nat}{x:Str}{v:V}{u:vL}{Q:Unit->Sd->Prop}(I:Inv X pQ σ H s)(hN:X.N.Nodup)(hi:X.N[i]?=some x)(hx:Loc X.env.scope x)(r:RelV v u)(h:∀ s',Inv X pQ (σ.set i (some v)) H s'->Q () s')(hf:X.fn x=true\/X.env.scope.names.lookup x=some .local:=by first|exact .inl rfl|exact .inr rfl|assumption):wpAny M A (storeName X.env x u) Q E s:=
  store_ok2 I hN hi hx r (fun s' I' _=>h s' I') hf
theorem Inv.call'{s':Sd}{ch:Li Ad}(I:Inv X pQ σ H s)(ho:s'.os=s.os)(u:Un (frs X.stack) ch H H' s.heap s'.heap)(hok:HOk X.prog X.w H' s'.heap)(hg:AllBare s'.gens)(hch:∀ b∈ch,(b∈X.ex\/X.s₀.heap.objs.size<=b)/\b≠X.env.locals/\(∀ x c,X.env.cells.lookup x=some c->c≠b)/\∀ p∈X.pn++pQ,p.1≠b):Inv X pQ σ H' s':=by
  obtain⟨h',g',d',t',o'⟩:=s';have e:o'=s.os:=ho;subst e;exact I.call (g':=g') (t':=t') (d':=d') u hok hg hch
end

abbrev XK:=vL->Ot Ad->Hp->Prop
noncomputable abbrev St:=Li (Ot V)
abbrev VK:=V->Hp->Prop
abbrev TE:=St->Hp->VK->Prop
abbrev TT:=St->Hp->(Bool->Hp->Prop)->Prop
abbrev TA:=St->Hp->(Li V->Hp->Prop)->Prop
structure Ends where
  nx:St->Hp->Prop
  rt:VK
  bk:St->Hp->Prop:=fun _ _=>False
  ct:St->Hp->Prop:=fun _ _=>False
abbrev TS:=Ends->St->Hp->Prop

def EP(X:Cx)(pQ:Li (Ad×Obj))(σ:St)(Q:VK)(u:vL)(s':Sd):Prop:=∃ v H',Inv X pQ σ H' s'/\RelV v u/\Q v H'
def TP(X:Cx)(pQ:Li (Ad×Obj))(σ:St)(Q:Bool->Hp->Prop)(b:Bool)(s':Sd):Prop:=∃ H',Inv X pQ σ H' s'/\Q b H'
def AP(X:Cx)(pQ:Li (Ad×Obj))(σ:St)(Q:Li V->Hp->Prop)(us:Li vL)(s':Sd):Prop:=∃ vs H',Inv X pQ σ H' s'/\Vals vs us/\Q vs H'
def SP(X:Cx)(pQ:Li (Ad×Obj))(D:Ends)(f:Flow)(s':Sd):Prop:=
  match f with
  |.next=>∃ σ' H',Inv X pQ σ' H' s'/\D.nx σ' H'
  |.brk=>∃ σ' H',Inv X pQ σ' H' s'/\D.bk σ' H'
  |.cont=>∃ σ' H',Inv X pQ σ' H' s'/\D.ct σ' H'
  |.ret u=>∃ v σ' H',Inv X pQ σ' H' s'/\RelV v u/\D.rt v H'

def PE(X:Cx)(e:Expr)(t:TE):Prop:=
  ∀ (pQ:Li (Ad×Obj)) (s:Sd) (σ:St) (H:Hp) (Q:VK),Inv X pQ σ H s->t σ H Q->wpAny (model X.prog X.w) X.A (eval e X.env) (EP X pQ σ Q) X.xe s
def PT(X:Cx)(e:Expr)(t:TT):Prop:=
  ∀ (pQ:Li (Ad×Obj)) (s:Sd) (σ:St) (H:Hp) (Q:Bool->Hp->Prop),Inv X pQ σ H s->t σ H Q->wpAny (model X.prog X.w) X.A (isTrue e X.env (eval e X.env)) (TP X pQ σ Q) X.xe s
def PW(X:Cx)(e:Expr)(t:TT):Prop:=
  ∀ (whole:Sem vL) (pQ:Li (Ad×Obj)) (s:Sd) (σ:St) (H:Hp) (Q:Bool->Hp->Prop),Inv X pQ σ H s->t σ H Q->wpAny (model X.prog X.w) X.A (isTrue e X.env whole) (TP X pQ σ Q) X.xe s
theorem PW.pt{X:Cx}{e:Expr}{t:TT}(h:PW X e t):PT X e t:=h _
def PA(X:Cx)(es:Li Expr)(t:TA):Prop:=
  ∀ (pos:Pos) (pQ:Li (Ad×Obj)) (s:Sd) (σ:St) (H:Hp) (Q:Li V->Hp->Prop),Inv X pQ σ H s->t σ H Q->wpAny (model X.prog X.w) X.A (spliced (backTo pos (starEach es X.env))) (AP X pQ σ Q) X.xe s
def PS(X:Cx)(st:Stmt)(t:TS):Prop:=
  ∀ (pQ:Li (Ad×Obj)) (s:Sd) (σ:St) (H:Hp) (D:Ends),Inv X pQ σ H s->t D σ H->wpAny (model X.prog X.w) X.A (exec st X.env) (SP X pQ D) X.xe s
def PSs(X:Cx)(st:Li Stmt)(t:TS):Prop:=
  ∀ (pQ:Li (Ad×Obj)) (s:Sd) (σ:St) (H:Hp) (D:Ends),Inv X pQ σ H s->t D σ H->wpAny (model X.prog X.w) X.A (execs st X.env) (SP X pQ D) X.xe s
theorem thn{α:Type}{t:Sem α}{Q Q':α->Sd->Prop}{M:Model}{A:Around}{E:vL->Sd->Prop}{s:Sd}(h:wpAny M A t Q E s)(hQ:∀ a s,Q a s->Q' a s):wpAny M A t Q' E s:=wpAny_mono h hQ fun _ _ x=>x
end L2

namespace L2
open PySem PySem.Spec PyProof.Rows
section
variable {X:Cx}


noncomputable def tVar(i:Nat):TE:=fun σ H Q=>∃ v,σ[i]?=some (some v)/\Q v H
noncomputable def tC(v:V):TE:=fun _ H Q=>Q v H
theorem pe_var{i:Nat}{x:Str}{pos:Pos}(hN:X.N[i]?=some x)(hv:Vis X.env.scope x)(hd:(x==("__debug__":Str))=false:=by decide)(hcd:(x==("__classdict__":Str))=false:=by decide):PE X (.Name x pos) (tVar i):=by
  intro pQ s σ H Q I h;obtain⟨v,e,h⟩:=h;obtain⟨m,hn,hl⟩:=I.loc;obtain⟨u,r,l⟩:=hl i x v hN e hv;have fin:EP X pQ σ Q u s:=⟨v,H,I,r,h⟩;rcases l with⟨hk,hm⟩|⟨hk,c,hc,hcell⟩
  · exact wpAny_Name (wpAny_loadName_local I.ok.kind hk hn hm fin) hd
  · rcases hk with hk|hk
    · exact wpAny_Name (wpAny_loadName_cell I.ok.kind hk hc hcell fin) hd
    · exact wpAny_Name (wpAny_loadName_free I.ok.kind hk hc hcell fin hcd) hd
theorem pe_int{i j pos}:PE X (.Constant (.int i) j pos) (tC (.int i)):=fun _ _ _ H _ I h=>wpAny_Constant_int ⟨.int i,H,I.tok _,⟨_,rfl⟩,h⟩
theorem pe_bl{b j pos}:PE X (.Constant (.bool b) j pos) (tC (.bl b)):=fun _ _ _ H _ I h=>Constant_bool ⟨.bl b,H,I,rfl,h⟩
theorem pe_non{j pos}:PE X (.Constant .none j pos) (tC .non):=fun _ _ _ H _ I h=>Constant_none ⟨.non,H,I,rfl,h⟩
theorem pe_str{x j pos}:PE X (.Constant (.str x) j pos) (tC (.str x)):=fun _ _ _ H _ I h=>Calls.Constant_str ⟨.str x,H,I.tok _,⟨_,rfl⟩,h⟩

def Gl(X:Cx)(x:Str):Prop:=X.env.kindOf x=some .globalImplicit
theorem ld_glob{E:vL->Sd->Prop}{pQ:Li (Ad×Obj)}{s:Sd}{σ:St}{H:Hp}{x:Str}{u:vL}{pos:Pos}{Q:vL->Sd->Prop}(I:Inv X pQ σ H s)(hg:Gl X x)(hm:X.mg x=some u)(h:Q u s)(hd:(x==("__debug__":Str))=false:=by decide):wpAny (model X.prog X.w) X.A (eval (.Name x pos) X.env) Q E s:=
  Calls.Name_function_global I.ok.kind hg (Calls.loadGlobal_global (by rw[I.ok.glob];exact I.mod.glob.keeps I.bk) hm h) hd
theorem ld_blt{E:vL->Sd->Prop}{pQ:Li (Ad×Obj)}{s:Sd}{σ:St}{H:Hp}{x:Str}{u:vL}{pos:Pos}{Q:vL->Sd->Prop}(I:Inv X pQ σ H s)(hg:Gl X x)(hm:X.mg x=none)(hv:bootBuiltins x=some u)(h:Q u s)(hn:x ≠ "__name__":=by decide)(hd:(x==("__debug__":Str))=false:=by decide):wpAny (model X.prog X.w) X.A (eval (.Name x pos) X.env) Q E s:=by
  obtain⟨mb,h1,h2⟩:=I.mod.blt;exact Calls.Name_function_global I.ok.kind hg (Calls.loadGlobal_builtin (by rw[I.ok.glob];exact I.mod.glob.keeps I.bk) hm (by rw[I.ok.blt];exact h1.keeps I.bk) ((h2 x hn).trans hv) h) hd
theorem pe_glob{x:Str}{v:V}{u:vL}{pos:Pos}(hg:Gl X x)(hm:X.mg x=some u)(r:RelV v u)(hd:(x==("__debug__":Str))=false:=by decide):PE X (.Name x pos) (tC v):=
  fun _ _ _ H _ I h=>ld_glob I hg hm ⟨v,H,I,r,h⟩ hd
theorem pe_bltn{x:Str}{v:V}{u:vL}{pos:Pos}(hg:Gl X x)(hm:X.mg x=none)(hv:bootBuiltins x=some u)(r:RelV v u)(hn:x ≠ "__name__":=by decide)(hd:(x==("__debug__":Str))=false:=by decide):PE X (.Name x pos) (tC v):=
  fun _ _ _ H _ I h=>ld_blt I hg hm hv ⟨v,H,I,r,h⟩ hn hd

variable {a b:Expr}{ta tb:TE}{pos:Pos}

def PC(X:Cx)(op:CmpOp)(a b:Expr)(t:TE):Prop:=
  ∀ (pQ:Li (Ad×Obj)) (s:Sd) (σ:St) (H:Hp) (Q:VK),Inv X pQ σ H s->t σ H Q->
    wpAny (model X.prog X.w) X.A (eval a X.env) (fun v s₁=>wpAny (model X.prog X.w) X.A (eval b X.env) (fun u s₂=>wpAny (model X.prog X.w) X.A (compareOp op v u) (EP X pQ σ Q) X.xe s₂) X.xe s₁) X.xe s
noncomputable def tB(t:TE):TT:=fun σ H Q=>t σ H fun x H1=>∃ c,x=.bl c/\Q c H1
theorem pt_val{e:Expr}{t:TE}(h:PE X e t)(he:∀ whole,isTrue e X.env whole=(do let v <-whole;standAt e.pos;holding [v] (truthy v)):=by intro _;rfl):PT X e (tB t):=by
  intro pQ s σ H Q I hw;refine isTrue_plain (thn (h pQ s σ H _ I hw) fun v s1 ⟨x,H1,I1,r1,q1⟩=>?_) (he _)
  obtain⟨d,rfl,q⟩:=q1;cases r1;exact wpAny_truthy_bool ⟨H1,I1,q⟩

variable {tA tB':TT}{rest:Li Expr}
noncomputable def tAnd(t u:TT):TT:=fun σ H Q=>t σ H fun c H1=>if c=true then u σ H1 Q else Q false H1
noncomputable def tOr(t u:TT):TT:=fun σ H Q=>t σ H fun c H1=>if c=true then Q true H1 else u σ H1 Q
noncomputable def tNot(t:TT):TT:=fun σ H Q=>t σ H fun c H1=>Q (!c) H1
theorem pw_and1(ha:PT X a tA):PW X (.BoolOp .And [a] pos) tA:=by
  intro wh pQ s σ H Q I h;refine isTrue_and (thn (ha pQ s σ H Q I h) fun c s1 e=>?_)
  cases c with
  |true=>exact isTrue_and_nil e
  |false=>exact e
theorem pw_or1(ha:PT X a tA):PW X (.BoolOp .Or [a] pos) tA:=by
  intro wh pQ s σ H Q I h;refine isTrue_or (thn (ha pQ s σ H Q I h) fun c s1 e=>?_)
  cases c with
  |false=>exact isTrue_or_nil e
  |true=>exact e
theorem pw_and(ha:PT X a tA)(hb:PW X (.BoolOp .And (b :: rest) pos) tB'):PW X (.BoolOp .And (a :: b :: rest) pos) (tAnd tA tB'):=by
  intro wh pQ s σ H Q I h;refine isTrue_and (thn (ha pQ s σ H _ I h) fun c s1 ⟨H1,I1,q1⟩=>?_)
  cases c with
  |true=>exact hb wh pQ s1 σ H1 Q I1 q1
  |false=>exact⟨H1,I1,q1⟩
theorem pw_or(ha:PT X a tA)(hb:PW X (.BoolOp .Or (b :: rest) pos) tB'):PW X (.BoolOp .Or (a :: b :: rest) pos) (tOr tA tB'):=by
  intro wh pQ s σ H Q I h;refine isTrue_or (thn (ha pQ s σ H _ I h) fun c s1 ⟨H1,I1,q1⟩=>?_)
  cases c with
  |true=>exact⟨H1,I1,q1⟩
  |false=>exact hb wh pQ s1 σ H1 Q I1 q1
theorem pt_not(ha:PT X a tA):PT X (.UnaryOp .Not a pos) (tNot tA):=by
  intro pQ s σ H Q I h;exact isTrue_not (ha pQ s σ H (fun c H1=>Q (!c) H1) I h)
noncomputable def tAndV(ta tb:TE):TE:=fun σ H Q=>ta σ H fun x H1=>∃ c,x=.bl c/\if c=true then tb σ H1 Q else Q (.bl false) H1
noncomputable def tOrV(ta tb:TE):TE:=fun σ H Q=>ta σ H fun x H1=>∃ c,x=.bl c/\if c=true then Q (.bl true) H1 else tb σ H1 Q
noncomputable def tNotV(ta:TE):TE:=fun σ H Q=>ta σ H fun x H1=>∃ c,x=.bl c/\Q (.bl (!c)) H1
theorem pe_one{op}{t:TE}(h:PE X a t):PE X (.BoolOp op [a] pos) t:=fun pQ s σ H Q I hw=>BoolOp_one (h pQ s σ H Q I hw)
theorem pe_and(ha:PE X a ta)(hb:PE X (.BoolOp .And (b :: rest) pos) tb):PE X (.BoolOp .And (a :: b :: rest) pos) (tAndV ta tb):=by
  intro pQ s σ H Q I h;refine BoolOp_and (thn (ha pQ s σ H _ I h) fun v s1 ⟨x,H1,I1,r1,q1⟩=>?_)
  obtain⟨c,rfl,q1⟩:=q1;cases r1;refine wpAny_truthy_bool ?_;cases c with
  |true=>exact hb pQ s1 σ H1 Q I1 q1
  |false=>exact⟨.bl false,H1,I1,rfl,q1⟩
theorem pe_or(ha:PE X a ta)(hb:PE X (.BoolOp .Or (b :: rest) pos) tb):PE X (.BoolOp .Or (a :: b :: rest) pos) (tOrV ta tb):=by
  intro pQ s σ H Q I h;refine BoolOp_or (thn (ha pQ s σ H _ I h) fun v s1 ⟨x,H1,I1,r1,q1⟩=>?_)
  obtain⟨c,rfl,q1⟩:=q1;cases r1;refine wpAny_truthy_bool ?_;cases c with
  |false=>exact hb pQ s1 σ H1 Q I1 q1
  |true=>exact⟨.bl true,H1,I1,rfl,q1⟩
theorem pe_not(ha:PE X a ta):PE X (.UnaryOp .Not a pos) (tNotV ta):=by
  intro pQ s σ H Q I h;refine UnaryOp_ (thn (ha pQ s σ H _ I h) fun v s1 ⟨x,H1,I1,r1,q1⟩=>?_)
  obtain⟨c,rfl,q1⟩:=q1;cases r1;exact not_of (wpAny_truthy_bool ⟨.bl (!c),H1,I1,rfl,q1⟩)
noncomputable def tIf(t:TT)(ta tb:TE):TE:=fun σ H Q=>t σ H fun c H1=>if c=true then ta σ H1 Q else tb σ H1 Q
theorem pe_ifExp{c:Expr}(hc:PT X c tA)(ha:PE X a ta)(hb:PE X b tb):PE X (.IfExp c a b pos) (tIf tA ta tb):=by
  intro pQ s σ H Q I h;refine wpAny_IfExp (thn (hc pQ s σ H _ I h) fun d s1 ⟨H1,I1,q1⟩=>?_)
  cases d with
  |true=>exact ha pQ s1 σ H1 Q I1 q1
  |false=>exact hb pQ s1 σ H1 Q I1 q1
end
end L2

namespace L2
open PySem PySem.Spec PyProof.Rows

def SqL(K:Fg)(H:Hp)(a:Ad)(xs:Li V):Prop:=
  Rd H a (.lst xs) \/
    ∃ (o:Obj) (its:Array vL) (n:Nat),K.lookup a=some o/\o.cls=.type "list"/\o.dict=none/\o.data=.seq its n/\its.size<=sizeLine/\Vals xs its.toList
def SqT(K:Fg)(H:Hp)(a:Ad)(xs:Li V):Prop:=
  Rd H a (.tup xs) \/
    ∃ (o:Obj) (its:Array vL) (n:Nat),K.lookup a=some o/\o.cls=.type "tuple"/\o.data=.seq its n/\its.size<=sizeLine/\Vals xs its.toList
noncomputable def absV:vL->Ot V
  |.none=>some .non
  |.bool b=>some (.bl b)
  |.int i _=>some (.int i)
  |.str x _=>some (.str x)
  |.bytes b _=>some (.byt b)
  |.float b _=>some (.flt b)
  |.ref a=>some (.ref a)
  |.type n=>some (.ty n)
  |_=>none
theorem RelV.abs{x:V}{u:vL}(r:RelV x u):absV u=some x:=by
  cases x with
  |non=>cases r;rfl
  |bl _=>cases r;rfl
  |int _=>obtain⟨t,rfl⟩:=r;rfl
  |str _=>obtain⟨t,rfl⟩:=r;rfl
  |byt _=>obtain⟨t,rfl⟩:=r;rfl
  |flt _=>obtain⟨t,rfl⟩:=r;rfl
  |ref _=>cases r;rfl
  |ty _=>cases r;rfl
theorem RelV.inj{x y:V}{u:vL}(r:RelV x u)(q:RelV y u):x=y:=Option.some.inj (r.abs.symm.trans q.abs)
theorem Vals.inj:∀ {xs ys:Li V}{us:Li vL},Vals xs us->Vals ys us->xs=ys
  |_,_,_,.nil,.nil=>rfl
  |_,_,_,.cons r t,.cons r' t'=>by rw[r.inj r',Vals.inj t t']
section
variable {X:Cx}{pQ:Li (Ad×Obj)}{σ:St}{H:Hp}{s:Sd}{a:Ad}{xs ys:Li V}
theorem SqT.of{K:Fg}(h:H a=some (.tup xs)):SqT K H a xs:=.inl (.inl h)
theorem Inv.list(I:Inv X pQ σ H s)(h:SqL X.K H a xs):∃ its:Li vL,Vals xs its/\PlainL s.heap a its.toArray/\xs.length<=sizeLine:=by
  rcases h with h|⟨o,its,n,hk,hc,hd,hs,hz,r⟩
  · obtain⟨z,its,n,r,e⟩:=h.ok I.hok
    exact⟨its,r,⟨_,n,e,rfl,rfl,rfl⟩,z⟩
  · refine⟨its.toList,r,⟨o,n,I.kIn a o hk,hc,hd,by simpa using hs⟩,?_⟩
    have e:=r.length;simp only[Array.length_toList]at e;omega
theorem Inv.tuple(I:Inv X pQ σ H s)(h:SqT X.K H a xs):∃ its:Li vL,Vals xs its/\IsTup s.heap a its.toArray/\xs.length<=sizeLine:=by
  rcases h with h|⟨o,its,n,hk,hc,hs,hz,r⟩
  · obtain⟨z,its,r,p⟩:=h.ok I.hok
    exact⟨its,r,p,z⟩
  · refine⟨its.toList,r,⟨o,I.kIn a o hk,hc,n,by simpa using hs⟩,?_⟩
    have e:=r.length;simp only[Array.length_toList]at e;omega
theorem Inv.list_inj(I:Inv X pQ σ H s)(h:SqL X.K H a xs)(h':SqL X.K H a ys):xs=ys:=by
  obtain⟨its,r,⟨o,n,e,_,_,d⟩,_⟩:=I.list h;obtain⟨its',r',⟨o',n',e',_,_,d'⟩,_⟩:=I.list h';rw[e]at e';cases e'
  rw[d]at d'
  injection d' with d1 _
  have:its=its':=by simpa using congrArg Array.toList d1
  subst this;exact r.inj r'
theorem Inv.tuple_inj(I:Inv X pQ σ H s)(h:SqT X.K H a xs)(h':SqT X.K H a ys):xs=ys:=by
  obtain⟨its,r,⟨o,e,_,n,d⟩,_⟩:=I.tuple h;obtain⟨its',r',⟨o',e',_,n',d'⟩,_⟩:=I.tuple h';rw[e]at e';cases e'
  rw[d]at d'
  injection d' with d1 _
  have:its=its':=by simpa using congrArg Array.toList d1
  subst this;exact r.inj r'
end

noncomputable abbrev Cx.wish(X:Cx)(E:vL->Sd->Prop):Cx:={ X with xe:=E }
noncomputable abbrev Cx.nox(X:Cx):Cx:=X.wish fun _ _=>False
theorem Cx.Ok.wish{X:Cx}(ok:X.Ok)(E:vL->Sd->Prop):(X.wish E).Ok:=
  ⟨ok.mod,ok.kind,ok.glob,ok.blt,ok.above,ok.inj,ok.has,ok.cab,ok.hd,ok.frames,ok.stk,ok.exf,ok.bs,ok.bsz,ok.noex,ok.exfs,ok.funs,ok.frf⟩
theorem Cx.Ok.unwish{X:Cx}{E:vL->Sd->Prop}(ok:(X.wish E).Ok):X.Ok:=
  ⟨ok.mod,ok.kind,ok.glob,ok.blt,ok.above,ok.inj,ok.has,ok.cab,ok.hd,ok.frames,ok.stk,ok.exf,ok.bs,ok.bsz,ok.noex,ok.exfs,ok.funs,ok.frf⟩
section
variable {X:Cx}{pQ:Li (Ad×Obj)}{σ:St}{H:Hp}{s:Sd}{E:vL->Sd->Prop}
theorem Inv.wish(I:Inv X pQ σ H s)(E:vL->Sd->Prop):Inv (X.wish E) pQ σ H s:=⟨I.ok.wish E,I.os,I.bare,I.base,I.loc,I.cell,I.free,I.freeC,I.pin,I.hok,I.len⟩
theorem Inv.unwish(I:Inv (X.wish E) pQ σ H s):Inv X pQ σ H s:=⟨I.ok.unwish,I.os,I.bare,I.base,I.loc,I.cell,I.free,I.freeC,I.pin,I.hok,I.len⟩
theorem SP.unwish{D:Ends}{f:Flow}{s':Sd}(h:SP (X.wish E) pQ D f s'):SP X pQ D f s':=by
  cases f with
  |next=>obtain⟨σ',H',I,q⟩:=h;exact⟨σ',H',I.unwish,q⟩
  |brk=>obtain⟨σ',H',I,q⟩:=h;exact⟨σ',H',I.unwish,q⟩
  |cont=>obtain⟨σ',H',I,q⟩:=h;exact⟨σ',H',I.unwish,q⟩
  |ret u=>obtain⟨v,σ',H',I,r,q⟩:=h;exact⟨v,σ',H',I.unwish,r,q⟩
theorem PSs.nox{st:Li Stmt}{t:TS}(h:PSs X.nox st t):PSs X st t:=fun pQ s σ H D I hw=>
  wpAny_mono (h pQ s σ H D (I.wish _) hw) (fun _ _ q=>q.unwish) fun _ _ z=>False.elim z
end

section
variable {X:Cx}{st:Stmt}{rest:Li Stmt}{t u:TS}{e:Expr}{te:TE}{pos:Pos}
noncomputable def tNext:TS:=fun D σ H=>D.nx σ H
noncomputable def tSeq(t u:TS):TS:=fun D σ H=>t { D with nx:=u D } σ H
theorem pss_nil:PSs X [] tNext:=fun _ _ σ H _ I h=>wpAny_execs_nil ⟨σ,H,I,h⟩
theorem pss_cons(h1:PS X st t)(h2:PSs X rest u):PSs X (st :: rest) (tSeq t u):=by
  intro pQ s σ H D I h;refine wpAny_execs_cons (thn (h1 pQ s σ H { D with nx:=u D } I h) fun f s1 q=>?_)
  cases f with
  |next=>
    obtain⟨σ',H',I',q⟩:=q;exact h2 pQ s1 σ' H' D I' q
  |ret v=>exact q
  |brk=>exact q
  |cont=>exact q
noncomputable def tBreak:TS:=fun D σ H=>D.bk σ H
noncomputable def tCont:TS:=fun D σ H=>D.ct σ H
theorem ps_pass:PS X (.Pass pos) tNext:=fun _ _ σ H _ I h=>wpAny_Pass ⟨σ,H,I,h⟩
theorem ps_break:PS X (.Break pos) tBreak:=fun _ _ σ H _ I h=>wpAny_Break ⟨σ,H,I,h⟩
theorem ps_continue:PS X (.Continue pos) tCont:=fun _ _ σ H _ I h=>wpAny_Continue ⟨σ,H,I,h⟩
theorem Inv.quiet{pQ:Li (Ad×Obj)}{σ:St}{H:Hp}{s:Sd}(I:Inv X pQ σ H s):interactive X.env=false:=by simp[interactive,I.ok.kind]
noncomputable def tDrop(te:TE):TS:=fun D σ H=>te σ H fun _ H1=>D.nx σ H1
theorem ps_expr(he:PE X e te)(hs:swapsWith e none pos.line X.env=pure false:=by rfl):PS X (.Expr e pos) (tDrop te):=by
  intro pQ s σ H D I h;exact wpAny_Expr_any (thn (he pQ s σ H _ I h) fun v s1 ⟨x,H1,I1,r1,q1⟩=>⟨σ,H1,I1,q1⟩) I.quiet hs
noncomputable def tRet(te:TE):TS:=fun D σ H=>te σ H D.rt
theorem ps_ret(he:PE X e te):PS X (.Return (some e) pos) (tRet te):=by
  intro pQ s σ H D I h;exact wpAny_Return_some (thn (he pQ s σ H _ I h) fun v s1 ⟨x,H1,I1,r1,q1⟩=>⟨x,σ,H1,I1,r1,q1⟩)
noncomputable def tIfS(c:TT)(t u:TS):TS:=fun D σ H=>c σ H fun b H1=>if b=true then t D σ H1 else u D σ H1
theorem ps_if{c:Expr}{a b:Li Stmt}{tc:TT}(hc:PT X c tc)(ha:PSs X a t)(hb:PSs X b u):PS X (.If c a b pos) (tIfS tc t u):=by
  intro pQ s σ H D I h;refine wpAny_If (thn (hc pQ s σ H _ I h) fun d s1 ⟨H1,I1,q1⟩=>?_)
  cases d with
  |true=>exact ha pQ s1 σ H1 D I1 q1
  |false=>exact hb pQ s1 σ H1 D I1 q1
end

abbrev TG:=V->St->Hp->(St->Hp->Prop)->Prop
abbrev TGs:=Li V->St->Hp->(St->Hp->Prop)->Prop
def PG(X:Cx)(target:Expr)(t:TG):Prop:=
  ∀ (pQ:Li (Ad×Obj)) (s:Sd) (σ:St) (H:Hp) (v:V) (u:vL) (Q:St->Hp->Prop),Inv X pQ σ H s->RelV v u->t v σ H Q->
    wpAny (model X.prog X.w) X.A (assign target X.env u) (fun _ s'=>∃ σ' H',Inv X pQ σ' H' s'/\Q σ' H') X.xe s
def PGs(X:Cx)(ts:Li Expr)(t:TGs):Prop:=
  ∀ (pQ:Li (Ad×Obj)) (s:Sd) (σ:St) (H:Hp) (vs:Li V) (us:Li vL) (Q:St->Hp->Prop),Inv X pQ σ H s->Vals vs us->t vs σ H Q->
    wpAny (model X.prog X.w) X.A (assignInOrder ((assignEach ts X.env).map (·.2)) us) (fun _ s'=>∃ σ' H',Inv X pQ σ' H' s'/\Q σ' H') X.xe s
abbrev TSet:=V->V->V->Hp->(Hp->Prop)->Prop
def PSet(X:Cx)(t:TSet):Prop:=
  ∀ (pQ:Li (Ad×Obj)) (s:Sd) (σ:St) (H:Hp) (o i v:V) (ov iv u:vL) (Q:Hp->Prop),Inv X pQ σ H s->RelV o ov->RelV i iv->RelV v u->t o i v H Q->
    wpAny (model X.prog X.w) X.A (setItem ov iv u) (fun _ s'=>∃ H',Inv X pQ σ H' s'/\Q H') X.xe s
section
variable {X:Cx}{pos:Pos}
noncomputable def gName(i:Nat):TG:=fun v σ H Q=>Q (σ.set i (some v)) H
theorem pg_name{i:Nat}{x:Str}(hN:X.N.Nodup)(hi:X.N[i]?=some x)(hx:Loc X.env.scope x)(hf:X.fn x=true\/X.env.scope.names.lookup x=some .local:=by first|exact .inl rfl|exact .inr rfl|assumption):PG X (.Name x pos) (gName i):=by
  intro pQ s σ H v u Q I r h;exact wpAny_assign_Name (store_ok I hN hi hx r (fun s' I'=>⟨_,H,I',h⟩) hf)
noncomputable def gNil:TGs:=fun vs σ H Q=>vs=[]/\Q σ H
noncomputable def gCons(t:TG)(u:TGs):TGs:=fun vs σ H Q=>∃ v r,vs=v :: r/\t v σ H fun σ' H'=>u r σ' H' Q
theorem pgs_nil:PGs X [] gNil:=by
  intro pQ s σ H vs us Q I r h;obtain⟨e,h⟩:=h;subst e;cases r;exact assignInOrder_nil ⟨σ,H,I,h⟩
theorem pgs_cons{e:Expr}{es:Li Expr}{t:TG}{u:TGs}(h1:PG X e t)(h2:PGs X es u)(hs:(assignEach (e :: es) X.env).map (·.2)=assign e X.env :: (assignEach es X.env).map (·.2):=by rfl):PGs X (e :: es) (gCons t u):=by
  intro pQ s σ H vs us Q I r h;obtain⟨v,vr,e1,h⟩:=h;subst e1;cases r with
  |cons r rr=>
    rw[hs];refine assignInOrder_cons (thn (h1 pQ s σ H _ _ _ I r h) fun _ s1 ⟨σ1,H1,I1,q1⟩=>?_)
    exact h2 pQ s1 σ1 H1 _ _ Q I1 rr q1
noncomputable def gTup(K:Fg)(n:Nat)(t:TGs):TG:=fun v σ H Q=>∃ a xs,v=.ref a/\SqT K H a xs/\xs.length=n/\t xs σ H Q
theorem pg_tup{es:Li Expr}{k:Nat}{t:TGs}{n:Nat}(hc:X.calm=true)(h:PGs X es t)(hn:(assignEach es X.env).length=n:=by rfl)(hst:(assignEach es X.env).findIdx? (·.1)=none:=by rfl):PG X (.Tuple es k pos) (gTup X.K n t):=by
  intro pQ s σ H v u Q I r hw;obtain⟨a,xs,e1,hq,hl,hw⟩:=hw;subst e1;cases r;obtain⟨its,rv,ht,hz⟩:=I.tuple hq;refine assign_Tuple_tuple (I.ok.hd hc) ht (by simp[hn,<-hl,rv.length]) hst fun h' hx=>?_
  have I1:Inv X pQ σ H { s with heap:=h' }:=I.kept (t':=s.toks) fun b o e=>hx b o (Nat.ne_of_lt (Heap.lt_size e)) e
  exact h pQ _ σ H xs _ Q I1 (by simpa using rv) hw
noncomputable def gSub(to ti:TE)(t:TSet):TG:=fun v σ H Q=>to σ H fun o H1=>ti σ H1 fun i H2=>t o i v H2 fun H3=>Q σ H3
theorem pg_sub{o i:Expr}{to ti:TE}{t:TSet}(ho:PE X o to)(hi:PE X i ti)(hs:PSet X t)(ha:∀ v,assign (.Subscript o i pos) X.env v=(do
      let ov <-holding [v] (eval o X.env)
      let iv <-holding [v,ov] (eval i X.env)
      standAt pos
      holding [v,ov,iv] (setItem ov iv v)
      release [v,ov,iv] []):=by intro _;rfl):PG X (.Subscript o i pos) (gSub to ti t):=by
  intro pQ s σ H v u Q I r h;rw[ha];refine wpAny_bind (wpAny_holding (thn (ho pQ s σ H _ I h) fun ov s1 ⟨x,H1,I1,r1,q1⟩=>?_))
  refine wpAny_bind (wpAny_holding (thn (hi pQ s1 σ H1 _ I1 q1) fun iv s2 ⟨y,H2,I2,r2,q2⟩=>?_))
  refine wpAny_bind (wpAny_standAt (wpAny_bind (wpAny_holding (thn (hs pQ s2 σ H2 x y v ov iv u _ I2 r1 r2 r q2) fun _ s3 ⟨H3,I3,q3⟩=>?_))))
  exact wpAny_release ⟨σ,H3,I3,q3⟩
noncomputable def tAsg(te:TE)(g:TG):TS:=fun D σ H=>te σ H fun x H1=>g x σ H1 D.nx
theorem ps_asg{tg e:Expr}{te:TE}{g:TG}(he:PE X e te)(hg:PG X tg g)(hs:swapsWithSole [tg] e pos.line X.env=pure false:=by rfl)(hw:swappedStores [tg] e X.env=pure none:=by rfl)(h1:(assignEach [tg] X.env).map (·.2)=[assign tg X.env]:=by rfl):PS X (.Assign [tg] e pos) (tAsg te g):=by
  intro pQ s σ H D I h;refine wpAny_Assign_stores (thn (he pQ s σ H _ I h) fun v s1 ⟨x,H1,I1,r1,q1⟩=>?_) hs hw
  rw[h1];exact thn (hg pQ s1 σ H1 x v _ I1 r1 q1) fun _ s2 q=>q
theorem ps_set{i:Nat}{x:Str}{e:Expr}{te:TE}{pos':Pos}(hN:X.N.Nodup)(hi:X.N[i]?=some x)(hx:Loc X.env.scope x)(he:PE X e te)(hs:swapsWith e (some (.Name x pos')) pos.line X.env=pure false:=by rfl)(hf:X.fn x=true\/X.env.scope.names.lookup x=some .local:=by first|exact .inl rfl|exact .inr rfl|assumption) :
    PS X (.Assign [.Name x pos'] e pos) (tAsg te (gName i)):=by
  intro pQ s σ H D I h;refine wpAny_Assign_Name (thn (he pQ s σ H _ I h) fun v s1 ⟨y,H1,I1,r1,q1⟩=>?_) hs
  exact store_ok I1 hN hi hx r1 (fun s2 I2=>⟨_,H1,I2,q1⟩) hf
end

section
variable {X:Cx}{pos:Pos}
end

structure It where
  go:Nat->Hp->Prop
  yld:Nat->Hp->V->Hp->Prop
  stop:Nat->Hp->Prop
def FpOk(X:Cx)(pQ:Li (Ad×Obj))(H:Hp)(b:Ad):Prop:=
  H b=none/\b≠X.env.locals/\b∉X.fs/\(b∈X.ex\/X.s₀.heap.objs.size<=b)/\(∀ x c,X.env.cells.lookup x=some c->c≠b)/\∀ p∈X.pn++pQ,p.1≠b
theorem Inv.fpOk{X:Cx}{pQ:Li (Ad×Obj)}{σ:St}{H H':Hp}{s:Sd}{b:Ad}(I:Inv X pQ σ H s)(hb:s.heap.objs.size<=b)(hn:H' b=none):FpOk X pQ H' b:=by
  refine⟨hn,Nat.ne_of_gt (Nat.lt_of_lt_of_le I.lt hb),I.nofs hb,.inr (Nat.le_trans I.sz hb),fun x c e z=>?_,fun p hp z=>?_⟩
  · obtain⟨v,q⟩:=I.cell x c e
    exact absurd (Nat.lt_of_lt_of_le q.lt (by rw[z];exact hb)) (Nat.lt_irrefl _)
  · exact absurd (Nat.lt_of_lt_of_le (Heap.lt_size (I.pin p hp).1) (by rw[z];exact hb)) (Nat.lt_irrefl _)
structure Turn(P:Program)(w:World)(K:Fg)(tg:Expr)(J:It)(fp:List Addr)(it:Addr)(tn:Nat->Heap->Prop):Prop where
  mem:it∈fp
  obj:∀ i h,tn i h->∀ b∈fp,∃ o,h.get? b=some o/\∀ v,o.data≠.cell v
  keep:∀ i h h',tn i h->(∀ b∈fp,∀ o,h.get? b=some o->h'.get? b=some o)->tn i h'
  item:∀ (X:Cx),X.prog=P->X.w=w->X.K=K->X.calm=true->∀ (i:Nat) (pQ:List (Addr×Obj)) (s:Shared) (σ:St) (H:Hp) (E:Value->Shared->Prop),Inv X pQ σ H s->(∀ b∈fp,FpOk X pQ H b)->tn i s.heap->J.go i H->
    wpAny (model P w) X.A (pyNext (.ref it)) (fun r s1=>∃ u,r=some u /\
      wpAny (model P w) X.A (letOwnedTupleGo tg (.ref it) u) (fun _ s2=>∃ x H',Inv X pQ σ H' s2/\RelV x u/\J.yld i H x H'/\tn (i+1) s2.heap/\∀ b∈fp,H' b=none) E s1) E s
  done:∀ (X:Cx),X.prog=P->X.w=w->X.K=K->X.calm=true->∀ (i:Nat) (pQ:List (Addr×Obj)) (s:Shared) (σ:St) (H:Hp) (E:Value->Shared->Prop),Inv X pQ σ H s->(∀ b∈fp,FpOk X pQ H b)->tn i s.heap->J.stop i H->
    wpAny (model P w) X.A (pyNext (.ref it)) (fun r s1=>r=none/\Inv X pQ σ H s1) E s
  self:∀ (A:Around) (i:Nat) (s:Shared) (Q:Value->Shared->Prop) (E:Value->Shared->Prop),tn i s.heap->Q (.ref it) s->wpAny (model P w) A (pyIter (.ref it)) Q E s
abbrev TI:=St->Hp->(It->Hp->Prop)->Prop
def PIE(X:Cx)(pQ:Li (Ad×Obj))(σ:St)(tg:Expr)(R:It->Hp->Prop)(itv:vL)(s2:Sd):Prop:=
  ∃ (it:Ad) (fp:Li Ad) (tn:Nat->Heap->Prop) (J:It) (H':Hp),itv=.ref it/\Inv X pQ σ H' s2/\Turn X.prog X.w X.K tg J fp it tn/\tn 0 s2.heap/\(∀ b∈fp,FpOk X pQ H' b)/\R J H'
def PI(X:Cx)(tg iter:Expr)(wi:TI):Prop:=
  ∀ (pQ:Li (Ad×Obj)) (s:Sd) (σ:St) (H:Hp) (R:It->Hp->Prop),Inv X pQ σ H s->wi σ H R->
    wpAny (model X.prog X.w) X.A (eval iter X.env) (fun v s1=>wpAny (model X.prog X.w) X.A (pyIter v) (PIE X pQ σ tg R) X.xe s1) X.xe s

theorem go_of{M:Model}{A:Around}{E:vL->Sd->Prop}{s:Sd}{tg:Expr}{it:Ad}{u:vL}{o:Obj}{n:String}{vs:Array vL}{Q:Unit->Sd->Prop}(ho:s.heap.get? it=some o)(hc:o.cls=.type n)(hd:o.data=.fields vs)(hn:["enumerate", "zip", "dict_itemiterator", "dict_reverseitemiterator", "odict_iterator", "itertools.zip_longest", "itertools.pairwise"].contains n=false)(hQ:Q () s):wpAny M A (letOwnedTupleGo tg (.ref it) u) Q E s:=by
  unfold letOwnedTupleGo;cases tg<;>first
    |exact wpAny_pure hQ
    | (cases u<;>first
        |exact wpAny_pure hQ
        | (refine wpAny_bind (wpAny_load ho ?_)
           rw[hc,hd];show wpAny M A (if (["enumerate", "zip", "dict_itemiterator", "dict_reverseitemiterator", "odict_iterator", "itertools.zip_longest", "itertools.pairwise"].contains n&&vs[0]?==some (rawInt _))=true then _ else _) Q E s
           rw[if_neg (by intro h;rw[hn,Bool.false_and]at h;cases h)]
           exact wpAny_pure hQ))

noncomputable def Itl(K:Fg)(a:Ad):It:=
  ⟨fun i H=>∃ xs x,SqL K H a xs/\xs[i]?=some x,fun i H x H'=>H'=H/\∀ xs,SqL K H a xs->xs[i]?=some x,fun i H=>∃ xs,SqL K H a xs/\xs.length<=i⟩
noncomputable def Itt(K:Fg)(a:Ad):It:=
  ⟨fun i H=>∃ xs x,SqT K H a xs/\xs[i]?=some x,fun i H x H'=>H'=H/\∀ xs,SqT K H a xs->xs[i]?=some x,fun i H=>∃ xs,SqT K H a xs/\xs.length<=i⟩
noncomputable def Itr(lo:Int)(n:Nat):It:=⟨fun i _=>i < n,fun i H x H'=>H'=H/\x=.int (lo+i),fun i _=>n<=i⟩
theorem turn_list{P:Program}{w:World}{K:Fg}{tg:Expr}(a it:Ad):Turn P w K tg (Itl K a) [it] it (fun i h=>h.IsListIter it a i) where
  mem:=by simp
  obj:=fun i h st b hb=>by
    have e:b=it:=by simpa using hb
    subst e;obtain⟨o,e,c,d⟩:=st;exact⟨o,e,fun v z=>by rw[d]at z;cases z⟩
  keep:=fun i h h' st k=>st.at fun o e=>k it (by simp) o e
  item:=by
    intro X hP hw hK hc i pQ s σ H E I hf st hg;subst hP hw hK;obtain⟨xs,x,hq,hx⟩:=hg;obtain⟨its,rv,p,hz⟩:=I.list hq;obtain⟨u,hu,ru⟩:=rv.get hx;obtain⟨f0,f1,f2,f3,f4,f5⟩:=hf it (by simp)
    refine wpAny_pyNext_list_item st p.isList (x:=u) (by simpa using hu) fun h' st' sb=>?_
    have I1:Inv X pQ σ H { s with heap:=h' }:=I.turned (t':=s.toks) (fun b o hb e=>(sb.2 b hb).trans e) f0 f1 f3 f4 f5
    obtain⟨o,e,c,d⟩:=id st';exact⟨u,rfl,go_of (s:={ s with heap:=h' }) e c d (by decide) ⟨x,H,I1,ru,⟨rfl,fun ys hy=>by rw[I.list_inj hy hq];exact hx⟩,st',fun b hb=>(hf b hb).1⟩⟩
  done:=by
    intro X hP hw hK hc i pQ s σ H E I hf st hg;subst hP hw hK;obtain⟨xs,hq,hx⟩:=hg;obtain⟨its,rv,p,hz⟩:=I.list hq;obtain⟨f0,f1,f2,f3,f4,f5⟩:=hf it (by simp)
    have hl:=rv.length;exact wpAny_pyNext_list_end (I.ok.hd hc) st p.isList (by simp;omega) fun h' eb=>⟨rfl,I.turned (t':=s.toks) (fun b o hb e=>eb b o hb e) f0 f1 f3 f4 f5⟩
  self:=fun _ _ _ _ _ st h=>wpAny_pyIter_listiter st h
theorem turn_tuple{P:Program}{w:World}{K:Fg}{tg:Expr}(a it:Ad):Turn P w K tg (Itt K a) [it] it (fun i h=>h.IsTupleIter it a i) where
  mem:=by simp
  obj:=fun i h st b hb=>by
    have e:b=it:=by simpa using hb
    subst e;obtain⟨o,e,c,d⟩:=st;exact⟨o,e,fun v z=>by rw[d]at z;cases z⟩
  keep:=fun i h h' st k=>st.at fun o e=>k it (by simp) o e
  item:=by
    intro X hP hw hK hc i pQ s σ H E I hf st hg;subst hP hw hK;obtain⟨xs,x,hq,hx⟩:=hg;obtain⟨its,rv,p,hz⟩:=I.tuple hq;obtain⟨u,hu,ru⟩:=rv.get hx;obtain⟨f0,f1,f2,f3,f4,f5⟩:=hf it (by simp)
    refine wpAny_pyNext_tuple_item st (show s.heap.IsTuple a its.toArray from p) (x:=u) (by simpa using hu) fun h' st' sb=>?_
    have I1:Inv X pQ σ H { s with heap:=h' }:=I.turned (t':=s.toks) (fun b o hb e=>(sb.2 b hb).trans e) f0 f1 f3 f4 f5
    obtain⟨o,e,c,d⟩:=id st';exact⟨u,rfl,go_of (s:={ s with heap:=h' }) e c d (by decide) ⟨x,H,I1,ru,⟨rfl,fun ys hy=>by rw[I.tuple_inj hy hq];exact hx⟩,st',fun b hb=>(hf b hb).1⟩⟩
  done:=by
    intro X hP hw hK hc i pQ s σ H E I hf st hg;subst hP hw hK;obtain⟨xs,hq,hx⟩:=hg;obtain⟨its,rv,p,hz⟩:=I.tuple hq;obtain⟨f0,f1,f2,f3,f4,f5⟩:=hf it (by simp)
    have hl:=rv.length;exact wpAny_pyNext_tuple_end (I.ok.hd hc) st (show s.heap.IsTuple a its.toArray from p) (by simp;omega) fun h' eb=>⟨rfl,I.turned (t':=s.toks) (fun b o hb e=>eb b o hb e) f0 f1 f3 f4 f5⟩
  self:=fun _ _ _ _ _ st h=>wpAny_pyIter_tupleiter st h
theorem turn_range{P:Program}{w:World}{K:Fg}{tg:Expr}(it:Ad)(lo:Int)(n:Nat):Turn P w K tg (Itr lo n) [it] it (fun i h=>IsRangeIter h it (lo+(i:Nat) * 1) ((n:Int) - (i:Nat)) 1) where
  mem:=by simp
  obj:=fun i h st b hb=>by
    have e:b=it:=by simpa using hb
    subst e;exact⟨_,st,fun v z=>by
      have z':Data.fields _=Data.cell v:=z;cases z'⟩
  keep:=fun i h h' st k=>k it (by simp) _ st
  item:=by
    intro X hP hw hK hc i pQ s σ H E I hf st hg;subst hP hw hK;obtain⟨f0,f1,f2,f3,f4,f5⟩:=hf it (by simp)
    have W:=Walks.range (prog:=X.prog) (w:=X.w) (I.ok.hd hc) it lo 1 n;refine W.item i s _ _ hg st fun v h' tk hv st' kk=>?_
    obtain⟨t,rfl⟩:=hv;have I1:Inv X pQ σ H { s with heap:=h',toks:=tk }:=I.turned (fun b o hb e=>kk b o (by simpa using hb) e) f0 f1 f3 f4 f5
    refine⟨_,rfl,go_of (s:={ s with heap:=h',toks:=tk }) (n := "range_iterator") st' rfl rfl (by decide) ⟨.int (lo+i),H,I1,⟨t,?_⟩,⟨rfl,rfl⟩,st',fun b hb=>(hf b hb).1⟩⟩
    rw[Int.mul_one]
  done:=by
    intro X hP hw hK hc i pQ s σ H E I hf st hg;subst hP hw hK;obtain⟨f0,f1,f2,f3,f4,f5⟩:=hf it (by simp)
    exact wpAny_pyNext_range_end (I.ok.hd hc) st (by have:n<=i:=hg;omega) fun h' eb=>⟨rfl,I.turned (t':=s.toks) (fun b o hb e=>eb b o hb e) f0 f1 f3 f4 f5⟩
  self:=fun _ _ _ _ _ st h=>wpAny_pyIter_rangeiter st h
end L2

namespace L2
open PySem PySem.Spec PyProof.Rows
section
variable {X:Cx}{tg:Expr}
noncomputable def iList(K:Fg)(tl:TE):TI:=fun σ H R=>tl σ H fun x H1=>∃ a,x=.ref a/\(∃ xs,SqL K H1 a xs)/\R (Itl K a) H1
noncomputable def iTup(K:Fg)(tl:TE):TI:=fun σ H R=>tl σ H fun x H1=>∃ a,x=.ref a/\(∃ xs,SqT K H1 a xs)/\R (Itt K a) H1
theorem pi_list{l:Expr}{tl:TE}(hl:PE X l tl):PI X tg l (iList X.K tl):=by
  intro pQ s σ H R I h;refine thn (hl pQ s σ H _ I h) fun v s1 ⟨x,H1,I1,r1,q1⟩=>?_
  obtain⟨a,e,⟨xs,hq⟩,q⟩:=q1;subst e;cases r1;obtain⟨its,rv,p,hz⟩:=I1.list hq;refine wpAny_pyIter_list p.isList ?_;refine⟨s1.heap.objs.size,[s1.heap.objs.size],_,_,H1,rfl,I1.kept (t':=s1.toks) fun b o e=>Heap.get?_push_of_some _ e,turn_list a _,⟨_,Heap.get?_push_size _ rfl,rfl,rfl⟩,fun b hb=>?_,q⟩
  have e:b=s1.heap.objs.size:=by simpa using hb
  subst e;exact I1.fpOk (Nat.le_refl _) (I1.hok.fresh (Nat.le_refl _))
theorem pi_tup{l:Expr}{tl:TE}(hl:PE X l tl):PI X tg l (iTup X.K tl):=by
  intro pQ s σ H R I h;refine thn (hl pQ s σ H _ I h) fun v s1 ⟨x,H1,I1,r1,q1⟩=>?_
  obtain⟨a,e,⟨xs,hq⟩,q⟩:=q1;subst e;cases r1;obtain⟨its,rv,p,hz⟩:=I1.tuple hq;refine wpAny_pyIter_tuple (show s1.heap.IsTuple a its.toArray from p) ?_;refine⟨s1.heap.objs.size,[s1.heap.objs.size],_,_,H1,rfl,I1.kept (t':=s1.toks) fun b o e=>Heap.get?_push_of_some _ e,turn_tuple a _,⟨_,Heap.get?_push_size _ rfl,rfl,rfl⟩,fun b hb=>?_,q⟩
  have e:b=s1.heap.objs.size:=by simpa using hb
  subst e;exact I1.fpOk (Nat.le_refl _) (I1.hok.fresh (Nat.le_refl _))
theorem range_it{pQ:Li (Ad×Obj)}{σ:St}{H:Hp}{s:Sd}{R:It->Hp->Prop}{E:vL->Sd->Prop}{lo hi:Int}{t u v:Tok}{tk:Nat}(I:Inv X pQ σ H s)(h1:-(2 ^ 62)<=lo)(h2:lo < 2 ^ 62)(h3:-(2 ^ 62)<=hi)(h4:hi < 2 ^ 62)(q:R (Itr lo (hi - lo).toNat) H):wpAny (model X.prog X.w) X.A (pyIter (.ref s.heap.objs.size)) (PIE X pQ σ tg R) E { s with heap:=s.heap.push { cls:=.type "range",data:=.fields #[.int lo t,.int hi u,.int 1 v] },toks:=tk }:=by
  refine wpAny_pyIter_range (IsRange.new ..) (small_one h1 h2 h3 h4) ?_;have I1:Inv X pQ σ H { s with heap:=s.heap.push { cls:=.type "range",data:=.fields #[.int lo t,.int hi u,.int 1 v] },toks:=tk }:=I.kept fun b o e=>Heap.get?_push_of_some _ e
  refine⟨(s.heap.push { cls:=.type "range",data:=.fields #[.int lo t,.int hi u,.int 1 v] }).objs.size,[(s.heap.push { cls:=.type "range",data:=.fields #[.int lo t,.int hi u,.int 1 v] }).objs.size],_,_,H,rfl,
    I1.kept (t':=tk) fun b o e=>Heap.get?_push_of_some _ e,turn_range _ lo (hi - lo).toNat,?_,fun b hb=>?_,q⟩
  · have e1:lo+((0:Nat):Int) * 1=lo:=by simp
    have e2:(((hi - lo).toNat:Nat):Int) - ((0:Nat):Int)=Builtin.Range.rangeSize lo hi 1:=by rw[rangeSize_one];split<;>omega
    show IsRangeIter _ _ (lo+((0:Nat):Int) * 1) ((((hi - lo).toNat:Nat):Int) - ((0:Nat):Int)) 1;rw[e1,e2];exact Heap.get?_push_size _ rfl
  · have e:b=(s.heap.push { cls:=.type "range",data:=.fields #[.int lo t,.int hi u,.int 1 v] }).objs.size:=by simpa using hb
    subst e;exact I1.fpOk (Nat.le_refl _) (I1.hok.fresh (Nat.le_refl _))
noncomputable def iRng1(ta:TA):TI:=fun σ H R=>ta σ H fun vs H1=>∃ j:Int,vs=[.int j]/\-(2 ^ 62)<=j/\j < 2 ^ 62/\R (Itr 0 j.toNat) H1
theorem pi_range1{a:Expr}{ta:TA}{p pos:Pos}(hg:Gl X "range")(hm:X.mg "range"=none)(ha:PA X [a] ta)(hs:starEach [a] X.env=[(false,eval a X.env)]:=by rfl):PI X tg (.Call (.Name "range" p) [a] [] pos) (iRng1 ta):=by
  intro pQ s σ H R I h;refine Call_ (ld_blt I hg hm boot_range (PyProof.Rows.callWith_type1 (thn (ha pos pQ s σ H _ I h) fun us s1 ⟨vs,H1,I1,r1,q1⟩=>?_) hs rfl))
  obtain⟨j,e,q1,q2,q⟩:=q1;subst e;cases r1 with
  |cons r rr=>
    cases rr;obtain⟨t,rfl⟩:=r;exact call_range_1 (range_it I1 (by omega) (by omega) q1 q2 (by simpa using q))

noncomputable def tFor(wi:TI)(g:TG)(tb:TS):TS:=fun D σ H=>wi σ H fun J H1=>∃ W:Nat->Nat->St->Hp->Prop,(∃ m,W 0 m σ H1)/\∀ i m σ H,W i m σ H->
  (J.stop i H/\D.nx σ H)\/(J.go i H/\∃ N:St->Hp->Prop,(∀ σ' H',N σ' H'->∃ m',m' < m/\W (i+1) m' σ' H')/\∀ x H',J.yld i H x H'->g x σ H' fun σ2 H2=>tb { D with nx:=N,ct:=N,bk:=D.nx } σ2 H2)
noncomputable def pinsAt(fp:Li Ad)(h:Heap):Li (Ad×Obj):=fp.filterMap fun b=>(h.get? b).map fun o=>(b,o)
theorem mem_pinsAt{fp:Li Ad}{h:Heap}{b:Ad}{o:Obj}(hb:b∈fp)(e:h.get? b=some o):(b,o)∈pinsAt fp h:=List.mem_filterMap.mpr ⟨b,hb,by rw[e];rfl⟩
theorem of_pinsAt{fp:Li Ad}{h:Heap}{p:Ad×Obj}(hp:p∈pinsAt fp h):p.1∈fp/\h.get? p.1=some p.2:=by
  obtain⟨b,hb,e⟩:=List.mem_filterMap.mp hp;cases q:h.get? b with
  |none=>rw[q]at e;cases e
  |some o=>
    rw[q]at e;have e':(b,o)=p:=Option.some.inj e;subst e';exact⟨hb,q⟩
theorem Inv.pinned{pQ:Li (Ad×Obj)}{σ:St}{H:Hp}{s:Sd}{fp:Li Ad}(I:Inv X pQ σ H s)(hf:∀ b∈fp,FpOk X pQ H b)(ho:∀ b∈fp,∃ o,s.heap.get? b=some o/\∀ v,o.data≠.cell v):Inv X (pQ++pinsAt fp s.heap) σ H s:=
  I.pins_of fun p hp=>(List.mem_append.mp hp).elim (fun z=>I.pin p (List.mem_append_right _ z)) fun z=>by
    obtain⟨hb,e⟩:=of_pinsAt z;obtain⟨f0,f1,f2,_⟩:=hf p.1 hb;obtain⟨o,e',d⟩:=ho p.1 hb;rw[e]at e';cases e'
    exact⟨e,f0,f1,f2,d⟩
theorem Inv.unpinned{pQ pl:Li (Ad×Obj)}{σ:St}{H:Hp}{s:Sd}(I:Inv X (pQ++pl) σ H s):Inv X pQ σ H s:=I.pins_of fun p hp=>I.pin p (List.mem_append_right _ (List.mem_append_left _ hp))
theorem ps_for{iter:Expr}{body:Li Stmt}{wi:TI}{g:TG}{tb:TS}{pos:Pos}(hp:PassesOwn (model X.prog X.w) X.A X.env X.xe)(hc:X.calm=true)(hi:PI X tg iter wi)(hg:PG X tg g)(hb:PSs X body tb)(hs:∀ x,foldedSetIterable iter X.env x=pure x:=by intro _;rfl):PS X (.For tg iter body [] pos) (tFor wi g tb):=by
  intro pQ s σ H D I h;refine wpAny_For (thn (hi pQ s σ H _ I h) fun v s1 h1=>thn h1 fun itv s2 h2=>?_) hs
  obtain⟨it,fp,tn,J,H2,e,I2,T,st2,f2,W,⟨m0,w0⟩,turn⟩:=h2;subst e
  -- what stays true of the iterator's objects through the loop
  have stat:∀ {H':Hp},(∀ b∈fp,H' b=none)->∀ b∈fp,FpOk X pQ H' b:=fun hn b hb=>⟨hn b hb,(f2 b hb).2⟩
  refine codeAny_forLoop_any (fun n s'=>∃ i σ' H',Inv X pQ σ' H' s'/\tn i s'.heap/\(∀ b∈fp,H' b=none)/\W i n σ' H') ?_ m0 ⟨0,σ,H2,I2,st2,fun b hb=>(f2 b hb).1,w0⟩
  rintro n s3 ⟨i,σ3,H3,I3,st3,fr3,w3⟩
  rcases turn i n σ3 H3 w3 with⟨stop,qn⟩|⟨go,N,hN,step⟩
  · refine wpAny_passesOwn hp (thn (T.done X rfl rfl rfl hc i pQ s3 σ3 H3 X.xe I3 (stat fr3) st3 stop) fun r s4 ⟨hr,I4⟩=>?_)
    subst hr;exact wpAny_execs_nil ⟨σ3,H3,I4,qn⟩
  · refine wpAny_passesOwn hp (thn (T.item X rfl rfl rfl hc i pQ s3 σ3 H3 X.xe I3 (stat fr3) st3 go) fun r s4 ⟨u,hr,h4⟩=>?_)
    subst hr;refine wpAny_passesOwn hp (thn h4 fun _ s5 ⟨x,H5,I5,r5,y5,st5,fr5⟩=>?_)
    have I5':=I5.pinned (stat fr5) (T.obj _ _ st5);refine wpAny_passesOwn hp (thn (hg _ s5 σ3 H5 x u _ I5' r5 (step x H5 y5)) fun _ s6 ⟨σ6,H6,I6,q6⟩=>?_)
    refine wpAny_passesOwn hp (thn (hb _ s6 σ6 H6 _ I6 q6) fun f s7 q7=>?_)
    have again:∀ {σ7:St}{H7:Hp},Inv X (pQ++pinsAt fp s5.heap) σ7 H7 s7->N σ7 H7->∃ m,m < n/\∃ i σ' H',Inv X pQ σ' H' s7/\tn i s7.heap/\(∀ b∈fp,H' b=none)/\W i m σ' H':=fun {σ7 H7} I7 n7=>by
      obtain⟨m',hm,w7⟩:=hN σ7 H7 n7;refine⟨m',hm,i+1,σ7,H7,I7.unpinned,T.keep _ _ _ st5 fun b hb o e=>(I7.pin (b,o) (List.mem_append_right _ (List.mem_append_right _ (mem_pinsAt hb e)))).1,fun b hb=>?_,w7⟩
      obtain⟨o,e,d⟩:=T.obj _ _ st5 b hb;exact(I7.pin (b,o) (List.mem_append_right _ (List.mem_append_right _ (mem_pinsAt hb e)))).2.1
    cases f with
    |next=>obtain⟨σ7,H7,I7,n7⟩:=q7;exact again I7 n7
    |cont=>obtain⟨σ7,H7,I7,n7⟩:=q7;exact again I7 n7
    |brk=>obtain⟨σ7,H7,I7,q7⟩:=q7;exact⟨σ7,H7,I7.unpinned,q7⟩
    |ret v=>obtain⟨x7,σ7,H7,I7,r7,q7⟩:=q7;exact⟨x7,σ7,H7,I7.unpinned,r7,q7⟩
end

theorem for_tup{K:Fg}{a:Ad}{xs:Li V}{g:TG}{tb:TS}{D:Ends}{σ:St}{H:Hp}(Pv:Nat->St->Hp->Prop)(h0:Pv 0 σ H)(hl:∀ i σ H,i<=xs.length->Pv i σ H->SqT K H a xs)(hs:∀ i x σ H,xs[i]?=some x->Pv i σ H->g x σ H fun σ2 H2=>tb { D with nx:=Pv (i+1),ct:=Pv (i+1),bk:=D.nx } σ2 H2)(hd:∀ σ H,Pv xs.length σ H->D.nx σ H) :
    ∃ W:Nat->Nat->St->Hp->Prop,(∃ m,W 0 m σ H)/\∀ i m σ H,W i m σ H->
      ((Itt K a).stop i H/\D.nx σ H)\/((Itt K a).go i H/\∃ N:St->Hp->Prop,(∀ σ' H',N σ' H'->∃ m',m' < m/\W (i+1) m' σ' H')/\∀ x H',(Itt K a).yld i H x H'->g x σ H' fun σ2 H2=>tb { D with nx:=N,ct:=N,bk:=D.nx } σ2 H2):=by
  refine⟨fun i m σ H=>m=xs.length - i/\i<=xs.length/\Pv i σ H,⟨xs.length,by simp,Nat.zero_le _,h0⟩,?_⟩
  rintro i m σ H ⟨rfl,hi,p⟩
  have q:=hl i σ H hi p;by_cases hlt:i < xs.length
  · refine .inr ⟨⟨xs,xs[i],q,by simp[hlt]⟩,Pv (i+1),fun σ' H' p'=>⟨xs.length - (i+1),by omega,rfl,hlt,p'⟩,fun x H' y=>?_⟩
    obtain⟨e,y⟩:=y;subst e;exact hs i x σ _ (y xs q) p
  · have e:i=xs.length:=by omega
    subst e;exact .inl ⟨⟨xs,q,Nat.le_refl _⟩,hd σ H p⟩
theorem for_range{lo:Int}{n:Nat}{g:TG}{tb:TS}{D:Ends}{σ:St}{H:Hp}(Pv:Nat->St->Hp->Prop)(h0:Pv 0 σ H)(hs:∀ i σ H,i < n->Pv i σ H->g (.int (lo+i)) σ H fun σ2 H2=>tb { D with nx:=Pv (i+1),ct:=Pv (i+1),bk:=D.nx } σ2 H2)(hd:∀ σ H,Pv n σ H->D.nx σ H) :
    ∃ W:Nat->Nat->St->Hp->Prop,(∃ m,W 0 m σ H)/\∀ i m σ H,W i m σ H->
      ((Itr lo n).stop i H/\D.nx σ H)\/((Itr lo n).go i H/\∃ N:St->Hp->Prop,(∀ σ' H',N σ' H'->∃ m',m' < m/\W (i+1) m' σ' H')/\∀ x H',(Itr lo n).yld i H x H'->g x σ H' fun σ2 H2=>tb { D with nx:=N,ct:=N,bk:=D.nx } σ2 H2):=by
  refine⟨fun i m σ H=>m=n - i/\i<=n/\Pv i σ H,⟨n,by simp,Nat.zero_le _,h0⟩,?_⟩
  rintro i m σ H ⟨rfl,hi,p⟩
  by_cases hlt:i < n
  · refine .inr ⟨hlt,Pv (i+1),fun σ' H' p'=>⟨n - (i+1),by omega,rfl,hlt,p'⟩,fun x H' y=>?_⟩
    obtain⟨e,y⟩:=y;subst e y;exact hs i σ _ hlt p
  · have e:i=n:=by omega
    subst e;exact .inl ⟨Nat.le_refl _,hd σ H p⟩
end L2

namespace L2
open PySem PySem.Spec PyProof.Rows

abbrev R2:=V->V->Hp->VK->Prop
def OpR(X:Cx)(f:vL->vL->Sem vL)(r:R2):Prop:=
  ∀ (pQ:Li (Ad×Obj)) (s:Sd) (σ:St) (H:Hp) (x y:V) (v u:vL) (Q:VK),Inv X pQ σ H s->RelV x v->RelV y u->r x y H Q->
    wpAny (model X.prog X.w) X.A (f v u) (EP X pQ σ Q) X.xe s
def UnR(X:Cx)(f:vL->Sem vL)(r:V->Hp->VK->Prop):Prop:=
  ∀ (pQ:Li (Ad×Obj)) (s:Sd) (σ:St) (H:Hp) (x:V) (v:vL) (Q:VK),Inv X pQ σ H s->RelV x v->r x H Q->
    wpAny (model X.prog X.w) X.A (f v) (EP X pQ σ Q) X.xe s
def CallR(X:Cx)(f:vL)(r:Li V->Hp->VK->Prop):Prop:=
  ∀ (pQ:Li (Ad×Obj)) (s:Sd) (σ:St) (H:Hp) (xs:Li V) (us:Li vL) (Q:VK),Inv X pQ σ H s->Vals xs us->r xs H Q->
    wpAny (model X.prog X.w) X.A (call f us) (EP X pQ σ Q) X.xe s

noncomputable def tOp(r:R2)(ta tb:TE):TE:=fun σ H Q=>ta σ H fun x H1=>tb σ H1 fun y H2=>r x y H2 Q
noncomputable def tUn(r:V->Hp->VK->Prop)(ta:TE):TE:=fun σ H Q=>ta σ H fun x H1=>r x H1 Q
noncomputable def rI(C:Int->Int->Prop)(g:Int->Int->V):R2:=fun x y H Q=>∃ i j,x=.int i/\y=.int j/\C i j/\Q (g i j) H
noncomputable def rI0(g:Int->Int->V):R2:=fun x y H Q=>∃ i j,x=.int i/\y=.int j/\Q (g i j) H
def rU(g:Int->V):V->Hp->VK->Prop:=fun x H Q=>∃ i,x=.int i/\Q (g i) H

section
variable {X:Cx}{a b c:Expr}{ta tb tc:TE}{pos:Pos}

theorem binT(ha:PE X a ta)(hb:PE X b tb){pQ:Li (Ad×Obj)}{s:Sd}{σ:St}{H:Hp}{R:V->V->Hp->Prop}(I:Inv X pQ σ H s)(h:ta σ H fun x H1=>tb σ H1 fun y H2=>R x y H2){Q:vL->Sd->Prop}{f:vL->vL->Sem vL}(hf:∀ v u s2 x y H2,Inv X pQ σ H2 s2->RelV x v->RelV y u->R x y H2->wpAny (model X.prog X.w) X.A (f v u) Q X.xe s2) :
    wpAny (model X.prog X.w) X.A (eval a X.env) (fun v s₁=>wpAny (model X.prog X.w) X.A (eval b X.env) (fun u s₂=>wpAny (model X.prog X.w) X.A (f v u) Q X.xe s₂) X.xe s₁) X.xe s:=by
  refine thn (ha pQ s σ H _ I h) fun v s1 ⟨x,H1,I1,r1,q1⟩=>?_
  refine thn (hb pQ s1 σ H1 _ I1 q1) fun u s2 ⟨y,H2,I2,r2,q2⟩=>?_
  exact hf v u s2 x y H2 I2 r1 r2 q2

theorem pe_op{op:Operator}{r:R2}(ho:OpR X (binaryOp op) r)(ha:PE X a ta)(hb:PE X b tb):PE X (.BinOp a op b pos) (tOp r ta tb):=by
  intro pQ s σ H Q I h;exact wpAny_BinOp (binT ha hb I h fun v u s2 x y H2 I2 rx ry q=>ho pQ s2 σ H2 x y v u Q I2 rx ry q)
theorem pe_un{op:UnaryOp}{r:V->Hp->VK->Prop}(ho:UnR X (unaryOp op) r)(ha:PE X a ta):PE X (.UnaryOp op a pos) (tUn r ta):=by
  intro pQ s σ H Q I h;exact UnaryOp_ (thn (ha pQ s σ H _ I h) fun v s1 ⟨x,H1,I1,r1,q1⟩=>ho pQ s1 σ H1 x v Q I1 r1 q1)

theorem opI{f:vL->vL->Sem vL}{C:Int->Int->Prop}{g:Int->Int->Int}(rule:∀ (i j:Int) (t u:Tok) (s:Sd) (Q:vL->Sd->Prop) (E:vL->Sd->Prop),C i j->Q (.int (g i j) s.toks) { s with toks:=s.toks+1 }->wpAny (model X.prog X.w) X.A (f (.int i t) (.int j u)) Q E s) :
    OpR X f (rI C fun i j=>.int (g i j)):=by
  intro pQ s σ H x y v u Q I rx ry h;obtain⟨i,j,rfl,rfl,hc,q⟩:=h;obtain⟨t,rfl⟩:=rx;obtain⟨t',rfl⟩:=ry;exact rule i j t t' s _ _ hc ⟨.int (g i j),H,I.tok _,⟨_,rfl⟩,q⟩
theorem opI0{f:vL->vL->Sem vL}{g:Int->Int->Int}(rule:∀ (i j:Int) (t u:Tok) (s:Sd) (Q:vL->Sd->Prop) (E:vL->Sd->Prop),Q (.int (g i j) s.toks) { s with toks:=s.toks+1 }->wpAny (model X.prog X.w) X.A (f (.int i t) (.int j u)) Q E s) :
    OpR X f (rI0 fun i j=>.int (g i j)):=by
  intro pQ s σ H x y v u Q I rx ry h;obtain⟨i,j,rfl,rfl,q⟩:=h;obtain⟨t,rfl⟩:=rx;obtain⟨t',rfl⟩:=ry;exact rule i j t t' s _ _ ⟨.int (g i j),H,I.tok _,⟨_,rfl⟩,q⟩
theorem opB0{f:vL->vL->Sem vL}{g:Int->Int->Bool}(rule:∀ (i j:Int) (t u:Tok) (s:Sd) (Q:vL->Sd->Prop) (E:vL->Sd->Prop),Q (.bool (g i j)) s->wpAny (model X.prog X.w) X.A (f (.int i t) (.int j u)) Q E s) :
    OpR X f (rI0 fun i j=>.bl (g i j)):=by
  intro pQ s σ H x y v u Q I rx ry h;obtain⟨i,j,rfl,rfl,q⟩:=h;obtain⟨t,rfl⟩:=rx;obtain⟨t',rfl⟩:=ry;exact rule i j t t' s _ _ ⟨.bl (g i j),H,I,rfl,q⟩

def CDiv(i j:Int):Prop:=0 < j/\j < 1073741824
def CDivN(i j:Int):Prop:=j≠0/\j.natAbs < 1073741824
def CPow(i j:Int):Prop:=0<=j/\j<=1000000/\i.natAbs < 2 ^ 64
def CMul(i j:Int):Prop:=(-(2 ^ 64) < i/\i < 2 ^ 64)\/(-(2 ^ 64) < j/\j < 2 ^ 64)
theorem CMul.ok{i j:Int}(h:CMul i j):IntMulOk i j:=by
  rcases h with⟨h1,h2⟩|⟨h1,h2⟩
  · exact .of_left (intBits_le_64 h1 h2)
  · exact .of_right (intBits_le_64 h1 h2)
theorem two_pow_nn(k:Nat):(0:Int)<=2 ^ k:=by
  rw[two_pow_cast];exact Int.natCast_nonneg _

theorem op_add:OpR X (binaryOp .Add) (rI0 fun i j=>.int (i+j)):=opI0 fun _ _ _ _ _ _ _ q=>add_int q
theorem op_sub:OpR X (binaryOp .Sub) (rI0 fun i j=>.int (i - j)):=opI0 fun _ _ _ _ _ _ _ q=>sub_int q
theorem op_mul:OpR X (binaryOp .Mult) (rI CMul fun i j=>.int (i * j)):=opI fun _ _ _ _ _ _ _ hc q=>mul_int q hc.ok
theorem op_fdiv:OpR X (binaryOp .FloorDiv) (rI CDiv fun i j=>.int (i / j)):=opI fun i j _ _ _ _ _ hc q=>by
  have h1:(0:Int) < j:=hc.1;have h2:j < 1073741824:=hc.2;exact floordiv_int (by omega) (by rw[Int.fdiv_eq_ediv_of_nonneg i (by omega)];exact q) (.inl (PyProof.noPylong_small (by omega)))
theorem op_fdivN:OpR X (binaryOp .FloorDiv) (rI CDivN fun i j=>.int (i.fdiv j)):=opI fun _ _ _ _ _ _ _ hc q=>floordiv_int hc.1 q (.inl (PyProof.noPylong_small hc.2))
theorem op_mod:OpR X (binaryOp .Mod) (rI (fun _ j=>0 < j) fun i j=>.int (i % j)):=opI fun i j _ _ _ _ _ hc q=>by
  have h1:(0:Int) < j:=hc;exact mod_int' (by omega) (by rw[Int.fmod_eq_emod_of_nonneg i (by omega)];exact q)
theorem op_modN:OpR X (binaryOp .Mod) (rI (fun _ j=>j≠0) fun i j=>.int (i.fmod j)):=opI fun _ _ _ _ _ _ _ hc q=>mod_int' hc q
theorem op_shl:OpR X (binaryOp .LShift) (rI CPow fun i j=>.int (i * 2 ^ j.toNat)):=opI fun _ _ _ _ _ _ _ hc q=>lshift_int_small hc.1 hc.2.1 hc.2.2 q
theorem op_shr:OpR X (binaryOp .RShift) (rI (fun _ j=>0<=j) fun i j=>.int (i / 2 ^ j.toNat)):=opI fun i j _ _ _ _ _ hc q=>
  rshift_int hc (by rw[Int.fdiv_eq_ediv_of_nonneg i (two_pow_nn _)];exact q)
theorem op_and:OpR X (binaryOp .BitAnd) (rI0 fun i j=>.int (Builtin.bitAnd i j)):=opI0 fun _ _ _ _ _ _ _ q=>and_int q


theorem unI{f:vL->Sem vL}{g:Int->Int}(rule:∀ (i:Int) (t:Tok) (s:Sd) (Q:vL->Sd->Prop) (E:vL->Sd->Prop),Q (.int (g i) s.toks) { s with toks:=s.toks+1 }->wpAny (model X.prog X.w) X.A (f (.int i t)) Q E s) :
    UnR X f (rU fun i=>.int (g i)):=by
  intro pQ s σ H x v Q I rx h;obtain⟨i,rfl,q⟩:=h;obtain⟨t,rfl⟩:=rx;exact rule i t s _ _ ⟨.int (g i),H,I.tok _,⟨_,rfl⟩,q⟩
theorem un_neg:UnR X (unaryOp .USub) (rU fun i=>.int (-i)):=unI fun _ _ _ _ _ q=>neg_int q

end

noncomputable def scal:V->V->Bool
  |.non,.non=>true|.non,.int _=>true|.int _,.non=>true|.non,.bl _=>true|.bl _,.non=>true|.non,.str _=>true|.str _,.non=>true
  |.int _,.int _=>true|.bl _,.bl _=>true|.str _,.str _=>true|.byt _,.byt _=>true
  |.int _,.str _=>true|.str _,.int _=>true|.bl _,.str _=>true|.str _,.bl _=>true
  |_,_=>false
noncomputable def rEq:R2:=fun x y H Q=>scal x y=true/\Q (.bl (decide (x=y))) H
noncomputable def rNe:R2:=fun x y H Q=>scal x y=true/\Q (.bl (!decide (x=y))) H

theorem dec_int{i j:Int}:decide (V.int i=V.int j)=(i==j):=by
  rw[Bool.eq_iff_iff];simp
theorem dec_bl{i j:Bool}:decide (V.bl i=V.bl j)=(i==j):=by
  rw[Bool.eq_iff_iff];simp
theorem dec_str{i j:Str}:decide (V.str i=V.str j)=(i==j):=by
  rw[Bool.eq_iff_iff];simp
theorem dec_byt{i j:Array UInt8}:decide (V.byt i=V.byt j)=(i.toList==j.toList):=by
  rw[Bool.eq_iff_iff];cases i;cases j;simp

section
variable {X:Cx}{a b c:Expr}{ta tb tc:TE}{pos:Pos}
theorem fin_bl{pQ:Li (Ad×Obj)}{σ:St}{H:Hp}{s:Sd}{Q:VK}{k k':Bool}(I:Inv X pQ σ H s)(q:Q (.bl k) H)(e:k=k'):EP X pQ σ Q (.bool k') s:=by
  subst e;exact⟨.bl k,H,I,rfl,q⟩
theorem op_eq:OpR X (compareOp .Eq) rEq:=by
  intro pQ s σ H x y v u Q I rx ry h;obtain⟨hs,q⟩:=h;cases x with
  |non=>
    cases rx;cases y with
    |non=>cases ry;exact PySem.EqNone.eq_none_none (fin_bl I q (by simp))
    |bl j=>cases ry;exact PySem.EqNone.eq_none_bool (fin_bl I q (by simp))
    |int j=>obtain⟨t',rfl⟩:=ry;exact PySem.EqNone.eq_none_int (fin_bl I q (by simp))
    |str j=>obtain⟨t',rfl⟩:=ry;exact PySem.EqNone.eq_none_str (fin_bl I q (by simp))
    |_=>exact absurd (show false=true from hs) Bf
  |bl i=>
    cases rx;cases y with
    |non=>cases ry;exact PySem.EqNone.eq_bool_none (fin_bl I q (by simp))
    |bl j=>cases ry;exact eq_bool (fin_bl I q dec_bl)
    |str j=>obtain⟨t',rfl⟩:=ry;exact PySem.EqMixed.eq_bool_str (fin_bl I q (by simp))
    |_=>exact absurd (show false=true from hs) Bf
  |int i=>
    obtain⟨t,rfl⟩:=rx;cases y with
    |non=>cases ry;exact PySem.EqNone.eq_int_none (fin_bl I q (by simp))
    |int j=>obtain⟨t',rfl⟩:=ry;exact eq_int (fin_bl I q dec_int)
    |str j=>obtain⟨t',rfl⟩:=ry;exact PySem.EqMixed.eq_int_str (fin_bl I q (by simp))
    |_=>exact absurd (show false=true from hs) Bf
  |str i=>
    obtain⟨t,rfl⟩:=rx;cases y with
    |non=>cases ry;exact PySem.EqNone.eq_str_none (fin_bl I q (by simp))
    |bl j=>cases ry;exact PySem.EqMixed.eq_str_bool (fin_bl I q (by simp))
    |int j=>obtain⟨t',rfl⟩:=ry;exact PySem.EqMixed.eq_str_int (fin_bl I q (by simp))
    |str j=>obtain⟨t',rfl⟩:=ry;exact eq_str (fin_bl I q dec_str)
    |_=>exact absurd (show false=true from hs) Bf
  |byt i=>
    obtain⟨t,rfl⟩:=rx;cases y with
    |byt j=>obtain⟨t',rfl⟩:=ry;exact PySem.W.eq_bytes (fin_bl I q dec_byt)
    |_=>exact absurd (show false=true from hs) Bf
  |_=>cases y<;>exact absurd (show false=true from hs) Bf
theorem op_ne:OpR X (compareOp .NotEq) rNe:=by
  intro pQ s σ H x y v u Q I rx ry h;obtain⟨hs,q⟩:=h;cases x with
  |non=>
    cases rx;cases y with
    |non=>cases ry;exact PySem.EqNone.ne_none_none (fin_bl I q (by simp))
    |bl j=>cases ry;exact PySem.EqNone.ne_none_bool (fin_bl I q (by simp))
    |int j=>obtain⟨t',rfl⟩:=ry;exact PySem.EqNone.ne_none_int (fin_bl I q (by simp))
    |str j=>obtain⟨t',rfl⟩:=ry;exact PySem.EqNone.ne_none_str (fin_bl I q (by simp))
    |_=>exact absurd (show false=true from hs) Bf
  |bl i=>
    cases rx;cases y with
    |non=>cases ry;exact PySem.EqNone.ne_bool_none (fin_bl I q (by simp))
    |bl j=>cases ry;exact ne_bool (fin_bl I q (congrArg not dec_bl))
    |str j=>obtain⟨t',rfl⟩:=ry;exact PySem.EqMixed.ne_bool_str (fin_bl I q (by simp))
    |_=>exact absurd (show false=true from hs) Bf
  |int i=>
    obtain⟨t,rfl⟩:=rx;cases y with
    |non=>cases ry;exact PySem.EqNone.ne_int_none (fin_bl I q (by simp))
    |int j=>obtain⟨t',rfl⟩:=ry;exact ne_int (fin_bl I q (congrArg not dec_int))
    |str j=>obtain⟨t',rfl⟩:=ry;exact PySem.EqMixed.ne_int_str (fin_bl I q (by simp))
    |_=>exact absurd (show false=true from hs) Bf
  |str i=>
    obtain⟨t,rfl⟩:=rx;cases y with
    |non=>cases ry;exact PySem.EqNone.ne_str_none (fin_bl I q (by simp))
    |bl j=>cases ry;exact PySem.EqMixed.ne_str_bool (fin_bl I q (by simp))
    |int j=>obtain⟨t',rfl⟩:=ry;exact PySem.EqMixed.ne_str_int (fin_bl I q (by simp))
    |str j=>obtain⟨t',rfl⟩:=ry;exact ne_str (fin_bl I q (congrArg not dec_str))
    |_=>exact absurd (show false=true from hs) Bf
  |byt i=>
    obtain⟨t,rfl⟩:=rx;cases y with
    |byt j=>obtain⟨t',rfl⟩:=ry;exact PySem.W.ne_bytes (fin_bl I q (congrArg not dec_byt))
    |_=>exact absurd (show false=true from hs) Bf
  |_=>cases y<;>exact absurd (show false=true from hs) Bf

theorem op_lt:OpR X (compareOp .Lt) (rI0 fun i j=>.bl (decide (i < j))):=opB0 fun _ _ _ _ _ _ _ q=>lt_int q
theorem op_le:OpR X (compareOp .LtE) (rI0 fun i j=>.bl (decide (i<=j))):=opB0 fun _ _ _ _ _ _ _ q=>le_int q
theorem op_gt:OpR X (compareOp .Gt) (rI0 fun i j=>.bl (decide (j < i))):=opB0 fun _ _ _ _ _ _ _ q=>gt_int q
theorem op_ge:OpR X (compareOp .GtE) (rI0 fun i j=>.bl (decide (j<=i))):=opB0 fun _ _ _ _ _ _ _ q=>ge_int q

theorem op_isN:OpR X (compareOp .Is) (fun x y H Q=>y=.non/\Q (.bl (decide (x=.non))) H):=by
  intro pQ s σ H x y v u Q I rx ry h;obtain⟨rfl,q⟩:=h;cases ry;refine is_none_gen (fin_bl I q ?_);cases x<;>first
    | (cases rx;rfl)
    | (obtain⟨t,rfl⟩:=rx;rfl)
theorem op_notN:OpR X (compareOp .IsNot) (fun x y H Q=>y=.non/\Q (.bl (!decide (x=.non))) H):=by
  intro pQ s σ H x y v u Q I rx ry h;obtain⟨rfl,q⟩:=h;cases ry;refine isnot_none_gen (fin_bl I q ?_);cases x<;>first
    | (cases rx;rfl)
    | (obtain⟨t,rfl⟩:=rx;rfl)



theorem pe_cmpR{op:CmpOp}{r:R2}(ho:OpR X (compareOp op) r)(ha:PE X a ta)(hb:PE X b tb)(hm:behindInMarks op b=false):PE X (.Compare a [op] [b] pos) (tOp r ta tb):=by
  intro pQ s σ H Q I h;exact wpAny_Compare1 (binT ha hb I h fun v u s2 x y H2 I2 rx ry q=>ho pQ s2 σ H2 x y v u Q I2 rx ry q) hm
noncomputable def tTest(t:TE):TT:=fun σ H Q=>t σ H fun x H'=>∃ k,x=.bl k/\Q k H'
theorem pt_cmpR{op:CmpOp}{r:R2}(ho:OpR X (compareOp op) r)(ha:PE X a ta)(hb:PE X b tb)(hm:behindInMarks op b=false):PT X (.Compare a [op] [b] pos) (tTest (tOp r ta tb)):=by
  intro pQ s σ H Q I h;refine wpAny_isTrue_Compare1 (thn (ha pQ s σ H _ I h) fun v s1 ⟨x,H1,I1,r1,q1⟩=>thn (hb pQ s1 σ H1 _ I1 q1) fun u s2 ⟨y,H2,I2,r2,q2⟩=>
    thn (ho pQ s2 σ H2 x y v u _ I2 r1 r2 q2) fun c s3 ⟨z,H3,I3,r3,k,e,q3⟩=>?_) hm
  subst e;cases r3;exact wpAny_truthy_bool ⟨H3,I3,q3⟩

theorem line63:(sizeLine:Nat) < 2 ^ 63:=by rw[sizeLine_eq];decide



theorem vals1{x:V}{us:Li vL}(r:Vals [x] us):∃ u,us=[u]/\RelV x u:=by
  cases r with
  |cons r1 r2=>cases r2;exact⟨_,rfl,r1⟩
theorem vals2{x y:V}{us:Li vL}(r:Vals [x,y] us):∃ u w',us=[u,w']/\RelV x u/\RelV y w':=by
  cases r with
  |cons r1 r2=>
    cases r2 with
    |cons r3 r4=>cases r4;exact⟨_,_,rfl,r1,r3⟩
theorem call_max2(hc:X.calm=true):CallR X (.builtin "max") (fun xs H Q=>∃ i j,xs=[.int i,.int j]/\Q (.int (if j > i then j else i)) H):=by
  intro pQ s σ H xs us Q I r h;obtain⟨i,j,rfl,q⟩:=h;obtain⟨u,w',rfl,⟨t,rfl⟩,⟨t',rfl⟩⟩:=vals2 r;refine max_two_ints (I.ok.hd hc) fun h' tk k=>⟨_,H,I.kept k,?_,q⟩
  by_cases hj:j > i
  · rw[if_pos hj,if_pos hj];exact⟨_,rfl⟩
  · rw[if_neg hj,if_neg hj];exact⟨_,rfl⟩
theorem call_min2(hc:X.calm=true):CallR X (.builtin "min") (fun xs H Q=>∃ i j,xs=[.int i,.int j]/\Q (.int (if j < i then j else i)) H):=by
  intro pQ s σ H xs us Q I r h;obtain⟨i,j,rfl,q⟩:=h;obtain⟨u,w',rfl,⟨t,rfl⟩,⟨t',rfl⟩⟩:=vals2 r;refine min_two_ints (I.ok.hd hc) fun h' tk k=>⟨_,H,I.kept k,?_,q⟩
  by_cases hj:j < i
  · rw[if_pos hj,if_pos hj];exact⟨_,rfl⟩
  · rw[if_neg hj,if_neg hj];exact⟨_,rfl⟩
end
end L2

namespace L2
open PySem PySem.Spec PyProof.Rows

structure ObjM(h:Heap)(x dx C:Addr)(mA:Str->Option Value):Prop where
  obj:h.get? x=some (PySem.W.instObj C dx)
  ns:h.Ns1 dx mA
  ne:dx≠x

theorem lookIn_ns{h:Heap}{dx:Ad}{mA:Str->Ot vL}(n:h.Ns1 dx mA):∃ od,h.get? dx=some od/\∀ name,PySem.W.lookIn name od=some (mA name):=by
  obtain⟨o,es,ep,ho,hd,hk,_,hm⟩:=n;refine⟨o,ho,fun name=>?_⟩
  have e:=hm name;unfold nsFind findBy at e;rw[<-Array.find?_toList]at e;unfold PySem.W.lookIn;rw[hd];dsimp only;split
  · rename_i y q
    rw[q]at e;exact congrArg some e
  · rename_i q
    rw[q]at e;have a:es.toList.any (·.refKey)=false:=by
      rw[List.any_eq_false];intro y hy;obtain⟨z,t,hkey⟩:=hk y (Array.mem_toList_iff.mp hy);simp[DictEntry.refKey,hkey]
    have a':¬es.toList.any (·.refKey)=true:=by rw[a];exact Bf
    rw[if_neg a'];exact congrArg some e

theorem ObjM.look{h:Heap}{x dx C:Ad}{mA:Str->Ot vL}(I:ObjM h x dx C mA):∃ od,PySem.W.InstAt h x (PySem.W.instObj C dx) C (some od)/\∀ name,PySem.W.lookIn name od=some (mA name):=
  let ⟨od,ho,hl⟩:=lookIn_ns I.ns
  ⟨od,⟨I.obj,rfl,rfl,ho⟩,hl⟩

section
variable {prog:Program}{w:World}{A:Around}{E:vL->Sd->Prop}{s:Sd}{K:Fg}{x dx C f:Ad}{mA:Str->Ot vL}{name:Str}{v:vL}



theorem get_meth{pl:Sem Bool}{Q:vL×Li vL->Sd->Prop}(X:K.In s.heap)(I:ObjM s.heap x dx C mA)(hg:PySem.W.plainGet K C name=true)(hf:PySem.W.findIn K (.ref C) name=some (some (.ref f)))(ht:PySem.W.isFn K (.ref f)=true)(hv:mA name=none)(h:Q (.ref f,[.ref x]) s) :
    wpAny (model prog w) A (getMethod (.ref x) name pl) Q E s:=by
  obtain⟨od,J,hl⟩:=I.look;exact PySem.W.method_fn X J (PySem.W.plainGet_of hg).1 (PySem.W.plainGet_of hg).2 hf (beq_iff_eq.mp ht) (by show(PySem.W.lookIn name od).map (·.isSome)=some false;rw[hl,hv];rfl) h


end


theorem RelO.some_of{v:V}{o:Ot vL}(r:RelO (some v) o):∃ u,o=some u/\RelV v u:=by
  cases o with
  |none=>exact(show False from r).elim
  |some u=>exact⟨u,rfl,r⟩
theorem RelO.none_of{o:Ot vL}(r:RelO none o):o=none:=by
  cases o with
  |none=>rfl
  |some u=>exact(show False from r).elim

section
variable {P:Program}{w:World}{H H':Hp}{h h':Heap}{a C dx:Ad}{fs fs':Li (Str×V)}
theorem ins_get(hok:HOk P w H h)(e:H a=some (.ins C dx fs)):∃ mA,ObjM h a dx C mA/\(∀ f,RelO (fs.lookup f) (mA f))/\PySem.Within mA (fs.map (·.1))/\fs.length<=1000/\H dx=some (.own a):=by
  obtain⟨d,z,ne,ob,mA,n,r,q⟩:=(show ObjOk P w H h a (.ins C dx fs) from hok a _ e);exact⟨mA,⟨ob,n,ne⟩,r,q,z,d⟩
end

structure Cls(K:Fg)(C:Addr):Prop where
  pg:PySem.W.plainGet K C Str.empty=true
  hd:PySem.W.hasDictIn K C=true
  po:PySem.W.plainOver K C=true
  sa:PySem.W.findIn K (.ref C) "__setattr__"=some (some (.builtin "object.__setattr__"))
theorem Cls.get{K:Fg}{C:Ad}(c:Cls K C)(f:Str):PySem.W.plainGet K C f=true:=c.pg
structure Con(K:Fg)(C:Addr)(f:Str)(v:V)(u:Value):Prop where
  at_:PySem.W.findIn K (.ref C) f=some (some u)
  rel:RelV v u
  get:PySem.W.specialIn K u "__get__"=some none
  cp:PySem.W.copiedNames.contains f=false
structure Meth(K:Fg)(C:Addr)(m:Str)(f:Addr):Prop where
  at_:PySem.W.findIn K (.ref C) m=some (some (.ref f))
  fn:PySem.W.isFn K (.ref f)=true
  kp:PySem.W.keepIn K (.ref f)=true

section
variable {X:Cx}{pQ:Li (Ad×Obj)}{σ:St}{H:Hp}{s:Sd}{a C dx:Ad}{fs:Li (Str×V)}{f:Str}{v:V}{A:Around}{E:vL->Sd->Prop}



theorem getmeth_ok{m:Str}{g:Ad}{pl:Sem Bool}{Q:vL×Li vL->Sd->Prop}(I:Inv X pQ σ H s)(e:H a=some (.ins C dx fs))(c:Cls X.K C)(k:Meth X.K C m g)(l:fs.lookup m=none)(h:Q (.ref g,[.ref a]) s):wpAny (model X.prog X.w) A (getMethod (.ref a) m pl) Q E s:=by
  obtain⟨mA,O,r,_,_,_⟩:=ins_get I.hok e;have hn:mA m=none:=RelO.none_of (by rw[<-l];exact r m)
  exact get_meth I.kIn O (c.get m) k.at_ k.fn hn h


theorem Inv.made(I:Inv X pQ σ H s):Inv X pQ σ (upd (upd H s.heap.objs.size (.own (s.heap.objs.size+1))) (s.heap.objs.size+1) (.ins C s.heap.objs.size []))
    { s with heap:=(s.heap.push PySem.W.emptyDict).push (PySem.W.instObj C s.heap.objs.size) }:=by
  have e1:(s.heap.push PySem.W.emptyDict).get? s.heap.objs.size=some PySem.W.emptyDict:=Heap.get?_push_size s.heap rfl;have e2:((s.heap.push PySem.W.emptyDict).push (PySem.W.instObj C s.heap.objs.size)).get? (s.heap.objs.size+1)=some (PySem.W.instObj C s.heap.objs.size):=by
    have:=Heap.get?_push_size (s.heap.push PySem.W.emptyDict) (o:=PySem.W.instObj C s.heap.objs.size) rfl
    rwa [Heap.size_push]at this
  have e3:(s.heap.push PySem.W.emptyDict).Ns s.heap.objs.size (fun _=>none):=⟨PySem.W.emptyDict,#[],_,e1,rfl,(fun e he=>absurd he (by simp)),fun _=>rfl⟩
  have I1:=I.laid (a:=s.heap.objs.size) (o:=.own (s.heap.objs.size+1)) (h':=s.heap.push PySem.W.emptyDict) (t':=s.toks) (fun b u q=>Heap.get?_push_of_some _ q) (Nat.le_refl _) ⟨_,e1⟩
  refine I1.laid (a:=s.heap.objs.size+1) (o:=.ins C s.heap.objs.size []) (t':=s.toks) (fun b u q=>Heap.get?_push_of_some _ q) (Nat.le_of_eq (Heap.size_push _ _)) ?_
  have ne:s.heap.objs.size≠s.heap.objs.size+1:=Nat.ne_of_lt (Nat.lt_succ_self _);refine⟨by rw[upd_ne ne,upd_same],Nat.zero_le _,ne,e2,fun _=>none,(Heap.Ns1.of_empty e3).at fun o q=>Heap.get?_push_of_some _ q,fun _=>True.intro,fun y hy=>absurd rfl hy⟩

end


section
variable {X:Cx}{o e value:Expr}{f:Str}{pos pos' tpos:Pos}{ta tv:TE}

end

section
variable {X:Cx}{pQ:Li (Ad×Obj)}{σ:St}{H:Hp}{s:Sd}{A:Around}{E:vL->Sd->Prop}{Q:vL->Sd->Prop}{c:vL}{b:Bool}
inductive TyOf(K:Fg)(H:Hp):V->Value->Prop where
  |non:TyOf K H .non (.type "NoneType")
  |bl (x:Bool):TyOf K H (.bl x) (.type "bool")
  |int (i:Int):TyOf K H (.int i) (.type "int")
  |str (x:Str):TyOf K H (.str x) (.type "str")
  |flt (x:UInt64):TyOf K H (.flt x) (.type "float")
  |lst {a:Addr}{xs:List V} (e:H a=some (.lst xs)):TyOf K H (.ref a) (.type "list")
  |frz {a:Addr}{o:Obj}{xs:List V} (e:H a=some (.frz o (.lst xs))):TyOf K H (.ref a) (.type "list")
  |tup {a:Addr}{xs:List V} (e:H a=some (.tup xs)):TyOf K H (.ref a) (.type "tuple")
  |dK {a:Addr}{kvs:List (Key×V)} (e:H a=some (.dK kvs)):TyOf K H (.ref a) (.type "dict")
  |dT {a:Addr}{kvs:List (List Key×V)} (e:H a=some (.dT kvs)):TyOf K H (.ref a) (.type "dict")
  |ins {a C dx:Addr}{fs:List (Str×V)} (e:H a=some (.ins C dx fs)) (cl:Cls K C) (ha:PySem.W.findIn K (.ref C) "__class__"=some (some (.builtin "object.__class__")))
      (hn:PySem.W.specialIn K (.builtin "object.__class__") "__get__"=some (some (.builtin "getset_descriptor.__get__"))) (htk:PySem.W.takesIn K (.builtin "object.__class__")=some true)
      (hm:PySem.W.mroIn K C (.type "object")=some true):TyOf K H (.ref a) (.ref C)
theorem isinst_ok{x:V}{u t:vL}(I:Inv X pQ σ H s)(rx:RelV x u)(ty:TyOf X.K H x t)(e:PySem.W.kitOne X.K t c=some b)(h:∀ tk,Q (.bool b) { s with toks:=tk }) :
    wpAny (model X.prog X.w) A (call (.builtin "isinstance") [u,c]) Q E s:=by
  cases ty with
  |non=>cases (show u=Value.none from rx);exact PySem.W.kia_one PySem.W.kitx_none I.kIn True.intro e (fun z=>nomatch z) h
  |bl y=>cases (show u=Value.bool y from rx);exact PySem.W.kia_one PySem.W.kitx_bool I.kIn True.intro e (fun z=>nomatch z) h
  |int i=>obtain⟨t,q⟩:=(show ∃ t,u=Value.int i t from rx);cases q;exact PySem.W.kia_one PySem.W.kitx_int I.kIn True.intro e (fun z=>nomatch z) h
  |str y=>obtain⟨t,q⟩:=(show ∃ t,u=Value.str y t from rx);cases q;exact PySem.W.kia_one PySem.W.kitx_str I.kIn True.intro e (fun z=>nomatch z) h
  |flt y=>obtain⟨t,q⟩:=(show ∃ t,u=Value.float y t from rx);cases q;exact PySem.W.kia_one PySem.W.kitx_float I.kIn True.intro e (fun z=>nomatch z) h
  |@lst a xs ea=>
    cases (show u=Value.ref a from rx)
    obtain⟨_,_,n,_,h1⟩:=(show ObjOk X.prog X.w H s.heap a (.lst xs) from I.hok a _ ea);exact PySem.W.kia_one PySem.W.kitx_list I.kIn ⟨_,h1,rfl⟩ e (fun z=>nomatch z) h
  |@frz a ob xs ea=>
    cases (show u=Value.ref a from rx)
    obtain⟨_,_,_,n,_,h1⟩:=(show ObjOk X.prog X.w H s.heap a (.frz ob (.lst xs)) from I.hok a _ ea);exact PySem.W.kia_one PySem.W.kitx_list I.kIn ⟨_,h1,rfl⟩ e (fun z=>nomatch z) h
  |@tup a xs ea=>
    cases (show u=Value.ref a from rx)
    obtain⟨_,_,_,p⟩:=(show ObjOk X.prog X.w H s.heap a (.tup xs) from I.hok a _ ea);obtain⟨o,h1,h2,_⟩:=p;exact PySem.W.kia_one PySem.W.kitx_tuple I.kIn ⟨o,h1,h2⟩ e (fun z=>nomatch z) h
  |@dK a kvs ea=>
    cases (show u=Value.ref a from rx)
    obtain⟨_,_,vs,_,p⟩:=(show ObjOk X.prog X.w H s.heap a (.dK kvs) from I.hok a _ ea);obtain⟨o,es,ep,h1,h2,_⟩:=p;exact PySem.W.kia_one PySem.W.kitx_dict I.kIn ⟨o,h1,h2.1⟩ e (fun z=>nomatch z) h
  |@dT a kvs ea=>
    cases (show u=Value.ref a from rx)
    obtain⟨_,_,xs,_,o,es,ep,h1,h2,_⟩:=(show ObjOk X.prog X.w H s.heap a (.dT kvs) from I.hok a _ ea);exact PySem.W.kia_one PySem.W.kitx_dict I.kIn ⟨o,h1,h2.1⟩ e (fun z=>nomatch z) h
  |@ins a C dx fs ea cl ha hn htk hm=>
    cases (show u=Value.ref a from rx)
    obtain⟨mA,O,_⟩:=ins_get I.hok ea;obtain⟨od,J,_⟩:=O.look;exact PySem.W.kia_one (PySem.W.kitx_own (cl.get _) cl.hd ha hn htk hm) I.kIn J e (fun z=>nomatch z) h
end
end L2

namespace L2
open PySem PySem.Spec PyProof.Rows

structure Room(k:Nat)(A:Around):Prop where
  hd:A.handled=none
  dp:A.depth+3 * k+5 < recursionLimit
  un:A.units+16 * k+200 < cLine
theorem Room.deeper{k:Nat}{A:Around}(r:Room (k+1) A)(env:Env):Room k (A.deeper env):=
  ⟨r.hd,by have:=r.dp;show A.depth+1+3 * k+5 < _;omega,by have:=r.un;show A.units+3+16 * k+200 < _;omega⟩
theorem Room.depth{k:Nat}{A:Around}(r:Room k A):A.depth < recursionLimit:=by have:=r.dp;omega
theorem Room.units{k:Nat}{A:Around}(r:Room k A):A.units+64 < cLine:=by have:=r.un;omega

noncomputable def tNil:TA:=fun _ H Q=>Q [] H
noncomputable def tCons(ta:TE)(tr:TA):TA:=fun σ H Q=>ta σ H fun x H1=>tr σ H1 fun xs H2=>Q (x :: xs) H2
section
variable {X:Cx}{e:Expr}{es:Li Expr}{te:TE}{t:TA}{pos:Pos}
theorem pa_nil:PA X [] tNil:=fun _ _ _ _ H Q I h=>Calls.spliced_nil ⟨[],H,I,.nil,h⟩
theorem pa_cons(ha:PE X e te)(hr:PA X es t)(hs:starEach (e :: es) X.env=(false,eval e X.env) :: starEach es X.env:=by rfl):PA X (e :: es) (tCons te t):=by
  intro pos pQ s σ H Q I h;rw[hs];show wpAny _ _ (spliced ((false,eval e X.env) :: backTo pos (starEach es X.env))) _ _ s;refine Calls.spliced_cons (thn (ha pQ s σ H _ I h) fun u s1 ⟨x,H1,I1,r1,q1⟩=>?_)
  exact thn (hr pos pQ s1 σ H1 _ I1 q1) fun us s2 ⟨xs,H2,I2,r2,q2⟩=>⟨x :: xs,H2,I2,.cons r1 r2,q2⟩

noncomputable def tTup(t:TA):TE:=fun σ H Q=>t σ H fun xs H1=>xs.length<=sizeLine/\∀ p,H1 p=none->Q (.ref p) (upd H1 p (.tup xs))
noncomputable def tLst(t:TA):TE:=fun σ H Q=>t σ H fun xs H1=>xs.length<=sizeLine/\∀ p,H1 p=none->Q (.ref p) (upd H1 p (.lst xs))
theorem pe_tup{x1}(h:PA X es t):PE X (.Tuple es x1 pos) (tTup t):=by
  intro pQ s σ H Q I hq;refine wpAny_Tuple_spliced (thn (h pos pQ s σ H _ I hq) fun us s1 ⟨xs,H1,I1,r,z,q⟩=>⟨by rw[<-r.length];exact z,?_⟩)
  have hf:H1 s1.heap.objs.size=none:=I1.hok.fresh (Nat.le_refl _);refine⟨.ref s1.heap.objs.size,upd H1 s1.heap.objs.size (.tup xs),I1.laid (t':=s1.toks) (fun b u e=>Heap.get?_push_of_some _ e) (Nat.le_refl _) ?_,rfl,q _ hf⟩
  exact⟨z,us,r,⟨_,Heap.get?_push_size _ rfl,rfl,_,rfl⟩⟩
theorem pe_lst(h:PA X es t):PE X (.List es pos) (tLst t):=by
  intro pQ s σ H Q I hq;refine wpAny_List_spliced (thn (h pos pQ s σ H _ I hq) fun us s1 ⟨xs,H1,I1,r,z,q⟩=>⟨by rw[<-r.length];exact z,?_⟩)
  have hf:H1 s1.heap.objs.size=none:=I1.hok.fresh (Nat.le_refl _);refine⟨.ref s1.heap.objs.size,upd H1 s1.heap.objs.size (.lst xs),I1.laid (t':=s1.toks) (fun b u e=>Heap.get?_push_of_some _ e) (Nat.le_refl _) ?_,rfl,q _ hf⟩
  exact⟨z,us,0,r,Heap.get?_push_size _ rfl⟩
end

abbrev Sp:=Li V->Hp->VK->XK->Prop
abbrev CXT:=Li Env->Hp->Sd->XK->vL->Sd->Prop

structure Env0(P:Program)(w:World)(K:Fg)(mg:Str->Option Value)(base:Heap)(A:Around)(outer:List Env)(s:Shared)(H:Hp):Prop where
  frames:A.frames=some outer
  mod:Mod K mg base
  bs:∀ b o,base.get? b=some o->s.heap.get? b=some o/\H b=none
  bsz:base.objs.size<=s.heap.objs.size
  funs:s.heap.FunFrames base outer
  frf:∀ b∈frs outer,H b=none
  hok:HOk P w H s.heap
  bare:AllBare s.gens
def CE(outer:Li Env)(P:Program)(w:World)(H:Hp)(s:Sd)(Q:VK)(u:vL)(s':Sd):Prop:=
  ∃ v H',s'.os=s.os/\AllBare s'.gens/\Un (frs outer) [] H H' s.heap s'.heap/\HOk P w H' s'.heap/\RelV v u/\Q v H'
def CR(CX:CXT)(outer:Li Env)(P:Program)(w:World)(H:Hp)(s:Sd)(Q:VK)(E:XK)(r:Result)(s':Sd):Prop:=
  match r with
  |.ok (.ret u)=>CE outer P w H s Q u s'
  |.ok _=>False
  |.error e=>CX outer H s E e s'
structure FnOk(P:Program)(w:World)(K:Fg)(mg:Str->Option Value)(base:Heap)(CX:CXT)(k:Nat)(f:Addr)(fd:FuncData)(ps:List Str)(sp:Sp):Prop where
  len:∀ vs H Q E,sp vs H Q E->vs.length=ps.length
  run:∀ (A:Around) (outer:List Env) (s:Shared) (H:Hp) (args:Args) (us:List Value) (vs:List V) (Q:VK) (E:XK),Room k A->Env0 P w K mg base A outer s H->BindsTo s fd args (ps.zip us)->Vals vs us->sp vs H Q E->
    codeAny (model P w) A (.call (.ref f) args) (CR CX outer P w H s Q E) s


section
variable {X:Cx}{pQ:Li (Ad×Obj)}{σ:St}{H:Hp}{s s':Sd}
theorem Inv.env0(I:Inv X pQ σ H s):Env0 X.prog X.w X.K X.mg X.base X.A X.stack s H:=
  ⟨I.ok.frames,I.ok.mod,I.bs,Nat.le_trans I.ok.bsz I.sz,I.stack,I.stkFree,I.hok,I.bare⟩
theorem Inv.after{Q:VK}{u:vL}(I:Inv X pQ σ H s)(h:CE X.stack X.prog X.w H s Q u s'):EP X pQ σ Q u s':=by
  obtain⟨v,H',os,bare,un,hok,r,q⟩:=h;obtain⟨hh,g,d,t,os'⟩:=s';obtain rfl:os'=s.os:=os;exact⟨v,H',I.call (h':=hh) (g':=g) (d':=d) (t':=t) (ch:=[]) un hok bare (fun b z=>absurd z (by simp)),r,q⟩
end

noncomputable def tCall(sp:Sp)(dvs:Li V)(E:XK)(t:TA):TE:=fun σ H Q=>t σ H fun vs H1=>sp (vs++dvs) H1 Q E

def Binds(K:Fg)(fd:FuncData)(ps:Li Str)(ds:Li vL):Prop:=
  ∀ (s:Sd) (us:Li vL),K.In s.heap->(us++ds).length=ps.length->BindsTo s fd ⟨us,[]⟩ (ps.zip (us++ds))
theorem Binds.all{K:Fg}{fd:FuncData}{ps:Li Str}(h:∀ us:Li vL,us.length=ps.length->bindArgs fd ⟨us,[]⟩=pure (ps.zip us)):Binds K fd ps []:=fun s us _ hl=>by
  rw[List.append_nil]at hl ⊢;exact .of_eq (h us hl)

def Passes(CX:CXT)(X:Cx)(E:XK):Prop:=∀ (pQ:Li (Ad×Obj)) (σ:St) (H:Hp) (s:Sd) (e:vL) (s':Sd),Inv X pQ σ H s->CX X.stack H s E e s'->X.xe e s'

section
variable {X:Cx}{CX:CXT}{k:Nat}{f C:Ad}{fd:FuncData}{ps:Li Str}{sp:Sp}{dvs:Li V}{ds:Li vL}{E:XK}{x m:Str}{p pos apos:Pos}{e o:Expr}{es:Li Expr}{ta:TE}{t:TA}

theorem run_fn{pQ:Li (Ad×Obj)}{σ:St}{H:Hp}{s:Sd}{Q:VK}{us:Li vL}{vs:Li V}(F:FnOk X.prog X.w X.K X.mg X.base CX k f fd ps sp)(hr:Room k X.A)(hb:Binds X.K fd ps ds)(hd:Vals dvs ds)(hx:Passes CX X E)(I:Inv X pQ σ H s)(r:Vals vs us)(h:sp (vs++dvs) H Q E):wpAny (model X.prog X.w) X.A (call (.ref f) us) (EP X pQ σ Q) X.xe s:=by
  have r2:Vals (vs++dvs) (us++ds):=r.append hd;have hl:(us++ds).length=ps.length:=by rw[<-r2.length];exact F.len _ _ _ _ h
  refine wpAny_call (codeAny_mono (F.run X.A X.stack s H ⟨us,[]⟩ (us++ds) (vs++dvs) Q E hr I.env0 (hb s us I.kIn hl) r2 h) fun r s' hq=>?_)
  cases r with
  |error e=>exact hx pQ σ H s e s' I hq
  |ok fl=>
    cases fl with
    |ret u=>exact I.after hq
    |next=>exact False.elim hq
    |brk=>exact False.elim hq
    |cont=>exact False.elim hq

theorem pe_call(F:FnOk X.prog X.w X.K X.mg X.base CX k f fd ps sp)(hr:Room k X.A)(hg:Gl X x)(hm:X.mg x=some (.ref f))(hk:PySem.W.keepIn X.K (.ref f)=true)(hb:Binds X.K fd ps ds)(hd:Vals dvs ds)(hx:Passes CX X E)(ha:PA X (e :: es) t)(hdb:(x==("__debug__":Str))=false:=by decide)(he:starEach (e :: es) X.env=(false,eval e X.env) :: starEach es X.env:=by rfl)(hpl:(backTo pos (starEach es X.env)).any (·.1)=false:=by rfl) :
    PE X (.Call (.Name x p) (e :: es) [] pos) (tCall sp dvs E t):=by
  intro pQ s σ H Q I h;refine wpAny_Call_Name_kw (ld_glob I hg hm ?_ hdb);refine PySem.W.callWith_K (h₀:=X.base) I.ok.mod.kin hk (thn (ha pos pQ s σ H _ I h) fun us s1 ⟨vs,H1,I1,r,q⟩=>⟨I1.kIn,?_⟩) he hpl
  exact run_fn F hr hb hd hx I1 r q
theorem pe_call0(F:FnOk X.prog X.w X.K X.mg X.base CX k f fd ps sp)(hr:Room k X.A)(hg:Gl X x)(hm:X.mg x=some (.ref f))(hk:PySem.W.keepIn X.K (.ref f)=true)(hb:Binds X.K fd ps ds)(hd:Vals dvs ds)(hx:Passes CX X E)(hdb:(x==("__debug__":Str))=false:=by decide):PE X (.Call (.Name x p) [] [] pos) (tCall sp dvs E tNil):=by
  intro pQ s σ H Q I h;refine wpAny_Call_Name_kw (ld_glob I hg hm ?_ hdb);exact PySem.W.callWith_K0 I.kIn hk (run_fn (us:=[]) F hr hb hd hx I .nil h)


structure Mk(K:Fg)(C f:Addr):Prop where
  makes:PySem.W.makesIn K C=true
  init:PySem.W.findIn K (.ref C) "__init__"=some (some (.ref f))
  fn:PySem.W.isFn K (.ref f)=true
  kp:PySem.W.keepIn K (.ref C)=true

end

section
variable {X:Cx}{CX:CXT}{k:Nat}{f C:Ad}{fd:FuncData}{ps ks:Li Str}{sp:Sp}{E:XK}{x m:Str}{p pos apos kpos:Pos}{e o:Expr}{es:Li Expr}{kws:Li Keyword}{te ta:TE}{t tk:TA}{nm:Ot Str}

structure KBinds(K:Fg)(fd:FuncData)(ps ks:List Str)(g:List Value->List Value->List Value)(gV:List V->List V->List V):Prop where
  to:∀ (s:Shared) (us ws:List Value),K.In s.heap->(g us ws).length=ps.length->BindsTo s fd ⟨us,ks.zip ws⟩ (ps.zip (g us ws))
  rel:∀ {vs:List V}{us:List Value}{zs:List V}{ws:List Value},Vals vs us->Vals zs ws->Vals (gV vs zs) (g us ws)
variable {g:Li vL->Li vL->Li vL}{gV:Li V->Li V->Li V}
end

structure FnScope(N P:List Str)(sc:Scope):Prop where
  kind:sc.kind=.function
  co:sc.isCoroutine=false
  gen:sc.isGenerator=false
  nd:N.Nodup
  pre:N.take P.length=P
  par:∀ x∈P,sc.names.lookup x=some .local\/sc.names.lookup x=some .cell
  nofree:∀ y∈sc.names,y.2≠.free

theorem bindL_out{kindOf:Str->Ot NameKind}{x:Str}:∀ {binds:Li (Str×vL)}{m:Str->Ot vL},(∀ v,(x,v)∉binds)->bindL kindOf binds m x=m x
  |[],_,_=>rfl
  | (n,v) :: r,m,h=>by
    unfold bindL;rw[bindL_out fun w hw=>h w (Lm _ hw)]
    split
    · have:x≠n:=by rintro rfl;exact h v Ls
      simp[this]
    · rfl
theorem bindC_out{kindOf:Str->Ot NameKind}{x:Str}:∀ {binds:Li (Str×vL)}{m:Str->Ot vL},(∀ v,(x,v)∉binds)->bindC kindOf binds m x=m x
  |[],_,_=>rfl
  | (n,v) :: r,m,h=>by
    unfold bindC;rw[bindC_out fun w hw=>h w (Lm _ hw)]
    split
    · rfl
    · have:x≠n:=by rintro rfl;exact h v Ls
      simp[this]
theorem bindL_get{kindOf:Str->Ot NameKind}{x:Str}{v:vL}:∀ {P:Li Str}{vs:Li vL}{i:Nat}{m:Str->Ot vL},P.Nodup->P[i]?=some x->vs[i]?=some v->kindOf x=some .local->
    bindL kindOf (P.zip vs) m x=some v
  |[],_,_,_,_,h,_,_=>by simp at h
  |_ :: _,[],_,_,_,_,h,_=>by simp at h
  |p :: P,w :: vs,0,m,nd,h1,h2,hk=>by
    simp at h1 h2;subst h1;subst h2;show bindL kindOf ((p,w) :: P.zip vs) m p=_;unfold bindL;rw[bindL_out fun v hv=>(List.nodup_cons.mp nd).1 (List.of_mem_zip hv).1,if_pos hk]
    simp
  |p :: P,w :: vs,i+1,m,nd,h1,h2,hk=>by
    show bindL kindOf ((p,w) :: P.zip vs) m x=_;unfold bindL;exact bindL_get (i:=i) (List.nodup_cons.mp nd).2 (by simpa using h1) (by simpa using h2) hk
theorem bindC_get{kindOf:Str->Ot NameKind}{x:Str}{v:vL}:∀ {P:Li Str}{vs:Li vL}{i:Nat}{m:Str->Ot vL},P.Nodup->P[i]?=some x->vs[i]?=some v->kindOf x≠some .local->
    bindC kindOf (P.zip vs) m x=some v
  |[],_,_,_,_,h,_,_=>by simp at h
  |_ :: _,[],_,_,_,_,h,_=>by simp at h
  |p :: P,w :: vs,0,m,nd,h1,h2,hk=>by
    simp at h1 h2;subst h1;subst h2;show bindC kindOf ((p,w) :: P.zip vs) m p=_;unfold bindC;rw[bindC_out fun v hv=>(List.nodup_cons.mp nd).1 (List.of_mem_zip hv).1,if_neg hk]
    simp
  |p :: P,w :: vs,i+1,m,nd,h1,h2,hk=>by
    show bindC kindOf ((p,w) :: P.zip vs) m x=_;unfold bindC;exact bindC_get (i:=i) (List.nodup_cons.mp nd).2 (by simpa using h1) (by simpa using h2) hk

noncomputable def start(N:Li Str)(vs:Li V):St:=vs.map some++List.replicate (N.length - vs.length) none

noncomputable def cxOf(CX:CXT)(P:Program)(w:World)(K:Fg)(mg:Str->Ot vL)(base:Heap)(N:Li Str)(qual:Str)(scope:Scope)(f:Ad)(cd:vL)(A:Around)(outer:Li Env)(s:Sd)(H:Hp)(E:XK):Cx where
  prog:=P
  w:=w
  K:=K
  mg:=mg
  base:=base
  A:=A.deeper (envOfC qual scope s.heap.objs.size f cd)
  N:=N
  s₀:=s
  H₀:=H
  env:=envOfC qual scope s.heap.objs.size f cd
  outer:=outer
  stack:=envOfC qual scope s.heap.objs.size f cd :: outer
  ex:=[]
  calm:=true
  fn:=fun _=>true
  pn:=[]
  xe:=fun e s'=>wpAny (model P w) (A.deeper (envOfC qual scope s.heap.objs.size f cd)) (leaving (envOfC qual scope s.heap.objs.size f cd) e) (fun _ s''=>CX outer H s E e s'') (fun e' s''=>CX outer H s E e' s'') s'

theorem cell_has{sc:Scope}{n:Nat}{x:Str}(h:sc.names.lookup x=some .cell):∃ c,(cellsFrom n sc.names []).lookup x=some c:=by
  have q:=PySem.W.cellsFrom_some sc.names n [] (.inl h);exact Option.isSome_iff_exists.mp q

theorem inv_start{CX:CXT}{P:Program}{w:World}{K:Fg}{mg:Str->Ot vL}{base:Heap}{N ps:Li Str}{qual:Str}{scope:Scope}{f:Ad}{cd:vL}{A:Around}{outer:Li Env}{s s1:Sd}{H:Hp}{E:XK}{us:Li vL}{vs:Li V}(S:FnScope N ps scope)(hd:A.handled=none)(e0:Env0 P w K mg base A outer s H)(hl:vs.length=ps.length)(r:Vals vs us)(x:InCallC s s.heap.objs.size (bindL (envOfC qual scope s.heap.objs.size f cd).kindOf (ps.zip us) fun _=>none) (cellsFrom (s.heap.objs.size+1) scope.names []) (bindC (envOfC qual scope s.heap.objs.size f cd).kindOf (ps.zip us) fun _=>none) s1) :
    Inv (cxOf CX P w K mg base N qual scope f cd A outer s H E) [] (start N vs) H s1:=by
  have hpl:ps.length<=N.length:=by have:=congrArg List.length S.pre;rw[List.length_take]at this;omega
  obtain⟨h1,tk,rfl,hk⟩:=x.done;have noA:∀ b:Ad,b∉(cxOf CX P w K mg base N qual scope f cd A outer s H E).ex:=fun b z=>absurd (show b∈([]:Li Ad) from z) (by simp)
  refine⟨⟨e0.mod,S.kind,rfl,rfl,Nat.le_refl _,fun y z c h1 h2=>?_,fun y hy=>?_,fun y c _ h=>?_,fun _=>hd,Around.frames_deeper e0.frames,.inr ⟨rfl,rfl⟩,fun b z=>absurd z (noA b),e0.bs,e0.bsz,fun b _ _=>noA b,fun b z=>absurd z (noA b),e0.funs,e0.frf⟩,
    rfl,e0.bare,Un.kept hk,⟨_,x.toInCall.ns,fun i y v h1 h2 h3=>?_⟩,fun y c h=>⟨_,x.cell y c h⟩,e0.hok.fresh (Nat.le_refl _),fun y c h=>?_,fun p hp=>absurd (show p∈([]:Li (Ad×Obj)) from hp) (by simp),e0.hok.kept hk,?_⟩
  · exact name_of_addr x.apart (PySem.mem_of_lookup h1) (PySem.mem_of_lookup h2)
  · have hy:scope.names.lookup y=some .cell\/scope.names.lookup y=some .free:=hy
    rcases hy with hy|hy
    · exact cell_has hy
    · exact absurd rfl (S.nofree _ (PySem.mem_of_lookup hy))
  · exact Nat.le_of_lt (x.above y c (PySem.mem_of_lookup h))
  · have hi:i < vs.length:=by
      unfold start at h2;by_cases hi:i < vs.length
      · exact hi
      · rw[List.getElem?_append_right (by simpa using hi)]at h2
        rw[List.getElem?_replicate]at h2;split at h2<;>cases h2
    have ha:vs[i]?=some v:=by
      unfold start at h2;rw[List.getElem?_append_left (by simpa using hi),List.getElem?_map]at h2
      cases e:vs[i]? with
      |none=>rw[e]at h2;cases h2
      |some a=>rw[e]at h2;cases h2;rfl
    obtain⟨u,hu,rv⟩:=r.get ha;have hp:ps[i]?=some y:=by
      rw[<-S.pre,List.getElem?_take_of_lt (by omega)];exact h1
    have ndP:ps.Nodup:=by rw[<-S.pre];exact S.nd.sublist (List.take_sublist _ _)
    refine⟨u,rv,?_⟩;rcases S.par y (List.mem_of_getElem? hp) with k|k
    · exact .inl ⟨k,bindL_get ndP hp hu k⟩
    · obtain⟨c,e⟩:=cell_has (n:=s.heap.objs.size+1) k
      refine .inr ⟨.inl k,c,e,?_⟩;have q:=x.cell y c e;rw[bindC_get ndP hp hu (by show scope.names.lookup y≠_;rw[k];decide)]at q
      exact q
  · exact e0.hok.fresh (Nat.le_of_lt (x.above y c (PySem.mem_of_lookup h)))
  · unfold start
    show _=N.length;rw[List.length_append,List.length_map,List.length_replicate];omega

theorem fn_of{CX:CXT}{P:Program}{w:World}{K:Fg}{mg:Str->Ot vL}{base:Heap}{k:Nat}{f:Ad}{name qual:Str}{params:Arguments}{body:Li Stmt}{scope:Scope}{dV kV doc pm cdv ct oc:vL}{an od:Ot Ad}{osl:Array (Ot vL)}{N ps:Li Str}{sp:Sp}(lk:K.lookup f=some ⟨oc,od,.func (PySem.W.fnOf name qual params body scope dV kV doc pm an cdv ct),osl⟩)(hcd:PySem.W.codeIn K cdv qual=true)(S:FnScope N ps scope)(len:∀ vs H Q E,sp vs H Q E->vs.length=ps.length)(hbody:∀ (A:Around) (outer:Li Env) (s:Sd) (H:Hp) (vs:Li V) (Q:VK) (E:XK),Room k (A.deeper (envOfC qual scope s.heap.objs.size f cdv))->sp vs H Q E->
      ∃ t,PSs (cxOf CX P w K mg base N qual scope f cdv A outer s H E) body t/\t { nx:=fun _ H'=>Q .non H',rt:=Q } (start N vs) H) :
    FnOk P w K mg base CX (k+1) f (PySem.W.fnOf name qual params body scope dV kV doc pm an cdv ct) ps sp:=by
  refine⟨len,fun A outer s H args us vs Q E hr e0 hb r hsp=>?_⟩
  have hl:=len _ _ _ _ hsp;have KX:K.In s.heap:=e0.mod.kin.keeps fun b o e=>(e0.bs b o e).1
  have lim:s.heap.NoLimit:=e0.mod.nolimit.keeps fun b o e=>(e0.bs b o e).1
  have hkind:∀ y∈ps.zip us,scope.names.lookup y.1=some .local\/(scope.names.lookup y.1=some .cell/\((cellsFrom (s.heap.objs.size+1) scope.names []).lookup y.1).isSome=true):=fun⟨n,v⟩ hy=>by
    rcases S.par n (List.of_mem_zip hy).1 with q|q
    · exact .inl q
    · exact .inr ⟨q,PySem.W.cellsFrom_some _ _ _ (.inl q)⟩
  refine codeAny_call_function hr.depth (KX _ _ lk) rfl S.co S.gen rfl (PySem.W.codeRec_of KX hcd) (hb _ _ _ _ ?_);refine wpAny_newFunctionEnv_cells S.kind hkind fun env he s1 x=>?_
  subst he;refine⟨lim.keeps x.toInCall.keep,codeAny_func ?_⟩;obtain⟨t,ht,hq⟩:=hbody A outer s H vs Q E (hr.deeper _) hsp;have I:Inv (cxOf CX P w K mg base N qual scope f cdv A outer s H E) [] (start N vs) H s1:=inv_start S hr.hd e0 hl r x;refine wpAny_mono (ht [] s1 (start N vs) H _ I hq) (fun fl s' hs=>?_) fun e s' hs=>hs
  have fin:∀ {σ':St}{H':Hp}{v:V}{u:vL},Inv (cxOf CX P w K mg base N qual scope f cdv A outer s H E) [] σ' H' s'->RelV v u->Q v H'->CE outer P w H s Q u s':=
    fun {σ' H' v u} J rv q=>⟨v,H',J.os,J.bare,J.base,J.hok,rv,q⟩
  cases fl with
  |ret u=>
    obtain⟨v,σ',H',J,rv,q⟩:=hs;exact fin J rv q
  |next=>
    obtain⟨σ',H',J,q⟩:=hs;exact fin (v:=V.non) (u:=Value.none) J rfl q
  |brk=>
    obtain⟨_,_,_,q⟩:=hs;exact False.elim q
  |cont=>
    obtain⟨_,_,_,q⟩:=hs;exact False.elim q
end L2

namespace L2
open PySem PySem.Spec PyProof.Rows
section
variable {X:Cx}{x:Str}{p pos:Pos}{e:Expr}{es:Li Expr}{t:TA}{id T:String}{r:Li V->Hp->VK->Prop}

noncomputable def tCB(r:Li V->Hp->VK->Prop)(t:TA):TE:=fun σ H Q=>t σ H fun vs H1=>r vs H1 Q
theorem pe_callB(hc:CallR X (.builtin id) r)(hg:Gl X x)(hm:X.mg x=none)(hv:bootBuiltins x=some (.builtin id))(ha:PA X (e :: es) t)(hn:x ≠ "__name__":=by decide)(hdb:(x==("__debug__":Str))=false:=by decide)(he:starEach (e :: es) X.env=(false,eval e X.env) :: starEach es X.env:=by rfl)(hpl:(backTo pos (starEach es X.env)).any (·.1)=false:=by rfl):PE X (.Call (.Name x p) (e :: es) [] pos) (tCB r t):=by
  intro pQ s σ H Q I h;refine wpAny_Call_Name_kw (ld_blt I hg hm hv ?_ hn hdb);exact PyProof.Rows.callWith_builtin1 (thn (ha pos pQ s σ H _ I h) fun us s1 ⟨vs,H1,I1,r1,q1⟩=>hc pQ s1 σ H1 vs us Q I1 r1 q1) he hpl
theorem pe_callTy(hc:CallR X (.type T) r)(hg:Gl X x)(hm:X.mg x=none)(hv:bootBuiltins x=some (.type T))(ha:PA X (e :: es) t)(hn:x ≠ "__name__":=by decide)(hdb:(x==("__debug__":Str))=false:=by decide)(he:starEach (e :: es) X.env=(false,eval e X.env) :: starEach es X.env:=by rfl)(hpl:(backTo pos (starEach es X.env)).any (·.1)=false:=by rfl):PE X (.Call (.Name x p) (e :: es) [] pos) (tCB r t):=by
  intro pQ s σ H Q I h;refine wpAny_Call_Name_kw (ld_blt I hg hm hv ?_ hn hdb);exact PyProof.Rows.callWith_type1 (thn (ha pos pQ s σ H _ I h) fun us s1 ⟨vs,H1,I1,r1,q1⟩=>hc pQ s1 σ H1 vs us Q I1 r1 q1) he hpl
end
end L2

namespace HT
open PySem PyProof.Rows



section
open PySem.SeqAt
open PySem.AutoSeq1 (wpAny_loadPart')
open PySem.MeetsSeq PySem.MeetsSeq2 PySem.MeetsSeq3

end

section
variable {prog:Program}{w:World}{A:Around}{E:vL->Sd->Prop}{s:Sd}


theorem cat_tup{t b:Ad}{vs ws:Li vL}{Q:vL->Sd->Prop}(ht:IsTup s.heap t vs.toArray)(hb:IsTup s.heap b ws.toArray)(hv:vs≠[])(h1:ws=[]->Q (.ref t) s)(h2:ws≠[]->Q (.ref s.heap.objs.size) { s with heap:=s.heap.push { cls:=.type "tuple",data:=.seq (vs++ws).toArray } })(hsz:vs.length+ws.length<=sizeLine):wpAny (model prog w) A (binaryOp .Add (.ref t) (.ref b)) Q E s:=by
  obtain⟨⟨cls,dd,data,sl⟩,ho,hc,n,hd⟩:=id ht;obtain⟨⟨cls2,dd2,data2,sl2⟩,ho2,hc2,n2,hd2⟩:=id hb;simp only at hc hd hc2 hd2;subst hc hd hc2 hd2;have e:vs.toArray++ws.toArray=(vs++ws).toArray:=by simp
  by_cases hw:ws=[]
  · exact concat_meets ⟨_,ho,rfl⟩ ⟨_,ho2,rfl⟩ noFill_tuple_add seq_tuple_add PySem.F.slot_tuple_add PySem.F.entry_tuple_add (PySem.F.args_tuple_add_2 _ _)
      (tuple_addW1 t b vs.toArray ws.toArray n n2 dd dd2 sl sl2 (by simpa using hv) (by simp[hw])) ⟨ho,ho2,h1 hw⟩
  · refine concat_meets ⟨_,ho,rfl⟩ ⟨_,ho2,rfl⟩ noFill_tuple_add seq_tuple_add PySem.F.slot_tuple_add PySem.F.entry_tuple_add (PySem.F.args_tuple_add_2 _ _)
      (tuple_addW2 t b vs.toArray ws.toArray n n2 dd dd2 sl sl2 (by simpa using hv) (by simpa using hw) (by rw[List.size_toArray,List.size_toArray];exact hsz)) ⟨ho,ho2,?_⟩
    rw[e];exact h2 hw

noncomputable def sIx(n d:Nat):Ot Int->Nat
  |none=>d
  |some v=>if v < 0 then (v+(n:Int)).toNat else min v.toNat n
theorem sIx_le(n d:Nat)(hd:d<=n)(o:Ot Int):sIx n d o<=n:=by
  cases o with
  |none=>exact hd
  |some v=>
    show(if v < 0 then (v+(n:Int)).toNat else min v.toNat n)<=n
    by_cases hv:v < 0
    · rw[if_pos hv];omega
    · rw[if_neg hv];exact Nat.min_le_right _ _
theorem clip_eq(v:Int)(n d:Nat):(if v < 0 then max (v+(n:Int)) 0 else min v (n:Int))=((sIx n d (some v):Nat):Int):=by
  show(if v < 0 then max (v+(n:Int)) 0 else min v (n:Int))=(((if v < 0 then (v+(n:Int)).toNat else min v.toNat n):Nat):Int)
  by_cases hv:v < 0
  · simp only[if_pos hv];omega
  · simp only[if_neg hv];omega
theorem adjust_gen(lo hi:Ot Int)(n:Nat):Builtin.Slice.sliceAdjust lo hi 1 (n:Int)=(((sIx n 0 lo:Nat):Int),((sIx n n hi:Nat):Int)):=by
  have h1:¬((1:Int) < 0):=by omega
  unfold Builtin.Slice.sliceAdjust;simp only[h1,if_false];refine Prod.ext ?_ ?_
  · cases lo with
    |none=>rfl
    |some v=>exact clip_eq v n 0
  · cases hi with
    |none=>rfl
    |some v=>exact clip_eq v n n
theorem places_gen(i j:Nat):Builtin.Slice.slicePlaces (i:Int) (j:Int) 1=j - i:=by
  unfold Builtin.Slice.slicePlaces;have h1:(1:Int) > 0:=by omega
  simp only[h1,if_true,Int.ediv_one];split<;>omega
theorem slicePart_{v:vL}{o:Ot Int}{Q:Ot Int->Sd->Prop}(p:IsPart v o)(h:Q o s):wpAny (model prog w) A (Builtin.Slice.slicePartIndex v) Q E s:=by
  cases p with
  |none=>exact slicePart_none h
  |int i t=>exact slicePart_int h
theorem sliceApplied_gen{sl:Ad}{vl vu:vL}{lo hi:Ot Int}{n:Nat}{Q:Int×Int×Nat->Sd->Prop}(hs:s.heap.IsSliceOf sl vl vu .none)(pl:IsPart vl lo)(pu:IsPart vu hi)(h:Q (((sIx n 0 lo:Nat):Int),1,sIx n n hi - sIx n 0 lo) s):wpAny (model prog w) A (Builtin.Slice.sliceApplied (.ref sl) (pure (n:Int))) Q E s:=by
  obtain⟨os,hos,hcs,hds⟩:=id hs;unfold Builtin.Slice.sliceApplied Builtin.Slice.sliceFields;refine wpAny_bind (wpAny_bind (wpAny_field hos hds (x:=vl) rfl (wpAny_bind (wpAny_field hos hds (x:=vu) rfl (wpAny_bind (wpAny_field hos hds (x:=.none) rfl (wpAny_pure ?_)))))));refine wpAny_bind (slicePart_none ?_);show wpAny _ _ (if ((1:Int)==0)=true then _ else _) _ _ s
  rw[if_neg (by decide)]
  refine wpAny_bind (slicePart_ pl (wpAny_bind (slicePart_ pu (wpAny_bind (wpAny_pure ?_)))));show wpAny _ _ (match Builtin.Slice.sliceAdjust lo hi 1 (n:Int) with | (lo,hi)=>pure (lo,(1:Int),Builtin.Slice.slicePlaces lo hi 1)) _ _ s
  rw[adjust_gen lo hi n];show wpAny _ _ (pure (((sIx n 0 lo:Nat):Int),(1:Int),Builtin.Slice.slicePlaces ((sIx n 0 lo:Nat):Int) ((sIx n n hi:Nat):Int) 1)) _ _ s;rw[places_gen];exact wpAny_pure h
theorem pick_gen(xs:Array vL)(i k:Nat):((List.range k).filterMap fun(m:Nat)=>xs[((i:Int)+(m:Int) * 1).toNat]?).toArray=((xs.toList.drop i).take k).toArray:=by
  have e:(fun(m:Nat)=>xs[((i:Int)+(m:Int) * 1).toNat]?)=fun m=>xs[i+m]?:=by
    funext m
    have:((i:Int)+(m:Int) * 1).toNat=i+m:=by omega
    rw[this]
  rw[e];have:=pick_run xs i k;rw[List.filterMap_map]at this;have e2:((fun x=>xs[x]?) ∘ fun x=>i+x)=fun m=>xs[i+m]?:=rfl
  rw[e2]at this;rw[this]

theorem getItem_tuple_cut{t sl:Ad}{items:Array vL}{vl vu:vL}{lo hi:Ot Int}{Q:vL->Sd->Prop}(ht:IsTup s.heap t items)(hs:s.heap.IsSliceOf sl vl vu .none)(pl:IsPart vl lo)(pu:IsPart vu hi)(hw:¬(sIx items.size 0 lo=0/\sIx items.size items.size hi=items.size))(h:Q (.ref s.heap.objs.size) { s with heap:=s.heap.push { cls:=.type "tuple",data:=.seq ((items.toList.drop (sIx items.size 0 lo)).take (sIx items.size items.size hi - sIx items.size 0 lo)).toArray } })(hsz:items.size<=sizeLine):wpAny (model prog w) A (getItem (.ref t) (.ref sl)) Q E s:=by
  have htake:sizeOk (.seq ((items.toList.drop (sIx items.size 0 lo)).take (sIx items.size items.size hi - sIx items.size 0 lo)).toArray):=by
    show((items.toList.drop (sIx items.size 0 lo)).take (sIx items.size items.size hi - sIx items.size 0 lo)).toArray.size<=sizeLine;rw[List.size_toArray,List.length_take,List.length_drop,Array.length_toList];omega
  have hj:sIx items.size items.size hi<=items.size:=sIx_le _ _ (Nat.le_refl _) hi;obtain⟨os,hos,hcs,hds⟩:=id hs;have hTs:s.TypeIs (.ref sl) "slice":=⟨os,hos,hcs⟩;unfold getItem
  try with_reducible refine wpAny_holding ?_
  first|refine wpAny_bind (wpAny_pure ?_)|skip
  refine wpAny_bind (wpAny_sequenceKey ht.typeIs (by decide) ?_)
  refine wpAny_bind (wpAny_callSpecial?_slot (name:=Str.ofString "__getitem__") ht.typeIs PyProof.Rows.slot_tuple_getitem
    (wpAny_call_entry PyProof.Rows.slot_tuple_getitem ht.typeIs entry_tuple_getitem ?_ (args_tuple_getitem _ _)))
  show wpAny _ _ (Builtin.Tuple.tupleItemsOf (.ref t) >>= _) _ _ s;refine wpAny_bind (tupleItemsOf_ ht ?_);refine wpAny_bind (wpAny_typeOf hTs ?_);rw[if_pos (by decide)]
  refine wpAny_bind (sliceApplied_gen hs pl pu ?_);have hno:¬((((sIx items.size 0 lo:Nat):Int)==0&&(1:Int)==1&&(sIx items.size items.size hi - sIx items.size 0 lo)==items.size)=true):=by
    intro q;rw[Ba,Ba]at q;have q1:((sIx items.size 0 lo:Nat):Int)=0:=eq_of_beq q.1.1;have q2:sIx items.size items.size hi - sIx items.size 0 lo=items.size:=eq_of_beq q.2;exact hw ⟨by omega,by omega⟩
  show wpAny _ _ (if (((sIx items.size 0 lo:Nat):Int)==0&&(1:Int)==1&&(sIx items.size items.size hi - sIx items.size 0 lo)==items.size)=true then _ else _) _ _ s
  rw[if_neg hno,pick_gen]
  first
    |exact wpAny_bind (m:=Builtin.Tuple.tupleExact _) (wpAny_newObj_type (wpAny_pure ⟨_,rfl,wpAny_pure h⟩) htake)
    |exact wpAny_bind (m:=Builtin.Tuple.tupleExact _) (wpAny_newObj_type (wpAny_bind (wpAny_pure (wpAny_pure ⟨_,rfl,wpAny_pure h⟩))) htake)
    |exact wpAny_bind (wpAny_bind (m:=Builtin.Tuple.tupleExact _) (wpAny_newObj_type (wpAny_pure (wpAny_pure ⟨_,rfl,wpAny_pure h⟩)) htake))
    |exact wpAny_bind (wpAny_bind (m:=Builtin.Tuple.tupleExact _) (wpAny_newObj_type (wpAny_pure ⟨_,rfl,wpAny_pure h⟩) htake))
end
end HT

namespace L2
open PySem PySem.Spec PyProof.Rows

abbrev TO:=St->Hp->(Ot Int->Hp->Prop)->Prop
def PO(X:Cx)(e:Ot Expr)(t:TO):Prop:=
  ∀ (pQ:Li (Ad×Obj)) (s:Sd) (σ:St) (H:Hp) (Q:Ot Int->Hp->Prop),Inv X pQ σ H s->t σ H Q->
    wpAny (model X.prog X.w) X.A (evalPart e X.env) (fun u s'=>∃ o H',Inv X pQ σ H' s'/\IsPart u o/\Q o H') X.xe s
noncomputable def tNoPart:TO:=fun _ H Q=>Q none H
noncomputable def tPart(t:TE):TO:=fun σ H Q=>t σ H fun x H1=>∃ i,x=.int i/\Q (some i) H1


section
variable {X:Cx}{e:Expr}{te:TE}{lo hi:Ot Expr}{tl th:TO}{pos p2:Pos}

theorem po_none:PO X none tNoPart:=by
  intro pQ s σ H Q I h;rw[evalPart_none];exact wpAny_pure ⟨none,H,I,.none,h⟩
theorem po_some(h:PE X e te):PO X (some e) (tPart te):=by
  intro pQ s σ H Q I hw;rw[evalPart_some];refine thn (h pQ s σ H _ I hw) fun u s1 ⟨x,H1,I1,r1,q1⟩=>?_
  obtain⟨i,rfl,q⟩:=q1;obtain⟨t,rfl⟩:=r1;exact⟨some i,H1,I1,.int i t,q⟩

def SlR(X:Cx)(r:V->Ot Int->Ot Int->Hp->VK->Prop):Prop:=
  ∀ (pQ:Li (Ad×Obj)) (s:Sd) (σ:St) (H:Hp) (x:V) (v vl vu:vL) (lo hi:Ot Int) (sl:Ad) (Q:VK),Inv X pQ σ H s->RelV x v->s.heap.IsSliceOf sl vl vu .none->IsPart vl lo->IsPart vu hi->r x lo hi H Q->
    ∃ T id,typeLookup (.type T) "__getitem__"=pure (some (.builtin id))/\s.TypeIs v T/\wpAny (model X.prog X.w) X.A (getItem v (.ref sl)) (EP X pQ σ Q) X.xe s
noncomputable def tSl(r:V->Ot Int->Ot Int->Hp->VK->Prop)(te:TE)(tl th:TO):TE:=fun σ H Q=>te σ H fun x H1=>tl σ H1 fun l H2=>th σ H2 fun u H3=>r x l u H3 Q
theorem pe_slice{r:V->Ot Int->Ot Int->Hp->VK->Prop}(hr:SlR X r)(he:PE X e te)(hl:PO X lo tl)(hu:PO X hi th):PE X (.Subscript e (.Slice lo hi none p2) pos) (tSl r te tl th):=by
  intro pQ s σ H Q I h;refine Subscript_ (thn (he pQ s σ H _ I h) fun v s1 ⟨x,H1,I1,r1,q1⟩=>?_)
  refine wpAny_Slice (thn (hl pQ s1 σ H1 _ I1 q1) fun vl s2 ⟨l,H2,I2,pl,q2⟩=>thn (hu pQ s2 σ H2 _ I2 q2) fun vu s3 ⟨u,H3,I3,pu,q3⟩=>?_)
  rw[evalPart_none];refine wpAny_pure ?_;have I4:Inv X pQ σ H3 { s3 with heap:=s3.heap.push { cls:=.type "slice",data:=.fields #[vl,vu,.none] } }:=I3.kept (t':=s3.toks) fun b ob q=>Heap.get?_push_of_some _ q
  obtain⟨T,id,hT,ht,hg⟩:=hr pQ { s3 with heap:=s3.heap.push { cls:=.type "slice",data:=.fields #[vl,vu,.none] } } σ H3 x v vl vu l u s3.heap.objs.size Q I4 r1 (Heap.IsSliceOf.new ..) pl pu q3
  show wpAny (model X.prog X.w) X.A (subscriptTail e (.Slice lo hi none p2) v (.ref s3.heap.objs.size)) (EP X pQ σ Q) X.xe { s3 with heap:=s3.heap.push { cls:=.type "slice",data:=.fields #[vl,vu,.none] } }
  exact tail_any (ops:=[.ref s3.heap.objs.size,v]) ht hT hg (by with_unfolding_all rfl)

noncomputable def cutV(xs:Li V)(lo hi:Ot Int):Li V:=(xs.drop (HT.sIx xs.length 0 lo)).take (HT.sIx xs.length xs.length hi - HT.sIx xs.length 0 lo)
theorem cutV_length(xs:Li V)(lo hi:Ot Int):(cutV xs lo hi).length<=xs.length:=by
  unfold cutV;rw[List.length_take,List.length_drop];omega
def rSlT(K:Fg):V->Ot Int->Ot Int->Hp->VK->Prop:=fun x lo hi H Q=>∃ a xs,x=.ref a/\SqT K H a xs /\
  ¬(HT.sIx xs.length 0 lo=0/\HT.sIx xs.length xs.length hi=xs.length)/\∀ p,H p=none->Q (.ref p) (upd H p (.tup (cutV xs lo hi)))
theorem sl_tup:SlR X (rSlT X.K):=by
  intro pQ s σ H x v vl vu lo hi sl Q I rx hs pl pu h;obtain⟨a,xs,rfl,hx,hw,q⟩:=h;cases rx;obtain⟨its,r,ht,hz⟩:=I.tuple hx;have hlen:its.toArray.size=xs.length:=by rw[List.size_toArray];exact r.length.symm
  refine⟨"tuple",_,PyProof.Rows.slot_tuple_getitem.lookup,ht.typeIs,?_⟩;refine HT.getItem_tuple_cut ht hs pl pu (by rw[hlen];exact hw) ?_ (by rw[hlen];exact hz)
  rw[hlen];refine⟨.ref s.heap.objs.size,_,I.laid (t':=s.toks) (o:=.tup (cutV xs lo hi)) (fun b ob q=>Heap.get?_push_of_some _ q) (Nat.le_refl _) ?_,rfl,q _ (I.hok.fresh (Nat.le_refl _))⟩
  exact⟨Nat.le_trans (cutV_length xs lo hi) hz,_,(r.drop (HT.sIx xs.length 0 lo)).take (HT.sIx xs.length xs.length hi - HT.sIx xs.length 0 lo),IsTup.new _ _⟩

noncomputable def rCatT(K:Fg):R2:=fun x y H Q=>∃ a b xs ys,x=.ref a/\y=.ref b/\SqT K H a xs/\SqT K H b ys/\xs≠[]/\xs.length+ys.length<=sizeLine /\
  (ys=[]->Q (.ref a) H)/\(ys≠[]->∀ p,H p=none->Q (.ref p) (upd H p (.tup (xs++ys))))
theorem Vals.nil_iff{xs:Li V}{us:Li vL}(r:Vals xs us):us=[]↔xs=[]:=by
  cases r with
  |nil=>simp
  |cons _ _=>simp
theorem op_catT:OpR X (binaryOp .Add) (rCatT X.K):=by
  intro pQ s σ H x y v u Q I rx ry h;obtain⟨a,b,xs,ys,rfl,rfl,ha,hb,hx,hz,q1,q2⟩:=h;cases rx;cases ry;obtain⟨its,r1,p1,_⟩:=I.tuple ha;obtain⟨its2,r2,p2,_⟩:=I.tuple hb;refine HT.cat_tup p1 p2 (fun z=>hx (r1.nil_iff.mp z)) (fun z=>⟨.ref a,H,I,rfl,q1 (r2.nil_iff.mp z)⟩) (fun z=>?_) (by rw[<-r1.length,<-r2.length];exact hz)
  refine⟨.ref s.heap.objs.size,_,I.laid (t':=s.toks) (o:=.tup (xs++ys)) (fun b ob q=>Heap.get?_push_of_some _ q) (Nat.le_refl _) ?_,rfl,q2 (fun w=>z (r2.nil_iff.mpr w)) _ (I.hok.fresh (Nat.le_refl _))⟩
  exact⟨by rw[List.length_append];exact hz,_,r1.append r2,IsTup.new _ _⟩
end
end L2

namespace L2
open PySem PySem.Spec PyProof.Rows

noncomputable def ixN(n:Nat)(i:Int):Ot Nat:=if 0<=i then (if i < n then some i.toNat else none) else if -(n:Int)<=i then some (i+n).toNat else none
noncomputable def atI{α:Type}(xs:Li α)(i:Int):Ot α:=(ixN xs.length i).bind fun j=>xs[j]?
theorem ixN_seq{n:Nat}{i:Int}{j:Nat}(h:ixN n i=some j):seqIndex? i n=some j/\j < n/\-(n:Int)<=i/\i < n:=by
  unfold ixN at h;by_cases h0:0<=i
  · rw[if_pos h0]at h
    by_cases h1:i < n
    · rw[if_pos h1]at h
      have e:i.toNat=j:=Option.some.inj h;exact⟨by rw[seqIndex_of h0 h1,e],by omega,by omega,h1⟩
    · rw[if_neg h1]at h;cases h
  · rw[if_neg h0]at h
    by_cases h1:-(n:Int)<=i
    · rw[if_pos h1]at h
      have e:(i+n).toNat=j:=Option.some.inj h;exact⟨by rw[seqIndex_neg (by omega) h1,e],by omega,h1,by omega⟩
    · rw[if_neg h1]at h;cases h
theorem atI_get{α:Type}{xs:Li α}{i:Int}{v:α}(h:atI xs i=some v):∃ j,seqIndex? i xs.length=some j/\xs[j]?=some v/\j < xs.length/\-(xs.length:Int)<=i/\i < xs.length:=by
  unfold atI at h;cases e:ixN xs.length i with
  |none=>rw[e]at h;cases h
  |some j=>
    rw[e]at h;obtain⟨h1,h2,h3,h4⟩:=ixN_seq e;exact⟨j,h1,h,h2,h3,h4⟩

def PlainIx(b:Expr):Prop:=∀ o i,subscripted b false o i=operate [o,i] (getItem o i)
def IxR(X:Cx)(r:R2):Prop:=
  ∀ (value slice:Expr) (pQ:Li (Ad×Obj)) (s:Sd) (σ:St) (H:Hp) (x y:V) (v u:vL) (Q:VK),Inv X pQ σ H s->RelV x v->RelV y u->r x y H Q->
    subscripted slice false v u=operate [v,u] (getItem v u)->wpAny (model X.prog X.w) X.A (subscriptTail value slice v u) (EP X pQ σ Q) X.xe s
def MtR(X:Cx)(id:String)(r:V->Li V->Hp->VK->Prop):Prop:=
  ∀ (pQ:Li (Ad×Obj)) (s:Sd) (σ:St) (H:Hp) (x:V) (xs:Li V) (v:vL) (us:Li vL) (Q:VK),Inv X pQ σ H s->RelV x v->Vals xs us->r x xs H Q->
    wpAny (model X.prog X.w) X.A (call (.builtin id) (v :: us)) (EP X pQ σ Q) X.xe s
section
variable {X:Cx}{a b:Expr}{ta tb:TE}{pos:Pos}
theorem pe_ix{r:R2}(hr:IxR X r)(ha:PE X a ta)(hb:PE X b tb)(hs:PlainIx b):PE X (.Subscript a b pos) (tOp r ta tb):=by
  intro pQ s σ H Q I h;exact Subscript_ (binT ha hb I h fun v u s2 x y H2 I2 rx ry q=>hr a b pQ s2 σ H2 x y v u Q I2 rx ry q (hs _ _))

noncomputable def rIxL(K:Fg):R2:=fun x y H Q=>∃ p xs i v,x=.ref p/\y=.int i/\SqL K H p xs/\atI xs i=some v/\Q v H
noncomputable def rIxT(K:Fg):R2:=fun x y H Q=>∃ p xs i v,x=.ref p/\y=.int i/\SqT K H p xs/\atI xs i=some v/\Q v H
theorem ix_list:IxR X (rIxL X.K):=by
  intro value slice pQ s σ H x y v u Q I rx ry h hs;obtain⟨p,xs,i,z,rfl,rfl,hq,he,q⟩:=h;cases rx;obtain⟨t,rfl⟩:=ry;obtain⟨its,r,pl,hz⟩:=I.list hq;obtain⟨j,h1,h2,h3,h4,h5⟩:=atI_get he;obtain⟨w,ew,rw'⟩:=r.get h2;have hl:=r.length;have hn:=line63;have fin:EP X pQ σ Q w s:=⟨z,H,I,rw',q⟩;by_cases h0:0<=i
  · have hj:i.toNat=j:=by
      rw[seqIndex_of h0 h5]at h1;exact Option.some.inj h1
    exact item_listR pl.isList h0 (by omega) (by rw[hj];simpa using ew) fin hs
  · have hj:(i+(its.toArray.size:Int)).toNat=j:=by
      rw[seqIndex_neg (by omega) h4]at h1
      rw[List.size_toArray,<-hl];exact Option.some.inj h1
    exact subscriptTail_builtinR (x:=w) pl.isList.typeIs slot_list_getitem.lookup
      (wpAny_getItem_list_neg (Q:=fun r s'=>r=w/\EP X pQ σ Q r s') pl.isList (by omega) (by rw[List.size_toArray]<;>omega) (by omega) (by rw[hj];simpa using ew) ⟨rfl,fin⟩) hs
theorem ix_tup:IxR X (rIxT X.K):=by
  intro value slice pQ s σ H x y v u Q I rx ry h hs;obtain⟨p,xs,i,z,rfl,rfl,hq,he,q⟩:=h;cases rx;obtain⟨t,rfl⟩:=ry;obtain⟨its,r,pl,hz⟩:=I.tuple hq;obtain⟨j,h1,h2,h3,h4,h5⟩:=atI_get he;obtain⟨w,ew,rw'⟩:=r.get h2;have hl:=r.length;have hn:=line63;have fin:EP X pQ σ Q w s:=⟨z,H,I,rw',q⟩;exact subscriptTail_builtinR (x:=w) pl.typeIs slot_tuple_getitem.lookup
    (getItem_tuple (j:=j) (Q:=fun r s'=>r=w/\EP X pQ σ Q r s') pl (by omega) (by omega) (by rw[List.size_toArray,<-hl];exact h1) (by simpa using ew) ⟨rfl,fin⟩) hs

theorem mapSeq_set(its:Li vL)(n j:Nat)(u:vL):Obj.mapSeq (·.setIfInBounds j u) { cls:=.type "list",data:=.seq its.toArray n }={ cls:=.type "list",data:=.seq (its.set j u).toArray n }:=by
  simp[Obj.mapSeq]
theorem Inv.lst{pQ:Li (Ad×Obj)}{σ:St}{H:Hp}{s:Sd}{p:Ad}{xs:Li V}(I:Inv X pQ σ H s)(h:H p=some (.lst xs)) :
    ∃ (its:Li vL) (n:Nat),Vals xs its/\s.heap.get? p=some { cls:=.type "list",data:=.seq its.toArray n }/\xs.length<=sizeLine:=by
  obtain⟨z,its,n,r,e⟩:=I.hok p _ h;exact⟨its,n,r,e,z⟩
theorem Inv.lstUpd{pQ:Li (Ad×Obj)}{σ:St}{H:Hp}{s:Sd}{p:Ad}{xs ys:Li V}{its its':Li vL}{n n':Nat}{f:Obj->Obj}(I:Inv X pQ σ H s)(h:H p=some (.lst xs))(ho:s.heap.get? p=some { cls:=.type "list",data:=.seq its.toArray n })(hf:f { cls:=.type "list",data:=.seq its.toArray n }={ cls:=.type "list",data:=.seq its'.toArray n' })(r:Vals ys its')(hz:ys.length<=sizeLine)(t:Nat) :
    Inv X pQ σ (upd H p (.lst ys)) { s with heap:=s.heap.update p f,toks:=t }:=by
  have e:(s.heap.update p f).get? p=some { cls:=.type "list",data:=.seq its'.toArray n' }:=by
    rw[Heap.get?_update_self f ho (by rw[hf]<;>rfl),hf]
  refine I.write (x:=p) (e:=p) (by rw[h];trivial) (.inl rfl) (fun b u hb q=>(Heap.get?_update_other _ _ (Ne.symm hb)).trans q) ⟨_,e⟩ ?_
  exact⟨hz,its',n',r,e⟩
def rSetL:V->V->V->Hp->(Hp->Prop)->Prop:=fun o i v H Q=>∃ p xs k j,o=.ref p/\i=.int k/\H p=some (.lst xs)/\ixN xs.length k=some j/\Q (upd H p (.lst (xs.set j v)))
theorem set_list:PSet X rSetL:=by
  intro pQ s σ H o i v ov iv u Q I ro ri rv h;obtain⟨p,xs,k,j,rfl,rfl,hp,hj,q⟩:=h;cases ro;obtain⟨t,rfl⟩:=ri;obtain⟨its,n,r,ho,hz⟩:=I.lst hp;obtain⟨h1,h2,h3,h4⟩:=ixN_seq hj;have hl:=r.length;have hn:=line63;have I':Inv X pQ σ (upd H p (.lst (xs.set j v))) { s with heap:=s.heap.update p (Obj.mapSeq (·.setIfInBounds j u)) }:=
    I.lstUpd hp ho (mapSeq_set its n j u) (r.set rv j) (by rw[List.length_set];exact hz) s.toks
  by_cases h0:0<=k
  · have hk:k.toNat=j:=by
      rw[seqIndex_of h0 h4]at h1;exact Option.some.inj h1
    exact PySem.W.ki_setAt ho h0 (by omega) (by rw[List.size_toArray,<-hl];exact h4) (by rw[hk];exact⟨_,I',q⟩)
  · have hk:(k+(its.toArray.size:Int)).toNat=j:=by
      rw[seqIndex_neg (by omega) h3]at h1
      rw[List.size_toArray,<-hl];exact Option.some.inj h1
    exact PySem.W.ki_setBack ho (by omega) (by rw[List.size_toArray,<-hl];exact h3) (by omega) (by rw[hk];exact⟨_,I',q⟩)

theorem slice_bounds(lo hi:Ot Int)(n:Nat):(sliceBounds lo hi none n).1=((HT.sIx n 0 lo:Nat):Int)/\(sliceBounds lo hi none n).2.1=((HT.sIx n n hi:Nat):Int)/\(sliceBounds lo hi none n).2.2=1:=by
  refine⟨?_,?_,rfl⟩
  · cases lo with
    |none=>simp[sliceBounds,HT.sIx]
    |some i=>
      simp only[sliceBounds,HT.sIx,Option.getD_none,show(1:Int) > 0 by decide,if_true]
      by_cases h:i < 0
      · simp only[h,if_true]<;>omega
      · simp only[h,if_false]<;>omega
  · cases hi with
    |none=>simp[sliceBounds,HT.sIx]
    |some i=>
      simp only[sliceBounds,HT.sIx,Option.getD_none,show(1:Int) > 0 by decide,if_true]
      by_cases h:i < 0
      · simp only[h,if_true]<;>omega
      · simp only[h,if_false]<;>omega
theorem slicePick_cut(its:Li vL)(lo hi:Ot Int):slicePick its.toArray lo hi none=((its.drop (HT.sIx its.length 0 lo)).take (HT.sIx its.length its.length hi - HT.sIx its.length 0 lo)).toArray:=by
  obtain⟨h1,h2,h3⟩:=slice_bounds lo hi its.toArray.size;unfold slicePick;rw[h1,h2,h3];simp only[sliceRange_one,pick_run,List.size_toArray]<;>rfl
def rSlL(K:Fg):V->Ot Int->Ot Int->Hp->VK->Prop:=fun x lo hi H Q=>∃ a xs,x=.ref a/\SqL K H a xs/\∀ p,H p=none->Q (.ref p) (upd H p (.lst (cutV xs lo hi)))
theorem sl_list:SlR X (rSlL X.K):=by
  intro pQ s σ H x v vl vu lo hi sl Q I rx hs pl pu h;obtain⟨a,xs,rfl,hx,q⟩:=h;cases rx;obtain⟨its,r,ht,hz⟩:=I.list hx;have hlen:=r.length;refine⟨"list",_,slot_list_getitem.lookup,ht.isList.typeIs,?_⟩;refine wpAny_getItem_list_slice ht.isList hs pl pu .none (by simp) ?_ (by rw[List.size_toArray]<;>omega)
  rw[slicePick_cut,<-hlen];refine⟨.ref s.heap.objs.size,_,I.laid (t':=s.toks) (o:=.lst (cutV xs lo hi)) (fun b ob q=>Heap.get?_push_of_some _ q) (Nat.le_refl _) ?_,rfl,q _ (I.hok.fresh (Nat.le_refl _))⟩
  exact⟨Nat.le_trans (cutV_length xs lo hi) hz,_,0,(r.drop (HT.sIx xs.length 0 lo)).take (HT.sIx xs.length xs.length hi - HT.sIx xs.length 0 lo),Heap.get?_push_size _ rfl⟩

noncomputable def flatV:V->Bool
  |.non=>true
  |.bl _=>true
  |.int _=>true
  |.str _=>true
  |_=>false
noncomputable def eqV:V->V->Bool
  |.non,.non=>true
  |.bl a,.bl b=>a==b
  |.bl a,.int b=>(if a then 1 else 0)==b
  |.int a,.bl b=>a==(if b then 1 else 0)
  |.int a,.int b=>a==b
  |.str a,.str b=>a==b
  |_,_=>false
theorem eqAt_V{A:Around}{s:Sd}{y x:V}{u v:vL}(ry:RelV y u)(rx:RelV x v)(fy:flatV y=true)(fx:flatV x=true):SeqAt.EqAt A s u v (eqV y x):=by
  cases y with
  |non=>
    cases ry;cases x with
    |non=>cases rx;exact SeqAt.EqAt.same _
    |bl b=>cases rx;exact SeqAt.EqAt.none_bool b
    |int b=>obtain⟨t,rfl⟩:=rx;exact SeqAt.EqAt.none_int b t
    |str b=>obtain⟨t,rfl⟩:=rx;exact SeqAt.EqAt.none_str b t
    |_=>exact absurd (show false=true from fx) Bf
  |bl a=>
    cases ry;cases x with
    |non=>cases rx;exact SeqAt.EqAt.bool_none a
    |bl b=>cases rx;exact SeqAt.EqAt.bool_bool a b
    |int b=>obtain⟨t,rfl⟩:=rx;exact SeqAt.EqAt.bool_int a b t
    |str b=>obtain⟨t,rfl⟩:=rx;exact SeqAt.EqAt.bool_str a b t
    |_=>exact absurd (show false=true from fx) Bf
  |int a=>
    obtain⟨t',rfl⟩:=ry;cases x with
    |non=>cases rx;exact SeqAt.EqAt.int_none a t'
    |bl b=>cases rx;exact SeqAt.EqAt.int_bool a t' b
    |int b=>obtain⟨t,rfl⟩:=rx;exact SeqAt.EqAt.int_int a t' b t
    |str b=>obtain⟨t,rfl⟩:=rx;exact SeqAt.EqAt.int_str a t' b t
    |_=>exact absurd (show false=true from fx) Bf
  |str a=>
    obtain⟨t',rfl⟩:=ry;cases x with
    |non=>cases rx;exact SeqAt.EqAt.str_none a t'
    |bl b=>cases rx;exact SeqAt.EqAt.str_bool a t' b
    |int b=>obtain⟨t,rfl⟩:=rx;exact SeqAt.EqAt.str_int a t' b t
    |str b=>obtain⟨t,rfl⟩:=rx;exact SeqAt.EqAt.str_str a t' b t
    |_=>exact absurd (show false=true from fx) Bf
  |_=>exact absurd (show false=true from fy) Bf
noncomputable def eqU(x:V)(u:vL):Bool:=match u with
  |.none=>eqV .non x
  |.bool b=>eqV (.bl b) x
  |.int i _=>eqV (.int i) x
  |.str z _=>eqV (.str z) x
  |_=>false
theorem eqU_of{x y:V}{u:vL}(r:RelV y u)(f:flatV y=true):eqU x u=eqV y x:=by
  cases y with
  |non=>cases r;rfl
  |bl b=>cases r;rfl
  |int i=>obtain⟨t,rfl⟩:=r;rfl
  |str z=>obtain⟨t,rfl⟩:=r;rfl
  |_=>exact absurd (show false=true from f) Bf
theorem any_eqU{x:V}:∀ {xs:Li V}{us:Li vL},Vals xs us->xs.all flatV=true->us.any (eqU x)=xs.any fun y=>eqV y x
  |_,_,.nil,_=>rfl
  |y :: xs,u :: us,.cons r t,f=>by
    rw[List.all_cons,Ba]at f;rw[List.any_cons,List.any_cons,eqU_of r f.1,any_eqU t f.2]
theorem mem_eqAt{A:Around}{s:Sd}{x:V}{v:vL}(rx:RelV x v)(fx:flatV x=true):∀ {xs:Li V}{us:Li vL},Vals xs us->xs.all flatV=true->∀ u∈us,SeqAt.EqAt A s u v (eqU x u)
  |_,_,.nil,_=>fun u hu=>by cases hu
  |y :: xs,u :: us,.cons r t,f=>fun u' hu=>by
    rw[List.all_cons,Ba]at f;rcases List.mem_cons.mp hu with rfl|hu
    · rw[eqU_of r f.1];exact eqAt_V r rx f.1 fx
    · exact mem_eqAt rx fx t f.2 u' hu
noncomputable def inV(x:V)(xs:Li V):Bool:=xs.any fun y=>eqV y x
noncomputable def rIn(K:Fg)(neg:Bool):R2:=fun x y H Q=>∃ p xs,y=.ref p/\(SqL K H p xs\/SqT K H p xs)/\flatV x=true/\xs.all flatV=true/\Q (.bl (if neg then !inV x xs else inV x xs)) H
theorem op_in_seq:OpR X (compareOp .In) (rIn X.K false):=by
  intro pQ s σ H x y v u Q I rx ry h;obtain⟨p,xs,rfl,hq,fx,fs,q⟩:=h;cases ry;rcases hq with hq|hq
  · obtain⟨its,r,pl,hz⟩:=I.list hq
    refine SeqAt.in_listAt (eqU x) pl.isList (fun w hw=>mem_eqAt rx fx r fs w (by simpa using hw)) ⟨.bl _,H,I,rfl,?_⟩
    rw[show its.toArray.any (eqU x)=its.any (eqU x) by simp,any_eqU r fs]
    exact q
  · obtain⟨its,r,pl,hz⟩:=I.tuple hq
    refine SeqAt.in_tupleAt (eqU x) pl (fun w hw=>mem_eqAt rx fx r fs w (by simpa using hw)) ⟨.bl _,H,I,rfl,?_⟩
    rw[show its.toArray.any (eqU x)=its.any (eqU x) by simp,any_eqU r fs]
    exact q
theorem op_notIn_seq:OpR X (compareOp .NotIn) (rIn X.K true):=by
  intro pQ s σ H x y v u Q I rx ry h;obtain⟨p,xs,rfl,hq,fx,fs,q⟩:=h;cases ry;rcases hq with hq|hq
  · obtain⟨its,r,pl,hz⟩:=I.list hq
    refine SeqAt.notIn_listAt (eqU x) pl.isList (fun w hw=>mem_eqAt rx fx r fs w (by simpa using hw)) ⟨.bl _,H,I,rfl,?_⟩
    rw[show its.toArray.any (eqU x)=its.any (eqU x) by simp,any_eqU r fs]
    exact q
  · obtain⟨its,r,pl,hz⟩:=I.tuple hq
    refine SeqAt.notIn_tupleAt (eqU x) pl (fun w hw=>mem_eqAt rx fx r fs w (by simpa using hw)) ⟨.bl _,H,I,rfl,?_⟩
    rw[show its.toArray.any (eqU x)=its.any (eqU x) by simp,any_eqU r fs]
    exact q

theorem call_len_seq:CallR X (.builtin "len") (fun xs H Q=>∃ p ys,xs=[.ref p]/\(SqL X.K H p ys\/SqT X.K H p ys)/\Q (.int ys.length) H):=by
  intro pQ s σ H xs us Q I r h;obtain⟨p,ys,rfl,hq,q⟩:=h;obtain⟨u,rfl,rx⟩:=vals1 r;cases rx;have hn:=line63;rcases hq with hq|hq
  · obtain⟨its,r',pl,hz⟩:=I.list hq
    have hlen:=r'.length;exact Calls.call_len_list pl.isList (by simp only[List.size_toArray]<;>omega) ⟨.int ys.length,H,I.tok _,⟨s.toks+1,by rw[List.size_toArray,hlen]⟩,q⟩
  · obtain⟨its,r',pl,hz⟩:=I.tuple hq
    have hlen:=r'.length;exact len_tuple pl (by simp only[List.size_toArray]<;>omega) ⟨.int ys.length,H,I.tok _,⟨s.toks+1,by rw[List.size_toArray,hlen]⟩,q⟩
theorem call_list_of:CallR X (.type "list") (fun xs H Q=>∃ p ys,xs=[.ref p]/\(SqL X.K H p ys\/SqT X.K H p ys)/\∀ l,H l=none->Q (.ref l) (upd H l (.lst ys))):=by
  intro pQ s σ H xs us Q I r h;obtain⟨p,ys,rfl,hq,q⟩:=h;obtain⟨u,rfl,rx⟩:=vals1 r;cases rx;have fin:∀ (its:Li vL),Vals ys its->ys.length<=sizeLine->∀ (h':Heap) (c':Nat),(∀ b o',s.heap.get? b=some o'->h'.get? b=some o')->
      h'.get? s.heap.objs.size=some { cls:=.type "list",dict:=none,data:=.seq its.toArray c',slots:=#[] }->EP X pQ σ Q (.ref s.heap.objs.size) { s with heap:=h' }:=fun its r' hz h' c' kp e=>
    ⟨.ref s.heap.objs.size,_,I.laid (t':=s.toks) kp (Nat.le_refl _) (show ObjOk X.prog X.w _ h' _ (.lst ys) from⟨hz,its,c',r',e⟩),rfl,q _ (I.hok.fresh (Nat.le_refl _))⟩
  rcases hq with hq|hq
  · obtain⟨its,r',pl,hz⟩:=I.list hq
    have hlen:=r'.length;obtain⟨o,ho,hc,n,hd⟩:=pl.isList;exact call_list_seq p (.inl rfl) ho hc hd (fun h' c' kp e=>fin its r' hz h' c' kp e) (by simp only[List.size_toArray]<;>omega)
  · obtain⟨its,r',pl,hz⟩:=I.tuple hq
    have hlen:=r'.length;obtain⟨o,ho,hc,n,hd⟩:=pl;exact call_list_seq p (.inr rfl) ho hc hd (fun h' c' kp e=>fin its r' hz h' c' kp e) (by simp only[List.size_toArray]<;>omega)
theorem call_tuple_of:CallR X (.type "tuple") (fun xs H Q=>∃ p ys,xs=[.ref p]/\((SqL X.K H p ys/\∀ l,H l=none->Q (.ref l) (upd H l (.tup ys)))\/(SqT X.K H p ys/\Q (.ref p) H))):=by
  intro pQ s σ H xs us Q I r h;obtain⟨p,ys,rfl,h⟩:=h;obtain⟨u,rfl,rx⟩:=vals1 r;cases rx;rcases h with⟨hq,q⟩|⟨hq,q⟩
  · obtain⟨its,r',pl,hz⟩:=I.list hq
    have hlen:=r'.length;refine call_tuple_list pl.isList (fun h' kp=>?_) (by simp only[List.size_toArray]<;>omega)
    have I1:Inv X pQ σ H { s with heap:=h' }:=I.kept (t':=s.toks) kp
    have I2:Inv X pQ σ (upd H h'.objs.size (.tup ys)) { s with heap:=h'.push { cls:=.type "tuple",data:=.seq its.toArray } }:=
      I1.laid (t':=s.toks) (fun b o e=>Heap.get?_push_of_some _ e) (Nat.le_refl _) (show ObjOk X.prog X.w _ _ _ (.tup ys) from⟨hz,its,r',IsTup.new _ _⟩)
    exact⟨.ref h'.objs.size,_,I2,rfl,q _ (I1.hok.fresh (Nat.le_refl _))⟩
  · obtain⟨its,r',pl,hz⟩:=I.tuple hq
    exact call_tuple_same pl ⟨.ref p,H,I,rfl,q⟩

def tyV(K:Fg)(T:String)(x:V)(H:Hp):Prop:=match x with
  |.str _=>T = "str"
  |.int _=>T = "int"
  |.ref p=>(T = "list"/\∃ xs,SqL K H p xs)\/(T = "tuple"/\∃ o,K.lookup p=some o/\o.cls=.type "tuple"/\o.dict=none) \/
      (T = "dict"/\((∃ kvs,H p=some (.dK kvs))\/∃ kvs,H p=some (.dT kvs)))\/(T = "set"/\∃ S n,H p=some (.set S n))
  |_=>False
theorem tyV_is{pQ:Li (Ad×Obj)}{σ:St}{H:Hp}{s:Sd}{T:String}{x:V}{v:vL}(I:Inv X pQ σ H s)(r:RelV x v)(ty:tyV X.K T x H) :
    s.TypeIs v T/\∀ a,v=.ref a->∃ ob,s.heap.get? a=some ob/\ob.dict=none:=by
  cases x with
  |str z=>
    obtain⟨t,rfl⟩:=r;cases (show T = "str" from ty)
    exact⟨typeIs_str s z t,fun _ e=>nomatch e⟩
  |int i=>
    obtain⟨t,rfl⟩:=r;cases (show T = "int" from ty)
    exact⟨typeIs_int s i t,fun _ e=>nomatch e⟩
  |ref p=>
    cases r;rcases ty with⟨rfl,xs,hq⟩|⟨rfl,o,hk,hc,hd⟩|⟨rfl,hk⟩|⟨rfl,S,n,hk⟩
    · obtain⟨its,_,pl,_⟩:=I.list hq
      refine⟨pl.isList.typeIs,fun a e=>?_⟩
      cases e;obtain⟨o,n,e,c,hd,_⟩:=pl;exact⟨o,e,hd⟩
    · refine⟨⟨o,I.kIn p o hk,hc⟩,fun a e=>?_⟩
      cases e;exact⟨o,I.kIn _ o hk,hd⟩
    · have z:∃ o,s.heap.get? p=some o/\o.ExactDict:=by
        rcases hk with⟨kvs,hk⟩|⟨kvs,hk⟩
        · obtain⟨_,_,_,_,o,_,_,e,ex,_⟩:=I.hok p _ hk
          exact⟨o,e,ex⟩
        · obtain⟨_,_,_,_,o,_,_,e,ex,_⟩:=I.hok p _ hk
          exact⟨o,e,ex⟩
      obtain⟨o,e,ex⟩:=z;refine⟨⟨o,e,ex.1⟩,fun a e2=>?_⟩
      cases e2;exact⟨o,e,ex.2.1⟩
    · obtain⟨o,_,_,_,e,ex,_⟩:=I.hok p _ hk
      refine⟨⟨o,e,ex.1⟩,fun a e2=>?_⟩
      cases e2;exact⟨o,e,ex.2.1⟩
  |_=>exact False.elim ty
noncomputable def tBM(K:Fg)(T:String)(r:V->Li V->Hp->VK->Prop)(to:TE)(t:TA):TE:=fun σ H Q=>to σ H fun x H1=>tyV K T x H1/\t σ H1 fun xs H2=>r x xs H2 Q
variable {o e:Expr}{es:Li Expr}{to:TE}{t:TA}{name:Str}{apos cpos:Pos}{T id:String}{r:V->Li V->Hp->VK->Prop}
theorem pe_bm(pa:PlainAttrs T)(slot:Slot T name id)(hty:typeOf (.builtin id)=pure (.type "method_descriptor"))(hm:MtR X id r)(ho:PE X o to)(ha:PA X (e :: es) t)(hbase:attributeBase o name X.env (eval o X.env)=eval o X.env:=by rfl)(hfew:((backTo cpos (starEach (e :: es) X.env)).all (fun x=>!x.1)&&(backToKw cpos (keywordEach [] X.env)).all (fun x=>x.1.isSome)
     &&decide ((e :: es).length+([]:Li Keyword).length+(if ([]:Li Keyword).isEmpty then 0 else 1) < 30))=true:=by rfl)(hline:(apos.endLine==cpos.line)=true:=by rfl)(hs:starEach (e :: es) X.env=(false,eval e X.env) :: starEach es X.env:=by rfl)(hplain:(backTo cpos (starEach es X.env)).any (·.1)=false:=by rfl) :
    PE X (.Call (.Attribute o name apos) (e :: es) [] cpos) (tBM X.K T r to t):=by
  intro pQ s σ H Q I h;refine wpAny_Call_method_late hbase hfew hline rfl (thn (ho pQ s σ H _ I h) fun v s1 ⟨x,H1,I1,r1,ty,q1⟩=>?_)
  obtain⟨h1,h2⟩:=tyV_is I1 r1 ty;refine⟨T,id,pa,slot,hty,h1,h2,?_⟩;have hA:=ha cpos pQ s1 σ H1 _ I1 q1;rw[hs]at hA ⊢;refine Calls.callWith_builtin (by show(false||(backTo cpos (starEach es X.env)).any (·.1))=false;rw[hplain]<;>rfl) (Calls.evalArgs_plain ?_)
  exact thn hA fun us s2 ⟨vs,H2,I2,r2,q2⟩=>hm pQ s2 σ H2 x vs v us Q I2 r1 r2 q2
end
end L2

namespace L2
open PySem PySem.Spec PyProof.Rows

def MtM(X:Cx)(id:String)(r:V->Li V->Hp->VK->Prop):Prop:=
  ∀ (pQ:Li (Ad×Obj)) (s:Sd) (σ:St) (H:Hp) (x:V) (xs:Li V) (v:vL) (us:Li vL) (Q:VK),Inv X pQ σ H s->RelV x v->Vals xs us->r x xs H Q->
    wpAny (model X.prog X.w) X.A (call (.builtin id) (v :: us)) (EP X pQ σ Q) X.xe s

theorem Vals.one{x:V}{us:Li vL}(h:Vals [x] us):∃ u,us=[u]/\RelV x u:=by
  cases h with
  |cons r h=>cases h;exact⟨_,rfl,r⟩
theorem Vals.two{x y:V}{us:Li vL}(h:Vals [x,y] us):∃ u v,us=[u,v]/\RelV x u/\RelV y v:=by
  cases h with
  |cons r h=>cases h with
    |cons q h=>cases h;exact⟨_,_,rfl,r,q⟩
theorem Vals.rep{xs:Li V}{us:Li vL}(h:Vals xs us):∀ k:Nat,Vals (List.replicate k xs).flatten (List.replicate k us).flatten
  |0=>.nil
  |k+1=>by
    rw[List.replicate_succ,List.replicate_succ,List.flatten_cons,List.flatten_cons];exact Vals.append h (Vals.rep h k)
theorem foldl_rep(its:Li vL):∀ (k:Nat) (acc:Li vL),
    List.foldl (fun x1 x2=>x1++x2) acc.toArray (List.replicate k its.toArray)=(acc++(List.replicate k its).flatten).toArray
  |0,acc=>by simp
  |k+1,acc=>by
    have e:acc.toArray++its.toArray=(acc++its).toArray:=by simp
    have e2:(acc++its)++(List.replicate k its).flatten=acc++(List.replicate (k+1) its).flatten:=by
      rw[List.replicate_succ,List.flatten_cons,List.append_assoc]
    rw[<-e2,<-foldl_rep its k (acc++its),<-e,List.replicate_succ,List.foldl_cons]

section
variable {X:Cx}{pQ:Li (Ad×Obj)}{σ:St}{H:Hp}{s:Sd}{l b:Ad}{xs ys zs:Li V}

theorem Inv.lset{its its':Li vL}{n:Nat}{f:Array vL->Array vL}{t':Nat}(I:Inv X pQ σ H s)(hH:H l=some (.lst xs))(e:s.heap.get? l=some { cls:=.type "list",data:=.seq its.toArray n })(hf:f its.toArray=its'.toArray)(hv:Vals ys its')(hz:ys.length<=sizeLine) :
    Inv X pQ σ (upd H l (.lst ys)) { s with heap:=s.heap.update l (Obj.mapSeq f),toks:=t' }:=by
  have q:=PySem.IsL.update e f;rw[hf]at q;refine I.write (x:=l) (e:=l) (by rw[hH];exact trivial) (.inl rfl) (fun b' u hb hu=>(Heap.get?_update_other s.heap (Obj.mapSeq f) (Ne.symm hb)).trans hu) ⟨_,q⟩ ?_
  exact⟨hz,its',_,hv,q⟩
theorem Inv.lnew{its:Li vL}{t':Nat}(I:Inv X pQ σ H s)(hv:Vals ys its)(hz:ys.length<=sizeLine) :
    Inv X pQ σ (upd H s.heap.objs.size (.lst ys)) { s with heap:=s.heap.push { cls:=.type "list",data:=.seq its.toArray },toks:=t' }:=
  I.laid (fun _ _ q=>Heap.get?_push_of_some _ q) (Nat.le_refl _) ⟨hz,its,0,hv,Heap.get?_push_size _ rfl⟩
theorem Inv.fresh(I:Inv X pQ σ H s):H s.heap.objs.size=none:=I.hok.fresh (Nat.le_refl _)
theorem Inv.lstM(I:Inv X pQ σ H s)(hH:H l=some (.lst xs)):xs.length<=sizeLine/\∃ (its:Li vL) (n:Nat),Vals xs its/\xs.length=its.length/\s.heap.get? l=some { cls:=.type "list",data:=.seq its.toArray n }:=by
  obtain⟨z,its,n,r,e⟩:=I.hok l _ hH;exact⟨z,its,n,r,r.length,e⟩

theorem notLongL{n:Nat}(h:n<=sizeLine):Builtin.List.listTooLong n=false:=by
  unfold Builtin.List.listTooLong;exact decide_eq_false (by omega)
end

section
variable {X:Cx}

def rAppend:V->Li V->Hp->VK->Prop:=fun x vs H Q=>∃ l xs y,x=.ref l/\vs=[y]/\H l=some (.lst xs)/\xs.length < sizeLine/\Q .non (upd H l (.lst (xs++[y])))
theorem mt_append:MtM X "list.append" rAppend:=by
  intro pQ s σ H x vs v us Q I rx rv h;obtain⟨l,xs,y,rfl,rfl,hH,hz,q⟩:=h;cases rx;obtain⟨u,rfl,ru⟩:=rv.one;obtain⟨z,its,n,r,hl,e⟩:=I.lstM hH;refine call_meets F.slot_list_append ⟨_,e,rfl⟩ F.entry_list_append (F.args_list_append_2 _ _) (PySem.list_append l its.toArray n u (by rw[List.size_toArray];omega)) ⟨e,?_⟩
  refine⟨.non,_,I.lset (its':=its++[u]) hH e (by simp) (r.append (.cons ru .nil)) ?_,rfl,q⟩
  rw[List.length_append,List.length_singleton];omega

def rExtend:V->Li V->Hp->VK->Prop:=fun x vs H Q=>∃ l b xs zs,x=.ref l/\vs=[.ref b]/\H l=some (.lst xs)/\H b=some (.lst zs)/\xs.length+zs.length<=sizeLine/\Q .non (upd H l (.lst (xs++zs)))
theorem mt_extend:MtM X "list.extend" rExtend:=by
  intro pQ s σ H x vs v us Q I rx rv h;obtain⟨l,b,xs,zs,rfl,rfl,hH,hB,hz,q⟩:=h;cases rx;obtain⟨u,rfl,ru⟩:=rv.one;cases ru;obtain⟨z,its,n,r,hl,e⟩:=I.lstM hH;obtain⟨z2,its2,n2,r2,hl2,e2⟩:=I.lstM hB;have hsz:its.toArray.size+its2.toArray.size<=sizeLine:=by rw[List.size_toArray,List.size_toArray];omega
  have hlong:¬(!its.toArray.isEmpty&&Builtin.List.listTooLong (its.toArray.size+its2.toArray.size))=true:=by
    rw[notLongL hsz,Bool.and_false];exact Bf
  refine call_meets F.slot_list_extend ⟨_,e,rfl⟩ F.entry_list_extend (F.args_list_extend_2 _ _)
    (AutoSeq1.list_extend_list_list_0 l its.toArray n b its2.toArray n2 hlong (by rw[List.size_toArray];omega) (by omega)) ⟨e,e2,?_⟩
  refine⟨.non,_,I.lset (its':=its++its2) hH e (by simp) (r.append r2) ?_,rfl,q⟩
  rw[List.length_append];omega





noncomputable def rRep:R2:=fun x y H Q=>∃ l k xs,x=.ref l/\y=.int k/\H l=some (.lst xs)/\-(2 ^ 63)<=k/\k < 2 ^ 63/\xs.length * k.toNat<=sizeLine /\
  ∀ p,H p=none->Q (.ref p) (upd H p (.lst (List.replicate k.toNat xs).flatten))
theorem len_rep{α:Type}(xs:Li α)(k:Nat):(List.replicate k xs).flatten.length=k * xs.length:=by
  induction k with
  |zero=>simp
  |succ k ih=>rw[List.replicate_succ,List.flatten_cons,List.length_append,ih,Nat.succ_mul,Nat.add_comm]
theorem op_rep:OpR X (binaryOp .Mult) rRep:=by
  intro pQ s σ H x y v u Q I rx ry h;obtain⟨l,k,xs,rfl,rfl,hH,h1,h2,hz,q⟩:=h;cases rx;obtain⟨t,rfl⟩:=ry;obtain⟨z,its,n,r,hl,e⟩:=I.lstM hH;have hlen:its.toArray.size * k.toNat<=sizeLine:=by rw[List.size_toArray,<-hl];exact hz
  have hcap:¬its.toArray.size * k.toNat > (2 ^ 63 - 1) / 8:=by
    have:(sizeLine:Nat)<=(2 ^ 63 - 1) / 8:=by decide
    omega
  have hfit:¬(!Builtin.List.listFitsIndex k)=true:=by
    rw[fitsIndex_both h1 h2];exact Bf
  have hlong:¬Builtin.List.listTooLong (its.toArray.size * k.toNat)=true:=by
    rw[notLongL hlen];exact Bf
  have hnew:List.foldl (fun x1 x2=>x1++x2) #[] (List.replicate (if its.toArray.isEmpty=true then 0 else k.toNat) its.toArray)=(List.replicate k.toNat its).flatten.toArray:=by
    have f0:∀ m:Nat,List.foldl (fun x1 x2=>x1++x2) #[] (List.replicate m its.toArray)=(List.replicate m its).flatten.toArray:=fun m=>by
      have:=foldl_rep its m [];rw[List.nil_append]at this;exact this
    rw[f0];cases its with
    |nil=>simp
    |cons a r'=>rw[if_neg (by simp)]
  refine wpAny_binaryOp_repeat_ref (T := "list") (U := "int") (by decide) ⟨_,e,rfl⟩ (fun s'=>typeIs_int s' k t) noFill_list_mul F.fills_int_mul F.slot_int_rmul repeat_list F.slot_int_index.lookup
    (call_meets F.slot_int_rmul (typeIs_int s k t) F.entry_int_rmul (F.args_int_rmul_2 _ _) (int___rmul___int_list k t l its.toArray n)
      ⟨e,rfl,⟨_,e,rfl⟩,call_meets F.slot_list_mul ⟨_,e,rfl⟩ F.entry_list_mul (F.args_list_mul_2 _ _) (AutoListH.list___mul___list_int_3 l its.toArray n k t hfit hcap hlong) ⟨e,?_⟩⟩)
  rw[hnew];exact⟨.ref _,_,I.lnew (t':=s.toks) (r.rep k.toNat) (by rw[len_rep,Nat.mul_comm];exact hz),rfl,q _ I.fresh⟩

end

section
variable {prog:Program}{w:World}{A:Around}{E:vL->Sd->Prop}{s:Sd}
end

section
variable {X:Cx}
end
end L2

namespace Att
open PySem PySem.W PySem.Calls PyProof.Rows

theorem ints_of_wellAll{P:Params}{h:Heap}:∀ (ns:Li Int) (vs:Li vL),WellAll P h vs (ns.map WData.int)->IntsAre vs ns:=by
  intro ns
  induction ns with
  |nil=>
    intro vs w;rw[List.map_nil]at w;cases w;exact .nil
  |cons n ns ih=>
    intro vs w;rw[List.map_cons]at w;cases w with
    |cons a b=>
      cases a;exact .cons _ _ (ih _ b)

theorem script_of{l:OpenLaw}{n:Nat}(hn:l.most=some n){P:Params}{h:Heap}{args:Li WData}{vals:Li vL}(hpre:l.row.toRowW.claim.pre args=true)(hwl:WellAll P h vals args) :
    ∃ a vs ns,vals=[Value.ref a]/\args=[WData.list (ns.map WData.int)]/\h.get? a=some { cls:=.type "list",data:=.seq vs.toArray }/\IntsAre vs ns/\ns.length<=n:=by
  have hsh:WShape.hasAll [] args [.list .int]=true:=(pre_splitW hpre).1;have hc:l.pre.holds [] { args:=args }=true:=(pre_splitW hpre).2;obtain⟨d,r,rfl,h1,h2⟩:=hasAllW_cons hsh;obtain rfl:=hasAllW_nil h2;obtain⟨xs,rfl,h3⟩:=hasW_list h1;obtain⟨ns,rfl⟩:=items_int h3;have hlen:ns.length<=n:=by
    unfold OpenLaw.pre at hc;have h4:(WTm.not (.lt (.lit (.int (n:Int))) (.len (.arg 0)))).holds [] { args:=[.list (ns.map .int)] }=true:=by
      have h4:=(holds_andW hc).1;rw[hn]at h4;exact h4
    have h5:=condW_of h4 (w_not (w_lt w_lit (w_len_list (w_arg rfl))));rw[List.length_map]at h5;refine Nat.le_of_not_lt fun q=>?_
    have q':(n:Int) < ((ns.length:Nat):Int):=by omega
    first
      | (rw[decide_eq_true q']at h5;exact absurd h5 (by decide))
      | (simp at h5;omega)
  cases hwl with
  |cons w1 w2=>
    cases w2;cases w1 with
    |list ho hall=>exact⟨_,_,ns,rfl,rfl,ho,ints_of_wellAll ns _ hall,hlen⟩

theorem post_true(l:OpenLaw)(args:Li WData):l.row.toRowW.claim.post args (.bool true) args=true:=
  postW_of (r:=l.row.toRowW) (X:=(true==true))
    (show WShape.has [] (.bool true) .bool=true by first|rfl|decide|simp[WShape.has,WShape.arms,WShape.armsAll])
    (show(WTm.eq .res (.lit (.bool true))).value [] { args:=args,res:=some (.bool true),after:=args }=some (.bool (true==true)) from w_eq_bool (w_res rfl) w_lit) rfl


theorem attach_call{l:OpenLaw}{n:Nat}{q:Program}{loose:Li Str}{XP:(Str->Ot vL)->Heap->Prop}{YP:World->Heap->Prop}{d:DefRec}(hn:l.most=some n)(hdf:d.params.defaults=[])(call:∀ (w:World) (s₀ s₁:Sd) (mg mb:Str->Ot vL) (fa:Ad) (o:Obj) (pm cd doc:vL) (a:Ad) (vs:Li vL) (ns:Li Int),
      Ground q loose [] XP w s₀ mg mb s₁.heap->YP w s₁.heap->
      s₁.heap.get? fa=some o->o.data=.func (docDef d.name d.params d.body d.scope pm cd doc)->s₁.heap.CodeRec cd d.name->mg d.name=some (.ref fa)->
      s₁.heap.get? a=some { cls:=.type "list",data:=.seq vs.toArray }->IntsAre vs ns->ns.length<=n->s₁.gens=#[]->
      codeAny (model l.prog w) callerA (.call (.ref fa) ⟨[.ref a],[]⟩) (fun r s'=>r=.ok (.ret (.bool true))/\OldK s₁.heap s'.heap/\s'.os=s₁.os/\AllBare s'.gens) s₁) :
    WalkO q loose XP YP l.row.toRowW d [] (fun f vs=>PySem.call f vs):=by
  intro w s₀ s₁ mg mb G Y fa o pm cd doc dV kV ho hd hcd hD hmg hg args vals as hpre hlay hrd hwl hlo;obtain rfl:dV=.none:=Dflts.none hD hdf;obtain rfl:kV=.none:=Dflts.noKw hD;obtain⟨a,vs,ns,rfl,rfl,hobj,hints,hlen⟩:=script_of hn hpre hwl;refine enter_call (codeAny_mono (call w s₀ s₁ mg mb fa o pm cd doc a vs ns G Y ho (fd_plain hd) hcd hmg hobj hints hlen hg) fun r s' hq=>?_)
  obtain⟨rfl,h2,h3,h4⟩:=hq;exact⟨.inl ⟨.bool true,.bool true,[],rfl,fun _=>rfl,.bool true,post_true l _,fun _=>⟨List.Pairwise.nil,fun _ hm=>(nomatch hm)⟩⟩,h2,h3,h4⟩


section
variable {prog:Program}{w:World}{A:Around}{E:vL->Sd->Prop}{s:Sd}{K:Frag}






end
end Att

namespace L2
open PySem PySem.Spec PyProof.Rows

theorem vals_ints:∀ {vs:Li vL}{ns:Li Int},IntsAre vs ns->Vals (ns.map V.int) vs
  |_,_,.nil=>.nil
  |_,_,.cons n t h=>.cons ⟨t,rfl⟩ (vals_ints h)

def Only(H:Hp):Prop:=∀ b,H b=none\/∃ o xs,H b=some (.frz o (.lst xs))

theorem law_call{P:Program}{w:World}{K:Fg}{mg mb:Str->Ot vL}{CX:CXT}{k:Nat}{fa a:Ad}{fd:FuncData}{x:Str}{sp:Sp}{s₁:Sd}{vs:Li vL}{ns:Li Int}(KX:K.In s₁.heap)(hns:s₁.heap.Ns mainGlobals mg)(hb:s₁.heap.Ns builtinsNs mb)(hbb:∀ x:Str,x ≠ "__name__"->mb x=bootBuiltins x)(hlim:s₁.heap.NoLimit)(hg:s₁.gens=#[])(ha:s₁.heap.get? a=some { cls:=.type "list",data:=.seq vs.toArray })(hi:IntsAre vs ns)(hl:ns.length<=sizeLine)(hr:Room k callerA)(F:∀ base:Heap,K.In base->base.Ns mainGlobals mg->FnOk P w K mg base CX k fa fd [x] sp)(hbind:∀ (s:Sd) (u:vL),BindsTo s fd ⟨[u],[]⟩ [(x,u)])(hsp:∀ H:Hp,Only H->SqL K H a (ns.map V.int)->sp [.ref a] H (fun v _=>v=.bl true) fun _ _ _=>False)(hCX:∀ H e s',CX [] H s₁ (fun _ _ _=>False) e s'->False) :
    codeAny (model P w) callerA (.call (.ref fa) ⟨[.ref a],[]⟩) (fun r s'=>r=.ok (.ret (.bool true))/\OldK s₁.heap s'.heap/\s'.os=s₁.os/\AllBare s'.gens) s₁:=by
  have rv:=vals_ints hi;have lenV:=hi.length
  -- from an abstract heap in which nothing but the script may be tracked
  have core:∀ H:Hp,Only H->SqL K H a (ns.map V.int)->HOk P w H s₁.heap->(∀ b,H b≠none->b=a)->(H a≠none->K.lookup a=none)->
      codeAny (model P w) callerA (.call (.ref fa) ⟨[.ref a],[]⟩) (fun r s'=>r=.ok (.ret (.bool true))/\OldK s₁.heap s'.heap/\s'.os=s₁.os/\AllBare s'.gens) s₁:=by
    intro H hO hS hok hA hK;have base_of:∀ {b:Ad}{o:Obj},s₁.heap.get? b=some o->H b=none->(hidT s₁.heap H).get? b=some o:=fun e n=>hidT_get e n
    have noA:∀ {b:Ad}{o:Obj}{es:Array DictEntry}{ep:Nat},s₁.heap.get? b=some o->o.data=.dict es ep->H b=none:=fun {b o es ep} e d=>by
      cases q:H b with
      |none=>rfl
      |some u=>
        have e':b=a:=hA b (by rw[q];simp)
        subst e';rw[ha]at e;cases e
        have d':Data.seq vs.toArray _=Data.dict es ep:=d;cases d'
    have nsK:∀ {b:Ad}{m:Str->Ot vL},s₁.heap.Ns b m->(hidT s₁.heap H).Ns b m:=fun {b m} ⟨o,es,ep,e,d,r⟩=>⟨o,es,ep,base_of e (noA e d),d,r⟩
    have hKb:K.In (hidT s₁.heap H):=fun b o e=>base_of (KX b o e) (by
      cases q:H b with
      |none=>rfl
      |some u=>
        have e':b=a:=hA b (by rw[q];simp)
        subst e';rw[hK (by rw[q];simp)]at e;cases e)
    have hM:Mod K mg (hidT s₁.heap H):=⟨hKb,nsK hns,⟨mb,nsK hb,hbb⟩,let ⟨mc,h1,h2⟩:=hlim;⟨mc,nsK h1,h2⟩⟩
    have e0:Env0 P w K mg (hidT s₁.heap H) callerA [] s₁ H:=⟨rfl,hM,fun b o e=>of_hidT e,Nat.le_of_eq (hidT_size _ _),trivial,fun b hb=>absurd (show b∈([]:Li Ad) from hb) (by simp),hok,.of_eq hg⟩
    refine codeAny_mono ((F _ hKb (nsK hns)).run callerA [] s₁ H ⟨[.ref a],[]⟩ [.ref a] [.ref a] _ _ hr e0 (hbind s₁ (.ref a)) (.cons rfl .nil) (hsp H hO hS)) fun r s' h=>?_
    cases r with
    |error e=>exact(hCX H e s' h).elim
    |ok fl=>
      cases fl with
      |next=>exact False.elim h
      |brk=>exact False.elim h
      |cont=>exact False.elim h
      |ret u=>
        obtain⟨v,H',os,bare,un,hok',r',q⟩:=h;have q':v=.bl true:=q;subst q';obtain rfl:u=Value.bool true:=r';refine⟨rfl,OldK.of_keep fun b o e=>?_,os,bare⟩
        cases q:H b with
        |none=>exact un.keep b o e q (by intro z;exact absurd (show b∈([]:Li Ad) from z) (by simp)) (by simp)
        |some u=>
          rcases hO b with z|⟨ob,xs,z⟩
          · rw[q]at z;cases z
          · have z2:=un.frzs b ob _ z
            obtain⟨e1,_⟩:=hok b _ z;obtain⟨e2,_⟩:=hok' b _ z2;rw[e]at e1;cases e1
            exact e2
  cases hk:K.lookup a with
  |some o=>
    -- the script is one of the module's own objects
    have e:=KX a o hk;rw[ha]at e;cases e;refine core (fun _=>none) (fun _=>.inl rfl) (.inr ⟨_,vs.toArray,_,hk,rfl,rfl,rfl,by rw[List.size_toArray,lenV];exact hl,by simpa using rv⟩) (fun b u z=>by have z':(none:Ot HO)=some u:=z;cases z') (fun b z=>absurd rfl z) fun z=>absurd rfl z
  |none=>
    refine core (fun b=>if b=a then some (.frz { cls:=.type "list",data:=.seq vs.toArray } (.lst (ns.map V.int))) else none) (fun b=>?_) (.inl (.inr ⟨{ cls:=.type "list",data:=.seq vs.toArray },if_pos rfl⟩)) (fun b u z=>?_) (fun b z=>?_) fun _=>hk
    · by_cases hb:b=a
      · exact .inr ⟨_,_,if_pos hb⟩
      · exact .inl (if_neg hb)
    · by_cases hb:b=a
      · have z':=(if_pos hb).symm.trans z
        cases z';subst hb;exact⟨ha,by rw[List.length_map];exact hl,vs,_,rv,ha⟩
      · have z':=(if_neg hb).symm.trans z
        cases z'
    · by_cases hb:b=a
      · exact hb
      · exact absurd (if_neg hb) z
end L2

namespace L2
open PySem PySem.Spec PyProof.Rows


theorem walk_of{l:PySem.W.OpenLaw}{n k:Nat}{q:Program}{loose:Li Str}{XP:(Str->Ot vL)->Heap->Prop}{YP:World->Heap->Prop}{d:DefRec}{K:Params->Fg}{CX:World->CXT}{sp:World->Sp}{x:Str}(hn:l.most=some n)(hn2:n<=sizeLine)(hdf:d.params.defaults=[])(hr:Room k callerA)(hY:∀ (w:World) (h:Heap),YP w h->(K w.params).In h)(F:∀ (w:World) (mg:Str->Ot vL) (fa:Ad) (h:Heap),(K w.params).In h->h.Ns mainGlobals mg->mg d.name=some (.ref fa)->
      ∃ fd:FuncData,(∀ (s:Sd) (u:vL),BindsTo s fd ⟨[u],[]⟩ [(x,u)]) /\
        ∀ base:Heap,(K w.params).In base->base.Ns mainGlobals mg->FnOk l.prog w (K w.params) mg base (CX w) k fa fd [x] (sp w))(hsp:∀ (w:World) (H:Hp) (a:Ad) (ns:Li Int),ns.length<=n->Only H->SqL (K w.params) H a (ns.map V.int)->sp w [.ref a] H (fun v _=>v=.bl true) fun _ _ _=>False)(hCX:∀ (w:World) (H:Hp) (s:Sd) (e:vL) (s':Sd),CX w [] H s (fun _ _ _=>False) e s'->False) :
    PySem.W.WalkO q loose XP YP l.row.toRowW d [] (fun f vs=>PySem.call f vs):=by
  refine Att.attach_call hn hdf fun w s₀ s₁ mg mb fa o pm cd doc a vs ns G Y ho hd hcd hmg hobj hints hlen hg=>?_
  have KX:=hY w _ Y;obtain⟨fd,hb,hF⟩:=F w mg fa _ KX G.T.g hmg;exact law_call KX G.T.g G.T.b G.T.builtins G.T.nolimit hg hobj hints (Nat.le_trans hlen hn2) hr hF hb (fun H hO hS=>hsp w H a ns hlen hO hS) fun H e s'=>hCX w H s₁ e s'
end L2


namespace L2
open PySem PySem.Spec PyProof.Rows

noncomputable def defArgs(s:Stmt):Arguments:=match s with
  |.FunctionDef _ a _ _ _ _ _ _ _ _=>a
  |_=>{ posonlyargs:=[],args:=[],vararg:=none,kwonlyargs:=[],kw_defaults:=[],kwarg:=none,defaults:=[] }
noncomputable def defBody(s:Stmt):Li Stmt:=match s with
  |.FunctionDef _ _ b _ _ _ _ _ _ _=>b
  |_=>[]
noncomputable def defScope(s:Stmt):Scope:=match s with
  |.FunctionDef _ _ _ _ _ _ sc _ _ _=>sc
  |_=>{ kind:=.function,names:=[],isGenerator:=false,isCoroutine:=false }

noncomputable abbrev CX0:CXT:=fun _ _ _ _ _ _=>False
noncomputable abbrev E0:XK:=fun _ _ _=>False
theorem pass0{X:Cx}:Passes CX0 X E0:=fun _ _ _ _ _ _ _ h=>h.elim

structure Fun(K:Fg)(x qual:Str)(st:Stmt)(f:Addr)(fd:FuncData):Prop where
  ex:∃ (oc:Value) (od:Option Addr) (kV doc pm:Value) (an:Option Addr) (cdv ct:Value) (osl:Array (Option Value)),
    fd=PySem.W.fnOf x qual (defArgs st) (defBody st) (defScope st) .none kV doc pm an cdv ct/\K.lookup f=some ⟨oc,od,.func fd,osl⟩/\PySem.W.codeIn K cdv qual=true
  kp:PySem.W.keepIn K (.ref f)=true
section
variable {P:Program}{w:World}{K:Fg}{mg:Str->Ot vL}{base:Heap}
end

section
variable {X:Cx}
end



end L2



namespace L2
open PySem PySem.Spec PyProof.Rows
section
variable {κ:Type} [DecidableEq κ]
noncomputable def valV(kvs:Li (κ×V))(k:κ):Ot V:=(kvs.find? fun kv=>decide (kv.1=k)).map (·.2)
noncomputable def putK(kvs:Li (κ×V))(k:κ)(v:V):Li (κ×V):=
 if (kvs.any fun kv=>decide (kv.1=k))=true then kvs.map (fun kv=>if kv.1=k then (kv.1,v) else kv) else kvs++[(k,v)]
theorem valV_pos{p:κ×V}{r:Li (κ×V)}{k:κ}(e:p.1=k):valV (p :: r) k=some p.2:=by simp[valV,List.find?_cons,e]
theorem valV_neg{p:κ×V}{r:Li (κ×V)}{k:κ}(e:¬p.1=k):valV (p :: r) k=valV r k:=by simp[valV,List.find?_cons,e]
theorem RelO.isSome_eq{o:Ot V}{u:Ot vL}(r:RelO o u):o.isSome=u.isSome:=by
 cases o with
 |none=>cases u with
  |none=>rfl
  |some _=>exact(show False from r).elim
 |some _=>cases u with
  |none=>exact(show False from r).elim
  |some _=>rfl
theorem KV.val{kvs:Li (κ×V)}{vs:Li (κ×vL)}(r:KV kvs vs)(k:κ):RelO (valV kvs k) (valueAt vs k):=by
 unfold KV at r
 induction r with
 |nil=>exact True.intro
 |@cons p q ps qs h t ih=>
  obtain⟨h1,h2⟩:=h;by_cases e:p.1=k
  ·have e':q.1=k:=h1.symm.trans e
   have b:valueAt (q :: qs) k=some q.2:=by simp[valueAt,List.find?_cons,e']
   rw[valV_pos e,b];exact h2
  ·have e':¬q.1=k:=fun z=>e (h1.trans z)
   have b:valueAt (q :: qs) k=valueAt qs k:=by simp[valueAt,List.find?_cons,e']
   rw[valV_neg e,b];exact ih
theorem KV.any{kvs:Li (κ×V)}{vs:Li (κ×vL)}(r:KV kvs vs)(k:κ):(kvs.any fun kv=>decide (kv.1=k))=vs.any fun kv=>decide (kv.1=k):=by
 unfold KV at r
 induction r with
 |nil=>rfl
 |cons h t ih=>rw[List.any_cons,List.any_cons,ih,h.1]
theorem KV.repl{kvs:Li (κ×V)}{vs:Li (κ×vL)}(r:KV kvs vs)(k:κ){y:V}{u:vL}(ry:RelV y u) :
  KV (kvs.map fun kv=>if kv.1=k then (kv.1,y) else kv) (vs.map fun kv=>if kv.1=k then (kv.1,u) else kv):=by
 unfold KV at r ⊢
 induction r with
 |nil=>exact .nil
 |@cons p q ps qs h t ih=>
  rw[List.map_cons,List.map_cons];refine .cons ?_ ih;obtain⟨h1,h2⟩:=h;by_cases e:p.1=k
  ·rw[if_pos e,if_pos (h1.symm.trans e)];exact⟨h1,ry⟩
  ·rw[if_neg e,if_neg (fun z=>e (h1.trans z))];exact⟨h1,h2⟩
theorem KV.put{kvs:Li (κ×V)}{vs:Li (κ×vL)}(r:KV kvs vs)(k:κ){y:V}{u:vL}(ry:RelV y u):KV (putK kvs k y) (stored vs k u):=by
 unfold putK stored;rw[r.any k];by_cases e:(vs.any fun kv=>decide (kv.1=k))=true
 ·rw[if_pos e,if_pos e];exact r.repl k ry
 ·rw[if_neg e,if_neg e];exact Paired.snoc r ⟨rfl,ry⟩
end
theorem kV_is{P:Program}{w:World}{k:Key}{u:vL}(r:RelV (kV k) u):(mixKind P w).is k u=true:=by
 cases k with
 |inl i=>obtain⟨t,e⟩:=(show ∃ t,u=Value.int i t from r);subst e;exact mixKind_int P w i t
 |inr x=>obtain⟨t,e⟩:=(show ∃ t,u=Value.str x t from r);subst e;exact mixKind_str P w x t
section
variable {P:Program}{w:World}{H:Hp}{h:Heap}{a:Ad}
theorem rd_of{u:HO}(ok:HOk P w H h)(e:Rd H a u):ObjOk P w H h a u:=e.ok ok
theorem dk_rd{kvs:Li (Key×V)}(ok:HOk P w H h)(e:Rd H a (.dK kvs)):kvs.length<=sizeLine/\(a==sysModules)=false/\∃ vs,KV kvs vs/\h.DictOf (mixKind P w) a vs:=
 show ObjOk P w H h a (.dK kvs) from rd_of ok e
theorem dk_of{kvs:Li (Key×V)}(ok:HOk P w H h)(e:H a=some (.dK kvs)):kvs.length<=sizeLine/\(a==sysModules)=false/\∃ vs,KV kvs vs/\h.DictOf (mixKind P w) a vs:=dk_rd ok (.inl e)
end
section
variable {X:Cx}{pQ:Li (Ad×Obj)}{σ:St}{H:Hp}{s:Sd}{a:Ad}{y v:V}{u r:vL}{o:Ot V}{A:Around}{E:vL->Sd->Prop}
end
section
variable {X:Cx}
noncomputable def rIxD:R2:=fun x y H Q=>∃ p kvs k v,x=.ref p/\y=kV k/\H p=some (.dK kvs)/\valV kvs k=some v/\Q v H
theorem ix_dct:IxR X rIxD:=by
 intro value slice pQ s σ H x y v u Q I rx ry h hs;obtain⟨p,kvs,k,z,rfl,rfl,hq,he,q⟩:=h;cases rx;obtain⟨zz,hd,vs,rel,dd⟩:=dk_of I.hok hq;obtain⟨w',hw,rw'⟩:=RelO.some_of (v:=z) (o:=valueAt vs k) (by rw[<-he];exact rel.val k)
 exact tail_any dd.typeIs PySem.F.slot_dict_getitem.lookup (wpAny_getItem_of (kV_is ry) dd.mapOf hw ⟨z,H,I.tok _,rw',q⟩) hs
noncomputable def rInD:R2:=fun x y H Q=>∃ p kvs k,y=.ref p/\x=kV k/\H p=some (.dK kvs)/\Q (.bl (valV kvs k).isSome) H
theorem op_in_dct:OpR X (compareOp .In) rInD:=by
 intro pQ s σ H x y v u Q I rx ry h;obtain⟨p,kvs,k,rfl,rfl,hq,q⟩:=h;cases ry;obtain⟨zz,hd,vs,rel,dd⟩:=dk_of I.hok hq;refine wpAny_in_of (kV_is rx) hd dd.mapOf ?_;rw[<-(rel.val k).isSome_eq];exact⟨.bl (valV kvs k).isSome,H,I.tok _,rfl,q⟩
end
section
variable {κ:Type} [DecidableEq κ]
theorem valV_any(k:κ):∀ kvs:Li (κ×V),(kvs.any fun kv=>decide (kv.1=k))=(valV kvs k).isSome
 |[]=>rfl
 |p :: r=>by
  rw[List.any_cons];by_cases e:p.1=k
  ·simp only[valV_pos e,decide_eq_true e,Bool.true_or,Option.isSome_some]
  ·rw[valV_neg e,decide_eq_false e,Bool.false_or];exact valV_any k r
end
abbrev KTp(H:Hp):Li (Li Key×V)->Li (Li Key×Ad×vL)->Prop:=Paired fun p q=>p.1=q.1/\H q.2.1=some (.tup (p.1.map kV))/\RelV p.2 q.2.2
theorem KTp.val{H:Hp}{kvs:Li (Li Key×V)}{xs:Li (Li Key×Ad×vL)}(r:KTp H kvs xs)(k:Li Key):RelO (valV kvs k) ((atKey xs k).map (·.2)):=by
 induction r with
 |nil=>exact True.intro
 |@cons p q ps qs h t ih=>
  obtain⟨h1,_,h2⟩:=h;by_cases e:p.1=k
  ·have e':q.1=k:=h1.symm.trans e
   have b:atKey (q :: qs) k=some q.2:=by simp[atKey,List.find?_cons,e']
   rw[valV_pos e,b];exact h2
  ·have e':¬q.1=k:=fun z=>e (h1.trans z)
   have b:atKey (q :: qs) k=atKey qs k:=by simp[atKey,List.find?_cons,e']
   rw[valV_neg e,b];exact ih
theorem KTp.repl{H:Hp}{kvs:Li (Li Key×V)}{xs:Li (Li Key×Ad×vL)}(r:KTp H kvs xs)(k:Li Key){y:V}{u:vL}(ry:RelV y u) :
  KTp H (kvs.map fun kv=>if kv.1=k then (kv.1,y) else kv) (xs.map (putAt k u)):=by
 induction r with
 |nil=>exact .nil
 |@cons p q ps qs h t ih=>
  rw[List.map_cons,List.map_cons];refine .cons ?_ ih;obtain⟨h1,h2,h3⟩:=h;unfold putAt;by_cases e:p.1=k
  ·rw[if_pos e,if_pos (h1.symm.trans e)];exact⟨h1,h2,ry⟩
  ·rw[if_neg e,if_neg (fun z=>e (h1.trans z))];exact⟨h1,h2,h3⟩
theorem KTp.put{H:Hp}{kvs:Li (Li Key×V)}{xs:Li (Li Key×Ad×vL)}(r:KTp H kvs xs)(k:Li Key){b:Ad}{y:V}{u:vL}(hb:H b=some (.tup (k.map kV)))(ry:RelV y u) :
  KTp H (putK kvs k y) (storedH xs k b u):=by
 have e:(kvs.any fun kv=>decide (kv.1=k))=(atKey xs k).isSome:=by
  rw[valV_any,(r.val k).isSome_eq,Option.isSome_map]
 unfold putK storedH;rw[e];by_cases q:(atKey xs k).isSome=true
 ·rw[if_pos q,if_pos q];exact r.repl k ry
 ·rw[if_neg q,if_neg q];exact Paired.snoc r ⟨rfl,hb,ry⟩
theorem KTp.keeps{H H':Hp}{kvs:Li (Li Key×V)}{xs:Li (Li Key×Ad×vL)}(r:KTp H kvs xs)(ht:∀ b ys,H b=some (.tup ys)->H' b=some (.tup ys)):KTp H' kvs xs:=
 Paired.mapP r fun _ _ z=>⟨z.1,ht _ _ z.2.1,z.2.2⟩
section
variable {P:Program}{w:World}{H:Hp}{h:Heap}{a:Ad}
end
section
variable {X:Cx}
end
end L2


namespace Dp
open PySem
noncomputable abbrev S(x:String):Str:=Str.ofString x

inductive D where
 |non|bl (b:Bool)|int (i:Int)|str (x:Str)|tup (xs:List D)|lst (id:Nat)|dct (ks:List Str) (vs:List D)|obj (i:Nat)|kt (ks:List Str)|dic (id:Nat)

noncomputable abbrev Env:=Li (Ot D)
noncomputable abbrev Qs:=Bool×Li D
noncomputable abbrev Za:=Li Qs
noncomputable abbrev Res:=Ot (D×Za)
noncomputable abbrev Fn:=Li D->Za->Res

noncomputable def o2{α β γ:Type}(f:α->β->γ):Ot α->Ot β->Ot γ
 |some x,some y=>some (f x y)
 |_,_=>none
noncomputable def og{α:Type}(p:Prop)[Decidable p](o:Ot α):Ot α:=if p then o else none
mutual
noncomputable def Z9:D->D->Bool
 |.non,.non=>true
 |.bl a,.bl b=>a==b
 |.int a,.int b=>decide (a=b)
 |.str a,.str b=>decide (a=b)
 |.tup a,.tup b=>Yo a b
 |_,_=>false
noncomputable def Yo:Li D->Li D->Bool
 |[],[]=>true
 |x :: xs,y :: ys=>Z9 x y&&Yo xs ys
 |_,_=>false
end
mutual
noncomputable def okD:Nat->D->Bool
 |_,.non=>true
 |_,.int _=>true
 |_,.str _=>true
 |n+1,.tup xs=>Xk n xs
 |_,_=>false
noncomputable def Xk:Nat->Li D->Bool
 |_,[]=>true
 |n,x :: xs=>okD n x&&Xk n xs
end
inductive Sc where
 |non|bl (b:Bool)|int (i:Int)|str (x:Str)
noncomputable def scD:D->Ot Sc
 |.non=>some .non
 |.bl b=>some (.bl b)
 |.int i=>some (.int i)
 |.str x=>some (.str x)
 |_=>none
noncomputable def ZdC:Sc->Sc->Ot Bool
 |.non,.non=>some true
 |.non,.bl _=>some false
 |.non,.int _=>some false
 |.non,.str _=>some false
 |.bl _,.non=>some false
 |.bl a,.bl b=>some (a==b)
 |.bl _,.int _=>none
 |.bl _,.str _=>some false
 |.int _,.non=>some false
 |.int _,.bl _=>none
 |.int a,.int b=>some (decide (a=b))
 |.int _,.str _=>some false
 |.str _,.non=>some false
 |.str _,.bl _=>some false
 |.str _,.int _=>some false
 |.str a,.str b=>some (decide (a=b))
noncomputable def eqT(xs:Li D):D->Ot Bool
 |.tup ys=>if okD 8 (.tup xs)&&okD 8 (.tup ys) then some (Yo xs ys) else none
 |_=>none
noncomputable def eqD(x y:D):Ot Bool:=match x with
 |.tup xs=>eqT xs y
 |x=>(o2 ZdC (scD x) (scD y)).join

inductive Ty where
 |int|bool|str|tuple
 deriving DecidableEq

set_option genInjectivity false in
inductive CE where
 |var (i:Nat)|cst (d:D)
 |bin (op:Operator) (a b:CE)|neg (a:CE)
 |cmp (op:CmpOp) (a b:CE)
 |not (a:CE)|and (a b:CE)|or (a b:CE)|ife (c a b:CE)
 |tupE (a:CE)|lstE (a:CE)|aN|aC (a r:CE)
 |ix (a b:CE)|slice (a lo hi:CE)|nop|part (a:CE)
 |call (f:Nat) (args:CE) (ds:List D)
 |len (a:CE)|tOf (a:CE)|listOf (a:CE)|intOf (a:CE)|min (a b:CE)|max (a b:CE)|isi (T:Ty) (a:CE)
 |comp (rng:Bool) (fr:List Nat) (it elt XX:CE)|comp2 (fr:List Nat) (it elt XX:CE)|compT (fr:List Nat) (it elt XX:CE)|lstR (a b:CE)|new (i:Nat)|meth (tab:List (Nat×Nat)) (o a:CE)|isc (l:List Nat) (a:CE)|tix (o a:CE)
 |rs (k:Bool) (a:CE)
 |inv (a:CE)|tupR (a:CE)|look (ks:List Str) (ds:List D) (a:CE)|dget (a k d:CE)|all (a:CE)|any (a:CE)|inR (ng:Bool) (a b:CE)
 |dict (ks:List Str) (a:CE)|dnew

set_option genInjectivity false in
inductive CS where
 |skip|seq (a b:CS)|ret (e:CE)|set (i:Nat) (e:CE)|app (i:Nat) (e:CE)|ext (i:Nat) (e:CE)|put (i:Nat) (k e:CE)
 |ite (c:CE) (a b:CS)|for1 (i:Nat) (rng:Bool) (it:CE) (b:CS)|for3 (i:Nat) (it:CE) (b:CS)|forP (i j:Nat) (it:CE) (b:CS)|forE (i j:Nat) (it:CE) (b:CS)|set2 (i j:Nat) (e:CE)|for4 (i j l:Nat) (it:CE) (b:CS)|for2 (i j:Nat) (it:CE) (b:CS)|whl (c:CE) (b:CS)|brk|cont|stop|set3 (i j l:Nat) (e:CE)|act (e:CE)|dput (i:Nat) (a b e:CE)

noncomputable def Z1(i:Int):Bool:=decide (-(2 ^ 64) < i)&&decide (i < 2 ^ 64)
noncomputable def Zp:Nat:=1000000

noncomputable def UB(op:Operator)(i j:Int):Ot Int:=
 match op with
 |.Add=>some (i+j)
 |.Sub=>some (i - j)
 |.Mult=>if Z1 i||Z1 j then some (i * j) else none
 |.FloorDiv=>if 0 < j/\j < 1073741824 then some (i / j) else if j < 0/\-1073741824 < j then some (i.fdiv j) else none
 |.Mod=>if 0 < j then some (i % j) else if j < 0 then some (i.fmod j) else none
 |.LShift=>if 0<=j/\j<=1000/\Z1 i=true then some (i * 2 ^ j.toNat) else none
 |.BitAnd=>if 0<=i/\0<=j then some ((i.toNat &&& j.toNat:Nat):Int) else if 0<=i/\j < 0 then some (i - ((i.toNat &&& (-j - 1).toNat:Nat):Int)) else none
 |.RShift=>if 0<=j/\j<=1000 then some (i / 2 ^ j.toNat) else none
 |_=>none
noncomputable def Wv:Operator->Bool
 |.Add=>true
 |_=>false
noncomputable def XM:Operator->Bool
 |.Mult=>true
 |_=>false
noncomputable def ZfY(a b:Nat)(st:Za):Res:=match st[a]?,st[b]? with
 |some (_,xs),some (_,ys)=>if xs.length+ys.length<=Zp then some (.lst st.length,st++[(true,xs++ys)]) else none
 |_,_=>none
noncomputable def Zg5(a:Nat)(j:Int)(st:Za):Res:=match st[a]? with
 |some (true,[x])=>if j<=1000/\-1000<=j then some (.lst st.length,st++[(true,List.replicate j.toNat x)]) else none
 |_=>none
noncomputable def ZmG(xs:Li D)(j:Int)(st:Za):Res:=match xs with
 |[x]=>if j<=1000/\-1000<=j then some (.tup (List.replicate j.toNat x),st) else none
 |_=>none
noncomputable def Jo(op:Operator)(x y:D)(st:Za):Res:=
 match x,y with
 |.int i,.int j=>match UB op i j with
  |some k=>some (.int k,st)
  |none=>none
 |.tup xs,.tup ys=>if Wv op=true/\xs.length+ys.length<=Zp then some (.tup (xs++ys),st) else none
 |.tup xs,.int j=>if XM op=true then ZmG xs j st else none
 |.lst a,.lst b=>if Wv op=true then ZfY a b st else none
 |.lst a,.int j=>if XM op=true then Zg5 a j st else none
 |_,_=>none

noncomputable def ZbL(_:Za)(_ _:Li D):Ot Bool:=none
noncomputable def ZcB(xs ys:Li D):Ot Bool:=if (xs.isEmpty||ys.isEmpty)=true then some (xs.isEmpty&&ys.isEmpty) else if Xk 7 xs&&Xk 7 ys then some (Yo xs ys) else none
noncomputable def Zkz(st:Za)(xs:Li D):D->Ot Bool
 |.tup ys=>(match eqT xs (.tup ys) with
  |some k=>some k
  |none=>ZbL st xs ys)
 |_=>none
noncomputable def Zky(st:Za)(a:Nat):D->Ot Bool
 |.lst b=>(o2 (fun(c d:Qs)=>ZcB c.2 d.2) st[a]? st[b]?).join
 |_=>none
noncomputable def eqS(st:Za)(x y:D):Ot Bool:=match x with
 |.lst a=>Zky st a y
 |.tup xs=>Zkz st xs y
 |x=>eqD x y

noncomputable def XG:Int->Li D->Ot Bool
 |_,[]=>some false
 |k,.int i :: r=>(XG k r).map fun b=>decide (i=k)||b
 |_,_=>none
noncomputable def XH:Str->Li D->Ot Bool
 |_,[]=>some false
 |k,.str i :: r=>(XH k r).map fun b=>decide (i=k)||b
 |_,_=>none

noncomputable def Zgz:D->Ot Int
 |.int i=>some i
 |_=>none
noncomputable def Z2:Li Str->Li D->Str->Ot D
 |k :: ks,v :: vs,x=>if k=x then some v else Z2 ks vs x
 |_,_,_=>none
noncomputable def ZaU(f:Int->Int->Bool):D->D->Ot Bool
 |.int i,.int j=>some (f i j)
 |_,_=>none
noncomputable def ltD(x y:D):Ot Bool:=ZaU (fun i j=>decide (i < j)) x y
noncomputable def ltS(_:Za)(x y:D):Ot Bool:=ltD x y
noncomputable def inS(st:Za)(x y:D):Ot Bool:=match x,y with
 |.int k,.lst a=>match st[a]? with
  |some (_,xs)=>XG k xs
  |none=>none
 |.str k,.lst a=>match st[a]? with
  |some (_,xs)=>XH k xs
  |none=>none
 |.int k,.tup xs=>XG k xs
 |.str k,.tup xs=>XH k xs
 |.str k,.dct ks vs=>some (Z2 ks vs k).isSome
 |_,_=>none
noncomputable def niS(st:Za)(x y:D):Ot Bool:=match y with
 |.dct _ _=>none
 |y=>(inS st x y).map not
noncomputable def isN:D->Ot Bool
 |.non=>some true
 |.int _=>some false
 |.str _=>some false
 |.bl _=>some false
 |.tup _=>some false
 |.lst _=>some false
 |.dct _ _=>none
 |.obj _=>none
 |.kt _=>none
 |.dic _=>none
noncomputable def isB(b:Bool):D->Ot Bool
 |.bl a=>some (a==b)
 |_=>none
noncomputable def isD(x:D):D->Ot Bool
 |.non=>isN x
 |.bl b=>isB b x
 |_=>none
noncomputable def Ziq(op:CmpOp)(x y:D)(st:Za):Ot Bool:=
 match op with
 |.Lt=>ltS st x y
 |.LtE=>ZaU (fun i j=>decide (i<=j)) x y
 |.Gt=>ZaU (fun i j=>decide (j < i)) x y
 |.GtE=>ZaU (fun i j=>decide (j<=i)) x y
 |.Eq=>eqS st x y
 |.NotEq=>(eqS st x y).map not
 |.In=>inS st x y
 |.NotIn=>niS st x y
 |.Is=>isD x y
 |.IsNot=>(isD x y).map not

noncomputable def ixN(n:Nat)(i:Int):Ot Nat:=if 0<=i then (if i < n then some i.toNat else none) else if -(n:Int)<=i then some (i+n).toNat else none
noncomputable def atD(xs:Li D)(i:Int):Ot D:=(ixN xs.length i).bind fun j=>xs[j]?
noncomputable def ixD(x y:D)(st:Za):Ot D:=
 match x,y with
 |.tup xs,.int i=>atD xs i
 |.lst a,.int i=>match st[a]? with
  |some (_,xs)=>atD xs i
  |none=>none
 |.dct ks vs,.str k=>Z2 ks vs k
 |.kt ks,.int i=>atD (ks.map .str) i
 |_,_=>none

noncomputable def sIx(n d:Nat):Ot Int->Nat
 |none=>d
 |some i=>if i < 0 then (i+n).toNat else Nat.min i.toNat n
noncomputable def Zcy(xs:Li D)(lo hi:Ot Int):Li D:=(xs.drop (sIx xs.length 0 lo)).take (sIx xs.length xs.length hi - sIx xs.length 0 lo)
noncomputable def YO(x:D)(lo hi:Ot Int)(st:Za):Res:=
 match x with
 |.tup xs=>if sIx xs.length 0 lo=0/\sIx xs.length xs.length hi=xs.length then some (.tup xs,st) else some (.tup (Zcy xs lo hi),st)
 |.lst a=>match st[a]? with
  |some (_,xs)=>some (.lst st.length,st++[(true,Zcy xs lo hi)])
  |none=>none
 |_=>none

noncomputable def ZiR(x:D)(st:Za):Ot Int:=
 match x with
 |.tup xs=>some xs.length
 |.lst a=>match st[a]? with
  |some (_,xs)=>some xs.length
  |none=>none
 |.kt ks=>some ks.length
 |_=>none

noncomputable def ZgD(T:Ty):D->Ot Bool
 |.int _=>some (decide (T=.int))
 |.bl _=>some (decide (T=.int)||decide (T=.bool))
 |.str _=>some (decide (T=.str))
 |.tup _=>some (decide (T=.tuple))
 |.non=>some false
 |_=>none

noncomputable def X5(rng:Bool)(x:D):Ot (Li D):=
 match rng,x with
 |true,.int n=>if n < 2 ^ 62/\-(2 ^ 62)<=n then some ((List.range n.toNat).map fun(k:Nat)=>D.int (k:Int)) else none
 |false,.tup xs=>some xs
 |_,_=>none

noncomputable def Yz(a b c:Int):Nat:=if 0 < c then (if a < b then ((b - a - 1) / c+1).toNat else 0) else (if b < a then ((a - b - 1) / (-c)+1).toNat else 0)
noncomputable def Y4(a b c:Int):Bool:=decide ((-(2 ^ 30) < a/\a < 2 ^ 30)/\(-(2 ^ 30) < b/\b < 2 ^ 30)/\(c=1\/c=-1\/c=2\/c=3\/c=4))
noncomputable def Y9(a b c:Int):Li Int:=(List.range (Yz a b c)).map fun(k:Nat)=>a+k * c
noncomputable def V9:Li D->Ot (Li Int)
 |[]=>some []
 |x :: r=>o2 List.cons (Zgz x) (V9 r)
noncomputable def Q1:Li Int->Ot (Li Int)
 |[a,b]=>og (Y4 a b 1=true) (some (Y9 a b 1))
 |[a,b,c]=>og (Y4 a b c=true) (some (Y9 a b c))
 |_=>none
noncomputable def ZaJ:D->Ot (Li Int)
 |.tup xs=>(V9 xs).bind Q1
 |_=>none
noncomputable def YS(ok:Za->Prop)(f:D->Za->Res)(c:D->Za->Res):Li D->Za->Ot (Li D×Za)
 |[],st=>open Classical in if ok st then some ([],st) else none
 |x :: xs,st=>open Classical in if ok st then (match c x st with
  |some (.bl true,st1)=>match f x st1 with
   |some (y,st2)=>match YS ok f c xs st2 with
    |some (ys,st3)=>some (y :: ys,st3)
    |none=>none
   |none=>none
  |some (.bl false,st1)=>YS ok f c xs st1
  |_=>none) else none
noncomputable def Zb4(rng:Bool)(x:D)(st:Za):Ot (Li D×(Za->Prop)):=match X5 rng x with
 |some xs=>some (xs,fun _=>True)
 |none=>match rng,x with
  |false,.lst a=>match st[a]? with
   |some c=>some (c.2,fun s=>s[a]?=some c)
   |none=>none
  |_,_=>none

noncomputable def X2:Nat->Li D->Li D
 |_,[]=>[]
 |k,x :: xs=>.tup [.int (k:Int),x] :: X2 (k+1) xs
noncomputable def Qo(x:D)(st:Za):Ot (Li D×(Za->Prop)):=match x with
 |.tup xs=>some (X2 0 xs,fun _=>True)
 |.lst a=>match st[a]? with
  |some c=>some (X2 0 c.2,fun s=>s[a]?=some c)
  |none=>none
 |_=>none

noncomputable def ZgC:D->Bool
 |.tup [_,_]=>true
 |_=>false
noncomputable def Zb5(x:D)(_:Za):Ot (Li D×(Za->Prop)):=match x with
 |.tup xs=>if xs.all ZgC=true then some (xs,fun _=>True) else none
 |_=>none

noncomputable abbrev Ev:=Env->Za->Res
noncomputable def Yh(fa:Ev)(g:D->Za->Res):Ev:=fun ρ st=>match fa ρ st with
 |some (x,st1)=>g x st1
 |none=>none
noncomputable def YV(fa fb:Ev)(g:D->D->Za->Res):Ev:=fun ρ st=>match fa ρ st with
 |some (x,st1)=>match fb ρ st1 with
  |some (y,st2)=>g x y st2
  |none=>none
 |none=>none
noncomputable def Zad(fa fb fc:Ev)(g:D->D->D->Za->Res):Ev:=fun ρ st=>match fa ρ st with
 |some (x,st1)=>match fb ρ st1 with
  |some (y,st2)=>match fc ρ st2 with
   |some (z,st3)=>g x y z st3
   |none=>none
  |none=>none
 |none=>none
noncomputable def XX(fc ft ff:Ev):Ev:=fun ρ st=>match fc ρ st with
 |some (.bl true,st1)=>ft ρ st1
 |some (.bl false,st1)=>ff ρ st1
 |_=>none
noncomputable def WV(i:Nat):Ev:=fun ρ st=>match ρ[i]? with
 |some (some d)=>some (d,st)
 |_=>none
noncomputable def evC(d:D):Ev:=fun _ st=>some (d,st)
noncomputable def ZgO:D->Za->Res
 |.int i,st=>some (.int (-i),st)
 |_,_=>none
noncomputable def ZcQ:D->Za->Res
 |.bl k,st=>some (.bl (!k),st)
 |_,_=>none
noncomputable def Zcu(op:CmpOp)(x y:D)(st:Za):Res:=match Ziq op x y st with
 |some k=>some (.bl k,st)
 |none=>none
noncomputable def Zei:D->Za->Res
 |.tup xs,st=>some (.lst st.length,st++[(true,xs)])
 |_,_=>none
noncomputable def Vr:D->D->Za->Res
 |x,.tup xs,st=>if xs.length < 1000 then some (.tup (x :: xs),st) else none
 |_,_,_=>none
noncomputable def ixR(x y:D)(st:Za):Res:=match ixD x y st with
 |some d=>some (d,st)
 |none=>none
noncomputable def WK:D->D->D->Za->Res
 |x,.non,.non,st=>YO x none none st
 |x,.int i,.non,st=>YO x (some i) none st
 |x,.non,.int j,st=>YO x none (some j) st
 |x,.int i,.int j,st=>YO x (some i) (some j) st
 |_,_,_,_=>none
noncomputable def ZbM:D->Za->Res
 |.int i,st=>some (.int i,st)
 |_,_=>none
noncomputable def Jr(g:Fn)(ds:Li D):D->Za->Res
 |.tup xs,st=>g (xs++ds) st
 |_,_=>none
noncomputable def ZbD(F:Nat->Fn)(tab:Li (Nat×Nat)):D->D->Za->Res
 |.obj i,.tup xs,st=>match tab.lookup i with
  |some j=>F j (.obj i :: xs) st
  |none=>none
 |_,_,_=>none
noncomputable def QE(k:Str):Li Str->Ot Nat
 |[]=>none
 |a :: r=>if a=k then some 0 else (QE k r).map (·+1)
noncomputable def Zhy:D->D->Za->Res
 |.kt ks,.tup [.str k],st=>match QE k ks with
  |some i=>some (.int (i:Int),st)
  |none=>none
 |_,_,_=>none
noncomputable def ZcL(x:D)(st:Za):Res:=match ZiR x st with
 |some n=>some (.int n,st)
 |none=>none
noncomputable def Vp:D->Za->Res
 |.tup xs,st=>some (.tup xs,st)
 |.lst l,st=>match st[l]? with
  |some (_,xs)=>some (.tup xs,st)
  |none=>none
 |_,_=>none
noncomputable def U6:D->Za->Res
 |.tup xs,st=>some (.lst st.length,st++[(true,xs)])
 |.lst l,st=>match st[l]? with
  |some (_,xs)=>some (.lst st.length,st++[(true,xs)])
  |none=>none
 |_,_=>none
noncomputable def ZgM:D->D->Za->Res
 |.int i,.int j,st=>some (.int (if j < i then j else i),st)
 |_,_,_=>none
noncomputable def ZgK:D->D->Za->Res
 |.int i,.int j,st=>some (.int (if j > i then j else i),st)
 |_,_,_=>none
noncomputable def ZaH(T:Ty)(x:D)(st:Za):Res:=match ZgD T x with
 |some k=>some (.bl k,st)
 |none=>none
noncomputable def Zar:D->Za->Res
 |.int n,st=>if -1000<=n/\n<=1000 then some (.tup ((List.range n.toNat).map fun(k:Nat)=>D.int (k:Int)),st) else none
 |_,_=>none
noncomputable def U7(ks:Li Str)(ds:Li D):D->Za->Res
 |.str k,st=>match Z2 ks ds k with
  |some d=>some (d,st)
  |none=>none
 |_,_=>none
noncomputable def getD:D->D->D->Za->Res
 |.dct ks vs,.str k,d,st=>some ((Z2 ks vs k).getD d,st)
 |_,_,_,_=>none
noncomputable def ZiL(ng:Bool):D->D->Za->Res
 |.int x,.int n,st=>if -(2 ^ 62)<=n/\n < 2 ^ 62 then some (.bl (ng != decide (0<=x/\x < n)),st) else none
 |_,_,_=>none
noncomputable def one(d:D):Li (Ot D):=[some d]
noncomputable def two:D->Li (Ot D)
 |.tup [a,b]=>[some a,some b]
 |_=>[]
noncomputable def Xj(b:D->Li (Ot D))(ρ:Env)(fr:Li Nat)(d:D):Env:=b d++fr.map fun i=>(ρ[i]?).join
noncomputable def WT(b:D->Li (Ot D))(w:D->Za->Ot (Li D×(Za->Prop)))(fr:Li Nat)(fi fe fc:Ev):Ev:=fun ρ st=>match fi ρ st with
 |some (x,st1)=>match w x st1 with
  |some (xs,ok)=>if xs.length<=1000 then
    match YS ok (fun d s=>fe (Xj b ρ fr d) s) (fun d s=>fc (Xj b ρ fr d) s) xs st1 with
    |some (ys,st2)=>some (.lst st2.length,st2++[(true,ys)])
    |none=>none
   else none
  |none=>none
 |none=>none

noncomputable def ev(F:Nat->Fn):CE->Ev
 |.var i=>WV i
 |.cst d=>evC d
 |.bin op a b=>YV (ev F a) (ev F b) (Jo op)
 |.neg a=>Yh (ev F a) ZgO
 |.cmp op a b=>YV (ev F a) (ev F b) (Zcu op)
 |.not a=>Yh (ev F a) ZcQ
 |.and a b=>XX (ev F a) (ev F b) (evC (.bl false))
 |.or a b=>XX (ev F a) (evC (.bl true)) (ev F b)
 |.ife c a b=>XX (ev F c) (ev F a) (ev F b)
 |.tupE a=>ev F a
 |.lstE a=>Yh (ev F a) Zei
 |.aN=>evC (.tup [])
 |.aC a r=>YV (ev F a) (ev F r) Vr
 |.ix a b=>YV (ev F a) (ev F b) ixR
 |.slice a lo hi=>Zad (ev F a) (ev F lo) (ev F hi) WK
 |.nop=>evC .non
 |.part a=>Yh (ev F a) ZbM
 |.call f a ds=>Yh (ev F a) (Jr (F f) ds)
 |.len a=>Yh (ev F a) ZcL
 |.tOf a=>Yh (ev F a) Vp
 |.listOf a=>Yh (ev F a) U6
 |.intOf _=>fun _ _=>none
 |.min a b=>YV (ev F a) (ev F b) ZgM
 |.max a b=>YV (ev F a) (ev F b) ZgK
 |.isi T a=>Yh (ev F a) (ZaH T)
 |.rs _ _=>fun _ _=>none
 |.inv _=>fun _ _=>none
 |.tupR a=>Yh (ev F a) Zar
 |.look ks ds a=>Yh (ev F a) (U7 ks ds)
 |.dget _ _ _=>fun _ _=>none
 |.inR ng a b=>YV (ev F a) (ev F b) (ZiL ng)
 |.all _=>fun _ _=>none
 |.any _=>fun _ _=>none
 |.comp rng fr it elt cnd=>WT one (Zb4 rng) fr (ev F it) (ev F elt) (ev F cnd)
 |.comp2 fr it elt cnd=>WT two Qo fr (ev F it) (ev F elt) (ev F cnd)
 |.compT fr it elt cnd=>WT two Zb5 fr (ev F it) (ev F elt) (ev F cnd)
 |.lstR _ _=>fun _ _=>none
 |.new i=>evC (.obj i)
 |.meth tab o a=>YV (ev F o) (ev F a) (ZbD F tab)
 |.isc _ _=>fun _ _=>none
 |.tix o a=>YV (ev F o) (ev F a) Zhy
 |.dict _ _=>fun _ _=>none
 |.dnew=>fun _ _=>none

inductive Fl where
 |nx (ρ:Env)|rt (d:D)|bk (ρ:Env)|ct (ρ:Env)

noncomputable def Zz(ρ:Env)(i:Nat)(d:D):Env:=ρ.set i (some d)

noncomputable def YA(body:D->Env->Za->Ot (Fl×Za)):Li D->Env->Za->Ot (Fl×Za)
 |[],ρ,st=>some (.nx ρ,st)
 |d :: ds,ρ,st=>match body d ρ st with
  |some (.nx ρ',st')=>YA body ds ρ' st'
  |some (.ct ρ',st')=>YA body ds ρ' st'
  |some (.bk ρ',st')=>some (.nx ρ',st')
  |some (.rt v,st')=>some (.rt v,st')
  |none=>none
noncomputable def Yg(body:D->Env->Za->Ot (Fl×Za))(a:Nat):Nat->Nat->Env->Za->Ot (Fl×Za)
 |0,i,ρ,st=>match st[a]? with
  |some (_,xs)=>if xs.length<=i then some (.nx ρ,st) else none
  |none=>none
 |n+1,i,ρ,st=>match st[a]? with
  |some (_,xs)=>match xs[i]? with
   |none=>some (.nx ρ,st)
   |some d=>match body d ρ st with
    |some (.nx ρ',st')=>Yg body a n (i+1) ρ' st'
    |some (.ct ρ',st')=>Yg body a n (i+1) ρ' st'
    |some (.bk ρ',st')=>some (.nx ρ',st')
    |some (.rt v,st')=>some (.rt v,st')
    |none=>none
  |none=>none

noncomputable abbrev Ex:=Env->Za->Ot (Fl×Za)
noncomputable def UK(f g:Ex):Ex:=fun ρ st=>match f ρ st with
 |some (.nx ρ',st')=>g ρ' st'
 |r=>r
noncomputable def Ze3(f:Ev):Ex:=fun ρ st=>match f ρ st with
 |some (d,st')=>some (.rt d,st')
 |none=>none
noncomputable def Zag(i:Nat)(f:Ev):Ex:=fun ρ st=>match f ρ st with
 |some (d,st')=>some (.nx (Zz ρ i d),st')
 |none=>none
noncomputable def Zae(i j:Nat)(f:Ev):Ex:=fun ρ st=>match f ρ st with
 |some (.tup [x,y],st')=>some (.nx (Zz (Zz ρ i x) j y),st')
 |_=>none
noncomputable def Zaf(i j l:Nat)(f:Ev):Ex:=fun ρ st=>match f ρ st with
 |some (.tup [x,y,z],st')=>some (.nx (Zz (Zz (Zz ρ i x) j y) l z),st')
 |_=>none
noncomputable def Zc8(f:Ev):Ex:=fun ρ st=>match f ρ st with
 |some (_,st')=>some (.nx ρ,st')
 |none=>none
noncomputable def ZfM(a:Nat)(d:D)(st:Za):Ot Za:=match st[a]? with
 |some (true,xs)=>if xs.length < Zp then some (st.set a (true,xs++[d])) else none
 |_=>none
noncomputable def Jc(a:Nat)(j:Int)(d:D)(st:Za):Ot Za:=match st[a]? with
 |some (true,xs)=>match ixN xs.length j with
  |some p=>some (st.set a (true,xs.set p d))
  |none=>none
 |_=>none
noncomputable def Zdc(i:Nat)(f:Ev):Ex:=fun ρ st=>match ρ[i]? with
 |some (some (.lst a))=>match f ρ st with
  |some (d,st')=>match ZfM a d st' with
   |some st2=>some (.nx ρ,st2)
   |none=>none
  |none=>none
 |_=>none
noncomputable def ZiA(a b:Nat)(st:Za):Ot Za:=match st[a]?,st[b]? with
 |some (true,xs),some (true,ys)=>if xs.length+ys.length<=Zp then some (st.set a (true,xs++ys)) else none
 |_,_=>none
noncomputable def ZdF(i:Nat)(f:Ev):Ex:=fun ρ st=>match ρ[i]? with
 |some (some (.lst a))=>match f ρ st with
  |some (.lst b,st')=>match ZiA a b st' with
   |some st2=>some (.nx ρ,st2)
   |none=>none
  |_=>none
 |_=>none
noncomputable def ZeV(i:Nat)(k f:Ev):Ex:=fun ρ st=>match f ρ st with
 |some (d,st1)=>match ρ[i]? with
  |some (some (.lst a))=>match k ρ st1 with
   |some (.int j,st2)=>match Jc a j d st2 with
    |some st3=>some (.nx ρ,st3)
    |none=>none
   |_=>none
  |_=>none
 |none=>none
noncomputable def ZcI(c:Ev)(f g:Ex):Ex:=fun ρ st=>match c ρ st with
 |some (.bl true,st1)=>f ρ st1
 |some (.bl false,st1)=>g ρ st1
 |_=>none
noncomputable def JH(i:Nat)(rng:Bool)(it:Ev)(b:Ex):Ex:=fun ρ st=>match it ρ st with
 |some (x,st1)=>match X5 rng x with
  |some xs=>YA (fun d ρ s=>b (Zz ρ i d) s) xs ρ st1
  |none=>match rng,x with
   |false,.lst a=>match st1[a]? with
    |some (_,xs)=>Yg (fun d ρ s=>b (Zz ρ i d) s) a xs.length 0 ρ st1
    |none=>none
   |_,_=>none
 |none=>none
noncomputable def JE(i:Nat)(it:Ev)(b:Ex):Ex:=fun ρ st=>match it ρ st with
 |some (x,st1)=>match ZaJ x with
  |some xs=>YA (fun d ρ s=>b (Zz ρ i d) s) (xs.map .int) ρ st1
  |none=>none
 |none=>none
noncomputable def YZ(ok:Za->Prop)(body:D->D->Env->Za->Ot (Fl×Za)):Li (D×D)->Env->Za->Ot (Fl×Za)
 |[],ρ,st=>open Classical in if ok st then some (.nx ρ,st) else none
 |p :: ps,ρ,st=>open Classical in if ok st then (match body p.1 p.2 ρ st with
  |some (.nx ρ',st')=>YZ ok body ps ρ' st'
  |some (.ct ρ',st')=>YZ ok body ps ρ' st'
  |some (.bk ρ',st')=>some (.nx ρ',st')
  |some (.rt v,st')=>some (.rt v,st')
  |none=>none) else none
noncomputable def JG(i j:Nat)(it:Ev)(b:Ex):Ex:=fun ρ st=>match it ρ st with
 |some (.tup [.lst la,.lst lb],st1)=>match st1[la]?,st1[lb]? with
  |some ca,some cb=>YZ (fun s=>s[la]?=some ca/\s[lb]?=some cb) (fun x y ρ s=>b (Zz (Zz ρ i x) j y) s) (ca.2.zip cb.2) ρ st1
  |_,_=>none
 |_=>none
noncomputable def UV:Nat->Li D->Li (D×D)
 |_,[]=>[]
 |k,x :: xs=>(.int (k:Int),x) :: UV (k+1) xs
noncomputable def Zh1(x:D)(st:Za):Ot (Li D×(Za->Prop)):=match x with
 |.tup xs=>some (xs,fun _=>True)
 |.lst a=>match st[a]? with
  |some c=>some (c.2,fun s=>s[a]?=some c)
  |none=>none
 |_=>none
noncomputable def U2(i j:Nat)(it:Ev)(b:Ex):Ex:=fun ρ st=>match it ρ st with
 |some (x,st1)=>match Zh1 x st1 with
  |some (xs,ok)=>YZ ok (fun x y ρ s=>b (Zz (Zz ρ i x) j y) s) (UV 0 xs) ρ st1
  |none=>none
 |none=>none
noncomputable def ZjO(i j l:Nat)(b:Ex)(d:D)(ρ:Env)(s:Za):Ot (Fl×Za):=match d with
 |.tup [x,y,z]=>b (Zz (Zz (Zz ρ i x) j y) l z) s
 |_=>none
noncomputable def JF(i j l:Nat)(it:Ev)(b:Ex):Ex:=fun ρ st=>match it ρ st with
 |some (.tup xs,st1)=>YA (ZjO i j l b) xs ρ st1
 |_=>none


noncomputable def ex(F:Nat->Fn):CS->Ex
 |.skip=>fun ρ st=>some (.nx ρ,st)
 |.seq a b=>UK (ex F a) (ex F b)
 |.ret e=>Ze3 (ev F e)
 |.set i e=>Zag i (ev F e)
 |.app i e=>Zdc i (ev F e)
 |.ext i e=>ZdF i (ev F e)
 |.put i k e=>ZeV i (ev F k) (ev F e)
 |.ite c a b=>ZcI (ev F c) (ex F a) (ex F b)
 |.for1 i rng it b=>JH i rng (ev F it) (ex F b)
 |.forP i j it b=>JG i j (ev F it) (ex F b)
 |.forE i j it b=>U2 i j (ev F it) (ex F b)
 |.for3 i it b=>JE i (ev F it) (ex F b)
 |.set2 i j e=>Zae i j (ev F e)
 |.for4 i j l it b=>JF i j l (ev F it) (ex F b)
 |.for2 _ _ _ _=>fun _ _=>none
 |.whl _ _=>fun _ _=>none
 |.brk=>fun ρ st=>some (.bk ρ,st)
 |.cont=>fun ρ st=>some (.ct ρ,st)
 |.stop=>fun _ _=>none
 |.set3 i j l e=>Zaf i j l (ev F e)
 |.act e=>Zc8 (ev F e)
 |.dput _ _ _ _=>fun _ _=>none

structure FD where
 ps:Nat
 ns:Nat
 body:CS
noncomputable def fnD(F:Nat->Fn)(f:FD):Fn:=fun ds st=>
 if ds.length=f.ps then
  match ex F f.body (ds.map some++List.replicate (f.ns - ds.length) none) st with
  |some (.rt d,st')=>some (d,st')
  |some (.nx _,st')=>some (.non,st')
  |_=>none
 else none
noncomputable def run(T:Nat->Ot FD):Nat->Nat->Fn
 |0,_=>fun _ _=>none
 |n+1,i=>match T i with
  |some f=>fnD (run T n) f
  |none=>fun _ _=>none

inductive GV where
 |fn (i:Nat) (ps:Nat) (ds:List D)|cst (d:D)|blt|dct (ks:List Str) (ds:List D)|cls (i:Nat) (ms:List (Str×Nat×Nat)) (subs:List Nat)
noncomputable abbrev Gs:=Li (Str×GV)

noncomputable def CE.ofConst:Const->Ot CE
 |.none=>some (.cst .non)
 |.bool b=>some (.cst (.bl b))
 |.int i=>some (.cst (.int i))
 |.str x=>some (.cst (.str x))
 |_=>none
noncomputable def WY(sc:Scope)(x:Str):Bool:=!(x==("__debug__":Str))&&!(x==("__classdict__":Str))&&match sc.names.lookup x with
 |some .local=>true
 |some .cell=>true
 |some .free=>true
 |_=>false
noncomputable def ZV(sc:Scope)(x:Str):Bool:=!(x==("__debug__":Str))&&match sc.names.lookup x with
 |some .globalImplicit=>true
 |_=>false
noncomputable def Zlc(x:Str):Ot Ty:=
 if x = "int" then some .int else if x = "bool" then some .bool else if x = "str" then some .str else if x = "tuple" then some .tuple else none
noncomputable def Yf(sc:Scope):Li Str:=(sc.names.filter fun p=>decide (p.2=.free)).map (·.1)

noncomputable def Zih(f:Str)(x:CE):Ot CE:=
 if f = "len" then some (.len x) else if f = "tuple" then some (.tOf x) else if f = "list" then some (.listOf x) else none
noncomputable def Zii(f:Str)(x y:CE):Ot CE:=if f = "min" then some (.min x y) else if f = "max" then some (.max x y) else none
noncomputable def ZbA(G:Gs)(x:Str):Bool:=match G.lookup x with
 |some .blt=>true
 |_=>false
noncomputable def ZjP(G:Gs)(sc:Scope)(t:Str):Ot Ty:=if ZV sc t&&ZbA G t then Zlc t else none
noncomputable def Zb3(G:Gs)(sc:Scope):Expr->Ot Ty
 |.Name t _=>ZjP G sc t
 |_=>none
noncomputable def ZaA(_:Gs)(_:Scope)(_:Expr):Ot (Li Nat):=none
noncomputable def ZhT(m:Str)(k:Nat)(G:Gs)(x:Str):Ot (Nat×Nat):=match G.lookup x with
 |some (.cls i ms _)=>(match ms.lookup m with
  |some (j,ps)=>if ps=k+1 then some (i,j) else none
  |none=>none)
 |_=>none
noncomputable def Wk(m:Str)(k:Nat)(G:Gs):Li (Nat×Nat):=(G.map Prod.fst).filterMap (ZhT m k G)
noncomputable def ZhO:Expr->Ot (Str×Li Expr)
 |.Call (.Name f _) as [] _=>some (f,as)
 |_=>none
noncomputable def fnA(G:Gs)(sc:Scope)(nm:Str)(e:Expr):Ot (Li Expr):=(ZhO e).bind fun p=>og (p.1=nm/\ZV sc p.1=true/\ZbA G p.1=true) (some p.2)
noncomputable def Zi4:Li Expr->Ot Expr
 |[a]=>some a
 |_=>none
noncomputable def Z7(G:Gs)(sc:Scope)(e:Expr):Ot Expr:=(fnA G sc "range" e).bind Zi4
noncomputable def Jf(G:Gs)(sc:Scope)(f:Str)(a:Expr):Ot Expr:=if f = "tuple" then Z7 G sc a else none
noncomputable def ZaQ(_:Gs)(_:Scope)(_:Str)(_:Expr):Ot (Expr×Expr):=none
noncomputable def o3{α β γ δ:Type}(f:α->β->γ->δ):Ot α->Ot β->Ot γ->Ot δ
 |some x,b,c=>o2 (f x) b c
 |none,_,_=>none
theorem QV{α γ:Type}{P:γ->Prop}{f:α->γ}{a:Ot α}{c:γ}(h:a.map f=some c)(k:∀ x,a=some x->P (f x)):P c:=by
 cases a with
 |none=>cases h
 |some x=>cases h;exact k x rfl
theorem YB{α β γ:Type}{P:γ->Prop}{f:α->β->γ}{a:Ot α}{b:Ot β}{c:γ}(h:o2 f a b=some c)(k:∀ x y,a=some x->b=some y->P (f x y)):P c:=by
 cases a with
 |none=>cases h
 |some x=>cases b with
  |none=>cases h
  |some y=>cases h;exact k x y rfl rfl
theorem VD{α β γ δ:Type}{P:δ->Prop}{f:α->β->γ->δ}{a:Ot α}{b:Ot β}{d:Ot γ}{c:δ}(h:o3 f a b d=some c)(k:∀ x y z,a=some x->b=some y->d=some z->P (f x y z)):P c:=by
 cases a with
 |none=>cases h
 |some x=>exact YB (P:=P) h fun y z e e'=>k x y z rfl e e'
theorem WH{α:Type}{P:Prop}{p:Prop}[Decidable p]{o:Ot α}{c:α}(h:og p o=some c)(k:p->o=some c->P):P:=by
 unfold og at h;by_cases hp:p
 ·rw[if_pos hp]at h;exact k hp h
 ·rw[if_neg hp]at h;cases h
theorem j_e{α:Type}{P:Prop}{o:Ot (Ot α)}{c:α}(h:o.join=some c)(k:o=some (some c)->P):P:=by
 cases o with
 |none=>cases h
 |some x=>cases h;exact k rfl
noncomputable def Zdk(G:Gs)(sc:Scope)(f:Str)(a:Expr)(r:Expr->Ot CE):Ot CE:=match Jf G sc f a with
 |some e=>(r e).map .tupR
 |none=>match ZaQ G sc f a with
  |some (u,v)=>o2 .lstR (r u) (r v)
  |none=>((r a).map (Zih f)).join
noncomputable def Zdl(G:Gs)(sc:Scope)(f:Str)(a b:Expr)(r:Expr->Ot CE):Ot CE:=if f = "isinstance" then (match ZaA G sc b with
  |some l=>(r a).map (.isc l)
  |none=>o2 (fun x T=>.isi T x) (r a) (Zb3 G sc b)) else (o2 (Zii f) (r a) (r b)).join
noncomputable def Zdn(G:Gs)(sc:Scope)(f:Str)(as:Li Expr)(cs:Ot CE)(r:Expr->Ot CE):Ot CE:=
 if ZV sc f then (match G.lookup f with
   |some (.fn i ps ds)=>og (as.length<=ps/\ps<=as.length+ds.length) (cs.map fun c=>.call i c (ds.drop (as.length+ds.length - ps)))
   |some .blt=>match as with
    |[a]=>Zdk G sc f a r
    |[a,b]=>Zdl G sc f a b r
    |_=>none
   |some (.cls i _ _)=>match as with
    |[]=>some (.new i)
    |_=>none
   |_=>none) else none
noncomputable def ZhM(G:Gs)(ob:Expr)(m:Str)(ap:Pos)(as:Li Expr)(cp:Pos)(cs:Ot CE)(r:Expr->Ot CE):Ot CE:=match ob with
 |.Name _ _=>og ((ap.endLine==cp.line)=true/\as.length < 20) (if m = "index" then og (as.length=1) (o2 .tix (r ob) cs) else o2 (.meth (Wk m as.length G)) (r ob) cs)
 |_=>none
noncomputable def Zkt(G:Gs)(sc:Scope)(f:Expr)(as:Li Expr)(cp:Pos)(cs:Ot CE)(r:Expr->Ot CE):Ot CE:=match f with
 |.Name f _=>Zdn G sc f as cs r
 |.Attribute ob m ap=>ZhM G ob m ap as cp cs r
 |_=>none
noncomputable def ZlM:Expr->Bool
 |.Slice ..=>true
 |_=>false
noncomputable def Wo(G:Gs)(sc:Scope)(e:Expr):Ot (Li Expr):=(fnA G sc "range" e).bind fun as=>og (as.length=2\/as.length=3) (some as)
noncomputable def W9(G:Gs)(sc:Scope)(e:Expr):Ot (Li Expr):=(fnA G sc "zip" e).bind fun as=>og (as.length=2) (some as)
noncomputable def VI(G:Gs)(sc:Scope)(e:Expr):Ot Expr:=(fnA G sc "enumerate" e).bind Zi4
noncomputable def VJ(G:Gs)(sc:Scope)(e:Expr):Ot Expr:=VI G sc e
noncomputable def nmE:Expr->Ot Str
 |.Name x _=>some x
 |_=>none
noncomputable def nmL:Li Expr->Ot (Li Str)
 |[a,b]=>o2 (fun x y=>[x,y]) (nmE a) (nmE b)
 |_=>none
noncomputable def tgN:Expr->Ot (Li Str)
 |.Name x _=>some [x]
 |.Tuple es _ _=>nmL es
 |_=>none
noncomputable def mkC(r:Ot (Ot Bool))(fr:Li Nat)(ci ce cc:CE):CE:=match r with
 |some (some b)=>.comp b fr ci ce cc
 |some none=>.comp2 fr ci ce cc
 |none=>.compT fr ci ce cc
noncomputable def X9(N:Li Str):Li Str->Ot (Li Nat)
 |[]=>some []
 |x :: r=>match N.idxOf? x,X9 N r with
  |some i,some is=>some (i :: is)
  |_,_=>none

noncomputable def Zen(G:Gs)(sc:Scope)(N:Li Str)(x:Str):Ot CE:=
 if WY sc x then (N.idxOf? x).map .var else if ZV sc x then (match G.lookup x with
  |some (.cst d)=>some (.cst d)
  |_=>none) else none
noncomputable def ZbC(G:Gs)(sc:Scope):Expr->Ot (Li Str×Li D)
 |.Name x _=>if ZV sc x then (match G.lookup x with
  |some (.dct ks ds)=>some (ks,ds)
  |_=>none) else none
 |_=>none
noncomputable def VR:Expr->Ot (Ot Expr×Ot Expr)
 |.Slice lo hi none _=>some (lo,hi)
 |_=>none
noncomputable def ZhX(_:Expr):Ot Expr:=none
noncomputable def ZlK:CE->Bool
 |.neg (.cst (.int 1))=>true
 |_=>false
noncomputable def Ua(sc:Scope)(x:Str):Bool:=match sc.names.lookup x with
 |some .cell=>true
 |some .free=>true
 |_=>false
noncomputable def XW(sc sc2:Scope)(xs:Li Str):Bool:=
 decide (sc2.kind=.function)&&(sc2.names.all fun p=>decide (p.2≠.cell))&&(xs.all fun x=>decide (sc2.names.lookup x=some .local))&&(sc2.names.all fun p=>!decide (p.2=.local)||decide (sc2.names.lookup p.1=some .local)) &&
 decide (xs++Yf sc2).Nodup&&(Yf sc2).all (fun y=>Ua sc y&&decide (sc2.names.lookup y=some .free))
noncomputable def ZiK(_:CmpOp):Ot Bool:=none
noncomputable def unC(op:UnaryOp)(a:Ot CE):Ot CE:=match op with
 |.Not=>a.map .not
 |.USub=>a.map .neg
 |_=>none
noncomputable def Zku(G:Gs)(sc:Scope)(f:Expr->Ot CE)(a:Ot CE):Li CmpOp->Li Expr->Ot CE
 |[op],[b]=>(match Z7 G sc b with
  |some e=>o3 .inR (ZiK op) a (f e)
  |none=>o2 (.cmp op) a (f b))
 |_,_=>none
noncomputable def ZhN(f:Expr->Ot CE)(op:BoolOp)(pos:Pos):Li Expr->Ot CE
 |[]=>none
 |[a]=>f a
 |a :: b :: r=>match op with
  |.And=>o2 .and (f a) (f (.BoolOp .And (b :: r) pos))
  |.Or=>o2 .or (f a) (f (.BoolOp .Or (b :: r) pos))
noncomputable def ZjJ(G:Gs)(sc:Scope)(f:Expr->Ot CE)(fo:Ot Expr->Ot CE)(a b:Expr):Ot CE:=match VR b with
 |some (lo,hi)=>o3 .slice (f a) (fo lo) (fo hi)
 |none=>match ZhX b with
  |some s=>(o2 (fun x y=>og (ZlK y=true) (some (.rs false x))) (f a) (f s)).join
  |none=>match ZbC G sc a with
   |some (ks,ds)=>(f b).map (.look ks ds)
   |none=>o2 .ix (f a) (f b)
noncomputable def itC(G:Gs)(sc:Scope)(it:Expr)(f:Expr->Ot CE):Li Str->Ot (Ot (Ot Bool)×CE)
 |[_]=>(match Z7 G sc it with
  |some a=>(f a).map fun c=>(some (some true),c)
  |none=>(f it).map fun c=>(some (some false),c))
 |_=>(match VI G sc it with
  |some a=>(f a).map fun c=>(some none,c)
  |none=>(f it).map fun c=>(none,c))
noncomputable def ifC(f:Expr->Ot CE):Li Expr->Ot CE
 |[]=>some (CE.cst (.bl true))
 |[c]=>f c
 |_=>none
noncomputable def ZhP(G:Gs)(sc sc2:Scope)(N:Li Str)(f:Expr->Ot CE)(g:Li Str->Expr->Ot CE)(elt:Expr):Li Comprehension->Ot CE
 |[⟨tg,it,ifs,0⟩]=>(match tgN tg with
  |none=>none
  |some xs=>og (XW sc sc2 xs=true) (o3 (fun fr p (q:CE×CE)=>mkC p.1 fr p.2 q.1 q.2) (X9 N (Yf sc2)) (itC G sc it f xs) (o2 Prod.mk (g (xs++Yf sc2) elt) (ifC (g (xs++Yf sc2)) ifs))))
 |_=>none
mutual
noncomputable def cE(G:Gs):Nat->Scope->Li Str->Expr->Ot CE
 |0,_,_,_=>none
 |n+1,sc,N,e=>match e with
  |.Constant c _ _=>CE.ofConst c
  |.Name x _=>Zen G sc N x
  |.BinOp a op b _=>o2 (.bin op) (cE G n sc N a) (cE G n sc N b)
  |.UnaryOp op a _=>unC op (cE G n sc N a)
  |.Compare a ops bs _=>Zku G sc (cE G n sc N) (cE G n sc N a) ops bs
  |.BoolOp op vs pos=>ZhN (cE G n sc N) op pos vs
  |.IfExp c a b _=>o3 .ife (cE G n sc N c) (cE G n sc N a) (cE G n sc N b)
  |.Tuple es _ _=>(cEs G n sc N es).map .tupE
  |.List es _=>(cEs G n sc N es).map .lstE
  |.Subscript a b _=>ZjJ G sc (cE G n sc N) (cO G n sc N) a b
  |.Call f as [] cp=>Zkt G sc f as cp (cEs G n sc N as) (cE G n sc N)
  |.ListComp elt gens sc2 _=>ZhP G sc sc2 N (cE G n sc N) (cE G n sc2) elt gens
  |_=>none
noncomputable def cEs(G:Gs):Nat->Scope->Li Str->Li Expr->Ot CE
 |0,_,_,_=>none
 |_+1,_,_,[]=>some .aN
 |n+1,sc,N,e :: es=>o2 .aC (cE G n sc N e) (cEs G n sc N es)
noncomputable def cO(G:Gs):Nat->Scope->Li Str->Ot Expr->Ot CE
 |0,_,_,_=>none
 |_+1,_,_,none=>some .nop
 |n+1,sc,N,some e=>(cE G n sc N e).map .part
end

noncomputable def X4:Expr->Bool
 |.ListComp ..=>true
 |.SetComp ..=>true
 |.DictComp ..=>true
 |_=>false
noncomputable def JR:Expr->Bool
 |.Tuple ..=>true
 |_=>false
noncomputable def Zkl(N:Li Str)(tg e:Expr)(c:Ot CE):Ot CS:=match tg with
 |.Name x _=>o2 .set (N.idxOf? x) c
 |.Tuple [.Name x _,.Name y _] _ _=>og ((X4 e||JR e)=false) (o3 (fun i j c=>og (i≠j) (some (.set2 i j c))) (N.idxOf? x) (N.idxOf? y) c).join
 |.Tuple [.Name x _,.Name y _,.Name z _] _ _=>og ((X4 e||JR e)=false) (o3 (fun i j (p:Nat×CE)=>.set3 i j p.1 p.2) (N.idxOf? x) (N.idxOf? y) (o2 Prod.mk (N.idxOf? z) c))
 |_=>none
noncomputable def ZhW(_:Expr):Ot (Expr×Expr):=none
noncomputable def Zk2(sc:Scope)(N:Li Str)(x:Str)(k e:Expr)(f:Expr->Ot CE):Ot CS:=og (X4 e=false/\ZlM k=false/\WY sc x=true) (match ZhW k with
 |some (a,b)=>o3 (fun i (p:CE×CE) c=>.dput i p.1 p.2 c) (N.idxOf? x) (o2 Prod.mk (f a) (f b)) (f e)
 |none=>o3 .put (N.idxOf? x) (f k) (f e))
noncomputable def ZiF(G:Gs)(sc:Scope)(N:Li Str)(f:Expr->Ot CE)(fs:Li Expr->Ot CE)(tg it:Expr)(b:Ot CS):Ot CS:=match tg with
 |.Name x _=>(match Wo G sc it with
  |some as=>o3 .for3 (N.idxOf? x) (fs as) b
  |none=>match Z7 G sc it with
   |some a=>o3 (fun i c b=>.for1 i true c b) (N.idxOf? x) (f a) b
   |none=>o3 (fun i c b=>.for1 i false c b) (N.idxOf? x) (f it) b)
 |.Tuple [.Name x _,.Name y _] _ _=>(o2 (fun i j=>og (i≠j) (some (i,j))) (N.idxOf? x) (N.idxOf? y)).join.bind fun p=>(match W9 G sc it with
  |some as=>o2 (.forP p.1 p.2) (fs as) b
  |none=>match VJ G sc it with
   |some e=>o2 (.forE p.1 p.2) (f e) b
   |none=>o2 (.for2 p.1 p.2) (f it) b)
 |.Tuple [.Name x _,.Name y _,.Name z _] _ _=>o3 (fun(p:Nat×Nat) (q:Nat×CE) b=>.for4 p.1 p.2 q.1 q.2 b) (o2 Prod.mk (N.idxOf? x) (N.idxOf? y)) (o2 Prod.mk (N.idxOf? z) (f it)) b
 |_=>none
noncomputable def Zkk(sc:Scope)(N:Li Str)(x m:Str)(ap cp:Pos)(c:Ot CE):Ot CS:=og (WY sc x=true/\(ap.endLine==cp.line)=true) (if m = "append" then o2 .app (N.idxOf? x) c else if m = "extend" then o2 .ext (N.idxOf? x) c else none)
noncomputable def Zki(sc:Scope)(N:Li Str)(f:Expr->Ot CE):Expr->Ot CS
 |.Call (.Name g fp) as kw cp=>(f (.Call (.Name g fp) as kw cp)).map .act
 |.Call (.Attribute (.Name x _) m ap) [e] [] cp=>Zkk sc N x m ap cp (f e)
 |_=>none
mutual
noncomputable def cS(G:Gs):Nat->Scope->Li Str->Stmt->Ot CS
 |0,_,_,_=>none
 |n+1,sc,N,s=>match s with
  |.Assign [.Subscript (.Name x _) k _] e _=>Zk2 sc N x k e (cE G n sc N)
  |.Assign [tg] e _=>Zkl N tg e (cE G n sc N e)
  |.Expr e _=>Zki sc N (cE G n sc N) e
  |.Return (some e) _=>(cE G n sc N e).map .ret
  |.If c a b _=>o3 .ite (cE G n sc N c) (cSs G n sc N a) (cSs G n sc N b)
  |.For tg it b [] _=>ZiF G sc N (cE G n sc N) (cEs G n sc N) tg it (cSs G n sc N b)
  |.Pass _=>some .skip
  |.Break _=>some .brk
  |.Continue _=>some .cont
  |.Raise _ _ _=>some .stop
  |_=>none
noncomputable def cSs(G:Gs):Nat->Scope->Li Str->Li Stmt->Ot CS
 |0,_,_,_=>none
 |_+1,_,_,[]=>some .skip
 |n+1,sc,N,s :: r=>o2 .seq (cS G n sc N s) (cSs G n sc N r)
end
end Dp


namespace Dp
open PySem PySem.Spec PyProof.Rows L2
class ClsTab where
 ca:Nat->Addr
variable [ClsTab]

theorem ZJ{X:Cx}{e:Expr}{t t':TE}(h:PE X e t)(i:∀ σ H Q,t' σ H Q->t σ H Q):PE X e t':=fun pQ s σ H Q I q=>h pQ s σ H Q I (i σ H Q q)
theorem Uq{X:Cx}{e:Expr}{t t':TT}(h:PT X e t)(i:∀ σ H Q,t' σ H Q->t σ H Q):PT X e t':=fun pQ s σ H Q I q=>h pQ s σ H Q I (i σ H Q q)
theorem ZeC{X:Cx}{e:Li Expr}{t t':TA}(h:PA X e t)(i:∀ σ H Q,t' σ H Q->t σ H Q):PA X e t':=fun pos pQ s σ H Q I q=>h pos pQ s σ H Q I (i σ H Q q)
theorem ZeN{X:Cx}{e:Ot Expr}{t t':TO}(h:PO X e t)(i:∀ σ H Q,t' σ H Q->t σ H Q):PO X e t':=fun pQ s σ H Q I q=>h pQ s σ H Q I (i σ H Q q)
theorem Z6{X:Cx}{e:Stmt}{t t':TS}(h:PS X e t)(i:∀ D σ H,t' D σ H->t D σ H):PS X e t':=fun pQ s σ H D I q=>h pQ s σ H D I (i D σ H q)
theorem ZbP{X:Cx}{e:Li Stmt}{t t':TS}(h:PSs X e t)(i:∀ D σ H,t' D σ H->t D σ H):PSs X e t':=fun pQ s σ H D I q=>h pQ s σ H D I (i D σ H q)

def KT(K:Fg)(a:Ad)(xs:Li V):Prop:=
 ∃ (o:Obj) (its:Array vL) (n:Nat),K.lookup a=some o/\o.cls=.type "tuple"/\o.data=.seq its n/\its.size<=sizeLine/\Vals xs its.toList
def TupAt(K:Fg)(H:Hp)(a:Ad)(xs:Li V):Prop:=H a=some (.tup xs)\/KT K a xs
theorem TupAt.sq{K:Fg}{H:Hp}{a:Ad}{xs:Li V}(h:TupAt K H a xs):SqT K H a xs:=by
 rcases h with h|h
 ·exact .inl (.inl h)
 ·exact .inr h
def Y6(H:Hp)(a:Ad):Prop:=∃ kvs,H a=some (.dT kvs)
def LA(ad:Li Ad)(H:Hp)(i:Nat)(a:Ad):Prop:=ad[i]?=some a/\¬Y6 H a
theorem QU{H:Hp}{a:Ad}{o:HO}(h:H a=some o)(n:∀ kvs,o≠.dT kvs):¬Y6 H a:=fun⟨kvs,z⟩=>n kvs (Option.some.inj (h.symm.trans z))
mutual
inductive Den(K:Fg)(ad:List Addr)(H:Hp):V->D->Prop where
 |non:Den K ad H .non .non
 |bl (b:Bool):Den K ad H (.bl b) (.bl b)
 |int (i:Int):Den K ad H (.int i) (.int i)
 |str (x:Str):Den K ad H (.str x) (.str x)
 |tup {a:Addr}{xs:List V}{ds:List D} (h:TupAt K H a xs) (r:Dens K ad H xs ds):Den K ad H (.ref a) (.tup ds)
 |lst {a:Addr}{i:Nat} (h:LA ad H i a):Den K ad H (.ref a) (.lst i)
 |dic {a:Addr}{i:Nat} (h:ad[i]?=some a) (n:Y6 H a):Den K ad H (.ref a) (.dic i)
 |dct {a:Addr}{kvs:List (Key×V)}{ks:List Str}{vs:List V}{ds:List D} (h:H a=some (.dK kvs)) (hk:kvs=(ks.zip vs).map fun p=>(Sum.inr p.1,p.2)) (nd:ks.Nodup/\ks≠[]) (hl:ks.length=vs.length) (r:Dens K ad H vs ds):Den K ad H (.ref a) (.dct ks ds)
 |obj {a dx:Addr}{i:Nat} (h:H a=some (.ins (ClsTab.ca i) dx [])) (n:a∉ad):Den K ad H (.ref a) (.obj i)
 |kt {a:Addr}{ks:List Str}{o:Obj}{its:Array Value}{n:Nat} (l:K.lookup a=some o) (c:o.cls=.type "tuple") (g:o.dict=none) (e:o.data=.seq its n) (z:its.size<=sizeLine) (r:Vals (ks.map V.str) its.toList):Den K ad H (.ref a) (.kt ks)
inductive Dens(K:Fg)(ad:List Addr)(H:Hp):List V->List D->Prop where
 |nil:Dens K ad H [] []
 |cons {v:V}{d:D}{vs:List V}{ds:List D} (h:Den K ad H v d) (r:Dens K ad H vs ds):Dens K ad H (v :: vs) (d :: ds)
end

structure Ext(ad:List Addr)(H:Hp)(ad':List Addr)(H':Hp):Prop where
 pre:∀ (i:Nat) (a:Addr),ad[i]?=some a->ad'[i]?=some a
 tup:∀ b xs,H b=some (.tup xs)->H' b=some (.tup xs)
 dk:∀ b kvs,H b=some (.dK kvs)->H' b=some (.dK kvs)
 keep:∀ b o,H b=some o->b∉ad->H' b=some o
 new:∀ b,b∈ad'->b∈ad\/H b=none
 kd:∀ (i:Nat) (a:Addr),ad[i]?=some a->(Y6 H a↔Y6 H' a)
theorem Ext.refl(ad:Li Ad)(H:Hp):Ext ad H ad H:=⟨fun _ _ h=>h,fun _ _ h=>h,fun _ _ h=>h,fun _ _ h _=>h,fun _ h=>.inl h,fun _ _ _=>Iff.rfl⟩
theorem Ext.trans{a1 a2 a3:Li Ad}{H1 H2 H3:Hp}(x:Ext a1 H1 a2 H2)(y:Ext a2 H2 a3 H3):Ext a1 H1 a3 H3:=by
 refine⟨fun i a h=>y.pre i a (x.pre i a h),fun b xs h=>y.tup b xs (x.tup b xs h),fun b xs h=>y.dk b xs (x.dk b xs h),fun b o h n=>?_,fun b h=>?_,fun i a h=>(x.kd i a h).trans (y.kd i a (x.pre i a h))⟩
 ·refine y.keep b o (x.keep b o h n) fun z=>?_
  rcases x.new b z with z|z
  ·exact n z
  ·rw[h]at z;cases z
 ·rcases y.new b h with z|z
  ·exact x.new b z
  ·cases e:H1 b with
   |none=>exact .inr rfl
   |some o=>
    by_cases q:b∈a1
    ·exact .inl q
    ·rw[x.keep b o e q]at z;cases z

theorem TupAt.mono{K:Fg}{ad ad':Li Ad}{H H':Hp}{a:Ad}{xs:Li V}(x:Ext ad H ad' H')(h:TupAt K H a xs):TupAt K H' a xs:=h.imp (x.tup _ _) id
theorem TupAt.upd{K:Fg}{H:Hp}{a p:Ad}{xs:Li V}{o o':HO}(hp:H p=some o)(ho:∀ xs,o≠.tup xs)(h:TupAt K H a xs):TupAt K (upd H p o') a xs:=by
 rcases h with h|h
 ·refine .inl ?_
  have n:a≠p:=fun z=>by subst z;rw[h]at hp;cases hp;exact ho _ rfl
  rw[upd_ne n];exact h
 ·exact .inr h
section
variable {K:Fg}{ad ad':Li Ad}{H H':Hp}
theorem ZjX{ks:Li Str}{vs:Li V}(h:ks≠[])(hl:ks.length=vs.length):(ks.zip vs).map (fun p=>((Sum.inr p.1:Key),p.2))≠[]:=by
 cases ks with
 |nil=>exact absurd rfl h
 |cons k ks=>cases vs with
  |nil=>cases hl
  |cons v vs=>exact List.cons_ne_nil _ _
structure Keeps(K:Fg)(ad ad':List Addr)(H H':Hp):Prop where
 t:∀ {a xs},TupAt K H a xs->TupAt K H' a xs
 l:∀ {i:Nat}{a:Addr},ad[i]?=some a->ad'[i]?=some a/\(Y6 H a↔Y6 H' a)
 k:∀ {a kvs},kvs≠[]->H a=some (.dK kvs)->H' a=some (.dK kvs)
 o:∀ {a C dx},H a=some (.ins C dx [])->a∉ad->H' a=some (.ins C dx [])/\a∉ad'
theorem Den.map(x:Keeps K ad ad' H H'){v:V}{d:D}(h:Den K ad H v d):Den K ad' H' v d:=
 Den.rec (motive_1:=fun v d _=>Den K ad' H' v d) (motive_2:=fun vs ds _=>Dens K ad' H' vs ds) .non .bl .int .str (fun h _ r=>.tup (x.t h) r) (fun h=>.lst ⟨(x.l h.1).1,fun z=>h.2 ((x.l h.1).2.mpr z)⟩) (fun h n=>.dic (x.l h).1 ((x.l h).2.mp n)) (fun h hk nd hl _ r=>.dct (x.k (fun z=>ZjX nd.2 hl (hk.symm.trans z)) h) hk nd hl r) (fun h n=>.obj (x.o h n).1 (x.o h n).2) .kt .nil (fun _ _ a b=>.cons a b) h
theorem Dens.map(x:Keeps K ad ad' H H'){vs:Li V}{ds:Li D}(h:Dens K ad H vs ds):Dens K ad' H' vs ds:=
 Dens.rec (motive_1:=fun _ _ _=>True) (motive_2:=fun vs ds _=>Dens K ad' H' vs ds) trivial (fun _=>trivial) (fun _=>trivial) (fun _=>trivial) (fun _ _ _=>trivial) (fun _=>trivial) (fun _ _=>trivial) (fun _ _ _ _ _ _=>trivial) (fun _ _=>trivial) (fun _ _ _ _ _ _=>trivial) .nil (fun a _ _ b=>.cons (a.map x) b) h
theorem Ext.keeps(x:Ext ad H ad' H'):Keeps K ad ad' H H':=⟨fun h=>h.mono x,fun h=>⟨x.pre _ _ h,x.kd _ _ h⟩,fun _ h=>x.dk _ _ h,fun h n=>⟨x.keep _ _ h n,fun z=>(x.new _ z).elim n fun q=>by rw[h]at q;cases q⟩⟩
theorem Den.mono(x:Ext ad H ad' H'){v:V}{d:D}(h:Den K ad H v d):Den K ad' H' v d:=h.map x.keeps
theorem Dens.mono(x:Ext ad H ad' H'){vs:Li V}{ds:Li D}(h:Dens K ad H vs ds):Dens K ad' H' vs ds:=h.map x.keeps
theorem ZiQ(x:∀ (i:Nat) (a:Ad),ad[i]?=some a->ad'[i]?=some a)(y:∀ b,b∈ad'->b∈ad\/∃ xs,H b=some (.lst xs)):Keeps K ad ad' H H:=⟨id,fun h=>⟨x _ _ h,Iff.rfl⟩,fun _ h=>h,fun h n=>⟨h,fun z=>(y _ z).elim n fun⟨xs,q⟩=>by rw[h]at q;cases q⟩⟩
theorem Dens.length:∀ {vs:Li V}{ds:Li D},Dens K ad H vs ds->vs.length=ds.length
 |_,_,.nil=>rfl
 |_,_,.cons _ r=>congrArg (·+1) (Dens.length r)
theorem Dens.get:∀ {vs:Li V}{ds:Li D}{i:Nat}{d:D},Dens K ad H vs ds->ds[i]?=some d->∃ v,vs[i]?=some v/\Den K ad H v d
 |_,_,_,_,.nil,e=>by simp at e
 |_,_,0,_,.cons h _,e=>by simp at e;subst e;exact⟨_,rfl,h⟩
 |_,_,i+1,d,.cons _ r,e=>by
  obtain⟨v,h1,h2⟩:=Dens.get (i:=i) (d:=d) r (by simpa using e)
  exact⟨v,by simpa using h1,h2⟩
theorem Dens.append:∀ {vs ws:Li V}{ds es:Li D},Dens K ad H vs ds->Dens K ad H ws es->Dens K ad H (vs++ws) (ds++es)
 |_,_,_,_,.nil,s=>s
 |_,_,_,_,.cons h r,s=>.cons h (Dens.append r s)
theorem Dens.take:∀ {vs:Li V}{ds:Li D} (n:Nat),Dens K ad H vs ds->Dens K ad H (vs.take n) (ds.take n)
 |_,_,0,_=>.nil
 |_,_,_+1,.nil=>.nil
 |_,_,n+1,.cons h r=>.cons h (Dens.take n r)
theorem Dens.drop:∀ {vs:Li V}{ds:Li D} (n:Nat),Dens K ad H vs ds->Dens K ad H (vs.drop n) (ds.drop n)
 |_,_,0,r=>r
 |_,_,_+1,.nil=>.nil
 |_,_,n+1,.cons _ r=>Dens.drop n r
theorem Dens.set{v:V}{d:D}(h:Den K ad H v d):∀ {vs:Li V}{ds:Li D} (n:Nat),Dens K ad H vs ds->Dens K ad H (vs.set n v) (ds.set n d)
 |_,_,_,.nil=>.nil
 |_,_,0,.cons _ r=>.cons h r
 |_,_,n+1,.cons q r=>.cons q (Dens.set h n r)
theorem Dens.rep{v:V}{d:D}(h:Den K ad H v d):∀ n:Nat,Dens K ad H (List.replicate n v) (List.replicate n d)
 |0=>.nil
 |n+1=>.cons h (Dens.rep h n)
theorem Den.ofInt{v:V}{i:Int}(h:Den K ad H v (.int i)):v=.int i:=by cases h;rfl
theorem Den.ofStr{v:V}{x:Str}(h:Den K ad H v (.str x)):v=.str x:=by cases h;rfl
theorem Den.ofBl{v:V}{b:Bool}(h:Den K ad H v (.bl b)):v=.bl b:=by cases h;rfl
theorem Den.ofDct{v:V}{ks:Li Str}{ds:Li D}(h:Den K ad H v (.dct ks ds)):∃ a vs,v=.ref a/\H a=some (.dK ((ks.zip vs).map fun p=>(Sum.inr p.1,p.2)))/\ks.length=vs.length/\Dens K ad H vs ds:=by
 cases h with
 |dct h hk nd hl r=>subst hk;exact⟨_,_,rfl,h,hl,r⟩
theorem Den.ofTup{v:V}{ds:Li D}(h:Den K ad H v (.tup ds)):∃ a xs,v=.ref a/\TupAt K H a xs/\Dens K ad H xs ds:=by
 cases h with
 |tup h r=>exact⟨_,_,rfl,h,r⟩
theorem Den.ofLst{v:V}{i:Nat}(h:Den K ad H v (.lst i)):∃ a,v=.ref a/\LA ad H i a:=by
 cases h with
 |lst h=>exact⟨_,rfl,h⟩
theorem Den.newL{a:Ad}{i:Nat}{xs:Li V}(h:ad[i]?=some a):Den K ad (upd H a (.lst xs)) (.ref a) (.lst i):=.lst ⟨h,QU upd_same fun _ z=>nomatch z⟩
theorem LA.mono{i:Nat}{a:Ad}(x:Ext ad H ad' H')(h:LA ad H i a):LA ad' H' i a:=⟨x.pre _ _ h.1,fun z=>h.2 ((x.kd _ _ h.1).mpr z)⟩

theorem Den.ofKt{v:V}{ks:Li Str}(h:Den K ad H v (.kt ks)):∃ a o its n,v=.ref a/\K.lookup a=some o/\(o.cls=.type "tuple"/\o.dict=none)/\o.data=.seq its n/\its.size<=sizeLine/\Vals (ks.map V.str) its.toList:=by
 cases h with
 |kt l c g e z r=>exact⟨_,_,_,_,rfl,l,⟨c,g⟩,e,z,r⟩
theorem Qk:∀ ks:Li Str,Dens K ad H (ks.map V.str) (ks.map D.str)
 |[]=>.nil
 |k :: ks=>.cons (.str k) (Qk ks)
theorem Den.ofObj{v:V}{i:Nat}(h:Den K ad H v (.obj i)):∃ a dx,v=.ref a/\H a=some (.ins (ClsTab.ca i) dx []):=by
 cases h with
 |obj h n=>exact⟨_,_,rfl,h⟩

def KL(K:Fg)(a:Ad)(xs:Li V):Prop:=
 ∃ (o:Obj) (its:Array vL) (n:Nat),(K.lookup a=some o/\o.cls=.type "list")/\(o.dict=none/\o.data=.seq its n)/\its.size<=sizeLine/\Vals xs its.toList
inductive Ents(K:Fg)(ad:List Addr)(H:Hp):List (List Key×V)->List D->Prop where
 |nil:Ents K ad H [] []
 |cons {i j:Int}{v:V}{d:D}{kvs:List (List Key×V)}{ds:List D} (h:Den K ad H v d) (r:Ents K ad H kvs ds):Ents K ad H (([.inl i,.inl j],v) :: kvs) (.tup [.int i,.int j,d] :: ds)
theorem Ents.map(x:Keeps K ad ad' H H'){kvs:Li (Li Key×V)}{ds:Li D}(h:Ents K ad H kvs ds):Ents K ad' H' kvs ds:=by
 induction h with
 |nil=>exact .nil
 |cons h _ ih=>exact .cons (h.map x) ih
theorem Ents.mono(x:Ext ad H ad' H'){kvs:Li (Li Key×V)}{ds:Li D}(h:Ents K ad H kvs ds):Ents K ad' H' kvs ds:=h.map x.keeps
inductive CellOk(K:Fg)(ad:List Addr)(H:Hp)(a:Addr)(c:Qs):Prop where
 |l {xs:List V} (n:¬Y6 H a) (r:Dens K ad H xs c.2) (h:(c.1=true/\H a=some (.lst xs))\/(c.1=false/\((∃ o,H a=some (.frz o (.lst xs)))\/KL K a xs)))
 |d {kvs:List (List Key×V)} (r:Ents K ad H kvs c.2) (e:c.1=true) (h:H a=some (.dT kvs))
structure StOk(K:Fg)(ad:List Addr)(H:Hp)(st:Za):Prop where
 len:ad.length=st.length
 nd:∀ (i j:Nat) (a:Addr) (c d:List D),ad[i]?=some a->ad[j]?=some a->st[i]?=some (true,c)->st[j]?=some (true,d)->i=j
 cell:∀ (i:Nat) (c:Qs),st[i]?=some c->∃ a,ad[i]?=some a/\CellOk K ad H a c

theorem CellOk.sq{a:Ad}{c:Qs}(h:CellOk K ad H a c)(n:¬Y6 H a):∃ xs,Dens K ad H xs c.2/\SqL K H a xs:=by
 cases h with
 |l _ r h=>
  obtain⟨_,e⟩|⟨_,⟨o,e⟩|⟨o,its,n,⟨h1,h2⟩,⟨h3,h4⟩,h5,h6⟩⟩:=h
  ·exact⟨_,r,.inl (.inl e)⟩
  ·exact⟨_,r,.inl (.inr ⟨o,e⟩)⟩
  ·exact⟨_,r,.inr ⟨o,its,n,h1,h2,h3,h4,h5,h6⟩⟩
 |d r e h=>exact absurd ⟨_,h⟩ n
theorem StOk.list{st:Za}{a:Ad}{i:Nat}{b:Bool}{ds:Li D}(S:StOk K ad H st)(h:LA ad H i a)(e:st[i]?=some (b,ds)):∃ xs,Dens K ad H xs ds/\SqL K H a xs:=by
 obtain⟨a',e',c⟩:=S.cell i _ e;rw[h.1]at e';cases e'
 exact c.sq h.2
theorem StOk.listM{st:Za}{a:Ad}{i:Nat}{ds:Li D}(S:StOk K ad H st)(h:LA ad H i a)(e:st[i]?=some (true,ds)):∃ xs,Dens K ad H xs ds/\H a=some (.lst xs):=by
 obtain⟨a',e',c⟩:=S.cell i _ e;rw[h.1]at e';cases e'
 cases c with
 |l _ r q=>
  obtain⟨_,q⟩|⟨q,_⟩:=q
  ·exact⟨_,r,q⟩
  ·cases q
 |d r _ q=>exact absurd ⟨_,q⟩ h.2
theorem StOk.dict{st:Za}{a:Ad}{i:Nat}{b:Bool}{ds:Li D}(S:StOk K ad H st)(h:ad[i]?=some a)(n:Y6 H a)(e:st[i]?=some (b,ds)):∃ kvs,Ents K ad H kvs ds/\H a=some (.dT kvs)/\b=true:=by
 obtain⟨a',e',c⟩:=S.cell i _ e;rw[h]at e';cases e'
 cases c with
 |l z=>exact absurd n z
 |d r e q=>exact⟨_,r,q,e⟩
theorem Zbd{p a:Ad}{o:HO}(hp:¬Y6 H p)(ho:∀ kvs,o≠.dT kvs):Y6 H a↔Y6 (upd H p o) a:=by
 by_cases z:a=p
 ·subst z
  exact⟨fun q=>absurd q hp,fun q=>absurd q (QU upd_same ho)⟩
 ·unfold Y6
  rw[upd_ne z]
theorem ZbH{p:Ad}(hp:H p=none):¬Y6 H p:=fun⟨_,z⟩=>by rw[hp]at z;cases z
theorem Ext.laid{p:Ad}{o:HO}(hp:H p=none)(ho:∀ kvs,o≠.dT kvs:=by intro _ z;cases z):Ext ad H ad (upd H p o):=
 ⟨fun _ _ h=>h,fun b xs h=>by rw[upd_ne (ne_of_none h hp)];exact h,fun b xs h=>by rw[upd_ne (ne_of_none h hp)];exact h,fun b o h _=>by rw[upd_ne (ne_of_none h hp)];exact h,fun _ h=>.inl h,fun _ _ _=>Zbd (ZbH hp) ho⟩
theorem CellOk.laid{i:Nat}{p a:Ad}{o:HO}{c:Qs}{ad':Li Ad}(ha:ad[i]?=some a)(hp:H p=none)(x:Ext ad H ad' (upd H p o))(h:CellOk K ad H a c):CellOk K ad' (upd H p o) a c:=by
 cases h with
 |l n r h=>
  refine .l (fun z=>n ((x.kd i a ha).mpr z)) (r.mono x) ?_
  rcases h with⟨b,e⟩|⟨b,⟨o,e⟩|e⟩
  ·exact .inl ⟨b,by rw[upd_ne (ne_of_none e hp)];exact e⟩
  ·exact .inr ⟨b,.inl ⟨o,by rw[upd_ne (ne_of_none e hp)];exact e⟩⟩
  ·exact .inr ⟨b,.inr e⟩
 |d r e h=>exact .d (r.mono x) e (by rw[upd_ne (ne_of_none h hp)];exact h)
theorem StOk.laid{st:Za}{p:Ad}{o:HO}(S:StOk K ad H st)(hp:H p=none)(ho:∀ kvs,o≠.dT kvs:=by intro _ z;cases z):StOk K ad (upd H p o) st:=
 ⟨S.len,S.nd,fun i c e=>let ⟨a,h,q⟩:=S.cell i c e;⟨a,h,q.laid h hp (Ext.laid hp ho)⟩⟩
theorem WX{α:Type}{l:Li α}{x y:α}{i:Nat}(h:(l++[x])[i]?=some y):l[i]?=some y\/(i=l.length/\y=x):=by
 by_cases hi:i < l.length
 ·rw[List.getElem?_append_left hi]at h
  exact .inl h
 ·rw[List.getElem?_append_right (by omega)]at h
  have:i - l.length=0:=by
   cases e:i - l.length with
   |zero=>rfl
   |succ k=>rw[e]at h;simp at h
  rw[this]at h;simp at h;exact .inr ⟨by omega,h.symm⟩
theorem Wc{α:Type}{l:Li α}{x y:α}{i:Nat}(h:l[i]?=some y):(l++[x])[i]?=some y:=by
 rw[List.getElem?_append_left (List.getElem?_eq_some_iff.mp h).1];exact h
theorem Yj{α:Type}{l:Li α}{x:α}:(l++[x])[l.length]?=some x:=by simp
theorem Ext.pushG{p:Ad}{o:HO}(hp:H p=none)(hk:∀ (i:Nat) (a:Ad),ad[i]?=some a->(Y6 H a↔Y6 (upd H p o) a)):Ext ad H (ad++[p]) (upd H p o):=
 ⟨fun _ _ h=>Wc h,fun b xs h=>by rw[upd_ne (ne_of_none h hp)];exact h,fun b xs h=>by rw[upd_ne (ne_of_none h hp)];exact h,fun b o h _=>by rw[upd_ne (ne_of_none h hp)];exact h,fun b h=>(List.mem_append.mp h).elim .inl fun z=>.inr (by rw[List.mem_singleton.mp z];exact hp),hk⟩
theorem Ext.push{p:Ad}{xs:Li V}(hp:H p=none):Ext ad H (ad++[p]) (upd H p (.lst xs)):=Ext.pushG hp fun _ _ _=>Zbd (ZbH hp) fun _ z=>nomatch z
theorem StOk.more{st:Za}{p:Ad}{H':Hp}{ds:Li D}(S:StOk K ad H st)(hn:∀ (i:Nat) (c:Li D),ad[i]?=some p->st[i]?=some (true,c)->False)(hc:∀ (i:Nat) (c:Qs) (a:Ad),ad[i]?=some a->CellOk K ad H a c->CellOk K (ad++[p]) H' a c)(hp:CellOk K (ad++[p]) H' p (true,ds)):StOk K (ad++[p]) H' (st++[(true,ds)]):=by
 have old:∀ (i:Nat) (c:Li D) (a:Ad),(ad++[p])[i]?=some a->st[i]?=some (true,c)->ad[i]?=some a:=fun i c a h e=>by
  obtain⟨a1,q1,_⟩:=S.cell i _ e;have z1:=Wc (x:=p) q1;rw[h]at z1;cases z1;exact q1
 refine⟨by rw[List.length_append,List.length_append,S.len];rfl,fun i j a c d h1 h2 h3 h4=>?_,fun i c e=>?_⟩
 ·rcases WX h3 with h3|⟨e3,_⟩
  ·rcases WX h4 with h4|⟨e4,_⟩
   ·exact S.nd i j a c d (old i c a h1 h3) (old j d a h2 h4) h3 h4
   ·have q1:=old i c a h1 h3
    rw[e4,<-S.len,Yj]at h2;cases h2;exact(hn i c q1 h3).elim
  ·rcases WX h4 with h4|⟨e4,_⟩
   ·have q2:=old j d a h2 h4
    rw[e3,<-S.len,Yj]at h1;cases h1;exact(hn j d q2 h4).elim
   ·omega
 ·rcases WX e with e|⟨e1,e2⟩
  ·obtain⟨a,h,q⟩:=S.cell i c e
   exact⟨a,Wc h,hc i c a h q⟩
  ·subst e2
   exact⟨p,by rw[e1,<-S.len];exact Yj,hp⟩
theorem StOk.noNew{st:Za}{p:Ad}(S:StOk K ad H st)(hp:H p=none)(i:Nat)(c:Li D)(h:ad[i]?=some p)(e:st[i]?=some (true,c)):False:=by
 obtain⟨a',e',q⟩:=S.cell i _ e;rw[h]at e';cases e'
 cases q with
 |l _ _ q=>
  obtain⟨_,q⟩|⟨q,_⟩:=q
  ·rw[hp]at q;cases q
  ·cases q
 |d _ _ q=>rw[hp]at q;cases q
theorem StOk.push{st:Za}{p:Ad}{xs:Li V}{ds:Li D}(S:StOk K ad H st)(hp:H p=none)(r:Dens K ad H xs ds):StOk K (ad++[p]) (upd H p (.lst xs)) (st++[(true,ds)]):=
 S.more (S.noNew hp) (fun _ _ _ h q=>q.laid h hp (Ext.push hp)) (.l (QU upd_same fun _ z=>nomatch z) (r.mono (Ext.push hp)) (.inl ⟨rfl,upd_same⟩))
theorem StOk.wrG{st:Za}{p:Ad}{o:HO}(S:StOk K ad H st)(kp:Keeps K ad ad H (upd H p o))(hn:p∉ad):StOk K ad (upd H p o) st:=
 ⟨S.len,S.nd,fun i c e=>by
  obtain⟨a,h,q⟩:=S.cell i c e;have ne:a≠p:=fun z=>hn (by rw[<-z];exact List.mem_of_getElem? h)
  refine⟨a,h,?_⟩;cases q with
  |l n r q=>
   refine .l (fun z=>n ((kp.l h).2.mpr z)) (r.map kp) ?_
   rcases q with⟨b,q⟩|⟨b,⟨o,q⟩|q⟩
   ·exact .inl ⟨b,by rw[upd_ne ne];exact q⟩
   ·exact .inr ⟨b,.inl ⟨o,by rw[upd_ne ne];exact q⟩⟩
   ·exact .inr ⟨b,.inr q⟩
  |d r t q=>exact .d (r.map kp) t (by rw[upd_ne ne];exact q)⟩
theorem StOk.has{st:Za}{i:Nat}{a:Ad}(S:StOk K ad H st)(hi:ad[i]?=some a):(∃ o,H a=some o)\/∃ o,K.lookup a=some o:=by
 obtain⟨a',e',q⟩:=S.cell i _ (Lg (show i < st.length by rw[<-S.len];exact(List.getElem?_eq_some_iff.mp hi).1))
 rw[hi]at e';cases e'
 cases q with
 |l _ _ q=>
  obtain⟨_,q⟩|⟨_,⟨o,q⟩|⟨o,its,m,⟨h1,h2⟩,_⟩⟩:=q
  ·exact .inl ⟨_,q⟩
  ·exact .inl ⟨_,q⟩
  ·exact .inr ⟨_,h1⟩
 |d _ _ q=>exact .inl ⟨_,q⟩
theorem StOk.adopt{st:Za}{p:Ad}{xs:Li V}{ds:Li D}(S:StOk K ad H st)(hp:H p=some (.lst xs))(hn:p∉ad)(r:Dens K ad H xs ds):StOk K (ad++[p]) H (st++[(true,ds)]):=by
 have kp:Keeps K ad (ad++[p]) H H:=ZiQ (fun _ _ h=>Wc h) (fun b hb=>(List.mem_append.mp hb).imp id fun z=>⟨xs,by rw[List.mem_singleton.mp z];exact hp⟩)
 exact S.more (fun i _ h _=>hn (List.mem_of_getElem? h)) (fun _ _ _ _ q=>by
  cases q with
  |l n r h=>exact .l n (r.map kp) h
  |d r e h=>exact .d (r.map kp) e h) (.l (QU hp fun _ z=>nomatch z) (r.map kp) (.inl ⟨rfl,hp⟩))
theorem Ext.writeG{a:Ad}{o o':HO}(h:H a=some o)(ha:a∈ad)(h1:∀ xs,o≠.tup xs)(h2:∀ xs,o≠.dK xs)(hk:Y6 H a↔Y6 (upd H a o') a):Ext ad H ad (upd H a o'):=
 ⟨fun _ _ h=>h,fun b zs e=>by rw[upd_ne (ne_of e h (fun z=>h1 _ z.symm))];exact e,fun b zs e=>by rw[upd_ne (ne_of e h (fun z=>h2 _ z.symm))];exact e,fun b o e n=>by rw[upd_ne (show b≠a from fun z=>n (by rw[z];exact ha))];exact e,fun _ h=>.inl h,fun _ b _=>by
  by_cases z:b=a
  ·rw[z];exact hk
  ·unfold Y6;rw[upd_ne z]⟩
theorem Ext.write{a:Ad}{xs ys:Li V}(h:H a=some (.lst xs))(ha:a∈ad):Ext ad H ad (upd H a (.lst ys)):=
 Ext.writeG h ha (fun _ z=>nomatch z) (fun _ z=>nomatch z) ⟨fun z=>absurd z (QU h fun _ z=>nomatch z),fun z=>absurd z (QU upd_same fun _ z=>nomatch z)⟩
theorem StOk.writeG{st:Za}{a:Ad}{i:Nat}{ds es:Li D}{o o':HO}(S:StOk K ad H st)(h:ad[i]?=some a)(e:st[i]?=some (true,ds))(hx:H a=some o)(hf:∀ q u,o≠.frz q u)(x:Ext ad H ad (upd H a o'))(r:CellOk K ad (upd H a o') a (true,es)) :
  StOk K ad (upd H a o') (st.set i (true,es)):=by
 have hi:i < st.length:=(List.getElem?_eq_some_iff.mp e).1;refine⟨by rw[List.length_set];exact S.len,fun j k b c d h1 h2 h3 h4=>?_,fun j c q=>?_⟩
 ·have up:∀ (j:Nat) (c:Li D),(st.set i (true,es))[j]?=some (true,c)->∃ c',st[j]?=some (true,c'):=fun j c q=>by
   by_cases z:i=j
   ·subst z;exact⟨_,e⟩
   ·rw[List.getElem?_set_ne z]at q;exact⟨_,q⟩
  obtain⟨c',h3⟩:=up j c h3;obtain⟨d',h4⟩:=up k d h4;exact S.nd j k b c' d' h1 h2 h3 h4
 ·by_cases z:i=j
  ·subst z
   rw[List.getElem?_set_self hi]at q;cases q;exact⟨a,h,r⟩
  ·rw[List.getElem?_set_ne z]at q
   obtain⟨b,hb,hz⟩:=S.cell j c q;refine⟨b,hb,?_⟩;have ne:c.1=true->b≠a:=fun t w=>by
    obtain⟨cb,cl⟩:=c;cases (show cb=true from t)
    exact z (S.nd i j a ds cl h (w ▸ hb) e q)
   cases hz with
   |l n rz hz=>
    refine .l (fun z=>n ((x.kd j b hb).mpr z)) (rz.mono x) ?_
    rcases hz with⟨t,hz⟩|⟨t,⟨o,hz⟩|hz⟩
    ·exact .inl ⟨t,by rw[upd_ne (ne t)];exact hz⟩
    ·exact .inr ⟨t,.inl ⟨o,by rw[upd_ne (ne_of hz hx (fun z=>hf _ _ z.symm))];exact hz⟩⟩
    ·exact .inr ⟨t,.inr hz⟩
   |d rz t hz=>exact .d (rz.mono x) t (by rw[upd_ne (ne t)];exact hz)
theorem StOk.write{st:Za}{a:Ad}{i:Nat}{ds es:Li D}{xs ys:Li V}(S:StOk K ad H st)(h:LA ad H i a)(e:st[i]?=some (true,ds))(hx:H a=some (.lst xs))(r:Dens K ad H ys es) :
  StOk K ad (upd H a (.lst ys)) (st.set i (true,es)):=
 S.writeG h.1 e hx (fun _ _ z=>nomatch z) (Ext.write hx (List.mem_of_getElem? h.1)) (.l (QU upd_same fun _ z=>nomatch z) (r.mono (Ext.write hx (List.mem_of_getElem? h.1))) (.inl ⟨rfl,upd_same⟩))

structure EnvOk(K:Fg)(ad:List Addr)(H:Hp)(σ:L2.St)(ρ:Env):Prop where
 len:σ.length=ρ.length
 at_:∀ (i:Nat) (d:D),ρ[i]?=some (some d)->∃ v,σ[i]?=some (some v)/\Den K ad H v d
theorem EnvOk.mono{σ:L2.St}{ρ:Env}(x:Ext ad H ad' H')(h:EnvOk K ad H σ ρ):EnvOk K ad' H' σ ρ:=⟨h.len,fun i d e=>let ⟨v,e1,e2⟩:=h.at_ i d e;⟨v,e1,e2.mono x⟩⟩
theorem EnvOk.set{σ:L2.St}{ρ:Env}{v:V}{d:D}(h:EnvOk K ad H σ ρ)(i:Nat)(r:Den K ad H v d):EnvOk K ad H (σ.set i (some v)) (Zz ρ i d):=by
 refine⟨by unfold Zz;rw[List.length_set,List.length_set];exact h.len,fun j e q=>?_⟩
 unfold Zz at q;by_cases z:i=j
 ·subst z
  by_cases hi:i < ρ.length
  ·rw[List.getElem?_set_self hi]at q
   cases q;exact⟨v,by rw[List.getElem?_set_self (by rw[h.len];exact hi)],r⟩
  ·rw[List.getElem?_eq_none (by rw[List.length_set];omega)]at q
   cases q
 ·rw[List.getElem?_set_ne z]at q
  obtain⟨w,e1,e2⟩:=h.at_ j e q;exact⟨w,by rw[List.getElem?_set_ne z];exact e1,e2⟩
end

def Post(K:Fg)(ad:Li Ad)(H:Hp)(d:D)(st':Za)(Q:VK):Prop:=∀ v ad' H',Ext ad H ad' H'->StOk K ad' H' st'->Den K ad' H' v d->Q v H'
noncomputable def tE(K:Fg)(f:Env->Za->Res):TE:=fun σ H Q=>∃ ad ρ st d st',EnvOk K ad H σ ρ/\StOk K ad H st/\f ρ st=some (d,st')/\Post K ad H d st' Q
noncomputable def tT(K:Fg)(f:Env->Za->Res):TT:=fun σ H Q=>∃ ad ρ st k st',EnvOk K ad H σ ρ/\StOk K ad H st/\f ρ st=some (.bl k,st')/\∀ ad' H',Ext ad H ad' H'->StOk K ad' H' st'->Q k H'
noncomputable def tA(K:Fg)(f:Env->Za->Res):TA:=fun σ H Q=>∃ ad ρ st ds st',EnvOk K ad H σ ρ/\StOk K ad H st/\f ρ st=some (.tup ds,st')/\∀ vs ad' H',Ext ad H ad' H'->StOk K ad' H' st'->Dens K ad' H' vs ds->Q vs H'
noncomputable def rD(K:Fg)(f:D->D->Za->Res):R2:=fun x y H Q=>∃ ad st dx dy d st',StOk K ad H st/\Den K ad H x dx/\Den K ad H y dy/\f dx dy st=some (d,st')/\Post K ad H d st' Q
noncomputable def spD(K:Fg)(g:Fn):Sp:=fun vs H Q _=>∃ ad ds st d st',StOk K ad H st/\Dens K ad H vs ds/\g ds st=some (d,st')/\Post K ad H d st' Q
noncomputable def tS(K:Fg)(f:Env->Za->Ot (Fl×Za)):TS:=fun D σ H=>∃ ad ρ st r st',EnvOk K ad H σ ρ/\StOk K ad H st/\f ρ st=some (r,st') /\
 match r with
 |.nx ρ'=>∀ σ' ad' H',Ext ad H ad' H'->StOk K ad' H' st'->EnvOk K ad' H' σ' ρ'->D.nx σ' H'
 |.bk ρ'=>∀ σ' ad' H',Ext ad H ad' H'->StOk K ad' H' st'->EnvOk K ad' H' σ' ρ'->D.bk σ' H'
 |.ct ρ'=>∀ σ' ad' H',Ext ad H ad' H'->StOk K ad' H' st'->EnvOk K ad' H' σ' ρ'->D.ct σ' H'
 |.rt d=>Post K ad H d st' D.rt
theorem Post.at{K:Fg}{ad:Li Ad}{H:Hp}{d:D}{st:Za}{Q:VK}(p:Post K ad H d st Q)(S:StOk K ad H st){v:V}(h:Den K ad H v d):Q v H:=p v ad H (Ext.refl _ _) S h
theorem Post.later{K:Fg}{ad ad':Li Ad}{H H':Hp}{d:D}{st:Za}{Q:VK}(p:Post K ad H d st Q)(x:Ext ad H ad' H'):Post K ad' H' d st Q:=fun v a2 H2 y S h=>p v a2 H2 (x.trans y) S h
end Dp



namespace Dp
open PySem PySem.Spec PyProof.Rows L2
variable [ClsTab]
section
variable {X:Cx}{a b c:Expr}{fa fb fc:Ev}{pos:Pos}

theorem Zgx{K:Fg}{i:Nat}(σ:L2.St)(H:Hp)(Q:VK)(h:tE K (WV i) σ H Q):tVar i σ H Q:=by
 obtain⟨ad,ρ,st,d,st',E,S,e,p⟩:=h;unfold WV at e;split at e
 ·rename_i q
  obtain⟨v,e1,e2⟩:=E.at_ i _ q;cases e;exact⟨v,e1,p.at S e2⟩
 ·cases e
theorem JM{K:Fg}{v:V}{d:D}(hd:∀ ad H,Den K ad H v d)(σ:L2.St)(H:Hp)(Q:VK)(h:tE K (evC d) σ H Q):tC v σ H Q:=by
 obtain⟨ad,ρ,st,d',st',E,S,e,p⟩:=h;cases e;exact p.at S (hd _ _)
theorem QG{K:Fg}{g:D->D->Za->Res}(σ:L2.St)(H:Hp)(Q:VK)(h:tE K (YV fa fb g) σ H Q):tOp (rD K g) (tE K fa) (tE K fb) σ H Q:=by
 obtain⟨ad,ρ,st,d,st',E,S,e,p⟩:=h;unfold YV at e;split at e
 ·rename_i x st1 q1
  split at e
  ·rename_i y st2 q2
   refine⟨ad,ρ,st,x,st1,E,S,q1,fun v1 ad1 H1 x1 S1 d1=>⟨ad1,ρ,st1,y,st2,E.mono x1,S1,q2,fun v2 ad2 H2 x2 S2 d2=>?_⟩⟩
   exact⟨ad2,st2,x,y,d,st',S2,d1.mono x2,d2,e,p.later (x1.trans x2)⟩
  ·cases e
 ·cases e
def rU1(K:Fg)(g:D->Za->Res):V->Hp->VK->Prop:=fun x H Q=>∃ ad st dx d st',StOk K ad H st/\Den K ad H x dx/\g dx st=some (d,st')/\Post K ad H d st' Q
theorem ZiJ{K:Fg}{g:D->Za->Res}(σ:L2.St)(H:Hp)(Q:VK)(h:tE K (Yh fa g) σ H Q):tUn (rU1 K g) (tE K fa) σ H Q:=by
 obtain⟨ad,ρ,st,d,st',E,S,e,p⟩:=h;unfold Yh at e;split at e
 ·rename_i x st1 q1
  exact⟨ad,ρ,st,x,st1,E,S,q1,fun v1 ad1 H1 x1 S1 d1=>⟨ad1,st1,x,d,st',S1,d1,e,p.later x1⟩⟩
 ·cases e
theorem Zd5{K:Fg}(σ:L2.St)(H:Hp)(Q:Bool->Hp->Prop)(h:tT K fa σ H Q):tE K fa σ H fun x H1=>∃ c,x=.bl c/\Q c H1:=by
 obtain⟨ad,ρ,st,k,st',E,S,e,p⟩:=h;exact⟨ad,ρ,st,.bl k,st',E,S,e,fun v ad' H' x S' d'=>⟨k,d'.ofBl,p ad' H' x S'⟩⟩
theorem YL{fc ft ff:Ev}{ρ:Env}{st:Za}{r:D×Za}(h:XX fc ft ff ρ st=some r):∃ k st1,fc ρ st=some (.bl k,st1)/\(if k=true then ft ρ st1 else ff ρ st1)=some r:=by
 unfold XX at h;split at h
 ·rename_i st1 q
  exact⟨true,st1,q,by rw[if_pos rfl];exact h⟩
 ·rename_i st1 q
  exact⟨false,st1,q,by rw[if_neg Bf];exact h⟩
 ·cases h
theorem ZiI{K:Fg}(σ:L2.St)(H:Hp)(Q:VK)(h:tE K (XX fc fa fb) σ H Q):tIf (tT K fc) (tE K fa) (tE K fb) σ H Q:=by
 obtain⟨ad,ρ,st,d,st',E,S,e,p⟩:=h;obtain⟨k,st1,q,e⟩:=YL e;refine⟨ad,ρ,st,k,st1,E,S,q,fun ad1 H1 x1 S1=>?_⟩
 cases k with
 |true=>
  rw[if_pos rfl]at e ⊢;exact⟨ad1,ρ,st1,d,st',E.mono x1,S1,e,p.later x1⟩
 |false=>
  rw[if_neg Bf]at e ⊢;exact⟨ad1,ρ,st1,d,st',E.mono x1,S1,e,p.later x1⟩
theorem ZdQ{K:Fg}(σ:L2.St)(H:Hp)(Q:VK)(h:tE K (XX fa fb (evC (.bl false))) σ H Q):tAndV (tE K fa) (tE K fb) σ H Q:=by
 obtain⟨ad,ρ,st,d,st',E,S,e,p⟩:=h;obtain⟨k,st1,q,e⟩:=YL e;refine⟨ad,ρ,st,.bl k,st1,E,S,q,fun v1 ad1 H1 x1 S1 d1=>⟨k,d1.ofBl,?_⟩⟩
 cases k with
 |true=>
  rw[if_pos rfl]at e ⊢;exact⟨ad1,ρ,st1,d,st',E.mono x1,S1,e,p.later x1⟩
 |false=>
  rw[if_neg Bf]at e ⊢;cases e;exact(p.later x1).at S1 (.bl false)
theorem Zgs{K:Fg}(σ:L2.St)(H:Hp)(Q:VK)(h:tE K (XX fa (evC (.bl true)) fb) σ H Q):tOrV (tE K fa) (tE K fb) σ H Q:=by
 obtain⟨ad,ρ,st,d,st',E,S,e,p⟩:=h;obtain⟨k,st1,q,e⟩:=YL e;refine⟨ad,ρ,st,.bl k,st1,E,S,q,fun v1 ad1 H1 x1 S1 d1=>⟨k,d1.ofBl,?_⟩⟩
 cases k with
 |true=>
  rw[if_pos rfl]at e ⊢;cases e;exact(p.later x1).at S1 (.bl true)
 |false=>
  rw[if_neg Bf]at e ⊢;exact⟨ad1,ρ,st1,d,st',E.mono x1,S1,e,p.later x1⟩
theorem ZdP{K:Fg}(σ:L2.St)(H:Hp)(Q:Bool->Hp->Prop)(h:tT K (XX fa fb (evC (.bl false))) σ H Q):tAnd (tT K fa) (tT K fb) σ H Q:=by
 obtain⟨ad,ρ,st,d,st',E,S,e,p⟩:=h;obtain⟨k,st1,q,e⟩:=YL e;refine⟨ad,ρ,st,k,st1,E,S,q,fun ad1 H1 x1 S1=>?_⟩
 cases k with
 |true=>
  rw[if_pos rfl]at e ⊢;exact⟨ad1,ρ,st1,d,st',E.mono x1,S1,e,fun ad2 H2 x2 S2=>p ad2 H2 (x1.trans x2) S2⟩
 |false=>
  rw[if_neg Bf]at e ⊢;cases e;exact p ad1 H1 x1 S1
theorem Zgr{K:Fg}(σ:L2.St)(H:Hp)(Q:Bool->Hp->Prop)(h:tT K (XX fa (evC (.bl true)) fb) σ H Q):tOr (tT K fa) (tT K fb) σ H Q:=by
 obtain⟨ad,ρ,st,d,st',E,S,e,p⟩:=h;obtain⟨k,st1,q,e⟩:=YL e;refine⟨ad,ρ,st,k,st1,E,S,q,fun ad1 H1 x1 S1=>?_⟩
 cases k with
 |true=>
  rw[if_pos rfl]at e ⊢;cases e;exact p ad1 H1 x1 S1
 |false=>
  rw[if_neg Bf]at e ⊢;exact⟨ad1,ρ,st1,d,st',E.mono x1,S1,e,fun ad2 H2 x2 S2=>p ad2 H2 (x1.trans x2) S2⟩
theorem Zd1{K:Fg}(σ:L2.St)(H:Hp)(Q:Bool->Hp->Prop)(h:tT K (Yh fa ZcQ) σ H Q):tNot (tT K fa) σ H Q:=by
 obtain⟨ad,ρ,st,d,st',E,S,e,p⟩:=h;unfold Yh at e;split at e
 ·rename_i x st1 q1
  cases x with
  |bl k=>
   cases (show some (D.bl (!k),st1)=_ from e)
   exact⟨ad,ρ,st,k,_,E,S,q1,fun ad1 H1 x1 S1=>p ad1 H1 x1 S1⟩
  |_=>simp[ZcQ]at e
 ·cases e
theorem Zd2{K:Fg}(σ:L2.St)(H:Hp)(Q:VK)(h:tE K (Yh fa ZcQ) σ H Q):tNotV (tE K fa) σ H Q:=by
 obtain⟨ad,ρ,st,d,st',E,S,e,p⟩:=h;unfold Yh at e;split at e
 ·rename_i x st1 q1
  cases x with
  |bl k=>
   cases (show some (D.bl (!k),st1)=_ from e)
   exact⟨ad,ρ,st,.bl k,_,E,S,q1,fun v1 ad1 H1 x1 S1 d1=>⟨k,d1.ofBl,(p.later x1).at S1 (.bl _)⟩⟩
  |_=>simp[ZcQ]at e
 ·cases e
theorem JK{K:Fg}(σ:L2.St)(H:Hp)(Q:Li V->Hp->Prop)(h:tA K (evC (.tup [])) σ H Q):tNil σ H Q:=by
 obtain⟨ad,ρ,st,d,st',E,S,e,p⟩:=h;cases e;exact p [] ad H (Ext.refl _ _) S .nil
theorem ZcE{K:Fg}(σ:L2.St)(H:Hp)(Q:Li V->Hp->Prop)(h:tA K (YV fa fb Vr) σ H Q):tCons (tE K fa) (tA K fb) σ H Q:=by
 obtain⟨ad,ρ,st,d,st',E,S,e,p⟩:=h;unfold YV at e;split at e
 ·rename_i x st1 q1
  split at e
  ·rename_i y st2 q2
   cases y with
   |tup zs=>
    have e:(if zs.length < 1000 then some (D.tup (x :: zs),st2) else none)=some (D.tup d,st'):=e
    split at e
    ·cases e
     refine⟨ad,ρ,st,_,st1,E,S,q1,fun v1 ad1 H1 x1 S1 d1=>⟨ad1,ρ,st1,zs,_,E.mono x1,S1,q2,fun v2 ad2 H2 x2 S2 d2=>?_⟩⟩
     exact p _ ad2 H2 (x1.trans x2) S2 (.cons (d1.mono x2) d2)
    ·cases e
   |_=>simp[Vr]at e
  ·cases e
 ·cases e
theorem Zgw{K:Fg}(hb:∀ ρ st ds st',fa ρ st=some (.tup ds,st')->ds.length<=1000)(ht:∀ ρ st d st',fa ρ st=some (d,st')->∃ ds,d=.tup ds)(σ:L2.St)(H:Hp)(Q:VK)(h:tE K fa σ H Q):tTup (tA K fa) σ H Q:=by
 obtain⟨ad,ρ,st,d,st',E,S,e,p⟩:=h;obtain⟨ds,rfl⟩:=ht _ _ _ _ e;refine⟨ad,ρ,st,ds,st',E,S,e,fun vs ad1 H1 x1 S1 d1=>⟨?_,fun q hq=>?_⟩⟩
 ·rw[d1.length]
  exact Nat.le_trans (hb _ _ _ _ e) (by decide)
 ·exact p _ ad1 _ (x1.trans (Ext.laid hq)) (S1.laid hq) (.tup (.inl upd_same) (d1.mono (Ext.laid hq)))
theorem Zgp{K:Fg}(hb:∀ ρ st ds st',fa ρ st=some (.tup ds,st')->ds.length<=1000)(σ:L2.St)(H:Hp)(Q:VK)(h:tE K (Yh fa Zei) σ H Q):tLst (tA K fa) σ H Q:=by
 obtain⟨ad,ρ,st,d,st',E,S,e,p⟩:=h;unfold Yh at e;split at e
 ·rename_i x st1 q1
  cases x with
  |tup ds=>
   cases (show some (D.lst st1.length,st1++[(true,ds)])=_ from e)
   refine⟨ad,ρ,st,ds,_,E,S,q1,fun vs ad1 H1 x1 S1 d1=>⟨?_,fun q hq=>?_⟩⟩
   ·rw[d1.length]
    exact Nat.le_trans (hb _ _ _ _ q1) (by decide)
   ·refine p _ (ad1++[q]) _ (x1.trans (Ext.push hq)) (S1.push hq d1) (.newL ?_)
    rw[<-S1.len];exact Yj
  |_=>simp[Zei]at e
 ·cases e
theorem JN{K:Fg}{g:Fn}{ds:Li D}{dvs:Li V}{E:XK}(hd:∀ ad H,Dens K ad H dvs ds)(σ:L2.St)(H:Hp)(Q:VK)(h:tE K (Yh fa (Jr g ds)) σ H Q):tCall (spD K g) dvs E (tA K fa) σ H Q:=by
 obtain⟨ad,ρ,st,d,st',E,S,e,p⟩:=h;unfold Yh at e;split at e
 ·rename_i x st1 q1
  cases x with
  |tup xs=>exact⟨ad,ρ,st,xs,_,E,S,q1,fun vs ad1 H1 x1 S1 d1=>⟨ad1,xs++ds,_,d,st',S1,d1.append (hd _ _),e,p.later x1⟩⟩
  |_=>simp[Jr]at e
 ·cases e
def rC(K:Fg)(g:Li D->Za->Res):Li V->Hp->VK->Prop:=fun vs H Q=>∃ ad st ds d st',StOk K ad H st/\Dens K ad H vs ds/\g ds st=some (d,st')/\Post K ad H d st' Q
noncomputable def on1(g:D->Za->Res):Li D->Za->Res
 |[x],st=>g x st
 |_,_=>none
noncomputable def on2(g:D->D->Za->Res):Li D->Za->Res
 |[x,y],st=>g x y st
 |_,_=>none
theorem V8{K:Fg}{g:D->Za->Res}(σ:L2.St)(H:Hp)(Q:VK)(h:tE K (Yh fa g) σ H Q):tCB (rC K (on1 g)) (tCons (tE K fa) tNil) σ H Q:=by
 obtain⟨ad,ρ,st,d,st',E,S,e,p⟩:=h;unfold Yh at e;split at e
 ·rename_i x st1 q1
  exact⟨ad,ρ,st,x,st1,E,S,q1,fun v1 ad1 H1 x1 S1 d1=>⟨ad1,st1,[x],d,st',S1,.cons d1 .nil,e,p.later x1⟩⟩
 ·cases e
theorem JL{K:Fg}{g:D->D->Za->Res}(σ:L2.St)(H:Hp)(Q:VK)(h:tE K (YV fa fb g) σ H Q):tCB (rC K (on2 g)) (tCons (tE K fa) (tCons (tE K fb) tNil)) σ H Q:=by
 obtain⟨ad,ρ,st,d,st',E,S,e,p⟩:=h;unfold YV at e;split at e
 ·rename_i x st1 q1
  split at e
  ·rename_i y st2 q2
   refine⟨ad,ρ,st,x,st1,E,S,q1,fun v1 ad1 H1 x1 S1 d1=>⟨ad1,ρ,st1,y,st2,E.mono x1,S1,q2,fun v2 ad2 H2 x2 S2 d2=>?_⟩⟩
   exact⟨ad2,st2,[x,y],d,st',S2,.cons (d1.mono x2) (.cons d2 .nil),e,p.later (x1.trans x2)⟩
  ·cases e
 ·cases e
noncomputable def tO(K:Fg)(f:Ev):TO:=fun σ H Q=>∃ ad ρ st d st',EnvOk K ad H σ ρ/\StOk K ad H st/\f ρ st=some (d,st') /\
 ((d=.non/\∀ ad' H',Ext ad H ad' H'->StOk K ad' H' st'->Q none H')\/∃ i,d=.int i/\∀ ad' H',Ext ad H ad' H'->StOk K ad' H' st'->Q (some i) H')
def rSl(K:Fg):V->Ot Int->Ot Int->Hp->VK->Prop:=fun x lo hi H Q=>∃ ad st dx d st',StOk K ad H st/\Den K ad H x dx/\YO dx lo hi st=some (d,st')/\Post K ad H d st' Q
noncomputable def part:D->Ot (Ot Int)
 |.non=>some none
 |.int i=>some (some i)
 |_=>none
theorem Q8{x l h:D}{st:Za}{r:D×Za}(e:WK x l h st=some r):∃ lo hi,part l=some lo/\part h=some hi/\YO x lo hi st=some r:=by
 unfold WK at e;split at e
 ·exact⟨_,_,rfl,rfl,e⟩
 ·exact⟨_,_,rfl,rfl,e⟩
 ·exact⟨_,_,rfl,rfl,e⟩
 ·exact⟨_,_,rfl,rfl,e⟩
 ·cases e
theorem ZhZ{K:Fg}{f:Ev}{σ:L2.St}{H:Hp}{Q:Ot Int->Hp->Prop}{ad:Li Ad}{ρ:Env}{st st':Za}{d:D}{o:Ot Int}(E:EnvOk K ad H σ ρ)(S:StOk K ad H st)(e:f ρ st=some (d,st'))(po:part d=some o)(q:∀ ad' H',Ext ad H ad' H'->StOk K ad' H' st'->Q o H'):tO K f σ H Q:=by
 refine⟨ad,ρ,st,d,st',E,S,e,?_⟩;cases d with
 |non=>cases po;exact .inl ⟨rfl,q⟩
 |int i=>cases po;exact .inr ⟨i,rfl,q⟩
 |_=>cases po
theorem ZcG{K:Fg}(σ:L2.St)(H:Hp)(Q:VK)(h:tE K (Zad fa fb fc WK) σ H Q):tSl (rSl K) (tE K fa) (tO K fb) (tO K fc) σ H Q:=by
 obtain⟨ad,ρ,st,d,st',E,S,e,p⟩:=h;unfold Zad at e;split at e
 ·rename_i x st1 q1
  split at e
  ·rename_i y st2 q2
   split at e
   ·rename_i z st3 q3
    obtain⟨lo,hi,pl,ph,e⟩:=Q8 e;refine⟨ad,ρ,st,x,st1,E,S,q1,fun v1 ad1 H1 x1 S1 d1=>ZhZ (E.mono x1) S1 q2 pl fun ad2 H2 x2 S2=>ZhZ (E.mono (x1.trans x2)) S2 q3 ph fun ad3 H3 x3 S3=>?_⟩
    exact⟨ad3,st3,x,d,st',S3,d1.mono (x2.trans x3),e,p.later (x1.trans (x2.trans x3))⟩
   ·cases e
  ·cases e
 ·cases e
theorem Zgq{K:Fg}(σ:L2.St)(H:Hp)(Q:Ot Int->Hp->Prop)(h:tO K (evC .non) σ H Q):tNoPart σ H Q:=by
 obtain⟨ad,ρ,st,d,st',E,S,e,p⟩:=h;cases e;rcases p with⟨_,p⟩|⟨i,z,_⟩
 ·exact p ad H (Ext.refl _ _) S
 ·cases z
end
end Dp



namespace Dp
open PySem PySem.Spec PyProof.Rows L2
variable [ClsTab]
def PostS(K:Fg)(ad:Li Ad)(H:Hp)(r:Fl)(st':Za)(D:Ends):Prop:=match r with
 |.nx ρ'=>∀ σ' ad' H',Ext ad H ad' H'->StOk K ad' H' st'->EnvOk K ad' H' σ' ρ'->D.nx σ' H'
 |.bk ρ'=>∀ σ' ad' H',Ext ad H ad' H'->StOk K ad' H' st'->EnvOk K ad' H' σ' ρ'->D.bk σ' H'
 |.ct ρ'=>∀ σ' ad' H',Ext ad H ad' H'->StOk K ad' H' st'->EnvOk K ad' H' σ' ρ'->D.ct σ' H'
 |.rt d=>Post K ad H d st' D.rt
theorem PostS.later{K:Fg}{ad ad':Li Ad}{H H':Hp}{r:Fl}{st:Za}{D:Ends}(x:Ext ad H ad' H')(p:PostS K ad H r st D):PostS K ad' H' r st D:=by
 cases r with
 |nx ρ=>exact fun σ2 a2 H2 y S E=>p σ2 a2 H2 (x.trans y) S E
 |bk ρ=>exact fun σ2 a2 H2 y S E=>p σ2 a2 H2 (x.trans y) S E
 |ct ρ=>exact fun σ2 a2 H2 y S E=>p σ2 a2 H2 (x.trans y) S E
 |rt d=>exact Post.later p x
theorem YK{K:Fg}{f:Ex}{D:Ends}{σ:L2.St}{H:Hp}{ad:Li Ad}{ρ:Env}{st st':Za}{r:Fl}(E:EnvOk K ad H σ ρ)(S:StOk K ad H st)(e:f ρ st=some (r,st'))(p:PostS K ad H r st' D):tS K f D σ H:=by
 refine⟨ad,ρ,st,r,st',E,S,e,?_⟩;cases r<;>exact p
theorem Yv{K:Fg}{f:Ex}{D:Ends}{σ:L2.St}{H:Hp}(h:tS K f D σ H):∃ ad ρ st r st',EnvOk K ad H σ ρ/\StOk K ad H st/\f ρ st=some (r,st')/\PostS K ad H r st' D:=by
 obtain⟨ad,ρ,st,r,st',E,S,e,p⟩:=h;refine⟨ad,ρ,st,r,st',E,S,e,?_⟩;cases r<;>exact p
section
variable {K:Fg}{f g:Ex}{fe fi fk:Ev}
theorem JO(D:Ends)(σ:L2.St)(H:Hp)(h:tS K (fun ρ st=>some (.nx ρ,st)) D σ H):tNext D σ H:=by
 obtain⟨ad,ρ,st,r,st',E,S,e,p⟩:=Yv h;cases e;exact p σ ad H (Ext.refl _ _) S E
theorem Zgl(D:Ends)(σ:L2.St)(H:Hp)(h:tS K (fun ρ st=>some (.bk ρ,st)) D σ H):tBreak D σ H:=by
 obtain⟨ad,ρ,st,r,st',E,S,e,p⟩:=Yv h;cases e;exact p σ ad H (Ext.refl _ _) S E
theorem ZdR(D:Ends)(σ:L2.St)(H:Hp)(h:tS K (fun ρ st=>some (.ct ρ,st)) D σ H):tCont D σ H:=by
 obtain⟨ad,ρ,st,r,st',E,S,e,p⟩:=Yv h;cases e;exact p σ ad H (Ext.refl _ _) S E
theorem Zgv(D:Ends)(σ:L2.St)(H:Hp)(h:tS K (UK f g) D σ H):tSeq (tS K f) (tS K g) D σ H:=by
 obtain⟨ad,ρ,st,r,st',E,S,e,p⟩:=Yv h;unfold UK at e;split at e
 ·rename_i ρ1 st1 q
  exact YK E S q fun σ1 ad1 H1 x1 S1 E1=>YK E1 S1 e (p.later x1)
 ·rename_i q
  refine YK E S e ?_;cases r with
  |nx ρ1=>exact absurd e (q ρ1 st')
  |bk ρ1=>exact p
  |ct ρ1=>exact p
  |rt d=>exact p
theorem Zgu(D:Ends)(σ:L2.St)(H:Hp)(h:tS K (Ze3 fe) D σ H):tRet (tE K fe) D σ H:=by
 obtain⟨ad,ρ,st,r,st',E,S,e,p⟩:=Yv h;unfold Ze3 at e;split at e
 ·rename_i d st1 q
  cases e;exact⟨ad,ρ,st,d,_,E,S,q,p⟩
 ·cases e
theorem QH{i:Nat}(D:Ends)(σ:L2.St)(H:Hp)(h:tS K (Zag i fe) D σ H):tAsg (tE K fe) (gName i) D σ H:=by
 obtain⟨ad,ρ,st,r,st',E,S,e,p⟩:=Yv h;unfold Zag at e;split at e
 ·rename_i d st1 q
  cases e;exact⟨ad,ρ,st,d,_,E,S,q,fun v ad1 H1 x1 S1 d1=>p _ ad1 H1 x1 S1 ((E.mono x1).set i d1)⟩
 ·cases e
theorem Zd3{i j:Nat}(D:Ends)(σ:L2.St)(H:Hp)(h:tS K (Zae i j fe) D σ H):tAsg (tE K fe) (gTup K 2 (gCons (gName i) (gCons (gName j) gNil))) D σ H:=by
 obtain⟨ad,ρ,st,r,st',E,S,e,p⟩:=Yv h;unfold Zae at e;split at e
 ·rename_i x y st1 q
  cases e;refine⟨ad,ρ,st,_,_,E,S,q,fun v ad1 H1 x1 S1 d1=>?_⟩
  obtain⟨a,vs,rfl,ha,rv⟩:=d1.ofTup;cases rv with
  |cons d1 rv=>
   cases rv with
   |cons d2 rv=>
    cases rv;exact⟨a,_,rfl,(ha).sq,rfl,_,_,rfl,_,_,rfl,rfl,p _ ad1 H1 x1 S1 (((E.mono x1).set i d1).set j d2)⟩
 ·cases e
theorem Zd4{i j l:Nat}(D:Ends)(σ:L2.St)(H:Hp)(h:tS K (Zaf i j l fe) D σ H):tAsg (tE K fe) (gTup K 3 (gCons (gName i) (gCons (gName j) (gCons (gName l) gNil)))) D σ H:=by
 obtain⟨ad,ρ,st,r,st',E,S,e,p⟩:=Yv h;unfold Zaf at e;split at e
 ·rename_i x y z st1 q
  cases e;refine⟨ad,ρ,st,_,_,E,S,q,fun v ad1 H1 x1 S1 d1=>?_⟩
  obtain⟨a,vs,rfl,ha,rv⟩:=d1.ofTup;cases rv with
  |cons d1 rv=>
   cases rv with
   |cons d2 rv=>
    cases rv with
    |cons d3 rv=>
     cases rv;exact⟨a,_,rfl,(ha).sq,rfl,_,_,rfl,_,_,rfl,_,_,rfl,rfl,p _ ad1 H1 x1 S1 ((((E.mono x1).set i d1).set j d2).set l d3)⟩
 ·cases e
theorem Zgj(D:Ends)(σ:L2.St)(H:Hp)(h:tS K (Zc8 fe) D σ H):tDrop (tE K fe) D σ H:=by
 obtain⟨ad,ρ,st,r,st',E,S,e,p⟩:=Yv h;unfold Zc8 at e;split at e
 ·rename_i d st1 q
  cases e;exact⟨ad,ρ,st,d,_,E,S,q,fun v ad1 H1 x1 S1 d1=>p _ ad1 H1 x1 S1 (E.mono x1)⟩
 ·cases e
theorem Zgo(D:Ends)(σ:L2.St)(H:Hp)(h:tS K (ZcI fe f g) D σ H):tIfS (tT K fe) (tS K f) (tS K g) D σ H:=by
 obtain⟨ad,ρ,st,r,st',E,S,e,p⟩:=Yv h;unfold ZcI at e;split at e
 ·rename_i st1 q
  refine⟨ad,ρ,st,true,st1,E,S,q,fun ad1 H1 x1 S1=>?_⟩
  dsimp only;rw[if_pos rfl];exact YK (E.mono x1) S1 e (p.later x1)
 ·rename_i st1 q
  refine⟨ad,ρ,st,false,st1,E,S,q,fun ad1 H1 x1 S1=>?_⟩
  dsimp only;rw[if_neg Bf];exact YK (E.mono x1) S1 e (p.later x1)
 ·cases e
theorem Za5{ad:Li Ad}{H:Hp}{st:Za}{i:Nat}{a:Ad}(S:StOk K ad H st)(h:LA ad H i a):∃ b ds,st[i]?=some (b,ds):=by
 have hi:i < st.length:=by rw[<-S.len];exact(List.getElem?_eq_some_iff.mp h.1).1
 exact⟨st[i].1,st[i].2,by rw[Lg hi]⟩
theorem ZfN{ad:Li Ad}{H:Hp}{st st2:Za}{i:Nat}{a:Ad}{v:V}{d:D}(S:StOk K ad H st)(h:LA ad H i a)(hd:Den K ad H v d)(e:ZfM i d st=some st2) :
  ∃ xs,H a=some (.lst xs)/\xs.length < sizeLine/\Ext ad H ad (upd H a (.lst (xs++[v])))/\StOk K ad (upd H a (.lst (xs++[v]))) st2:=by
 unfold ZfM at e;split at e
 ·rename_i ds q
  split at e
  ·rename_i hz
   cases e;obtain⟨xs,r,hx⟩:=S.listM h q;refine⟨xs,hx,?_,Ext.write hx (List.mem_of_getElem? h.1),S.write h q hx (r.append (.cons hd .nil))⟩;rw[r.length];exact Nat.lt_of_lt_of_le hz (by decide)
  ·cases e
 ·cases e
theorem Zgk{i:Nat}(D:Ends)(σ:L2.St)(H:Hp)(h:tS K (Zdc i fe) D σ H):tDrop (tBM K "list" rAppend (tVar i) (tCons (tE K fe) tNil)) D σ H:=by
 obtain⟨ad,ρ,st,r,st',E,S,e,p⟩:=Yv h;unfold Zdc at e;split at e
 ·rename_i a q0
  split at e
  ·rename_i d st1 q1
   split at e
   ·rename_i st2 q2
    cases e;obtain⟨v,e1,e2⟩:=E.at_ i _ q0;obtain⟨l,rfl,hl⟩:=e2.ofLst;obtain⟨b,ds,hc⟩:=Za5 S hl;obtain⟨xs,_,sq⟩:=S.list hl hc;refine⟨_,e1,.inl ⟨rfl,xs,sq⟩,ad,ρ,st,d,st1,E,S,q1,fun w ad1 H1 x1 S1 d1=>?_⟩
    obtain⟨ys,hy,hz,x2,S2⟩:=ZfN S1 (hl.mono x1) d1 q2;exact⟨l,ys,w,rfl,rfl,hy,hz,p _ ad1 _ (x1.trans x2) S2 (E.mono (x1.trans x2))⟩
   ·cases e
  ·cases e
 ·cases e
theorem Zgm{i:Nat}(D:Ends)(σ:L2.St)(H:Hp)(h:tS K (ZdF i fe) D σ H):tDrop (tBM K "list" rExtend (tVar i) (tCons (tE K fe) tNil)) D σ H:=by
 obtain⟨ad,ρ,st,r,st',E,S,e,p⟩:=Yv h;unfold ZdF at e;split at e
 ·rename_i a q0
  split at e
  ·rename_i b st1 q1
   split at e
   ·rename_i st2 q2
    cases e;obtain⟨v,e1,e2⟩:=E.at_ i _ q0;obtain⟨l,rfl,hl⟩:=e2.ofLst;obtain⟨bb,ds,hc⟩:=Za5 S hl;obtain⟨xs,_,sq⟩:=S.list hl hc;refine⟨_,e1,.inl ⟨rfl,xs,sq⟩,ad,ρ,st,.lst b,st1,E,S,q1,fun w ad1 H1 x1 S1 d1=>?_⟩
    obtain⟨m,rfl,hm⟩:=d1.ofLst;unfold ZiA at q2;split at q2
    ·rename_i cs es f1 f2
     split at q2
     ·rename_i hz
      cases q2;have hl1:=hl.mono x1;obtain⟨ys,ry,hy⟩:=S1.listM hl1 f1;obtain⟨zs,rz,hzz⟩:=S1.listM hm f2;have x2:=Ext.write (ys:=ys++zs) hy (List.mem_of_getElem? hl1.1);refine⟨l,m,ys,zs,rfl,rfl,hy,hzz,?_,p _ ad1 _ (x1.trans x2) (S1.write hl1 f1 hy (ry.append rz)) (E.mono (x1.trans x2))⟩;rw[ry.length,rz.length];exact Nat.le_trans hz (by decide)
     ·cases q2
    ·cases q2
   ·cases e
  ·cases e
 ·cases e
theorem Zgt{i:Nat}(D:Ends)(σ:L2.St)(H:Hp)(h:tS K (ZeV i fk fe) D σ H):tAsg (tE K fe) (gSub (tVar i) (tE K fk) rSetL) D σ H:=by
 obtain⟨ad,ρ,st,r,st',E,S,e,p⟩:=Yv h;unfold ZeV at e;split at e
 ·rename_i d st1 q1
  split at e
  ·rename_i a q0
   split at e
   ·rename_i j st2 q2
    split at e
    ·rename_i st3 q3
     cases e;obtain⟨v,e1,e2⟩:=E.at_ i _ q0;obtain⟨l,rfl,hl⟩:=e2.ofLst;refine⟨ad,ρ,st,d,st1,E,S,q1,fun w ad1 H1 x1 S1 d1=>⟨_,e1,ad1,ρ,st1,.int j,st2,E.mono x1,S1,q2,fun w2 ad2 H2 x2 S2 d2=>?_⟩⟩
     cases d2.ofInt;unfold Jc at q3;split at q3
     ·rename_i ds q4
      split at q3
      ·rename_i k q5
       cases q3;have hl2:=hl.mono (x1.trans x2);obtain⟨xs,r,hx⟩:=S2.listM hl2 q4;have x3:Ext ad2 H2 ad2 (upd H2 l (.lst (xs.set k w))):=Ext.write hx (List.mem_of_getElem? hl2.1);refine⟨l,xs,j,k,rfl,rfl,hx,?_,p _ ad2 _ (x1.trans (x2.trans x3)) (S2.write hl2 q4 hx (r.set (d1.mono x2) k)) (E.mono (x1.trans (x2.trans x3)))⟩;rw[r.length];exact q5
      ·cases q3
     ·cases q3
    ·cases e
   ·cases e
  ·cases e
 ·cases e
def Left(K:Fg)(b:D->Env->Za->Ot (Fl×Za))(E:Ends)(xs:Li D)(σ:L2.St)(H:Hp):Prop:=∃ ad ρ st r st',EnvOk K ad H σ ρ/\StOk K ad H st/\YA b xs ρ st=some (r,st')/\PostS K ad H r st' E
theorem Left.turn{i:Nat}{b:Ex}{E:Ends}{x:D}{xs:Li D}{σ:L2.St}{H:Hp}{v:V}(hv:∀ ad H,Den K ad H v x)(h:Left K (fun d ρ s=>b (Zz ρ i d) s) E (x :: xs) σ H) :
  tS K b { E with nx:=Left K (fun d ρ s=>b (Zz ρ i d) s) E xs,ct:=Left K (fun d ρ s=>b (Zz ρ i d) s) E xs,bk:=E.nx } (σ.set i (some v)) H:=by
 obtain⟨ad,ρ,st,r,st',En,S,e,p⟩:=h;unfold YA at e;have En2:=En.set i (hv ad H);split at e
 ·rename_i ρ1 st1 q
  exact YK En2 S q fun σ1 ad1 H1 x1 S1 E1=>⟨ad1,ρ1,st1,r,st',E1,S1,e,p.later x1⟩
 ·rename_i ρ1 st1 q
  exact YK En2 S q fun σ1 ad1 H1 x1 S1 E1=>⟨ad1,ρ1,st1,r,st',E1,S1,e,p.later x1⟩
 ·rename_i ρ1 st1 q
  cases e;exact YK En2 S q fun σ1 ad1 H1 x1 S1 E1=>p σ1 ad1 H1 x1 S1 E1
 ·rename_i d st1 q
  cases e;exact YK En2 S q p
 ·cases e
theorem Left.turnD{i:Nat}{b:Ex}{E:Ends}{x:D}{xs:Li D}{σ:L2.St}{H:Hp}{ad:Li Ad}{ρ:Env}{st st':Za}{r:Fl}{v:V}(En:EnvOk K ad H σ ρ)(S:StOk K ad H st)(hv:Den K ad H v x)(e:YA (fun d ρ s=>b (Zz ρ i d) s) (x :: xs) ρ st=some (r,st'))(p:PostS K ad H r st' E)(L:L2.St->Hp->Prop)(hL:∀ σ1 ad1 H1 ρ1 st1,Ext ad H ad1 H1->StOk K ad1 H1 st1->EnvOk K ad1 H1 σ1 ρ1->YA (fun d ρ s=>b (Zz ρ i d) s) xs ρ1 st1=some (r,st')->L σ1 H1) :
  tS K b { E with nx:=L,ct:=L,bk:=E.nx } (σ.set i (some v)) H:=by
 unfold YA at e;have En2:=En.set i hv;split at e
 ·rename_i ρ1 st1 q
  exact YK En2 S q fun σ1 ad1 H1 x1 S1 E1=>hL σ1 ad1 H1 ρ1 st1 x1 S1 E1 e
 ·rename_i ρ1 st1 q
  exact YK En2 S q fun σ1 ad1 H1 x1 S1 E1=>hL σ1 ad1 H1 ρ1 st1 x1 S1 E1 e
 ·rename_i ρ1 st1 q
  cases e;exact YK En2 S q fun σ1 ad1 H1 x1 S1 E1=>p σ1 ad1 H1 x1 S1 E1
 ·rename_i d st1 q
  cases e;exact YK En2 S q p
 ·cases e
theorem Left.done{b:D->Env->Za->Ot (Fl×Za)}{E:Ends}{σ:L2.St}{H:Hp}(h:Left K b E [] σ H):E.nx σ H:=by
 obtain⟨ad,ρ,st,r,st',En,S,e,p⟩:=h;cases e;exact p σ ad H (Ext.refl _ _) S En
theorem ZaZ(n k:Nat)(h:k < n):((List.range n).map fun(j:Nat)=>D.int (j:Int)).drop k=D.int (k:Int) :: ((List.range n).map fun(j:Nat)=>D.int (j:Int)).drop (k+1):=by
 rw[List.drop_eq_getElem_cons (by simpa using h)]
 simp
theorem ZdY{i:Nat}(E:Ends)(σ:L2.St)(H:Hp)(h:tS K (JH i true fi f) E σ H):tFor (iRng1 (tCons (tE K fi) tNil)) (gName i) (tS K f) E σ H:=by
 obtain⟨ad,ρ,st,r,st',En,S,e,p⟩:=Yv h;unfold JH at e;split at e
 ·rename_i x st1 q1
  cases x with
  |int n=>
   have e:(match (if n < 2 ^ 62/\-(2 ^ 62)<=n then some ((List.range n.toNat).map fun(k:Nat)=>D.int (k:Int)) else none) with
    |some xs=>YA (fun d ρ s=>f (Zz ρ i d) s) xs ρ st1
    |none=>none)=some (r,st'):=e
   by_cases hn:n < 2 ^ 62/\-(2 ^ 62)<=n
   ·rw[if_pos hn]at e
    refine⟨ad,ρ,st,.int n,st1,En,S,q1,fun v ad1 H1 x1 S1 d1=>⟨n,by rw[d1.ofInt],hn.2,hn.1,?_⟩⟩
    refine for_range (fun k σ' H'=>Left K (fun d ρ s=>f (Zz ρ i d) s) E (((List.range n.toNat).map fun(k:Nat)=>D.int (k:Int)).drop k) σ' H') ⟨ad1,ρ,st1,r,st',En.mono x1,S1,e,p.later x1⟩ (fun k σ' H' hk L=>?_) fun σ' H' L=>?_
    ·rw[ZaZ _ _ hk]at L
     have z:(0:Int)+(k:Int)=(k:Int):=Int.zero_add _;rw[z];exact L.turn fun _ _=>.int _
    ·rw[List.drop_eq_nil_of_le (by simp)]at L
     exact L.done
   ·rw[if_neg hn]at e
    cases e
  |_=>simp[X5]at e
 ·cases e
noncomputable def Its(lo c:Int)(n:Nat):It:=⟨fun i _=>i < n,fun i H x H'=>H'=H/\x=.int (lo+(i:Int) * c),fun i _=>n<=i⟩
noncomputable def ZhS(ta:TA):TI:=fun σ H R=>ta σ H fun vs H1=>∃ (i j c:Int),(vs=[.int i,.int j]/\c=1\/vs=[.int i,.int j,.int c])/\Y4 i j c=true/\R (Its i c (Yz i j c)) H1
theorem ZdK{lo c:Int}{n:Nat}{g:TG}{tb:TS}{D:Ends}{σ:L2.St}{H:Hp}(Pv:Nat->L2.St->Hp->Prop)(h0:Pv 0 σ H)(hs:∀ i σ H,i < n->Pv i σ H->g (.int (lo+(i:Int) * c)) σ H fun σ2 H2=>tb { D with nx:=Pv (i+1),ct:=Pv (i+1),bk:=D.nx } σ2 H2)(hd:∀ σ H,Pv n σ H->D.nx σ H) :
  ∃ W:Nat->Nat->L2.St->Hp->Prop,(∃ m,W 0 m σ H)/\∀ i m σ H,W i m σ H->
   ((Its lo c n).stop i H/\D.nx σ H)\/((Its lo c n).go i H/\∃ N:L2.St->Hp->Prop,(∀ σ' H',N σ' H'->∃ m',m' < m/\W (i+1) m' σ' H')/\∀ x H',(Its lo c n).yld i H x H'->g x σ H' fun σ2 H2=>tb { D with nx:=N,ct:=N,bk:=D.nx } σ2 H2):=by
 refine⟨fun i m σ H=>m=n - i/\i<=n/\Pv i σ H,⟨n,by simp,Nat.zero_le _,h0⟩,?_⟩
 rintro i m σ H ⟨rfl,hi,p⟩
 by_cases hlt:i < n
 ·refine .inr ⟨hlt,Pv (i+1),fun σ' H' p'=>⟨n - (i+1),by omega,rfl,hlt,p'⟩,fun x H' y=>?_⟩
  obtain⟨e,y⟩:=y;subst e y;exact hs i σ _ hlt p
 ·have e:i=n:=by omega
  subst e;exact .inl ⟨Nat.le_refl _,hd σ H p⟩
theorem J9(a b c:Int)(k:Nat)(h:k < Yz a b c):((Y9 a b c).map D.int).drop k=D.int (a+(k:Int) * c) :: ((Y9 a b c).map D.int).drop (k+1):=by
 rw[List.drop_eq_getElem_cons (by simpa[Y9] using h)]
 simp[Y9]
theorem ZgA{d:D}{i:Int}(h:Zgz d=some i):d=.int i:=by cases d<;>first | (cases h;done) | (cases h;rfl)
theorem JP:∀ {xs:Li D}{l:Li Int},V9 xs=some l->xs=l.map .int
 |[],_,h=>by cases h;rfl
 |x :: xs,l,h=>YB (P:=fun l=>x :: xs=l.map D.int) h fun i r hi hr=>by rw[ZgA hi,JP hr];rfl
theorem QM{x:D}{xs:Li Int}(h:ZaJ x=some xs):∃ a b c,(x=.tup [.int a,.int b]/\c=1\/x=.tup [.int a,.int b,.int c])/\Y4 a b c=true/\xs=Y9 a b c:=by
 cases x<;>first | (cases h;done)|skip
 obtain⟨l,h1,h2⟩:=Option.bind_eq_some_iff.mp h;rw[JP h1];cases l with
 |nil=>cases h2
 |cons a l=>cases l with
  |nil=>cases h2
  |cons b l=>cases l with
   |nil=>exact WH h2 fun q h2=>by cases h2;exact⟨a,b,1,.inl ⟨rfl,rfl⟩,q,rfl⟩
   |cons c l=>cases l with
    |nil=>exact WH h2 fun q h2=>by cases h2;exact⟨a,b,c,.inr rfl,q,rfl⟩
    |cons _ _=>cases h2
theorem ZdS{i:Nat}(E:Ends)(σ:L2.St)(H:Hp)(h:tS K (JE i fi f) E σ H):tFor (ZhS (tA K fi)) (gName i) (tS K f) E σ H:=by
 obtain⟨ad,ρ,st,r,st',En,S,e,p⟩:=Yv h;unfold JE at e;split at e
 ·rename_i x st1 q1
  split at e
  ·rename_i xs q2
   obtain⟨a,b,c,hx,ok,rfl⟩:=QM q2;have fin:∀ {ad1:Li Ad}{H1:Hp},Ext ad H ad1 H1->StOk K ad1 H1 st1->∃ W:Nat->Nat->L2.St->Hp->Prop,(∃ m,W 0 m σ H1)/\∀ k m σ H,W k m σ H->
     ((Its a c (Yz a b c)).stop k H/\E.nx σ H)\/((Its a c (Yz a b c)).go k H/\∃ N:L2.St->Hp->Prop,(∀ σ' H',N σ' H'->∃ m',m' < m/\W (k+1) m' σ' H')/\∀ x H',(Its a c (Yz a b c)).yld k H x H'->gName i x σ H' fun σ2 H2=>tS K f { E with nx:=N,ct:=N,bk:=E.nx } σ2 H2):=fun {ad1 H1} x1 S1=>
    ZdK (fun k σ' H'=>Left K (fun d ρ s=>f (Zz ρ i d) s) E (((Y9 a b c).map D.int).drop k) σ' H') ⟨ad1,ρ,st1,r,st',En.mono x1,S1,e,p.later x1⟩ (fun k σ' H' hk L=>by
     rw[J9 _ _ _ _ hk]at L;exact L.turn fun _ _=>.int _) fun σ' H' L=>by
     rw[List.drop_eq_nil_of_le (by simp[Y9])]at L
     exact L.done
   rcases hx with⟨rfl,rfl⟩|rfl
   ·refine⟨ad,ρ,st,_,st1,En,S,q1,fun vs ad1 H1 x1 S1 d1=>⟨a,b,1,.inl ⟨?_,rfl⟩,ok,fin x1 S1⟩⟩
    cases d1 with
    |cons h1 d1=>
     cases d1 with
     |cons h2 d1=>cases d1;rw[h1.ofInt,h2.ofInt]
   ·refine⟨ad,ρ,st,_,st1,En,S,q1,fun vs ad1 H1 x1 S1 d1=>⟨a,b,c,.inr ?_,ok,fin x1 S1⟩⟩
    cases d1 with
    |cons h1 d1=>
     cases d1 with
     |cons h2 d1=>
      cases d1 with
      |cons h3 d1=>cases d1;rw[h1.ofInt,h2.ofInt,h3.ofInt]
  ·cases e
 ·cases e
def ZhI(K:Fg)(b:D->Env->Za->Ot (Fl×Za))(E:Ends)(a:Ad)(vs:Li V)(xs:Li D)(k:Nat)(σ:L2.St)(H:Hp):Prop:=
 ∃ ad ρ st r st',EnvOk K ad H σ ρ/\StOk K ad H st/\(TupAt K H a vs/\Dens K ad H vs xs)/\YA b (xs.drop k) ρ st=some (r,st')/\PostS K ad H r st' E
theorem ZdZ{i:Nat}(E:Ends)(σ:L2.St)(H:Hp){ad:Li Ad}{ρ:Env}{st st1 st':Za}{r:Fl}{xs:Li D}(En:EnvOk K ad H σ ρ)(S:StOk K ad H st)(q1:fi ρ st=some (.tup xs,st1))(e:YA (fun d ρ s=>f (Zz ρ i d) s) xs ρ st1=some (r,st'))(p:PostS K ad H r st' E):tFor (iTup K (tE K fi)) (gName i) (tS K f) E σ H:=by
 refine⟨ad,ρ,st,.tup xs,st1,En,S,q1,fun v ad1 H1 x1 S1 d1=>?_⟩
 obtain⟨a,vs,rfl,ha,rv⟩:=d1.ofTup;refine⟨a,rfl,⟨vs,(ha).sq⟩,?_⟩;refine for_tup (xs:=vs) (fun k σ' H'=>ZhI K (fun d ρ s=>f (Zz ρ i d) s) E a vs xs k σ' H') ⟨ad1,ρ,st1,r,st',En.mono x1,S1,⟨ha,rv⟩,by rw[List.drop_zero];exact e,p.later x1⟩ (fun k σ' H' _ L=>?_) (fun k y σ' H' hk L=>?_) fun σ' H' L=>?_
 ·obtain⟨_,_,_,_,_,_,_,⟨h,_⟩,_⟩:=L
  exact(h).sq
 ·obtain⟨ad2,ρ2,st2,r2,st2',En2,S2,⟨h2,rv2⟩,e2,p2⟩:=L
  have hk':k < xs.length:=by rw[<-rv2.length];exact(List.getElem?_eq_some_iff.mp hk).1
  have hx:xs[k]?=some xs[k]:=Lg hk';obtain⟨w,ew,dw⟩:=rv2.get hx;rw[hk]at ew;cases ew
  rw[List.drop_eq_getElem_cons hk']at e2;exact Left.turnD En2 S2 dw e2 p2 _ fun σ3 ad3 H3 ρ3 st3 x3 S3 E3 e3=>⟨ad3,ρ3,st3,r2,st2',E3,S3,⟨h2.mono x3,rv2.mono x3⟩,e3,p2.later x3⟩
 ·obtain⟨ad2,ρ2,st2,r2,st2',En2,S2,⟨h2,rv2⟩,e2,p2⟩:=L
  rw[rv2.length,List.drop_length]at e2;exact Left.done ⟨ad2,ρ2,st2,r2,st2',En2,S2,e2,p2⟩
theorem ZdV{G:TG}{B:D->Env->Za->Ot (Fl×Za)}(E:Ends)(σ:L2.St)(H:Hp){ad:Li Ad}{ρ:Env}{st st1 st':Za}{r:Fl}{l:Nat}{bb:Bool}{xs:Li D}(En:EnvOk K ad H σ ρ)(S:StOk K ad H st)(q1:fi ρ st=some (.lst l,st1))(q2:st1[l]?=some (bb,xs))(e:Yg B l xs.length 0 ρ st1=some (r,st'))(p:PostS K ad H r st' E)(hG:∀ (x:D) (v:V) (σ:L2.St) (H:Hp) (ad:Li Ad) (ρ:Env) (st st1:Za) (r1:Fl) (E':Ends),EnvOk K ad H σ ρ->StOk K ad H st->Den K ad H v x->B x ρ st=some (r1,st1)->PostS K ad H r1 st1 E'->G v σ H fun σ2 H2=>tS K f E' σ2 H2) :
  tFor (iList K (tE K fi)) G (tS K f) E σ H:=by
 refine⟨ad,ρ,st,.lst l,st1,En,S,q1,fun v ad1 H1 x1 S1 d1=>?_⟩
 obtain⟨a,rfl,ha⟩:=d1.ofLst;obtain⟨vs,rv,sq⟩:=S1.list ha q2;refine⟨a,rfl,⟨vs,sq⟩,?_⟩;refine⟨fun k m σ' H'=>∃ ad2 ρ2 st2,(EnvOk K ad2 H' σ' ρ2/\StOk K ad2 H' st2/\LA ad2 H' l a)/\Yg B l m k ρ2 st2=some (r,st')/\PostS K ad2 H' r st' E,⟨xs.length,ad1,ρ,st1,⟨En.mono x1,S1,ha⟩,e,p.later x1⟩,?_⟩
 rintro k m σ' H' ⟨ad2,ρ2,st2,⟨En2,S2,ha2⟩,e2,p2⟩
 obtain⟨b2,ys,hc⟩:=Za5 S2 ha2;obtain⟨ws,rw',sq2⟩:=S2.list ha2 hc;have stop:ys.length<=k->Yg B l m k ρ2 st2=some (.nx ρ2,st2):=fun hk=>by
  cases m with
  |zero=>unfold Yg;simp only[hc];rw[if_pos hk]
  |succ m=>unfold Yg;simp only[hc,List.getElem?_eq_none hk]
 by_cases hk:ys.length<=k
 ·refine .inl ⟨⟨ws,sq2,by rw[rw'.length];exact hk⟩,?_⟩
  rw[stop hk]at e2;cases e2;exact p2 σ' ad2 H' (Ext.refl _ _) S2 En2
 ·have hk':k < ys.length:=by omega
  have hy:ys[k]?=some ys[k]:=Lg hk';obtain⟨w,ew,dw⟩:=rw'.get hy;cases m with
  |zero=>
   unfold Yg at e2;simp only[hc]at e2;rw[if_neg hk]at e2;cases e2
  |succ m=>
   unfold Yg at e2;simp only[hc,hy]at e2;refine .inr ⟨⟨ws,w,sq2,ew⟩,fun σ3 H3=>∃ ad3 ρ3 st3,(EnvOk K ad3 H3 σ3 ρ3/\StOk K ad3 H3 st3/\LA ad3 H3 l a)/\Yg B l m (k+1) ρ3 st3=some (r,st')/\PostS K ad3 H3 r st' E,fun σ3 H3 h3=>⟨m,Nat.lt_succ_self m,h3⟩,fun x H3 hx=>?_⟩
   obtain⟨rfl,hx⟩:=hx;have ex:=hx ws sq2;rw[ew]at ex;cases ex
   split at e2
   ·rename_i ρ3 st3 q
    exact hG _ _ _ _ ad2 ρ2 st2 _ _ _ En2 S2 dw q fun σ4 ad4 H4 x4 S4 E4=>⟨ad4,ρ3,st3,⟨E4,S4,ha2.mono x4⟩,e2,p2.later x4⟩
   ·rename_i ρ3 st3 q
    exact hG _ _ _ _ ad2 ρ2 st2 _ _ _ En2 S2 dw q fun σ4 ad4 H4 x4 S4 E4=>⟨ad4,ρ3,st3,⟨E4,S4,ha2.mono x4⟩,e2,p2.later x4⟩
   ·rename_i ρ3 st3 q
    cases e2;exact hG _ _ _ _ ad2 ρ2 st2 _ _ _ En2 S2 dw q fun σ4 ad4 H4 x4 S4 E4=>p2 σ4 ad4 H4 x4 S4 E4
   ·rename_i d st3 q
    cases e2;exact hG _ _ _ _ ad2 ρ2 st2 _ _ _ En2 S2 dw q p2
   ·cases e2
theorem ZdW{i:Nat}(E:Ends)(σ:L2.St)(H:Hp)(h:tS K (JH i false fi f) E σ H):tFor (iTup K (tE K fi)) (gName i) (tS K f) E σ H\/tFor (iList K (tE K fi)) (gName i) (tS K f) E σ H:=by
 obtain⟨ad,ρ,st,r,st',En,S,e,p⟩:=Yv h;unfold JH at e;split at e
 ·rename_i x st1 q1
  cases x with
  |tup xs=>exact .inl (ZdZ E σ H En S q1 e p)
  |lst l=>
   have e:(match st1[l]? with
    |some (_,xs)=>Yg (fun d ρ s=>f (Zz ρ i d) s) l xs.length 0 ρ st1
    |none=>none)=some (r,st'):=e
   split at e
   ·rename_i bb xs q2
    refine .inr (ZdV E σ H En S q1 q2 e p fun x v σ H ad ρ st st1 r1 E' En S dv e1 p1=>?_)
    exact YK (En.set i dv) S e1 p1
   ·cases e
  |_=>simp[X5]at e
 ·cases e
theorem ZcF{G:TG}{B:D->Env->Za->Ot (Fl×Za)}(E:Ends)(σ:L2.St)(H:Hp){ad:Li Ad}{ρ:Env}{st st1 st':Za}{r:Fl}{xs:Li D}(En:EnvOk K ad H σ ρ)(S:StOk K ad H st)(q1:fi ρ st=some (.tup xs,st1))(e:YA B xs ρ st1=some (r,st'))(p:PostS K ad H r st' E)(hG:∀ (x:D) (v:V) (σ:L2.St) (H:Hp) (ad:Li Ad) (ρ:Env) (st st1:Za) (r1:Fl) (E':Ends),EnvOk K ad H σ ρ->StOk K ad H st->Den K ad H v x->B x ρ st=some (r1,st1)->PostS K ad H r1 st1 E'->G v σ H fun σ2 H2=>tS K f E' σ2 H2) :
  tFor (iTup K (tE K fi)) G (tS K f) E σ H:=by
 refine⟨ad,ρ,st,.tup xs,st1,En,S,q1,fun v ad1 H1 x1 S1 d1=>?_⟩
 obtain⟨a,vs,rfl,ha,rv⟩:=d1.ofTup;refine⟨a,rfl,⟨vs,(ha).sq⟩,?_⟩;refine for_tup (xs:=vs) (fun k σ' H'=>ZhI K B E a vs xs k σ' H') ⟨ad1,ρ,st1,r,st',En.mono x1,S1,⟨ha,rv⟩,by rw[List.drop_zero];exact e,p.later x1⟩ (fun k σ' H' _ L=>?_) (fun k y σ' H' hk L=>?_) fun σ' H' L=>?_
 ·obtain⟨_,_,_,_,_,_,_,⟨h,_⟩,_⟩:=L
  exact(h).sq
 ·obtain⟨ad2,ρ2,st2,r2,st2',En2,S2,⟨h2,rv2⟩,e2,p2⟩:=L
  have hk':k < xs.length:=by rw[<-rv2.length];exact(List.getElem?_eq_some_iff.mp hk).1
  have hx:xs[k]?=some xs[k]:=Lg hk';obtain⟨w,ew,dw⟩:=rv2.get hx;rw[hk]at ew;cases ew
  rw[List.drop_eq_getElem_cons hk']at e2;unfold YA at e2;split at e2
  ·rename_i ρ3 st3 q
   exact hG _ _ _ _ ad2 ρ2 st2 _ _ _ En2 S2 dw q fun σ4 ad4 H4 x4 S4 E4=>⟨ad4,ρ3,st3,r2,st2',E4,S4,⟨h2.mono x4,rv2.mono x4⟩,e2,p2.later x4⟩
  ·rename_i ρ3 st3 q
   exact hG _ _ _ _ ad2 ρ2 st2 _ _ _ En2 S2 dw q fun σ4 ad4 H4 x4 S4 E4=>⟨ad4,ρ3,st3,r2,st2',E4,S4,⟨h2.mono x4,rv2.mono x4⟩,e2,p2.later x4⟩
  ·rename_i ρ3 st3 q
   cases e2;exact hG _ _ _ _ ad2 ρ2 st2 _ _ _ En2 S2 dw q fun σ4 ad4 H4 x4 S4 E4=>p2 σ4 ad4 H4 x4 S4 E4
  ·rename_i d st3 q
   cases e2;exact hG _ _ _ _ ad2 ρ2 st2 _ _ _ En2 S2 dw q p2
  ·cases e2
 ·obtain⟨ad2,ρ2,st2,r2,st2',En2,S2,⟨h2,rv2⟩,e2,p2⟩:=L
  rw[rv2.length,List.drop_length]at e2;exact Left.done ⟨ad2,ρ2,st2,r2,st2',En2,S2,e2,p2⟩
theorem ZdT{i j l:Nat}(E:Ends)(σ:L2.St)(H:Hp)(h:tS K (JF i j l fi f) E σ H):tFor (iTup K (tE K fi)) (gTup K 3 (gCons (gName i) (gCons (gName j) (gCons (gName l) gNil)))) (tS K f) E σ H:=by
 obtain⟨ad,ρ,st,r,st',En,S,e,p⟩:=Yv h;unfold JF at e;split at e
 ·rename_i xs st1 q1
  refine ZcF E σ H En S q1 e p fun x v σ H ad ρ st st1 r1 E' En S dv e1 p1=>?_
  unfold ZjO at e1;split at e1
  ·rename_i y z u
   obtain⟨a,vs,rfl,ha,rv⟩:=dv.ofTup;cases rv with
   |cons d1 rv=>
    cases rv with
    |cons d2 rv=>
     cases rv with
     |cons d3 rv=>
      cases rv;exact⟨a,_,rfl,(ha).sq,rfl,_,_,rfl,_,_,rfl,_,_,rfl,rfl,YK (((En.set i d1).set j d2).set l d3) S e1 p1⟩
  ·cases e1
 ·cases e
noncomputable def Itz(K:Fg)(a b:Ad):It:=
 ⟨fun i H=>∃ xs ys x y,SqL K H a xs/\SqL K H b ys/\xs[i]?=some x/\ys[i]?=some y,
  fun i H v H'=>∃ p x y,v=.ref p/\H p=none/\H'=upd H p (.tup [x,y])/\(∀ xs,SqL K H a xs->xs[i]?=some x)/\∀ ys,SqL K H b ys->ys[i]?=some y,
  fun i H=>∃ xs ys,SqL K H a xs/\SqL K H b ys/\min xs.length ys.length<=i⟩
noncomputable def ZkG(K:Fg)(ta:TA):TI:=fun σ H R=>ta σ H fun vs H1=>∃ a b,vs=[.ref a,.ref b]/\(∃ xs,SqL K H1 a xs)/\(∃ ys,SqL K H1 b ys)/\R (Itz K a b) H1
theorem Zeh{ok:Za->Prop}{B:D->D->Env->Za->Ot (Fl×Za)}{l:Li (D×D)}{ρ:Env}{st:Za}{z:Fl×Za}(e:YZ ok B l ρ st=some z):ok st:=by
 cases l with
 |nil=>
  unfold YZ at e;by_cases h:ok st
  ·exact h
  ·rw[if_neg h]at e;cases e
 |cons _ _=>
  unfold YZ at e;by_cases h:ok st
  ·exact h
  ·rw[if_neg h]at e;cases e
inductive LK(K:Fg)(ok:Za->Prop)(B:D->D->Env->Za->Option (Fl×Za))(qs:List (D×D))(Good:List Addr->Hp->Prop)(r:Fl)(st':Za)(E:Ends)(k m:Nat)(σ:L2.St)(H:Hp):Prop
 |mk {ad:List Addr}{ρ:Env}{st:Za} (hk:k+m=qs.length) (En:EnvOk K ad H σ ρ) (S:StOk K ad H st) (g:Good ad H) (e:YZ ok B (qs.drop k) ρ st=some (r,st')) (p:PostS K ad H r st' E):LK K ok B qs Good r st' E k m σ H
def Zka(K:Fg)(f:Ex)(i j:Nat)(J:It)(E:Ends)(σ:L2.St)(H1:Hp):Prop:=∃ W:Nat->Nat->L2.St->Hp->Prop,(∃ m,W 0 m σ H1)/\∀ i' m σ H,W i' m σ H->(J.stop i' H/\E.nx σ H)\/(J.go i' H/\∃ N:L2.St->Hp->Prop,(∀ σ' H',N σ' H'->∃ m',m' < m/\W (i'+1) m' σ' H')/\∀ x H',J.yld i' H x H'->gTup K 2 (gCons (gName i) (gCons (gName j) gNil)) x σ H' fun σ2 H2=>tS K f { E with nx:=N,ct:=N,bk:=E.nx } σ2 H2)
theorem Ui{i j:Nat}{ok:Za->Prop}{qs:Li (D×D)}{Good:Li Ad->Hp->Prop}{r:Fl}{st':Za}{E:Ends}{J:It}(gm:∀ ad H ad' H',Ext ad H ad' H'->Good ad H->Good ad' H')(stop:∀ ad H st,Good ad H->StOk K ad H st->ok st->J.stop qs.length H)(go:∀ k ad H st q,Good ad H->StOk K ad H st->ok st->qs[k]?=some q->∃ w1 w2,J.go k H/\Den K ad H w1 q.1/\Den K ad H w2 q.2/\∀ x H',J.yld k H x H'->∃ pt,x=.ref pt/\H pt=none/\H'=upd H pt (.tup [w1,w2]))(k m:Nat)(σ:L2.St)(H:Hp)(h:LK K ok (fun x y ρ s=>f (Zz (Zz ρ i x) j y) s) qs Good r st' E k m σ H) :
  (J.stop k H/\E.nx σ H)\/(J.go k H/\∃ N:L2.St->Hp->Prop,(∀ σ' H',N σ' H'->∃ m',m' < m/\LK K ok (fun x y ρ s=>f (Zz (Zz ρ i x) j y) s) qs Good r st' E (k+1) m' σ' H')/\∀ x H',J.yld k H x H'->gTup K 2 (gCons (gName i) (gCons (gName j) gNil)) x σ H' fun σ2 H2=>tS K f { E with nx:=N,ct:=N,bk:=E.nx } σ2 H2):=by
 cases h with
 |@mk ad ρ st hkm En S g e p=>
  have ok2:=Zeh e;by_cases hk:qs.length<=k
  ·have hk':k=qs.length:=by omega
   subst hk';rw[List.drop_length]at e;unfold YZ at e;rw[if_pos ok2]at e;cases e;exact .inl ⟨stop _ _ _ g S ok2,p σ _ H (Ext.refl _ _) S En⟩
  ·have hk':k < qs.length:=Nat.lt_of_not_le hk
   obtain⟨w1,w2,hgo,dw1,dw2,hy⟩:=go k _ _ _ qs[k] g S ok2 (Lg hk');rw[List.drop_eq_getElem_cons hk']at e;unfold YZ at e;rw[if_pos ok2]at e;generalize qs[k]=q at e dw1 dw2;refine .inr ⟨hgo,LK K ok (fun x y ρ s=>f (Zz (Zz ρ i x) j y) s) qs Good r st' E (k+1) (m - 1),fun σ3 H3 h3=>⟨m - 1,by omega,h3⟩,fun x H3 hx=>?_⟩
   obtain⟨pt,rfl,hpt,rfl⟩:=hy x H3 hx;have xt:Ext ad H ad (upd H pt (.tup [w1,w2])):=Ext.laid hpt;have fin:∀ {rr:Fl}{s3:Za}{E':Ends},f (Zz (Zz ρ i q.1) j q.2) st=some (rr,s3)->PostS K ad (upd H pt (.tup [w1,w2])) rr s3 E'->gTup K 2 (gCons (gName i) (gCons (gName j) gNil)) (.ref pt) σ (upd H pt (.tup [w1,w2])) fun σ2 H2=>tS K f E' σ2 H2:=fun q pp=>
    ⟨pt,_,rfl,SqT.of upd_same,rfl,_,_,rfl,_,_,rfl,rfl,YK (((En.mono xt).set i (dw1.mono xt)).set j (dw2.mono xt)) (S.laid hpt) q pp⟩
   have nxt:∀ {ρ3:Env}{st3:Za},YZ ok (fun x y ρ s=>f (Zz (Zz ρ i x) j y) s) (qs.drop (k+1)) ρ3 st3=some (r,st')->∀ (σ4:L2.St) (ad4:Li Ad) (H4:Hp),Ext ad (upd H pt (.tup [w1,w2])) ad4 H4->StOk K ad4 H4 st3->EnvOk K ad4 H4 σ4 ρ3->LK K ok (fun x y ρ s=>f (Zz (Zz ρ i x) j y) s) qs Good r st' E (k+1) (m - 1) σ4 H4:=fun e3 σ4 ad4 H4 x4 S4 E4=>
    .mk (by omega) E4 S4 (gm _ _ _ _ (xt.trans x4) g) e3 (p.later (xt.trans x4))
   clear hy go stop hkm hk hk' hgo;split at e
   ·rename_i q0
    exact fin q0 (nxt e)
   ·rename_i q0
    exact fin q0 (nxt e)
   ·rename_i q0
    cases e;exact fin q0 fun σ4 ad4 H4 x4 S4 E4=>p σ4 ad4 H4 (xt.trans x4) S4 E4
   ·rename_i q0
    cases e;exact fin q0 (p.later xt)
   ·cases e
theorem ZdX{i j:Nat}(E:Ends)(σ:L2.St)(H:Hp)(h:tS K (JG i j fi f) E σ H):tFor (ZkG K (tA K fi)) (gTup K 2 (gCons (gName i) (gCons (gName j) gNil))) (tS K f) E σ H:=by
 obtain⟨ad,ρ,st,r,st',En,S,e,p⟩:=Yv h;unfold JG at e;split at e
 ·rename_i la lb st1 q1
  split at e
  ·rename_i ca cb hca hcb
   refine⟨ad,ρ,st,_,st1,En,S,q1,fun vs ad1 H1 x1 S1 d1=>?_⟩
   obtain⟨v1,v2,rfl,dv1,dv2⟩:∃ v1 v2,vs=[v1,v2]/\Den K ad1 H1 v1 (.lst la)/\Den K ad1 H1 v2 (.lst lb):=by
    cases d1 with
    |cons h1 d1=>
     cases d1 with
     |cons h2 d1=>cases d1;exact⟨_,_,rfl,h1,h2⟩
   obtain⟨a,rfl,ha⟩:=dv1.ofLst;obtain⟨b,rfl,hb⟩:=dv2.ofLst;obtain⟨us,ru,squ⟩:=S1.list ha (show st1[la]?=some (ca.1,ca.2) from hca);obtain⟨ws,rw',sqw⟩:=S1.list hb (show st1[lb]?=some (cb.1,cb.2) from hcb);refine⟨a,b,rfl,⟨us,squ⟩,⟨ws,sqw⟩,_,⟨_,.mk (Good:=fun ad H=>LA ad H la a/\LA ad H lb b) (Nat.zero_add _) (En.mono x1) S1 ⟨ha,hb⟩ e (p.later x1)⟩,Ui (fun _ _ _ _ x g=>⟨g.1.mono x,g.2.mono x⟩) (fun ad H st g S o=>?_) fun k ad H st q g S o hq=>?_⟩
   ·obtain⟨us,ru,squ⟩:=S.list g.1 (show st[la]?=some (ca.1,ca.2) from o.1)
    obtain⟨ws,rw',sqw⟩:=S.list g.2 (show st[lb]?=some (cb.1,cb.2) from o.2);exact⟨us,ws,squ,sqw,by rw[ru.length,rw'.length];exact Nat.le_of_eq (List.length_zip ..).symm⟩
   ·obtain⟨us,ru,squ⟩:=S.list g.1 (show st[la]?=some (ca.1,ca.2) from o.1)
    obtain⟨ws,rw',sqw⟩:=S.list g.2 (show st[lb]?=some (cb.1,cb.2) from o.2);obtain⟨h1,h2⟩:=List.getElem?_zip_eq_some.mp hq;obtain⟨w1,e1,d1⟩:=ru.get h1;obtain⟨w2,e2,d2⟩:=rw'.get h2;exact⟨w1,w2,⟨us,ws,w1,w2,squ,sqw,e1,e2⟩,d1,d2,fun x H' ⟨pt,y1,y2,z1,z2,z3,hy1,hy2⟩=>⟨pt,z1,z2,by have z:=hy1 us squ;rw[e1]at z;cases z;have z:=hy2 ws sqw;rw[e2]at z;cases z;exact z3⟩⟩
  ·cases e
 ·cases e
end
end Dp



namespace Dp
open PySem PySem.Spec PyProof.Rows L2
variable [ClsTab]
mutual
theorem ZfO:∀ {x y:D},Z9 x y=true->x=y
 |.non,y,h=>by cases y<;>simp[Z9]at h ⊢
 |.bl a,y,h=>by cases y<;>simp[Z9]at h ⊢;exact h
 |.int a,y,h=>by cases y<;>simp[Z9]at h ⊢;exact h
 |.str a,y,h=>by cases y<;>simp[Z9]at h ⊢;exact h
 |.tup a,y,h=>by
  cases y with
  |tup b=>rw[Jn (x:=a) (y:=b) (by simpa[Z9] using h)]
  |_=>simp[Z9]at h
 |.lst a,y,h=>by cases y<;>simp[Z9]at h
 |.dct a b,y,h=>by cases y<;>simp[Z9]at h
 |.obj a,y,h=>by cases y<;>simp[Z9]at h
 |.kt a,y,h=>by cases y<;>simp[Z9]at h
 |.dic a,y,h=>by cases y<;>simp[Z9]at h
theorem Jn:∀ {x y:Li D},Yo x y=true->x=y
 |[],y,h=>by cases y<;>simp[Yo]at h ⊢
 |a :: x,y,h=>by
  cases y with
  |nil=>simp[Yo]at h
  |cons b y=>
   have h:(Z9 a b&&Yo x y)=true:=h;rw[Ba]at h;rw[ZfO h.1,Jn h.2]
end
mutual
theorem UP:∀ {n:Nat}{x:D},okD n x=true->Z9 x x=true
 |_,.non,_=>rfl
 |_,.bl a,_=>by simp[Z9]
 |_,.int a,_=>by simp[Z9]
 |_,.str a,_=>by simp[Z9]
 |0,.tup a,h=>by simp[okD]at h
 |n+1,.tup a,h=>VW (n:=n) (x:=a) h
 |_,.lst a,h=>by simp[okD]at h
 |_,.dct a b,h=>by simp[okD]at h
 |_,.obj a,h=>by simp[okD]at h
 |_,.kt a,h=>by simp[okD]at h
 |_,.dic a,h=>by simp[okD]at h
theorem VW:∀ {n:Nat}{x:Li D},Xk n x=true->Yo x x=true
 |_,[],_=>rfl
 |n,a :: x,h=>by
  have h:(okD n a&&Xk n x)=true:=h;rw[Ba]at h;show(Z9 a a&&Yo x x)=true;rw[UP h.1,VW h.2];rfl
end
theorem X8:∀ {n:Nat}{xs:Li D}{i:Nat}{d:D},Xk n xs=true->xs[i]?=some d->okD n d=true
 |_,[],_,_,_,e=>by simp at e
 |n,x :: xs,i,d,h,e=>by
  have h:(okD n x&&Xk n xs)=true:=h;rw[Ba]at h;cases i with
  |zero=>simp at e;subst e;exact h.1
  |succ i=>exact X8 (i:=i) h.2 (by simpa using e)
theorem Xp:∀ {xs ys:Li D},Yo xs ys=((List.range (min xs.length ys.length)).all (fun i=>Z9 ((xs[i]?).getD .non) ((ys[i]?).getD .non))&&xs.length==ys.length)
 |[],[]=>rfl
 |[],_ :: _=>by simp[Yo]
 |_ :: _,[]=>by simp[Yo]
 |x :: xs,y :: ys=>by
  have ih:=@Xp xs ys;show(Z9 x y&&Yo xs ys)=_;rw[ih];have e:min (x :: xs).length (y :: ys).length=min xs.length ys.length+1:=by simp only[List.length_cons];omega
  rw[e,List.range_succ_eq_map,List.all_cons,List.all_map];simp only[List.length_cons];have z:(xs.length+1==ys.length+1)=(xs.length==ys.length):=by
   rw[Bool.eq_iff_iff];simp
  rw[z,Bool.and_assoc];rfl
section
variable {X:Cx}{ad:Li Ad}{H:Hp}
def Zj5(X:Cx)(ad:Li Ad)(H:Hp)(v:V)(x:D):Prop:=∀ n m y,okD n x=true->okD m y=true->Den X.K ad H v y->x=y
theorem Ww{n:Nat}{x:D}{P:Prop}(h:okD n x=true)(h0:∀ n,okD n x=false):P:=by rw[h0]at h;cases h
theorem Zew(i n:Nat):okD n (.lst i)=false:=by cases n<;>rfl
theorem Zeu(ks:Li Str)(vs:Li D)(n:Nat):okD n (.dct ks vs)=false:=by cases n<;>rfl
theorem Zev(i n:Nat):okD n (.dic i)=false:=by cases n<;>rfl
theorem Zex(i n:Nat):okD n (.obj i)=false:=by cases n<;>rfl
theorem ZhV(ks:Li Str)(n:Nat):okD n (.kt ks)=false:=by cases n<;>rfl
theorem Zey{n:Nat}{xs:Li D}(h:okD n (.tup xs)=true):∃ m,Xk m xs=true:=by
 cases n with
 |zero=>cases h
 |succ n=>exact⟨n,h⟩
theorem Den.injP(J:∀ (a:Ad) (xs ys:Li V),TupAt X.K H a xs->TupAt X.K H a ys->xs=ys){v:V}{x:D}(h:Den X.K ad H v x):Zj5 X ad H v x:=
 Den.rec (motive_1:=fun v x _=>Zj5 X ad H v x) (motive_2:=fun vs xs _=>∀ n m ys,Xk n xs=true->Xk m ys=true->Dens X.K ad H vs ys->xs=ys)
  (fun _ _ _ _ _ h=>by cases h;rfl) (fun _ _ _ _ _ _ h=>by cases h;rfl) (fun _ _ _ _ _ _ h=>by cases h;rfl) (fun _ _ _ _ _ _ h=>by cases h;rfl)
  (fun e _ ih n m y hx hy h=>by
   obtain⟨n',hx⟩:=Zey hx;cases h with
   |tup e' r'=>
    cases J _ _ _ e e'
    obtain⟨m',hy⟩:=Zey hy;rw[ih n' m' _ hx hy r']
   |lst _=>exact Ww hy (Zew _)
   |dic _ _=>exact Ww hy (Zev _)
   |dct _ _ _ _ _=>exact Ww hy (Zeu _ _)
   |obj _ _=>exact Ww hy (Zex _)
   |kt _ _ _ _ _ _=>exact Ww hy (ZhV _))
  (fun _ _ _ _ hx _ _=>Ww hx (Zew _)) (fun _ _ _ _ _ hx _ _=>Ww hx (Zev _)) (fun _ _ _ _ _ _ _ _ _ hx _ _=>Ww hx (Zeu _ _)) (fun _ _ _ _ _ hx _ _=>Ww hx (Zex _)) (fun _ _ _ _ _ _ _ _ _ hx _ _=>Ww hx (ZhV _))
  (fun _ _ _ _ _ h=>by cases h;rfl)
  (fun _ _ i1 i2 n m ys hx hy h=>by
   cases h with
   |cons a' r'=>
    have hx:=Bool.and_eq_true_iff.mp hx;have hy:=Bool.and_eq_true_iff.mp hy;rw[i1 n m _ hx.1 hy.1 a',i2 n m _ hx.2 hy.2 r']) h
theorem Den.inj(J:∀ (a:Ad) (xs ys:Li V),TupAt X.K H a xs->TupAt X.K H a ys->xs=ys){n m:Nat}{v:V}{x y:D}(hx:okD n x=true)(hy:okD m y=true)(h:Den X.K ad H v x)(h':Den X.K ad H v y):x=y:=h.injP J n m y hx hy h'
theorem Dens.inj(J:∀ (a:Ad) (xs ys:Li V),TupAt X.K H a xs->TupAt X.K H a ys->xs=ys){n m:Nat}{vs:Li V}{xs ys:Li D}(hx:Xk n xs=true)(hy:Xk m ys=true)(h:Dens X.K ad H vs xs)(h':Dens X.K ad H vs ys):xs=ys:=by
 induction vs generalizing xs ys with
 |nil=>cases h;cases h';rfl
 |cons v vs ih=>
  cases h with
  |cons a r=>cases h' with
   |cons a' r'=>
    have hx:=Bool.and_eq_true_iff.mp hx;have hy:=Bool.and_eq_true_iff.mp hy;rw[a.inj J hx.1 hy.1 a',ih hx.2 hy.2 r r']
open PySem.SeqAt in
theorem Ziy{pQ:Li (Ad×Obj)}{σ:L2.St}{s:Sd}(I:Inv X pQ σ H s):∀ (n:Nat) (x y:D) (A:Around) (vx vy:V) (ux uy:vL),okD n x=true->okD n y=true->A.units+n < cLine->Den X.K ad H vx x->Den X.K ad H vy y->RelV vx ux->RelV vy uy->EqAt A s ux uy (Z9 x y):=by
 intro n
 induction n with
 |zero=>
  intro x y A vx vy ux uy hx hy hu dx dy rx ry;cases dx with
  |non=>
   cases rx;cases dy with
   |non=>cases ry;exact EqAt.same _
   |int j=>obtain⟨t',rfl⟩:=ry;exact EqAt.none_int j t'
   |str j=>obtain⟨t',rfl⟩:=ry;exact EqAt.none_str j t'
   |_=>simp[okD]at hy
  |int i=>
   obtain⟨t,rfl⟩:=rx;cases dy with
   |non=>cases ry;exact EqAt.int_none i t
   |int j=>obtain⟨t',rfl⟩:=ry;exact(show Z9 (.int i) (.int j)=(i==j) from by rw[Bool.eq_iff_iff];simp[Z9]) ▸ EqAt.int_int i t j t'
   |str j=>obtain⟨t',rfl⟩:=ry;exact EqAt.int_str i t j t'
   |_=>simp[okD]at hy
  |str i=>
   obtain⟨t,rfl⟩:=rx;cases dy with
   |non=>cases ry;exact EqAt.str_none i t
   |int j=>obtain⟨t',rfl⟩:=ry;exact EqAt.str_int i t j t'
   |str j=>obtain⟨t',rfl⟩:=ry;exact(show Z9 (.str i) (.str j)=(i==j) from by rw[Bool.eq_iff_iff];simp[Z9]) ▸ EqAt.str_str i t j t'
   |_=>simp[okD]at hy
  |_=>simp[okD]at hx
 |succ n ih=>
  intro x y A vx vy ux uy hx hy hu dx dy rx ry;cases dx with
  |non=>
   cases rx;cases dy with
   |non=>cases ry;exact EqAt.same _
   |int j=>obtain⟨t',rfl⟩:=ry;exact EqAt.none_int j t'
   |str j=>obtain⟨t',rfl⟩:=ry;exact EqAt.none_str j t'
   |tup e r=>
    cases ry;obtain⟨its,_,p,_⟩:=I.tuple ((e).sq);exact EqAt.none_tuple p (by omega)
   |_=>simp[okD]at hy
  |int i=>
   obtain⟨t,rfl⟩:=rx;cases dy with
   |non=>cases ry;exact EqAt.int_none i t
   |int j=>obtain⟨t',rfl⟩:=ry;exact(show Z9 (.int i) (.int j)=(i==j) from by rw[Bool.eq_iff_iff];simp[Z9]) ▸ EqAt.int_int i t j t'
   |str j=>obtain⟨t',rfl⟩:=ry;exact EqAt.int_str i t j t'
   |tup e r=>
    cases ry;obtain⟨its,_,p,_⟩:=I.tuple ((e).sq);exact EqAt.int_tuple i t p (by omega)
   |_=>simp[okD]at hy
  |str i=>
   obtain⟨t,rfl⟩:=rx;cases dy with
   |non=>cases ry;exact EqAt.str_none i t
   |int j=>obtain⟨t',rfl⟩:=ry;exact EqAt.str_int i t j t'
   |str j=>obtain⟨t',rfl⟩:=ry;exact(show Z9 (.str i) (.str j)=(i==j) from by rw[Bool.eq_iff_iff];simp[Z9]) ▸ EqAt.str_str i t j t'
   |tup e r=>
    cases ry;obtain⟨its,_,p,_⟩:=I.tuple ((e).sq);exact EqAt.str_tuple i t p (by omega)
   |_=>simp[okD]at hy
  |@tup a xs ds e r=>
   cases rx;obtain⟨its,rv,p,_⟩:=I.tuple ((e).sq);cases dy with
   |non=>cases ry;exact EqAt.tuple_none p (by omega)
   |int j=>obtain⟨t',rfl⟩:=ry;exact EqAt.tuple_int j t' p (by omega)
   |str j=>obtain⟨t',rfl⟩:=ry;exact EqAt.tuple_str j t' p (by omega)
   |@tup b ys es e' r'=>
    cases ry;by_cases hab:a=b
    ·subst hab
     have z:=Den.inj (fun _ _ _ e e2=>I.tuple_inj e.sq e2.sq) (n:=n+1) (m:=n+1) hx hy (Den.tup e r) (Den.tup e' r')
     cases z;rw[UP hx];exact EqAt.same _
    ·obtain⟨its',rv',p',_⟩:=I.tuple ((e').sq)
     refine EqAt.of_refs hab ?_;have q:=RcAt.tuples (A:=A) (s:=s) (e:=fun i=>Z9 ((ds[i]?).getD .non) ((es[i]?).getD .non)) p p' (by omega) fun j h1 h2=>?_
     ·have e1:its.toArray.size=ds.length:=by rw[List.size_toArray,<-rv.length,r.length]
      have e2:its'.toArray.size=es.length:=by rw[List.size_toArray,<-rv'.length,r'.length]
      rw[e1,e2]at q;show RcAt A s (.ref a) (.ref b) (Yo ds es);rw[Xp];exact q
     ·have l1:j < ds.length:=by rw[<-r.length,rv.length];simpa using h1
      have l2:j < es.length:=by rw[<-r'.length,rv'.length];simpa using h2
      have g1:ds[j]?=some ds[j]:=Lg l1;have g2:es[j]?=some es[j]:=Lg l2;obtain⟨v1,q1,d1⟩:=r.get g1;obtain⟨v2,q2,d2⟩:=r'.get g2;obtain⟨u1,w1,r1⟩:=rv.get q1;obtain⟨u2,w2,r2⟩:=rv'.get q2;have f1:its.toArray[j]=u1:=by
       have:its[j]?=some (its[j]'(by simpa using h1)):=Lg _
       rw[w1]at this;simpa using(Option.some.inj this).symm
      have f2:its'.toArray[j]=u2:=by
       have:its'[j]?=some (its'[j]'(by simpa using h2)):=Lg _
       rw[w2]at this;simpa using(Option.some.inj this).symm
      rw[f1,f2,g1,g2];exact ih ds[j] es[j] A.in1 v1 v2 u1 u2 (X8 hx g1) (X8 hy g2) (by show A.units+1+n < cLine;omega) d1 d2 r1 r2
   |_=>simp[okD]at hy
  |_=>simp[okD]at hx
open PySem.SeqAt in
theorem ZaI{pQ:Li (Ad×Obj)}{σ:L2.St}{s:Sd}(I:Inv X pQ σ H s){n:Nat}{A:Around}{a b:Ad}{xs ys:Li V}{ds es:Li D}{its its':Li vL}(hx:Xk n ds=true)(hy:Xk n es=true)(hu:A.units+n+1 < cLine)(r:Dens X.K ad H xs ds)(r':Dens X.K ad H ys es)(rv:Vals xs its)(rv':Vals ys its')(j:Nat)(h1:j < its.toArray.size)(h2:j < its'.toArray.size):EqAt A.in1 s its.toArray[j] its'.toArray[j] (Z9 ((ds[j]?).getD .non) ((es[j]?).getD .non)):=by
 have l1:j < ds.length:=by rw[<-r.length,rv.length];simpa using h1
 have l2:j < es.length:=by rw[<-r'.length,rv'.length];simpa using h2
 have g1:ds[j]?=some ds[j]:=Lg l1;have g2:es[j]?=some es[j]:=Lg l2;obtain⟨v1,q1,d1⟩:=r.get g1;obtain⟨v2,q2,d2⟩:=r'.get g2;obtain⟨u1,w1,r1⟩:=rv.get q1;obtain⟨u2,w2,r2⟩:=rv'.get q2;have f1:its.toArray[j]=u1:=by
  have:its[j]?=some (its[j]'(by simpa using h1)):=Lg _
  rw[w1]at this;simpa using(Option.some.inj this).symm
 have f2:its'.toArray[j]=u2:=by
  have:its'[j]?=some (its'[j]'(by simpa using h2)):=Lg _
  rw[w2]at this;simpa using(Option.some.inj this).symm
 rw[f1,f2,g1,g2];exact Ziy I n ds[j] es[j] A.in1 v1 v2 u1 u2 (X8 hx g1) (X8 hy g2) (by show A.units+1+n < cLine;omega) d1 d2 r1 r2
open PySem.SeqAt in
theorem Zg4{pQ:Li (Ad×Obj)}{σ:L2.St}{s:Sd}(I:Inv X pQ σ H s){n:Nat}{A:Around}{a b:Ad}{xs ys:Li V}{ds es:Li D}(hx:Xk n ds=true)(hy:Xk n es=true)(hu:A.units+n+1 < cLine)(e:TupAt X.K H a xs)(r:Dens X.K ad H xs ds)(e':TupAt X.K H b ys)(r':Dens X.K ad H ys es):RcAt A s (.ref a) (.ref b) (Yo ds es)/\RcNeAt A s (.ref a) (.ref b) (!Yo ds es):=by
 obtain⟨its,rv,p,_⟩:=I.tuple (e.sq);obtain⟨its',rv',p',_⟩:=I.tuple (e'.sq);have e1:its.toArray.size=ds.length:=by rw[List.size_toArray,<-rv.length,r.length]
 have e2:its'.toArray.size=es.length:=by rw[List.size_toArray,<-rv'.length,r'.length]
 have q:=RcAt.tuples (A:=A) (s:=s) (e:=fun i=>Z9 ((ds[i]?).getD .non) ((es[i]?).getD .non)) p p' (by omega) fun j h1 h2=>ZaI (a:=a) (b:=b) I hx hy hu r r' rv rv' j h1 h2
 have q':=RcNeAt.tuples (A:=A) (s:=s) (e:=fun i=>Z9 ((ds[i]?).getD .non) ((es[i]?).getD .non)) p p' (by omega) fun j h1 h2=>ZaI (a:=a) (b:=b) I hx hy hu r r' rv rv' j h1 h2
 rw[e1,e2]at q q';rw[Xp];exact⟨q,q'⟩
end
end Dp



namespace Dp
open PySem PySem.Spec PyProof.Rows L2
variable [ClsTab]
section
open Builtin
open AutoSeq1 (wpAny_loadPart')
theorem Vj:fillsNumberSlot (.type "tuple") "mul"=pure false:=
 PySem.fillsNumberSlot_seq (id := "tuple.__mul__") (r:=some (.builtin "tuple.__rmul__")) F.slot_tuple_mul.lookup (by decide +kernel) F.slot_tuple_rmul.lookup (by decide +kernel)
theorem Q4:seqRepeat? (.type "tuple")=pure (some (.builtin "tuple.__mul__")):=by
 unfold seqRepeat?
 rw[PySem.seqSlot_of (T := "tuple") (name := "__mul__") (id := "tuple.__mul__") F.slot_tuple_mul.lookup (by decide +kernel),PySem.seqSlot_of (T := "tuple") (name := "__rmul__") (id := "tuple.__rmul__") F.slot_tuple_rmul.lookup (by decide +kernel)]
 rfl
theorem Za0(a:Int)(t:Tok)(l:Ad)(items:Array vL)(n:Nat)(dd:Ot Ad)(sl:Array (Ot vL)):Meets (Builtin.«int.__rmul__» ⟨[.int a t,.ref l],[]⟩) (fun _ R s=>s.heap.get? l=some { cls:=.type "tuple",dict:=dd,data:=.seq items n,slots:=sl }/\R (.ok (.ret Value.notImplemented)) s):=
 .of_wp fun prog w A R s h=>by obtain⟨hp,g,d,tk,os⟩:=s;obtain⟨hl,h⟩:=h;wp_walk;exact⟨_,rfl,h⟩
theorem Zfo(l:Ad)(items:Array vL)(n:Nat)(dd:Ot Ad)(sl:Array (Ot vL))(u:Tok) :
  Meets (Builtin.«tuple.__mul__» ⟨[.ref l,.int 1 u],[]⟩) (fun _ R s=>s.heap.get? l=some { cls:=.type "tuple",dict:=dd,data:=.seq items n,slots:=sl }/\R (.ok (.ret (Value.ref l))) s):=
 .of_wp fun prog w A R s h=>by
  obtain⟨hp,g,d,tk,os⟩:=s;obtain⟨hl,h⟩:=h;have f1:=AutoSeq1.idx_int;wp_walk using wpAny_loadPart' hl;exact⟨_,rfl,h⟩
theorem Zfn(l:Ad)(items:Array vL)(n:Nat)(dd:Ot Ad)(sl:Array (Ot vL))(k:Int)(u:Tok)(h0:¬items.isEmpty=true)(h1:k<=0)(h2:-1000<=k) :
  Meets (Builtin.«tuple.__mul__» ⟨[.ref l,.int k u],[]⟩) (fun _ R s=>s.heap.get? l=some { cls:=.type "tuple",dict:=dd,data:=.seq items n,slots:=sl }/\R (.ok (.ret (Value.ref s.heap.objs.size))) { s with heap:=s.heap.push { cls:=.type "tuple",data:=.seq #[] } }):=
 .of_wp fun prog w A R s h=>by
  obtain⟨hp,g,d,tk,os⟩:=s;obtain⟨hl,h⟩:=h;have f1:=AutoSeq1.idx_int;have a1:(decide (k < -(2 ^ 63))||decide (k>=2 ^ 63))=false:=by rw[decide_eq_false (by omega),decide_eq_false (by omega)];rfl
  have a2:(items.isEmpty||k==1)=false:=by
   have:(k==1)=false:=by rw[beq_eq_false_iff_ne];omega
   rw[this,Bool.or_false];simpa using h0
  have a3:(decide (k<=0)||items.isEmpty)=true:=by rw[decide_eq_true h1];rfl
  wp_walk using wpAny_loadPart' hl
  refine wpAny_ite_false (by rw[a1];rfl) ?_
  wp_walk using wpAny_loadPart' hl
  refine wpAny_ite_false (by rw[a2];rfl) ?_
  wp_walk using wpAny_loadPart' hl
  exact⟨_,rfl,h⟩
theorem Zfp(l:Ad)(items:Array vL)(n:Nat)(dd:Ot Ad)(sl:Array (Ot vL))(k:Int)(u:Tok)(h0:items.size=1)(h1:2<=k)(h2:k<=1000) :
  Meets (Builtin.«tuple.__mul__» ⟨[.ref l,.int k u],[]⟩) (fun _ R s=>s.heap.get? l=some { cls:=.type "tuple",dict:=dd,data:=.seq items n,slots:=sl }/\R (.ok (.ret (Value.ref s.heap.objs.size))) { s with heap:=s.heap.push { cls:=.type "tuple",data:=.seq ((List.replicate k.toNat items).foldl (fun x1 x2=>x1++x2) #[]) } }):=
 .of_wp fun prog w A R s h=>by
  obtain⟨hp,g,d,tk,os⟩:=s;obtain⟨hl,h⟩:=h;have f1:=AutoSeq1.idx_int;have a1:(decide (k < -(2 ^ 63))||decide (k>=2 ^ 63))=false:=by rw[decide_eq_false (by omega),decide_eq_false (by omega)];rfl
  have ae:items.isEmpty=false:=by
   rw[Array.isEmpty_eq_false_iff];intro z;rw[z]at h0;simp at h0
  have a2:(items.isEmpty||k==1)=false:=by
   have:(k==1)=false:=by rw[beq_eq_false_iff_ne];omega
   rw[this,Bool.or_false];exact ae
  have a3:(decide (k<=0)||items.isEmpty)=false:=by rw[decide_eq_false (by omega),ae];rfl
  have a4:decide ((items.size:Int) * k > (2 ^ 63 - 1) / 8)=false:=by rw[h0];exact decide_eq_false (by omega)
  have a5:Tuple.tupleTooMany ((items.size:Int) * k)=false:=by
   unfold Tuple.tupleTooMany;rw[h0];exact decide_eq_false (by have:(sizeLine:Int)>=1000:=(by decide);omega)
  have a6:decide (((List.replicate k.toNat items).foldl (fun x1 x2=>x1++x2) #[]).size > sizeLine)=false:=by
   rw[AutoListH.size_joined];refine decide_eq_false ?_;have:sizeLine>=1000:=by decide
   simp only[h0,Array.size_empty];omega
  wp_walk using wpAny_loadPart' hl
  refine wpAny_ite_false (by rw[a1];rfl) ?_
  wp_walk using wpAny_loadPart' hl
  refine wpAny_ite_false (by rw[a2];rfl) ?_
  wp_walk using wpAny_loadPart' hl
  refine wpAny_ite_false (by rw[a3];rfl) ?_
  wp_walk using wpAny_loadPart' hl
  refine wpAny_ite_false a4 ?_
  wp_walk using wpAny_loadPart' hl
  refine wpAny_ite_false (by rw[a5];rfl) ?_
  wp_walk using wpAny_loadPart' hl
  exact⟨_,rfl,h⟩
theorem Zg6{X:Cx}{pQ:Li (Ad×Obj)}{s:Sd}{σ:L2.St}{H:Hp}{a:Ad}{v:V}{k:Int}{t:Tok}{Q:VK}(I:L2.Inv X pQ σ H s)(ha:TupAt X.K H a [v])(h1:k<=1000)(h2:-1000<=k)(q1:k=1->Q (.ref a) H)(q2:∀ p,H p=none->Q (.ref p) (upd H p (.tup (List.replicate k.toNat v)))):wpAny (model X.prog X.w) X.A (binaryOp .Mult (.ref a) (.int k t)) (EP X pQ σ Q) X.xe s:=by
 obtain⟨its,r,p1,_⟩:=I.tuple (ha.sq);obtain⟨u,rfl,ru⟩:=r.one;obtain⟨⟨c1,dd,dt,sl⟩,ho,hc,n,hd⟩:=id p1;simp only at hc hd;subst hc hd;have fin:∀ its':Li vL,Vals (List.replicate k.toNat v) its'->EP X pQ σ Q (.ref s.heap.objs.size) { s with heap:=s.heap.push { cls:=.type "tuple",data:=.seq its'.toArray } }:=fun its' r'=>
  ⟨.ref s.heap.objs.size,_,I.laid (t':=s.toks) (o:=.tup (List.replicate k.toNat v)) (fun b ob q=>Heap.get?_push_of_some _ q) (Nat.le_refl _) ⟨by rw[List.length_replicate];exact Nat.le_trans (show k.toNat<=1000 by omega) (by decide),its',r',IsTup.new _ _⟩,rfl,q2 _ (I.hok.fresh (Nat.le_refl _))⟩
 refine wpAny_binaryOp_repeat_ref (T := "tuple") (U := "int") (by decide) ⟨_,ho,rfl⟩ (fun s'=>typeIs_int s' k t) Vj F.fills_int_mul F.slot_int_rmul Q4 F.slot_int_index.lookup
  (call_meets F.slot_int_rmul (typeIs_int s k t) F.entry_int_rmul (F.args_int_rmul_2 _ _) (Za0 k t a _ n dd sl) ⟨ho,rfl,⟨_,ho,rfl⟩,?_⟩)
 by_cases e1:k=1
 ·subst e1
  exact call_meets F.slot_tuple_mul ⟨_,ho,rfl⟩ F.entry_tuple_mul (F.args_tuple_mul_2 _ _) (Zfo a _ n dd sl t) ⟨ho,⟨.ref a,H,I,rfl,q1 rfl⟩⟩
 ·by_cases e0:k<=0
  ·refine call_meets F.slot_tuple_mul ⟨_,ho,rfl⟩ F.entry_tuple_mul (F.args_tuple_mul_2 _ _) (Zfn a _ n dd sl k t (by simp) e0 h2) ⟨ho,?_⟩
   have z:k.toNat=0:=by omega
   exact fin [] (by rw[z];exact .nil)
  ·refine call_meets F.slot_tuple_mul ⟨_,ho,rfl⟩ F.entry_tuple_mul (F.args_tuple_mul_2 _ _) (Zfp a _ n dd sl k t (by simp) (by omega) h1) ⟨ho,?_⟩
   have e:List.foldl (fun x1 x2=>x1++x2) #[] (List.replicate k.toNat [u].toArray)=(List.replicate k.toNat u).toArray:=by
    have e2:=foldl_rep [u] k.toNat [];rw[List.nil_append]at e2;rw[show([]:Li vL).toArray=#[] from rfl]at e2;rw[e2]
    congr 1
    generalize k.toNat=j
    induction j with
    |zero=>rfl
    |succ j ih=>rw[List.replicate_succ,List.flatten_cons,ih,List.replicate_succ];rfl
   rw[e];refine fin _ ?_;generalize k.toNat=j
   induction j with
   |zero=>exact .nil
   |succ j ih=>exact .cons ru ih
end
theorem Uv:Zp<=sizeLine:=by decide
section
variable {X:Cx}
theorem ZaN{i:Int}(h:Z1 i=true):-(2 ^ 64) < i/\i < 2 ^ 64:=by
 unfold Z1 at h;rw[Ba]at h;exact⟨of_decide_eq_true h.1,of_decide_eq_true h.2⟩
theorem ZfZ{pQ:Li (Ad×Obj)}{s:Sd}{σ:L2.St}{H:Hp}{a b:Ad}{xs ys:Li V}{Q:VK}(I:Inv X pQ σ H s)(ha:TupAt X.K H a xs)(hb:TupAt X.K H b ys)(hz:xs.length+ys.length<=sizeLine)(q0:xs=[]->Q (.ref b) H)(q1:ys=[]->Q (.ref a) H)(q2:∀ p,H p=none->Q (.ref p) (upd H p (.tup (xs++ys)))):wpAny (model X.prog X.w) X.A (binaryOp .Add (.ref a) (.ref b)) (EP X pQ σ Q) X.xe s:=by
 by_cases hx:xs=[]
 ·obtain⟨its,r1,p1,_⟩:=I.tuple (ha.sq)
  obtain⟨its2,r2,p2,_⟩:=I.tuple (hb.sq);have e1:its=[]:=r1.nil_iff.mpr hx;subst e1;obtain⟨⟨c1,dd,dt,sl⟩,ho,hc,n,hd⟩:=id p1;obtain⟨⟨c2,dd2,dt2,sl2⟩,ho2,hc2,n2,hd2⟩:=id p2;simp only at hc hd hc2 hd2;subst hc hd hc2 hd2;exact concat_meets ⟨_,ho,rfl⟩ ⟨_,ho2,rfl⟩ noFill_tuple_add seq_tuple_add PySem.F.slot_tuple_add PySem.F.entry_tuple_add (PySem.F.args_tuple_add_2 _ _)
   (tuple_addW0 a b #[] its2.toArray n n2 dd dd2 sl sl2 rfl) ⟨ho,ho2,⟨.ref b,H,I,rfl,q0 hx⟩⟩
 ·exact op_catT pQ s σ H (.ref a) (.ref b) _ _ Q I rfl rfl ⟨a,b,xs,ys,rfl,rfl,(ha).sq,(hb).sq,hx,hz,q1,fun _=>q2⟩
theorem Zci{i j:Int}(hi:0<=i)(hj:0<=j):Builtin.bitAnd i j=((i.toNat &&& j.toNat:Nat):Int):=by
 unfold Builtin.bitAnd;simp[hi,hj]
theorem Zcj{i j:Int}(hi:0<=i)(hj:j < 0):Builtin.bitAnd i j=i - ((i.toNat &&& (-j - 1).toNat:Nat):Int):=by
 unfold Builtin.bitAnd;rw[decide_eq_true hi,decide_eq_false (by omega)]
 rfl
theorem ZgV{op:Operator}{i j k:Int}{pQ:Li (Ad×Obj)}{s:Sd}{σ:L2.St}{H:Hp}{v u:vL}{Q:VK}(I:L2.Inv X pQ σ H s)(rx:RelV (.int i) v)(ry:RelV (.int j) u)(e:UB op i j=some k)(p:Q (.int k) H) :
  wpAny (model X.prog X.w) X.A (binaryOp op v u) (EP X pQ σ Q) X.xe s:=by
 unfold UB at e;split at e
 ·cases e
  exact op_add pQ s σ H _ _ v u Q I rx ry ⟨_,_,rfl,rfl,p⟩
 ·cases e
  exact op_sub pQ s σ H _ _ v u Q I rx ry ⟨_,_,rfl,rfl,p⟩
 ·split at e
  ·rename_i hl
   cases e;refine op_mul pQ s σ H _ _ v u Q I rx ry ⟨_,_,rfl,rfl,?_,p⟩;rw[Bool.or_eq_true]at hl;exact hl.elim (fun z=>.inl (ZaN z)) fun z=>.inr (ZaN z)
  ·cases e
 ·split at e
  ·rename_i hl
   cases e;exact op_fdiv pQ s σ H _ _ v u Q I rx ry ⟨_,_,rfl,rfl,hl,p⟩
  ·split at e
   ·rename_i hl
    cases e;exact op_fdivN pQ s σ H _ _ v u Q I rx ry ⟨_,_,rfl,rfl,⟨by omega,by omega⟩,p⟩
   ·cases e
 ·split at e
  ·rename_i hl
   cases e;exact op_mod pQ s σ H _ _ v u Q I rx ry ⟨_,_,rfl,rfl,hl,p⟩
  ·split at e
   ·rename_i hl
    cases e;exact op_modN pQ s σ H _ _ v u Q I rx ry ⟨_,_,rfl,rfl,(by omega),p⟩
   ·cases e
 ·split at e
  ·rename_i hl
   cases e;have:=ZaN hl.2.2;exact op_shl pQ s σ H _ _ v u Q I rx ry ⟨_,_,rfl,rfl,⟨hl.1,by omega,by omega⟩,p⟩
  ·cases e
 ·split at e
  ·rename_i hl
   cases e;refine op_and pQ s σ H _ _ v u Q I rx ry ⟨_,_,rfl,rfl,?_⟩;dsimp only;rw[Zci hl.1 hl.2];exact p
  ·split at e
   ·rename_i hl
    cases e;refine op_and pQ s σ H _ _ v u Q I rx ry ⟨_,_,rfl,rfl,?_⟩;dsimp only;rw[Zcj hl.1 hl.2];exact p
   ·cases e
 ·split at e
  ·rename_i hl
   cases e;exact op_shr pQ s σ H _ _ v u Q I rx ry ⟨_,_,rfl,rfl,hl.1,p⟩
  ·cases e
 ·cases e
theorem Zcs{pQ:Li (Ad×Obj)}{s:Sd}{σ:L2.St}{H:Hp}{a b:Ad}{xs ys:Li V}{Q:VK}(I:L2.Inv X pQ σ H s)(ha:SqL X.K H a xs)(hb:SqL X.K H b ys)(hz:xs.length+ys.length<=sizeLine)(q:∀ p,H p=none->Q (.ref p) (upd H p (.lst (xs++ys)))):wpAny (model X.prog X.w) X.A (binaryOp .Add (.ref a) (.ref b)) (EP X pQ σ Q) X.xe s:=by
 obtain⟨its,r,p1,_⟩:=I.list ha;obtain⟨its2,r2,p2,_⟩:=I.list hb;obtain⟨⟨cls,dd,data,sl⟩,ho,hc,n,hd⟩:=id p1.isList;obtain⟨⟨cls2,dd2,data2,sl2⟩,ho2,hc2,n2,hd2⟩:=id p2.isList;simp only at hc hd hc2 hd2;subst hc hd hc2 hd2;have e:its.toArray++its2.toArray=(its++its2).toArray:=by simp
 have l1:=r.length;have l2:=r2.length;refine concat_meets ⟨_,ho,rfl⟩ ⟨_,ho2,rfl⟩ noFill_list_add seq_list_add PySem.F.slot_list_add PySem.F.entry_list_add (PySem.F.args_list_add_2 _ _) (list_addW a b its.toArray its2.toArray n n2 dd dd2 sl sl2 (by simp;omega)) ⟨ho,ho2,?_⟩
 rw[e];exact⟨.ref _,_,I.lnew (t':=s.toks) (r.append r2) (by rw[List.length_append];omega),rfl,q _ I.fresh⟩
theorem Zc9{op:Operator}(h:Wv op=true):op=.Add:=by cases op<;>first|rfl|cases h
theorem Zem{op:Operator}(h:XM op=true):op=.Mult:=by cases op<;>first|rfl|cases h
theorem ZgU{op:Operator}:OpR X (binaryOp op) (rD X.K (Jo op)):=by
 intro pQ s σ H x y v u Q I rx ry h;obtain⟨ad,st,dx,dy,d,st',S,hx,hy,e,p⟩:=h;unfold Jo at e;split at e
 ·split at e
  ·rename_i k q
   cases e;cases hx;cases hy
   exact ZgV I rx ry q (p.at S (.int _))
  ·cases e
 ·split at e
  ·rename_i hz0
   cases Zc9 hz0.1
   have hz:=hz0.2;cases e;obtain⟨a,xs,rfl,ha,r1⟩:=hx.ofTup;obtain⟨b,ys,rfl,hb,r2⟩:=hy.ofTup;cases rx;cases ry
   refine ZfZ I ha hb (by rw[r1.length,r2.length];exact Nat.le_trans hz Uv) (fun z=>?_) (fun z=>?_) fun q hq=>?_
   ·subst z;cases r1
    exact p.at S hy
   ·subst z;cases r2
    rw[List.append_nil]at p;exact p.at S hx
   ·exact p _ ad _ (Ext.laid hq) (S.laid hq) (.tup (.inl upd_same) ((r1.append r2).mono (Ext.laid hq)))
  ·cases e
 ·split at e
  ·rename_i hz0
   cases Zem hz0
   obtain⟨a,xs,rfl,ha,r1⟩:=hx.ofTup;cases hy;cases rx;obtain⟨t,rfl⟩:=ry;cases r1 with
   |nil=>cases e
   |cons d1 r1=>cases r1 with
    |cons _ _=>cases e
    |nil=>
     have e:(if _/\_ then some (D.tup (List.replicate _ _),st) else none)=some (d,st'):=e
     split at e
     ·rename_i hz
      cases e;refine Zg6 I ha hz.1 hz.2 (fun z=>?_) fun q hq=>p _ ad _ (Ext.laid hq) (S.laid hq) (.tup (.inl upd_same) ((Dens.rep d1 _).mono (Ext.laid hq)))
      subst z;exact p.at S (.tup ha (.cons d1 .nil))
     ·cases e
  ·cases e
 ·split at e
  ·rename_i hop
   cases Zc9 hop
   unfold ZfY at e;split at e
   ·rename_i xs ys q1 q2
    split at e
    ·rename_i hz
     cases e;obtain⟨a,rfl,ha⟩:=hx.ofLst;obtain⟨b,rfl,hb⟩:=hy.ofLst;obtain⟨vs,r1,h1⟩:=S.list ha q1;obtain⟨ws,r2,h2⟩:=S.list hb q2;cases rx;cases ry
     refine Zcs I h1 h2 (by rw[r1.length,r2.length];exact Nat.le_trans hz Uv) fun q hq=>?_
     refine p _ (ad++[q]) _ (Ext.push hq) (S.push hq (r1.append r2)) (.newL ?_);rw[<-S.len];exact Yj
    ·cases e
   ·cases e
  ·cases e
 ·split at e
  ·rename_i hop
   cases Zem hop
   unfold Zg5 at e;split at e
   ·rename_i z q1
    split at e
    ·rename_i hz
     cases e;obtain⟨a,rfl,ha⟩:=hx.ofLst;obtain⟨vs,r1,h1⟩:=S.listM ha q1;cases hy;cases r1 with
     |cons d1 r1=>
      cases r1;rename_i w;refine op_rep pQ s σ H _ _ v u Q I rx ry ⟨a,_,[w],rfl,rfl,h1,by omega,by omega,?_,fun q hq=>?_⟩
      ·rw[List.length_singleton,Nat.one_mul]
       exact Nat.le_trans (show _<=1000 by omega) (by decide)
      ·have e1:∀ k:Nat,(List.replicate k [w]).flatten=List.replicate k w:=fun k=>by
        induction k with
        |zero=>rfl
        |succ k ih=>rw[List.replicate_succ,List.flatten_cons,ih,List.replicate_succ];rfl
       rw[e1];refine p _ (ad++[q]) _ (Ext.push hq) (S.push hq (Dens.rep d1 _)) (.newL ?_);rw[<-S.len];exact Yj
    ·cases e
   ·cases e
  ·cases e
 ·cases e
theorem ZhE:UnR X (unaryOp .USub) (rU1 X.K ZgO):=by
 intro pQ s σ H x v Q I rx h;obtain⟨ad,st,dx,d,st',S,hx,e,p⟩:=h;unfold ZgO at e;split at e
 ·cases e;cases hx
  exact un_neg pQ s σ H _ v Q I rx ⟨_,rfl,p.at S (.int _)⟩
 ·cases e
theorem Zav{xs:Li V}{ds:Li D}{ad:Li Ad}{H:Hp}{i:Int}{d:D}(r:Dens X.K ad H xs ds)(e:atD ds i=some d):∃ v,atI xs i=some v/\Den X.K ad H v d:=by
 unfold atD at e;have hl:L2.ixN xs.length i=Dp.ixN ds.length i:=by rw[r.length];rfl
 cases q:Dp.ixN ds.length i with
 |none=>rw[q]at e;cases e
 |some j=>
  rw[q]at e;obtain⟨v,e1,e2⟩:=r.get (i:=j) e;refine⟨v,?_,e2⟩;unfold atI;rw[hl,q];exact e1
theorem Ug{ad:Li Ad}{H:Hp}{k:Str}:∀ {ks:Li Str}{vs:Li V}{ds:Li D},Dens X.K ad H vs ds->ks.length=vs.length->
  (∃ v d,valV ((ks.zip vs).map fun p=>((Sum.inr p.1:Key),p.2)) (Sum.inr k)=some v/\Z2 ks ds k=some d/\Den X.K ad H v d)\/(valV ((ks.zip vs).map fun p=>((Sum.inr p.1:Key),p.2)) (Sum.inr k)=none/\Z2 ks ds k=none)
 |[],_,_,.nil,_=>.inr ⟨rfl,rfl⟩
 |[],_,_,.cons _ _,h=>by simp at h
 |_ :: _,_,_,.nil,h=>by simp at h
 |x :: ks,v :: vs,d :: ds,.cons hd r,h=>by
  by_cases e:x=k
  ·subst e
   exact .inl ⟨v,d,valV_pos rfl,by simp[Z2],hd⟩
  ·have ih:=Ug (k:=k) r (by simpa using h)
   have e1:valV (((x :: ks).zip (v :: vs)).map fun p=>((Sum.inr p.1:Key),p.2)) (Sum.inr k)=valV ((ks.zip vs).map fun p=>((Sum.inr p.1:Key),p.2)) (Sum.inr k):=valV_neg (p:=(Sum.inr x,v)) (by intro z;exact e (Sum.inr.inj z))
   have e2:Z2 (x :: ks) (d :: ds) k=Z2 ks ds k:=by simp[Z2,e]
   rw[e1,e2];exact ih
theorem ZlT(hu:X.A.units+64 < cLine):IxR X (rD X.K ixR):=by
 intro value slice pQ s σ H x y v u Q I rx ry h hs;obtain⟨ad,st,dx,dy,d,st',S,hx,hy,e,p⟩:=h;unfold ixR at e;split at e
 ·rename_i d' q
  cases e;unfold ixD at q;split at q
  ·obtain⟨a,xs,rfl,ha,r⟩:=hx.ofTup
   cases hy;obtain⟨w,e1,e2⟩:=Zav r q;exact ix_tup value slice pQ s σ H _ _ v u Q I rx ry ⟨a,xs,_,w,rfl,rfl,(ha).sq,e1,p.at S e2⟩ hs
  ·split at q
   ·rename_i q0
    obtain⟨a,rfl,ha⟩:=hx.ofLst;cases hy;obtain⟨xs,r,sq⟩:=S.list ha q0;obtain⟨w,e1,e2⟩:=Zav r q;exact ix_list value slice pQ s σ H _ _ v u Q I rx ry ⟨a,xs,_,w,rfl,rfl,sq,e1,p.at S e2⟩ hs
   ·cases q
  ·obtain⟨a,vs,rfl,ha,hl,r⟩:=hx.ofDct
   cases hy;rcases Ug r hl with⟨w,d0,e1,e2,e3⟩|⟨_,e2⟩
   ·rw[e2]at q
    cases q;exact ix_dct value slice pQ s σ H _ _ v u Q I rx ry ⟨a,_,Sum.inr _,w,rfl,rfl,ha,e1,p.at S e3⟩ hs
   ·rw[e2]at q;cases q
  ·obtain⟨a,o,its,n,rfl,h1,h2,h3,h4,h5⟩:=hx.ofKt
   cases hy;obtain⟨w,e1,e2⟩:=Zav (Qk _) q;exact ix_tup value slice pQ s σ H _ _ v u Q I rx ry ⟨a,_,_,w,rfl,rfl,.inr ⟨o,its,n,h1,h2.1,h3,h4,h5⟩,e1,p.at S e2⟩ hs
  ·cases q
 ·cases e
theorem Xx(n d:Nat)(o:Ot Int):Dp.sIx n d o=HT.sIx n d o:=by cases o<;>rfl
theorem Zdu{xs:Li V}{ds:Li D}{ad:Li Ad}{H:Hp}{lo hi:Ot Int}(r:Dens X.K ad H xs ds):Dens X.K ad H (cutV xs lo hi) (Zcy ds lo hi):=by
 unfold cutV Zcy;rw[<-r.length,Xx,Xx];exact(r.drop _).take _
theorem UI{prog:Program}{w:World}{A:Around}{E:vL->Sd->Prop}{s:Sd}{t sl:Ad}{items:Array vL}{vl vu:vL}{lo hi:Ot Int}{Q:vL->Sd->Prop}(ht:IsTup s.heap t items)(hs:s.heap.IsSliceOf sl vl vu .none)(pl:IsPart vl lo)(pu:IsPart vu hi)(hw:HT.sIx items.size 0 lo=0/\HT.sIx items.size items.size hi=items.size)(h:Q (.ref t) s):wpAny (model prog w) A (getItem (.ref t) (.ref sl)) Q E s:=by
 obtain⟨os,hos,hcs,hds⟩:=id hs;have hTs:s.TypeIs (.ref sl) "slice":=⟨os,hos,hcs⟩;unfold getItem
 try with_reducible refine wpAny_holding ?_
 first|refine wpAny_bind (wpAny_pure ?_)|skip
 refine wpAny_bind (wpAny_sequenceKey ht.typeIs (by decide) ?_)
 refine wpAny_bind (wpAny_callSpecial?_slot (name:=Str.ofString "__getitem__") ht.typeIs PyProof.Rows.slot_tuple_getitem
  (wpAny_call_entry PyProof.Rows.slot_tuple_getitem ht.typeIs PyProof.Rows.entry_tuple_getitem ?_ (PyProof.Rows.args_tuple_getitem _ _)))
 show wpAny _ _ (Builtin.Tuple.tupleItemsOf (.ref t) >>= _) _ _ s;refine wpAny_bind (tupleItemsOf_ ht ?_);refine wpAny_bind (wpAny_typeOf hTs ?_);rw[if_pos (by decide)]
 refine wpAny_bind (HT.sliceApplied_gen hs pl pu ?_);rw[hw.1,hw.2];have hyes:(((0:Nat):Int)==0&&(1:Int)==1&&(items.size - 0)==items.size)=true:=by simp
 show wpAny _ _ (if (((0:Nat):Int)==0&&(1:Int)==1&&(items.size - 0)==items.size)=true then _ else _) _ _ s
 rw[if_pos hyes];unfold Builtin.Tuple.tupleIsExact
 wp_walk using wpAny_typeOf ht.typeIs

 exact⟨_,rfl,wpAny_pure h⟩
theorem Zfh:SlR X (fun x lo hi H Q=>∃ a xs,x=.ref a/\SqT X.K H a xs/\(HT.sIx xs.length 0 lo=0/\HT.sIx xs.length xs.length hi=xs.length)/\Q (.ref a) H):=by
 intro pQ s σ H x v vl vu lo hi sl Q I rx hs pl pu h;obtain⟨a,xs,rfl,hx,hw,q⟩:=h;cases rx;obtain⟨its,r,ht,hz⟩:=I.tuple hx;have hlen:its.toArray.size=xs.length:=by rw[List.size_toArray];exact r.length.symm
 refine⟨"tuple",_,PyProof.Rows.slot_tuple_getitem.lookup,ht.typeIs,?_⟩;exact UI ht hs pl pu (by rw[hlen];exact hw) ⟨.ref a,H,I,rfl,q⟩
theorem ZmJ:SlR X (rSl X.K):=by
 intro pQ s σ H x v vl vu lo hi sl Q I rx hs pl pu h;obtain⟨ad,st,dx,d,st',S,hx,e,p⟩:=h;unfold YO at e;split at e
 ·rename_i ds
  split at e
  ·rename_i hw
   cases e;obtain⟨a,xs,rfl,ha,r⟩:=hx.ofTup;refine Zfh pQ s σ H _ v vl vu lo hi sl Q I rx hs pl pu ⟨a,xs,rfl,ha.sq,?_,p.at S hx⟩;rw[r.length,<-Xx,<-Xx];exact hw
  ·rename_i hw
   cases e;obtain⟨a,xs,rfl,ha,r⟩:=hx.ofTup;refine sl_tup pQ s σ H _ v vl vu lo hi sl Q I rx hs pl pu ⟨a,xs,rfl,(ha).sq,?_,fun q hq=>p _ ad _ (Ext.laid hq) (S.laid hq) (.tup (.inl upd_same) ((Zdu r).mono (Ext.laid hq)))⟩
   rw[r.length,<-Xx,<-Xx];exact hw
 ·split at e
  ·rename_i q0
   cases e;obtain⟨a,rfl,ha⟩:=hx.ofLst;obtain⟨xs,r,sq⟩:=S.list ha q0;refine sl_list pQ s σ H _ v vl vu lo hi sl Q I rx hs pl pu ⟨a,xs,rfl,sq,fun q hq=>p _ (ad++[q]) _ (Ext.push hq) (S.push hq (Zdu r)) (.newL ?_)⟩
   rw[<-S.len];exact Yj
  ·cases e
 ·cases e
theorem Jz{ad:Li Ad}{H:Hp}{vs:Li V}{d:D}(h:Dens X.K ad H vs [d]):∃ v,vs=[v]/\Den X.K ad H v d:=by
 cases h with
 |cons h r=>cases r;exact⟨_,rfl,h⟩
theorem ZhQ{ad:Li Ad}{H:Hp}{vs:Li V}{d e:D}(h:Dens X.K ad H vs [d,e]):∃ v w,vs=[v,w]/\Den X.K ad H v d/\Den X.K ad H w e:=by
 cases h with
 |cons h r=>
  cases r with
  |cons h' r=>cases r;exact⟨_,_,rfl,h,h'⟩
theorem Wm{g:D->Za->Res}{ds:Li D}{st:Za}{r:D×Za}(h:on1 g ds st=some r):∃ d,ds=[d]/\g d st=some r:=by
 unfold on1 at h;split at h
 ·exact⟨_,rfl,h⟩
 ·cases h
theorem Qb{g:D->D->Za->Res}{ds:Li D}{st:Za}{r:D×Za}(h:on2 g ds st=some r):∃ d e,ds=[d,e]/\g d e st=some r:=by
 unfold on2 at h;split at h
 ·exact⟨_,_,rfl,h⟩
 ·cases h
theorem Zco:CallR X (.builtin "len") (rC X.K (on1 ZcL)):=by
 intro pQ s σ H xs us Q I r h;obtain⟨ad,st,ds,d,st',S,hd,e,p⟩:=h;obtain⟨x,rfl,e1⟩:=Wm e;have e:=e1;obtain⟨v,rfl,hv⟩:=Jz hd;unfold ZcL at e;split at e
 ·rename_i n q
  cases e;unfold ZiR at q;split at q
  ·cases q
   obtain⟨a,ys,rfl,ha,rr⟩:=hv.ofTup;refine call_len_seq pQ s σ H _ us Q I r ⟨a,ys,rfl,.inr ((ha).sq),?_⟩;rw[rr.length];exact p.at S (.int _)
  ·split at q
   ·rename_i q0
    cases q;obtain⟨a,rfl,ha⟩:=hv.ofLst;obtain⟨ys,rr,sq⟩:=S.list ha q0;refine call_len_seq pQ s σ H _ us Q I r ⟨a,ys,rfl,.inl sq,?_⟩;rw[rr.length];exact p.at S (.int _)
   ·cases q
  ·cases q
   obtain⟨a,o,its,n,rfl,h1,h2,h3,h4,h5⟩:=hv.ofKt;refine call_len_seq pQ s σ H _ us Q I r ⟨a,_,rfl,.inr (.inr ⟨o,its,n,h1,h2.1,h3,h4,h5⟩),?_⟩;rw[List.length_map];exact p.at S (.int _)
  ·cases q
 ·cases e
theorem Jt:CallR X (.type "tuple") (rC X.K (on1 Vp)):=by
 intro pQ s σ H xs us Q I r h;obtain⟨ad,st,ds,d,st',S,hd,e,p⟩:=h;obtain⟨x,rfl,e1⟩:=Wm e;have e:=e1;obtain⟨v,rfl,hv⟩:=Jz hd;unfold Vp at e;split at e
 ·cases e
  obtain⟨a,ys,rfl,ha,rr⟩:=hv.ofTup;exact call_tuple_of pQ s σ H _ us Q I r ⟨a,ys,rfl,.inr ⟨(ha).sq,p.at S hv⟩⟩
 ·split at e
  ·rename_i q0
   cases e;obtain⟨a,rfl,ha⟩:=hv.ofLst;obtain⟨ys,rr,sq⟩:=S.list ha q0;exact call_tuple_of pQ s σ H _ us Q I r ⟨a,ys,rfl,.inl ⟨sq,fun l hl=>p _ ad _ (Ext.laid hl) (S.laid hl) (.tup (.inl upd_same) (rr.mono (Ext.laid hl)))⟩⟩
  ·cases e
 ·cases e
theorem Zaz:CallR X (.type "list") (rC X.K (on1 U6)):=by
 intro pQ s σ H xs us Q I r h;obtain⟨ad,st,ds,d,st',S,hd,e,p⟩:=h;obtain⟨x,rfl,e1⟩:=Wm e;have e:=e1;obtain⟨v,rfl,hv⟩:=Jz hd;unfold U6 at e;split at e
 ·cases e
  obtain⟨a,ys,rfl,ha,rr⟩:=hv.ofTup;refine call_list_of pQ s σ H _ us Q I r ⟨a,ys,rfl,.inr ((ha).sq),fun l hl=>p _ (ad++[l]) _ (Ext.push hl) (S.push hl rr) (.newL ?_)⟩
  rw[<-S.len];exact Yj
 ·split at e
  ·rename_i q0
   cases e;obtain⟨a,rfl,ha⟩:=hv.ofLst;obtain⟨ys,rr,sq⟩:=S.list ha q0;refine call_list_of pQ s σ H _ us Q I r ⟨a,ys,rfl,.inl sq,fun l hl=>p _ (ad++[l]) _ (Ext.push hl) (S.push hl rr) (.newL ?_)⟩
   rw[<-S.len];exact Yj
  ·cases e
 ·cases e
theorem Zcq(hc:X.calm=true):CallR X (.builtin "min") (rC X.K (on2 ZgM)):=by
 intro pQ s σ H xs us Q I r h;obtain⟨ad,st,ds,d,st',S,hd,e,p⟩:=h;obtain⟨x,y,rfl,e1⟩:=Qb e;have e:=e1;obtain⟨v,w,rfl,hv,hw⟩:=ZhQ hd;unfold ZgM at e;split at e
 ·cases e;cases hv;cases hw
  exact call_min2 hc pQ s σ H _ us Q I r ⟨_,_,rfl,p.at S (.int _)⟩
 ·cases e
theorem Zcp(hc:X.calm=true):CallR X (.builtin "max") (rC X.K (on2 ZgK)):=by
 intro pQ s σ H xs us Q I r h;obtain⟨ad,st,ds,d,st',S,hd,e,p⟩:=h;obtain⟨x,y,rfl,e1⟩:=Qb e;have e:=e1;obtain⟨v,w,rfl,hv,hw⟩:=ZhQ hd;unfold ZgK at e;split at e
 ·cases e;cases hv;cases hw
  exact call_max2 hc pQ s σ H _ us Q I r ⟨_,_,rfl,p.at S (.int _)⟩
 ·cases e
noncomputable def tyN:Ty->String
 |.int => "int"
 |.bool => "bool"
 |.str => "str"
 |.tuple => "tuple"
noncomputable def Zed:D->String
 |.int _ => "int"
 |.bl _ => "bool"
 |.str _ => "str"
 |.tup _ => "tuple"
 |.non => "NoneType"
 |_ => "list"
theorem Zee(K:Fg){T:Ty}{d:D}{k:Bool}(h:ZgD T d=some k):PySem.W.kitOne K (.type (Zed d)) (.type (tyN T))=some k:=by
 cases d<;>first | (cases h;done) | (cases T<;>(cases h;rfl))
theorem Zld{K:Fg}{ad:Li Ad}{H:Hp}{v:V}{d:D}{T:Ty}{k:Bool}(h:ZgD T d=some k)(hv:Den K ad H v d):TyOf K H v (.type (Zed d))\/∃ a xs,v=.ref a/\SqT K H a xs/\Zed d = "tuple":=by
 cases hv with
 |non=>exact .inl .non
 |bl b=>exact .inl (.bl b)
 |int i=>exact .inl (.int i)
 |str x=>exact .inl (.str x)
 |tup e r=>exact .inr ⟨_,_,rfl,e.sq,rfl⟩
 |lst e=>cases h
 |dic _ _=>cases h
 |dct _ _ _ _ _=>cases h
 |obj _ _=>cases h
 |kt _ _ _ _ _ _=>cases h
theorem Zdo{T:Ty}:CallR X (.builtin "isinstance") (fun vs H Q=>∃ v,vs=[v,.ty (tyN T)]/\rC X.K (on1 (ZaH T)) [v] H Q):=by
 intro pQ s σ H xs us Q I r h;obtain⟨v,rfl,ad,st,ds,d,st',S,hd,e,p⟩:=h;obtain⟨x,rfl,e1⟩:=Wm e;have e:=e1;obtain⟨w,hw,hv⟩:=Jz hd;cases hw;unfold ZaH at e;split at e
 ·rename_i k q
  cases e;cases r with
  |cons r1 r2=>
   cases r2 with
   |cons r3 r4=>
    cases r4;cases r3;rcases Zld q hv with ty|⟨a,zs,rfl,sq,kd⟩
    ·exact isinst_ok I r1 ty (Zee X.K q) fun tk=>⟨.bl k,H,I.tok _,rfl,p.at S (.bl k)⟩
    ·have kt:=Zee X.K q
     rw[kd]at kt;cases r1;obtain⟨its,_,pp,_⟩:=I.tuple sq;obtain⟨o,h1,h2,_⟩:=pp;exact PySem.W.kia_one PySem.W.kitx_tuple I.kIn ⟨o,h1,h2⟩ kt (fun z=>nomatch z) fun tk=>⟨.bl k,H,I.tok _,rfl,p.at S (.bl k)⟩
 ·cases e
end
section
variable {X:Cx}
end
end Dp



namespace Dp
open PySem PySem.Spec PyProof.Rows L2
variable [ClsTab]
section
open PySem.SeqAt PySem.MeetsSeq PySem.MeetsSeq2 PySem.MeetsSeq3 PySem.SeqRoads2
open AutoSeq1 (wpAny_loadPart')
def LtAt(A:Around)(s:Sd)(y x:vL)(b:Bool):Prop:=
 ∀ (prog:Program) (w:World) (E:vL->Sd->Prop) (Q:vL->Sd->Prop),Q (.bool b) s->wpAny (model prog w) A (richCompare .Lt y x) Q E s
noncomputable def ltR(e lt:Nat->Bool)(f:Bool):Li Nat->Bool
 |[]=>f
 |j :: r=>if e j=true then ltR e lt f r else lt j
theorem Zbc(l b:Ad)(items items2:Array vL)(n n2:Nat)(dd dd2:Ot Ad)(sl sl2:Array (Ot vL))(e lt:Nat->Bool) :
  Meets (Builtin.«tuple.__lt__» ⟨[.ref l,.ref b],[]⟩)
   (fun A R s=>s.heap.get? l=some { cls:=.type "tuple",dict:=dd,data:=.seq items n,slots:=sl }/\s.heap.get? b=some { cls:=.type "tuple",dict:=dd2,data:=.seq items2 n2,slots:=sl2 } /\
    (∀ j (h1:j < items.size) (h2:j < items2.size),EqAt A.in1 s items[j] items2[j] (e j))/\(∀ j (h1:j < items.size) (h2:j < items2.size),(∀ i,i < j->e i=true)->e j=false->LtAt A.in1 s items[j] items2[j] (lt j)) /\
    R (.ok (.ret (.bool (ltR e lt (decide (items.size < items2.size)) (List.range (min items.size items2.size)))))) s):=
 .of_wp fun prog w A R s h=>by
  obtain⟨hp,g,d,tk,os⟩:=s;obtain⟨hl,hb,he,hq,h⟩:=h;have f2:=AutoSeq1.sub_tuple_tuple;have hZ:(items.toList.zip items2.toList).length=min items.size items2.size:=by simp
  wp_walk using wpAny_loadPart' hl,wpAny_loadPart' hb,wpAny_forIn_list _ (fun rest b s'=>b.1=none/\s'=⟨hp,g,d,tk,os⟩/\∃ i,rest=(items.toList.zip items2.toList).drop i/\(∀ k,k < i->e k=true) /\
   R (.ok (.ret (.bool (ltR e lt (decide (items.size < items2.size)) ((List.range (min items.size items2.size)).drop i))))) ⟨hp,g,d,tk,os⟩) _
  case turn=>
   rintro⟨y,x⟩ rest b s' ⟨hb',rfl,i,hz,hk,hR⟩
   have hlt:i < (items.toList.zip items2.toList).length:=by
    rcases Nat.lt_or_ge i (items.toList.zip items2.toList).length with h'|h'
    ·exact h'
    ·rw[List.drop_of_length_le h']at hz;cases hz
   have hm:i < min items.size items2.size:=hZ ▸ hlt;have h1:i < items.size:=Nat.lt_of_lt_of_le hm (Nat.min_le_left _ _);have h2:i < items2.size:=Nat.lt_of_lt_of_le hm (Nat.min_le_right _ _);rw[List.drop_eq_getElem_cons hlt]at hz
   injection hz with hyx hrest
   have hy:y=items[i]:=by have:=congrArg Prod.fst hyx;simpa using this
   have hx:x=items2[i]:=by have:=congrArg Prod.snd hyx;simpa using this
   subst hy hx;have hd:(List.range (min items.size items2.size)).drop i=i :: (List.range (min items.size items2.size)).drop (i+1):=by simp[List.drop_eq_getElem_cons,hm]
   rw[hd]at hR;have hR:R (.ok (.ret (.bool (if e i=true then ltR e lt (decide (items.size < items2.size)) ((List.range (min items.size items2.size)).drop (i+1)) else lt i)))) ⟨hp,g,d,tk,os⟩:=hR
   refine wpAny_bind (he i h1 h2 prog w _ _ ?_);cases hy:e i with
   |true=>
    rw[hy]at hR
    wp_walk
    refine⟨rfl,rfl,i+1,hrest,fun k hk'=>?_,by simpa using hR⟩
    rcases Nat.lt_or_ge k i with h|h
    ·exact hk k h
    ·rw[show k=i by omega];exact hy
   |false=>
    rw[hy]at hR;have hz:∀ (E:vL->Sd->Prop) (Q:vL->Sd->Prop),Q (.bool (lt i)) ⟨hp,g,d,tk,os⟩->wpAny (model prog w) A.in1 (richCompare .Lt items[i] items2[i]) Q E ⟨hp,g,d,tk,os⟩:=fun E Q=>hq i h1 h2 hk hy prog w E Q
    generalize richCompare .Lt items[i] items2[i]=rc at hz ⊢
    wp_walk using hz _ _
    exact⟨_,rfl,by simpa using hR⟩
  case fin=>
   rintro⟨b1,b2⟩ s' ⟨hb',rfl,i,hz,_,hR⟩
   simp only at hb';subst hb';have hge:min items.size items2.size<=i:=by
    rcases Nat.lt_or_ge i (items.toList.zip items2.toList).length with h'|h'
    ·rw[List.drop_eq_getElem_cons h']at hz;cases hz
    ·exact hZ ▸ h'
   rw[List.drop_of_length_le (by simpa using hge)]at hR
   wp_walk
   exact⟨_,rfl,by simpa[Builtin.Tuple.tupleCompareSizes,ltR] using hR⟩
  case h=>
   exact⟨rfl,rfl,0,rfl,fun k hk=>absurd hk (by omega),by simpa using h⟩
theorem LtAt.tuples{A:Around}{s:Sd}{l b:Ad}{items items2:Array vL}{e lt:Nat->Bool}(hl:s.heap.IsTuple l items)(hb:s.heap.IsTuple b items2)(hu:A.units < cLine)(he:∀ j (h1:j < items.size) (h2:j < items2.size),EqAt A.in1 s items[j] items2[j] (e j))(hq:∀ j (h1:j < items.size) (h2:j < items2.size),(∀ i,i < j->e i=true)->e j=false->LtAt A.in1 s items[j] items2[j] (lt j)):LtAt A s (.ref l) (.ref b) (ltR e lt (decide (items.size < items2.size)) (List.range (min items.size items2.size))):=fun prog w E Q h=>by
 obtain⟨⟨cls,dd,data,sl⟩,ho,hc,n,hd⟩:=id hl;obtain⟨⟨cls2,dd2,data2,sl2⟩,ho2,hc2,n2,hd2⟩:=id hb;simp only at hc hd hc2 hd2;subst hc hd hc2 hd2;exact richCompare_meets_room (op:=.Lt) ⟨_,ho,rfl⟩ ⟨_,ho2,rfl⟩ F.slot_tuple_lt F.entry_tuple_lt (F.args_tuple_lt_2 _ _) (Zbc l b items items2 n n2 dd dd2 sl sl2 e lt)
  ⟨ho,ho2,he,hq,show Value.bool (ltR e lt (decide (items.size < items2.size)) (List.range (min items.size items2.size)))≠Value.notImplemented/\Q (.bool (ltR e lt (decide (items.size < items2.size)) (List.range (min items.size items2.size)))) s from⟨(fun x=>nomatch x),h⟩⟩ hu
theorem ZcN(l b:Ad)(items items2:Array vL)(n n2:Nat)(dd dd2:Ot Ad)(sl sl2:Array (Ot vL))(e lt:Nat->Bool)(k:Nat) :
  ∀ i:Nat,min items.size items2.size - i=k->Meets (Builtin.«list.__eq__.loop» ⟨[.ref l,.ref b,rawInt i,rawInt 0],[]⟩)
   (fun A R s=>s.heap.get? l=some { cls:=.type "list",dict:=dd,data:=.seq items n,slots:=sl }/\s.heap.get? b=some { cls:=.type "list",dict:=dd2,data:=.seq items2 n2,slots:=sl2 } /\
    (∀ j (h1:j < items.size) (h2:j < items2.size),EqAt A.in1 s items[j] items2[j] (e j))/\(∀ j (h1:j < items.size) (h2:j < items2.size),(∀ i,i < j->e i=true)->e j=false->LtAt A.in1 s items[j] items2[j] (lt j))/\(∀ j,j < i->e j=true) /\
    R (.ok (.ret (.bool (ltR e lt (decide (items.size < items2.size)) ((List.range (min items.size items2.size)).drop i))))) s):=by
 induction k with
 |zero=>
  intro i hk prog w A R s h;obtain⟨hp,g,d,tk,os⟩:=s;obtain⟨hl,hb,he,hq,hi,h⟩:=h
  wp_walk using wpAny_loadPart' hl,wpAny_loadPart' hb
  have hd:(List.range (min items.size items2.size)).drop i=[]:=by simp;omega
  rw[hd]at h;have hz:items[((i:Nat):Int).toNat]?=none\/items2[((i:Nat):Int).toNat]?=none:=by
   by_cases c:items.size<=i
   ·left;simp;omega
   ·right;simp;omega
  rcases hz with hz|hz
  ·rw[hz]
   wp_walk using wpAny_loadPart' hl,wpAny_loadPart' hb
   exact h
  ·rw[hz]
   cases items[((i:Nat):Int).toNat]? with
   |none=>
    wp_walk using wpAny_loadPart' hl,wpAny_loadPart' hb
    exact h
   |some x=>
    wp_walk using wpAny_loadPart' hl,wpAny_loadPart' hb
    exact h
 |succ k ih=>
  intro i hk prog w A R s h;obtain⟨hp,g,d,tk,os⟩:=s;obtain⟨hl,hb,he,hq,hi,h⟩:=h
  wp_walk using wpAny_loadPart' hl,wpAny_loadPart' hb
  have hlt:i < items.size:=by omega
  have hlt2:i < items2.size:=by omega
  have hm:i < min items.size items2.size:=by omega
  have hi1:items[((i:Nat):Int).toNat]?=some items[i]:=by simp[hlt]
  have hi2:items2[((i:Nat):Int).toNat]?=some items2[i]:=by simp[hlt2]
  have hd:(List.range (min items.size items2.size)).drop i=i :: (List.range (min items.size items2.size)).drop (i+1):=by simp[List.drop_eq_getElem_cons,hm]
  have hc:((i:Int)+1)=((i+1:Nat):Int):=by push_cast;rfl
  rw[hd]at h;have h:R (.ok (.ret (.bool (if e i=true then ltR e lt (decide (items.size < items2.size)) ((List.range (min items.size items2.size)).drop (i+1)) else lt i)))) ⟨hp,g,d,tk,os⟩:=h
  rw[hi1,hi2];refine wpAny_bind (he i hlt hlt2 prog w _ _ ?_);cases hb':e i with
  |true=>
   rw[hb']at h
   wp_walk
   rw[hc];exact⟨plainId_quiet plain_eq_loop _,codeAny_builtin entry_eq_loop (by
    rw[Around.under_plainId plain_eq_loop _];refine ih (i+1) (by omega) prog w A R _ ⟨hl,hb,he,hq,fun j hj=>?_,by simpa using h⟩
    rcases Nat.lt_or_ge j i with z|z
    ·exact hi j z
    ·rw[show j=i by omega];exact hb')⟩
  |false=>
   rw[hb']at h;have hz:∀ (E:vL->Sd->Prop) (Q:vL->Sd->Prop),Q (.bool (lt i)) ⟨hp,g,d,tk,os⟩->wpAny (model prog w) A.in1 (richCompare .Lt items[i] items2[i]) Q E ⟨hp,g,d,tk,os⟩:=fun E Q=>hq i hlt hlt2 hi hb' prog w E Q
   wp_walk using wpAny_loadPart' hl,wpAny_loadPart' hb
   rw[hi1,hi2];refine wpAny_bind (hz _ _ ?_)
   wp_walk
   simpa using h
theorem ZcM(l b:Ad)(items items2:Array vL)(n n2:Nat)(dd dd2:Ot Ad)(sl sl2:Array (Ot vL))(e lt:Nat->Bool) :
  Meets (Builtin.«list.__lt__» ⟨[.ref l,.ref b],[]⟩)
   (fun A R s=>s.heap.get? l=some { cls:=.type "list",dict:=dd,data:=.seq items n,slots:=sl }/\s.heap.get? b=some { cls:=.type "list",dict:=dd2,data:=.seq items2 n2,slots:=sl2 } /\
    (∀ j (h1:j < items.size) (h2:j < items2.size),EqAt A.in1 s items[j] items2[j] (e j))/\(∀ j (h1:j < items.size) (h2:j < items2.size),(∀ i,i < j->e i=true)->e j=false->LtAt A.in1 s items[j] items2[j] (lt j)) /\
    R (.ok (.ret (.bool (ltR e lt (decide (items.size < items2.size)) (List.range (min items.size items2.size)))))) s):=by
 intro prog w A R s h;obtain⟨hp,g,d,tk,os⟩:=s;obtain⟨hl,hb,he,hq,h⟩:=h;have f3:=AutoSeq1.sub_list_list
 wp_walk using wpAny_loadPart' hl,wpAny_loadPart' hb
 exact⟨plainId_quiet plain_eq_loop _,codeAny_builtin entry_eq_loop (by
  rw[Around.under_plainId plain_eq_loop _];exact ZcN l b items items2 n n2 dd dd2 sl sl2 e lt _ 0 rfl prog w A R _ ⟨hl,hb,he,hq,fun j hj=>absurd hj (by omega),by simpa using h⟩)⟩
theorem LtAt.lists{A:Around}{s:Sd}{l b:Ad}{items items2:Array vL}{e lt:Nat->Bool}(hl:s.heap.IsList l items)(hb:s.heap.IsList b items2)(hu:A.units < cLine)(he:∀ j (h1:j < items.size) (h2:j < items2.size),EqAt A.in1 s items[j] items2[j] (e j))(hq:∀ j (h1:j < items.size) (h2:j < items2.size),(∀ i,i < j->e i=true)->e j=false->LtAt A.in1 s items[j] items2[j] (lt j)):LtAt A s (.ref l) (.ref b) (ltR e lt (decide (items.size < items2.size)) (List.range (min items.size items2.size))):=fun prog w E Q h=>by
 obtain⟨⟨cls,dd,data,sl⟩,ho,hc,n,hd⟩:=id hl;obtain⟨⟨cls2,dd2,data2,sl2⟩,ho2,hc2,n2,hd2⟩:=id hb;simp only at hc hd hc2 hd2;subst hc hd hc2 hd2;exact richCompare_meets_room (op:=.Lt) ⟨_,ho,rfl⟩ ⟨_,ho2,rfl⟩ F.slot_list_lt F.entry_list_lt (F.args_list_lt_2 _ _) (ZcM l b items items2 n n2 dd dd2 sl sl2 e lt)
  ⟨ho,ho2,he,hq,show Value.bool (ltR e lt (decide (items.size < items2.size)) (List.range (min items.size items2.size)))≠Value.notImplemented/\Q (.bool (ltR e lt (decide (items.size < items2.size)) (List.range (min items.size items2.size)))) s from⟨(fun x=>nomatch x),h⟩⟩ hu
end
section
variable {X:Cx}
theorem Zd7{ad:Li Ad}{H:Hp}{k:Int}:∀ {xs:Li V}{ds:Li D}{b:Bool},Dens X.K ad H xs ds->XG k ds=some b->xs.all flatV=true/\inV (.int k) xs=b
 |_,_,_,.nil,e=>by cases e;exact⟨rfl,rfl⟩
 |_,_,b,.cons (d:=d) h r,e=>by
  cases d with
  |int i=>
   cases h;unfold XG at e;cases q:XG k _ with
   |none=>rw[q]at e;cases e
   |some b'=>
    rw[q]at e;cases e;obtain⟨h1,h2⟩:=Zd7 r q;refine⟨by rw[List.all_cons,h1];rfl,?_⟩
    show((i==k)||inV (.int k) _)=(decide (i=k)||b');rw[h2];rfl
  |_=>simp[XG]at e
theorem ZaF{ad:Li Ad}{H:Hp}{k:Str}:∀ {xs:Li V}{ds:Li D}{b:Bool},Dens X.K ad H xs ds->XH k ds=some b->xs.all flatV=true/\inV (.str k) xs=b
 |_,_,_,.nil,e=>by cases e;exact⟨rfl,rfl⟩
 |_,_,b,.cons (d:=d) h r,e=>by
  cases d with
  |str i=>
   cases h;unfold XH at e;cases q:XH k _ with
   |none=>rw[q]at e;cases e
   |some b'=>
    rw[q]at e;cases e;obtain⟨h1,h2⟩:=ZaF r q;refine⟨by rw[List.all_cons,h1];rfl,?_⟩
    show((i==k)||inV (.str k) _)=(decide (i=k)||b');rw[h2]
    congr 1
  |_=>simp[XH]at e
def CW(X:Cx)(pQ:Li (Ad×Obj))(σ:L2.St)(Q:VK)(s:Sd)(op:CmpOp)(v u:vL):Prop:=wpAny (model X.prog X.w) X.A (compareOp op v u) (EP X pQ σ Q) X.xe s
def CW2(X:Cx)(pQ:Li (Ad×Obj))(σ:L2.St)(Q:VK)(s:Sd)(H:Hp)(op op':CmpOp)(v u:vL)(k:Bool):Prop:=(Q (.bl k) H->CW X pQ σ Q s op v u)/\(Q (.bl (!k)) H->CW X pQ σ Q s op' v u)
noncomputable def vSc:Sc->V
 |.non=>.non
 |.bl b=>.bl b
 |.int i=>.int i
 |.str x=>.str x
theorem Den.vSc{K:Fg}{ad:Li Ad}{H:Hp}{x:V}{d:D}{a:Sc}(h:Den K ad H x d)(e:scD d=some a):x=vSc a:=by
 cases h<;>cases e<;>rfl
theorem Zga{a b:Sc}{k:Bool}(h:ZdC a b=some k):scal (vSc a) (vSc b)=true/\decide (vSc a=vSc b)=k:=by
 cases a<;>cases b<;>first
  | (cases h;done)
  | (cases h;exact⟨rfl,rfl⟩)
  | (cases h;exact⟨rfl,dec_bl⟩)
  | (cases h;exact⟨rfl,by simp[vSc]⟩)
inductive EqD(x y:V):D->D->Bool->Prop
 |sc {dx dy:D}{k:Bool} (h3:scal x y=true) (h4:decide (x=y)=k):EqD x y dx dy k
 |tup {xs ys:List D} (h:(okD 8 (.tup xs)&&okD 8 (.tup ys))=true):EqD x y (.tup xs) (.tup ys) (Yo xs ys)
theorem Zf8{K:Fg}{ad:Li Ad}{H:Hp}{x y:V}{dx dy:D}{k:Bool}(hx:Den K ad H x dx)(hy:Den K ad H y dy)(e:eqD dx dy=some k):EqD x y dx dy k:=by
 unfold eqD at e;split at e
 ·unfold eqT at e
  split at e
  ·split at e
   ·rename_i hok
    cases e;exact .tup hok
   ·cases e
  ·cases e
 ·refine j_e e fun e=>YB (P:=fun o=>o=some k->EqD x y dx dy k) e (fun a b h1 h2 h=>?_) rfl
  obtain⟨h3,h4⟩:=Zga h;rw[<-hx.vSc h1,<-hy.vSc h2]at h3 h4;exact .sc h3 h4
theorem ZkA(hu:X.A.units+64 < cLine){pQ:Li (Ad×Obj)}{s:Sd}{σ:L2.St}{H:Hp}{x y:V}{v u:vL}{Q:VK}{ad:Li Ad}{st:Za}{dx dy:D}{k:Bool}(I:Inv X pQ σ H s)(rx:RelV x v)(ry:RelV y u)(S:StOk X.K ad H st)(hx:Den X.K ad H x dx)(hy:Den X.K ad H y dy)(e:eqD dx dy=some k):CW2 X pQ σ Q s H .Eq .NotEq v u k:=by
 cases Zf8 hx hy e with
 |sc h3 h4=>
  subst h4;exact⟨fun q=>op_eq pQ s σ H x y v u Q I rx ry ⟨h3,q⟩,fun q=>op_ne pQ s σ H x y v u Q I rx ry ⟨h3,q⟩⟩
 |tup hok=>
  rw[Ba]at hok;obtain⟨a,xs,rfl,ha,r1⟩:=hx.ofTup;obtain⟨b,ys,rfl,hb,r2⟩:=hy.ofTup;cases rx;cases ry
  obtain⟨g1,g2⟩:=Zg4 (ad:=ad) (A:=X.A) I (n:=7) hok.1 hok.2 (by omega) ha r1 hb r2
  exact⟨fun q=>g1 X.prog X.w X.xe _ ⟨.bl _,H,I,rfl,q⟩,fun q=>g2 X.prog X.w X.xe _ ⟨.bl _,H,I,rfl,q⟩⟩
open PySem.SeqAt in
theorem Zg3{X:Cx}{H:Hp}{ad:Li Ad}{pQ:Li (Ad×Obj)}{σ:L2.St}{s:Sd}(I:Inv X pQ σ H s){n:Nat}{A:Around}{a b:Ad}{xs ys:Li V}{ds es:Li D}{its its':Li vL}(hx:Xk n ds=true)(hy:Xk n es=true)(hu:A.units+n+1 < cLine)(r:Dens X.K ad H xs ds)(r':Dens X.K ad H ys es)(rv:Vals xs its)(rv':Vals ys its')(p:s.heap.IsList a its.toArray)(p':s.heap.IsList b its'.toArray):RcAt A s (.ref a) (.ref b) (Yo ds es)/\RcNeAt A s (.ref a) (.ref b) (!Yo ds es):=by
 have e1:its.toArray.size=ds.length:=by rw[List.size_toArray,<-rv.length,r.length]
 have e2:its'.toArray.size=es.length:=by rw[List.size_toArray,<-rv'.length,r'.length]
 by_cases hl:ds.length=es.length
 ·have it:=fun j h1 h2=>ZaI (a:=a) (b:=b) I hx hy hu r r' rv rv' j h1 h2
  have q:=RcAt.lists (A:=A) (s:=s) (e:=fun i=>Z9 ((ds[i]?).getD .non) ((es[i]?).getD .non)) p p' (by omega) (by omega) it
  have q':=RcNeAt.lists (A:=A) (s:=s) (e:=fun i=>Z9 ((ds[i]?).getD .non) ((es[i]?).getD .non)) p p' (by omega) (by omega) it
  rw[e1]at q q';rw[Xp,show min ds.length es.length=ds.length by omega,show(ds.length==es.length)=true by simpa using hl,Bool.and_true]
  exact⟨q,q'⟩
 ·have q:=RcAt.lists_lengths (A:=A) (s:=s) p p' (by rw[e1,e2];simpa using hl) (by omega)
  have q':=RcNeAt.lists_lengths (A:=A) (s:=s) p p' (by rw[e1,e2];simpa using hl) (by omega)
  rw[Xp,show(ds.length==es.length)=false by simpa using hl,Bool.and_false]
  exact⟨q,q'⟩
open PySem.SeqAt in
theorem ZlH(hu:X.A.units+64 < cLine){pQ:Li (Ad×Obj)}{s:Sd}{σ:L2.St}{H:Hp}{x y:V}{v u:vL}{Q:VK}{ad:Li Ad}{st:Za}{ds es:Li D}{k:Bool}(I:Inv X pQ σ H s)(rx:RelV x v)(ry:RelV y u)(S:StOk X.K ad H st)(hx:Den X.K ad H x (.tup ds))(hy:Den X.K ad H y (.tup es))(e:ZbL st ds es=some k):CW2 X pQ σ Q s H .Eq .NotEq v u k:=by cases e
theorem ZkB(hu:X.A.units+64 < cLine){pQ:Li (Ad×Obj)}{s:Sd}{σ:L2.St}{H:Hp}{x y:V}{v u:vL}{Q:VK}{ad:Li Ad}{st:Za}{dx dy:D}{k:Bool}(I:Inv X pQ σ H s)(rx:RelV x v)(ry:RelV y u)(S:StOk X.K ad H st)(hx:Den X.K ad H x dx)(hy:Den X.K ad H y dy)(e:eqS st dx dy=some k):CW2 X pQ σ Q s H .Eq .NotEq v u k:=by
 have sc:scal x y=true->(decide (x=y))=k->CW2 X pQ σ Q s H .Eq .NotEq v u k:=fun h1 h2=>by
  subst h2;exact⟨fun q=>op_eq pQ s σ H x y v u Q I rx ry ⟨h1,q⟩,fun q=>op_ne pQ s σ H x y v u Q I rx ry ⟨h1,q⟩⟩
 unfold eqS at e;split at e
 ·unfold Zky at e
  split at e
  case h_2=>cases e
  obtain⟨a,rfl,ha⟩:=hx.ofLst;obtain⟨b,rfl,hb⟩:=hy.ofLst;cases rx;cases ry
  have two:∀ {ba bb:Bool}{xs ys:Li D},st[_]?=some (ba,xs)->st[_]?=some (bb,ys)->(xs=[]\/ys=[])->(xs.isEmpty&&ys.isEmpty)=k->CW2 X pQ σ Q s H .Eq .NotEq (.ref a) (.ref b) k:=fun {ba bb xs ys} q1 q2 hz hk=>by
   obtain⟨vs,r1,s1⟩:=S.list ha q1;obtain⟨ws,r2,s2⟩:=S.list hb q2;obtain⟨its,rv,p1,_⟩:=I.list s1;obtain⟨its',rv',p2,_⟩:=I.list s2;have l1:its.toArray.size=xs.length:=by rw[List.size_toArray,<-rv.length,r1.length]
   have l2:its'.toArray.size=ys.length:=by rw[List.size_toArray,<-rv'.length,r2.length]
   by_cases hl:xs.length=ys.length
   ·have z1:xs=[]:=by
     rcases hz with z|z
     ·exact z
     ·rw[z]at hl;exact List.length_eq_zero_iff.mp hl
    have z2:ys=[]:=by rw[z1]at hl;exact List.length_eq_zero_iff.mp hl.symm
    subst z1 z2;cases hk;have f:its=[]:=List.length_eq_zero_iff.mp (by simpa using l1)
    have f':its'=[]:=List.length_eq_zero_iff.mp (by simpa using l2)
    subst f f';refine⟨fun q=>SeqAt.RcAt.lists (e:=fun _=>true) p1.isList p2.isList rfl (by omega) (fun j h1 _=>absurd h1 (by simp)) X.prog X.w X.xe _ ⟨.bl true,H,I,rfl,q⟩,fun q=>SeqAt.RcNeAt.lists (e:=fun _=>true) p1.isList p2.isList rfl (by omega) (fun j h1 _=>absurd h1 (by simp)) X.prog X.w X.xe _ ⟨.bl false,H,I,rfl,q⟩⟩
   ·have hk':k=false:=by
     rw[<-hk];rcases hz with z|z
     ·subst z
      cases ys with
      |nil=>exact absurd rfl hl
      |cons _ _=>rfl
     ·subst z
      cases xs with
      |nil=>exact absurd rfl hl
      |cons _ _=>rfl
    subst hk';have hne:(its.toArray.size != its'.toArray.size)=true:=by rw[l1,l2];simpa using hl
    exact⟨fun q=>SeqAt.RcAt.lists_lengths p1.isList p2.isList hne (by omega) X.prog X.w X.xe _ ⟨.bl false,H,I,rfl,q⟩,fun q=>SeqAt.RcNeAt.lists_lengths p1.isList p2.isList hne (by omega) X.prog X.w X.xe _ ⟨.bl true,H,I,rfl,q⟩⟩
  refine j_e e fun e=>YB (P:=fun o=>o=some k->CW2 X pQ σ Q s H .Eq .NotEq (.ref a) (.ref b) k) e (fun c d q1 q2 e=>?_) rfl
  obtain⟨c1,c2⟩:=c;obtain⟨d1,d2⟩:=d;unfold ZcB at e;split at e
  ·rename_i hz
   cases e;rw[Bool.or_eq_true]at hz;exact two q1 q2 (hz.imp List.isEmpty_iff.mp List.isEmpty_iff.mp) rfl
  ·split at e
   ·rename_i hok
    cases e;rw[Ba]at hok;obtain⟨vs,r1,s1⟩:=S.list ha q1;obtain⟨ws,r2,s2⟩:=S.list hb q2;obtain⟨its,rv,p1,_⟩:=I.list s1;obtain⟨its',rv',p2,_⟩:=I.list s2;obtain⟨g1,g2⟩:=Zg3 (ad:=ad) (A:=X.A) I hok.1 hok.2 (by omega) r1 r2 rv rv' p1.isList p2.isList
    exact⟨fun q=>g1 X.prog X.w X.xe _ ⟨.bl _,H,I,rfl,q⟩,fun q=>g2 X.prog X.w X.xe _ ⟨.bl _,H,I,rfl,q⟩⟩
   ·cases e
 ·unfold Zkz at e
  split at e
  ·split at e
   ·rename_i k' q
    cases e;exact ZkA hu I rx ry S hx hy (show eqD (.tup _) (.tup _)=some _ from q)
   ·exact ZlH hu I rx ry S hx hy e
  ·cases e
 ·exact ZkA hu I rx ry S hx hy e
open Classical in
noncomputable def ZmO(K:Fg)(ad:Li Ad)(H:Hp)(d:D)(u:vL):Bool:=decide (∃ y e,RelV y u/\Den K ad H y e/\okD 8 e=true/\Z9 e d=true)
section
variable {pQ:Li (Ad×Obj)}{s:Sd}{σ:L2.St}{H:Hp}{x y:V}{v u:vL}{Q:VK}{ad:Li Ad}{st:Za}{dx dy:D}{k:Bool}
theorem QK{a:Ad}{xs:Li V}(I:Inv X pQ σ H s)(rx:RelV x v)(ry:RelV y u)(ey:y=.ref a)(sq:SqL X.K H a xs\/SqT X.K H a xs)(fx:flatV x=true)(h:xs.all flatV=true/\inV x xs=k):CW2 X pQ σ Q s H .In .NotIn v u k:=by
 obtain⟨h1,h2⟩:=h;subst h2;exact⟨fun pk=>op_in_seq pQ s σ H _ _ v u Q I rx ry ⟨a,xs,ey,sq,fx,h1,pk⟩,fun pk=>op_notIn_seq pQ s σ H _ _ v u Q I rx ry ⟨a,xs,ey,sq,fx,h1,pk⟩⟩
def InW(X:Cx)(pQ:Li (Ad×Obj))(σ:L2.St)(Q:VK)(s:Sd)(H:Hp)(v u:vL)(dy:D)(k:Bool):Prop:=(Q (.bl k) H->CW X pQ σ Q s .In v u)/\((∀ ks vs,dy≠.dct ks vs)->Q (.bl (!k)) H->CW X pQ σ Q s .NotIn v u)
theorem CW2.inW(h:CW2 X pQ σ Q s H .In .NotIn v u k):InW X pQ σ Q s H v u dy k:=⟨h.1,fun _=>h.2⟩
theorem ZkH(hu:X.A.units+64 < cLine)(I:Inv X pQ σ H s)(rx:RelV x v)(ry:RelV y u)(S:StOk X.K ad H st)(hx:Den X.K ad H x dx)(hy:Den X.K ad H y dy)(q:inS st dx dy=some k):InW X pQ σ Q s H v u dy k:=by
 unfold inS at q;split at q
 ·split at q
  ·rename_i q0
   obtain⟨a,e,ha⟩:=hy.ofLst;obtain⟨xs,r,sq⟩:=S.list ha q0;cases hx;exact(QK I rx ry e (.inl sq) rfl (Zd7 r q)).inW
  ·cases q
 ·split at q
  ·rename_i q0
   obtain⟨a,e,ha⟩:=hy.ofLst;obtain⟨xs,r,sq⟩:=S.list ha q0;cases hx;exact(QK I rx ry e (.inl sq) rfl (ZaF r q)).inW
  ·cases q
 ·obtain⟨a,xs,e,ha,r⟩:=hy.ofTup
  cases hx;exact(QK I rx ry e (.inr ha.sq) rfl (Zd7 r q)).inW
 ·obtain⟨a,xs,e,ha,r⟩:=hy.ofTup
  cases hx;exact(QK I rx ry e (.inr ha.sq) rfl (ZaF r q)).inW
 ·obtain⟨a,vs,rfl,ha,hl,r⟩:=hy.ofDct
  cases hx;cases q;refine⟨fun pk=>op_in_dct pQ s σ H _ _ v u Q I rx ry ⟨a,_,Sum.inr _,rfl,rfl,ha,?_⟩,fun z=>absurd rfl (z _ _)⟩
  rcases Ug r hl with⟨w,d0,e1,e2,e3⟩|⟨e1,e2⟩
  ·rw[e1];rw[e2]at pk;exact pk
  ·rw[e1];rw[e2]at pk;exact pk
 ·cases q
theorem ZgB(hx:Den X.K ad H x dx)(q:isN dx=some k):decide (x=V.non)=k:=by
 cases hx<;>cases q<;>rfl
theorem ZkJ(I:Inv X pQ σ H s)(rx:RelV x v)(ry:RelV y u)(hx:Den X.K ad H x dx)(hy:Den X.K ad H y dy)(q:isD dx dy=some k):CW2 X pQ σ Q s H .Is .IsNot v u k:=by
 unfold isD at q;split at q
 ·cases hy
  have z:=ZgB hx q;subst z;exact⟨fun pk=>op_isN pQ s σ H _ _ v u Q I rx ry ⟨rfl,pk⟩,fun pk=>op_notN pQ s σ H _ _ v u Q I rx ry ⟨rfl,pk⟩⟩
 ·unfold isB at q
  split at q
  ·cases q
   cases hx;cases hy
   cases rx;cases ry
   have e:∀ a b:Bool,(Value.bool a==Value.bool b)=(a==b):=fun a b=>by cases a<;>cases b<;>rfl
   exact⟨fun pk=>wpAny_is_plain rfl (by rw[e];exact⟨.bl _,H,I,rfl,pk⟩),fun pk=>wpAny_isNot_plain rfl (by rw[e];exact⟨.bl _,H,I,rfl,pk⟩)⟩
  ·cases q
 ·cases q
theorem VO{f:Int->Int->Bool}(hx:Den X.K ad H x dx)(hy:Den X.K ad H y dy)(q:ZaU f dx dy=some k):∃ i j,x=.int i/\y=.int j/\f i j=k:=by
 unfold ZaU at q;split at q
 ·cases q;cases hx;cases hy;exact⟨_,_,rfl,rfl,rfl⟩
 ·cases q
theorem ZlZ(hu:X.A.units+64 < cLine)(I:Inv X pQ σ H s)(rx:RelV x v)(ry:RelV y u)(S:StOk X.K ad H st)(hx:Den X.K ad H x dx)(hy:Den X.K ad H y dy)(q:ltS st dx dy=some k)(pk:Q (.bl k) H):CW X pQ σ Q s .Lt v u:=by
   have q:ltD dx dy=some k:=q;obtain⟨i,j,rfl,rfl,z⟩:=VO hx hy q;exact op_lt pQ s σ H _ _ v u Q I rx ry ⟨_,_,rfl,rfl,by cases z;exact pk⟩
theorem QR{o:Ot Bool}(q:o.map not=some k):o=some (!k):=by
 cases o with
 |none=>cases q
 |some k'=>cases q;rw[Bool.not_not]
theorem Zes{op op':CmpOp}(h:CW2 X pQ σ Q s H op op' v u (!k))(pk:Q (.bl k) H):CW X pQ σ Q s op' v u:=h.2 (by rw[Bool.not_not];exact pk)
end
theorem ZbK(hu:X.A.units+64 < cLine){op:CmpOp}:OpR X (compareOp op) (rD X.K (Zcu op)):=by
 intro pQ s σ H x y v u Q I rx ry h;obtain⟨ad,st,dx,dy,d,st',S,hx,hy,e,p⟩:=h
 change CW X pQ σ Q s op v u;unfold Zcu at e;cases q:Ziq op dx dy st with
 |none=>rw[q]at e;cases e
 |some k=>
  rw[q]at e;cases e;have pk:=p.at S (.bl k);clear p;cases op with
  |Lt=>exact ZlZ hu I rx ry S hx hy q pk
  |LtE=>
   obtain⟨i,j,rfl,rfl,z⟩:=VO hx hy q;exact op_le pQ s σ H _ _ v u Q I rx ry ⟨_,_,rfl,rfl,by cases z;exact pk⟩
  |Gt=>
   obtain⟨i,j,rfl,rfl,z⟩:=VO hx hy q;exact op_gt pQ s σ H _ _ v u Q I rx ry ⟨_,_,rfl,rfl,by cases z;exact pk⟩
  |GtE=>
   obtain⟨i,j,rfl,rfl,z⟩:=VO hx hy q;exact op_ge pQ s σ H _ _ v u Q I rx ry ⟨_,_,rfl,rfl,by cases z;exact pk⟩
  |Eq=>exact(ZkB hu I rx ry S hx hy q).1 pk
  |NotEq=>exact Zes (ZkB hu I rx ry S hx hy (QR q)) pk
  |In=>exact(ZkH hu I rx ry S hx hy q).1 pk
  |NotIn=>
   have q:niS st dx dy=some k:=q;unfold niS at q;split at q
   ·cases q
   ·rename_i hn
    exact(ZkH hu I rx ry S hx hy (QR q)).2 hn (by rw[Bool.not_not];exact pk)
  |Is=>exact(ZkJ I rx ry hx hy q).1 pk
  |IsNot=>exact Zes (ZkJ I rx ry hx hy (QR q)) pk
end
end Dp



namespace Dp
open PySem PySem.Spec PyProof.Rows L2
variable [ClsTab]
noncomputable def Zt:Expr->Bool
 |.Starred ..=>false
 |.Set ..=>false
 |.Slice ..=>false
 |_=>true
theorem Zs{G:Gs}{n:Nat}{sc:Scope}{N:Li Str}{e:Expr}{c:CE}(h:cE G n sc N e=some c):Zt e=true:=by
 cases n with
 |zero=>exact nomatch (show(none:Ot CE)=some c from h)
 |succ n=>cases e<;>first|rfl|exact nomatch (show(none:Ot CE)=some c from h)
theorem Zn{e:Expr}{es:Li Expr}{env:PySem.Env}(h:Zt e=true):starEach (e :: es) env=(false,eval e env) :: starEach es env:=by
 cases e<;>first|rfl|cases h
theorem Vv{op:CmpOp}{b:Expr}(h:Zt b=true):behindInMarks op b=false:=by
 cases b<;>first|rfl|cases h
theorem JS{b:Expr}(h:Zt b=true):PlainIx b:=by
 cases b<;>first | (intro o i;rfl)|cases h
theorem Xn{pos:Pos}{env:PySem.Env}:∀ {es:Li Expr},es.all Zt=true->(backTo pos (starEach es env)).any (·.1)=false
 |[],_=>rfl
 |e :: es,h=>by
  rw[List.all_cons,Ba]at h;rw[Zn h.1];show(false||(backTo pos (starEach es env)).any (·.1))=false;rw[Xn h.2];rfl
inductive EsOk(Pm:Params)(K:Fg):List DictEntry->List Str->List D->Prop where
 |nil:EsOk Pm K [] [] []
 |cons {e:DictEntry}{es:List DictEntry}{k:Str}{ks:List Str}{d:D}{ds:List D}{v:V}{t:Tok} (h1:e.hash=PyData.keyHash Pm k) (h2:e.key=.str k t) (h3:RelV v e.val) (h4:∀ ad H,Den K ad H v d) (r:EsOk Pm K es ks ds):EsOk Pm K (e :: es) (k :: ks) (d :: ds)
def Zbe(Pm:Params)(K:Fg)(mg:Str->Ot vL)(x:Str)(ks:Li Str)(ds:Li D):Prop:=
 ∃ A o es ep,mg x=some (.ref A)/\K.lookup A=some o/\o.ExactDict/\o.data=.dict es ep/\(A==sysModules)=false/\ks.Nodup/\EsOk Pm K es.toList ks ds
theorem EsOk.open{w:World}{P:Program}{K:Fg}:∀ {es:Li DictEntry}{ks:Li Str}{ds:Li D},EsOk w.params K es ks ds->∃ kvs:Li (Key×vL),Pairs (mixKind P w) es kvs/\kvs.map (·.1)=ks.map Sum.inr/\(∀ e∈es,∃ k,(mixKind P w).is k e.key=true/\e.hash=(mixKind P w).hash k) /\
  ∀ k d,Z2 ks ds k=some d->∃ u v,valueAt kvs (Sum.inr k)=some u/\RelV v u/\∀ ad H,Den K ad H v d
 |_,_,_,.nil=>⟨[],.nil,rfl,(fun _ h=>nomatch h),fun k d h=>by simp[Z2]at h⟩
 |e :: es,k0 :: ks,d0 :: ds,.cons (v:=v) (t:=t) h1 h2 h3 h4 r=>by
  obtain⟨kvs,a1,a2,a3,a4⟩:=EsOk.open (P:=P) r;have hk:(mixKind P w).is (Sum.inr k0) e.key=true:=by rw[h2];exact mixKind_str P w k0 t
  refine⟨(Sum.inr k0,e.val) :: kvs,.cons hk rfl a1,by rw[List.map_cons,List.map_cons,a2],fun x hx=>?_,fun k d h=>?_⟩
  ·rcases List.mem_cons.mp hx with rfl|hx
   ·exact⟨Sum.inr k0,hk,h1⟩
   ·exact a3 x hx
  ·unfold valueAt
   by_cases c:k0=k
   ·subst c
    have h:Z2 (k0 :: ks) (d0 :: ds) k0=some d:=h;simp only[Z2,if_pos]at h;cases h;exact⟨e.val,v,by simp,h3,h4⟩
   ·have h:Z2 ks ds k=some d:=by
     simp only[Z2,if_neg c]at h;exact h
    obtain⟨u,v',b1,b2,b3⟩:=a4 k d h;refine⟨u,v',?_,b2,b3⟩;have nk:¬(Sum.inr k0:Key)=Sum.inr k:=fun z=>c (Sum.inr.inj z)
    rw[List.find?_cons_of_neg (by simpa using nk)]
    exact b1
structure SubOk(K:Fg)(C B:Addr):Prop where
 cl:Cls K C
 ha:PySem.W.findIn K (.ref C) "__class__"=some (some (.builtin "object.__class__"))
 hn:PySem.W.specialIn K (.builtin "object.__class__") "__get__"=some (some (.builtin "getset_descriptor.__get__"))
 ht:PySem.W.takesIn K (.builtin "object.__class__")=some true
 hm:PySem.W.mroIn K C (.type "object")=some true
 kit:PySem.W.kitOne K (.ref C) (.ref B)=some true
structure NewOk(K:Fg)(C:Addr):Prop where
 makes:PySem.W.makesIn K C=true
 init:PySem.W.findIn K (.ref C) "__init__"=some (some (.builtin "object.__init__"))
 kp:PySem.W.keepIn K (.ref C)=true
 cl:Cls K C
def GOk(P:Program)(w:World)(K:Fg)(mg:Str->Ot vL)(base:Heap)(A:Around)(F:Nat->Fn)(x:Str):GV->Prop
 |.cst d=>∃ v u,mg x=some u/\RelV v u/\∀ ad H,Den K ad H v d
 |.blt=>mg x=none
 |.dct ks ds=>Zbe w.params K mg x ks ds
 |.cls i ms subs=>mg x=some (.ref (ClsTab.ca i))/\NewOk K (ClsTab.ca i)/\(∀ i',subs.contains i'=true->SubOk K (ClsTab.ca i') (ClsTab.ca i)) /\
   ∀ m j ps,ms.lookup m=some (j,ps)->∃ (k:Nat) (f:Ad) (fd:FuncData) (pn:Li Str),FnOk P w K mg base CX0 k f fd pn (spD K (F j))/\Room k A/\Meth K (ClsTab.ca i) m f/\Binds K fd pn []
 |.fn i ps ds=>∃ (k:Nat) (f:Ad) (fd:FuncData) (pn:Li Str),FnOk P w K mg base CX0 k f fd pn (spD K (F i))/\Room k A/\mg x=some (.ref f)/\PySem.W.keepIn K (.ref f)=true /\
   ∀ m,m<=ds.length->∃ dvs us,(∀ ad H,Dens K ad H dvs (ds.drop m))/\Vals dvs us/\Binds K fd pn us
structure Cxt(X:Cx)(G:Gs)(F:Nat->Fn)(sc:Scope)(N:List Str):Prop where
 hN:X.N=N
 vis:∀ x,WY sc x=true->Vis X.env.scope x
 glb:∀ x,ZV sc x=true->Gl X x
 calm:X.calm=true
 hu:X.A.units+64 < cLine
 gl:∀ x g,G.lookup x=some g->GOk X.prog X.w X.K X.mg X.base X.A F x g
 cel:∀ x,Ua sc x=true->X.env.scope.names.lookup x=some .cell\/X.env.scope.names.lookup x=some .free
 nx:X.xe=fun _ _=>False
theorem WG{N:Li Str}{x:Str}{i:Nat}(h:N.idxOf? x=some i):N[i]?=some x:=by
 unfold List.idxOf? at h
 rw[List.findIdx?_eq_some_iff_getElem]at h;obtain⟨hi,h1,_⟩:=h;rw[Lg hi];rw[beq_iff_eq.mp h1]
theorem QO{sc:Scope}{x:Str}(h:WY sc x=true):(x==("__debug__":Str))=false/\(x==("__classdict__":Str))=false:=by
 unfold WY at h;rw[Ba,Ba,Bool.not_eq_true',Bool.not_eq_true']at h;exact h.1
theorem X3{sc:Scope}{x:Str}(h:ZV sc x=true):(x==("__debug__":Str))=false:=by
 unfold ZV at h;rw[Ba,Bool.not_eq_true']at h;exact h.1
section
variable {X:Cx}{F:Nat->Fn}
theorem Zk1{e:Expr}{f:Ev}(h:PE X e (tE X.K f))(he:∀ whole,isTrue e X.env whole=(do let v <-whole;standAt e.pos;holding [v] (truthy v)):=by intro _;rfl):PT X e (tT X.K f):=Uq (pt_val h he) Zd5
theorem Zi9{c a b:Expr}{fc fa fb:Ev}{pos:Pos}(hc:PT X c (tT X.K fc))(ha:PT X a (tT X.K fa))(hb:PT X b (tT X.K fb)):PT X (.IfExp c a b pos) (tT X.K (XX fc fa fb)):=by
 intro pQ s σ H Q I h;obtain⟨ad,ρ,st,d,st',E,S,e,p⟩:=h;obtain⟨k,st1,q,e⟩:=YL e;show wpAny _ _ (isTrue c X.env (eval c X.env) >>= fun t=>if t then isTrue a X.env (eval a X.env) else isTrue b X.env (eval b X.env)) _ _ s
 refine wpAny_bind (thn (hc pQ s σ H (fun k' H1=>k'=k/\∃ ad1,Ext ad H ad1 H1/\StOk X.K ad1 H1 st1) I ⟨ad,ρ,st,k,st1,E,S,q,fun ad1 H1 x1 S1=>⟨rfl,ad1,x1,S1⟩⟩) fun t s1 ⟨H1,I1,et,ad1,x1,S1⟩=>?_)
 subst et;cases t with
 |true=>
  rw[if_pos rfl]at e ⊢;exact ha pQ s1 σ H1 Q I1 ⟨ad1,ρ,st1,d,st',E.mono x1,S1,e,fun ad2 H2 x2 S2=>p ad2 H2 (x1.trans x2) S2⟩
 |false=>
  rw[if_neg Bf]at e ⊢;exact hb pQ s1 σ H1 Q I1 ⟨ad1,ρ,st1,d,st',E.mono x1,S1,e,fun ad2 H2 x2 S2=>p ad2 H2 (x1.trans x2) S2⟩
def Zb8:CE->Prop
 |.aN=>True
 |.aC _ _=>True
 |_=>False
theorem Qx{c:CE}(h:Zb8 c){ρ:Env}{st st':Za}{d:D}(e:ev F c ρ st=some (d,st')):∃ ds,d=.tup ds/\ds.length<=1000:=by
 cases c with
 |aN=>cases e;exact⟨[],rfl,by decide⟩
 |aC a r=>
  have e:YV (ev F a) (ev F r) Vr ρ st=some (d,st'):=e;unfold YV at e;split at e
  ·split at e
   ·rename_i y st2 _
    cases y with
    |tup zs=>
     have e:(if zs.length < 1000 then some (D.tup (_ :: zs),st2) else none)=some (d,st'):=e
     split at e
     ·rename_i hz
      cases e;exact⟨_,rfl,hz⟩
     ·cases e
    |_=>simp[Vr]at e
   ·cases e
  ·cases e
 |_=>exact False.elim h
structure SE(X:Cx)(F:Nat->Fn)(e:Expr)(c:CE):Prop where
 pe:PE X e (tE X.K (ev F c))
 pt:PT X e (tT X.K (ev F c))
theorem SE.of{e:Expr}{c:CE}(h:PE X e (tE X.K (ev F c)))(he:∀ whole,isTrue e X.env whole=(do let v <-whole;standAt e.pos;holding [v] (truthy v)):=by intro _;rfl):SE X F e c:=⟨h,Zk1 h he⟩
theorem J8{op:BoolOp}{es:Li Expr}{pos:Pos}{t:TT}(h:PT X (.BoolOp op es pos) t):PW X (.BoolOp op es pos) t:=fun _ pQ s σ H Q I q=>h pQ s σ H Q I q
end
section
variable {ad:Li Ad}{H:Hp}{p:Ad}{o:HO}
variable (ho:∀ kvs,o≠.dT kvs)
include ho
end
section
variable {X:Cx}{F:Nat->Fn}{pos:Pos}{f:Expr->Ot CE}
end
end Dp



namespace Dp
open PySem PySem.Spec PyProof.Rows L2
variable [ClsTab]
theorem VY:bootBuiltins "tuple"=some (.type "tuple"):=by decide +kernel
theorem ZfV:bootBuiltins "list"=some (.type "list"):=by decide +kernel
theorem Zij:bootBuiltins "int"=some (.type "int"):=by decide +kernel
theorem ZfT:bootBuiltins "bool"=some (.type "bool"):=by decide +kernel
theorem Zin:bootBuiltins "str"=some (.type "str"):=by decide +kernel
theorem Zim:bootBuiltins "min"=some (.builtin "min"):=by decide +kernel
theorem Zil:bootBuiltins "max"=some (.builtin "max"):=by decide +kernel
theorem UD:bootBuiltins "isinstance"=some (.builtin "isinstance"):=by decide +kernel
theorem Zik:bootBuiltins "len"=some (.builtin "len"):=by decide +kernel
section
variable {G:Gs}{F:Nat->Fn}
def ZG(G:Gs)(F:Nat->Fn)(n:Nat):Prop:=∀ X sc N,Cxt X G F sc N->∀ e c,cE G n sc N e=some c->SE X F e c
def Xh(G:Gs)(F:Nat->Fn)(n:Nat):Prop:=∀ X sc N,Cxt X G F sc N->∀ es c,cEs G n sc N es=some c->PA X es (tA X.K (ev F c))/\Zb8 c/\es.all Zt=true/\(es=[]->c=.aN)
def Qw(G:Gs)(F:Nat->Fn)(n:Nat):Prop:=∀ X sc N,Cxt X G F sc N->∀ e c,cO G n sc N e=some c->PO X e (tO X.K (ev F c))

theorem Zfd{X:Cx}{v:Const}{k:Nat}{pos:Pos}{c:CE}(h:CE.ofConst v=some c):SE X F (.Constant v k pos) c:=by
 cases v with
 |none=>cases h;exact .of (ZJ pe_non (JM fun _ _=>.non))
 |bool b=>cases h;exact .of (ZJ pe_bl (JM fun _ _=>.bl b))
 |int i=>cases h;exact .of (ZJ pe_int (JM fun _ _=>.int i))
 |str x=>cases h;exact .of (ZJ pe_str (JM fun _ _=>.str x))
 |_=>cases h
theorem Zhf{X:Cx}{sc:Scope}{N:Li Str}{x:Str}{pos:Pos}{c:CE}(K:Cxt X G F sc N)(h:Zen G sc N x=some c):SE X F (.Name x pos) c:=by
 unfold Zen at h;split at h
 ·rename_i hl
  cases q:N.idxOf? x with
  |none=>rw[q]at h;cases h
  |some i=>
   rw[q]at h;cases h;obtain⟨h1,h2⟩:=QO hl;exact .of (ZJ (pe_var (i:=i) (by rw[K.hN];exact WG q) (K.vis x hl) h1 h2) Zgx)
 ·split at h
  ·rename_i hg
   split at h
   ·rename_i d q
    cases h;obtain⟨v,u,hm,r,hd⟩:=K.gl x _ q;exact .of (ZJ (pe_glob (K.glb x hg) hm r (X3 hg)) (JM hd))
   ·cases h
  ·cases h
theorem pa1{X:Cx}{a:Expr}{t:TE}(hp:Zt a=true)(ha:PE X a t):PA X [a] (tCons t tNil):=pa_cons ha pa_nil (Zn hp)
theorem pa2{X:Cx}{a b:Expr}{t u:TE}(hp:Zt a=true)(hq:Zt b=true)(ha:PE X a t)(hb:PE X b u):PA X [a,b] (tCons t (tCons u tNil)):=pa_cons ha (pa1 hq hb) (Zn hp)
theorem Zg8{X:Cx}{sc:Scope}{N:Li Str}{f:Str}{a:Expr}{x c:CE}{p pos:Pos}(K:Cxt X G F sc N)(hg:ZV sc f=true)(hm:X.mg f=none)(hp:Zt a=true)(A:PE X a (tE X.K (ev F x)))(h:Zih f x=some c) :
  PE X (.Call (.Name f p) [a] [] pos) (tE X.K (ev F c)):=by 
 have hG:=K.glb f hg;unfold Zih at h;split at h
 ·rename_i e;subst e;cases h
  exact ZJ (pe_callB Zco hG hm Zik (pa1 hp A) (by decide) (by decide) (Zn hp) rfl) V8
 ·split at h
  ·rename_i e;subst e;cases h
   exact ZJ (pe_callTy Jt hG hm VY (pa1 hp A) (by decide) (by decide) (Zn hp) rfl) V8
  ·split at h
   ·rename_i e;subst e;cases h
    exact ZJ (pe_callTy Zaz hG hm ZfV (pa1 hp A) (by decide) (by decide) (Zn hp) rfl) V8
   ·cases h
theorem Zig{X:Cx}{b:Expr}{pos:Pos}(hq:Zt b=true):(backTo pos (starEach [b] X.env)).any (·.1)=false:=Xn (by rw[List.all_cons,hq];rfl)
theorem Zg9{X:Cx}{sc:Scope}{N:Li Str}{f:Str}{a b:Expr}{x y c:CE}{p pos:Pos}(K:Cxt X G F sc N)(hg:ZV sc f=true)(hm:X.mg f=none)(hp:Zt a=true)(hq:Zt b=true)(A:PE X a (tE X.K (ev F x)))(B:PE X b (tE X.K (ev F y)))(h:Zii f x y=some c):PE X (.Call (.Name f p) [a,b] [] pos) (tE X.K (ev F c)):=by
 have hG:=K.glb f hg;unfold Zii at h;split at h
 ·rename_i e;subst e;cases h
  exact ZJ (pe_callB (Zcq K.calm) hG hm Zim (pa2 hp hq A B) (by decide) (by decide) (Zn hp) (Zig hq)) JL
 ·split at h
  ·rename_i e;subst e;cases h
   exact ZJ (pe_callB (Zcp K.calm) hG hm Zil (pa2 hp hq A B) (by decide) (by decide) (Zn hp) (Zig hq)) JL
  ·cases h
theorem Zgn{K:Fg}{T:Ty}{fa:Ev}(σ:L2.St)(H:Hp)(Q:VK)(h:tE K (Yh fa (ZaH T)) σ H Q) :
  tCB (fun vs H Q=>∃ v,vs=[v,.ty (tyN T)]/\rC K (on1 (ZaH T)) [v] H Q) (tCons (tE K fa) (tCons (tC (.ty (tyN T))) tNil)) σ H Q:=by
 obtain⟨ad,ρ,st,d,st',E,S,e,p⟩:=h;unfold Yh at e;split at e
 ·rename_i x st1 q1
  exact⟨ad,ρ,st,x,st1,E,S,q1,fun v1 ad1 H1 x1 S1 d1=>⟨v1,rfl,ad1,st1,[x],d,st',S1,.cons d1 .nil,e,p.later x1⟩⟩
 ·cases e
theorem Zfs{X:Cx}{sc:Scope}{N:Li Str}{b:Expr}{T:Ty}(K:Cxt X G F sc N)(h:Zb3 G sc b=some T):Zt b=true/\PE X b (tC (.ty (tyN T))):=by
 cases b with
 |Name t p=>
  have h2:ZjP G sc t=some T:=h;clear h;unfold ZjP at h2;split at h2
  ·rename_i hg
   rw[Ba]at hg;have hm:X.mg t=none:=by
    have z:=hg.2;unfold ZbA at z;split at z
    ·rename_i q;exact K.gl t _ q
    ·cases z
   have hG:=K.glb t hg.1;refine⟨rfl,?_⟩;unfold Zlc at h2;split at h2
   ·rename_i e;subst e;cases h2
    exact pe_bltn hG hm Zij rfl
   ·split at h2
    ·rename_i e;subst e;cases h2
     exact pe_bltn hG hm ZfT rfl
    ·split at h2
     ·rename_i e;subst e;cases h2
      exact pe_bltn hG hm Zin rfl
     ·split at h2
      ·rename_i e;subst e;cases h2
       exact pe_bltn hG hm VY rfl
      ·cases h2
  ·cases h2
 |_=>simp[Zb3]at h
theorem Zjw{X:Cx}{sc:Scope}{N:Li Str}{a b:Expr}{x:CE}{T:Ty}{p pos:Pos}(K:Cxt X G F sc N)(hg:ZV sc "isinstance"=true)(hm:X.mg "isinstance"=none)(hp:Zt a=true)(A:PE X a (tE X.K (ev F x)))(hT:Zb3 G sc b=some T) :
  PE X (.Call (.Name "isinstance" p) [a,b] [] pos) (tE X.K (ev F (.isi T x))):=by
 obtain⟨hq,B⟩:=Zfs K hT;exact ZJ (pe_callB (Zdo (T:=T)) (K.glb _ hg) hm UD (pa2 hp hq A B) (by decide) (by decide) (Zn hp) (Zig hq)) Zgn
theorem Zhb{X:Cx}{sc:Scope}{N:Li Str}{f:Str}{as:Li Expr}{cs:CE}{i ps:Nat}{ds:Li D}{p pos:Pos}(K:Cxt X G F sc N)(hg:ZV sc f=true)(hG:G.lookup f=some (.fn i ps ds))(hl:as.length<=ps/\ps<=as.length+ds.length)(A:PA X as (tA X.K (ev F cs))/\Zb8 cs/\as.all Zt=true/\(as=[]->cs=.aN)):PE X (.Call (.Name f p) as [] pos) (tE X.K (ev F (.call i cs (ds.drop (as.length+ds.length - ps))))):=by
 obtain⟨k,fa,fd,pn,Fk,hr,hm,hk,hb⟩:=K.gl f _ hG;obtain⟨dvs,us,hd,hv,hbn⟩:=hb (as.length+ds.length - ps) (by omega)
 obtain⟨PAs,_,hp,hn⟩:=A;cases as with
 |nil=>
  refine ZJ (pe_call0 (E:=E0) Fk hr (K.glb f hg) hm hk hbn hv pass0 (X3 hg)) fun σ H Q h=>?_
  rw[hn rfl]at h;exact JK σ H _ (JN (E:=E0) hd σ H Q h)
 |cons e es=>
  rw[List.all_cons,Ba]at hp;exact ZJ (pe_call (E:=E0) Fk hr (K.glb f hg) hm hk hbn hv pass0 PAs (X3 hg) (Zn hp.1) (Xn hp.2)) (JN hd)
theorem QC{X:Cx}{sc:Scope}{N:Li Str}{nm:Str}{b:Expr}{as:Li Expr}(K:Cxt X G F sc N)(h:fnA G sc nm b=some as):∃ p pos,b=.Call (.Name nm p) as [] pos/\Gl X nm/\X.mg nm=none:=by
 obtain⟨q,h1,h2⟩:=Option.bind_eq_some_iff.mp h;refine WH h2 fun hc h3=>?_
 obtain⟨rfl,hg,hb⟩:=hc;cases h3;unfold ZhO at h1;split at h1
 ·cases h1
  refine⟨_,_,rfl,K.glb _ hg,?_⟩;unfold ZbA at hb;split at hb
  ·rename_i q;exact K.gl _ _ q
  ·cases hb
 ·cases h1
theorem ZbI{as:Li Expr}{a:Expr}(h:Zi4 as=some a):as=[a]:=by
 cases as with
 |nil=>cases h
 |cons x as=>cases as with
  |nil=>cases h;rfl
  |cons _ _=>cases h
theorem Wx{X:Cx}{sc:Scope}{N:Li Str}{b e:Expr}(K:Cxt X G F sc N)(h:Z7 G sc b=some e):∃ p pos,b=.Call (.Name "range" p) [e] [] pos/\Gl X "range"/\X.mg "range"=none:=by
 obtain⟨as,h1,h2⟩:=Option.bind_eq_some_iff.mp h;rw[ZbI h2]at h1;exact QC K h1
theorem ZcV{X:Cx}{e:Expr}{te:TE}{p pos:Pos}{pQ:Li (Ad×Obj)}{s:Sd}{σ:L2.St}{H:Hp}{Qv:vL->Sd->Prop}(hg:Gl X "range")(hm:X.mg "range"=none)(hp:Zt e=true)(he:PE X e te)(I:L2.Inv X pQ σ H s)(h:tCons te tNil σ H fun vs H1=>∃ n:Int,vs=[.int n]/\∀ s2 r t u v,L2.Inv X pQ σ H1 s2->IsRange s2.heap r 0 n 1 t u v->Qv (.ref r) s2):wpAny (model X.prog X.w) X.A (eval (.Call (.Name "range" p) [e] [] pos) X.env) Qv X.xe s:=by
 refine Call_ (ld_blt I hg hm boot_range (PyProof.Rows.callWith_type1 (thn (pa1 hp he pos pQ s σ H _ I h) fun us s1 ⟨vs,H1,I1,r1,q1⟩=>?_) (Zn hp) rfl))
 obtain⟨n,rfl,q⟩:=q1;cases r1 with
 |cons r rr=>
  cases rr;obtain⟨t,rfl⟩:=r;exact call_range_1 (q _ _ _ _ _ (I1.kept (t':=_) fun b o e=>Heap.get?_push_of_some _ e) (IsRange.new ..))
theorem ZaE{prog:Program}{w:World}{A:Around}{s:Sd}{R:Result->Sd->Prop}{r S:Ad}{a b c:Int}{t u v:Tok}{n c₀:Nat}(hh:A.handled=none)(hr:IsRange s.heap r a b c t u v)(hsmall:Builtin.Range.small a b c=true)(hn:Builtin.Range.rangeSize a b c=n)(hlen:n<=2 ^ 24)(hS:s.heap.get? S=some { cls:=.type "list",data:=.seq #[] c₀ })(hR:∀ h' tk acc' c',(∀ b o,b≠S->s.heap.get? b=some o->h'.get? b=some o)->h'.get? S=some { cls:=.type "list",dict:=none,data:=.seq acc' c',slots:=#[] }->
   ItemsOf (fun i v=>∃ t,v=.int (a+i * c) t) acc' n->R (.ok (.ret (.ref S))) { s with heap:=h',toks:=tk }):codeAny (model prog w) A (.builtin "list.__iadd__" ⟨[.ref S,.ref r],[]⟩) R s:=by
 refine codeAny_builtin F.entry_list_iadd ?_;rw[Around.under_plainId F.plain_list_iadd _];exact wpAny_extend_range hh hr hsmall hn hlen S (.ref S) c₀ hS hR
theorem Ws{prog:Program}{w:World}{A:Around}{E:vL->Sd->Prop}{s:Sd}{Q:Li vL->Sd->Prop}{r:Ad}{a b c:Int}{t u v:Tok}{n:Nat}(hh:A.handled=none)(hr:IsRange s.heap r a b c t u v)(hsmall:Builtin.Range.small a b c=true)(hn:Builtin.Range.rangeSize a b c=n)(hlen:n<=2 ^ 24)(hQ:∀ h' tk acc,(∀ b o,s.heap.get? b=some o->h'.get? b=some o)->ItemsOf (fun i v=>∃ t,v=.int (a+i * c) t) acc n->Q acc.toList { s with heap:=h',toks:=tk }):wpAny (model prog w) A (collect (.ref r)) Q E s:=by
 unfold collect;refine wpAny_bind (wpAny_runValue (codeAny_builtin F.entry_proto_collect ?_));rw[Around.under_plainId F.plain_proto_collect _];show wpAny _ A.in1 (newList [] >>= fun l=>again (.builtin "list.__iadd__" ⟨[l,.ref r],[]⟩)) _ _ s
 refine wpAny_bind (wpAny_newObj_type ?_);refine wpAny_pure ⟨plainId_quiet F.plain_list_iadd _,ZaE (s:={ s with heap:=s.heap.push { cls:=.type "list",data:=.seq ([]:Li vL).toArray } }) hh (Heap.get?_push_of_some _ hr) hsmall hn hlen (Heap.get?_push_size _ rfl) fun h' tk acc c' hk hS hacc=>?_⟩
 show wpAny _ A (load s.heap.objs.size >>= _) _ _ _;refine wpAny_bind (wpAny_load hS ?_);exact wpAny_pure (hQ h' tk acc (fun b o e=>hk b o (Nat.ne_of_lt (Heap.lt_size e)) (Heap.get?_push_of_some _ e)) hacc)
theorem W1(r:Ad)(a b c:Int)(t u v:Tok)(n:Nat)(hsmall:Builtin.Range.small a b c=true)(hn:Builtin.Range.rangeSize a b c=n)(hlen:n<=2 ^ 24) :
  Meets (Builtin.«tuple.__new__» ⟨[.type "tuple",.ref r],[]⟩)
   (fun A R s=>A.handled=none/\IsRange s.heap r a b c t u v/\∀ (h':Heap) (tk:Nat) (acc:Array vL),(∀ b o,s.heap.get? b=some o->h'.get? b=some o)->ItemsOf (fun i v=>∃ t,v=.int (a+i * c) t) acc n->
    R (.ok (.ret (.ref h'.objs.size))) { s with heap:=h'.push { cls:=.type "tuple",data:=.seq acc },toks:=tk }):=
 .of_wp fun prog w A R s h=>by
  obtain⟨hh,hr,h⟩:=h;have hsub:=sub_tuple_self;have hinit:=init_tuple_lookup;have hmh:=madeHere_tuple;have hT:s.TypeIs (.ref r) "range":=⟨_,hr,rfl⟩;have hh1:A.in1.handled=none:=hh
  wp_walk using wpAny_typeOf hT,Ws hh1 hr hsmall hn hlen
  intro h' tk acc hk hacc;show wpAny _ _ (Builtin.Tuple.tupleExact acc.toList.toArray >>= fun v=>ret v) _ _ _
  unfold Builtin.Tuple.tupleExact;refine wpAny_bind (wpAny_newObj_type ?_ (show acc.toList.toArray.size<=sizeLine by simp only[Array.toArray_toList];rw[hacc.1,sizeLine_eq];omega))
  refine wpAny_pure ⟨_,rfl,?_⟩;have e:acc.toList.toArray=acc:=by simp
  rw[e];exact h h' tk acc hk hacc
theorem Vc{prog:Program}{w:World}{A:Around}{E:vL->Sd->Prop}{s:Sd}{Q:vL->Sd->Prop}{r:Ad}{a b c:Int}{t u v:Tok}{n:Nat}(hh:A.handled=none)(hr:IsRange s.heap r a b c t u v)(hsmall:Builtin.Range.small a b c=true)(hn:Builtin.Range.rangeSize a b c=n)(hlen:n<=2 ^ 24)(h:∀ (h':Heap) (tk:Nat) (acc:Array vL),(∀ b o,s.heap.get? b=some o->h'.get? b=some o)->ItemsOf (fun i v=>∃ t,v=.int (a+i * c) t) acc n->Q (.ref h'.objs.size) { s with heap:=h'.push { cls:=.type "tuple",data:=.seq acc },toks:=tk }) :
  wpAny (model prog w) A (call (.type "tuple") [.ref r]) Q E s:=by
 refine callType_new F.called_tuple (by decide) (F.typeCall_tuple_1 _) (F.newCall_tuple_1 _) (fun obj=>F.args_object_init_2 obj _) F.entry_tuple_new
  (W1 r a b c t u v n hsmall hn hlen) ⟨hh,hr,fun h' tk acc hk hacc=>⟨⟨_,Heap.get?_push_size _ rfl,rfl⟩,?_⟩⟩
 exact h h' tk acc hk hacc
theorem Zbb{fx:Ev}{ρ:Env}{st st':Za}{d:D}(e:Yh fx Zar ρ st=some (d,st')):∃ n,fx ρ st=some (.int n,st')/\(-1000<=n/\n<=1000)/\d=.tup ((List.range n.toNat).map fun(k:Nat)=>D.int (k:Int)):=by
 unfold Yh at e;split at e
 ·rename_i dx st1 q1
  unfold Zar at e;split at e
  ·split at e
   ·rename_i c
    cases e;exact⟨_,q1,c,rfl⟩
   ·cases e
  ·cases e
 ·cases e
theorem Ut:∀ {m k:Nat}{us:Li vL},us.length=m->(∀ (i:Nat) v,us[i]?=some v->∃ t,v=.int (((k+i:Nat):Int)) t)->Vals ((List.range' k m).map fun(k:Nat)=>V.int (k:Int)) us
 |0,k,us,hl,h=>by
  cases us with
  |nil=>exact .nil
  |cons _ _=>cases hl
 |m+1,k,us,hl,h=>by
  cases us with
  |nil=>cases hl
  |cons u us=>
   obtain⟨t,rfl⟩:=h 0 u rfl;refine .cons ⟨t,rfl⟩ (Ut (k:=k+1) (Nat.succ.inj hl) fun i v e=>?_)
   obtain⟨t,q⟩:=h (i+1) v e;exact⟨t,by rw[q,show k+1+i=k+(i+1) by omega]⟩
theorem Us{K:Fg}{ad:Li Ad}{H:Hp}:∀ l:Li Nat,Dens K ad H (l.map fun(k:Nat)=>V.int (k:Int)) (l.map fun(k:Nat)=>D.int (k:Int))
 |[]=>.nil
 |k :: l=>.cons (.int _) (Us l)
theorem Zff{n:Int}:Builtin.Range.rangeSize 0 n 1=(n.toNat:Int):=by
 unfold Builtin.Range.rangeSize;rw[if_pos (by decide)]
 split<;>omega
theorem Zhg{X:Cx}{sc:Scope}{N:Li Str}{a e:Expr}{y:CE}{p pos:Pos}(K:Cxt X G F sc N)(hg:ZV sc "tuple"=true)(hm:X.mg "tuple"=none)(hb:Z7 G sc a=some e)(hp:Zt e=true)(B:PE X e (tE X.K (ev F y))):PE X (.Call (.Name "tuple" p) [a] [] pos) (tE X.K (ev F (.tupR y))):=by
 obtain⟨p',pos',rfl,hg1,hm1⟩:=Wx K hb;intro pQ s σ H Q I h;obtain⟨ad,ρ,st,d,st',En,S,e1,pq⟩:=h;obtain⟨n,q,hn,rfl⟩:=Zbb e1;have hs:starEach [.Call (.Name "range" p') [e] [] pos'] X.env=[(false,eval (.Call (.Name "range" p') [e] [] pos') X.env)]:=Zn rfl;refine Call_ (ld_blt I (K.glb _ hg) hm VY (PyProof.Rows.callWith_type1 ?_ hs rfl));rw[hs];refine Calls.spliced_cons (ZcV hg1 hm1 hp B I ⟨ad,ρ,st,_,st',En,S,q,fun v2 ad2 H2 x2 S2 d2=>⟨n,by rw[d2.ofInt],fun s2 r t u w I2 hr=>?_⟩⟩)
 refine Calls.spliced_nil ?_;refine Vc (n:=n.toNat) (I2.ok.hd K.calm) hr (small_one (by omega) (by omega) (by omega) (by omega)) Zff (by omega) fun h' tk acc hk hacc=>?_
 have I3:L2.Inv X pQ σ H2 { s2 with heap:=h',toks:=tk }:=I2.kept (t':=tk) hk
 have hv:Vals ((List.range n.toNat).map fun(k:Nat)=>V.int (k:Int)) acc.toList:=by
  rw[List.range_eq_range'];refine Ut (by rw[Array.length_toList,hacc.1]) fun i v e=>?_
  obtain⟨t,z⟩:=hacc.2 i v (by rw[<-e];simp)
  exact⟨t,by rw[z];simp⟩
 have hf:=I3.hok.fresh (Nat.le_refl _);refine⟨.ref h'.objs.size,upd H2 h'.objs.size (.tup ((List.range n.toNat).map fun(k:Nat)=>V.int (k:Int))),I3.laid (t':=tk) (fun b o e=>Heap.get?_push_of_some _ e) (Nat.le_refl _) (show ObjOk X.prog X.w _ _ _ (.tup _) from⟨?_,acc.toList,hv,?_⟩),rfl,pq _ ad2 _ (x2.trans (Ext.laid hf)) (S2.laid hf) (.tup (.inl upd_same) (Us _))⟩
 ·rw[List.length_map,List.length_range,sizeLine_eq];omega
 ·rw[Array.toArray_toList]
  exact IsTup.new _ _
theorem Zju{X:Cx}{sc:Scope}{N:Li Str}{a b e:Expr}{x y:CE}{op:CmpOp}{ng:Bool}{pos:Pos}(K:Cxt X G F sc N)(hb:Z7 G sc b=some e)(hg:ZiK op=some ng)(hp:Zt e=true)(A:PE X a (tE X.K (ev F x)))(B:PE X e (tE X.K (ev F y))):SE X F (.Compare a [op] [b] pos) (.inR ng x y):=by cases hg
theorem ZjA{X:Cx}{sc:Scope}{N:Li Str}{f:Str}{a e:Expr}{o:Ot CE}{c:CE}{p pos:Pos}(K:Cxt X G F sc N)(hg:ZV sc f=true)(hm:X.mg f=none)(hb:Jf G sc f a=some e)(B:∀ c,o=some c->Zt e=true/\PE X e (tE X.K (ev F c)))(h:o.map CE.tupR=some c):SE X F (.Call (.Name f p) [a] [] pos) c:=by
 unfold Jf at hb;split at hb
 ·rename_i ef
  subst ef;cases o with
  |none=>cases h
  |some y=>
   cases h;exact .of (Zhg K hg hm hb (B y rfl).1 (B y rfl).2)
 ·cases hb
noncomputable def rLk(K:Fg)(A:Ad)(ks:Li Str)(ds:Li D):R2:=fun x y H Q=>x=.ref A/\∃ k d,y=.str k/\Z2 ks ds k=some d/\∀ v,(∀ ad H,Den K ad H v d)->Q v H
theorem ZkK{X:Cx}{A:Ad}{o:Obj}{es:Array DictEntry}{ep:Nat}{ks:Li Str}{ds:Li D}(lk:X.K.lookup A=some o)(ex:o.ExactDict)(hd:o.data=.dict es ep)(hm:(A==sysModules)=false)(nd:ks.Nodup)(eo:EsOk X.w.params X.K es.toList ks ds):IxR X (rLk X.K A ks ds):=by
 intro value slice pQ s σ H x y v u Q I rx ry h hs;obtain⟨rfl,k,d,rfl,he,q⟩:=h;cases rx;obtain⟨kvs,pr,kn,kk,val⟩:=eo.open (P:=X.prog);have dd:s.heap.DictOf (mixKind X.prog X.w) A kvs:=by
  refine⟨o,es,ep,I.kIn A o lk,ex,hd,fun e he=>kk e (by simpa using he),pr,?_⟩
  rw[kn];exact List.pairwise_map.mpr (nd.imp fun h z=>h (Sum.inr.inj z))
 obtain⟨w,z,hw,rw',dn⟩:=val k d he;exact tail_any dd.typeIs PySem.F.slot_dict_getitem.lookup (wpAny_getItem_of (kV_is (k:=Sum.inr k) ry) dd.mapOf hw ⟨z,H,I.tok _,rw',q z dn⟩) hs
theorem Zd0{K:Fg}{A:Ad}{ks:Li Str}{ds:Li D}{fa:Ev}(σ:L2.St)(H:Hp)(Q:VK)(h:tE K (Yh fa (U7 ks ds)) σ H Q):tOp (rLk K A ks ds) (tC (.ref A)) (tE K fa) σ H Q:=by
 obtain⟨ad,ρ,st,d,st',E,S,e,p⟩:=h;unfold Yh at e;split at e
 ·rename_i x st1 q1
  unfold U7 at e;split at e
  ·rename_i k
   split at e
   ·rename_i d' hl
    cases e;exact⟨ad,ρ,st,.str k,_,E,S,q1,fun v ad1 H1 x1 S1 d1=>⟨rfl,k,d,d1.ofStr,hl,fun w dn=>p w ad1 H1 x1 S1 (dn ad1 H1)⟩⟩
   ·cases e
  ·cases e
 ·cases e
theorem Zhd{X:Cx}{sc:Scope}{N:Li Str}{f:Str}{a u v:Expr}{x y:CE}{p pos:Pos}(K:Cxt X G F sc N)(hg:ZV sc f=true)(hm:X.mg f=none)(hb:ZaQ G sc f a=some (u,v))(hu:Zt u=true)(hv:Zt v=true)(A:PE X u (tE X.K (ev F x)))(B:PE X v (tE X.K (ev F y))):PE X (.Call (.Name f p) [a] [] pos) (tE X.K (ev F (.lstR x y))):=by cases hb
theorem Zhc{X:Cx}{sc:Scope}{N:Li Str}{a b:Expr}{y:CE}{ks:Li Str}{ds:Li D}{pos:Pos}(K:Cxt X G F sc N)(hn:ZbC G sc a=some (ks,ds))(hp:Zt b=true)(B:PE X b (tE X.K (ev F y))):PE X (.Subscript a b pos) (tE X.K (ev F (.look ks ds y))):=by
 unfold ZbC at hn;split at hn
 ·split at hn
  ·rename_i hg
   split at hn
   ·rename_i q
    cases hn;obtain⟨A,o,es,ep,hm,lk,ex,hd,hs,nd,eo⟩:=K.gl _ _ q;exact ZJ (pe_ix (ZkK lk ex hd hs nd eo) (pe_glob (K.glb _ hg) hm (show RelV (.ref A) (.ref A) from rfl) (X3 hg)) B (JS hp)) Zd0
   ·cases hn
  ·cases hn
 ·cases hn
theorem Zej{prog:Program}{w:World}{A:Around}{K:Fg}{C:Ad}{s:Sd}{R:Result->Sd->Prop}(X:K.In s.heap)(hm:PySem.W.makesIn K C=true)(hi:PySem.W.findIn K (.ref C) "__init__"=some (some (.builtin "object.__init__")))(h:R (.ok (.ret (.ref (s.heap.objs.size+1)))) { s with heap:=(s.heap.push PySem.W.emptyDict).push (PySem.W.instObj C s.heap.objs.size) }):codeAny (model prog w) A (.call (.ref C) ⟨[],[]⟩) R s:=by
 obtain⟨hh,g,d,t,os⟩:=s;have Y:=PySem.W.makes_of (M:=model prog w) X hm;have hx:((hh.push PySem.W.emptyDict).push (PySem.W.instObj C hh.objs.size)).get? (hh.objs.size+1)=some (PySem.W.instObj C hh.objs.size):=by
  have:=Heap.get?_push_size (hh.push PySem.W.emptyDict) (o:=PySem.W.instObj C hh.objs.size) rfl
  rwa [Heap.size_push]at this
 refine PySem.W.make_core Y (PySem.W.looks_findIn X hi) (fun self=>PySem.W.Looks.of_pure (PySem.W.oi_bind self)) (.inr ⟨rfl,rfl⟩) ?_
 have t1:PySem.W.Looks (model prog w) ((hh.push PySem.W.emptyDict).push (PySem.W.instObj C hh.objs.size)) (typeOf (.ref (hh.objs.size+1))) (.ref C):=(PySem.W.Looks.ld hx).andThen .now;have t2:PySem.W.Looks (model prog w) ((hh.push PySem.W.emptyDict).push (PySem.W.instObj C hh.objs.size)) (isInstance (.ref (hh.objs.size+1)) (.type "object")) true:=t1.andThen (Y.top.keeps fun b o e=>Heap.get?_push_of_some _ (Heap.get?_push_of_some _ e))
 refine codeAny_call_builtin PySem.W.oi_plain PySem.W.entry_oi (@PySem.W.check_slot (model prog w) _ _ _ "object.__init__" "object" "__init__" (.ref (hh.objs.size+1)) [] [] _ PySem.W.oi_kind PySem.W.oi_split t2 (PySem.W.oi_args (.ref (hh.objs.size+1))) ?_);rw[PySem.W.oi_run];exact wpAny_pure (And.intro rfl h)
theorem ZdM{X:Cx}{pQ:Li (Ad×Obj)}{σ:L2.St}{H:Hp}{s:Sd}{ad:Li Ad}{st:Za}(I:L2.Inv X pQ σ H s)(S:StOk X.K ad H st){a:Ad}(h:s.heap.objs.size<=a):a∉ad:=fun hm=>by
 obtain⟨i,hi⟩:=List.getElem?_of_mem hm;rcases S.has hi with⟨o,q⟩|⟨o,q⟩
 ·rw[I.hok.fresh h]at q;cases q
 ·exact absurd (Heap.lt_size (I.kIn a o q)) (Nat.not_lt.mpr h)
theorem Zjx{X:Cx}{sc:Scope}{N:Li Str}{f:Str}{i:Nat}{ms:Li (Str×Nat×Nat)}{subs:Li Nat}{p pos:Pos}(K:Cxt X G F sc N)(hg:ZV sc f=true)(hG:G.lookup f=some (.cls i ms subs)):PE X (.Call (.Name f p) [] [] pos) (tE X.K (ev F (.new i))):=by
 obtain⟨hm,nw,_,_⟩:=K.gl f _ hG;intro pQ s σ H Q I h;obtain⟨ad,ρ,st,d,st',E,S,e,q⟩:=h;have e:some (D.obj i,st)=some (d,st'):=e;cases e;refine wpAny_Call_Name_kw (ld_glob I (K.glb f hg) hm ?_ (X3 hg));refine PySem.W.callWith_K0 I.kIn nw.kp (wpAny_call (Zej I.kIn nw.makes nw.init ?_));have h1:H s.heap.objs.size=none:=I.hok.fresh (Nat.le_refl _);have h2:upd H s.heap.objs.size (.own (s.heap.objs.size+1)) (s.heap.objs.size+1)=none:=by
  rw[upd_ne (Nat.ne_of_gt (Nat.lt_succ_self _))];exact I.hok.fresh (Nat.le_succ _)
 exact⟨.ref (s.heap.objs.size+1),_,I.made,rfl,q _ ad _ ((Ext.laid h1).trans (Ext.laid h2)) ((S.laid h1).laid h2) (.obj upd_same (ZdM I S (Nat.le_succ _)))⟩
theorem Zjv{X:Cx}{sc:Scope}{N:Li Str}{a b:Expr}{x:CE}{l:Li Nat}{p pos:Pos}(K:Cxt X G F sc N)(hg:ZV sc "isinstance"=true)(hm:X.mg "isinstance"=none)(hp:Zt a=true)(A:PE X a (tE X.K (ev F x)))(hT:ZaA G sc b=some l) :
  PE X (.Call (.Name "isinstance" p) [a,b] [] pos) (tE X.K (ev F (.isc l x))):=by cases hT
theorem ZkM{α:Type}:∀ {us:Li α},us.length=1->∃ a,us=[a]
 |[a],_=>⟨a,rfl⟩
theorem U0{pos:Pos}{env:PySem.Env}{as:Li Expr}(h:as.all Zt=true)(hl:as.length < 20):((backTo pos (starEach as env)).all (fun x=>!x.1)&&(backToKw pos (keywordEach [] env)).all (fun x=>x.1.isSome)
  &&decide (as.length+([]:Li Keyword).length+(if ([]:Li Keyword).isEmpty then 0 else 1) < 30))=true:=by
 have a:=Xn (pos:=pos) (env:=env) h;have b:(backTo pos (starEach as env)).all (fun x=>!x.1)=true:=by
  rw[List.all_eq_true];intro x hx;have:=List.any_eq_false.mp a x hx;simpa using this
 rw[b,decide_eq_true (show as.length+([]:Li Keyword).length+(if ([]:Li Keyword).isEmpty then 0 else 1) < 30 by simp;omega)]
 rfl
theorem ZgL{X:Cx}{o:Expr}{name:Str}{apos pos:Pos}{args:Li Expr}{Q:vL->Sd->Prop}{s:Sd}(hbase:attributeBase o name X.env (eval o X.env)=eval o X.env)(hfew:((backTo pos (starEach args X.env)).all (fun x=>!x.1)&&(backToKw pos (keywordEach [] X.env)).all (fun x=>x.1.isSome)&&decide (args.length+([]:Li Keyword).length+(if ([]:Li Keyword).isEmpty then 0 else 1) < 30))=true)(hline:(apos.endLine==pos.line)=true)(h:wpAny (model X.prog X.w) X.A (eval o X.env) (fun ov s₁=>∀ pl,wpAny (model X.prog X.w) X.A (getMethod ov name pl) (fun fx s₂=>wpAny (model X.prog X.w) X.A (callWith pos fx.1 fx.2 (backTo pos (starEach args X.env)) (backToKw pos (keywordEach [] X.env))) Q X.xe s₂) X.xe s₁) X.xe s) :
  wpAny (model X.prog X.w) X.A (eval (.Call (.Attribute o name apos) args [] pos) X.env) Q X.xe s:=by
 rw[arm_eval_Call,hbase];refine wpAny_bind (wpAny_mono h (fun ov s₁ h₁=>?_) fun _ _ e=>e)
 refine wpAny_bind (wpAny_standAt ?_);have hform:methodCallForm (args.length+([]:Li Keyword).length) (backTo pos (starEach args X.env)) (backToKw pos (keywordEach [] X.env))=true:=hfew;have hpos:methodCallPos true o X.env apos pos=pure pos:=by unfold methodCallPos;simp[hline]
 unfold methodCall;rw[hform];refine wpAny_bind (wpAny_holding ?_);exact wpAny_mono (h₁ _) (fun fx s₂ h₂=>wpAny_bind (wpAny_of_eq hpos h₂)) fun _ _ e=>e
theorem ZjN{m:Str}{k i j:Nat}(h:(Wk m k G).lookup i=some j):∃ x ms subs,G.lookup x=some (.cls i ms subs)/\ms.lookup m=some (j,k+1):=by
 have hm:(i,j)∈Wk m k G:=by
  generalize Wk m k G=l at h
  induction l with
  |nil=>cases h
  |cons p l ih=>
   obtain⟨a,b⟩:=p;rw[List.lookup_cons]at h;split at h
   ·rename_i z
    cases h;rw[beq_iff_eq.mp z];exact Ls
   ·exact Lm _ (ih h)
 obtain⟨x,_,hx⟩:=List.mem_filterMap.mp hm;unfold ZhT at hx;split at hx
 ·rename_i i' ms subs q
  split at hx
  ·rename_i j' ps q2
   split at hx
   ·rename_i e
    subst e;cases hx;exact⟨x,ms,subs,q,q2⟩
   ·cases hx
  ·cases hx
 ·cases hx
section
open PySem.SeqAt PySem.MeetsSeq PySem.MeetsSeq2 PySem.MeetsSeq3 PySem.SeqRoads2
theorem JJ{prog:Program}{w:World}{A:Around}{E:vL->Sd->Prop}{s:Sd}{items:Array vL}{x:vL}{e:vL->Bool}{j:Nat}(hj:j < items.size)(hit:e items[j]=true)(hno:∀ m (hm:m < items.size),m < j->e items[m]=false)(he:∀ y,y∈items->EqAt A s y x (e y)):∀ (k i:Nat) (Q:Ot Fin×Unit->Sd->Prop),i<=j->i+k=items.size->Q (some (.done (.ret (.int j s.toks))),()) { s with toks:=s.toks+1 }->
  wpAny (model prog w) A (forIn (List.range' i k) ((none,()):Ot Fin×Unit) fun(i:Nat) __s=>
      match items[i]? with
      |some y=>do
       let __do_lift <-eqBool y x
       if __do_lift=true then do
         let __do_lift <-retInt (i:Int)
         pure (ForInStep.done (some __do_lift,()))
        else pure (ForInStep.yield (none,()))
      |x=>pure (ForInStep.yield (none,()))) Q E s
 |0,i,Q,h1,h2,_=>by omega
 |k+1,i,Q,h1,h2,hQ=>by
  have hlt:i < items.size:=by omega
  rw[List.range'_succ,List.forIn_cons];refine wpAny_bind ?_;rw[Array.getElem?_eq_getElem hlt];refine wpAny_bind (he _ (Array.getElem_mem hlt) prog w _ _ ?_);by_cases hij:i=j
  ·subst hij
   rw[hit]
   wp_walk
   exact hQ
  ·rw[hno i hlt (by omega)]
   wp_walk
   exact JJ hj hit hno he k (i+1) Q (by omega) (by omega) hQ
theorem UL(l:Ad)(items:Array vL)(n:Nat)(o:Obj)(x:vL)(e:vL->Bool)(j:Nat)(hj:j < items.size)(hit:e items[j]=true)(hno:∀ m (hm:m < items.size),m < j->e items[m]=false)(hd:o.data=.seq items n) :
  Meets (Builtin.«tuple.index» ⟨[.ref l,x],[]⟩)
   (fun A R s=>s.heap.get? l=some o/\(∀ y,y∈items->EqAt A.in1 s y x (e y))/\R (.ok (.ret (.int j s.toks))) { s with toks:=s.toks+1 }):=by
 refine .of_wp fun prog w A R s h=>?_
 obtain⟨hp,g,d,tk,os⟩:=s;obtain⟨hl,he,h⟩:=h;obtain⟨oc,od,dt,osl⟩:=o;cases hd;unfold Builtin.«tuple.index»
 simp only[Std.Legacy.Range.forIn_eq_forIn_range',Std.Legacy.Range.size,Nat.sub_zero,Nat.add_sub_cancel,Nat.div_one]
 wp_walk using wpAny_loadPart' hl
 refine JJ hj hit hno he (min items.size items.size - 0) 0 _ (Nat.zero_le _) (by simp) ?_
 exact wpAny_pure ⟨_,rfl,h⟩
end
theorem ZdO{k:Str}{tk:Tok}{i:Nat}:∀ {ks:Li Str}{us:Li vL},Vals (ks.map V.str) us->QE k ks=some i->∃ h:i < us.length,(fun y:vL=>match y with
   |.str a _=>a==k
   |_=>false) us[i]=true/\∀ m (hm:m < us.length),m < i->(fun y:vL=>match y with
   |.str a _=>a==k
   |_=>false) us[m]=false:=by
 intro ks
 induction ks generalizing i with
 |nil=>intro us _ h;cases h
 |cons a ks ih=>
  intro us r h;cases r with
  |@cons v u vs us' r1 r2=>
   obtain⟨t,rfl⟩:=r1;have h:(if a=k then some 0 else (QE k ks).map (·+1))=some i:=h
   split at h
   ·rename_i e
    cases h;refine⟨by simp,by simpa using e,fun m _ hm=>absurd hm (Nat.not_lt_zero m)⟩
   ·rename_i e
    cases q:QE k ks with
    |none=>rw[q]at h;cases h
    |some i'=>
     rw[q]at h;cases h;obtain⟨h1,h2,h3⟩:=ih r2 q;refine⟨by simpa using h1,by simpa using h2,fun m hm hl=>?_⟩
     cases m with
     |zero=>simpa using e
     |succ m=>
      have hl:m+1 < i'+1:=hl;simpa using h3 m (by simpa using hm) (by omega)
theorem Zdb{ks:Li Str}{us:Li vL}(r:Vals (ks.map V.str) us):∀ y∈us,∃ a t,y=.str a t:=by
 induction ks generalizing us with
 |nil=>cases r;intro y hy;exact nomatch hy
 |cons a ks ih=>
  cases r with
  |@cons v u vs us' r1 r2=>
   intro y hy;rcases List.mem_cons.mp hy with rfl|hy
   ·obtain⟨t,rfl⟩:=r1;exact⟨a,t,rfl⟩
   ·exact ih r2 y hy
theorem Zjz{X:Cx}{sc:Scope}{N:Li Str}{y:Str}{yp ap cp:Pos}{as:Li Expr}{x cs:CE}(K:Cxt X G F sc N)(hline:(ap.endLine==cp.line)=true)(hlen:as.length=1)(B:PE X (.Name y yp) (tE X.K (ev F x)))(A:PA X as (tA X.K (ev F cs))/\Zb8 cs/\as.all Zt=true/\(as=[]->cs=.aN)):PE X (.Call (.Attribute (.Name y yp) "index" ap) as [] cp) (tE X.K (ev F (.tix x cs))):=by
 obtain⟨PAs,_,hp,_⟩:=A;obtain⟨e0,rfl⟩:=ZkM hlen;intro pQ s σ H Q I h;obtain⟨ad,ρ,st,d,st',E,S,e,p⟩:=h;replace e:YV (ev F x) (ev F cs) Zhy ρ st=some (d,st'):=e;unfold YV at e;split at e
 ·rename_i dx st1 q1
  split at e
  ·rename_i dy st2 q2
   unfold Zhy at e;split at e
   ·rename_i ks k
    split at e
    ·rename_i i hi
     cases e;rw[List.all_cons,Ba]at hp;refine wpAny_Call_method_late rfl (U0 (by rw[List.all_cons,hp.1];rfl) (by simp)) hline rfl (thn (B pQ s σ H (fun v H1=>∃ ad1,Ext ad H ad1 H1/\StOk X.K ad1 H1 st1/\Den X.K ad1 H1 v (.kt ks)) I ⟨ad,ρ,st,.kt ks,st1,E,S,q1,fun v ad1 H1 x1 S1 d1=>⟨ad1,x1,S1,d1⟩⟩) fun u s1 ⟨v,H1,I1,rv,ad1,x1,S1,d1⟩=>?_)
     obtain⟨a,o,its,n,rfl,h1,h2,h3,h4,h5⟩:=d1.ofKt;cases (show u=Value.ref a from rv)
     have ga:s1.heap.get? a=some o:=I1.kIn a o h1;refine⟨"tuple", "tuple.index",PySem.F.plainAttrs_tuple,PySem.F.slot_tuple_index,PySem.F.type_tuple_index,⟨o,ga,h2.1⟩,fun b eb=>by cases eb;exact⟨o,ga,h2.2⟩,?_⟩
     have hA:=PAs cp pQ s1 σ H1 (fun vs H2=>∃ ad2,Ext ad1 H1 ad2 H2/\StOk X.K ad2 H2 st'/\Dens X.K ad2 H2 vs [.str k]) I1 ⟨ad1,ρ,st1,[.str k],st',E.mono x1,S1,q2,fun vs ad2 H2 x2 S2 d2=>⟨ad2,x2,S2,d2⟩⟩
     rw[Zn hp.1]at hA ⊢;refine Calls.callWith_builtin rfl (Calls.evalArgs_plain (thn hA fun us s2 ⟨vs,H2,I2,r2,ad2,x2,S2,d2⟩=>?_))
     obtain⟨w,rfl,dw⟩:=Jz d2;cases dw;obtain⟨u1,rfl,tu,rfl⟩:=r2.one;have ga2:s2.heap.get? a=some o:=I2.kIn a o h1;obtain⟨hj,hit,hno⟩:=ZdO (k:=k) (tk:=tu) h5 hi;have sz:its.toList.length=its.size:=Array.length_toList;refine call_meets PySem.F.slot_tuple_index ⟨o,ga2,h2.1⟩ PySem.F.entry_tuple_index (PySem.F.args_tuple_index_2 _ _) (UL a its n o (.str k tu) (fun y:vL=>match y with
      |.str a _=>a==k
      |_=>false) i (by rw[<-sz];exact hj) (by simpa using hit) (fun m hm hl=>by
      have z:=hno m (by rw[sz];exact hm) hl
      simp only[Array.getElem_toList]at z;exact z) h3) ⟨ga2,fun y hy=>?_,?_⟩
     ·obtain⟨b,t,rfl⟩:=Zdb h5 y (by simpa using hy)
      exact PySem.SeqAt.EqAt.str_str b t k tu
     ·exact⟨.int (i:Int),H2,I2.tok _,⟨_,rfl⟩,p.later (x1.trans x2) _ ad2 H2 (Ext.refl _ _) S2 (.int _)⟩
    ·cases e
   ·cases e
  ·cases e
 ·cases e
theorem Zhe{X:Cx}{sc:Scope}{N:Li Str}{y m:Str}{yp ap cp:Pos}{as:Li Expr}{x cs:CE}(K:Cxt X G F sc N)(hline:(ap.endLine==cp.line)=true)(hlen:as.length < 20)(B:PE X (.Name y yp) (tE X.K (ev F x)))(A:PA X as (tA X.K (ev F cs))/\Zb8 cs/\as.all Zt=true/\(as=[]->cs=.aN)):PE X (.Call (.Attribute (.Name y yp) m ap) as [] cp) (tE X.K (ev F (.meth (Wk m as.length G) x cs))):=by
 obtain⟨PAs,_,hp,hn⟩:=A;intro pQ s σ H Q I h;obtain⟨ad,ρ,st,d,st',E,S,e,p⟩:=h;replace e:YV (ev F x) (ev F cs) (ZbD F (Wk m as.length G)) ρ st=some (d,st'):=e;unfold YV at e;split at e
 ·rename_i dx st1 q1
  split at e
  ·rename_i dy st2 q2
   unfold ZbD at e;split at e
   ·rename_i i xs
    split at e
    ·rename_i j hj
     obtain⟨cx,ms,subs,hG,hl⟩:=ZjN hj;obtain⟨_,nw,_,hms⟩:=K.gl cx _ hG;obtain⟨k,f,fd,pn,Fk,hr,hme,hb⟩:=hms m j _ hl;refine ZgL rfl (U0 hp hlen) hline (thn (B pQ s σ H (fun v H1=>∃ ad1,Ext ad H ad1 H1/\StOk X.K ad1 H1 st1/\Den X.K ad1 H1 v (.obj i)) I ⟨ad,ρ,st,.obj i,st1,E,S,q1,fun v ad1 H1 x1 S1 d1=>⟨ad1,x1,S1,d1⟩⟩) fun u s1 ⟨v,H1,I1,rv,ad1,x1,S1,d1⟩ pl=>?_)
     obtain⟨a,dx,rfl,ha⟩:=d1.ofObj;cases (show u=Value.ref a from rv)
     refine getmeth_ok I1 ha nw.cl hme rfl ?_;cases as with
     |nil=>
      have hc:=hn rfl;subst hc;have q2:some (D.tup [],st1)=some (.tup xs,st2):=q2;cases q2;exact PySem.W.callWith_K0 (first:=[.ref a]) I1.kIn hme.kp (run_fn (us:=[.ref a]) (vs:=[.ref a]) (E:=E0) Fk hr hb .nil pass0 I1 (.cons rfl .nil) ⟨ad1,[.obj i],st1,d,st',S1,.cons d1 .nil,e,p.later x1⟩)
     |cons e0 es=>
      rw[List.all_cons,Ba]at hp;refine PySem.W.callWith_K (first:=[.ref a]) (h₀:=X.base) I.ok.mod.kin hme.kp (thn (PAs cp pQ s1 σ H1 _ I1 ⟨ad1,ρ,st1,xs,st2,E.mono x1,S1,q2,fun vs ad2 H2 x2 S2 d2=>(show(fun vs H2=>∃ ad2,Ext ad1 H1 ad2 H2/\StOk X.K ad2 H2 st2/\Dens X.K ad2 H2 vs xs) vs H2 from⟨ad2,x2,S2,d2⟩)⟩) fun us s2 ⟨vs,H2,I2,r,ad2,x2,S2,d2⟩=>⟨I2.kIn,?_⟩) (Zn hp.1) (Xn hp.2)
      refine run_fn (us:=.ref a :: us) (vs:=.ref a :: vs) (E:=E0) Fk hr hb .nil pass0 I2 (.cons rfl r) ?_;rw[List.append_nil];exact⟨ad2,.obj i :: xs,st2,d,st',S2,.cons (d1.mono x2) d2,e,p.later (x1.trans x2)⟩
    ·cases e
   ·cases e
  ·cases e
 ·cases e
theorem Za2{b:Expr}{p:Ot Expr×Ot Expr}(q:VR b=some p):∃ p2,b=.Slice p.1 p.2 none p2:=by
 unfold VR at q;split at q
 ·cases q;exact⟨_,rfl⟩
 ·cases q
theorem Zk6{X:Cx}{op:UnaryOp}{a:Expr}{o:Ot CE}{c:CE}{pos:Pos}(A:∀ x,o=some x->SE X F a x)(h:unC op o=some c):SE X F (.UnaryOp op a pos) c:=by
 cases op with
 |Not=>exact QV (P:=SE X F _) (show o.map CE.not=some c from h) fun x hx=>⟨ZJ (pe_not (A x hx).pe) Zd2,Uq (pt_not (A x hx).pt) Zd1⟩
 |USub=>exact QV (P:=SE X F _) (show o.map CE.neg=some c from h) fun x hx=>.of (ZJ (pe_un ZhE (A x hx).pe) ZiJ)
 |_=>cases h
section
variable {X:Cx}{sc:Scope}{N:Li Str}{n:Nat}{c:CE} (K:Cxt X G F sc N) (hf:∀ e c,cE G n sc N e=some c->SE X F e c)
include K hf
theorem Zjt{a:Expr}{ops:Li CmpOp}{bs:Li Expr}{pos:Pos}(h:Zku G sc (cE G n sc N) (cE G n sc N a) ops bs=some c):SE X F (.Compare a ops bs pos) c:=by
 cases ops with
 |nil=>cases h
 |cons op ops=>cases bs with
  |nil=>cases ops with
   |nil=>cases h
   |cons _ r=>cases r<;>cases h
  |cons b bs=>cases ops with
   |nil=>cases bs with
    |cons _ _=>cases h
    |nil=>
     replace h:(match Z7 G sc b with
      |some e=>o3 CE.inR (ZiK op) (cE G n sc N a) (cE G n sc N e)
      |none=>o2 (CE.cmp op) (cE G n sc N a) (cE G n sc N b))=some c:=h
     cases he:Z7 G sc b with
     |some e=>
      rw[he]at h;exact VD (P:=SE X F _) h fun ng x y hg hx hy=>Zju K he hg (Zs hy) (hf a x hx).pe (hf e y hy).pe
     |none=>
      rw[he]at h;exact YB (P:=SE X F _) h fun x y hx hy=>⟨ZJ (pe_cmpR (ZbK K.hu) (hf a x hx).pe (hf b y hy).pe (Vv (Zs hy))) QG,Uq (pt_cmpR (ZbK K.hu) (hf a x hx).pe (hf b y hy).pe (Vv (Zs hy))) fun σ H Q q=>QG σ H _ (Zd5 σ H Q q)⟩
   |cons op2 ops=>cases h
omit K in
theorem Zha{op:BoolOp}{vs:Li Expr}{pos:Pos}(h:ZhN (cE G n sc N) op pos vs=some c):SE X F (.BoolOp op vs pos) c:=by
 cases vs with
 |nil=>cases h
 |cons a r=>cases r with
  |nil=>
   have A:=hf a c h;refine⟨pe_one A.pe,?_⟩;cases op with
   |And=>exact(pw_and1 A.pt).pt
   |Or=>exact(pw_or1 A.pt).pt
  |cons b r=>cases op with
   |And=>exact YB (P:=SE X F _) (show o2 CE.and (cE G n sc N a) (cE G n sc N (.BoolOp .And (b :: r) pos))=some c from h) fun x y hx hy=>⟨ZJ (pe_and (hf a x hx).pe (hf _ y hy).pe) ZdQ,Uq (pw_and (hf a x hx).pt (J8 (hf _ y hy).pt)).pt ZdP⟩
   |Or=>exact YB (P:=SE X F _) (show o2 CE.or (cE G n sc N a) (cE G n sc N (.BoolOp .Or (b :: r) pos))=some c from h) fun x y hx hy=>⟨ZJ (pe_or (hf a x hx).pe (hf _ y hy).pe) Zgs,Uq (pw_or (hf a x hx).pt (J8 (hf _ y hy).pt)).pt Zgr⟩
theorem Zjy(ihO:Qw G F n){a b:Expr}{pos:Pos}(h:ZjJ G sc (cE G n sc N) (cO G n sc N) a b=some c):SE X F (.Subscript a b pos) c:=by
 unfold ZjJ at h;cases q:VR b with
 |some p=>
  obtain⟨lo,hi⟩:=p;rw[q]at h;obtain⟨p2,rfl⟩:=Za2 q;exact VD (P:=SE X F _) h fun x l u hx hl hu=>.of (ZJ (pe_slice ZmJ (hf a x hx).pe (ihO X sc N K lo l hl) (ihO X sc N K hi u hu)) ZcG)
 |none=>
  rw[q]at h;dsimp only at h;cases q':ZhX b with
  |some s=>
   cases q'
  |none=>
   rw[q']at h;dsimp only at h;cases hn:ZbC G sc a with
   |some p=>
    obtain⟨ks,ds⟩:=p;rw[hn]at h;exact QV (P:=SE X F _) h fun y hy=>.of (Zhc K hn (Zs hy) (hf b y hy).pe)
   |none=>
    rw[hn]at h;exact YB (P:=SE X F _) h fun x y hx hy=>.of (ZJ (pe_ix (ZlT K.hu) (hf a x hx).pe (hf b y hy).pe (JS (Zs hy))) QG)
theorem Zfa{f:Str}{a:Expr}{p pos:Pos}(hg:ZV sc f=true)(hm:X.mg f=none)(h:Zdk G sc f a (cE G n sc N)=some c):SE X F (.Call (.Name f p) [a] [] pos) c:=by
 unfold Zdk at h;cases he:Jf G sc f a with
 |some e=>
  rw[he]at h;exact ZjA K hg hm he (fun c hc=>⟨Zs hc,(hf e c hc).pe⟩) h
 |none=>
  rw[he]at h;dsimp only at h;cases hl:ZaQ G sc f a with
  |some q=>
   obtain⟨u,v⟩:=q;rw[hl]at h;exact YB (P:=SE X F _) h fun x y hx hy=>.of (Zhd K hg hm hl (Zs hx) (Zs hy) (hf u x hx).pe (hf v y hy).pe)
  |none=>
   rw[hl]at h;exact j_e h fun h=>QV (P:=fun o=>o=some c->SE X F _ c) h (fun x hx h=>.of (Zg8 K hg hm (Zs hx) (hf a x hx).pe h)) rfl
theorem Zfb{f:Str}{a b:Expr}{p pos:Pos}(hg:ZV sc f=true)(hm:X.mg f=none)(h:Zdl G sc f a b (cE G n sc N)=some c):SE X F (.Call (.Name f p) [a,b] [] pos) c:=by
 unfold Zdl at h;by_cases ei:f = "isinstance"
 ·subst ei
  rw[if_pos rfl]at h;cases hl:ZaA G sc b with
  |some l=>
   rw[hl]at h;exact QV (P:=SE X F _) h fun x q=>.of (Zjv K hg hm (Zs q) (hf a x q).pe hl)
  |none=>
   rw[hl]at h;exact YB (P:=SE X F _) h fun x T hx hT=>.of (Zjw K hg hm (Zs hx) (hf a x hx).pe hT)
 ·rw[if_neg ei]at h
  exact j_e h fun h=>YB (P:=fun o=>o=some c->SE X F _ c) h (fun x y hx hy h=>.of (Zg9 K hg hm (Zs hx) (Zs hy) (hf a x hx).pe (hf b y hy).pe h)) rfl
theorem Zfc(ihA:Xh G F n){f:Str}{as:Li Expr}{p pos:Pos}(h:Zdn G sc f as (cEs G n sc N as) (cE G n sc N)=some c):SE X F (.Call (.Name f p) as [] pos) c:=by
 unfold Zdn at h;cases hg:ZV sc f with
 |false=>rw[hg]at h;cases h
 |true=>
 rw[hg,if_pos rfl]at h;cases hG:G.lookup f with
 |none=>rw[hG]at h;cases h
 |some g=>
  rw[hG]at h;cases g with
  |fn i ps ds=>exact WH h fun hl h=>QV (P:=SE X F _) h fun cs hcs=>.of (Zhb K hg hG hl (ihA X sc N K as cs hcs))
  |blt=>
   have hm:X.mg f=none:=K.gl f _ hG;cases as with
   |nil=>cases h
   |cons a as=>cases as with
    |nil=>exact Zfa K hf hg hm h
    |cons b as=>cases as with
     |nil=>exact Zfb K hf hg hm h
     |cons _ _=>cases h
  |cls i ms subs=>cases as with
   |cons _ _=>cases h
   |nil=>cases h;exact .of (Zjx K hg hG)
  |_=>cases h
theorem Zg7(ihA:Xh G F n){ob:Expr}{m:Str}{ap pos:Pos}{as:Li Expr}(h:ZhM G ob m ap as pos (cEs G n sc N as) (cE G n sc N)=some c):SE X F (.Call (.Attribute ob m ap) as [] pos) c:=by
 cases ob with
 |Name y yp=>
  refine WH h fun hc h=>?_
  by_cases hm:m = "index"
  ·subst hm
   rw[if_pos rfl]at h;exact WH h fun h1 h=>YB (P:=SE X F _) h fun x cs hx hcs=>.of (Zjz K hc.1 h1 (hf _ x hx).pe (ihA X sc N K as cs hcs))
  ·rw[if_neg hm]at h
   exact YB (P:=SE X F _) h fun x cs hx hcs=>.of (Zhe K hc.1 hc.2 (hf _ x hx).pe (ihA X sc N K as cs hcs))
 |_=>cases h
end
theorem Za4{n:Nat}(ihE:ZG G F n)(ihA:Xh G F n)(ihO:Qw G F n)(hcomp:∀ X sc N,Cxt X G F sc N->∀ elt gens sc2 pos c,cE G (n+1) sc N (.ListComp elt gens sc2 pos)=some c->SE X F (.ListComp elt gens sc2 pos) c):ZG G F (n+1):=by
 intro X sc N K e c h;have hf:=ihE X sc N K;have no:∀ {P:Prop},(none:Ot CE)=some c->P:=fun z=>nomatch z
 cases e with
 |Constant v k pos=>exact Zfd h
 |Name x pos=>exact Zhf K h
 |BinOp a op b pos=>exact YB (P:=SE X F _) (show o2 (CE.bin op) (cE G n sc N a) (cE G n sc N b)=some c from h) fun x y hx hy=>.of (ZJ (pe_op ZgU (hf a x hx).pe (hf b y hy).pe) QG)
 |UnaryOp op a pos=>exact Zk6 (hf a) h
 |Compare a ops bs pos=>exact Zjt K hf h
 |BoolOp op vs pos=>exact Zha hf h
 |IfExp t a b pos=>exact VD (P:=SE X F _) (show o3 CE.ife (cE G n sc N t) (cE G n sc N a) (cE G n sc N b)=some c from h) fun z x y hz hx hy=>⟨ZJ (pe_ifExp (hf t z hz).pt (hf a x hx).pe (hf b y hy).pe) ZiI,Zi9 (hf t z hz).pt (hf a x hx).pt (hf b y hy).pt⟩
 |Tuple es k pos=>
  refine QV (P:=SE X F _) (show(cEs G n sc N es).map CE.tupE=some c from h) fun x q=>?_
  obtain⟨A,hA,_,_⟩:=ihA X sc N K es x q;exact .of (ZJ (pe_tup A) (Zgw (fun ρ st ds st' e=>by obtain⟨ds',z,hz⟩:=Qx hA e;cases z;exact hz) fun ρ st d st' e=>by obtain⟨ds',z,hz⟩:=Qx hA e;exact⟨ds',z⟩))
 |List es pos=>
  refine QV (P:=SE X F _) (show(cEs G n sc N es).map CE.lstE=some c from h) fun x q=>?_
  obtain⟨A,hA,_,_⟩:=ihA X sc N K es x q;exact .of (ZJ (pe_lst A) (Zgp fun ρ st ds st' e=>by obtain⟨ds',z,hz⟩:=Qx hA e;cases z;exact hz))
 |Subscript a b pos=>exact Zjy K hf ihO h
 |Call f as kws pos=>cases kws with
  |cons _ _=>exact no h
  |nil=>cases f with
   |Attribute ob m ap=>exact Zg7 K hf ihA h
   |Name f p=>exact Zfc K hf ihA h
   |_=>exact no h
 |ListComp elt gens sc2 pos=>exact hcomp X sc N K elt gens sc2 pos c h
 |_=>exact no h
theorem Zaj{n:Nat}(ihE:ZG G F n)(ihA:Xh G F n):Xh G F (n+1):=by
 intro X sc N K es c h;cases es with
 |nil=>
  simp only[cEs]at h;cases h;exact⟨ZeC pa_nil JK,trivial,rfl,fun _=>rfl⟩
 |cons e es=>
  refine YB (P:=fun c=>PA X _ (tA X.K (ev F c))/\Zb8 c/\_/\(_->c=.aN)) (show o2 CE.aC (cE G n sc N e) (cEs G n sc N es)=some c from h) fun x r hx hr=>?_
  obtain⟨A,hA,hp,_⟩:=ihA X sc N K es r hr;exact⟨ZeC (pa_cons (ihE X sc N K e x hx).pe A (Zn (Zs hx))) ZcE,trivial,by rw[List.all_cons,hp,Zs hx];rfl,fun z=>nomatch z⟩
theorem Zak{n:Nat}(ihE:ZG G F n):Qw G F (n+1):=by
 intro X sc N K e c h;cases e with
 |none=>
  simp only[cO]at h;cases h;exact ZeN po_none Zgq
 |some e=>
  simp only[cO]at h;cases q:cE G n sc N e with
  |none=>rw[q]at h;cases h
  |some x=>
   rw[q]at h;cases h;refine ZeN (po_some (ihE X sc N K e x q).pe) fun σ H Q hq=>?_
   obtain⟨ad,ρ,st,d,st',E,S,e1,p⟩:=hq;have e1:Yh (ev F x) ZbM ρ st=some (d,st'):=e1;unfold Yh at e1;split at e1
   ·rename_i y st1 q1
    cases y with
    |int i=>
     cases e1;rcases p with⟨z,_⟩|⟨j,z,p⟩
     ·cases z
     ·cases z
      exact⟨ad,ρ,st,.int i,_,E,S,q1,fun v ad' H' x S' d'=>⟨i,d'.ofInt,p ad' H' x S'⟩⟩
    |_=>simp[ZbM]at e1
   ·cases e1
end
end Dp



namespace Dp
open PySem PySem.Spec PyProof.Rows L2
variable [ClsTab]
theorem b_e{α β:Type}{P:Prop}{o:Ot α}{f:α->Ot β}{c:β}(h:o.bind f=some c)(k:∀ x,o=some x->f x=some c->P):P:=by
 cases o with
 |none=>cases h
 |some x=>exact k x rfl h
theorem Zk0{X:Cx}{s:Stmt}{t u:TS}(h1:PS X s t)(h2:PS X s u):PS X s (fun D σ H=>t D σ H\/u D σ H):=fun pQ s σ H D I q=>q.elim (h1 pQ s σ H D I) (h2 pQ s σ H D I)
theorem Vz{e:Expr}{tg:Ot Expr}{l:Nat}{env:PySem.Env}(h:X4 e=false):swapsWith e tg l env=pure false:=by
 cases e<;>first|rfl|cases h
theorem WL{e tg:Expr}{l:Nat}{env:PySem.Env}(h:X4 e=false):swapsWithSole [tg] e l env=pure false:=Vz h
theorem Zau{o k:Expr}{p:Pos}{env:PySem.Env}(h:Zt k=true):∀ v,assign (.Subscript o k p) env v=(do
   let ov <-holding [v] (eval o env)
   let iv <-holding [v,ov] (eval k env)
   standAt p
   holding [v,ov,iv] (setItem ov iv v)
   release [v,ov,iv] []):=by
 cases k<;>first | (intro _;rfl)|cases h
theorem Za6{o k e:Expr}{p:Pos}{env:PySem.Env}:swappedStores [.Subscript o k p] e env=pure none:=by
 cases e<;>rfl
theorem Ya{e:Expr}{env:PySem.Env}(h:Zt e=true):∀ x,foldedSetIterable e env x=pure x:=by
 cases e<;>first | (intro _;rfl)|cases h
structure CxtS(X:Cx)(G:Gs)(F:Nat->Fn)(sc:Scope)(N:List Str):Prop extends Cxt X G F sc N where
 nd:N.Nodup
 loc:∀ x∈N,Loc X.env.scope x
 fn:∀ x,X.fn x=true
section
variable {G:Gs}{F:Nat->Fn}
def Zat(G:Gs)(F:Nat->Fn)(n:Nat):Prop:=∀ X sc N,CxtS X G F sc N->∀ s c,cS G n sc N s=some c->PS X s (tS X.K (ex F c))
def Yw(G:Gs)(F:Nat->Fn)(n:Nat):Prop:=∀ X sc N,CxtS X G F sc N->∀ s c,cSs G n sc N s=some c->PSs X s (tS X.K (ex F c))
theorem QF{N:Li Str}{x:Str}{i:Nat}(h:N.idxOf? x=some i):x∈N:=List.mem_of_getElem? (WG h)
theorem Y1{X:Cx}{sc:Scope}{N:Li Str}{x:Str}{i:Nat}{p:Pos}(K:CxtS X G F sc N)(h:N.idxOf? x=some i):PG X (.Name x p) (gName i):=
 pg_name (by rw[K.hN];exact K.nd) (by rw[K.hN];exact WG h) (K.loc x (QF h)) (.inl (K.fn x))
theorem WI{X:Cx}{sc:Scope}{N:Li Str}(K:CxtS X G F sc N):PassesOwn (model X.prog X.w) X.A X.env X.xe:=by
 rw[K.nx];exact PassesOwn.never
theorem ZeH{X:Cx}{sc:Scope}{N:Li Str}{x:Str}{i:Nat}{p:Pos}(K:Cxt X G F sc N)(hl:WY sc x=true)(hi:N.idxOf? x=some i):PE X (.Name x p) (tVar i):=
 pe_var (by rw[K.hN];exact WG hi) (K.vis _ hl) (QO hl).1 (QO hl).2
theorem Vx{X:Cx}{sc:Scope}{N:Li Str}{it a tg:Expr}{x:CE}(K:Cxt X G F sc N)(h:Z7 G sc it=some a)(hp:Zt a=true)(A:PE X a (tE X.K (ev F x))):Zt it=true/\PI X tg it (iRng1 (tCons (tE X.K (ev F x)) tNil)):=by
 obtain⟨_,_,rfl,hg,hm⟩:=Wx K h;exact⟨rfl,pi_range1 hg hm (pa1 hp A) (Zn hp)⟩
def VT(G:Gs)(F:Nat->Fn)(n:Nat):Prop:=∀ X sc N,CxtS X G F sc N->∀ (x:Str) (i:Nat) (p:Pos) elt gens sc2 epos (pos:Pos) c,N.idxOf? x=some i->cE G n sc N (.ListComp elt gens sc2 epos)=some c->
 swapsWith (.ListComp elt gens sc2 epos) (some (.Name x p)) pos.line X.env=pure true->PS X (.Assign [.Name x p] (.ListComp elt gens sc2 epos) pos) (tAsg (tE X.K (ev F c)) (gName i))
theorem Za7{elt:Expr}{gens:Li Comprehension}{sc2:Scope}{epos p:Pos}{x:Str}{l:Nat}{env:PySem.Env}:∃ b:Bool,swapsWith (.ListComp elt gens sc2 epos) (some (.Name x p)) l env=pure b:=⟨_,rfl⟩
theorem Zet{n:Nat}{sc:Scope}{N:Li Str}{e:Expr}{c:CE}(h:cE G n sc N e=some c):X4 e=false\/∃ elt gens sc2 epos,e=.ListComp elt gens sc2 epos:=by
 cases n with
 |zero=>exact nomatch (show(none:Ot CE)=some c from h)
 |succ n=>cases e<;>first|exact .inl rfl|exact .inr ⟨_,_,_,_,rfl⟩|exact nomatch (show(none:Ot CE)=some c from h)
theorem ZjD{n:Nat}(ihE:ZG G F n)(hA:VT G F n){X:Cx}{sc:Scope}{N:Li Str}(K:CxtS X G F sc N){c:CS}{x:Str}{e:Expr}{p pos:Pos}(h:o2 CS.set (N.idxOf? x) (cE G n sc N e)=some c):PS X (.Assign [.Name x p] e pos) (tS X.K (ex F c)):=by
 refine YB (P:=fun c=>PS X _ (tS X.K (ex F c))) h fun i y hi hx=>?_
 have pl:∀ hs,PS X (.Assign [.Name x p] e pos) (tAsg (tE X.K (ev F y)) (gName i)):=fun hs=>ps_set (by rw[K.hN];exact K.nd) (by rw[K.hN];exact WG hi) (K.loc _ (QF hi)) (ihE X sc N K.toCxt _ y hx).pe hs (.inl (K.fn _))
 rcases Zet hx with hc|⟨elt,gens,sc2,epos,rfl⟩
 ·exact Z6 (pl (Vz hc)) QH
 ·obtain⟨b,hb⟩:=Za7 (elt:=elt) (gens:=gens) (sc2:=sc2) (epos:=epos) (p:=p) (x:=x) (l:=pos.line) (env:=X.env)
  cases b with
  |false=>exact Z6 (pl hb) QH
  |true=>exact Z6 (hA X sc N K _ i p elt gens sc2 epos pos y hi hx hb) QH
theorem Uw{ts:Li Expr}{k:Nat}{tp:Pos}{e:Expr}{env:PySem.Env}(h:JR e=false):swappedStores [.Tuple ts k tp] e env=pure none:=by
 cases e with
 |Tuple=>cases h
 |_=>rfl
theorem Zhq{n:Nat}(ihE:ZG G F n){X:Cx}{sc:Scope}{N:Li Str}(K:CxtS X G F sc N){c:CS}{x y:Str}{e:Expr}{p p2 tp pos:Pos}{ctx:Nat}(h:og ((X4 e||JR e)=false) (o3 (fun i j c=>og (i≠j) (some (CS.set2 i j c))) (N.idxOf? x) (N.idxOf? y) (cE G n sc N e)).join=some c):PS X (.Assign [.Tuple [.Name x p,.Name y p2] ctx tp] e pos) (tS X.K (ex F c)):=by
 refine WH h fun hc h=>j_e h fun h=>VD (P:=fun o=>o=some c->PS X _ (tS X.K (ex F c))) h (fun i j ce hi hj hx h=>WH h fun _ h=>?_) rfl
 cases h;rw[Bool.or_eq_false_iff]at hc;exact Z6 (ps_asg (ihE X sc N K.toCxt _ ce hx).pe (pg_tup K.calm (pgs_cons (Y1 K hi) (pgs_cons (Y1 K hj) pgs_nil))) (WL hc.1) (Uw hc.2)) Zd3
theorem Zhr{n:Nat}(ihE:ZG G F n){X:Cx}{sc:Scope}{N:Li Str}(K:CxtS X G F sc N){c:CS}{x y z:Str}{e:Expr}{p p2 p3 tp pos:Pos}{ctx:Nat}(h:og ((X4 e||JR e)=false) (o3 (fun i j (p:Nat×CE)=>CS.set3 i j p.1 p.2) (N.idxOf? x) (N.idxOf? y) (o2 Prod.mk (N.idxOf? z) (cE G n sc N e)))=some c):PS X (.Assign [.Tuple [.Name x p,.Name y p2,.Name z p3] ctx tp] e pos) (tS X.K (ex F c)):=by
 refine WH h fun hc h=>VD (P:=fun c=>PS X _ (tS X.K (ex F c))) h fun i j q hi hj hq=>YB (P:=fun q=>PS X _ (tS X.K (ex F (.set3 i j q.1 q.2)))) hq fun l ce hl hx=>?_
 rw[Bool.or_eq_false_iff]at hc;exact Z6 (ps_asg (ihE X sc N K.toCxt _ ce hx).pe (pg_tup K.calm (pgs_cons (Y1 K hi) (pgs_cons (Y1 K hj) (pgs_cons (Y1 K hl) pgs_nil)))) (WL hc.1) (Uw hc.2)) Zd4
theorem ZjB{n:Nat}(ihE:ZG G F n){X:Cx}{sc:Scope}{N:Li Str}(K:CxtS X G F sc N){c:CS}{f:Str}{fp cp pos:Pos}{as:Li Expr}{kw:Li Keyword}(h:(cE G n sc N (.Call (.Name f fp) as kw cp)).map CS.act=some c):PS X (.Expr (.Call (.Name f fp) as kw cp) pos) (tS X.K (ex F c)):=by
 obtain⟨ce,hx,rfl⟩:=Option.map_eq_some_iff.mp h;exact Z6 (ps_expr (ihE X sc N K.toCxt _ ce hx).pe rfl) Zgj
theorem ZjE{n:Nat}(ihE:ZG G F n){X:Cx}{sc:Scope}{N:Li Str}(K:CxtS X G F sc N){c:CS}{x:Str}{k e:Expr}{p q pos:Pos}(h:Zk2 sc N x k e (cE G n sc N)=some c):PS X (.Assign [.Subscript (.Name x p) k q] e pos) (tS X.K (ex F c)):=
 WH h fun hc h=>by
 cases hp:ZhW k with
 |some ab=>
  cases hp
 |none=>
 rw[hp]at h;exact VD (P:=fun c=>PS X _ (tS X.K (ex F c))) h fun _ ck y hi hck hx=>Z6 (ps_asg (ihE X sc N K.toCxt _ y hx).pe (pg_sub (ZeH K.toCxt hc.2.2 hi) (ihE X sc N K.toCxt _ ck hck).pe set_list (Zau (Zs hck))) (WL hc.1) Za6) Zgt
theorem ZjF{n:Nat}(ihE:ZG G F n){X:Cx}{sc:Scope}{N:Li Str}(K:CxtS X G F sc N){c:CS}{e:Expr}{pos:Pos}(h:(cE G n sc N e).map CS.ret=some c):PS X (.Return (some e) pos) (tS X.K (ex F c)):=
 QV (P:=fun c=>PS X _ (tS X.K (ex F c))) h fun x q=>Z6 (ps_ret (ihE X sc N K.toCxt _ x q).pe) Zgu
theorem Zk8{n:Nat}(ihE:ZG G F n)(ihS:Yw G F n){X:Cx}{sc:Scope}{N:Li Str}(K:CxtS X G F sc N){c:CS}{e:Expr}{a b:Li Stmt}{pos:Pos}(h:o3 CS.ite (cE G n sc N e) (cSs G n sc N a) (cSs G n sc N b)=some c):PS X (.If e a b pos) (tS X.K (ex F c)):=
 VD (P:=fun c=>PS X _ (tS X.K (ex F c))) h fun cc ca cb hc ha hb=>Z6 (ps_if (ihE X sc N K.toCxt _ cc hc).pt (ihS X sc N K _ ca ha) (ihS X sc N K _ cb hb)) Zgo
theorem Zc0{P:Program}{w:World}{K:Fg}{tg:Expr}(it:Ad)(lo c:Int)(n:Nat):Turn P w K tg (Its lo c n) [it] it (fun i h=>IsRangeIter h it (lo+(i:Nat) * c) ((n:Int) - (i:Nat)) c) where
 mem:=by simp
 obj:=fun i h st b hb=>by
  have e:b=it:=by simpa using hb
  subst e;exact⟨_,st,fun v z=>by
   have z':Data.fields _=Data.cell v:=z;cases z'⟩
 keep:=fun i h h' st k=>k it (by simp) _ st
 item:=by
  intro X hP hw hK hc i pQ s σ H E I hf st hg;subst hP hw hK;obtain⟨f0,f1,f2,f3,f4,f5⟩:=hf it (by simp)
  have W:=Walks.range (prog:=X.prog) (w:=X.w) (I.ok.hd hc) it lo c n;refine W.item i s _ _ hg st fun v h' tk hv st' kk=>?_
  obtain⟨t,rfl⟩:=hv;have I1:L2.Inv X pQ σ H { s with heap:=h',toks:=tk }:=I.turned (fun b o hb e=>kk b o (by simpa using hb) e) f0 f1 f3 f4 f5
  exact⟨_,rfl,go_of (s:={ s with heap:=h',toks:=tk }) (n := "range_iterator") st' rfl rfl (by decide) ⟨.int (lo+i * c),H,I1,⟨t,rfl⟩,⟨rfl,rfl⟩,st',fun b hb=>(hf b hb).1⟩⟩
 done:=by
  intro X hP hw hK hc i pQ s σ H E I hf st hg;subst hP hw hK;obtain⟨f0,f1,f2,f3,f4,f5⟩:=hf it (by simp)
  exact wpAny_pyNext_range_end (I.ok.hd hc) st (by have:n<=i:=hg;omega) fun h' eb=>⟨rfl,I.turned (t':=s.toks) (fun b o hb e=>eb b o hb e) f0 f1 f3 f4 f5⟩
 self:=fun _ _ _ _ _ st h=>wpAny_pyIter_rangeiter st h
theorem Vy{a b c:Int}(h:Y4 a b c=true):((Yz a b c:Nat):Int)=Builtin.Range.rangeSize a b c/\Builtin.Range.small a b c=true/\c≠0/\c.natAbs < 1073741824:=by
 have h:=of_decide_eq_true h;obtain⟨⟨h1,h2⟩,⟨h3,h4⟩,h5⟩:=h;unfold Yz Builtin.Range.small Builtin.Range.rangeSize;rcases h5 with rfl|rfl|rfl|rfl|rfl
 all_goals
  simp only[Builtin.Range.rangeFitsLong,Ba,Bool.or_eq_true,decide_eq_true_eq,beq_iff_eq,gt_iff_lt,Int.neg_neg,Int.ediv_one];refine⟨?_,?_,by decide,by decide⟩
  ·split
   ·split<;>omega
   ·split<;>omega
  ·refine⟨⟨by omega,?_⟩,.inr ?_⟩
   ·constructor
    ·repeat' split
     all_goals omega
    ·repeat' split
     all_goals omega
   ·simp
    omega
theorem Qg{X:Cx}{tg:Expr}{pQ:Li (Ad×Obj)}{σ:L2.St}{H:Hp}{s:Sd}{R:It->Hp->Prop}{E:vL->Sd->Prop}{lo hi c:Int}{t u v:Tok}{tk:Nat}(I:L2.Inv X pQ σ H s)(ok:Y4 lo hi c=true)(q:R (Its lo c (Yz lo hi c)) H):wpAny (model X.prog X.w) X.A (pyIter (.ref s.heap.objs.size)) (PIE X pQ σ tg R) E { s with heap:=s.heap.push { cls:=.type "range",data:=.fields #[.int lo t,.int hi u,.int c v] },toks:=tk }:=by
 obtain⟨z1,z2,_,_⟩:=Vy ok;refine wpAny_pyIter_range (IsRange.new ..) z2 ?_;have I1:L2.Inv X pQ σ H { s with heap:=s.heap.push { cls:=.type "range",data:=.fields #[.int lo t,.int hi u,.int c v] },toks:=tk }:=I.kept fun b o e=>Heap.get?_push_of_some _ e
 refine⟨(s.heap.push { cls:=.type "range",data:=.fields #[.int lo t,.int hi u,.int c v] }).objs.size,[(s.heap.push { cls:=.type "range",data:=.fields #[.int lo t,.int hi u,.int c v] }).objs.size],_,_,H,rfl,
  I1.kept (t':=tk) fun b o e=>Heap.get?_push_of_some _ e,Zc0 _ lo c (Yz lo hi c),?_,fun b hb=>?_,q⟩
 ·have e1:lo+((0:Nat):Int) * c=lo:=by simp
  have e2:((Yz lo hi c:Nat):Int) - ((0:Nat):Int)=Builtin.Range.rangeSize lo hi c:=by rw[z1];simp
  show IsRangeIter _ _ (lo+((0:Nat):Int) * c) (((Yz lo hi c:Nat):Int) - ((0:Nat):Int)) c;rw[e1,e2];exact Heap.get?_push_size _ rfl
 ·have e:b=(s.heap.push { cls:=.type "range",data:=.fields #[.int lo t,.int hi u,.int c v] }).objs.size:=by simpa using hb
  subst e;exact I1.fpOk (Nat.le_refl _) (I1.hok.fresh (Nat.le_refl _))
theorem ZcS{X:Cx}{tg:Expr}{as:Li Expr}{ta:TA}{p pos:Pos}(hg:Gl X "range")(hm:X.mg "range"=none)(ha:PA X as ta)(hp:as.all Zt=true)(hl:(∃ a b,as=[a,b])\/∃ a b c,as=[a,b,c]):PI X tg (.Call (.Name "range" p) as [] pos) (ZhS ta):=by
 intro pQ s σ H R I h;have fin:∀ {us:Li vL}{s1:Sd}{vs:Li V}{H1:Hp},L2.Inv X pQ σ H1 s1->Vals vs us->(∃ (i j c:Int),(vs=[.int i,.int j]/\c=1\/vs=[.int i,.int j,.int c])/\Y4 i j c=true/\R (Its i c (Yz i j c)) H1)->
   wpAny (model X.prog X.w) X.A (call (.type "range") us) (fun v s2=>wpAny (model X.prog X.w) X.A (pyIter v) (PIE X pQ σ tg R) X.xe s2) X.xe s1:=fun {us s1 vs H1} I1 r1 q1=>by
  obtain⟨i,j,c,e,ok,q⟩:=q1;rcases e with⟨rfl,rfl⟩|rfl
  ·cases r1 with
   |cons r rr=>
    cases rr with
    |cons r' rr=>
     cases rr;obtain⟨t,rfl⟩:=r;obtain⟨t',rfl⟩:=r';exact call_range_2 (Qg I1 ok q)
  ·cases r1 with
   |cons r rr=>
    cases rr with
    |cons r' rr=>
     cases rr with
     |cons r2 rr=>
      cases rr;obtain⟨t,rfl⟩:=r;obtain⟨t',rfl⟩:=r';obtain⟨t2,rfl⟩:=r2;obtain⟨_,_,z3,z4⟩:=Vy ok;exact call_range_3 z3 (Qg I1 ok q) (.inl (PyProof.noPylong_small z4))
 rcases hl with⟨a,b,rfl⟩|⟨a,b,c,rfl⟩
 ·rw[List.all_cons,List.all_cons,Ba,Ba]at hp
  have hs2:starEach [b] X.env=[(false,eval b X.env)]:=Zn hp.2.1;have hs:starEach [a,b] X.env=[(false,eval a X.env),(false,eval b X.env)]:=by rw[Zn hp.1,hs2]
  exact Call_ (ld_blt I hg hm boot_range (PyProof.Rows.callWith_type1 (thn (ha pos pQ s σ H _ I h) fun us s1 ⟨vs,H1,I1,r1,q1⟩=>fin I1 r1 q1) (by rw[hs,hs2]) (by rw[hs2];rfl)))
 ·rw[List.all_cons,List.all_cons,List.all_cons,Ba,Ba,Ba]at hp
  have hs3:starEach [c] X.env=[(false,eval c X.env)]:=Zn hp.2.2.1;have hs2:starEach [b,c] X.env=[(false,eval b X.env),(false,eval c X.env)]:=by rw[Zn hp.2.1,hs3]
  have hs:starEach [a,b,c] X.env=[(false,eval a X.env),(false,eval b X.env),(false,eval c X.env)]:=by rw[Zn hp.1,hs2]
  exact Call_ (ld_blt I hg hm boot_range (PyProof.Rows.callWith_type1 (thn (ha pos pQ s σ H _ I h) fun us s1 ⟨vs,H1,I1,r1,q1⟩=>fin I1 r1 q1) (by rw[hs,hs2]) (by rw[hs2];rfl)))
theorem VG{X:Cx}{sc:Scope}{N:Li Str}{it:Expr}{as:Li Expr}(K:Cxt X G F sc N)(h:Wo G sc it=some as):∃ p pos,it=.Call (.Name "range" p) as [] pos/\Gl X "range"/\X.mg "range"=none/\((∃ a b,as=[a,b])\/∃ a b c,as=[a,b,c]):=by
 obtain⟨bs,h1,h2⟩:=Option.bind_eq_some_iff.mp h;obtain⟨p,pos,rfl,hg,hm⟩:=QC K h1;refine WH h2 fun hl h3=>?_
 cases h3;refine⟨p,pos,rfl,hg,hm,?_⟩;cases as with
 |nil=>rcases hl with hl|hl<;>cases hl
 |cons a as=>cases as with
  |nil=>rcases hl with hl|hl<;>cases hl
  |cons b as=>cases as with
   |nil=>exact .inl ⟨_,_,rfl⟩
   |cons c as=>cases as with
    |nil=>exact .inr ⟨_,_,_,rfl⟩
    |cons _ _=>rcases hl with hl|hl<;>cases hl
theorem Zhl{n:Nat}(ihA:Xh G F n)(ihS:Yw G F n){X:Cx}{sc:Scope}{N:Li Str}(K:CxtS X G F sc N){c:CS}{x:Str}{it:Expr}{as:Li Expr}{b:Li Stmt}{p pos:Pos}(hr:Wo G sc it=some as)(h:o3 CS.for3 (N.idxOf? x) (cEs G n sc N as) (cSs G n sc N b)=some c):PS X (.For (.Name x p) it b [] pos) (tS X.K (ex F c)):=by
 refine VD (P:=fun c=>PS X _ (tS X.K (ex F c))) h fun i ci cb hi hc hb=>?_
 obtain⟨p1,p2,rfl,hg,hm,hl⟩:=VG K.toCxt hr;obtain⟨A,_,pl,_⟩:=ihA X sc N K.toCxt as ci hc;exact Z6 (ps_for (WI K) K.calm (ZcS hg hm A pl hl) (Y1 K hi) (ihS X sc N K _ cb hb) (Ya rfl)) ZdS
theorem Zhj{n:Nat}(ihE:ZG G F n)(ihS:Yw G F n){X:Cx}{sc:Scope}{N:Li Str}(K:CxtS X G F sc N){c:CS}{x:Str}{it:Expr}{b:Li Stmt}{p pos:Pos}(h:(match Z7 G sc it with
   |some a=>o3 (fun i c b=>CS.for1 i true c b) (N.idxOf? x) (cE G n sc N a) (cSs G n sc N b)
   |none=>o3 (fun i c b=>CS.for1 i false c b) (N.idxOf? x) (cE G n sc N it) (cSs G n sc N b))=some c):PS X (.For (.Name x p) it b [] pos) (tS X.K (ex F c)):=by
 cases ha:Z7 G sc it with
 |some a=>
  rw[ha]at h;refine VD (P:=fun c=>PS X _ (tS X.K (ex F c))) h fun i ci cb hi q hb=>?_
  obtain⟨hp,pi⟩:=Vx K.toCxt ha (Zs q) (ihE X sc N K.toCxt a _ q).pe;exact Z6 (ps_for (WI K) K.calm pi (Y1 K hi) (ihS X sc N K _ cb hb) (Ya hp)) ZdY
 |none=>
  rw[ha]at h;refine VD (P:=fun c=>PS X _ (tS X.K (ex F c))) h fun i ci cb hi q hb=>?_
  have A:=(ihE X sc N K.toCxt _ _ q).pe;have hf:=Ya (env:=X.env) (Zs q);exact Z6 (Zk0 (ps_for (WI K) K.calm (pi_tup A) (Y1 K hi) (ihS X sc N K _ cb hb) hf) (ps_for (WI K) K.calm (pi_list A) (Y1 K hi) (ihS X sc N K _ cb hb) hf)) ZdW
theorem Vt{X:Cx}{pQ:Li (Ad×Obj)}{σ:L2.St}{H:Hp}{s:Sd}{h':Heap}{t':Nat}{wr:Li Ad}(I:L2.Inv X pQ σ H s)(hf:∀ b∈wr,FpOk X pQ H b)(k:∀ b o,b∉wr->s.heap.get? b=some o->h'.get? b=some o):L2.Inv X pQ σ H { s with heap:=h',toks:=t' }:=by
 have nw:∀ b u,H b=some u->b∉wr:=fun b u e hb=>by have:=(hf b hb).1;rw[e]at this;cases this
 refine I.step (g':=s.gens) (d':=s.drawn) (ch:=wr) (fun b hb=>⟨(hf b hb).2.2.2.1,(hf b hb).2.1,(hf b hb).2.2.2.2.1,(hf b hb).2.2.2.2.2⟩) (fun b o _ _ hc e _=>k b o hc e) (fun b o _ _ hc e _=>⟨o.slots,k b o hc e⟩)
  (fun b o _ e n=>n) (fun b o hc e=>⟨o,k b o hc e⟩) (fun b ys e=>e) (fun b o u e=>e) (fun b ps e=>⟨#[],by rw[e];simp⟩) (fun m hm=>?_) (fun b u e=>?_) I.bare
 ·obtain⟨o,es,ep,ho,r⟩:=hm
  exact⟨o,es,ep,k _ o (fun z=>(hf _ z).2.1 rfl) ho,r⟩
 ·refine(I.hok b u e).stay (fun c v hc q=>k c v ?_ q) (fun c q=>q) fun c ys q=>q
  rcases hc with z|z
  ·rw[z];exact nw b u e
  ·exact nw c _ z
theorem Wu{X:Cx}{pQ:Li (Ad×Obj)}{σ:L2.St}{H:Hp}{s:Sd}{h':Heap}{t':Nat}{wr:Li Ad}{T:Ad}{xs:Li V}(I:L2.Inv X pQ σ H s)(hf:∀ b∈wr,FpOk X pQ H b)(k:∀ b o,b∉wr->s.heap.get? b=some o->h'.get? b=some o)(hT:s.heap.objs.size<=T)(new:ObjOk X.prog X.w (upd H T (.tup xs)) h' T (.tup xs)):L2.Inv X pQ σ (upd H T (.tup xs)) { s with heap:=h',toks:=t' }:=by
 have hn:H T=none:=I.hok.fresh hT;have nT:∀ b u,s.heap.get? b=some u->b≠T:=fun b u e=>Nat.ne_of_lt (Nat.lt_of_lt_of_le (Heap.lt_size e) hT)
 have nw:∀ b u,H b=some u->b∉wr:=fun b u e hb=>by have:=(hf b hb).1;rw[e]at this;cases this
 refine I.step (g':=s.gens) (d':=s.drawn) (ch:=wr) (fun b hb=>⟨(hf b hb).2.2.2.1,(hf b hb).2.1,(hf b hb).2.2.2.2.1,(hf b hb).2.2.2.2.2⟩) (fun b o _ _ hc e _=>k b o hc e) (fun b o _ _ hc e _=>⟨o.slots,k b o hc e⟩)
  (fun b o _ e n=>by rw[upd_ne (nT b o e)];exact n) (fun b o hc e=>⟨o,k b o hc e⟩) (fun b ys e=>by rw[upd_ne (ne_of_none e hn)];exact e) (fun b o u e=>by rw[upd_ne (ne_of_none e hn)];exact e) (fun b ps e=>⟨#[],by rw[upd_ne (ne_of_none e hn),e];simp⟩) (fun m hm=>?_) (fun b u e=>?_) I.bare
 ·obtain⟨o,es,ep,ho,r⟩:=hm
  exact⟨o,es,ep,k _ o (fun z=>(hf _ z).2.1 rfl) ho,r⟩
 ·by_cases hb:b=T
  ·subst hb;rw[upd_same]at e;cases e;exact new
  ·rw[upd_ne hb]at e
   refine(I.hok b u e).stay (fun c v hc q=>k c v ?_ q) (fun c q=>by rw[upd_ne (ne_of_none q hn)];exact q) fun c ys q=>by rw[upd_ne (ne_of_none q hn)];exact q
   rcases hc with z|z
   ·rw[z];exact nw b u e
   ·exact nw c _ z
theorem Ja{X:Cx}{pQ:Li (Ad×Obj)}{σ:L2.St}{H:Hp}{s:Sd}{a:Ad}{xs ys:Li V}(I:L2.Inv X pQ σ H s)(h1:SqL X.K H a xs)(h2:SqL X.K H a ys):ys=xs:=by
 obtain⟨i1,r1,⟨o1,n1,g1,_,_,d1⟩,_⟩:=I.list h1;obtain⟨i2,r2,⟨o2,n2,g2,_,_,d2⟩,_⟩:=I.list h2;rw[g1]at g2;cases g2;rw[d1]at d2;have e:i1.toArray=i2.toArray:=by injection d2
 have e:i1=i2:=by simpa using e
 subst e;exact Vals.inj r2 r1
theorem Vk{a b:String}{p:Prop}(h:Value.type a=Value.type b)(n:¬a=b):p:=by
 injection h with h
 exact absurd h n
structure ZD(z TI TO i1 i2:Addr):Prop where
 a:TI≠z
 b:TO≠z
 c:i1≠z
 d:i2≠z
 e:TI≠TO
 f:TI≠i1
 g:TI≠i2
 h:TO≠i1
 i:TO≠i2
 j:i1≠i2
structure ZSt(z TI TO i1 i2 a b:Addr)(i:Nat)(h:Heap):Prop where
 hz:IsZip h z TI TO .none
 hI:IsPair h TI (.ref i1) (.ref i2)
 hO:∃ u v,IsPair h TO u v
 h1:h.IsListIter i1 a i
 h2:h.IsListIter i2 b i
theorem Xg{z TI TO i1 i2 a b l c:Ad}{i:Nat}{h:Heap}{its:Array vL}(st:ZSt z TI TO i1 i2 a b i h)(hl:h.IsList l its)(hc:c∈[z,TO,i1,i2]):l≠c:=by
 rintro rfl
 obtain⟨o,g,cl,_⟩:=hl;simp only[List.mem_cons,List.not_mem_nil,or_false]at hc;rcases hc with rfl|rfl|rfl|rfl
 ·have hz:h.get? l=some _:=st.hz
  rw[g]at hz;cases hz;exact Vk cl (by decide)
 ·obtain⟨u,v,hO⟩:=st.hO
  have hO:h.get? l=some _:=hO;rw[g]at hO;cases hO;exact Vk cl (by decide)
 ·obtain⟨o1,g1,c1,_⟩:=st.h1
  rw[g]at g1;cases g1;rw[cl]at c1;exact Vk c1 (by decide)
 ·obtain⟨o1,g1,c1,_⟩:=st.h2
  rw[g]at g1;cases g1;rw[cl]at c1;exact Vk c1 (by decide)
theorem Qr{z TI TO i1 i2 a b:Ad}{i:Nat}{h:Heap}{its its':Array vL}(d:ZD z TI TO i1 i2)(st:ZSt z TI TO i1 i2 a b i h)(p1:h.IsList a its)(p2:h.IsList b its'):ZipApart z TI TO i1 i2 a b:=
 have m:z∈[z,TO,i1,i2]/\TO∈[z,TO,i1,i2]/\i1∈[z,TO,i1,i2]/\i2∈[z,TO,i1,i2]:=⟨.head _,.tail _ (.head _),.tail _ (.tail _ (.head _)),.tail _ (.tail _ (.tail _ (.head _)))⟩
 ⟨d.a,d.b,d.c,d.d,d.e,d.f,d.g,d.h,d.i,d.j,Xg st p1 m.1,Xg st p1 m.2.1,Xg st p1 m.2.2.1,Xg st p1 m.2.2.2,Xg st p2 m.1,Xg st p2 m.2.1,Xg st p2 m.2.2.1,Xg st p2 m.2.2.2⟩
theorem Zb6{z TI TO i1 i2 c:Ad}(h:c∈[z,TO,i1,i2]):c∈[z,TI,TO,i1,i2]:=by
 rcases List.mem_cons.mp h with rfl|h
 ·exact .head _
 ·exact .tail _ (.tail _ h)
theorem Zb7{z TI TO i1 i2 a b c:Ad}{i:Nat}{h:Heap}(st:ZSt z TI TO i1 i2 a b i h)(hc:c∈[z,TI,TO,i1,i2]):∃ o,h.get? c=some o/\∀ v,o.data≠.cell v:=by
 obtain⟨hz,hI,⟨u,v,hO⟩,⟨o1,g1,_,f1⟩,⟨o2,g2,_,f2⟩⟩:=st;simp only[List.mem_cons,List.not_mem_nil,or_false]at hc;rcases hc with rfl|rfl|rfl|rfl|rfl
 ·exact⟨_,hz,fun v q=>by cases (show Data.fields _=Data.cell v from q)⟩
 ·exact⟨_,hI,fun v q=>by cases (show Data.seq _ _=Data.cell v from q)⟩
 ·exact⟨_,hO,fun v q=>by cases (show Data.seq _ _=Data.cell v from q)⟩
 ·exact⟨_,g1,fun v q=>by rw[f1]at q;cases q⟩
 ·exact⟨_,g2,fun v q=>by rw[f2]at q;cases q⟩
theorem ZeY{xs:Li V}{its:Li vL}{i:Nat}{x:V}{u:vL}(r:Vals xs its)(ex:xs[i]?=some x)(eu:its.toArray[i]?=some u):RelV x u:=by
 obtain⟨u',e1,e2⟩:=r.get ex;rw[List.getElem?_toArray,e1]at eu;cases eu;exact e2
theorem Zfy{X:Cx}{elts:Li Expr}{kk:Nat}{pos:Pos}{z TI TO i1 i2 a b:Ad}(d:ZD z TI TO i1 i2)(hc:X.calm=true){i:Nat}{pQ:Li (Ad×Obj)}{s:Sd}{σ:L2.St}{H:Hp}{E:vL->Sd->Prop}(I:L2.Inv X pQ σ H s)(hf:∀ c∈[z,TI,TO,i1,i2],FpOk X pQ H c)(st:ZSt z TI TO i1 i2 a b i s.heap)(hg:(Itz X.K a b).go i H) :
  wpAny (model X.prog X.w) X.A (pyNext (.ref z)) (fun r s1=>∃ u,r=some u/\wpAny (model X.prog X.w) X.A (letOwnedTupleGo (.Tuple elts kk pos) (.ref z) u) (fun _ s2=>∃ x H',L2.Inv X pQ σ H' s2/\RelV x u/\(Itz X.K a b).yld i H x H'/\ZSt z TI TO i1 i2 a b (i+1) s2.heap/\∀ c∈[z,TI,TO,i1,i2],H' c=none) E s1) E s:=by
 obtain⟨xs,ys,x,y,sq1,sq2,ex,ey⟩:=hg;obtain⟨its1,r1,p1,_⟩:=I.list sq1;obtain⟨its2,r2,p2,_⟩:=I.list sq2;have W:=WalksT.zip2 (prog:=X.prog) (w:=X.w) (A:=X.A) (I.ok.hd hc) z TI TO i1 i2 a b (Qr d st p1.isList p2.isList) its1.toArray its2.toArray;have l1:=r1.length;have l2:=r2.length;have ix:i < xs.length:=(List.getElem?_eq_some_iff.mp ex).1;have iy:i < ys.length:=(List.getElem?_eq_some_iff.mp ey).1
 refine W.item i s _ _ (by rw[List.size_toArray,List.size_toArray];omega) ⟨st.hz,st.hI,st.hO,st.h1,st.h2,p1.isList,p2.isList⟩ fun T vals h' tk hv hT tup mid k1=>?_
 obtain⟨u,v,eu,ev,rfl⟩:=hv;refine⟨.ref T,rfl,W.go elts kk pos i T _ _ _ mid fun h2' st2 k2=>?_⟩
 have I2:L2.Inv X pQ σ (upd H T (.tup [x,y])) { s with heap:=h2',toks:=tk }:=Wu (wr:=[z,TO,i1,i2]) I (fun c hcm=>hf c (Zb6 hcm)) (fun c o hcn e=>k2 c o hcn (k1 c o hcn e)) hT ⟨show 2<=sizeLine by decide,[u,v],.cons (ZeY r1 ex eu) (.cons (ZeY r2 ey ev) .nil),tup.at fun o e=>k2 T o (W.apart i T h' mid) e⟩
 refine⟨.ref T,upd H T (.tup [x,y]),I2,rfl,⟨T,x,y,rfl,I.hok.fresh hT,rfl,fun xs' q=>by rw[Ja I sq1 q];exact ex,fun ys' q=>by rw[Ja I sq2 q];exact ey⟩,⟨st2.1,st2.2.1,st2.2.2.1,st2.2.2.2.1,st2.2.2.2.2.1⟩,fun c hcm=>?_⟩
 obtain⟨o,e,_⟩:=Zb7 st hcm;rw[upd_ne fun q=>absurd (Heap.lt_size e) (Nat.not_lt.mpr (by rw[q];exact hT))]
 exact(hf c hcm).1
theorem Zfx{X:Cx}{z TI TO i1 i2 a b:Ad}(d:ZD z TI TO i1 i2)(hc:X.calm=true){i:Nat}{pQ:Li (Ad×Obj)}{s:Sd}{σ:L2.St}{H:Hp}{E:vL->Sd->Prop}(I:L2.Inv X pQ σ H s)(hf:∀ c∈[z,TI,TO,i1,i2],FpOk X pQ H c)(st:ZSt z TI TO i1 i2 a b i s.heap)(hg:(Itz X.K a b).stop i H) :
  wpAny (model X.prog X.w) X.A (pyNext (.ref z)) (fun r s1=>r=none/\L2.Inv X pQ σ H s1) E s:=by
 obtain⟨xs,ys,sq1,sq2,hle⟩:=hg;obtain⟨its1,r1,p1,_⟩:=I.list sq1;obtain⟨its2,r2,p2,_⟩:=I.list sq2;obtain⟨u,v,hO⟩:=st.hO;have l1:=r1.length;have l2:=r2.length;have hend:its1.toArray[i]?=none\/its2.toArray[i]?=none:=by
  rw[List.getElem?_toArray,List.getElem?_toArray,List.getElem?_eq_none_iff,List.getElem?_eq_none_iff];omega
 refine wpAny_pyNext_zip_end (I.ok.hd hc) (Qr d st p1.isList p2.isList) st.hz st.hI hO st.h1 st.h2 p1.isList p2.isList hend fun h' k=>⟨rfl,Vt (wr:=[z,TO,i1,i2]) I (fun c hcm=>hf c (Zb6 hcm)) fun c o hcn e=>?_⟩
 exact k c o (fun q=>hcn (by rw[q];exact .head _)) (fun q=>hcn (by rw[q];exact .tail _ (.head _))) (fun q=>hcn (by rw[q];exact .tail _ (.tail _ (.head _)))) (fun q=>hcn (by rw[q];exact .tail _ (.tail _ (.tail _ (.head _))))) e
theorem Zfr{P:Program}{w:World}{K:Fg}{elts:Li Expr}{kk:Nat}{pos:Pos}(z TI TO i1 i2 a b:Ad)(d:ZD z TI TO i1 i2):Turn P w K (.Tuple elts kk pos) (Itz K a b) [z,TI,TO,i1,i2] z (ZSt z TI TO i1 i2 a b) where
 mem:=.head _
 obj:=fun i h st c hc=>Zb7 st hc
 keep:=fun i h h' st k=>by
  obtain⟨hz,hI,⟨u,v,hO⟩,h1,h2⟩:=st;exact⟨k z (.head _) _ hz,k TI (.tail _ (.head _)) _ hI,⟨u,v,k TO (.tail _ (.tail _ (.head _))) _ hO⟩,h1.at fun o e=>k i1 (.tail _ (.tail _ (.tail _ (.head _)))) o e,h2.at fun o e=>k i2 (.tail _ (.tail _ (.tail _ (.tail _ (.head _))))) o e⟩
 item:=fun X hP hw hK hc i pQ s σ H E I hf st hg=>by
  subst hP hw hK;exact Zfy d hc I hf st hg
 done:=fun X hP hw hK hc i pQ s σ H E I hf st hg=>by
  subst hP hw hK;exact Zfx d hc I hf st hg
 self:=fun _ _ _ _ _ st h=>wpAny_pyIter_zip st.hz h
theorem Zio:bootBuiltins "zip"=some (.type "zip"):=by decide +kernel
theorem Zi7{X:Cx}{elts:Li Expr}{kk:Nat}{tp:Pos}{x y:Expr}{ta:TA}{p pos:Pos}(hg:Gl X "zip")(hm:X.mg "zip"=none)(ha:PA X [x,y] ta)(hp:[x,y].all Zt=true):PI X (.Tuple elts kk tp) (.Call (.Name "zip" p) [x,y] [] pos) (ZkG X.K ta):=by
 intro pQ s σ H R I h;rw[List.all_cons,List.all_cons,Ba,Ba]at hp;have hs2:starEach [y] X.env=[(false,eval y X.env)]:=Zn hp.2.1;have hs:starEach [x,y] X.env=[(false,eval x X.env),(false,eval y X.env)]:=by rw[Zn hp.1,hs2]
 refine Call_ (ld_blt I hg hm Zio (PyProof.Rows.callWith_type1 (thn (ha pos pQ s σ H _ I h) fun us s1 ⟨vs,H1,I1,r1,q1⟩=>?_) (by rw[hs,hs2]) (by rw[hs2];rfl)))
 obtain⟨a,b,rfl,⟨xs,sq1⟩,⟨ys,sq2⟩,q⟩:=q1;cases r1 with
 |cons r rr=>
  cases rr with
  |cons r' rr=>
   cases rr;cases r;cases r';obtain⟨its1,_,p1,_⟩:=I1.list sq1;obtain⟨its2,_,p2,_⟩:=I1.list sq2;have ne:∀ {i j:Nat},i≠j->(s1.heap.objs.size+i:Nat)≠s1.heap.objs.size+j:=fun h z=>h (Nat.add_left_cancel z)
   refine call_zip_2 p1.isList p2.isList fun h' hz hI hO h1 h2 hsz k=>wpAny_pyIter_zip hz ?_
   refine⟨s1.heap.objs.size+4,[s1.heap.objs.size+4,s1.heap.objs.size+2,s1.heap.objs.size+3,s1.heap.objs.size,s1.heap.objs.size+1],_,_,H1,rfl,I1.kept (t':=s1.toks) k,Zfr _ _ _ _ _ a b ⟨ne (i:=2) (j:=4) (by decide),ne (i:=3) (j:=4) (by decide),ne (i:=0) (j:=4) (by decide),ne (i:=1) (j:=4) (by decide),ne (i:=2) (j:=3) (by decide),ne (i:=2) (j:=0) (by decide),ne (i:=2) (j:=1) (by decide),ne (i:=3) (j:=0) (by decide),ne (i:=3) (j:=1) (by decide),ne (i:=0) (j:=1) (by decide)⟩,⟨hz,hI,⟨_,_,hO⟩,h1,h2⟩,fun c hcm=>?_,q⟩
   have hc:s1.heap.objs.size<=c:=by
    simp only[List.mem_cons,List.not_mem_nil,or_false]at hcm;rcases hcm with rfl|rfl|rfl|rfl|rfl
    ·exact Nat.le_add_right _ _
    ·exact Nat.le_add_right _ _
    ·exact Nat.le_add_right _ _
    ·exact Nat.le_refl _
    ·exact Nat.le_add_right _ _
   exact I1.fpOk hc (I1.hok.fresh hc)
section
variable {prog:Program}{w:World}{A:Around}{E:vL->Sd->Prop}{s:Sd}
open Sem (wp)
open AutoSeq1 (wpAny_loadPart')
theorem JV{it l:Ad}{i:Nat}{items:Array vL}{Q:vL->Sd->Prop}(hh:A.handled=none)(hit:s.heap.IsTupleIter it l i)(hl:s.heap.IsTuple l items)(hQ:∀ x h',items[i]?=some x->h'.IsTupleIter it l (i+1)->Heap.SameBut it s.heap h'->Q x { s with heap:=h' })(hE:items[i]?=none->∀ h' e,Heap.ExtBut it s.heap h'->(∃ o,h'.get? e=some o/\o.cls=.type "StopIteration")->E (.ref e) { s with heap:=h' }) :
  wpAny (model prog w) A (Builtin.SmallTypes.nextOf (.ref it)) Q E s:=by
 obtain⟨o,ho,hc,hd⟩:=id hit;obtain⟨ol,hol,_,nl,hdl⟩:=hl;unfold Builtin.SmallTypes.nextOf;refine wpAny_bind (wpAny_callSpecial?_slot (name:=Str.ofString "__next__") hit.typeIs PySem.F.slot_tuple_iterator_next
  (wpAny_call_entry PySem.F.slot_tuple_iterator_next hit.typeIs PySem.F.entry_tuple_iterator_next ?_ (PySem.F.args_tuple_iterator_next_1 _)))
 show wpAny _ _ (field (.ref it) 0 >>= _) _ _ s;refine wpAny_bind (wpAny_field ho hd (x:=.ref l) rfl ?_);show wpAny _ _ (if (Value.ref l==Value.none)=true then _ else _) _ _ s
 rw[if_neg (show ¬((Value.ref l==Value.none)=true) from Bf)];show wpAny _ _ (field (.ref it) 1 >>= _) _ _ s;refine wpAny_bind (wpAny_field ho hd (x:=.int i 0) rfl ?_);show wpAny _ _ (seqItems? (.ref l) >>= _) _ _ s;refine wpAny_bind (wpAny_seqItems hol hdl ?_);cases hx:items[i]? with
 |some x=>
  simp only[Int.toNat_natCast,hx];refine wpAny_bind (wpAny_setField ho hd (by simp) (wpAny_pure ⟨x,rfl,wpAny_pure (hQ _ _ hx ?_ (Heap.SameBut.update ..))⟩))
  exact⟨_,Heap.get?_update_self _ ho (Obj.isFreed_of_fields (Obj.data_mapFields hd _)),(Obj.cls_mapFields ..).trans hc,by
   rw[Obj.data_mapFields hd];simp[rawInt]⟩
 |none=>
  simp only[Int.toNat_natCast,hx];refine wpAny_bind (wpAny_rule (wpAny_bind (wpAny_setField ho hd (by simp) ?_)))
  show wpAny _ _ (newExc (.type "StopIteration") [] >>= _) _ _ _;refine wpAny_bind ?_;simp only[newExc,newTuple];refine wpAny_bind (wpAny_newObj_type ?_ (by size_fits))
  refine wpAny_bind (m:=firstArgMember _ _) (wpAny_of_eq (a:=Value.none) (by first|rfl | (simp only[firstArgMember];rfl)) ?_)
  refine wpAny_newObj_type ?_ (by size_fits)
  simp only[raiseNew];refine wpAny_bind (wpAny_handled ?_)
  first|rw[show A.in1.handled=none from hh]|rw[hh]
  refine wpAny_bind (wpAny_pure (wpAny_throw ?_));exact hE hx _ _ (((Heap.SameBut.update ..).extBut.push _).push _) ⟨_,Heap.get?_push_size _ rfl,rfl⟩
theorem Zcz(hh:A.handled=none)(it l:Ad)(hne:l≠it)(items:Array vL) :
  Draws prog w A it [it,l] items.size (fun i v=>items[i]?=some v) (fun i h=>h.IsTupleIter it l i/\h.IsTuple l items) where
 live:=fun _ _ st=>let ⟨o,ho,_⟩:=st.1;⟨o,ho⟩
 frame:=fun _ _ _ st hk=>⟨st.1.at fun o e=>hk it (by simp) o e,st.2.at fun o e=>hk l (by simp) o e⟩
 item:=fun i s Q E hi st hQ=>JV hh st.1 st.2 (fun x h' e hit' hs'=>hQ x h' s.toks e ⟨hit',st.2.extBut hs'.extBut hne⟩ hs') fun e=>absurd e (by simp[hi])
 done:=fun s Q E st hE=>JV hh st.1 st.2 (fun x h' e=>absurd e (by simp)) fun _=>hE
theorem Uj(l:Ad)(items:Array vL)(n:Nat)(dct:Ot Ad)(sl:Array (Ot vL)) :
  Meets (Builtin.«enumerate.__new__» ⟨[.type "enumerate",.ref l],[]⟩) (fun _ R s=>s.heap.get? l=some { cls:=.type "tuple",dict:=dct,data:=.seq items n,slots:=sl } /\
   R (.ok (.ret (.ref (s.heap.push { cls:=.type "tuple_iterator",data:=.fields #[.ref l,.int 0 0] }).objs.size)))
    { s with heap:=(s.heap.push { cls:=.type "tuple_iterator",data:=.fields #[.ref l,.int 0 0] }).push { cls:=.type "enumerate",data:=.fields #[.none,.bool false,.ref s.heap.objs.size,rawInt 0,.none,.none] } }):=
 .of_wp fun prog w A R s h=>by
  obtain⟨hp,g,d,tk,os⟩:=s;obtain⟨hl,h⟩:=h;have hsub:=sub_enumerate;have hL:Heap.IsTuple (Shared.heap ⟨hp,g,d,tk,os⟩) l items:=⟨_,hl,rfl,n,rfl⟩
  wp_walk using wpAny_loadPart' hl
  refine wpAny_stack_any fun st=>wpAny_pure ?_
  split
  ·rename_i c _ _ _ _ _
   cases (c==Value.type "enumerate")
   ·wp_walk using wpAny_loadPart' hl,wpAny_pyIter_tuple hL
    exact⟨_,rfl,h⟩
   ·wp_walk using wpAny_loadPart' hl,wpAny_pyIter_tuple hL
    exact⟨_,rfl,h⟩
  ·wp_walk using wpAny_loadPart' hl,wpAny_pyIter_tuple hL
   exact⟨_,rfl,h⟩
theorem UH{l:Ad}{items:Array vL}{Q:vL->Sd->Prop}(hL:s.heap.IsTuple l items)(h:∀ h',IsEnum h' (s.heap.objs.size+1) s.heap.objs.size 0 .none->h'.IsTupleIter s.heap.objs.size l 0->h'.objs.size=s.heap.objs.size+2->
   (∀ b o,s.heap.get? b=some o->h'.get? b=some o)->Q (.ref (s.heap.objs.size+1)) { s with heap:=h' }) :
  wpAny (model prog w) A (call (.type "enumerate") [.ref l]) Q E s:=by
 obtain⟨⟨c,dct,dt,sl⟩,hl,hc,n,hd⟩:=hL;replace hc:c=.type "tuple":=hc;replace hd:dt=.seq items n:=hd;subst hc hd;refine callType_new PySem.F.called_enumerate (by decide) (PySem.F.typeCall_enumerate_1 _) (PySem.F.newCall_enumerate_1 _) (fun obj=>PySem.F.args_object_init_2 obj _) PySem.F.entry_enumerate_new
  (Uj l items n dct sl) ⟨hl,?_⟩
 have hz:(s.heap.push { cls:=.type "tuple_iterator",data:=.fields #[.ref l,.int 0 0] }).objs.size=s.heap.objs.size+1:=Heap.size_push ..;show _/\_;rw[hz];have he:IsEnum ((s.heap.push { cls:=.type "tuple_iterator",data:=.fields #[.ref l,.int 0 0] }).push
   { cls:=.type "enumerate",data:=.fields #[.none,.bool false,.ref s.heap.objs.size,rawInt 0,.none,.none] }) (s.heap.objs.size+1) s.heap.objs.size 0 .none:=by
  have:=Heap.get?_push_size (s.heap.push { cls:=.type "tuple_iterator",data:=.fields #[.ref l,.int 0 0] })
   (o:={ cls:=.type "enumerate",data:=.fields #[.none,.bool false,.ref s.heap.objs.size,rawInt 0,.none,.none] }) rfl
  rw[hz]at this;exact this
 refine⟨⟨_,he,rfl⟩,h _ he ⟨_,Heap.get?_push_of_some _ (Heap.get?_push_size _ rfl),rfl,rfl⟩ (by rw[Heap.size_push,hz]) fun b o x=>Heap.get?_push_of_some _ (Heap.get?_push_of_some _ x)⟩
end
noncomputable def Ite(sq:Hp->Li V->Prop):It:=
 ⟨fun i H=>∃ xs x,sq H xs/\xs[i]?=some x,fun i H v H'=>∃ T x,v=.ref T/\H T=none/\H'=upd H T (.tup [.int (i:Int),x])/\∀ xs,sq H xs->xs[i]?=some x,fun i H=>∃ xs,sq H xs/\xs.length=i⟩
noncomputable def Zbw(K:Fg)(ta:TA):TI:=fun σ H R=>ta σ H fun vs H1=>∃ a,vs=[.ref a]/\(((∃ xs,SqL K H1 a xs)/\R (Ite fun H=>SqL K H a) H1)\/((∃ xs,SqT K H1 a xs)/\R (Ite fun H=>SqT K H a) H1))
theorem Qm{P:Program}{w:World}{K:Fg}{elts:Li Expr}{kk:Nat}{pos:Pos}{sq:Hp->Li V->Prop}{it1:Nat->Heap->Prop}(e it a:Ad)(d:e≠it)(hi:∀ i h,it1 i h->∃ o,h.get? it=some o/\∀ v,o.data≠.cell v)(hk:∀ i h h',it1 i h->(∀ o,h.get? it=some o->h'.get? it=some o)->it1 i h')(hD:∀ (X:Cx),X.prog=P->X.w=w->X.K=K->X.calm=true->∀ (pQ:Li (Ad×Obj)) (s:Sd) (σ:L2.St) (H:Hp) (i:Nat) (xs:Li V),L2.Inv X pQ σ H s->(∃ old,IsEnum s.heap e it i old)->it1 i s.heap->sq H xs->
   (∀ ys,sq H ys->ys=xs)/\∃ (its:Li vL) (ob:Heap->Prop),Vals xs its/\a≠e/\ob s.heap/\Draws P w X.A.in1 it [it,a] its.toArray.size (fun i v=>its.toArray[i]?=some v) (fun i h=>it1 i h/\ob h)) :
  Turn P w K (.Tuple elts kk pos) (Ite sq) [e,it] e (fun i h=>(∃ old,IsEnum h e it i old)/\it1 i h) where
 mem:=by simp
 obj:=fun i h st c hc=>by
  obtain⟨⟨old,he⟩,h1⟩:=st;simp only[List.mem_cons,List.not_mem_nil,or_false]at hc;rcases hc with rfl|rfl
  ·exact⟨_,he,fun v q=>by cases (show Data.fields _=Data.cell v from q)⟩
  ·exact hi i h h1
 keep:=fun i h h' st k=>by
  obtain⟨⟨old,he⟩,h1⟩:=st;exact⟨⟨old,k e (by simp) _ he⟩,hk i h h' h1 fun o g=>k it (by simp) o g⟩
 item:=by
  intro X hP hw hK hc i pQ s σ H E I hf st hg;obtain⟨xs,x,hs,ex⟩:=hg;obtain⟨hone,its,ob,r,ne,o0,D⟩:=hD X hP hw hK hc pQ s σ H i xs I st.1 st.2 hs;subst hP hw hK;have W:=WalksT.enumerateD D e d (by simp only[List.mem_cons,List.not_mem_nil,or_false];exact fun q=>q.elim d fun q=>ne q.symm) (by simp)
  have l1:=r.length;have ix:i < xs.length:=(List.getElem?_eq_some_iff.mp ex).1;refine W.item i s _ _ (by simp;omega) ⟨st.1,st.2,o0⟩ fun T vals h' tk hv hT tup mid k1=>?_
  obtain⟨t,u,eu,rfl⟩:=hv;refine⟨.ref T,rfl,W.go elts kk pos i T _ _ _ mid fun h2' st2 k2=>?_⟩
  have nT:=W.apart i T h' mid;have ru:RelV x u:=by
   obtain⟨u',e1,e2⟩:=r.get ex;have:its[i]?=some u:=by simpa using eu
   rw[this]at e1;cases e1;exact e2
  have tup2:h2'.IsTuple T #[.int i t,u]:=tup.at fun o g=>k2 T o nT g
  have I2:L2.Inv X pQ σ (upd H T (.tup [.int (i:Int),x])) { s with heap:=h2',toks:=tk }:=Wu (wr:=[e,it]) I hf (fun c o hcn g=>k2 c o hcn (k1 c o hcn g)) hT ⟨show 2<=sizeLine by decide,[.int i t,u],.cons ⟨t,rfl⟩ (.cons ru .nil),tup2⟩
  refine⟨.ref T,_,I2,rfl,⟨T,x,rfl,I.hok.fresh hT,rfl,fun xs' q=>by rw[hone _ q];exact ex⟩,⟨st2.1,st2.2.1⟩,fun c hcm=>?_⟩
  have:c≠T:=fun q=>by
   have lt:∀ {o},s.heap.get? c=some o->False:=fun g=>absurd (Heap.lt_size g) (Nat.not_lt.mpr (by rw[q];exact hT))
   obtain⟨⟨_,he⟩,h1⟩:=st;obtain⟨_,g,_⟩:=hi _ _ h1;simp only[List.mem_cons,List.not_mem_nil,or_false]at hcm;rcases hcm with rfl|rfl
   ·exact lt he
   ·exact lt g
  rw[upd_ne this];exact(hf c hcm).1
 done:=by
  intro X hP hw hK hc i pQ s σ H E I hf st hg;obtain⟨xs,hs,hle⟩:=hg;obtain⟨hone,its,ob,r,ne,o0,D⟩:=hD X hP hw hK hc pQ s σ H i xs I st.1 st.2 hs;subst hP hw hK;have W:=WalksT.enumerateD D e d (by simp only[List.mem_cons,List.not_mem_nil,or_false];exact fun q=>q.elim d fun q=>ne q.symm) (by simp)
  have l1:=r.length;have e1:i=its.toArray.size:=by simp;omega
  subst e1;exact W.done s _ _ ⟨st.1,st.2,o0⟩ fun h' tk k=>⟨rfl,Vt (wr:=[e,it]) I hf k⟩
 self:=fun _ _ _ _ _ st h=>let ⟨⟨_,he⟩,_⟩:=st;wpAny_pyIter_enum he h
theorem JW{h:Heap}{e it:Ad}{i:Int}{old:vL}{a:Ad}{o:Obj}{n:String}(he:IsEnum h e it i old)(g:h.get? a=some o)(c:o.cls=.type n)(hn:¬n = "enumerate"):a≠e:=fun q=>by
 subst q;have he:h.get? a=some _:=he;rw[g]at he;cases he;exact Vk c fun z=>hn z.symm
theorem JX{h:Heap}{a b:Ad}{o u:Obj}{n m:String}(g:h.get? a=some o)(c:o.cls=.type n)(g2:h.get? b=some u)(c2:u.cls=.type m)(hn:¬n=m):a≠b:=fun q=>by
 subst q;rw[g]at g2;cases g2;rw[c]at c2;exact Vk c2 hn
theorem ZfU:bootBuiltins "enumerate"=some (.type "enumerate"):=by decide +kernel
theorem ZgX{X:Cx}{elts:Li Expr}{kk:Nat}{tp:Pos}{x:Expr}{ta:TA}{p pos:Pos}(hg:Gl X "enumerate")(hm:X.mg "enumerate"=none)(ha:PA X [x] ta)(hs:starEach [x] X.env=[(false,eval x X.env)]):PI X (.Tuple elts kk tp) (.Call (.Name "enumerate" p) [x] [] pos) (Zbw X.K ta):=by
 intro pQ s σ H R I h;refine Call_ (ld_blt I hg hm ZfU (PyProof.Rows.callWith_type1 (thn (ha pos pQ s σ H _ I h) fun us s1 ⟨vs,H1,I1,r1,q1⟩=>?_) hs rfl))
 obtain⟨a,rfl,q⟩:=q1;have fo:∀ c∈[s1.heap.objs.size+1,s1.heap.objs.size],FpOk X pQ H1 c:=fun c hcm=>by
  have hc:s1.heap.objs.size<=c:=by
   simp only[List.mem_cons,List.not_mem_nil,or_false]at hcm;rcases hcm with rfl|rfl
   ·exact Nat.le_add_right _ _
   ·exact Nat.le_refl _
  exact I1.fpOk hc (I1.hok.fresh hc)
 cases r1 with
 |cons r rr=>
  cases rr;cases r;rcases q with⟨⟨xs,sq⟩,q⟩|⟨⟨xs,sq⟩,q⟩
  ·obtain⟨its,_,p1,_⟩:=I1.list sq
   refine call_enumerate_list p1.isList fun h' he h1 hsz k=>wpAny_pyIter_enum he ?_
   refine⟨s1.heap.objs.size+1,[s1.heap.objs.size+1,s1.heap.objs.size],_,_,H1,rfl,I1.kept (t':=s1.toks) k,Qm (it1:=fun i h=>h.IsListIter _ a i) _ _ a (Nat.succ_ne_self _) (fun i h st=>?_) (fun i h h' st k=>st.at k) (fun X hP hw hK hc pQ s σ H i xs I he h1 sq=>?_),⟨⟨_,he⟩,h1⟩,fo,q⟩
   ·obtain⟨o,g,_,f⟩:=st
    exact⟨o,g,fun v q=>by rw[f]at q;cases q⟩
   ·rw[<-hP,<-hw]
    rw[<-hK]at sq ⊢;obtain⟨its,r,p,_⟩:=I.list sq;obtain⟨⟨_,he⟩,⟨o2,g2,c2,_⟩⟩:=And.intro he h1;obtain⟨o,g,c,_⟩:=p.isList;exact⟨fun ys hy=>Ja I sq hy,its,fun h=>h.IsList a its.toArray,r,JW he g c (by decide),p.isList,Draws.list (show X.A.in1.handled=none from I.ok.hd hc) _ a (JX g c g2 c2 (by decide)) its.toArray⟩
  ·obtain⟨its,_,p1,_⟩:=I1.tuple sq
   refine UH (show s1.heap.IsTuple a its.toArray from p1) fun h' he h1 hsz k=>wpAny_pyIter_enum he ?_
   refine⟨s1.heap.objs.size+1,[s1.heap.objs.size+1,s1.heap.objs.size],_,_,H1,rfl,I1.kept (t':=s1.toks) k,Qm (it1:=fun i h=>h.IsTupleIter _ a i) _ _ a (Nat.succ_ne_self _) (fun i h st=>?_) (fun i h h' st k=>st.at k) (fun X hP hw hK hc pQ s σ H i xs I he h1 sq=>?_),⟨⟨_,he⟩,h1⟩,fo,q⟩
   ·obtain⟨o,g,_,f⟩:=st
    exact⟨o,g,fun v q=>by rw[f]at q;cases q⟩
   ·rw[<-hP,<-hw]
    rw[<-hK]at sq ⊢;obtain⟨its,r,p,_⟩:=I.tuple sq;have p:s.heap.IsTuple a its.toArray:=p;obtain⟨⟨_,he⟩,⟨o2,g2,c2,_⟩⟩:=And.intro he h1;obtain⟨o,g,c,_⟩:=id p;exact⟨fun ys hy=>I.tuple_inj hy sq,its,fun h=>h.IsTuple a its.toArray,r,JW he g c (by decide),p,Zcz (show X.A.in1.handled=none from I.ok.hd hc) _ a (JX g c g2 c2 (by decide)) its.toArray⟩
theorem UW:∀ {xs:Li D}{k i:Nat}{x:D},xs[i]?=some x->(UV k xs)[i]?=some (.int ((k+i:Nat):Int),x)
 |[],_,_,_,h=>nomatch h
 |x :: xs,k,0,_,h=>by cases h;rfl
 |x :: xs,k,i+1,y,h=>by
  show(UV (k+1) xs)[i]?=_;rw[UW (show xs[i]?=some y from h),show k+1+i=k+(i+1) by omega]
theorem Vf:∀ {xs:Li D}{k:Nat},(UV k xs).length=xs.length
 |[],_=>rfl
 |x :: xs,k=>congrArg (·+1) Vf
theorem ZdU{K:Fg}{fi:Ev}{f:Ex}{i j:Nat}(E:Ends)(σ:L2.St)(H:Hp)(h:tS K (U2 i j fi f) E σ H):tFor (Zbw K (tCons (tE K fi) tNil)) (gTup K 2 (gCons (gName i) (gCons (gName j) gNil))) (tS K f) E σ H:=by
 obtain⟨ad,ρ,st,r,st',En,S,e,p⟩:=Yv h;unfold U2 at e;split at e
 ·rename_i x st1 q1
  split at e
  ·rename_i xs ok hw
   have core:∀ {sq:Hp->Li V->Prop}{ad1:Li Ad}{H1:Hp} (Good:Li Ad->Hp->Prop),(∀ ad H ad' H',Ext ad H ad' H'->Good ad H->Good ad' H')->Good ad1 H1->
     (∀ ad H st,Good ad H->StOk K ad H st->ok st->∃ vs,Dens K ad H vs xs/\sq H vs)->Ext ad H ad1 H1->StOk K ad1 H1 st1->Zka K f i j (Ite sq) E σ H1:=fun Good gm g1 hv x1 S1=>
    ⟨_,⟨_,.mk (Nat.zero_add _) (En.mono x1) S1 g1 e (p.later x1)⟩,Ui gm (fun ad H st g S o=>by
      obtain⟨vs,rv,sv⟩:=hv ad H st g S o;exact⟨vs,sv,by rw[rv.length,Vf]⟩) fun k ad H st q g S o hq=>by
      obtain⟨vs,rv,sv⟩:=hv ad H st g S o;have hk:k < xs.length:=by rw[<-Vf (k:=0)];exact(List.getElem?_eq_some_iff.mp hq).1
      have hg:=Lg hk;rw[UW (k:=0) hg,Nat.zero_add]at hq;cases hq;obtain⟨w,ew,dw⟩:=rv.get hg;exact⟨_,w,⟨vs,w,sv,ew⟩,.int _,dw,fun x H' ⟨pt,y1,e1,e2,e3,hy⟩=>⟨pt,e1,e2,by have z:=hy vs sv;rw[ew]at z;cases z;exact e3⟩⟩⟩
   refine⟨ad,ρ,st,x,st1,En,S,q1,fun v ad1 H1 x1 S1 d1=>?_⟩
   cases x with
   |tup ys=>
    cases hw;obtain⟨a,vs,rfl,ha,rv⟩:=d1.ofTup;exact⟨a,rfl,.inr ⟨⟨vs,ha.sq⟩,core (fun ad H=>TupAt K H a vs/\Dens K ad H vs xs) (fun _ _ _ _ x g=>⟨g.1.mono x,g.2.mono x⟩) ⟨ha,rv⟩ (fun ad H st g _ _=>⟨vs,g.2,g.1.sq⟩) x1 S1⟩⟩
   |lst l=>
    have hw:(match st1[l]? with
     |some c=>some (c.2,fun s=>s[l]?=some c)
     |none=>none)=some (xs,ok):=hw
    cases hc:st1[l]? with
    |none=>rw[hc]at hw;cases hw
    |some c=>
     rw[hc]at hw;cases hw;obtain⟨a,rfl,ha⟩:=d1.ofLst;obtain⟨vs,rv,sq⟩:=S1.list ha (show st1[l]?=some (c.1,c.2) from hc);exact⟨a,rfl,.inl ⟨⟨vs,sq⟩,core (fun ad H=>LA ad H l a) (fun _ _ _ _ x g=>g.mono x) ha (fun ad H st g S e=>S.list g (show st[l]?=some (c.1,c.2) from e)) x1 S1⟩⟩
   |_=>cases hw
  ·cases e
 ·cases e
theorem V4{X:Cx}{sc:Scope}{N:Li Str}{it a:Expr}{elts:Li Expr}{kk:Nat}{tp:Pos}{x:CE}(K:Cxt X G F sc N)(h:VI G sc it=some a)(hp:Zt a=true)(A:PE X a (tE X.K (ev F x))):Zt it=true/\PI X (.Tuple elts kk tp) it (Zbw X.K (tCons (tE X.K (ev F x)) tNil)):=by
 obtain⟨as,h1,h2⟩:=Option.bind_eq_some_iff.mp h;rw[ZbI h2]at h1;obtain⟨_,_,rfl,hg,hm⟩:=QC K h1;exact⟨rfl,ZgX hg hm (pa1 hp A) (Zn hp)⟩
theorem UM{X:Cx}{sc:Scope}{N:Li Str}{it:Expr}{as:Li Expr}(K:Cxt X G F sc N)(h:W9 G sc it=some as):∃ p pos a b,it=.Call (.Name "zip" p) [a,b] [] pos/\as=[a,b]/\Gl X "zip"/\X.mg "zip"=none:=by
 obtain⟨bs,h1,h2⟩:=Option.bind_eq_some_iff.mp h;obtain⟨p,pos,rfl,hg,hm⟩:=QC K h1;refine WH h2 fun hl h3=>?_
 cases h3;cases as with
 |nil=>cases hl
 |cons a as=>cases as with
  |nil=>cases hl
  |cons b as=>cases as with
   |nil=>exact⟨p,pos,_,_,rfl,rfl,hg,hm⟩
   |cons _ _=>cases hl
theorem Zhp{n i j:Nat}(ihA:Xh G F n)(ihS:Yw G F n){X:Cx}{sc:Scope}{N:Li Str}(K:CxtS X G F sc N){c:CS}{x y:Str}{it:Expr}{as:Li Expr}{b:Li Stmt}{p p2 pos tp:Pos}{ctx:Nat}(hi:N.idxOf? x=some i)(hj:N.idxOf? y=some j)(hz:W9 G sc it=some as)(h:o2 (CS.forP i j) (cEs G n sc N as) (cSs G n sc N b)=some c):PS X (.For (.Tuple [.Name x p,.Name y p2] ctx tp) it b [] pos) (tS X.K (ex F c)):=by
 refine YB (P:=fun c=>PS X _ (tS X.K (ex F c))) h fun ci cb hc hb=>?_
 obtain⟨p1,p3,a,b',rfl,rfl,hg,hm⟩:=UM K.toCxt hz;obtain⟨A,_,pl,_⟩:=ihA X sc N K.toCxt _ ci hc;exact Z6 (ps_for (WI K) K.calm (Zi7 hg hm A pl) (pg_tup K.calm (pgs_cons (Y1 K hi) (pgs_cons (Y1 K hj) pgs_nil))) (ihS X sc N K _ cb hb) (Ya rfl)) ZdX
theorem Zho{n i j:Nat}(ihE:ZG G F n)(ihS:Yw G F n){X:Cx}{sc:Scope}{N:Li Str}(K:CxtS X G F sc N){c:CS}{x y:Str}{it e:Expr}{b:Li Stmt}{p p2 pos tp:Pos}{ctx:Nat}(hi:N.idxOf? x=some i)(hj:N.idxOf? y=some j)(hz:VJ G sc it=some e)(h:o2 (CS.forE i j) (cE G n sc N e) (cSs G n sc N b)=some c):PS X (.For (.Tuple [.Name x p,.Name y p2] ctx tp) it b [] pos) (tS X.K (ex F c)):=by
 refine YB (P:=fun c=>PS X _ (tS X.K (ex F c))) h fun ci cb hc hb=>?_
 obtain⟨pl,A⟩:=V4 (elts:=[.Name x p,.Name y p2]) (kk:=ctx) (tp:=tp) K.toCxt hz (Zs hc) (ihE X sc N K.toCxt _ ci hc).pe;exact Z6 (ps_for (WI K) K.calm A (pg_tup K.calm (pgs_cons (Y1 K hi) (pgs_cons (Y1 K hj) pgs_nil))) (ihS X sc N K _ cb hb) (Ya pl)) ZdU
theorem Zhm{n:Nat}(ihE:ZG G F n)(ihS:Yw G F n){X:Cx}{sc:Scope}{N:Li Str}(K:CxtS X G F sc N){c:CS}{x y z:Str}{it:Expr}{b:Li Stmt}{p p2 p3 pos tp:Pos}{ctx:Nat}(h:o3 (fun(p:Nat×Nat) (q:Nat×CE) b=>CS.for4 p.1 p.2 q.1 q.2 b) (o2 Prod.mk (N.idxOf? x) (N.idxOf? y)) (o2 Prod.mk (N.idxOf? z) (cE G n sc N it)) (cSs G n sc N b)=some c):PS X (.For (.Tuple [.Name x p,.Name y p2,.Name z p3] ctx tp) it b [] pos) (tS X.K (ex F c)):=
 VD (P:=fun c=>PS X _ (tS X.K (ex F c))) h fun u v cb hu hv hb=>YB (P:=fun u:Nat×Nat=>PS X _ (tS X.K (ex F (.for4 u.1 u.2 v.1 v.2 cb)))) hu fun i j hi hj=>YB (P:=fun v:Nat×CE=>PS X _ (tS X.K (ex F (.for4 i j v.1 v.2 cb)))) hv fun l ci hl hc=>
  Z6 (ps_for (WI K) K.calm (pi_tup (ihE X sc N K.toCxt _ ci hc).pe) (pg_tup K.calm (pgs_cons (Y1 K hi) (pgs_cons (Y1 K hj) (pgs_cons (Y1 K hl) pgs_nil)))) (ihS X sc N K _ cb hb) (Ya (Zs hc))) ZdT
theorem Zhk{n i j:Nat}(ihE:ZG G F n)(ihS:Yw G F n){X:Cx}{sc:Scope}{N:Li Str}(K:CxtS X G F sc N){c:CS}{x y:Str}{it:Expr}{b:Li Stmt}{p p2 pos tp:Pos}{ctx:Nat}(hi:N.idxOf? x=some i)(hj:N.idxOf? y=some j)(h:o2 (CS.for2 i j) (cE G n sc N it) (cSs G n sc N b)=some c):PS X (.For (.Tuple [.Name x p,.Name y p2] ctx tp) it b [] pos) (tS X.K (ex F c)):=by
 refine YB (P:=fun c=>PS X _ (tS X.K (ex F c))) h fun ci cb hc hb=>?_
 exact fun pQ s σ H D I q=>by
  obtain⟨_,_,_,_,_,_,_,e,_⟩:=Yv q;cases e
theorem ZjC{n:Nat}(ihE:ZG G F n){X:Cx}{sc:Scope}{N:Li Str}(K:CxtS X G F sc N){c:CS}{x m:Str}{e:Expr}{p ap cp pos:Pos}(h:Zkk sc N x m ap cp (cE G n sc N e)=some c):PS X (.Expr (.Call (.Attribute (.Name x p) m ap) [e] [] cp) pos) (tS X.K (ex F c)):=by
 refine WH h fun hc h=>?_
 by_cases e1:m = "append"
 ·subst e1
  rw[if_pos rfl]at h;exact YB (P:=fun c=>PS X _ (tS X.K (ex F c))) h fun i y hi hx=>Z6 (ps_expr (pe_bm PySem.F.plainAttrs_list PySem.F.slot_list_append PySem.F.type_list_append mt_append (ZeH K.toCxt hc.1 hi) (pa1 (Zs hx) (ihE X sc N K.toCxt _ y hx).pe) rfl (by rw[Zn (Zs hx)];rfl) hc.2 (Zn (Zs hx)) rfl) rfl) Zgk
 ·rw[if_neg e1]at h
  by_cases e2:m = "extend"
  ·subst e2
   rw[if_pos rfl]at h;exact YB (P:=fun c=>PS X _ (tS X.K (ex F c))) h fun i y hi hx=>Z6 (ps_expr (pe_bm PySem.F.plainAttrs_list PySem.F.slot_list_extend PySem.F.type_list_extend mt_extend (ZeH K.toCxt hc.1 hi) (pa1 (Zs hx) (ihE X sc N K.toCxt _ y hx).pe) rfl (by rw[Zn (Zs hx)];rfl) hc.2 (Zn (Zs hx)) rfl) rfl) Zgm
  ·rw[if_neg e2]at h;cases h
theorem Zhi{n:Nat}(ihE:ZG G F n)(hA:VT G F n){X:Cx}{sc:Scope}{N:Li Str}(K:CxtS X G F sc N){c:CS}{tg e:Expr}{pos:Pos}(h:Zkl N tg e (cE G n sc N e)=some c):PS X (.Assign [tg] e pos) (tS X.K (ex F c)):=by
 have no:∀ {P:Prop},(none:Ot CS)=some c->P:=fun z=>nomatch z
 cases tg with
 |Name x p=>exact ZjD ihE hA K h
 |Tuple es ctx tp=>cases es with
  |nil=>exact no h
  |cons a es=>cases a with
   |Name _ _=>cases es with
    |nil=>exact no h
    |cons b es=>cases b with
     |Name _ _=>cases es with
      |nil=>exact Zhq ihE K h
      |cons c2 es=>cases c2 with
       |Name _ _=>cases es with
        |nil=>exact Zhr ihE K h
        |cons _ _=>exact no h
       |_=>exact no h
     |_=>exact no h
   |_=>exact no h
 |_=>exact no h
theorem Zhn{n:Nat}(ihE:ZG G F n)(ihA:Xh G F n)(ihS:Yw G F n){X:Cx}{sc:Scope}{N:Li Str}(K:CxtS X G F sc N){c:CS}{tg it:Expr}{b:Li Stmt}{pos:Pos}(h:ZiF G sc N (cE G n sc N) (cEs G n sc N) tg it (cSs G n sc N b)=some c):PS X (.For tg it b [] pos) (tS X.K (ex F c)):=by
 have no:∀ {P:Prop},(none:Ot CS)=some c->P:=fun z=>nomatch z
 cases tg with
 |Name x p=>
  unfold ZiF at h;cases hr:Wo G sc it with
  |some as=>
   rw[hr]at h;exact Zhl ihA ihS K hr h
  |none=>
   rw[hr]at h;exact Zhj ihE ihS K h
 |Tuple es ctx tp=>cases es with
  |nil=>exact no h
  |cons a es=>cases a with
   |Name x p=>cases es with
    |nil=>exact no h
    |cons b2 es=>cases b2 with
     |Name y p2=>cases es with
      |nil=>
       replace h:((o2 (fun i j=>og (i≠j) (some (i,j))) (N.idxOf? x) (N.idxOf? y)).join.bind fun p=>(match W9 G sc it with
        |some as=>o2 (CS.forP p.1 p.2) (cEs G n sc N as) (cSs G n sc N b)
        |none=>match VJ G sc it with
         |some e=>o2 (CS.forE p.1 p.2) (cE G n sc N e) (cSs G n sc N b)
         |none=>o2 (CS.for2 p.1 p.2) (cE G n sc N it) (cSs G n sc N b)))=some c:=h
       refine b_e h fun q hq h=>j_e hq fun hq=>YB (P:=fun o=>o=some q->PS X _ (tS X.K (ex F c))) hq (fun i j hi hj e=>WH e fun _ e=>?_) rfl
       cases e;cases hz:W9 G sc it with
       |some as=>
        rw[hz]at h;exact Zhp ihA ihS K hi hj hz h
       |none=>
        rw[hz]at h;dsimp only at h;cases he:VJ G sc it with
        |some e=>
         rw[he]at h;exact Zho ihE ihS K hi hj he h
        |none=>
         rw[he]at h;exact Zhk ihE ihS K hi hj h
      |cons c2 es=>cases c2 with
       |Name _ _=>cases es with
        |nil=>exact Zhm ihE ihS K h
        |cons _ _=>exact no h
       |_=>exact no h
     |_=>exact no h
   |_=>exact no h
 |_=>exact no h
theorem Zhh{n:Nat}(ihE:ZG G F n){X:Cx}{sc:Scope}{N:Li Str}(K:CxtS X G F sc N){c:CS}{v:Expr}{pos:Pos}(h:Zki sc N (cE G n sc N) v=some c):PS X (.Expr v pos) (tS X.K (ex F c)):=by
 have no:∀ {P:Prop},(none:Ot CS)=some c->P:=fun z=>nomatch z
 cases v with
 |Call f as kw cp=>cases f with
  |Attribute o m ap=>cases o with
   |Name x p=>cases as with
    |nil=>exact no h
    |cons e es=>cases es with
     |nil=>cases kw with
      |nil=>exact ZjC ihE K h
      |cons _ _=>exact no h
     |cons _ _=>exact no h
   |_=>exact no h
  |Name f fp=>exact ZjB ihE K h
  |_=>exact no h
 |_=>exact no h
theorem Zal{n:Nat}(ihE:ZG G F n)(ihA:Xh G F n)(ihS:Yw G F n)(hA:VT G F n):Zat G F (n+1):=by
 intro X sc N K s c h;have no:∀ {P:Prop},(none:Ot CS)=some c->P:=fun z=>nomatch z
 cases s with
 |Assign tgs e pos=>cases tgs with
  |nil=>exact no h
  |cons t ts=>cases ts with
   |cons _ _=>cases t with
    |Subscript o k p=>cases o<;>exact no h
    |_=>exact no h
   |nil=>cases t with
    |Subscript o k p=>cases o with
     |Name x q=>exact ZjE ihE K h
     |_=>exact no h
    |_=>exact Zhi ihE hA K h
 |Return e pos=>cases e with
  |none=>exact no h
  |some e=>exact ZjF ihE K h
 |If e a b pos=>exact Zk8 ihE ihS K h
 |For t it b oe pos=>cases oe with
  |cons _ _=>exact no h
  |nil=>exact Zhn ihE ihA ihS K h
 |Expr v pos=>exact Zhh ihE K h
 |Pass pos=>
  cases (show some CS.skip=some c from h)
  exact Z6 ps_pass JO
 |Break pos=>
  cases (show some CS.brk=some c from h)
  exact Z6 ps_break Zgl
 |Raise a b pos=>
  cases (show some CS.stop=some c from h)
  exact fun pQ s σ H D I q=>by
   obtain⟨_,_,_,_,_,_,_,e,_⟩:=Yv q;cases e
 |Continue pos=>
  cases (show some CS.cont=some c from h)
  exact Z6 ps_continue ZdR
 |_=>exact no h
theorem Q9{n:Nat}(ihS:Zat G F n)(ihSs:Yw G F n):Yw G F (n+1):=by
 intro X sc N K s c h;cases s with
 |nil=>
  simp only[cSs]at h;cases h;exact ZbP pss_nil JO
 |cons s r=>
  exact YB (P:=fun c=>PSs X _ (tS X.K (ex F c))) (show o2 CS.seq (cS G n sc N s) (cSs G n sc N r)=some c from h) fun a b ha hb=>ZbP (pss_cons (ihS X sc N K s a ha) (ihSs X sc N K r b hb)) Zgv
end
end Dp



namespace Dp
open PySem PySem.Spec PyProof.Rows L2
variable [ClsTab]
def Wz(G:Gs)(F:Nat->Fn):Prop:=∀ n,ZG G F n->(∀ X sc N,Cxt X G F sc N->∀ elt gens sc2 pos c,cE G (n+1) sc N (.ListComp elt gens sc2 pos)=some c->SE X F (.ListComp elt gens sc2 pos) c)/\VT G F (n+1)
theorem Qi{G:Gs}{F:Nat->Fn}(hc:Wz G F):∀ n,(ZG G F n/\Xh G F n/\Qw G F n)/\Zat G F n/\Yw G F n/\VT G F n
 |0=>⟨⟨fun X sc N K e c h=>(nomatch (show(none:Ot CE)=some c from h)),fun X sc N K e c h=>(nomatch (show(none:Ot CE)=some c from h)),fun X sc N K e c h=>(nomatch (show(none:Ot CE)=some c from h))⟩,fun X sc N K e c h=>(nomatch (show(none:Ot CS)=some c from h)),fun X sc N K e c h=>(nomatch (show(none:Ot CS)=some c from h)),fun X sc N K x i p elt gens sc2 epos pos c _ h=>(nomatch (show(none:Ot CE)=some c from h))⟩
 |n+1=>by
  obtain⟨⟨hE,hA,hO⟩,hS,hSs,hCA⟩:=Qi hc n;exact⟨⟨Za4 hE hA hO (hc n hE).1,Zaj hE hA,Zak hE⟩,Zal hE hA hSs hCA,Q9 hS hSs,(hc n hE).2⟩
def Zc6(K:Fg)(G:Gs)(T:Nat->Ot FD)(x y:Str)(i:Nat)(f:Ad)(fd:FuncData)(pn N:Li Str):Prop:=∃ (st:Stmt) (oc:vL) (od:Ot Ad) (dV kV doc pm:vL) (an:Ot Ad) (cdv ct:vL) (osl:Array (Ot vL)) (code:CS),
  fd=PySem.W.fnOf x y (defArgs st) (defBody st) (defScope st) dV kV doc pm an cdv ct/\K.lookup f=some ⟨oc,od,.func fd,osl⟩/\PySem.W.codeIn K cdv y=true/\FnScope N pn (defScope st)/\(∀ y∈N,Loc (defScope st) y) /\
  cSs G 60 (defScope st) N (defBody st)=some code/\T i=some ⟨pn.length,N.length,code⟩
structure DefOk(K:Fg)(mg:Str->Option Value)(G:Gs)(T:Nat->Option FD)(x:Str)(i:Nat)(ds:List D)(f:Addr)(fd:FuncData)(pn N:List Str):Prop where
 ob:Zc6 K G T x x i f fd pn N
 kp:PySem.W.keepIn K (.ref f)=true
 at_:mg x=some (.ref f)
 bn:∀ m,m<=ds.length->∃ dvs us,(∀ ad H,Dens K ad H dvs (ds.drop m))/\Vals dvs us/\Binds K fd pn us
structure MethOk(K:Fg)(G:Gs)(T:Nat->Option FD)(C:Addr)(x y:Str)(i:Nat)(f:Addr)(fd:FuncData)(pn N:List Str):Prop where
 ob:Zc6 K G T x y i f fd pn N
 mt:Meth K C x f
 bn:Binds K fd pn []
structure Text(Pm:Params)(K:Fg)(mg:Str->Option Value)(G:Gs)(T:Nat->Option FD):Prop where
 cst:∀ x d,G.lookup x=some (.cst d)->∃ v u,mg x=some u/\RelV v u/\∀ ad H,Den K ad H v d
 blt:∀ x,G.lookup x=some .blt->mg x=none
 dct:∀ x ks ds,G.lookup x=some (.dct ks ds)->Zbe Pm K mg x ks ds
 fn:∀ x i ps ds,G.lookup x=some (.fn i ps ds)->∃ f fd pn N,DefOk K mg G T x i ds f fd pn N
 cls:∀ x i ms subs,G.lookup x=some (.cls i ms subs)->(mg x=some (.ref (ClsTab.ca i))/\NewOk K (ClsTab.ca i)/\∀ i',subs.contains i'=true->SubOk K (ClsTab.ca i') (ClsTab.ca i)) /\
  ∀ m j ps,ms.lookup m=some (j,ps)->∃ y f fd pn N,MethOk K G T (ClsTab.ca i) m y j f fd pn N
section
variable {P:Program}{w:World}{K:Fg}{mg:Str->Ot vL}{base:Heap}{G:Gs}{T:Nat->Ot FD}
theorem Zfu{sc:Scope}{x:Str}(h:WY sc x=true):Vis sc x:=by
 unfold WY at h;rw[Ba]at h;have h:=h.2;split at h
 ·rename_i q;exact .inl q
 ·rename_i q;exact .inr (.inl q)
 ·rename_i q;exact .inr (.inr q)
 ·cases h
theorem Zbv{sc:Scope}{x:Str}(h:ZV sc x=true):sc.names.lookup x=some .globalImplicit:=by
 unfold ZV at h;rw[Ba]at h;have h:=h.2;split at h
 ·rename_i q;exact q
 ·cases h
theorem Zbm{sc:Scope}{x:Str}(h:Ua sc x=true):sc.names.lookup x=some .cell\/sc.names.lookup x=some .free:=by
 unfold Ua at h;split at h
 ·rename_i q;exact .inl q
 ·rename_i q;exact .inr q
 ·cases h
theorem ZcA{K:Fg}{ad:Li Ad}{H:Hp}{N:Li Str}{vs:Li V}{ds:Li D}(h:Dens K ad H vs ds)(hl:ds.length<=N.length):EnvOk K ad H (L2.start N vs) (ds.map some++List.replicate (N.length - ds.length) none):=by
 have e:=h.length;refine⟨by unfold L2.start;simp[e],fun i d q=>?_⟩
 by_cases hi:i < ds.length
 ·rw[List.getElem?_append_left (by simpa using hi),List.getElem?_map,Lg hi]at q
  have q':ds[i]=d:=by simpa using q
  have g:ds[i]?=some d:=by rw[Lg hi,q']
  obtain⟨v,e1,e2⟩:=h.get g;refine⟨v,?_,e2⟩;unfold L2.start;rw[List.getElem?_append_left (by simpa[e] using hi),List.getElem?_map,e1]
  rfl
 ·rw[List.getElem?_append_right (by simpa using hi),List.getElem?_replicate]at q
  split at q<;>cases q
theorem Zi5{n:Nat}(hc:∀ n,Wz G (run T n))(gl:∀ A,Room n A->∀ y g,G.lookup y=some g->GOk P w K mg base A (run T n) y g){x y:Str}{i:Nat}{f:Ad}{fd:FuncData}{pn N:Li Str}(ob:Zc6 K G T x y i f fd pn N):FnOk P w K mg base CX0 (n+1) f fd pn (spD K (run T (n+1) i)):=by
 obtain⟨st,oc,od,dV,kV,doc,pm,an,cdv,ct,osl,code,rfl,lk,hcd,S,hloc,hcode,hT⟩:=ob;have hrun:run T (n+1) i=fnD (run T n) ⟨pn.length,N.length,code⟩:=by
  show(match T i with|some f=>fnD (run T n) f|none=>fun _ _=>none)=_
  rw[hT]
 refine fn_of lk hcd S (fun vs H Q E h=>?_) (fun A outer s H vs Q E hr h=>?_)
 ·obtain⟨ad,es,st,d,st',_,hd,e,_⟩:=h
  rw[hrun]at e;unfold fnD at e;split at e
  ·rename_i hl
   rw[hd.length];exact hl
  ·cases e
 ·obtain⟨ad,es,s0,d,st',S0,hd,e,p⟩:=h
  rw[hrun]at e;unfold fnD at e;split at e
  ·rename_i hl
   have C:CxtS (cxOf CX0 P w K mg base N y (defScope st) f cdv A outer s H E).nox G (run T n) (defScope st) N:={
    hN:=rfl
    vis:=fun y hy=>Zfu hy
    glb:=fun y hy=>Zbv hy
    calm:=rfl
    hu:=hr.units
    gl:=gl _ hr
    cel:=fun y hy=>Zbm hy
    nx:=rfl
    nd:=S.nd
    loc:=hloc
    fn:=fun _=>rfl }
   have B:=(Qi (hc n) 60).2.2.1 _ _ _ C _ _ hcode;have hpl:pn.length<=N.length:=by have:=congrArg List.length S.pre;rw[List.length_take]at this;omega
   have E0':=ZcA (N:=N) hd (by rw[show es.length=pn.length from hl];exact hpl)
   refine⟨_,B.nox,?_⟩;split at e
   ·rename_i d' st1 q
    cases e;exact YK E0' S0 q p
   ·rename_i ρ st1 q
    cases e;exact YK E0' S0 q fun σ1 ad1 H1 x1 S1 E1=>(p.later x1).at S1 .non
   ·cases e
  ·cases e
theorem ZhG{i:Nat}{f:Ad}{fd:FuncData}{pn:Li Str}:FnOk P w K mg base CX0 0 f fd pn (spD K (run T 0 i)):=by
 refine⟨fun vs H Q E h=>?_,fun A outer s H args us vs Q E _ _ _ _ h=>?_⟩
 ·obtain⟨_,_,_,_,_,_,_,e,_⟩:=h;cases e
 ·obtain⟨_,_,_,_,_,_,_,e,_⟩:=h;cases e
theorem ZkF{n:Nat}(X:Text w.params K mg G T)(F1:∀ {x y:Str}{i:Nat}{f:Ad}{fd:FuncData}{pn N:Li Str},Zc6 K G T x y i f fd pn N->FnOk P w K mg base CX0 n f fd pn (spD K (run T n i)))(A:Around)(hr:Room n A):∀ y g,G.lookup y=some g->GOk P w K mg base A (run T n) y g:=fun y g hg=>by
 cases g with
 |cst d=>exact X.cst y d hg
 |blt=>exact X.blt y hg
 |dct ks ds=>exact X.dct y ks ds hg
 |fn j qs es=>
  obtain⟨f,fd,pn,N,Dk⟩:=X.fn y j qs es hg;exact⟨n,f,fd,pn,F1 Dk.ob,hr,Dk.at_,Dk.kp,Dk.bn⟩
 |cls i ms subs=>
  obtain⟨⟨h1,h2,h3⟩,h4⟩:=X.cls y i ms subs hg;refine⟨h1,h2,h3,fun m j ps hm=>?_⟩
  obtain⟨z,f,fd,pn,N,Mk⟩:=h4 m j ps hm;exact⟨n,f,fd,pn,F1 Mk.ob,hr,Mk.mt,Mk.bn⟩
theorem Zda(hc:∀ n,Wz G (run T n))(X:Text w.params K mg G T):∀ (n:Nat) {x y:Str}{i:Nat}{f:Ad}{fd:FuncData}{pn N:Li Str},Zc6 K G T x y i f fd pn N->FnOk P w K mg base CX0 n f fd pn (spD K (run T n i))
 |0,_,_,_,_,_,_,_,_=>ZhG
 |n+1,_,_,_,_,_,_,_,ob=>Zi5 hc (fun A hr=>ZkF X (fun ob=>Zda hc X n ob) A hr) ob
end
end Dp



namespace Dp
open PySem PySem.Spec PyProof.Rows L2
variable [ClsTab]
section
variable {ad:Li Ad}{H:Hp}{p:Ad}{xs ys:Li V}
theorem QQ(hp:H p=some (.lst xs)){a:Ad}:Y6 H a↔Y6 (upd H p (.lst ys)) a:=Zbd (QU hp fun _ z=>nomatch z) fun _ z=>nomatch z
theorem ZaL{K:Fg}(hp:H p=some (.lst xs)):Keeps K ad ad H (upd H p (.lst ys)):=⟨fun h=>h.upd hp (by intro xs z;cases z),fun h=>⟨h,QQ hp⟩,fun _ h=>by rw[upd_ne (ne_of h hp (by intro z;cases z))];exact h,fun h n=>⟨by rw[upd_ne (ne_of h hp (by intro z;cases z))];exact h,n⟩⟩
theorem Den.wr{K:Fg}(hp:H p=some (.lst xs)){v:V}{d:D}(h:Den K ad H v d):Den K ad (upd H p (.lst ys)) v d:=h.map (ZaL hp)
theorem Dens.wr{K:Fg}(hp:H p=some (.lst xs)){vs:Li V}{ds:Li D}(h:Dens K ad H vs ds):Dens K ad (upd H p (.lst ys)) vs ds:=h.map (ZaL hp)
theorem EnvOk.wr{K:Fg}{σ:L2.St}{ρ:Env}(hp:H p=some (.lst xs))(h:EnvOk K ad H σ ρ):EnvOk K ad (upd H p (.lst ys)) σ ρ:=⟨h.len,fun i d e=>let ⟨v,e1,e2⟩:=h.at_ i d e;⟨v,e1,e2.wr hp⟩⟩
theorem StOk.wr{K:Fg}{st:Za}(S:StOk K ad H st)(hp:H p=some (.lst xs))(hn:p∉ad):StOk K ad (upd H p (.lst ys)) st:=
 S.wrG (ZaL hp) hn
theorem Ext.wr{ad0:Li Ad}{H0:Hp}(x:Ext ad0 H0 ad H)(hp:H p=some (.lst xs))(h0:H0 p=none):Ext ad0 H0 ad (upd H p (.lst ys)):=by
 refine⟨x.pre,fun b zs h=>?_,fun b zs h=>?_,fun b o h n=>?_,x.new,fun i a h=>(x.kd i a h).trans (QQ hp)⟩
 ·rw[upd_ne (ne_of_none h h0)];exact x.tup b zs h
 ·rw[upd_ne (ne_of_none h h0)];exact x.dk b zs h
 ·rw[upd_ne (ne_of_none h h0)];exact x.keep b o h n
end
theorem Uh{c:Str->NameKind->Bool}:∀ {l:Li (Str×NameKind)}{y:Str},(l.map fun(n,k)=>if c n k=true then (n,NameKind.cell) else (n,k)).lookup y=(l.lookup y).map fun k=>if c y k=true then NameKind.cell else k
 |[],_=>rfl
 | (n,k) :: r,y=>by
  have ih:=@Uh c r y;rw[List.map_cons];have e:(if c n k=true then (n,NameKind.cell) else (n,k))=(n,if c n k=true then NameKind.cell else k):=by split<;>rfl
  show List.lookup y ((if c n k=true then (n,NameKind.cell) else (n,k)) :: _)=_
  rw[e,List.lookup_cons,List.lookup_cons];cases q:y==n with
  |true=>rw[beq_iff_eq.mp q];rfl
  |false=>exact ih
theorem Xa{sc:Scope}{env:PySem.Env}{y:Str}:(relabel sc env).names.lookup y=(sc.names.lookup y).map fun k=>if (k==NameKind.free&&env.scope.kind==.function&&env.kindOf y==some .cell)=true then NameKind.cell else k:=
 Uh (c:=fun n k=>k==NameKind.free&&env.scope.kind==.function&&env.kindOf n==some .cell)
theorem Xm{sc:Scope}{env:PySem.Env}{y:Str}{k:NameKind}(h:sc.names.lookup y=some k)(hk:k≠.free):(relabel sc env).names.lookup y=some k:=by
 rw[Xa,h];have:(k==NameKind.free)=false:=by simpa using hk
 show some (if (k==NameKind.free&&_&&_)=true then NameKind.cell else k)=some k
 rw[this,Bool.false_and,Bool.false_and,if_neg Bf]
theorem XL{sc:Scope}{env:PySem.Env}{y:Str}(h:sc.names.lookup y=some .free):(relabel sc env).names.lookup y=some .cell\/(relabel sc env).names.lookup y=some .free:=by
 rw[Xa,h];show(some (if _ then NameKind.cell else NameKind.free))=_\/(some (if _ then NameKind.cell else NameKind.free))=_
 split
 ·exact .inl rfl
 ·exact .inr rfl
theorem Q3{sc:Scope}{env:PySem.Env}{y:Str}(hc:∀ p∈sc.names,p.2≠.cell)(h:(relabel sc env).names.lookup y=some .cell\/(relabel sc env).names.lookup y=some .free):sc.names.lookup y=some .free:=by
 rw[Xa]at h;cases q:sc.names.lookup y with
 |none=>rw[q]at h;rcases h with h|h<;>cases h
 |some k=>
  rw[q]at h;cases k with
  |free=>rfl
  |cell=>
   have:∀ {l:Li (Str×NameKind)},l.lookup y=some .cell->∃ p∈l,p.2=.cell:=fun {l} e=>by
    induction l with
    |nil=>cases e
    |cons a l ih=>
     obtain⟨n,k⟩:=a;rw[List.lookup_cons]at e;split at e
     ·cases e;exact⟨_,Ls,rfl⟩
     ·obtain⟨p,hp,e'⟩:=ih e;exact⟨p,Lm _ hp,e'⟩
   obtain⟨p,hp,e⟩:=this q;exact absurd e (hc p hp)
  |_=>rcases h with h|h<;>simp at h
theorem WD{env:PySem.Env}:∀ (l:Li (Str×NameKind)) (acc:Li (Str×Ad)),(∀ p∈l,p.2=.free->∃ c,env.cells.lookup p.1=some c)->
  ∃ cl,(forIn l acc fun(x:Str×NameKind) (r:Li (Str×Ad))=>(do
   if (x.2==NameKind.free)=true then
    let a <-cellOf env x.1
    pure (ForInStep.yield ((x.1,a) :: r))
   else pure (ForInStep.yield r):Sem (ForInStep (Li (Str×Ad)))))=pure cl /\
   (∀ y c,cl.lookup y=some c->acc.lookup y=some c\/((y,NameKind.free)∈l/\env.cells.lookup y=some c))/\(∀ y,(y,NameKind.free)∈l\/(acc.lookup y).isSome->(cl.lookup y).isSome)
 |[],acc,_=>⟨acc,by simp only[List.forIn_nil],fun y c h=>.inl h,fun y h=>by simpa using h⟩
 | (n,k) :: l,acc,h=>by
  by_cases hk:k=.free
  ·subst hk
   obtain⟨c0,hc0⟩:=h (n,.free) Ls rfl;obtain⟨cl,e,h1,h2⟩:=WD (env:=env) l ((n,c0) :: acc) fun p hp=>h p (Lm _ hp)
   refine⟨cl,?_,fun y c q=>?_,fun y q=>?_⟩
   ·rw[List.forIn_cons]
    simp only[beq_self_eq_true,if_true];have:cellOf env n=pure c0:=by unfold cellOf;rw[hc0]
    simp only[this,pure_bind];exact e
   ·rcases h1 y c q with z|⟨z1,z2⟩
    ·rw[List.lookup_cons]at z
     split at z
     ·rename_i hy
      cases z;rw[beq_iff_eq.mp hy];exact .inr ⟨Ls,hc0⟩
     ·exact .inl z
    ·exact .inr ⟨Lm _ z1,z2⟩
   ·refine h2 y ?_
    rcases q with q|q
    ·rcases List.mem_cons.mp q with z|z
     ·cases z
      exact .inr (by rw[List.lookup_cons];simp)
     ·exact .inl z
    ·refine .inr ?_
     rw[List.lookup_cons];split
     ·rfl
     ·exact q
  ·obtain⟨cl,e,h1,h2⟩:=WD (env:=env) l acc fun p hp=>h p (Lm _ hp)
   refine⟨cl,?_,fun y c q=>?_,fun y q=>?_⟩
   ·rw[List.forIn_cons]
    have:(k==NameKind.free)=false:=by simpa using hk
    simp only[this,Bool.false_eq_true,if_false,pure_bind];exact e
   ·rcases h1 y c q with z|⟨z1,z2⟩
    ·exact .inl z
    ·exact .inr ⟨Lm _ z1,z2⟩
   ·refine h2 y ?_
    rcases q with q|q
    ·rcases List.mem_cons.mp q with z|z
     ·cases z;exact absurd rfl hk
     ·exact .inl z
    ·exact .inr q
theorem Jv{env:PySem.Env}{sc:Scope}(h:∀ p∈sc.names,p.2=.free->∃ c,env.cells.lookup p.1=some c):∃ cl,closureFor sc env=pure cl/\(∀ y c,cl.lookup y=some c->env.cells.lookup y=some c)/\∀ y,(y,NameKind.free)∈sc.names->(cl.lookup y).isSome:=by
 obtain⟨cl,e,h1,h2⟩:=WD (env:=env) sc.names [] h;refine⟨cl,?_,fun y c q=>?_,fun y q=>h2 y (.inl q)⟩
 ·unfold closureFor
  rw[show(fun(x:Str×NameKind) (r:Li (Str×Ad))=>_)=_ from rfl]at e
  first|exact(by simp only[e,pure_bind]) | (simp only[bind_pure]at *;exact e)|exact e
 ·rcases h1 y c q with z|⟨_,z⟩
  ·cases z
  ·exact z
end Dp



namespace Dp
open PySem PySem.Spec PyProof.Rows L2
variable [ClsTab]
theorem Jx{prog:Program}{w:World}{A:Around}{R:Result->Sd->Prop}{s:Sd}{elt target iter:Expr}{ifs:Li Expr}{scope:Scope}{pos:Pos}{it acc:vL}{env:PySem.Env}(I:Nat->Sd->Prop)(turn:∀ n s,I n s->wpAny (model prog w) A (pyNext it) (fun r s₁=>match r with
   |none=>R (.ok .next) s₁
   |some v=>wpAny (model prog w) A (letOwnedTupleGo target it v) (fun _ s₁'=>wpAny (model prog w) A (assign target env v) (fun _ s₂=>
     wpAny (model prog w) A (forIn ifs true fun c r=>if r=true then do let ok <-isTrue c env (eval c env);pure (ForInStep.yield ok) else pure (ForInStep.yield r)) (fun ok s₃=>
      if ok=true then wpAny (model prog w) A (eval elt env) (fun x s₄=>
       wpAny (model prog w) A (call (.builtin "list.append") [acc,x]) (fun _ s₅=>∃ m,m < n/\I m s₅) (notedBy (model prog w) A env fun e s'=>R (.error e) s') s₄) (notedBy (model prog w) A env fun e s'=>R (.error e) s') s₃
      else ∃ m,m < n/\I m s₃) (notedBy (model prog w) A env fun e s'=>R (.error e) s') s₂) (notedBy (model prog w) A env fun e s'=>R (.error e) s') s₁') (notedBy (model prog w) A env fun e s'=>R (.error e) s') s₁) (notedBy (model prog w) A env fun e s'=>R (.error e) s') s)(n:Nat)(h:I n s):codeAny (model prog w) A (.compLoop (.ListComp elt [⟨target,iter,ifs,0⟩] scope pos) 0 it acc env) R s:=by
 refine codeAny_loop rfl I (fun n s hI=>?_) n h
 show wpAny _ A ((compTurn (.ListComp elt [⟨target,iter,ifs,0⟩] scope pos) 0 it acc env).onRaise (fun x=>do noteFrame x env;theTreesLotGoes x)) _ _ s
 refine wpAny_noted ?_;rw[compTurn_list];refine wpAny_bind (wpAny_standAt (wpAny_bind (wpAny_mono (turn n s hI) (fun r s₁ h₁=>?_) fun _ _ h'=>h')))
 cases r with
 |none=>exact wpAny_pure h₁
 |some v=>
  refine wpAny_bind (wpAny_mono h₁ (fun _ s₁' h₁=>?_) fun _ _ h'=>h')
  refine wpAny_bind (wpAny_mono h₁ (fun _ s₂ h₂=>wpAny_bind (wpAny_mono h₂ (fun ok s₃ h₃=>?_) fun _ _ h'=>h')) fun _ _ h'=>h')
  cases ok with
  |false=>exact wpAny_pure ⟨rfl,h₃⟩
  |true=>
   exact wpAny_bind (wpAny_bind (wpAny_mono h₃ (fun x s₄ h₄=>wpAny_bind (wpAny_mono h₄ (fun _ s₅ h₅=>wpAny_pure (wpAny_pure ⟨rfl,h₅⟩)) fun _ _ h'=>h')) fun _ _ h'=>h'))
noncomputable def cxC(X:Cx)(N:Li Str)(env:PySem.Env)(s3:Sd)(H3:Hp)(fp:Li Ad)(pQ:Li (Ad×Obj)):Cx:=
 { X with N:=N,s₀:=s3,H₀:=H3,env:=env,outer:=X.stack,ex:=fp,fn:=fun _=>false,pn:=X.pn++pQ,xe:=fun _ _=>False }
section
variable {X:Cx}{pQ:Li (Ad×Obj)}{σ:L2.St}{H H3:Hp}{s3:Sd}{sc2:Scope}{cl:Li (Str×Ad)}{fp:Li Ad}{N:Li Str}
theorem Zd9(I3:L2.Inv X pQ σ H3 s3){m0:Str->Ot vL}{h4:Heap}{tk:Nat}{σ':L2.St}(hk:sc2.kind=.function)(hcell:∀ p∈sc2.names,p.2≠.cell)(hns:h4.Ns s3.heap.objs.size m0)(up:∀ b u,s3.heap.get? b=some u->h4.get? b=some u)(c1:∀ y c,cl.lookup y=some c->X.env.cells.lookup y=some c)(c2:∀ y,sc2.names.lookup y=some .free->(cl.lookup y).isSome)(f3:∀ b∈fp,FpOk X pQ H3 b)(fb:∀ b∈fp,b < s3.heap.objs.size)(hσ:∀ (i:Nat) (y:Str) (v:V),N[i]?=some y->σ'[i]?=some (some v)->∃ j:Nat,X.N[j]?=some y/\σ[j]?=some (some v)/\sc2.names.lookup y=some .free/\(X.env.scope.names.lookup y=some .cell\/X.env.scope.names.lookup y=some .free))(hl:σ'.length=N.length) :
  L2.Inv (cxC X N (compEnvC sc2 cl s3.heap.objs.size X.env) s3 H3 fp pQ) [] σ' H3 { s3 with heap:=h4,toks:=tk } where
 ok:={
  mod:=I3.ok.mod
  kind:=hk
  glob:=I3.ok.glob
  blt:=I3.ok.blt
  above:=Nat.le_refl _
  inj:=fun x y c e e'=>I3.ok.inj x y c (c1 _ _ e) (c1 _ _ e')
  has:=fun x h=>by
   have e:=Q3 (env:=X.env) hcell h;have:=c2 x e;cases q:cl.lookup x with
   |none=>rw[q]at this;cases this
   |some c=>exact⟨c,q⟩
  cab:=fun x c h=>nomatch h
  hd:=I3.ok.hd
  frames:=I3.ok.frames
  stk:=.inl rfl
  exf:=fun b hb=>⟨Nat.ne_of_lt (fb b hb),fun x c e=>(f3 b hb).2.2.2.2.1 x c (c1 _ _ e)⟩
  bs:=I3.bs
  bsz:=Nat.le_trans I3.ok.bsz I3.sz
  noex:=fun b o e hb=>by
   rcases (f3 b hb).2.2.2.1 with z|z
   ·exact I3.ok.noex b o e z
   ·exact absurd (Nat.lt_of_lt_of_le (Heap.lt_size e) (Nat.le_trans I3.ok.bsz z)) (Nat.lt_irrefl _)
  exfs:=fun b hb hs=>by
   rcases List.mem_cons.mp (I3.stkSub b hs) with z|z
   ·exact(f3 b hb).2.1 z
   ·exact(f3 b hb).2.2.1 z
  funs:=I3.stack
  frf:=I3.stkFree }
 os:=rfl
 bare:=I3.bare
 base:=Un.kept up
 loc:=⟨m0,hns,fun i y v e1 e2 e3=>by
  obtain⟨j,g1,g2,g3,g4⟩:=hσ i y v e1 e2;obtain⟨m,hn,hl'⟩:=I3.loc;obtain⟨u,r,l⟩:=hl' j y v g1 g2 (.inr g4);refine⟨u,r,.inr ⟨XL g3,?_⟩⟩;rcases l with⟨z,_⟩|⟨_,c,e,z⟩
  ·have z':X.env.scope.names.lookup y=some .local:=z
   rcases g4 with w|w<;>(rw[z']at w;cases w)
  ·have q:=c2 y g3
   cases q':cl.lookup y with
   |none=>rw[q']at q;cases q
   |some c'=>
    have:=c1 _ _ q';rw[e]at this;cases this
    obtain⟨o,ho,hd⟩:=z;exact⟨c,q',o,up c o ho,hd⟩⟩
 cell:=fun y c e=>by
  obtain⟨v,o,ho,hd⟩:=I3.cell y c (c1 _ _ e);exact⟨v,o,up c o ho,hd⟩
 free:=I3.hok.fresh (Nat.le_refl _)
 freeC:=fun y c e=>I3.freeC y c (c1 _ _ e)
 pin:=fun p hp=>by
  have hp':p∈X.pn++pQ:=by simpa[cxC] using hp
  obtain⟨e,n,ne,nf,d⟩:=I3.pin p hp';refine⟨up _ _ e,n,Nat.ne_of_lt (Heap.lt_size e),fun hs=>?_,d⟩
  rcases List.mem_cons.mp (I3.stkSub _ hs) with z|z
  ·exact ne z
  ·exact nf z
 hok:=I3.hok.kept up
 len:=hl
theorem Zd8(I3:L2.Inv X pQ σ H3 s3){env:PySem.Env}{pins':Li (Ad×Obj)}{σ':L2.St}{H':Hp}{s':Sd}{h':Heap}(hC:env.locals=s3.heap.objs.size)(I':L2.Inv (cxC X N env s3 H3 fp pQ) pins' σ' H' s')(sb:Heap.SameBut s3.heap.objs.size s'.heap h')(f3:∀ b∈fp,FpOk X pQ H3 b):L2.Inv X pQ σ H' { s' with heap:=h' }:=by
 have u:Un (frs X.stack) fp H3 H' s3.heap s'.heap:=I'.base;have ne:∀ b o,s3.heap.get? b=some o->b≠s3.heap.objs.size:=fun b o e=>Nat.ne_of_lt (Heap.lt_size e)
 have fr:H' s3.heap.objs.size=none:=by have:=I'.free;rw[show(cxC X N env s3 H3 fp pQ).env.locals=s3.heap.objs.size from hC]at this;exact this
 refine I3.call' (s':={ s' with heap:=h' }) (ch:=fp) I'.os ⟨fun b o e n hb hx=>?_,fun b o e n hb hx=>?_,u.free,fun b o e hx=>?_,u.tups,u.frzs,u.tbls⟩ (fun b ob e=>?_) I'.bare (fun b hb=>?_)
 ·exact(sb.2 b (ne b o e)).trans (u.keep b o e n hb hx)
 ·obtain⟨sl,e1⟩:=u.slot b o e n hb hx
  exact⟨sl,(sb.2 b (ne b o e)).trans e1⟩
 ·obtain⟨o',e1⟩:=u.there b o e hx
  exact⟨o',(sb.2 b (ne b o e)).trans e1⟩
 ·refine(I'.hok b ob e).stay (fun c w' hc q=>(sb.2 c ?_).trans q) (fun _ q=>q) fun _ _ q=>q
  rintro rfl
  rcases hc with rfl|hc
  ·rw[fr]at e;cases e
  ·rw[fr]at hc;cases hc
 ·exact⟨(f3 b hb).2.2.2.1,(f3 b hb).2.1,(f3 b hb).2.2.2.2.1,(f3 b hb).2.2.2.2.2⟩
end
end Dp



namespace Dp
open PySem PySem.Spec PyProof.Rows L2
variable [ClsTab]
theorem Uo{N:Li Str}:∀ {l:Li Str}{fr:Li Nat},X9 N l=some fr->fr.length=l.length/\∀ (i:Nat) (k:Nat),fr[i]?=some k->∃ y,l[i]?=some y/\N[k]?=some y
 |[],fr,h=>by cases h;exact⟨rfl,fun i k e=>by simp at e⟩
 |x :: r,fr,h=>by
  unfold X9 at h;split at h
  ·rename_i a as e1 e2
   cases h;obtain⟨h1,h2⟩:=Uo e2;refine⟨by simp[h1],fun i k e=>?_⟩
   cases i with
   |zero=>simp at e;subst e;exact⟨x,rfl,WG e1⟩
   |succ i=>exact h2 i k (by simpa using e)
  ·cases h
theorem StOk.lt{X:Cx}{pQ:Li (Ad×Obj)}{σ:L2.St}{H:Hp}{s:Sd}{ad:Li Ad}{st:Za}{a:Ad}(I:L2.Inv X pQ σ H s)(S:StOk X.K ad H st)(h:a∈ad):a < s.heap.objs.size:=by
 obtain⟨i,hi,e⟩:=List.getElem_of_mem h;rcases S.has (show ad[i]?=some a by rw[Lg hi,e]) with⟨o,q⟩|⟨o,q⟩
 ·exact I.hok.lt q
 ·exact Heap.lt_size (I.kIn a o q)
theorem ZdB{K:Fg}{ad:Li Ad}{H:Hp}{σ bs:L2.St}{ρ:Env}{fr:Li Nat}{b:D->Li (Ot D)}{d:D}(E:EnvOk K ad H σ ρ)(hd:EnvOk K ad H bs (b d)):EnvOk K ad H (bs++fr.map fun i=>(σ[i]?).join) (Xj b ρ fr d):=by
 refine⟨by simp[Xj,hd.len],fun i e h=>?_⟩
 unfold Xj at h;by_cases hi:i < (b d).length
 ·rw[List.getElem?_append_left hi]at h
  rw[List.getElem?_append_left (by rw[hd.len];exact hi)]
  exact hd.at_ i e h
 ·have hi:(b d).length<=i:=Nat.le_of_not_lt hi
  rw[List.getElem?_append_right hi,List.getElem?_map]at h;rw[List.getElem?_append_right (by rw[hd.len];exact hi),List.getElem?_map,hd.len]
  cases q:fr[i - (b d).length]? with
  |none=>rw[q]at h;cases h
  |some k=>
   rw[q]at h;have h:(ρ[k]?).join=some e:=by simpa using h
   have h2:ρ[k]?=some (some e):=by
    cases z:ρ[k]? with
    |none=>rw[z]at h;cases h
    |some o=>rw[z]at h;rw[show o=some e from h]
   obtain⟨w,e1,e2⟩:=E.at_ k e h2;exact⟨w,by simp[e1],e2⟩
def Va(K:Fg)(tg:Expr)(xs:Li Str)(b:D->Li (Ot D))(ds:Li D):Prop:=
 ∀ X:Cx,X.K=K->X.calm=true->X.N.Nodup->(∀ (i:Nat) x,xs[i]?=some x->X.N[i]?=some x)->(∀ y∈xs,X.env.scope.names.lookup y=some .local)->∀ (pQ:Li (Ad×Obj)) (s:Sd) (os fv:L2.St) (H:Hp) (ad:Li Ad) (v:V) (u:vL) (d:D),os.length=xs.length->L2.Inv X pQ (os++fv) H s->RelV v u->Den K ad H v d->d∈ds->
  wpAny (model X.prog X.w) X.A (assign tg X.env u) (fun _ s'=>∃ bs,bs.length=xs.length/\EnvOk K ad H bs (b d)/\L2.Inv X pQ (bs++fv) H s') X.xe s
theorem Jp{K:Fg}{x:Str}{px:Pos}{ds:Li D}:Va K (.Name x px) [x] one ds:=by
 intro X hK hc hN hx hl pQ s os fv H ad v u d ho I r dv _;obtain⟨o,rfl⟩:∃ o,os=[o]:=by match os,ho with|[o],_=>exact⟨o,rfl⟩
 have lx:=hl x Ls;have pg:PG X (.Name x px) (gName 0):=pg_name hN (hx 0 x rfl) (.inl lx) (.inr lx);refine thn (pg pQ s _ H v u (fun σ' H'=>σ'=[some v]++fv/\H'=H) I r ⟨rfl,rfl⟩) fun _ s' ⟨σ',H',I',e,e'⟩=>?_
 subst e;subst e'
 exact⟨[some v],rfl,⟨rfl,fun i e h=>by
  cases i with
  |zero=>cases h;exact⟨v,rfl,dv⟩
  |succ i=>exact nomatch (show(none:Ot (Ot D))=some (some e) from h)⟩,I'⟩
theorem Jq{K:Fg}{x y:Str}{px py tp:Pos}{k:Nat}{ds:Li D}(hds:∀ d∈ds,∃ a b,d=.tup [a,b]):Va K (.Tuple [.Name x px,.Name y py] k tp) [x,y] two ds:=by
 intro X hK hc hN hx hl pQ s os fv H ad v u d ho I r dv hd;obtain⟨o,o',rfl⟩:∃ o o',os=[o,o']:=by match os,ho with|[o,o'],_=>exact⟨o,o',rfl⟩
 obtain⟨a,b,rfl⟩:=hds d hd;have lx:=hl x Ls;have ly:=hl y (Lm _ Ls);have g1:PG X (.Name x px) (gName 0):=pg_name hN (hx 0 x rfl) (.inl lx) (.inr lx);have g2:PG X (.Name y py) (gName 1):=pg_name hN (hx 1 y rfl) (.inl ly) (.inr ly);have pg:PG X (.Tuple [.Name x px,.Name y py] k tp) _:=pg_tup hc (pgs_cons g1 (pgs_cons g2 pgs_nil))
 obtain⟨p,vs,rfl,ha,rv⟩:=dv.ofTup;cases rv with
 |cons da rv=>cases rv with
  |cons db rv=>
   cases rv;rename_i va vb;refine thn (pg pQ s _ H _ u (fun σ' H'=>σ'=[some va,some vb]++fv/\H'=H) I r ⟨p,[va,vb],rfl,by rw[hK];exact ha.sq,rfl,va,[vb],rfl,vb,[],rfl,rfl,rfl,rfl⟩) fun _ s' ⟨σ',H',I',e,e'⟩=>?_
   subst e;subst e'
   exact⟨[some va,some vb],rfl,⟨rfl,fun i e h=>by
    cases i with
    |zero=>cases h;exact⟨va,rfl,da⟩
    |succ i=>cases i with
     |zero=>cases h;exact⟨vb,rfl,db⟩
     |succ i=>exact nomatch (show(none:Ot (Ot D))=some (some e) from h)⟩,I'⟩
section
variable {X:Cx}{G:Gs}{F:Nat->Fn}{sc sc2:Scope}{N xs:Li Str}
theorem Y2(h:XW sc sc2 xs=true):sc2.kind=.function/\(∀ p∈sc2.names,p.2≠.cell)/\(∀ x∈xs,sc2.names.lookup x=some .local)/\(∀ p∈sc2.names,p.2=.local->sc2.names.lookup p.1=some .local)/\(xs++Yf sc2).Nodup/\∀ y∈Yf sc2,Ua sc y=true/\sc2.names.lookup y=some .free:=by
 unfold XW at h;simp only[Ba,decide_eq_true_eq,List.all_eq_true,Bool.or_eq_true,Bool.not_eq_true',decide_eq_false_iff_not]at h;obtain⟨⟨⟨⟨⟨h1,h2⟩,h3⟩,h4⟩,h5⟩,h6⟩:=h;exact⟨h1,h2,h3,fun p hp e=>(h4 p hp).elim (fun z=>absurd e z) id,h5,h6⟩
theorem mem_frees{y:Str}:y∈Yf sc2↔(y,NameKind.free)∈sc2.names:=by
 unfold Yf;rw[List.mem_map];constructor
 ·rintro⟨⟨n,k⟩,h,rfl⟩
  rw[List.mem_filter]at h;have:k=.free:=of_decide_eq_true h.2;rw[<-this];exact h.1
 ·intro h
  exact⟨(y,.free),List.mem_filter.mpr ⟨h,by simp⟩,rfl⟩
theorem mem_of_lookup{y:Str}{k:NameKind}:∀ {l:Li (Str×NameKind)},l.lookup y=some k->(y,k)∈l
 |[],h=>by cases h
 | (n,q) :: l,h=>by
  rw[List.lookup_cons]at h;split at h
  ·rename_i e
   cases h;rw[beq_iff_eq.mp e];exact Ls
  ·exact Lm _ (mem_of_lookup h)
theorem Zdw(Kx:Cxt X G F sc N)(hsc:XW sc sc2 xs=true){cl:Li (Str×Ad)}{C:Ad}{s3:Sd}{H3:Hp}{fp:Li Ad}{pQ:Li (Ad×Obj)}:Cxt (cxC X (xs++Yf sc2) (compEnvC sc2 cl C X.env) s3 H3 fp pQ) G F sc2 (xs++Yf sc2):=by
 obtain⟨h1,h2,h3,h4,h5,h6⟩:=Y2 hsc;exact {
  hN:=rfl
  vis:=fun y hy=>by
   rcases Zfu hy with z|z|z
   ·exact .inl (Xm z (by intro q;cases q))
   ·exact absurd rfl (h2 _ (mem_of_lookup z))
   ·rcases XL (env:=X.env) z with w|w
    ·exact .inr (.inl w)
    ·exact .inr (.inr w)
  glb:=fun y hy=>Xm (Zbv hy) (by intro q;cases q)
  calm:=Kx.calm
  hu:=Kx.hu
  gl:=Kx.gl
  cel:=fun y hy=>by
   rcases Zbm hy with z|z
   ·exact absurd rfl (h2 _ (mem_of_lookup z))
   ·exact XL z
  nx:=rfl }
theorem Zdr{ok:Za->Prop}{f c:D->Za->Res}{xs:Li D}{st:Za}{r:Li D×Za}(h:YS ok f c xs st=some r):ok st:=by
 unfold YS at h;split at h
 ·split at h
  ·assumption
  ·cases h
 ·split at h
  ·assumption
  ·cases h
noncomputable def evB(F:Nat->Fn)(c:CE)(b:D->Li (Ot D))(ρ:Env)(fr:Li Nat):D->Za->Res:=fun d s=>ev F c (Xj b ρ fr d) s
inductive CI(X:Cx)(tn:Nat->Heap->Prop)(fp:List Addr)(fv σ:L2.St)(ρ:Env)(w:Nat)(ds:List D)(go:List D->Za->Option (List D×Za))(Good:List Addr->Hp->Prop)(dd:Addr)(ad2:List Addr)(H2:Hp)(st':Za)(ys:List D)(m:Nat)(s:Shared):Prop
 |mk (i:Nat) (o0:L2.St) (H:Hp) (ad:List Addr) (st:Za) (vs:List V) (es zs:List D) (him:i+m=ds.length) (hol:o0.length=w) (I:L2.Inv X [] (o0++fv) H s) (ti:tn i s.heap) (fi:∀ b∈fp,H b=none) (En:EnvOk X.K ad H σ ρ) (S:StOk X.K ad H st) (Gd:Good ad H) (nd:dd∉ad) (hv:H dd=some (.lst vs)) (rv:Dens X.K ad H vs es) (hel:es.length<=i)
  (hcp:go (ds.drop i) st=some (zs,st')) (hys:es++zs=ys) (ex:Ext ad2 H2 ad H):CI X tn fp fv σ ρ w ds go Good dd ad2 H2 st' ys m s
theorem Zcw(Kx:Cxt X G F sc2 N){n:Nat}(ihE:ZG G F n){elt iter tg:Expr}{pos:Pos}{ifs:Li Expr}{fr:Li Nat}{ce cc:CE}{bd:D->Li (Ot D)}(hce:cE G n sc2 N elt=some ce)(hcc:(ifs=[]/\cc=.cst (.bl true))\/∃ e,ifs=[e]/\cE G n sc2 N e=some cc){J:It}{fp:Li Ad}{it:Ad}{tn:Nat->Heap->Prop}{ds:Li D}{ok:Za->Prop}{Good:Li Ad->Hp->Prop}(gm:∀ ad H ad' H',Ext ad H ad' H'->Good ad H->Good ad' H')(gw:∀ ad H p xs ys,H p=some (.lst xs)->Good ad H->Good ad (upd H p (.lst ys)))(go:∀ i ad H st,Good ad H->StOk X.K ad H st->ok st->i < ds.length->J.go i H)(stop:∀ i ad H st,Good ad H->StOk X.K ad H st->ok st->ds.length=i->J.stop i H)(yl:∀ i ad H st v H',Good ad H->StOk X.K ad H st->ok st->J.yld i H v H'->i < ds.length->Ext ad H ad H'/\StOk X.K ad H' st/\∃ d,ds[i]?=some d/\Den X.K ad H' v d)(T:Turn X.prog X.w X.K tg J fp it tn)(B:Va X.K tg xs bd ds)(hN:X.N.Nodup)(hx:∀ (i:Nat) x,xs[i]?=some x->X.N[i]?=some x)(hl:∀ y∈xs,X.env.scope.names.lookup y=some .local)(exx:X.xe=fun _ _=>False)(fpk:∀ {H:Hp},(∀ b∈fp,H b=none)->∀ b∈fp,FpOk X [] H b){fv σ:L2.St}{ρ:Env}(ec:∀ {ad H bs d},EnvOk X.K ad H σ ρ->EnvOk X.K ad H bs (bd d)->EnvOk X.K ad H (bs++fv) (Xj bd ρ fr d)){dd:Ad}{ad2:Li Ad}{H2:Hp}{st':Za}{ys:Li D}(D0:H2 dd=none)(hz:ds.length<=1000){R:Result->Sd->Prop}(done:∀ s5 σ5 H ad vs,L2.Inv X [] σ5 H s5->StOk X.K ad H st'->dd∉ad->H dd=some (.lst vs)->Dens X.K ad H vs ys->Ext ad2 H2 ad H->R (.ok .next) s5){s:Sd}{m:Nat}(h0:CI X tn fp fv σ ρ xs.length ds (YS ok (evB F ce bd ρ fr) (evB F cc bd ρ fr)) Good dd ad2 H2 st' ys m s) :
  codeAny (model X.prog X.w) X.A (.compLoop (.ListComp elt [⟨tg,iter,ifs,0⟩] sc2 pos) 0 (.ref it) (.ref dd) X.env) R s:=by
 refine Jx _ (fun m s h=>?_) m h0
 cases h with
 |mk i o0 H ad st vs es zs him hol I ti fi En S Gd nd hv rv hel hcp hys ex=>
 have oks:=Zdr hcp;have none_of:∀ {E:vL->Sd->Prop}{α:Type}{t:Sem α}{R:α->Sd->Prop}{s0:Sd},wpAny (model X.prog X.w) X.A t R X.xe s0->wpAny (model X.prog X.w) X.A t R E s0:=fun h=>by
  rw[exx]at h;exact wpAny_mono h (fun _ _ q=>q) fun _ _ q=>q.elim
 by_cases hi:i < ds.length
 ·refine thn (T.item X rfl rfl rfl Kx.calm i [] s _ H _ I (fpk fi) ti (go i ad H st Gd S oks hi)) fun r s5 ⟨u,hr,h5'⟩=>?_
  subst hr;refine thn h5' fun _ s6 ⟨v,H',I6,r6,y6,t6,f6⟩=>?_
  obtain⟨x6,S6,d,ed,dv⟩:=yl i ad H st v H' Gd S oks y6 hi;have hd:ds.drop i=d :: ds.drop (i+1):=by
   rw[List.drop_eq_getElem_cons hi];rw[Lg hi]at ed;cases ed;rfl
  refine thn (none_of (B X rfl Kx.calm hN hx hl _ s6 o0 _ H' ad v u _ hol (I6.pinned (fpk f6) (T.obj _ _ t6)) r6 dv (List.mem_of_getElem? ed))) fun _ s7 ⟨bs,lb,Eb,I7⟩=>?_
  have En6:=En.mono x6;have En7:=ec En6 Eb
  -- behind the item's turn
  have again:∀ {H9:Hp}{s9:Sd}{ad9:Li Ad}{st9:Za}{vs9:Li V}{es9 zs9:Li D},L2.Inv X ([]++pinsAt fp s6.heap) (bs++fv) H9 s9->StOk X.K ad9 H9 st9->Good ad9 H9->dd∉ad9->H9 dd=some (.lst vs9)->Dens X.K ad9 H9 vs9 es9->es9.length<=i+1->
    YS ok (evB F ce bd ρ fr) (evB F cc bd ρ fr) (ds.drop (i+1)) st9=some (zs9,st')->es9++zs9=ys->Ext ad2 H2 ad9 H9->EnvOk X.K ad9 H9 σ ρ->
    ∃ m',m' < m/\CI X tn fp fv σ ρ xs.length ds (YS ok (evB F ce bd ρ fr) (evB F cc bd ρ fr)) Good dd ad2 H2 st' ys m' s9:=
   fun I9 S9 G9 n9 v9 r9 l9 c9 y9 x9 e9=>
    have pk:=fun b hb o e=>I9.pin (b,o) (List.mem_append_right _ (List.mem_append_right _ (mem_pinsAt hb e)))
    ⟨m - 1,by omega,.mk (i+1) bs _ _ _ _ _ _ (by omega) lb I9.unpinned (T.keep _ _ _ t6 fun b hb o e=>(pk b hb o e).1) (fun b hb=>let ⟨o,e,_⟩:=T.obj _ _ t6 b hb;(pk b hb o e).2.1) e9 S9 G9 n9 v9 r9 l9 c9 y9 x9⟩
  -- the tests
  have tests:∀ {k:Bool}{st2:Za},evB F cc bd ρ fr d st=some (.bl k,st2)->∀ {R:Bool->Sd->Prop}{E:vL->Sd->Prop},(∀ s8 H8 ad8,L2.Inv X ([]++pinsAt fp s6.heap) (bs++fv) H8 s8->Ext ad H' ad8 H8->StOk X.K ad8 H8 st2->R k s8)->
    wpAny (model X.prog X.w) X.A (forIn ifs true fun c r=>if r=true then do let ok <-isTrue c X.env (eval c X.env);pure (ForInStep.yield ok) else pure (ForInStep.yield r)) R E s7:=fun {k st2} q {R E} hR=>by
   rcases hcc with⟨rfl,rfl⟩|⟨e,rfl,he⟩
   ·cases q
    exact wpAny_tests_nil (hR s7 H' ad I7 (Ext.refl _ _) S6)
   ·refine wpAny_tests_one (thn (none_of ((ihE X sc2 _ Kx e cc he).pt _ s7 _ H' (fun k' H8=>k'=k/\∃ ad8,Ext ad H' ad8 H8/\StOk X.K ad8 H8 st2) I7 ⟨ad,Xj bd ρ fr d,st,k,st2,En7,S6,q,fun ad' H' x S'=>⟨rfl,ad',x,S'⟩⟩)) fun k' s8 ⟨H8,I8,e8,ad8,x8,S8⟩=>?_)
    subst e8;exact hR s8 H8 ad8 I8 x8 S8
  have n8:∀ {ad8 H8},Ext ad H' ad8 H8->dd∉ad8:=fun x8 z=>((x6.trans x8).new dd z).elim nd fun w=>by rw[hv]at w;cases w
  have v8:∀ {ad8 H8},Ext ad H' ad8 H8->H8 dd=some (.lst vs):=fun x8=>(x6.trans x8).keep dd _ hv nd
  have rv6:=rv.mono x6;have ex6:=ex.trans x6;have G6:=gm _ _ _ _ x6 Gd;clear x6 En Eb ex Gd S I hv rv;rw[hd]at hcp;unfold YS at hcp;rw[if_pos oks]at hcp;split at hcp
  ·rename_i st2 q1
   split at hcp
   ·rename_i y st3 q2
    split at hcp
    ·rename_i zs' st4 q3
     cases hcp;refine tests q1 fun s8 H8 ad8 I8 x8 S8=>?_
     rw[if_pos rfl];refine thn (none_of ((ihE X sc2 _ Kx elt ce hce).pe _ s8 _ H8 (fun v8 H9=>∃ ad9,Ext ad8 H8 ad9 H9/\StOk X.K ad9 H9 st3/\Den X.K ad9 H9 v8 y) I8 ⟨ad8,Xj bd ρ fr d,st2,y,st3,En7.mono x8,S8,q2,fun v8 ad' H' x S' dn=>⟨ad',x,S',dn⟩⟩)) fun u9 s9 ⟨v9,H9,I9,r9,ad9,x9,S9,d9⟩=>?_
     have x89:=x8.trans x9;have hv9:=v8 x89;have hlen:vs.length=es.length:=rv6.length;refine thn (none_of (mt_append (X:=X) _ s9 _ H9 (.ref dd) [v9] (.ref dd) [u9] (fun _ H10=>H10=upd H9 dd (.lst (vs++[v9]))) I9 rfl (.cons r9 .nil) ⟨dd,vs,v9,rfl,rfl,hv9,Nat.lt_of_le_of_lt (show vs.length<=1000 by omega) (by decide),rfl⟩)) fun u10 s10 ⟨v10,H10,I10,r10,e10⟩=>?_
     subst e10;have nd9:=n8 x89;exact again (vs9:=vs++[v9]) (es9:=es++[y]) (zs9:=zs') I10 (S9.wr hv9 nd9) (gw _ _ _ _ _ hv9 (gm _ _ _ _ x89 G6)) nd9 upd_same (((rv6.mono x89).append (.cons d9 .nil)).wr hv9) (by rw[List.length_append,List.length_singleton];omega) q3 (by rw[<-hys,List.append_assoc];rfl) ((ex6.trans x89).wr hv9 D0) ((En6.mono x89).wr hv9)
    ·cases hcp
   ·cases hcp
  ·rename_i st2 q1
   refine tests q1 fun s8 H8 ad8 I8 x8 S8=>?_
   rw[if_neg Bf];exact again I8 S8 (gm _ _ _ _ x8 G6) (n8 x8) (v8 x8) (rv6.mono x8) (by omega) hcp hys (ex6.trans x8) (En6.mono x8)
  ·cases hcp
 ·refine thn (T.done X rfl rfl rfl Kx.calm i [] s _ H _ I (fpk fi) ti (stop i ad H st Gd S oks (by omega))) fun r s5 ⟨hr,I5⟩=>?_
  subst hr;rw[List.drop_eq_nil_of_le (Nat.le_of_not_lt hi)]at hcp;unfold YS at hcp;rw[if_pos oks]at hcp;cases hcp;rw[List.append_nil]at hys;subst hys;exact done s5 _ H ad vs I5 S nd hv rv ex
theorem ZaB(Kx:Cxt X G F sc N){n:Nat}(ihE:ZG G F n){elt iter tg:Expr}{pos:Pos}{ifs:Li Expr}{fr:Li Nat}{ce cc:CE}(hsc:XW sc sc2 xs=true)(hfr:X9 N (Yf sc2)=some fr){bd:D->Li (Ot D)}(hce:cE G n sc2 (xs++Yf sc2) elt=some ce)(hcc:(ifs=[]/\cc=.cst (.bl true))\/∃ e,ifs=[e]/\cE G n sc2 (xs++Yf sc2) e=some cc){cl:Li (Str×Ad)}(c1:∀ y c,cl.lookup y=some c->X.env.cells.lookup y=some c)(c2:∀ y,(y,NameKind.free)∈sc2.names->(cl.lookup y).isSome){J:It}{fp:Li Ad}{it:Ad}{tn:Nat->Heap->Prop}{ds:Li D}{ok:Za->Prop}{use:Ot (vL->Sem Unit)}{R0:vL->Sd->Prop}{Good:Li Ad->Hp->Prop}(gm:∀ ad H ad' H',Ext ad H ad' H'->Good ad H->Good ad' H')(gw:∀ ad H p xs ys,H p=some (.lst xs)->Good ad H->Good ad (upd H p (.lst ys)))(go:∀ i ad H st,Good ad H->StOk X.K ad H st->ok st->i < ds.length->J.go i H)(stop:∀ i ad H st,Good ad H->StOk X.K ad H st->ok st->ds.length=i->J.stop i H)(yl:∀ i ad H st v H',Good ad H->StOk X.K ad H st->ok st->J.yld i H v H'->i < ds.length->Ext ad H ad H'/\StOk X.K ad H' st/\∃ d,ds[i]?=some d/\Den X.K ad H' v d){pQ:Li (Ad×Obj)}{σ:L2.St}{H2:Hp}{s2 s3:Sd}{dd:Ad}{h₁:Heap}{m0:Str->Ot vL}{tk:Nat}{Q:VK}{ad2:Li Ad}{ρ:Env}{st1 st':Za}{ys:Li D}(B:Va X.K tg xs bd ds)(T:Turn X.prog X.w X.K tg J fp it tn)(t2:tn 0 s2.heap)(f2:∀ b∈fp,FpOk X pQ H2 b)(fb:∀ b∈fp,b < dd)(E2:EnvOk X.K ad2 H2 σ ρ)(S2:StOk X.K ad2 H2 st1)(g2:Good ad2 H2)(hcomp:YS ok (fun d s=>ev F ce (Xj bd ρ fr d) s) (fun d s=>ev F cc (Xj bd ρ fr d) s) ds st1=some (ys,st'))(hz:ds.length<=1000)(hp:Post X.K ad2 H2 (.lst st'.length) (st'++[(true,ys)]) Q)(hend:∀ C dd s5 H5 m',s5.heap.Ns C m'->(∀ h',Heap.SameBut C s5.heap h'->L2.Inv X pQ σ H5 { s5 with heap:=h' })->FpOk X pQ H5 C->Q (.ref dd) H5->compPost (model X.prog X.w) X.A X.xe use R0 (.ref dd) C (.ok .next) s5)  (D0:H2 dd=none) (I3:L2.Inv X pQ σ (upd H2 dd (.lst [])) s3) (z3:s3.heap.objs.size=dd+1) (nad:dd∉ad2) (hns₁:h₁.Ns s3.heap.objs.size m0) (up:∀ b u,s3.heap.get? b=some u->h₁.get? b=some u) (up0:∀ b u,s2.heap.get? b=some u->s3.heap.get? b=some u) :
  codeAny (model X.prog X.w) X.A (.compStart (.ListComp elt [⟨tg,iter,ifs,0⟩] sc2 pos) 0 (.ref it) (.ref dd) (compEnvC sc2 cl s3.heap.objs.size X.env)) (compPost (model X.prog X.w) X.A X.xe use R0 (.ref dd) s3.heap.objs.size) { s3 with heap:=h₁,toks:=tk }:=by
 obtain⟨h1,h2,h3,h4,h5,h6⟩:=Y2 hsc;have f3:∀ b∈fp,FpOk X pQ (upd H2 dd (.lst [])) b:=fun b hb=>⟨by rw[upd_ne (Nat.ne_of_lt (fb b hb))];exact(f2 b hb).1,(f2 b hb).2⟩
 obtain⟨fl,fg⟩:=Uo hfr;have I4:=Zd9 (N:=xs++Yf sc2) (cl:=cl) (fp:=fp) (tk:=tk) (σ':=List.replicate xs.length none++fr.map fun i=>(σ[i]?).join) I3 h1 h2 hns₁ up c1 (fun y e=>c2 y (mem_of_lookup e)) f3 (fun b hb=>by rw[z3];exact Nat.lt_succ_of_lt (fb b hb)) (fun i y v e1 e2=>by
  by_cases hi:i < xs.length
  ·rw[List.getElem?_append_left (by simpa using hi),List.getElem?_replicate,if_pos hi]at e2;cases e2
  ·have hi:xs.length<=i:=Nat.le_of_not_lt hi
   rw[List.getElem?_append_right (by simpa using hi),List.getElem?_map,List.length_replicate]at e2
   rw[List.getElem?_append_right hi]at e1;cases q:fr[i - xs.length]? with
   |none=>rw[q]at e2;cases e2
   |some k=>
    rw[q]at e2;have e2:(σ[k]?).join=some v:=by simpa using e2
    have e3:σ[k]?=some (some v):=by
     cases w:σ[k]? with
     |none=>rw[w]at e2;cases e2
     |some o=>rw[w]at e2;rw[show o=some v from e2]
    obtain⟨y',g1,g2⟩:=fg _ k q;rw[e1]at g1;cases g1
    obtain⟨k1,k2⟩:=h6 y (List.mem_of_getElem? e1);exact⟨k,by rw[Kx.hN];exact g2,e3,k2,Kx.cel y k1⟩) (by simp[fl])
 have K':=Zdw (cl:=cl) (C:=s3.heap.objs.size) (s3:=s3) (H3:=upd H2 dd (.lst [])) (fp:=fp) (pQ:=pQ) Kx hsc;have loop:=Zcw (R:=compPost (model X.prog X.w) X.A X.xe use R0 (.ref dd) s3.heap.objs.size) (pos:=pos) (iter:=iter) K' ihE hce hcc gm gw go stop yl T B h5 (fun i x e=>by show(xs++Yf sc2)[i]?=some x;rw[List.getElem?_append_left (List.getElem?_eq_some_iff.mp e).1];exact e) (fun y hy=>Xm (h3 y hy) (by intro q;cases q)) rfl (fun {H} hn b hb=>⟨hn b hb,by
  show b≠s3.heap.objs.size;rw[z3];exact Nat.ne_of_lt (Nat.lt_succ_of_lt (fb b hb)),fun hs=>(List.mem_cons.mp (I3.stkSub b hs)).elim (f2 b hb).2.1 (f2 b hb).2.2.1,.inl hb,fun y c e=>(f2 b hb).2.2.2.2.1 y c (c1 _ _ e),fun p hp=>(f2 b hb).2.2.2.2.2 p (by simpa[cxC] using hp)⟩) (σ:=σ) (ρ:=ρ) (fr:=fr) (fun a b=>ZdB a b) (dd:=dd) (ad2:=ad2) (H2:=H2) (st':=st') (ys:=ys) D0 hz (fun s5 σ5 H ad vs I5 S nd hv rv ex=>by
   obtain⟨m',hn,_⟩:=I5.loc;refine hend s3.heap.objs.size dd s5 H m' hn (fun h' sb=>Zd8 I3 rfl I5 sb f3) (I3.fpOk (Nat.le_refl _) I5.free) (hp (.ref dd) (ad++[dd]) H ⟨fun j a e=>Wc (ex.pre j a e),ex.tup,ex.dk,ex.keep,fun b hb=>?_,ex.kd⟩ (S.adopt hv nd rv) (.lst ⟨by rw[<-S.len];exact Yj,QU hv fun _ z=>nomatch z⟩))
   rcases List.mem_append.mp hb with z|z
   ·exact ex.new b z
   ·rw[List.mem_singleton.mp z];exact .inr D0)
  (.mk 0 (List.replicate xs.length none) (upd H2 dd (.lst [])) ad2 st1 [] [] ys (Nat.zero_add _) (List.length_replicate ..) I4 (T.keep _ _ _ t2 fun b _ o e=>up b o (up0 b o e)) (fun b hb=>(f3 b hb).1) (E2.mono (Ext.laid D0)) (S2.laid D0) (gm _ _ _ _ (Ext.laid D0) g2) nad upd_same .nil (Nat.le_refl _) hcomp rfl (Ext.laid D0))
 exact codeAny_compStart_list loop (T.self X.A 0 _ _ _ (T.keep _ _ _ t2 fun b _ o e=>up b o (up0 b o e)) loop)
theorem Zcv(Kx:Cxt X G F sc N){n:Nat}(ihE:ZG G F n){elt iter tg:Expr}{pos:Pos}{ifs:Li Expr}{fr:Li Nat}{ce cc:CE}(hsc:XW sc sc2 xs=true)(hfr:X9 N (Yf sc2)=some fr){bd:D->Li (Ot D)}(hce:cE G n sc2 (xs++Yf sc2) elt=some ce)(hcc:(ifs=[]/\cc=.cst (.bl true))\/∃ e,ifs=[e]/\cE G n sc2 (xs++Yf sc2) e=some cc){cl:Li (Str×Ad)}(c1:∀ y c,cl.lookup y=some c->X.env.cells.lookup y=some c)(c2:∀ y,(y,NameKind.free)∈sc2.names->(cl.lookup y).isSome){J:It}{fp:Li Ad}{it:Ad}{tn:Nat->Heap->Prop}{ds:Li D}{ok:Za->Prop}{use:Ot (vL->Sem Unit)}{R0:vL->Sd->Prop}(Good:Li Ad->Hp->Prop)(gm:∀ ad H ad' H',Ext ad H ad' H'->Good ad H->Good ad' H')(gw:∀ ad H p xs ys,H p=some (.lst xs)->Good ad H->Good ad (upd H p (.lst ys)))(go:∀ i ad H st,Good ad H->StOk X.K ad H st->ok st->i < ds.length->J.go i H)(stop:∀ i ad H st,Good ad H->StOk X.K ad H st->ok st->ds.length=i->J.stop i H)(yl:∀ i ad H st v H',Good ad H->StOk X.K ad H st->ok st->J.yld i H v H'->i < ds.length->Ext ad H ad H'/\StOk X.K ad H' st/\∃ d,ds[i]?=some d/\Den X.K ad H' v d){pQ:Li (Ad×Obj)}{σ:L2.St}{H2:Hp}{s2:Sd}{Q:VK}{ad2:Li Ad}{ρ:Env}{st1 st':Za}{ys:Li D}(I2:L2.Inv X pQ σ H2 s2)(B:Va X.K tg xs bd ds)(T:Turn X.prog X.w X.K tg J fp it tn)(t2:tn 0 s2.heap)(f2:∀ b∈fp,FpOk X pQ H2 b)(E2:EnvOk X.K ad2 H2 σ ρ)(S2:StOk X.K ad2 H2 st1)(g2:Good ad2 H2)(hcomp:YS ok (fun d s=>ev F ce (Xj bd ρ fr d) s) (fun d s=>ev F cc (Xj bd ρ fr d) s) ds st1=some (ys,st'))(hz:ds.length<=1000)(hp:Post X.K ad2 H2 (.lst st'.length) (st'++[(true,ys)]) Q)(hend:∀ C dd s5 H5 m',s5.heap.Ns C m'->(∀ h',Heap.SameBut C s5.heap h'->L2.Inv X pQ σ H5 { s5 with heap:=h' })->FpOk X pQ H5 C->Q (.ref dd) H5->compPost (model X.prog X.w) X.A X.xe use R0 (.ref dd) C (.ok .next) s5) :
  wpAny (model X.prog X.w) X.A (newList []) (fun acc s₃=>wpAny (model X.prog X.w) X.A (newFunctionEnv sc2 X.env.globals cl [] X.env.qual none .none (some X.env)) (fun cenv s₄=>
   codeAny (model X.prog X.w) X.A (.compStart (.ListComp elt [⟨tg,iter,ifs,0⟩] sc2 pos) 0 (.ref it) acc { cenv with scope:=relabel sc2 X.env }) (compPost (model X.prog X.w) X.A X.xe use R0 acc cenv.locals) s₄) X.xe s₃) X.xe s2:=by
 obtain⟨h1,h2,h3,h4,h5,h6⟩:=Y2 hsc;have fb:∀ b∈fp,b < s2.heap.objs.size:=fun b hb=>let ⟨o,e,_⟩:=T.obj 0 _ t2 b hb;Heap.lt_size e
 refine wpAny_newObj_type (wpAny_newFunctionEnv h2 (by intro y hy;simp at hy) (fun h₁ hns₁ hsb₁=>?_) h1)
 dsimp only at hns₁ hsb₁ ⊢;have I3:L2.Inv X pQ σ (upd H2 s2.heap.objs.size (.lst [])) { s2 with heap:=s2.heap.push { cls:=.type "list",dict:=none,data:=.seq ([]:Li vL).toArray } }:=I2.lnew (its:=[]) (t':=s2.toks) .nil (Nat.zero_le _)
 have e3:s2.heap.push { cls:=.type "list",dict:=none,data:=.seq ([]:Li vL).toArray }=({ s2 with heap:=s2.heap.push { cls:=.type "list",dict:=none,data:=.seq ([]:Li vL).toArray } }:Sd).heap:=rfl
 exact ZaB Kx ihE hsc hfr hce hcc c1 c2 gm gw go stop yl B T t2 f2 fb E2 S2 g2 hcomp hz hp hend (I2.hok.fresh (Nat.le_refl _)) I3 (Heap.size_push ..) (fun z=>absurd (S2.lt I2 z) (Nat.lt_irrefl _)) hns₁ (fun b u e=>hsb₁.extBut b u (Nat.ne_of_lt (Heap.lt_size e)) (Heap.get?_push_of_some _ e)) (fun b u e=>Heap.get?_push_of_some _ e)
end
end Dp



namespace Dp
open PySem PySem.Spec PyProof.Rows L2
variable [ClsTab]
def Zca(X:Cx)(σ:L2.St)(ρ:Env)(ds:Li D)(ok:Za->Prop)(st1 st2:Za)(ys:Li D)(Q:VK)(J:It)(H1:Hp):Prop:=
 ∃ (ad1:Li Ad) (Good:Li Ad->Hp->Prop),(∀ ad H ad' H',Ext ad H ad' H'->Good ad H->Good ad' H')/\(∀ ad H p xs ys,H p=some (.lst xs)->Good ad H->Good ad (upd H p (.lst ys))) /\
  (∀ i ad H st,Good ad H->StOk X.K ad H st->ok st->i < ds.length->J.go i H)/\(∀ i ad H st,Good ad H->StOk X.K ad H st->ok st->ds.length=i->J.stop i H)/\(∀ i ad H st v H',Good ad H->StOk X.K ad H st->ok st->J.yld i H v H'->i < ds.length->Ext ad H ad H'/\StOk X.K ad H' st/\∃ d,ds[i]?=some d/\Den X.K ad H' v d) /\
  EnvOk X.K ad1 H1 σ ρ/\StOk X.K ad1 H1 st1/\Good ad1 H1/\Post X.K ad1 H1 (.lst st2.length) (st2++[(true,ys)]) Q
theorem Ju{X:Cx}{σ:L2.St}{ρ:Env}{ds:Li D}{st st1 st2:Za}{ys:Li D}{Q:VK}{H:Hp}{ad:Li Ad}{f:Ev}(E:EnvOk X.K ad H σ ρ)(S:StOk X.K ad H st)(q:f ρ st=some (.tup ds,st1))(p:Post X.K ad H (.lst st2.length) (st2++[(true,ys)]) Q) :
  iTup X.K (tE X.K f) σ H (Zca X σ ρ ds (fun _=>True) st1 st2 ys Q):=by
 refine⟨ad,ρ,st,.tup ds,st1,E,S,q,fun v ad1 H1 x1 S1 d1=>?_⟩
 obtain⟨a,vs,rfl,ha,rv⟩:=d1.ofTup;refine⟨a,rfl,⟨vs,(ha).sq⟩,ad1,fun ad H=>TupAt X.K H a vs/\Dens X.K ad H vs ds,fun _ _ _ _ x g=>⟨g.1.mono x,g.2.mono x⟩,fun _ H p xs ys hp g=>⟨g.1.upd hp (by intro xs z;cases z),g.2.wr hp⟩,fun i ad H st g _ _ hi=>?_,fun i ad H st g _ _ hi=>⟨vs,(g.1).sq,by rw[g.2.length];exact Nat.le_of_eq hi⟩,
  fun i ad H st v H' g S _ y hi=>?_,E.mono x1,S1,⟨ha,rv⟩,p.later x1⟩
 ·obtain⟨v,e,_⟩:=g.2.get (Lg hi)
  exact⟨vs,v,(g.1).sq,e⟩
 ·obtain⟨w,e,dw⟩:=g.2.get (Lg hi)
  have:=y.2 vs ((g.1).sq);rw[e]at this;cases this
  cases y.1;exact⟨Ext.refl _ _,S,_,Lg hi,dw⟩
theorem Zdq{X:Cx}{σ:L2.St}{ρ:Env}{n:Int}{st st1 st2:Za}{ys:Li D}{Q:VK}{H:Hp}{ad:Li Ad}{f:Ev}(hn:n < 2 ^ 62/\-(2 ^ 62)<=n)(E:EnvOk X.K ad H σ ρ)(S:StOk X.K ad H st)(q:f ρ st=some (.int n,st1))(p:Post X.K ad H (.lst st2.length) (st2++[(true,ys)]) Q) :
  iRng1 (tCons (tE X.K f) tNil) σ H (Zca X σ ρ ((List.range n.toNat).map fun(k:Nat)=>D.int (k:Int)) (fun _=>True) st1 st2 ys Q):=by
 refine⟨ad,ρ,st,.int n,st1,E,S,q,fun v ad1 H1 x1 S1 d1=>?_⟩
 cases d1.ofInt;refine⟨n,rfl,hn.2,hn.1,ad1,fun _ _=>True,fun _ _ _ _ _ _=>trivial,fun _ _ _ _ _ _ _=>trivial,fun i ad H st _ _ _ hi=>(show i < n.toNat by simpa using hi),fun i ad H st _ _ _ hi=>(show n.toNat<=i by simpa using Nat.le_of_eq hi),fun i ad H st v H' _ S _ y hi=>?_,E.mono x1,S1,trivial,p.later x1⟩
 cases y.1;have hi':i < n.toNat:=by simpa using hi
 refine⟨Ext.refl _ _,S,.int (i:Int),?_,?_⟩
 ·rw[List.getElem?_map,List.getElem?_range hi'];rfl
 ·rw[y.2,Int.zero_add];exact .int _
theorem Zdp{X:Cx}{σ:L2.St}{ρ:Env}{l:Nat}{c:Qs}{st st1 st2:Za}{ys:Li D}{Q:VK}{H:Hp}{ad:Li Ad}{f:Ev}(E:EnvOk X.K ad H σ ρ)(S:StOk X.K ad H st)(q:f ρ st=some (.lst l,st1))(hc:st1[l]?=some c)(p:Post X.K ad H (.lst st2.length) (st2++[(true,ys)]) Q) :
  iList X.K (tE X.K f) σ H (Zca X σ ρ c.2 (fun s=>s[l]?=some c) st1 st2 ys Q):=by
 refine⟨ad,ρ,st,.lst l,st1,E,S,q,fun v ad1 H1 x1 S1 d1=>?_⟩
 obtain⟨a,rfl,ha⟩:=d1.ofLst;obtain⟨vs,rv,sq⟩:=S1.list ha (show st1[l]?=some (c.1,c.2) from hc);refine⟨a,rfl,⟨vs,sq⟩,ad1,fun ad H=>LA ad H l a,fun _ _ _ _ x g=>g.mono x,fun _ _ _ _ _ e g=>⟨g.1,fun z=>g.2 ((QQ e).mpr z)⟩,fun i ad H st g S e hi=>?_,fun i ad H st g S e hi=>?_,fun i ad H st v H' g S e y hi=>?_,E.mono x1,S1,ha,p.later x1⟩
 ·obtain⟨vs,rv,sq⟩:=S.list g (show st[l]?=some (c.1,c.2) from e)
  obtain⟨v,e,_⟩:=rv.get (Lg hi);exact⟨vs,v,sq,e⟩
 ·obtain⟨vs,rv,sq⟩:=S.list g (show st[l]?=some (c.1,c.2) from e)
  exact⟨vs,sq,by rw[rv.length];exact Nat.le_of_eq hi⟩
 ·obtain⟨vs,rv,sq⟩:=S.list g (show st[l]?=some (c.1,c.2) from e)
  obtain⟨w,e,dw⟩:=rv.get (Lg hi);have:=y.2 vs sq;rw[e]at this;cases this
  cases y.1;exact⟨Ext.refl _ _,S,_,Lg hi,dw⟩
theorem UU:∀ {xs:Li D}{k i:Nat},(X2 k xs)[i]?=(xs[i]?).map fun x=>.tup [.int ((k+i:Nat):Int),x]
 |[],_,_=>rfl
 |x :: xs,k,0=>rfl
 |x :: xs,k,i+1=>by
  show(X2 (k+1) xs)[i]?=_;rw[UU,show k+1+i=k+(i+1) by omega]
  rfl
theorem Wi:∀ {xs:Li D}{k:Nat},(X2 k xs).length=xs.length
 |[],_=>rfl
 |x :: xs,k=>congrArg (·+1) Wi
theorem Ve:∀ {xs:Li D}{k:Nat},∀ d∈X2 k xs,∃ a b,d=.tup [a,b]
 |[],_,_,h=>nomatch h
 |x :: xs,k,d,h=>by
  rcases List.mem_cons.mp h with rfl|h
  ·exact⟨_,_,rfl⟩
  ·exact Ve d h
theorem Zcr{X:Cx}{σ:L2.St}{ρ:Env}{x:D}{ds:Li D}{ok:Za->Prop}{st st1 st2:Za}{ys:Li D}{Q:VK}{H:Hp}{ad:Li Ad}{f:Ev}(E:EnvOk X.K ad H σ ρ)(S:StOk X.K ad H st)(q:f ρ st=some (x,st1))(hw:Qo x st1=some (ds,ok))(p:Post X.K ad H (.lst st2.length) (st2++[(true,ys)]) Q) :
  Zbw X.K (tCons (tE X.K f) tNil) σ H (Zca X σ ρ ds ok st1 st2 ys Q):=by
 have core:∀ {sq:Hp->Li V->Prop}{xs:Li D}{ok:Za->Prop}{ad1:Li Ad}{H1:Hp} (Good:Li Ad->Hp->Prop),(∀ ad H ad' H',Ext ad H ad' H'->Good ad H->Good ad' H')->(∀ ad H p xs ys,H p=some (.lst xs)->Good ad H->Good ad (upd H p (.lst ys)))->Good ad1 H1->
   (∀ ad H st,Good ad H->StOk X.K ad H st->ok st->∃ vs,Dens X.K ad H vs xs/\sq H vs)->EnvOk X.K ad1 H1 σ ρ->StOk X.K ad1 H1 st1->Post X.K ad1 H1 (.lst st2.length) (st2++[(true,ys)]) Q->Zca X σ ρ (X2 0 xs) ok st1 st2 ys Q (Ite sq) H1:=
  fun {sq xs ok ad1 H1} Good gm gw g1 hv E1 S1 p1=>by
   refine⟨ad1,Good,gm,gw,fun i ad H st g S e hi=>?_,fun i ad H st g S e hi=>?_,fun i ad H st v H' g S e y hi=>?_,E1,S1,g1,p1⟩
   ·rw[Wi]at hi
    obtain⟨vs,rv,sq⟩:=hv ad H st g S e;obtain⟨v,e,_⟩:=rv.get (Lg hi);exact⟨vs,v,sq,e⟩
   ·rw[Wi]at hi
    obtain⟨vs,rv,sq⟩:=hv ad H st g S e;exact⟨vs,sq,by rw[rv.length];exact hi⟩
   ·rw[Wi]at hi
    obtain⟨vs,rv,sq⟩:=hv ad H st g S e;obtain⟨w,e,dw⟩:=rv.get (Lg hi);obtain⟨T,x,rfl,hT,rfl,hx⟩:=y;have:=hx vs sq;rw[e]at this;cases this
    refine⟨Ext.laid hT,S.laid hT,_,by rw[UU,Lg hi];rfl,.tup (.inl upd_same) (.cons ?_ (.cons (dw.mono (Ext.laid hT)) .nil))⟩
    rw[Nat.zero_add];exact .int _
 refine⟨ad,ρ,st,x,st1,E,S,q,fun v ad1 H1 x1 S1 d1=>?_⟩
 cases x with
 |tup xs=>
  cases hw;obtain⟨a,vs,rfl,ha,rv⟩:=d1.ofTup;exact⟨a,rfl,.inr ⟨⟨vs,ha.sq⟩,core (fun ad H=>TupAt X.K H a vs/\Dens X.K ad H vs xs) (fun _ _ _ _ x g=>⟨g.1.mono x,g.2.mono x⟩) (fun _ H p xs ys hp g=>⟨g.1.upd hp (by intro xs z;cases z),g.2.wr hp⟩) ⟨ha,rv⟩ (fun ad H st g _ _=>⟨vs,g.2,g.1.sq⟩) (E.mono x1) S1 (p.later x1)⟩⟩
 |lst l=>
  have hw:(match st1[l]? with
   |some c=>some (X2 0 c.2,fun s=>s[l]?=some c)
   |none=>none)=some (ds,ok):=hw
  cases hc:st1[l]? with
  |none=>rw[hc]at hw;cases hw
  |some c=>
   rw[hc]at hw;cases hw;obtain⟨a,rfl,ha⟩:=d1.ofLst;obtain⟨vs,rv,sq⟩:=S1.list ha (show st1[l]?=some (c.1,c.2) from hc);exact⟨a,rfl,.inl ⟨⟨vs,sq⟩,core (fun ad H=>LA ad H l a) (fun _ _ _ _ x g=>g.mono x) (fun _ _ _ _ _ e g=>⟨g.1,fun z=>g.2 ((QQ e).mpr z)⟩) ha (fun ad H st g S e=>S.list g (show st[l]?=some (c.1,c.2) from e)) (E.mono x1) S1 (p.later x1)⟩⟩
 |_=>cases hw
theorem Zc1{x:D}{st:Za}{ds:Li D}{ok:Za->Prop}(h:Qo x st=some (ds,ok)):∀ d∈ds,∃ a b,d=.tup [a,b]:=by
 cases x with
 |tup xs=>cases h;exact Ve
 |lst l=>
  unfold Qo at h;simp only at h;split at h
  ·cases h;exact Ve
  ·cases h
 |_=>cases h
theorem Zc2{x:D}{st:Za}{ds:Li D}{ok:Za->Prop}(h:Zb5 x st=some (ds,ok)):x=.tup ds/\ok=(fun _=>True)/\∀ d∈ds,∃ a b,d=.tup [a,b]:=by
 unfold Zb5 at h;split at h
 ·split at h
  ·rename_i ha
   cases h;refine⟨rfl,rfl,fun d hd=>?_⟩
   have:=List.all_eq_true.mp ha d hd;unfold ZgC at this;split at this
   ·exact⟨_,_,rfl⟩
   ·cases this
  ·cases h
 ·cases h
theorem ZcZ{tg:Expr}{xs:Li Str}(h:tgN tg=some xs):(∃ x px,tg=.Name x px/\xs=[x])\/∃ x y px py k tp,tg=.Tuple [.Name x px,.Name y py] k tp/\xs=[x,y]:=by
 unfold tgN at h;split at h
 ·cases h;exact .inl ⟨_,_,rfl,rfl⟩
 ·rename_i es k tp
  have nm:∀ {e:Expr}{x:Str},nmE e=some x->∃ p,e=.Name x p:=fun {e x} h=>by
   unfold nmE at h;split at h
   ·cases h;exact⟨_,rfl⟩
   ·cases h
  cases es with
  |nil=>cases h
  |cons a es=>cases es with
   |nil=>cases h
   |cons b es=>cases es with
    |cons _ _=>cases h
    |nil=>
     refine YB (P:=fun xs=>_\/∃ x y px py k' tp',Expr.Tuple [a,b] k tp=.Tuple [.Name x px,.Name y py] k' tp'/\xs=[x,y]) h fun x y hx hy=>?_
     obtain⟨px,rfl⟩:=nm hx;obtain⟨py,rfl⟩:=nm hy;exact .inr ⟨x,y,px,py,k,tp,rfl,rfl⟩
 ·cases h
inductive CSh(G:Gs)(n:Nat)(sc:Scope)(N:List Str)(elt:Expr)(sc2:Scope):List Comprehension->CE->Prop
 |mk {tg it:Expr}{ifs:List Expr}{xs:List Str}{fr:List Nat}{r:Option (Option Bool)}{ci ce cc:CE} (htg:tgN tg=some xs) (hsc:XW sc sc2 xs=true) (hfr:X9 N (Yf sc2)=some fr) (hi:itC G sc it (cE G n sc N) xs=some (r,ci)) (hce:cE G n sc2 (xs++Yf sc2) elt=some ce) (hcc:(ifs=[]/\cc=.cst (.bl true))\/∃ e,ifs=[e]/\cE G n sc2 (xs++Yf sc2) e=some cc):CSh G n sc N elt sc2 [⟨tg,it,ifs,0⟩] (mkC r fr ci ce cc)
theorem Zf6{G:Gs}{n:Nat}{sc:Scope}{N:Li Str}{elt:Expr}{gens:Li Comprehension}{sc2:Scope}{pos:Pos}{c:CE}(h:cE G (n+1) sc N (.ListComp elt gens sc2 pos)=some c):CSh G n sc N elt sc2 gens c:=by
 replace h:ZhP G sc sc2 N (cE G n sc N) (cE G n sc2) elt gens=some c:=h;have no:∀ {P:Prop},(none:Ot CE)=some c->P:=fun z=>nomatch z
 cases gens with
 |nil=>exact no h
 |cons g gs=>
  obtain⟨tg,it,ifs,k⟩:=g;cases k with
  |negSucc _=>cases gs<;>exact no h
  |ofNat m=>cases m with
   |succ _=>cases gs<;>exact no h
   |zero=>cases gs with
    |cons _ _=>exact no h
    |nil=>
     replace h:(match tgN tg with
      |none=>none
      |some xs=>og (XW sc sc2 xs=true) (o3 (fun fr p (q:CE×CE)=>mkC p.1 fr p.2 q.1 q.2) (X9 N (Yf sc2)) (itC G sc it (cE G n sc N) xs) (o2 Prod.mk (cE G n sc2 (xs++Yf sc2) elt) (ifC (cE G n sc2 (xs++Yf sc2)) ifs))))=some c:=h
     cases htg:tgN tg with
     |none=>rw[htg]at h;cases h
     |some xs=>
      rw[htg]at h;refine WH h fun hsc h=>VD (P:=CSh G n sc N elt sc2 _) h fun fr p q hfr hi hq=>YB (P:=fun q:CE×CE=>CSh G n sc N elt sc2 _ (mkC p.1 fr p.2 q.1 q.2)) hq fun ce cc hce hcc=>.mk htg hsc hfr hi hce ?_
      cases ifs with
      |nil=>cases hcc;exact .inl ⟨rfl,rfl⟩
      |cons a l=>cases l with
       |nil=>exact .inr ⟨a,rfl,hcc⟩
       |cons _ _=>cases hcc
inductive CR(b:D->List (Option D))(w:D->Za->Option (List D×(Za->Prop)))(fr:List Nat)(fi fe fc:Ev)(ρ:Env)(st:Za):D->Za->Prop
 |mk {x:D}{st1 st2:Za}{ds ys:List D}{ok:Za->Prop} (q1:fi ρ st=some (x,st1)) (q2:w x st1=some (ds,ok)) (hz:ds.length<=1000) (q3:YS ok (fun d s=>fe (Xj b ρ fr d) s) (fun d s=>fc (Xj b ρ fr d) s) ds st1=some (ys,st2)):CR b w fr fi fe fc ρ st (.lst st2.length) (st2++[(true,ys)])
theorem Wh{b:D->Li (Ot D)}{w:D->Za->Ot (Li D×(Za->Prop))}{fr:Li Nat}{fi fe fc:Ev}{ρ:Env}{st:Za}{d:D}{st':Za}(e:WT b w fr fi fe fc ρ st=some (d,st')):CR b w fr fi fe fc ρ st d st':=by
 unfold WT at e;split at e
 ·split at e
  ·split at e
   ·split at e
    ·cases e;exact .mk ‹_› ‹_› ‹_› ‹_›
    ·cases e
   ·cases e
  ·cases e
 ·cases e
inductive CIt(X:Cx)(pQ:List (Addr×Obj))(s:Shared)(σ:L2.St)(ρ:Env)(tg it:Expr)(xs:List Str)(F:Nat->Fn)(fr:List Nat)(ce cc:CE)(Q:VK):Prop
 |mk {bd:D->List (Option D)}{ds:List D}{ok:Za->Prop}{st1 st2:Za}{ys:List D} (B:Va X.K tg xs bd ds) (hz:ds.length<=1000) (q3:YS ok (fun d s=>ev F ce (Xj bd ρ fr d) s) (fun d s=>ev F cc (Xj bd ρ fr d) s) ds st1=some (ys,st2)) (hp:Zt it=true) (pi:wpAny (model X.prog X.w) X.A (eval it X.env) (fun v s1=>wpAny (model X.prog X.w) X.A (pyIter v) (PIE X pQ σ tg (Zca X σ ρ ds ok st1 st2 ys Q)) X.xe s1) X.xe s):CIt X pQ s σ ρ tg it xs F fr ce cc Q
theorem VM{α β:Type}{f:α->β}{o:Ot α}{b:β}(h:o.map f=some b):∃ a,o=some a/\f a=b:=by
 cases o with
 |none=>cases h
 |some a=>exact⟨a,rfl,by cases h;rfl⟩
theorem Zf4{G:Gs}{F:Nat->Fn}{n:Nat}(ihE:ZG G F n){X:Cx}{sc:Scope}{N:Li Str}(Kx:Cxt X G F sc N){tg it:Expr}{xs:Li Str}{fr:Li Nat}{r:Ot (Ot Bool)}{ci ce cc:CE}(htg:tgN tg=some xs)(hi:itC G sc it (cE G n sc N) xs=some (r,ci)){pQ:Li (Ad×Obj)}{s:Sd}{σ:L2.St}{H:Hp}{Q:VK}(I:L2.Inv X pQ σ H s){ad:Li Ad}{ρ:Env}{st:Za}{d:D}{st':Za}(E:EnvOk X.K ad H σ ρ)(S:StOk X.K ad H st)(e:ev F (mkC r fr ci ce cc) ρ st=some (d,st'))(p:Post X.K ad H d st' Q):CIt X pQ s σ ρ tg it xs F fr ce cc Q:=by
 rcases ZcZ htg with⟨x,px,rfl,rfl⟩|⟨x,y,px,py,k,tp,rfl,rfl⟩
 ·replace hi:(match Z7 G sc it with
   |some a=>(cE G n sc N a).map fun c=>(some (some true),c)
   |none=>(cE G n sc N it).map fun c=>(some (some false),c))=some (r,ci):=hi
  split at hi
  ·rename_i a ha
   obtain⟨ca,q,hi⟩:=VM hi;cases hi;obtain⟨hp,pi⟩:=Vx (tg:=.Name x px) Kx ha (Zs q) (ihE X sc N Kx a _ q).pe;cases Wh e with
   |@mk x0 st1 st2 ds ys ok q1 q2 hz q3=>
    refine .mk Jp hz q3 hp (pi pQ s σ H _ I ?_);cases x0 with
    |int k=>
     have q2:(match (if k < 2 ^ 62/\-(2 ^ 62)<=k then some ((List.range k.toNat).map fun(k:Nat)=>D.int (k:Int)) else none) with
      |some xs=>some (xs,fun _=>True)
      |none=>none)=some (ds,ok):=q2
     by_cases hk:k < 2 ^ 62/\-(2 ^ 62)<=k
     ·rw[if_pos hk]at q2
      cases q2;exact Zdq hk E S q1 p
     ·rw[if_neg hk]at q2
      cases q2
    |_=>cases q2
  ·obtain⟨ca,q,hi⟩:=VM hi
   cases hi;cases Wh e with
   |@mk x0 st1 st2 ds ys ok q1 q2 hz q3=>
    refine .mk Jp hz q3 (Zs q) ?_;cases x0 with
    |tup xs=>cases q2;exact pi_tup (ihE X sc N Kx it _ q).pe pQ s σ H _ I (Ju E S q1 p)
    |lst l=>
     have q2:(match st1[l]? with
      |some c=>some (c.2,fun s=>s[l]?=some c)
      |none=>none)=some (ds,ok):=q2
     cases q4:st1[l]? with
     |none=>rw[q4]at q2;cases q2
     |some c0=>
      rw[q4]at q2;cases q2;exact pi_list (ihE X sc N Kx it _ q).pe pQ s σ H _ I (Zdp E S q1 q4 p)
    |_=>cases q2
 ·replace hi:(match VI G sc it with
   |some a=>(cE G n sc N a).map fun c=>(some none,c)
   |none=>(cE G n sc N it).map fun c=>(none,c))=some (r,ci):=hi
  split at hi
  ·rename_i a ha
   obtain⟨ca,q,hi⟩:=VM hi;cases hi;cases Wh e with
   |mk q1 q2 hz q3=>
    obtain⟨hp,pi⟩:=V4 (elts:=[.Name x px,.Name y py]) (kk:=k) (tp:=tp) Kx ha (Zs q) (ihE X sc N Kx a _ q).pe;exact .mk (Jq (Zc1 q2)) hz q3 hp (pi pQ s σ H _ I (Zcr E S q1 q2 p))
  ·obtain⟨ca,q,hi⟩:=VM hi
   cases hi;cases Wh e with
   |mk q1 q2 hz q3=>
    obtain⟨rfl,rfl,hm⟩:=Zc2 q2;exact .mk (Jq hm) hz q3 (Zs q) (pi_tup (ihE X sc N Kx it _ q).pe pQ s σ H _ I (Ju E S q1 p))
theorem Zbn{G:Gs}{F:Nat->Fn}{n:Nat}(ihE:ZG G F n){X:Cx}{sc:Scope}{N:Li Str}(Kx:Cxt X G F sc N){elt:Expr}{gens:Li Comprehension}{sc2:Scope}{pos:Pos}{c:CE}(h:cE G (n+1) sc N (.ListComp elt gens sc2 pos)=some c){pQ:Li (Ad×Obj)}{s:Sd}{σ:L2.St}{H:Hp}{Q:VK}(I:L2.Inv X pQ σ H s)(hq:tE X.K (ev F c) σ H Q){use:Ot (vL->Sem Unit)}{R0:vL->Sd->Prop}(hend:∀ C dd s5 H5 m',s5.heap.Ns C m'->(∀ h',Heap.SameBut C s5.heap h'->L2.Inv X pQ σ H5 { s5 with heap:=h' })->FpOk X pQ H5 C->Q (.ref dd) H5->compPost (model X.prog X.w) X.A X.xe use R0 (.ref dd) C (.ok .next) s5) :
  ∃ tg it ifs,gens=[⟨tg,it,ifs,0⟩]/\∀ pos',wpAny (model X.prog X.w) X.A (comprehension (.ListComp elt [⟨tg,it,ifs,0⟩] sc2 pos) sc2 X.env pos' (newList []) false (eval it X.env) use) R0 X.xe s:=by
 cases Zf6 h with
 |@mk tg it ifs xs fr r ci ce cc htg hsc hfr hi hce hcc=>
  obtain⟨h1,h2,h3,h4,h5,h6⟩:=Y2 hsc;obtain⟨ad,ρ,st,d,st',E,S,e,p⟩:=hq;obtain⟨cl,ec,c1,c2⟩:=Jv (env:=X.env) (sc:=sc2) (fun y hy hf=>by
   have hm:(y.1,NameKind.free)∈sc2.names:=by rw[<-hf];exact hy
   exact I.ok.has y.1 (Kx.cel y.1 (h6 y.1 (mem_frees.mpr hm)).1))
  refine⟨tg,it,ifs,rfl,fun pos'=>?_⟩
  cases Zf4 ihE Kx htg hi I E S e p with
  |mk B hz q3 hp pi=>
   refine wpAny_comprehension_free (use:=use) rfl (Ya hp) ec h1 h4 (thn pi fun v s1 h1'=>thn h1' fun itv s2 h2'=>?_)
   obtain⟨ita,fp,tn,J,H2,rfl,I2,T,t2,f2,ad1,Good,gm,gw,go,stop,yl,E2,S2,g2,p2⟩:=h2';exact Zcv Kx ihE hsc hfr hce hcc c1 c2 Good gm gw go stop yl I2 B T t2 f2 E2 S2 g2 q3 hz p2 hend
theorem Zf5{G:Gs}{F:Nat->Fn}:Wz G F:=by
 intro n ihE;refine⟨fun X sc N Kx elt gens sc2 pos c h=>SE.of ?_,fun X sc N K y i p elt gens sc2 epos pos c hi h hsw=>?_⟩
 ·intro pQ s σ H Q I hq
  obtain⟨tg,it,ifs,rfl,go⟩:=Zbn ihE Kx h I hq (use:=none) (R0:=EP X pQ σ Q) fun C dd s5 H5 m' hn hI _ q=>⟨m',hn,fun h' sb=>⟨.ref dd,H5,hI h' sb,rfl,q⟩⟩
  rw[eval_ListComp];exact go _
 ·intro pQ s σ H D I hq
  obtain⟨tg,it,ifs,rfl,go⟩:=Zbn ihE K.toCxt h I hq (use:=some (assign (.Name y p) X.env)) (R0:=fun _ s'=>SP X pQ D .next s') fun C dd s5 H5 m' hn hI fo q=>by
   have I5:=hI s5.heap (Heap.SameBut.refl _ _);show wpAny _ X.A (assign (.Name y p) X.env (.ref dd)) _ _ s5;refine wpAny_assign_Name (store_ok2 (v:=.ref dd) I5 (by rw[K.hN];exact K.nd) (by rw[K.hN];exact WG hi) (K.loc _ (QF hi)) rfl (fun s6 I6 ⟨a,sb,ha⟩=>?_) (.inl (K.fn _)))
   have ne:C≠a:=by
    rcases ha with z|z
    ·rw[z];exact fo.2.1
    ·exact fun w=>fo.2.2.2.2.1 _ _ z w.symm
   exact⟨m',hn.sameBut sb ne,fun h3 sb3=>⟨_,H5,I6.turned (t':=s6.toks) (fun b o hb e=>sb3.extBut b o hb e) fo.1 fo.2.1 fo.2.2.2.1 fo.2.2.2.2.1 fo.2.2.2.2.2,q⟩⟩
  rw[exec_Assign_Name_used _ _ _ _ hsw];refine wpAny_bind (wpAny_standAt (wpAny_bind ?_));show wpAny _ X.A (do let _ <-comprehension (.ListComp elt [⟨tg,it,ifs,0⟩] sc2 epos) sc2 X.env _ (newList []) false (eval it X.env) (some (assign (.Name y p) X.env))) _ _ s
  exact wpAny_bind (wpAny_mono (go _) (fun _ s' hq=>wpAny_pure (wpAny_pure hq)) fun _ _ e=>e)
end Dp


namespace Dp
open PySem

inductive P where
 |non|bl (b:Bool)|int (i:Int)|str (x:Str)|tup (xs:List P)|lst (m:Bool) (xs:List P)|dct (ks:List Str) (vs:List P)|obj (i:Nat)|kt (ks:List Str)|dic (m:Bool) (xs:List P)

mutual
noncomputable def noL:P->Bool
 |.tup xs=>Xw xs
 |.lst _ _=>false
 |.dic _ _=>false
 |.dct _ vs=>Xw vs
 |_=>true
noncomputable def Xw:Li P->Bool
 |[]=>true
 |x :: xs=>noL x&&Xw xs
end
mutual
noncomputable def ofD:D->Ot P
 |.non=>some .non
 |.bl b=>some (.bl b)
 |.int i=>some (.int i)
 |.str x=>some (.str x)
 |.tup xs=>(XS xs).map .tup
 |.kt ks=>some (.kt ks)
 |_=>none
noncomputable def XS:Li D->Ot (Li P)
 |[]=>some []
 |x :: xs=>match ofD x,XS xs with
  |some y,some ys=>some (y :: ys)
  |_,_=>none
end
mutual
noncomputable def WM:P->P->Bool
 |.non,.non=>true
 |.bl a,.bl b=>a==b
 |.int a,.int b=>decide (a=b)
 |.str a,.str b=>decide (a=b)
 |.tup a,.tup b=>XU a b
 |_,_=>false
noncomputable def XU:Li P->Li P->Bool
 |[],[]=>true
 |x :: xs,y :: ys=>WM x y&&XU xs ys
 |_,_=>false
end
mutual
noncomputable def okP:Nat->P->Bool
 |_,.non=>true
 |_,.int _=>true
 |_,.str _=>true
 |n+1,.tup xs=>JZ n xs
 |_,_=>false
noncomputable def JZ:Nat->Li P->Bool
 |_,[]=>true
 |n,x :: xs=>okP n x&&JZ n xs
end
noncomputable def ZeE(_ _:Li P):Ot Bool:=none
noncomputable def scP:P->Ot Sc
 |.non=>some .non
 |.bl b=>some (.bl b)
 |.int i=>some (.int i)
 |.str x=>some (.str x)
 |_=>none
noncomputable def Ziz(xs ys:Li P):Ot Bool:=if (xs.isEmpty||ys.isEmpty)=true then some (xs.isEmpty&&ys.isEmpty) else if JZ 7 xs&&JZ 7 ys then some (XU xs ys) else none
noncomputable def ZlG(xs:Li P):P->Ot Bool
 |.tup ys=>if okP 8 (.tup xs)&&okP 8 (.tup ys) then some (XU xs ys) else ZeE xs ys
 |_=>none
noncomputable def ZlF(xs:Li P):P->Ot Bool
 |.lst _ ys=>Ziz xs ys
 |_=>none
noncomputable def eqP(x y:P):Ot Bool:=match x with
 |.tup xs=>ZlG xs y
 |.lst _ xs=>ZlF xs y
 |x=>(o2 ZdC (scP x) (scP y)).join
noncomputable def Ze0(xs:Li P)(j:Int):Ot P:=match xs with
 |[x]=>if j<=1000/\-1000<=j then some (.tup (List.replicate j.toNat x)) else none
 |_=>none
noncomputable def ZeZ(m:Bool)(xs:Li P)(j:Int):Ot P:=match m,xs with
 |true,[x]=>if j<=1000/\-1000<=j then some (.lst true (List.replicate j.toNat x)) else none
 |_,_=>none
noncomputable def YG(op:Operator)(x y:P):Ot P:=
 match x,y with
 |.int i,.int j=>match UB op i j with
  |some k=>some (.int k)
  |none=>none
 |.tup xs,.tup ys=>if Wv op=true/\xs.length+ys.length<=Zp then some (.tup (xs++ys)) else none
 |.tup xs,.int j=>if XM op=true then Ze0 xs j else none
 |.lst _ xs,.lst _ ys=>if Wv op=true/\xs.length+ys.length<=Zp then some (.lst true (xs++ys)) else none
 |.lst m xs,.int j=>if XM op=true then ZeZ m xs j else none
 |_,_=>none
noncomputable def inP:Int->Li P->Ot Bool
 |_,[]=>some false
 |k,.int i :: r=>(inP k r).map fun b=>decide (i=k)||b
 |_,_=>none
noncomputable def ZcH:Str->Li P->Ot Bool
 |_,[]=>some false
 |k,.str i :: r=>(ZcH k r).map fun b=>decide (i=k)||b
 |_,_=>none
noncomputable def ZkI:P->Ot Int
 |.int i=>some i
 |_=>none
noncomputable def XN:Li Str->Li P->Str->Ot P
 |k :: ks,v :: vs,x=>if k=x then some v else XN ks vs x
 |_,_,_=>none
noncomputable def Zez(f:Int->Int->Bool):P->P->Ot Bool
 |.int i,.int j=>some (f i j)
 |_,_=>none
noncomputable def ltP(x y:P):Ot Bool:=Zez (fun i j=>decide (i < j)) x y
noncomputable def ZkO(x y:P):Ot Bool:=ltP x y
noncomputable def ZiM(x y:P):Ot Bool:=match x,y with
 |.int k,.lst _ xs=>inP k xs
 |.str k,.lst _ xs=>ZcH k xs
 |.int k,.tup xs=>inP k xs
 |.str k,.tup xs=>ZcH k xs
 |.str k,.dct ks vs=>some (XN ks vs k).isSome
 |_,_=>none
noncomputable def niP(x y:P):Ot Bool:=match y with
 |.dct _ _=>none
 |y=>(ZiM x y).map not
noncomputable def ZlL:P->Ot Bool
 |.non=>some true
 |.int _=>some false
 |.str _=>some false
 |.bl _=>some false
 |.tup _=>some false
 |.lst _ _=>some false
 |.dct _ _=>none
 |.obj _=>none
 |.kt _=>none
 |.dic _ _=>none
noncomputable def ZlJ(b:Bool):P->Ot Bool
 |.bl a=>some (a==b)
 |_=>none
noncomputable def ZiO(x:P):P->Ot Bool
 |.non=>ZlL x
 |.bl b=>ZlJ b x
 |_=>none
noncomputable def Zir(op:CmpOp)(x y:P):Ot Bool:=
 match op with
 |.Lt=>ZkO x y
 |.LtE=>Zez (fun i j=>decide (i<=j)) x y
 |.Gt=>Zez (fun i j=>decide (j < i)) x y
 |.GtE=>Zez (fun i j=>decide (j<=i)) x y
 |.Eq=>eqP x y
 |.NotEq=>(eqP x y).map not
 |.In=>ZiM x y
 |.NotIn=>niP x y
 |.Is=>ZiO x y
 |.IsNot=>(ZiO x y).map not
noncomputable def atP(xs:Li P)(i:Int):Ot P:=(ixN xs.length i).bind fun j=>xs[j]?
noncomputable def ixP:P->P->Ot P
 |.tup xs,.int i=>atP xs i
 |.lst _ xs,.int i=>atP xs i
 |.dct ks vs,.str k=>XN ks vs k
 |.kt ks,.int i=>atP (ks.map .str) i
 |_,_=>none
noncomputable def XY(xs:Li P)(lo hi:Ot Int):Li P:=(xs.drop (sIx xs.length 0 lo)).take (sIx xs.length xs.length hi - sIx xs.length 0 lo)
noncomputable def Yt(x:P)(lo hi:Ot Int):Ot P:=
 match x with
 |.tup xs=>if sIx xs.length 0 lo=0/\sIx xs.length xs.length hi=xs.length then some (.tup xs) else some (.tup (XY xs lo hi))
 |.lst _ xs=>some (.lst true (XY xs lo hi))
 |_=>none
noncomputable def Wb:P->P->P->Ot P
 |x,.non,.non=>Yt x none none
 |x,.int i,.non=>Yt x (some i) none
 |x,.non,.int j=>Yt x none (some j)
 |x,.int i,.int j=>Yt x (some i) (some j)
 |_,_,_=>none
noncomputable def JT:P->Ot P
 |.tup xs=>some (.int xs.length)
 |.lst _ xs=>some (.int xs.length)
 |.kt ks=>some (.int ks.length)
 |_=>none
noncomputable def ZiP(T:Ty):P->Ot Bool
 |.int _=>some (decide (T=.int))
 |.bl _=>some (decide (T=.int)||decide (T=.bool))
 |.str _=>some (decide (T=.str))
 |.tup _=>some (decide (T=.tuple))
 |.non=>some false
 |_=>none
noncomputable def QL(T:Ty)(p:P):Ot P:=(ZiP T p).map .bl
noncomputable def ZcO:P->Ot P
 |.int i=>some (.int (-i))
 |_=>none
noncomputable def ZcR:P->Ot P
 |.bl k=>some (.bl (!k))
 |_=>none
noncomputable def ZX(op:CmpOp)(x y:P):Ot P:=(Zir op x y).map .bl
noncomputable def ZaR:P->Ot P
 |.tup xs=>some (.lst true xs)
 |_=>none
noncomputable def US:P->P->Ot P
 |x,.tup xs=>if xs.length < 1000 then some (.tup (x :: xs)) else none
 |_,_=>none
noncomputable def Qd:P->Ot P
 |.int i=>some (.int i)
 |_=>none
noncomputable def W2(F:Nat->Li P->Ot P)(tab:Li (Nat×Nat)):P->P->Ot P
 |.obj i,.tup xs=>match tab.lookup i with
  |some j=>F j (.obj i :: xs)
  |none=>none
 |_,_=>none
noncomputable def Zhz:P->P->Ot P
 |.kt ks,.tup [.str k]=>match QE k ks with
  |some i=>some (.int (i:Int))
  |none=>none
 |_,_=>none
noncomputable def V2(g:Li P->Ot P)(ds:Li D):P->Ot P
 |.tup xs=>match XS ds with
  |some es=>g (xs++es)
  |none=>none
 |_=>none
noncomputable def We:P->Ot P
 |.tup xs=>some (.tup xs)
 |.lst _ xs=>some (.tup xs)
 |_=>none
noncomputable def Uf:P->Ot P
 |.tup xs=>some (.lst true xs)
 |.lst _ xs=>some (.lst true xs)
 |_=>none
noncomputable def ZlI:P->Ot P
 |.int i=>some (.int i)
 |.bl true=>some (.int 1)
 |.bl false=>some (.int 0)
 |_=>none
noncomputable def ZgN:P->P->Ot P
 |.int i,.int j=>some (.int (if j < i then j else i))
 |_,_=>none
noncomputable def Zek:P->P->Ot P
 |.int i,.int j=>some (.int (if j > i then j else i))
 |_,_=>none
noncomputable def Zgy(ng:Bool):P->P->Ot P
 |.int x,.int n=>if -(2 ^ 62)<=n/\n < 2 ^ 62 then some (.bl (ng != decide (0<=x/\x < n))) else none
 |_,_=>none
noncomputable def Ql:P->Ot P
 |.int n=>if -1000<=n/\n<=1000 then some (.tup ((List.range n.toNat).map fun(k:Nat)=>P.int (k:Int))) else none
 |_=>none
noncomputable def QP(ks:Li Str)(ds:Li D):P->Ot P
 |.str k=>(Z2 ks ds k).bind ofD
 |_=>none
noncomputable def ZO(n:Int):Li P:=(List.range n.toNat).map fun(k:Nat)=>P.int (k:Int)
noncomputable def Ud(rng:Bool)(x:P):Ot (Li P):=
 match rng,x with
 |true,.int n=>if n < 2 ^ 62/\-(2 ^ 62)<=n then some (ZO n) else none
 |false,.tup xs=>some xs
 |_,_=>none
noncomputable def Ye(f c:P->Ot P):Li P->Ot (Li P)
 |[]=>some []
 |x :: xs=>match c x with
  |some (.bl true)=>match f x with
   |some y=>match Ye f c xs with
    |some ys=>some (y :: ys)
    |none=>none
   |none=>none
  |some (.bl false)=>Ye f c xs
  |_=>none
noncomputable def Zbz:Li P->Ot (Li Int)
 |[]=>some []
 |x :: r=>o2 List.cons (ZkI x) (Zbz r)
noncomputable def WZ:P->Ot (Li Int)
 |.tup xs=>(Zbz xs).bind Q1
 |_=>none
noncomputable def YF(rng:Bool)(x:P):Ot (Li P):=match Ud rng x with
 |some xs=>some xs
 |none=>match rng,x with
  |false,.lst _ xs=>some xs
  |_,_=>none
noncomputable abbrev Zr:=Li (Ot P)
noncomputable abbrev PEv:=Zr->Ot P
noncomputable def pq1(fa:PEv)(g:P->Ot P):PEv:=fun π=>match fa π with
 |some x=>g x
 |none=>none
noncomputable def pq2(fa fb:PEv)(g:P->P->Ot P):PEv:=fun π=>match fa π with
 |some x=>match fb π with
  |some y=>g x y
  |none=>none
 |none=>none
noncomputable def pq3(fa fb fc:PEv)(g:P->P->P->Ot P):PEv:=fun π=>match fa π with
 |some x=>match fb π with
  |some y=>match fc π with
   |some z=>g x y z
   |none=>none
  |none=>none
 |none=>none
noncomputable def Y0(fc ft ff:PEv):PEv:=fun π=>match fc π with
 |some (.bl true)=>ft π
 |some (.bl false)=>ff π
 |_=>none
noncomputable def W6(i:Nat):PEv:=fun π=>match π[i]? with
 |some (some p)=>some p
 |_=>none
noncomputable def ZS(π:Zr)(fr:Li Nat)(p:P):Zr:=some p :: fr.map fun i=>(π[i]?).join
noncomputable def ZeO(p:P):Li (Ot P):=[some p]
noncomputable def VF:P->Li (Ot P)
 |.tup [a,b]=>[some a,some b]
 |_=>[]
noncomputable def Y8:Nat->Li P->Li P
 |_,[]=>[]
 |k,x :: xs=>.tup [.int (k:Int),x] :: Y8 (k+1) xs
noncomputable def Vq:P->Ot (Li P)
 |.tup xs=>some (Y8 0 xs)
 |.lst _ xs=>some (Y8 0 xs)
 |_=>none
noncomputable def Zea:P->Bool
 |.tup [_,_]=>true
 |_=>false
noncomputable def Jg:P->Ot (Li P)
 |.tup xs=>if xs.all Zea=true then some xs else none
 |_=>none
noncomputable def YD(b:P->Li (Ot P))(π:Zr)(fr:Li Nat)(p:P):Zr:=b p++fr.map fun i=>(π[i]?).join
noncomputable def Z5(b:P->Li (Ot P))(w:P->Ot (Li P))(fr:Li Nat)(fi fe fc:PEv):PEv:=fun π=>match fi π with
 |some x=>match w x with
  |some xs=>if xs.length<=1000 then
    match Ye (fun p=>fe (YD b π fr p)) (fun p=>fc (YD b π fr p)) xs with
    |some ys=>some (.lst true ys)
    |none=>none
   else none
  |none=>none
 |none=>none
noncomputable def pe(F:Nat->Li P->Ot P):CE->PEv
 |.var i=>W6 i
 |.cst d=>fun _=>ofD d
 |.bin op a b=>pq2 (pe F a) (pe F b) (YG op)
 |.neg a=>pq1 (pe F a) ZcO
 |.cmp op a b=>pq2 (pe F a) (pe F b) (ZX op)
 |.not a=>pq1 (pe F a) ZcR
 |.and a b=>Y0 (pe F a) (pe F b) (fun _=>some (.bl false))
 |.or a b=>Y0 (pe F a) (fun _=>some (.bl true)) (pe F b)
 |.ife c a b=>Y0 (pe F c) (pe F a) (pe F b)
 |.tupE a=>pe F a
 |.lstE a=>pq1 (pe F a) ZaR
 |.aN=>fun _=>some (.tup [])
 |.aC a r=>pq2 (pe F a) (pe F r) US
 |.ix a b=>pq2 (pe F a) (pe F b) ixP
 |.slice a lo hi=>pq3 (pe F a) (pe F lo) (pe F hi) Wb
 |.nop=>fun _=>some .non
 |.part a=>pq1 (pe F a) Qd
 |.call f a ds=>pq1 (pe F a) (V2 (F f) ds)
 |.len a=>pq1 (pe F a) JT
 |.tOf a=>pq1 (pe F a) We
 |.listOf a=>pq1 (pe F a) Uf
 |.intOf _=>fun _=>none
 |.min a b=>pq2 (pe F a) (pe F b) ZgN
 |.max a b=>pq2 (pe F a) (pe F b) Zek
 |.isi T a=>pq1 (pe F a) (QL T)
 |.rs _ _=>fun _=>none
 |.inv _=>fun _=>none
 |.tupR a=>pq1 (pe F a) Ql
 |.look ks ds a=>pq1 (pe F a) (QP ks ds)
 |.dget _ _ _=>fun _=>none
 |.inR ng a b=>pq2 (pe F a) (pe F b) (Zgy ng)
 |.all _=>fun _=>none
 |.any _=>fun _=>none
 |.comp rng fr it elt cnd=>Z5 ZeO (YF rng) fr (pe F it) (pe F elt) (pe F cnd)
 |.comp2 fr it elt cnd=>Z5 VF Vq fr (pe F it) (pe F elt) (pe F cnd)
 |.compT fr it elt cnd=>Z5 VF Jg fr (pe F it) (pe F elt) (pe F cnd)
 |.lstR _ _=>fun _=>none
 |.new i=>fun _=>some (.obj i)
 |.meth tab o a=>pq2 (pe F o) (pe F a) (W2 F tab)
 |.isc _ _=>fun _=>none
 |.tix o a=>pq2 (pe F o) (pe F a) Zhz
 |.dict _ _=>fun _=>none
 |.dnew=>fun _=>none

noncomputable def noM(M:Li Nat):CE->Bool
 |.var i=>!M.contains i
 |.cst _=>true
 |.bin _ a b=>noM M a&&noM M b
 |.neg a=>noM M a
 |.cmp _ a b=>noM M a&&noM M b
 |.not a=>noM M a
 |.and a b=>noM M a&&noM M b
 |.or a b=>noM M a&&noM M b
 |.ife c a b=>noM M c&&(noM M a&&noM M b)
 |.tupE a=>noM M a
 |.lstE a=>noM M a
 |.aN=>true
 |.aC a r=>noM M a&&noM M r
 |.ix a b=>noM M a&&noM M b
 |.slice a lo hi=>noM M a&&(noM M lo&&noM M hi)
 |.nop=>true
 |.part a=>noM M a
 |.call _ a _=>noM M a
 |.len a=>noM M a
 |.tOf a=>noM M a
 |.listOf a=>noM M a
 |.intOf a=>noM M a
 |.min a b=>noM M a&&noM M b
 |.max a b=>noM M a&&noM M b
 |.isi _ a=>noM M a
 |.rs _ a=>noM M a
 |.inv a=>noM M a
 |.tupR a=>noM M a
 |.look _ _ a=>noM M a
 |.dget a k d=>noM M a&&(noM M k&&noM M d)
 |.inR _ a b=>noM M a&&noM M b
 |.all a=>noM M a
 |.any a=>noM M a
 |.comp _ fr it _ _=>noM M it&&fr.all fun i=>!M.contains i
 |.comp2 fr it _ _=>noM M it&&fr.all fun i=>!M.contains i
 |.compT fr it _ _=>noM M it&&fr.all fun i=>!M.contains i
 |.lstR a b=>noM M a&&noM M b
 |.new _=>true
 |.meth _ o a=>noM M o&&noM M a
 |.isc _ a=>noM M a
 |.tix o a=>noM M o&&noM M a
 |.dict _ a=>noM M a
 |.dnew=>true
noncomputable def Ub(_:Nat):Bool:=false
noncomputable def VL:CE->Bool
 |.call f _ _=>Ub f
 |.bin _ _ _=>true
 |.lstE _=>true
 |.slice _ _ _=>true
 |.listOf _=>true
 |.comp ..=>true
 |.comp2 ..=>true
 |.compT ..=>true
 |_=>false
noncomputable def ZC:CS->Li Nat
 |.seq a b=>ZC a++ZC b
 |.app i _=>[i]
 |.ext i _=>[i]
 |.put i _ _=>[i]
 |.dput i _ _ _=>[i]
 |.ite _ a b=>ZC a++ZC b
 |.for1 _ _ _ b=>ZC b
 |.for3 _ _ b=>ZC b
 |.forP _ _ _ b=>ZC b
 |.forE _ _ _ b=>ZC b
 |.for4 _ _ _ _ b=>ZC b
 |.for2 _ _ _ b=>ZC b
 |.whl _ b=>ZC b
 |_=>[]
noncomputable def mvT:CE->Li Nat
 |.var j=>[j]
 |_=>[]
noncomputable def Yc:CS->Li Nat
 |.seq a b=>Yc a++Yc b
 |.app i _=>[i]
 |.ext i _=>[i]
 |.put i _ _=>[i]
 |.dput i _ _ _=>[i]
 |.set i e=>i :: mvT e
 |.set2 i j _=>[i,j]
 |.set3 i j l _=>[i,j,l]
 |.ite _ a b=>Yc a++Yc b
 |.for1 i _ _ b=>i :: Yc b
 |.for3 i _ b=>i :: Yc b
 |.forP i j _ b=>i :: j :: Yc b
 |.forE i j _ b=>i :: j :: Yc b
 |.for4 i j l _ b=>i :: j :: l :: Yc b
 |.for2 i j _ b=>i :: j :: Yc b
 |.whl _ b=>Yc b
 |_=>[]
inductive PFl where
 |nx (π:Zr)|rt (p:P)|bk (π:Zr)|ct (π:Zr)
noncomputable abbrev PEx:=Zr->Ot PFl
noncomputable def Zo(π:Zr)(i:Nat)(p:P):Zr:=π.set i (some p)
noncomputable def ZB(body:P->Zr->Ot PFl):Li P->Zr->Ot PFl
 |[],π=>some (.nx π)
 |d :: ds,π=>match body d π with
  |some (.nx π')=>ZB body ds π'
  |some (.ct π')=>ZB body ds π'
  |some (.bk π')=>some (.nx π')
  |some (.rt v)=>some (.rt v)
  |none=>none
noncomputable def VE(f g:PEx):PEx:=fun π=>match f π with
 |some (.nx π')=>g π'
 |r=>r
noncomputable def ZeR(f:PEv):PEx:=fun π=>match f π with
 |some d=>some (.rt d)
 |none=>none
noncomputable def Zv(M:Li Nat)(e:CE)(p:P):Bool:=noM M e||noL p
noncomputable def Xe(M:Li Nat)(e:CE)(p:P):Bool:=match p with
 |.lst true xs=>VL e&&(noM M e||Xw xs)
 |_=>false
noncomputable def mvP(M:Li Nat)(i:Nat)(e:CE)(p:P)(π:Zr):Ot PFl:=match e with
 |.var j=>if M.contains j&&!M.contains i then some (.nx (Zo (π.set j none) i p)) else none
 |_=>none
noncomputable def ZaW(M:Li Nat)(i:Nat)(e:CE)(f:PEv):PEx:=fun π=>match f π with
 |some p=>if (if M.contains i then Xe M e p else Zv M e p||Xe M e p) then some (.nx (Zo π i p)) else mvP M i e p π
 |none=>none
noncomputable def ZeT(M:Li Nat)(i j:Nat)(e:CE)(f:PEv):PEx:=fun π=>match f π with
 |some (.tup [x,y])=>if !M.contains i&&!M.contains j&&Zv M e (.tup [x,y]) then some (.nx (Zo (Zo π i x) j y)) else none
 |_=>none
noncomputable def J6(M:Li Nat)(i j l:Nat)(e:CE)(f:PEv):PEx:=fun π=>match f π with
 |some (.tup [x,y,z])=>if !M.contains i&&!M.contains j&&!M.contains l&&Zv M e (.tup [x,y,z]) then some (.nx (Zo (Zo (Zo π i x) j y) l z)) else none
 |_=>none
noncomputable def ZeD(M:Li Nat)(e:CE)(f:PEv):PEx:=fun π=>match f π with
 |some p=>if Zv M e p then some (.nx π) else none
 |none=>none
noncomputable def ZeG(M:Li Nat)(i:Nat)(e:CE)(f:PEv):PEx:=fun π=>match π[i]? with
 |some (some (.lst true xs))=>match f π with
  |some p=>if M.contains i&&Zv M e p&&decide (xs.length < Zp) then some (.nx (Zo π i (.lst true (xs++[p])))) else none
  |none=>none
 |_=>none
noncomputable def ZeL(M:Li Nat)(i:Nat)(e:CE)(f:PEv):PEx:=fun π=>match π[i]? with
 |some (some (.lst true xs))=>match f π with
  |some (.lst true ys)=>if M.contains i&&noM M e&&decide (xs.length+ys.length<=Zp) then some (.nx (Zo π i (.lst true (xs++ys)))) else none
  |_=>none
 |_=>none
noncomputable def ZeP(M:Li Nat)(i:Nat)(e:CE)(k f:PEv):PEx:=fun π=>match f π with
 |some p=>match π[i]? with
  |some (some (.lst true xs))=>match k π with
   |some (.int j)=>match ixN xs.length j with
    |some q=>if M.contains i&&Zv M e p then some (.nx (Zo π i (.lst true (xs.set q p)))) else none
    |none=>none
   |_=>none
  |_=>none
 |none=>none
noncomputable def ZeM(c:PEv)(f g:PEx):PEx:=fun π=>match c π with
 |some (.bl true)=>f π
 |some (.bl false)=>g π
 |_=>none
noncomputable def Uz(M T:Li Nat)(e:CE)(xs:Li P):Bool:=noM M e||(VL e&&Xw xs)||(match e with
 |.var j=>!T.contains j
 |_=>false)
noncomputable def QZ(M T:Li Nat)(i:Nat)(rng:Bool)(e:CE)(it:PEv)(b:PEx):PEx:=fun π=>match it π with
 |some x=>match Ud rng x with
  |some xs=>if !M.contains i&&(rng||Zv M e x) then ZB (fun d π=>b (Zo π i d)) xs π else none
  |none=>match rng,x with
   |false,.lst _ xs=>if !M.contains i&&Uz M T e xs then ZB (fun d π=>b (Zo π i d)) xs π else none
   |_,_=>none
 |none=>none
noncomputable def J2(M:Li Nat)(i:Nat)(it:PEv)(b:PEx):PEx:=fun π=>match it π with
 |some x=>match WZ x with
  |some xs=>if !M.contains i then ZB (fun d π=>b (Zo π i d)) (xs.map .int) π else none
  |none=>none
 |none=>none
noncomputable def UJ(i j l:Nat)(b:PEx)(d:P)(π:Zr):Ot PFl:=match d with
 |.tup [x,y,z]=>b (Zo (Zo (Zo π i x) j y) l z)
 |_=>none
noncomputable def J3(M:Li Nat)(i j l:Nat)(e:CE)(it:PEv)(b:PEx):PEx:=fun π=>match it π with
 |some (.tup xs)=>if !M.contains i&&!M.contains j&&!M.contains l&&Zv M e (.tup xs) then ZB (UJ i j l b) xs π else none
 |_=>none
noncomputable def Yu(body:P->P->Zr->Ot PFl):Li (P×P)->Zr->Ot PFl
 |[],π=>some (.nx π)
 |p :: ps,π=>match body p.1 p.2 π with
  |some (.nx π')=>Yu body ps π'
  |some (.ct π')=>Yu body ps π'
  |some (.bk π')=>some (.nx π')
  |some (.rt v)=>some (.rt v)
  |none=>none
noncomputable def J5(M:Li Nat)(i j:Nat)(e:CE)(it:PEv)(b:PEx):PEx:=fun π=>match it π with
 |some (.tup [.lst _ xs,.lst _ ys])=>if !M.contains i&&!M.contains j&&noM M e then Yu (fun x y π=>b (Zo (Zo π i x) j y)) (xs.zip ys) π else none
 |_=>none
noncomputable def Wa:Nat->Li P->Li (P×P)
 |_,[]=>[]
 |k,x :: xs=>(.int (k:Int),x) :: Wa (k+1) xs
noncomputable def Zfv:P->Ot (Li P)
 |.tup xs=>some xs
 |.lst _ xs=>some xs
 |_=>none
noncomputable def J4(M:Li Nat)(i j:Nat)(e:CE)(it:PEv)(b:PEx):PEx:=fun π=>match it π with
 |some x=>match Zfv x with
  |some xs=>if !M.contains i&&!M.contains j&&noM M e then Yu (fun x y π=>b (Zo (Zo π i x) j y)) (Wa 0 xs) π else none
  |none=>none
 |none=>none
noncomputable def px(F:Nat->Li P->Ot P)(M:Li Nat):CS->PEx
 |.skip=>fun π=>some (.nx π)
 |.seq a b=>VE (px F M a) (px F M b)
 |.ret e=>ZeR (pe F e)
 |.set i e=>ZaW M i e (pe F e)
 |.set2 i j e=>ZeT M i j e (pe F e)
 |.app i e=>ZeG M i e (pe F e)
 |.ext i e=>ZeL M i e (pe F e)
 |.put i k e=>ZeP M i e (pe F k) (pe F e)
 |.ite c a b=>ZeM (pe F c) (px F M a) (px F M b)
 |.for1 i rng it b=>QZ M (Yc b) i rng it (pe F it) (px F M b)
 |.forP i j it b=>J5 M i j it (pe F it) (px F M b)
 |.forE i j it b=>J4 M i j it (pe F it) (px F M b)
 |.for3 i it b=>J2 M i (pe F it) (px F M b)
 |.for4 i j l it b=>J3 M i j l it (pe F it) (px F M b)
 |.for2 _ _ _ _=>fun _=>none
 |.whl _ _=>fun _=>none
 |.brk=>fun π=>some (.bk π)
 |.cont=>fun π=>some (.ct π)
 |.stop=>fun _=>none
 |.set3 i j l e=>J6 M i j l e (pe F e)
 |.act e=>ZeD M e (pe F e)
 |.dput _ _ _ _=>fun _=>none
noncomputable def fnP(F:Nat->Li P->Ot P)(f:FD):Li P->Ot P:=fun ds=>
 if ds.length=f.ps/\(ZC f.body).all (fun i=>decide (f.ps<=i))=true then
  match px F (ZC f.body) f.body (ds.map some++List.replicate (f.ns - ds.length) none) with
  |some (.rt d)=>some d
  |some (.nx _)=>some .non
  |_=>none
 else none
noncomputable def shr(M:Li Nat)(s:CS):Li Nat:=M.filter fun i=>(ZC s).contains i
noncomputable def W5(F:Nat->Li P->Ot P):CS->Li Nat->PEx
 |.seq a b,M=>VE (px F M a) (W5 F b (shr M b))
 |s,M=>px F M s
noncomputable def fnT(F:Nat->Li P->Ot P)(f:FD):Li P->Ot P:=fun ds=>
 if ds.length=f.ps/\(ZC f.body).all (fun i=>decide (f.ps<=i))=true then
  match W5 F f.body (ZC f.body) (ds.map some++List.replicate (f.ns - ds.length) none) with
  |some (.rt d)=>some d
  |some (.nx _)=>some .non
  |_=>none
 else none
noncomputable def XO:CS->Bool
 |.seq a b=>XO a&&XO b
 |.ret _=>false
 |.ite _ a b=>XO a&&XO b
 |.for1 _ _ _ b=>XO b
 |.for3 _ _ b=>XO b
 |.forP _ _ _ b=>XO b
 |.forE _ _ _ b=>XO b
 |.for4 _ _ _ _ b=>XO b
 |.for2 _ _ _ b=>XO b
 |.whl _ b=>XO b
 |_=>true
noncomputable def Zb0(M:Li Nat):CS->Bool
 |.seq (.ret (.var j)) .skip=>M.contains j
 |.seq a b=>XO a&&Zb0 M b
 |_=>false
noncomputable def Uk(f:FD):Bool:=Zb0 (ZC f.body) f.body
noncomputable def Zc(T:Nat->Ot FD):Nat->Nat->Li P->Ot P
 |0,_=>fun _=>none
 |n+1,i=>match T i with
  |some f=>if (Ub i&&!Uk f)=true then fun _=>none else if (i==16&&(T 999).isSome)=true then fnT (Zc T n) f else fnP (Zc T n) f
  |none=>fun _=>none
end Dp


namespace Dp
open PySem
abbrev Fz:=Nat->Prop
mutual
inductive Rel(fz:Fz)(st:Za):P->D->Prop where
 |non:Rel fz st .non .non
 |bl (b:Bool):Rel fz st (.bl b) (.bl b)
 |int (i:Int):Rel fz st (.int i) (.int i)
 |str (x:Str):Rel fz st (.str x) (.str x)
 |tup {ps:List P}{ds:List D} (r:Rels fz st ps ds):Rel fz st (.tup ps) (.tup ds)
 |lst {j:Nat}{m:Bool}{ps:List P}{ds:List D} (hz:fz j) (h:st[j]?=some (m,ds)) (r:Rels fz st ps ds):Rel fz st (.lst m ps) (.lst j)
 |dct {ks:List Str}{ps:List P}{ds:List D} (r:Rels fz st ps ds):Rel fz st (.dct ks ps) (.dct ks ds)
 |obj (i:Nat):Rel fz st (.obj i) (.obj i)
 |kt (ks:List Str):Rel fz st (.kt ks) (.kt ks)
 |dic {j:Nat}{m:Bool}{ps:List P}{ds:List D} (hz:fz j) (h:st[j]?=some (m,ds)) (r:Rels fz st ps ds):Rel fz st (.dic m ps) (.dic j)
inductive Rels(fz:Fz)(st:Za):List P->List D->Prop where
 |nil:Rels fz st [] []
 |cons {p:P}{d:D}{ps:List P}{ds:List D} (h:Rel fz st p d) (r:Rels fz st ps ds):Rels fz st (p :: ps) (d :: ds)
end
section
variable {fz fz':Fz}{st st':Za}
theorem Rel.mono(h1:∀ i,fz i->fz' i)(h2:∀ i,fz i->st'[i]?=st[i]?){p:P}{d:D}(h:Rel fz st p d):Rel fz' st' p d:=
 Rel.rec (motive_1:=fun p d _=>Rel fz' st' p d) (motive_2:=fun ps ds _=>Rels fz' st' ps ds) .non .bl .int .str (fun _ r=>.tup r) (fun hz h _ r=>.lst (h1 _ hz) (by rw[h2 _ hz];exact h) r) (fun _ r=>.dct r) .obj .kt (fun hz h _ r=>.dic (h1 _ hz) (by rw[h2 _ hz];exact h) r) .nil (fun _ _ a b=>.cons a b) h
theorem Rels.mono(h1:∀ i,fz i->fz' i)(h2:∀ i,fz i->st'[i]?=st[i]?){ps:Li P}{ds:Li D}(h:Rels fz st ps ds):Rels fz' st' ps ds:=
 Rels.rec (motive_1:=fun _ _ _=>True) (motive_2:=fun ps ds _=>Rels fz' st' ps ds) trivial (fun _=>trivial) (fun _=>trivial) (fun _=>trivial) (fun _ _=>trivial) (fun _ _ _ _=>trivial) (fun _ _=>trivial) (fun _=>trivial) (fun _=>trivial) (fun _ _ _ _=>trivial) .nil (fun a _ _ b=>.cons (a.mono h1 h2) b) h
theorem Rel.ofNoL{p:P}{d:D}(hn:noL p=true)(h:Rel fz st p d):Rel fz' st' p d:=
 Rel.rec (motive_1:=fun p d _=>noL p=true->Rel fz' st' p d) (motive_2:=fun ps ds _=>Xw ps=true->Rels fz' st' ps ds) (fun _=>.non) (fun _ _=>.bl _) (fun _ _=>.int _) (fun _ _=>.str _) (fun _ r h=>.tup (r h)) (fun _ _ _ _ h=>by cases h) (fun _ r h=>.dct (r h)) (fun _ _=>.obj _) (fun _ _=>.kt _) (fun _ _ _ _ h=>by cases h) (fun _=>.nil) (fun _ _ a b h=>.cons (a (Bool.and_eq_true_iff.mp h).1) (b (Bool.and_eq_true_iff.mp h).2)) h hn
theorem Rels.ofNoL{ps:Li P}{ds:Li D}(hn:Xw ps=true)(h:Rels fz st ps ds):Rels fz' st' ps ds:=by
 induction ps generalizing ds with
 |nil=>cases h;exact .nil
 |cons p ps ih=>cases h with
  |cons a r=>exact .cons (a.ofNoL (Bool.and_eq_true_iff.mp hn).1) (ih (Bool.and_eq_true_iff.mp hn).2 r)
theorem Rels.length:∀ {ps:Li P}{ds:Li D},Rels fz st ps ds->ps.length=ds.length
 |_,_,.nil=>rfl
 |_,_,.cons _ r=>congrArg (·+1) (Rels.length r)
theorem Rels.get:∀ {ps:Li P}{ds:Li D}{i:Nat}{p:P},Rels fz st ps ds->ps[i]?=some p->∃ d,ds[i]?=some d/\Rel fz st p d
 |_,_,_,_,.nil,e=>by simp at e
 |_,_,0,_,.cons h _,e=>by simp at e;subst e;exact⟨_,rfl,h⟩
 |_,_,i+1,p,.cons _ r,e=>by
  obtain⟨v,h1,h2⟩:=Rels.get (i:=i) (p:=p) r (by simpa using e)
  exact⟨v,by simpa using h1,h2⟩
theorem Rels.append:∀ {ps qs:Li P}{ds es:Li D},Rels fz st ps ds->Rels fz st qs es->Rels fz st (ps++qs) (ds++es)
 |_,_,_,_,.nil,s=>s
 |_,_,_,_,.cons h r,s=>.cons h (Rels.append r s)
theorem Rels.take:∀ {ps:Li P}{ds:Li D} (n:Nat),Rels fz st ps ds->Rels fz st (ps.take n) (ds.take n)
 |_,_,0,_=>.nil
 |_,_,_+1,.nil=>.nil
 |_,_,n+1,.cons h r=>.cons h (Rels.take n r)
theorem Rels.drop:∀ {ps:Li P}{ds:Li D} (n:Nat),Rels fz st ps ds->Rels fz st (ps.drop n) (ds.drop n)
 |_,_,0,r=>r
 |_,_,_+1,.nil=>.nil
 |_,_,n+1,.cons _ r=>Rels.drop n r
theorem Rels.set{p:P}{d:D}(h:Rel fz st p d):∀ {ps:Li P}{ds:Li D} (n:Nat),Rels fz st ps ds->Rels fz st (ps.set n p) (ds.set n d)
 |_,_,_,.nil=>.nil
 |_,_,0,.cons _ r=>.cons h r
 |_,_,n+1,.cons q r=>.cons q (Rels.set h n r)
theorem Rels.rep{p:P}{d:D}(h:Rel fz st p d):∀ n:Nat,Rels fz st (List.replicate n p) (List.replicate n d)
 |0=>.nil
 |n+1=>.cons h (Rels.rep h n)
mutual
theorem Rel.ofConst:∀ {d:D}{p:P},ofD d=some p->Rel fz st p d
 |.non,p,h=>by cases h;exact .non
 |.bl b,p,h=>by cases h;exact .bl b
 |.int i,p,h=>by cases h;exact .int i
 |.str x,p,h=>by cases h;exact .str x
 |.tup xs,p,h=>by
  have h:(XS xs).map P.tup=some p:=h;cases q:XS xs with
  |none=>rw[q]at h;cases h
  |some ys=>rw[q]at h;cases h;exact .tup (Rels.ofConst q)
 |.lst _,p,h=>by cases h
 |.dct _ _,p,h=>by cases h
 |.obj _,p,h=>by cases h
 |.kt ks,p,h=>by cases h;exact .kt ks
theorem Rels.ofConst:∀ {ds:Li D}{ps:Li P},XS ds=some ps->Rels fz st ps ds
 |[],ps,h=>by cases h;exact .nil
 |d :: ds,ps,h=>by
  have h:(match ofD d,XS ds with
   |some y,some ys=>some (y :: ys)
   |_,_=>none)=some ps:=h
  split at h
  ·rename_i y ys h1 h2
   cases h;exact .cons (Rel.ofConst h1) (Rels.ofConst h2)
  ·cases h
end
end
def Bd(fz:Fz)(st:Za):Prop:=∀ i,fz i->i < st.length
structure Next(fz:Fz)(st:Za)(fz':Fz)(st':Za):Prop where
 old:∀ i,i < st.length->st'[i]?=st[i]?
 len:st.length<=st'.length
 sub:∀ i,fz i->fz' i
 new:∀ i,fz' i->fz i\/st.length<=i
 bd:Bd fz' st'
section
variable {fz fz' fz1 fz2:Fz}{st st' st1 st2:Za}
theorem Next.refl(b:Bd fz st):Next fz st fz st:=⟨fun _ _=>rfl,Nat.le_refl _,fun _ h=>h,fun _ h=>.inl h,b⟩
theorem Next.trans(x:Next fz st fz1 st1)(y:Next fz1 st1 fz2 st2):Next fz st fz2 st2:=
 ⟨fun i h=>(y.old i (Nat.lt_of_lt_of_le h x.len)).trans (x.old i h),Nat.le_trans x.len y.len,fun i h=>y.sub i (x.sub i h),fun i h=>(y.new i h).elim (x.new i) fun z=>.inr (Nat.le_trans x.len z),y.bd⟩
theorem Next.small(b:Bd fz st)(x:Next fz1 st fz' st'):Next fz st fz st':=⟨x.old,x.len,fun _ h=>h,fun _ h=>.inl h,fun i h=>Nat.lt_of_lt_of_le (b i h) x.len⟩
theorem Rel.next{p:P}{d:D}(b:Bd fz st)(x:Next fz st fz' st')(r:Rel fz st p d):Rel fz' st' p d:=r.mono x.sub fun i h=>x.old i (b i h)
theorem Rels.next{p:Li P}{d:Li D}(b:Bd fz st)(x:Next fz st fz' st')(r:Rels fz st p d):Rels fz' st' p d:=r.mono x.sub fun i h=>x.old i (b i h)
theorem ZhY{α:Type}{l:Li α}{x:α}:(l++[x])[l.length]?=some x:=by simp
theorem ZeU{m:Bool}{ds:Li D}(b:Bd fz st):Next fz st fz (st++[(m,ds)]):=
 ⟨fun i h=>by rw[List.getElem?_append_left h],by simp,fun _ h=>h,fun _ h=>.inl h,fun i h=>by have:=b i h;simp;omega⟩
theorem ZaX{m:Bool}{ds:Li D}(b:Bd fz st):Next fz st (fun i=>fz i\/i=st.length) (st++[(m,ds)]):=
 ⟨fun i h=>by rw[List.getElem?_append_left h],by simp,fun _ h=>.inl h,fun i h=>h.elim .inl fun z=>.inr (by omega),fun i h=>by
  rcases h with h|h
  ·have:=b i h;simp;omega
  ·simp;omega⟩
theorem J7{m:Bool}{ps:Li P}{ds:Li D}(b:Bd fz st)(r:Rels fz st ps ds):Rel (fun i=>fz i\/i=st.length) (st++[(m,ds)]) (.lst m ps) (.lst st.length):=
 .lst (.inr rfl) ZhY (r.next b (ZaX b))
end
abbrev Gives(fz:Fz)(st:Za)(r:Res)(p:P):Prop:=∃ d st' fz',r=some (d,st')/\Next fz st fz' st'/\Rel fz' st' p d
def Op1(o:D->Za->Res)(O:P->Ot P):Prop:=∀ fz st x dx p,Bd fz st->Rel fz st x dx->O x=some p->Gives fz st (o dx st) p
def Op2(o:D->D->Za->Res)(O:P->P->Ot P):Prop:=∀ fz st x y dx dy p,Bd fz st->Rel fz st x dx->Rel fz st y dy->O x y=some p->Gives fz st (o dx dy st) p
def Op3(o:D->D->D->Za->Res)(O:P->P->P->Ot P):Prop:=∀ fz st x y z dx dy dz p,Bd fz st->Rel fz st x dx->Rel fz st y dy->Rel fz st z dz->O x y z=some p->Gives fz st (o dx dy dz st) p
abbrev Makes(fz:Fz)(st:Za)(r:Res)(m:Bool)(ps:Li P):Prop:=∃ ds,r=some (.lst st.length,st++[(m,ds)])/\Rels fz st ps ds
def Zh9(o:D->Za->Res)(O:P->Ot P):Prop:=∀ fz st x dx m ps,Bd fz st->Rel fz st x dx->O x=some (.lst m ps)->Makes fz st (o dx st) m ps
def Zkd(o:D->D->Za->Res)(O:P->P->Ot P):Prop:=∀ fz st x y dx dy m ps,Bd fz st->Rel fz st x dx->Rel fz st y dy->O x y=some (.lst m ps)->Makes fz st (o dx dy st) m ps
def Zke(o:D->D->D->Za->Res)(O:P->P->P->Ot P):Prop:=∀ fz st x y z dx dy dz m ps,Bd fz st->Rel fz st x dx->Rel fz st y dy->Rel fz st z dz->O x y z=some (.lst m ps)->Makes fz st (o dx dy dz st) m ps
theorem Gives.same{fz:Fz}{st:Za}{p:P}{d:D}(b:Bd fz st)(r:Rel fz st p d):Gives fz st (some (d,st)) p:=⟨d,st,fz,rfl,Next.refl b,r⟩
theorem Makes.gives{fz:Fz}{st:Za}{r:Res}{m:Bool}{ps:Li P}(b:Bd fz st)(h:Makes fz st r m ps):Gives fz st r (.lst m ps):=by
 obtain⟨ds,e,rr⟩:=h;exact⟨_,_,_,e,ZaX b,J7 b rr⟩
section
mutual
theorem ZaT{fz:Fz}{st:Za}:∀ {n:Nat}{p:P}{d:D},Rel fz st p d->okP n p=okD n d
 |n,_,_,.non=>by cases n<;>rfl
 |n,_,_,.bl b=>by cases n<;>rfl
 |n,_,_,.int i=>by cases n<;>rfl
 |n,_,_,.str x=>by cases n<;>rfl
 |0,_,_,.tup r=>rfl
 |n+1,_,_,.tup r=>VN r
 |n,_,_,.lst _ _ _=>by cases n<;>rfl
 |n,_,_,.dct _=>by cases n<;>rfl
 |n,_,_,.obj _=>by cases n<;>rfl
 |n,_,_,.kt _=>by cases n<;>rfl
 |n,_,_,.dic _ _ _=>by cases n<;>rfl
theorem VN{fz:Fz}{st:Za}:∀ {n:Nat}{p:Li P}{d:Li D},Rels fz st p d->JZ n p=Xk n d
 |_,_,_,.nil=>rfl
 |n,p :: ps,d :: ds,.cons h r=>by
  show(okP n p&&JZ n ps)=(okD n d&&Xk n ds);rw[ZaT h,VN r]
end
mutual
theorem ZfP{fz:Fz}{st:Za}:∀ {p q:P}{d e:D},Rel fz st p d->Rel fz st q e->WM p q=Z9 d e
 |_,_,_,_,.non,h=>by cases h<;>rfl
 |_,_,_,_,.bl b,h=>by cases h<;>rfl
 |_,_,_,_,.int i,h=>by cases h<;>rfl
 |_,_,_,_,.str x,h=>by cases h<;>rfl
 |_,_,_,_,.tup r,h=>by
  cases h with
  |tup r'=>exact WN r r'
  |_=>rfl
 |_,_,_,_,.lst _ _ _,h=>by cases h<;>rfl
 |_,_,_,_,.dct _,h=>by cases h<;>rfl
 |_,_,_,_,.obj _,h=>by cases h<;>rfl
 |_,_,_,_,.kt _,h=>by cases h<;>rfl
 |_,_,_,_,.dic _ _ _,h=>by cases h<;>rfl
theorem WN{fz:Fz}{st:Za}:∀ {p q:Li P}{d e:Li D},Rels fz st p d->Rels fz st q e->XU p q=Yo d e
 |_,_,_,_,.nil,h=>by cases h<;>rfl
 |p :: ps,_,d :: ds,_,.cons a r,h=>by
  cases h with
  |nil=>rfl
  |@cons q e qs es a' r'=>
   show(WM p q&&XU ps qs)=(Z9 d e&&Yo ds es);rw[ZfP a a',WN r r']
end
theorem ZbG{fz:Fz}{st:Za}{ps:Li P}{ds:Li D}(r:Rels fz st ps ds):ps.isEmpty=ds.isEmpty:=by cases r<;>rfl
theorem ZeF{fz:Fz}{st:Za}{ps qs:Li P}{ds es:Li D}{k:Bool}(r:Rels fz st ps ds)(s:Rels fz st qs es)(h:ZeE ps qs=some k):ZbL st ds es=some k:=by cases h
theorem Zfe{fz:Fz}{st:Za}{p:P}{d:D}(r:Rel fz st p d):scP p=scD d:=by cases r<;>rfl
theorem Zf9{fz:Fz}{st:Za}{ps qs:Li P}{ds es:Li D}(r:Rels fz st ps ds)(s:Rels fz st qs es):Ziz ps qs=ZcB ds es:=by
 unfold Ziz ZcB;rw[ZbG r,ZbG s,VN r,VN s,WN r s]
theorem ZdD{fz:Fz}{st:Za}{p q:P}{d e:D}{k:Bool}(r:Rel fz st p d)(s:Rel fz st q e)(h:eqP p q=some k):eqS st d e=some k:=by
 have tail:(o2 ZdC (scP p) (scP q)).join=some k->(o2 ZdC (scD d) (scD e)).join=some k:=by
  rw[Zfe r,Zfe s];exact id
 cases r with
 |@tup ps ds r=>
  cases s with
  |@tup qs es r'=>
   have h:(if okP 8 (.tup ps)&&okP 8 (.tup qs) then some (XU ps qs) else ZeE ps qs)=some k:=h
   show(match (if okD 8 (.tup ds)&&okD 8 (.tup es) then some (Yo ds es) else none) with
    |some k=>some k
    |none=>ZbL st ds es)=some k
   rw[ZaT (.tup r),ZaT (.tup r'),WN r r']at h;by_cases c:(okD 8 (.tup ds)&&okD 8 (.tup es))=true
   ·rw[if_pos c]at h ⊢
    exact h
   ·rw[if_neg c]at h ⊢
    exact ZeF r r' h
  |_=>cases h
 |@lst j m ps ds hz hs r=>
  cases s with
  |@lst j' m' qs es hz' hs' r'=>
   show(o2 (fun(c d:Qs)=>ZcB c.2 d.2) st[j]? st[j']?).join=some k
   rw[hs,hs'];show ZcB ds es=some k;rw[<-Zf9 r r'];exact h
  |_=>cases h
 |_=>exact tail h
theorem ZaG{fz:Fz}{st:Za}{i:Int}:∀ {ps:Li P}{ds:Li D}{k:Bool},Rels fz st ps ds->inP i ps=some k->XG i ds=some k
 |_,_,_,.nil,h=>h
 |p :: ps,d :: ds,k,.cons a r,h=>by
  cases a with
  |int j=>
   have h:(inP i ps).map (fun b=>decide (j=i)||b)=some k:=h
   show(XG i ds).map (fun b=>decide (j=i)||b)=some k
   cases q:inP i ps with
   |none=>rw[q]at h;cases h
   |some k'=>rw[q]at h;rw[ZaG r q];exact h
  |_=>cases h
theorem QJ{fz:Fz}{st:Za}{i:Str}:∀ {ps:Li P}{ds:Li D}{k:Bool},Rels fz st ps ds->ZcH i ps=some k->XH i ds=some k
 |_,_,_,.nil,h=>h
 |p :: ps,d :: ds,k,.cons a r,h=>by
  cases a with
  |str j=>
   have h:(ZcH i ps).map (fun b=>decide (j=i)||b)=some k:=h
   show(XH i ds).map (fun b=>decide (j=i)||b)=some k
   cases q:ZcH i ps with
   |none=>rw[q]at h;cases h
   |some k'=>rw[q]at h;rw[QJ r q];exact h
  |_=>cases h
theorem Zaw{fz:Fz}{st:Za}{i:Int}{ps:Li P}{ds:Li D}{p:P}(r:Rels fz st ps ds)(h:atP ps i=some p):∃ d,atD ds i=some d/\Rel fz st p d:=by
 unfold atP at h;unfold atD;rw[<-r.length];cases q:ixN ps.length i with
 |none=>rw[q]at h;cases h
 |some j=>
  rw[q]at h;exact r.get h
theorem Zbo{fz:Fz}{st:Za}{lo hi:Ot Int}{ps:Li P}{ds:Li D}(r:Rels fz st ps ds):Rels fz st (XY ps lo hi) (Zcy ds lo hi):=by
 unfold XY Zcy;rw[<-r.length];exact(r.drop _).take _
end
section
theorem ZkW:Op1 ZgO ZcO:=by
 intro fz st x dx p b r h;cases r<;>first | (cases h;exact .same b (.int _))|cases h
theorem ZkX:Op1 ZcQ ZcR:=by
 intro fz st x dx p b r h;cases r<;>first | (cases h;exact .same b (.bl _))|cases h
theorem Zi2:Op1 ZbM Qd:=by
 intro fz st x dx p b r h;cases r<;>first | (cases h;exact .same b (.int _))|cases h
theorem ZiZ:Op1 ZcL JT:=by
 intro fz st x dx p b r h;cases r with
 |@tup ps ds r=>
  cases h;rw[r.length];exact .same b (.int _)
 |@lst j m ps ds hz hs r=>
  cases h;have e:ZcL (.lst j) st=some (.int ds.length,st):=by unfold ZcL ZiR;simp only[hs]
  rw[e,r.length];exact .same b (.int _)
 |kt ks=>
  cases h;exact .same b (.int _)
 |_=>cases h
theorem ZkS(T:Ty):Op1 (ZaH T) (QL T):=by
 intro fz st x dx p b r h;obtain⟨k,e,rfl⟩:=Option.map_eq_some_iff.mp (show(ZiP T x).map P.bl=some p from h);have z:ZiP T x=ZgD T dx:=by cases r<;>rfl
 rw[z]at e;unfold ZaH;rw[e];exact .same b (.bl k)
theorem ZhR:Zh9 Zei ZaR:=by
 intro fz st x dx m ps b r h;cases r with
 |@tup ps ds r=>cases h;exact⟨ds,rfl,r⟩
 |_=>cases h
theorem ZkT:Op1 Zei ZaR:=by
 intro fz st x dx p b r h;cases r with
 |@tup ps ds r=>cases h;exact(ZhR fz st _ _ true ps b (.tup r) rfl).gives b
 |_=>cases h
theorem ZaC:Zh9 U6 Uf:=by
 intro fz st x dx m ps b r h;cases r with
 |@tup ps ds r=>cases h;exact⟨ds,rfl,r⟩
 |@lst j m ps ds hz hs r=>
  cases h;exact⟨ds,by unfold U6;simp only[hs],r⟩
 |_=>cases h
theorem Zi0:Op1 U6 Uf:=by
 intro fz st x dx p b r h;cases r with
 |@tup ps ds r=>cases h;exact(ZaC fz st _ _ true ps b (.tup r) rfl).gives b
 |@lst j m ps ds hz hs r=>cases h;exact(ZaC fz st _ _ true ps b (.lst hz hs r) rfl).gives b
 |_=>cases h
theorem ZgS:Op1 Vp We:=by
 intro fz st x dx p b r h;cases r with
 |@tup ps ds r=>cases h;exact .same b (.tup r)
 |@lst j m ps ds hz hs r=>
  cases h;have e:Vp (.lst j) st=some (.tup ds,st):=by unfold Vp;simp only[hs]
  rw[e];exact .same b (.tup r)
 |_=>cases h
theorem ZiY:Op2 Vr US:=by
 intro fz st x y dx dy p b r s h;cases s with
 |@tup ps ds s=>
  have h:(if ps.length < 1000 then some (P.tup (x :: ps)) else none)=some p:=h
  split at h
  ·rename_i c
   cases h;have e:Vr dx (.tup ds) st=some (.tup (dx :: ds),st):=by unfold Vr;simp only;rw[s.length]at c;rw[if_pos c]
   rw[e];exact .same b (.tup (.cons r s))
  ·cases h
 |_=>cases h
theorem ZkV:Op2 ZgM ZgN:=by
 intro fz st x y dx dy p b r s h;cases r with
 |int i=>
  cases s with
  |int j=>cases h;exact .same b (.int _)
  |_=>cases h
 |_=>cases h
theorem ZkU:Op2 ZgK Zek:=by
 intro fz st x y dx dy p b r s h;cases r with
 |int i=>
  cases s with
  |int j=>cases h;exact .same b (.int _)
  |_=>cases h
 |_=>cases h
theorem Vi{fz:Fz}{st:Za}{k:Str}:∀ {ks:Li Str}{ps:Li P}{ds:Li D},Rels fz st ps ds->(∃ p d,XN ks ps k=some p/\Z2 ks ds k=some d/\Rel fz st p d)\/(XN ks ps k=none/\Z2 ks ds k=none)
 |[],_,_,_=>.inr ⟨by simp[XN],by simp[Z2]⟩
 |_ :: _,_,_,.nil=>.inr ⟨by simp[XN],by simp[Z2]⟩
 |x :: ks,_,_,.cons h r=>by
  by_cases e:x=k
  ·exact .inl ⟨_,_,by simp[XN,e],by simp[Z2,e],h⟩
  ·have ih:=Vi (k:=k) (ks:=ks) r
   simp only[XN,Z2,if_neg e];exact ih
theorem Zap{fz:Fz}{st:Za}:∀ l:Li Str,Rels fz st (l.map P.str) (l.map D.str)
 |[]=>.nil
 |k :: l=>.cons (.str _) (Zap l)
theorem Zl1:Op2 ixR ixP:=by
 intro fz st x y dx dy p b r s h;cases r with
 |@tup ps ds r=>
  cases s with
  |int j=>
   obtain⟨d,e,q⟩:=Zaw r h;have e:ixR (.tup ds) (.int j) st=some (d,st):=by unfold ixR ixD;simp only[e]
   rw[e];exact .same b q
  |_=>cases h
 |@lst k m ps ds hz hs r=>
  cases s with
  |int j=>
   obtain⟨d,e,q⟩:=Zaw r h;have e:ixR (.lst k) (.int j) st=some (d,st):=by unfold ixR ixD;simp only[hs,e]
   rw[e];exact .same b q
  |_=>cases h
 |@dct ks ps ds r=>
  cases s with
  |str z=>
   rcases Vi (k:=z) (ks:=ks) r with⟨p',d,e1,e2,q⟩|⟨e1,_⟩
   ·have h:XN ks ps z=some p:=h
    rw[e1]at h;cases h
    have e:ixR (.dct ks ds) (.str z) st=some (d,st):=by unfold ixR ixD;simp only[e2]
    rw[e];exact .same b q
   ·have h:XN ks ps z=some p:=h
    rw[e1]at h;cases h
  |_=>cases h
 |kt ks=>
  cases s with
  |int j=>
   obtain⟨d,e,q⟩:=Zaw (Zap (fz:=fz) (st:=st) ks) h;have e:ixR (.kt ks) (.int j) st=some (d,st):=by unfold ixR ixD;simp only[e]
   rw[e];exact .same b q
  |_=>cases h
 |_=>cases h
theorem VP{f:Int->Int->Bool}{fz:Fz}{st:Za}{x y:P}{dx dy:D}{k:Bool}(r:Rel fz st x dx)(s:Rel fz st y dy)(h:Zez f x y=some k):ZaU f dx dy=some k:=by
 cases r with
 |int i=>
  cases s with
  |int j=>exact h
  |_=>cases h
 |_=>cases h
theorem ZiS{fz:Fz}{st:Za}{x y:P}{dx dy:D}{k:Bool}(r:Rel fz st x dx)(s:Rel fz st y dy)(h:ltP x y=some k):ltD dx dy=some k:=by exact VP r s h
theorem ZgJ{fz:Fz}{st:Za}{x y:P}{dx dy:D}{k:Bool}(r:Rel fz st x dx)(s:Rel fz st y dy)(h:ZkO x y=some k):ltS st dx dy=some k:=by exact ZiS r s h
theorem QS{a b:Ot Bool}{f:Bool->Bool}{k:Bool}(h:∀ k,a=some k->b=some k)(e:a.map f=some k):b.map f=some k:=by
 cases q:a with
 |none=>rw[q]at e;cases e
 |some k'=>rw[h k' q];rw[q]at e;exact e
theorem Zbx{fz:Fz}{st:Za}{x y:P}{dx dy:D}{k:Bool}(r:Rel fz st x dx)(s:Rel fz st y dy)(h:ZiM x y=some k):inS st dx dy=some k:=by
 cases r with
 |int i=>
  cases s with
  |tup rr=>exact ZaG rr h
  |lst hz hs rr=>
   unfold inS;simp only[hs];exact ZaG rr h
  |_=>cases h
 |str z=>
  cases s with
  |tup rr=>exact QJ rr h
  |lst hz hs rr=>
   unfold inS;simp only[hs];exact QJ rr h
  |@dct ks _ _ rr=>
   have h:some (XN ks _ z).isSome=some k:=h;show some (Z2 ks _ z).isSome=some k;rcases Vi (k:=z) (ks:=ks) rr with⟨p',d,e1,e2,_⟩|⟨e1,e2⟩
   ·rw[e1]at h;rw[e2];exact h
   ·rw[e1]at h;rw[e2];exact h
  |_=>cases h
 |_=>cases h
theorem ZbB{fz:Fz}{st:Za}{x y:P}{dx dy:D}{k:Bool}(r:Rel fz st x dx)(s:Rel fz st y dy)(h:ZiO x y=some k):isD dx dy=some k:=by
 cases s with
 |non=>cases r<;>first|exact h|cases h
 |bl b=>cases r<;>first|exact h|cases h
 |_=>cases h
theorem Ur{fz:Fz}{st:Za}:∀ l:Li Nat,Rels fz st (l.map fun(k:Nat)=>P.int (k:Int)) (l.map fun(k:Nat)=>D.int (k:Int))
 |[]=>.nil
 |k :: l=>.cons (.int _) (Ur l)
theorem Zi3:Op1 Zar Ql:=by
 intro fz st x dx p b r h;cases r with
 |int n=>
  have h:(if -1000<=n/\n<=1000 then some (P.tup ((List.range n.toNat).map fun(k:Nat)=>P.int (k:Int))) else none)=some p:=h
  split at h
  ·rename_i c
   cases h;have e:Zar (.int n) st=some (.tup ((List.range n.toNat).map fun(k:Nat)=>D.int (k:Int)),st):=if_pos c
   rw[e];exact .same b (.tup (Ur _))
  ·cases h
 |_=>cases h
theorem ZkY:Op2 Zhy Zhz:=by
 intro fz st x y dx dy p b r s h;cases r with
 |kt ks=>
  cases s with
  |@tup ps ds s=>
   cases s with
   |nil=>cases h
   |cons a s=>
    cases s with
    |cons _ _=>cases a<;>cases h
    |nil=>
     cases a with
     |str k=>
      have h:(match QE k ks with
       |some i=>some (P.int (i:Int))
       |none=>none)=some p:=h
      show Gives fz st (match QE k ks with
       |some i=>some (D.int (i:Int),st)
       |none=>none) p
      cases q:QE k ks with
      |none=>rw[q]at h;cases h
      |some i=>rw[q]at h;cases h;exact .same b (.int _)
     |_=>cases h
  |_=>cases h
 |_=>cases h
theorem Zi1(ks:Li Str)(ds:Li D):Op1 (U7 ks ds) (QP ks ds):=by
 intro fz st x dx p b r h;cases r with
 |str k=>
  have h:(Z2 ks ds k).bind ofD=some p:=h;cases q:Z2 ks ds k with
  |none=>rw[q]at h;cases h
  |some d=>
   rw[q]at h;have e:U7 ks ds (.str k) st=some (d,st):=by unfold U7;simp only[q]
   rw[e];exact .same b (Rel.ofConst h)
 |_=>cases h
theorem ZkR(ng:Bool):Op2 (ZiL ng) (Zgy ng):=by
 intro fz st x y dx dy p b r s h;cases r with
 |int i=>
  cases s with
  |int j=>
   have h:(if -(2 ^ 62)<=j/\j < 2 ^ 62 then some (P.bl (ng != decide (0<=i/\i < j))) else none)=some p:=h
   split at h
   ·rename_i c
    cases h;have e:ZiL ng (.int i) (.int j) st=some (.bl (ng != decide (0<=i/\i < j)),st):=if_pos c;rw[e];exact .same b (.bl _)
   ·cases h
  |_=>cases h
 |_=>cases h
theorem ZkQ(op:CmpOp):Op2 (Zcu op) (ZX op):=by
 intro fz st x y dx dy p b r s h;have h:(Zir op x y).map P.bl=some p:=h;cases q:Zir op x y with
 |none=>rw[q]at h;cases h
 |some k=>
  rw[q]at h;cases h
  have e:Ziq op dx dy st=some k:=by
   cases op with
   |Lt=>exact ZgJ r s q
   |LtE=>exact VP r s q
   |Gt=>exact VP r s q
   |GtE=>exact VP r s q
   |Eq=>exact ZdD r s q
   |NotEq=>exact QS (fun k=>ZdD r s) q
   |In=>exact Zbx r s q
   |NotIn=>
    replace q:niP x y=some k:=q;show niS st dx dy=some k;cases s with
    |dct _=>cases q
    |_=>exact QS (fun k=>Zbx r (by constructor<;>assumption)) q
   |Is=>exact ZbB r s q
   |IsNot=>exact QS (fun k=>ZbB r s) q
  have e2:Zcu op dx dy st=some (.bl k,st):=by unfold Zcu;rw[e]
  rw[e2];exact .same b (.bl k)
theorem Zbk{op:Operator}{fz:Fz}{st:Za}{x y p:P}{dx dy:D}(b:Bd fz st)(r:Rel fz st x dx)(s:Rel fz st y dy)(h:YG op x y=some p):(∃ d,Jo op dx dy st=some (d,st)/\Rel fz st p d/\∀ m ps,p≠.lst m ps)\/∃ ps,p=.lst true ps/\Makes fz st (Jo op dx dy st) true ps:=by
 cases r with
 |@lst ja ma pa da hz hs rr=>
  cases s with
  |@lst jb mb pb db hz' hs' rr'=>
   have h:(if Wv op=true/\pa.length+pb.length<=Zp then some (P.lst true (pa++pb)) else none)=some p:=h
   split at h
   ·rename_i c
    cases h;refine .inr ⟨_,rfl,_,?_,rr.append rr'⟩;show(if Wv op=true then ZfY ja jb st else none)=_
    unfold ZfY;rw[if_pos c.1,hs,hs'];exact if_pos (by rw[<-rr.length,<-rr'.length];exact c.2)
   ·cases h
  |int j=>
   have h:(if XM op=true then ZeZ ma pa j else none)=some p:=h
   split at h
   ·rename_i c
    cases ma with
    |false=>cases h
    |true=>cases rr with
     |nil=>cases h
     |@cons p0 _ _ _ a rr=>cases rr with
      |cons _ _=>cases h
      |nil=>
       have h:(if j<=1000/\-1000<=j then some (P.lst true (List.replicate j.toNat p0)) else none)=some p:=h
       split at h
       ·rename_i c2
        cases h;refine .inr ⟨_,rfl,_,?_,Rels.rep a _⟩;show(if XM op=true then Zg5 ja j st else none)=_
        unfold Zg5;rw[if_pos c,hs];exact if_pos c2
       ·cases h
   ·cases h
  |_=>cases h
 |@tup pa da r1=>cases s with
  |@tup pb db s1=>
   have h:(if Wv op=true/\pa.length+pb.length<=Zp then some (P.tup (pa++pb)) else none)=some p:=h
   split at h
   ·rename_i c
    cases h;exact .inl ⟨_,if_pos ⟨c.1,by rw[<-r1.length,<-s1.length];exact c.2⟩,.tup (r1.append s1),fun _ _ z=>nomatch z⟩
   ·cases h
  |int j=>
   have h:(if XM op=true then Ze0 pa j else none)=some p:=h
   split at h
   ·rename_i c
    cases r1 with
    |nil=>cases h
    |@cons p0 d0 _ _ a r1=>cases r1 with
     |cons _ _=>cases h
     |nil=>
      have h:(if j<=1000/\-1000<=j then some (P.tup (List.replicate j.toNat p0)) else none)=some p:=h
      split at h
      ·rename_i c2
       cases h;exact .inl ⟨_,(if_pos c).trans (if_pos c2),.tup (Rels.rep a _),fun _ _ z=>nomatch z⟩
      ·cases h
   ·cases h
  |_=>cases h
 |int i=>cases s with
  |int j=>
   have h:(match UB op i j with
    |some k=>some (P.int k)
    |none=>none)=some p:=h
   have z:Jo op (.int i) (.int j) st=(match UB op i j with
    |some k=>some (D.int k,st)
    |none=>none):=rfl
   rw[z];cases q:UB op i j with
   |none=>rw[q]at h;cases h
   |some k=>rw[q]at h;cases h;exact .inl ⟨_,rfl,.int _,fun _ _ z=>nomatch z⟩
  |_=>cases h
 |_=>cases h
theorem ZkC(op:Operator):Zkd (Jo op) (YG op):=by
 intro fz st x y dx dy m ps b r s h;rcases Zbk b r s h with⟨_,_,_,n⟩|⟨qs,e,mk⟩
 ·exact absurd rfl (n _ _)
 ·cases e;exact mk
theorem ZkP(op:Operator):Op2 (Jo op) (YG op):=by
 intro fz st x y dx dy p b r s h;rcases Zbk b r s h with⟨d,e,rp,_⟩|⟨qs,e,mk⟩
 ·rw[e];exact .same b rp
 ·cases e;exact mk.gives b
theorem ZbX{fz:Fz}{st:Za}{x:P}{dx:D}{lo hi:Ot Int}{p:P}(b:Bd fz st)(r:Rel fz st x dx)(h:Yt x lo hi=some p):(∃ ps ds,p=.tup ps/\YO dx lo hi st=some (.tup ds,st)/\Rels fz st ps ds)\/∃ ps,p=.lst true ps/\Makes fz st (YO dx lo hi st) true ps:=by
 cases r with
 |@tup ps ds r=>
  have h:(if sIx ps.length 0 lo=0/\sIx ps.length ps.length hi=ps.length then some (P.tup ps) else some (P.tup (XY ps lo hi)))=some p:=h
  split at h
  ·rename_i c
   cases h;refine .inl ⟨_,_,rfl,?_,r⟩;unfold YO;simp only;rw[if_pos (by rw[<-r.length];exact c)]
  ·rename_i c
   cases h;refine .inl ⟨_,_,rfl,?_,Zbo r⟩;unfold YO;simp only;rw[if_neg (by rw[<-r.length];exact c)]
 |@lst j m ps ds hz hs r=>
  cases h;refine .inr ⟨_,rfl,_,?_,Zbo r⟩;unfold YO;simp only[hs]
 |_=>cases h
theorem Zfg{fz:Fz}{st:Za}{x y z:P}{dx dy dz:D}{p:P}(s1:Rel fz st y dy)(s2:Rel fz st z dz)(h:Wb x y z=some p):∃ lo hi,Yt x lo hi=some p/\∀ dx,WK dx dy dz st=YO dx lo hi st:=by
 unfold Wb at h;split at h
 ·cases s1;cases s2;exact⟨_,_,h,fun _=>rfl⟩
 ·cases s1;cases s2;exact⟨_,_,h,fun _=>rfl⟩
 ·cases s1;cases s2;exact⟨_,_,h,fun _=>rfl⟩
 ·cases s1;cases s2;exact⟨_,_,h,fun _=>rfl⟩
 ·cases h
theorem ZgR:Op3 WK Wb:=by
 intro fz st x y z dx dy dz p b r s1 s2 h;obtain⟨lo,hi,h0,e⟩:=Zfg (dx:=dx) s1 s2 h;rw[e];rcases ZbX b r h0 with⟨ps,ds,rfl,e1,rr⟩|⟨ps,rfl,mk⟩
 ·rw[e1];exact .same b (.tup rr)
 ·exact mk.gives b
theorem Zgb:Zke WK Wb:=by
 intro fz st x y z dx dy dz m ps b r s1 s2 h;obtain⟨lo,hi,h0,e⟩:=Zfg (dx:=dx) s1 s2 h;rw[e];rcases ZbX b r h0 with⟨ps,ds,z,e1,rr⟩|⟨ps,z,mk⟩
 ·cases z
 ·cases z;exact mk
end
end Dp


namespace Dp
open PySem
noncomputable abbrev PFn:=Nat->Li P->Ot P
def ZhH(F:Fn)(G:Li P->Ot P):Prop:=∀ ps m xs,G ps=some (.lst m xs)->∀ fz st ds,Bd fz st->Rels fz st ps ds->∃ j es st' fz1,F ds st=some (.lst j,st')/\st'[j]?=some (m,es)/\Next fz st fz1 st'/\¬fz1 j/\st.length<=j/\Rels fz1 st' xs es
def Z8(F:Nat->Fn)(G:PFn):Prop:=(∀ i ps p,G i ps=some p->∀ fz st ds,Bd fz st->Rels fz st ps ds->Gives fz st (F i ds st) p)/\∀ i,Ub i=true->ZhH (F i) (G i)
def EnvAll(fz:Fz)(st:Za)(π:Zr)(ρ:Env):Prop:=∀ (i:Nat) (p:P),π[i]?=some (some p)->∃ d,ρ[i]?=some (some d)/\Rel fz st p d
theorem EnvAll.next{fz fz':Fz}{st st':Za}{π:Zr}{ρ:Env}(b:Bd fz st)(x:Next fz st fz' st')(h:EnvAll fz st π ρ):EnvAll fz' st' π ρ:=fun i p e=>
 let ⟨d,e1,r⟩:=h i p e;⟨d,e1,r.next b x⟩
def SEP(f:Ev)(g:PEv):Prop:=∀ π p,g π=some p->∀ fz st ρ,Bd fz st->EnvAll fz st π ρ->Gives fz st (f ρ st) p
def SFP(f:Ev)(g:PEv):Prop:=∀ π m ps,g π=some (.lst m ps)->∀ fz st ρ,Bd fz st->EnvAll fz st π ρ->∃ j ds st' fz1,f ρ st=some (.lst j,st')/\st'[j]?=some (m,ds)/\Next fz st fz1 st'/\¬fz1 j/\st.length<=j/\Rels fz1 st' ps ds
section
variable {f fa fb fc:Ev}{g ga gb gc:PEv}
theorem Makes.fresh{fz fz1:Fz}{st st1:Za}{r:Res}{m:Bool}{ps:Li P}(x:Next fz st fz1 st1)(h:Makes fz1 st1 r m ps) :
  ∃ j ds st' fz2,r=some (.lst j,st')/\st'[j]?=some (m,ds)/\Next fz st fz2 st'/\¬fz2 j/\st.length<=j/\Rels fz2 st' ps ds:=by
 obtain⟨ds,e,rr⟩:=h;refine⟨_,ds,_,fz1,e,ZhY,x.trans (ZeU x.bd),fun z=>?_,x.len,rr.next x.bd (ZeU x.bd)⟩
 exact absurd (x.bd _ z) (by omega)
theorem s1{o:D->Za->Res}{O:P->Ot P}(h:SEP f g)(k:Op1 o O):SEP (Yh f o) (pq1 g O):=by
 intro π p e fz st ρ b E;unfold pq1 at e;split at e
 ·rename_i x q
  obtain⟨d,st1,fz1,e1,n1,r1⟩:=h π x q fz st ρ b E;obtain⟨d2,st2,fz2,e2,n2,r2⟩:=k fz1 st1 x d p n1.bd r1 e;exact⟨d2,st2,fz2,by unfold Yh;rw[e1];exact e2,n1.trans n2,r2⟩
 ·cases e
theorem s1F{o:D->Za->Res}{O:P->Ot P}(h:SEP f g)(k:Zh9 o O):SFP (Yh f o) (pq1 g O):=by
 intro π m ps e fz st ρ b E;unfold pq1 at e;split at e
 ·rename_i x q
  obtain⟨d,st1,fz1,e1,n1,r1⟩:=h π x q fz st ρ b E;have mk:=k fz1 st1 x d m ps n1.bd r1 e;have e3:Yh f o ρ st=o d st1:=by unfold Yh;rw[e1]
  rw[e3];exact mk.fresh n1
 ·cases e
theorem s2{o:D->D->Za->Res}{O:P->P->Ot P}(ha:SEP fa ga)(hb:SEP fb gb)(k:Op2 o O):SEP (YV fa fb o) (pq2 ga gb O):=by
 intro π p e fz st ρ b E;unfold pq2 at e;split at e
 ·rename_i x q
  split at e
  ·rename_i y q'
   obtain⟨d,st1,fz1,e1,n1,r1⟩:=ha π x q fz st ρ b E;obtain⟨d2,st2,fz2,e2,n2,r2⟩:=hb π y q' fz1 st1 ρ n1.bd (E.next b n1);obtain⟨d3,st3,fz3,e3,n3,r3⟩:=k fz2 st2 x y d d2 p n2.bd (r1.next n1.bd n2) r2 e;exact⟨d3,st3,fz3,by unfold YV;rw[e1];simp only[e2];exact e3,(n1.trans n2).trans n3,r3⟩
  ·cases e
 ·cases e
theorem s2F{o:D->D->Za->Res}{O:P->P->Ot P}(ha:SEP fa ga)(hb:SEP fb gb)(k:Zkd o O):SFP (YV fa fb o) (pq2 ga gb O):=by
 intro π m ps e fz st ρ b E;unfold pq2 at e;split at e
 ·rename_i x q
  split at e
  ·rename_i y q'
   obtain⟨d,st1,fz1,e1,n1,r1⟩:=ha π x q fz st ρ b E;obtain⟨d2,st2,fz2,e2,n2,r2⟩:=hb π y q' fz1 st1 ρ n1.bd (E.next b n1);have mk:=k fz2 st2 x y d d2 m ps n2.bd (r1.next n1.bd n2) r2 e;have e3:YV fa fb o ρ st=o d d2 st2:=by unfold YV;rw[e1];simp only[e2]
   rw[e3];exact mk.fresh (n1.trans n2)
  ·cases e
 ·cases e
theorem s3{o:D->D->D->Za->Res}{O:P->P->P->Ot P}(ha:SEP fa ga)(hb:SEP fb gb)(hc:SEP fc gc)(k:Op3 o O):SEP (Zad fa fb fc o) (pq3 ga gb gc O):=by
 intro π p e fz st ρ b E;unfold pq3 at e;split at e
 ·rename_i x q
  split at e
  ·rename_i y q'
   split at e
   ·rename_i z q''
    obtain⟨d,st1,fz1,e1,n1,r1⟩:=ha π x q fz st ρ b E;obtain⟨d2,st2,fz2,e2,n2,r2⟩:=hb π y q' fz1 st1 ρ n1.bd (E.next b n1);obtain⟨d3,st3,fz3,e3,n3,r3⟩:=hc π z q'' fz2 st2 ρ n2.bd (E.next b (n1.trans n2));obtain⟨d4,st4,fz4,e4,n4,r4⟩:=k fz3 st3 x y z d d2 d3 p n3.bd (r1.next n1.bd (n2.trans n3)) (r2.next n2.bd n3) r3 e;exact⟨d4,st4,fz4,by unfold Zad;rw[e1];simp only[e2,e3];exact e4,((n1.trans n2).trans n3).trans n4,r4⟩
   ·cases e
  ·cases e
 ·cases e
theorem s3F{o:D->D->D->Za->Res}{O:P->P->P->Ot P}(ha:SEP fa ga)(hb:SEP fb gb)(hc:SEP fc gc)(k:Zke o O):SFP (Zad fa fb fc o) (pq3 ga gb gc O):=by
 intro π m ps e fz st ρ b E;unfold pq3 at e;split at e
 ·rename_i x q
  split at e
  ·rename_i y q'
   split at e
   ·rename_i z q''
    obtain⟨d,st1,fz1,e1,n1,r1⟩:=ha π x q fz st ρ b E;obtain⟨d2,st2,fz2,e2,n2,r2⟩:=hb π y q' fz1 st1 ρ n1.bd (E.next b n1);obtain⟨d3,st3,fz3,e3,n3,r3⟩:=hc π z q'' fz2 st2 ρ n2.bd (E.next b (n1.trans n2));have mk:=k fz3 st3 x y z d d2 d3 m ps n3.bd (r1.next n1.bd (n2.trans n3)) (r2.next n2.bd n3) r3 e;have e4:Zad fa fb fc o ρ st=o d d2 d3 st3:=by unfold Zad;rw[e1];simp only[e2,e3]
    rw[e4];exact mk.fresh ((n1.trans n2).trans n3)
   ·cases e
  ·cases e
 ·cases e
theorem sC{p:P}{d:D}(h:∀ fz st,Rel fz st p d):SEP (evC d) (fun _=>some p):=by
 intro π q e fz st ρ b E;cases e;exact .same b (h fz st)
theorem Ze9(hc:SEP fc gc)(ha:SEP fa ga)(hb:SEP fb gb):SEP (XX fc fa fb) (Y0 gc ga gb):=by
 intro π p e fz st ρ b E;unfold Y0 at e;split at e
 ·rename_i q
  obtain⟨d,st1,fz1,e1,n1,r1⟩:=hc π _ q fz st ρ b E;cases r1;obtain⟨d2,st2,fz2,e2,n2,r2⟩:=ha π p e fz1 st1 ρ n1.bd (E.next b n1);exact⟨d2,st2,fz2,by unfold XX;rw[e1];exact e2,n1.trans n2,r2⟩
 ·rename_i q
  obtain⟨d,st1,fz1,e1,n1,r1⟩:=hc π _ q fz st ρ b E;cases r1;obtain⟨d2,st2,fz2,e2,n2,r2⟩:=hb π p e fz1 st1 ρ n1.bd (E.next b n1);exact⟨d2,st2,fz2,by unfold XX;rw[e1];exact e2,n1.trans n2,r2⟩
 ·cases e
theorem ZmI(i:Nat):SEP (WV i) (W6 i):=by
 intro π p e fz st ρ b E;unfold W6 at e;split at e
 ·rename_i q
  cases e;obtain⟨d,e1,r⟩:=E i _ q;exact⟨d,st,fz,by unfold WV;rw[e1],Next.refl b,r⟩
 ·cases e
theorem Zk5{F:Fn}{G:Li P->Ot P}{ds:Li D}(hF:∀ ps p,G ps=some p->∀ fz st es,Bd fz st->Rels fz st ps es->Gives fz st (F es st) p):Op1 (Jr F ds) (V2 G ds):=by
 intro fz st x dx p b r h;cases r with
 |@tup ps es r=>
  have h:(match XS ds with
   |some es=>G (ps++es)
   |none=>none)=some p:=h
  split at h
  ·rename_i qs q
   exact hF _ p h fz st (es++ds) b (r.append (Rels.ofConst q))
  ·cases h
 |_=>cases h
theorem Zk7{F:Nat->Fn}{G:Nat->Li P->Ot P}{tab:Li (Nat×Nat)}(hF:∀ j ps p,G j ps=some p->∀ fz st es,Bd fz st->Rels fz st ps es->Gives fz st (F j es st) p):Op2 (ZbD F tab) (W2 G tab):=by
 intro fz st x y dx dy p b r s h;cases r with
 |obj i=>
  cases s with
  |@tup ps ds s=>
   have h:(match tab.lookup i with
    |some j=>G j (.obj i :: ps)
    |none=>none)=some p:=h
   show Gives fz st (match tab.lookup i with
    |some j=>F j (.obj i :: ds) st
    |none=>none) p
   cases q:tab.lookup i with
   |none=>rw[q]at h;cases h
   |some j=>
    rw[q]at h;exact hF j _ p h fz st _ b (.cons (.obj i) s)
  |_=>cases h
 |_=>cases h
theorem Zjs{F:Fn}{G:Li P->Ot P}{ds:Li D}{fa:Ev}{ga:PEv}(ha:SEP fa ga)(hF:ZhH F G):SFP (Yh fa (Jr F ds)) (pq1 ga (V2 G ds)):=by
 intro π m ps h fz st ρ b E;unfold pq1 at h;split at h
 ·rename_i x q
  obtain⟨d,st1,fz1,e1,n1,r1⟩:=ha π x q fz st ρ b E;cases r1 with
  |@tup qs es r=>
   have h:(match XS ds with
    |some es=>G (qs++es)
    |none=>none)=some (.lst m ps):=h
   split at h
   ·rename_i ws qq
    obtain⟨j,us,st2,fz2,e2,f1,n2,f2,f3,f4⟩:=hF _ m ps h fz1 st1 (es++ds) n1.bd (r.append (Rels.ofConst qq));refine⟨j,us,st2,fz2,?_,f1,n1.trans n2,f2,Nat.le_trans n1.len f3,f4⟩;unfold Yh;rw[e1];exact e2
   ·cases h
  |_=>cases h
 ·cases h
theorem ZcU{fz:Fz}{st:Za}(n:Nat):Rels fz st ((List.range n).map fun(k:Nat)=>P.int (k:Int)) ((List.range n).map fun(k:Nat)=>D.int (k:Int)):=by
 generalize List.range n=l
 induction l with
 |nil=>exact .nil
 |cons a l ih=>exact .cons (.int _) ih
theorem U4{fz:Fz}{st:Za}{rng:Bool}{x:P}{dx:D}{xs:Li P}(r:Rel fz st x dx)(h:Ud rng x=some xs):∃ ds,X5 rng dx=some ds/\Rels fz st xs ds:=by
 cases rng with
 |true=>
  cases r with
  |int n=>
   have h:(if n < 2 ^ 62/\-(2 ^ 62)<=n then some (ZO n) else none)=some xs:=h
   split at h
   ·rename_i c
    cases h;refine⟨_,by unfold X5;simp only;rw[if_pos c],ZcU _⟩
   ·cases h
  |_=>cases h
 |false=>
  cases r with
  |tup r=>cases h;exact⟨_,rfl,r⟩
  |_=>cases h
theorem Qn{fz:Fz}{st:Za}{rng:Bool}{x:P}{dx:D}{xs:Li P}(b:Bd fz st)(r:Rel fz st x dx)(h:YF rng x=some xs):∃ ds ok,Zb4 rng dx st=some (ds,ok)/\Rels fz st xs ds/\∀ fz' st',Next fz st fz' st'->ok st':=by
 unfold YF at h;split at h
 ·rename_i ys q
  cases h;obtain⟨ds,e,rr⟩:=U4 r q;exact⟨ds,_,by unfold Zb4;rw[e],rr,fun _ _ _=>trivial⟩
 ·split at h
  ·cases h
   cases r with
   |@lst j m ps ds hz hs r=>
    rename_i m _;refine⟨ds,fun s=>s[j]?=some (m,ds),?_,r,fun fz' st' n=>?_⟩
    ·unfold Zb4 X5
     simp only[hs]
    ·exact(n.old j (b j hz)).trans hs
  ·cases h
theorem Vl{fz:Fz}{st:Za}:∀ {xs:Li P}{ds:Li D}{k:Nat},Rels fz st xs ds->Rels fz st (Y8 k xs) (X2 k ds)
 |_,_,_,.nil=>.nil
 |_,_,k,.cons a r=>.cons (.tup (.cons (.int _) (.cons a .nil))) (Vl r)
theorem ZeQ{fz:Fz}{st:Za}:∀ {xs:Li P}{ds:Li D},Rels fz st xs ds->ds.all ZgC=xs.all Zea
 |_,_,.nil=>rfl
 |_,_,.cons a r=>by
  rw[List.all_cons,List.all_cons,ZeQ r]
  congr 1
  cases a with
  |tup s=>
   cases s with
   |nil=>rfl
   |cons _ s=>cases s with
    |nil=>rfl
    |cons _ s=>cases s<;>rfl
  |_=>rfl
theorem Qq{fz:Fz}{st:Za}{x:P}{dx:D}{xs:Li P}(b:Bd fz st)(r:Rel fz st x dx)(h:Jg x=some xs):∃ ds ok,Zb5 dx st=some (ds,ok)/\Rels fz st xs ds/\∀ fz' st',Next fz st fz' st'->ok st':=by
 cases r with
 |@tup ps ds r=>
  have h:(if ps.all Zea=true then some ps else none)=some xs:=h
  split at h
  ·rename_i c
   cases h;refine⟨ds,fun _=>True,?_,r,fun _ _ _=>trivial⟩
   show(if ds.all ZgC=true then some (ds,fun _=>True) else none)=_
   rw[if_pos (by rw[ZeQ r];exact c)]
  ·cases h
 |_=>cases h
theorem Qp{fz:Fz}{st:Za}{x:P}{dx:D}{xs:Li P}(b:Bd fz st)(r:Rel fz st x dx)(h:Vq x=some xs):∃ ds ok,Qo dx st=some (ds,ok)/\Rels fz st xs ds/\∀ fz' st',Next fz st fz' st'->ok st':=by
 cases r with
 |@lst j m ps ds hz hs r=>
  cases h;exact⟨X2 0 ds,fun s=>s[j]?=some (_,ds),by unfold Qo;simp only[hs],Vl r,fun fz' st' n=>(n.old j (b j hz)).trans hs⟩
 |tup r=>cases h;exact⟨_,_,rfl,Vl r,fun _ _ _=>trivial⟩
 |_=>cases h
def UO(gb:P->Li (Ot P))(bd:D->Li (Ot D)):Prop:=∀ fz st x d,Rel fz st x d->(gb x).length=(bd d).length/\EnvAll fz st (gb x) (bd d)
theorem ZbJ:UO ZeO one:=fun fz st x d r=>⟨rfl,fun i p e=>by
 cases i with
 |zero=>cases e;exact⟨d,rfl,r⟩
 |succ i=>exact nomatch (show(none:Ot (Ot P))=some (some p) from e)⟩
theorem VS:UO VF two:=fun fz st x d r=>by
 have no:∀ {l:Li (Ot D)},EnvAll fz st [] l:=fun i p e=>nomatch (show(none:Ot (Ot P))=some (some p) from e)
 cases r with
 |tup r=>cases r with
  |nil=>exact⟨rfl,no⟩
  |cons a r=>cases r with
   |nil=>exact⟨rfl,no⟩
   |cons b r=>cases r with
    |cons c r=>exact⟨rfl,no⟩
    |nil=>exact⟨rfl,fun i p e=>by
     cases i with
     |zero=>cases e;exact⟨_,rfl,a⟩
     |succ i=>cases i with
      |zero=>cases e;exact⟨_,rfl,b⟩
      |succ i=>exact nomatch (show(none:Ot (Ot P))=some (some p) from e)⟩
 |_=>exact⟨rfl,no⟩
theorem V3{gb:P->Li (Ot P)}{bd:D->Li (Ot D)}(hb:UO gb bd){ok:Za->Prop}{fe fc:Ev}{ge gc:PEv}(he:SEP fe ge)(hc:SEP fc gc){fr:Li Nat}{π:Zr}{ρ:Env}:∀ {xs:Li P}{ds:Li D}{ys:Li P}{fz:Fz}{st:Za},Bd fz st->EnvAll fz st π ρ->Rels fz st xs ds->(∀ fz' st',Next fz st fz' st'->ok st')->
   Ye (fun p=>ge (YD gb π fr p)) (fun p=>gc (YD gb π fr p)) xs=some ys->∃ es st' fz',YS ok (fun d s=>fe (Xj bd ρ fr d) s) (fun d s=>fc (Xj bd ρ fr d) s) ds st=some (es,st')/\Next fz st fz' st'/\Rels fz' st' ys es
 |_,_,ys,fz,st,b,E,.nil,hok,h=>by cases h;exact⟨[],st,fz,if_pos (hok _ _ (Next.refl b)),Next.refl b,.nil⟩
 |x :: xs,d :: ds,ys,fz,st,b,E,.cons a r,hok,h=>by
  have ok0:=hok _ _ (Next.refl b);obtain⟨hl,hbe⟩:=hb fz st x d a;have E1:EnvAll fz st (YD gb π fr x) (Xj bd ρ fr d):=by
   intro i p e;unfold YD at e;unfold Xj;by_cases hi:i < (gb x).length
   ·rw[List.getElem?_append_left hi]at e
    rw[List.getElem?_append_left (by rw[<-hl];exact hi)]
    exact hbe i p e
   ·have hi:(gb x).length<=i:=Nat.le_of_not_lt hi
    rw[List.getElem?_append_right hi,List.getElem?_map]at e;rw[List.getElem?_append_right (by rw[<-hl];exact hi),List.getElem?_map,<-hl]
    cases q:fr[i - (gb x).length]? with
    |none=>rw[q]at e;cases e
    |some k=>
     rw[q]at e;have e:(π[k]?).join=some p:=by simpa using e
     have e2:π[k]?=some (some p):=by
      cases q2:π[k]? with
      |none=>rw[q2]at e;cases e
      |some o=>rw[q2]at e;rw[show o=some p from e]
     obtain⟨d',e3,r3⟩:=E k p e2;exact⟨d',by simp[e3],r3⟩
  unfold Ye at h;split at h
  ·rename_i q
   split at h
   ·rename_i y q1
    split at h
    ·rename_i zs q2
     cases h;obtain⟨dc,st1,fz1,e1,n1,r1⟩:=hc _ _ q fz st _ b E1;cases r1;obtain⟨dy,st2,fz2,e2,n2,r2⟩:=he _ _ q1 fz1 st1 _ n1.bd (E1.next b n1);obtain⟨es,st3,fz3,e3,n3,r3⟩:=V3 hb he hc n2.bd (E.next b (n1.trans n2)) (r.next b (n1.trans n2)) (fun _ _ n=>hok _ _ ((n1.trans n2).trans n)) q2
     refine⟨dy :: es,st3,fz3,?_,(n1.trans n2).trans n3,.cons (r2.next n2.bd n3) r3⟩;unfold YS;rw[if_pos ok0];simp only[e1,e2,e3]
    ·cases h
   ·cases h
  ·rename_i q
   obtain⟨dc,st1,fz1,e1,n1,r1⟩:=hc _ _ q fz st _ b E1;cases r1;obtain⟨es,st3,fz3,e3,n3,r3⟩:=V3 hb he hc n1.bd (E.next b n1) (r.next b n1) (fun _ _ n=>hok _ _ (n1.trans n)) h
   refine⟨es,st3,fz3,?_,n1.trans n3,r3⟩;unfold YS;rw[if_pos ok0];simp only[e1];exact e3
  ·cases h
theorem Ze8{gb:P->Li (Ot P)}{bd:D->Li (Ot D)}(hb:UO gb bd){gw:P->Ot (Li P)}{dw:D->Za->Ot (Li D×(Za->Prop))}(hw:∀ {fz:Fz}{st:Za}{x:P}{dx:D}{xs:Li P},Bd fz st->Rel fz st x dx->gw x=some xs->∃ ds ok,dw dx st=some (ds,ok)/\Rels fz st xs ds/\∀ fz' st',Next fz st fz' st'->ok st'){fr:Li Nat}{fi fe fc:Ev}{gi ge gc:PEv}(hi:SEP fi gi)(he:SEP fe ge)(hc:SEP fc gc){π:Zr}{p:P}(e:Z5 gb gw fr gi ge gc π=some p){fz:Fz}{st:Za}{ρ:Env}(b:Bd fz st)(E:EnvAll fz st π ρ) :
  ∃ ps ds st1 fz1,p=.lst true ps/\WT bd dw fr fi fe fc ρ st=some (.lst st1.length,st1++[(true,ds)])/\Next fz st fz1 st1/\Rels fz1 st1 ps ds:=by
 unfold Z5 at e;split at e
 ·rename_i x q
  split at e
  ·rename_i xs q1
   split at e
   ·rename_i c
    split at e
    ·rename_i ys q2
     cases e;obtain⟨d,st1,fz1,e1,n1,r1⟩:=hi π x q fz st ρ b E;obtain⟨ds,ok,e2,r2,hok⟩:=hw n1.bd r1 q1;obtain⟨es,st3,fz3,e3,n3,r3⟩:=V3 hb he hc (fr:=fr) n1.bd (E.next b n1) r2 hok q2;refine⟨ys,es,st3,fz3,rfl,?_,n1.trans n3,r3⟩;unfold WT;simp only[e1,e2];rw[if_pos (by rw[<-r2.length];exact c)]
     simp only[e3]
    ·cases e
   ·cases e
  ·cases e
 ·cases e
theorem Ze7{gb:P->Li (Ot P)}{bd:D->Li (Ot D)}(hb:UO gb bd){gw:P->Ot (Li P)}{dw:D->Za->Ot (Li D×(Za->Prop))}(hw:∀ {fz:Fz}{st:Za}{x:P}{dx:D}{xs:Li P},Bd fz st->Rel fz st x dx->gw x=some xs->∃ ds ok,dw dx st=some (ds,ok)/\Rels fz st xs ds/\∀ fz' st',Next fz st fz' st'->ok st'){fr:Li Nat}{fi fe fc:Ev}{gi ge gc:PEv}(hi:SEP fi gi)(he:SEP fe ge)(hc:SEP fc gc):SEP (WT bd dw fr fi fe fc) (Z5 gb gw fr gi ge gc):=by
 intro π p e fz st ρ b E;obtain⟨ps,ds,st1,fz1,rfl,e1,n1,r1⟩:=Ze8 hb hw hi he hc e b E;exact⟨_,_,_,e1,n1.trans (ZaX n1.bd),J7 n1.bd r1⟩
theorem Za1{gb:P->Li (Ot P)}{bd:D->Li (Ot D)}(hb:UO gb bd){gw:P->Ot (Li P)}{dw:D->Za->Ot (Li D×(Za->Prop))}(hw:∀ {fz:Fz}{st:Za}{x:P}{dx:D}{xs:Li P},Bd fz st->Rel fz st x dx->gw x=some xs->∃ ds ok,dw dx st=some (ds,ok)/\Rels fz st xs ds/\∀ fz' st',Next fz st fz' st'->ok st'){fr:Li Nat}{fi fe fc:Ev}{gi ge gc:PEv}(hi:SEP fi gi)(he:SEP fe ge)(hc:SEP fc gc):SFP (WT bd dw fr fi fe fc) (Z5 gb gw fr gi ge gc):=by
 intro π m qs e fz st ρ b E;obtain⟨ps,ds,st1,fz1,h,e1,n1,r1⟩:=Ze8 hb hw hi he hc e b E;cases h;exact Makes.fresh n1 ⟨ds,e1,r1⟩
end
theorem Zb{F:Nat->Fn}{G:PFn}(hF:Z8 F G):∀ e:CE,SEP (ev F e) (pe G e)
 |.var i=>ZmI i
 |.cst d=>by
  intro π p e fz st ρ b E;exact .same b (Rel.ofConst e)
 |.bin op a b=>s2 (Zb hF a) (Zb hF b) (ZkP op)
 |.neg a=>s1 (Zb hF a) ZkW
 |.cmp op a b=>s2 (Zb hF a) (Zb hF b) (ZkQ op)
 |.not a=>s1 (Zb hF a) ZkX
 |.and a b=>Ze9 (Zb hF a) (Zb hF b) (sC fun _ _=>.bl false)
 |.or a b=>Ze9 (Zb hF a) (sC fun _ _=>.bl true) (Zb hF b)
 |.ife c a b=>Ze9 (Zb hF c) (Zb hF a) (Zb hF b)
 |.tupE a=>Zb hF a
 |.lstE a=>s1 (Zb hF a) ZkT
 |.aN=>sC fun _ _=>.tup .nil
 |.aC a r=>s2 (Zb hF a) (Zb hF r) ZiY
 |.ix a b=>s2 (Zb hF a) (Zb hF b) Zl1
 |.slice a lo hi=>s3 (Zb hF a) (Zb hF lo) (Zb hF hi) ZgR
 |.nop=>sC fun _ _=>.non
 |.part a=>s1 (Zb hF a) Zi2
 |.call f a ds=>s1 (Zb hF a) (Zk5 (hF.1 f))
 |.len a=>s1 (Zb hF a) ZiZ
 |.tOf a=>s1 (Zb hF a) ZgS
 |.listOf a=>s1 (Zb hF a) Zi0
 |.intOf _=>fun _ r e=>nomatch (show(none:Ot P)=some r from e)
 |.min a b=>s2 (Zb hF a) (Zb hF b) ZkV
 |.max a b=>s2 (Zb hF a) (Zb hF b) ZkU
 |.isi T a=>s1 (Zb hF a) (ZkS T)
 |.rs _ _=>fun _ r e=>nomatch (show(none:Ot P)=some r from e)
 |.inv _=>fun _ r e=>nomatch (show(none:Ot P)=some r from e)
 |.tupR a=>s1 (Zb hF a) Zi3
 |.look ks ds a=>s1 (Zb hF a) (Zi1 ks ds)
 |.dget _ _ _=>fun _ r e=>nomatch (show(none:Ot P)=some r from e)
 |.inR ng a b=>s2 (Zb hF a) (Zb hF b) (ZkR ng)
 |.all _=>fun _ r e=>nomatch (show(none:Ot P)=some r from e)
 |.any _=>fun _ r e=>nomatch (show(none:Ot P)=some r from e)
 |.comp rng fr it elt cnd=>Ze7 ZbJ Qn (Zb hF it) (Zb hF elt) (Zb hF cnd)
 |.comp2 fr it elt cnd=>Ze7 VS Qp (Zb hF it) (Zb hF elt) (Zb hF cnd)
 |.compT fr it elt cnd=>Ze7 VS Qq (Zb hF it) (Zb hF elt) (Zb hF cnd)
 |.lstR _ _=>fun _ r e=>nomatch (show(none:Ot P)=some r from e)
 |.new i=>sC fun _ _=>.obj i
 |.meth tab o a=>s2 (Zb hF o) (Zb hF a) (Zk7 fun j=>hF.1 j)
 |.isc _ _=>fun _ r e=>nomatch (show(none:Ot P)=some r from e)
 |.tix o a=>s2 (Zb hF o) (Zb hF a) ZkY
 |.dict _ _=>fun _ r e=>nomatch (show(none:Ot P)=some r from e)
 |.dnew=>fun _ r e=>nomatch (show(none:Ot P)=some r from e)
theorem Zam{F:Nat->Fn}{G:PFn}(hF:Z8 F G):∀ e:CE,VL e=true->SFP (ev F e) (pe G e)
 |.bin op a b,_=>s2F (Zb hF a) (Zb hF b) (ZkC op)
 |.lstE a,_=>s1F (Zb hF a) ZhR
 |.call f a ds,h=>Zjs (Zb hF a) (hF.2 f h)
 |.slice a lo hi,_=>s3F (Zb hF a) (Zb hF lo) (Zb hF hi) Zgb
 |.listOf a,_=>s1F (Zb hF a) ZaC
 |.comp rng fr it elt cnd,_=>Za1 ZbJ Qn (Zb hF it) (Zb hF elt) (Zb hF cnd)
 |.comp2 fr it elt cnd,_=>Za1 VS Qp (Zb hF it) (Zb hF elt) (Zb hF cnd)
 |.compT fr it elt cnd,_=>Za1 VS Qq (Zb hF it) (Zb hF elt) (Zb hF cnd)
noncomputable def XF(M:Li Nat)(π:Zr):Zr:=π.mapIdx fun i x=>if M.contains i then none else x
theorem WU{M:Li Nat}{π:Zr}{i:Nat}(h:M.contains i=false):(XF M π)[i]?=π[i]?:=by
 unfold XF;rw[List.getElem?_mapIdx];cases q:π[i]? with
 |none=>rfl
 |some x=>
  show some (if M.contains i then none else x)=some x
  rw[h];rfl
theorem ZdE{M:Li Nat}{π:Zr}{i:Nat}{p:P}(h:(XF M π)[i]?=some (some p)):M.contains i=false/\π[i]?=some (some p):=by
 unfold XF at h;rw[List.getElem?_mapIdx]at h;cases q:π[i]? with
 |none=>rw[q]at h;cases h
 |some x=>
  rw[q]at h;have h:(if M.contains i then none else x)=some p:=by simpa using h
  split at h
  ·cases h
  ·rename_i c
   exact⟨by simpa using c,by rw[h]⟩
theorem Zh{G:PFn}{M:Li Nat}{π:Zr}:∀ e:CE,noM M e=true->pe G e (XF M π)=pe G e π
 |.var i,h=>by
  have h:(!M.contains i)=true:=h;show W6 i _=W6 i _;unfold W6;rw[WU (by simpa using h)]
 |.cst d,_=>rfl
 |.bin op a b,h=>by
  have h:=(Ba _ _).mp h;show pq2 (pe G a) (pe G b) (YG op) _=pq2 (pe G a) (pe G b) (YG op) _;unfold pq2;rw[Zh a h.1,Zh b h.2]
 |.neg a,h=>by
  show pq1 (pe G a) ZcO _=pq1 (pe G a) ZcO _;unfold pq1;rw[Zh a h]
 |.cmp op a b,h=>by
  have h:=(Ba _ _).mp h;show pq2 (pe G a) (pe G b) (ZX op) _=pq2 (pe G a) (pe G b) (ZX op) _;unfold pq2;rw[Zh a h.1,Zh b h.2]
 |.not a,h=>by
  show pq1 (pe G a) ZcR _=pq1 (pe G a) ZcR _;unfold pq1;rw[Zh a h]
 |.and a b,h=>by
  have h:=(Ba _ _).mp h;show Y0 (pe G a) (pe G b) _ _=Y0 (pe G a) (pe G b) _ _;unfold Y0;rw[Zh a h.1,Zh b h.2]
 |.or a b,h=>by
  have h:=(Ba _ _).mp h;show Y0 (pe G a) _ (pe G b) _=Y0 (pe G a) _ (pe G b) _;unfold Y0;rw[Zh a h.1,Zh b h.2]
 |.ife c a b,h=>by
  have h:=(Ba _ _).mp h;have h2:=(Ba _ _).mp h.2;show Y0 (pe G c) (pe G a) (pe G b) _=Y0 (pe G c) (pe G a) (pe G b) _;unfold Y0;rw[Zh c h.1,Zh a h2.1,Zh b h2.2]
 |.tupE a,h=>Zh a h
 |.lstE a,h=>by
  show pq1 (pe G a) ZaR _=pq1 (pe G a) ZaR _;unfold pq1;rw[Zh a h]
 |.aN,_=>rfl
 |.aC a b,h=>by
  have h:=(Ba _ _).mp h;show pq2 (pe G a) (pe G b) US _=pq2 (pe G a) (pe G b) US _;unfold pq2;rw[Zh a h.1,Zh b h.2]
 |.ix a b,h=>by
  have h:=(Ba _ _).mp h;show pq2 (pe G a) (pe G b) ixP _=pq2 (pe G a) (pe G b) ixP _;unfold pq2;rw[Zh a h.1,Zh b h.2]
 |.slice c a b,h=>by
  have h:=(Ba _ _).mp h;have h2:=(Ba _ _).mp h.2;show pq3 (pe G c) (pe G a) (pe G b) _ _=pq3 (pe G c) (pe G a) (pe G b) _ _;unfold pq3;rw[Zh c h.1,Zh a h2.1,Zh b h2.2]
 |.nop,_=>rfl
 |.part a,h=>by
  show pq1 (pe G a) Qd _=pq1 (pe G a) Qd _;unfold pq1;rw[Zh a h]
 |.call f a ds,h=>by
  show pq1 (pe G a) (V2 (G f) ds) _=pq1 (pe G a) (V2 (G f) ds) _;unfold pq1;rw[Zh a h]
 |.len a,h=>by
  show pq1 (pe G a) JT _=pq1 (pe G a) JT _;unfold pq1;rw[Zh a h]
 |.tOf a,h=>by
  show pq1 (pe G a) We _=pq1 (pe G a) We _;unfold pq1;rw[Zh a h]
 |.listOf a,h=>by
  show pq1 (pe G a) Uf _=pq1 (pe G a) Uf _;unfold pq1;rw[Zh a h]
 |.intOf _,_=>rfl
 |.min a b,h=>by
  have h:=(Ba _ _).mp h;show pq2 (pe G a) (pe G b) ZgN _=pq2 (pe G a) (pe G b) ZgN _;unfold pq2;rw[Zh a h.1,Zh b h.2]
 |.max a b,h=>by
  have h:=(Ba _ _).mp h;show pq2 (pe G a) (pe G b) Zek _=pq2 (pe G a) (pe G b) Zek _;unfold pq2;rw[Zh a h.1,Zh b h.2]
 |.isi T a,h=>by
  show pq1 (pe G a) (QL T) _=pq1 (pe G a) (QL T) _;unfold pq1;rw[Zh a h]
 |.rs _ _,_=>rfl
 |.inv _,_=>rfl
 |.tupR a,h=>by
  show pq1 (pe G a) Ql _=pq1 (pe G a) Ql _;unfold pq1;rw[Zh a h]
 |.look ks ds a,h=>by
  show pq1 (pe G a) (QP ks ds) _=pq1 (pe G a) (QP ks ds) _;unfold pq1;rw[Zh a h]
 |.dget _ _ _,_=>rfl
 |.inR ng a b,h=>by
  have h:=(Ba _ _).mp h;show pq2 (pe G a) (pe G b) (Zgy ng) _=pq2 (pe G a) (pe G b) (Zgy ng) _;unfold pq2;rw[Zh a h.1,Zh b h.2]
 |.all _,_=>rfl
 |.any _,_=>rfl
 |.comp rng fr it elt cnd,h=>by
  have h:=(Ba _ _).mp h;have e:∀ b p,YD b (XF M π) fr p=YD b π fr p:=fun b p=>by
   unfold YD
   congr 1
   refine List.map_congr_left fun i hi=>?_
   have:=List.all_eq_true.mp h.2 i hi;rw[WU (by simpa using this)]
  show Z5 ZeO (YF rng) fr (pe G it) (pe G elt) (pe G cnd) _=Z5 ZeO (YF rng) fr (pe G it) (pe G elt) (pe G cnd) _;unfold Z5;rw[Zh it h.1];simp only[e]
 |.comp2 fr it elt cnd,h=>by
  have h:=(Ba _ _).mp h;have e:∀ b p,YD b (XF M π) fr p=YD b π fr p:=fun b p=>by
   unfold YD
   congr 1
   refine List.map_congr_left fun i hi=>?_
   have:=List.all_eq_true.mp h.2 i hi;rw[WU (by simpa using this)]
  show Z5 VF Vq fr (pe G it) (pe G elt) (pe G cnd) _=Z5 VF Vq fr (pe G it) (pe G elt) (pe G cnd) _;unfold Z5;rw[Zh it h.1];simp only[e]
 |.compT fr it elt cnd,h=>by
  have h:=(Ba _ _).mp h;have e:∀ b p,YD b (XF M π) fr p=YD b π fr p:=fun b p=>by
   unfold YD
   congr 1
   refine List.map_congr_left fun i hi=>?_
   have:=List.all_eq_true.mp h.2 i hi;rw[WU (by simpa using this)]
  show Z5 VF Jg fr (pe G it) (pe G elt) (pe G cnd) _=Z5 VF Jg fr (pe G it) (pe G elt) (pe G cnd) _;unfold Z5;rw[Zh it h.1];simp only[e]
 |.new _,_=>rfl
 |.meth tab o a,h=>by
  have h:=(Ba _ _).mp h;show pq2 (pe G o) (pe G a) (W2 G tab) _=pq2 (pe G o) (pe G a) (W2 G tab) _;unfold pq2;rw[Zh o h.1,Zh a h.2]
 |.tix o a,h=>by
  have h:=(Ba _ _).mp h;show pq2 (pe G o) (pe G a) Zhz _=pq2 (pe G o) (pe G a) Zhz _;unfold pq2;rw[Zh o h.1,Zh a h.2]
 |.isc _ _,_=>rfl
 |.lstR _ _,_=>rfl
 |.dict _ _,_=>rfl
 |.dnew,_=>rfl
end Dp


namespace Dp
open PySem
inductive Own(p:P)(o:Option (Option D))(ps:List P)(j:Nat):Prop where
 |l (a:p=.lst true ps) (b:o=some (some (.lst j)))
 |d (a:p=.dic true ps) (b:o=some (some (.dic j)))
def Rf(o:Ot (Ot D))(j:Nat):Prop:=o=some (some (.lst j))\/o=some (some (.dic j))
theorem Own.rf{p:P}{o:Ot (Ot D)}{ps:Li P}{j:Nat}:Own p o ps j->Rf o j
 |.l _ b=>.inl b
 |.d _ b=>.inr b
theorem Rf.inj{o:Ot (Ot D)}{i j:Nat}(h:Rf o i)(h':Rf o j):i=j:=by
 rcases h with h|h<;>rcases h' with h'|h'<;>(rw[h]at h';cases h';try rfl)
theorem Own.lst{m:Bool}{xs:Li P}{o:Ot (Ot D)}{ps:Li P}{j:Nat}:Own (.lst m xs) o ps j->(m=true/\xs=ps)/\o=some (some (.lst j))
 |.l a b=>by cases a;exact⟨⟨rfl,rfl⟩,b⟩
 |.d a b=>nomatch a
theorem Own.dic{m:Bool}{xs:Li P}{o:Ot (Ot D)}{ps:Li P}{j:Nat}:Own (.dic m xs) o ps j->(m=true/\xs=ps)/\o=some (some (.dic j))
 |.l a b=>nomatch a
 |.d a b=>by cases a;exact⟨⟨rfl,rfl⟩,b⟩
theorem Own.rel{fz:Fz}{st:Za}{p:P}{o:Ot (Ot D)}{ps:Li P}{ds:Li D}{j:Nat}(h:Own p o ps j)(hz:fz j)(e:st[j]?=some (true,ds))(r:Rels fz st ps ds):∃ d,o=some (some d)/\Rel fz st p d:=by
 cases h with
 |l a b=>rw[a];exact⟨_,b,.lst hz e r⟩
 |d a b=>rw[a];exact⟨_,b,.dic hz e r⟩
structure Inv(n0:Nat)(M:List Nat)(fz:Fz)(st:Za)(π:Zr)(ρ:Env):Prop where
 bd:Bd fz st
 lo:n0<=st.length
 len:π.length=ρ.length
 fr:∀ (i:Nat) (p:P),M.contains i=false->π[i]?=some (some p)->∃ d,ρ[i]?=some (some d)/\Rel fz st p d
 mt:∀ (i:Nat) (p:P),M.contains i=true->π[i]?=some (some p)->∃ (j:Nat) (ps:List P) (ds:List D),Own p ρ[i]? ps j/\Rf ρ[i]? j/\st[j]?=some (true,ds)/\¬fz j/\n0<=j/\Rels fz st ps ds
 ne:∀ (i i':Nat) (p p':P) (j:Nat),M.contains i=true->M.contains i'=true->π[i]?=some (some p)->π[i']?=some (some p')->Rf ρ[i]? j->Rf ρ[i']? j->i=i'
structure Later(n0:Nat)(fz:Fz)(st:Za)(fz':Fz)(st':Za):Prop where
 low:∀ i,i < n0->st'[i]?=st[i]?
 frz:∀ i,fz i->st'[i]?=st[i]?
 sub:∀ i,fz i->fz' i
 new:∀ i,fz' i->fz i\/n0<=i
 len:st.length<=st'.length
section
variable {n0:Nat}{M:Li Nat}{fz fz' fz1 fz2:Fz}{st st' st1 st2:Za}{π:Zr}{ρ:Env}
theorem Later.refl:Later n0 fz st fz st:=⟨fun _ _=>rfl,fun _ _=>rfl,fun _ h=>h,fun _ h=>.inl h,Nat.le_refl _⟩
theorem Later.trans(x:Later n0 fz st fz1 st1)(y:Later n0 fz1 st1 fz2 st2):Later n0 fz st fz2 st2:=
 ⟨fun i h=>(y.low i h).trans (x.low i h),fun i h=>(y.frz i (x.sub i h)).trans (x.frz i h),fun i h=>y.sub i (x.sub i h),fun i h=>(y.new i h).elim (x.new i) .inr,Nat.le_trans x.len y.len⟩
theorem Next.later(h:n0<=st.length)(b:Bd fz st)(x:Next fz st fz' st'):Later n0 fz st fz' st':=
 ⟨fun i hi=>x.old i (Nat.lt_of_lt_of_le hi h),fun i hi=>x.old i (b i hi),x.sub,fun i hi=>(x.new i hi).elim .inl fun z=>.inr (Nat.le_trans h z),x.len⟩
theorem ZW{α:Type}{l:Li α}{i:Nat}{x:α}(h:l[i]?=some x):i < l.length:=(List.getElem?_eq_some_iff.mp h).1
theorem Inv.next(I:Inv n0 M fz st π ρ)(x:Next fz st fz' st'):Inv n0 M fz' st' π ρ:=
 ⟨x.bd,Nat.le_trans I.lo x.len,I.len,fun i p h e=>let ⟨d,e1,r⟩:=I.fr i p h e;⟨d,e1,r.next I.bd x⟩,fun i p h e=>by
  obtain⟨j,ps,ds,e1,e2,e3,e4,e5,r⟩:=I.mt i p h e;have hj:=ZW e3;exact⟨j,ps,ds,e1,e2,(x.old j hj).trans e3,fun z=>(x.new j z).elim e4 fun z=>absurd hj (by omega),e5,r.next I.bd x⟩,I.ne⟩
theorem Inv.erase(I:Inv n0 M fz st π ρ):EnvAll fz st (XF M π) ρ:=fun i p e=>let ⟨h1,h2⟩:=ZdE e;I.fr i p h1 h2
noncomputable def fzM(M:Li Nat)(fz:Fz)(π:Zr)(ρ:Env):Fz:=fun i=>fz i\/∃ (k:Nat) (p:P),M.contains k=true/\π[k]?=some (some p)/\Rf ρ[k]? i
theorem Inv.bdM(I:Inv n0 M fz st π ρ):Bd (fzM M fz π ρ) st:=by
 rintro i (h|⟨k,p,hk,e,e'⟩)
 ·exact I.bd i h
 ·obtain⟨j,ps,ds,e1,e2,e3,e4,e5,r⟩:=I.mt k p hk e
  cases e'.inj e2
  exact ZW e3
theorem Inv.all(I:Inv n0 M fz st π ρ):EnvAll (fzM M fz π ρ) st π ρ:=by
 intro i p e;cases h:M.contains i with
 |false=>
  obtain⟨d,e1,r⟩:=I.fr i p h e;exact⟨d,e1,r.mono (fun _ z=>.inl z) fun _ _=>rfl⟩
 |true=>
  obtain⟨j,ps,ds,e1,e2,e3,e4,e5,r⟩:=I.mt i p h e;exact e1.rel (.inr ⟨i,_,h,e,e2⟩) e3 (r.mono (fun _ z=>.inl z) fun _ _=>rfl)
theorem ZY{F:Nat->Fn}{G:PFn}(hF:Z8 F G){e:CE}{p:P}(I:Inv n0 M fz st π ρ)(h:pe G e π=some p)(k:Zv M e p=true):Gives fz st (ev F e ρ st) p:=by
 unfold Zv at k;rw[Bool.or_eq_true]at k;rcases k with k|k
 ·rw[<-Zh e k]at h
  exact Zb hF e _ p h fz st ρ I.bd I.erase
 ·obtain⟨d,st',fz',e1,n1,r1⟩:=Zb hF e _ p h _ st ρ I.bdM I.all
  exact⟨d,st',fz,e1,n1.small I.bd,r1.ofNoL k⟩
theorem JB{F:Nat->Fn}{G:PFn}(hF:Z8 F G){e:CE}{m:Bool}{xs:Li P}(I:Inv n0 M fz st π ρ)(h:pe G e π=some (.lst m xs))(hf:VL e=true)(k:(noM M e||Xw xs)=true) :
  ∃ j ds st' fz1,ev F e ρ st=some (.lst j,st')/\st'[j]?=some (m,ds)/\Next fz st fz1 st'/\¬fz1 j/\st.length<=j/\Rels fz1 st' xs ds:=by
 rw[Bool.or_eq_true]at k;rcases k with k|k
 ·rw[<-Zh e k]at h
  exact Zam hF e hf _ m xs h fz st ρ I.bd I.erase
 ·obtain⟨j,ds,st',fz1,e1,e2,n1,hn,hl,r⟩:=Zam hF e hf _ m xs h _ st ρ I.bdM I.all
  exact⟨j,ds,st',fz,e1,e2,n1.small I.bd,fun z=>absurd (I.bd j z) (by omega),hl,r.ofNoL k⟩
theorem UY{F:Nat->Fn}{G:PFn}(hF:Z8 F G){e:CE}{p:P}(I:Inv n0 M fz st π ρ)(h:pe G e π=some p)(k:Xe M e p=true) :
  ∃ d j ps ds st' fz1,(ev F e ρ st=some (d,st')/\Own p (some (some d)) ps j)/\st'[j]?=some (true,ds)/\Next fz st fz1 st'/\¬fz1 j/\st.length<=j/\Rels fz1 st' ps ds:=by
 unfold Xe at k;split at k
 ·rw[Ba]at k
  obtain⟨j,ds,st',fz1,e1,r⟩:=JB hF I h k.1 k.2;exact⟨_,j,_,ds,st',fz1,⟨e1,.l rfl rfl⟩,r⟩
 ·cases k
theorem ZcC{F:Nat->Fn}{G:PFn}(hF:Z8 F G){e:CE}{p:P}(I:Inv n0 M fz st π ρ)(h:pe G e π=some p)(k:Xe M e p=true):Gives fz st (ev F e ρ st) p:=by
 obtain⟨d,j,ps,ds,st',fz1,⟨e1,ow⟩,e2,n1,hn,hl,r⟩:=UY hF I h k;obtain⟨d',e3,r'⟩:=ow.rel (fz:=fun i=>fz1 i\/i=j) (.inr rfl) e2 (r.mono (fun _ z=>.inl z) fun _ _=>rfl)
 cases e3;exact⟨d,st',fun i=>fz1 i\/i=j,e1,⟨n1.old,n1.len,fun i z=>.inl (n1.sub i z),fun i z=>z.elim (n1.new i) fun z=>by rw[z];exact .inr hl,fun i z=>z.elim (n1.bd i) fun z=>by rw[z];exact ZW e2⟩,r'⟩
theorem Z3{α:Type}{l:Li (Ot α)}{i k:Nat}{x y:α}(h:(l.set i (some x))[k]?=some (some y)):(k=i/\y=x/\i < l.length)\/(k≠i/\l[k]?=some (some y)):=by
 rw[List.getElem?_set]at h;split at h
 ·rename_i e
  subst e;split at h
  ·rename_i hl
   cases h;exact .inl ⟨rfl,rfl,hl⟩
  ·cases h
 ·rename_i e
  exact .inr ⟨fun z=>e z.symm,h⟩
theorem Uu{α:Type}{l:Li (Ot α)}{i:Nat}{x:α}(h:i < l.length):(l.set i (some x))[i]?=some (some x):=by rw[List.getElem?_set,if_pos rfl,if_pos h]
theorem Zj{α:Type}{l:Li (Ot α)}{i k:Nat}{x:α}(h:k≠i):(l.set i (some x))[k]?=l[k]?:=by rw[List.getElem?_set,if_neg (fun z=>h z.symm)]
theorem Inv.set{i:Nat}{p:P}{d:D}(I:Inv n0 M fz st π ρ)(h:M.contains i=false)(r:Rel fz st p d):Inv n0 M fz st (Zo π i p) (Zz ρ i d):=by
 unfold Zo Zz;refine⟨I.bd,I.lo,by rw[List.length_set,List.length_set];exact I.len,fun k q hk e=>?_,fun k q hk e=>?_,fun k k' q q' j hk hk' e e' e1 e1'=>?_⟩
 ·rcases Z3 e with⟨rfl,rfl,hl⟩|⟨hn,e⟩
  ·exact⟨d,Uu (by rw[<-I.len];exact hl),r⟩
  ·rw[Zj hn]
   exact I.fr k q hk e
 ·rcases Z3 e with⟨rfl,rfl,hl⟩|⟨hn,e⟩
  ·rw[h]at hk;cases hk
  ·rw[Zj hn]
   exact I.mt k q hk e
 ·rcases Z3 e with⟨rfl,rfl,hl⟩|⟨hn,e⟩
  ·rw[h]at hk;cases hk
  ·rcases Z3 e' with⟨rfl,rfl,hl⟩|⟨hn',e'⟩
   ·rw[h]at hk';cases hk'
   ·rw[Zj hn]at e1
    rw[Zj hn']at e1';exact I.ne k k' q q' j hk hk' e e' e1 e1'
theorem Inv.setM{i j:Nat}{p:P}{d:D}{ps:Li P}{ds:Li D}(I:Inv n0 M fz st π ρ)(h:M.contains i=true)(ow:Own p (some (some d)) ps j)(hs:st[j]?=some (true,ds))(hz:¬fz j)(hl:n0<=j)(r:Rels fz st ps ds)(hn:∀ (k:Nat) (p:P),M.contains k=true->π[k]?=some (some p)->¬Rf ρ[k]? j):Inv n0 M fz st (Zo π i p) (Zz ρ i d):=by
 unfold Zo Zz;refine⟨I.bd,I.lo,by rw[List.length_set,List.length_set];exact I.len,fun k q hk e=>?_,fun k q hk e=>?_,fun k k' q q' j' hk hk' e e' e1 e1'=>?_⟩
 ·rcases Z3 e with⟨rfl,rfl,hl⟩|⟨hn,e⟩
  ·rw[h]at hk;cases hk
  ·rw[Zj hn]
   exact I.fr k q hk e
 ·rcases Z3 e with⟨rfl,rfl,hl'⟩|⟨hn,e⟩
  ·have z:=Uu (x:=d) (show k < ρ.length by rw[<-I.len];exact hl')
   exact⟨j,ps,ds,by rw[z];exact ow,by rw[z];exact ow.rf,hs,hz,hl,r⟩
  ·rw[Zj hn]
   exact I.mt k q hk e
 ·rcases Z3 e with⟨a1,a2,a3⟩|⟨a1,a2⟩
  ·rcases Z3 e' with⟨b1,b2,b3⟩|⟨b1,b2⟩
   ·rw[a1,b1]
   ·rw[a1,Uu (by rw[<-I.len];exact a3)]at e1
    cases ow.rf.inj e1
    rw[Zj b1]at e1';exact absurd e1' (hn k' q' hk' b2)
  ·rcases Z3 e' with⟨b1,b2,b3⟩|⟨b1,b2⟩
   ·rw[b1,Uu (by rw[<-I.len];exact b3)]at e1'
    cases ow.rf.inj e1'
    rw[Zj a1]at e1;exact absurd e1 (hn k q hk a2)
   ·rw[Zj a1]at e1
    rw[Zj b1]at e1';exact I.ne k k' q q' j' hk hk' a2 b2 e1 e1'
theorem Inv.write{i j:Nat}{p0 p1:P}{ps:Li P}{ds:Li D}(I:Inv n0 M fz st π ρ)(h:M.contains i=true)(e0:π[i]?=some (some p0))(ow:Own p1 ρ[i]? ps j)(hz:¬fz j)(hl:n0<=j)(hj:j < st.length)(r:Rels fz st ps ds) :
  Inv n0 M fz (st.set j (true,ds)) (Zo π i p1) ρ/\Later n0 fz st fz (st.set j (true,ds)):=by
 have same:∀ k,fz k->(st.set j (true,ds))[k]?=st[k]?:=fun k hk=>by
  rw[List.getElem?_set,if_neg (fun z=>hz (by rw[z];exact hk))]
 have mono:∀ {q:P}{d:D},Rel fz st q d->Rel fz (st.set j (true,ds)) q d:=fun r=>r.mono (fun _ z=>z) same
 have monos:∀ {q:Li P}{d:Li D},Rels fz st q d->Rels fz (st.set j (true,ds)) q d:=fun r=>r.mono (fun _ z=>z) same
 refine⟨⟨fun k hk=>by rw[List.length_set];exact I.bd k hk,by rw[List.length_set];exact I.lo,by unfold Zo;rw[List.length_set];exact I.len,fun k q hk e=>?_,fun k q hk e=>?_,fun k k' q q' j' hk hk' e e' e1 e1'=>?_⟩,
  ⟨fun k hk=>by rw[List.getElem?_set,if_neg (by omega)],same,fun _ z=>z,fun _ z=>.inl z,by rw[List.length_set];exact Nat.le_refl _⟩⟩
 ·unfold Zo at e
  rcases Z3 e with⟨rfl,rfl,_⟩|⟨hn,e⟩
  ·rw[h]at hk;cases hk
  ·obtain⟨d,e1,r1⟩:=I.fr k q hk e
   exact⟨d,e1,mono r1⟩
 ·unfold Zo at e
  rcases Z3 e with⟨rfl,rfl,_⟩|⟨hn,e⟩
  ·exact⟨j,ps,ds,ow,ow.rf,by rw[List.getElem?_set,if_pos rfl,if_pos hj],hz,hl,monos r⟩
  ·obtain⟨j',qs,es,f1,f2,f3,f4,f5,f6⟩:=I.mt k q hk e
   refine⟨j',qs,es,f1,f2,?_,f4,f5,monos f6⟩;rw[List.getElem?_set,if_neg (fun z=>hn (I.ne k i q p0 j hk h e e0 (by rw[z];exact f2) ow.rf))]
   exact f3
 ·unfold Zo at e e'
  have f:∀ {k:Nat}{q:P},(π.set i (some p1))[k]?=some (some q)->∃ q',π[k]?=some (some q'):=fun {k q} e=>by
   rcases Z3 e with⟨rfl,_,_⟩|⟨_,e⟩
   ·exact⟨_,e0⟩
   ·exact⟨_,e⟩
  obtain⟨_,g⟩:=f e;obtain⟨_,g'⟩:=f e';exact I.ne k k' _ _ j' hk hk' g g' e1 e1'
end
def ZlB(n0:Nat)(M:Li Nat)(fz:Fz)(st:Za):PFl->Fl->Prop
 |.nx π,.nx ρ=>Inv n0 M fz st π ρ
 |.bk π,.bk ρ=>Inv n0 M fz st π ρ
 |.ct π,.ct ρ=>Inv n0 M fz st π ρ
 |.rt p,.rt d=>Rel fz st p d/\Bd fz st
 |_,_=>False
def Kept(M T:Li Nat)(π:Zr)(ρ:Env)(st:Za)(π':Zr)(ρ':Env)(st':Za):Prop:=
 ∀ (i:Nat),i∉T->M.contains i=true->π'[i]?=π[i]?/\ρ'[i]?=ρ[i]?/\∀ (j:Nat) (p:P),π[i]?=some (some p)->Rf ρ[i]? j->st'[j]?=st[j]?
def KeptF(M T:Li Nat)(π:Zr)(ρ:Env)(st:Za)(r:PFl)(r':Fl)(st':Za):Prop:=match r,r' with
 |.nx π',.nx ρ'=>Kept M T π ρ st π' ρ' st'
 |.bk π',.bk ρ'=>Kept M T π ρ st π' ρ' st'
 |.ct π',.ct ρ'=>Kept M T π ρ st π' ρ' st'
 |_,_=>True
theorem Kept.refl{M T:Li Nat}{π:Zr}{ρ:Env}{st:Za}:Kept M T π ρ st π ρ st:=fun _ _ _=>⟨rfl,rfl,fun _ _ _ _=>rfl⟩
theorem Kept.trans{M T T1 T2:Li Nat}{π π1 π2:Zr}{ρ ρ1 ρ2:Env}{st st1 st2:Za}(s1:∀ i,i∈T1->i∈T)(s2:∀ i,i∈T2->i∈T)(x:Kept M T1 π ρ st π1 ρ1 st1)(y:Kept M T2 π1 ρ1 st1 π2 ρ2 st2):Kept M T π ρ st π2 ρ2 st2:=fun i h hm=>by
 obtain⟨a1,a2,a3⟩:=x i (fun z=>h (s1 i z)) hm
 obtain⟨b1,b2,b3⟩:=y i (fun z=>h (s2 i z)) hm
 exact⟨b1.trans a1,b2.trans a2,fun j p e e'=>(b3 j p (a1.trans e) (by rw[a2];exact e')).trans (a3 j p e e')⟩
theorem Kept.more{M T T1:Li Nat}{π π1:Zr}{ρ ρ1:Env}{st st1:Za}(s1:∀ i,i∈T1->i∈T)(x:Kept M T1 π ρ st π1 ρ1 st1):Kept M T π ρ st π1 ρ1 st1:=fun i h hm=>x i (fun z=>h (s1 i z)) hm
theorem KeptF.trans{M T T1 T2:Li Nat}{π π1:Zr}{ρ ρ1:Env}{st st1 st2:Za}{r:PFl}{r':Fl}(s1:∀ i,i∈T1->i∈T)(s2:∀ i,i∈T2->i∈T)(x:Kept M T1 π ρ st π1 ρ1 st1)(y:KeptF M T2 π1 ρ1 st1 r r' st2):KeptF M T π ρ st r r' st2:=by
 cases r<;>cases r'<;>first|trivial|exact Kept.trans s1 s2 x y
theorem KeptF.more{M T T1:Li Nat}{π:Zr}{ρ:Env}{st st2:Za}{r:PFl}{r':Fl}(s1:∀ i,i∈T1->i∈T)(y:KeptF M T1 π ρ st r r' st2):KeptF M T π ρ st r r' st2:=by
 cases r<;>cases r'<;>first|trivial|exact Kept.more s1 y
theorem Next.kept{n0:Nat}{M T:Li Nat}{fz fz':Fz}{st st':Za}{π:Zr}{ρ:Env}(I:Inv n0 M fz st π ρ)(x:Next fz st fz' st'):Kept M T π ρ st π ρ st':=fun i _ hm=>⟨rfl,rfl,fun j p e e'=>by
 obtain⟨j',ps,ds,e1,e2,e3,e4,e5,r⟩:=I.mt i p hm e;cases e'.inj e2
 exact x.old j (ZW e3)⟩
abbrev XT(n0:Nat)(M T:Li Nat)(fz:Fz)(st:Za)(π:Zr)(ρ:Env)(x:Ot (Fl×Za))(r:PFl):Prop:=∃ r' st' fz',x=some (r',st')/\Later n0 fz st fz' st'/\ZlB n0 M fz' st' r r'/\KeptF M T π ρ st r r' st'
def SX(n0:Nat)(M T:Li Nat)(f:Ex)(g:PEx):Prop:=∀ π r,g π=some r->∀ fz st ρ,Inv n0 M fz st π ρ->XT n0 M T fz st π ρ (f ρ st) r
section
variable {n0:Nat}{M T T1 T2:Li Nat}{f f1 f2:Ex}{g g1 g2:PEx}{F:Nat->Fn}{G:PFn}
theorem Zlm(h1:SX n0 M T1 f1 g1)(h2:SX n0 M T2 f2 g2):SX n0 M (T1++T2) (UK f1 f2) (VE g1 g2):=by
 intro π r e fz st ρ I;have s1:∀ i,i∈T1->i∈T1++T2:=fun i h=>List.mem_append.mpr (.inl h)
 have s2:∀ i,i∈T2->i∈T1++T2:=fun i h=>List.mem_append.mpr (.inr h)
 unfold VE at e;split at e
 ·rename_i π1 q
  obtain⟨r1,st1,fz1,e1,l1,R1,k1⟩:=h1 π _ q fz st ρ I;cases r1 with
  |nx ρ1=>
   obtain⟨r2,st2,fz2,e2,l2,R2,k2⟩:=h2 π1 r e fz1 st1 ρ1 R1;exact⟨r2,st2,fz2,by unfold UK;rw[e1];exact e2,l1.trans l2,R2,KeptF.trans s1 s2 k1 k2⟩
  |_=>exact R1.elim
 ·rename_i hn
  obtain⟨r1,st1,fz1,e1,l1,R1,k1⟩:=h1 π _ e fz st ρ I;refine⟨r1,st1,fz1,?_,l1,R1,KeptF.more s1 k1⟩;unfold UK;rw[e1];cases r with
  |nx π1=>exact absurd e (hn π1)
  |rt p=>cases r1<;>first|rfl|exact R1.elim
  |bk π1=>cases r1<;>first|rfl|exact R1.elim
  |ct π1=>cases r1<;>first|rfl|exact R1.elim
theorem Zll(hF:Z8 F G)(e:CE):SX n0 M T (Ze3 (ev F e)) (ZeR (pe G e)):=by
 intro π r h fz st ρ I;unfold ZeR at h;split at h
 ·rename_i p q
  cases h;obtain⟨d,st',fz',e1,n1,r1⟩:=Zb hF e _ p q _ st ρ I.bdM I.all;refine⟨.rt d,st',fz',by unfold Ze3;rw[e1],⟨fun i hi=>n1.old i (Nat.lt_of_lt_of_le hi I.lo),fun i hi=>n1.old i (I.bd i hi),fun i hi=>n1.sub i (.inl hi),fun i hi=>?_,n1.len⟩,⟨r1,n1.bd⟩,trivial⟩
  rcases n1.new i hi with(z|⟨k,p,hk,e,e'⟩)|z
  ·exact .inl z
  ·obtain⟨j,ps,ds,f1,f2,f3,f4,f5,r⟩:=I.mt k p hk e
   cases e'.inj f2
   exact .inr f5
  ·exact .inr (Nat.le_trans I.lo z)
 ·cases h
theorem Wp{α:Type}{l:Li (Ot α)}{j k:Nat}{x:α}(e:(l.set j none)[k]?=some (some x)):k≠j/\l[k]?=some (some x):=by
 by_cases h:k=j
 ·subst h
  rw[List.getElem?_set]at e;simp only[if_true]at e;split at e<;>cases e
 ·rw[List.getElem?_set,if_neg (fun z=>h z.symm)]at e
  exact⟨h,e⟩
theorem ZmM{i j:Nat}{p:P}{π:Zr}{fz:Fz}{st:Za}{ρ:Env}(I:Inv n0 M fz st π ρ)(hj:M.contains j=true)(hi:M.contains i=false)(q:π[j]?=some (some p)) :
  ∃ d fz',ρ[j]?=some (some d)/\Later n0 fz st fz' st/\Inv n0 M fz' st (Zo (π.set j none) i p) (Zz ρ i d)/\Kept M [i,j] π ρ st (Zo (π.set j none) i p) (Zz ρ i d) st:=by
 obtain⟨J,ps,ds,f1,f2,f3,f4,f5,f6⟩:=I.mt j p hj q;have sub:∀ k,fz k->(fz k\/k=J):=fun k h=>.inl h
 obtain⟨d,hd,rd⟩:=f1.rel (fz:=fun k=>fz k\/k=J) (.inr rfl) f3 (f6.mono sub fun _ _=>rfl)
 refine⟨d,fun k=>fz k\/k=J,hd,⟨fun _ _=>rfl,fun _ _=>rfl,sub,fun k h=>h.elim .inl fun z=>.inr (by rw[z];exact f5),Nat.le_refl _⟩,?_,fun k hk hm=>?_⟩
 ·unfold Zo Zz
  refine⟨fun k h=>h.elim (I.bd k) fun z=>by rw[z];exact ZW f3,I.lo,by rw[List.length_set,List.length_set,List.length_set];exact I.len,fun k q' hk e=>?_,fun k q' hk e=>?_,fun k k' q' q'' j' hk hk' e e' e1 e1'=>?_⟩
  ·rcases Z3 e with⟨rfl,rfl,hl⟩|⟨hn,e⟩
   ·exact⟨d,Uu (by rw[<-I.len];simpa using hl),rd⟩
   ·rw[Zj hn]
    obtain⟨d,e2,r⟩:=I.fr k q' hk (Wp e).2;exact⟨d,e2,r.mono sub fun _ _=>rfl⟩
  ·rcases Z3 e with⟨rfl,rfl,hl⟩|⟨hn,e⟩
   ·rw[hi]at hk;cases hk
   ·rw[Zj hn]
    obtain⟨nj,e⟩:=Wp e;obtain⟨J',ps',ds',g1,g2,g3,g4,g5,g6⟩:=I.mt k q' hk e;refine⟨J',ps',ds',g1,g2,g3,fun z=>z.elim g4 fun z=>?_,g5,g6.mono sub fun _ _=>rfl⟩
    subst z;exact nj (I.ne k j _ _ J' hk hj e q g2 f2)
  ·rcases Z3 e with⟨rfl,rfl,hl⟩|⟨hn,e⟩
   ·rw[hi]at hk;cases hk
   ·rcases Z3 e' with⟨rfl,rfl,hl⟩|⟨hn',e'⟩
    ·rw[hi]at hk';cases hk'
    ·rw[Zj hn]at e1
     rw[Zj hn']at e1';exact I.ne k k' _ _ j' hk hk' (Wp e).2 (Wp e').2 e1 e1'
 ·have n1:k≠i:=fun z=>hk (by rw[z];exact Ls)
  have n2:k≠j:=fun z=>hk (by rw[z];exact Lm _ (List.mem_singleton.mpr rfl))
  refine⟨?_,Zj n1,fun _ _ _ _=>rfl⟩
  unfold Zo;rw[Zj n1,List.getElem?_set,if_neg (fun z=>n2 z.symm)]
theorem Zln(hF:Z8 F G)(i:Nat)(e:CE):SX n0 M (i :: mvT e) (Zag i (ev F e)) (ZaW M i e (pe G e)):=by
 intro π r h fz st ρ I;have kp:∀ {fz':Fz}{st':Za}{d:D}{p:P},Next fz st fz' st'->Kept M (i :: mvT e) π ρ st (Zo π i p) (Zz ρ i d) st':=fun {fz' st' d p} x k hk hm=>by
  have hki:k≠i:=fun z=>hk (by rw[z];exact Ls)
  have:=Next.kept (T:=i :: mvT e) I x k hk hm;exact⟨Zj hki,Zj hki,this.2.2⟩
 unfold ZaW at h;split at h
 ·rename_i p q
  cases hm:M.contains i with
  |true=>
   rw[hm]at h;simp only[if_true]at h;split at h
   ·rename_i c
    cases h;obtain⟨d,j,ps,ds,st',fz1,⟨e1,ow⟩,e2,n1,hn,hl,r⟩:=UY hF I q c;refine⟨.nx (Zz ρ i d),st',fz1,by unfold Zag;rw[e1],n1.later I.lo I.bd,(I.next n1).setM hm ow e2 hn (Nat.le_trans I.lo hl) r fun k p hk e e'=>?_,kp n1⟩
    obtain⟨j',ps,es,f1,f2,f3,f4,f5,_⟩:=I.mt k p hk e;cases e'.inj f2
    exact absurd (ZW f3) (by omega)
   ·unfold mvP at h
    split at h
    ·rw[hm,Bool.not_true,Bool.and_false]at h
     cases h
    ·cases h
  |false=>
   rw[hm]at h;simp only[Bool.false_eq_true,if_false]at h;split at h
   ·rename_i c
    cases h;obtain⟨d,st',fz',e1,n1,r1⟩:Gives fz st (ev F e ρ st) p:=((Bool.or_eq_true _ _).mp c).elim (ZY hF I q) (ZcC hF I q);exact⟨.nx (Zz ρ i d),st',fz',by unfold Zag;rw[e1],n1.later I.lo I.bd,(I.next n1).set hm r1,kp n1⟩
   ·unfold mvP at h
    split at h
    ·rename_i j _
     split at h
     ·rename_i c
      cases h;rw[Ba]at c;have q:W6 j π=some p:=q;unfold W6 at q;split at q
      ·rename_i p' q'
       cases q;obtain⟨d,fz',e1,l1,I1,k1⟩:=ZmM I c.1 hm q';refine⟨.nx (Zz ρ i d),st,fz',?_,l1,I1,k1⟩;show Zag i (WV j) ρ st=_;unfold Zag WV;simp only[e1]
      ·cases q
     ·cases h
    ·cases h
 ·cases h
theorem ZjV(hF:Z8 F G)(i j:Nat)(e:CE):SX n0 M [i,j] (Zae i j (ev F e)) (ZeT M i j e (pe G e)):=by
 intro π r h fz st ρ I;have kp:∀ {fz':Fz}{st':Za}{d d':D}{p p':P},Next fz st fz' st'->Kept M [i,j] π ρ st (Zo (Zo π i p) j p') (Zz (Zz ρ i d) j d') st':=fun {fz' st' d d' p p'} x k hk hm=>by
  have hki:k≠i:=fun z=>hk (by rw[z];exact Ls)
  have hkj:k≠j:=fun z=>hk (by rw[z];exact Lm _ Ls)
  have:=Next.kept (T:=[i,j]) I x k hk hm;exact⟨(Zj hkj).trans (Zj hki),(Zj hkj).trans (Zj hki),this.2.2⟩
 unfold ZeT at h;split at h
 ·rename_i x y q
  split at h
  ·rename_i c
   cases h;rw[Ba,Ba]at c;have hi:M.contains i=false:=by simpa using c.1.1
   have hj:M.contains j=false:=by simpa using c.1.2
   obtain⟨d,st',fz',e1,n1,r1⟩:=ZY hF I q c.2;cases r1 with
   |tup rr=>
    cases rr with
    |cons a rr=>
     cases rr with
     |cons a' rr=>
      cases rr;exact⟨.nx _,st',fz',by unfold Zae;rw[e1],n1.later I.lo I.bd,((I.next n1).set hi a).set hj a',kp n1⟩
  ·cases h
 ·cases h
theorem ZjW(hF:Z8 F G)(i j l:Nat)(e:CE):SX n0 M [i,j,l] (Zaf i j l (ev F e)) (J6 M i j l e (pe G e)):=by
 intro π r h fz st ρ I;have kp:∀ {fz':Fz}{st':Za}{d d' d2:D}{p p' p2:P},Next fz st fz' st'->Kept M [i,j,l] π ρ st (Zo (Zo (Zo π i p) j p') l p2) (Zz (Zz (Zz ρ i d) j d') l d2) st':=fun {fz' st' d d' d2 p p' p2} x k hk hm=>by
  have hki:k≠i:=fun z=>hk (by rw[z];exact Ls)
  have hkj:k≠j:=fun z=>hk (by rw[z];exact Lm _ Ls)
  have hkl:k≠l:=fun z=>hk (by rw[z];exact Lm _ (Lm _ Ls))
  have:=Next.kept (T:=[i,j,l]) I x k hk hm;exact⟨(Zj hkl).trans ((Zj hkj).trans (Zj hki)),(Zj hkl).trans ((Zj hkj).trans (Zj hki)),this.2.2⟩
 unfold J6 at h;split at h
 ·rename_i x y z q
  split at h
  ·rename_i c
   cases h;rw[Ba,Ba,Ba]at c;have hi:M.contains i=false:=by simpa using c.1.1.1
   have hj:M.contains j=false:=by simpa using c.1.1.2
   have hl:M.contains l=false:=by simpa using c.1.2
   obtain⟨d,st',fz',e1,n1,r1⟩:=ZY hF I q c.2;cases r1 with
   |tup rr=>
    cases rr with
    |cons a rr=>
     cases rr with
     |cons a' rr=>
      cases rr with
      |cons a2 rr=>
       cases rr;exact⟨.nx _,st',fz',by unfold Zaf;rw[e1],n1.later I.lo I.bd,(((I.next n1).set hi a).set hj a').set hl a2,kp n1⟩
  ·cases h
 ·cases h
theorem Zlf(hF:Z8 F G)(e:CE):SX n0 M [] (Zc8 (ev F e)) (ZeD M e (pe G e)):=by
 intro π r h fz st ρ I;unfold ZeD at h;split at h
 ·rename_i p q
  split at h
  ·rename_i c
   cases h;obtain⟨d,st',fz',e1,n1,r1⟩:=ZY hF I q c;exact⟨.nx ρ,st',fz',by unfold Zc8;rw[e1],n1.later I.lo I.bd,I.next n1,Next.kept I n1⟩
  ·cases h
 ·cases h
theorem Zlg(hF:Z8 F G)(i:Nat)(e:CE):SX n0 M [i] (Zdc i (ev F e)) (ZeG M i e (pe G e)):=by
 intro π r h fz st ρ I;unfold ZeG at h;split at h
 ·rename_i xs q0
  split at h
  ·rename_i p q
   split at h
   ·rename_i c
    cases h;rw[Ba,Ba]at c;obtain⟨⟨hm,hk⟩,hz⟩:=c;have hz:=of_decide_eq_true hz;obtain⟨d,st',fz',e1,n1,r1⟩:=ZY hF I q hk;have I1:=I.next n1;obtain⟨j,ps,ds,f1,f2,f3,f4,f5,f6⟩:=I1.mt i _ hm q0;obtain⟨⟨_,rfl⟩,f0⟩:=f1.lst;obtain⟨I2,l2⟩:=I1.write hm q0 (.l rfl f0) f4 f5 (ZW f3) (f6.append (.cons r1 .nil));refine⟨.nx ρ,_,fz',?_,(n1.later I.lo I.bd).trans l2,I2,fun k hk2 hm2=>?_⟩
    ·unfold Zdc
     rw[f0];simp only[e1];unfold ZfM;simp only[f3];rw[if_pos (by rw[<-f6.length];exact hz)]
    ·have hki:k≠i:=fun z=>hk2 (by rw[z];exact List.mem_singleton.mpr rfl)
     have kk:=Next.kept (T:=[i]) I n1 k hk2 hm2;refine⟨Zj hki,rfl,fun j' p' e e'=>?_⟩
     rw[<-kk.2.2 j' p' e e',List.getElem?_set,if_neg (fun z=>hki (I.ne k i p' _ j hm2 hm e q0 (by rw[z];exact e') f2))]
   ·cases h
  ·cases h
 ·cases h
theorem Zlh(hF:Z8 F G)(i:Nat)(e:CE):SX n0 M [i] (ZdF i (ev F e)) (ZeL M i e (pe G e)):=by
 intro π r h fz st ρ I;unfold ZeL at h;split at h
 ·rename_i xs q0
  split at h
  ·rename_i ys q
   split at h
   ·rename_i c
    cases h;rw[Ba,Ba]at c;obtain⟨⟨hm,hk⟩,hz⟩:=c;have hz:=of_decide_eq_true hz;obtain⟨d,st',fz',e1,n1,r1⟩:=ZY hF I q (show Zv M e _=true by unfold Zv;rw[hk,Bool.true_or])
    have I1:=I.next n1;obtain⟨j,ps,ds,f1,f2,f3,f4,f5,f6⟩:=I1.mt i _ hm q0;obtain⟨⟨_,rfl⟩,f0⟩:=f1.lst;cases r1 with
    |@lst jb _ _ db zb sb rb=>
     obtain⟨I2,l2⟩:=I1.write hm q0 (.l rfl f0) f4 f5 (ZW f3) (f6.append rb);refine⟨.nx ρ,_,fz',?_,(n1.later I.lo I.bd).trans l2,I2,fun k hk2 hm2=>?_⟩
     ·unfold ZdF
      rw[f0];simp only[e1];unfold ZiA;simp only[f3,sb];rw[if_pos (by rw[<-f6.length,<-rb.length];exact hz)]
     ·have hki:k≠i:=fun z=>hk2 (by rw[z];exact List.mem_singleton.mpr rfl)
      have kk:=Next.kept (T:=[i]) I n1 k hk2 hm2;refine⟨Zj hki,rfl,fun j' p' e e'=>?_⟩
      rw[<-kk.2.2 j' p' e e',List.getElem?_set,if_neg (fun z=>hki (I.ne k i p' _ j hm2 hm e q0 (by rw[z];exact e') f2))]
   ·cases h
  ·cases h
 ·cases h
theorem Zlk(hF:Z8 F G)(i:Nat)(e k:CE):SX n0 M [i] (ZeV i (ev F k) (ev F e)) (ZeP M i e (pe G k) (pe G e)):=by
 intro π r h fz st ρ I;unfold ZeP at h;split at h
 ·rename_i p q
  split at h
  ·rename_i xs q0
   split at h
   ·rename_i a qa
    split at h
    ·rename_i b qb
     split at h
     ·rename_i c
      cases h;rw[Ba]at c;obtain⟨hm,hk⟩:=c;obtain⟨d,st',fz',e1,n1,r1⟩:=ZY hF I q hk;have I1:=I.next n1;obtain⟨d2,st2,fz2,e2,n2,r2⟩:=ZY hF I1 qa (by unfold Zv;rw[show noL (.int a)=true from rfl,Bool.or_true])
      cases r2;have I2:=I1.next n2;obtain⟨j,ps,ds,f1,f2,f3,f4,f5,f6⟩:=I2.mt i _ hm q0;obtain⟨⟨_,rfl⟩,f0⟩:=f1.lst;obtain⟨I3,l3⟩:=I2.write hm q0 (.l rfl f0) f4 f5 (ZW f3) (f6.set (r1.next n1.bd n2) b);refine⟨.nx ρ,_,fz2,?_,((n1.trans n2).later I.lo I.bd).trans l3,I3,fun k' hk2 hm2=>?_⟩
      ·unfold ZeV
       rw[e1];simp only[f0,e2];unfold Jc;simp only[f3];rw[<-f6.length,qb]
      ·have hki:k'≠i:=fun z=>hk2 (by rw[z];exact List.mem_singleton.mpr rfl)
       have kk:=Next.kept (T:=[i]) I (n1.trans n2) k' hk2 hm2;refine⟨Zj hki,rfl,fun j' p' e e'=>?_⟩
       rw[<-kk.2.2 j' p' e e',List.getElem?_set,if_neg (fun z=>hki (I.ne k' i p' _ j hm2 hm e q0 (by rw[z];exact e') f2))]
     ·cases h
    ·cases h
   ·cases h
  ·cases h
 ·cases h
theorem Zlj(hF:Z8 F G)(c:CE)(h1:SX n0 M T1 f1 g1)(h2:SX n0 M T2 f2 g2):SX n0 M (T1++T2) (ZcI (ev F c) f1 f2) (ZeM (pe G c) g1 g2):=by
 intro π r e fz st ρ I;have s1:∀ i,i∈T1->i∈T1++T2:=fun i h=>List.mem_append.mpr (.inl h)
 have s2:∀ i,i∈T2->i∈T1++T2:=fun i h=>List.mem_append.mpr (.inr h)
 unfold ZeM at e;split at e
 ·rename_i q
  obtain⟨d,st',fz',e1,n1,r1⟩:=ZY hF I q (by unfold Zv;rw[show noL (.bl true)=true from rfl,Bool.or_true])
  cases r1;obtain⟨r2,st2,fz2,e2,l2,R2,k2⟩:=h1 π r e fz' st' ρ (I.next n1);exact⟨r2,st2,fz2,by unfold ZcI;rw[e1];exact e2,(n1.later I.lo I.bd).trans l2,R2,KeptF.trans (T1:=T1) s1 s1 (Next.kept I n1) k2⟩
 ·rename_i q
  obtain⟨d,st',fz',e1,n1,r1⟩:=ZY hF I q (by unfold Zv;rw[show noL (.bl false)=true from rfl,Bool.or_true])
  cases r1;obtain⟨r2,st2,fz2,e2,l2,R2,k2⟩:=h2 π r e fz' st' ρ (I.next n1);exact⟨r2,st2,fz2,by unfold ZcI;rw[e1];exact e2,(n1.later I.lo I.bd).trans l2,R2,KeptF.trans (T1:=T2) s2 s2 (Next.kept I n1) k2⟩
 ·cases e
abbrev Jj(n0:Nat)(M T:Li Nat)(B:P->Zr->Ot PFl)(B':D->Env->Za->Ot (Fl×Za)):Prop:=∀ x d π r,B x π=some r->∀ fz st ρ,Inv n0 M fz st π ρ->Rel fz st x d->XT n0 M T fz st π ρ (B' d ρ st) r
theorem Later.rels{fz fz':Fz}{st st':Za}{ps:Li P}{ds:Li D}(l:Later n0 fz st fz' st')(r:Rels fz st ps ds):Rels fz' st' ps ds:=r.mono l.sub l.frz
theorem Xt{B:P->Zr->Ot PFl}{B':D->Env->Za->Ot (Fl×Za)}(h:Jj n0 M T B B'):∀ {xs:Li P}{ds:Li D}{π:Zr}{r:PFl}{fz:Fz}{st:Za}{ρ:Env},Inv n0 M fz st π ρ->Rels fz st xs ds->ZB B xs π=some r->XT n0 M T fz st π ρ (YA B' ds ρ st) r
 |_,_,π,r,fz,st,ρ,I,.nil,e=>by cases e;exact⟨.nx ρ,st,fz,rfl,Later.refl,I,Kept.refl⟩
 |x :: xs,d :: ds,π,r,fz,st,ρ,I,.cons a rs,e=>by
  unfold ZB at e;split at e
  ·rename_i π1 q
   obtain⟨r1,st1,fz1,e1,l1,R1,k1⟩:=h x d π _ q fz st ρ I a;cases r1 with
   |nx ρ1=>
    obtain⟨r2,st2,fz2,e2,l2,R2,k2⟩:=Xt h (ρ:=ρ1) R1 (l1.rels rs) e;exact⟨r2,st2,fz2,by unfold YA;rw[e1];exact e2,l1.trans l2,R2,KeptF.trans (fun _ z=>z) (fun _ z=>z) k1 k2⟩
   |_=>exact R1.elim
  ·rename_i π1 q
   obtain⟨r1,st1,fz1,e1,l1,R1,k1⟩:=h x d π _ q fz st ρ I a;cases r1 with
   |ct ρ1=>
    obtain⟨r2,st2,fz2,e2,l2,R2,k2⟩:=Xt h (ρ:=ρ1) R1 (l1.rels rs) e;exact⟨r2,st2,fz2,by unfold YA;rw[e1];exact e2,l1.trans l2,R2,KeptF.trans (fun _ z=>z) (fun _ z=>z) k1 k2⟩
   |_=>exact R1.elim
  ·rename_i π1 q
   cases e;obtain⟨r1,st1,fz1,e1,l1,R1,k1⟩:=h x d π _ q fz st ρ I a;cases r1 with
   |bk ρ1=>exact⟨.nx ρ1,st1,fz1,by unfold YA;rw[e1],l1,R1,k1⟩
   |_=>exact R1.elim
  ·rename_i v q
   cases e;obtain⟨r1,st1,fz1,e1,l1,R1,k1⟩:=h x d π _ q fz st ρ I a;cases r1 with
   |rt d'=>exact⟨.rt d',st1,fz1,by unfold YA;rw[e1],l1,R1,trivial⟩
   |_=>exact R1.elim
  ·cases e
theorem ZaO{B':D->Env->Za->Ot (Fl×Za)}{a n k:Nat}{ρ:Env}{st:Za}{m:Bool}{all:Li D}{d:D}(h:st[a]?=some (m,all))(hk:all[k]?=some d):Yg B' a (n+1) k ρ st=(match B' d ρ st with
  |some (.nx ρ',st')=>Yg B' a n (k+1) ρ' st'
  |some (.ct ρ',st')=>Yg B' a n (k+1) ρ' st'
  |some (.bk ρ',st')=>some (.nx ρ',st')
  |some (.rt v,st')=>some (.rt v,st')
  |none=>none):=by
 rw[Yg];simp only[h,hk]<;>rfl
abbrev Zkf(n0:Nat)(M T:Li Nat)(a:Nat)(m:Bool)(all:Li D)(J:Fz->Za->Zr->Env->Prop):Prop:=
 (∀ fz st π ρ,J fz st π ρ->st[a]?=some (m,all))/\∀ fz st π ρ fz' st' π' ρ',Later n0 fz st fz' st'->Kept M T π ρ st π' ρ' st'->J fz st π ρ->J fz' st' π' ρ'
theorem Wj{B:P->Zr->Ot PFl}{B':D->Env->Za->Ot (Fl×Za)}(h:Jj n0 M T B B'){a:Nat}{m:Bool}{all:Li D}{J:Fz->Za->Zr->Env->Prop}(hJ:Zkf n0 M T a m all J):∀ {xs:Li P}{ds:Li D}{k:Nat}{π:Zr}{r:PFl}{fz:Fz}{st:Za}{ρ:Env},
   Inv n0 M fz st π ρ->J fz st π ρ->all.drop k=ds->Rels fz st xs ds->ZB B xs π=some r->XT n0 M T fz st π ρ (Yg B' a ds.length k ρ st) r
 |_,_,k,π,r,fz,st,ρ,I,j,hd,.nil,e=>by
  cases e;refine⟨.nx ρ,st,fz,?_,Later.refl,I,Kept.refl⟩;show Yg B' a 0 k ρ st=_;unfold Yg;simp only[hJ.1 _ _ _ _ j];rw[if_pos (List.drop_eq_nil_iff.mp hd)]
 |x :: xs,d :: ds,k,π,r,fz,st,ρ,I,j,hd,.cons b rs,e=>by
  have hk:all[k]?=some d:=by
   have:=congrArg (fun l=>l[0]?) hd
   simpa using this
  have hd2:all.drop (k+1)=ds:=by
   have:=congrArg (fun l=>l.drop 1) hd
   simpa using this
  have start:∀ {y},B' d ρ st=some y->Yg B' a (d :: ds).length k ρ st=(match y with
    | (.nx ρ',st')=>Yg B' a ds.length (k+1) ρ' st'
    | (.ct ρ',st')=>Yg B' a ds.length (k+1) ρ' st'
    | (.bk ρ',st')=>some (.nx ρ',st')
    | (.rt v,st')=>some (.rt v,st')):=fun {y} ey=>by
   show Yg B' a (ds.length+1) k ρ st=_;rw[ZaO (hJ.1 _ _ _ _ j) hk,ey];obtain⟨f,s⟩:=y;cases f<;>rfl
  unfold ZB at e;split at e
  ·rename_i π1 q
   obtain⟨r1,st1,fz1,e1,l1,R1,k1⟩:=h x d π _ q fz st ρ I b;cases r1 with
   |nx ρ1=>
    obtain⟨r2,st2,fz2,e2,l2,R2,k2⟩:=Wj h hJ (ρ:=ρ1) R1 (hJ.2 _ _ _ _ _ _ _ _ l1 k1 j) hd2 (l1.rels rs) e;exact⟨r2,st2,fz2,by rw[start e1];exact e2,l1.trans l2,R2,KeptF.trans (fun _ z=>z) (fun _ z=>z) k1 k2⟩
   |_=>exact R1.elim
  ·rename_i π1 q
   obtain⟨r1,st1,fz1,e1,l1,R1,k1⟩:=h x d π _ q fz st ρ I b;cases r1 with
   |ct ρ1=>
    obtain⟨r2,st2,fz2,e2,l2,R2,k2⟩:=Wj h hJ (ρ:=ρ1) R1 (hJ.2 _ _ _ _ _ _ _ _ l1 k1 j) hd2 (l1.rels rs) e;exact⟨r2,st2,fz2,by rw[start e1];exact e2,l1.trans l2,R2,KeptF.trans (fun _ z=>z) (fun _ z=>z) k1 k2⟩
   |_=>exact R1.elim
  ·rename_i π1 q
   cases e;obtain⟨r1,st1,fz1,e1,l1,R1,k1⟩:=h x d π _ q fz st ρ I b;cases r1 with
   |bk ρ1=>exact⟨.nx ρ1,st1,fz1,by rw[start e1],l1,R1,k1⟩
   |_=>exact R1.elim
  ·rename_i v q
   cases e;obtain⟨r1,st1,fz1,e1,l1,R1,k1⟩:=h x d π _ q fz st ρ I b;cases r1 with
   |rt d'=>exact⟨.rt d',st1,fz1,by rw[start e1],l1,R1,trivial⟩
   |_=>exact R1.elim
  ·cases e
theorem Zfq{i:Nat}(hi:M.contains i=false)(h:SX n0 M T f g):Jj n0 M (i :: T) (fun d π=>g (Zo π i d)) (fun d ρ s=>f (Zz ρ i d) s):=by
 intro x d π r e fz st ρ I a;obtain⟨r1,st1,fz1,e1,l1,R1,k1⟩:=h _ r e fz st _ (I.set hi a);refine⟨r1,st1,fz1,e1,l1,R1,?_⟩;refine KeptF.trans (T1:=i :: T) (T2:=T) (fun _ z=>z) (fun _ z=>Lm _ z) (fun k hk hm=>?_) k1
 have hki:k≠i:=fun z=>hk (by rw[z];exact Ls)
 exact⟨Zj hki,Zj hki,fun _ _ _ _=>rfl⟩
theorem Zlb{i j l:Nat}(hi:M.contains i=false)(hj:M.contains j=false)(hl:M.contains l=false)(h:SX n0 M T f g):Jj n0 M (i :: j :: l :: T) (UJ i j l g) (ZjO i j l f):=by
 intro x d π r e fz st ρ I a;unfold UJ at e;split at e
 ·rename_i p q u
  cases a with
  |tup a=>
   cases a with
   |cons a1 a=>
    cases a with
    |cons a2 a=>
     cases a with
     |cons a3 a=>
      cases a;obtain⟨r1,st1,fz1,e1,l1,R1,k1⟩:=h _ r e fz st _ (((I.set hi a1).set hj a2).set hl a3);refine⟨r1,st1,fz1,e1,l1,R1,?_⟩;refine KeptF.trans (T1:=i :: j :: l :: T) (T2:=T) (fun _ z=>z) (fun _ z=>Lm _ (Lm _ (Lm _ z))) (fun k hk hm=>?_) k1
      have hki:k≠i:=fun z=>hk (by rw[z];exact Ls)
      have hkj:k≠j:=fun z=>hk (by rw[z];exact Lm _ Ls)
      have hkl:k≠l:=fun z=>hk (by rw[z];exact Lm _ (Lm _ Ls))
      exact⟨(Zj hkl).trans ((Zj hkj).trans (Zj hki)),(Zj hkl).trans ((Zj hkj).trans (Zj hki)),fun _ _ _ _=>rfl⟩
 ·cases e
theorem Zfw(hF:Z8 F G){B:P->Zr->Ot PFl}{B':D->Env->Za->Ot (Fl×Za)}{e:CE}{m:Bool}{xs:Li P}{T0:Li Nat}(h:Jj n0 M T B B')(hT:∀ i,M.contains i=true->i∈T->i∈T0){fz:Fz}{st:Za}{π:Zr}{ρ:Env}{r:PFl}(I:Inv n0 M fz st π ρ)(q:pe G e π=some (.lst m xs))(c:Uz M T0 e xs=true)(el:ZB B xs π=some r):∃ a st1 mm ds,ev F e ρ st=some (.lst a,st1)/\st1[a]?=some (mm,ds)/\XT n0 M T fz st π ρ (Yg B' a ds.length 0 ρ st1) r:=by
 have frozen:∀ {a:Nat}{st1:Za}{fz1:Fz}{ds:Li D},ev F e ρ st=some (.lst a,st1)->Next fz st fz1 st1->fz1 a->st1[a]?=some (m,ds)->Rels fz1 st1 xs ds->∃ a st1 mm ds,ev F e ρ st=some (.lst a,st1)/\st1[a]?=some (mm,ds)/\XT n0 M T fz st π ρ (Yg B' a ds.length 0 ρ st1) r:=fun {a st1 fz1 ds} e1 n1 hz hs rr=>by
  refine⟨a,st1,m,ds,e1,hs,?_⟩;obtain⟨r1,st2,fz2,e2,l2,R2,k2⟩:=Wj h (a:=a) (m:=m) (all:=ds) (J:=fun fz st _ _=>fz a/\st[a]?=some (m,ds)) ⟨fun _ _ _ _ j=>j.2,fun _ _ _ _ _ _ _ _ l _ j=>⟨l.sub _ j.1,(l.frz _ j.1).trans j.2⟩⟩ (k:=0) (I.next n1) ⟨hz,hs⟩ rfl rr el
  exact⟨r1,st2,fz2,e2,(n1.later I.lo I.bd).trans l2,R2,KeptF.trans (T1:=T) (fun _ z=>z) (fun _ z=>z) (Next.kept I n1) k2⟩
 unfold Uz at c;rw[Bool.or_eq_true,Bool.or_eq_true]at c;rcases c with(c|c)|c
 ·obtain⟨d,st',fz',e1,n1,r1⟩:=ZY hF I q (by unfold Zv;rw[c];rfl)
  cases r1 with
  |lst hz hs rr=>exact frozen e1 n1 hz hs rr
 ·rw[Ba]at c
  obtain⟨j,ds,st',fz1,e1,e2,n1,hn,hl,rr⟩:=JB hF I q c.1 (by rw[c.2,Bool.or_true])
  have n2:Next fz st (fun i=>fz1 i\/i=j) st':=⟨n1.old,n1.len,fun i z=>.inl (n1.sub i z),fun i z=>z.elim (n1.new i) fun z=>.inr (by rw[z];exact hl),fun i z=>z.elim (n1.bd i) fun z=>by rw[z];exact ZW e2⟩
  exact frozen e1 n2 (.inr rfl) e2 (rr.mono (fun _ z=>.inl z) fun _ _=>rfl)
 ·split at c
  ·rename_i i
   have c:i∉T0:=by
    intro z;have:T0.contains i=true:=by simpa using z
    rw[this]at c;cases c
   have q:W6 i π=some (.lst m xs):=q;unfold W6 at q;split at q
   ·rename_i q0
    cases q;cases hm:M.contains i with
    |false=>
     obtain⟨d,st',fz',e1,n1,r1⟩:=ZY hF I (e:=.var i) (p:=.lst m xs) (by show W6 i π=_;unfold W6;rw[q0]) (by show((!M.contains i)||_)=true;rw[hm];rfl)
     cases r1 with
     |lst hz hs rr=>exact frozen e1 n1 hz hs rr
    |true=>
     obtain⟨j,ps,ds,f1,f2,f3,f4,f5,f6⟩:=I.mt i _ hm q0;obtain⟨⟨rfl,rfl⟩,f0⟩:=f1.lst;refine⟨j,st,true,ds,by show WV i ρ st=_;unfold WV;rw[f0],f3,?_⟩
     obtain⟨r1,st2,fz2,e2,l2,R2,k2⟩:=Wj h (a:=j) (m:=true) (all:=ds) (J:=fun fz st π ρ=>(∃ p,π[i]?=some (some p))/\Rf ρ[i]? j/\st[j]?=some (true,ds)) ⟨fun _ _ _ _ j=>j.2.2,fun _ _ _ _ _ _ _ _ l k jj=>by
      obtain⟨⟨p,jp⟩,j2,j3⟩:=jj;obtain⟨k1,k2,k3⟩:=k i (fun z=>c (hT i hm z)) hm
      exact⟨⟨p,k1.trans jp⟩,by rw[k2];exact j2,(k3 j p jp j2).trans j3⟩⟩ (k:=0) I ⟨⟨_,q0⟩,f2,f3⟩ rfl f6 el
     exact⟨r1,st2,fz2,e2,l2,R2,k2⟩
   ·cases q
  ·cases c
theorem Zli(hF:Z8 F G){i:Nat}{rng:Bool}{e:CE}(h:SX n0 M T f g):SX n0 M (i :: T) (JH i rng (ev F e) f) (QZ M T i rng e (pe G e) g):=by
 intro π r hp fz st ρ I;unfold QZ at hp;split at hp
 ·rename_i x q
  split at hp
  ·rename_i xs qi
   split at hp
   ·rename_i c
    rw[Ba]at c;have hi:M.contains i=false:=by simpa using c.1
    have kp:Zv M e x=true:=by
     cases rng with
     |false=>simpa using c.2
     |true=>
      cases x with
      |int n=>unfold Zv;rw[show noL (.int n)=true from rfl,Bool.or_true]
      |_=>cases qi
    obtain⟨d,st',fz',e1,n1,r1⟩:=ZY hF I q kp;obtain⟨ds,e2,r2⟩:=U4 r1 qi;obtain⟨r3,st3,fz3,e3,l3,R3,k3⟩:=Xt (Zfq hi h) (I.next n1) r2 hp;exact⟨r3,st3,fz3,by unfold JH;rw[e1];simp only[e2];exact e3,(n1.later I.lo I.bd).trans l3,R3,KeptF.trans (T1:=i :: T) (fun _ z=>z) (fun _ z=>z) (Next.kept I n1) k3⟩
   ·cases hp
  ·split at hp
   ·rename_i m xs _
    split at hp
    ·rename_i c
     rw[Ba]at c;have hi:M.contains i=false:=by simpa using c.1
     obtain⟨a,st1,mm,ds,e1,e2,r3,st3,fz3,e3,l3,R3,k3⟩:=Zfw hF (Zfq hi h) (T0:=T) (fun k hk hm=>by
      rcases List.mem_cons.mp hm with z|z
      ·rw[z]at hk;rw[hi]at hk;cases hk
      ·exact z) I q c.2 hp
     refine⟨r3,st3,fz3,?_,l3,R3,k3⟩;unfold JH;rw[e1];simp only[X5,e2];exact e3
    ·cases hp
   ·cases hp
 ·cases hp
theorem U3{fz:Fz}{st:Za}:∀ {ps:Li P}{ds:Li D}{l:Li Int},Rels fz st ps ds->Zbz ps=some l->Xw ps=true/\V9 ds=some l
 |_,_,_,.nil,h=>⟨rfl,h⟩
 |p :: ps,d :: ds,_,.cons a r,h=>YB (P:=fun l=>Xw (p :: ps)=true/\V9 (d :: ds)=some l) h fun i l hi hl=>by
  obtain⟨h1,h2⟩:=U3 r hl;have z:noL p=true/\Zgz d=some i:=by cases a<;>first | (cases hi;done)|exact⟨rfl,hi⟩
  exact⟨by show(noL p&&Xw ps)=true;rw[z.1,h1];rfl,by show o2 List.cons (Zgz d) (V9 ds)=_;rw[z.2,h2];rfl⟩
theorem Uc{fz:Fz}{st:Za}{x:P}{dx:D}{xs:Li Int}(r:Rel fz st x dx)(h:WZ x=some xs):noL x=true/\ZaJ dx=some xs:=by
 cases r with
 |tup r=>
  obtain⟨l,h1,h2⟩:=Option.bind_eq_some_iff.mp (show(Zbz _).bind Q1=some xs from h);obtain⟨z1,z2⟩:=U3 r h1;exact⟨z1,by show(V9 _).bind Q1=_;rw[z2];exact h2⟩
 |_=>cases h
theorem JQ{fz:Fz}{st:Za}:∀ xs:Li Int,Rels fz st (xs.map P.int) (xs.map D.int)
 |[]=>.nil
 |x :: xs=>.cons (.int x) (JQ xs)
theorem ZjR(hF:Z8 F G){i:Nat}{e:CE}(h:SX n0 M T f g):SX n0 M (i :: T) (JE i (ev F e) f) (J2 M i (pe G e) g):=by
 intro π r hp fz st ρ I;unfold J2 at hp;split at hp
 ·rename_i x q
  split at hp
  ·rename_i xs qi
   split at hp
   ·rename_i c
    have hi:M.contains i=false:=by simpa using c
    have nl:noL x=true:=by
     obtain⟨d,st',fz',e1,n1,r1⟩:=Zb hF e _ x q _ st ρ I.bdM I.all;exact(Uc r1 qi).1
    obtain⟨d,st',fz',e1,n1,r1⟩:=ZY hF I q (show Zv M e x=true by unfold Zv;rw[nl,Bool.or_true])
    obtain⟨_,e2⟩:=Uc r1 qi;obtain⟨r3,st3,fz3,e3,l3,R3,k3⟩:=Xt (Zfq hi h) (I.next n1) (JQ xs) hp;exact⟨r3,st3,fz3,by unfold JE;rw[e1];simp only[e2];exact e3,(n1.later I.lo I.bd).trans l3,R3,KeptF.trans (T1:=i :: T) (fun _ z=>z) (fun _ z=>z) (Next.kept I n1) k3⟩
   ·cases hp
  ·cases hp
 ·cases hp
theorem ZjS(hF:Z8 F G){i j l:Nat}{e:CE}(h:SX n0 M T f g):SX n0 M (i :: j :: l :: T) (JF i j l (ev F e) f) (J3 M i j l e (pe G e) g):=by
 intro π r hp fz st ρ I;unfold J3 at hp;split at hp
 ·rename_i xs q
  split at hp
  ·rename_i c
   rw[Ba,Ba,Ba]at c;have hi:M.contains i=false:=by simpa using c.1.1.1
   have hj:M.contains j=false:=by simpa using c.1.1.2
   have hl:M.contains l=false:=by simpa using c.1.2
   obtain⟨d,st',fz',e1,n1,r1⟩:=ZY hF I q c.2;cases r1 with
   |tup r2=>
    obtain⟨r3,st3,fz3,e3,l3,R3,k3⟩:=Xt (Zlb hi hj hl h) (I.next n1) r2 hp;exact⟨r3,st3,fz3,by unfold JF;rw[e1];exact e3,(n1.later I.lo I.bd).trans l3,R3,KeptF.trans (T1:=i :: j :: l :: T) (fun _ z=>z) (fun _ z=>z) (Next.kept I n1) k3⟩
  ·cases hp
 ·cases hp
inductive RelsQ(fz:Fz)(st:Za):List (P×P)->List (D×D)->Prop where
 |nil:RelsQ fz st [] []
 |cons {p:P×P}{d:D×D}{ps:List (P×P)}{ds:List (D×D)} (h1:Rel fz st p.1 d.1) (h2:Rel fz st p.2 d.2) (r:RelsQ fz st ps ds):RelsQ fz st (p :: ps) (d :: ds)
theorem RelsQ.zip{fz:Fz}{st:Za}:∀ {xs ys:Li P}{ds es:Li D},Rels fz st xs ds->Rels fz st ys es->RelsQ fz st (xs.zip ys) (ds.zip es)
 |_,_,_,_,.nil,_=>.nil
 |_,_,_,_,.cons _ _,.nil=>.nil
 |_,_,_,_,.cons a r,.cons b s=>.cons a b (RelsQ.zip r s)
theorem RelsQ.mono{fz fz':Fz}{st st':Za}(l:Later n0 fz st fz' st'):∀ {ps:Li (P×P)}{ds:Li (D×D)},RelsQ fz st ps ds->RelsQ fz' st' ps ds
 |_,_,.nil=>.nil
 |_,_,.cons a b r=>.cons (a.mono l.sub l.frz) (b.mono l.sub l.frz) (RelsQ.mono l r)
theorem Xu{i j:Nat}(hi:M.contains i=false)(hj:M.contains j=false)(h:SX n0 M T f g){ok:Za->Prop}:∀ {xs:Li (P×P)}{ds:Li (D×D)}{π:Zr}{r:PFl}{fz:Fz}{st:Za}{ρ:Env},Inv n0 M fz st π ρ->RelsQ fz st xs ds->(∀ fz' st',Later n0 fz st fz' st'->ok st')->
  Yu (fun x y π=>g (Zo (Zo π i x) j y)) xs π=some r->XT n0 M (i :: j :: T) fz st π ρ (YZ ok (fun x y ρ s=>f (Zz (Zz ρ i x) j y) s) ds ρ st) r
 |_,_,π,r,fz,st,ρ,I,.nil,hok,e=>by cases e;exact⟨.nx ρ,st,fz,if_pos (hok _ _ Later.refl),Later.refl,I,Kept.refl⟩
 |x :: xs,d :: ds,π,r,fz,st,ρ,I,.cons a b rs,hok,e=>by
  have ok0:=hok _ _ Later.refl;have tr:∀ {r1:PFl},g (Zo (Zo π i x.1) j x.2)=some r1->XT n0 M (i :: j :: T) fz st π ρ (f (Zz (Zz ρ i d.1) j d.2) st) r1:=fun {r1} q=>by
   obtain⟨r2,st2,fz2,e2,l2,R2,k2⟩:=h _ _ q fz st _ ((I.set hi a).set hj b);refine⟨r2,st2,fz2,e2,l2,R2,?_⟩;have kp:Kept M (i :: j :: T) π ρ st (Zo (Zo π i x.1) j x.2) (Zz (Zz ρ i d.1) j d.2) st:=fun k hk hm=>by
    have hki:k≠i:=fun z=>hk (by rw[z];exact Ls)
    have hkj:k≠j:=fun z=>hk (by rw[z];exact Lm _ Ls)
    exact⟨(Zj hkj).trans (Zj hki),(Zj hkj).trans (Zj hki),fun _ _ _ _=>rfl⟩
   exact KeptF.trans (T1:=i :: j :: T) (T2:=T) (fun _ z=>z) (fun _ z=>Lm _ (Lm _ z)) kp k2
  unfold Yu at e;split at e
  ·rename_i π1 q
   obtain⟨r1,st1,fz1,e1,l1,R1,k1⟩:=tr q;cases r1 with
   |nx ρ1=>
    obtain⟨r2,st2,fz2,e2,l2,R2,k2⟩:=Xu hi hj h (ρ:=ρ1) R1 (rs.mono l1) (fun _ _ l=>hok _ _ (l1.trans l)) e
    exact⟨r2,st2,fz2,by unfold YZ;rw[if_pos ok0];simp only[e1];exact e2,l1.trans l2,R2,KeptF.trans (fun _ z=>z) (fun _ z=>z) k1 k2⟩
   |_=>exact R1.elim
  ·rename_i π1 q
   obtain⟨r1,st1,fz1,e1,l1,R1,k1⟩:=tr q;cases r1 with
   |ct ρ1=>
    obtain⟨r2,st2,fz2,e2,l2,R2,k2⟩:=Xu hi hj h (ρ:=ρ1) R1 (rs.mono l1) (fun _ _ l=>hok _ _ (l1.trans l)) e
    exact⟨r2,st2,fz2,by unfold YZ;rw[if_pos ok0];simp only[e1];exact e2,l1.trans l2,R2,KeptF.trans (fun _ z=>z) (fun _ z=>z) k1 k2⟩
   |_=>exact R1.elim
  ·rename_i π1 q
   cases e;obtain⟨r1,st1,fz1,e1,l1,R1,k1⟩:=tr q;cases r1 with
   |bk ρ1=>exact⟨.nx ρ1,st1,fz1,by unfold YZ;rw[if_pos ok0];simp only[e1],l1,R1,k1⟩
   |_=>exact R1.elim
  ·rename_i v q
   cases e;obtain⟨r1,st1,fz1,e1,l1,R1,k1⟩:=tr q;cases r1 with
   |rt d'=>exact⟨.rt d',st1,fz1,by unfold YZ;rw[if_pos ok0];simp only[e1],l1,R1,trivial⟩
   |_=>exact R1.elim
  ·cases e
theorem ZjU(hF:Z8 F G){i j:Nat}{e:CE}(h:SX n0 M T f g):SX n0 M (i :: j :: T) (JG i j (ev F e) f) (J5 M i j e (pe G e) g):=by
 intro π r hp fz st ρ I;unfold J5 at hp;split at hp
 ·rename_i m1 xs m2 ys q
  split at hp
  ·rename_i c
   rw[Ba,Ba]at c;have hi:M.contains i=false:=by simpa using c.1.1
   have hj:M.contains j=false:=by simpa using c.1.2
   obtain⟨d,st',fz',e1,n1,r1⟩:=ZY hF I q (show Zv M e _=true by unfold Zv;rw[c.2,Bool.true_or])
   cases r1 with
   |tup rr=>
    cases rr with
    |cons a rr=>
     cases rr with
     |cons b rr=>
      cases rr;cases a with
      |@lst ja _ _ da za sa ra=>
       cases b with
       |@lst jb _ _ db zb sb rb=>
        obtain⟨r3,st3,fz3,e3,l3,R3,k3⟩:=Xu (ok:=fun s=>s[ja]?=some (m1,da)/\s[jb]?=some (m2,db)) hi hj h (I.next n1) (RelsQ.zip ra rb) (fun fz2 st2 l=>⟨(l.frz ja za).trans sa,(l.frz jb zb).trans sb⟩) hp
        exact⟨r3,st3,fz3,by unfold JG;rw[e1];simp only[sa,sb];exact e3,(n1.later I.lo I.bd).trans l3,R3,KeptF.trans (T1:=i :: j :: T) (fun _ z=>z) (fun _ z=>z) (Next.kept I n1) k3⟩
  ·cases hp
 ·cases hp
theorem RelsQ.enum{fz:Fz}{st:Za}:∀ {xs:Li P}{ds:Li D}{k:Nat},Rels fz st xs ds->RelsQ fz st (Wa k xs) (UV k ds)
 |_,_,_,.nil=>.nil
 |_,_,k,.cons a r=>.cons (.int _) a (RelsQ.enum r)
theorem ZjT(hF:Z8 F G){i j:Nat}{e:CE}(h:SX n0 M T f g):SX n0 M (i :: j :: T) (U2 i j (ev F e) f) (J4 M i j e (pe G e) g):=by
 intro π r hp fz st ρ I;unfold J4 at hp;split at hp
 ·rename_i x q
  split at hp
  ·rename_i xs hw
   split at hp
   ·rename_i c
    rw[Ba,Ba]at c;have hi:M.contains i=false:=by simpa using c.1.1
    have hj:M.contains j=false:=by simpa using c.1.2
    obtain⟨d,st',fz',e1,n1,r1⟩:=ZY hF I q (show Zv M e _=true by unfold Zv;rw[c.2,Bool.true_or])
    cases r1 with
    |tup rr=>
     cases hw;obtain⟨r3,st3,fz3,e3,l3,R3,k3⟩:=Xu (ok:=fun _=>True) hi hj h (I.next n1) (RelsQ.enum rr) (fun _ _ _=>trivial) hp
     exact⟨r3,st3,fz3,by unfold U2;rw[e1];exact e3,(n1.later I.lo I.bd).trans l3,R3,KeptF.trans (T1:=i :: j :: T) (fun _ z=>z) (fun _ z=>z) (Next.kept I n1) k3⟩
    |@lst ja m1 _ da za sa ra=>
     cases hw;obtain⟨r3,st3,fz3,e3,l3,R3,k3⟩:=Xu (ok:=fun s=>s[ja]?=some (m1,da)) hi hj h (I.next n1) (RelsQ.enum ra) (fun fz2 st2 l=>(l.frz ja za).trans sa) hp
     exact⟨r3,st3,fz3,by unfold U2 Zh1;rw[e1];simp only[sa];exact e3,(n1.later I.lo I.bd).trans l3,R3,KeptF.trans (T1:=i :: j :: T) (fun _ z=>z) (fun _ z=>z) (Next.kept I n1) k3⟩
    |_=>cases hw
   ·cases hp
  ·cases hp
 ·cases hp
theorem ZZ(hF:Z8 F G):∀ s:CS,SX n0 M (Yc s) (ex F s) (px G M s)
 |.skip=>fun π r e fz st ρ I=>by cases e;exact⟨.nx ρ,st,fz,rfl,Later.refl,I,Kept.refl⟩
 |.brk=>fun π r e fz st ρ I=>by cases e;exact⟨.bk ρ,st,fz,rfl,Later.refl,I,Kept.refl⟩
 |.cont=>fun π r e fz st ρ I=>by cases e;exact⟨.ct ρ,st,fz,rfl,Later.refl,I,Kept.refl⟩
 |.stop=>fun π r e=>nomatch (show(none:Ot PFl)=some r from e)
 |.set3 i j l e=>ZjW hF i j l e
 |.act e=>Zlf hF e
 |.seq a b=>Zlm (ZZ hF a) (ZZ hF b)
 |.ret e=>Zll hF e
 |.set i e=>Zln hF i e
 |.set2 i j e=>ZjV hF i j e
 |.app i e=>Zlg hF i e
 |.ext i e=>Zlh hF i e
 |.put i k e=>Zlk hF i e k
 |.dput _ _ _ _=>fun _ r e=>nomatch (show(none:Ot PFl)=some r from e)
 |.ite c a b=>Zlj hF c (ZZ hF a) (ZZ hF b)
 |.for1 i rng it b=>Zli hF (ZZ hF b)
 |.forP i j it b=>ZjU hF (ZZ hF b)
 |.forE i j it b=>ZjT hF (ZZ hF b)
 |.for3 i it b=>ZjR hF (ZZ hF b)
 |.for4 i j l it b=>ZjS hF (ZZ hF b)
 |.for2 _ _ _ _=>fun _ r e=>nomatch (show(none:Ot PFl)=some r from e)
 |.whl _ _=>fun _ r e=>nomatch (show(none:Ot PFl)=some r from e)
end
theorem Rels.back{fz:Fz}{st:Za}{ps:Li P}{ds:Li D}{i:Nat}{d:D}(r:Rels fz st ps ds)(e:ds[i]?=some d):∃ p,ps[i]?=some p:=by
 have h:=ZW e;rw[<-r.length]at h;exact⟨_,Lg h⟩
theorem inv_start{f:FD}{ps:Li P}{fz:Fz}{st:Za}{ds:Li D}(c:(ZC f.body).all (fun i=>decide (ps.length<=i))=true)(b:Bd fz st)(r:Rels fz st ps ds) :
  Inv st.length (ZC f.body) fz st (ps.map some++List.replicate (f.ns - ps.length) none) (ds.map some++List.replicate (f.ns - ds.length) none):=by
 have slot:∀ (i:Nat) (q:P),(ps.map some++List.replicate (f.ns - ps.length) none:Zr)[i]?=some (some q)->i < ps.length/\ps[i]?=some q:=fun i q h=>by
  by_cases hi:i < ps.length
  ·rw[List.getElem?_append_left (by simpa using hi),List.getElem?_map]at h
   refine⟨hi,?_⟩;cases z:ps[i]? with
   |none=>rw[z]at h;cases h
   |some y=>rw[z]at h;cases h;rfl
  ·rw[List.getElem?_append_right (by simpa using hi),List.getElem?_replicate]at h
   split at h<;>cases h
 have noM:∀ (i:Nat),i < ps.length->(ZC f.body).contains i=false:=fun i hi=>by
  cases z:(ZC f.body).contains i with
  |false=>rfl
  |true=>
   have:=List.all_eq_true.mp c i (by simpa using z)
   have:=of_decide_eq_true this;omega
 refine⟨b,Nat.le_refl _,by simp[r.length],fun i q hi h=>?_,fun i q hi h=>?_,fun i i' q q' j hi hi' h h' _ _=>?_⟩
 ·obtain⟨h1,h2⟩:=slot i q h
  obtain⟨d,e1,r1⟩:=r.get h2;refine⟨d,?_,r1⟩;rw[List.getElem?_append_left (by simpa[<-r.length] using h1),List.getElem?_map,e1]
  rfl
 ·rw[noM i (slot i q h).1]at hi;cases hi
 ·rw[noM i (slot i q h).1]at hi;cases hi
theorem ZiE{F:Nat->Fn}{G:PFn}(hF:Z8 F G)(f:FD){ps:Li P}{p:P}(e:fnP G f ps=some p){fz:Fz}{st:Za}{ds:Li D}(b:Bd fz st)(r:Rels fz st ps ds):Gives fz st (fnD F f ds st) p:=by
 unfold fnP at e;split at e
 ·rename_i c
  have I:Inv st.length (ZC f.body) fz st (ps.map some++List.replicate (f.ns - ps.length) none) (ds.map some++List.replicate (f.ns - ds.length) none):=inv_start (by rw[c.1];exact c.2) b r
  have hd:ds.length=f.ps:=by rw[<-r.length];exact c.1
  split at e
  ·rename_i d q
   cases e;obtain⟨r1,st1,fz1,e1,l1,R1,k1⟩:=ZZ (n0:=st.length) hF f.body _ _ q fz st _ I;cases r1 with
   |rt d'=>exact⟨d',st1,fz1,by unfold fnD;rw[if_pos hd,e1],⟨l1.low,l1.len,l1.sub,l1.new,R1.2⟩,R1.1⟩
   |_=>exact R1.elim
  ·rename_i π' q
   cases e;obtain⟨r1,st1,fz1,e1,l1,R1,k1⟩:=ZZ (n0:=st.length) hF f.body _ _ q fz st _ I;cases r1 with
   |nx ρ'=>exact⟨.non,st1,fz1,by unfold fnD;rw[if_pos hd,e1],⟨l1.low,l1.len,l1.sub,l1.new,R1.bd⟩,.non⟩
   |_=>exact R1.elim
  ·cases e
 ·cases e
theorem Inv.shrink{M':Li Nat}(I:Inv n0 M fz st π ρ)(h:∀ i,M'.contains i=true->M.contains i=true):∃ fz',Inv n0 M' fz' st π ρ/\Later n0 fz st fz' st:=by
 have sub:∀ j,fz j->(fz j\/∃ (i:Nat) (p:P),M.contains i=true/\M'.contains i=false/\π[i]?=some (some p)/\Rf ρ[i]? j):=fun j z=>.inl z
 refine⟨fun j=>fz j\/∃ (i:Nat) (p:P),M.contains i=true/\M'.contains i=false/\π[i]?=some (some p)/\Rf ρ[i]? j,⟨fun j z=>?_,I.lo,I.len,fun i p hi e=>?_,fun i p hi e=>?_,fun i i' p p' j hi hi'=>I.ne i i' p p' j (h i hi) (h i' hi')⟩,⟨fun _ _=>rfl,fun _ _=>rfl,sub,fun j z=>?_,Nat.le_refl _⟩⟩
 ·rcases z with z|⟨i,p,hi,_,e,e'⟩
  ·exact I.bd j z
  ·obtain⟨j',ps,ds,_,e2,e3,_⟩:=I.mt i p hi e
   cases e'.inj e2
   exact ZW e3
 ·cases hM:M.contains i with
  |false=>
   obtain⟨d,e1,r⟩:=I.fr i p hM e;exact⟨d,e1,r.mono sub fun _ _=>rfl⟩
  |true=>
   obtain⟨j,ps,ds,e1,e2,e3,_,_,r⟩:=I.mt i p hM e;exact e1.rel (.inr ⟨i,_,hM,hi,e,e2⟩) e3 (r.mono sub fun _ _=>rfl)
 ·obtain⟨j,ps,ds,e1,e2,e3,e4,e5,r⟩:=I.mt i p (h i hi) e
  refine⟨j,ps,ds,e1,e2,e3,fun z=>?_,e5,r.mono sub fun _ _=>rfl⟩
  rcases z with z|⟨i',p',hi',hn,e',e''⟩
  ·exact e4 z
  ·have:=I.ne i i' p p' j (h i hi) hi' e e' e2 e''
   subst this;rw[hi]at hn;cases hn
 ·rcases z with z|⟨i,p,hi,_,e,e'⟩
  ·exact .inl z
  ·obtain⟨j',ps,ds,_,e2,_,_,e5,_⟩:=I.mt i p hi e
   cases e'.inj e2
   exact .inr e5
theorem Zhu{s:CS}(i:Nat)(h:(shr M s).contains i=true):M.contains i=true:=by
 rw[List.contains_iff_mem]at h ⊢;exact(List.mem_filter.mp h).1
def Zj3(fz':Fz)(st':Za):PFl->Fl->Prop
 |.rt p,.rt d=>Rel fz' st' p d/\Bd fz' st'
 |.nx _,.nx _=>Bd fz' st'
 |.rt _,_=>False
 |.nx _,_=>False
 |_,_=>True
theorem Qj{F:Nat->Fn}{G:PFn}(hF:Z8 F G):∀ (s:CS) (M:Li Nat) (n0:Nat) (π:Zr) (r:PFl),W5 G s M π=some r->∀ fz st ρ,Inv n0 M fz st π ρ->∃ r' st' fz',ex F s ρ st=some (r',st')/\Later n0 fz st fz' st'/\Zj3 fz' st' r r':=by
 have base:∀ (s:CS) (M:Li Nat) (n0:Nat) (π:Zr) (r:PFl),px G M s π=some r->∀ fz st ρ,Inv n0 M fz st π ρ->∃ r' st' fz',ex F s ρ st=some (r',st')/\Later n0 fz st fz' st'/\Zj3 fz' st' r r':=fun s M n0 π r e fz st ρ I=>by
  obtain⟨r1,st1,fz1,e1,l1,R1,_⟩:=ZZ (n0:=n0) hF s π r e fz st ρ I;refine⟨r1,st1,fz1,e1,l1,?_⟩;cases r with
  |rt p=>cases r1 with
   |rt d=>exact R1
   |_=>exact R1.elim
  |nx π1=>cases r1 with
   |nx ρ1=>exact R1.bd
   |_=>exact R1.elim
  |_=>trivial
 intro s
 induction s with
 |seq a b _ ih=>
  intro M n0 π r e fz st ρ I;have e:VE (px G M a) (W5 G b (shr M b)) π=some r:=e;unfold VE at e;split at e
  ·rename_i π1 q
   obtain⟨r1,st1,fz1,e1,l1,R1,_⟩:=ZZ (n0:=n0) hF a π _ q fz st ρ I;cases r1 with
   |nx ρ1=>
    obtain⟨fz2,I2,l2⟩:=Inv.shrink (M':=shr M b) R1 Zhu;obtain⟨r2,st2,fz3,e2,l3,R2⟩:=ih (shr M b) n0 π1 r e fz2 st1 ρ1 I2;exact⟨r2,st2,fz3,by show UK (ex F a) (ex F b) ρ st=_;unfold UK;rw[e1];exact e2,(l1.trans l2).trans l3,R2⟩
   |_=>exact R1.elim
  ·rename_i hn
   obtain⟨r1,st1,fz1,e1,l1,R1⟩:=base a M n0 π r e fz st ρ I;refine⟨r1,st1,fz1,?_,l1,R1⟩;show UK (ex F a) (ex F b) ρ st=_;unfold UK;rw[e1];cases r with
   |nx π1=>exact absurd e (hn π1)
   |rt p=>cases r1<;>first|rfl|exact R1.elim
   |_=>
    obtain⟨r2,st2,fz2,e2,l2,R2,_⟩:=ZZ (n0:=n0) hF a π _ e fz st ρ I;rw[e1]at e2;cases e2;cases r1<;>first|rfl|exact R2.elim
 |_=>exact base _
theorem Zgg{F:Nat->Fn}{G:PFn}(hF:Z8 F G)(f:FD){ps:Li P}{p:P}(e:fnT G f ps=some p){fz:Fz}{st:Za}{ds:Li D}(b:Bd fz st)(r:Rels fz st ps ds):Gives fz st (fnD F f ds st) p:=by
 unfold fnT at e;split at e
 ·rename_i c
  have I:Inv st.length (ZC f.body) fz st (ps.map some++List.replicate (f.ns - ps.length) none) (ds.map some++List.replicate (f.ns - ds.length) none):=inv_start (by rw[c.1];exact c.2) b r
  have hd:ds.length=f.ps:=by rw[<-r.length];exact c.1
  split at e
  ·rename_i d q
   cases e;obtain⟨r1,st1,fz1,e1,l1,R1⟩:=Qj hF f.body _ st.length _ _ q fz st _ I;cases r1 with
   |rt d'=>exact⟨d',st1,fz1,by unfold fnD;rw[if_pos hd,e1],⟨l1.low,l1.len,l1.sub,l1.new,R1.2⟩,R1.1⟩
   |_=>exact R1.elim
  ·rename_i π' q
   cases e;obtain⟨r1,st1,fz1,e1,l1,R1⟩:=Qj hF f.body _ st.length _ _ q fz st _ I;cases r1 with
   |nx ρ'=>exact⟨.non,st1,fz1,by unfold fnD;rw[if_pos hd,e1],⟨l1.low,l1.len,l1.sub,l1.new,R1⟩,.non⟩
   |_=>exact R1.elim
  ·cases e
 ·cases e
theorem Vn{T:Nat->Ot FD}{n i:Nat}{f:FD}(q:T i=some f):Zc T (n+1) i=if (Ub i&&!Uk f)=true then fun _=>none else if (i==16&&(T 999).isSome)=true then fnT (Zc T n) f else fnP (Zc T n) f:=by
 show(match T i with|some f=>if (Ub i&&!Uk f)=true then (fun _=>none) else if (i==16&&(T 999).isSome)=true then fnT (Zc T n) f else fnP (Zc T n) f|none=>fun _=>none)=_
 rw[q]
theorem ZcT{T:Nat->Ot FD}{n i:Nat}(q:T i=none):Zc T (n+1) i=fun _=>none:=by
 show(match T i with|some f=>if (Ub i&&!Uk f)=true then (fun _=>none) else if (i==16&&(T 999).isSome)=true then fnT (Zc T n) f else fnP (Zc T n) f|none=>fun _=>none)=_
 rw[q]
theorem Ze6{T:Nat->Ot FD}{n i:Nat}{f:FD}(q:T i=some f):run T (n+1) i=fnD (run T n) f:=by
 show(match T i with|some f=>fnD (run T n) f|none=>fun _ _=>none)=_
 rw[q]
theorem Q7(T:Nat->Ot FD):∀ n,Z8 (run T n) (Zc T n)
 |0=>⟨(fun i ps p e=>nomatch (show(none:Ot P)=some p from e)),(fun i _ ps m xs e=>nomatch (show(none:Ot P)=some (.lst m xs) from e))⟩
 |n+1=>by
  refine⟨fun i ps p e fz st ds b r=>?_,fun i hi ps m xs e fz st ds b r=>?_⟩
  ·cases q:T i with
   |none=>rw[ZcT q]at e;cases e
   |some f=>
    rw[Vn q]at e;rw[Ze6 q];split at e
    ·cases e
    ·split at e
     ·exact Zgg (Q7 T n) f e b r
     ·exact ZiE (Q7 T n) f e b r
  ·cases hi
theorem ZgE{T:Nat->Ot FD}{n i:Nat}{ns:Li Int}(h:Zc T n i [.lst false (ns.map .int)]=some (.bl true)):∃ st',run T n i [.lst 0] [(false,ns.map .int)]=some (.bl true,st'):=by
 have r:∀ ns:Li Int,Rels (fun i=>i=0) [(false,(ns.map D.int))] [] []:=fun _=>.nil
 have rs:∀ (st:Za) (ns:Li Int),Rels (fun i=>i=0) st (ns.map P.int) (ns.map D.int):=fun st ns=>by
  induction ns with
  |nil=>exact .nil
  |cons a l ih=>exact .cons (.int a) ih
 obtain⟨d,st',fz',e1,n1,r1⟩:=(Q7 T n).1 i _ _ h (fun i=>i=0) [(false,ns.map D.int)] [.lst 0] (fun i hi=>by rw[hi];exact Nat.zero_lt_one) (.cons (.lst rfl rfl (rs _ ns)) .nil)
 cases r1;exact⟨st',e1⟩
end Dp



namespace Dp
open PySem PySem.Spec PyProof.Rows L2
variable [ClsTab]
theorem ZlV{α:Type}:∀ {us:Li α},us.length=0->us=[]
 |[],_=>rfl
theorem ZkL{α:Type}:∀ {us:Li α},us.length=1->∃ a,us=[a]
 |[a],_=>⟨a,rfl⟩
theorem ZgF{α:Type}:∀ {us:Li α},us.length=2->∃ a b,us=[a,b]
 |[a,b],_=>⟨a,b,rfl⟩
theorem ZgG{α:Type}:∀ {us:Li α},us.length=3->∃ a b c,us=[a,b,c]
 |[a,b,c],_=>⟨a,b,c,rfl⟩
theorem ZlW{α:Type}:∀ {us:Li α},us.length=4->∃ a b c d,us=[a,b,c,d]
 |[a,b,c,d],_=>⟨a,b,c,d,rfl⟩
theorem ZlX{α:Type}:∀ {us:Li α},us.length=5->∃ a b c d e,us=[a,b,c,d,e]
 |[a,b,c,d,e],_=>⟨a,b,c,d,e,rfl⟩
theorem ZlY{α:Type}:∀ {us:Li α},us.length=6->∃ a b c d e f,us=[a,b,c,d,e,f]
 |[a,b,c,d,e,f],_=>⟨a,b,c,d,e,f,rfl⟩
def Wy(K:Fg)(G:Gs)(T:Nat->Ot FD)(C:Ad):Li (Str×Nat×Nat)->Prop
 |[]=>True
 | (m,j,_) :: r=>(∃ y f fd pn N,MethOk K G T C m y j f fd pn N)/\Wy K G T C r
def WA(K:Fg)(B:Ad):Li Nat->Prop
 |[]=>True
 |i :: r=>SubOk K (ClsTab.ca i) B/\WA K B r
def XQ(Pm:Params)(K:Fg)(mg:Str->Ot vL)(G:Gs)(T:Nat->Ot FD):Gs->Prop
 |[]=>True
 | (x,.cst d) :: r=>(∃ v u,mg x=some u/\RelV v u/\∀ ad H,Den K ad H v d)/\XQ Pm K mg G T r
 | (x,.blt) :: r=>mg x=none/\XQ Pm K mg G T r
 | (x,.dct ks ds) :: r=>Zbe Pm K mg x ks ds/\XQ Pm K mg G T r
 | (x,.fn i _ ds) :: r=>(∃ f fd pn N,DefOk K mg G T x i ds f fd pn N)/\XQ Pm K mg G T r
 | (x,.cls i ms subs) :: r=>((mg x=some (.ref (ClsTab.ca i))/\NewOk K (ClsTab.ca i)/\WA K (ClsTab.ca i) subs)/\Wy K G T (ClsTab.ca i) ms)/\XQ Pm K mg G T r
section
variable {P:Program}{w:World}{K:Fg}{mg:Str->Ot vL}{base:Heap}{G:Gs}{T:Nat->Ot FD}
def Zh2(Pm:Params)(K:Fg)(mg:Str->Ot vL)(G:Gs)(T:Nat->Ot FD)(x:Str):GV->Prop
 |.cst d=>∃ v u,mg x=some u/\RelV v u/\∀ ad H,Den K ad H v d
 |.blt=>mg x=none
 |.dct ks ds=>Zbe Pm K mg x ks ds
 |.fn i _ ds=>∃ f fd pn N,DefOk K mg G T x i ds f fd pn N
 |.cls i ms subs=>(mg x=some (.ref (ClsTab.ca i))/\NewOk K (ClsTab.ca i)/\WA K (ClsTab.ca i) subs)/\Wy K G T (ClsTab.ca i) ms
theorem Xr{Pm:Params}:∀ {l:Gs}{x:Str}{g:GV},XQ Pm K mg G T l->l.lookup x=some g->Zh2 Pm K mg G T x g
 |[],_,_,_,h=>by cases h
 | (y,v) :: r,x,g,a,h=>by
  have tl:XQ Pm K mg G T r/\Zh2 Pm K mg G T y v:=by
   cases v with
   |cst d=>exact⟨a.2,a.1⟩
   |blt=>exact⟨a.2,a.1⟩
   |dct ks ds=>exact⟨a.2,a.1⟩
   |fn i ps ds=>exact⟨a.2,a.1⟩
   |cls i ms subs=>exact⟨a.2,a.1⟩
  rw[List.lookup_cons]at h;cases e:x==y with
  |true=>
   rw[e]at h;cases h;rw[beq_iff_eq.mp e];exact tl.2
  |false=>
   rw[e]at h;exact Xr tl.1 h
theorem ZbY{B:Ad}:∀ {l:Li Nat},WA K B l->∀ i,l.contains i=true->SubOk K (ClsTab.ca i) B
 |[],_,_,h=>by cases h
 |j :: r,a,i,h=>by
  rw[List.contains_cons,Bool.or_eq_true]at h;rcases h with h|h
  ·rw[beq_iff_eq.mp h];exact a.1
  ·exact ZbY a.2 i h
theorem JU{C:Ad}:∀ {l:Li (Str×Nat×Nat)},Wy K G T C l->∀ m j ps,l.lookup m=some (j,ps)->∃ y f fd pn N,MethOk K G T C m y j f fd pn N
 |[],_,_,_,_,h=>by cases h
 | (m',j',ps') :: r,a,m,j,ps,h=>by
  rw[List.lookup_cons]at h;cases e:m==m' with
  |true=>
   rw[e]at h;cases h;rw[beq_iff_eq.mp e];exact a.1
  |false=>
   rw[e]at h;exact JU a.2 m j ps h
theorem Zhx{Pm:Params}(h:XQ Pm K mg G T G):Text Pm K mg G T:=
 ⟨fun _ _ e=>Xr h e,fun _ e=>Xr h e,fun _ _ _ e=>Xr h e,fun _ _ _ _ e=>Xr h e,fun x i ms subs e=>by
  have g:Zh2 Pm K mg G T x (.cls i ms subs):=Xr h e;exact⟨⟨g.1.1,g.1.2.1,ZbY g.1.2.2⟩,JU g.2⟩⟩
theorem Ziw(hc:∀ n,Wz G (run T n))(X:Text w.params K mg G T)(n:Nat){x:Str}{i:Nat}{ds:Li D}{f:Ad}{fd:FuncData}{pn N:Li Str}(Dk:DefOk K mg G T x i ds f fd pn N):FnOk P w K mg base CX0 n f fd pn (spD K (run T n i)):=Zda hc X n Dk.ob
theorem ZjI{H:Hp}{a:Ad}{ns:Li Int}{n i:Nat}(hO:Only H)(hS:SqL K H a (ns.map V.int))(h:Zc T n i [.lst false (ns.map .int)]=some (.bl true)):spD K (run T n i) [.ref a] H (fun v _=>v=.bl true) fun _ _ _=>False:=by
 obtain⟨st',e⟩:=ZgE h;have ds:∀ ns:Li Int,Dens K [a] H (ns.map V.int) (ns.map D.int):=fun ns=>by
  induction ns with
  |nil=>exact .nil
  |cons n l ih=>exact .cons (.int n) ih
 have nT:¬Y6 H a:=fun⟨kvs,q⟩=>by
  rcases hO a with z|⟨o,xs,z⟩<;>(rw[q]at z;cases z)
 refine⟨[a],[.lst 0],[(false,ns.map .int)],.bl true,st',⟨rfl,fun i j b c d _ _ h3 _=>?_,fun i c hc=>?_⟩,.cons (.lst ⟨rfl,nT⟩) .nil,e,fun v ad' H' x S h=>h.ofBl⟩
 ·cases i with
  |zero=>simp at h3
  |succ i=>simp at h3
 ·cases i with
  |succ i=>simp at hc
  |zero=>
   have hc:(false,ns.map D.int)=c:=by simpa using hc
   subst hc;refine⟨a,rfl,.l nT (ds ns) (.inr ⟨rfl,?_⟩)⟩;rcases hS with(h|⟨o,h⟩)|⟨o,its,n,h1,h2,h3,h4,h5,h6⟩
   ·rcases hO a with z|⟨o,xs,z⟩
    ·rw[h]at z;cases z
    ·rw[h]at z;cases z
   ·exact .inl ⟨o,h⟩
   ·exact .inr ⟨o,its,n,⟨h1,h2⟩,⟨h3,h4⟩,h5,h6⟩
end
noncomputable abbrev fnS(x y:Str)(s:Stmt)(dV kV dc pm:vL)(an:Ot Ad)(cd ct:vL):FuncData:=PySem.W.fnOf x y (defArgs s) (defBody s) (defScope s) dV kV dc pm an cd ct
inductive FnAt(K:Fg)(x:Str)(s:Stmt):Prop
 |mk {f:Addr}{oc kV dc pm cd ct:Value}{od an:Option Addr}{sl:Array (Option Value)} (a:PySem.W.nsIn K mainGlobals x=some (some (.ref f))) (l:K.lookup f=some ⟨oc,od,.func (PySem.W.fnOf x x (defArgs s) (defBody s) (defScope s) .none kV dc pm an cd ct),sl⟩) (e:PySem.W.codeIn K cd x=true) (k:PySem.W.keepIn K (.ref f)=true):FnAt K x s
inductive FnAtE(K:Fg)(x:Str)(s:Stmt)(v:Int):Prop
 |mk {f E:Addr}{eo:Obj}{en:Nat}{et:Tok}{oc kV dc pm cd ct:Value}{od an:Option Addr}{sl:Array (Option Value)} (a:PySem.W.nsIn K mainGlobals x=some (some (.ref f))) (l:K.lookup f=some ⟨oc,od,.func (PySem.W.fnOf x x (defArgs s) (defBody s) (defScope s) (.ref E) kV dc pm an cd ct),sl⟩) (e:PySem.W.codeIn K cd x=true) (k:PySem.W.keepIn K (.ref f)=true) (d:K.lookup E=some eo) (g:eo.data=.seq #[.int v et] en):FnAtE K x s v
inductive MtAt(K:Fg)(C:Addr)(x y:Str)(s:Stmt):Prop
 |mk {f:Addr}{oc kV dc pm cd ct:Value}{od an:Option Addr}{sl:Array (Option Value)} (m:PySem.W.findIn K (.ref C) x=some (some (.ref f))) (l:K.lookup f=some ⟨oc,od,.func (PySem.W.fnOf x y (defArgs s) (defBody s) (defScope s) .none kV dc pm an cd ct),sl⟩) (e:PySem.W.codeIn K cd y=true) (k:PySem.W.keepIn K (.ref f)=true) (i:PySem.W.isFn K (.ref f)=true):MtAt K C x y s
structure ClsAt(K:Fg)(x:Str)(C:Addr):Prop where
 ya:PySem.W.nsIn K mainGlobals x=some (some (.ref C))
 yb:PySem.W.makesIn K C=true
 yc:PySem.W.findIn K (.ref C) "__init__"=some (some (.builtin "object.__init__"))
 yd:PySem.W.keepIn K (.ref C)=true
 ye:PySem.W.plainGet K C Str.empty=true
 yf:PySem.W.hasDictIn K C=true
 yg:PySem.W.plainOver K C=true
 yh:PySem.W.findIn K (.ref C) "__setattr__"=some (some (.builtin "object.__setattr__"))
 yi:PySem.W.findIn K (.ref C) "__class__"=some (some (.builtin "object.__class__"))
 yj:PySem.W.mroIn K C (.type "object")=some true
 yk:PySem.W.specialIn K (.builtin "object.__class__") "__get__"=some (some (.builtin "getset_descriptor.__get__"))
 yl:PySem.W.takesIn K (.builtin "object.__class__")=some true
abbrev XA(G:Gs)(s:Stmt)(N ps:Li Str)(c:CS):Prop:=FnScope N ps (defScope s)/\(∀ y∈N,L2.Loc (defScope s) y)/\cSs G 60 (defScope s) N (defBody s)=some c
section
variable {K:Fg}{fd:FuncData}{ps:Li Str}
theorem bd1(hl:ps.length=1)(h:∀ a,bindArgs fd ⟨[a],[]⟩=pure (ps.zip [a])):Binds K fd ps []:=.all fun us e=>by obtain⟨_,rfl⟩:=ZkL (e.trans hl);exact h _
theorem bd2(hl:ps.length=2)(h:∀ a b,bindArgs fd ⟨[a,b],[]⟩=pure (ps.zip [a,b])):Binds K fd ps []:=.all fun us e=>by obtain⟨_,_,rfl⟩:=ZgF (e.trans hl);exact h _ _
theorem bd3(hl:ps.length=3)(h:∀ a b c,bindArgs fd ⟨[a,b,c],[]⟩=pure (ps.zip [a,b,c])):Binds K fd ps []:=.all fun us e=>by obtain⟨_,_,_,rfl⟩:=ZgG (e.trans hl);exact h _ _ _
theorem bd4(hl:ps.length=4)(h:∀ a b c d,bindArgs fd ⟨[a,b,c,d],[]⟩=pure (ps.zip [a,b,c,d])):Binds K fd ps []:=.all fun us e=>by obtain⟨_,_,_,_,rfl⟩:=ZlW (e.trans hl);exact h _ _ _ _
theorem bd5(hl:ps.length=5)(h:∀ a b c d k,bindArgs fd ⟨[a,b,c,d,k],[]⟩=pure (ps.zip [a,b,c,d,k])):Binds K fd ps []:=.all fun us e=>by obtain⟨_,_,_,_,_,rfl⟩:=ZlX (e.trans hl);exact h _ _ _ _ _
theorem bd6(hl:ps.length=6)(h:∀ a b c d k l,bindArgs fd ⟨[a,b,c,d,k,l],[]⟩=pure (ps.zip [a,b,c,d,k,l])):Binds K fd ps []:=.all fun us e=>by obtain⟨_,_,_,_,_,_,rfl⟩:=ZlY (e.trans hl);exact h _ _ _ _ _ _
theorem bd0(hl:ps.length=0)(h:bindArgs fd ⟨[],[]⟩=pure []):Binds K fd ps []:=.all fun us e=>by rw[ZlV (e.trans hl),List.zip_nil_right];exact h
end
section
variable {Pm:Params}{K:Fg}{mg:Str->Ot vL}{G:Gs}{T:Nat->Ot FD}{h:Heap}{x y:Str}{i p:Nat}{s:Stmt}{N ps:Li Str}{c:CS}{r:Gs}
theorem gD(X:K.In h)(G0:h.Ns mainGlobals mg)(F:FnAt K x s)(q:XA G s N ps c)(hT:T i=some ⟨ps.length,N.length,c⟩)(t:XQ Pm K mg G T r)(hb:∀ kV dc pm an cd ct,Binds K (fnS x x s .none kV dc pm an cd ct) ps []:=by first|exact fun _ _ _ _ _ _=>bd1 rfl fun _=>rfl|exact fun _ _ _ _ _ _=>bd2 rfl fun _ _=>rfl|exact fun _ _ _ _ _ _=>bd3 rfl fun _ _ _=>rfl|exact fun _ _ _ _ _ _=>bd4 rfl fun _ _ _ _=>rfl|exact fun _ _ _ _ _ _=>bd5 rfl fun _ _ _ _ _=>rfl|exact fun _ _ _ _ _ _=>bd6 rfl fun _ _ _ _ _ _=>rfl|exact fun _ _ _ _ _ _=>bd0 rfl rfl):XQ Pm K mg G T ((x,.fn i p []) :: r):=by
 cases F with
 |mk a l e k=>exact⟨⟨_,_,ps,N,⟨s,_,_,_,_,_,_,_,_,_,_,c,rfl,l,e,q.1,q.2.1,q.2.2,hT⟩,k,PySem.W.mg_of X G0 a,fun m hm=>⟨[],[],fun _ _=>by rw[List.drop_nil];exact .nil,.nil,hb _ _ _ _ _ _⟩⟩,t⟩
theorem gE{v:Int}(X:K.In h)(G0:h.Ns mainGlobals mg)(F:FnAtE K x s v)(q:XA G s N ps c)(hT:T i=some ⟨ps.length,N.length,c⟩)(hb:∀ E kV dc pm an cd ct eo et en,K.lookup E=some eo->eo.data=.seq #[.int v et] en->Binds K (fnS x x s (.ref E) kV dc pm an cd ct) ps []/\Binds K (fnS x x s (.ref E) kV dc pm an cd ct) ps [.int v et])(t:XQ Pm K mg G T r):XQ Pm K mg G T ((x,.fn i p [.int v]) :: r):=by
 cases F with
 |mk a l e k d g=>
  refine⟨⟨_,_,ps,N,⟨s,_,_,_,_,_,_,_,_,_,_,c,rfl,l,e,q.1,q.2.1,q.2.2,hT⟩,k,PySem.W.mg_of X G0 a,fun m hm=>?_⟩,t⟩
  match m,hm with
  |0,_=>exact⟨[.int v],[.int v _],fun _ _=>.cons (.int _) .nil,.cons ⟨_,rfl⟩ .nil,(hb _ _ _ _ _ _ _ _ _ _ d g).2⟩
  |1,_=>exact⟨[],[],fun _ _=>.nil,.nil,(hb _ _ _ _ _ _ _ _ _ _ d g).1⟩
theorem gM{C:Ad}{r:Li (Str×Nat×Nat)}(F:MtAt K C x y s)(q:XA G s N ps c)(hT:T i=some ⟨ps.length,N.length,c⟩)(t:Wy K G T C r)(hb:∀ kV dc pm an cd ct,Binds K (fnS x y s .none kV dc pm an cd ct) ps []:=by first|exact fun _ _ _ _ _ _=>bd1 rfl fun _=>rfl|exact fun _ _ _ _ _ _=>bd2 rfl fun _ _=>rfl|exact fun _ _ _ _ _ _=>bd3 rfl fun _ _ _=>rfl|exact fun _ _ _ _ _ _=>bd4 rfl fun _ _ _ _=>rfl|exact fun _ _ _ _ _ _=>bd5 rfl fun _ _ _ _ _=>rfl|exact fun _ _ _ _ _ _=>bd6 rfl fun _ _ _ _ _ _=>rfl|exact fun _ _ _ _ _ _=>bd0 rfl rfl):Wy K G T C ((x,i,p) :: r):=by
 cases F with
 |mk m l e k j=>exact⟨⟨y,_,_,ps,N,⟨s,_,_,_,_,_,_,_,_,_,_,c,rfl,l,e,q.1,q.2.1,q.2.2,hT⟩,⟨m,j,k⟩,hb _ _ _ _ _ _⟩,t⟩
theorem gS{C B:Ad}{l:Li Nat}(hC:ClsTab.ca i=C)(F:ClsAt K x C)(m:PySem.W.kitOne K (.ref C) (.ref B)=some true)(t:WA K B l):WA K B (i :: l):=by
 subst hC;exact⟨⟨⟨F.ye,F.yf,F.yg,F.yh⟩,F.yi,F.yk,F.yl,F.yj,m⟩,t⟩
theorem gC{C:Ad}{subs:Li Nat}{ms:Li (Str×Nat×Nat)}(X:K.In h)(G0:h.Ns mainGlobals mg)(hC:ClsTab.ca i=C)(F:ClsAt K x C)(hs:WA K C subs)(hm:Wy K G T C ms)(t:XQ Pm K mg G T r):XQ Pm K mg G T ((x,.cls i ms subs) :: r):=by
 subst hC;exact⟨⟨⟨PySem.W.mg_of X G0 F.ya,⟨F.yb,F.yc,F.yd,⟨F.ye,F.yf,F.yg,F.yh⟩⟩,hs⟩,hm⟩,t⟩
theorem gB(X:K.In h)(G0:h.Ns mainGlobals mg)(z:PySem.W.nsIn K mainGlobals x=some none)(t:XQ Pm K mg G T r):XQ Pm K mg G T ((x,.blt) :: r):=⟨PySem.W.mg_none_of X G0 z,t⟩
theorem gI{v:Int}{k:Tok}(X:K.In h)(G0:h.Ns mainGlobals mg)(g:PySem.W.nsIn K mainGlobals x=some (some (.int v k)))(t:XQ Pm K mg G T r):XQ Pm K mg G T ((x,.cst (.int v)) :: r):=⟨⟨.int v,_,PySem.W.mg_of X G0 g,⟨_,rfl⟩,fun _ _=>.int _⟩,t⟩
theorem gL{fa:Ad}{z:Str}(X:K.In h)(G0:h.Ns mainGlobals mg)(hfa:mg x=some (.ref fa))(F:FnAt K x s)(q:XA G s N [z] c)(hT:T i=some ⟨1,N.length,c⟩)(hb:∀ kV dc pm an cd ct u,bindArgs (fnS x x s .none kV dc pm an cd ct) ⟨[u],[]⟩=pure [(z,u)]):∃ (fd:FuncData) (N:Li Str),(∀ (s:Sd) (u:vL),BindsTo s fd ⟨[u],[]⟩ [(z,u)])/\DefOk K mg G T x i [] fa fd [z] N:=by
 cases F with
 |@mk f _ _ _ _ _ _ _ _ _ a l e k=>
  have e':=hfa.symm.trans (PySem.W.mg_of X G0 a);have e':fa=f:=by cases e';rfl
  rw[e'];exact⟨_,N,fun _ u=>.of_eq (hb _ _ _ _ _ _ u),⟨s,_,_,_,_,_,_,_,_,_,_,c,rfl,l,e,q.1,q.2.1,q.2.2,hT⟩,k,PySem.W.mg_of X G0 a,fun m hm=>⟨[],[],fun _ _=>by rw[List.drop_nil];exact .nil,.nil,.all fun us hl=>by obtain⟨u,rfl⟩:=ZkL hl;exact hb _ _ _ _ _ _ u⟩⟩
end
omit [ClsTab] in
theorem Zeg{l:PySem.W.OpenLaw}{q:Program}{loose:Li Str}{XP:(Str->Ot vL)->Heap->Prop}{YP:World->Heap->Prop}{d:DefRec}{K:Params->Fg}{G:Gs}{T:Nat->Ot FD}{n i:Nat}{x:Str}(hn:l.most=some 63)(hdf:d.params.defaults=[])(hr:Room n callerA)(hY:∀ (w:World) (h:Heap),YP w h->(K w.params).In h)(hc:∀ [ClsTab] n,Wz G (run T n))(F:∀ (w:World) (mg:Str->Ot vL) (fa:Ad) (h:Heap),(K w.params).In h->h.Ns mainGlobals mg->mg d.name=some (.ref fa)->
   ∃ _:ClsTab,Text w.params (K w.params) mg G T/\∃ (fd:FuncData) (N:Li Str),(∀ (s:Sd) (u:vL),BindsTo s fd ⟨[u],[]⟩ [(x,u)])/\DefOk (K w.params) mg G T d.name i [] fa fd [x] N)(L:∀ ns:Li Int,ns.length<=63->Zc T n i [.lst false (ns.map .int)]=some (.bl true)) :
  PySem.W.WalkO q loose XP YP l.row.toRowW d [] (fun f vs=>PySem.call f vs):=
 L2.walk_of (n:=63) (k:=n) (x:=x) (CX:=fun _=>CX0) (sp:=fun w vs H Q E=>∀ c:ClsTab,@spD c (K w.params) (run T n i) vs H Q E) hn (by decide) hdf hr hY
  (fun w mg fa h KX G0 hmg=>by
   obtain⟨c,X,fd,N,hb,Dk⟩:=F w mg fa h KX G0 hmg;refine⟨fd,hb,fun base _ _=>?_⟩
   have fo:=Ziw (P:=l.prog) (w:=w) (base:=base) (fun n=>hc n) X n Dk
   exact⟨fun vs H Q E z=>fo.len vs H Q E (z c),fun A outer s H args us vs Q E a1 a2 a3 a4 z=>fo.run A outer s H args us vs Q E a1 a2 a3 a4 (z c)⟩)
  (fun w H a ns hl hO hS c=>ZjI hO hS (L ns hl)) fun _ _ _ _ _ z=>z
end Dp


namespace Dp
open PySem
theorem W0:∀ {l m:Li Char},l.map Char.toNat=m.map Char.toNat->l=m
 |[],[],_=>rfl
 |[],_ :: _,h=>by cases h
 |_ :: _,[],h=>by cases h
 |a :: l,b :: m,h=>by
  rw[List.map_cons,List.map_cons]at h
  injection h with h1 h2
  have:a=b:=by
   apply Char.ext
   apply UInt32.toNat_inj.mp
   exact h1
  rw[this,W0 h2]
@[simp] theorem ZmQ{a b:String}:(Str.ofString a=Str.ofString b)=(a=b):=by
 apply propext
 constructor
 ·intro h
  rw[Str.ofString_eq_toList,Str.ofString_eq_toList]at h
  injection h with h
  have h2:=congrArg Array.toList h;simp only[List.toList_toArray]at h2;exact String.toList_inj.mp (W0 h2)
 ·intro h;rw[h]
section
variable {F:PFn}{π:Zr}{a b c lo hi it elt cnd:CE}{M:Li Nat}
noncomputable def UR(c:Ot P)(x y:Ot P):Ot P:=match c with
 |some (.bl true)=>x
 |some (.bl false)=>y
 |_=>none
@[simp] theorem Zkw{k:Bool}{x y:Ot P}:UR (some (.bl k)) x y=if k=true then x else y:=by cases k<;>rfl
@[simp] theorem Zkp{α β:Type}{p:Prop}[Decidable p]{u v:Ot α}{f:α->Ot β}:(if p then u else v).bind f=if p then u.bind f else v.bind f:=by split<;>rfl
@[simp] theorem pe_var{i:Nat}:pe F (.var i) π=(π[i]?).join:=by
 show W6 i π=_;unfold W6;cases π[i]? with
 |none=>rfl
 |some o=>cases o<;>rfl
@[simp] theorem Z0{d:D}:pe F (.cst d) π=ofD d:=Eq.trans rfl rfl
@[simp] theorem ZK{i:Int}:ofD (.int i)=some (.int i):=Eq.trans rfl rfl
@[simp] theorem Zlv{i:Str}:ofD (.str i)=some (.str i):=Eq.trans rfl rfl
@[simp] theorem Zl2{i:Bool}:ofD (.bl i)=some (.bl i):=Eq.trans rfl rfl
@[simp] theorem ZgT:ofD .non=some .non:=Eq.trans rfl rfl
@[simp] theorem JY:XS []=some []:=Eq.trans rfl rfl
theorem Xl{f:PEv}{g:P->Ot P}:pq1 f g π=(f π).bind g:=by unfold pq1;cases f π<;>rfl
theorem Vm{f f':PEv}{g:P->P->Ot P}:pq2 f f' g π=(f π).bind fun x=>(f' π).bind fun y=>g x y:=by unfold pq2;cases f π<;>cases f' π<;>rfl
theorem Zi8{f f' f'':PEv}{g:P->P->P->Ot P}:pq3 f f' f'' g π=(f π).bind fun x=>(f' π).bind fun y=>(f'' π).bind fun z=>g x y z:=by unfold pq3;cases f π<;>cases f' π<;>cases f'' π<;>rfl
theorem Up{f g h:PEv}:Y0 f g h π=UR (f π) (g π) (h π):=by
 unfold Y0 UR;rfl
@[simp] theorem ZM{op:Operator}:pe F (.bin op a b) π=(pe F a π).bind fun x=>(pe F b π).bind fun y=>YG op x y:=Vm
@[simp] theorem YX{op:CmpOp}:pe F (.cmp op a b) π=(pe F a π).bind fun x=>(pe F b π).bind fun y=>ZX op x y:=Vm
@[simp] theorem Zl4:pe F (.neg a) π=(pe F a π).bind ZcO:=Xl
@[simp] theorem pe_not:pe F (.not a) π=(pe F a π).bind ZcR:=Xl
@[simp] theorem pe_and:pe F (.and a b) π=UR (pe F a π) (pe F b π) (some (.bl false)):=Up
@[simp] theorem pe_or:pe F (.or a b) π=UR (pe F a π) (some (.bl true)) (pe F b π):=Up
@[simp] theorem QY:pe F (.ife c a b) π=UR (pe F c π) (pe F a π) (pe F b π):=Up
@[simp] theorem Zlx:pe F (.tupE a) π=pe F a π:=Eq.trans rfl rfl
@[simp] theorem Zlw:pe F (.lstE a) π=(pe F a π).bind ZaR:=Xl
@[simp] theorem ZbN:pe F .aN π=some (.tup []):=Eq.trans rfl rfl
@[simp] theorem YU:pe F (.aC a b) π=(pe F a π).bind fun x=>(pe F b π).bind fun y=>US x y:=Vm
@[simp] theorem pe_ix:pe F (.ix a b) π=(pe F a π).bind fun x=>(pe F b π).bind fun y=>ixP x y:=Vm
@[simp] theorem pe_slice:pe F (.slice a lo hi) π=(pe F a π).bind fun x=>(pe F lo π).bind fun y=>(pe F hi π).bind fun z=>Wb x y z:=Zi8
@[simp] theorem ZeK:pe F .nop π=some .non:=Eq.trans rfl rfl
@[simp] theorem ZbO:pe F (.part a) π=(pe F a π).bind Qd:=Xl
@[simp] theorem pe_call{f:Nat}{ds:Li D}:pe F (.call f a ds) π=(pe F a π).bind (V2 (F f) ds):=Xl
@[simp] theorem ZeJ:pe F (.len a) π=(pe F a π).bind JT:=Xl
@[simp] theorem ZaV:pe F (.tOf a) π=(pe F a π).bind We:=Xl
@[simp] theorem ZjZ:pe F (.listOf a) π=(pe F a π).bind Uf:=Xl
@[simp] theorem Zi6:pe F (.max a b) π=(pe F a π).bind fun x=>(pe F b π).bind fun y=>Zek x y:=Vm
@[simp] theorem Zl3{T:Ty}:pe F (.isi T a) π=(pe F a π).bind (QL T):=Xl
@[simp] theorem ZgW:pe F (.tupR a) π=(pe F a π).bind Ql:=Xl
theorem YC{rng:Bool}{fr:Li Nat}:pe F (.comp rng fr it elt cnd) π=(pe F it π).bind fun x=>(YF rng x).bind fun xs=>if xs.length<=1000 then (Ye (fun p=>pe F elt (ZS π fr p)) (fun p=>pe F cnd (ZS π fr p)) xs).bind (fun ys=>some (.lst true ys)) else none:=by
 show Z5 ZeO (YF rng) fr (pe F it) (pe F elt) (pe F cnd) π=_;unfold Z5;cases pe F it π with
 |none=>rfl
 |some x=>
  simp only[Ob];cases YF rng x with
  |none=>rfl
  |some xs=>
   simp only[Ob];split
   ·show(match Ye (fun p=>pe F elt (ZS π fr p)) (fun p=>pe F cnd (ZS π fr p)) xs with
     |some ys=>some (P.lst true ys)
     |none=>none)=_
    cases Ye (fun p=>pe F elt (ZS π fr p)) (fun p=>pe F cnd (ZS π fr p)) xs<;>rfl
   ·rfl
@[simp] theorem ZkZ{tab:Li (Nat×Nat)}:pe F (.meth tab a b) π=(pe F a π).bind fun x=>(pe F b π).bind fun y=>W2 F tab x y:=Vm
theorem ZeI{fr:Li Nat}{x:P}{xs:Li P}(h:pe F it π=some x)(hw:Vq x=some (Y8 0 xs))(hl:(Y8 0 xs).length<=1000):pe F (.comp2 fr it elt cnd) π=(Ye (fun p=>pe F elt (YD VF π fr p)) (fun p=>pe F cnd (YD VF π fr p)) (Y8 0 xs)).bind (fun ys=>some (.lst true ys)):=by
 show Z5 VF Vq fr (pe F it) (pe F elt) (pe F cnd) π=_;unfold Z5;simp only[h,hw,hl,if_true];cases Ye (fun p=>pe F elt (YD VF π fr p)) (fun p=>pe F cnd (YD VF π fr p)) (Y8 0 xs)<;>rfl
variable {i j:Int}{xs ys:Li P}{x y:P}{m:Bool}
@[simp] theorem XD:YG .Add (.int i) (.int j)=some (.int (i+j)):=Eq.trans rfl rfl
@[simp] theorem WO:YG .Sub (.int i) (.int j)=some (.int (i - j)):=Eq.trans rfl rfl
@[simp] theorem VH:YG .Mult (.int i) (.int j)=if Z1 i||Z1 j then some (.int (i * j)) else none:=by
 show(match (if Z1 i||Z1 j then some ((i * j)) else none:Ot Int) with
  |some k=>some (P.int k)
  |none=>none)=_
 by_cases h:(Z1 i||Z1 j)=true
 ·rw[if_pos h,if_pos h]
 ·rw[if_neg h,if_neg h]
@[simp] theorem Zde:YG .FloorDiv (.int i) (.int j)=if 0 < j/\j < 1073741824 then some (.int (i / j)) else if j < 0/\-1073741824 < j then some (.int (i.fdiv j)) else none:=by
 show(match (if 0 < j/\j < 1073741824 then some (i / j) else if j < 0/\-1073741824 < j then some (i.fdiv j) else none:Ot Int) with
  |some k=>some (P.int k)
  |none=>none)=_
 by_cases h:0 < j/\j < 1073741824
 ·rw[if_pos h,if_pos h]
 ·rw[if_neg h,if_neg h]
  by_cases h':j < 0/\-1073741824 < j
  ·rw[if_pos h',if_pos h']
  ·rw[if_neg h',if_neg h']
@[simp] theorem Zbj:YG .Mod (.int i) (.int j)=if 0 < j then some (.int (i % j)) else if j < 0 then some (.int (i.fmod j)) else none:=by
 show(match (if 0 < j then some (i % j) else if j < 0 then some (i.fmod j) else none:Ot Int) with
  |some k=>some (P.int k)
  |none=>none)=_
 by_cases h:0 < j
 ·rw[if_pos h,if_pos h]
 ·rw[if_neg h,if_neg h]
  by_cases h':j < 0
  ·rw[if_pos h',if_pos h']
  ·rw[if_neg h',if_neg h']
theorem ZfQ(hi:0<=i)(hj:0<=j):YG .BitAnd (.int i) (.int j)=some (.int ((i.toNat &&& j.toNat:Nat):Int)):=by
 show(match (if 0<=i/\0<=j then some (((i.toNat &&& j.toNat:Nat):Int)) else if 0<=i/\j < 0 then some (i - ((i.toNat &&& (-j - 1).toNat:Nat):Int)) else none:Ot Int) with
  |some k=>some (P.int k)
  |none=>none)=_
 rw[if_pos ⟨hi,hj⟩]
@[simp] theorem Zlo:YG .Add (.tup xs) (.tup ys)=if xs.length+ys.length<=Zp then some (.tup (xs++ys)) else none:=by
 show(if Wv .Add=true/\xs.length+ys.length<=Zp then some (P.tup (xs++ys)) else none)=_
 by_cases h:xs.length+ys.length<=Zp
 ·rw[if_pos ⟨rfl,h⟩,if_pos h]
 ·rw[if_neg (fun z=>h z.2),if_neg h]
@[simp] theorem Zlp:YG .Mult (.tup [x]) (.int j)=if j<=1000/\-1000<=j then some (.tup (List.replicate j.toNat x)) else none:=by
 show(if XM .Mult=true then Ze0 [x] j else none)=_
 exact(if_pos (show XM .Mult=true from rfl)).trans rfl
@[simp] theorem Zdd{m':Bool}:YG .Add (.lst m xs) (.lst m' ys)=if xs.length+ys.length<=Zp then some (.lst true (xs++ys)) else none:=by
 show(if Wv .Add=true/\xs.length+ys.length<=Zp then some (P.lst true (xs++ys)) else none)=_
 by_cases h:xs.length+ys.length<=Zp
 ·rw[if_pos ⟨rfl,h⟩,if_pos h]
 ·rw[if_neg (fun z=>h z.2),if_neg h]
@[simp] theorem Zko:YG .Mult (.lst true [x]) (.int j)=if j<=1000/\-1000<=j then some (.lst true (List.replicate j.toNat x)) else none:=by
 show(if XM .Mult=true then ZeZ true [x] j else none)=_
 exact(if_pos (show XM .Mult=true from rfl)).trans rfl
theorem lim_iff:Z1 i=true↔-(2 ^ 64) < i/\i < 2 ^ 64:=by unfold Z1;rw[Ba,decide_eq_true_iff,decide_eq_true_iff]
theorem QN(h:-(2 ^ 64) < i)(h':i < 2 ^ 64):Z1 i=true:=lim_iff.mpr ⟨h,h'⟩
@[simp] theorem ZlE:ZX .Lt (.int i) (.int j)=some (.bl (decide (i < j))):=Eq.trans rfl rfl
@[simp] theorem ZlD:ZX .LtE (.int i) (.int j)=some (.bl (decide (i<=j))):=Eq.trans rfl rfl
@[simp] theorem ZlC:ZX .Gt (.int i) (.int j)=some (.bl (decide (j < i))):=Eq.trans rfl rfl
@[simp] theorem Zis:ZX .GtE (.int i) (.int j)=some (.bl (decide (j<=i))):=Eq.trans rfl rfl
@[simp] theorem WS:ZX .Eq (.int i) (.int j)=some (.bl (decide (i=j))):=Eq.trans rfl rfl
@[simp] theorem Zf2:ZX .NotEq (.int i) (.int j)=some (.bl (!decide (i=j))):=Eq.trans rfl rfl
@[simp] theorem Zlr{s t:Str}:ZX .Eq (.str s) (.str t)=some (.bl (decide (s=t))):=Eq.trans rfl rfl
@[simp] theorem Zls{s t:Str}:ZX .NotEq (.str s) (.str t)=some (.bl (!decide (s=t))):=Eq.trans rfl rfl
@[simp] theorem neg_int:ZcO (.int i)=some (.int (-i)):=Eq.trans rfl rfl
@[simp] theorem Zl0:ZcR (.bl m)=some (.bl (!m)):=Eq.trans rfl rfl
@[simp] theorem Zlu:ZaR (.tup xs)=some (.lst true xs):=Eq.trans rfl rfl
@[simp] theorem Jy:US x (.tup xs)=if xs.length < 1000 then some (.tup (x :: xs)) else none:=Eq.trans rfl rfl
@[simp] theorem J1:Qd (.int i)=some (.int i):=Eq.trans rfl rfl
@[simp] theorem Zlt:JT (.tup xs)=some (.int xs.length):=Eq.trans rfl rfl
@[simp] theorem ZgH:JT (.lst m xs)=some (.int xs.length):=Eq.trans rfl rfl
@[simp] theorem Zj1:We (.lst m xs)=some (.tup xs):=Eq.trans rfl rfl
@[simp] theorem ZkN:Uf (.tup xs)=some (.lst true xs):=Eq.trans rfl rfl
@[simp] theorem int_int:ZlI (.int i)=some (.int i):=Eq.trans rfl rfl
@[simp] theorem ix_tup:ixP (.tup xs) (.int i)=atP xs i:=Eq.trans rfl rfl
@[simp] theorem ZlU:ixP (.lst m xs) (.int i)=atP xs i:=Eq.trans rfl rfl
@[simp] theorem ZlO:QL .int (.int i)=some (.bl true):=Eq.trans rfl rfl
@[simp] theorem ZlN:QL .bool (.int i)=some (.bl false):=Eq.trans rfl rfl
@[simp] theorem ZlQ{s:Str}:QL .str (.str s)=some (.bl true):=Eq.trans rfl rfl
@[simp] theorem ZlP:QL .str (.int i)=some (.bl false):=Eq.trans rfl rfl
@[simp] theorem Js{g:Li P->Ot P}{ds:Li D}:V2 g ds (.tup xs)=(XS ds).bind fun es=>g (xs++es):=by
 show(match XS ds with|some es=>g (xs++es)|none=>none)=_
 cases XS ds<;>rfl
@[simp] theorem Zfi:Wb x (.int i) .non=Yt x (some i) none:=Eq.trans rfl rfl
@[simp] theorem Zfj:Wb x .non (.int j)=Yt x none (some j):=Eq.trans rfl rfl
@[simp] theorem ZcW{l h:Ot Int}:Yt (.lst m xs) l h=some (.lst true (XY xs l h)):=Eq.trans rfl rfl
theorem YW{n:Nat}(h:i=(n:Int)):atP xs i=xs[n]?:=by
 subst h;unfold atP ixN;rw[if_pos (by omega)]
 by_cases hn:(n:Int) < xs.length
 ·rw[if_pos hn];rfl
 ·rw[if_neg hn]
  rw[List.getElem?_eq_none (by omega)]
  rfl
@[simp] theorem Zbh{n:Nat}:atP xs ((n:Nat):Int)=xs[n]?:=YW rfl
@[simp] theorem ZmT:atP xs 2=xs[2]?:=YW rfl
@[simp] theorem ZmU:atP xs 3=xs[3]?:=YW rfl
@[simp] theorem ZmV:atP xs 4=xs[4]?:=YW rfl
@[simp] theorem ZmR:atP xs 0=xs[0]?:=YW rfl
@[simp] theorem ZmS:atP xs 1=xs[1]?:=YW rfl
@[simp] theorem ZmN:atP xs (-1)=xs.getLast?:=by
 unfold atP ixN;rw[if_neg (by omega)]
 cases xs with
 |nil=>rfl
 |cons x xs=>
  rw[if_pos (by simp only[List.length_cons];omega),List.getLast?_eq_getElem?]
  show(x :: xs)[(-1+(((x :: xs).length:Nat):Int)).toNat]?=_;have:(-1+(((x :: xs).length:Nat):Int)).toNat=(x :: xs).length - 1:=by omega
  rw[this]
variable {s t:CS}
noncomputable def Xy(x:Ot PFl)(g:Zr->Ot PFl):Ot PFl:=match x with
 |some (.nx π')=>g π'
 |r=>r
@[simp] theorem Zg{g:PEx}:Xy (some (.nx π)) g=g π:=Eq.trans rfl rfl
@[simp] theorem Zb2{g:PEx}:Xy (some (.rt x)) g=some (.rt x):=Eq.trans rfl rfl
@[simp] theorem Zj0{g:PEx}:Xy none g=none:=Eq.trans rfl rfl
@[simp] theorem Zla{p:Prop}[Decidable p]{u v:Ot PFl}{g:PEx}:Xy (if p then u else v) g=if p then Xy u g else Xy v g:=by split<;>rfl
noncomputable def Zfm(c:Ot P)(x y:Ot PFl):Ot PFl:=match c with
 |some (.bl true)=>x
 |some (.bl false)=>y
 |_=>none
@[simp] theorem Yb{k:Bool}{x y:Ot PFl}:Zfm (some (.bl k)) x y=if k=true then x else y:=by cases k<;>rfl
@[simp] theorem Zu:px F M .skip π=some (.nx π):=Eq.trans rfl rfl
@[simp] theorem Zi:px F M (.seq s t) π=Xy (px F M s π) (px F M t):=by
 show VE _ _ π=_;unfold VE Xy;rfl
@[simp] theorem Vo:px F M (.ret a) π=(pe F a π).bind fun d=>some (.rt d):=by
 show ZeR _ π=_;unfold ZeR;cases pe F a π<;>rfl
@[simp] theorem YN:px F M (.ite c s t) π=Zfm (pe F c π) (px F M s π) (px F M t π):=by
 show ZeM _ _ _ π=_;unfold ZeM Zfm;rfl
@[simp] theorem Zm{o:Ot P}:Zo (o :: π) 0 x=some x :: π:=rfl
@[simp] theorem Zl{o:Ot P}{k:Nat}:Zo (o :: π) (k+1) x=o :: Zo π k x:=rfl
theorem ZfK{a b:Bool}(ha:a=true)(hb:b=true):(a&&b)=true:=by rw[ha,hb];rfl
theorem ZfJ{l:Li Nat}:(l.all fun i=>!([]:Li Nat).contains i)=true:=by
 induction l with
 |nil=>rfl
 |cons a l ih=>exact ih
theorem ZgP:∀ e:CE,noM [] e=true:=by
 intro e
 induction e<;>first|rfl|assumption | (show(_&&_)=true;exact ZfK (by assumption) (by assumption)) | (show(_&&(_&&_))=true;exact ZfK (by assumption) (ZfK (by assumption) (by assumption))) | (show(_&&_)=true;exact ZfK (by assumption) ZfJ)
theorem Ue{e:CE}:Zv [] e x=true:=by unfold Zv;rw[ZgP];rfl
@[simp] theorem Xf{k:Nat}:px F [] (.set k a) π=(pe F a π).bind fun p=>some (.nx (Zo π k p)):=by
 show ZaW _ _ _ _ π=_;unfold ZaW;cases pe F a π with
 |none=>rfl
 |some p=>simp[Ue]
theorem Q0{k:Nat}:px F M (.set k a) π=(pe F a π).bind fun p=>if (if M.contains k then Xe M a p else Zv M a p||Xe M a p) then some (.nx (Zo π k p)) else mvP M k a p π:=by
 show ZaW _ _ _ _ π=_;unfold ZaW;cases pe F a π<;>rfl
theorem Zg1{k l q:Nat}{z:P}(h:pe F a π=some (.tup [x,y,z]))(hw:(!M.contains k&&!M.contains l&&!M.contains q&&Zv M a (.tup [x,y,z]))=true):px F M (.set3 k l q a) π=some (.nx (Zo (Zo (Zo π k x) l y) q z)):=by
 show J6 _ _ _ _ _ _ π=_;unfold J6;rw[h];show(if (!M.contains k&&!M.contains l&&!M.contains q&&Zv M a (.tup [x,y,z]))=true then some (PFl.nx (Zo (Zo (Zo π k x) l y) q z)) else none)=_
 rw[if_pos hw]
theorem Zjb{p:P}(h:pe F a π=some p)(hw:Zv M a p=true):px F M (.act a) π=some (.nx π):=by
 show ZeD _ _ _ π=_;unfold ZeD;rw[h];show(if Zv M a p=true then some (PFl.nx π) else none)=_
 rw[if_pos hw]
theorem ZL{k:Nat}{p:P}(h:pe F a π=some p)(hm:M.contains k=false)(hk:Zv M a p=true):px F M (.set k a) π=some (.nx (Zo π k p)):=by
 rw[Q0,h,Ob,hm,if_neg Bf,hk,Bool.true_or,if_pos rfl]
theorem XJ{k:Nat}{p:P}(h:pe F a π=some p)(hm:M.contains k=true)(hk:Xe M a p=true):px F M (.set k a) π=some (.nx (Zo π k p)):=by
 rw[Q0,h,Ob,hm,if_pos rfl,if_pos hk]
theorem ZaY{k:Nat}(h:π[k]?=some (some (.lst true xs))):px F M (.app k a) π=(pe F a π).bind fun p=>if M.contains k&&Zv M a p&&decide (xs.length < Zp) then some (.nx (Zo π k (.lst true (xs++[p])))) else none:=by
 show ZeG _ _ _ _ π=_;unfold ZeG;rw[h];cases pe F a π<;>rfl
theorem Zjc{k:Nat}(h:π[k]?=some (some (.lst true xs)))(he:pe F a π=some (.lst true ys))(hw:(M.contains k&&noM M a)=true)(hz:xs.length+ys.length<=Zp):px F M (.ext k a) π=some (.nx (Zo π k (.lst true (xs++ys)))):=by
 show ZeL _ _ _ _ π=_;unfold ZeL;simp only[h,he];rw[if_pos (by rw[Ba];exact⟨hw,decide_eq_true hz⟩)]
theorem ZeW{k:Nat}(h:π[k]?=some (some (.lst true xs))){q:Nat}{j:Int}(hk:pe F b π=some (.int j))(hq:ixN xs.length j=some q):px F M (.put k b a) π=(pe F a π).bind fun p=>if M.contains k&&Zv M a p then some (.nx (Zo π k (.lst true (xs.set q p)))) else none:=by
 show ZeP _ _ _ _ _ π=_;unfold ZeP;cases pe F a π with
 |none=>rfl
 |some p=>
  simp only[h,hk,hq];rfl
theorem ZbS{k:Nat}(h:pe F it π=some (.lst m xs))(hw:!M.contains k&&Uz M (Yc s) it xs=true):px F M (.for1 k false it s) π=ZB (fun d π=>px F M s (Zo π k d)) xs π:=by
 show QZ _ _ _ _ _ _ _ π=_;unfold QZ;rw[h];show(if !M.contains k&&Uz M (Yc s) it xs then ZB (fun d π=>px F M s (Zo π k d)) xs π else none)=_
 rw[if_pos (by simpa using hw)]
theorem ZbU{k:Nat}(h:pe F it π=some (.tup xs))(hw:!M.contains k&&Zv M it (.tup xs)=true):px F M (.for1 k false it s) π=ZB (fun d π=>px F M s (Zo π k d)) xs π:=by
 show QZ _ _ _ _ _ _ _ π=_;unfold QZ;rw[h];show(if !M.contains k&&(false||Zv M it (.tup xs)) then ZB (fun d π=>px F M s (Zo π k d)) xs π else none)=_
 rw[if_pos (by simpa using hw)]
theorem ZbT{k:Nat}{n:Int}(h:pe F it π=some (.int n))(h1:n < 2 ^ 62)(h2:-(2 ^ 62)<=n)(hw:M.contains k=false):px F M (.for1 k true it s) π=ZB (fun d π=>px F M s (Zo π k d)) (ZO n) π:=by
 show QZ _ _ _ _ _ _ _ π=_;unfold QZ;rw[h];have e:Ud true (.int n)=some (ZO n):=by
  show(if n < 2 ^ 62/\-(2 ^ 62)<=n then some (ZO n) else none)=_
  rw[if_pos ⟨h1,h2⟩]
 simp only[e];rw[if_pos (by simpa using hw)]
theorem Zg0{k l:Nat}{m':Bool}(h:pe F it π=some (.tup [.lst m xs,.lst m' ys]))(hw:(!M.contains k&&!M.contains l&&noM M it)=true):px F M (.forP k l it s) π=Yu (fun x y π=>px F M s (Zo (Zo π k x) l y)) (xs.zip ys) π:=by
 show J5 _ _ _ _ _ _ π=_;unfold J5;rw[h];show(if (!M.contains k&&!M.contains l&&noM M it)=true then _ else _)=_
 rw[if_pos hw]
theorem ZbR{k l:Nat}{x:P}(h:pe F it π=some x)(hx:Zfv x=some xs)(hw:(!M.contains k&&!M.contains l&&noM M it)=true):px F M (.forE k l it s) π=Yu (fun x y π=>px F M s (Zo (Zo π k x) l y)) (Wa 0 xs) π:=by
 show J4 _ _ _ _ _ _ π=_;unfold J4;rw[h];dsimp only;rw[hx];show(if (!M.contains k&&!M.contains l&&noM M it)=true then _ else _)=_
 rw[if_pos hw]
theorem Zeb{a b:Int}:WZ (.tup [.int a,.int b])=if Y4 a b 1=true then some (Y9 a b 1) else none:=rfl
theorem ZgZ{k:Nat}{zs:Li Int}{p:P}(h:pe F it π=some p)(hz:WZ p=some zs)(hw:M.contains k=false):px F M (.for3 k it s) π=ZB (fun d π=>px F M s (Zo π k d)) (zs.map P.int) π:=by
 show J2 _ _ _ _ π=_;unfold J2;rw[h];simp only[hz];rw[if_pos (by simpa using hw)]
theorem ZbQ{k l m':Nat}(h:pe F it π=some (.tup xs))(hw:!M.contains k&&!M.contains l&&!M.contains m'&&Zv M it (.tup xs)=true):px F M (.for4 k l m' it s) π=ZB (UJ k l m' (px F M s)) xs π:=by
 show J3 _ _ _ _ _ _ _ π=_;unfold J3;rw[h];show(if !M.contains k&&!M.contains l&&!M.contains m'&&Zv M it (.tup xs) then ZB (UJ k l m' (px F M s)) xs π else none)=_
 rw[if_pos (by simpa using hw)]
noncomputable def Uy(x:Ot PFl)(g:Zr->Ot PFl):Ot PFl:=match x with
 |some (.nx π')=>g π'
 |some (.ct π')=>g π'
 |some (.bk π')=>some (.nx π')
 |some (.rt v)=>some (.rt v)
 |none=>none
@[simp] theorem Yd{g:PEx}:Uy (some (.nx π)) g=g π:=Eq.trans rfl rfl
@[simp] theorem Zlz{g:PEx}:Uy (some (.rt x)) g=some (.rt x):=Eq.trans rfl rfl
theorem X6{B:P->Zr->Ot PFl}:ZB B [] π=some (.nx π):=Eq.trans rfl rfl
theorem ZF{B:P->Zr->Ot PFl}:ZB B (x :: xs) π=Uy (B x π) (ZB B xs):=by
 show(match B x π with
  |some (.nx π')=>ZB B xs π'
  |some (.ct π')=>ZB B xs π'
  |some (.bk π')=>some (.nx π')
  |some (.rt v)=>some (.rt v)
  |none=>none)=_
 unfold Uy;rfl
theorem mem_range{n:Int}{p:P}(h:p∈ZO n):∃ k:Nat,p=.int (k:Int)/\(k:Int) < n:=by
 obtain⟨k,hk,rfl⟩:=List.mem_map.mp h;exact⟨k,rfl,by have:=List.mem_range.mp hk;omega⟩
noncomputable def Yn(x:Ot PFl):Ot P:=match x with
 |some (.rt d)=>some d
 |some (.nx _)=>some .non
 |_=>none
@[simp] theorem ZmH:Yn (some (.rt x))=some x:=Eq.trans rfl rfl
@[simp] theorem Zk4:Yn none=none:=Eq.trans rfl rfl
@[simp] theorem Zly{p:Prop}[Decidable p]{u v:Ot PFl}:Yn (if p then u else v)=if p then Yn u else Yn v:=by split<;>rfl
theorem ZiD{f:FD}{ds:Li P}(hl:ds.length=f.ps)(hM:(ZC f.body).all (fun i=>decide (f.ps<=i))=true):fnP F f ds=Yn (px F (ZC f.body) f.body (ds.map some++List.replicate (f.ns - ds.length) none)):=by
 unfold fnP;rw[if_pos ⟨hl,hM⟩];rfl
theorem Zk{T:Nat->Ot FD}{n k:Nat}{f:FD}{ds:Li P}(h:T k=some f)(hl:ds.length=f.ps)(hM:(ZC f.body).all (fun i=>decide (f.ps<=i))=true)(hN:(Ub k&&!Uk f)=false:=by rfl)(hW:(k==16&&(T 999).isSome)=false:=by rfl) :
  Zc T (n+1) k ds=Yn (px (Zc T n) (ZC f.body) f.body (ds.map some++List.replicate (f.ns - ds.length) none)):=by
 have:Zc T (n+1) k=fnP (Zc T n) f:=by rw[Vn h,if_neg (by rw[hN];exact Bf),if_neg (by rw[hW];exact Bf)]
 rw[this];exact ZiD hl hM
theorem ZeS{T:Nat->Ot FD}{n:Nat}{f:FD}{ds:Li P}(h:T 16=some f)(hl:ds.length=f.ps)(hM:(ZC f.body).all (fun i=>decide (f.ps<=i))=true)(hW:(T 999).isSome=true) :
  Zc T (n+1) 16 ds=Yn (W5 (Zc T n) f.body (ZC f.body) (ds.map some++List.replicate (f.ns - ds.length) none)):=by
 rw[Vn h,if_neg (by exact Bf),if_pos (by rw[hW];rfl)]
 unfold fnT;rw[if_pos ⟨hl,hM⟩];rfl
section
variable {F:PFn}{M:Li Nat}{π π':Zr}{a b:CS}{c:CE}{v:P}
theorem YY(h:px F M a π=some (.nx π')):W5 F (.seq a b) M π=W5 F b (shr M b) π':=by
 show VE (px F M a) (W5 F b (shr M b)) π=_;unfold VE;rw[h]
end
theorem YT{f c:P->Ot P}{p:P->Bool}{g:P->P}:∀ {xs:Li P},(∀ x∈xs,c x=some (.bl (p x)))->(∀ x∈xs,p x=true->f x=some (g x))->Ye f c xs=some ((xs.filter p).map g)
 |[],_,_=>rfl
 |x :: xs,hc,hf=>by
  have h1:=hc x Ls;have ih:=YT (fun y hy=>hc y (Lm _ hy)) (fun y hy=>hf y (Lm _ hy))
  unfold Ye;rw[h1];cases q:p x with
  |true=>
   have h2:=hf x Ls q;simp only[h2,ih,List.filter_cons,q,if_true,List.map_cons]
  |false=>
   simp only[ih,List.filter_cons,q,Bool.false_eq_true,if_false]
theorem Zds{f c:P->Ot P}{g:P->P}{xs:Li P}(hc:∀ x∈xs,c x=some (.bl true))(hf:∀ x∈xs,f x=some (g x)):Ye f c xs=some (xs.map g):=by
 rw[YT (p:=fun _=>true) hc (fun x hx _=>hf x hx)]
 rw[List.filter_eq_self.mpr (fun _ _=>rfl)]
theorem ZjY{xs:Li P}:YF false (.tup xs)=some xs:=rfl
theorem UA{m:Bool}{xs:Li P}:YF false (.lst m xs)=some xs:=rfl
theorem ZcJ{n:Int}(h1:n < 2 ^ 62)(h2:-(2 ^ 62)<=n):YF true (.int n)=some (ZO n):=by
 have e:Ud true (.int n)=some (ZO n):=by
  show(if n < 2 ^ 62/\-(2 ^ 62)<=n then some (ZO n) else none)=_
  rw[if_pos ⟨h1,h2⟩]
 unfold YF;rw[e]
theorem ZaK{n:Nat}(h:n<=100000):YF true (.int (n:Int))=some (ZO (n:Int)):=
 ZcJ (Int.lt_of_le_of_lt (Int.ofNat_le.mpr h) (by decide)) (Int.le_trans (by decide) (Int.natCast_nonneg n))
@[simp] theorem Zf1{k:Int}{xs:Li P}:ZX .In (.int k) (.tup xs)=(inP k xs).map .bl:=Eq.trans rfl rfl
@[simp] theorem Zf3{k:Int}{xs:Li P}:ZX .NotIn (.int k) (.tup xs)=((inP k xs).map not).map .bl:=Eq.trans rfl rfl
@[simp] theorem Zit{k:Int}{m:Bool}{xs:Li P}:ZX .In (.int k) (.lst m xs)=(inP k xs).map .bl:=Eq.trans rfl rfl
theorem Zby{k:Int}:∀ {ks:Li Int},inP k (ks.map P.int)=some (decide (k∈ks))
 |[]=>by simp[inP]
 |a :: ks=>by
  show(inP k (ks.map P.int)).map _=_;rw[Zby];simp only[Option.map_some,List.mem_cons]
  congr 1
  by_cases h:a=k
  ·simp[h]
  ·have:¬k=a:=fun z=>h z.symm
   simp[h,this]
theorem U8{B:P->Zr->Ot PFl}{I:Nat->Zr->Prop}:∀ (j k:Nat),(∀ i,k<=i->i < k+j->∀ π,I i π->∃ π',B (.int (i:Int)) π=some (.nx π')/\I (i+1) π')->∀ π,I k π->∃ π',ZB B ((List.range' k j).map fun(i:Nat)=>P.int (i:Int)) π=some (.nx π')/\I (k+j) π'
 |0,k,_,π,h=>⟨π,rfl,h⟩
 |j+1,k,hb,π,h=>by
  obtain⟨π1,e1,i1⟩:=hb k (Nat.le_refl _) (by omega) π h
  obtain⟨π2,e2,i2⟩:=U8 j (k+1) (fun i h1 h2=>hb i (by omega) (by omega)) π1 i1
  refine⟨π2,?_,by rw[show k+(j+1)=k+1+j by omega];exact i2⟩
  rw[List.range'_succ,List.map_cons,ZF,e1];exact e2
theorem XI{B:P->Zr->Ot PFl}(I:Nat->Zr->Prop){m:Nat}(hb:∀ i,i < m->∀ π,I i π->∃ π',B (.int (i:Int)) π=some (.nx π')/\I (i+1) π'){π:Zr}(h:I 0 π):∃ π',ZB B (ZO (m:Int)) π=some (.nx π')/\I m π':=by
 have:=U8 (B:=B) (I:=I) m 0 (fun i _ h2=>hb i (by omega)) π h
 rw[Nat.zero_add]at this;have e:ZO (m:Int)=(List.range' 0 m).map fun(i:Nat)=>P.int (i:Int):=by
  unfold ZO;rw[show((m:Int)).toNat=m by omega,List.range_eq_range']
 rw[e];exact this
theorem Wn{k:Nat}{n:Nat}(h:pe F it π=some (.int (n:Int)))(h1:n<=100000)(hw:M.contains k=false):px F M (.for1 k true it s) π=ZB (fun d π=>px F M s (Zo π k d)) (ZO (n:Int)) π:=
 ZbT h (Int.lt_of_le_of_lt (Int.ofNat_le.mpr h1) (by decide)) (Int.le_trans (by decide) (Int.natCast_nonneg n)) hw
theorem ZgY:∀ i:Nat,i<=60->Z1 ((2:Int) ^ i)=true:=by decide
mutual
theorem Zch:∀ {n:Nat}{x:P},okP n x=true->WM x x=true
 |_,.non,_=>rfl
 |_,.bl a,_=>by simp[WM]
 |_,.int a,_=>by simp[WM]
 |_,.str a,_=>by simp[WM]
 |0,.tup a,h=>by simp[okP]at h
 |n+1,.tup a,h=>VX (n:=n) (x:=a) h
 |_,.lst a b,h=>by simp[okP]at h
 |_,.dct a b,h=>by simp[okP]at h
 |_,.obj a,h=>by simp[okP]at h
 |_,.kt a,h=>by simp[okP]at h
theorem VX:∀ {n:Nat}{x:Li P},JZ n x=true->XU x x=true
 |_,[],_=>rfl
 |n,a :: x,h=>by
  have h:(okP n a&&JZ n x)=true:=h;rw[Ba]at h;show(WM a a&&XU x x)=true;rw[Zch h.1,VX h.2];rfl
end
@[simp] theorem Jw{m m':Bool}{xs:Li P}:ZX .Eq (.lst m xs) (.lst m' [])=some (.bl xs.isEmpty):=by
 cases xs<;>rfl
end
end Dp


namespace Dp
open PySem
noncomputable def c_around:FD:=⟨1,1,(.seq (.ret (.bin .Sub (.bin .Mod (.bin .Add (.var 0) (.cst (.int 1000000000))) (.cst (.int 2000000000))) (.cst (.int 1000000000))))
 .skip)⟩
noncomputable def c__law_whole:FD:=⟨1,1,(.seq (.ret (.and (.isi .int (.var 0)) (.not (.isi .bool (.var 0)))))
 .skip)⟩
noncomputable def c_divided:FD:=⟨2,2,(.seq (.ite (.cmp .Eq (.var 1) (.cst (.int 0))) (.seq (.ret (.cst (.int 0)))
 .skip) .skip)
 (.seq (.ret (.call 0 (.aC (.bin .FloorDiv (.var 0) (.var 1)) .aN) []))
 .skip))⟩
noncomputable def c_left_over:FD:=⟨2,2,(.seq (.ite (.cmp .Eq (.var 1) (.cst (.int 0))) (.seq (.ret (.var 0))
 .skip) .skip)
 (.seq (.ret (.bin .Sub (.var 0) (.bin .Mult (.var 1) (.bin .FloorDiv (.var 0) (.var 1)))))
 .skip))⟩
noncomputable def c_reckon:FD:=⟨3,3,(.seq (.ite (.cmp .Eq (.var 1) (.cst (.str (S "+")))) (.seq (.ret (.call 0 (.aC (.bin .Add (.var 0) (.var 2)) .aN) []))
 .skip) .skip)
 (.seq (.ite (.cmp .Eq (.var 1) (.cst (.str (S "-")))) (.seq (.ret (.call 0 (.aC (.bin .Sub (.var 0) (.var 2)) .aN) []))
 .skip) .skip)
 (.seq (.ite (.cmp .Eq (.var 1) (.cst (.str (S "*")))) (.seq (.ret (.call 0 (.aC (.bin .Mult (.var 0) (.var 2)) .aN) []))
 .skip) .skip)
 (.seq (.ite (.cmp .Eq (.var 1) (.cst (.str (S "/")))) (.seq (.ret (.call 1 (.aC (.var 0) (.aC (.var 2) .aN)) []))
 .skip) .skip)
 (.seq (.ret (.call 2 (.aC (.var 0) (.aC (.var 2) .aN)) []))
 .skip)))))⟩
noncomputable def Zc3:FD:=⟨1,2,(.seq (.set 1 (.lstE (.aC (.neg (.cst (.int 1000000000))) (.aC (.neg (.cst (.int 999999999))) (.aC (.neg (.cst (.int 2))) (.aC (.neg (.cst (.int 1))) (.aC (.cst (.int 0)) (.aC (.cst (.int 1)) (.aC (.cst (.int 2)) (.aC (.cst (.int 999999999)) .aN))))))))))
 (.seq (.ite (.cmp .Eq (.bin .Mod (.var 0) (.cst (.int 3))) (.cst (.int 0))) (.seq (.ret (.ix (.var 1) (.bin .Mod (.bin .FloorDiv (.var 0) (.cst (.int 3))) (.cst (.int 8)))))
 .skip) .skip)
 (.seq (.ite (.cmp .Eq (.bin .Mod (.var 0) (.cst (.int 3))) (.cst (.int 1))) (.seq (.ret (.bin .Sub (.bin .Mod (.bin .FloorDiv (.var 0) (.cst (.int 3))) (.cst (.int 13))) (.cst (.int 6))))
 .skip) .skip)
 (.seq (.ret (.bin .Sub (.bin .Mod (.bin .Mult (.bin .FloorDiv (.var 0) (.cst (.int 3))) (.cst (.int 48271))) (.cst (.int 2000000000))) (.cst (.int 1000000000))))
 .skip))))⟩
noncomputable def ZfX:FD:=⟨1,1,(.seq (.ret (.and (.call 17 (.aC (.var 0) .aN) []) (.and (.cmp .LtE (.neg (.cst (.int 1000000000))) (.var 0)) (.cmp .LtE (.var 0) (.cst (.int 999999999))))))
 .skip)⟩
noncomputable def Zdm:FD:=⟨2,2,(.seq (.ite (.cmp .Gt (.var 1) (.cst (.int 0))) (.seq (.ret (.and (.cmp .LtE (.cst (.int 0)) (.var 0)) (.cmp .Lt (.var 0) (.var 1))))
 .skip) .skip)
 (.seq (.ret (.and (.cmp .Lt (.var 1) (.var 0)) (.cmp .LtE (.var 0) (.cst (.int 0)))))
 .skip))⟩
noncomputable def c_replaced:FD:=⟨3,3,(.seq (.ret (.bin .Add (.bin .Add (.slice (.var 0) .nop (.part (.var 1))) (.tupE (.aC (.var 2) .aN))) (.slice (.var 0) (.part (.bin .Add (.var 1) (.cst (.int 1)))) .nop)))
 .skip)⟩
noncomputable def c_is_so:FD:=⟨3,3,(.seq (.ite (.cmp .Eq (.var 1) (.cst (.str (S "<")))) (.seq (.ret (.cmp .Lt (.var 0) (.var 2)))
 .skip) .skip)
 (.seq (.ite (.cmp .Eq (.var 1) (.cst (.str (S "<=")))) (.seq (.ret (.cmp .LtE (.var 0) (.var 2)))
 .skip) .skip)
 (.seq (.ite (.cmp .Eq (.var 1) (.cst (.str (S "=")))) (.seq (.ret (.cmp .Eq (.var 0) (.var 2)))
 .skip) .skip)
 (.seq (.ite (.cmp .Eq (.var 1) (.cst (.str (S ">=")))) (.seq (.ret (.cmp .GtE (.var 0) (.var 2)))
 .skip) .skip)
 (.seq (.ite (.cmp .Eq (.var 1) (.cst (.str (S ">")))) (.seq (.ret (.cmp .Gt (.var 0) (.var 2)))
 .skip) .skip)
 (.seq (.ret (.cmp .NotEq (.var 0) (.var 2)))
 .skip))))))⟩
noncomputable def c_worth:FD:=⟨2,2,(.seq (.ite (.cmp .Eq (.ix (.var 0) (.cst (.int 0))) (.cst (.str (S "name")))) (.seq (.ret (.ix (.var 1) (.ix (.var 0) (.cst (.int 1)))))
 .skip) .skip)
 (.seq (.ret (.ix (.var 0) (.cst (.int 1))))
 .skip))⟩
noncomputable def c_at_end:FD:=⟨2,2,(.seq (.ret (.cmp .GtE (.ix (.var 1) (.cst (.int 0))) (.len (.ix (.var 0) (.cst (.int 2))))))
 .skip)⟩
noncomputable def c_values_behind:FD:=⟨2,3,(.seq (.ite (.cmp .NotEq (.ix (.var 0) (.cst (.int 0))) (.cst (.str (S "put")))) (.seq (.ret (.var 1))
 .skip) .skip)
 (.seq (.set 2 (.call 3 (.aC (.call 5 (.aC (.ix (.var 0) (.cst (.int 2))) (.aC (.var 1) .aN)) []) (.aC (.ix (.var 0) (.cst (.int 3))) (.aC (.call 5 (.aC (.ix (.var 0) (.cst (.int 4))) (.aC (.var 1) .aN)) []) .aN))) []))
 (.seq (.ret (.call 42 (.aC (.var 1) (.aC (.ix (.var 0) (.cst (.int 1))) (.aC (.var 2) .aN))) []))
 .skip)))⟩
noncomputable def c_place_behind:FD:=⟨3,3,(.seq (.ite (.cmp .Eq (.ix (.var 0) (.cst (.int 0))) (.cst (.str (S "go")))) (.seq (.ret (.ix (.var 0) (.cst (.int 1))))
 .skip) .skip)
 (.seq (.ite (.and (.cmp .Eq (.ix (.var 0) (.cst (.int 0))) (.cst (.str (S "if")))) (.call 4 (.aC (.call 5 (.aC (.ix (.var 0) (.cst (.int 1))) (.aC (.var 2) .aN)) []) (.aC (.ix (.var 0) (.cst (.int 2))) (.aC (.call 5 (.aC (.ix (.var 0) (.cst (.int 3))) (.aC (.var 2) .aN)) []) .aN))) [])) (.seq (.ret (.ix (.var 0) (.cst (.int 4))))
 .skip) .skip)
 (.seq (.ret (.bin .Add (.var 1) (.cst (.int 1))))
 .skip)))⟩
noncomputable def c_moved:FD:=⟨2,5,(.seq (.ite (.call 7 (.aC (.var 0) (.aC (.var 1) .aN)) []) (.seq (.ret (.tupE (.aC (.cst (.str (S "none"))) .aN)))
 .skip) .skip)
 (.seq (.set 2 (.ix (.var 1) (.cst (.int 0))))
 (.seq (.set 3 (.ix (.var 1) (.cst (.int 1))))
 (.seq (.set 4 (.ix (.ix (.var 0) (.cst (.int 2))) (.var 2)))
 (.seq (.ite (.cmp .Eq (.ix (.var 4) (.cst (.int 0))) (.cst (.str (S "tell")))) (.seq (.ret (.tupE (.aC (.cst (.str (S "told"))) (.aC (.call 5 (.aC (.ix (.var 4) (.cst (.int 1))) (.aC (.var 3) .aN)) []) .aN))))
 .skip) .skip)
 (.seq (.ret (.tupE (.aC (.call 9 (.aC (.var 4) (.aC (.var 2) (.aC (.var 3) .aN))) []) (.aC (.call 8 (.aC (.var 4) (.aC (.var 3) .aN)) []) .aN))))
 .skip))))))⟩
noncomputable def c__law_worth:FD:=⟨2,2,(.seq (.ite (.cmp .Eq (.ix (.var 0) (.cst (.int 0))) (.cst (.str (S "name")))) (.seq (.ret (.ix (.var 1) (.ix (.var 0) (.cst (.int 1)))))
 .skip) .skip)
 (.seq (.ret (.ix (.var 0) (.cst (.int 1))))
 .skip))⟩
noncomputable def XB:CS:=(.seq (.set 1 (.bin .Mult (.var 1) (.cst (.int 2))))
 .skip)
noncomputable def c_bit_of:FD:=⟨1,3,(.seq (.set 1 (.cst (.int 1)))
 (.seq (.for1 2 true (.var 0) XB)
 (.seq (.ret (.var 1))
 .skip)))⟩
noncomputable def c_began:FD:=⟨2,2,(.seq (.ret (.tupE (.aC (.cst (.int 0)) (.aC (.bin .Add (.var 1) (.bin .Mult (.tupE (.aC (.cst (.int 0)) .aN)) (.bin .Sub (.ix (.var 0) (.cst (.int 1))) (.len (.var 1))))) .aN))))
 .skip)⟩
noncomputable def c_is_outcome:FD:=⟨1,1,(.seq (.ret (.isi .str (.ix (.var 0) (.cst (.int 0)))))
 .skip)⟩
noncomputable def Y5:CS:=(.seq (.set 6 (.call 10 (.aC (.var 0) (.aC (.var 3) .aN)) []))
 (.seq (.app 4 (.var 6))
 (.seq (.ite (.call 11 (.aC (.var 6) .aN) []) (.seq (.ret (.tOf (.var 4)))
 .skip) .skip)
 (.seq (.set 3 (.var 6))
 .skip))))
noncomputable def c_trail:FD:=⟨3,7,(.seq (.set 3 (.call 6 (.aC (.var 0) (.aC (.var 1) .aN)) []))
 (.seq (.set 4 (.lstE (.aC (.var 3) .aN)))
 (.seq (.for1 5 true (.var 2) Y5)
 (.seq (.app 4 (.ife (.call 7 (.aC (.var 0) (.aC (.var 3) .aN)) []) (.tupE (.aC (.cst (.str (S "none"))) .aN)) (.tupE (.aC (.cst (.str (S "late"))) .aN))))
 (.seq (.ret (.tOf (.var 4)))
 .skip)))))⟩
noncomputable def c_outcome:FD:=⟨3,3,(.seq (.ret (.ix (.call 12 (.aC (.var 0) (.aC (.var 1) (.aC (.var 2) .aN))) []) (.neg (.cst (.int 1)))))
 .skip)⟩
noncomputable def VB:CE:=(.comp false [] (.var 1) (.ix (.var 0) (.cst (.int 0))) (.cst (.bl true)))
noncomputable def UG:FD:=⟨1,2,(.seq (.set 1 (.slice (.var 0) .nop (.part (.neg (.cst (.int 1))))))
 (.seq (.ite (.cmp .NotEq (.ix (.ix (.var 0) (.neg (.cst (.int 1)))) (.cst (.int 0))) (.cst (.str (S "told")))) (.seq (.set 1 (.slice (.var 1) .nop (.part (.neg (.cst (.int 1))))))
 .skip) .skip)
 (.seq (.ret VB)
 .skip)))⟩
noncomputable def Jm:CS:=(.seq (.set 1 (.bin .BitOr (.var 1) (.call 43 (.aC (.var 2) .aN) [])))
 .skip)
noncomputable def Zcm:FD:=⟨1,3,(.seq (.set 1 (.cst (.int 0)))
 (.seq (.for1 2 false (.call 14 (.aC (.var 0) .aN) []) Jm)
 (.seq (.ret (.var 1))
 .skip)))⟩
noncomputable def Zip:FD:=⟨3,3,(.seq (.ret (.call 44 (.aC (.call 12 (.aC (.var 0) (.aC (.var 1) (.aC (.var 2) .aN))) []) .aN) []))
 .skip)⟩
noncomputable def UF:FD:=⟨2,2,(.seq (.ret (.and (.cmp .Eq (.ix (.var 0) (.cst (.int 0))) (.cst (.str (S "number")))) (.cmp .Eq (.ix (.var 1) (.cst (.int 0))) (.cst (.str (S "number"))))))
 .skip)⟩
noncomputable def V0:FD:=⟨3,3,(.seq (.ite (.cmp .Lt (.ix (.var 0) (.var 2)) (.ix (.var 0) (.var 1))) (.seq (.ret (.call 42 (.aC (.call 42 (.aC (.var 0) (.aC (.var 1) (.aC (.ix (.var 0) (.var 2)) .aN))) []) (.aC (.var 2) (.aC (.ix (.var 0) (.var 1)) .aN))) []))
 .skip) .skip)
 (.seq (.ret (.var 0))
 .skip))⟩
noncomputable def VZ:FD:=⟨1,1,(.seq (.ite (.and (.cmp .Eq (.ix (.var 0) (.cst (.int 3))) (.cst (.str (S "-")))) (.cmp .Eq (.ix (.ix (.var 0) (.cst (.int 4))) (.cst (.int 0))) (.cst (.str (S "number"))))) (.seq (.ret (.bin .Add (.slice (.var 0) .nop (.part (.cst (.int 3)))) (.tupE (.aC (.cst (.str (S "+"))) (.aC (.tupE (.aC (.cst (.str (S "number"))) (.aC (.call 0 (.aC (.neg (.ix (.ix (.var 0) (.cst (.int 4))) (.cst (.int 1)))) .aN) []) .aN))) .aN)))))
 .skip) .skip)
 (.seq (.ret (.var 0))
 .skip))⟩
noncomputable def Wq:FD:=⟨1,4,(.seq (.set 1 (.ix (.var 0) (.cst (.int 2))))
 (.seq (.set 2 (.ix (.var 0) (.cst (.int 3))))
 (.seq (.set 3 (.ix (.var 0) (.cst (.int 4))))
 (.seq (.ite (.or (.and (.cmp .Eq (.var 2) (.cst (.str (S "*")))) (.cmp .Eq (.var 3) (.cst (.tup [(.str (S "number")),(.int 0)])))) (.or (.and (.cmp .Eq (.var 2) (.cst (.str (S "mod")))) (.cmp .Eq (.var 3) (.cst (.tup [(.str (S "number")),(.int 1)])))) (.and (.cmp .Eq (.var 2) (.cst (.str (S "-")))) (.cmp .Eq (.var 1) (.var 3))))) (.seq (.ret (.tupE (.aC (.cst (.str (S "put"))) (.aC (.ix (.var 0) (.cst (.int 1))) (.aC (.cst (.tup [(.str (S "number")),(.int 0)])) (.aC (.cst (.str (S "+"))) (.aC (.cst (.tup [(.str (S "number")),(.int 0)])) .aN)))))))
 .skip) .skip)
 (.seq (.ite (.and (.cmp .In (.var 2) (.tupE (.aC (.cst (.str (S "*"))) (.aC (.cst (.str (S "/"))) .aN)))) (.cmp .Eq (.var 3) (.cst (.tup [(.str (S "number")),(.int 1)])))) (.seq (.ret (.tupE (.aC (.cst (.str (S "put"))) (.aC (.ix (.var 0) (.cst (.int 1))) (.aC (.var 1) (.aC (.cst (.str (S "+"))) (.aC (.cst (.tup [(.str (S "number")),(.int 0)])) .aN)))))))
 .skip) .skip)
 (.seq (.ret (.var 0))
 .skip))))))⟩
noncomputable def Zax:FD:=⟨1,1,(.seq (.ite (.call 73 (.aC (.ix (.var 0) (.cst (.int 2))) (.aC (.ix (.var 0) (.cst (.int 4))) .aN)) []) (.seq (.ret (.tupE (.aC (.cst (.str (S "put"))) (.aC (.ix (.var 0) (.cst (.int 1))) (.aC (.tupE (.aC (.cst (.str (S "number"))) (.aC (.call 3 (.aC (.ix (.ix (.var 0) (.cst (.int 2))) (.cst (.int 1))) (.aC (.ix (.var 0) (.cst (.int 3))) (.aC (.ix (.ix (.var 0) (.cst (.int 4))) (.cst (.int 1))) .aN))) []) .aN))) (.aC (.cst (.str (S "+"))) (.aC (.cst (.tup [(.str (S "number")),(.int 0)])) .aN)))))))
 .skip) .skip)
 (.seq (.set 0 (.call 75 (.aC (.var 0) .aN) []))
 (.seq (.ite (.cmp .In (.ix (.var 0) (.cst (.int 3))) (.tupE (.aC (.cst (.str (S "+"))) (.aC (.cst (.str (S "*"))) .aN)))) (.seq (.set 0 (.call 74 (.aC (.var 0) (.aC (.cst (.int 2)) (.aC (.cst (.int 4)) .aN))) []))
 .skip) .skip)
 (.seq (.set 0 (.call 76 (.aC (.var 0) .aN) []))
 (.seq (.ite (.cmp .Eq (.var 0) (.tupE (.aC (.cst (.str (S "put"))) (.aC (.ix (.var 0) (.cst (.int 1))) (.aC (.tupE (.aC (.cst (.str (S "name"))) (.aC (.ix (.var 0) (.cst (.int 1))) .aN))) (.aC (.cst (.str (S "+"))) (.aC (.cst (.tup [(.str (S "number")),(.int 0)])) .aN))))))) (.seq (.ret (.cst (.tup [(.str (S "skip"))])))
 .skip) .skip)
 (.seq (.ret (.var 0))
 .skip))))))⟩
noncomputable def WR:FD:=⟨1,1,(.seq (.ite (.cmp .Eq (.ix (.var 0) (.cst (.int 2))) (.cst (.str (S ">")))) (.seq (.ret (.tupE (.aC (.cst (.str (S "if"))) (.aC (.ix (.var 0) (.cst (.int 3))) (.aC (.cst (.str (S "<"))) (.aC (.ix (.var 0) (.cst (.int 1))) (.aC (.ix (.var 0) (.cst (.int 4))) .aN)))))))
 .skip) .skip)
 (.seq (.ite (.cmp .Eq (.ix (.var 0) (.cst (.int 2))) (.cst (.str (S ">=")))) (.seq (.ret (.tupE (.aC (.cst (.str (S "if"))) (.aC (.ix (.var 0) (.cst (.int 3))) (.aC (.cst (.str (S "<="))) (.aC (.ix (.var 0) (.cst (.int 1))) (.aC (.ix (.var 0) (.cst (.int 4))) .aN)))))))
 .skip) .skip)
 (.seq (.ret (.var 0))
 .skip)))⟩
noncomputable def Qy:FD:=⟨1,1,(.seq (.ret (.or (.call 73 (.aC (.ix (.var 0) (.cst (.int 1))) (.aC (.ix (.var 0) (.cst (.int 3))) .aN)) []) (.cmp .Eq (.ix (.var 0) (.cst (.int 1))) (.ix (.var 0) (.cst (.int 3))))))
 .skip)⟩
noncomputable def Zcn:FD:=⟨1,2,(.seq (.set 1 (.call 4 (.aC (.ix (.ix (.var 0) (.cst (.int 1))) (.cst (.int 1))) (.aC (.ix (.var 0) (.cst (.int 2))) (.aC (.ix (.ix (.var 0) (.cst (.int 3))) (.cst (.int 1))) .aN))) []))
 (.seq (.ret (.ife (.var 1) (.tupE (.aC (.cst (.str (S "go"))) (.aC (.ix (.var 0) (.cst (.int 4))) .aN))) (.cst (.tup [(.str (S "skip"))]))))
 .skip))⟩
noncomputable def V1:FD:=⟨1,3,(.seq (.set 1 (.ix (.var 0) (.cst (.int 1))))
 (.seq (.set 2 (.ix (.var 0) (.cst (.int 3))))
 (.seq (.ite (.cmp .NotEq (.ix (.var 0) (.cst (.int 2))) (.cst (.str (S "<=")))) (.seq (.ret (.var 0))
 .skip) .skip)
 (.seq (.ite (.and (.cmp .Eq (.ix (.var 2) (.cst (.int 0))) (.cst (.str (S "number")))) (.cmp .Lt (.ix (.var 2) (.cst (.int 1))) (.cst (.int 999999999)))) (.seq (.ret (.tupE (.aC (.cst (.str (S "if"))) (.aC (.var 1) (.aC (.cst (.str (S "<"))) (.aC (.tupE (.aC (.cst (.str (S "number"))) (.aC (.bin .Add (.ix (.var 2) (.cst (.int 1))) (.cst (.int 1))) .aN))) (.aC (.ix (.var 0) (.cst (.int 4))) .aN)))))))
 .skip) .skip)
 (.seq (.ite (.and (.cmp .Eq (.ix (.var 1) (.cst (.int 0))) (.cst (.str (S "number")))) (.cmp .Gt (.ix (.var 1) (.cst (.int 1))) (.cst (.int (-1000000000))))) (.seq (.ret (.tupE (.aC (.cst (.str (S "if"))) (.aC (.tupE (.aC (.cst (.str (S "number"))) (.aC (.bin .Sub (.ix (.var 1) (.cst (.int 1))) (.cst (.int 1))) .aN))) (.aC (.cst (.str (S "<"))) (.aC (.var 2) (.aC (.ix (.var 0) (.cst (.int 4))) .aN)))))))
 .skip) .skip)
 (.seq (.ret (.var 0))
 .skip))))))⟩
noncomputable def Zcl:FD:=⟨2,2,(.seq (.ite (.cmp .Eq (.ix (.var 0) (.cst (.int 4))) (.bin .Add (.var 1) (.cst (.int 1)))) (.seq (.ret (.cst (.tup [(.str (S "skip"))])))
 .skip) .skip)
 (.seq (.set 0 (.call 78 (.aC (.var 0) .aN) []))
 (.seq (.ite (.call 79 (.aC (.var 0) .aN) []) (.seq (.ret (.call 80 (.aC (.var 0) .aN) []))
 .skip) .skip)
 (.seq (.ite (.cmp .In (.ix (.var 0) (.cst (.int 2))) (.tupE (.aC (.cst (.str (S "="))) (.aC (.cst (.str (S "!="))) .aN)))) (.seq (.set 0 (.call 74 (.aC (.var 0) (.aC (.cst (.int 1)) (.aC (.cst (.int 3)) .aN))) []))
 .skip) .skip)
 (.seq (.ret (.call 81 (.aC (.var 0) .aN) []))
 .skip)))))⟩
noncomputable def Zay:FD:=⟨2,2,(.seq (.ite (.cmp .Eq (.ix (.var 0) (.cst (.int 0))) (.cst (.str (S "put")))) (.seq (.ret (.call 77 (.aC (.var 0) .aN) []))
 .skip) .skip)
 (.seq (.ite (.cmp .Eq (.ix (.var 0) (.cst (.int 0))) (.cst (.str (S "if")))) (.seq (.ret (.call 82 (.aC (.var 0) (.aC (.var 1) .aN)) []))
 .skip) .skip)
 (.seq (.ite (.cmp .Eq (.var 0) (.tupE (.aC (.cst (.str (S "go"))) (.aC (.bin .Add (.var 1) (.cst (.int 1))) .aN)))) (.seq (.ret (.cst (.tup [(.str (S "skip"))])))
 .skip) .skip)
 (.seq (.ret (.var 0))
 .skip))))⟩
noncomputable def WB:FD:=⟨2,2,(.seq (.ite (.cmp .Lt (.var 1) (.len (.var 0))) (.seq (.ret (.ix (.var 0) (.var 1)))
 .skip) .skip)
 (.seq (.ret (.cst (.int 0)))
 .skip))⟩
noncomputable def XV:FD:=⟨1,1,(.seq (.ite (.cmp .Eq (.bin .Mod (.var 0) (.cst (.int 3))) (.cst (.int 0))) (.seq (.ret (.ix (.lstE (.aC (.neg (.cst (.int 1000000000))) (.aC (.cst (.int 999999999)) (.aC (.neg (.cst (.int 1))) (.aC (.cst (.int 0)) (.aC (.cst (.int 1)) (.aC (.cst (.int 2)) (.aC (.neg (.cst (.int 999999999))) (.aC (.cst (.int 999999998)) .aN))))))))) (.bin .Mod (.bin .FloorDiv (.var 0) (.cst (.int 3))) (.cst (.int 8)))))
 .skip) .skip)
 (.seq (.ret (.bin .Sub (.bin .Mod (.bin .Mult (.bin .FloorDiv (.var 0) (.cst (.int 3))) (.cst (.int 48271))) (.cst (.int 2000000000))) (.cst (.int 1000000000))))
 .skip))⟩
noncomputable def WQ:FD:=⟨2,2,(.seq (.ite (.and (.cmp .Gt (.var 1) (.cst (.int 0))) (.cmp .Lt (.bin .Mod (.var 0) (.cst (.int 5))) (.cst (.int 3)))) (.seq (.ret (.tupE (.aC (.cst (.str (S "name"))) (.aC (.bin .Mod (.bin .FloorDiv (.var 0) (.cst (.int 5))) (.var 1)) .aN))))
 .skip) .skip)
 (.seq (.ret (.tupE (.aC (.cst (.str (S "number"))) (.aC (.call 18 (.aC (.bin .FloorDiv (.var 0) (.cst (.int 5))) .aN) []) .aN))))
 .skip))⟩
noncomputable def WC:FD:=⟨2,5,(.seq (.set 2 (.call 71 (.aC (.ix (.var 0) (.cst (.int 1))) (.aC (.var 1) .aN)) []))
 (.seq (.set 3 (.call 71 (.aC (.ix (.var 0) (.cst (.int 2))) (.aC (.var 1) .aN)) []))
 (.seq (.set 4 (.bin .Mod (.bin .FloorDiv (.ix (.var 0) (.cst (.int 3))) (.cst (.int 65))) (.cst (.int 6))))
 (.seq (.ite (.cmp .Eq (.var 4) (.cst (.int 1))) (.seq (.ret (.tupE (.aC (.var 2) (.aC (.var 2) .aN))))
 .skip) .skip)
 (.seq (.ite (.and (.cmp .Eq (.var 4) (.cst (.int 3))) (.cmp .Gt (.var 1) (.cst (.int 0)))) (.seq (.ret (.tupE (.aC (.tupE (.aC (.cst (.str (S "name"))) (.aC (.bin .Mod (.bin .Mod (.ix (.var 0) (.cst (.int 3))) (.cst (.int 5))) (.var 1)) .aN))) (.aC (.tupE (.aC (.cst (.str (S "number"))) (.aC (.bin .Mod (.ix (.var 0) (.cst (.int 2))) (.cst (.int 2))) .aN))) .aN))))
 .skip) .skip)
 (.seq (.ite (.cmp .Eq (.var 4) (.cst (.int 4))) (.seq (.ret (.tupE (.aC (.var 2) (.aC (.tupE (.aC (.cst (.str (S "number"))) (.aC (.bin .Mod (.ix (.var 0) (.cst (.int 2))) (.cst (.int 2))) .aN))) .aN))))
 .skip) .skip)
 (.seq (.ite (.cmp .Eq (.var 4) (.cst (.int 5))) (.seq (.ret (.tupE (.aC (.tupE (.aC (.cst (.str (S "number"))) (.aC (.bin .Mod (.ix (.var 0) (.cst (.int 1))) (.cst (.int 2))) .aN))) (.aC (.var 3) .aN))))
 .skip) .skip)
 (.seq (.ret (.tupE (.aC (.var 2) (.aC (.var 3) .aN))))
 .skip))))))))⟩
noncomputable def UE:FD:=⟨4,8,(.seq (.set2 4 5 (.call 84 (.aC (.var 0) (.aC (.var 1) .aN)) []))
 (.seq (.set 6 (.bin .Mod (.bin .FloorDiv (.ix (.var 0) (.cst (.int 3))) (.cst (.int 5))) (.bin .Add (.var 2) (.cst (.int 1)))))
 (.seq (.ite (.cmp .Eq (.bin .Mod (.bin .FloorDiv (.ix (.var 0) (.cst (.int 3))) (.cst (.int 65))) (.cst (.int 6))) (.cst (.int 2))) (.seq (.set 6 (.bin .Add (.var 3) (.cst (.int 1))))
 .skip) .skip)
 (.seq (.set 7 (.bin .FloorDiv (.ix (.var 0) (.cst (.int 0))) (.cst (.int 8))))
 (.seq (.ite (.and (.cmp .Lt (.bin .Mod (.ix (.var 0) (.cst (.int 0))) (.cst (.int 8))) (.cst (.int 3))) (.cmp .Gt (.var 1) (.cst (.int 0)))) (.seq (.ret (.tupE (.aC (.cst (.str (S "put"))) (.aC (.bin .Mod (.bin .Mod (.ix (.var 0) (.cst (.int 3))) (.cst (.int 5))) (.var 1)) (.aC (.var 4) (.aC (.ix (.lstE (.aC (.cst (.str (S "+"))) (.aC (.cst (.str (S "-"))) (.aC (.cst (.str (S "*"))) (.aC (.cst (.str (S "/"))) (.aC (.cst (.str (S "mod"))) .aN)))))) (.bin .Mod (.var 7) (.cst (.int 5)))) (.aC (.var 5) .aN)))))))
 .skip) .skip)
 (.seq (.ite (.cmp .Lt (.bin .Mod (.ix (.var 0) (.cst (.int 0))) (.cst (.int 8))) (.cst (.int 5))) (.seq (.ret (.tupE (.aC (.cst (.str (S "if"))) (.aC (.var 4) (.aC (.ix (.lstE (.aC (.cst (.str (S "<"))) (.aC (.cst (.str (S "<="))) (.aC (.cst (.str (S "="))) (.aC (.cst (.str (S ">="))) (.aC (.cst (.str (S ">"))) (.aC (.cst (.str (S "!="))) .aN))))))) (.bin .Mod (.var 7) (.cst (.int 6)))) (.aC (.var 5) (.aC (.var 6) .aN)))))))
 .skip) .skip)
 (.seq (.ite (.cmp .Eq (.bin .Mod (.ix (.var 0) (.cst (.int 0))) (.cst (.int 8))) (.cst (.int 5))) (.seq (.ret (.tupE (.aC (.cst (.str (S "go"))) (.aC (.var 6) .aN))))
 .skip) .skip)
 (.seq (.ite (.cmp .Eq (.bin .Mod (.ix (.var 0) (.cst (.int 0))) (.cst (.int 8))) (.cst (.int 6))) (.seq (.ret (.tupE (.aC (.cst (.str (S "tell"))) (.aC (.var 4) .aN))))
 .skip) .skip)
 (.seq (.ret (.tupE (.aC (.cst (.str (S "skip"))) .aN)))
 .skip)))))))))⟩
noncomputable def WE:CE:=(.comp true [1,0] (.len (.var 1)) (.var 0) (.not (.call 36 (.aC (.ix (.var 2) (.var 0)) (.aC (.ix (.var 1) (.var 0)) .aN)) [])))
noncomputable def Zck:FD:=⟨2,2,(.seq (.ite (.isi .tuple (.var 1)) (.seq (.ite (.or (.not (.isi .tuple (.var 0))) (.cmp .NotEq (.len (.var 0)) (.len (.var 1)))) (.seq (.ret (.cst (.bl false)))
 .skip) .skip)
 (.seq (.ret (.cmp .Eq WE (.lstE .aN)))
 .skip)) .skip)
 (.seq (.ite (.isi .str (.var 1)) (.seq (.ret (.and (.isi .str (.var 0)) (.cmp .Eq (.var 0) (.var 1))))
 .skip) .skip)
 (.seq (.ret (.and (.isi .int (.var 0)) (.and (.not (.isi .bool (.var 0))) (.cmp .Eq (.var 0) (.var 1)))))
 .skip)))⟩
noncomputable def c__law_round:FD:=⟨1,1,(.seq (.ret (.bin .Sub (.bin .Mod (.bin .Add (.var 0) (.cst (.int 1000000000))) (.cst (.int 2000000000))) (.cst (.int 1000000000))))
 .skip)⟩
noncomputable def Z4:CE:=(.comp false [5] (.var 0) (.var 0) (.cmp .Eq (.bin .BitAnd (.var 0) (.var 1)) (.cst (.int 0))))
noncomputable def Yq:CS:=(.seq (.set 5 (.call 43 (.aC (.var 4) .aN) []))
 (.seq (.set 6 (.call 62 (.aC Z4 (.aC (.bin .Add (.var 4) (.cst (.int 1))) (.aC (.var 2) (.aC (.bin .Sub (.var 3) (.cst (.int 1))) .aN)))) []))
 (.seq (.ite (.cmp .IsNot (.var 6) (.cst .non)) (.seq (.ret (.bin .Add (.tupE (.aC (.var 4) .aN)) (.var 6)))
 .skip) .skip)
 .skip)))
noncomputable def c_first_choice:FD:=⟨4,7,(.seq (.ite (.cmp .Eq (.var 3) (.cst (.int 0))) (.seq (.ret (.ife (.cmp .Eq (.len (.var 0)) (.cst (.int 0))) (.tupE .aN) (.cst .non)))
 .skip) .skip)
 (.seq (.for3 4 (.aC (.var 1) (.aC (.var 2) .aN)) Yq)
 (.seq (.ret (.cst .non))
 .skip)))⟩
noncomputable def YM:CE:=(.comp2 [0] (.var 0) (.var 0) (.and (.cmp .NotEq (.var 1) (.cst (.int 0))) (.cmp .NotIn (.var 1) (.slice (.var 2) .nop (.part (.var 0))))))
noncomputable def c_unlike_fakes:FD:=⟨1,1,(.seq (.ret YM)
 .skip)⟩
noncomputable def WF:CE:=(.comp false [0] (.call 63 (.aC (.var 0) .aN) []) (.ix (.var 1) (.var 0)) (.cst (.bl true)))
noncomputable def XC:CS:=(.seq (.set 4 (.call 62 (.aC (.var 2) (.aC (.cst (.int 0)) (.aC (.var 1) (.aC (.var 3) .aN)))) []))
 (.seq (.ite (.cmp .IsNot (.var 4) (.cst .non)) (.seq (.ret (.var 4))
 .skip) .skip)
 .skip))
noncomputable def c_fewest:FD:=⟨2,5,(.seq (.set 2 WF)
 (.seq (.for1 3 true (.var 1) XC)
 (.seq (.ret (.tupR (.var 1)))
 .skip)))⟩
noncomputable def Yx:CS:=(.seq (.ite (.or (.not (.call 17 (.aC (.var 3) .aN) [])) (.or (.cmp .LtE (.var 3) (.var 2)) (.cmp .GtE (.var 3) (.var 1)))) (.seq (.ret (.cst (.bl false)))
 .skip) .skip)
 (.seq (.set 2 (.var 3))
 .skip))
noncomputable def c__law_rising:FD:=⟨2,4,(.seq (.ite (.not (.isi .tuple (.var 0))) (.seq (.ret (.cst (.bl false)))
 .skip) .skip)
 (.seq (.set 2 (.neg (.cst (.int 1))))
 (.seq (.for1 3 false (.var 0) Yx)
 (.seq (.ret (.cst (.bl true)))
 .skip))))⟩
noncomputable def Xi:CE:=(.comp false [0,4] (.slice (.var 1) (.part (.bin .Add (.var 3) (.cst (.int 1)))) .nop) (.var 0) (.cmp .Eq (.bin .BitAnd (.ix (.var 1) (.var 0)) (.ix (.var 1) (.var 2))) (.cst (.int 0))))
noncomputable def YQ:CS:=(.seq (.set 5 Xi)
 (.seq (.ite (.cmp .GtE (.len (.var 5)) (.bin .Sub (.var 2) (.cst (.int 1)))) (.seq (.set 6 (.call 66 (.aC (.var 0) (.aC (.var 5) (.aC (.bin .Sub (.var 2) (.cst (.int 1))) .aN))) []))
 (.seq (.ite (.cmp .IsNot (.var 6) (.cst .non)) (.seq (.ret (.bin .Add (.tupE (.aC (.var 4) .aN)) (.var 6)))
 .skip) .skip)
 .skip)) .skip)
 .skip))
noncomputable def c_first_row:FD:=⟨3,7,(.seq (.ite (.cmp .Eq (.var 2) (.cst (.int 0))) (.seq (.ret (.tupE .aN))
 .skip) .skip)
 (.seq (.forE 3 4 (.var 1) YQ)
 (.seq (.ret (.cst .non))
 .skip)))⟩
noncomputable def c_strangers:FD:=⟨2,2,(.seq (.ret (.call 66 (.aC (.var 0) (.aC (.call 63 (.aC (.var 0) .aN) []) (.aC (.var 1) .aN))) []))
 .skip)⟩
noncomputable def c_shown_fewest:FD:=⟨2,3,(.seq (.set 2 (.call 64 (.aC (.var 0) (.aC (.var 1) .aN)) []))
 (.seq (.ret (.tupE (.aC (.var 2) (.aC (.call 67 (.aC (.var 0) (.aC (.len (.var 2)) .aN)) []) .aN))))
 .skip))⟩
noncomputable def c_operand_places:FD:=⟨1,1,(.seq (.ret (.look [(S "put"),(S "if"),(S "tell"),(S "go"),(S "skip")] [(.tup [(.int 2),(.int 4)]),(.tup [(.int 1),(.int 3)]),(.tup [(.int 1)]),(.tup []),(.tup [])] (.ix (.var 0) (.cst (.int 0)))))
 .skip)⟩
noncomputable def c_Step_word:FD:=⟨1,1,(.seq (.ret (.cst (.str (S "none"))))
 .skip)⟩
noncomputable def c_Step_turned:FD:=⟨3,3,(.seq (.ret (.tupE .aN))
 .skip)⟩
noncomputable def c_More_word:FD:=⟨1,1,(.seq (.ret (.cst (.str (S "more"))))
 .skip)⟩
noncomputable def VA:CS:=(.seq (.ite (.cmp .Eq (.ix (.ix (.var 1) (.var 4)) (.cst (.int 0))) (.cst (.str (S "number")))) (.seq (.app 3 (.call 42 (.aC (.var 1) (.aC (.var 4) (.aC (.tupE (.aC (.cst (.str (S "number"))) (.aC (.call 0 (.aC (.bin .Add (.ix (.ix (.var 1) (.var 4)) (.cst (.int 1))) (.cst (.int 1))) .aN) []) .aN))) .aN))) []))
 .skip) .skip)
 .skip)
noncomputable def c_More_turned:FD:=⟨3,5,(.seq (.set 3 (.lstE .aN))
 (.seq (.for1 4 false (.call 113 (.aC (.var 1) .aN) []) VA)
 (.seq (.ret (.tOf (.var 3)))
 .skip)))⟩
noncomputable def c_Out_word:FD:=⟨1,1,(.seq (.ret (.cst (.str (S "out"))))
 .skip)⟩
noncomputable def c_Out_turned:FD:=⟨3,3,(.seq (.ite (.cmp .Eq (.ix (.var 1) (.cst (.int 0))) (.cst (.str (S "skip")))) (.seq (.ret (.tupE .aN))
 .skip) .skip)
 (.seq (.ret (.tupE (.aC (.tupE (.aC (.cst (.str (S "skip"))) .aN)) .aN)))
 .skip))⟩
noncomputable def c_Turn_word:FD:=⟨1,1,(.seq (.ret (.cst (.str (S "turn"))))
 .skip)⟩
noncomputable def c_Turn_turned:FD:=⟨3,3,(.seq (.ite (.cmp .NotEq (.ix (.var 1) (.cst (.int 0))) (.cst (.str (S "if")))) (.seq (.ret (.tupE .aN))
 .skip) .skip)
 (.seq (.ret (.tupE (.aC (.call 42 (.aC (.var 1) (.aC (.cst (.int 2)) (.aC (.look [(S "<"),(S ">="),(S "<="),(S ">"),(S "="),(S "!=")] [(.str (S ">=")),(.str (S "<")),(.str (S ">")),(.str (S "<=")),(.str (S "!=")),(.str (S "="))] (.ix (.var 1) (.cst (.int 2)))) .aN))) []) .aN)))
 .skip))⟩
noncomputable def c_Swap_word:FD:=⟨1,1,(.seq (.ret (.cst (.str (S "swap"))))
 .skip)⟩
noncomputable def c_Swap_turned:FD:=⟨3,3,(.seq (.ite (.and (.cmp .Eq (.ix (.var 1) (.cst (.int 0))) (.cst (.str (S "put")))) (.cmp .NotEq (.ix (.var 1) (.cst (.int 2))) (.ix (.var 1) (.cst (.int 4))))) (.seq (.ret (.tupE (.aC (.tupE (.aC (.cst (.str (S "put"))) (.aC (.ix (.var 1) (.cst (.int 1))) (.aC (.ix (.var 1) (.cst (.int 4))) (.aC (.ix (.var 1) (.cst (.int 3))) (.aC (.ix (.var 1) (.cst (.int 2))) .aN)))))) .aN)))
 .skip) .skip)
 (.seq (.ite (.and (.cmp .Eq (.ix (.var 1) (.cst (.int 0))) (.cst (.str (S "if")))) (.cmp .NotEq (.ix (.var 1) (.cst (.int 1))) (.ix (.var 1) (.cst (.int 3))))) (.seq (.ret (.tupE (.aC (.tupE (.aC (.cst (.str (S "if"))) (.aC (.ix (.var 1) (.cst (.int 3))) (.aC (.ix (.var 1) (.cst (.int 2))) (.aC (.ix (.var 1) (.cst (.int 1))) (.aC (.ix (.var 1) (.cst (.int 4))) .aN)))))) .aN)))
 .skip) .skip)
 (.seq (.ret (.tupE .aN))
 .skip)))⟩
noncomputable def c_Far_word:FD:=⟨1,1,(.seq (.ret (.cst (.str (S "far"))))
 .skip)⟩
noncomputable def c_Far_turned:FD:=⟨3,3,(.seq (.ite (.or (.cmp .NotIn (.ix (.var 1) (.cst (.int 0))) (.tupE (.aC (.cst (.str (S "go"))) (.aC (.cst (.str (S "if"))) .aN)))) (.cmp .GtE (.ix (.var 1) (.neg (.cst (.int 1)))) (.var 2))) (.seq (.ret (.tupE .aN))
 .skip) .skip)
 (.seq (.ret (.tupE (.aC (.bin .Add (.slice (.var 1) .nop (.part (.neg (.cst (.int 1))))) (.tupE (.aC (.bin .Add (.ix (.var 1) (.neg (.cst (.int 1)))) (.cst (.int 1))) .aN))) .aN)))
 .skip))⟩
noncomputable def c_behind:FD:=⟨2,2,(.seq (.ret (.ix (.var 0) (.bin .Mod (.bin .Add (.tix (.var 0) (.aC (.var 1) .aN)) (.cst (.int 1))) (.len (.var 0)))))
 .skip)⟩
noncomputable def c_Sign_word:FD:=⟨1,1,(.seq (.ret (.cst (.str (S "sign"))))
 .skip)⟩
noncomputable def c_Sign_turned:FD:=⟨3,3,(.seq (.ite (.cmp .Eq (.ix (.var 1) (.cst (.int 0))) (.cst (.str (S "put")))) (.seq (.ret (.tupE (.aC (.call 42 (.aC (.var 1) (.aC (.cst (.int 3)) (.aC (.call 70 (.aC (.cst (.kt [(S "+"),(S "-"),(S "*"),(S "/"),(S "mod")])) (.aC (.ix (.var 1) (.cst (.int 3))) .aN)) []) .aN))) []) .aN)))
 .skip) .skip)
 (.seq (.ite (.cmp .Eq (.ix (.var 1) (.cst (.int 0))) (.cst (.str (S "if")))) (.seq (.ret (.tupE (.aC (.call 42 (.aC (.var 1) (.aC (.cst (.int 2)) (.aC (.call 70 (.aC (.cst (.kt [(S "<"),(S "<="),(S "="),(S ">="),(S ">"),(S "!=")])) (.aC (.ix (.var 1) (.cst (.int 2))) .aN)) []) .aN))) []) .aN)))
 .skip) .skip)
 (.seq (.ret (.tupE .aN))
 .skip)))⟩
noncomputable def UT:CE:=(.comp false [4,6] (.meth [(146,148),(169,171),(149,151),(157,159),(152,154),(160,162),(163,165)] (.var 6) (.aC (.var 5) (.aC (.len (.var 1)) .aN))) (.tupE (.aC (.var 1) (.aC (.meth [(146,147),(169,170),(149,150),(157,158),(152,153),(160,161),(163,164)] (.var 2) .aN) (.aC (.var 0) .aN)))) (.cst (.bl true)))
noncomputable def Wg:CS:=(.seq (.ext 3 UT)
 .skip)
noncomputable def Xo:CS:=(.seq (.for1 6 false (.var 2) Wg)
 .skip)
noncomputable def c_fakes:FD:=⟨1,7,(.seq (.set 1 (.ix (.var 0) (.cst (.int 2))))
 (.seq (.set 2 (.lstE (.aC (.new 169) (.aC (.new 149) (.aC (.new 157) (.aC (.new 152) (.aC (.new 160) (.aC (.new 163) .aN))))))))
 (.seq (.set 3 (.lstE .aN))
 (.seq (.forE 4 5 (.var 1) Xo)
 (.seq (.ret (.tOf (.var 3)))
 .skip)))))⟩
noncomputable def c_fake_of:FD:=⟨3,3,(.seq (.ret (.tupE (.aC (.ix (.var 0) (.cst (.int 0))) (.aC (.ix (.var 0) (.cst (.int 1))) (.aC (.call 42 (.aC (.ix (.var 0) (.cst (.int 2))) (.aC (.var 1) (.aC (.var 2) .aN))) []) .aN)))))
 .skip)⟩
noncomputable def c_check_trials:FD:=⟨1,1,(.seq (.ite (.cmp .Gt (.len (.var 0)) (.cst (.int 10))) (.seq .stop
 .skip) .skip)
 .skip)⟩
noncomputable def Y3:CE:=(.comp false [2,0] (.var 1) (.call 13 (.aC (.var 2) (.aC (.var 0) (.aC (.var 1) .aN))) []) (.cst (.bl true)))
noncomputable def c_outcomes:FD:=⟨3,3,(.seq (.ret Y3)
 .skip)⟩
noncomputable def Yy:CS:=(.seq (.ite (.cmp .NotEq (.var 4) (.var 5)) (.seq (.set 2 (.bin .Add (.var 2) (.var 3)))
 .skip) .skip)
 (.seq (.set 3 (.bin .Mult (.var 3) (.cst (.int 2))))
 .skip))
noncomputable def c_bits_unlike:FD:=⟨2,6,(.seq (.set 2 (.cst (.int 0)))
 (.seq (.set 3 (.cst (.int 1)))
 (.seq (.forP 4 5 (.aC (.var 0) (.aC (.var 1) .aN)) Yy)
 (.seq (.ret (.var 2))
 .skip))))⟩
noncomputable def c_bits_of:FD:=⟨3,8,(.seq (.act (.call 181 (.aC (.var 1) .aN) []))
 (.seq (.set 3 (.call 182 (.aC (.var 0) (.aC (.var 1) (.aC (.var 2) .aN))) []))
 (.seq (.set 4 (.lstE .aN))
 (.seq (.for4 5 6 7 (.call 172 (.aC (.var 0) .aN) []) (.seq (.app 4 (.call 183 (.aC (.var 3) (.aC (.call 182 (.aC (.call 180 (.aC (.var 0) (.aC (.var 5) (.aC (.var 7) .aN))) []) (.aC (.var 1) (.aC (.var 2) .aN))) []) .aN)) []))
 .skip))
 (.seq (.ret (.tOf (.var 4)))
 .skip)))))⟩
noncomputable def c__law_sum:FD:=⟨3,3,(.seq (.ite (.cmp .Eq (.var 1) (.cst (.str (S "+")))) (.seq (.ret (.call 89 (.aC (.bin .Add (.var 0) (.var 2)) .aN) []))
 .skip) .skip)
 (.seq (.ite (.cmp .Eq (.var 1) (.cst (.str (S "-")))) (.seq (.ret (.call 89 (.aC (.bin .Sub (.var 0) (.var 2)) .aN) []))
 .skip) .skip)
 (.seq (.ite (.cmp .Eq (.var 1) (.cst (.str (S "*")))) (.seq (.ret (.call 89 (.aC (.bin .Mult (.var 0) (.var 2)) .aN) []))
 .skip) .skip)
 (.seq (.ite (.cmp .Eq (.var 1) (.cst (.str (S "/")))) (.seq (.ret (.ife (.cmp .Eq (.var 2) (.cst (.int 0))) (.cst (.int 0)) (.call 89 (.aC (.bin .FloorDiv (.var 0) (.var 2)) .aN) [])))
 .skip) .skip)
 (.seq (.ret (.ife (.cmp .Eq (.var 2) (.cst (.int 0))) (.var 0) (.bin .Sub (.var 0) (.bin .Mult (.var 2) (.bin .FloorDiv (.var 0) (.var 2))))))
 .skip)))))⟩
noncomputable def c__law_so_k55:FD:=⟨3,3,(.seq (.ite (.cmp .Lt (.var 0) (.var 2)) (.seq (.ret (.cmp .In (.var 1) (.lstE (.aC (.cst (.str (S "<"))) (.aC (.cst (.str (S "<="))) (.aC (.cst (.str (S "!="))) .aN))))))
 .skip) .skip)
 (.seq (.ite (.cmp .Gt (.var 0) (.var 2)) (.seq (.ret (.cmp .In (.var 1) (.lstE (.aC (.cst (.str (S ">"))) (.aC (.cst (.str (S ">="))) (.aC (.cst (.str (S "!="))) .aN))))))
 .skip) .skip)
 (.seq (.ret (.cmp .In (.var 1) (.lstE (.aC (.cst (.str (S "<="))) (.aC (.cst (.str (S "="))) (.aC (.cst (.str (S ">="))) .aN))))))
 .skip)))⟩
noncomputable def ZP:CS:=(.seq (.ite (.cmp .Eq (.var 5) (.len (.var 0))) (.seq (.ret (.tupE (.aC (.cst (.str (S "none"))) .aN)))
 .skip) .skip)
 (.seq (.set 7 (.ix (.var 0) (.var 5)))
 (.seq (.set 5 (.bin .Add (.var 5) (.cst (.int 1))))
 (.seq (.ite (.cmp .Eq (.ix (.var 7) (.cst (.int 0))) (.cst (.str (S "tell")))) (.seq (.ret (.tupE (.aC (.cst (.str (S "told"))) (.aC (.call 34 (.aC (.ix (.var 7) (.cst (.int 1))) (.aC (.var 4) .aN)) []) .aN))))
 .skip) .skip)
 (.seq (.ite (.cmp .Eq (.ix (.var 7) (.cst (.int 0))) (.cst (.str (S "put")))) (.seq (.put 4 (.ix (.var 7) (.cst (.int 1))) (.call 187 (.aC (.call 34 (.aC (.ix (.var 7) (.cst (.int 2))) (.aC (.var 4) .aN)) []) (.aC (.ix (.var 7) (.cst (.int 3))) (.aC (.call 34 (.aC (.ix (.var 7) (.cst (.int 4))) (.aC (.var 4) .aN)) []) .aN))) []))
 .skip) .skip)
 (.seq (.ite (.cmp .Eq (.ix (.var 7) (.cst (.int 0))) (.cst (.str (S "go")))) (.seq (.set 5 (.ix (.var 7) (.cst (.int 1))))
 .skip) .skip)
 (.seq (.ite (.cmp .Eq (.ix (.var 7) (.cst (.int 0))) (.cst (.str (S "if")))) (.seq (.set 8 (.call 34 (.aC (.ix (.var 7) (.cst (.int 1))) (.aC (.var 4) .aN)) []))
 (.seq (.ite (.call 33 (.aC (.var 8) (.aC (.ix (.var 7) (.cst (.int 2))) (.aC (.call 34 (.aC (.ix (.var 7) (.cst (.int 3))) (.aC (.var 4) .aN)) []) .aN))) []) (.seq (.set 5 (.ix (.var 7) (.cst (.int 4))))
 .skip) .skip)
 .skip)) .skip)
 .skip)))))))
noncomputable def c__law_outcome:FD:=⟨4,9,(.seq (.set 4 (.bin .Add (.listOf (.var 2)) (.bin .Mult (.lstE (.aC (.cst (.int 0)) .aN)) (.bin .Sub (.var 1) (.len (.var 2))))))
 (.seq (.set 5 (.cst (.int 0)))
 (.seq (.for1 6 true (.var 3) ZP)
 (.seq (.ite (.cmp .Eq (.var 5) (.len (.var 0))) (.seq (.ret (.tupE (.aC (.cst (.str (S "none"))) .aN)))
 .skip) .skip)
 (.seq (.ret (.tupE (.aC (.cst (.str (S "late"))) .aN)))
 .skip)))))⟩
noncomputable def c__law_cell_at_k61:FD:=⟨2,2,(.seq (.ite (.cmp .Lt (.var 1) (.len (.var 0))) (.seq (.ret (.ix (.var 0) (.var 1)))
 .skip) .skip)
 (.seq (.ret (.bin .Mod (.bin .Mult (.bin .Add (.bin .Mod (.ix (.bin .Add (.var 0) (.lstE (.aC (.cst (.int 0)) .aN))) (.cst (.int 0))) (.cst (.int 1000003))) (.cst (.int 19))) (.bin .Add (.bin .Mult (.var 1) (.var 1)) (.cst (.int 50021)))) (.cst (.int 2147483647))))
 .skip))⟩
noncomputable def c__law_number_k61:FD:=⟨1,1,(.seq (.ite (.cmp .Eq (.bin .Mod (.var 0) (.cst (.int 4))) (.cst (.int 0))) (.seq (.ret (.bin .Sub (.bin .Mod (.bin .FloorDiv (.var 0) (.cst (.int 4))) (.cst (.int 2000000000))) (.cst (.int 1000000000))))
 .skip) .skip)
 (.seq (.ite (.cmp .Eq (.bin .Mod (.var 0) (.cst (.int 4))) (.cst (.int 1))) (.seq (.ret (.ix (.lstE (.aC (.cst (.int 999999999)) (.aC (.neg (.cst (.int 1000000000))) (.aC (.neg (.cst (.int 1))) (.aC (.cst (.int 0)) (.aC (.cst (.int 1)) .aN)))))) (.bin .Mod (.bin .FloorDiv (.var 0) (.cst (.int 4))) (.cst (.int 5)))))
 .skip) .skip)
 (.seq (.ret (.bin .Sub (.bin .Mod (.bin .FloorDiv (.var 0) (.cst (.int 4))) (.cst (.int 7))) (.cst (.int 3))))
 .skip)))⟩
noncomputable def c__law_operand_k61:FD:=⟨2,2,(.seq (.ite (.cmp .Eq (.bin .Mod (.var 0) (.cst (.int 3))) (.cst (.int 0))) (.seq (.ret (.tupE (.aC (.cst (.str (S "number"))) (.aC (.call 185 (.aC (.bin .FloorDiv (.var 0) (.cst (.int 3))) .aN) []) .aN))))
 .skip) .skip)
 (.seq (.ret (.tupE (.aC (.cst (.str (S "name"))) (.aC (.bin .Mod (.bin .FloorDiv (.var 0) (.cst (.int 3))) (.var 1)) .aN))))
 .skip))⟩
noncomputable def c__law_row_k61:FD:=⟨3,6,(.seq (.set 3 (.bin .FloorDiv (.ix (.var 0) (.cst (.int 0))) (.cst (.int 8))))
 (.seq (.set 4 (.call 28 (.aC (.ix (.var 0) (.cst (.int 1))) (.aC (.var 1) .aN)) []))
 (.seq (.set 5 (.call 28 (.aC (.ix (.var 0) (.cst (.int 2))) (.aC (.var 1) .aN)) []))
 (.seq (.ite (.cmp .Lt (.bin .Mod (.ix (.var 0) (.cst (.int 0))) (.cst (.int 8))) (.cst (.int 3))) (.seq (.ret (.tupE (.aC (.cst (.str (S "put"))) (.aC (.bin .Mod (.var 3) (.var 1)) (.aC (.var 4) (.aC (.ix (.lstE (.aC (.cst (.str (S "+"))) (.aC (.cst (.str (S "-"))) (.aC (.cst (.str (S "*"))) (.aC (.cst (.str (S "/"))) (.aC (.cst (.str (S "mod"))) .aN)))))) (.bin .Mod (.bin .FloorDiv (.var 3) (.var 1)) (.cst (.int 5)))) (.aC (.var 5) .aN)))))))
 .skip) .skip)
 (.seq (.ite (.cmp .Lt (.bin .Mod (.ix (.var 0) (.cst (.int 0))) (.cst (.int 8))) (.cst (.int 5))) (.seq (.ret (.tupE (.aC (.cst (.str (S "if"))) (.aC (.var 4) (.aC (.ix (.lstE (.aC (.cst (.str (S "<"))) (.aC (.cst (.str (S "<="))) (.aC (.cst (.str (S "="))) (.aC (.cst (.str (S ">="))) (.aC (.cst (.str (S ">"))) (.aC (.cst (.str (S "!="))) .aN))))))) (.bin .Mod (.var 3) (.cst (.int 6)))) (.aC (.var 5) (.aC (.bin .Mod (.bin .FloorDiv (.var 3) (.cst (.int 6))) (.bin .Add (.var 2) (.cst (.int 1)))) .aN)))))))
 .skip) .skip)
 (.seq (.ite (.cmp .Lt (.bin .Mod (.ix (.var 0) (.cst (.int 0))) (.cst (.int 8))) (.cst (.int 7))) (.seq (.ret (.tupE (.aC (.cst (.str (S "tell"))) (.aC (.var 5) .aN))))
 .skip) .skip)
 (.seq (.ret (.ix (.lstE (.aC (.tupE (.aC (.cst (.str (S "skip"))) .aN)) (.aC (.tupE (.aC (.cst (.str (S "go"))) (.aC (.bin .Mod (.bin .FloorDiv (.var 3) (.cst (.int 2))) (.bin .Add (.var 2) (.cst (.int 1)))) .aN))) .aN))) (.bin .Mod (.var 3) (.cst (.int 2)))))
 .skip)))))))⟩
noncomputable def Vd:CE:=(.comp false [2,4,5] (.var 1) (.call 188 (.aC (.var 3) (.aC (.var 2) (.aC (.var 0) (.aC (.var 1) .aN)))) []) (.cst (.bl true)))
noncomputable def Xq:CE:=(.comp false [2,4,11] (.var 1) (.call 188 (.aC (.var 3) (.aC (.var 2) (.aC (.var 0) (.aC (.var 1) .aN)))) []) (.cst (.bl true)))
noncomputable def Ys:CE:=(.comp true [6,12] (.len (.var 1)) (.var 0) (.cmp .NotEq (.ix (.var 2) (.var 0)) (.ix (.var 1) (.var 0))))
noncomputable def c__law_telling:FD:=⟨3,13,(.seq (.set3 3 4 5 (.var 0))
 (.seq (.set 6 Vd)
 (.seq (.set 7 (.lstE .aN))
 (.seq (.for4 8 9 10 (.call 172 (.aC (.var 0) .aN) []) (.seq (.set 11 (.bin .Add (.bin .Add (.slice (.var 5) .nop (.part (.var 8))) (.tupE (.aC (.var 10) .aN))) (.slice (.var 5) (.part (.bin .Add (.var 8) (.cst (.int 1)))) .nop)))
 (.seq (.set 12 Xq)
 (.seq (.app 7 Ys)
 .skip))))
 (.seq (.ret (.var 7))
 .skip)))))⟩
noncomputable def Yl:CE:=(.comp false [0] (.var 2) (.var 0) (.cmp .In (.var 0) (.var 1)))
noncomputable def Yk:CS:=(.seq (.ite (.and (.cmp .NotEq (.var 2) (.lstE .aN)) (.cmp .Eq Yl (.lstE .aN))) (.seq (.ret (.cst (.bl false)))
 .skip) .skip)
 .skip)
noncomputable def c__law_tell_all:FD:=⟨2,3,(.seq (.for1 2 false (.var 1) Yk)
 (.seq (.ret (.cst (.bl true)))
 .skip))⟩
noncomputable def Yr:CE:=(.comp false [2] (.ix (.var 1) (.var 3)) (.var 0) (.cmp .In (.var 0) (.var 1)))
noncomputable def Yp:CS:=(.seq (.ite (.or (.cmp .Eq (.ix (.var 1) (.var 3)) (.lstE .aN)) (.cmp .NotEq Yr (.lstE .aN))) (.seq (.ret (.cst (.bl false)))
 .skip) .skip)
 (.seq (.set 2 (.bin .Add (.var 2) (.ix (.var 1) (.var 3))))
 .skip))
noncomputable def c__law_strange:FD:=⟨2,4,(.seq (.set 2 (.lstE .aN))
 (.seq (.for1 3 false (.var 0) Yp)
 (.seq (.ret (.cst (.bl true)))
 .skip)))⟩
noncomputable def XZ:CE:=(.comp true [6,0] (.cst (.int 3)) (.call 27 (.aC (.var 2) (.aC (.bin .Add (.bin .Add (.cst (.int 3)) (.bin .Mult (.cst (.int 3)) (.var 1))) (.var 0)) .aN)) []) (.cst (.bl true)))
noncomputable def Vs:CE:=(.comp true [0,11] (.var 2) (.call 185 (.aC (.call 27 (.aC (.var 1) (.aC (.bin .Add (.var 2) (.var 0)) .aN)) []) .aN) []) (.cst (.bl true)))
noncomputable def X0:CE:=(.comp true [14] (.len (.var 9)) (.var 0) (.cmp .Eq (.bin .BitAnd (.bin .RShift (.var 1) (.var 0)) (.cst (.int 1))) (.cst (.int 1))))
noncomputable def YR:CS:=(.seq (.set 15 X0)
 (.seq (.ite (.and (.cmp .Lt (.len (.var 15)) (.len (.ix (.var 12) (.cst (.int 0))))) (.call 199 (.aC (.var 15) (.aC (.var 13) .aN)) [])) (.seq (.ret (.cst (.bl false)))
 .skip) .skip)
 .skip))
noncomputable def Xc:CS:=(.seq (.set 11 (.bin .Add (.cst (.int 12)) (.bin .Mult (.cst (.int 2)) (.var 10))))
 (.seq (.app 9 (.tOf Vs))
 .skip))
noncomputable def Xd:CS:=(.seq (.app 5 (.call 29 (.aC XZ (.aC (.var 3) (.aC (.var 4) .aN))) []))
 .skip)
noncomputable def c_law_k61:FD:=⟨1,16,(.seq (.set 1 (.call 27 (.aC (.var 0) (.aC (.cst (.int 0)) .aN)) []))
 (.seq (.set 2 (.bin .Mod (.var 1) (.cst (.int 3))))
 (.seq (.set 3 (.bin .Add (.max (.cst (.int 1)) (.var 2)) (.bin .Mod (.bin .FloorDiv (.var 1) (.cst (.int 3))) (.bin .Sub (.cst (.int 6)) (.max (.cst (.int 1)) (.var 2))))))
 (.seq (.set 4 (.bin .Mod (.call 27 (.aC (.var 0) (.aC (.cst (.int 1)) .aN)) []) (.cst (.int 4))))
 (.seq (.set 5 (.lstE .aN))
 (.seq (.for1 6 true (.var 4) Xd)
 (.seq (.set 7 (.tupE (.aC (.bin .Mult (.tupE (.aC (.tupE (.aC (.neg (.cst (.int 3))) (.aC (.cst (.int 4)) .aN))) .aN)) (.var 2)) (.aC (.var 3) (.aC (.tOf (.var 5)) .aN)))))
 (.seq (.set 8 (.bin .Mod (.call 27 (.aC (.var 0) (.aC (.cst (.int 2)) .aN)) []) (.cst (.int 9))))
 (.seq (.set 9 (.lstE .aN))
 (.seq (.for1 10 true (.bin .Mod (.bin .FloorDiv (.call 27 (.aC (.var 0) (.aC (.cst (.int 2)) .aN)) []) (.cst (.int 9))) (.cst (.int 6))) Xc)
 (.seq (.ite (.and (.cmp .Gt (.len (.var 9)) (.cst (.int 1))) (.cmp .Eq (.bin .Mod (.bin .FloorDiv (.call 27 (.aC (.var 0) (.aC (.cst (.int 1)) .aN)) []) (.cst (.int 4))) (.cst (.int 4))) (.cst (.int 1)))) (.seq (.put 9 (.bin .Sub (.len (.var 9)) (.cst (.int 1))) (.ix (.var 9) (.cst (.int 0))))
 .skip) .skip)
 (.seq (.set 12 (.call 111 (.aC (.call 184 (.aC (.var 7) (.aC (.tOf (.var 9)) (.aC (.var 8) .aN))) []) (.aC (.len (.var 9)) .aN)) []))
 (.seq (.set 13 (.call 198 (.aC (.var 7) (.aC (.var 9) (.aC (.var 8) .aN))) []))
 (.seq (.ite (.or (.not (.isi .tuple (.var 12))) (.or (.cmp .NotEq (.len (.var 12)) (.cst (.int 2))) (.not (.call 65 (.aC (.ix (.var 12) (.cst (.int 0))) (.aC (.len (.var 9)) .aN)) [])))) (.seq (.ret (.cst (.bl false)))
 .skip) .skip)
 (.seq (.ite (.not (.call 199 (.aC (.ix (.var 12) (.cst (.int 0))) (.aC (.var 13) .aN)) [])) (.seq (.ret (.cst (.bl false)))
 .skip) .skip)
 (.seq (.ite (.cmp .IsNot (.ix (.var 12) (.cst (.int 1))) (.cst .non)) (.seq (.ite (.or (.not (.call 65 (.aC (.ix (.var 12) (.cst (.int 1))) (.aC (.len (.var 13)) .aN)) [])) (.cmp .NotEq (.len (.ix (.var 12) (.cst (.int 1)))) (.len (.ix (.var 12) (.cst (.int 0)))))) (.seq (.ret (.cst (.bl false)))
 .skip) .skip)
 (.seq (.ret (.call 200 (.aC (.ix (.var 12) (.cst (.int 1))) (.aC (.var 13) .aN)) []))
 .skip)) .skip)
 (.seq (.for1 14 true (.bin .LShift (.cst (.int 1)) (.len (.var 9))) YR)
 (.seq (.ret (.cst (.bl true)))
 .skip))))))))))))))))))⟩
end Dp

noncomputable section
namespace Dp
open PySem
def ZN(x:Int):Int:=(x+1000000000) % 2000000000 - 1000000000
theorem Zcg{x:Int}:-1000000000<=ZN x:=by unfold ZN;omega
theorem Zcf{x:Int}:ZN x<=999999999:=by unfold ZN;omega
def quo(a b:Int):Int:=a.fdiv b
theorem VQ{a b:Int}(h:0 < b):a / b=quo a b:=(Int.fdiv_eq_ediv_of_nonneg a (Int.le_of_lt h)).symm
theorem Zg2{a b:Int}(h:b < 0):quo a b=-a / -b:=by
 unfold quo;rw[<-Int.neg_fdiv_neg];exact Int.fdiv_eq_ediv_of_nonneg _ (by omega)
theorem Ze2{a b:Int}(h:0 < b):0<=a - b * quo a b/\a - b * quo a b < b:=by
 rw[<-VQ h];have e:=Int.emod_def a b;have h1:=Int.emod_nonneg a (show b≠0 by omega)
 have h2:=Int.emod_lt_of_pos a h;omega
theorem Ze1{a b:Int}(h:b < 0):b < a - b * quo a b/\a - b * quo a b<=0:=by
 rw[Zg2 h];have e:=Int.emod_def (-a) (-b);have h1:=Int.emod_nonneg (-a) (show -b≠0 by omega)
 have h2:=Int.emod_lt_of_pos (-a) (show 0 < -b by omega)
 rw[Int.neg_mul]at e;omega
def YE(a:Int)(s:Str)(b:Int):Int:=
 if s=S "+" then ZN (a+b) else if s=S "-" then ZN (a - b) else if s=S "*" then ZN (a * b) else
 if s=S "/" then (if b=0 then 0 else ZN (quo a b)) else if b=0 then a else a - b * quo a b
def Xs(a:Int)(s:Str)(b:Int):Bool:=
 if s=S "<" then decide (a < b) else if s=S "<=" then decide (a<=b) else if s=S "=" then decide (a=b) else if s=S ">=" then decide (b<=a) else if s=S ">" then decide (b < a) else !decide (a=b)
def Sm(a:Int):Prop:=-1000000000<=a/\a<=999999999
instance {a:Int}:Decidable (Sm a):=inferInstanceAs (Decidable (_/\_))
theorem Sm.around{x:Int}:Sm (ZN x):=⟨Zcg,Zcf⟩
theorem Sm.lim{a:Int}(h:Sm a):Z1 a=true:=QN (by have:=h.1;omega) (by have:=h.2;omega)
theorem Q2{a b:Int}{s:Str}(ha:Sm a)(hb:Sm b):Sm (YE a s b):=by
 unfold YE;split;· exact .around
 split;· exact .around
 split;· exact .around
 split
 ·split
  ·exact⟨by omega,by omega⟩
  ·exact .around
 ·split
  ·exact ha
  ·rename_i h0
   rcases Int.lt_trichotomy b 0 with h|h|h
   ·have:=Ze1 (a:=a) h
    exact⟨by have:=hb.1;omega,by omega⟩
   ·exact absurd h h0
   ·have:=Ze2 (a:=a) h
    exact⟨by omega,by have:=hb.2;omega⟩
structure NumT(T:Nat->Option FD):Prop where
 t0:T 0=some c_around
 t1:T 1=some c_divided
 t2:T 2=some c_left_over
 t3:T 3=some c_reckon
section
variable {T:Nat->Ot FD}{n:Nat}{a b x:Int}{s:Str}
theorem VU(h:T 0=some c_around):Zc T (n+1) 0 [.int x]=some (.int (ZN x)):=by
 rw[Zk (f:=c_around) h rfl rfl]
 (rw[show ZC c_around.body=[] from rfl];simp[c_around,ZN])
theorem Zcb(t:NumT T)(hb:Sm b):Zc T (n+2) 1 [.int a,.int b]=some (.int (if b=0 then 0 else ZN (quo a b))):=by
 rw[Zk (f:=c_divided) t.t1 rfl rfl];have h1:=hb.1;have h2:=hb.2;rcases Int.lt_trichotomy b 0 with h|h|h
 ·have:¬0 < b:=by omega
  (rw[show ZC c_divided.body=[] from rfl];simp[c_divided,VU t.t0,this,h,show ¬b=0 by omega,show -1073741824 < b by omega,quo])
 ·(rw[show ZC c_divided.body=[] from rfl];simp[c_divided,h])
 ·(rw[show ZC c_divided.body=[] from rfl];simp[c_divided,VU t.t0,h,show ¬b=0 by omega,show b < 1073741824 by omega,VQ h])
theorem Zh4(t:NumT T)(hb:Sm b):Zc T (n+1) 2 [.int a,.int b]=some (.int (if b=0 then a else a - b * quo a b)):=by
 rw[Zk (f:=c_left_over) t.t2 rfl rfl];have h1:=hb.1;have h2:=hb.2;rcases Int.lt_trichotomy b 0 with h|h|h
 ·have:¬0 < b:=by omega
  (rw[show ZC c_left_over.body=[] from rfl];simp[c_left_over,this,h,show ¬b=0 by omega,show -1073741824 < b by omega,hb.lim,quo])
 ·(rw[show ZC c_left_over.body=[] from rfl];simp[c_left_over,h])
 ·(rw[show ZC c_left_over.body=[] from rfl];simp[c_left_over,h,show ¬b=0 by omega,show b < 1073741824 by omega,hb.lim,VQ h])
theorem Zc4(t:NumT T)(ha:Sm a)(hb:Sm b):Zc T (n+3) 3 [.int a,.str s,.int b]=some (.int (YE a s b)):=by
 rw[Zk (f:=c_reckon) t.t3 rfl rfl];unfold YE
 (rw[show ZC c_reckon.body=[] from rfl];simp[c_reckon,VU t.t0,Zcb t hb,Zh4 t hb,ha.lim])
 split;· rfl
 split;· rfl
 split;· rfl
 split<;>rfl
theorem ZfC(h:T 4=some c_is_so):Zc T (n+1) 4 [.int a,.str s,.int b]=some (.bl (Xs a s b)):=by
 rw[Zk (f:=c_is_so) h rfl rfl];unfold Xs
 (rw[show ZC c_is_so.body=[] from rfl];simp[c_is_so])
 split;· rfl
 split;· rfl
 split;· rfl
 split;· rfl
 split<;>rfl
end
end Dp


namespace Dp
open PySem
section
variable {T:Nat->Ot FD}{n:Nat}{a b c x:Int}{s:Str}
end
end Dp


namespace Dp
open PySem
inductive Opd where
 |name (i:Nat)|num (c:Int)
inductive Row where
 |put (x:Nat) (y:Opd) (s:Str) (z:Opd)|ifr (y:Opd) (s:Str) (z:Opd) (t:Nat)|go (t:Nat)|tell (y:Opd)|skip
def ZH:Opd->P
 |.name i=>.tup [.str (S "name"),.int (i:Int)]
 |.num c=>.tup [.str (S "number"),.int c]
def Zf:Row->P
 |.put x y s z=>.tup [.str (S "put"),.int (x:Int),ZH y,.str s,ZH z]
 |.ifr y s z t=>.tup [.str (S "if"),ZH y,.str s,ZH z,.int (t:Int)]
 |.go t=>.tup [.str (S "go"),.int (t:Int)]
 |.tell y=>.tup [.str (S "tell"),ZH y]
 |.skip=>.tup [.str (S "skip")]
structure Prog where
 takes:P
 many:Nat
 rows:List Row
def ZA(p:Prog):P:=.tup [p.takes,.int (p.many:Int),.tup (p.rows.map Zf)]
abbrev StM:=Nat×Li Int
def Zx(vs:Li Int):P:=.tup (vs.map .int)
def YH(s:StM):P:=.tup [.int (s.1:Int),Zx s.2]
inductive Out where
 |none|told (v:Int)|late
def Zd:Out->P
 |.none=>.tup [.str (S "none")]
 |.told v=>.tup [.str (S "told"),.int v]
 |.late=>.tup [.str (S "late")]
def Xb(m:Nat):Opd->Prop
 |.name i=>i < m
 |.num c=>Sm c
def Zbg(m n:Nat):Row->Prop
 |.put x y _ z=>x < m/\Xb m y/\Xb m z
 |.ifr y _ z t=>Xb m y/\Xb m z/\t<=n
 |.go t=>t<=n
 |.tell y=>Xb m y
 |.skip=>True
structure ProgOk(p:Prog):Prop where
 rows:∀ r∈p.rows,Zbg p.many p.rows.length r
 many:p.many<=100
 size:p.rows.length<=100
structure VsOk(m:Nat)(vs:List Int):Prop where
 len:vs.length=m
 sm:∀ v∈vs,Sm v
def Zq(vs:Li Int):Opd->Int
 |.name i=>vs.getD i 0
 |.num c=>c
theorem Xz{m:Nat}{vs:Li Int}{o:Opd}(h:VsOk m vs)(ho:Xb m o):Sm (Zq vs o):=by
 cases o with
 |name i=>
  have hi:i < vs.length:=by rw[h.len];exact ho
  show Sm (vs.getD i 0);rw[List.getD_eq_getElem?_getD,Lg hi];exact h.sm _ (List.getElem_mem hi)
 |num c=>exact ho
def W4(vs:Li Int):Row->Li Int
 |.put x y s z=>vs.set x (YE (Zq vs y) s (Zq vs z))
 |_=>vs
def Ul(k:Nat)(vs:Li Int):Row->Nat
 |.go t=>t
 |.ifr y s z t=>if Xs (Zq vs y) s (Zq vs z)=true then t else k+1
 |_=>k+1
inductive Thing where
 |st (s:StM)|out (o:Out)
def XR:Thing->P
 |.st s=>YH s
 |.out o=>Zd o
def Yi(rows:Li Row)(s:StM):Thing:=match rows[s.1]? with
 |Option.none=>.out .none
 |some (.tell y)=>.out (.told (Zq s.2 y))
 |some r=>.st (Ul s.1 s.2 r,W4 s.2 r)
structure StOkM(p:Prog)(s:StM):Prop where
 k:s.1<=p.rows.length
 vs:VsOk p.many s.2
theorem Jb{p:Prog}{s s':StM}(hp:ProgOk p)(h:StOkM p s)(e:Yi p.rows s=.st s'):StOkM p s':=by
 unfold Yi at e;split at e
 ·cases e
 ·cases e
 ·rename_i r hn hr
  have ro:=hp.rows r (List.mem_of_getElem? hr);have hk:s.1 < p.rows.length:=(List.getElem?_eq_some_iff.mp hr).1;cases e;refine⟨?_,?_⟩
  ·cases r with
   |go t=>exact ro
   |ifr y z w t=>
    show(if _ then t else s.1+1)<=_
    split
    ·exact ro.2.2
    ·exact hk
   |_=>exact hk
  ·cases r with
   |put x y z w=>
    refine⟨by show(List.set _ _ _).length=_;rw[List.length_set];exact h.vs.len,fun v hv=>?_⟩
    rcases List.mem_or_eq_of_mem_set hv with hv|hv
    ·exact h.vs.sm v hv
    ·rw[hv]
     exact Q2 (Xz h.vs ro.2.1) (Xz h.vs ro.2.2)
   |_=>exact h.vs
def ZU(rows:Li Row):Nat->StM->Li StM×Ot Out×StM
 |0,s=>([],Option.none,s)
 |l+1,s=>match Yi rows s with
  |.out o=>([],some o,s)
  |.st s'=>(s' :: (ZU rows l s').1,(ZU rows l s').2)
def ZdA(rows:Li Row)(s:StM):Out:=if rows.length<=s.1 then .none else .late
def QW(rows:Li Row)(l:Nat)(s:StM):Out:=match (ZU rows l s).2.1 with
 |some o=>o
 |Option.none=>ZdA rows (ZU rows l s).2.2
def Je(rows:Li Row)(l:Nat)(s:StM):Li Thing:=.st s :: ((ZU rows l s).1.map .st++[.out (QW rows l s)])
def ZE(p:Prog)(ins:Li Int):StM:=(0,ins++List.replicate (p.many - ins.length) 0)
theorem Zan{p:Prog}{ins:Li Int}(h:ins.length<=p.many)(hs:∀ v∈ins,Sm v):StOkM p (ZE p ins):=
 ⟨Nat.zero_le _,by show(ins++_).length=_;simp;omega,fun v hv=>by
  rcases List.mem_append.mp hv with hv|hv
  ·exact hs v hv
  ·rw[(List.mem_replicate.mp hv).2];exact⟨by omega,by omega⟩⟩
structure MoveT(T:Nat->Option FD):Prop where
 num:NumT T
 t4:T 4=some c_is_so
 t5:T 5=some c_worth
 t7:T 7=some c_at_end
 t8:T 8=some c_values_behind
 t9:T 9=some c_place_behind
 t10:T 10=some c_moved
 t42:T 42=some c_replaced
structure MachT(T:Nat->Option FD):Prop extends MoveT T where
 t6:T 6=some c_began
section
variable {T:Nat->Ot FD}{n:Nat}{p:Prog}{s:StM}{vs:Li Int}{o:Opd}{r:Row}{k m:Nat}{ins:Li Int}
theorem Qu(h:T 5=some c_worth)(ho:Xb vs.length o):Zc T (n+1) 5 [ZH o,Zx vs]=some (.int (Zq vs o)):=by
 rw[Zk (f:=c_worth) h rfl rfl];cases o with
 |name i=>
  have hi:i < vs.length:=ho
  (rw[show ZC c_worth.body=[] from rfl];simp[c_worth,ZH,Zx,Zq,hi])
 |num c=>(rw[show ZC c_worth.body=[] from rfl];simp[c_worth,ZH,Zq])
theorem ZfB(h:T 6=some c_began)(h1:ins.length<=p.many)(h2:p.many<=100):Zc T (n+1) 6 [ZA p,Zx ins]=some (YH (ZE p ins)):=by
 rw[Zk (f:=c_began) h rfl rfl];have e:((p.many:Int) - (ins.length:Int)).toNat=p.many - ins.length:=by omega
 (rw[show ZC c_began.body=[] from rfl];simp[c_began,ZA,Zx,YH,ZE,Zp,e])
 omega
theorem Jh(h:T 7=some c_at_end):Zc T (n+1) 7 [ZA p,YH s]=some (.bl (decide (p.rows.length<=s.1))):=by
 rw[Zk (f:=c_at_end) h rfl rfl]
 (rw[show ZC c_at_end.body=[] from rfl];simp[c_at_end,ZA,YH])
theorem Ziv{xs:Li P}{x:Nat}(h:x<=xs.length):XY xs Option.none (some (x:Int))=xs.take x:=by
 unfold XY;have e:sIx xs.length xs.length (some (x:Int))=x:=by
  show(if (x:Int) < 0 then ((x:Int)+(xs.length:Int)).toNat else Nat.min ((x:Int)).toNat xs.length)=_
  rw[if_neg (by omega)]
  exact Nat.min_eq_left h
 rw[e];rfl
theorem Ziu{xs:Li P}{x:Nat}(h:x<=xs.length):XY xs (some (x:Int)) Option.none=xs.drop x:=by
 unfold XY;have e:sIx xs.length 0 (some (x:Int))=x:=by
  show(if (x:Int) < 0 then ((x:Int)+(xs.length:Int)).toNat else Nat.min ((x:Int)).toNat xs.length)=_
  rw[if_neg (by omega)]
  exact Nat.min_eq_left h
 rw[e];show((xs.drop x).take (xs.length - x))=_;rw[List.take_of_length_le (by simp)]
theorem Zai{xs:Li P}{x:Nat}(h:x < xs.length):Yt (.tup xs) Option.none (some (x:Int))=some (.tup (xs.take x)):=by
 show(if sIx xs.length 0 Option.none=0/\sIx xs.length xs.length (some (x:Int))=xs.length then some (P.tup xs) else some (P.tup (XY xs Option.none (some (x:Int)))))=_
 have e:sIx xs.length xs.length (some (x:Int))=x:=by
  show(if (x:Int) < 0 then ((x:Int)+(xs.length:Int)).toNat else Nat.min ((x:Int)).toNat xs.length)=_
  rw[if_neg (by omega)]
  exact Nat.min_eq_left (by omega)
 rw[if_neg (by rw[e];omega),Ziv (by omega)]
theorem Zah{xs:Li P}{x:Nat}(h:x < xs.length):Yt (.tup xs) (some ((x:Int)+1)) Option.none=some (.tup (xs.drop (x+1))):=by
 rw[show(x:Int)+1=((x+1:Nat):Int) by omega]
 show(if sIx xs.length 0 (some ((x+1:Nat):Int))=0/\sIx xs.length xs.length Option.none=xs.length then some (P.tup xs) else some (P.tup (XY xs (some ((x+1:Nat):Int)) Option.none)))=_
 have e:sIx xs.length 0 (some ((x+1:Nat):Int))=x+1:=by
  show(if ((x+1:Nat):Int) < 0 then (((x+1:Nat):Int)+(xs.length:Int)).toNat else Nat.min (((x+1:Nat):Int)).toNat xs.length)=_
  rw[if_neg (by omega)]
  exact Nat.min_eq_left (by omega)
 rw[if_neg (by rw[e];omega),Ziu (by omega)]
theorem VV{xs:Li P}{x:Nat}{q:P}(t:T 42=some c_replaced)(hx:x < xs.length)(hl:xs.length<=1000):Zc T (n+1) 42 [.tup xs,.int (x:Int),q]=some (.tup (xs.set x q)):=by
 rw[Zk (f:=c_replaced) t rfl rfl];have s1:=Zai (xs:=xs) (x:=x) hx;have s2:=Zah (xs:=xs) (x:=x) hx
 (rw[show ZC c_replaced.body=[] from rfl];simp[c_replaced,s1,s2,Zp,show min x xs.length+1+(xs.length - (x+1))<=1000000 by omega,show min x xs.length+1<=1000000 by omega])
 rw[List.set_eq_take_append_cons_drop,if_pos hx]
theorem Zc5(t:MoveT T)(hv:VsOk m vs)(hm:m<=100)(hr:Zbg m k r):Zc T (n+4) 8 [Zf r,Zx vs]=some (Zx (W4 vs r)):=by
 rw[Zk (f:=c_values_behind) t.t8 rfl rfl];cases r with
 |put x y s z=>
  have hx:x < vs.length:=by rw[hv.len];exact hr.1
  have w:∀ j o,Xb m o->Zc T (j+1) 5 [ZH o,Zx vs]=some (.int (Zq vs o)):=fun j o ho=>Qu t.t5 (by rw[hv.len];exact ho)
  have re:∀ j,Zc T (j+3) 3 [.int (Zq vs y),.str s,.int (Zq vs z)]=some (.int (YE (Zq vs y) s (Zq vs z))):=fun j=>Zc4 t.num (Xz hv hr.2.1) (Xz hv hr.2.2)
  have hl:=hv.len;have rp:Zc T (n+3) 42 [Zx vs,.int (x:Int),.int (YE (Zq vs y) s (Zq vs z))]=some (.tup ((vs.map P.int).set x (.int (YE (Zq vs y) s (Zq vs z))))):=VV (n:=n+2) t.t42 (by simpa using hx) (by simp;omega)
  (rw[show ZC c_values_behind.body=[] from rfl];simp[c_values_behind,Zf,w _ _ hr.2.1,w _ _ hr.2.2,re])
  rw[rp];simp[W4,Zx,List.map_set]
 |ifr y s z t=>(rw[show ZC c_values_behind.body=[] from rfl];simp[c_values_behind,Zf,W4])
 |go t=>(rw[show ZC c_values_behind.body=[] from rfl];simp[c_values_behind,Zf,W4])
 |tell y=>(rw[show ZC c_values_behind.body=[] from rfl];simp[c_values_behind,Zf,W4])
 |skip=>(rw[show ZC c_values_behind.body=[] from rfl];simp[c_values_behind,Zf,W4])
theorem Q5{o:Ot PFl}{v:P}(h:o=some (.rt v)):Yn o=some v:=by rw[h];rfl
theorem ZI{F:PFn}{M:Li Nat}{c e:CE}{r:CS}{π:Zr}{v:P}(h:pe F c π=some (.bl true))(he:pe F e π=some v):px F M (.seq (.ite c (.seq (.ret e) .skip) .skip) r) π=some (.rt v):=by
 rw[Zi,YN,h,Yb,if_pos rfl,Zi,Vo,he];rfl
theorem Zy{F:PFn}{M:Li Nat}{c:CE}{a r:CS}{π:Zr}(h:pe F c π=some (.bl false)):px F M (.seq (.ite c a .skip) r) π=px F M r π:=by
 rw[Zi,YN,h,Yb,if_neg Bf,Zu,Zg]
theorem YJ{F:PFn}{k:Nat}{e:CE}{r:CS}{π:Zr}{v:P}(h:pe F e π=some v):px F [] (.seq (.set k e) r) π=px F [] r (Zo π k v):=by
 rw[Zi,Xf,h,Ob,Zg]
theorem ZQ{F:PFn}{M:Li Nat}{e:CE}{r:CS}{π:Zr}{v:P}(h:pe F e π=some v):px F M (.seq (.ret e) r) π=some (.rt v):=by
 rw[Zi,Vo,h];rfl
theorem ZfE(t:MoveT T)(hv:VsOk m vs)(hr:Zbg m p.rows.length r):Zc T (n+2) 9 [Zf r,.int (k:Int),Zx vs]=some (.int (Ul k vs r:Int)):=by
 rw[Zk (f:=c_place_behind) t.t9 rfl rfl];refine Q5 ?_;cases r with
 |ifr y s z t'=>
  have w:∀ o,Xb m o->Zc T (n+1) 5 [ZH o,Zx vs]=some (.int (Zq vs o)):=fun o ho=>Qu t.t5 (by rw[hv.len];exact ho)
  have so:Zc T (n+1) 4 [.int (Zq vs y),.str s,.int (Zq vs z)]=some (.bl (Xs (Zq vs y) s (Zq vs z))):=ZfC t.t4;have c:pe (Zc T (n+1)) (.and (.cmp .Eq (.ix (.var 0) (.cst (.int 0))) (.cst (.str (S "if")))) (.call 4 (.aC (.call 5 (.aC (.ix (.var 0) (.cst (.int 1))) (.aC (.var 2) .aN)) []) (.aC (.ix (.var 0) (.cst (.int 2))) (.aC (.call 5 (.aC (.ix (.var 0) (.cst (.int 3))) (.aC (.var 2) .aN)) []) .aN))) [])) [some (.tup [.str (S "if"),ZH y,.str s,ZH z,.int (t':Int)]),some (.int (k:Int)),some (Zx vs)]=some (.bl (Xs (Zq vs y) s (Zq vs z))):=by
   simp[w _ hr.1,w _ hr.2.1,so]
  rw[show Ul k vs (.ifr y s z t')=if Xs (Zq vs y) s (Zq vs z)=true then t' else k+1 from rfl]
  cases q:Xs (Zq vs y) s (Zq vs z) with
  |true=>rw[q]at c;exact(Zy rfl).trans (ZI c rfl)
  |false=>rw[q]at c;exact(Zy rfl).trans ((Zy c).trans (ZQ rfl))
 |go t=>exact ZI rfl rfl
 |_=>exact(Zy rfl).trans ((Zy rfl).trans (ZQ rfl))
theorem ZfD(t:MoveT T)(hp:ProgOk p)(hs:StOkM p s):Zc T (n+5) 10 [ZA p,YH s]=some (XR (Yi p.rows s)):=by
 rw[Zk (f:=c_moved) t.t10 rfl rfl];have ae:Zc T (n+4) 7 [ZA p,YH s]=some (.bl (decide (p.rows.length<=s.1))):=Jh t.t7;unfold Yi;by_cases hk:p.rows.length<=s.1
 ·rw[List.getElem?_eq_none hk]
  exact Q5 (ZI (by exact ae.trans (by rw[decide_eq_true hk])) rfl)
 ·obtain⟨r,hr⟩:∃ r,p.rows[s.1]?=some r:=⟨_,Lg (Nat.lt_of_not_le hk)⟩
  have ro:=hp.rows r (List.mem_of_getElem? hr);have pl:Zc T (n+4) 9 [Zf r,.int (s.1:Int),Zx s.2]=some (.int (Ul s.1 s.2 r:Int)):=ZfE (p:=p) (n:=n+2) t hs.vs ro;have va:Zc T (n+4) 8 [Zf r,Zx s.2]=some (Zx (W4 s.2 r)):=Zc5 t hs.vs hp.many ro;have ir:atP (p.rows.map Zf) (s.1:Int)=some (Zf r):=by rw[YW rfl,List.getElem?_map,hr];rfl
  rw[hr];refine Q5 ((Zy (by exact ae.trans (by rw[decide_eq_false hk]))).trans ((YJ (v:=.int (s.1:Int)) rfl).trans ((YJ (v:=Zx s.2) rfl).trans ((YJ (v:=Zf r) (by exact ir)).trans ?_))))
  have fin:∀ {q:CS},px (Zc T (n+4)) [] (.seq (.ret (.tupE (.aC (.call 9 (.aC (.var 4) (.aC (.var 2) (.aC (.var 3) .aN))) []) (.aC (.call 8 (.aC (.var 4) (.aC (.var 3) .aN)) []) .aN)))) q) [some (ZA p),some (YH s),some (.int (s.1:Int)),some (Zx s.2),some (Zf r)]=some (.rt (.tup [.int (Ul s.1 s.2 r:Int),Zx (W4 s.2 r)])):=ZQ (by simp[pl,va])
  cases r with
  |tell y=>
   have w:Zc T (n+4) 5 [ZH y,Zx s.2]=some (.int (Zq s.2 y)):=Qu t.t5 (by rw[hs.vs.len];exact ro)
   have e:pe (Zc T (n+4)) (.tupE (.aC (.cst (.str (S "told"))) (.aC (.call 5 (.aC (.ix (.var 4) (.cst (.int 1))) (.aC (.var 3) .aN)) []) .aN))) [some (ZA p),some (YH s),some (.int (s.1:Int)),some (Zx s.2),some (.tup [.str (S "tell"),ZH y])]=some (XR (.out (.told (Zq s.2 y)))):=by simp[XR,Zd,w]
   exact ZI rfl e
  |_=>exact(Zy rfl).trans fin
def Vu:Thing->Bool
 |.st _=>false
 |.out _=>true
theorem Qt(h:T 11=some c_is_outcome){th:Thing}:Zc T (n+1) 11 [XR th]=some (.bl (Vu th)):=by
 rw[Zk (f:=c_is_outcome) h rfl rfl];cases th with
 |st s=>(rw[show ZC c_is_outcome.body=[] from rfl];simp[c_is_outcome,XR,YH,Vu])
 |out o=>cases o<;>(rw[show ZC c_is_outcome.body=[] from rfl];simp[c_is_outcome,XR,Zd,Vu])
theorem Ux(t:MachT T)(t11:T 11=some c_is_outcome)(hp:ProgOk p){x1 x2:Ot P}:∀ {xs:Li P}{s:StM}{ths:Li P}{x5 x6:Ot P},StOkM p s->ths.length+xs.length < 1000->
  (∀ o,(ZU p.rows xs.length s).2.1=some o->ZB (fun d π=>px (Zc T (n+6)) [4,4] Y5 (Zo π 5 d)) xs [some (ZA p),x1,x2,some (YH s),some (.lst true ths),x5,x6]=some (.rt (.tup (ths++(ZU p.rows xs.length s).1.map YH++[Zd o])))) /\
  ((ZU p.rows xs.length s).2.1=Option.none->∃ y5 y6,ZB (fun d π=>px (Zc T (n+6)) [4,4] Y5 (Zo π 5 d)) xs [some (ZA p),x1,x2,some (YH s),some (.lst true ths),x5,x6]=some (.nx [some (ZA p),x1,x2,some (YH (ZU p.rows xs.length s).2.2),some (.lst true (ths++(ZU p.rows xs.length s).1.map YH)),y5,y6]))
 |[],s,ths,x5,x6,_,_=>⟨fun o h=>(by cases h),fun _=>⟨x5,x6,by rw[X6];simp[ZU]⟩⟩
 |x :: xs,s,ths,x5,x6,hs,hl=>by
  have mv:=ZfD (n:=n+1) t.toMoveT hp hs;have io:Zc T (n+6) 11 [XR (Yi p.rows s)]=some (.bl (Vu (Yi p.rows s))):=Qt t11;have hl':ths.length+xs.length+1 < 1000:=by simpa[Nat.add_assoc] using hl
  have body:px (Zc T (n+6)) [4,4] Y5 [some (ZA p),x1,x2,some (YH s),some (.lst true ths),some x,x6]=(if Vu (Yi p.rows s)=true then some (.rt (.tup (ths++[XR (Yi p.rows s)]))) else some (.nx [some (ZA p),x1,x2,some (XR (Yi p.rows s)),some (.lst true (ths++[XR (Yi p.rows s)])),some x,some (XR (Yi p.rows s))])):=by
   have k1:∀ x,Zv [4,4] (.call 10 (.aC (.var 0) (.aC (.var 3) .aN)) []) x=true:=fun _=>rfl
   have k2:∀ x,Zv [4,4] (.var 6) x=true:=fun _=>rfl
   unfold Y5;simp only[Zi];rw[Q0];simp[mv,k1];rw[ZaY (xs:=ths) rfl];simp[k2,io,show ths.length < Zp by unfold Zp;omega]
   cases Vu (Yi p.rows s) with
   |true=>simp
   |false=>rw[Q0];simp[k2]
  rw[ZF];have e0:Zo [some (ZA p),x1,x2,some (YH s),some (.lst true ths),x5,x6] 5 x=[some (ZA p),x1,x2,some (YH s),some (.lst true ths),some x,x6]:=rfl;rw[e0,body];cases hst:Yi p.rows s with
  |out o=>
   have e1:ZU p.rows (x :: xs).length s=([],some o,s):=by
    show(match Yi p.rows s with
     |.out o=>([],some o,s)
     |.st s'=>(s' :: (ZU p.rows xs.length s').1,(ZU p.rows xs.length s').2))=_
    rw[hst]
   rw[e1];refine⟨fun o' h=>?_,fun h=>by cases h⟩
   cases h;simp[Vu,XR]
  |st s'=>
   have e1:ZU p.rows (x :: xs).length s=(s' :: (ZU p.rows xs.length s').1,(ZU p.rows xs.length s').2):=by
    show(match Yi p.rows s with
     |.out o=>([],some o,s)
     |.st s'=>(s' :: (ZU p.rows xs.length s').1,(ZU p.rows xs.length s').2))=_
    rw[hst]
   rw[e1];have ih:=Ux t t11 hp (x1:=x1) (x2:=x2) (xs:=xs) (s:=s') (ths:=ths++[YH s']) (x5:=some x) (x6:=some (YH s')) (Jb hp hs hst) (by simp;omega)
   simp only[Vu,Bool.false_eq_true,if_false,Yd,XR];refine⟨fun o h=>?_,fun h=>?_⟩
   ·rw[ih.1 o h]
    simp
   ·obtain⟨y5,y6,e⟩:=ih.2 h
    exact⟨y5,y6,by rw[e];simp⟩
theorem Zab{rows:Li Row}:∀ {l:Nat}{s:StM},((ZU rows l s).1).length<=l
 |0,_=>Nat.le_refl _
 |l+1,s=>by
  show((match Yi rows s with
   |.out o=>([],some o,s)
   |.st s'=>(s' :: (ZU rows l s').1,(ZU rows l s').2)):Li StM×Ot Out×StM).1.length<=l+1
  split
  ·exact Nat.zero_le _
  ·exact Nat.succ_le_succ Zab
structure TrailT(T:Nat->Option FD):Prop extends MachT T where
 t11:T 11=some c_is_outcome
 t12:T 12=some c_trail
theorem ZfF(t:TrailT T)(hp:ProgOk p)(h1:ins.length<=p.many)(hs:∀ v∈ins,Sm v){l:Nat}(hl:l<=900) :
  Zc T (n+7) 12 [ZA p,Zx ins,.int (l:Int)]=some (.tup ((Je p.rows l (ZE p ins)).map XR)):=by
 rw[Zk (f:=c_trail) t.t12 rfl rfl];have hm:ZC c_trail.body=[4,4]:=rfl;rw[hm];have bg:=ZfB (n:=n+5) t.t6 h1 hp.many;have so:=Zan (p:=p) h1 hs;have ae:∀ j s,Zc T (j+1) 7 [ZA p,YH s]=some (.bl (decide (p.rows.length<=s.1))):=fun j s=>Jh t.t7
 have lp:=Ux (n:=n) t.toMachT t.t11 hp (x1:=some (Zx ins)) (x2:=some (.int (l:Int))) (xs:=ZO (l:Int)) (s:=ZE p ins) (ths:=[YH (ZE p ins)]) (x5:=Option.none) (x6:=Option.none) so (by simp[ZO];omega)
 have rl:(ZO (l:Int)).length=l:=by simp[ZO]
 rw[rl]at lp;have pre:px (Zc T (n+6)) [4,4] c_trail.body ([ZA p,Zx ins,.int (l:Int)].map some++List.replicate (c_trail.ns - [ZA p,Zx ins,.int (l:Int)].length) Option.none) =
   Xy (ZB (fun d π=>px (Zc T (n+6)) [4,4] Y5 (Zo π 5 d)) (ZO (l:Int)) [some (ZA p),some (Zx ins),some (.int (l:Int)),some (YH (ZE p ins)),some (.lst true [YH (ZE p ins)]),Option.none,Option.none]) (px (Zc T (n+6)) [4,4] (.seq (.app 4 (.ife (.call 7 (.aC (.var 0) (.aC (.var 3) .aN)) []) (.tupE (.aC (.cst (.str (S "none"))) .aN)) (.tupE (.aC (.cst (.str (S "late"))) .aN)))) (.seq (.ret (.tOf (.var 4))) .skip))):=by
  show px (Zc T (n+6)) [4,4] c_trail.body [some (ZA p),some (Zx ins),some (.int (l:Int)),Option.none,Option.none,Option.none,Option.none]=_;unfold c_trail;rw[Zi,ZL (p:=YH (ZE p ins)) (by simp[bg]) rfl rfl,Zg,Zi,XJ (p:=.lst true [YH (ZE p ins)]) (by simp) rfl rfl,Zg,Zi]
  simp only[Zm,Zl];rw[ZbT (n:=(l:Int)) (by simp) (by omega) (by omega) rfl]
 rw[pre];unfold Je QW;cases q:(ZU p.rows l (ZE p ins)).2.1 with
 |some o=>
  rw[lp.1 o q];simp[XR]
 |none=>
  obtain⟨y5,y6,e⟩:=lp.2 q;rw[e];simp only[Zg,Zi];rw[ZaY (xs:=[YH (ZE p ins)]++(ZU p.rows l (ZE p ins)).1.map YH) rfl];have hz:((ZU p.rows l (ZE p ins)).1).length<=l:=Zab;have k1:∀ x,Zv [4,4] (.ife (.call 7 (.aC (.var 0) (.aC (.var 3) .aN)) []) (.tupE (.aC (.cst (.str (S "none"))) .aN)) (.tupE (.aC (.cst (.str (S "late"))) .aN))) x=true:=fun _=>rfl
  by_cases he:p.rows.length<=(ZU p.rows l (ZE p ins)).2.2.1
  ·simp[ae,he,k1,ZdA,XR,Zd,show((ZU p.rows l (ZE p ins)).1).length+1 < Zp by unfold Zp;omega]
  ·simp[ae,he,k1,ZdA,XR,Zd,show((ZU p.rows l (ZE p ins)).1).length+1 < Zp by unfold Zp;omega]
structure SeenT(T:Nat->Option FD):Prop extends TrailT T where
 t13:T 13=some c_outcome
 t14:T 14=some UG
 t15:T 15=some Zip
 t43:T 43=some c_bit_of
 t44:T 44=some Zcm
theorem Zba{rows:Li Row}{l:Nat}{s:StM}:(Je rows l s).getLast?=some (.out (QW rows l s)):=by
 unfold Je;rw[<-List.cons_append,List.getLast?_concat]
theorem Zdx{o:Out}:XR (.out o)=Zd o:=rfl
theorem Zdi{F:PFn}{x0 y:Ot P}{b i:Int}(lm:Z1 b=true):px F [] XB (Zo [x0,some (.int b),y] 2 (.int i))=some (.nx [x0,some (.int (b * 2)),some (.int i)]):=by
 simp[XB,lm]
theorem Zdg{F:PFn}{k:Nat}(hk:k<=60):px F [] c_bit_of.body [some (.int (k:Int)),Option.none,Option.none]=some (.rt (.int ((2:Int) ^ k))):=by
 obtain⟨π',e,y,h⟩:=XI (B:=fun d π=>px F [] XB (Zo π 2 d)) (fun i π=>∃ y,π=[some (.int (k:Int)),some (.int ((2:Int) ^ i)),y]) (m:=k) (π:=[some (.int (k:Int)),some (.int ((2:Int) ^ 0)),Option.none]) (fun i hi π h=>by
  obtain⟨y,rfl⟩:=h;have lm:Z1 ((2:Int) ^ i)=true:=ZgY i (by omega)
  exact⟨_,Zdi lm,some (.int (i:Int)),by rw[Int.pow_succ]⟩) ⟨_,rfl⟩
 subst h;rw[Int.pow_zero]at e;unfold c_bit_of;rw[Zi,Xf,Z0,ZK,Ob,Zg,Zi,Wn (n:=k) (by simp) (by omega) rfl]
 simp only[Zm,Zl];rw[e,Zg];simp
end
end Dp


namespace Dp
open PySem
end Dp


namespace Dp
open PySem
def eqO:Opd->Opd->Bool
 |.name i,.name j=>decide (i=j)
 |.num c,.num d=>decide (c=d)
 |_,_=>false
theorem Zkn{a b:Opd}:WM (ZH a) (ZH b)=eqO a b:=by
 cases a<;>cases b<;>simp[ZH,eqO,WM,XU]
 omega
structure MadeT(T:Nat->Option FD):Prop where
 num:NumT T
 t4:T 4=some c_is_so
 t42:T 42=some c_replaced
 t73:T 73=some UF
 t74:T 74=some V0
 t75:T 75=some VZ
 t76:T 76=some Wq
 t77:T 77=some Zax
 t78:T 78=some WR
 t79:T 79=some Qy
 t80:T 80=some Zcn
 t81:T 81=some V1
 t82:T 82=some Zcl
 t83:T 83=some Zay
section
variable {T:Nat->Ot FD}{n:Nat}{y z:Opd}{s:Str}{x t k:Nat}
theorem Zix:Zf (.put x y s z)=.tup [.str (S "put"),.int (x:Int),ZH y,.str s,ZH z]:=rfl
theorem Zkx:Zf (.ifr y s z t)=.tup [.str (S "if"),ZH y,.str s,ZH z,.int (t:Int)]:=rfl
def PSg(s:Str):Prop:=s=S "+"\/s=S "-"\/s=S "*"\/s=S "/"\/s=S "mod"
def ISg(s:Str):Prop:=s=S "<"\/s=S "<="\/s=S "="\/s=S ">="\/s=S ">"\/s=S "!="
def OSm:Opd->Prop
 |.num c=>Sm c
 |.name _=>True
def RSg:Row->Prop
 |.put _ y s z=>PSg s/\OSm y/\OSm z
 |.ifr _ s _ _=>ISg s
 |_=>True
end
end Dp


namespace Dp
open PySem
def sgA(i:Int):Str:=([S "+",S "-",S "*",S "/",S "mod"]:Li Str).getD i.toNat (S "+")
def sgB(i:Int):Str:=([S "<",S "<=",S "=",S ">=",S ">",S "!="]:Li Str).getD i.toNat (S "<")
theorem ZjG(i:Int):PSg (sgA i):=by
 unfold sgA;rcases h:i.toNat with _|_|_|_|_|k
 ·exact .inl rfl
 ·exact .inr (.inl rfl)
 ·exact .inr (.inr (.inl rfl))
 ·exact .inr (.inr (.inr (.inl rfl)))
 ·exact .inr (.inr (.inr (.inr rfl)))
 ·exact .inl (by simp[List.getD])
theorem ZjH(i:Int):ISg (sgB i):=by
 unfold sgB;rcases h:i.toNat with _|_|_|_|_|_|k
 ·exact .inl rfl
 ·exact .inr (.inl rfl)
 ·exact .inr (.inr (.inl rfl))
 ·exact .inr (.inr (.inr (.inl rfl)))
 ·exact .inr (.inr (.inr (.inr (.inl rfl))))
 ·exact .inr (.inr (.inr (.inr (.inr rfl))))
 ·exact .inl (by simp[List.getD])
theorem ZeA{m:Nat}{o:Opd}(h:Xb m o):OSm o:=by
 cases o with
 |name i=>trivial
 |num c=>exact h
structure RowT(T:Nat->Option FD):Prop where
 t18:T 18=some XV
 t27:T 27=some WB
 t71:T 71=some WQ
 t84:T 84=some WC
 t72:T 72=some UE
section
variable {T:Nat->Ot FD}{n:Nat}{c c0 c1 c2 c3:Int}{m many at_:Nat}{b:Bool}
theorem r5(c:Int):c % 5=0\/c % 5=1\/c % 5=2\/c % 5=3\/c % 5=4:=by omega
theorem r6(c:Int):c % 6=0\/c % 6=1\/c % 6=2\/c % 6=3\/c % 6=4\/c % 6=5:=by omega
theorem ZlR:atP [.str (S "+"),.str (S "-"),.str (S "*"),.str (S "/"),.str (S "mod")] (c % 5)=some (.str (sgA (c % 5))):=by
 rcases r5 c with h|h|h|h|h<;>rw[h]<;>rfl
theorem ZlS:atP [.str (S "<"),.str (S "<="),.str (S "="),.str (S ">="),.str (S ">"),.str (S "!=")] (c % 6)=some (.str (sgB (c % 6))):=by
 rcases r6 c with h|h|h|h|h|h<;>rw[h]<;>rfl
end
end Dp


namespace Dp
open PySem
section
variable {T:Nat->Ot FD}{n:Nat}{a:Int}{s:Str}{y:Opd}
end
end Dp


namespace Dp
open PySem
structure LawOT(T:Nat->Option FD):Prop where
 t34:T 34=some c__law_worth
 t89:T 89=some c__law_round
 t187:T 187=some c__law_sum
 t33:T 33=some c__law_so_k55
 t188:T 188=some c__law_outcome
section
variable {T:Nat->Ot FD}{n:Nat}{F:PFn}{p:Prog}{s:StM}{vs:Li Int}{o:Opd}{r:Row}{k m:Nat}{ins:Li Int}{a b:Int}{sg:Str}
theorem Jl{M:Li Nat}{c:CE}{a b q:CS}{π π':Zr}(h:pe F c π=some (.bl true))(ha:px F M a π=some (.nx π')):px F M (.seq (.ite c a b) q) π=px F M q π':=by
 rw[Zi,YN,h,Yb,if_pos rfl,ha,Zg]
theorem ZfA(h:T 34=some c__law_worth)(ho:Xb vs.length o):Zc T (n+1) 34 [ZH o,.lst true (vs.map .int)]=some (.int (Zq vs o)):=by
 rw[Zk (f:=c__law_worth) h rfl rfl];cases o with
 |name i=>
  have hi:i < vs.length:=ho
  (rw[show ZC c__law_worth.body=[] from rfl];simp[c__law_worth,ZH,Zq,hi])
 |num c=>(rw[show ZC c__law_worth.body=[] from rfl];simp[c__law_worth,ZH,Zq])
theorem Zfz(h:T 89=some c__law_round):Zc T (n+1) 89 [.int a]=some (.int (ZN a)):=by
 rw[Zk (f:=c__law_round) h rfl rfl]
 (rw[show ZC c__law_round.body=[] from rfl];simp[c__law_round,ZN])
theorem ZiV{i j:Int}(h:Z1 j=true):YG .Mult (.int i) (.int j)=some (.int (i * j)):=by
 rw[VH,h,Bool.or_true,if_pos rfl]
theorem ZeX(hb:Sm b)(h:¬b=0):YG .FloorDiv (.int a) (.int b)=some (.int (quo a b)):=by
 have h1:=hb.1;have h2:=hb.2;rw[Zde];rcases Int.lt_trichotomy b 0 with q|q|q
 ·rw[if_neg (by omega),if_pos ⟨q,by omega⟩];rfl
 ·exact absurd q h
 ·rw[if_pos ⟨q,by omega⟩,VQ q]
theorem Zj2(t:LawOT T)(hs:PSg sg)(ha:Sm a)(hb:Sm b):Zc T (n+2) 187 [.int a,.str sg,.int b]=some (.int (YE a sg b)):=by
 rw[Zk (f:=c__law_sum) t.t187 rfl rfl];have rd:∀ x,Zc T (n+1) 89 [.int x]=some (.int (ZN x)):=fun x=>Zfz t.t89
 have go:∀ {e:CE}{v:Int},pe (Zc T (n+1)) e [some (.int a),some (.str sg),some (.int b)]=some (.int v)->pe (Zc T (n+1)) (.call 89 (.aC e .aN) []) [some (.int a),some (.str sg),some (.int b)]=some (.int (ZN v)):=fun {e v} h=>by
  rw[pe_call,YU,h];exact rd v
 have pz:pe (Zc T (n+1)) (.cmp .Eq (.var 2) (.cst (.int 0))) [some (.int a),some (.str sg),some (.int b)]=some (.bl (decide (b=0))):=WS;show Yn (px (Zc T (n+1)) [] c__law_sum.body [some (.int a),some (.str sg),some (.int b)])=_;unfold c__law_sum;rcases hs with rfl|rfl|rfl|rfl|rfl
 ·rw[ZI (by rfl) (go rfl)];rfl
 ·rw[Zy (by rfl),ZI (by rfl) (go rfl)];rfl
 ·rw[Zy (by rfl),Zy (by rfl),ZI (by rfl) (go (e:=.bin .Mult (.var 0) (.var 2)) (v:=a * b) (by exact ZiV hb.lim))];rfl
 ·rw[Zy (by rfl),Zy (by rfl),Zy (by rfl)]
  by_cases h:b=0
  ·rw[ZI (v:=.int 0) (by rfl) (by rw[QY,pz,decide_eq_true h];rfl)]
   subst h;rfl
  ·rw[ZI (v:=.int (ZN (quo a b))) (by rfl) (by rw[QY,pz,decide_eq_false h];exact go (ZeX hb h))]
   show some (P.int _)=some (P.int (if b=0 then 0 else ZN (quo a b)))
   rw[if_neg h]
 ·rw[Zy (by rfl),Zy (by rfl),Zy (by rfl),Zy (by rfl)]
  by_cases h:b=0
  ·rw[ZQ (v:=.int a) (by rw[QY,pz,decide_eq_true h];rfl)]
   subst h;rfl
  ·have md:pe (Zc T (n+1)) (.bin .Sub (.var 0) (.bin .Mult (.var 2) (.bin .FloorDiv (.var 0) (.var 2)))) [some (.int a),some (.str (S "mod")),some (.int b)]=some (.int (a - b * quo a b)):=by
    simp only[ZM,pe_var,List.getElem?_cons_zero,List.getElem?_cons_succ,Option.join_some,Ob];rw[ZeX hb h,Ob,VH,hb.lim,Bool.true_or,if_pos rfl,Ob,WO]
   rw[ZQ (v:=.int (a - b * quo a b)) (by rw[QY,pz,decide_eq_false h];exact md)]
   show some (P.int _)=some (P.int (if b=0 then a else a - b * quo a b))
   rw[if_neg h]
theorem ZlA(t:LawOT T)(hs:ISg sg):Zc T (n+1) 33 [.int a,.str sg,.int b]=some (.bl (Xs a sg b)):=by
 rw[Zk (f:=c__law_so_k55) t.t33 rfl rfl];show Yn (px (Zc T n) [] c__law_so_k55.body [some (.int a),some (.str sg),some (.int b)])=_;unfold c__law_so_k55;have q1:pe (Zc T n) (.cmp .Lt (.var 0) (.var 2)) [some (.int a),some (.str sg),some (.int b)]=some (.bl (decide (a < b))):=rfl;have q2:pe (Zc T n) (.cmp .Gt (.var 0) (.var 2)) [some (.int a),some (.str sg),some (.int b)]=some (.bl (decide (a > b))):=rfl
 have fin:∀ {s':Str}{v:Bool},Xs a s' b=v->some (P.bl v)=some (P.bl (Xs a s' b)):=fun h=>by rw[h]
 rcases Int.lt_trichotomy a b with h|h|h
 ·rw[decide_eq_true h]at q1
  rcases hs with rfl|rfl|rfl|rfl|rfl|rfl
  ·rw[ZI (v:=.bl true) q1 (by rfl)];exact fin (decide_eq_true (by omega))
  ·rw[ZI (v:=.bl true) q1 (by rfl)];exact fin (decide_eq_true (by omega))
  ·rw[ZI (v:=.bl false) q1 (by rfl)];exact fin (decide_eq_false (by omega))
  ·rw[ZI (v:=.bl false) q1 (by rfl)];exact fin (decide_eq_false (by omega))
  ·rw[ZI (v:=.bl false) q1 (by rfl)];exact fin (decide_eq_false (by omega))
  ·rw[ZI (v:=.bl true) q1 (by rfl)];exact fin (show(!decide (a=b))=true by rw[decide_eq_false (by omega)];rfl)
 ·rw[decide_eq_false (by omega)]at q1
  rw[decide_eq_false (by omega)]at q2
  rcases hs with rfl|rfl|rfl|rfl|rfl|rfl
  ·rw[Zy q1,Zy q2,ZQ (v:=.bl false) (by rfl)];exact fin (decide_eq_false (by omega))
  ·rw[Zy q1,Zy q2,ZQ (v:=.bl true) (by rfl)];exact fin (decide_eq_true (by omega))
  ·rw[Zy q1,Zy q2,ZQ (v:=.bl true) (by rfl)];exact fin (decide_eq_true (by omega))
  ·rw[Zy q1,Zy q2,ZQ (v:=.bl true) (by rfl)];exact fin (decide_eq_true (by omega))
  ·rw[Zy q1,Zy q2,ZQ (v:=.bl false) (by rfl)];exact fin (decide_eq_false (by omega))
  ·rw[Zy q1,Zy q2,ZQ (v:=.bl false) (by rfl)];exact fin (show(!decide (a=b))=false by rw[decide_eq_true (by omega)];rfl)
 ·rw[decide_eq_false (by omega)]at q1
  rw[decide_eq_true h]at q2;rcases hs with rfl|rfl|rfl|rfl|rfl|rfl
  ·rw[Zy q1,ZI (v:=.bl false) q2 (by rfl)];exact fin (decide_eq_false (by omega))
  ·rw[Zy q1,ZI (v:=.bl false) q2 (by rfl)];exact fin (decide_eq_false (by omega))
  ·rw[Zy q1,ZI (v:=.bl false) q2 (by rfl)];exact fin (decide_eq_false (by omega))
  ·rw[Zy q1,ZI (v:=.bl true) q2 (by rfl)];exact fin (decide_eq_true (by omega))
  ·rw[Zy q1,ZI (v:=.bl true) q2 (by rfl)];exact fin (decide_eq_true (by omega))
  ·rw[Zy q1,ZI (v:=.bl true) q2 (by rfl)];exact fin (show(!decide (a=b))=true by rw[decide_eq_false (by omega)];rfl)
theorem ZeB(t:LawOT T)(hp:ProgOk p)(hg:∀ r∈p.rows,RSg r)(hs:StOkM p s){x:P}{x1 x2 x3 x7 x8:Ot P} :
  (∀ o,Yi p.rows s=.out o->px (Zc T (n+2)) [4] ZP [some (.tup (p.rows.map Zf)),x1,x2,x3,some (.lst true (s.2.map .int)),some (.int (s.1:Int)),some x,x7,x8]=some (.rt (Zd o))) /\
  (∀ s',Yi p.rows s=.st s'->∃ y7 y8,px (Zc T (n+2)) [4] ZP [some (.tup (p.rows.map Zf)),x1,x2,x3,some (.lst true (s.2.map .int)),some (.int (s.1:Int)),some x,x7,x8]=some (.nx [some (.tup (p.rows.map Zf)),x1,x2,x3,some (.lst true (s'.2.map .int)),some (.int (s'.1:Int)),some x,y7,y8])):=by
 obtain⟨k,vs⟩:=s;have hk:=hs.k;have hv:=hs.vs;simp only at hk hv;unfold ZP;unfold Yi;simp only;by_cases he:k=p.rows.length
 ·subst he
  rw[List.getElem?_eq_none (Nat.le_refl _)];refine⟨fun o h=>?_,fun s' h=>by cases h⟩
  cases h;rw[ZI (v:=Zd .none) (by simp) (by rfl)]
 ·have hk':k < p.rows.length:=by omega
  obtain⟨r,hr⟩:∃ r,p.rows[k]?=some r:=⟨_,Lg hk'⟩;have ro:=hp.rows r (List.mem_of_getElem? hr);have rg:=hg r (List.mem_of_getElem? hr);have ir:atP (p.rows.map Zf) (k:Int)=some (Zf r):=by rw[YW rfl,List.getElem?_map,hr];rfl
  have w:∀ o,Xb p.many o->Zc T (n+2) 34 [ZH o,.lst true (vs.map .int)]=some (.int (Zq vs o)):=fun o ho=>ZfA (n:=n+1) t.t34 (by rw[hv.len];exact ho)
  have c0:pe (Zc T (n+2)) (.cmp .Eq (.var 5) (.len (.var 0))) [some (.tup (p.rows.map Zf)),x1,x2,x3,some (.lst true (vs.map .int)),some (.int (k:Int)),some x,x7,x8]=some (.bl false):=by
   simp;omega
  rw[hr];rw[Zy c0,Zi,ZL (p:=Zf r) (by simp[ir]) rfl rfl,Zg]
  simp only[Zm,Zl];rw[Zi,ZL (p:=.int ((k+1:Nat):Int)) (by simp) rfl rfl,Zg]
  simp only[Zm,Zl];cases r with
  |tell y=>
   refine⟨fun o h=>?_,fun s' h=>by cases h⟩
   cases h;rw[show Zf (.tell y)=.tup [.str (S "tell"),ZH y] from rfl,ZI (v:=Zd (.told (Zq vs y))) (by rfl) (by simp[w y ro,Zd])]
  |put x y sg z=>
   refine⟨fun o h=>(by cases h),fun s' h=>?_⟩
   cases h;have hx:x < vs.length:=by rw[hv.len];exact ro.1
   have sm:=Zj2 (n:=n) t rg.1 (Xz hv ro.2.1) (Xz hv ro.2.2);refine⟨some (Zf (.put x y sg z)),x8,?_⟩;rw[Zix,Zy (by rfl),Jl (π':=[some (.tup (p.rows.map Zf)),x1,x2,x3,some (.lst true ((vs.set x (YE (Zq vs y) sg (Zq vs z))).map .int)),some (.int ((k+1:Nat):Int)),some _,some (.tup [.str (S "put"),.int (x:Int),ZH y,.str sg,ZH z]),x8]) (by rfl) (by
    rw[Zi,ZeW (xs:=vs.map .int) (q:=x) (j:=(x:Int)) rfl (by simp) (by unfold ixN;simp;omega)]
    rw[show pe (Zc T (n+2)) (.call 187 (.aC (.call 34 (.aC (.ix (.var 7) (.cst (.int 2))) (.aC (.var 4) .aN)) []) (.aC (.ix (.var 7) (.cst (.int 3))) (.aC (.call 34 (.aC (.ix (.var 7) (.cst (.int 4))) (.aC (.var 4) .aN)) []) .aN))) []) [some (.tup (p.rows.map Zf)),x1,x2,x3,some (.lst true (vs.map .int)),some (.int ((k+1:Nat):Int)),some _,some (.tup [.str (S "put"),.int (x:Int),ZH y,.str sg,ZH z]),x8]=some (.int (YE (Zq vs y) sg (Zq vs z))) by simp[w y ro.2.1,w z ro.2.2,sm],Ob,if_pos (by rfl),Zg,Zu,List.map_set]
    rfl),Zy (by rfl),Zy (by rfl),Zu]
   rfl
  |go t'=>
   refine⟨fun o h=>(by cases h),fun s' h=>?_⟩
   cases h;refine⟨some (Zf (.go t')),x8,?_⟩;rw[show Zf (.go t')=.tup [.str (S "go"),.int (t':Int)] from rfl,Zy (by rfl),Zy (by rfl),Jl (π':=[some (.tup (p.rows.map Zf)),x1,x2,x3,some (.lst true (vs.map .int)),some (.int (t':Int)),some x,some (.tup [.str (S "go"),.int (t':Int)]),x8]) (by rfl) (by
    rw[Zi,ZL (p:=.int (t':Int)) (by rfl) rfl rfl,Zg,Zu]
    rfl),Zy (by rfl),Zu]
   rfl
  |ifr y sg z t'=>
   refine⟨fun o h=>(by cases h),fun s' h=>?_⟩
   cases h;have so:=ZlA (n:=n+1) (a:=Zq vs y) (b:=Zq vs z) t (show ISg sg from rg);refine⟨some (Zf (.ifr y sg z t')),some (.int (Zq vs y)),?_⟩;have e8:pe (Zc T (n+2)) (.call 34 (.aC (.ix (.var 7) (.cst (.int 1))) (.aC (.var 4) .aN)) []) [some (.tup (p.rows.map Zf)),x1,x2,x3,some (.lst true (vs.map .int)),some (.int ((k+1:Nat):Int)),some x,some (.tup [.str (S "if"),ZH y,.str sg,ZH z,.int (t':Int)]),x8]=some (.int (Zq vs y)):=by simp[w y ro.1]
   rw[Zkx,Zy (by rfl),Zy (by rfl),Zy (by rfl),Jl (π':=[some (.tup (p.rows.map Zf)),x1,x2,x3,some (.lst true (vs.map .int)),some (.int ((Ul k vs (.ifr y sg z t'):Nat):Int)),some x,some (.tup [.str (S "if"),ZH y,.str sg,ZH z,.int (t':Int)]),some (.int (Zq vs y))]) (by rfl) (by
    rw[Zi,ZL e8 rfl rfl,Zg];simp only[Zm,Zl];have c8:pe (Zc T (n+2)) (.call 33 (.aC (.var 8) (.aC (.ix (.var 7) (.cst (.int 2))) (.aC (.call 34 (.aC (.ix (.var 7) (.cst (.int 3))) (.aC (.var 4) .aN)) []) .aN))) []) [some (.tup (p.rows.map Zf)),x1,x2,x3,some (.lst true (vs.map .int)),some (.int ((k+1:Nat):Int)),some x,some (.tup [.str (S "if"),ZH y,.str sg,ZH z,.int (t':Int)]),some (.int (Zq vs y))]=some (.bl (Xs (Zq vs y) sg (Zq vs z))):=by simp[w z ro.2.1,so]
    rw[show Ul k vs (.ifr y sg z t')=(if Xs (Zq vs y) sg (Zq vs z)=true then t' else k+1) from rfl]
    cases hq:Xs (Zq vs y) sg (Zq vs z) with
    |true=>
     rw[hq]at c8;rw[Jl (π':=[some (.tup (p.rows.map Zf)),x1,x2,x3,some (.lst true (vs.map .int)),some (.int (t':Int)),some x,some (.tup [.str (S "if"),ZH y,.str sg,ZH z,.int (t':Int)]),some (.int (Zq vs y))]) c8 (by
      rw[Zi,ZL (p:=.int (t':Int)) (by rfl) rfl rfl,Zg,Zu]
      rfl),Zu]
     rfl
    |false=>
     rw[hq]at c8;rw[Zy c8,Zu];rfl),Zu]
   rfl
  |skip=>
   refine⟨fun o h=>(by cases h),fun s' h=>?_⟩
   cases h;refine⟨some (Zf .skip),x8,?_⟩;rw[show Zf .skip=.tup [.str (S "skip")] from rfl,Zy (by rfl),Zy (by rfl),Zy (by rfl),Zy (by rfl),Zu]
   rfl
theorem J0(t:LawOT T)(hp:ProgOk p)(hg:∀ r∈p.rows,RSg r){x1 x2 x3:Ot P}:∀ {xs:Li P}{s:StM}{x6 x7 x8:Ot P},StOkM p s->
  (∀ o,(ZU p.rows xs.length s).2.1=some o->ZB (fun d π=>px (Zc T (n+2)) [4] ZP (Zo π 6 d)) xs [some (.tup (p.rows.map Zf)),x1,x2,x3,some (.lst true (s.2.map .int)),some (.int (s.1:Int)),x6,x7,x8]=some (.rt (Zd o))) /\
  ((ZU p.rows xs.length s).2.1=Option.none->∃ y6 y7 y8,ZB (fun d π=>px (Zc T (n+2)) [4] ZP (Zo π 6 d)) xs [some (.tup (p.rows.map Zf)),x1,x2,x3,some (.lst true (s.2.map .int)),some (.int (s.1:Int)),x6,x7,x8]=some (.nx [some (.tup (p.rows.map Zf)),x1,x2,x3,some (.lst true ((ZU p.rows xs.length s).2.2.2.map .int)),some (.int ((ZU p.rows xs.length s).2.2.1:Int)),y6,y7,y8]))
 |[],s,x6,x7,x8,_=>⟨fun o h=>(by cases h),fun _=>⟨x6,x7,x8,X6⟩⟩
 |x :: xs,s,x6,x7,x8,hs=>by
  have tn:=ZeB (n:=n) t hp hg hs (x:=x) (x1:=x1) (x2:=x2) (x3:=x3) (x7:=x7) (x8:=x8);have e0:Zo [some (.tup (p.rows.map Zf)),x1,x2,x3,some (.lst true (s.2.map .int)),some (.int (s.1:Int)),x6,x7,x8] 6 x=[some (.tup (p.rows.map Zf)),x1,x2,x3,some (.lst true (s.2.map .int)),some (.int (s.1:Int)),some x,x7,x8]:=rfl;rw[ZF,e0];cases hst:Yi p.rows s with
  |out o=>
   have e1:ZU p.rows (x :: xs).length s=([],some o,s):=by
    show(match Yi p.rows s with
     |.out o=>([],some o,s)
     |.st s'=>(s' :: (ZU p.rows xs.length s').1,(ZU p.rows xs.length s').2))=_
    rw[hst]
   rw[e1,tn.1 o hst];refine⟨fun o' h=>?_,fun h=>(by cases h)⟩
   cases h;rfl
  |st s'=>
   have e1:ZU p.rows (x :: xs).length s=(s' :: (ZU p.rows xs.length s').1,(ZU p.rows xs.length s').2):=by
    show(match Yi p.rows s with
     |.out o=>([],some o,s)
     |.st s'=>(s' :: (ZU p.rows xs.length s').1,(ZU p.rows xs.length s').2))=_
    rw[hst]
   obtain⟨y7,y8,e⟩:=tn.2 s' hst;rw[e1,e,Yd];exact J0 t hp hg (Jb hp hs hst)
theorem Ze5(hp:ProgOk p):∀ {l:Nat}{s:StM},StOkM p s->StOkM p (ZU p.rows l s).2.2
 |0,s,h=>h
 |l+1,s,h=>by
  show StOkM p ((match Yi p.rows s with
   |.out o=>([],some o,s)
   |.st s'=>(s' :: (ZU p.rows l s').1,(ZU p.rows l s').2)):Li StM×Ot Out×StM).2.2
  cases e:Yi p.rows s with
  |out o=>exact h
  |st s'=>exact Ze5 hp (Jb hp h e)
theorem Zb9(t:LawOT T)(hp:ProgOk p)(hg:∀ r∈p.rows,RSg r)(h1:ins.length<=p.many)(hs:∀ v∈ins,Sm v){l:Nat}(hl:l<=900) :
  Zc T (n+3) 188 [.tup (p.rows.map Zf),.int (p.many:Int),Zx ins,.int (l:Int)]=some (Zd (QW p.rows l (ZE p ins))):=by
 rw[Zk (f:=c__law_outcome) t.t188 rfl rfl];have so:=Zan (p:=p) h1 hs;have hm:=hp.many;have rl:(ZO (l:Int)).length=l:=by simp[ZO]
 have lp:=J0 (n:=n) t hp hg (x1:=some (.int (p.many:Int))) (x2:=some (Zx ins)) (x3:=some (.int (l:Int))) (xs:=ZO (l:Int)) (s:=ZE p ins) (x6:=Option.none) (x7:=Option.none) (x8:=Option.none) so;rw[rl]at lp;show Yn (px (Zc T (n+2)) [4] c__law_outcome.body [some (.tup (p.rows.map Zf)),some (.int (p.many:Int)),some (Zx ins),some (.int (l:Int)),Option.none,Option.none,Option.none,Option.none,Option.none])=_
 unfold c__law_outcome;have e:((p.many:Int) - (ins.length:Int)).toNat=p.many - ins.length:=by omega
 rw[Zi,XJ (p:=.lst true ((ZE p ins).2.map .int)) (by
  unfold Zx ZE;simp[e,Zp];omega) rfl (by rfl),Zg]
 simp only[Zm,Zl];rw[Zi,ZL (p:=.int ((ZE p ins).1:Int)) (by rfl) rfl rfl,Zg]
 simp only[Zm,Zl];rw[Zi,Wn (n:=l) (by rfl) (by omega) rfl]
 unfold QW;cases q:(ZU p.rows l (ZE p ins)).2.1 with
 |some o=>
  rw[lp.1 o q];rfl
 |none=>
  obtain⟨y6,y7,y8,e⟩:=lp.2 q;have sk:=Ze5 hp so (l:=l);rw[e,Zg];by_cases he:p.rows.length<=(ZU p.rows l (ZE p ins)).2.2.1
  ·have he':(ZU p.rows l (ZE p ins)).2.2.1=p.rows.length:=Nat.le_antisymm sk.k he
   rw[ZI (v:=Zd .none) (by rw[he'];simp) (by rfl)]
   simp[ZdA,he]
  ·rw[Zy (by simp;omega),ZQ (v:=Zd .late) (by rfl)]
   simp[ZdA,he]
end
end Dp


namespace Dp
open PySem
def ZfR(a i:Nat):Nat:=if a.testBit i then 1 else 0
theorem Zlq{a i:Nat}:decide ((ZfR a i:Int)=1)=a.testBit i:=by
 unfold ZfR;cases a.testBit i<;>rfl
theorem Zkq{a i:Nat}:decide ((ZfR a i:Int)=0)=!a.testBit i:=by
 unfold ZfR;cases a.testBit i<;>rfl
theorem Zkj{a b:Nat}:YG .BitAnd (.int (a:Int)) (.int (b:Int))=some (.int ((a &&& b:Nat):Int)):=by
 rw[ZfQ (by omega) (by omega),Int.toNat_natCast,Int.toNat_natCast]
theorem Zdv{xs:Li P}{x:Nat}(h:x<=xs.length):XY xs Option.none (some (x:Int))=xs.take x:=by
 unfold XY;have e:sIx xs.length xs.length (some (x:Int))=x:=by
  show(if (x:Int) < 0 then ((x:Int)+(xs.length:Int)).toNat else Nat.min ((x:Int)).toNat xs.length)=_
  rw[if_neg (by omega)]
  exact Nat.min_eq_left h
 rw[e];rfl
theorem Za3{xs:Li P}{x:Nat}(h:x < xs.length):Yt (.tup xs) Option.none (some (x:Int))=some (.tup (xs.take x)):=by
 show(if sIx xs.length 0 Option.none=0/\sIx xs.length xs.length (some (x:Int))=xs.length then some (P.tup xs) else some (P.tup (XY xs Option.none (some (x:Int)))))=_
 have e:sIx xs.length xs.length (some (x:Int))=x:=by
  show(if (x:Int) < 0 then ((x:Int)+(xs.length:Int)).toNat else Nat.min ((x:Int)).toNat xs.length)=_
  rw[if_neg (by omega)]
  exact Nat.min_eq_left (by omega)
 rw[if_neg (by rw[e];omega),Zdv (by omega)]
theorem ZiG{a n i:Nat}(h:a < 2 ^ n)(hi:n<=i):a.testBit i=false:=Nat.testBit_lt_two_pow (Nat.lt_of_lt_of_le h (Nat.pow_le_pow_right (by decide) hi))
theorem Zfk{a:Nat}(h:a≠0):∃ i,a.testBit i=true:=Nat.exists_testBit_of_ne_zero h
end Dp


namespace Dp
open PySem
def Hit(C bs:Li Nat):Prop:=∀ b∈bs,∃ i∈C,b.testBit i=true
def fcL(g:Nat->Ot (Li Nat)):Li Nat->Ot (Li Nat)
 |[]=>none
 |j :: js=>match g j with
  |some r=>some (j :: r)
  |none=>fcL g js
def fcN(m:Nat):Nat->Li Nat->Nat->Ot (Li Nat)
 |0,bs,_=>if bs.isEmpty then some [] else none
 |s+1,bs,i=>fcL (fun j=>fcN m s (bs.filter fun b=>!b.testBit j) (j+1)) (List.range' i (m - i))
def ZaM:Li Nat->Li Nat->Bool
 |[],ys=>decide (0 < ys.length)
 |_ :: _,[]=>false
 |x :: xs,y :: ys=>if x=y then ZaM xs ys else decide (x < y)
theorem Zbq{g:Nat->Ot (Li Nat)}{C:Li Nat}:∀ {js:Li Nat},fcL g js=some C->∃ j∈js,∃ r,g j=some r/\C=j :: r
 |[],h=>nomatch h
 |j :: js,h=>by
  unfold fcL at h;split at h
  ·rename_i r e
   cases h;exact⟨j,Ls,r,e,rfl⟩
  ·obtain⟨j',hj,r,e,c⟩:=Zbq h
   exact⟨j',Lm _ hj,r,e,c⟩
theorem UZ{g:Nat->Ot (Li Nat)}{j:Nat}{r:Li Nat}(hg:g j=some r):∀ {js:Li Nat},js.Pairwise (· < ·)->j∈js->∃ j' r',fcL g js=some (j' :: r')/\(j' < j\/(j'=j/\r'=r))
 |[],_,h=>nomatch h
 |a :: js,hp,h=>by
  rw[List.pairwise_cons]at hp;unfold fcL;rcases List.mem_cons.mp h with rfl|h
  ·rw[hg]
   exact⟨_,_,rfl,.inr ⟨rfl,rfl⟩⟩
  ·cases e:g a with
   |some q=>exact⟨a,q,rfl,.inl (hp.1 j h)⟩
   |none=>exact UZ hg hp.2 h
theorem hit_filter{C bs:Li Nat}{j:Nat}:Hit C (bs.filter fun b=>!b.testBit j)↔Hit (j :: C) bs:=by
 constructor
 ·intro h b hb
  cases e:b.testBit j with
  |true=>exact⟨j,Ls,e⟩
  |false=>
   obtain⟨i,hi,e2⟩:=h b (List.mem_filter.mpr ⟨hb,by rw[e];rfl⟩)
   exact⟨i,Lm _ hi,e2⟩
 ·intro h b hb
  obtain⟨hb,e⟩:=List.mem_filter.mp hb;obtain⟨i,hi,e2⟩:=h b hb;rcases List.mem_cons.mp hi with rfl|hi
  ·rw[e2]at e;cases e
  ·exact⟨i,hi,e2⟩
theorem hit_nil{bs:Li Nat}:Hit [] bs↔bs.isEmpty=true:=by
 cases bs with
 |nil=>exact⟨fun _=>rfl,fun _ b hb=>nomatch hb⟩
 |cons b bs=>
  constructor
  ·intro h
   obtain⟨i,hi,_⟩:=h b Ls;cases hi
  ·intro h;cases h
theorem V7{m:Nat}:∀ (s:Nat) (bs:Li Nat) (i:Nat) (C:Li Nat),fcN m s bs i=some C->C.length=s/\C.Pairwise (· < ·)/\(∀ c∈C,i<=c/\c < m)/\Hit C bs
 |0,bs,i,C,h=>by
  unfold fcN at h;split at h
  ·rename_i e
   cases h;exact⟨rfl,.nil,(fun _ h=>nomatch h),hit_nil.mpr e⟩
  ·cases h
 |s+1,bs,i,C,h=>by
  unfold fcN at h;obtain⟨j,hj,r,e,rfl⟩:=Zbq h;obtain⟨h1,h2,h3,h4⟩:=V7 s _ _ r e;rw[List.mem_range'_1]at hj;refine⟨by rw[List.length_cons,h1],List.pairwise_cons.mpr ⟨fun c hc=>(h3 c hc).1,h2⟩,fun c hc=>?_,hit_filter.mp h4⟩
  rcases List.mem_cons.mp hc with rfl|hc
  ·omega
  ·have:=h3 c hc;omega
theorem V6{m:Nat}:∀ (s:Nat) (bs:Li Nat) (i:Nat) (D:Li Nat),D.Pairwise (· < ·)->(∀ d∈D,i<=d/\d < m)->D.length=s->Hit D bs->∃ C,fcN m s bs i=some C/\ZaM D C=false
 |0,bs,i,D,_,_,hl,h=>by
  cases D with
  |cons _ _=>cases hl
  |nil=>exact⟨[],by unfold fcN;rw[if_pos (hit_nil.mp h)],rfl⟩
 |s+1,bs,i,D,hp,hr,hl,h=>by
  cases D with
  |nil=>cases hl
  |cons d D=>
   rw[List.pairwise_cons]at hp;have hd:=hr d Ls;obtain⟨r,e,lx⟩:=V6 s _ (d+1) D hp.2 (fun x hx=>⟨hp.1 x hx,(hr x (Lm _ hx)).2⟩) (Nat.succ.inj hl) (hit_filter.mpr h)
   obtain⟨j',r',e2,o⟩:=UZ (g:=fun j=>fcN m s (bs.filter fun b=>!b.testBit j) (j+1)) e (js:=List.range' i (m - i)) List.pairwise_lt_range' (by rw[List.mem_range'_1];omega)
   refine⟨_,e2,?_⟩;unfold ZaM;rcases o with o|⟨rfl,rfl⟩
   ·rw[if_neg (by omega)]
    exact decide_eq_false (by omega)
   ·rw[if_pos rfl];exact lx
def Vh(U:Li Nat)(m:Nat):Li Nat:=((List.range m).findSome? fun s=>fcN m s U 0).getD (List.range m)
theorem U5:∀ (k i:Nat) (D:Li Nat),D.Pairwise (· < ·)->(∀ d∈D,i<=d)->D.length=k->ZaM D (List.range' i k)=false
 |0,i,D,_,_,hl=>by
  cases D with
  |nil=>rfl
  |cons _ _=>cases hl
 |k+1,i,D,hp,hr,hl=>by
  cases D with
  |nil=>cases hl
  |cons d D=>
   rw[List.pairwise_cons]at hp;have hd:=hr d Ls;rw[List.range'_succ];unfold ZaM;by_cases e:d=i
   ·rw[if_pos e]
    exact U5 k (i+1) D hp.2 (fun x hx=>by have:=hp.1 x hx;omega) (Nat.succ.inj hl)
   ·rw[if_neg e]
    exact decide_eq_false (by omega)
structure Few(U C:List Nat)(m:Nat):Prop where
 up:C.Pairwise (· < ·)
 lt:∀ c∈C,c < m
 hit:Hit C U
 min:∀ D:List Nat,D.Pairwise (· < ·)->(∀ d∈D,d < m)->Hit D U->D.length<=C.length->D.length=C.length/\ZaM D C=false
theorem ZdI{U:Li Nat}{m:Nat}(hU:Hit (List.range m) U):Few U (Vh U m) m:=by
 unfold Vh;cases e:(List.range m).findSome? fun s=>fcN m s U 0 with
 |some C=>
  obtain⟨l1,a,l2,e1,e2,e3⟩:=List.findSome?_eq_some_iff.mp e;obtain⟨h1,h2,h3,h4⟩:=V7 a U 0 C e2;refine⟨h2,fun c hc=>(h3 c hc).2,h4,fun D d1 d2 d3 d4=>?_⟩
  have d4:D.length<=C.length:=d4;obtain⟨C',q,lx⟩:=V6 D.length U 0 D d1 (fun x hx=>⟨Nat.zero_le _,d2 x hx⟩) rfl d3
  have hl1:l1.length=a:=by
   have g:=congrArg (fun l=>l[l1.length]?) e1
   simp only[List.getElem?_append_right (Nat.le_refl _),Nat.sub_self,List.getElem?_cons_zero]at g;have hlt:l1.length < m:=by have:=congrArg List.length e1;simp at this;omega
   rw[List.getElem?_range hlt]at g;exact Option.some.inj g
  by_cases hlt:D.length < C.length
  ·exfalso
   have hm:D.length∈l1:=by
    have hl:D.length < l1.length:=by omega
    have g:=congrArg (fun l=>l[D.length]?) e1
    simp only[List.getElem?_append_left hl]at g;have hlt:D.length < m:=by have:=congrArg List.length e1;simp at this;omega
    rw[List.getElem?_range hlt,Lg hl]at g;rw[Option.some.inj g];exact List.getElem_mem hl
   rw[e3 _ hm]at q;cases q
  ·have el:D.length=C.length:=by omega
   refine⟨el,?_⟩;rw[el,h1,e2]at q;cases q;exact lx
 |none=>
  rw[List.findSome?_eq_none_iff]at e;refine⟨List.pairwise_lt_range,fun c hc=>List.mem_range.mp hc,hU,fun D d1 d2 d3 d4=>?_⟩
  have d4:D.length<=(List.range m).length:=d4;rw[List.length_range]at d4;obtain⟨C',q,lx⟩:=V6 D.length U 0 D d1 (fun x hx=>⟨Nat.zero_le _,d2 x hx⟩) rfl d3
  have el:D.length=m:=by
   refine Decidable.byContradiction fun h=>?_
   rw[e _ (List.mem_range.mpr (show D.length < m by omega))]at q
   cases q
  exact⟨by show D.length=(List.range m).length;rw[List.length_range,el],by
   show ZaM D (List.range m)=false;rw[List.range_eq_range'];exact U5 m 0 D d1 (fun _ _=>Nat.zero_le _) el⟩
theorem JD:∀ (bs:Li Nat) (b:Nat),b∈bs->∃ (i:Nat) (h:i < bs.length),bs[i]=b/\b∉bs.take i
 |[],b,h=>absurd h List.not_mem_nil
 |a :: bs,b,h=>by
  by_cases e:a=b
  ·exact⟨0,by simp,e,by simp⟩
  ·have h:b∈bs:=by
    rcases List.mem_cons.mp h with z|z
    ·exact absurd z.symm e
    ·exact z
   obtain⟨i,hi,e1,e2⟩:=JD bs b h;refine⟨i+1,by simpa using hi,by simpa using e1,?_⟩
   rw[List.take_succ_cons,List.mem_cons]
   rintro(z|z)
   ·exact e z.symm
   ·exact e2 z
def ulB(bs:Li Nat)(i:Nat):Bool:=!decide (bs.getD i 0=0)&&!decide (bs.getD i 0∈bs.take i)
def Wf(bs:Li Nat):Li Nat:=(List.range bs.length).filter (ulB bs)
def ulV(bs:Li Nat):Li Nat:=(Wf bs).map fun i=>bs.getD i 0
theorem ul_mem{bs:Li Nat}{v:Nat}:v∈ulV bs↔v∈bs/\v≠0:=by
 unfold ulV Wf;rw[List.mem_map];constructor
 ·rintro⟨i,hi,rfl⟩
  obtain⟨h1,h2⟩:=List.mem_filter.mp hi;have h1:=List.mem_range.mp h1;unfold ulB at h2;rw[Ba,Bool.not_eq_true',decide_eq_false_iff_not]at h2;refine⟨?_,h2.1⟩;have g:bs.getD i 0=bs[i]:=by simp[List.getD,h1]
  rw[g];exact List.getElem_mem h1
 ·rintro⟨hv,h0⟩
  obtain⟨i,hi,e1,e2⟩:=JD bs v hv;have g:bs.getD i 0=v:=by simp[List.getD,hi,e1]
  refine⟨i,List.mem_filter.mpr ⟨List.mem_range.mpr hi,?_⟩,g⟩;unfold ulB;rw[g,Ba,Bool.not_eq_true',decide_eq_false_iff_not,Bool.not_eq_true',decide_eq_false_iff_not];exact⟨h0,e2⟩
def Zj4(C bs:Li Nat):Prop:=∀ b∈bs,b≠0->∃ i∈C,b.testBit i=true
theorem hit_ul{C bs:Li Nat}:Hit C (ulV bs)↔Zj4 C bs:=
 ⟨fun h b hb h0=>h b (ul_mem.mpr ⟨hb,h0⟩),fun h b hb=>h b (ul_mem.mp hb).1 (ul_mem.mp hb).2⟩
theorem ZcD{bs:Li Nat}{m:Nat}(h:∀ b∈bs,b < 2 ^ m):Hit (List.range m) (ulV bs):=by
 rw[hit_ul];intro b hb h0;obtain⟨i,hi⟩:=Zfk h0;refine⟨i,List.mem_range.mpr (Decidable.byContradiction fun z=>?_),hi⟩
 rw[ZiG (h b hb) (by omega)]at hi
 cases hi
theorem ZjQ{bs:Li Nat}:(ulV bs).length<=bs.length:=by
 unfold ulV Wf;rw[List.length_map];exact Nat.le_trans (List.length_filter_le _ _) (by rw[List.length_range];exact Nat.le_refl _)
end Dp


namespace Dp
open PySem
abbrev Ze(bs:Li Nat):Li P:=bs.map fun(b:Nat)=>P.int (b:Int)
structure FewT(T:Nat->Option FD):Prop where
 t43:T 43=some c_bit_of
 t62:T 62=some c_first_choice
 t63:T 63=some c_unlike_fakes
 t64:T 64=some c_fewest
theorem Zh3{T:Nat->Ot FD}(h:FewT T){n k:Nat}(hk:k<=60):Zc T (n+1) 43 [.int (k:Int)]=some (.int ((2 ^ k:Nat):Int)):=by
 rw[Zk (f:=c_bit_of) h.t43 rfl rfl];have b:=Zdg (F:=Zc T n) hk;rw[Int.natCast_pow];exact congrArg Yn b
def Ym:Ot (Li Nat)->P
 |none=>.non
 |some C=>.tup (Ze C)
theorem ZfL{b j:Nat}:decide (((b &&& 2 ^ j:Nat):Int)=0)=!b.testBit j:=by
 cases e:b.testBit j with
 |false=>
  have z:b &&& 2 ^ j=0:=by
   apply Nat.eq_of_testBit_eq
   intro k;rw[Nat.testBit_and,Nat.testBit_two_pow,Nat.zero_testBit];by_cases q:j=k
   ·subst q;simp[e]
   ·simp[q]
  rw[z];rfl
 |true=>
  have z:¬b &&& 2 ^ j=0:=fun z=>by
   have q:=congrArg (fun x=>x.testBit j) z
   simp[Nat.testBit_and,Nat.testBit_two_pow_self,e]at q
  exact decide_eq_false (by omega)
def Q6(f:Li Nat->Li Nat)(π:Zr):Ot (Li Nat)->Ot PFl
 |some C=>some (.rt (.tup (Ze (f C))))
 |none=>some (.nx π)
theorem Zgc{F:PFn}{mm:Bool}{bs:Li Nat}{j:Nat}{o1 o2 o3 o4 o6:Ot P}(hl:bs.length<=1000) :
  pe F Z4 [some (.lst mm (Ze bs)),o1,o2,o3,o4,some (.int ((2 ^ j:Nat):Int)),o6]=some (.lst true (Ze (bs.filter fun b=>!b.testBit j))):=by
 unfold Z4;generalize hp:2 ^ j=p;rw[YC,pe_var];simp only[List.getElem?_cons_zero,Option.join_some,Ob,UA];rw[if_pos (by simpa using hl)]
 rw[YT (p:=fun x=>match x with
  |.int o=>!o.toNat.testBit j
  |_=>false) (g:=id) (fun x hx=>?_) (fun x hx _=>by simp[ZS])]
 ·simp[List.filter_map,Function.comp_def]
 ·obtain⟨o,ho,rfl⟩:=List.mem_map.mp hx
  simp only[ZS,List.map_cons,List.map_nil,List.getElem?_cons_zero,List.getElem?_cons_succ,Option.join_some];rw[YX,ZM,pe_var,pe_var];simp only[List.getElem?_cons_zero,List.getElem?_cons_succ,Option.join_some,Ob,Zkj,Z0,ZK,WS];rw[<-hp,ZfL];simp
theorem Zge{F:PFn}{mm:Bool}{bs:Li Nat}{s j m:Nat}{r:Ot (Li Nat)}{i4 o4 o5 o6:Ot P}{x1:P}(hl:bs.length<=1000)(h43:F 43 [.int (j:Int)]=some (.int ((2 ^ j:Nat):Int)))(h62:F 62 [.lst true (Ze (bs.filter fun b=>!b.testBit j)),.int ((j+1:Nat):Int),.int (m:Int),.int (s:Int)]=some (Ym r))(hr:∀ C,r=some C->C.length<=1000) :
  px F [] Yq (Zo [some (.lst mm (Ze bs)),some x1,some (.int (m:Int)),some (.int ((s+1:Nat):Int)),o4,o5,o6] 4 (.int (j:Int)))=Q6 (j :: ·) [some (.lst mm (Ze bs)),some x1,some (.int (m:Int)),some (.int ((s+1:Nat):Int)),some (.int (j:Int)),some (.int ((2 ^ j:Nat):Int)),some .non] r:=by
 have e1:pe F (.call 43 (.aC (.var 4) .aN) []) [some (.lst mm (Ze bs)),some x1,some (.int (m:Int)),some (.int ((s+1:Nat):Int)),some (.int (j:Int)),o5,o6]=some (.int ((2 ^ j:Nat):Int)):=by
  generalize 2 ^ j=p at h43 ⊢;simp[h43,XS]
 have e2:pe F (.call 62 (.aC Z4 (.aC (.bin .Add (.var 4) (.cst (.int 1))) (.aC (.var 2) (.aC (.bin .Sub (.var 3) (.cst (.int 1))) .aN)))) []) [some (.lst mm (Ze bs)),some x1,some (.int (m:Int)),some (.int ((s+1:Nat):Int)),some (.int (j:Int)),some (.int ((2 ^ j:Nat):Int)),o6]=some (Ym r):=by
  have c:=Zgc (F:=F) (mm:=mm) (bs:=bs) (j:=j) (o1:=some x1) (o2:=some (.int (m:Int))) (o3:=some (.int ((s+1:Nat):Int))) (o4:=some (.int (j:Int))) (o6:=o6) hl;generalize 2 ^ j=p at c ⊢;generalize Z4=E at c ⊢;have z1:(j:Int)+1=((j+1:Nat):Int):=by omega
  have z2:((s+1:Nat):Int) - 1=(s:Int):=by omega
  generalize hA:P.lst true (Ze (bs.filter fun b=>!b.testBit j))=A at c h62
  generalize ((j+1:Nat):Int)=jn at z1 h62;simp only[pe_call,YU,ZbN,c,ZM,pe_var,Z0,ZK,List.getElem?_cons_zero,List.getElem?_cons_succ,Option.join_some,Ob,XD,WO,z1,z2,Jy,List.length_cons,List.length_nil,Js,JY,List.append_nil];simp[h62]
 unfold Yq;simp only[Zm,Zl];rw[Zi,Xf,e1,Ob,Zg];simp only[Zm,Zl];rw[Zi,Xf,e2,Ob,Zg];simp only[Zm,Zl];cases r with
 |none=>
  rw[Zi,YN];simp only[Ym];have e3:pe F (.cmp .IsNot (.var 6) (.cst .non)) [some (.lst mm (Ze bs)),some x1,some (.int (m:Int)),some (.int ((s+1:Nat):Int)),some (.int (j:Int)),some (.int ((2 ^ j:Nat):Int)),some .non]=some (.bl false):=rfl;rw[e3,Yb,if_neg Bf,Zu,Zg,Zu];rfl
 |some C=>
  have hC:=hr C rfl;rw[Zi,YN];simp only[Ym];have e3:pe F (.cmp .IsNot (.var 6) (.cst .non)) [some (.lst mm (Ze bs)),some x1,some (.int (m:Int)),some (.int ((s+1:Nat):Int)),some (.int (j:Int)),some (.int ((2 ^ j:Nat):Int)),some (.tup (Ze C))]=some (.bl true):=rfl;rw[e3,Yb,if_pos rfl];have hz:1+C.length<=Zp:=by unfold Zp;omega
  generalize 2 ^ j=p;simp[hz,Q6]
theorem Zbr{F:PFn}{mm:Bool}{bs:Li Nat}{s m:Nat}{x1:P}{g:Nat->Ot (Li Nat)}(hl:bs.length<=1000):∀ (js:Li Nat),(∀ j∈js,F 43 [.int (j:Int)]=some (.int ((2 ^ j:Nat):Int))/\F 62 [.lst true (Ze (bs.filter fun b=>!b.testBit j)),.int ((j+1:Nat):Int),.int (m:Int),.int (s:Int)]=some (Ym (g j))/\∀ C,g j=some C->C.length<=1000)->∀ (o4 o5 o6:Ot P),
  ∃ π',ZB (fun d π=>px F [] Yq (Zo π 4 d)) (Ze js) [some (.lst mm (Ze bs)),some x1,some (.int (m:Int)),some (.int ((s+1:Nat):Int)),o4,o5,o6]=Q6 id π' (fcL g js)
 |[],_,o4,o5,o6=>⟨_,rfl⟩
 |j :: js,h,o4,o5,o6=>by
  obtain⟨h43,h62,hr⟩:=h j Ls;have e:=Zge (F:=F) (mm:=mm) (i4:=o4) (o4:=o4) (o5:=o5) (o6:=o6) (x1:=x1) hl h43 h62 hr;rw[show Ze (j :: js)=.int (j:Int) :: Ze js from rfl,ZF,e];unfold fcL;clear e h62 hr;cases g j with
  |some C=>exact⟨[],rfl⟩
  |none=>exact Zbr hl js (fun i hi=>h i (Lm _ hi)) _ _ _
theorem Zjr{a b:Nat}(ha:a<=1000)(hb:b<=1000):WZ (.tup [.int (a:Int),.int (b:Int)])=some ((List.range' a (b - a)).map fun(k:Nat)=>(k:Int)):=by
 rw[Zeb,if_pos (by unfold Y4;rw[decide_eq_true_iff];omega)]
 unfold Y9;have hn:Yz (a:Int) (b:Int) 1=b - a:=by
  unfold Yz;rw[if_pos (by decide)]
  split<;>omega
 rw[hn,List.range'_eq_map_range,List.map_map]
 congr 1
 apply List.map_congr_left
 intro k _;show(a:Int)+(k:Int) * 1=((a+k:Nat):Int);omega
theorem ZkD{m s:Nat}{bs:Li Nat}{i:Nat}(hs:s<=100):∀ C,fcN m s bs i=some C->C.length<=1000:=fun C e=>by
 rw[(V7 s bs i C e).1];omega
theorem Zgd{F:PFn}{mm:Bool}{bs:Li Nat}{s m i:Nat}(hl:bs.length<=1000)(hm:m<=60)(hi:i<=1000)(hs:s<=100)(h43:∀ j:Nat,j<=60->F 43 [.int (j:Int)]=some (.int ((2 ^ j:Nat):Int)))(h62:∀ (bs:Li Nat) (j:Nat),bs.length<=1000->j<=60->F 62 [.lst true (Ze bs),.int (j:Int),.int (m:Int),.int (s:Int)]=some (Ym (fcN m s bs j))) :
  px F [] c_first_choice.body [some (.lst mm (Ze bs)),some (.int (i:Int)),some (.int (m:Int)),some (.int ((s+1:Nat):Int)),Option.none,Option.none,Option.none]=some (.rt (Ym (fcN m (s+1) bs i))):=by
 obtain⟨π',e⟩:=Zbr (F:=F) (mm:=mm) (bs:=bs) (s:=s) (m:=m) (x1:=.int (i:Int)) (g:=fun j=>fcN m s (bs.filter fun b=>!b.testBit j) (j+1)) hl (List.range' i (m - i)) (fun j hj=>by
  rw[List.mem_range'_1]at hj;exact⟨h43 j (by omega),h62 _ _ (Nat.le_trans (List.length_filter_le _ _) hl) (by omega),ZkD hs⟩) Option.none Option.none Option.none
 have e0:pe F (.cmp .Eq (.var 3) (.cst (.int 0))) [some (.lst mm (Ze bs)),some (.int (i:Int)),some (.int (m:Int)),some (.int ((s+1:Nat):Int)),Option.none,Option.none,Option.none]=some (.bl false):=by
  rw[YX,pe_var,Z0];simp only[List.getElem?_cons_zero,List.getElem?_cons_succ,Option.join_some,Ob,ZK,WS];rw[decide_eq_false (by omega)]
 have e1:pe F (.aC (.var 1) (.aC (.var 2) .aN)) [some (.lst mm (Ze bs)),some (.int (i:Int)),some (.int (m:Int)),some (.int ((s+1:Nat):Int)),Option.none,Option.none,Option.none]=some (.tup [.int (i:Int),.int (m:Int)]):=by simp
 unfold c_first_choice;rw[Zi,YN,e0,Yb,if_neg Bf,Zu,Zg,Zi,ZgZ (zs:=(List.range' i (m - i)).map fun(k:Nat)=>(k:Int)) e1 (Zjr hi (by omega)) rfl,List.map_map]
 rw[show(List.range' i (m - i)).map (P.int ∘ fun(k:Nat)=>(k:Int))=Ze (List.range' i (m - i)) from rfl,e]
 show Xy (Q6 id π' (fcL (fun j=>fcN m s (bs.filter fun b=>!b.testBit j) (j+1)) (List.range' i (m - i)))) _=some (.rt (Ym (fcL (fun j=>fcN m s (bs.filter fun b=>!b.testBit j) (j+1)) (List.range' i (m - i)))))
 generalize fcL (fun j=>fcN m s (bs.filter fun b=>!b.testBit j) (j+1)) (List.range' i (m - i))=r
 cases r with
 |some C=>rfl
 |none=>
  show Xy (some (.nx π')) _=_;rw[Zg,Zi,Vo,Z0,ZgT,Ob,Zb2];rfl
theorem Zj6{T:Nat->Ot FD}(h:FewT T){m:Nat}(hm:m<=60):∀ (s n:Nat) (mm:Bool) (bs:Li Nat) (i:Nat),bs.length<=1000->i<=60->s<=100->Zc T (n+s+2) 62 [.lst mm (Ze bs),.int (i:Int),.int (m:Int),.int (s:Int)]=some (Ym (fcN m s bs i))
 |0,n,mm,bs,i,hl,hi,hs=>by
  rw[Zk (f:=c_first_choice) h.t62 rfl rfl];have b:px (Zc T (n+0+1)) [] c_first_choice.body [some (.lst mm (Ze bs)),some (.int (i:Int)),some (.int (m:Int)),some (.int ((0:Nat):Int)),Option.none,Option.none,Option.none]=some (.rt (Ym (fcN m 0 bs i))):=by
   unfold c_first_choice fcN;cases bs with
   |nil=>rfl
   |cons b bs=>
    have z:¬((bs.length:Int)+1=0):=by omega
    simp[z,Ym]
  exact congrArg Yn b
 |s+1,n,mm,bs,i,hl,hi,hs=>by
  rw[Zk (f:=c_first_choice) h.t62 rfl rfl];refine congrArg Yn (Zgd (F:=Zc T (n+(s+1)+1)) hl hm (by omega) (by omega) (fun j hj=>Zh3 h hj) fun bs j hb hj=>?_)
  have:=Zj6 h hm s n true bs j hb hj (by omega)
  rw[show n+(s+1)+1=n+s+2 by omega]
  exact this
theorem QI{k:Nat}{ks:Li Nat}:inP (k:Int) (Ze ks)=some (decide (k∈ks)):=by
 have e:Ze ks=(ks.map fun k=>((k:Nat):Int)).map P.int:=by simp
 rw[e,Zby]
 congr 1
 refine decide_eq_decide.mpr ?_;rw[List.mem_map];constructor
 ·rintro⟨j,hj,w⟩
  have:j=k:=by omega
  rw[<-this];exact hj
 ·intro h;exact⟨k,h,rfl⟩
theorem Qf:∀ {xs:Li P}{k:Nat},(Y8 k xs).length=xs.length
 |[],_=>rfl
 |x :: xs,k=>congrArg (·+1) Qf
theorem Qe:∀ (bs:Li Nat) (k:Nat),Y8 k (Ze bs)=(List.range' k bs.length).map fun(i:Nat)=>.tup [.int (i:Int),.int ((bs.getD (i - k) 0:Nat):Int)]
 |[],_=>rfl
 |b :: bs,k=>by
  show .tup [.int (k:Int),.int (b:Int)] :: Y8 (k+1) (Ze bs)=_;rw[Qe bs (k+1),List.length_cons,List.range'_succ,List.map_cons]
  congr 1
  ·simp
  ·apply List.map_congr_left
   intro i hi;rw[List.mem_range'_1]at hi;rw[show i - k=(i - (k+1))+1 by omega]
   rfl
theorem ZhD{F:PFn}{bs:Li Nat}{i:Nat}(hi:i < bs.length):pe F (.and (.cmp .NotEq (.var 1) (.cst (.int 0))) (.cmp .NotIn (.var 1) (.slice (.var 2) .nop (.part (.var 0))))) [some (.int (i:Int)),some (.int ((bs.getD i 0:Nat):Int)),some (.tup (Ze bs))]=some (.bl (ulB bs i)):=by
 have sl:=Za3 (xs:=Ze bs) (x:=i) (by simpa using hi)
 rw[show(Ze bs).take i=Ze (bs.take i) from(List.map_take ..).symm]at sl;unfold ulB;generalize bs.getD i 0=v;generalize Ze bs=E at sl ⊢;simp only[pe_and,YX,pe_var,List.getElem?_cons_zero,List.getElem?_cons_succ,Option.join_some,Ob,Z0,ZK,Zf2,pe_slice,ZeK,ZbO,J1,Zfj,sl,Zf3,QI,Option.map_some];by_cases h0:v=0
 ·simp[h0]
 ·have:¬(v:Int)=0:=by omega
  simp[h0,this]
theorem ZhC{F:PFn}{bs:Li Nat}(hl:bs.length<=1000):pe F YM [some (.tup (Ze bs))]=some (.lst true (Ze (Wf bs))):=by
 unfold YM;rw[ZeI (x:=.tup (Ze bs)) (xs:=Ze bs) rfl rfl (by rw[Qf,List.length_map];exact hl),Qe]
 rw[YT (p:=fun x=>match x with
  |.tup [.int o,_]=>ulB bs o.toNat
  |_=>false) (g:=fun x=>match x with
  |.tup [a,_]=>a
  |x=>x) (fun x hx=>?_) (fun x hx _=>?_)]
 ·unfold Wf
  rw[List.range_eq_range'];simp[List.filter_map,Function.comp_def]
 ·obtain⟨o,ho,rfl⟩:=List.mem_map.mp hx
  rw[List.mem_range'_1]at ho;exact ZhD (F:=F) (by omega)
 ·obtain⟨o,ho,rfl⟩:=List.mem_map.mp hx
  rfl
theorem Ji{T:Nat->Ot FD}(h63:T 63=some c_unlike_fakes){n:Nat}{bs:Li Nat}(hl:bs.length<=1000):Zc T (n+1) 63 [.tup (Ze bs)]=some (.lst true (Ze (Wf bs))):=by
 rw[Zk (f:=c_unlike_fakes) h63 rfl rfl];have b:px (Zc T n) [] c_unlike_fakes.body [some (.tup (Ze bs))]=some (.rt (.lst true (Ze (Wf bs)))):=by
  unfold c_unlike_fakes;rw[Zi,Vo,ZhC hl,Ob,Zb2]
 exact congrArg Yn b
theorem Zdy{bs:Li Nat}{i:Nat}(hi:i < bs.length):(Ze bs)[i]?=some (.int ((bs[i]:Nat):Int)):=by simp[hi]
theorem Zec{bs:Li Nat}:(Wf bs).length<=bs.length:=Nat.le_trans (List.length_filter_le _ _) (by rw[List.length_range];exact Nat.le_refl _)
theorem ZdH{F:PFn}{bs:Li Nat}{o1 o2 o3 o4:Ot P}(hl:bs.length<=1000)(h63:F 63 [.tup (Ze bs)]=some (.lst true (Ze (Wf bs)))):pe F WF [some (.tup (Ze bs)),o1,o2,o3,o4]=some (.lst true (Ze (ulV bs))):=by
 unfold WF;have e1:pe F (.call 63 (.aC (.var 0) .aN) []) [some (.tup (Ze bs)),o1,o2,o3,o4]=some (.lst true (Ze (Wf bs))):=by
  generalize Ze bs=E at h63 ⊢;simp[h63,XS]
 rw[YC,e1,Ob,UA,Ob,if_pos (by rw[List.length_map];exact Nat.le_trans Zec hl)]
 rw[Zds (g:=fun x=>match x with
  |.int o=>.int ((bs.getD o.toNat 0:Nat):Int)
  |x=>x) (fun x hx=>by simp) (fun x hx=>?_)]
 ·simp[ulV,Function.comp_def]
 ·obtain⟨o,ho,rfl⟩:=List.mem_map.mp hx
  have ho:=List.mem_range.mp (List.mem_filter.mp ho).1;have g:bs.getD o 0=bs[o]:=by simp[List.getD,ho]
  simp only[ZS,List.map_cons,List.map_nil,List.getElem?_cons_zero,Option.join_some,pe_ix,pe_var,List.getElem?_cons_succ,Ob,ix_tup,Zbh,Zdy ho,Int.toNat_natCast,g]
theorem ZdJ{F:PFn}{U:Li Nat}{s m:Nat}{x0 o3 o4:Ot P}{r:Ot (Li Nat)}(h62:F 62 [.lst true (Ze U),.int 0,.int (m:Int),.int (s:Int)]=some (Ym r)) :
  px F [] XC (Zo [x0,some (.int (m:Int)),some (.lst true (Ze U)),o3,o4] 3 (.int (s:Int)))=Q6 id [x0,some (.int (m:Int)),some (.lst true (Ze U)),some (.int (s:Int)),some .non] r:=by
 have e1:pe F (.call 62 (.aC (.var 2) (.aC (.cst (.int 0)) (.aC (.var 1) (.aC (.var 3) .aN)))) []) [x0,some (.int (m:Int)),some (.lst true (Ze U)),some (.int (s:Int)),o4]=some (Ym r):=by
  generalize Ze U=E at h62 ⊢;simp[h62,XS]
 unfold XC;simp only[Zm,Zl];rw[Zi,Xf,e1,Ob,Zg];simp only[Zm,Zl];rw[Zi,YN];cases r with
 |none=>
  have e3:pe F (.cmp .IsNot (.var 4) (.cst .non)) [x0,some (.int (m:Int)),some (.lst true (Ze U)),some (.int (s:Int)),some (Ym none)]=some (.bl false):=rfl;rw[e3,Yb,if_neg Bf,Zu,Zg,Zu];rfl
 |some C=>
  have e3:pe F (.cmp .IsNot (.var 4) (.cst .non)) [x0,some (.int (m:Int)),some (.lst true (Ze U)),some (.int (s:Int)),some (Ym (some C))]=some (.bl true):=rfl;rw[e3,Yb,if_pos rfl];rfl
theorem JC{F:PFn}{U:Li Nat}{m:Nat}{x0:Ot P}{g:Nat->Ot (Li Nat)}:∀ (ss:Li Nat),(∀ s∈ss,F 62 [.lst true (Ze U),.int 0,.int (m:Int),.int (s:Int)]=some (Ym (g s)))->∀ (o3 o4:Ot P),
  ∃ o3' o4',ZB (fun d π=>px F [] XC (Zo π 3 d)) (Ze ss) [x0,some (.int (m:Int)),some (.lst true (Ze U)),o3,o4]=Q6 id [x0,some (.int (m:Int)),some (.lst true (Ze U)),o3',o4'] (ss.findSome? g)
 |[],_,o3,o4=>⟨o3,o4,rfl⟩
 |s :: ss,h,o3,o4=>by
  have e:=ZdJ (F:=F) (x0:=x0) (o3:=o3) (o4:=o4) (h s Ls);rw[show Ze (s :: ss)=.int (s:Int) :: Ze ss from rfl,ZF,e,List.findSome?_cons];cases g s with
  |some C=>exact⟨o3,o4,rfl⟩
  |none=>exact JC ss (fun i hi=>h i (Lm _ hi)) _ _
theorem ZdG{F:PFn}{bs:Li Nat}{m:Nat}(hl:bs.length<=1000)(hm:m<=60)(h63:F 63 [.tup (Ze bs)]=some (.lst true (Ze (Wf bs))))(h62:∀ s,s < m->F 62 [.lst true (Ze (ulV bs)),.int 0,.int (m:Int),.int (s:Int)]=some (Ym (fcN m s (ulV bs) 0))) :
  px F [] c_fewest.body [some (.tup (Ze bs)),some (.int (m:Int)),Option.none,Option.none,Option.none]=some (.rt (.tup (Ze (Vh (ulV bs) m)))):=by
 obtain⟨o3,o4,e⟩:=JC (F:=F) (U:=ulV bs) (m:=m) (x0:=some (.tup (Ze bs))) (g:=fun s=>fcN m s (ulV bs) 0) (List.range m) (fun s hs=>h62 s (List.mem_range.mp hs)) Option.none Option.none
 have hr:ZO (m:Int)=Ze (List.range m):=by simp[ZO]
 unfold c_fewest;rw[Zi,Xf,ZdH hl h63,Ob,Zg];simp only[Zm,Zl];rw[Zi,Wn (n:=m) rfl (by omega) rfl,hr,e]
 unfold Vh;generalize ((List.range m).findSome? fun s=>fcN m s (ulV bs) 0)=r
 cases r with
 |some C=>rfl
 |none=>
  show Xy (some (.nx _)) _=_;have e2:Ql (.int (m:Int))=some (.tup (Ze (List.range m))):=by
   show(if -1000<=(m:Int)/\(m:Int)<=1000 then some (P.tup ((List.range (m:Int).toNat).map fun(k:Nat)=>P.int (k:Int))) else none)=_
   rw[if_pos ⟨by omega,by omega⟩]
   simp
  rw[Zg,Zi,Vo,ZgW,pe_var];simp only[List.getElem?_cons_zero,List.getElem?_cons_succ,Option.join_some,Ob];rw[e2];rfl
theorem Zj7{T:Nat->Ot FD}(h:FewT T){n m:Nat}{bs:Li Nat}(hl:bs.length<=1000)(hm:m<=10):Zc T (n+13) 64 [.tup (Ze bs),.int (m:Int)]=some (.tup (Ze (Vh (ulV bs) m))):=by
 rw[Zk (f:=c_fewest) h.t64 rfl rfl];refine congrArg Yn (ZdG (F:=Zc T (n+12)) hl (by omega) (Ji h.t63 hl) fun s hs=>?_)
 have:=Zj6 h (m:=m) (by omega) s (n+(10 - s)) true (ulV bs) 0 (Nat.le_trans ZjQ hl) (by omega) (by omega)
 rw[show n+(10 - s)+s+2=n+12 by omega]at this
 exact this
end Dp


namespace Dp
open PySem
def frL(g:Nat->Li Nat->Ot (Li Nat)):Li Nat->Ot (Li Nat)
 |[]=>none
 |a :: ns=>match g a ns with
  |some r=>some (a :: r)
  |none=>frL g ns
def frN(v:Nat->Nat):Nat->Li Nat->Ot (Li Nat)
 |0,_=>some []
 |s+1,ns=>frL (fun a r=>if s<=(r.filter fun o=>decide (v o &&& v a=0)).length then frN v s (r.filter fun o=>decide (v o &&& v a=0)) else none) ns
theorem QD{g:Nat->Li Nat->Ot (Li Nat)}{C:Li Nat}:∀ {ns:Li Nat},frL g ns=some C->∃ a l r q,ns=l++a :: r/\g a r=some q/\C=a :: q
 |[],h=>nomatch h
 |a :: ns,h=>by
  unfold frL at h;split at h
  ·rename_i q e
   cases h;exact⟨a,[],ns,q,rfl,e,rfl⟩
  ·obtain⟨b,l,r,q,e1,e2,e3⟩:=QD h
   exact⟨b,a :: l,r,q,by rw[e1];rfl,e2,e3⟩
def UN(v:Nat->Nat)(C:Li Nat):Prop:=C.Pairwise fun a b=>v a &&& v b=0
theorem JI{v:Nat->Nat}:∀ {s:Nat}{ns C:Li Nat},ns.Pairwise (· < ·)->frN v s ns=some C->C.length=s/\C.Pairwise (· < ·)/\(∀ c∈C,c∈ns)/\UN v C
 |0,ns,C,_,h=>by
  cases h;exact⟨rfl,.nil,(fun _ h=>nomatch h),.nil⟩
 |s+1,ns,C,hp,h=>by
  unfold frN at h;obtain⟨a,l,r,q,rfl,e2,rfl⟩:=QD h;split at e2
  ·have hr:=(List.pairwise_append.mp hp).2.1
   rw[List.pairwise_cons]at hr;obtain⟨h1,h2,h3,h4⟩:=JI (hr.2.filter _) e2;refine⟨by rw[List.length_cons,h1],List.pairwise_cons.mpr ⟨fun c hc=>hr.1 c (List.mem_filter.mp (h3 c hc)).1,h2⟩,fun c hc=>?_,List.pairwise_cons.mpr ⟨fun c hc=>?_,h4⟩⟩
   ·rcases List.mem_cons.mp hc with rfl|hc
    ·exact List.mem_append_right _ Ls
    ·exact List.mem_append_right _ (Lm _ (List.mem_filter.mp (h3 c hc)).1)
   ·have:=(List.mem_filter.mp (h3 c hc)).2
    rw[Nat.and_comm];simpa using this
  ·cases e2
theorem Zle{bs:Li Nat}:(Wf bs).Pairwise (· < ·):=List.Pairwise.filter _ List.pairwise_lt_range
theorem Zh0{bs:Li Nat}{i:Nat}(h:i∈Wf bs):i < bs.length/\bs.getD i 0≠0:=by
 obtain⟨h1,h2⟩:=List.mem_filter.mp h;refine⟨List.mem_range.mp h1,?_⟩;unfold ulB at h2;rw[Ba,Bool.not_eq_true',decide_eq_false_iff_not]at h2;exact h2.1
def Zao(bs:Li Nat)(s:Nat):Ot (Li Nat):=frN (fun i=>bs.getD i 0) s (Wf bs)
theorem ZcY{bs C:Li Nat}{s:Nat}(h:Zao bs s=some C):C.length=s/\C.Pairwise (· < ·)/\(∀ c∈C,c < bs.length/\bs.getD c 0≠0)/\UN (fun i=>bs.getD i 0) C:=by
 obtain⟨h1,h2,h3,h4⟩:=JI Zle h;exact⟨h1,h2,fun c hc=>Zh0 (h3 c hc),h4⟩
theorem Zdt{xs:Li P}{k:Nat}(h:k+1<=xs.length):XY xs (some ((k:Int)+1)) Option.none=xs.drop (k+1):=by
 have e:sIx xs.length 0 (some ((k:Int)+1))=k+1:=by
  show(if (k:Int)+1 < 0 then ((k:Int)+1+(xs.length:Int)).toNat else Nat.min ((k:Int)+1).toNat xs.length)=_
  rw[if_neg (by omega),show((k:Int)+1).toNat=k+1 by omega]
  exact Nat.min_eq_left h
 unfold XY;rw[e];show(xs.drop (k+1)).take (xs.length - (k+1))=_;exact List.take_of_length_le (by rw[List.length_drop];exact Nat.le_refl _)
theorem JA{bs:Li Nat}{i:Nat}(hi:i < bs.length):(Ze bs)[i]?=some (.int ((bs.getD i 0:Nat):Int)):=by
 have g:bs.getD i 0=bs[i]:=by simp[List.getD,hi]
 rw[g];exact Zdy hi
theorem Zdz{ns r:Li Nat}{k:Nat}(h:ns.drop k=r):(Ze ns).drop k=Ze r:=by rw[<-h];exact(List.map_drop ..).symm
abbrev VC(bs ns:Li Nat)(s:Nat)(a b c d:Ot P):Zr:=[some (.tup (Ze bs)),some (.lst true (Ze ns)),some (.int (s:Int)),a,b,c,d]
theorem Zgh{F:PFn}{bs ns r:Li Nat}{k a s:Nat}{o5 o6:Ot P}(hb:∀ o∈a :: r,o < bs.length)(hd:ns.drop k=a :: r)(hl:ns.length<=1000) :
  pe F Xi (VC bs ns s (some (.int (k:Int))) (some (.int (a:Int))) o5 o6)=some (.lst true (Ze (r.filter fun o=>decide (bs.getD o 0 &&& bs.getD a 0=0)))):=by
 have hk:k < ns.length:=Decidable.byContradiction fun z=>by
  rw[List.drop_eq_nil_of_le (by omega)]at hd;cases hd
 have hr:ns.drop (k+1)=r:=by
  have:=congrArg List.tail hd
  rwa [List.tail_drop]at this
 have e1:pe F (.slice (.var 1) (.part (.bin .Add (.var 3) (.cst (.int 1)))) .nop) (VC bs ns s (some (.int (k:Int))) (some (.int (a:Int))) o5 o6)=some (.lst true (Ze r)):=by
  have c:=Zdt (xs:=Ze ns) (k:=k) (by rw[List.length_map];omega)
  rw[Zdz hr]at c;generalize Ze r=R at c;simp only[pe_slice,pe_var,List.getElem?_cons_zero,List.getElem?_cons_succ,Option.join_some,Ob,ZbO,ZM,Z0,ZK,XD,J1,ZeK,Zfi,ZcW,c]
 have hlr:r.length<=1000:=by
  rw[<-hr,List.length_drop];omega
 unfold Xi;rw[YC,e1,Ob,UA,Ob,if_pos (by rw[List.length_map];exact hlr)]
 rw[YT (p:=fun x=>match x with
  |.int o=>decide (bs.getD o.toNat 0 &&& bs.getD a 0=0)
  |_=>false) (g:=id) (fun x hx=>?_) (fun x hx _=>by simp[ZS])]
 ·simp[List.filter_map,Function.comp_def]
 ·obtain⟨o,ho,rfl⟩:=List.mem_map.mp hx
  have h1:=JA (hb o (Lm _ ho));have h2:=JA (hb a Ls);simp only[ZS,List.map_cons,List.map_nil,List.getElem?_cons_zero,List.getElem?_cons_succ,Option.join_some,Int.toNat_natCast];simp only[YX,ZM,pe_ix,pe_var,List.getElem?_cons_zero,List.getElem?_cons_succ,Option.join_some,Ob,ix_tup,Zbh,h1,h2,Zkj,Z0,ZK,WS]
  congr 2
  exact decide_eq_decide.mpr (by omega)
theorem Zgi{F:PFn}{bs ns r:Li Nat}{k a s:Nat}{o3 o4 o5 o6:Ot P}{g:Li Nat->Ot (Li Nat)}(hb:∀ o∈a :: r,o < bs.length)(hd:ns.drop k=a :: r)(hl:ns.length<=1000)(h66:∀ q:Li Nat,q.length<=1000->(∀ o∈q,o < bs.length)->F 66 [.tup (Ze bs),.lst true (Ze q),.int (s:Int)]=some (Ym (g q)))(hg:∀ q C,g q=some C->C.length<=1000) :
  ∃ o5' o6',px F [] YQ (Zo (Zo (VC bs ns (s+1) o3 o4 o5 o6) 3 (.int (k:Int))) 4 (.int (a:Int)))=Q6 (a :: ·) (VC bs ns (s+1) (some (.int (k:Int))) (some (.int (a:Int))) o5' o6') (if s<=(r.filter fun o=>decide (bs.getD o 0 &&& bs.getD a 0=0)).length then g (r.filter fun o=>decide (bs.getD o 0 &&& bs.getD a 0=0)) else none):=by
 have c:=Zgh (F:=F) (s:=s+1) (o5:=o5) (o6:=o6) hb hd hl;have hlr:r.length<=1000:=by
  have:=congrArg List.length hd;rw[List.length_drop,List.length_cons]at this;omega
 have hq:=h66 (r.filter fun o=>decide (bs.getD o 0 &&& bs.getD a 0=0)) (Nat.le_trans (List.length_filter_le _ _) hlr) (fun o ho=>hb o (Lm _ (List.mem_filter.mp ho).1))
 generalize (r.filter fun o=>decide (bs.getD o 0 &&& bs.getD a 0=0))=q at *
 have z2:((s+1:Nat):Int) - 1=(s:Int):=by omega
 unfold YQ;simp only[Zm,Zl];rw[Zi,Xf,c,Ob,Zg];simp only[Zm,Zl];have e1:pe F (.cmp .GtE (.len (.var 5)) (.bin .Sub (.var 2) (.cst (.int 1)))) (VC bs ns (s+1) (some (.int (k:Int))) (some (.int (a:Int))) (some (.lst true (Ze q))) o6)=some (.bl (decide (s<=q.length))):=by
  simp only[YX,ZeJ,ZM,pe_var,List.getElem?_cons_zero,List.getElem?_cons_succ,Option.join_some,Ob,ZgH,List.length_map,Z0,ZK,WO,Zis,z2]
  congr 2
  exact decide_eq_decide.mpr (by omega)
 rw[Zi,YN,e1,Yb];by_cases h:s<=q.length
 ·rw[decide_eq_true h,if_pos rfl,if_pos h]
  have e2:pe F (.call 66 (.aC (.var 0) (.aC (.var 5) (.aC (.bin .Sub (.var 2) (.cst (.int 1))) .aN))) []) (VC bs ns (s+1) (some (.int (k:Int))) (some (.int (a:Int))) (some (.lst true (Ze q))) o6)=some (Ym (g q)):=by
   simp only[pe_call,YU,ZbN,ZM,pe_var,Z0,ZK,List.getElem?_cons_zero,List.getElem?_cons_succ,Option.join_some,Ob,WO,z2,Jy,List.length_cons,List.length_nil,Js,JY,List.append_nil];simp[hq]
  refine⟨some (.lst true (Ze q)),some (Ym (g q)),?_⟩;rw[Zi,Xf,e2,Ob,Zg];simp only[Zm,Zl];have hg:=hg q;rw[Zi,YN];clear e2 hq;cases e6:g q with
  |none=>
   have e3:pe F (.cmp .IsNot (.var 6) (.cst .non)) (VC bs ns (s+1) (some (.int (k:Int))) (some (.int (a:Int))) (some (.lst true (Ze q))) (some (Ym none)))=some (.bl false):=rfl;rw[e3,Yb,if_neg Bf,Zu,Zg,Zu,Zg,Zu];rfl
  |some C=>
   have hC:=hg C e6;have e3:pe F (.cmp .IsNot (.var 6) (.cst .non)) (VC bs ns (s+1) (some (.int (k:Int))) (some (.int (a:Int))) (some (.lst true (Ze q))) (some (Ym (some C))))=some (.bl true):=rfl;rw[e3,Yb,if_pos rfl];have hz:1+C.length<=Zp:=by unfold Zp;omega
   have e4:pe F (.bin .Add (.tupE (.aC (.var 4) .aN)) (.var 6)) (VC bs ns (s+1) (some (.int (k:Int))) (some (.int (a:Int))) (some (.lst true (Ze q))) (some (Ym (some C))))=some (.tup (Ze (a :: C))):=by
    simp[Ym,hz]
   rw[Zi,Vo,e4];rfl
 ·rw[decide_eq_false h,if_neg Bf,Zu,Zg,Zu,if_neg h]
  exact⟨_,_,rfl⟩
theorem ZaP{B:P->P->Zr->Ot PFl}{x y:P}{ps:Li (P×P)}{π:Zr}:Yu B ((x,y) :: ps) π=Uy (B x y π) (Yu B ps):=by
 show(match B x y π with
  |some (.nx π')=>Yu B ps π'
  |some (.ct π')=>Yu B ps π'
  |some (.bk π')=>some (.nx π')
  |some (.rt v)=>some (.rt v)
  |none=>none)=_
 cases B x y π with
 |none=>rfl
 |some f=>cases f<;>rfl
theorem Zbu{F:PFn}{bs ns:Li Nat}{s:Nat}{g:Li Nat->Ot (Li Nat)}(hb:∀ o∈ns,o < bs.length)(hl:ns.length<=1000)(h66:∀ q:Li Nat,q.length<=1000->(∀ o∈q,o < bs.length)->F 66 [.tup (Ze bs),.lst true (Ze q),.int (s:Int)]=some (Ym (g q)))(hg:∀ q C,g q=some C->C.length<=1000) :
  ∀ (r:Li Nat) (k:Nat),ns.drop k=r->∀ (o3 o4 o5 o6:Ot P),∃ π',Yu (fun x y π=>px F [] YQ (Zo (Zo π 3 x) 4 y)) (Wa k (Ze r)) (VC bs ns (s+1) o3 o4 o5 o6)=Q6 id π' (frL (fun a r=>if s<=(r.filter fun o=>decide (bs.getD o 0 &&& bs.getD a 0=0)).length then g (r.filter fun o=>decide (bs.getD o 0 &&& bs.getD a 0=0)) else none) r)
 |[],k,_,o3,o4,o5,o6=>⟨_,rfl⟩
 |a :: r,k,hd,o3,o4,o5,o6=>by
  have hr:ns.drop (k+1)=r:=by
   have:=congrArg List.tail hd
   rwa [List.tail_drop]at this
  obtain⟨o5',o6',e⟩:=Zgi (F:=F) (o3:=o3) (o4:=o4) (o5:=o5) (o6:=o6) (fun o ho=>hb o (List.mem_of_mem_drop (by rw[hd];exact ho))) hd hl h66 hg
  show ∃ π',Yu _ ((.int (k:Int),.int (a:Int)) :: Wa (k+1) (Ze r)) _=_;rw[ZaP,e];unfold frL;generalize (if s<=(r.filter fun o=>decide (bs.getD o 0 &&& bs.getD a 0=0)).length then g (r.filter fun o=>decide (bs.getD o 0 &&& bs.getD a 0=0)) else none)=w
  cases w with
  |some C=>exact⟨[],rfl⟩
  |none=>exact Zbu hb hl h66 hg r (k+1) hr _ _ _ _
theorem ZdL{v:Nat->Nat}:∀ {s:Nat}{ns C:Li Nat},frN v s ns=some C->C.length=s
 |0,ns,C,h=>by cases h;rfl
 |s+1,ns,C,h=>by
  unfold frN at h;obtain⟨a,l,r,q,rfl,e2,rfl⟩:=QD h;split at e2
  ·rw[List.length_cons,ZdL e2]
  ·cases e2
theorem Zj8{T:Nat->Ot FD}(h66:T 66=some c_first_row){bs:Li Nat}:∀ (s n:Nat) (ns:Li Nat),ns.length<=1000->(∀ o∈ns,o < bs.length)->s<=100->Zc T (n+s+1) 66 [.tup (Ze bs),.lst true (Ze ns),.int (s:Int)]=some (Ym (frN (fun i=>bs.getD i 0) s ns))
 |0,n,ns,hl,hb,hs=>by
  rw[Zk (f:=c_first_row) h66 rfl rfl];rfl
 |s+1,n,ns,hl,hb,hs=>by
  rw[Zk (f:=c_first_row) h66 rfl rfl];have i66:∀ q:Li Nat,q.length<=1000->(∀ o∈q,o < bs.length)->Zc T (n+(s+1)) 66 [.tup (Ze bs),.lst true (Ze q),.int (s:Int)]=some (Ym (frN (fun i=>bs.getD i 0) s q)):=fun q h1 h2=>by
   have:=Zj8 h66 (bs:=bs) s n q h1 h2 (by omega)
   rw[show n+(s+1)=n+s+1 by omega]
   exact this
  obtain⟨π',e⟩:=Zbu (F:=Zc T (n+(s+1))) (g:=frN (fun i=>bs.getD i 0) s) hb hl i66 (fun q C h=>by rw[ZdL h];omega) ns 0 rfl none none none none
  have e0:pe (Zc T (n+(s+1))) (.cmp .Eq (.var 2) (.cst (.int 0))) (VC bs ns (s+1) none none none none)=some (.bl false):=by
   rw[YX,pe_var,Z0];simp only[List.getElem?_cons_zero,List.getElem?_cons_succ,Option.join_some,Ob,ZK,WS];rw[decide_eq_false (by omega)]
  have b:px (Zc T (n+(s+1))) [] c_first_row.body (VC bs ns (s+1) none none none none)=some (.rt (Ym (frN (fun i=>bs.getD i 0) (s+1) ns))):=by
   unfold c_first_row;rw[Zi,YN,e0,Yb,if_neg Bf,Zu,Zg,Zi,ZbR (x:=.lst true (Ze ns)) (xs:=Ze ns) rfl rfl rfl,e];show Xy (Q6 id π' (frN (fun i=>bs.getD i 0) (s+1) ns)) _=_
   cases frN (fun i=>bs.getD i 0) (s+1) ns with
   |some C=>rfl
   |none=>rfl
  exact congrArg Yn b
theorem Zj9{T:Nat->Ot FD}(h66:T 66=some c_first_row)(h63:T 63=some c_unlike_fakes)(h67:T 67=some c_strangers){n s:Nat}{bs:Li Nat}(hl:bs.length<=1000)(hs:s<=10):Zc T (n+12) 67 [.tup (Ze bs),.int (s:Int)]=some (Ym (Zao bs s)):=by
 rw[Zk (f:=c_strangers) h67 rfl rfl];have e1:=Ji h63 (n:=n+10) hl;have e2:=Zj8 h66 (bs:=bs) s (n+(10 - s)) (Wf bs) (Nat.le_trans Zec hl) (fun o ho=>(Zh0 ho).1) (by omega)
 rw[show n+(10 - s)+s+1=n+11 by omega]at e2
 have b:px (Zc T (n+11)) [] c_strangers.body [some (.tup (Ze bs)),some (.int (s:Int))]=some (.rt (Ym (Zao bs s))):=by
  unfold c_strangers Zao;generalize Ym (frN (fun i=>bs.getD i 0) s (Wf bs))=R at e2 ⊢
  generalize Ze (Wf bs)=U at e1 e2;generalize Ze bs=E at e1 e2 ⊢;simp[e1,e2,XS]
 exact congrArg Yn b
end Dp


namespace Dp
open PySem
noncomputable def num:Li (Str×Nat):=[(S "replaced",42),(S "operand_places",113),(S "bit_of",43),(S "first_choice",62),(S "unlike_fakes",63),(S "fewest",64),(S "first_row",66),(S "strangers",67),(S "shown_fewest",111),(S "HuntError",177),(S "TooMany",178),(S "TooMany.__init__",179),(S "around",0),(S "divided",1),(S "left_over",2),(S "reckon",3),(S "is_so",4),(S "behind",70),(S "Step",146),(S "Step.word",147),(S "Step.turned",148),(S "Sign",169),(S "Sign.word",170),(S "Sign.turned",171),(S "More",149),(S "More.word",150),(S "More.turned",151),(S "Turn",157),(S "Turn.word",158),(S "Turn.turned",159),(S "Out",152),(S "Out.word",153),(S "Out.turned",154),(S "Swap",160),(S "Swap.word",161),(S "Swap.turned",162),(S "Far",163),(S "Far.word",164),(S "Far.turned",165),(S "fakes",172),(S "fake_of",180),(S "worth",5),(S "began",6),(S "at_end",7),(S "values_behind",8),(S "place_behind",9),(S "moved",10),(S "is_outcome",11),(S "trail",12),(S "outcome",13),(S "check_trials",181),(S "outcomes",182),(S "bits_unlike",183),(S "bits_of",184),(S "_law_whole",17),(S "_law_cell_at",27),(S "_law_number",185),(S "_law_operand",28),(S "_law_row",29),(S "_law_round",89),(S "_law_sum",187),(S "_law_so",33),(S "_law_worth",34),(S "_law_outcome",188),(S "_law_telling",198),(S "_law_rising",65),(S "_law_tell_all",199),(S "_law_strange",200),(S "law",16)]
noncomputable def T:Nat->Ot FD
 |42=>some c_replaced
 |113=>some c_operand_places
 |43=>some c_bit_of
 |62=>some c_first_choice
 |63=>some c_unlike_fakes
 |64=>some c_fewest
 |66=>some c_first_row
 |67=>some c_strangers
 |111=>some c_shown_fewest
 |0=>some c_around
 |1=>some c_divided
 |2=>some c_left_over
 |3=>some c_reckon
 |4=>some c_is_so
 |70=>some c_behind
 |147=>some c_Step_word
 |148=>some c_Step_turned
 |170=>some c_Sign_word
 |171=>some c_Sign_turned
 |150=>some c_More_word
 |151=>some c_More_turned
 |158=>some c_Turn_word
 |159=>some c_Turn_turned
 |153=>some c_Out_word
 |154=>some c_Out_turned
 |161=>some c_Swap_word
 |162=>some c_Swap_turned
 |164=>some c_Far_word
 |165=>some c_Far_turned
 |172=>some c_fakes
 |180=>some c_fake_of
 |5=>some c_worth
 |6=>some c_began
 |7=>some c_at_end
 |8=>some c_values_behind
 |9=>some c_place_behind
 |10=>some c_moved
 |11=>some c_is_outcome
 |12=>some c_trail
 |13=>some c_outcome
 |181=>some c_check_trials
 |182=>some c_outcomes
 |183=>some c_bits_unlike
 |184=>some c_bits_of
 |17=>some c__law_whole
 |27=>some c__law_cell_at_k61
 |185=>some c__law_number_k61
 |28=>some c__law_operand_k61
 |29=>some c__law_row_k61
 |89=>some c__law_round
 |187=>some c__law_sum
 |33=>some c__law_so_k55
 |34=>some c__law_worth
 |188=>some c__law_outcome
 |198=>some c__law_telling
 |65=>some c__law_rising
 |199=>some c__law_tell_all
 |200=>some c__law_strange
 |16=>some c_law_k61
 |999=>some ⟨0,0,.skip⟩
 |_=>none
end Dp


namespace Dp
open PySem
theorem ZjK:TrailT T:=⟨⟨⟨⟨rfl,rfl,rfl,rfl⟩,rfl,rfl,rfl,rfl,rfl,rfl,rfl⟩,rfl⟩,rfl,rfl⟩
theorem ZmL:LawOT T:=⟨rfl,rfl,rfl,rfl,rfl⟩
section
variable {n:Nat}{F:PFn}{m many:Nat}{c0 c1 c2 c3:Int}{r:Row}{y z:Opd}{s:Str}{x t:Nat}
def Zcc:Row->Prop
 |.put _ _ s _=>PSg s
 |.ifr _ s _ _=>ISg s
 |_=>True
def nxA(s:Str):Str:=if s=S "+" then S "-" else if s=S "-" then S "*" else if s=S "*" then S "/" else if s=S "/" then S "mod" else S "+"
def nxB(s:Str):Str:=if s=S "<" then S "<=" else if s=S "<=" then S "=" else if s=S "=" then S ">=" else if s=S ">=" then S ">" else if s=S ">" then S "!=" else S "<"
def W7:Row->Li Row
 |.put x y s z=>[.put x y (nxA s) z]
 |.ifr y s z t=>[.ifr y (nxB s) z t]
 |_=>[]
theorem Zh6(h:Zcc r):Zc T (n+2) 171 [.obj 169,Zf r,.int (many:Int)]=some (.tup ((W7 r).map Zf)):=by
 cases r with
 |put x y s z=>
  rcases (h:PSg s) with rfl|rfl|rfl|rfl|rfl<;>rfl
 |ifr y s z t=>
  rcases (h:ISg s) with rfl|rfl|rfl|rfl|rfl|rfl<;>rfl
 |_=>rfl
def Vw:Opd->Li Opd
 |.name _=>[]
 |.num c=>[.num (ZN (c+1))]
def X7:Row->Li Row
 |.put x y s z=>(Vw y).map (fun y'=>.put x y' s z)++(Vw z).map (fun z'=>.put x y s z')
 |.ifr y s z t=>(Vw y).map (fun y'=>.ifr y' s z t)++(Vw z).map (fun z'=>.ifr y s z' t)
 |.tell y=>(Vw y).map .tell
 |_=>[]
theorem Xv:(Vw y).length<=1:=by cases y<;>simp[Vw]
theorem U9:(X7 r).length<=2:=by
 cases r with
 |put x y s z=>have:=Xv (y:=y);have:=Xv (y:=z);simp[X7];omega
 |ifr y s z t=>have:=Xv (y:=y);have:=Xv (y:=z);simp[X7];omega
 |tell y=>have:=Xv (y:=y);simp[X7];omega
 |go t=>simp[X7]
 |skip=>simp[X7]
theorem Zh5:Zc T (n+2) 151 [.obj 149,Zf r,.int (many:Int)]=some (.tup ((X7 r).map Zf)):=by
 cases r with
 |put x y s z=>cases y<;>cases z<;>rfl
 |ifr y s z t=>cases y<;>cases z<;>rfl
 |tell y=>cases y<;>rfl
 |_=>rfl
def QX:Row->Li Row
 |.skip=>[]
 |_=>[.skip]
theorem Zkc:Zc T (n+1) 154 [.obj 152,Zf r,.int (many:Int)]=some (.tup ((QX r).map Zf)):=by
 cases r<;>rfl
def Zkv(s:Str):Str:=if s=S "<" then S ">=" else if s=S ">=" then S "<" else if s=S ">" then S "<=" else if s=S "<=" then S ">" else if s=S "=" then S "!=" else S "="
def W8:Row->Li Row
 |.ifr y s z t=>[.ifr y (Zkv s) z t]
 |_=>[]
theorem Zh8(h:Zcc r):Zc T (n+2) 159 [.obj 157,Zf r,.int (many:Int)]=some (.tup ((W8 r).map Zf)):=by
 cases r with
 |ifr y s z t=>
  rcases (h:ISg s) with rfl|rfl|rfl|rfl|rfl|rfl<;>rfl
 |_=>rfl
theorem ne_O:ZX .NotEq (ZH y) (ZH z)=some (.bl (!eqO y z)):=by
 have e:ZX .NotEq (ZH y) (ZH z)=some (.bl (!WM (ZH y) (ZH z))):=by
  cases y<;>cases z<;>rfl
 rw[e,Zkn]
def Wd:Row->Li Row
 |.put x y s z=>if eqO y z=true then [] else [.put x z s y]
 |.ifr y s z t=>if eqO y z=true then [] else [.ifr z s y t]
 |_=>[]
theorem Zaq:(Wd r).length<=1:=by
 cases r<;>simp[Wd]
 all_goals split<;>simp
theorem Zh7:Zc T (n+1) 162 [.obj 160,Zf r,.int (many:Int)]=some (.tup ((Wd r).map Zf)):=by
 cases r with
 |put x y s z=>
  rw[Zk (f:=c_Swap_turned) rfl rfl rfl];show Yn (px (Zc T n) [] c_Swap_turned.body [some (.obj 160),some (Zf (.put x y s z)),some (.int (many:Int))])=_;unfold c_Swap_turned;cases q:eqO y z
  ·rw[ZI (v:=.tup [Zf (.put x z s y)]) (by exact ne_O.trans (by rw[q];rfl)) (by rfl)]
   simp only[Wd,q];rfl
  ·rw[Zy (by exact ne_O.trans (by rw[q];rfl)),Zy (by rfl),ZQ (v:=.tup []) (by rfl)]
   simp only[Wd,q];rfl
 |ifr y s z t=>
  rw[Zk (f:=c_Swap_turned) rfl rfl rfl];show Yn (px (Zc T n) [] c_Swap_turned.body [some (.obj 160),some (Zf (.ifr y s z t)),some (.int (many:Int))])=_;unfold c_Swap_turned;cases q:eqO y z
  ·rw[Zy (by rfl),ZI (v:=.tup [Zf (.ifr z s y t)]) (by exact ne_O.trans (by rw[q];rfl)) (by rfl)]
   simp only[Wd,q];rfl
  ·rw[Zy (by rfl),Zy (by exact ne_O.trans (by rw[q];rfl)),ZQ (v:=.tup []) (by rfl)]
   simp only[Wd,q];rfl
 |_=>rfl
def V5(many:Nat):Row->Li Row
 |.go t=>if t < many then [.go (t+1)] else []
 |.ifr y s z t=>if t < many then [.ifr y s z (t+1)] else []
 |_=>[]
theorem Zbp:(V5 many r).length<=1:=by
 cases r<;>simp[V5]
 all_goals split<;>simp
theorem sl2{a b:P}:Yt (.tup [a,b]) Option.none (some (-1))=some (.tup [a]):=rfl
theorem Zkb:Zc T (n+1) 165 [.obj 163,Zf r,.int (many:Int)]=some (.tup ((V5 many r).map Zf)):=by
 cases r with
 |go t=>
  rw[Zk (f:=c_Far_turned) rfl rfl rfl];show Yn (px (Zc T n) [] c_Far_turned.body [some (.obj 163),some (Zf (.go t)),some (.int (many:Int))])=_;unfold c_Far_turned;by_cases q:t < many
  ·rw[Zy (by show some (P.bl (decide ((t:Int)>=(many:Int))))=_;rw[decide_eq_false (by omega)]),ZQ (v:=.tup [Zf (.go (t+1))]) (by rfl)]
   simp only[V5,q];rfl
  ·rw[ZI (v:=.tup []) (by show some (P.bl (decide ((t:Int)>=(many:Int))))=_;rw[decide_eq_true (by omega)]) (by rfl)]
   simp only[V5,q];rfl
 |ifr y s z t=>
  rw[Zk (f:=c_Far_turned) rfl rfl rfl];show Yn (px (Zc T n) [] c_Far_turned.body [some (.obj 163),some (Zf (.ifr y s z t)),some (.int (many:Int))])=_;unfold c_Far_turned;by_cases q:t < many
  ·rw[Zy (by show some (P.bl (decide ((t:Int)>=(many:Int))))=_;rw[decide_eq_false (by omega)]),ZQ (v:=.tup [Zf (.ifr y s z (t+1))]) (by rfl)]
   simp only[V5,q];rfl
  ·rw[ZI (v:=.tup []) (by show some (P.bl (decide ((t:Int)>=(many:Int))))=_;rw[decide_eq_true (by omega)]) (by rfl)]
   simp only[V5,q];rfl
 |_=>rfl
theorem Zbi{M:Li Nat}{k:Nat}{e:CE}{q:CS}{π:Zr}{p:P}{xs:Li P}(h:π[k]?=some (some (.lst true xs)))(he:pe F e π=some p)(hk:(M.contains k&&Zv M e p)=true)(hl:xs.length<=1000):px F M (.seq (.app k e) q) π=px F M q (Zo π k (.lst true (xs++[p]))):=by
 have z:xs.length < Zp:=by unfold Zp;omega
 rw[Zi,ZaY h,he,Ob,if_pos (by rw[hk,decide_eq_true z];rfl),Zg]
def fkR(many:Nat)(r:Row):Li (Str×Row):=
 (W7 r).map (S "sign",·)++((X7 r).map (S "more",·)++((W8 r).map (S "turn",·)++((QX r).map (S "out",·)++((Wd r).map (S "swap",·)++(V5 many r).map (S "far",·)))))
def X1(k:Nat)(q:Str×Row):P:=.tup [.int (k:Int),.str q.1,Zf q.2]
def Wt(many:Nat):Nat->Li Row->Li P
 |_,[]=>[]
 |k,r :: rs=>(fkR many r).map (X1 k)++Wt many (k+1) rs
theorem Zbs:(fkR many r).length<=8:=by
 have h1:(W7 r).length<=1:=by cases r<;>simp[W7]
 have h2:=U9 (r:=r);have h3:(W8 r).length<=1:=by cases r<;>simp[W8]
 have h4:(QX r).length<=1:=by cases r<;>simp[QX]
 have h5:=Zaq (r:=r);have h6:=Zbp (many:=many) (r:=r);simp[fkR];omega
theorem U1:∀ (rs:Li Row) (k:Nat),(Wt many k rs).length<=8 * rs.length
 |[],_=>Nat.le_refl _
 |r :: rs,k=>by
  have h1:=Zbs (many:=many) (r:=r);have h2:=U1 rs (k+1);simp only[Wt,List.length_append,List.length_map,List.length_cons];omega
theorem Zcx{π:Zr}{fr:Li Nat}{it elt:CE}{rs:Li Row}{g:Row->P}(hi:pe F it π=some (.tup (rs.map Zf)))(hl:rs.length<=1000)(hf:∀ r,pe F elt (ZS π fr (Zf r))=some (g r)):pe F (.comp false fr it elt (.cst (.bl true))) π=some (.lst true (rs.map g)):=by
 have cr:∀ rs:Li Row,Ye (fun p=>pe F elt (ZS π fr p)) (fun p=>pe F (.cst (.bl true)) (ZS π fr p)) (rs.map Zf)=some (rs.map g):=fun rs=>by
  induction rs with
  |nil=>rfl
  |cons r rs ih=>
   rw[List.map_cons];unfold Ye;rw[show pe F (.cst (.bl true)) (ZS π fr (Zf r))=some (.bl true) from rfl,hf];simp only;rw[ih];rfl
 rw[YC,hi,Ob,show YF false (.tup (rs.map Zf))=some (rs.map Zf) from rfl,Ob,if_pos (by rw[List.length_map];exact hl),cr]
 rfl
def ZjL:Li (Nat×Nat):=[(146,148),(169,171),(149,151),(157,159),(152,154),(160,162),(163,165)]
def ZjM:Li (Nat×Nat):=[(146,147),(169,170),(149,150),(157,158),(152,153),(160,161),(163,164)]
theorem Zgf{x0 x2:Ot P}{rows told:Li P}{k i:Nat}{rs:Li Row}{w:Str}(hT:W2 F ZjL (.obj i) (.tup [Zf r,.int (rows.length:Int)])=some (.tup (rs.map Zf)))(hW:W2 F ZjM (.obj i) (.tup [])=some (.str w))(hr:rs.length<=10)(ht:told.length<=200) :
  px F [3] Wg [x0,some (.tup rows),x2,some (.lst true told),some (.int (k:Int)),some (Zf r),some (.obj i)]=some (.nx [x0,some (.tup rows),x2,some (.lst true (told++rs.map fun q=>X1 k (w,q))),some (.int (k:Int)),some (Zf r),some (.obj i)]):=by
 unfold ZjL at hT;unfold ZjM at hW;have e:pe F UT [x0,some (.tup rows),x2,some (.lst true told),some (.int (k:Int)),some (Zf r),some (.obj i)]=some (.lst true (rs.map fun q=>X1 k (w,q))):=
  Zcx (by first|rfl|simp[hT]) (by omega) fun q=>by
   show pe F _ [some (Zf q),some (.int (k:Int)),some (.obj i)]=_;simp[hW,X1]
 unfold Wg;rw[Zi,Zjc (xs:=told) (ys:=rs.map fun q=>X1 k (w,q)) rfl e rfl (by rw[List.length_map];unfold Zp;omega),Zg,Zu]
 rfl
theorem ZiC{x0 x6:Ot P}{rows told:Li P}{k:Nat}(hS:F 171 [.obj 169,Zf r,.int (rows.length:Int)]=some (.tup ((W7 r).map Zf)))(hM:F 151 [.obj 149,Zf r,.int (rows.length:Int)]=some (.tup ((X7 r).map Zf)))(hU:F 159 [.obj 157,Zf r,.int (rows.length:Int)]=some (.tup ((W8 r).map Zf)))(hO:F 154 [.obj 152,Zf r,.int (rows.length:Int)]=some (.tup ((QX r).map Zf)))(hP:F 162 [.obj 160,Zf r,.int (rows.length:Int)]=some (.tup ((Wd r).map Zf)))(hA:F 165 [.obj 163,Zf r,.int (rows.length:Int)]=some (.tup ((V5 rows.length r).map Zf)))(w1:F 170 [.obj 169]=some (.str (S "sign")))(w2:F 150 [.obj 149]=some (.str (S "more")))(w3:F 158 [.obj 157]=some (.str (S "turn")))(w4:F 153 [.obj 152]=some (.str (S "out")))(w5:F 161 [.obj 160]=some (.str (S "swap")))(w6:F 164 [.obj 163]=some (.str (S "far")))(ht:told.length<=150) :
  px F [3] Xo [x0,some (.tup rows),some (.lst true [.obj 169,.obj 149,.obj 157,.obj 152,.obj 160,.obj 163]),some (.lst true told),some (.int (k:Int)),some (Zf r),x6]=some (.nx [x0,some (.tup rows),some (.lst true [.obj 169,.obj 149,.obj 157,.obj 152,.obj 160,.obj 163]),some (.lst true (told++(fkR rows.length r).map (X1 k))),some (.int (k:Int)),some (Zf r),some (.obj 163)]):=by
 have h1:(W7 r).length<=1:=by cases r<;>simp[W7]
 have h2:=U9 (r:=r);have h3:(W8 r).length<=1:=by cases r<;>simp[W8]
 have h4:(QX r).length<=1:=by cases r<;>simp[QX]
 have h5:=Zaq (r:=r);have h6:=Zbp (many:=rows.length) (r:=r);have st:∀ {told:Li P}{i:Nat}{rs:Li Row}{w:Str}{x6:Ot P},W2 F ZjL (.obj i) (.tup [Zf r,.int (rows.length:Int)])=some (.tup (rs.map Zf))->W2 F ZjM (.obj i) (.tup [])=some (.str w)->rs.length<=10->told.length<=200->
   px F [3] Wg (Zo [x0,some (.tup rows),some (.lst true [.obj 169,.obj 149,.obj 157,.obj 152,.obj 160,.obj 163]),some (.lst true told),some (.int (k:Int)),some (Zf r),x6] 6 (.obj i))=some (.nx [x0,some (.tup rows),some (.lst true [.obj 169,.obj 149,.obj 157,.obj 152,.obj 160,.obj 163]),some (.lst true (told++rs.map fun q=>X1 k (w,q))),some (.int (k:Int)),some (Zf r),some (.obj i)]):=fun a b c d=>Zgf a b c d
 unfold Xo;rw[Zi,ZbS (m:=true) (xs:=[.obj 169,.obj 149,.obj 157,.obj 152,.obj 160,.obj 163]) (by first|rfl|simp) (by rfl)]
 rw[ZF,st (i:=169) (rs:=W7 r) (w:=S "sign") hS w1 (by omega) (by omega),Yd]
 rw[ZF,st (i:=149) (rs:=X7 r) (w:=S "more") hM w2 (by omega) (by simp;omega),Yd]
 rw[ZF,st (i:=157) (rs:=W8 r) (w:=S "turn") hU w3 (by omega) (by simp;omega),Yd]
 rw[ZF,st (i:=152) (rs:=QX r) (w:=S "out") hO w4 (by omega) (by simp;omega),Yd]
 rw[ZF,st (i:=160) (rs:=Wd r) (w:=S "swap") hP w5 (by omega) (by simp;omega),Yd]
 rw[ZF,st (i:=163) (rs:=V5 rows.length r) (w:=S "far") hA w6 (by omega) (by simp;omega),Yd,X6,Zg,Zu]
 simp only[fkR,List.map_append,List.map_map,List.append_assoc,Function.comp_def]
theorem UX{B:P->P->Zr->Ot PFl}{x y:P}{ps:Li (P×P)}{π:Zr}:Yu B ((x,y) :: ps) π=Uy (B x y π) (Yu B ps):=by
 show(match B x y π with
  |some (.nx π')=>Yu B ps π'
  |some (.ct π')=>Yu B ps π'
  |some (.bk π')=>some (.nx π')
  |some (.rt v)=>some (.rt v)
  |none=>none)=_
 unfold Uy;rfl
theorem Zbt{x0:Ot P}{rows:Li P}{st:P}(row:∀ (r:Row) (told:Li P) (k:Nat) (x6:Ot P),Zcc r->told.length<=150->px F [3] Xo [x0,some (.tup rows),some st,some (.lst true told),some (.int (k:Int)),some (Zf r),x6]=some (.nx [x0,some (.tup rows),some st,some (.lst true (told++(fkR rows.length r).map (X1 k))),some (.int (k:Int)),some (Zf r),some (.obj 163)])) :
  ∀ (rs:Li Row) (k:Nat) (told:Li P) (x4 x5 x6:Ot P),(∀ r∈rs,Zcc r)->told.length+8 * rs.length<=150->
  ∃ y4 y5 y6,Yu (fun x y π=>px F [3] Xo (Zo (Zo π 4 x) 5 y)) (Wa k (rs.map Zf)) [x0,some (.tup rows),some st,some (.lst true told),x4,x5,x6]=some (.nx [x0,some (.tup rows),some st,some (.lst true (told++Wt rows.length k rs)),y4,y5,y6])
 |[],k,told,x4,x5,x6,_,_=>⟨x4,x5,x6,by rw[Wt,List.append_nil];rfl⟩
 |r :: rs,k,told,x4,x5,x6,h,hl=>by
  have hr:=Zbs (many:=rows.length) (r:=r);rw[List.length_cons]at hl;obtain⟨y4,y5,y6,e⟩:=Zbt row rs (k+1) (told++(fkR rows.length r).map (X1 k)) (some (.int (k:Int))) (some (Zf r)) (some (.obj 163)) (fun q hq=>h q (Lm _ hq)) (by simp;omega)
  refine⟨y4,y5,y6,?_⟩;show Yu _ ((.int (k:Int),Zf r) :: Wa (k+1) (rs.map Zf)) _=_;rw[UX];simp only[Zm,Zl];rw[row r told k x6 (h r Ls) (by omega),Yd,e,Wt,List.append_assoc]
theorem Zbf{p:Prog}(hg:∀ r∈p.rows,Zcc r)(hl:p.rows.length<=12):Zc T (n+4) 172 [ZA p]=some (.tup (Wt p.rows.length 0 p.rows)):=by
 rw[Zk (f:=c_fakes) rfl rfl rfl];show Yn (px (Zc T (n+3)) [3] c_fakes.body [some (ZA p),none,none,none,none,none,none])=_;have el:(p.rows.map Zf).length=p.rows.length:=List.length_map ..;obtain⟨y4,y5,y6,e⟩:=Zbt (F:=Zc T (n+3)) (x0:=some (ZA p)) (rows:=p.rows.map Zf) (st:=.lst true [.obj 169,.obj 149,.obj 157,.obj 152,.obj 160,.obj 163]) (fun r told k x6 h hl=>
  ZiC (Zh6 (n:=n+1) h) (Zh5 (n:=n+1)) (Zh8 (n:=n+1) h) (Zkc (n:=n+2)) (Zh7 (n:=n+2)) (Zkb (n:=n+2)) rfl rfl rfl rfl rfl rfl hl) p.rows 0 [] none none none hg (by simp;omega)
 rw[el,List.nil_append]at e;unfold c_fakes;rw[Zi,ZL (p:=.tup (p.rows.map Zf)) (by first|rfl|simp[ZA]) rfl rfl,Zg]
 simp only[Zm,Zl];rw[Zi,ZL (p:=.lst true [.obj 169,.obj 149,.obj 157,.obj 152,.obj 160,.obj 163]) (by first|rfl|simp) rfl rfl,Zg]
 simp only[Zm,Zl];rw[Zi,XJ (p:=.lst true []) (by first|rfl|simp) rfl rfl,Zg]
 simp only[Zm,Zl];rw[Zi,ZbR (x:=.tup (p.rows.map Zf)) (xs:=p.rows.map Zf) (by first|rfl|simp) rfl rfl,e,Zg,ZQ (v:=.tup (Wt p.rows.length 0 p.rows)) (by first|rfl|simp)]
 rfl
def fkT(many:Nat):Nat->Li Row->Li (Nat×Str×Row)
 |_,[]=>[]
 |k,r :: rs=>(fkR many r).map (fun q=>(k,q))++fkT many (k+1) rs
theorem WW:∀ (rs:Li Row) (k:Nat),Wt many k rs=(fkT many k rs).map fun t=>X1 t.1 t.2
 |[],_=>rfl
 |r :: rs,k=>by
  rw[Wt,fkT,List.map_append,List.map_map,WW rs (k+1)];rfl
def ROk(m N:Nat)(r:Row):Prop:=Zbg m N r/\RSg r
theorem ZbV(h:RSg r):Zcc r:=by
 cases r with
 |put x y s z=>exact h.1
 |ifr y s z t=>exact h
 |_=>trivial
theorem ZiW(h:PSg s):PSg (nxA s):=by
 rcases h with rfl|rfl|rfl|rfl|rfl
 ·exact .inr (.inl rfl)
 ·exact .inr (.inr (.inl rfl))
 ·exact .inr (.inr (.inr (.inl rfl)))
 ·exact .inr (.inr (.inr (.inr rfl)))
 ·exact .inl rfl
theorem ZiX(h:ISg s):ISg (nxB s):=by
 rcases h with rfl|rfl|rfl|rfl|rfl|rfl
 ·exact .inr (.inl rfl)
 ·exact .inr (.inr (.inl rfl))
 ·exact .inr (.inr (.inr (.inl rfl)))
 ·exact .inr (.inr (.inr (.inr (.inl rfl))))
 ·exact .inr (.inr (.inr (.inr (.inr rfl))))
 ·exact .inl rfl
theorem Zf7(h:ISg s):ISg (Zkv s):=by
 rcases h with rfl|rfl|rfl|rfl|rfl|rfl
 ·exact .inr (.inr (.inr (.inl rfl)))
 ·exact .inr (.inr (.inr (.inr (.inl rfl))))
 ·exact .inr (.inr (.inr (.inr (.inr rfl))))
 ·exact .inl rfl
 ·exact .inr (.inl rfl)
 ·exact .inr (.inr (.inl rfl))
theorem Y7{q:Opd}(h:q∈Vw y):Xb m q/\OSm q:=by
 cases y with
 |name i=>cases h
 |num c=>
  rw[List.mem_singleton.mp h];exact⟨Sm.around,Sm.around⟩
theorem ZiB(h:ROk m many r):∀ q∈fkR many r,ROk m many q.2:=by
 intro q hq;obtain⟨ok,sg⟩:=h;have go:(∃ r',r'∈W7 r++X7 r++W8 r++QX r++Wd r++V5 many r/\q.2=r'):=by
  refine⟨q.2,?_,rfl⟩;simp only[fkR,List.mem_append,List.mem_map]at hq ⊢;rcases hq with⟨a,h,rfl⟩|⟨a,h,rfl⟩|⟨a,h,rfl⟩|⟨a,h,rfl⟩|⟨a,h,rfl⟩|⟨a,h,rfl⟩<;>simp[h]
 obtain⟨r',hr,rfl⟩:=go;generalize q.2=r' at hr ⊢;simp only[List.mem_append]at hr;cases r with
 |put x y s z=>
  rcases hr with((((h|h)|h)|h)|h)|h
  ·rw[List.mem_singleton.mp h]
   exact⟨ok,ZiW sg.1,sg.2⟩
  ·rcases List.mem_append.mp h with h|h
   ·obtain⟨o,ho,rfl⟩:=List.mem_map.mp h
    exact⟨⟨ok.1,(Y7 ho).1,ok.2.2⟩,sg.1,(Y7 (m:=m) ho).2,sg.2.2⟩
   ·obtain⟨o,ho,rfl⟩:=List.mem_map.mp h
    exact⟨⟨ok.1,ok.2.1,(Y7 ho).1⟩,sg.1,sg.2.1,(Y7 (m:=m) ho).2⟩
  ·cases h
  ·rw[List.mem_singleton.mp h]
   exact⟨trivial,trivial⟩
  ·replace h:r'∈(if eqO y z=true then [] else [Row.put x z s y]):=h
   split at h
   ·cases h
   ·rw[List.mem_singleton.mp h]
    exact⟨⟨ok.1,ok.2.2,ok.2.1⟩,sg.1,sg.2.2,sg.2.1⟩
  ·cases h
 |ifr y s z t=>
  rcases hr with((((h|h)|h)|h)|h)|h
  ·rw[List.mem_singleton.mp h]
   exact⟨ok,ZiX sg⟩
  ·rcases List.mem_append.mp h with h|h
   ·obtain⟨o,ho,rfl⟩:=List.mem_map.mp h
    exact⟨⟨(Y7 ho).1,ok.2⟩,sg⟩
   ·obtain⟨o,ho,rfl⟩:=List.mem_map.mp h
    exact⟨⟨ok.1,(Y7 ho).1,ok.2.2⟩,sg⟩
  ·rw[List.mem_singleton.mp h]
   exact⟨ok,Zf7 sg⟩
  ·rw[List.mem_singleton.mp h]
   exact⟨trivial,trivial⟩
  ·replace h:r'∈(if eqO y z=true then [] else [Row.ifr z s y t]):=h
   split at h
   ·cases h
   ·rw[List.mem_singleton.mp h]
    exact⟨⟨ok.2.1,ok.1,ok.2.2⟩,sg⟩
  ·replace h:r'∈(if t < many then [Row.ifr y s z (t+1)] else []):=h
   split at h
   ·rename_i hl
    rw[List.mem_singleton.mp h];exact⟨⟨ok.1,ok.2.1,hl⟩,sg⟩
   ·cases h
 |go t=>
  rcases hr with((((h|h)|h)|h)|h)|h
  ·cases h
  ·cases h
  ·cases h
  ·rw[List.mem_singleton.mp h]
   exact⟨trivial,trivial⟩
  ·cases h
  ·replace h:r'∈(if t < many then [Row.go (t+1)] else []):=h
   split at h
   ·rename_i hl
    rw[List.mem_singleton.mp h];exact⟨hl,trivial⟩
   ·cases h
 |tell y=>
  rcases hr with((((h|h)|h)|h)|h)|h
  ·cases h
  ·obtain⟨o,ho,rfl⟩:=List.mem_map.mp h
   exact⟨(Y7 ho).1,trivial⟩
  ·cases h
  ·rw[List.mem_singleton.mp h]
   exact⟨trivial,trivial⟩
  ·cases h
  ·cases h
 |skip=>
  rcases hr with((((h|h)|h)|h)|h)|h<;>cases h
theorem ZaD:∀ {rs:Li Row}{k:Nat},(∀ r∈rs,ROk m many r)->∀ t∈fkT many k rs,(k<=t.1/\t.1 < k+rs.length)/\ROk m many t.2.2
 |[],_,_,t,h=>nomatch h
 |r :: rs,k,g,t,h=>by
  rcases List.mem_append.mp h with h|h
  ·obtain⟨q,hq,rfl⟩:=List.mem_map.mp h
   exact⟨⟨Nat.le_refl _,by simp⟩,ZiB (g r Ls) q hq⟩
  ·obtain⟨⟨h1,h2⟩,h3⟩:=ZaD (fun q hq=>g q (Lm _ hq)) t h
   exact⟨⟨by omega,by simp;omega⟩,h3⟩
structure PG(p:Prog):Prop where
 rows:∀ r∈p.rows,ROk p.many p.rows.length r
 many:p.many<=100
 size:p.rows.length<=12
theorem PG.ok{p:Prog}(h:PG p):ProgOk p:=⟨fun r hr=>(h.rows r hr).1,h.many,by have:=h.size;omega⟩
def ZT(p:Prog)(k:Nat)(r:Row):Prog:=⟨p.takes,p.many,p.rows.set k r⟩
theorem PG.turn{p:Prog}{k:Nat}(h:PG p)(hr:ROk p.many p.rows.length r):PG (ZT p k r):=
 ⟨fun q hq=>by
  show ROk p.many (p.rows.set k r).length q;rw[List.length_set];rcases List.mem_or_eq_of_mem_set hq with z|z
  ·exact h.rows q z
  ·rw[z];exact hr,h.many,by show(p.rows.set k r).length<=12;rw[List.length_set];exact h.size⟩
theorem Zid{p:Prog}{k:Nat}(hk:k < p.rows.length)(hl:p.rows.length<=12):Zc T (n+2) 180 [ZA p,.int (k:Int),Zf r]=some (ZA (ZT p k r)):=by
 rw[Zk (f:=c_fake_of) rfl rfl rfl];have rp:=VV (T:=T) (n:=n) (xs:=p.rows.map Zf) (x:=k) (q:=Zf r) rfl (by simpa using hk) (by simp;omega)
 (rw[show ZC c_fake_of.body=[] from rfl];simp[c_fake_of,ZA,ZT,rp,List.map_set])
theorem Zie{p:Prog}{ins:Li Int}{l:Nat}(hp:ProgOk p)(h1:ins.length<=p.many)(hs:∀ v∈ins,Sm v)(hl:l<=900) :
  Zc T (n+8) 13 [ZA p,Zx ins,.int (l:Int)]=some (Zd (QW p.rows l (ZE p ins))):=by
 rw[Zk (f:=c_outcome) rfl rfl rfl];have tr:=ZfF (n:=n) ZjK hp h1 hs hl
 (rw[show ZC c_outcome.body=[] from rfl];simp only[c_outcome,List.map_cons,List.map_nil,List.length_cons,List.length_nil,List.cons_append,List.nil_append,List.replicate])
 simp[tr,Zba,Zdx]
def Vb(m:Nat)(ts:Li (Li Int)):Prop:=ts.length<=10/\∀ i∈ts,i.length<=m/\∀ v∈i,Sm v
def ZR(p:Prog)(ts:Li (Li Int))(l:Nat):Li Out:=ts.map fun i=>QW p.rows l (ZE p i)
theorem Qz{f c:P->Ot P}{g:Li Int->P}(hc:∀ x,c x=some (.bl true)):∀ (ts:Li (Li Int)),(∀ i∈ts,f (Zx i)=some (g i))->Ye f c (ts.map Zx)=some (ts.map g)
 |[],_=>rfl
 |t :: ts,h=>by
  rw[List.map_cons];unfold Ye;rw[hc,h t Ls];simp only;rw[Qz hc ts fun i hi=>h i (Lm _ hi)]
  rfl
theorem Zc7{p:Prog}{ts:Li (Li Int)}{l:Nat}(hp:ProgOk p)(ht:Vb p.many ts)(hl:l<=900) :
  Zc T (n+9) 182 [ZA p,.tup (ts.map Zx),.int (l:Int)]=some (.lst true ((ZR p ts l).map Zd)):=by
 rw[Zk (f:=c_outcomes) rfl rfl rfl];have e:pe (Zc T (n+8)) Y3 [some (ZA p),some (.tup (ts.map Zx)),some (.int (l:Int))]=some (.lst true ((ZR p ts l).map Zd)):=by
  unfold Y3;rw[YC];show((some (P.tup (ts.map Zx))).bind fun x=>_)=_
  rw[Ob,show YF false (.tup (ts.map Zx))=some (ts.map Zx) from rfl,Ob,if_pos (by have:=ht.1;simp;omega)]
  have cp:=Qz (f:=fun q=>pe (Zc T (n+8)) (.call 13 (.aC (.var 2) (.aC (.var 0) (.aC (.var 1) .aN))) []) (ZS [some (ZA p),some (.tup (ts.map Zx)),some (.int (l:Int))] [2,0] q)) (c:=fun q=>pe (Zc T (n+8)) (.cst (.bl true)) (ZS [some (ZA p),some (.tup (ts.map Zx)),some (.int (l:Int))] [2,0] q)) (g:=fun i=>Zd (QW p.rows l (ZE p i))) (fun _=>rfl) ts fun i hi=>by
   have o:=Zie (n:=n) hp (ht.2 i hi).1 (ht.2 i hi).2 hl;show pe (Zc T (n+8)) _ [some (Zx i),some (.int (l:Int)),some (ZA p)]=_;simp[o]
  rw[cp];simp[ZR,Function.comp_def]
 show Yn (px (Zc T (n+8)) [] (.seq (.ret Y3) .skip) [some (ZA p),some (.tup (ts.map Zx)),some (.int (l:Int))])=_;rw[ZQ e];rfl
theorem ZfI{ts:Li P}(h:ts.length<=10):Zc T (n+1) 181 [.tup ts]=some .non:=by
 rw[Zk (f:=c_check_trials) rfl rfl rfl];show Yn (px (Zc T n) [] c_check_trials.body [some (.tup ts)])=_;unfold c_check_trials;rw[Zy (by simp;omega),Zu]
 rfl
def Wr(a b:Out):Bool:=match ZX .NotEq (Zd a) (Zd b) with
 |some (.bl c)=>c
 |_=>false
theorem Zeo{a b:Out}:ZX .NotEq (Zd a) (Zd b)=some (.bl (Wr a b)):=by
 cases a<;>cases b<;>rfl
theorem ZcP{a b:Out}:Wr a b=Wr b a:=by
 have e:∀ v w:Int,Wr (.told v) (.told w)=!(decide (v=w)):=fun v w=>by
  have h:ZX .NotEq (Zd (.told v)) (Zd (.told w))=some (.bl (!WM (Zd (.told v)) (Zd (.told w)))):=rfl;have h3:Wr (.told v) (.told w)=!WM (Zd (.told v)) (Zd (.told w)):=by
   unfold Wr;rw[h]
  rw[h3]
  congr 1
  simp[Zd,WM,XU]
 cases a<;>cases b<;>first|rfl|skip
 rw[e,e]
 congr 1
 exact decide_eq_decide.mpr ⟨Eq.symm,Eq.symm⟩
def WP(w:Int):Li (Out×Out)->Int
 |[]=>0
 |q :: qs=>(if Wr q.1 q.2=true then w else 0)+WP (w * 2) qs
theorem Zas{x0 x1:Ot P}:∀ (qs:Li (Out×Out)) (b w:Int) (x4 x5:Ot P),
  ∃ y3 y4 y5,Yu (fun x y π=>px F [] Yy (Zo (Zo π 4 x) 5 y)) (qs.map fun q=>(Zd q.1,Zd q.2)) [x0,x1,some (.int b),some (.int w),x4,x5]=some (.nx [x0,x1,some (.int (b+WP w qs)),y3,y4,y5])
 |[],b,w,x4,x5=>⟨_,x4,x5,by rw[WP,Int.add_zero];rfl⟩
 |q :: qs,b,w,x4,x5=>by
  obtain⟨y3,y4,y5,e⟩:=Zas (x0:=x0) (x1:=x1) qs (b+if Wr q.1 q.2=true then w else 0) (w * 2) (some (Zd q.1)) (some (Zd q.2))
  refine⟨y3,y4,y5,?_⟩;rw[List.map_cons,UX];simp only[Zm,Zl];have l2:Z1 2=true:=by decide
  have o:px F [] Yy [x0,x1,some (.int b),some (.int w),some (Zd q.1),some (Zd q.2)]=some (.nx [x0,x1,some (.int (b+if Wr q.1 q.2=true then w else 0)),some (.int (w * 2)),some (Zd q.1),some (Zd q.2)]):=by
   unfold Yy;have c:pe F (.cmp .NotEq (.var 4) (.var 5)) [x0,x1,some (.int b),some (.int w),some (Zd q.1),some (Zd q.2)]=some (.bl (Wr q.1 q.2)):=Zeo;have mu:∀ (b':Int),pe F (.bin .Mult (.var 3) (.cst (.int 2))) [x0,x1,some (.int b'),some (.int w),some (Zd q.1),some (Zd q.2)]=some (.int (w * 2)):=fun b'=>by
    show YG .Mult (.int w) (.int 2)=_;rw[VH,l2,Bool.or_true,if_pos rfl]
   cases hq:Wr q.1 q.2 with
   |true=>
    rw[hq]at c;rw[Jl (π':=[x0,x1,some (.int (b+w)),some (.int w),some (Zd q.1),some (Zd q.2)]) c (by
     rw[YJ (v:=.int (b+w)) (by rfl),Zu]
     rfl),YJ (mu _),Zu]
    rfl
   |false=>
    rw[hq]at c;rw[Zy c,YJ (mu _),Zu];simp only[Zm,Zl,Bool.false_eq_true,if_false,Int.add_zero]
  rw[o,Yd,e,WP,Int.add_assoc]
theorem Zkh{as bs:Li Out}:Zc T (n+1) 183 [.lst true (as.map Zd),.lst true (bs.map Zd)]=some (.int (WP 1 (as.zip bs))):=by
 rw[Zk (f:=c_bits_unlike) rfl rfl rfl];show Yn (px (Zc T n) [] c_bits_unlike.body [some (.lst true (as.map Zd)),some (.lst true (bs.map Zd)),none,none,none,none])=_;unfold c_bits_unlike;rw[YJ (v:=.int 0) (by rfl)]
 simp only[Zm,Zl];rw[YJ (v:=.int 1) (by rfl)]
 simp only[Zm,Zl];obtain⟨y3,y4,y5,e⟩:=Zas (F:=Zc T n) (x0:=some (.lst true (as.map Zd))) (x1:=some (.lst true (bs.map Zd))) (as.zip bs) 0 1 none none;rw[Zi,Zg0 (m:=true) (m':=true) (xs:=as.map Zd) (ys:=bs.map Zd) (by rfl) (by rfl),List.zip_map]
 rw[show(as.zip bs).map (Prod.map Zd Zd)=(as.zip bs).map (fun q=>(Zd q.1,Zd q.2)) from rfl,e,Zg,ZQ rfl,Int.zero_add]
 rfl
def UC(p:Prog)(ts:Li (Li Int))(l:Nat)(t:Nat×Str×Row):Int:=WP 1 ((ZR p ts l).zip (ZR (ZT p t.1 t.2.2) ts l))
theorem ZfW{p:Prog}{ts:Li (Li Int)}{l:Nat}{told:Li P}{t:Nat×Str×Row}{x5 x6 x7:Ot P}(h180:F 180 [ZA p,.int (t.1:Int),Zf t.2.2]=some (ZA (ZT p t.1 t.2.2)))(h182:F 182 [ZA (ZT p t.1 t.2.2),.tup (ts.map Zx),.int (l:Int)]=some (.lst true ((ZR (ZT p t.1 t.2.2) ts l).map Zd)))(h183:F 183 [.lst true ((ZR p ts l).map Zd),.lst true ((ZR (ZT p t.1 t.2.2) ts l).map Zd)]=some (.int (UC p ts l t)))(hl:told.length<=1000) :
  UJ 5 6 7 (px F [4] (.seq (.app 4 (.call 183 (.aC (.var 3) (.aC (.call 182 (.aC (.call 180 (.aC (.var 0) (.aC (.var 5) (.aC (.var 7) .aN))) []) (.aC (.var 1) (.aC (.var 2) .aN))) []) .aN)) [])) .skip)) (X1 t.1 t.2) [some (ZA p),some (.tup (ts.map Zx)),some (.int (l:Int)),some (.lst true ((ZR p ts l).map Zd)),some (.lst true told),x5,x6,x7] =
   some (.nx [some (ZA p),some (.tup (ts.map Zx)),some (.int (l:Int)),some (.lst true ((ZR p ts l).map Zd)),some (.lst true (told++[.int (UC p ts l t)])),some (.int (t.1:Int)),some (.str t.2.1),some (Zf t.2.2)]):=by
 show px F [4] _ [some (ZA p),some (.tup (ts.map Zx)),some (.int (l:Int)),some (.lst true ((ZR p ts l).map Zd)),some (.lst true told),some (.int (t.1:Int)),some (.str t.2.1),some (Zf t.2.2)]=_;rw[Zbi (xs:=told) (p:=.int (UC p ts l t)) rfl (by first|rfl|simp[h180,h182,h183]) (by rfl) hl,Zu]
 rfl
theorem Zbl{p:Prog}{ts:Li (Li Int)}{l:Nat}:∀ (fs:Li (Nat×Str×Row)) (told:Li P) (x5 x6 x7:Ot P),(∀ t∈fs,F 180 [ZA p,.int (t.1:Int),Zf t.2.2]=some (ZA (ZT p t.1 t.2.2))/\F 182 [ZA (ZT p t.1 t.2.2),.tup (ts.map Zx),.int (l:Int)]=some (.lst true ((ZR (ZT p t.1 t.2.2) ts l).map Zd))/\F 183 [.lst true ((ZR p ts l).map Zd),.lst true ((ZR (ZT p t.1 t.2.2) ts l).map Zd)]=some (.int (UC p ts l t)))->told.length+fs.length<=900->
  ∃ y5 y6 y7,ZB (UJ 5 6 7 (px F [4] (.seq (.app 4 (.call 183 (.aC (.var 3) (.aC (.call 182 (.aC (.call 180 (.aC (.var 0) (.aC (.var 5) (.aC (.var 7) .aN))) []) (.aC (.var 1) (.aC (.var 2) .aN))) []) .aN)) [])) .skip))) (fs.map fun t=>X1 t.1 t.2) [some (ZA p),some (.tup (ts.map Zx)),some (.int (l:Int)),some (.lst true ((ZR p ts l).map Zd)),some (.lst true told),x5,x6,x7] =
   some (.nx [some (ZA p),some (.tup (ts.map Zx)),some (.int (l:Int)),some (.lst true ((ZR p ts l).map Zd)),some (.lst true (told++fs.map fun t=>.int (UC p ts l t))),y5,y6,y7])
 |[],told,x5,x6,x7,_,_=>⟨x5,x6,x7,by rw[List.map_nil,List.map_nil,List.append_nil];exact X6⟩
 |t :: fs,told,x5,x6,x7,h,hl=>by
  rw[List.length_cons]at hl;obtain⟨h1,h2,h3⟩:=h t Ls;obtain⟨y5,y6,y7,e⟩:=Zbl fs (told++[.int (UC p ts l t)]) (some (.int (t.1:Int))) (some (.str t.2.1)) (some (Zf t.2.2)) (fun q hq=>h q (Lm _ hq)) (by simp;omega)
  refine⟨y5,y6,y7,?_⟩;rw[List.map_cons,ZF,ZfW h1 h2 h3 (by omega),Yd,e,List.append_assoc]
  rfl
theorem QB{p:Prog}(h:p.rows.length<=12):(fkT p.rows.length 0 p.rows).length<=96:=by
 have:=U1 (many:=p.rows.length) p.rows 0;rw[WW,List.length_map]at this;omega
theorem Zib{p:Prog}{ts:Li (Li Int)}{l:Nat}(hp:PG p)(ht:Vb p.many ts)(hl:l<=900) :
  Zc T (n+10) 184 [ZA p,.tup (ts.map Zx),.int (l:Int)]=some (.tup ((fkT p.rows.length 0 p.rows).map fun t=>.int (UC p ts l t))):=by
 rw[Zk (f:=c_bits_of) rfl rfl rfl];have f1:=Zbf (n:=n+5) (p:=p) (fun r hr=>ZbV (hp.rows r hr).2) hp.size
 rw[WW]at f1;have o1:=Zc7 (n:=n) hp.ok ht hl;have ck:=ZfI (n:=n+8) (ts:=ts.map Zx) (by simpa using ht.1)
 have fl:=QB hp.size;obtain⟨y5,y6,y7,e⟩:=Zbl (F:=Zc T (n+9)) (p:=p) (ts:=ts) (l:=l) (fkT p.rows.length 0 p.rows) [] none none none (fun t h=>by
  obtain⟨⟨_,h2⟩,h3⟩:=ZaD (m:=p.many) hp.rows t h;have ht':Vb (ZT p t.1 t.2.2).many ts:=ht;exact⟨Zid (n:=n+7) (by omega) hp.size,Zc7 (n:=n) (hp.turn h3).ok ht' hl,Zkh (n:=n+8)⟩) (by simp;omega)
 show Yn (px (Zc T (n+9)) [4] c_bits_of.body [some (ZA p),some (.tup (ts.map Zx)),some (.int (l:Int)),none,none,none,none,none])=_;unfold c_bits_of;rw[Zi,Zjb (p:=.non) (by first|rfl|simp[ck]) (by rfl),Zg]
 rw[Zi,ZL (p:=.lst true ((ZR p ts l).map Zd)) (by first|rfl|simp[o1]) rfl rfl,Zg]
 simp only[Zm,Zl];rw[Zi,XJ (p:=.lst true []) (by rfl) rfl rfl,Zg]
 simp only[Zm,Zl];rw[Zi,ZbQ (xs:=(fkT p.rows.length 0 p.rows).map fun t=>X1 t.1 t.2) (by first|rfl|simp[f1]) (by rfl),e,Zg,List.nil_append,ZQ (v:=.tup ((fkT p.rows.length 0 p.rows).map fun t=>.int (UC p ts l t))) (by rfl)]
 rfl
end
end Dp


namespace Dp
open PySem
section
variable {n:Nat}{F:PFn}{m:Nat}
def W3:Li Bool->Nat
 |[]=>0
 |b :: r=>b.toNat+2 * W3 r
theorem Wl{b:Bool}{r:Li Bool}:W3 (b :: r)=b.toNat+2 * W3 r:=rfl
theorem UQ:∀ (qs:Li (Out×Out)) (w:Int),WP w qs=w * (W3 (qs.map fun q=>Wr q.1 q.2):Nat)
 |[],w=>by simp[WP,W3]
 |q :: qs,w=>by
  have ih:=UQ qs (w * 2);unfold WP;rw[ih,List.map_cons,Wl];cases Wr q.1 q.2 with
  |true=>rw[if_pos rfl];simp[Int.mul_add,Int.mul_assoc]
  |false=>rw[if_neg Bf];simp[Int.mul_assoc]
theorem Qa:∀ (bs:Li Bool) (i:Nat),(W3 bs).testBit i=bs.getD i false
 |[],i=>by simp[W3]
 |b :: r,0=>by
  rw[Nat.testBit_zero,Wl];cases b
  ·simp
  ·simp
 |b :: r,i+1=>by
  rw[Nat.testBit_succ];have e:W3 (b :: r) / 2=W3 r:=by
   have:b.toNat < 2:=Bool.toNat_lt b;rw[Wl];omega
  rw[e,Qa r i];rfl
theorem ZbF:∀ (bs:Li Bool),W3 bs < 2 ^ bs.length
 |[]=>by simp[W3]
 |b :: r=>by
  have:=ZbF r;have hb:b.toNat < 2:=Bool.toNat_lt b;rw[List.length_cons,Nat.pow_succ,Wl];omega
def ZhF(p:Prog)(ts:Li (Li Int))(l:Nat)(t:Nat×Str×Row):Li Bool:=((ZR p ts l).zip (ZR (ZT p t.1 t.2.2) ts l)).map fun q=>Wr q.1 q.2
def bnF(p:Prog)(ts:Li (Li Int))(l:Nat)(t:Nat×Str×Row):Nat:=W3 (ZhF p ts l t)
theorem Zft{p:Prog}{ts:Li (Li Int)}{l:Nat}{t:Nat×Str×Row}:(ZhF p ts l t).length=ts.length:=by
 unfold ZhF ZR;simp
theorem Zdf{p:Prog}{ts:Li (Li Int)}{l:Nat}{t:Nat×Str×Row}:UC p ts l t=(bnF p ts l t:Int):=by
 unfold UC;rw[UQ,Int.one_mul];rfl
def bnL(p:Prog)(ts:Li (Li Int))(l:Nat):Li Nat:=(fkT p.rows.length 0 p.rows).map (bnF p ts l)
theorem ZfS{p:Prog}{ts:Li (Li Int)}{l:Nat}:∀ b∈bnL p ts l,b < 2 ^ ts.length:=fun b hb=>by
 obtain⟨t,_,rfl⟩:=List.mem_map.mp hb;have:=ZbF (ZhF p ts l t);rw[Zft]at this;exact this
theorem Zdj{p:Prog}{ts:Li (Li Int)}{l:Nat}(h:p.rows.length<=12):(bnL p ts l).length<=96:=by
 unfold bnL;rw[List.length_map];exact QB h
theorem Zia{p:Prog}{ts:Li (Li Int)}{l:Nat}(hp:PG p)(ht:Vb p.many ts)(hl:l<=900):Zc T (n+10) 184 [ZA p,.tup (ts.map Zx),.int (l:Int)]=some (.tup (Ze (bnL p ts l))):=by
 rw[Zib hp ht hl];unfold bnL;rw[show Ze ((fkT p.rows.length 0 p.rows).map (bnF p ts l))=(fkT p.rows.length 0 p.rows).map fun t=>P.int ((bnF p ts l t:Nat):Int) from List.map_map ..]
 exact congrArg (fun x=>some (P.tup x)) (List.map_congr_left fun t _=>by rw[Zdf])
theorem ZmK:FewT T:=⟨rfl,rfl,rfl,rfl⟩
theorem ZfG{m:Nat}{bs:Li Nat}(hl:bs.length<=1000)(hm:m<=10)(hc:(Vh (ulV bs) m).length<=10):Zc T (n+14) 111 [.tup (Ze bs),.int (m:Int)]=some (.tup [.tup (Ze (Vh (ulV bs) m)),Ym (Zao bs (Vh (ulV bs) m).length)]):=by
 have e1:=Zj7 (n:=n) ZmK hl hm;have e2:=Zj9 (n:=n+1) (T:=T) rfl rfl rfl hl hc;rw[Zk (f:=c_shown_fewest) rfl rfl rfl];generalize Vh (ulV bs) m=C at e1 e2 hc ⊢;generalize Zao bs C.length=w at e2 ⊢;refine Q5 ((YJ (v:=.tup (Ze C)) (by exact e1)).trans (ZQ ?_))
 show pe (Zc T (n+13)) _ [some (.tup (Ze bs)),some (.int (m:Int)),some (.tup (Ze C))]=_;generalize Ym w=W at e2 ⊢;generalize hE:Ze bs=E at e2 ⊢;have lc:(Ze C).length=C.length:=List.length_map ..;simp[e2]
def tl(m b:Nat):Li Nat:=(List.range m).filter b.testBit
abbrev Zw(m b:Nat):P:=.lst true (Ze (tl m b))
theorem Za9{m b:Nat}(h:b < 2 ^ m):tl m b=[]↔b=0:=by
 unfold tl;rw[List.filter_eq_nil_iff];constructor
 ·intro z
  refine Nat.eq_of_testBit_eq fun i=>?_
  rw[Nat.zero_testBit];by_cases hi:i < m
  ·simpa using z i (List.mem_range.mpr hi)
  ·exact Nat.testBit_lt_two_pow (Nat.lt_of_lt_of_le h (Nat.pow_le_pow_right (by decide) (Nat.le_of_not_lt hi)))
 ·rintro rfl
  simp
theorem QT{m b i:Nat}(h:b < 2 ^ m):i∈tl m b↔b.testBit i=true:=by
 unfold tl;rw[List.mem_filter,List.mem_range];refine⟨fun z=>z.2,fun z=>⟨?_,z⟩⟩
 refine Nat.lt_of_not_le fun hi=>?_
 rw[Nat.testBit_lt_two_pow (Nat.lt_of_lt_of_le h (Nat.pow_le_pow_right (by decide) hi))]at z
 cases z
end
end Dp


namespace Dp
open PySem
section
variable {n:Nat}{F:PFn}{m:Nat}
theorem Qc{p:Prog}{ts:Li (Li Int)}{l:Nat}{π:Zr}{a b c:Nat}(hp:PG p)(ht:Vb p.many ts)(hl:l<=900)(h1:π[1]?=some (some (.lst true (ts.map Zx))))(ha:π[a]?=some (some (.int (l:Int))))(hb:π[b]?=some (some (.int (p.many:Int))))(hc:π[c]?=some (some (.tup (p.rows.map Zf)))) :
  pe (Zc T (n+3)) (.comp false [a,b,c] (.var 1) (.call 188 (.aC (.var 3) (.aC (.var 2) (.aC (.var 0) (.aC (.var 1) .aN)))) []) (.cst (.bl true))) π=some (.lst true ((ZR p ts l).map Zd)):=by
 rw[YC,pe_var,h1,Option.join_some,Ob,show YF false (.lst true (ts.map Zx))=some (ts.map Zx) from rfl,Ob,if_pos (by have:=ht.1;simp;omega)]
 have cp:=Qz (f:=fun q=>pe (Zc T (n+3)) (.call 188 (.aC (.var 3) (.aC (.var 2) (.aC (.var 0) (.aC (.var 1) .aN)))) []) (ZS π [a,b,c] q)) (c:=fun q=>pe (Zc T (n+3)) (.cst (.bl true)) (ZS π [a,b,c] q)) (g:=fun i=>Zd (QW p.rows l (ZE p i))) (fun _=>rfl) ts fun i hi=>by
  have o:=Zb9 (n:=n) (p:=p) ZmL hp.ok (fun r hr=>(hp.rows r hr).2) (ht.2 i hi).1 (ht.2 i hi).2 hl
  have pv:ZS π [a,b,c] (Zx i)=[some (Zx i),some (.int (l:Int)),some (.int (p.many:Int)),some (.tup (p.rows.map Zf))]:=by
   simp[ZS,ha,hb,hc]
  rw[pv];simp[o]
 rw[cp];simp[ZR,Function.comp_def]
theorem XE{f c:P->Ot P}{g:Nat->Bool}:∀ (is:Li Nat),(∀ i∈is,c (.int (i:Int))=some (.bl (g i)))->(∀ x,f x=some x)->Ye f c (Ze is)=some (Ze (is.filter g))
 |[],_,_=>rfl
 |i :: is,hc,hf=>by
  have ih:=XE is (fun j hj=>hc j (Lm _ hj)) hf
  have h:=hc i Ls;show Ye f c (.int (i:Int) :: Ze is)=_;unfold Ye;rw[h];cases q:g i with
  |true=>
   simp only;rw[hf];simp only;rw[ih,List.filter_cons_of_pos q];rfl
  |false=>
   simp only;rw[ih,List.filter_cons_of_neg (by rw[q];exact Bf)]
theorem WJ{m:Nat}(h:m<=1000):YF true (.int (m:Int))=some (Ze (List.range m)):=by
 rw[ZaK (by omega)]
 rfl
theorem ZhA{as bs:Li Out}{π:Zr}{x1:P}{m:Nat}(h1:pe F (.len (.var 1)) π=some (.int (m:Int)))(h6:π[6]?=some (some (.lst true (as.map Zd))))(h12:π[12]?=some (some (.lst true (bs.map Zd))))(la:as.length=m)(lb:bs.length=m)(hm:m<=10) :
  pe F Ys π=some (Zw m (W3 ((as.zip bs).map fun q=>Wr q.1 q.2))):=by
 unfold Ys;rw[YC,h1,Ob,WJ (by omega),Ob,if_pos (by simp;omega)]
 rw[XE (g:=(W3 ((as.zip bs).map fun q=>Wr q.1 q.2)).testBit) (List.range m) (fun i hi=>?_) (fun x=>?_)]
 ·rfl
 ·have hi:=List.mem_range.mp hi
  have pv:ZS π [6,12] (.int (i:Int))=[some (.int (i:Int)),some (.lst true (as.map Zd)),some (.lst true (bs.map Zd))]:=by simp[ZS,h6,h12]
  have ia:i < as.length:=by omega
  have ib:i < bs.length:=by omega
  have a1:atP (as.map Zd) (i:Int)=some (Zd as[i]):=by rw[YW rfl,List.getElem?_map,Lg ia];rfl
  have a2:atP (bs.map Zd) (i:Int)=some (Zd bs[i]):=by rw[YW rfl,List.getElem?_map,Lg ib];rfl
  rw[pv,Qa,List.getD_eq_getElem?_getD,List.getElem?_map,Lg (by rw[List.length_zip];omega),List.getElem_zip,Option.map_some,Option.getD_some,ZcP]
  rw[YX,show pe F (.ix (.var 2) (.var 0)) [some (.int (i:Int)),some (.lst true (as.map Zd)),some (.lst true (bs.map Zd))]=some (Zd bs[i]) from a2,Ob,show pe F (.ix (.var 1) (.var 0)) [some (.int (i:Int)),some (.lst true (as.map Zd)),some (.lst true (bs.map Zd))]=some (Zd as[i]) from a1,Ob];exact Zeo
 ·rfl
def tB:CS:=(.seq (.set 11 (.bin .Add (.bin .Add (.slice (.var 5) .nop (.part (.var 8))) (.tupE (.aC (.var 10) .aN))) (.slice (.var 5) (.part (.bin .Add (.var 8) (.cst (.int 1)))) .nop)))
 (.seq (.set 12 Xq)
 (.seq (.app 7 Ys)
 .skip)))
abbrev Vg(p:Prog)(ts:Li (Li Int))(l:Nat)(found:Li P)(y8 y9 y10 y11 y12:Ot P):Zr:=[some (ZA p),some (.lst true (ts.map Zx)),some (.int (l:Int)),some p.takes,some (.int (p.many:Int)),some (.tup (p.rows.map Zf)),some (.lst true ((ZR p ts l).map Zd)),some (.lst true found),y8,y9,y10,y11,y12]
theorem Zhw{p:Prog}{ts:Li (Li Int)}{l:Nat}{found:Li P}{t:Nat×Str×Row}{x8 x9 x10 x11 x12:Ot P}(hp:PG p)(ht:Vb p.many ts)(hl:l<=900)(hk:t.1 < p.rows.length)(hr:ROk p.many p.rows.length t.2.2)(hf:found.length<=1000) :
  ∃ y11 y12,UJ 8 9 10 (px (Zc T (n+3)) [7] tB) (X1 t.1 t.2) (Vg p ts l found x8 x9 x10 x11 x12)=some (.nx (Vg p ts l (found++[Zw ts.length (bnF p ts l t)]) (some (.int (t.1:Int))) (some (.str t.2.1)) (some (Zf t.2.2)) y11 y12)):=by
 have hsz:=hp.size;have li:t.1 < (p.rows.map Zf).length:=by simpa using hk
 have l1:=Zai li;have l2:=Zah li;have hq:=hp.turn (k:=t.1) hr;have sz:∀ k,k<=30->k<=Zp:=fun k h=>by unfold Zp;omega
 have e11:pe (Zc T (n+3)) (.bin .Add (.bin .Add (.slice (.var 5) .nop (.part (.var 8))) (.tupE (.aC (.var 10) .aN))) (.slice (.var 5) (.part (.bin .Add (.var 8) (.cst (.int 1)))) .nop)) (Vg p ts l found (some (.int (t.1:Int))) (some (.str t.2.1)) (some (Zf t.2.2)) x11 x12)=some (.tup ((ZT p t.1 t.2.2).rows.map Zf)):=by
  have e1:t.1+1<=Zp:=sz _ (by omega)
  have e2:t.1+1+(p.rows.length - (t.1+1))<=Zp:=sz _ (by omega)
  show _=some (P.tup ((p.rows.set t.1 t.2.2).map Zf));rw[List.map_set,List.set_eq_take_append_cons_drop,if_pos li];unfold Vg;generalize hR:p.rows.map Zf=R at l1 l2 li ⊢;have lR:R.length=p.rows.length:=by rw[<-hR];simp
  simp[l1,l2,lR,Nat.min_eq_left (Nat.le_of_lt hk),e1,e2]
 refine⟨some (.tup ((ZT p t.1 t.2.2).rows.map Zf)),some (.lst true ((ZR (ZT p t.1 t.2.2) ts l).map Zd)),?_⟩;show px (Zc T (n+3)) [7] tB (Vg p ts l found (some (.int (t.1:Int))) (some (.str t.2.1)) (some (Zf t.2.2)) x11 x12)=_;unfold tB;rw[Zi,ZL e11 rfl (by rfl),Zg]
 have e12:=Qc (n:=n) (p:=ZT p t.1 t.2.2) (ts:=ts) (l:=l) (a:=2) (b:=4) (c:=11) (π:=Vg p ts l found (some (.int (t.1:Int))) (some (.str t.2.1)) (some (Zf t.2.2)) (some (.tup ((ZT p t.1 t.2.2).rows.map Zf))) x12) hq ht hl rfl rfl rfl rfl;rw[Zi,ZL (p:=.lst true ((ZR (ZT p t.1 t.2.2) ts l).map Zd)) (by exact e12) rfl (by rfl),Zg]
 have e7:=ZhA (F:=Zc T (n+3)) (as:=ZR p ts l) (bs:=ZR (ZT p t.1 t.2.2) ts l) (m:=ts.length) (x1:=.non) (π:=Vg p ts l found (some (.int (t.1:Int))) (some (.str t.2.1)) (some (Zf t.2.2)) (some (.tup ((ZT p t.1 t.2.2).rows.map Zf))) (some (.lst true ((ZR (ZT p t.1 t.2.2) ts l).map Zd)))) (by simp[Vg]) rfl rfl (by unfold ZR;simp) (by unfold ZR;simp) ht.1
 refine(Zbi (xs:=found) (p:=Zw ts.length (bnF p ts l t)) rfl (by exact e7) (by rfl) hf).trans ?_
 rw[Zu];rfl
theorem Zb1{p:Prog}{ts:Li (Li Int)}{l:Nat}(hp:PG p)(ht:Vb p.many ts)(hl:l<=900):∀ (fs:Li (Nat×Str×Row)) (found:Li P) (x8 x9 x10 x11 x12:Ot P),(∀ t∈fs,t.1 < p.rows.length/\ROk p.many p.rows.length t.2.2)->found.length+fs.length<=900->
  ∃ y8 y9 y10 y11 y12,ZB (UJ 8 9 10 (px (Zc T (n+3)) [7] tB)) (fs.map fun t=>X1 t.1 t.2) (Vg p ts l found x8 x9 x10 x11 x12)=some (.nx (Vg p ts l (found++fs.map fun t=>Zw ts.length (bnF p ts l t)) y8 y9 y10 y11 y12))
 |[],found,x8,x9,x10,x11,x12,_,_=>⟨x8,x9,x10,x11,x12,by rw[List.map_nil,List.map_nil,List.append_nil];exact X6⟩
 |t :: fs,found,x8,x9,x10,x11,x12,h,hz=>by
  rw[List.length_cons]at hz;obtain⟨h1,h2⟩:=h t Ls;obtain⟨y11,y12,e1⟩:=Zhw (n:=n) (found:=found) (x8:=x8) (x9:=x9) (x10:=x10) (x11:=x11) (x12:=x12) hp ht hl h1 h2 (by omega)
  obtain⟨z8,z9,z10,z11,z12,e⟩:=Zb1 hp ht hl fs (found++[Zw ts.length (bnF p ts l t)]) (some (.int (t.1:Int))) (some (.str t.2.1)) (some (Zf t.2.2)) y11 y12 (fun q hq=>h q (Lm _ hq)) (by simp;omega)
  refine⟨z8,z9,z10,z11,z12,?_⟩;rw[List.map_cons,ZF,e1,Yd,e,List.append_assoc];rfl
theorem Zce{p:Prog}{ts:Li (Li Int)}{l:Nat}(hp:PG p)(ht:Vb p.many ts)(hl:l<=900):Zc T (n+5) 198 [ZA p,.lst true (ts.map Zx),.int (l:Int)]=some (.lst true ((bnL p ts l).map (Zw ts.length))):=by
 rw[Zk (f:=c__law_telling) rfl rfl rfl];have f1:=Zbf (n:=n) (p:=p) (fun r hr=>ZbV (hp.rows r hr).2) hp.size
 rw[WW]at f1;have fl:=QB hp.size;have ok:=ZaD (k:=0) (m:=p.many) (many:=p.rows.length) hp.rows;unfold bnL;generalize fkT p.rows.length 0 p.rows=fs at f1 fl ok ⊢;obtain⟨y8,y9,y10,y11,y12,e⟩:=Zb1 (n:=n+1) hp ht hl fs [] none none none none none (fun t h=>⟨by have:=(ok t h).1;omega,(ok t h).2⟩) (by simp;omega)
 have e6:=Qc (n:=n+1) (p:=p) (ts:=ts) (l:=l) (a:=2) (b:=4) (c:=5) (π:=[some (ZA p),some (.lst true (ts.map Zx)),some (.int (l:Int)),some p.takes,some (.int (p.many:Int)),some (.tup (p.rows.map Zf)),none,none,none,none,none,none,none]) hp ht hl rfl rfl rfl rfl;show Yn (px (Zc T (n+4)) [7] c__law_telling.body [some (ZA p),some (.lst true (ts.map Zx)),some (.int (l:Int)),none,none,none,none,none,none,none,none,none,none])=_
 unfold c__law_telling;rw[Zi,Zg1 (x:=p.takes) (y:=.int (p.many:Int)) (z:=.tup (p.rows.map Zf)) (by rfl) (by rfl),Zg]
 simp only[Zm,Zl];rw[Zi,ZL (p:=.lst true ((ZR p ts l).map Zd)) (by exact e6) rfl (by rfl),Zg]
 simp only[Zm,Zl];rw[Zi,XJ (p:=.lst true []) (by rfl) rfl rfl,Zg]
 simp only[Zm,Zl];rw[Zi,ZbQ (xs:=fs.map fun t=>X1 t.1 t.2) (by first|rfl|simp[f1]) (by rfl)]
 replace e:ZB (UJ 8 9 10 (px (Zc T (n+4)) [7] tB)) (fs.map fun t=>X1 t.1 t.2) (Vg p ts l [] none none none none none)=some (.nx (Vg p ts l (fs.map fun t=>Zw ts.length (bnF p ts l t)) y8 y9 y10 y11 y12)):=e
 unfold tB Vg at e;rw[e,Zg];rw[ZQ (v:=.lst true (fs.map fun t=>Zw ts.length (bnF p ts l t))) (by rfl),List.map_map]
 rfl
end
end Dp


namespace Dp
open PySem
section
variable {n:Nat}{F:PFn}{m:Nat}
def taB(m:Nat)(C:Li Nat)(b:Nat):Bool:=(tl m b).isEmpty||!((tl m b).filter fun i=>decide (i∈C)).isEmpty
theorem Zac{C is:Li Nat}{x:P}{a:Nat}{π:Zr}{it:CE}(hi:pe F it π=some (.lst true (Ze is)))(hx:∀ k:Nat,ZX .In (.int (k:Int)) x=some (.bl (decide (k∈C))))(h0:π[a]?=some (some x))(hl:is.length<=1000):pe F (.comp false [a] it (.var 0) (.cmp .In (.var 0) (.var 1))) π=some (.lst true (Ze (is.filter fun i=>decide (i∈C)))):=by
 rw[YC,hi,Ob,show YF false (.lst true (Ze is))=some (Ze is) from rfl,Ob,if_pos (by rw[List.length_map];exact hl)]
 rw[XE (g:=fun i=>decide (i∈C)) is (fun i _=>?_) (fun x=>?_)]
 ·rfl
 ·rw[show ZS π [a] (.int (i:Int))=[some (.int (i:Int)),some x] by simp[ZS,h0],YX]
  exact hx i
 ·rfl
theorem QA{is:Li Nat}:(Ze is).isEmpty=is.isEmpty:=by cases is<;>rfl
theorem Zhv{C:Li Nat}{x:P}{x1:Ot P}{b:Nat}(hx:∀ k:Nat,ZX .In (.int (k:Int)) x=some (.bl (decide (k∈C))))(hm:m<=1000):px F [] Yk [some x,x1,some (Zw m b)]=if taB m C b=true then some (.nx [some x,x1,some (Zw m b)]) else some (.rt (.bl false)):=by
 have sc:=Zac (F:=F) (C:=C) (is:=tl m b) (x:=x) (a:=0) (it:=.var 2) (π:=[some x,x1,some (Zw m b)]) rfl hx rfl (by unfold tl;exact Nat.le_trans (List.length_filter_le _ _) (by rw[List.length_range];exact hm))
 have c:pe F (.and (.cmp .NotEq (.var 2) (.lstE .aN)) (.cmp .Eq Yl (.lstE .aN))) [some x,x1,some (Zw m b)]=some (.bl (!taB m C b)):=by
  have c1:pe F (.cmp .NotEq (.var 2) (.lstE .aN)) [some x,x1,some (Zw m b)]=some (.bl (!(tl m b).isEmpty)):=by
   show(ZX .NotEq (.lst true (Ze (tl m b))) (.lst true []))=_;rw[<-QA];cases Ze (tl m b)<;>rfl
  have c2:pe F (.cmp .Eq Yl (.lstE .aN)) [some x,x1,some (Zw m b)]=some (.bl ((tl m b).filter fun i=>decide (i∈C)).isEmpty):=by
   rw[YX,show pe F Yl [some x,x1,some (Zw m b)]=_ from sc,Ob,<-QA];exact Jw
  rw[pe_and,c1,c2];unfold taB;cases (tl m b).isEmpty<;>cases ((tl m b).filter fun i=>decide (i∈C)).isEmpty<;>rfl
 unfold Yk;cases q:taB m C b with
 |true=>rw[q]at c;rw[if_pos rfl,Zy c,Zu]
 |false=>rw[q]at c;rw[if_neg Bf];exact ZI c rfl
theorem ZbZ{C:Li Nat}{x:P}{x1:Ot P}(hx:∀ k:Nat,ZX .In (.int (k:Int)) x=some (.bl (decide (k∈C))))(hm:m<=1000):∀ (bs:Li Nat) (x2:Ot P),∃ y2,ZB (fun d π=>px F [] Yk (Zo π 2 d)) (bs.map (Zw m)) [some x,x1,x2]=if bs.all (taB m C)=true then some (.nx [some x,x1,y2]) else some (.rt (.bl false))
 |[],x2=>⟨x2,rfl⟩
 |b :: bs,x2=>by
  have t:=Zhv (F:=F) (x1:=x1) (b:=b) hx hm;obtain⟨y2,e⟩:=ZbZ hx hm bs (some (Zw m b));refine⟨y2,?_⟩;rw[List.map_cons,ZF,show Zo [some x,x1,x2] 2 (Zw m b)=[some x,x1,some (Zw m b)] from rfl,t,List.all_cons];cases q:taB m C b with
  |true=>rw[if_pos rfl,Yd,e,Bool.true_and]
  |false=>rw[if_neg Bf,Bool.false_and,if_neg Bf];rfl
theorem ZhJ{C bs:Li Nat}{x:P}(hx:∀ k:Nat,ZX .In (.int (k:Int)) x=some (.bl (decide (k∈C))))(hm:m<=1000):Zc T (n+1) 199 [x,.lst true (bs.map (Zw m))]=some (.bl (bs.all (taB m C))):=by
 rw[Zk (f:=c__law_tell_all) rfl rfl rfl];obtain⟨y2,e⟩:=ZbZ (F:=Zc T n) (x1:=some (.lst true (bs.map (Zw m)))) hx hm bs none;show Yn (px (Zc T n) [] c__law_tell_all.body [some x,some (.lst true (bs.map (Zw m))),none])=_;unfold c__law_tell_all;rw[Zi,ZbS (m:=true) (xs:=bs.map (Zw m)) rfl (by rfl),e]
 cases bs.all (taB m C) with
 |true=>rw[if_pos rfl,Zg,ZQ (v:=.bl true) rfl];rfl
 |false=>rw[if_neg Bf];rfl
theorem ZiN{C:Li Nat}(k:Nat):ZX .In (.int (k:Int)) (.tup (Ze C))=some (.bl (decide (k∈C))):=by rw[Zf1,QI];rfl
theorem Zd6{C:Li Nat}{b:Bool}(k:Nat):ZX .In (.int (k:Int)) (.lst b (Ze C))=some (.bl (decide (k∈C))):=by rw[Zit,QI];rfl
theorem Zfl{C bs:Li Nat}(hb:∀ b∈bs,b < 2 ^ m):bs.all (taB m C)=true↔Zj4 C bs:=by
 rw[List.all_eq_true];refine⟨fun h b hbb h0=>?_,fun h b hbb=>?_⟩
 ·have lt:=hb b hbb
  have z:=h b hbb;unfold taB at z;rw[Bool.or_eq_true,List.isEmpty_iff,Za9 lt]at z;rcases z with z|z
  ·exact absurd z h0
  ·rw[Bool.not_eq_true',List.isEmpty_eq_false_iff_exists_mem]at z
   obtain⟨i,hi⟩:=z;rw[List.mem_filter,QT lt]at hi;exact⟨i,by simpa using hi.2,hi.1⟩
 ·have lt:=hb b hbb
  unfold taB;rw[Bool.or_eq_true,List.isEmpty_iff,Za9 lt];by_cases h0:b=0
  ·exact .inl h0
  ·obtain⟨i,hi,ht⟩:=h b hbb h0
   refine .inr ?_;rw[Bool.not_eq_true',List.isEmpty_eq_false_iff_exists_mem];exact⟨i,List.mem_filter.mpr ⟨(QT lt).mpr ht,by simpa using hi⟩⟩
theorem Zhs{bs used:Li Nat}{x0:Ot P}{k:Nat}(hk:k < bs.length)(hm:m<=10)(h0:bs.getD k 0≠0)(hb:∀ b∈bs,b < 2 ^ m)(hd:∀ i∈tl m (bs.getD k 0),i∉used)(hu:used.length<=1000) :
  px F [] Yp [x0,some (.lst true (bs.map (Zw m))),some (.lst true (Ze used)),some (.int (k:Int))]=some (.nx [x0,some (.lst true (bs.map (Zw m))),some (.lst true (Ze (used++tl m (bs.getD k 0)))),some (.int (k:Int))]):=by
 have eg:bs.getD k 0=bs[k]:=by rw[List.getD_eq_getElem?_getD,Lg hk];rfl
 rw[eg]at h0 hd ⊢;have lt:=hb _ (List.getElem_mem hk);have ix:pe F (.ix (.var 1) (.var 3)) [x0,some (.lst true (bs.map (Zw m))),some (.lst true (Ze used)),some (.int (k:Int))]=some (Zw m bs[k]):=by
  show atP (bs.map (Zw m)) (k:Int)=_;rw[YW rfl,List.getElem?_map,Lg hk];rfl
 have lm:(tl m bs[k]).length<=10:=by unfold tl;exact Nat.le_trans (List.length_filter_le _ _) (by rw[List.length_range];exact hm)
 have sc:=Zac (F:=F) (C:=used) (is:=tl m bs[k]) (x:=.lst true (Ze used)) (a:=2) (it:=.ix (.var 1) (.var 3)) (π:=[x0,some (.lst true (bs.map (Zw m))),some (.lst true (Ze used)),some (.int (k:Int))]) ix (fun k=>Zd6 k) rfl (by omega)
 have nil:((tl m bs[k]).filter fun i=>decide (i∈used))=[]:=List.filter_eq_nil_iff.mpr fun i hi=>by simpa using hd i hi
 rw[nil]at sc;have ne:(tl m bs[k]).isEmpty=false:=by
  cases q:(tl m bs[k]) with
  |nil=>exact absurd ((Za9 lt).mp q) h0
  |cons _ _=>rfl
 have c:pe F (.or (.cmp .Eq (.ix (.var 1) (.var 3)) (.lstE .aN)) (.cmp .NotEq Yr (.lstE .aN))) [x0,some (.lst true (bs.map (Zw m))),some (.lst true (Ze used)),some (.int (k:Int))]=some (.bl false):=by
  have c1:pe F (.cmp .Eq (.ix (.var 1) (.var 3)) (.lstE .aN)) [x0,some (.lst true (bs.map (Zw m))),some (.lst true (Ze used)),some (.int (k:Int))]=some (.bl false):=by
   rw[YX,ix,Ob,<-ne,<-QA];exact Jw
  have c2:pe F (.cmp .NotEq Yr (.lstE .aN)) [x0,some (.lst true (bs.map (Zw m))),some (.lst true (Ze used)),some (.int (k:Int))]=some (.bl false):=by
   rw[YX,show pe F Yr [x0,some (.lst true (bs.map (Zw m))),some (.lst true (Ze used)),some (.int (k:Int))]=_ from sc,Ob];rfl
  rw[pe_or,c1,c2];rfl
 unfold Yp;rw[Zy c,YJ (v:=.lst true (Ze (used++tl m bs[k]))) ?_,Zu]
 ·rfl
 ·rw[ZM,ix]
  show((some (P.lst true (Ze used))).bind fun x=>(some (Zw m bs[k])).bind fun y=>YG .Add x y)=_
  have:(Ze used).length+(Ze (tl m bs[k])).length<=Zp:=by rw[List.length_map,List.length_map];unfold Zp;omega
  rw[Ob,Ob,show YG .Add (.lst true (Ze used)) (Zw m bs[k])=_ from Zdd,if_pos this];exact congrArg (fun z=>some (P.lst true z)) (List.map_append ..).symm
theorem ZbW{bs:Li Nat}{x0:Ot P}(hm:m<=10)(hb:∀ b∈bs,b < 2 ^ m):∀ (R used:Li Nat) (x3:Ot P),(∀ k∈R,k < bs.length/\bs.getD k 0≠0)->UN (fun i=>bs.getD i 0) R->(∀ k∈R,∀ i∈tl m (bs.getD k 0),i∉used)->used.length+10 * R.length<=1000->
  ∃ y2 y3,ZB (fun d π=>px F [] Yp (Zo π 3 d)) (Ze R) [x0,some (.lst true (bs.map (Zw m))),some (.lst true (Ze used)),x3]=some (.nx [x0,some (.lst true (bs.map (Zw m))),y2,y3])
 |[],used,x3,_,_,_,_=>⟨_,x3,rfl⟩
 |k :: R,used,x3,hk,ha,hd,hz=>by
  rw[List.length_cons]at hz;have ha:=List.pairwise_cons.mp ha;obtain⟨h1,h2⟩:=hk k Ls;have lm:(tl m (bs.getD k 0)).length<=10:=by unfold tl;exact Nat.le_trans (List.length_filter_le _ _) (by rw[List.length_range];exact hm)
  have t:=Zhs (F:=F) (x0:=x0) h1 hm h2 hb (hd k Ls) (by omega)
  have gl:∀ k,k < bs.length->bs.getD k 0 < 2 ^ m:=fun k h=>by
   rw[List.getD_eq_getElem?_getD,Lg h];exact hb _ (List.getElem_mem h)
  obtain⟨y2,y3,e⟩:=ZbW hm hb R (used++tl m (bs.getD k 0)) (some (.int (k:Int))) (fun j hj=>hk j (Lm _ hj)) ha.2 (fun j hj i hi hu=>by
   rcases List.mem_append.mp hu with z|z
   ·exact hd j (Lm _ hj) i hi z
   ·have a0:=ha.1 j hj
    rw[QT (gl _ h1)]at z;rw[QT (gl _ (hk j (Lm _ hj)).1)]at hi;have q:(bs.getD k 0 &&& bs.getD j 0).testBit i=true:=by rw[Nat.testBit_and,z,hi];rfl
    rw[show bs.getD k 0 &&& bs.getD j 0=0 from a0,Nat.zero_testBit]at q;cases q) (by rw[List.length_append];omega)
  refine⟨y2,y3,?_⟩;rw[show Ze (k :: R)=.int (k:Int) :: Ze R from rfl,ZF,show Zo [x0,some (.lst true (bs.map (Zw m))),some (.lst true (Ze used)),x3] 3 (.int (k:Int))=[x0,some (.lst true (bs.map (Zw m))),some (.lst true (Ze used)),some (.int (k:Int))] from rfl,t,Yd];exact e
theorem Zcd{bs R:Li Nat}(hm:m<=10)(hb:∀ b∈bs,b < 2 ^ m)(hk:∀ k∈R,k < bs.length/\bs.getD k 0≠0)(ha:UN (fun i=>bs.getD i 0) R)(hl:R.length<=10):Zc T (n+1) 200 [.tup (Ze R),.lst true (bs.map (Zw m))]=some (.bl true):=by
 rw[Zk (f:=c__law_strange) rfl rfl rfl];obtain⟨y2,y3,e⟩:=ZbW (F:=Zc T n) (x0:=some (.tup (Ze R))) hm hb R [] none hk ha (fun _ _ _ _ z=>nomatch z) (by simp;omega)
 show Yn (px (Zc T n) [] c__law_strange.body [some (.tup (Ze R)),some (.lst true (bs.map (Zw m))),none,none])=_;unfold c__law_strange;rw[YJ (v:=.lst true (Ze [])) rfl];simp only[Zm,Zl];rw[Zi,ZbU (xs:=Ze R) rfl (by simp[Ue]),e,Zg,ZQ (v:=.bl true) rfl]
 rfl
theorem ZfH{x:Int}:Zc T (n+1) 17 [.int x]=some (.bl true):=by
 rw[Zk (f:=c__law_whole) rfl rfl rfl]
 (rw[show ZC c__law_whole.body=[] from rfl];simp[c__law_whole])
theorem Qh{x0:Ot P}{m:Nat}(h17:∀ x:Int,F 17 [.int x]=some (.bl true)):∀ (ks:Li Nat),(∀ k∈ks,k < m)->ks.Pairwise (· < ·)->∀ (last:Int) (o:Ot P),(∀ k∈ks,last < (k:Int))->
  ∃ l' o',ZB (fun d π=>px F [] Yx (Zo π 3 d)) (Ze ks) [x0,some (.int (m:Int)),some (.int last),o]=some (.nx [x0,some (.int (m:Int)),some (.int l'),o'])
 |[],_,_,last,o,_=>⟨last,o,rfl⟩
 |k :: ks,hk,hp,last,o,hl=>by
  have h1:=hk k Ls;have h2:=hl k Ls;rw[List.pairwise_cons]at hp;obtain⟨l',o',e⟩:=Qh (x0:=x0) h17 ks (fun i hi=>hk i (Lm _ hi)) hp.2 (k:Int) (some (.int (k:Int))) (fun i hi=>by have:=hp.1 i hi;omega)
  refine⟨l',o',?_⟩;have a1:¬(k:Int)<=last:=by omega
  have a2:¬(m:Int)<=(k:Int):=by omega
  have t:px F [] Yx (Zo [x0,some (.int (m:Int)),some (.int last),o] 3 (.int (k:Int)))=some (.nx [x0,some (.int (m:Int)),some (.int (k:Int)),some (.int (k:Int))]):=by
   simp[Yx,h17,XS,a1];omega
  rw[show Ze (k :: ks)=.int (k:Int) :: Ze ks from rfl,ZF,t,Yd];exact e
theorem Jk{C:Li Nat}(h1:∀ c∈C,c < m)(h2:C.Pairwise (· < ·)):Zc T (n+2) 65 [.tup (Ze C),.int (m:Int)]=some (.bl true):=by
 rw[Zk (f:=c__law_rising) rfl rfl rfl];obtain⟨l',o',e⟩:=Qh (F:=Zc T (n+1)) (x0:=some (.tup (Ze C))) (m:=m) (fun x=>ZfH) C h1 h2 (-1) Option.none (fun k _=>by omega)
 show Yn (px (Zc T (n+1)) [] c__law_rising.body [some (.tup (Ze C)),some (.int (m:Int)),Option.none,Option.none])=_;unfold c__law_rising;rw[Zy (by rfl),YJ (v:=.int (-1)) (by rfl)]
 simp only[Zm,Zl];rw[Zi,ZbU (xs:=Ze C) rfl (by simp[Ue]),e,Zg,ZQ (v:=.bl true) rfl]
 rfl
end
end Dp


namespace Dp
open PySem
section
variable {n:Nat}{F:PFn}{m:Nat}{c0 c1 c2:Int}
theorem ZbE{i j:Int}(h:Z1 i=true):YG .Mult (.int i) (.int j)=some (.int (i * j)):=by
 rw[VH,h,Bool.true_or,if_pos rfl]
theorem Zk9{e:CE}{π:Zr}{i:Int}(h:Z1 i=true)(he:pe F e π=some (.int i)):pe F (.bin .Mult e e) π=some (.int (i * i)):=by
 rw[ZM,he,Ob,Ob,ZbE h]
theorem ZgI{k:Nat}(h:k<=1000):∃ i:Int,i=(k:Int)/\Z1 i=true:=⟨_,rfl,QN (by omega) (by omega)⟩
theorem Zct{A B:Int}{e1 e2:CE}{π:Zr}(hA:Z1 A=true)(h1:pe F e1 π=some (.int A))(h2:pe F e2 π=some (.int B)):pe F (.bin .Mod (.bin .Mult e1 (.bin .Add e2 (.cst (.int 50021)))) (.cst (.int 2147483647))) π=some (.int (A * (B+50021) % 2147483647)):=by
 rw[ZM,ZM,h1,Ob,ZM,h2,Ob,Z0,ZK,Ob,XD,Ob,ZbE hA,Ob,Z0,ZK,Ob,Zbj,if_pos (by omega)]
theorem ZcX{h0:Int}:Z1 (h0 % 1000003+19)=true:=QN (by omega) (by omega)
theorem Zic{ns:Li Int}{k:Nat}(hn:ns.length<=63)(hk:k<=1000):∃ c,Zc T (n+1) 27 [.lst false (ns.map .int),.int (k:Int)]=some (.int c):=by
 rw[Zk (f:=c__law_cell_at_k61) rfl rfl rfl];show ∃ c,Yn (px (Zc T n) [] c__law_cell_at_k61.body [some (.lst false (ns.map .int)),some (.int (k:Int))])=_;unfold c__law_cell_at_k61;by_cases h:k < ns.length
 ·refine⟨ns[k],?_⟩
  rw[ZI (v:=.int ns[k]) (by first|rfl|simp[h]) (by first|rfl|simp[h])]
  rfl
 ·rw[Zy (by simp;omega)]
  obtain⟨h0,e0⟩:∃ h0,pe (Zc T n) (.ix (.bin .Add (.var 0) (.lstE (.aC (.cst (.int 0)) .aN))) (.cst (.int 0))) [some (.lst false (ns.map .int)),some (.int (k:Int))]=some (.int h0):=by
   have hz:ns.length+1<=Zp:=by unfold Zp;omega
   cases ns with
   |nil=>exact⟨0,by rfl⟩
   |cons a l=>exact⟨a,by
     rw[List.length_cons]at hz;simp[hz]⟩
  have e1:pe (Zc T n) (.bin .Add (.bin .Mod (.ix (.bin .Add (.var 0) (.lstE (.aC (.cst (.int 0)) .aN))) (.cst (.int 0))) (.cst (.int 1000003))) (.cst (.int 19))) [some (.lst false (ns.map .int)),some (.int (k:Int))]=some (.int (h0 % 1000003+19)):=by
   rw[ZM,ZM,e0];simp
  obtain⟨i,hi,lk⟩:=ZgI hk;rw[<-hi]at e1 ⊢;exact⟨_,by rw[ZQ (Zct ZcX e1 (Zk9 lk rfl))];rfl⟩
theorem Zks{p:Prop}[Decidable p](h:p):some (P.bl (decide p))=some (.bl true):=by rw[decide_eq_true h]
theorem Zkr{p:Prop}[Decidable p](h:¬p):some (P.bl (decide p))=some (.bl false):=by rw[decide_eq_false h]
theorem at5(i:Int):∃ v,Sm v/\atP [.int 999999999,.int (-1000000000),.int (-1),.int 0,.int 1] (i % 5)=some (.int v):=by
 rcases (show i % 5=0\/i % 5=1\/i % 5=2\/i % 5=3\/i % 5=4 by omega) with e|e|e|e|e<;>rw[e]
 ·exact⟨_,⟨by decide,by decide⟩,rfl⟩
 ·exact⟨_,⟨by decide,by decide⟩,rfl⟩
 ·exact⟨_,⟨by decide,by decide⟩,rfl⟩
 ·exact⟨_,⟨by decide,by decide⟩,rfl⟩
 ·exact⟨_,⟨by decide,by decide⟩,rfl⟩
theorem ZhK{c:Int}:∃ v,Sm v/\Zc T (n+1) 185 [.int c]=some (.int v):=by
 rw[Zk (f:=c__law_number_k61) rfl rfl rfl];show ∃ v,Sm v/\Yn (px (Zc T n) [] c__law_number_k61.body [some (.int c)])=_;unfold c__law_number_k61;by_cases h:c % 4=0
 ·refine⟨c / 4 % 2000000000 - 1000000000,⟨by omega,by omega⟩,?_⟩
  rw[ZI (v:=.int (c / 4 % 2000000000 - 1000000000)) (by exact Zks h) (by rfl)]
  rfl
 ·rw[Zy (by exact Zkr h)]
  by_cases h1:c % 4=1
  ·obtain⟨v,sv,e⟩:=at5 (c / 4)
   refine⟨v,sv,?_⟩;rw[ZI (v:=.int v) (by exact Zks h1) (by exact e)]
   rfl
  ·refine⟨c / 4 % 7 - 3,⟨by omega,by omega⟩,?_⟩
   rw[Zy (by exact Zkr h1),ZQ (v:=.int (c / 4 % 7 - 3)) (by rfl)]
   rfl
theorem ZhL{c:Int}(hm:1<=m):∃ o,Xb m o/\Zc T (n+2) 28 [.int c,.int (m:Int)]=some (ZH o):=by
 rw[Zk (f:=c__law_operand_k61) rfl rfl rfl];obtain⟨v,sv,nb⟩:=ZhK (n:=n) (c:=c / 3);by_cases h:c % 3=0
 ·refine⟨.num v,sv,?_⟩
  (rw[show ZC c__law_operand_k61.body=[] from rfl];simp[c__law_operand_k61,h,nb,ZH])
 ·have:=Int.emod_nonneg (c / 3) (show(m:Int)≠0 by omega)
  have:=Int.emod_lt_of_pos (c / 3) (show 0 < (m:Int) by omega)
  have e:((c / 3 % (m:Int)).toNat:Int)=c / 3 % (m:Int):=by omega
  refine⟨.name (c / 3 % (m:Int)).toNat,by show(c / 3 % (m:Int)).toNat < m;omega,?_⟩
  (rw[show ZC c__law_operand_k61.body=[] from rfl];simp[c__law_operand_k61,h,ZH,e,show 0 < m by omega])
theorem Zkg{b:Bool}{size:Nat}(h0:1<=m)(hm:m<=100):∃ r,ROk m size r/\Zc T (n+3) 29 [.lst b [.int c0,.int c1,.int c2],.int (m:Int),.int (size:Int)]=some (Zf r):=by
 rw[Zk (f:=c__law_row_k61) rfl rfl rfl];obtain⟨y,hy,ey⟩:=ZhL (n:=n) (m:=m) (c:=c1) h0;obtain⟨z,hz,ez⟩:=ZhL (n:=n) (m:=m) (c:=c2) h0;have oy:=ZeA hy;have oz:=ZeA hz;show ∃ r,ROk m size r/\Yn (px (Zc T (n+2)) [] c__law_row_k61.body [some (.lst b [.int c0,.int c1,.int c2]),some (.int (m:Int)),some (.int (size:Int)),none,none,none])=_;unfold c__law_row_k61
 rw[YJ (v:=.int (c0 / 8)) (by first|rfl|simp)]
 simp only[Zm,Zl];rw[YJ (v:=ZH y) (by first|rfl|simp[ey])]
 simp only[Zm,Zl];rw[YJ (v:=ZH z) (by first|rfl|simp[ez])]
 simp only[Zm,Zl];have ia:∀ {i:Int},atP [.str (S "+"),.str (S "-"),.str (S "*"),.str (S "/"),.str (S "mod")] (i % 5)=some (.str (sgA (i % 5))):=ZlR;have ib:∀ {i:Int},atP [.str (S "<"),.str (S "<="),.str (S "="),.str (S ">="),.str (S ">"),.str (S "!=")] (i % 6)=some (.str (sgB (i % 6))):=ZlS;have ps:(0:Int) < (size:Int)+1:=by omega
 have pm:0 < m:=h0;by_cases h1:c0 % 8 < 3
 ·obtain⟨x,ex,hx⟩:∃ x:Nat,c0 / 8 % (m:Int)=(x:Int)/\x < m:=⟨(c0 / 8 % (m:Int)).toNat,by
   have:=Int.emod_nonneg (c0 / 8) (show(m:Int)≠0 by omega)
   omega,by
   have:=Int.emod_nonneg (c0 / 8) (show(m:Int)≠0 by omega)
   have:=Int.emod_lt_of_pos (c0 / 8) (show 0 < (m:Int) by omega)
   omega⟩
  refine⟨.put x y (sgA (c0 / 8 / (m:Int) % 5)) z,⟨⟨hx,hy,hz⟩,ZjG _,oy,oz⟩,?_⟩;rw[ZI (v:=Zf (.put x y (sgA (c0 / 8 / (m:Int) % 5)) z)) (by first|rfl|simp[h1]) (by first|rfl|simp[ia,ex,pm,Zf,show(m:Int) < 1073741824 by omega])]
  rfl
 rw[Zy (by first|rfl|simp[h1])]
 have tq:∀ c:Int,∃ t:Nat,c % ((size:Int)+1)=(t:Int)/\t<=size:=fun c=>⟨(c % ((size:Int)+1)).toNat,by
  have:=Int.emod_nonneg c (show(size:Int)+1≠0 by omega)
  omega,by
  have:=Int.emod_nonneg c (show(size:Int)+1≠0 by omega)
  have:=Int.emod_lt_of_pos c ps;omega⟩
 by_cases h2:c0 % 8 < 5
 ·obtain⟨t,et,ht⟩:=tq (c0 / 8 / 6)
  refine⟨.ifr y (sgB (c0 / 8 % 6)) z t,⟨⟨hy,hz,ht⟩,ZjH _⟩,?_⟩;rw[ZI (v:=Zf (.ifr y (sgB (c0 / 8 % 6)) z t)) (by first|rfl|simp[h2]) (by first|rfl|simp[ib,Zf,ps,et])]
  rfl
 rw[Zy (by first|rfl|simp[h2])]
 by_cases h4:c0 % 8 < 7
 ·refine⟨.tell z,⟨hz,trivial⟩,?_⟩
  rw[ZI (v:=Zf (.tell z)) (by first|rfl|simp[h4]) (by first|rfl|simp[Zf])]
  rfl
 rw[Zy (by first|rfl|simp[h4])]
 obtain⟨t,et,ht⟩:=tq (c0 / 8 / 2);rcases (show c0 / 8 % 2=0\/c0 / 8 % 2=1 by omega) with e|e
 ·refine⟨.skip,⟨trivial,trivial⟩,?_⟩
  rw[ZQ (v:=Zf .skip) (by first|rfl|simp[Zf,e,ps,et])]
  rfl
 ·refine⟨.go t,⟨ht,trivial⟩,?_⟩
  rw[ZQ (v:=Zf (.go t)) (by first|rfl|simp[Zf,e,ps,et])]
  rfl
theorem l3:Z1 3=true:=by decide
theorem l2:Z1 2=true:=by decide
theorem ZiH{π:Zr}{k j q:Nat}(hk:pe F (.var 1) π=some (.int (k:Int)))(hj:pe F (.var 0) π=some (.int (j:Int)))(hq:q=3+3 * k+j):pe F (.bin .Add (.bin .Add (.cst (.int 3)) (.bin .Mult (.cst (.int 3)) (.var 1))) (.var 0)) π=some (.int (q:Int)):=by
 rw[ZM,ZM,ZM,Z0,ZK,Ob,Ob,hk,Ob,ZbE l3,Ob,XD,Ob,hj,Ob,XD,hq,show((3+3 * k+j:Nat):Int)=3+3 * (k:Int)+(j:Int) by omega]
theorem Zf0{ns:Li Int}{k:Nat}{π:Zr}(hk:k<=12)(h27:∀ k:Nat,k<=1000->∃ c,F 27 [.lst false (ns.map .int),.int (k:Int)]=some (.int c))(h0:π[0]?=some (some (.lst false (ns.map .int))))(h6:π[6]?=some (some (.int (k:Int)))):∃ c0 c1 c2,pe F XZ π=some (.lst true [.int c0,.int c1,.int c2]):=by
 have one:∀ j:Nat,j<=2->∃ c,pe F (.call 27 (.aC (.var 2) (.aC (.bin .Add (.bin .Add (.cst (.int 3)) (.bin .Mult (.cst (.int 3)) (.var 1))) (.var 0)) .aN)) []) [some (.int (j:Int)),some (.int (k:Int)),some (.lst false (ns.map .int))]=some (.int c):=fun j hj=>by
  obtain⟨c,e⟩:=h27 (3+3 * k+j) (by omega)
  refine⟨c,?_⟩;rw[pe_call,YU,YU,ZiH (k:=k) (j:=j) rfl rfl rfl];simp[-Int.natCast_add,-Int.natCast_mul,e]
 obtain⟨a0,e0⟩:=one 0 (by omega)
 obtain⟨a1,e1⟩:=one 1 (by omega)
 obtain⟨a2,e2⟩:=one 2 (by omega)
 refine⟨a0,a1,a2,?_⟩;have pv:∀ j:Nat,ZS π [6,0] (.int (j:Int))=[some (.int (j:Int)),some (.int (k:Int)),some (.lst false (ns.map .int))]:=fun j=>by simp[ZS,h0,h6]
 unfold XZ;rw[YC,Z0,ZK,Ob,show YF true (.int 3)=some [.int ((0:Nat):Int),.int ((1:Nat):Int),.int ((2:Nat):Int)] from rfl,Ob,if_pos (by decide)]
 have z:∀ q:Li P,pe F (.cst (.bl true)) (q.map some)=some (.bl true):=fun _=>rfl
 unfold Ye;rw[pv,e0];unfold Ye;rw[pv,e1];unfold Ye;rw[pv,e2];rfl
end
end Dp


namespace Dp
open PySem
section
variable {n:Nat}{F:PFn}{m:Nat}
theorem Zht{s:CS}:shr [] s=[]:=rfl
theorem Jd:∀ (s:CS) (π:Zr),W5 F s [] π=px F [] s π:=by
 intro s
 induction s with
 |seq a b _ ih=>
  intro π;show VE (px F [] a) (W5 F b (shr [] b)) π=VE (px F [] a) (px F [] b) π;rw[Zht,funext ih]
 |_=>intro π;rfl
theorem Zkm{M:Li Nat}{c:CE}{a b q:CS}{π:Zr}{v:P}(h:pe F c π=some (.bl true))(ha:px F M a π=some (.rt v)):px F M (.seq (.ite c a b) q) π=some (.rt v):=by
 rw[Zi,YN,h,Yb,if_pos rfl,ha];rfl
theorem Um:∀ {vs:Li Int},Xw (vs.map P.int)=true
 |[]=>rfl
 |v :: vs=>by
  show(noL (.int v)&&Xw (vs.map P.int))=true;rw[Um];rfl
theorem Zeq:∀ {vs:Li Nat},Xw (Ze vs)=true
 |[]=>rfl
 |v :: vs=>by
  show(true&&Xw (Ze vs))=true;rw[Zeq];rfl
theorem ZhU{r:Row}:noL (Zf r)=true:=by
 have o:∀ o,noL (ZH o)=true:=fun o=>by cases o<;>rfl
 cases r with
 |put x y s z=>show(true&&(true&&(noL (ZH y)&&(true&&(noL (ZH z)&&true)))))=true;rw[o,o];rfl
 |ifr y s z t=>show(true&&(noL (ZH y)&&(true&&(noL (ZH z)&&(true&&true)))))=true;rw[o,o];rfl
 |tell y=>show(true&&(noL (ZH y)&&true))=true;rw[o];rfl
 |_=>rfl
theorem Zep:∀ {rs:Li Row},Xw (rs.map Zf)=true
 |[]=>rfl
 |r :: rs=>by
  show(noL (Zf r)&&Xw (rs.map Zf))=true;rw[ZhU,Zep];rfl
abbrev tkP(tk:Nat):P:=.tup (List.replicate tk (.tup [.int (-3),.int 4]))
theorem Zer:∀ {tk:Nat},noL (tkP tk)=true
 |0=>rfl
 |tk+1=>by
  have:=@Zer tk;show(true&&noL (tkP tk))=true;rw[this];rfl
theorem ZmP{tk mn:Nat}{rs:Li Row}:noL (ZA ⟨tkP tk,mn,rs⟩)=true:=by
 show(noL (tkP tk)&&(true&&(Xw (rs.map Zf)&&true)))=true;rw[Zer,Zep];rfl
theorem Zdh{c i:Nat}(hi:i<=1000):pe F (.cmp .Eq (.bin .BitAnd (.bin .RShift (.var 1) (.var 0)) (.cst (.int 1))) (.cst (.int 1))) [some (.int (i:Int)),some (.int (c:Int))]=some (.bl (c.testBit i)):=by
 have e1:YG .RShift (.int (c:Int)) (.int (i:Int))=some (.int ((c / 2 ^ i:Nat):Int)):=by
  show(match (if 0<=(i:Int)/\(i:Int)<=1000 then some ((c:Int) / 2 ^ (i:Int).toNat) else Option.none) with
   |some k=>some (P.int k)
   |Option.none=>Option.none)=_
  rw[if_pos ⟨by omega,by omega⟩,Int.toNat_natCast]
  simp
 have e2:∀ k:Nat,YG .BitAnd (.int (k:Int)) (.int 1)=some (.int ((k % 2:Nat):Int)):=fun k=>by
  have h0:UB .BitAnd (k:Int) 1=if 0<=(k:Int)/\(0:Int)<=1 then some (((k:Int).toNat &&& (1:Int).toNat:Nat):Int) else if 0<=(k:Int)/\(1:Int) < 0 then some ((k:Int) - (((k:Int).toNat &&& (-(1:Int) - 1).toNat:Nat):Int)) else Option.none:=rfl
  have h:UB .BitAnd (k:Int) 1=some (((k % 2:Nat)):Int):=by
   rw[h0,if_pos ⟨by omega,by omega⟩,Int.toNat_natCast,show(1:Int).toNat=1 from rfl,Nat.and_one_is_mod]
  show(match UB .BitAnd (k:Int) 1 with
   |some k=>some (P.int k)
   |Option.none=>Option.none)=_
  rw[h]
 rw[YX,ZM,ZM,show pe F (.var 1) [some (.int (i:Int)),some (.int (c:Int))]=some (.int (c:Int)) from rfl,Ob,show pe F (.var 0) [some (.int (i:Int)),some (.int (c:Int))]=some (.int (i:Int)) from rfl,Ob,e1,Ob,Z0,ZK,Ob,e2,Ob,Ob,Nat.testBit_eq_decide_div_mod_eq];show some (P.bl (decide (((c / 2 ^ i % 2:Nat):Int)=1)))=_
 congr 2
 exact decide_eq_decide.mpr (by omega)
theorem ZaS{c:Nat}{π:Zr}{ts:Li P}(hm:ts.length=m)(h10:m<=10)(h9:π[9]?=some (some (.lst true ts)))(h14:π[14]?=some (some (.int (c:Int)))):pe F X0 π=some (Zw m c):=by
 unfold X0;rw[YC,ZeJ,pe_var,h9,Option.join_some,Ob,show JT (.lst true ts)=some (.int ((ts.length:Nat):Int)) from rfl,hm,Ob,WJ (by omega),Ob,if_pos (by simp;omega)]
 rw[XE (g:=c.testBit) (List.range m) (fun i hi=>?_) (fun x=>?_)]
 ·rfl
 ·rw[show ZS π [14] (.int (i:Int))=[some (.int (i:Int)),some (.int (c:Int))] by simp[ZS,h14]]
  exact Zdh (by have:=List.mem_range.mp hi;omega)
 ·rfl
abbrev E61(ns:Li Int)(a1 a2 a3 a4 a5 a6 a7 a8 a9 a10 a11 a12 a13 a14 a15:Ot P):Zr:=[some (.lst false (ns.map .int)),a1,a2,a3,a4,a5,a6,a7,a8,a9,a10,a11,a12,a13,a14,a15]
def Za8:CS:=(.seq (.ite (.or (.not (.isi .tuple (.var 12))) (.or (.cmp .NotEq (.len (.var 12)) (.cst (.int 2))) (.not (.call 65 (.aC (.ix (.var 12) (.cst (.int 0))) (.aC (.len (.var 9)) .aN)) [])))) (.seq (.ret (.cst (.bl false)))
 .skip) .skip)
 (.seq (.ite (.not (.call 199 (.aC (.ix (.var 12) (.cst (.int 0))) (.aC (.var 13) .aN)) [])) (.seq (.ret (.cst (.bl false)))
 .skip) .skip)
 (.seq (.ite (.cmp .IsNot (.ix (.var 12) (.cst (.int 1))) (.cst .non)) (.seq (.ite (.or (.not (.call 65 (.aC (.ix (.var 12) (.cst (.int 1))) (.aC (.len (.var 13)) .aN)) [])) (.cmp .NotEq (.len (.ix (.var 12) (.cst (.int 1)))) (.len (.ix (.var 12) (.cst (.int 0)))))) (.seq (.ret (.cst (.bl false)))
 .skip) .skip)
 (.seq (.ret (.call 200 (.aC (.ix (.var 12) (.cst (.int 1))) (.aC (.var 13) .aN)) []))
 .skip)) .skip)
 (.seq (.for1 14 true (.bin .LShift (.cst (.int 1)) (.len (.var 9))) YR)
 (.seq (.ret (.cst (.bl true)))
 .skip)))))
abbrev B61(ns:Li Int)(a:Nat->Ot P)(ts:Li P)(C:Li Nat)(w:Ot (Li Nat))(bs:Li Nat)(m:Nat)(y14 y15:Ot P):Zr:=E61 ns (a 1) (a 2) (a 3) (a 4) (a 5) (a 6) (a 7) (a 8) (some (.lst true ts)) (a 10) (a 11) (some (.tup [.tup (Ze C),Ym w])) (some (.lst true (bs.map (Zw m)))) y14 y15
theorem ZkE{ns:Li Int}{a:Nat->Ot P}{a14 a15:Ot P}{ts:Li P}{bs C:Li Nat}{w:Ot (Li Nat)}(hm:ts.length=m)(h10:m<=10)(hb:∀ b∈bs,b < 2 ^ m)(few:Few (ulV bs) C m)(hw:∀ R,w=some R->R.length=C.length/\R.Pairwise (· < ·)/\(∀ c∈R,c < bs.length/\bs.getD c 0≠0)/\UN (fun i=>bs.getD i 0) R) :
  W5 (Zc T (n+2)) Za8 [] (B61 ns a ts C w bs m a14 a15)=some (.rt (.bl true)):=by
 have cl:C.length<=m:=by
  have:=few.up;have h2:=few.lt;have:C.Nodup:=this.imp fun h=>Nat.ne_of_lt h
  have:=List.Nodup.length_le_of_subset this (l₂:=List.range m) fun c hc=>List.mem_range.mpr (h2 c hc)
  rwa [List.length_range]at this
 have r1:=Jk (n:=n) few.lt few.up;have al:=ZhJ (n:=n+1) (m:=m) (C:=C) (bs:=bs) (x:=.tup (Ze C)) (fun k=>ZiN k) (by omega)
 rw[(Zfl hb).mpr (hit_ul.mp few.hit)]at al;rw[Jd];unfold Za8;rw[Zy (by
  rw[pe_or,show pe (Zc T (n+2)) (.not (.isi .tuple (.var 12))) (B61 ns a ts C w bs m a14 a15)=some (.bl false) from rfl,pe_or,show pe (Zc T (n+2)) (.cmp .NotEq (.len (.var 12)) (.cst (.int 2))) (B61 ns a ts C w bs m a14 a15)=some (.bl false) from rfl,pe_not,show pe (Zc T (n+2)) (.call 65 (.aC (.ix (.var 12) (.cst (.int 0))) (.aC (.len (.var 9)) .aN)) []) (B61 ns a ts C w bs m a14 a15)=Zc T (n+2) 65 [.tup (Ze C),.int ((ts.length:Nat):Int)] from rfl,hm,r1]
  rfl),Zy (by
  rw[pe_not,show pe (Zc T (n+2)) (.call 199 (.aC (.ix (.var 12) (.cst (.int 0))) (.aC (.var 13) .aN)) []) (B61 ns a ts C w bs m a14 a15)=Zc T (n+2) 199 [.tup (Ze C),.lst true (bs.map (Zw m))] from rfl,al];rfl)]
 cases w with
 |some R=>
  obtain⟨w1,w2,w3,w4⟩:=hw R rfl;have r2:=Jk (n:=n) (m:=bs.length) (fun c hc=>(w3 c hc).1) w2
  have sg:=Zcd (n:=n+1) h10 hb w3 w4 (by omega)
  refine Zkm rfl ((Zy ?_).trans (ZQ ?_))
  ·rw[pe_or,pe_not,show pe (Zc T (n+2)) (.call 65 (.aC (.ix (.var 12) (.cst (.int 1))) (.aC (.len (.var 13)) .aN)) []) (B61 ns a ts C (some R) bs m a14 a15)=Zc T (n+2) 65 [.tup (Ze R),.int (((bs.map (Zw m)).length:Nat):Int)] from rfl,List.length_map,r2]
   have ll:pe (Zc T (n+2)) (.cmp .NotEq (.len (.ix (.var 12) (.cst (.int 1)))) (.len (.ix (.var 12) (.cst (.int 0))))) (B61 ns a ts C (some R) bs m a14 a15)=some (.bl (!decide ((((Ze R).length:Nat):Int)=(((Ze C).length:Nat):Int)))):=rfl;rw[ll,List.length_map,List.length_map,w1,decide_eq_true rfl];rfl
  ·exact sg
 |none=>
  rw[Zy (by rfl)]
  have B:∀ c:Nat,(tl m c).length < C.length->bs.all (taB m (tl m c))=false:=fun c hc=>by
   cases q:bs.all (taB m (tl m c)) with
   |false=>rfl
   |true=>
    have h:=(Zfl hb).mp q;have:=(few.min (tl m c) (List.Pairwise.filter _ List.pairwise_lt_range) (fun d hd=>List.mem_range.mp (List.mem_filter.mp hd).1) (hit_ul.mpr h) (by omega)).1
    omega
  obtain⟨π,e,y14,y15,rfl⟩:=XI (B:=fun d π=>px (Zc T (n+2)) [] YR (Zo π 14 d)) (fun i π=>∃ y14 y15,π=B61 ns a ts C none bs m y14 y15) (m:=2 ^ m) (fun i hi π hπ=>by
   obtain⟨y14,y15,rfl⟩:=hπ;refine⟨_,?_,some (.int (i:Int)),some (Zw m i),rfl⟩;have nc:=ZaS (F:=Zc T (n+2)) (c:=i) (ts:=ts) (π:=B61 ns a ts C none bs m (some (.int (i:Int))) y15) hm h10 rfl rfl;have al:=ZhJ (n:=n+1) (m:=m) (C:=tl m i) (bs:=bs) (x:=Zw m i) (fun k=>Zd6 k) (by omega)
   show px (Zc T (n+2)) [] YR (B61 ns a ts C none bs m (some (.int (i:Int))) y15)=_;unfold YR;rw[YJ nc];refine(Zy ?_).trans Zu;have l1:pe (Zc T (n+2)) (.cmp .Lt (.len (.var 15)) (.len (.ix (.var 12) (.cst (.int 0))))) (B61 ns a ts C none bs m (some (.int (i:Int))) (some (Zw m i)))=some (.bl (decide ((((Ze (tl m i)).length:Nat):Int) < (((Ze C).length:Nat):Int)))):=rfl;show pe (Zc T (n+2)) _ (B61 ns a ts C none bs m (some (.int (i:Int))) (some (Zw m i)))=_
   rw[pe_and,l1,List.length_map,List.length_map];by_cases hc:(tl m i).length < C.length
   ·rw[decide_eq_true (show(((tl m i).length:Nat):Int) < ((C.length:Nat):Int) by omega),show pe (Zc T (n+2)) (.call 199 (.aC (.var 15) (.aC (.var 13) .aN)) []) (B61 ns a ts C none bs m (some (.int (i:Int))) (some (Zw m i)))=Zc T (n+2) 199 [Zw m i,.lst true (bs.map (Zw m))] from rfl,al,B i hc]
    rfl
   ·rw[decide_eq_false (show ¬(((tl m i).length:Nat):Int) < ((C.length:Nat):Int) by omega)]
    rfl) (π:=B61 ns a ts C none bs m a14 a15) ⟨a14,a15,rfl⟩
  have pw:2 ^ m<=1024:=Nat.pow_le_pow_right (by decide) h10
  have sh:pe (Zc T (n+2)) (.bin .LShift (.cst (.int 1)) (.len (.var 9))) (B61 ns a ts C none bs m a14 a15)=some (.int ((2 ^ m:Nat):Int)):=by
   show YG .LShift (.int 1) (.int ((ts.length:Nat):Int))=_;rw[hm];show(match (if 0<=(m:Int)/\(m:Int)<=1000/\Z1 1=true then some ((1:Int) * 2 ^ (m:Int).toNat) else Option.none) with
    |some k=>some (P.int k)
    |Option.none=>Option.none)=_
   rw[if_pos ⟨by omega,by omega,by decide⟩,Int.toNat_natCast,Int.one_mul]
   simp
  rw[Zi,Wn (n:=2 ^ m) sh (by omega) rfl,e,Zg]
  exact ZQ rfl
theorem Ze4{ns:Li Int}{k sz mn:Nat}{rows:Li Row}{a1 a2 a7 a8 a9 a10 a11 a12 a13 a14 a15:Ot P}(hk:k<=12)(h0:1<=mn)(h100:mn<=100)(hr:rows.length<=12)(h27:∀ k:Nat,k<=1000->∃ c,Zc T (n+3) 27 [.lst false (ns.map .int),.int (k:Int)]=some (.int c)) :
  ∃ r,ROk mn sz r/\px (Zc T (n+3)) [5,9,9] Xd (E61 ns a1 a2 (some (.int (mn:Int))) (some (.int (sz:Int))) (some (.lst true (rows.map Zf))) (some (.int (k:Int))) a7 a8 a9 a10 a11 a12 a13 a14 a15)=some (.nx (E61 ns a1 a2 (some (.int (mn:Int))) (some (.int (sz:Int))) (some (.lst true ((rows++[r]).map Zf))) (some (.int (k:Int))) a7 a8 a9 a10 a11 a12 a13 a14 a15)):=by
 obtain⟨c0,c1,c2,e⟩:=Zf0 (F:=Zc T (n+3)) (ns:=ns) (k:=k) (π:=E61 ns a1 a2 (some (.int (mn:Int))) (some (.int (sz:Int))) (some (.lst true (rows.map Zf))) (some (.int (k:Int))) a7 a8 a9 a10 a11 a12 a13 a14 a15) hk h27 rfl rfl;obtain⟨r,hok,er⟩:=Zkg (n:=n) (m:=mn) (c0:=c0) (c1:=c1) (c2:=c2) (b:=true) (size:=sz) h0 h100;refine⟨r,hok,?_⟩;unfold Xd;refine(Zbi (xs:=rows.map Zf) (p:=Zf r) rfl ?_ ?_ (by rw[List.length_map];omega)).trans ?_
 ·rw[pe_call,YU,e]
  show(Zc T (n+3)) 29 [.lst true [.int c0,.int c1,.int c2],.int (mn:Int),.int (sz:Int)]=_;exact er
 ·show(true&&(_||noL (Zf r)))=true
  rw[ZhU,Bool.or_true];rfl
 ·rw[Zu,List.map_append]
  rfl
theorem ZdN{π:Zr}{i:Nat}(h:pe F (.var 10) π=some (.int (i:Int))):pe F (.bin .Add (.cst (.int 12)) (.bin .Mult (.cst (.int 2)) (.var 10))) π=some (.int ((12+2 * i:Nat):Int)):=by
 rw[ZM,ZM,Z0,ZK,Ob,h,Z0,ZK,Ob,Ob,ZbE l2,Ob,XD,show((12+2 * i:Nat):Int)=12+2 * (i:Int) by omega]
theorem Zaa{f c:P->Ot P}(hc:∀ x,c x=some (.bl true)):∀ (xs:Li P),(∀ x∈xs,∃ v:Int,Sm v/\f x=some (.int v))->∃ vs:Li Int,vs.length=xs.length/\(∀ v∈vs,Sm v)/\Ye f c xs=some (vs.map .int)
 |[],_=>⟨[],rfl,(fun _ z=>nomatch z),rfl⟩
 |x :: xs,h=>by
  obtain⟨v,sv,e⟩:=h x Ls;obtain⟨vs,l,s,e2⟩:=Zaa hc xs fun y hy=>h y (Lm _ hy)
  refine⟨v :: vs,by simp[l],fun q hq=>?_,?_⟩
  ·rcases List.mem_cons.mp hq with rfl|z
   ·exact sv
   ·exact s q z
  ·unfold Ye
   rw[hc,e];simp only;rw[e2];rfl
theorem ZhB{ns:Li Int}{i tk:Nat}{ts:Li (Li Int)}{a1 a3 a4 a5 a6 a7 a8 a11 a12 a13 a14 a15:Ot P}(hi:i<=10)(htk:tk<=2)(ht:ts.length<=10)(h27:∀ k:Nat,k<=1000->∃ c,F 27 [.lst false (ns.map .int),.int (k:Int)]=some (.int c))(h185:∀ c,∃ v,Sm v/\F 185 [.int c]=some (.int v)) :
  ∃ v,(v.length=tk/\∀ a∈v,Sm a)/\px F [9,9] Xc (E61 ns a1 (some (.int (tk:Int))) a3 a4 a5 a6 a7 a8 (some (.lst true (ts.map Zx))) (some (.int (i:Int))) a11 a12 a13 a14 a15)=some (.nx (E61 ns a1 (some (.int (tk:Int))) a3 a4 a5 a6 a7 a8 (some (.lst true ((ts++[v]).map Zx))) (some (.int (i:Int))) (some (.int ((12+2 * i:Nat):Int))) a12 a13 a14 a15)):=by
 obtain⟨v,l,sv,e⟩:=Zaa (f:=fun q=>pe F (.call 185 (.aC (.call 27 (.aC (.var 1) (.aC (.bin .Add (.var 2) (.var 0)) .aN)) []) .aN) []) (ZS (E61 ns a1 (some (.int (tk:Int))) a3 a4 a5 a6 a7 a8 (some (.lst true (ts.map Zx))) (some (.int (i:Int))) (some (.int ((12+2 * i:Nat):Int))) a12 a13 a14 a15) [0,11] q)) (c:=fun q=>pe F (.cst (.bl true)) (ZS (E61 ns a1 (some (.int (tk:Int))) a3 a4 a5 a6 a7 a8 (some (.lst true (ts.map Zx))) (some (.int (i:Int))) (some (.int ((12+2 * i:Nat):Int))) a12 a13 a14 a15) [0,11] q)) (fun _=>rfl) (Ze (List.range tk)) (fun x hx=>by
  obtain⟨j,hj,rfl⟩:=List.mem_map.mp hx;have hj:=List.mem_range.mp hj;obtain⟨c,ec⟩:=h27 (12+2 * i+j) (by omega)
  obtain⟨w,hw,ew⟩:=h185 c;refine⟨w,hw,?_⟩;show pe F _ [some (.int (j:Int)),some (.lst false (ns.map .int)),some (.int ((12+2 * i:Nat):Int))]=_;have e2:pe F (.call 27 (.aC (.var 1) (.aC (.bin .Add (.var 2) (.var 0)) .aN)) []) [some (.int (j:Int)),some (.lst false (ns.map .int)),some (.int ((12+2 * i:Nat):Int))]=some (.int c):=by
   show F 27 [.lst false (ns.map .int),.int (((12+2 * i:Nat):Int)+(j:Int))]=_;rw[<-Int.natCast_add];exact ec
  rw[pe_call,YU,e2];exact ew)
 refine⟨v,⟨by rw[l,List.length_map,List.length_range],sv⟩,?_⟩
 unfold Xc;rw[Zi,ZL (ZdN rfl) rfl (by rfl),Zg]
 refine(Zbi (xs:=ts.map Zx) (p:=Zx v) rfl ?_ ?_ (by rw[List.length_map];omega)).trans ?_
 ·unfold Vs
  rw[ZaV,YC];show(((some (P.int (tk:Int))).bind fun x=>_).bind We)=_
  rw[Ob,WJ (by omega),Ob,if_pos (by simp;omega)]
  exact congrArg (fun z=>(Option.bind z fun ys=>some (P.lst true ys)).bind We) e
 ·show(true&&(_||Xw (v.map P.int)))=true
  rw[Um,Bool.or_true];rfl
 ·rw[Zu,List.map_append]
  rfl
theorem Zja{ts:Li (Li Int)}{v:Li Int}{i:Nat}(h:Vb m ts)(hv:v∈ts):Vb m (ts.set i v):=by
 refine⟨by rw[List.length_set];exact h.1,fun q hq=>?_⟩
 rcases List.mem_or_eq_of_mem_set hq with z|z
 ·exact h.2 q z
 ·rw[z];exact h.2 v hv
def Zel:CS:=(.seq (.set 12 (.call 111 (.aC (.call 184 (.aC (.var 7) (.aC (.tOf (.var 9)) (.aC (.var 8) .aN))) []) (.aC (.len (.var 9)) .aN)) []))
 (.seq (.set 13 (.call 198 (.aC (.var 7) (.aC (.var 9) (.aC (.var 8) .aN))) []))
 Za8))
theorem ZiU{ns:Li Int}{a1 a2 a3 a4 a5 a6 a10 a11 a12 a13 a14 a15:Ot P}{p:Prog}{ts:Li (Li Int)}{l:Nat}(hp:PG p)(ht:Vb p.many ts)(hl:l<=900) :
  W5 (Zc T (n+14)) Zel [] (E61 ns a1 a2 a3 a4 a5 a6 (some (ZA p)) (some (.int (l:Int))) (some (.lst true (ts.map Zx))) a10 a11 a12 a13 a14 a15)=some (.rt (.bl true)):=by
 have hb:=ZfS (p:=p) (ts:=ts) (l:=l);have bl:=Zdj (ts:=ts) (l:=l) hp.size;have b1:=Zia (n:=n+4) hp ht hl;have t1:=Zce (n:=n+9) hp ht hl;have few:=ZdI (ZcD hb);have cl:(Vh (ulV (bnL p ts l)) ts.length).length<=ts.length:=by
  have:=List.Nodup.length_le_of_subset (few.up.imp fun h=>Nat.ne_of_lt h) (l₂:=List.range ts.length) fun c hc=>List.mem_range.mpr (few.lt c hc)
  rwa [List.length_range]at this
 have s1:=ZfG (n:=n) (m:=ts.length) (bs:=bnL p ts l) (by omega) ht.1 (by have:=ht.1;omega)
 have sw:∀ R,Zao (bnL p ts l) (Vh (ulV (bnL p ts l)) ts.length).length=some R->R.length=(Vh (ulV (bnL p ts l)) ts.length).length/\R.Pairwise (· < ·)/\(∀ c∈R,c < (bnL p ts l).length/\(bnL p ts l).getD c 0≠0)/\UN (fun i=>(bnL p ts l).getD i 0) R:=fun R h=>ZcY h
 generalize hbs:bnL p ts l=bs at hb b1 t1 few s1 sw cl bl;generalize Vh (ulV bs) ts.length=C at few s1 sw cl;generalize Zao bs C.length=w at s1 sw;have e12:pe (Zc T (n+14)) (.call 111 (.aC (.call 184 (.aC (.var 7) (.aC (.tOf (.var 9)) (.aC (.var 8) .aN))) []) (.aC (.len (.var 9)) .aN)) []) (E61 ns a1 a2 a3 a4 a5 a6 (some (ZA p)) (some (.int (l:Int))) (some (.lst true (ts.map Zx))) a10 a11 a12 a13 a14 a15)=some (.tup [.tup (Ze C),Ym w]):=by
  have e1:pe (Zc T (n+14)) (.call 184 (.aC (.var 7) (.aC (.tOf (.var 9)) (.aC (.var 8) .aN))) []) (E61 ns a1 a2 a3 a4 a5 a6 (some (ZA p)) (some (.int (l:Int))) (some (.lst true (ts.map Zx))) a10 a11 a12 a13 a14 a15)=some (.tup (Ze bs)):=b1;rw[pe_call,YU,e1];show Zc T (n+14) 111 [.tup (Ze bs),.int (((ts.map Zx).length:Nat):Int)]=_;rw[List.length_map];exact s1
 rw[Jd];unfold Zel;rw[YJ e12];have e13:pe (Zc T (n+14)) (.call 198 (.aC (.var 7) (.aC (.var 9) (.aC (.var 8) .aN))) []) (E61 ns a1 a2 a3 a4 a5 a6 (some (ZA p)) (some (.int (l:Int))) (some (.lst true (ts.map Zx))) a10 a11 (some (.tup [.tup (Ze C),Ym w])) a13 a14 a15)=some (.lst true (bs.map (Zw ts.length))):=t1;refine(YJ (by exact e13)).trans ?_
 have f:=ZkE (n:=n+12) (ns:=ns) (a:=fun i=>[none,a1,a2,a3,a4,a5,a6,some (ZA p),some (.int (l:Int)),none,a10,a11].getD i none) (a14:=a14) (a15:=a15) (m:=ts.length) (ts:=ts.map Zx) (bs:=bs) (C:=C) (w:=w) (List.length_map ..) ht.1 hb few sw
 rw[Jd]at f;exact f
abbrev N61:Ot P:=none
theorem ZiT{c:Int}:∃ tk mn:Nat,(c % 3=(tk:Int)/\tk<=2)/\(1<=mn/\mn<=6/\tk<=mn)/\∀ π:Zr,π[1]?=some (some (.int c))->π[2]?=some (some (.int (tk:Int)))->pe F (.bin .Add (.max (.cst (.int 1)) (.var 2)) (.bin .Mod (.bin .FloorDiv (.var 1) (.cst (.int 3))) (.bin .Sub (.cst (.int 6)) (.max (.cst (.int 1)) (.var 2))))) π=some (.int (mn:Int)):=by
 have key:∀ (tk q mn:Nat) (a:Int),(∀ π:Zr,π[2]?=some (some (.int (tk:Int)))->pe F (.max (.cst (.int 1)) (.var 2)) π=some (.int (q:Int)))->q<=2->(q:Int)+c / 3 % (6 - (q:Int))=(mn:Int)->∀ π:Zr,π[1]?=some (some (.int c))->π[2]?=some (some (.int (tk:Int)))->pe F (.bin .Add (.max (.cst (.int 1)) (.var 2)) (.bin .Mod (.bin .FloorDiv (.var 1) (.cst (.int 3))) (.bin .Sub (.cst (.int 6)) (.max (.cst (.int 1)) (.var 2))))) π=some (.int (mn:Int)):=fun tk q mn a hq h2 hm π h1 ht=>by
  rw[ZM,hq π ht,Ob,ZM,ZM,pe_var,h1,Option.join_some,Ob,Z0,ZK,Ob,show YG .FloorDiv (.int c) (.int 3)=some (.int (c / 3)) from rfl,Ob,ZM,hq π ht,Z0,ZK,Ob,Ob,WO,Ob,Zbj,if_pos (by omega),Ob,XD,hm]
 have mx:∀ (tk q:Nat),(if (tk:Int) > 1 then (tk:Int) else 1)=(q:Int)->∀ π:Zr,π[2]?=some (some (.int (tk:Int)))->pe F (.max (.cst (.int 1)) (.var 2)) π=some (.int (q:Int)):=fun tk q h π ht=>by
  rw[Zi6,Z0,ZK,Ob,pe_var,ht,Option.join_some,Ob];show some (P.int (if (tk:Int) > 1 then (tk:Int) else 1))=_
  rw[h]
 rcases (show c % 3=0\/c % 3=1\/c % 3=2 by omega) with e|e|e
 ·exact⟨0,(1+c / 3 % 5).toNat,⟨e,by omega⟩,⟨by omega,by omega,by omega⟩,key 0 1 _ 0 (mx 0 1 rfl) (by omega) (by omega)⟩
 ·exact⟨1,(1+c / 3 % 5).toNat,⟨e,by omega⟩,⟨by omega,by omega,by omega⟩,key 1 1 _ 0 (mx 1 1 rfl) (by omega) (by omega)⟩
 ·exact⟨2,(2+c / 3 % 4).toNat,⟨e,by omega⟩,⟨by omega,by omega,by omega⟩,key 2 2 _ 0 (mx 2 2 rfl) (by omega) (by omega)⟩
abbrev A61(ns:Li Int)(c0:Int)(tk mn sz:Nat)(rows:Li Row)(y6:Ot P)(l:Nat)(ts:Li (Li Int))(y10 y11:Ot P):Zr:=E61 ns (some (.int c0)) (some (.int (tk:Int))) (some (.int (mn:Int))) (some (.int (sz:Int))) (some (.lst true (rows.map Zf))) y6 (some (ZA ⟨tkP tk,mn,rows⟩)) (some (.int (l:Int))) (some (.lst true (ts.map Zx))) y10 y11 none none none none
theorem Zef{ns:Li Int}(hn:ns.length<=63):W5 (Zc T (n+14)) c_law_k61.body [5,9,9] (E61 ns none none none none none none none none none none none none none none none)=some (.rt (.bl true)):=by
 have h27:∀ k:Nat,k<=1000->∃ c,Zc T (n+14) 27 [.lst false (ns.map .int),.int (k:Int)]=some (.int c):=fun k hk=>Zic (n:=n+13) hn hk
 have h185:∀ c,∃ v,Sm v/\Zc T (n+14) 185 [.int c]=some (.int v):=fun c=>ZhK (n:=n+13)
 obtain⟨c0,e0⟩:=h27 0 (by omega)
 obtain⟨c1,e1⟩:=h27 1 (by omega)
 obtain⟨c2,e2⟩:=h27 2 (by omega)
 replace e0:Zc T (n+14) 27 [.lst false (ns.map .int),.int 0]=some (.int c0):=e0;replace e1:Zc T (n+14) 27 [.lst false (ns.map .int),.int 1]=some (.int c1):=e1;replace e2:Zc T (n+14) 27 [.lst false (ns.map .int),.int 2]=some (.int c2):=e2;obtain⟨tk,mn,⟨etk,htk⟩,⟨hm1,hm6,htm⟩,em⟩:=ZiT (F:=Zc T (n+14)) (c:=c0);obtain⟨sz,esz,hsz⟩:∃ sz:Nat,c1 % 4=(sz:Int)/\sz<=3:=⟨(c1 % 4).toNat,by omega,by omega⟩
 obtain⟨l,el,hl⟩:∃ l:Nat,c2 % 9=(l:Int)/\l<=8:=⟨(c2 % 9).toNat,by omega,by omega⟩
 obtain⟨ct,ect,hct⟩:∃ ct:Nat,c2 / 9 % 6=(ct:Int)/\ct<=5:=⟨(c2 / 9 % 6).toNat,by omega,by omega⟩
 unfold c_law_k61;refine(YY (M:=[5,9,9]) (ZL (p:=.int c0) (by simp[e0]) rfl (by rfl))).trans ?_
 refine(YY (M:=[5,9,9]) (ZL (p:=.int (tk:Int)) (by simp[Zo,etk]) rfl (by rfl))).trans ?_
 refine(YY (M:=[5,9,9]) (ZL (p:=.int (mn:Int)) (em _ rfl rfl) rfl (by rfl))).trans ?_
 refine(YY (M:=[5,9,9]) (ZL (p:=.int (sz:Int)) (by simp[Zo,e1,esz]) rfl (by rfl))).trans ?_
 refine(YY (M:=[5,9,9]) (XJ (p:=.lst true []) (by rfl) rfl (by rfl))).trans ?_
 obtain⟨π,e,rows,y6,hr,hok,rfl⟩:=XI (B:=fun d π=>px (Zc T (n+14)) [5,9,9] Xd (Zo π 6 d)) (fun i π=>∃ (rows:Li Row) (y6:Ot P),rows.length=i/\(∀ r∈rows,ROk mn sz r)/\π=E61 ns (some (.int c0)) (some (.int (tk:Int))) (some (.int (mn:Int))) (some (.int (sz:Int))) (some (.lst true (rows.map Zf))) y6 none none none none none none none none none) (m:=sz) (fun i hi π hπ=>by
  obtain⟨rows,y6,hr,hok,rfl⟩:=hπ;obtain⟨r,hok',e⟩:=Ze4 (n:=n+11) (ns:=ns) (k:=i) (sz:=sz) (mn:=mn) (rows:=rows) (a1:=some (.int c0)) (a2:=some (.int (tk:Int))) (a7:=none) (a8:=none) (a9:=none) (a10:=none) (a11:=none) (a12:=none) (a13:=none) (a14:=none) (a15:=none) (by omega) hm1 (by omega) (by omega) h27
  refine⟨_,e,rows++[r],some (.int (i:Int)),by simp[hr],fun q hq=>?_,rfl⟩
  rcases List.mem_append.mp hq with z|z
  ·exact hok q z
  ·rw[List.mem_singleton.mp z];exact hok') (π:=E61 ns (some (.int c0)) (some (.int (tk:Int))) (some (.int (mn:Int))) (some (.int (sz:Int))) (some (.lst true [])) none none none none none none none none none none) ⟨[],none,rfl,(fun _ z=>nomatch z),rfl⟩
 refine(YY (M:=[5,9,9]) ((Wn (n:=sz) (by rfl) (by omega) rfl).trans e)).trans ?_
 have gp:PG ⟨tkP tk,mn,rows⟩:=⟨fun r h=>by show ROk mn rows.length r;rw[hr];exact hok r h,by show mn<=100;omega,by show rows.length<=12;omega⟩
 have e7:pe (Zc T (n+14)) (.tupE (.aC (.bin .Mult (.tupE (.aC (.tupE (.aC (.neg (.cst (.int 3))) (.aC (.cst (.int 4)) .aN))) .aN)) (.var 2)) (.aC (.var 3) (.aC (.tOf (.var 5)) .aN)))) (E61 ns (some (.int c0)) (some (.int (tk:Int))) (some (.int (mn:Int))) (some (.int (sz:Int))) (some (.lst true (rows.map Zf))) y6 none none none none none none none none none)=some (ZA ⟨tkP tk,mn,rows⟩):=by
  rcases (show tk=0\/tk=1\/tk=2 by omega) with z|z|z<;>subst z<;>rfl
 refine(YY (M:=[9,9]) (ZL e7 rfl (by rfl))).trans ?_
 refine(YY (M:=[9,9]) (ZL (p:=.int (l:Int)) (by simp[Zo,e2,el]) rfl (by rfl))).trans ?_
 refine(YY (M:=[9,9]) (XJ (p:=.lst true []) (by rfl) rfl (by rfl))).trans ?_
 obtain⟨π,e,ts,y10,y11,hts,htv,rfl⟩:=XI (B:=fun d π=>px (Zc T (n+14)) [9,9] Xc (Zo π 10 d)) (fun i π=>∃ (ts:Li (Li Int)) (y10 y11:Ot P),ts.length=i/\(∀ v∈ts,v.length<=mn/\∀ a∈v,Sm a)/\π=A61 ns c0 tk mn sz rows y6 l ts y10 y11) (m:=ct) (fun i hi π hπ=>by
  obtain⟨ts,y10,y11,hts,htv,rfl⟩:=hπ;obtain⟨v,⟨lv,sv⟩,e⟩:=ZhB (F:=Zc T (n+14)) (ns:=ns) (i:=i) (tk:=tk) (ts:=ts) (a1:=some (.int c0)) (a3:=some (.int (mn:Int))) (a4:=some (.int (sz:Int))) (a5:=some (.lst true (rows.map Zf))) (a6:=y6) (a7:=some (ZA ⟨tkP tk,mn,rows⟩)) (a8:=some (.int (l:Int))) (a11:=y11) (a12:=none) (a13:=none) (a14:=none) (a15:=none) (by omega) htk (by omega) h27 h185
  refine⟨_,e,ts++[v],some (.int (i:Int)),some (.int ((12+2 * i:Nat):Int)),by simp[hts],fun q hq=>?_,rfl⟩
  rcases List.mem_append.mp hq with z|z
  ·exact htv q z
  ·rw[List.mem_singleton.mp z];exact⟨by omega,sv⟩) (π:=E61 ns (some (.int c0)) (some (.int (tk:Int))) (some (.int (mn:Int))) (some (.int (sz:Int))) (some (.lst true (rows.map Zf))) y6 (some (ZA ⟨tkP tk,mn,rows⟩)) (some (.int (l:Int))) (some (.lst true [])) none none none none none none) ⟨[],none,none,rfl,(fun _ z=>nomatch z),rfl⟩
 refine(YY (M:=[9,9]) ((Wn (n:=ct) (by simp[Zo,e2,ect]) (by omega) rfl).trans e)).trans ?_
 have tok:Vb mn ts:=⟨by omega,htv⟩
 have fin:∀ ts:Li (Li Int),Vb mn ts->W5 (Zc T (n+14)) Zel [] (A61 ns c0 tk mn sz rows y6 l ts y10 y11)=some (.rt (.bl true)):=fun ts tok=>ZiU (n:=n) (p:=⟨tkP tk,mn,rows⟩) gp tok (by omega)
 by_cases hq:1 < ts.length/\c1 / 4 % 4=1
 ·obtain⟨q1,q2⟩:=hq
  have h0:0 < ts.length:=by omega
  have at0:atP (ts.map Zx) 0=some (Zx ts[0]):=by
   rw[show(0:Int)=((0:Nat):Int) from rfl,YW rfl,List.getElem?_map,Lg h0];rfl
  refine(YY (M:=[9,9]) (π':=A61 ns c0 tk mn sz rows y6 l (ts.set (ts.length - 1) ts[0]) y10 y11) ?_).trans (fin _ (Zja tok (List.getElem_mem h0)));rw[YN,show pe (Zc T (n+14)) _ (A61 ns c0 tk mn sz rows y6 l ts y10 y11)=some (.bl true) by simp[A61,E61,e1,q2,show(1:Int) < (ts.length:Int) by omega],Yb,if_pos rfl]
  rw[Zi,ZeW (xs:=ts.map Zx) (q:=ts.length - 1) (j:=((ts.length - 1:Nat):Int)) rfl (by simp[E61];omega) (by unfold ixN;rw[if_pos (by omega),if_pos (by rw[List.length_map];omega),Int.toNat_natCast]),show pe (Zc T (n+14)) (.ix (.var 9) (.cst (.int 0))) (A61 ns c0 tk mn sz rows y6 l ts y10 y11)=some (Zx ts[0]) from at0,Ob,if_pos (by
   show(true&&(noM [9,9] _||Xw (ts[0].map P.int)))=true;rw[Um,Bool.or_true];rfl),Zg,Zu,<-List.map_set]
  rfl
 ·refine(YY (M:=[9,9]) (π':=A61 ns c0 tk mn sz rows y6 l ts y10 y11) ?_).trans (fin _ tok)
  rw[YN,show pe (Zc T (n+14)) _ (A61 ns c0 tk mn sz rows y6 l ts y10 y11)=some (.bl false) by
   by_cases q1:1 < ts.length
   ·have q2:¬c1 / 4 % 4=1:=fun z=>hq ⟨q1,z⟩
    simp[A61,E61,e1,q2,show(1:Int) < (ts.length:Int) by omega]
   ·simp[A61,E61,show ¬((1:Int) < (ts.length:Int)) by omega],Yb,if_neg Bf,Zu]
end
theorem ZcK{n:Nat}{ns:Li Int}(hn:ns.length<=63):Zc T (n+15) 16 [.lst false (ns.map .int)]=some (.bl true):=by
 rw[ZeS (f:=c_law_k61) rfl rfl rfl rfl];exact congrArg Yn (Zef (n:=n) hn)
end Dp


namespace PySem.W.Fast
def tw2281464575279966190:=0
def tw14792540159219060681:=0
def tw1135022181391851459:=0
def tw18075806009706146000:=0
def tw11913397136702889599:=0
def tw1901434941074823901:=0
def tw12561347478598147965:=0
def tw13352301619760168932:=0
def tw4965126736147672869:=0
def tw12851961425463497779:=0
def tw3070301218412792013:=0
def tw11269293661019563195:=0
def tw2751174303983853564:=0
def tw4936089304642195064:=0
def tw6915598144230976501:=0
def tw263733434580879810:=0
def tw2029982134370084000:=0
def tw3147783771727372187:=0
def tw5623702344955895072:=0
def tw16046284713296166487:=0
def tw3671760731458027744:=0
def tw4874907124255007208:=0
def tw2601329207844058126:=0
def tw4186270923565164552:=0
def tw16051867300621777980:=0
def tw937072532544434723:=0
def tw9802891581592602424:=0
def tw14689595560278145091:=0
def tw17939263841281119159:=0
def tw2626330137374288261:=0
def tw16584744121592493321:=0
def tw7390120355629763957:=0
def tw8651747481432525222:=0
def tw17316911583891290939:=0
def tw3969251859686100177:=0
def tw13305559738787727609:=0
def tw14936919481584932167:=0
def tw515941213639923318:=0
def tw11007423113880430134:=0
def tw4960864152852516736:=0
def tw4269259587935684183:=0
def tw10545039070950684910:=0
def tw2089965345469274348:=0
def tw13150788105607146496:=0
def tw6843249471598713719:=0
def tw13548082788654139871:=0
def tw15352949924683918735:=0
def tw10409123449459538965:=0
def tw13796934623873273469:=0
def tw15029017650658190052:=0
def tw3008506511348909740:=0
def tw17449034057256672513:=0
def tw5628652651103889258:=0
def tw361756637571367148:=0
def tw8355387488454138461:=0
def tw17854868589022251413:=0
def tw14935612379001338970:=0
def tw209277198277408293:=0
def tw4619061202276503584:=0
def tw317737857525122629:=0
def tw209972187903122590:=0
def tw11733240774551720861:=0
def tw16513908819887237435:=0
def tw13742449122034044479:=0
def tw7896108956430459307:=0
def tw9640356596015914653:=0
def tw10244015062980698507:=0
def tw3462949930109112287:=0
def tw15287805185874246853:=0
def tw514281930876003149:=0
def tw1338821587275882942:=0
def tw7345444810225630957:=0
def tw3124811158735357674:=0
def tw6888190729943217997:=0
def tw14222738957384702319:=0
def tw10095167845086048672:=0
def tw14220872024204705132:=0
def tw4087731074555964043:=0
def tw6434991828434423880:=0
def tw16161515986560388739:=0
def tw449751599422354319:=0
def tw379315624705497259:=0
def tw11316766685922133481:=0
def tw8923712156761034665:=0
def tw11956724627559367620:=0
def tw10642620981733559449:=0
def tw2465607567188633079:=0
def tw13312293349927982553:=0
def tw15374762191474043636:=0
def tw18095893486058191308:=0
def tw4906792583897340684:=0
def tw917576844351159653:=0
def tw10502684342831196270:=0
def tw2483913005808354943:=0
def tw5092186496285216499:=0
def tw9110094788991409860:=0
def tw13037311518855180080:=0
def tw3855997713383494230:=0
def tw15696058491321104692:=0
def tw10264912372491195053:=0
def tw833569985048744840:=0
def tw4290562527698399146:=0
def tw18049177633125115538:=0
def tw2180667956428126870:=0
def tw3455854887268910882:=0
def tw8419894513832188232:=0
def tw11153175889403741532:=0
def tw325435835383940417:=0
def tw6873143798697796228:=0
def tw11574041760747063301:=0
def tw2203664760585816044:=0
def tw531109135862806083:=0
def tw48984885986961739:=0
def tw10666007065498420667:=0
def tw7725212934807787885:=0
def tw13815455914067238798:=0
def tw841755773535077007:=0
def tw178676862436562472:=0
def tw12393730440414647983:=0
def tw5242455603103758474:=0
def tw6545407191369396099:=0
def tw13370854126862380801:=0
def tw9460070042055510814:=0
def tw10219115732832448021:=0
def tw15242511500043832829:=0
def tw11124666546967853195:=0
def tw15585192801029636489:=0
def tw17479677157783339034:=0
def tw2758196406296880252:=0
def tw16242406358903571142:=0
def tw17506908579583818276:=0
def tw2451911454883687980:=0
def tw4106616429975252576:=0
def tw16204737462205623817:=0
def tw12875312290278928332:=0
def tw8543795424308727302:=0
def tw12979485277965739592:=0
def tw9013731761780947940:=0
def tw8900904627784268058:=0
def tw5586566794577192014:=0
def tw2635254807726780314:=0
def tw268970302634882307:=0
def tw1092796209897958429:=0
def tw17633909732394963640:=0
def tw12015418332797768103:=0
def tw6426477332091268391:=0
def tw6527979649914373369:=0
def tw4588317618098389111:=0
def tw18241260883717941192:=0
def tw18272089137090110230:=0
def tw10962429553787571121:=0
def tw9731155401853019394:=0
def tw9496522356822388357:=0
def tw11303917241795160683:=0
def tw15916560129836353928:=0
def tw17950497179178705972:=0
def tw13627000873753738644:=0
def tw11205921942770776822:=0
def tw2923250758114911618:=0
def tw14933165452826076297:=0
def tw4282345854459873549:=0
def tw3291766995490218588:=0
def tw413144630664093465:=0
def tw4376259086153180113:=0
def tw10780448333106020702:=0
def tw9261114759446068031:=0
def tw12611619494990738726:=0
def tw12830618916436114766:=0
def tw1931156373473292053:=0
def tw15558775511618402749:=0
def tw7582510344992201666:=0
def tw1257633249443535521:=0
def tw9727628280840083197:=0
def tw6035914244242755309:=0
def tw802178061049833377:=0
def tw8025116953120828222:=0
def tw6786257482399815901:=0
def tw13785038486637800961:=0
def tw8658387480632714801:=0
def tw16254865036536858874:=0
def tw4212166952377222956:=0
end PySem.W.Fast
namespace Dp
open PySem L2
noncomputable def top(i:Nat):Stmt:=PySem.Challenge.pw_fakehunt_k61_whole_fewest_of_a_program.main.body.getD i (.Pass ⟨0,0,0,0⟩)
noncomputable def G:Gs:=[(S "Step",GV.cls 146 [(S "word",147,1),(S "turned",148,3)] [146,169,149,157,152,160,163]),(S "Sign",GV.cls 169 [(S "word",170,1),(S "turned",171,3)] [169]),(S "More",GV.cls 149 [(S "word",150,1),(S "turned",151,3)] [149]),(S "Turn",GV.cls 157 [(S "word",158,1),(S "turned",159,3)] [157]),(S "Out",GV.cls 152 [(S "word",153,1),(S "turned",154,3)] [152]),(S "Swap",GV.cls 160 [(S "word",161,1),(S "turned",162,3)] [160]),(S "Far",GV.cls 163 [(S "word",164,1),(S "turned",165,3)] [163]),(S "OPERAND_PLACES",GV.dct [(S "put"),(S "if"),(S "tell"),(S "go"),(S "skip")] [(.tup [(.int 2),(.int 4)]),(.tup [(.int 1),(.int 3)]),(.tup [(.int 1)]),(.tup []),(.tup [])]),(S "replaced",GV.fn 42 3 []),(S "operand_places",GV.fn 113 1 []),(S "bit_of",GV.fn 43 1 []),(S "first_choice",GV.fn 62 4 []),(S "unlike_fakes",GV.fn 63 1 []),(S "fewest",GV.fn 64 2 []),(S "first_row",GV.fn 66 3 []),(S "strangers",GV.fn 67 2 []),(S "shown_fewest",GV.fn 111 2 []),(S "HALF",GV.cst (.int 1000000000)),(S "RING",GV.cst (.int 2000000000)),(S "PUT_SIGNS",GV.cst (.kt [(S "+"),(S "-"),(S "*"),(S "/"),(S "mod")])),(S "IF_SIGNS",GV.cst (.kt [(S "<"),(S "<="),(S "="),(S ">="),(S ">"),(S "!=")])),(S "around",GV.fn 0 1 []),(S "divided",GV.fn 1 2 []),(S "left_over",GV.fn 2 2 []),(S "reckon",GV.fn 3 3 []),(S "is_so",GV.fn 4 3 []),(S "CONTRARIES",GV.dct [(S "<"),(S ">="),(S "<="),(S ">"),(S "="),(S "!=")] [(.str (S ">=")),(.str (S "<")),(.str (S ">")),(.str (S "<=")),(.str (S "!=")),(.str (S "="))]),(S "behind",GV.fn 70 2 []),(S "fakes",GV.fn 172 1 []),(S "fake_of",GV.fn 180 3 []),(S "worth",GV.fn 5 2 []),(S "began",GV.fn 6 2 []),(S "at_end",GV.fn 7 2 []),(S "values_behind",GV.fn 8 2 []),(S "place_behind",GV.fn 9 3 []),(S "moved",GV.fn 10 2 []),(S "is_outcome",GV.fn 11 1 []),(S "trail",GV.fn 12 3 [(.int 100)]),(S "outcome",GV.fn 13 3 [(.int 100)]),(S "MOST_TRIALS",GV.cst (.int 10)),(S "check_trials",GV.fn 181 1 []),(S "outcomes",GV.fn 182 3 []),(S "bits_unlike",GV.fn 183 2 []),(S "bits_of",GV.fn 184 3 [(.int 100)]),(S "_law_whole",GV.fn 17 1 []),(S "_law_cell_at",GV.fn 27 2 []),(S "_law_number",GV.fn 185 1 []),(S "_law_operand",GV.fn 28 2 []),(S "_law_row",GV.fn 29 3 []),(S "_law_round",GV.fn 89 1 []),(S "_law_sum",GV.fn 187 3 []),(S "_law_so",GV.fn 33 3 []),(S "_law_worth",GV.fn 34 2 []),(S "_law_outcome",GV.fn 188 4 []),(S "_law_telling",GV.fn 198 3 []),(S "_law_rising",GV.fn 65 2 []),(S "_law_tell_all",GV.fn 199 2 []),(S "_law_strange",GV.fn 200 2 []),(S "law",GV.fn 16 1 []),(S "len",GV.blt),(S "range",GV.blt),(S "tuple",GV.blt),(S "list",GV.blt),(S "int",GV.blt),(S "bool",GV.blt),(S "str",GV.blt),(S "min",GV.blt),(S "max",GV.blt),(S "isinstance",GV.blt),(S "all",GV.blt),(S "any",GV.blt),(S "zip",GV.blt),(S "sorted",GV.blt),(S "enumerate",GV.blt)]
noncomputable def YI(i k:Nat):Stmt:=match top i with
 |.ClassDef _ _ _ b _ _ _ _ _ _ _=>b.getD k (.Pass ⟨0,0,0,0⟩)
 |s=>s
abbrev Cmp(i:Nat)(N ps:Li Str)(c:CS):Prop:=XA G (top i) N ps c
local macro_rules
 |`(tactic| trivial)=>`(tactic| exact⟨⟨rfl,rfl,rfl,by decide +kernel,rfl,by decide +kernel,by decide +kernel⟩,by unfold L2.Loc;decide +kernel,by kernel_rfl⟩)
theorem q_2:Cmp 2 [S "things",S "i",S "thing"] [S "things",S "i",S "thing"] c_replaced.body:=by trivial
theorem q_3:Cmp 3 [S "row"] [S "row"] c_operand_places.body:=by trivial
theorem q_4:Cmp 4 [S "i",S "bit",S "times"] [S "i"] c_bit_of.body:=by trivial
theorem q_6:Cmp 6 [S "bits",S "first",S "many",S "size",S "i",S "bit",S "rest"] [S "bits",S "first",S "many",S "size"] c_first_choice.body:=by trivial
theorem q_7:Cmp 7 [S "bits"] [S "bits"] c_unlike_fakes.body:=by trivial
theorem q_8:Cmp 8 [S "bits",S "many",S "unlike",S "size",S "choice"] [S "bits",S "many"] c_fewest.body:=by trivial
theorem q_9:Cmp 9 [S "bits",S "numbers",S "size",S "place",S "number",S "others",S "rest"] [S "bits",S "numbers",S "size"] c_first_row.body:=by trivial
theorem Zl5:Cmp 10 [S "bits",S "size"] [S "bits",S "size"] c_strangers.body:=by trivial
theorem Zl6:Cmp 11 [S "bits",S "many",S "choice"] [S "bits",S "many"] c_shown_fewest.body:=by trivial
theorem Zl7:Cmp 20 [S "number"] [S "number"] c_around.body:=by trivial
theorem Zl8:Cmp 21 [S "one",S "other"] [S "one",S "other"] c_divided.body:=by trivial
theorem Zl9:Cmp 22 [S "one",S "other"] [S "one",S "other"] c_left_over.body:=by trivial
theorem Zma:Cmp 23 [S "one",S "sign",S "other"] [S "one",S "sign",S "other"] c_reckon.body:=by trivial
theorem Zmb:Cmp 24 [S "one",S "sign",S "other"] [S "one",S "sign",S "other"] c_is_so.body:=by trivial
theorem Zmc:Cmp 27 [S "ring",S "sign"] [S "ring",S "sign"] c_behind.body:=by trivial
theorem Zmd:Cmp 36 [S "program",S "rows",S "steps",S "told",S "k",S "row",S "step"] [S "program"] c_fakes.body:=by trivial
theorem Zme:Cmp 37 [S "program",S "k",S "row"] [S "program",S "k",S "row"] c_fake_of.body:=by trivial
theorem Zmf:Cmp 39 [S "operand",S "values"] [S "operand",S "values"] c_worth.body:=by trivial
theorem Zmg:Cmp 40 [S "program",S "inputs"] [S "program",S "inputs"] c_began.body:=by trivial
theorem Zmh:Cmp 41 [S "program",S "state"] [S "program",S "state"] c_at_end.body:=by trivial
theorem Zmi:Cmp 42 [S "row",S "values",S "number"] [S "row",S "values"] c_values_behind.body:=by trivial
theorem Zmj:Cmp 43 [S "row",S "k",S "values"] [S "row",S "k",S "values"] c_place_behind.body:=by trivial
theorem Zmk:Cmp 44 [S "program",S "state",S "k",S "values",S "row"] [S "program",S "state"] c_moved.body:=by trivial
theorem Zml:Cmp 45 [S "thing"] [S "thing"] c_is_outcome.body:=by trivial
theorem Zmm:Cmp 46 [S "program",S "inputs",S "limit",S "state",S "things",S "done",S "thing"] [S "program",S "inputs",S "limit"] c_trail.body:=by trivial
theorem Zmn:Cmp 47 [S "program",S "inputs",S "limit"] [S "program",S "inputs",S "limit"] c_outcome.body:=by trivial
theorem Zmo:Cmp 50 [S "trials"] [S "trials"] c_check_trials.body:=by trivial
theorem Zmp:Cmp 51 [S "program",S "trials",S "limit"] [S "program",S "trials",S "limit"] c_outcomes.body:=by trivial
theorem Zmq:Cmp 52 [S "things",S "beside",S "bits",S "bit",S "thing",S "along"] [S "things",S "beside"] c_bits_unlike.body:=by trivial
theorem Zmr:Cmp 53 [S "program",S "trials",S "limit",S "own",S "told",S "k",S "word",S "row"] [S "program",S "trials",S "limit"] c_bits_of.body:=by trivial
theorem Zms:Cmp 55 [S "_law_found"] [S "_law_found"] c__law_whole.body:=by trivial
theorem Zmt:Cmp 56 [S "_law_script",S "_law_k"] [S "_law_script",S "_law_k"] c__law_cell_at_k61.body:=by trivial
theorem Zmu:Cmp 57 [S "_law_cell"] [S "_law_cell"] c__law_number_k61.body:=by trivial
theorem Zmv:Cmp 58 [S "_law_cell",S "_law_many"] [S "_law_cell",S "_law_many"] c__law_operand_k61.body:=by trivial
theorem Zmw:Cmp 59 [S "_law_cells",S "_law_many",S "_law_size",S "_law_more",S "_law_one",S "_law_other"] [S "_law_cells",S "_law_many",S "_law_size"] c__law_row_k61.body:=by trivial
theorem Zmx:Cmp 60 [S "_law_number_here"] [S "_law_number_here"] c__law_round.body:=by trivial
theorem Zmy:Cmp 61 [S "_law_one",S "_law_sign",S "_law_other"] [S "_law_one",S "_law_sign",S "_law_other"] c__law_sum.body:=by trivial
theorem Zmz:Cmp 62 [S "_law_one",S "_law_sign",S "_law_other"] [S "_law_one",S "_law_sign",S "_law_other"] c__law_so_k55.body:=by trivial
theorem ZmA:Cmp 63 [S "_law_operand_here",S "_law_values"] [S "_law_operand_here",S "_law_values"] c__law_worth.body:=by trivial
theorem ZmB:Cmp 64 [S "_law_rows",S "_law_many",S "_law_inputs",S "_law_limit",S "_law_values",S "_law_at",S "_law_turn",S "_law_row_here",S "_law_one"] [S "_law_rows",S "_law_many",S "_law_inputs",S "_law_limit"] c__law_outcome.body:=by trivial
theorem ZmC:Cmp 65 [S "_law_program",S "_law_trials",S "_law_limit",S "_law_takes",S "_law_many",S "_law_rows",S "_law_due",S "_law_found",S "_law_k",S "_law_word",S "_law_row_here",S "_law_turned",S "_law_some"] [S "_law_program",S "_law_trials",S "_law_limit"] c__law_telling.body:=by trivial
theorem ZmD:Cmp 66 [S "_law_found",S "_law_many",S "_law_last",S "_law_i"] [S "_law_found",S "_law_many"] c__law_rising.body:=by trivial
theorem ZmE:Cmp 67 [S "_law_numbers",S "_law_telling_here",S "_law_some"] [S "_law_numbers",S "_law_telling_here"] c__law_tell_all.body:=by trivial
theorem ZmF:Cmp 68 [S "_law_row_here",S "_law_telling_here",S "_law_used",S "_law_k"] [S "_law_row_here",S "_law_telling_here"] c__law_strange.body:=by trivial
theorem Zk3:Cmp 69 [S "_law_script",S "_law_head",S "_law_taken",S "_law_many",S "_law_size",S "_law_rows",S "_law_k",S "_law_program",S "_law_limit",S "_law_trials",S "_law_i",S "_law_start",S "_law_found",S "_law_telling_here",S "_law_choice",S "_law_numbers"] [S "_law_script"] c_law_k61.body:=by trivial
theorem Zjd:XA G (YI 28 0) [S "self"] [S "self"] c_Step_word.body:=by trivial
theorem Zje:XA G (YI 28 1) [S "self",S "row",S "many"] [S "self",S "row",S "many"] c_Step_turned.body:=by trivial
theorem Zjf:XA G (YI 29 0) [S "self"] [S "self"] c_Sign_word.body:=by trivial
theorem Zjg:XA G (YI 29 1) [S "self",S "row",S "many"] [S "self",S "row",S "many"] c_Sign_turned.body:=by trivial
theorem Zjh:XA G (YI 30 0) [S "self"] [S "self"] c_More_word.body:=by trivial
theorem Zji:XA G (YI 30 1) [S "self",S "row",S "many",S "rows",S "i"] [S "self",S "row",S "many"] c_More_turned.body:=by trivial
theorem Zjj:XA G (YI 31 0) [S "self"] [S "self"] c_Turn_word.body:=by trivial
theorem Zjk:XA G (YI 31 1) [S "self",S "row",S "many"] [S "self",S "row",S "many"] c_Turn_turned.body:=by trivial
theorem Zjl:XA G (YI 32 0) [S "self"] [S "self"] c_Out_word.body:=by trivial
theorem Zjm:XA G (YI 32 1) [S "self",S "row",S "many"] [S "self",S "row",S "many"] c_Out_turned.body:=by trivial
theorem Zjn:XA G (YI 33 0) [S "self"] [S "self"] c_Swap_word.body:=by trivial
theorem Zjo:XA G (YI 33 1) [S "self",S "row",S "many"] [S "self",S "row",S "many"] c_Swap_turned.body:=by trivial
theorem Zjp:XA G (YI 34 0) [S "self"] [S "self"] c_Far_word.body:=by trivial
theorem Zjq:XA G (YI 34 1) [S "self",S "row",S "many"] [S "self",S "row",S "many"] c_Far_turned.body:=by trivial
@[reducible] noncomputable def tab (l:Li (Nat×Ad)):ClsTab:=⟨fun i=>(l.lookup i).getD 0⟩
section
variable [ct:ClsTab]
theorem Zif{Pm:Params}{K:Fg}{h:Heap}{mg:Str->Ot vL}{fa:Ad}(X:K.In h)(G0:h.Ns mainGlobals mg)(hfa:mg "law"=some (.ref fa)){C0:Ad}{C1:Ad}{C2:Ad}{C3:Ad}{C4:Ad}{C5:Ad}{C6:Ad}{A7:Ad}{ob7:Obj}{ep7:Nat}{t7_0:Tok}{B7_0:Ad}{bo7_0:Obj}{bn7_0:Nat}{u7_0_0:Tok}{u7_0_1:Tok}{t7_1:Tok}{B7_1:Ad}{bo7_1:Obj}{bn7_1:Nat}{u7_1_0:Tok}{u7_1_1:Tok}{t7_2:Tok}{B7_2:Ad}{bo7_2:Obj}{bn7_2:Nat}{u7_2_0:Tok}{t7_3:Tok}{B7_3:Ad}{bo7_3:Obj}{bn7_3:Nat}{t7_4:Tok}{B7_4:Ad}{bo7_4:Obj}{bn7_4:Nat}{t17:Tok}{t18:Tok}{A19:Ad}{ob19:Obj}{on19:Nat}{t19_0:Tok}{t19_1:Tok}{t19_2:Tok}{t19_3:Tok}{t19_4:Tok}{A20:Ad}{ob20:Obj}{on20:Nat}{t20_0:Tok}{t20_1:Tok}{t20_2:Tok}{t20_3:Tok}{t20_4:Tok}{t20_5:Tok}{A26:Ad}{ob26:Obj}{ep26:Nat}{t26_0:Tok}{u26_0:Tok}{t26_1:Tok}{u26_1:Tok}{t26_2:Tok}{u26_2:Tok}{t26_3:Tok}{u26_3:Tok}{t26_4:Tok}{u26_4:Tok}{t26_5:Tok}{u26_5:Tok}{t39:Tok}
(yz0:ClsTab.ca 146=C0) (yz1:ClsTab.ca 169=C1) (yz2:ClsTab.ca 149=C2) (yz3:ClsTab.ca 157=C3) (yz4:ClsTab.ca 152=C4) (yz5:ClsTab.ca 160=C5) (yz6:ClsTab.ca 163=C6)
  (y0:ClsAt K "Step" C0) (ym0_0:PySem.W.kitOne K (.ref C0) (.ref C0)=some true) (ym0_1:PySem.W.kitOne K (.ref C1) (.ref C0)=some true) (ym0_2:PySem.W.kitOne K (.ref C2) (.ref C0)=some true) (ym0_3:PySem.W.kitOne K (.ref C3) (.ref C0)=some true) (ym0_4:PySem.W.kitOne K (.ref C4) (.ref C0)=some true) (ym0_5:PySem.W.kitOne K (.ref C5) (.ref C0)=some true) (ym0_6:PySem.W.kitOne K (.ref C6) (.ref C0)=some true) (w0_147:MtAt K C0 "word" "Step.word" (YI 28 0)) (w0_148:MtAt K C0 "turned" "Step.turned" (YI 28 1))
  (y1:ClsAt K "Sign" C1) (ym1_1:PySem.W.kitOne K (.ref C1) (.ref C1)=some true) (w1_170:MtAt K C1 "word" "Sign.word" (YI 29 0)) (w1_171:MtAt K C1 "turned" "Sign.turned" (YI 29 1))
  (y2:ClsAt K "More" C2) (ym2_2:PySem.W.kitOne K (.ref C2) (.ref C2)=some true) (w2_150:MtAt K C2 "word" "More.word" (YI 30 0)) (w2_151:MtAt K C2 "turned" "More.turned" (YI 30 1))
  (y3:ClsAt K "Turn" C3) (ym3_3:PySem.W.kitOne K (.ref C3) (.ref C3)=some true) (w3_158:MtAt K C3 "word" "Turn.word" (YI 31 0)) (w3_159:MtAt K C3 "turned" "Turn.turned" (YI 31 1))
  (y4:ClsAt K "Out" C4) (ym4_4:PySem.W.kitOne K (.ref C4) (.ref C4)=some true) (w4_153:MtAt K C4 "word" "Out.word" (YI 32 0)) (w4_154:MtAt K C4 "turned" "Out.turned" (YI 32 1))
  (y5:ClsAt K "Swap" C5) (ym5_5:PySem.W.kitOne K (.ref C5) (.ref C5)=some true) (w5_161:MtAt K C5 "word" "Swap.word" (YI 33 0)) (w5_162:MtAt K C5 "turned" "Swap.turned" (YI 33 1))
  (y6:ClsAt K "Far" C6) (ym6_6:PySem.W.kitOne K (.ref C6) (.ref C6)=some true) (w6_164:MtAt K C6 "word" "Far.word" (YI 34 0)) (w6_165:MtAt K C6 "turned" "Far.turned" (YI 34 1))
  (g7:PySem.W.nsIn K mainGlobals "OPERAND_PLACES"=some (some (.ref A7))) (d7:K.lookup A7=some ob7) (f7c:ob7.cls=.type "dict") (f7d:ob7.dict=none) (f7s:ob7.slots=#[]) (e7:ob7.data=.dict #[⟨PyData.keyHash Pm "put",.str "put" t7_0,.ref B7_0⟩,⟨PyData.keyHash Pm "if",.str "if" t7_1,.ref B7_1⟩,⟨PyData.keyHash Pm "tell",.str "tell" t7_2,.ref B7_2⟩,⟨PyData.keyHash Pm "go",.str "go" t7_3,.ref B7_3⟩,⟨PyData.keyHash Pm "skip",.str "skip" t7_4,.ref B7_4⟩] ep7) (s7:(A7==sysModules)=false)
  (h7_0:K.lookup B7_0=some bo7_0) (i7_0:bo7_0.cls=.type "tuple") (j7_0:bo7_0.data=.seq #[.int (2) u7_0_0,.int (4) u7_0_1] bn7_0)
  (h7_1:K.lookup B7_1=some bo7_1) (i7_1:bo7_1.cls=.type "tuple") (j7_1:bo7_1.data=.seq #[.int (1) u7_1_0,.int (3) u7_1_1] bn7_1)
  (h7_2:K.lookup B7_2=some bo7_2) (i7_2:bo7_2.cls=.type "tuple") (j7_2:bo7_2.data=.seq #[.int (1) u7_2_0] bn7_2)
  (h7_3:K.lookup B7_3=some bo7_3) (i7_3:bo7_3.cls=.type "tuple") (j7_3:bo7_3.data=.seq #[] bn7_3)
  (h7_4:K.lookup B7_4=some bo7_4) (i7_4:bo7_4.cls=.type "tuple") (j7_4:bo7_4.data=.seq #[] bn7_4)
  (a8:FnAt K "replaced" (top 2))
  (a9:FnAt K "operand_places" (top 3))
  (a10:FnAt K "bit_of" (top 4))
  (a11:FnAt K "first_choice" (top 6))
  (a12:FnAt K "unlike_fakes" (top 7))
  (a13:FnAt K "fewest" (top 8))
  (a14:FnAt K "first_row" (top 9))
  (a15:FnAt K "strangers" (top 10))
  (a16:FnAt K "shown_fewest" (top 11))
  (g17:PySem.W.nsIn K mainGlobals "HALF"=some (some (.int (1000000000) t17)))
  (g18:PySem.W.nsIn K mainGlobals "RING"=some (some (.int (2000000000) t18)))
  (g19:PySem.W.nsIn K mainGlobals "PUT_SIGNS"=some (some (.ref A19))) (d19:K.lookup A19=some ob19) (f19c:ob19.cls=.type "tuple") (f19d:ob19.dict=none) (e19:ob19.data=.seq #[.str "+" t19_0,.str "-" t19_1,.str "*" t19_2,.str "/" t19_3,.str "mod" t19_4] on19)
  (g20:PySem.W.nsIn K mainGlobals "IF_SIGNS"=some (some (.ref A20))) (d20:K.lookup A20=some ob20) (f20c:ob20.cls=.type "tuple") (f20d:ob20.dict=none) (e20:ob20.data=.seq #[.str "<" t20_0,.str "<=" t20_1,.str "=" t20_2,.str ">=" t20_3,.str ">" t20_4,.str "!=" t20_5] on20)
  (a21:FnAt K "around" (top 20))
  (a22:FnAt K "divided" (top 21))
  (a23:FnAt K "left_over" (top 22))
  (a24:FnAt K "reckon" (top 23))
  (a25:FnAt K "is_so" (top 24))
  (g26:PySem.W.nsIn K mainGlobals "CONTRARIES"=some (some (.ref A26))) (d26:K.lookup A26=some ob26) (f26c:ob26.cls=.type "dict") (f26d:ob26.dict=none) (f26s:ob26.slots=#[]) (e26:ob26.data=.dict #[⟨PyData.keyHash Pm "<",.str "<" t26_0,.str ">=" u26_0⟩,⟨PyData.keyHash Pm ">=",.str ">=" t26_1,.str "<" u26_1⟩,⟨PyData.keyHash Pm "<=",.str "<=" t26_2,.str ">" u26_2⟩,⟨PyData.keyHash Pm ">",.str ">" t26_3,.str "<=" u26_3⟩,⟨PyData.keyHash Pm "=",.str "=" t26_4,.str "!=" u26_4⟩,⟨PyData.keyHash Pm "!=",.str "!=" t26_5,.str "=" u26_5⟩] ep26) (s26:(A26==sysModules)=false)
  (a27:FnAt K "behind" (top 27))
  (a28:FnAt K "fakes" (top 36))
  (a29:FnAt K "fake_of" (top 37))
  (a30:FnAt K "worth" (top 39))
  (a31:FnAt K "began" (top 40))
  (a32:FnAt K "at_end" (top 41))
  (a33:FnAt K "values_behind" (top 42))
  (a34:FnAt K "place_behind" (top 43))
  (a35:FnAt K "moved" (top 44))
  (a36:FnAt K "is_outcome" (top 45))
  (a37:FnAtE K "trail" (top 46) 100)
  (a38:FnAtE K "outcome" (top 47) 100)
  (g39:PySem.W.nsIn K mainGlobals "MOST_TRIALS"=some (some (.int (10) t39)))
  (a40:FnAt K "check_trials" (top 50))
  (a41:FnAt K "outcomes" (top 51))
  (a42:FnAt K "bits_unlike" (top 52))
  (a43:FnAtE K "bits_of" (top 53) 100)
  (a44:FnAt K "_law_whole" (top 55))
  (a45:FnAt K "_law_cell_at" (top 56))
  (a46:FnAt K "_law_number" (top 57))
  (a47:FnAt K "_law_operand" (top 58))
  (a48:FnAt K "_law_row" (top 59))
  (a49:FnAt K "_law_round" (top 60))
  (a50:FnAt K "_law_sum" (top 61))
  (a51:FnAt K "_law_so" (top 62))
  (a52:FnAt K "_law_worth" (top 63))
  (a53:FnAt K "_law_outcome" (top 64))
  (a54:FnAt K "_law_telling" (top 65))
  (a55:FnAt K "_law_rising" (top 66))
  (a56:FnAt K "_law_tell_all" (top 67))
  (a57:FnAt K "_law_strange" (top 68))
  (a58:FnAt K "law" (top 69))
  (z59:PySem.W.nsIn K mainGlobals "len"=some none)
  (z60:PySem.W.nsIn K mainGlobals "range"=some none)
  (z61:PySem.W.nsIn K mainGlobals "tuple"=some none)
  (z62:PySem.W.nsIn K mainGlobals "list"=some none)
  (z63:PySem.W.nsIn K mainGlobals "int"=some none)
  (z64:PySem.W.nsIn K mainGlobals "bool"=some none)
  (z65:PySem.W.nsIn K mainGlobals "str"=some none)
  (z66:PySem.W.nsIn K mainGlobals "min"=some none)
  (z67:PySem.W.nsIn K mainGlobals "max"=some none)
  (z68:PySem.W.nsIn K mainGlobals "isinstance"=some none)
  (z69:PySem.W.nsIn K mainGlobals "all"=some none)
  (z70:PySem.W.nsIn K mainGlobals "any"=some none)
  (z71:PySem.W.nsIn K mainGlobals "zip"=some none)
  (z72:PySem.W.nsIn K mainGlobals "sorted"=some none)
  (z73:PySem.W.nsIn K mainGlobals "enumerate"=some none) :
  Text Pm K mg G T/\∃ (fd:FuncData) (N:Li Str),(∀ (s:Sd) (u:vL),BindsTo s fd ⟨[u],[]⟩ [(S "_law_script",u)])/\DefOk K mg G T "law" 16 [] fa fd [S "_law_script"] N:=by
 exact⟨Zhx (gC X G0 yz0 y0 (gS yz0 y0 ym0_0 (gS yz1 y1 ym0_1 (gS yz2 y2 ym0_2 (gS yz3 y3 ym0_3 (gS yz4 y4 ym0_4 (gS yz5 y5 ym0_5 (gS yz6 y6 ym0_6 trivial))))))) (gM w0_147 Zjd rfl (gM w0_148 Zje rfl trivial)) (gC X G0 yz1 y1 (gS yz1 y1 ym1_1 trivial) (gM w1_170 Zjf rfl (gM w1_171 Zjg rfl trivial)) (gC X G0 yz2 y2 (gS yz2 y2 ym2_2 trivial) (gM w2_150 Zjh rfl (gM w2_151 Zji rfl trivial)) (gC X G0 yz3 y3 (gS yz3 y3 ym3_3 trivial) (gM w3_158 Zjj rfl (gM w3_159 Zjk rfl trivial)) (gC X G0 yz4 y4 (gS yz4 y4 ym4_4 trivial) (gM w4_153 Zjl rfl (gM w4_154 Zjm rfl trivial)) (gC X G0 yz5 y5 (gS yz5 y5 ym5_5 trivial) (gM w5_161 Zjn rfl (gM w5_162 Zjo rfl trivial)) (gC X G0 yz6 y6 (gS yz6 y6 ym6_6 trivial) (gM w6_164 Zjp rfl (gM w6_165 Zjq rfl trivial)) (⟨⟨A7,ob7,#[⟨PyData.keyHash Pm "put",.str "put" t7_0,.ref B7_0⟩,⟨PyData.keyHash Pm "if",.str "if" t7_1,.ref B7_1⟩,⟨PyData.keyHash Pm "tell",.str "tell" t7_2,.ref B7_2⟩,⟨PyData.keyHash Pm "go",.str "go" t7_3,.ref B7_3⟩,⟨PyData.keyHash Pm "skip",.str "skip" t7_4,.ref B7_4⟩],ep7,PySem.W.mg_of X G0 g7,d7,⟨f7c,f7d,f7s⟩,e7,s7,(by simp),(show EsOk Pm K [⟨PyData.keyHash Pm "put",.str "put" t7_0,.ref B7_0⟩,⟨PyData.keyHash Pm "if",.str "if" t7_1,.ref B7_1⟩,⟨PyData.keyHash Pm "tell",.str "tell" t7_2,.ref B7_2⟩,⟨PyData.keyHash Pm "go",.str "go" t7_3,.ref B7_3⟩,⟨PyData.keyHash Pm "skip",.str "skip" t7_4,.ref B7_4⟩] _ _ from .cons (v:=.ref B7_0) (t:=t7_0) rfl rfl (show RelV (.ref B7_0) (.ref B7_0) from rfl) (fun _ _=>.tup (xs:=[.int (2),.int (4)]) (.inr ⟨bo7_0,#[.int (2) u7_0_0,.int (4) u7_0_1],bn7_0,h7_0,i7_0,j7_0,(show(2:Nat)<=sizeLine by decide),.cons ⟨_,rfl⟩ (.cons ⟨_,rfl⟩ (.nil))⟩) (.cons (.int _) (.cons (.int _) (.nil)))) (.cons (v:=.ref B7_1) (t:=t7_1) rfl rfl (show RelV (.ref B7_1) (.ref B7_1) from rfl) (fun _ _=>.tup (xs:=[.int (1),.int (3)]) (.inr ⟨bo7_1,#[.int (1) u7_1_0,.int (3) u7_1_1],bn7_1,h7_1,i7_1,j7_1,(show(2:Nat)<=sizeLine by decide),.cons ⟨_,rfl⟩ (.cons ⟨_,rfl⟩ (.nil))⟩) (.cons (.int _) (.cons (.int _) (.nil)))) (.cons (v:=.ref B7_2) (t:=t7_2) rfl rfl (show RelV (.ref B7_2) (.ref B7_2) from rfl) (fun _ _=>.tup (xs:=[.int (1)]) (.inr ⟨bo7_2,#[.int (1) u7_2_0],bn7_2,h7_2,i7_2,j7_2,(show(1:Nat)<=sizeLine by decide),.cons ⟨_,rfl⟩ (.nil)⟩) (.cons (.int _) (.nil))) (.cons (v:=.ref B7_3) (t:=t7_3) rfl rfl (show RelV (.ref B7_3) (.ref B7_3) from rfl) (fun _ _=>.tup (xs:=[]) (.inr ⟨bo7_3,#[],bn7_3,h7_3,i7_3,j7_3,(show(0:Nat)<=sizeLine by decide),.nil⟩) (.nil)) (.cons (v:=.ref B7_4) (t:=t7_4) rfl rfl (show RelV (.ref B7_4) (.ref B7_4) from rfl) (fun _ _=>.tup (xs:=[]) (.inr ⟨bo7_4,#[],bn7_4,h7_4,i7_4,j7_4,(show(0:Nat)<=sizeLine by decide),.nil⟩) (.nil)) (.nil))))))⟩,gD X G0 a8 q_2 rfl (gD X G0 a9 q_3 rfl (gD X G0 a10 q_4 rfl (gD X G0 a11 q_6 rfl (gD X G0 a12 q_7 rfl (gD X G0 a13 q_8 rfl (gD X G0 a14 q_9 rfl (gD X G0 a15 Zl5 rfl (gD X G0 a16 Zl6 rfl (gI X G0 g17 (gI X G0 g18 (⟨⟨.ref A19,.ref A19,PySem.W.mg_of X G0 g19,rfl,fun _ _=>.kt (its:=#[.str "+" t19_0,.str "-" t19_1,.str "*" t19_2,.str "/" t19_3,.str "mod" t19_4]) d19 f19c f19d e19 (show(5:Nat)<=sizeLine by decide) (.cons ⟨_,rfl⟩ (.cons ⟨_,rfl⟩ (.cons ⟨_,rfl⟩ (.cons ⟨_,rfl⟩ (.cons ⟨_,rfl⟩ (.nil))))))⟩,⟨⟨.ref A20,.ref A20,PySem.W.mg_of X G0 g20,rfl,fun _ _=>.kt (its:=#[.str "<" t20_0,.str "<=" t20_1,.str "=" t20_2,.str ">=" t20_3,.str ">" t20_4,.str "!=" t20_5]) d20 f20c f20d e20 (show(6:Nat)<=sizeLine by decide) (.cons ⟨_,rfl⟩ (.cons ⟨_,rfl⟩ (.cons ⟨_,rfl⟩ (.cons ⟨_,rfl⟩ (.cons ⟨_,rfl⟩ (.cons ⟨_,rfl⟩ (.nil)))))))⟩,gD X G0 a21 Zl7 rfl (gD X G0 a22 Zl8 rfl (gD X G0 a23 Zl9 rfl (gD X G0 a24 Zma rfl (gD X G0 a25 Zmb rfl (⟨⟨A26,ob26,#[⟨PyData.keyHash Pm "<",.str "<" t26_0,.str ">=" u26_0⟩,⟨PyData.keyHash Pm ">=",.str ">=" t26_1,.str "<" u26_1⟩,⟨PyData.keyHash Pm "<=",.str "<=" t26_2,.str ">" u26_2⟩,⟨PyData.keyHash Pm ">",.str ">" t26_3,.str "<=" u26_3⟩,⟨PyData.keyHash Pm "=",.str "=" t26_4,.str "!=" u26_4⟩,⟨PyData.keyHash Pm "!=",.str "!=" t26_5,.str "=" u26_5⟩],ep26,PySem.W.mg_of X G0 g26,d26,⟨f26c,f26d,f26s⟩,e26,s26,(by simp),(show EsOk Pm K [⟨PyData.keyHash Pm "<",.str "<" t26_0,.str ">=" u26_0⟩,⟨PyData.keyHash Pm ">=",.str ">=" t26_1,.str "<" u26_1⟩,⟨PyData.keyHash Pm "<=",.str "<=" t26_2,.str ">" u26_2⟩,⟨PyData.keyHash Pm ">",.str ">" t26_3,.str "<=" u26_3⟩,⟨PyData.keyHash Pm "=",.str "=" t26_4,.str "!=" u26_4⟩,⟨PyData.keyHash Pm "!=",.str "!=" t26_5,.str "=" u26_5⟩] _ _ from .cons (v:=.str ">=") (t:=t26_0) rfl rfl (show RelV (.str ">=") (.str ">=" u26_0) from⟨_,rfl⟩) (fun _ _=>.str _) (.cons (v:=.str "<") (t:=t26_1) rfl rfl (show RelV (.str "<") (.str "<" u26_1) from⟨_,rfl⟩) (fun _ _=>.str _) (.cons (v:=.str ">") (t:=t26_2) rfl rfl (show RelV (.str ">") (.str ">" u26_2) from⟨_,rfl⟩) (fun _ _=>.str _) (.cons (v:=.str "<=") (t:=t26_3) rfl rfl (show RelV (.str "<=") (.str "<=" u26_3) from⟨_,rfl⟩) (fun _ _=>.str _) (.cons (v:=.str "!=") (t:=t26_4) rfl rfl (show RelV (.str "!=") (.str "!=" u26_4) from⟨_,rfl⟩) (fun _ _=>.str _) (.cons (v:=.str "=") (t:=t26_5) rfl rfl (show RelV (.str "=") (.str "=" u26_5) from⟨_,rfl⟩) (fun _ _=>.str _) (.nil)))))))⟩,gD X G0 a27 Zmc rfl (gD X G0 a28 Zmd rfl (gD X G0 a29 Zme rfl (gD X G0 a30 Zmf rfl (gD X G0 a31 Zmg rfl (gD X G0 a32 Zmh rfl (gD X G0 a33 Zmi rfl (gD X G0 a34 Zmj rfl (gD X G0 a35 Zmk rfl (gD X G0 a36 Zml rfl (gE X G0 a37 Zmm rfl (fun _ _ _ _ _ _ _ _ _ _ d e=>⟨fun s us hK hl=>by obtain⟨_,_,_,rfl⟩:=ZgG (show us.length=3 by simpa using hl);exact PySem.W.binds_K hK rfl d e rfl rfl,fun s us hK hl=>by obtain⟨_,_,rfl⟩:=ZgF (show us.length=2 by simpa using hl);exact PySem.W.binds_K hK rfl d e rfl rfl⟩) (gE X G0 a38 Zmn rfl (fun _ _ _ _ _ _ _ _ _ _ d e=>⟨fun s us hK hl=>by obtain⟨_,_,_,rfl⟩:=ZgG (show us.length=3 by simpa using hl);exact PySem.W.binds_K hK rfl d e rfl rfl,fun s us hK hl=>by obtain⟨_,_,rfl⟩:=ZgF (show us.length=2 by simpa using hl);exact PySem.W.binds_K hK rfl d e rfl rfl⟩) (gI X G0 g39 (gD X G0 a40 Zmo rfl (gD X G0 a41 Zmp rfl (gD X G0 a42 Zmq rfl (gE X G0 a43 Zmr rfl (fun _ _ _ _ _ _ _ _ _ _ d e=>⟨fun s us hK hl=>by obtain⟨_,_,_,rfl⟩:=ZgG (show us.length=3 by simpa using hl);exact PySem.W.binds_K hK rfl d e rfl rfl,fun s us hK hl=>by obtain⟨_,_,rfl⟩:=ZgF (show us.length=2 by simpa using hl);exact PySem.W.binds_K hK rfl d e rfl rfl⟩) (gD X G0 a44 Zms rfl (gD X G0 a45 Zmt rfl (gD X G0 a46 Zmu rfl (gD X G0 a47 Zmv rfl (gD X G0 a48 Zmw rfl (gD X G0 a49 Zmx rfl (gD X G0 a50 Zmy rfl (gD X G0 a51 Zmz rfl (gD X G0 a52 ZmA rfl (gD X G0 a53 ZmB rfl (gD X G0 a54 ZmC rfl (gD X G0 a55 ZmD rfl (gD X G0 a56 ZmE rfl (gD X G0 a57 ZmF rfl (gD X G0 a58 Zk3 rfl (gB X G0 z59 (gB X G0 z60 (gB X G0 z61 (gB X G0 z62 (gB X G0 z63 (gB X G0 z64 (gB X G0 z65 (gB X G0 z66 (gB X G0 z67 (gB X G0 z68 (gB X G0 z69 (gB X G0 z70 (gB X G0 z71 (gB X G0 z72 (gB X G0 z73 (trivial)))))))))))))))))))))))))))))))))))))))))))))))⟩)))))⟩⟩)))))))))))⟩)))))))),gL X G0 hfa a58 Zk3 rfl fun _ _ _ _ _ _ _=>rfl⟩
theorem ZgQ:∀ n,Wz G (run T n):=fun _=>Zf5
end
end Dp
open PySem PySem.W PyProof.Rows
set_option maxRecDepth 100000 in
set_option maxHeartbeats 0 in
theorem PySem.Challenge.cw_fakehunt_k61_whole_fewest_of_a_program_holds : PySem.Challenge.rw_fakehunt_k61_whole_fewest_of_a_program.Holds := by
 w_on;o_law;k_head;(case hw=>w_witness2)
 k_fill
 refine Dp.Zeg (l:=PySem.Challenge.rw_fakehunt_k61_whole_fewest_of_a_program) (G:=Dp.G) (T:=Dp.T) (n:=15) (i:=16) (x := "_law_script") rfl rfl ⟨rfl,by decide,by decide⟩ (fun w h Y=>PySem.W.kIn_of Y) Dp.ZgQ ?F (fun ns hn=>Dp.ZcK hn)
 case F=>
  intro w mg fa h KX G0 hmg;refine' ⟨Dp.tab [(146,?C0),(169,?C1),(149,?C2),(157,?C3),(152,?C4),(160,?C5),(163,?C6)],Dp.Zif (ct:=Dp.tab [(146,?C0),(169,?C1),(149,?C2),(157,?C3),(152,?C4),(160,?C5),(163,?C6)]) (Pm:=w.params) (C0:=?C0) (C1:=?C1) (C2:=?C2) (C3:=?C3) (C4:=?C4) (C5:=?C5) (C6:=?C6) KX G0 hmg ?z0 ?z1 ?z2 ?z3 ?z4 ?z5 ?z6 ⟨?_,?_,?_,?_,?_,?_,?_,?_,?_,?_,?_,?_⟩ ?_ ?_ ?_ ?_ ?_ ?_ ?_ (.mk ?_ ?_ ?_ ?_ ?_) (.mk ?_ ?_ ?_ ?_ ?_) ⟨?_,?_,?_,?_,?_,?_,?_,?_,?_,?_,?_,?_⟩ ?_ (.mk ?_ ?_ ?_ ?_ ?_) (.mk ?_ ?_ ?_ ?_ ?_) ⟨?_,?_,?_,?_,?_,?_,?_,?_,?_,?_,?_,?_⟩ ?_ (.mk ?_ ?_ ?_ ?_ ?_) (.mk ?_ ?_ ?_ ?_ ?_) ⟨?_,?_,?_,?_,?_,?_,?_,?_,?_,?_,?_,?_⟩ ?_ (.mk ?_ ?_ ?_ ?_ ?_) (.mk ?_ ?_ ?_ ?_ ?_) ⟨?_,?_,?_,?_,?_,?_,?_,?_,?_,?_,?_,?_⟩ ?_ (.mk ?_ ?_ ?_ ?_ ?_) (.mk ?_ ?_ ?_ ?_ ?_) ⟨?_,?_,?_,?_,?_,?_,?_,?_,?_,?_,?_,?_⟩ ?_ (.mk ?_ ?_ ?_ ?_ ?_) (.mk ?_ ?_ ?_ ?_ ?_) ⟨?_,?_,?_,?_,?_,?_,?_,?_,?_,?_,?_,?_⟩ ?_ (.mk ?_ ?_ ?_ ?_ ?_) (.mk ?_ ?_ ?_ ?_ ?_) ?_ ?_ ?_ ?_ ?_ ?_ ?_ ?_ ?_ ?_ ?_ ?_ ?_ ?_ ?_ ?_ ?_ ?_ ?_ ?_ ?_ ?_ (.mk ?_ ?_ ?_ ?_) (.mk ?_ ?_ ?_ ?_) (.mk ?_ ?_ ?_ ?_) (.mk ?_ ?_ ?_ ?_) (.mk ?_ ?_ ?_ ?_) (.mk ?_ ?_ ?_ ?_) (.mk ?_ ?_ ?_ ?_) (.mk ?_ ?_ ?_ ?_) (.mk ?_ ?_ ?_ ?_) ?_ ?_ ?_ ?_ ?_ ?_ ?_ ?_ ?_ ?_ ?_ ?_ (.mk ?_ ?_ ?_ ?_) (.mk ?_ ?_ ?_ ?_) (.mk ?_ ?_ ?_ ?_) (.mk ?_ ?_ ?_ ?_) (.mk ?_ ?_ ?_ ?_) ?_ ?_ ?_ ?_ ?_ ?_ ?_ (.mk ?_ ?_ ?_ ?_) (.mk ?_ ?_ ?_ ?_) (.mk ?_ ?_ ?_ ?_) (.mk ?_ ?_ ?_ ?_) (.mk ?_ ?_ ?_ ?_) (.mk ?_ ?_ ?_ ?_) (.mk ?_ ?_ ?_ ?_) (.mk ?_ ?_ ?_ ?_) (.mk ?_ ?_ ?_ ?_) (.mk ?_ ?_ ?_ ?_) (.mk ?_ ?_ ?_ ?_ ?_ ?_) (.mk ?_ ?_ ?_ ?_ ?_ ?_) ?_ (.mk ?_ ?_ ?_ ?_) (.mk ?_ ?_ ?_ ?_) (.mk ?_ ?_ ?_ ?_) (.mk ?_ ?_ ?_ ?_ ?_ ?_) (.mk ?_ ?_ ?_ ?_) (.mk ?_ ?_ ?_ ?_) (.mk ?_ ?_ ?_ ?_) (.mk ?_ ?_ ?_ ?_) (.mk ?_ ?_ ?_ ?_) (.mk ?_ ?_ ?_ ?_) (.mk ?_ ?_ ?_ ?_) (.mk ?_ ?_ ?_ ?_) (.mk ?_ ?_ ?_ ?_) (.mk ?_ ?_ ?_ ?_) (.mk ?_ ?_ ?_ ?_) (.mk ?_ ?_ ?_ ?_) (.mk ?_ ?_ ?_ ?_) (.mk ?_ ?_ ?_ ?_) (.mk ?_ ?_ ?_ ?_) ?_ ?_ ?_ ?_ ?_ ?_ ?_ ?_ ?_ ?_ ?_ ?_ ?_ ?_ ?_⟩
  all_goals (first|k_is|exact rfl|skip)
  all_goals (first|k_is|exact rfl|skip)

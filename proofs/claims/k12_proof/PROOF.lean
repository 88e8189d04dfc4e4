import PyProof.Rows.All
import Wide.All
import OpenK.AllK
import Wide.FinOn
import Lean
import PyProof.EqAt
import PyProof.EqKinds
import PyProof.TupleCall
import PySem.Challenge.RW_fakehunt_k12_whole_shown_and_read
set_option Elab.async false
set_option linter.all false
set_option maxRecDepth 100000
set_option maxHeartbeats 4000000
set_option genSizeOf false
abbrev Li.{u}(α:Type u):Type u:=List α
abbrev Ot.{u}(α:Type u):Type u:=Option α
abbrev vL:=PySem.Value
abbrev Ad:=PySem.Addr
abbrev Sd:=PySem.Shared
theorem Ob{α β:Type}{a:α}{f:α->Ot β}:(some a).bind f=f a:=rfl
abbrev Fg:=PySem.W.Frag
theorem Ba(a b:Bool):((a&&b)=true)=(a=true/\b=true):=Bool.and_eq_true a b
theorem Lg{α:Type _}{l:Li α}{i:Nat}(h:i<l.length):l[i]?=some l[i]:=List.getElem?_eq_getElem h
theorem Lm{α:Type _}(y:α){a:α}{l:Li α}(h:a∈l):a∈y::l:=List.mem_cons_of_mem y h
theorem Ls{α:Type _}{a:α}{l:Li α}:a∈a::l:=List.mem_cons_self
theorem Bf:¬false=true:=Bool.false_ne_true
namespace L2
open PySem PySem.Spec PyProof.Rows

noncomputable abbrev Key:=Sum Int Str
noncomputable def keyIs:Key->vL->Bool
  |.inl k,v=>Value.isInt k v
  |.inr x,v=>Value.isStrOf x v
noncomputable def keyH(w:World):Key->Int
  |.inl k=>hashInt k
  |.inr x=>hashStr w x
theorem keyIs_shape:∀ {k:Key}{v:vL},keyIs k v=true->(∃ i t,k=Sum.inl i/\v=Value.int i t)\/(∃ x t,k=Sum.inr x/\v=Value.str x t)
  |.inl i,v,h=>by
    obtain⟨t,e⟩:=Value.isInt_shape (k:=i) (v:=v) h;exact .inl ⟨i,t,rfl,e⟩
  |.inr x,v,h=>by
    obtain⟨t,e⟩:=Value.isStrOf_shape (x:=x) (v:=v) h;exact .inr ⟨x,t,rfl,e⟩
theorem keyIs_int(i:Int)(t:Tok):keyIs (.inl i) (.int i t)=true:=by simp[keyIs,Value.isInt]
theorem keyIs_str(x:Str)(t:Tok):keyIs (.inr x) (.str x t)=true:=by simp[keyIs,Value.isStrOf]
theorem key_ll(a b:Int):decide ((Sum.inl a:Key)=Sum.inl b)=(a==b):=by
  by_cases e:a=b
  · subst e;simp
  · have h:¬(Sum.inl a:Key)=Sum.inl b:=fun q=>e (Sum.inl.inj q)
    rw[decide_eq_false h];exact(beq_eq_false_iff_ne.mpr e).symm
theorem key_rr(a b:Str):decide ((Sum.inr a:Key)=Sum.inr b)=decide (a=b):=by
  by_cases e:a=b
  · subst e;simp
  · have h:¬(Sum.inr a:Key)=Sum.inr b:=fun q=>e (Sum.inr.inj q)
    rw[decide_eq_false h,decide_eq_false e]
theorem key_lr(a:Int)(b:Str):decide ((Sum.inl a:Key)=Sum.inr b)=false:=decide_eq_false (fun q=>nomatch q)
theorem key_rl(a:Str)(b:Int):decide ((Sum.inr a:Key)=Sum.inl b)=false:=decide_eq_false (fun q=>nomatch q)

noncomputable def mixKind(prog:Program)(w:World):PySem.KeyKind prog w Key where
  is:=keyIs
  hash:=keyH w
  inj:=fun v a b ha hb=>by
    rcases keyIs_shape ha with⟨i,t,rfl,rfl⟩|⟨x,t,rfl,rfl⟩
    · rcases keyIs_shape hb with⟨j,u,rfl,e⟩|⟨y,u,rfl,e⟩
      · injection e with e1 _;rw[e1]
      · exact nomatch e
    · rcases keyIs_shape hb with⟨j,u,rfl,e⟩|⟨y,u,rfl,e⟩
      · exact nomatch e
      · injection e with e1 _;rw[e1]
  byValue:=fun k v h=>by
    rcases keyIs_shape h with⟨i,t,rfl,rfl⟩|⟨x,t,rfl,rfl⟩<;>rfl
  pyHash:=fun hv h=>by
    rcases keyIs_shape hv with⟨i,t,rfl,rfl⟩|⟨x,t,rfl,rfl⟩
    · exact wpAny_pyHash_int h
    · exact wpAny_pyHash_str h
  eqBool:=fun hu hv h=>by
    rcases keyIs_shape hu with⟨i,t,rfl,rfl⟩|⟨x,t,rfl,rfl⟩
    · rcases keyIs_shape hv with⟨j,u,rfl,rfl⟩|⟨y,u,rfl,rfl⟩
      · rw[key_ll]at h;exact wpAny_eqBool_int h
      · rw[key_lr]at h;exact SeqAt.EqAt.int_str i t y u _ _ _ _ h
    · rcases keyIs_shape hv with⟨j,u,rfl,rfl⟩|⟨y,u,rfl,rfl⟩
      · rw[key_rl]at h;exact SeqAt.EqAt.str_int x t j u _ _ _ _ h
      · rw[key_rr]at h;exact wpAny_eqBool_str h
  «strs»:=fun k x t v h=>by
    rcases keyIs_shape h with⟨i,u,rfl,e⟩|⟨y,u,rfl,e⟩
    · exact nomatch e
    · injection e with e1 _
      subst e1;cases v<;>rfl

theorem mixKind_int(prog:Program)(w:World)(i:Int)(t:Tok):(mixKind prog w).is (.inl i) (.int i t)=true:=keyIs_int i t
theorem mixKind_str(prog:Program)(w:World)(x:Str)(t:Tok):(mixKind prog w).is (.inr x) (.str x t)=true:=keyIs_str x t
end L2

namespace L2
open PySem PySem.Spec PyProof.Rows

inductive V where
  |non|bl (b:Bool)|int (i:Int)|str (x:Str)|byt (b:Array UInt8)|flt (b:UInt64)|ref (a:Addr)|ty (n:String)
  deriving DecidableEq

def RelV:V->vL->Prop
  |.non,u=>u=Value.none
  |.bl b,u=>u=Value.bool b
  |.int i,u=>∃ t,u=Value.int i t
  |.str x,u=>∃ t,u=Value.str x t
  |.byt b,u=>∃ t,u=Value.bytes b t
  |.flt b,u=>∃ t,u=Value.float b t
  |.ref a,u=>u=Value.ref a
  |.ty n,u=>u=Value.type n

abbrev Vals:Li V->Li vL->Prop:=Paired RelV
theorem Vals.length{xs:Li V}{us:Li vL}(r:Vals xs us):xs.length=us.length:=Paired.length r
theorem Vals.get:∀ {xs:Li V}{us:Li vL}{i:Nat}{x:V},Vals xs us->xs[i]?=some x->∃ u,us[i]?=some u/\RelV x u
  |_,_,_,_,.nil,e=>by simp at e
  |_,_,0,_,.cons r _,e=>by simp at e;subst e;exact⟨_,rfl,r⟩
  |_,_,i+1,x,.cons _ t,e=>by
    obtain⟨u,h1,h2⟩:=Vals.get (i:=i) (x:=x) t (by simpa using e)
    exact⟨u,by simpa using h1,h2⟩
theorem Vals.append:∀ {xs ys:Li V}{us ws:Li vL},Vals xs us->Vals ys ws->Vals (xs++ys) (us++ws)
  |_,_,_,_,.nil,s=>s
  |_,_,_,_,.cons r t,s=>.cons r (Vals.append t s)
theorem Vals.take:∀ {xs:Li V}{us:Li vL} (n:Nat),Vals xs us->Vals (xs.take n) (us.take n)
  |_,_,0,_=>.nil
  |_,_,_+1,.nil=>.nil
  |_,_,n+1,.cons r t=>.cons r (Vals.take n t)
theorem Vals.drop:∀ {xs:Li V}{us:Li vL} (n:Nat),Vals xs us->Vals (xs.drop n) (us.drop n)
  |_,_,0,r=>r
  |_,_,_+1,.nil=>.nil
  |_,_,n+1,.cons _ t=>Vals.drop n t

def RelO:Ot V->Ot vL->Prop
  |some v,some u=>RelV v u
  |none,none=>True
  |_,_=>False
def KV{κ:Type}:Li (κ×V)->Li (κ×vL)->Prop:=Paired fun(p:κ×V) (q:κ×vL)=>p.1=q.1/\RelV p.2 q.2

noncomputable def kV:Key->V
  |.inl i=>.int i
  |.inr x=>.str x

inductive HO where
    |lst (xs:List V)
    |tup (xs:List V)
    |dK (kvs:List (Key×V))|dT (kvs:List (List Key×V))
    |set (S:Int->Bool) (n:Nat)
    |ins (C dx:Addr) (fs:List (Str×V))
    |own (x:Addr)
    |xd (fs:List (Str×V))
    |met (f x:Addr)
    |rng (lo hi:Int)
    |frz (o:Obj) (u:HO)
    |tbl (ps:Array Value)
    |ext (φ:Heap->Prop)

noncomputable abbrev Hp:=Ad->Ot HO
noncomputable def upd(H:Hp)(a:Ad)(o:HO):Hp:=fun b=>if b=a then some o else H b
theorem upd_same{H:Hp}{a:Ad}{o:HO}:upd H a o a=some o:=by unfold upd;rw[if_pos rfl]
theorem upd_ne{H:Hp}{a b:Ad}{o:HO}(h:b≠a):upd H a o b=H b:=by unfold upd;rw[if_neg h]
theorem ne_of{H:Hp}{a b:Ad}{o u:HO}(h:H a=some o)(h':H b=some u)(d:o≠u):a≠b:=by
  intro e;subst e;rw[h]at h';exact d (Option.some.inj h')
theorem ne_of_none{H:Hp}{a b:Ad}{o:HO}(h:H a=some o)(h':H b=none):a≠b:=by
  intro e;subst e;rw[h]at h';cases h'

section
variable (P:Program) (w:World)
def ObjOk(H:Hp)(h:Heap)(a:Ad):HO->Prop
  |.lst xs=>xs.length<=sizeLine/\∃ (its:Li vL) (n:Nat),Vals xs its/\h.get? a=some { cls:=.type "list",data:=.seq its.toArray n }
  |.tup xs=>xs.length<=sizeLine/\∃ its:Li vL,Vals xs its/\IsTup h a its.toArray
  |.dK kvs=>kvs.length<=sizeLine/\(a==sysModules)=false/\∃ vs,KV kvs vs/\h.DictOf (mixKind P w) a vs
  |.dT kvs=>kvs.length<=sizeLine/\(a==sysModules)=false/\∃ xs:Li (Li Key×Ad×vL),
      Paired (fun(p:Li Key×V) (q:Li Key×Ad×vL)=>p.1=q.1/\H q.2.1=some (.tup (p.1.map kV))/\RelV p.2 q.2.2) kvs xs /\
      ∃ o es ep,h.get? a=some o/\o.ExactDict/\o.data=.dict es ep/\es.toList=xs.map (entryOfKey (tupleKind (mixKind P w)))/\(xs.map (·.1)).Nodup
  |.set S n=>h.SetOf (intKind P w) a S n
  |.ins C dx fs=>H dx=some (.own a)/\fs.length<=1000/\dx≠a/\h.get? a=some (PySem.W.instObj C dx) /\
      ∃ mA,h.Ns1 dx mA/\(∀ f,RelO (fs.lookup f) (mA f))/\PySem.Within mA (fs.map (·.1))
  |.own _=>∃ o,h.get? a=some o
  |.xd fs=>∃ mA,h.Ns1 a mA/\∀ f,RelO (fs.lookup f) (mA f)
  |.rng lo hi=>∃ t u v,h.get? a=some { cls:=.type "range",data:=.fields #[.int lo t,.int hi u,.int 1 v] }
  |.frz o u=>h.get? a=some o/\ObjOk H h a u
  |.tbl ps=>h.get? a=some { cls:=.none,data:=.fields ps }
  |.met f x=>h.get? a=some (PySem.W.methodObj (.ref f) (.ref x))
  |.ext φ=>φ h/\(∃ o,h.get? a=some o)/\∀ h1 h2:Heap,φ h1->(∀ o,h1.get? a=some o->h2.get? a=some o)->φ h2
def HOk(H:Hp)(h:Heap):Prop:=∀ a o,H a=some o->ObjOk P w H h a o
end

section
variable {P:Program}{w:World}{H H':Hp}{h h':Heap}{a:Ad}{o:HO}
theorem ObjOk.lt(x:ObjOk P w H h a o):a < h.objs.size:=by
  cases o with
  |lst xs=>obtain⟨_,_,_,_,e⟩:=x;exact Heap.lt_size e
  |tup xs=>obtain⟨_,_,_,p⟩:=x;exact p.lt
  |dK kvs=>obtain⟨_,_,_,_,o,_,_,e,_⟩:=x;exact Heap.lt_size e
  |dT kvs=>obtain⟨_,_,_,_,o,_,_,e,_⟩:=x;exact Heap.lt_size e
  |set S n=>obtain⟨o,_,_,_,e,_⟩:=x;exact Heap.lt_size e
  |ins C dx fs=>obtain⟨_,_,_,e,_⟩:=x;exact Heap.lt_size e
  |own y=>obtain⟨_,e⟩:=x;exact Heap.lt_size e
  |xd fs=>obtain⟨_,⟨_,_,_,e,_⟩,_⟩:=x;exact Heap.lt_size e
  |rng lo hi=>obtain⟨_,_,_,e⟩:=x;exact Heap.lt_size e
  |frz ob u=>obtain⟨e,_⟩:=x;exact Heap.lt_size e
  |tbl ps=>exact Heap.lt_size (show h.get? a=some _ from x)
  |met f y=>exact Heap.lt_size (show h.get? a=some _ from x)
  |ext φ=>obtain⟨_,⟨_,e⟩,_⟩:=x;exact Heap.lt_size e
theorem Paired.mapP{α β:Type}{F G:α->β->Prop}:∀ {l₁:Li α}{l₂:Li β},Paired F l₁ l₂->(∀ a b,F a b->G a b)->Paired G l₁ l₂
  |_,_,.nil,_=>.nil
  |_,_,.cons r t,f=>.cons (f _ _ r) (Paired.mapP t f)
theorem ObjOk.stay(x:ObjOk P w H h a o)(k:∀ b u,(b=a\/H b=some (.own a))->h.get? b=some u->h'.get? b=some u)(ho:∀ b,H b=some (.own a)->H' b=some (.own a))(ht:∀ b xs,H b=some (.tup xs)->H' b=some (.tup xs)):ObjOk P w H' h' a o:=by
  induction o with
  |lst xs=>obtain⟨z,its,n,r,e⟩:=x;exact⟨z,its,n,r,k _ _ (.inl rfl) e⟩
  |tup xs=>obtain⟨z,its,r,ob,e,c⟩:=x;exact⟨z,its,r,ob,k _ _ (.inl rfl) e,c⟩
  |dK kvs=>obtain⟨z,y,vs,r,ob,es,ep,e,c⟩:=x;exact⟨z,y,vs,r,ob,es,ep,k _ _ (.inl rfl) e,c⟩
  |dT kvs=>
    obtain⟨z,y,xs,r,ob,es,ep,e,c⟩:=x;exact⟨z,y,xs,Paired.mapP r fun p q z=>⟨z.1,ht _ _ z.2.1,z.2.2⟩,ob,es,ep,k _ _ (.inl rfl) e,c⟩
  |set S n=>obtain⟨ob,es,ep,t,e,c⟩:=x;exact⟨ob,es,ep,t,k _ _ (.inl rfl) e,c⟩
  |ins C dx fs=>
    obtain⟨d,z,ne,e,mA,⟨od,es,ep,e2,c⟩,r⟩:=x;exact⟨ho _ d,z,ne,k _ _ (.inl rfl) e,mA,⟨od,es,ep,k _ _ (.inr d) e2,c⟩,r⟩
  |own y=>obtain⟨ob,e⟩:=x;exact⟨ob,k _ _ (.inl rfl) e⟩
  |xd fs=>obtain⟨mA,⟨od,es,ep,e,c⟩,r⟩:=x;exact⟨mA,⟨od,es,ep,k _ _ (.inl rfl) e,c⟩,r⟩
  |rng lo hi=>obtain⟨t,u,v,e⟩:=x;exact⟨t,u,v,k _ _ (.inl rfl) e⟩
  |frz ob u ih=>obtain⟨e,q⟩:=x;exact⟨k _ _ (.inl rfl) e,ih q⟩
  |tbl ps=>
    have e:h.get? a=some { cls:=.none,data:=.fields ps }:=x;show h'.get? a=some { cls:=.none,data:=.fields ps };exact k a _ (.inl rfl) e
  |met f y=>
    have e:h.get? a=some (PySem.W.methodObj (.ref f) (.ref y)):=x;show h'.get? a=some (PySem.W.methodObj (.ref f) (.ref y));exact k a _ (.inl rfl) e
  |ext φ=>obtain⟨p,⟨o,e⟩,st⟩:=x;exact⟨st _ _ p fun o q=>k _ _ (.inl rfl) q,⟨o,k _ _ (.inl rfl) e⟩,st⟩
theorem HOk.lt(x:HOk P w H h)(e:H a=some o):a < h.objs.size:=(x a o e).lt
theorem HOk.fresh(x:HOk P w H h)(e:h.objs.size<=a):H a=none:=by
  cases q:H a with
  |none=>rfl
  |some u=>exact absurd (Nat.lt_of_lt_of_le (x.lt q) e) (Nat.lt_irrefl _)
theorem HOk.kept(x:HOk P w H h)(k:∀ b u,h.get? b=some u->h'.get? b=some u):HOk P w H h':=fun a o e=>
  (x a o e).stay (fun b u _ q=>k b u q) (fun _ q=>q) fun _ _ q=>q
theorem HOk.laid(x:HOk P w H h)(k:∀ b u,h.get? b=some u->h'.get? b=some u)(hp:h.objs.size<=a)(new:ObjOk P w (upd H a o) h' a o):HOk P w (upd H a o) h':=fun b u e=>by
  have hn:=x.fresh hp;by_cases hb:b=a
  · subst hb;rw[upd_same]at e;cases e;exact new
  · rw[upd_ne hb]at e
    exact(x b u e).stay (fun c v _ q=>k c v q) (fun c q=>by rw[upd_ne (ne_of_none q hn)];exact q) fun c xs q=>by rw[upd_ne (ne_of_none q hn)];exact q
end

def Rd(H:Hp)(a:Ad)(u:HO):Prop:=H a=some u\/∃ o,H a=some (.frz o u)
theorem Rd.ok{P:Program}{w:World}{H:Hp}{h:Heap}{a:Ad}{u:HO}(r:Rd H a u)(x:HOk P w H h):ObjOk P w H h a u:=by
  rcases r with r|⟨o,r⟩
  · exact x a u r
  · obtain⟨_,q⟩:=x a _ r
    exact q
def Mut:Ot HO->Prop
  |some (.lst _)=>True
  |some (.dK _)=>True
  |some (.dT _)=>True
  |some (.set _ _)=>True
  |some (.ins _ _ _)=>True
  |some (.ext _)=>True
  |_=>False
section
variable {P:Program}{w:World}{H:Hp}{h h':Heap}{x e:Ad}{o':HO}
theorem HOk.write(ok:HOk P w H h)(mu:Mut (H x))(he:e=x\/H e=some (.own x))(k:∀ b u,b≠e->h.get? b=some u->h'.get? b=some u)(heo:∃ u,h'.get? e=some u)(new:ObjOk P w (upd H x o') h' x o'):HOk P w (upd H x o') h':=fun b u q=>by
  have nown:∀ c y,H c=some (.own y)->c≠x:=fun c y r z=>by subst z;rw[r]at mu;exact mu
  have ntup:∀ c xs,H c=some (.tup xs)->c≠x:=fun c xs r z=>by subst z;rw[r]at mu;exact mu
  by_cases hb:b=x
  · subst hb;rw[upd_same]at q;cases q;exact new
  · rw[upd_ne hb]at q
    by_cases hbe:b=e
    · have q':H b=some (.own x):=by
        rcases he with z|z
        · exact absurd (hbe.trans z) hb
        · rw[hbe];exact z
      rw[q]at q';cases q'
      obtain⟨v,hv⟩:=heo;exact⟨v,by rw[hbe];exact hv⟩
    · refine(ok b u q).stay (fun c v hc r=>k c v ?_ r) (fun c r=>by rw[upd_ne (nown c b r)];exact r) fun c xs r=>by rw[upd_ne (ntup c xs r)];exact r
      rcases hc with rfl|hc
      · exact hbe
      · rintro rfl
        rcases he with z|z
        · exact nown c b hc z
        · rw[hc]at z;cases z;exact hb rfl
end

structure Un(fs ex:List Addr)(H H':Hp)(h h':Heap):Prop where
  keep:∀ b o,h.get? b=some o->H b=none->b∉fs->b∉ex->h'.get? b=some o
  slot:∀ b o,h.get? b=some o->H b=none->b∈fs->b∉ex->∃ sl,h'.get? b=some { o with slots:=sl }
  free:∀ b o,h.get? b=some o->H b=none->b∉ex->H' b=none
  there:∀ b o,h.get? b=some o->b∉ex->∃ o',h'.get? b=some o'
  tups:∀ b xs,H b=some (.tup xs)->H' b=some (.tup xs)
  frzs:∀ b o u,H b=some (.frz o u)->H' b=some (.frz o u)
  tbls:∀ b ps,H b=some (.tbl ps)->∃ more,H' b=some (.tbl (ps++more))
section
variable {fs fs' ex ex':Li Ad}{H H1 H2:Hp}{h h1 h2 h':Heap}{a x e:Ad}{o:HO}
theorem Un.any(u:Un fs ex H H1 h h1){b:Ad}{ob:Obj}(q:h.get? b=some ob)(n:H b=none)(hx:b∉ex):∃ sl,h1.get? b=some { ob with slots:=sl }:=by
  by_cases hb:b∈fs
  · exact u.slot b ob q n hb hx
  · exact⟨ob.slots,u.keep b ob q n hb hx⟩
theorem Un.kept(k:∀ b u,h.get? b=some u->h'.get? b=some u):Un fs ex H H h h':=
  ⟨fun b ob q _ _ _=>k b ob q,fun b ob q _ _ _=>⟨ob.slots,k b ob q⟩,fun _ _ _ n _=>n,fun b ob q _=>⟨ob,k b ob q⟩,fun _ _ q=>q,fun _ _ _ q=>q,fun _ ps q=>⟨#[],by rw[q];simp⟩⟩
theorem Un.refl:Un fs ex H H h h:=Un.kept fun _ _ q=>q
theorem Un.laid(k:∀ b u,h.get? b=some u->h'.get? b=some u)(hp:h.objs.size<=a)(hn:H a=none):Un fs ex H (upd H a o) h h' where
  keep:=fun b u q _ _ _=>k b u q
  slot:=fun b u q _ _ _=>⟨u.slots,k b u q⟩
  free:=fun b u q n _=>by rw[upd_ne (Nat.ne_of_lt (Nat.lt_of_lt_of_le (Heap.lt_size q) hp))];exact n
  there:=fun b u q _=>⟨u,k b u q⟩
  tups:=fun b xs q=>by rw[upd_ne (ne_of_none q hn)];exact q
  frzs:=fun b u xs q=>by rw[upd_ne (ne_of_none q hn)];exact q
  tbls:=fun b ps q=>⟨#[],by rw[upd_ne (ne_of_none q hn),q];simp⟩
theorem Un.write(mu:Mut (H x))(he:e=x\/H e=some (.own x))(k:∀ b u,b≠e->h.get? b=some u->h'.get? b=some u)(heo:∃ u,h'.get? e=some u):Un fs ex H (upd H x o) h h':=by
  have hx:∀ b,H b=none->b≠x:=fun b n z=>by subst z;rw[n]at mu;exact mu
  have hb:∀ b,H b=none->b≠e:=fun b n z=>by
    subst z;rcases he with r|r
    · exact hx b n r
    · rw[n]at r;cases r
  have hm:∀ b u,H b=some u->¬Mut (some u)->b≠x:=fun b u q nm z=>by subst z;rw[q]at mu;exact nm mu
  refine⟨fun b u q n _ _=>k b u (hb b n) q,fun b u q n _ _=>⟨u.slots,k b u (hb b n) q⟩,fun b u q n _=>by rw[upd_ne (hx b n)];exact n,fun b u q _=>?_,
    fun b xs q=>by rw[upd_ne (hm b _ q fun z=>z)];exact q,fun b u xs q=>by rw[upd_ne (hm b _ q fun z=>z)];exact q,fun b ps q=>⟨#[],by rw[upd_ne (hm b _ q fun z=>z),q];simp⟩⟩
  by_cases hbe:b=e
  · subst hbe;exact heo
  · exact⟨u,k b u hbe q⟩
end

noncomputable def trk(h:Heap)(H:Hp):Li Ad:=(List.range h.objs.size).filter fun a=>(H a).isSome
noncomputable def hidT(h:Heap)(H:Hp):Heap:=PySem.W.hideAll h (trk h H)
theorem hidT_size(h:Heap)(H:Hp):(hidT h H).objs.size=h.objs.size:=PySem.W.hideAll_size _ _
theorem hidT_get{h:Heap}{H:Hp}{b:Ad}{o:Obj}(e:h.get? b=some o)(n:H b=none):(hidT h H).get? b=some o:=
  PySem.W.hideAll_get _ e fun hm=>by
    have q:(H b).isSome=true:=(List.mem_filter.mp hm).2;rw[n]at q;simp at q
theorem of_hidT{h:Heap}{H:Hp}{b:Ad}{o:Obj}(e:(hidT h H).get? b=some o):h.get? b=some o/\H b=none:=by
  have e':h.get? b=some o:=PySem.W.of_hideAll (trk h H) e;refine⟨e',?_⟩;cases q:H b with
  |none=>rfl
  |some x=>
    have hm:b∈trk h H:=List.mem_filter.mpr ⟨List.mem_range.mpr (Heap.lt_size e'),by simp[q]⟩
    have z:(hidT h H).get? b=none:=PySem.W.hideAll_none (trk h H) hm;rw[z]at e;cases e

end L2

namespace L2
open PySem PySem.Spec PyProof.Rows

structure Mod(K:Fg)(mg:Str->Option Value)(base:Heap):Prop where
  kin:K.In base
  glob:base.Ns mainGlobals mg
  blt:∃ mb,base.Ns builtinsNs mb/\∀ x:Str,x ≠ "__name__"->mb x=bootBuiltins x
  nolimit:base.NoLimit

structure Cx where
  prog:Program
  w:World
  K:Fg
  mg:Str->Option Value
  base:Heap
  A:Around
  N:List Str
  s₀:Shared
  H₀:Hp
  env:Env
  outer:List Env
  stack:List Env
  ex:List Addr
  fn:Str->Bool
  calm:Bool
  pn:List (Addr×Obj)
  xe:Value->Shared->Prop
noncomputable def frs(l:Li Env):Li Ad:=l.filterMap (·.frame)
noncomputable abbrev Cx.fs(X:Cx):Li Ad:=frs X.outer

def Vis(sc:Scope)(x:Str):Prop:=sc.names.lookup x=some .local\/sc.names.lookup x=some .cell\/sc.names.lookup x=some .free
def Loc(sc:Scope)(x:Str):Prop:=sc.names.lookup x=some .local\/sc.names.lookup x=some .cell
def Look(env:Env)(h:Heap)(m:Str->Ot vL)(x:Str)(u:vL):Prop:=
  (env.kindOf x=some .local/\m x=some u)\/((env.kindOf x=some .cell\/env.kindOf x=some .free)/\∃ c,env.cells.lookup x=some c/\h.IsCell c (some u))

structure Cx.Ok(X:Cx):Prop where
  mod:Mod X.K X.mg X.base
  kind:X.env.scope.kind=.function
  glob:X.env.globals=mainGlobals
  blt:X.env.builtins=builtinsNs
  above:X.s₀.heap.objs.size<=X.env.locals
  inj:∀ x y c,X.env.cells.lookup x=some c->X.env.cells.lookup y=some c->x=y
  has:∀ x,(X.env.kindOf x=some .cell\/X.env.kindOf x=some .free)->∃ c,X.env.cells.lookup x=some c
  cab:∀ x c,X.fn x=true->X.env.cells.lookup x=some c->X.s₀.heap.objs.size<=c
  hd:X.calm=true->X.A.handled=none
  frames:X.A.frames=some X.stack
  stk:X.stack=X.outer\/(X.stack=X.env :: X.outer/\X.env.frame=some X.env.locals)
  exf:∀ b∈X.ex,b≠X.env.locals/\∀ x c,X.env.cells.lookup x=some c->c≠b
  bs:∀ b o,X.base.get? b=some o->X.s₀.heap.get? b=some o/\X.H₀ b=none
  bsz:X.base.objs.size<=X.s₀.heap.objs.size
  noex:∀ b o,X.base.get? b=some o->b∉X.ex
  exfs:∀ b∈X.ex,b∉X.fs
  funs:X.s₀.heap.FunFrames X.base X.outer
  frf:∀ b∈X.fs,X.H₀ b=none

structure Inv(X:Cx)(pQ:List (Addr×Obj))(σ:List (Option V))(H:Hp)(s:Shared):Prop where
  ok:X.Ok
  os:s.os=X.s₀.os
  bare:AllBare s.gens
  base:Un X.fs X.ex X.H₀ H X.s₀.heap s.heap
  loc:∃ m,s.heap.Ns X.env.locals m/\∀ (i:Nat) (x:Str) (v:V),X.N[i]?=some x->σ[i]?=some (some v)->Vis X.env.scope x->∃ u,RelV v u/\Look X.env s.heap m x u
  cell:∀ x c,X.env.cells.lookup x=some c->∃ v,s.heap.IsCell c v
  free:H X.env.locals=none
  freeC:∀ x c,X.env.cells.lookup x=some c->H c=none
  pin:∀ p∈X.pn++pQ,s.heap.get? p.1=some p.2/\H p.1=none/\p.1≠X.env.locals/\p.1∉X.fs/\∀ v,p.2.data≠.cell v
  hok:HOk X.prog X.w H s.heap
  len:σ.length=X.N.length

section
variable {X:Cx}{pQ:Li (Ad×Obj)}{σ:Li (Ot V)}{H H':Hp}{s:Sd}{h':Heap}

theorem Cx.Ok.nofr(ok:X.Ok){b:Ad}{o:Obj}(e:X.base.get? b=some o):b∉X.fs:=fun hb=>by
  have:=(ok.funs.mem hb).1;rw[e]at this;cases this
theorem Inv.bs(I:Inv X pQ σ H s):∀ b o,X.base.get? b=some o->s.heap.get? b=some o/\H b=none:=fun b o e=>
  ⟨I.base.keep b o (I.ok.bs b o e).1 (I.ok.bs b o e).2 (I.ok.nofr e) (I.ok.noex b o e),I.base.free b o (I.ok.bs b o e).1 (I.ok.bs b o e).2 (I.ok.noex b o e)⟩
theorem Inv.bk(I:Inv X pQ σ H s):∀ b o,X.base.get? b=some o->s.heap.get? b=some o:=fun b o e=>(I.bs b o e).1
theorem Inv.mod(I:Inv X pQ σ H s):Mod X.K X.mg X.base:=I.ok.mod
theorem Inv.kIn(I:Inv X pQ σ H s):X.K.In s.heap:=I.ok.mod.kin.keeps I.bk
theorem Inv.lt(I:Inv X pQ σ H s):X.env.locals < s.heap.objs.size:=let ⟨_,hn,_⟩:=I.loc;hn.lt
theorem Inv.sz(I:Inv X pQ σ H s):X.s₀.heap.objs.size<=s.heap.objs.size:=Nat.le_trans I.ok.above (Nat.le_of_lt I.lt)
theorem Inv.nofs(I:Inv X pQ σ H s){a:Ad}(h:s.heap.objs.size<=a):a∉X.fs:=fun hb=>by
  obtain⟨_,o,ho,_⟩:=I.ok.funs.mem hb;exact absurd (Nat.lt_of_lt_of_le (Heap.lt_size ho) (Nat.le_trans I.sz h)) (Nat.lt_irrefl _)
theorem Inv.cne(I:Inv X pQ σ H s):∀ x c,X.env.cells.lookup x=some c->c≠X.env.locals:=fun x c e z=>by
  obtain⟨v,o,ho,hd⟩:=I.cell x c e;obtain⟨m,⟨o',es,ep,ho',hd',_⟩,_⟩:=I.loc;rw[z,ho']at ho;cases ho;rw[hd']at hd;cases hd
theorem Inv.funs(I:Inv X pQ σ H s):s.heap.FunFrames X.base X.outer:=by
  have all:∀ (l:Li Env),(∀ b∈frs l,b∈X.fs)->X.s₀.heap.FunFrames X.base l->s.heap.FunFrames X.base l:=by
    intro l
    induction l with
    |nil=>intro _ _;trivial
    |cons env r ih=>
      intro hs hl;obtain⟨hk,⟨L,o,hf,hn,ho,hd⟩,hr⟩:=hl;have hL:L∈X.fs:=hs L (by unfold frs;rw[List.filterMap_cons,hf];exact Ls)
      obtain⟨sl,e⟩:=I.base.slot L o ho (I.ok.frf L hL) hL fun z=>I.ok.exfs L z hL
      exact⟨hk,⟨L,_,hf,hn,e,hd⟩,ih (fun b hb=>hs b (by unfold frs;rw[List.filterMap_cons,hf];exact Lm _ hb)) hr⟩
  exact all X.outer (fun _ hb=>hb) I.ok.funs

theorem Inv.stack(I:Inv X pQ σ H s):s.heap.FunFrames X.base X.stack:=by
  rcases I.ok.stk with e|⟨e,hf⟩
  · rw[e];exact I.funs
  · rw[e]
    obtain⟨m,hn,_⟩:=I.loc;refine .cons (by rw[I.ok.kind];decide) hf hn ?_ I.funs
    exact Heap.get?_none_of_le (Nat.le_trans I.ok.bsz I.ok.above)
theorem Inv.stkSub(I:Inv X pQ σ H s):∀ b∈frs X.stack,b∈X.env.locals :: X.fs:=fun b hb=>by
  rcases I.ok.stk with e|⟨e,hf⟩
  · rw[e]at hb;exact Lm _ hb
  · rw[e]at hb
    unfold frs at hb;rw[List.filterMap_cons,hf]at hb;exact hb
theorem Inv.stkFree(I:Inv X pQ σ H s):∀ b∈frs X.stack,H b=none:=fun b hb=>by
  rcases List.mem_cons.mp (I.stkSub b hb) with e|hb
  · rw[e];exact I.free
  · obtain⟨_,o,ho,_⟩:=I.ok.funs.mem hb
    exact I.base.free b o ho (I.ok.frf b hb) fun z=>I.ok.exfs b z hb

theorem Inv.step{g':Array GenState}{t':Nat}{d':Drawn}{ch:Li Ad}(I:Inv X pQ σ H s)(hch:∀ b∈ch,(b∈X.ex\/X.s₀.heap.objs.size<=b)/\b≠X.env.locals/\(∀ x c,X.env.cells.lookup x=some c->c≠b)/\∀ p∈X.pn++pQ,p.1≠b)(keep:∀ b o,b≠X.env.locals->b∉X.fs->b∉ch->s.heap.get? b=some o->H b=none->h'.get? b=some o)(slot:∀ b o,b≠X.env.locals->b∈X.fs->b∉ch->s.heap.get? b=some o->H b=none->∃ sl,h'.get? b=some { o with slots:=sl })(free:∀ b o,b∉ch->s.heap.get? b=some o->H b=none->H' b=none)(there:∀ b o,b∉ch->s.heap.get? b=some o->∃ o',h'.get? b=some o')(tups:∀ b xs,H b=some (.tup xs)->H' b=some (.tup xs))(frzs:∀ b o u,H b=some (.frz o u)->H' b=some (.frz o u))(tbls:∀ b ps,H b=some (.tbl ps)->∃ more,H' b=some (.tbl (ps++more)))(ns:∀ m,s.heap.Ns X.env.locals m->h'.Ns X.env.locals m)(hok:HOk X.prog X.w H' h')(hg:AllBare g') :
    Inv X pQ σ H' { s with heap:=h',gens:=g',drawn:=d',toks:=t' }:=by
  have neL:∀ b o,X.s₀.heap.get? b=some o->b≠X.env.locals:=fun b o e=>Nat.ne_of_lt (Nat.lt_of_lt_of_le (Heap.lt_size e) I.ok.above)
  have neC:∀ b o,X.s₀.heap.get? b=some o->b∉X.ex->b∉ch:=fun b o e hx hb=>by
    rcases (hch b hb).1 with z|z
    · exact hx z
    · exact absurd (Nat.lt_of_lt_of_le (Heap.lt_size e) z) (Nat.lt_irrefl _)
  have cellK:∀ x c,X.env.cells.lookup x=some c->∀ v,s.heap.IsCell c v->h'.IsCell c v:=fun x c e v ⟨o,ho,hd⟩=>by
    have nch:c∉ch:=fun z=>(hch c z).2.2.1 x c e rfl
    by_cases hc:c∈X.fs
    · obtain⟨sl,q⟩:=slot c o (I.cne x c e) hc nch ho (I.freeC x c e)
      exact⟨_,q,hd⟩
    · exact⟨o,keep c o (I.cne x c e) hc nch ho (I.freeC x c e),hd⟩
  refine⟨I.ok,I.os,hg,⟨fun b o e n hb hx=>?_,fun b o e n hb hx=>?_,fun b o e n hx=>?_,fun b o e hx=>?_,fun b xs e=>tups b xs (I.base.tups b xs e),fun b o xs e=>frzs b o xs (I.base.frzs b o xs e),fun b ps e=>?_⟩,?_,fun x c e=>?_,?_,fun x c e=>?_,fun p hp=>?_,hok,I.len⟩
  · exact keep b o (neL b o e) hb (neC b o e hx) (I.base.keep b o e n hb hx) (I.base.free b o e n hx)
  · obtain⟨sl,e1⟩:=I.base.slot b o e n hb hx
    obtain⟨sl',e2⟩:=slot b _ (neL b o e) hb (neC b o e hx) e1 (I.base.free b o e n hx);exact⟨sl',e2⟩
  · obtain⟨o',e1⟩:=I.base.there b o e hx
    exact free b o' (neC b o e hx) e1 (I.base.free b o e n hx)
  · obtain⟨o',e1⟩:=I.base.there b o e hx
    exact there b o' (neC b o e hx) e1
  · obtain⟨m1,e1⟩:=I.base.tbls b ps e
    obtain⟨m2,e2⟩:=tbls b _ e1;exact⟨m1++m2,by rw[e2,Array.append_assoc]⟩
  · obtain⟨m,hn,hl⟩:=I.loc
    refine⟨m,ns m hn,fun i x v e1 e2 e3=>?_⟩
    obtain⟨u,r,l⟩:=hl i x v e1 e2 e3;refine⟨u,r,?_⟩;rcases l with l|⟨k,c,e,z⟩
    · exact .inl l
    · exact .inr ⟨k,c,e,cellK x c e _ z⟩
  · obtain⟨v,z⟩:=I.cell x c e
    exact⟨v,cellK x c e v z⟩
  · obtain⟨m,⟨o,_,_,ho,_⟩,_⟩:=I.loc
    exact free _ o (fun z=>(hch _ z).2.1 rfl) ho I.free
  · obtain⟨v,o,ho,hd⟩:=I.cell x c e
    exact free c o (fun z=>(hch c z).2.2.1 x c e rfl) ho (I.freeC x c e)
  · obtain⟨e,n,ne,nf,d⟩:=I.pin p hp
    have nch:p.1∉ch:=fun z=>(hch p.1 z).2.2.2 p hp rfl
    exact⟨keep p.1 p.2 ne nf nch e n,free p.1 p.2 nch e n,ne,nf,d⟩
theorem Inv.un{t':Nat}(I:Inv X pQ σ H s)(u:Un X.fs [] H H' s.heap h')(hok:HOk X.prog X.w H' h'):Inv X pQ σ H' { s with heap:=h',toks:=t' }:=by
  obtain⟨m,⟨o,es,ep,ho,r⟩,_⟩:=id I.loc;obtain⟨sl,hL⟩:=u.any ho I.free (by simp)
  exact I.step (g':=s.gens) (d':=s.drawn) (ch:=[]) (fun _ z=>nomatch z) (fun b o _ hb _ e n=>u.keep b o e n hb (by simp)) (fun b o _ hb _ e n=>u.slot b o e n hb (by simp)) (fun b o _ e n=>u.free b o e n (by simp)) (fun b o _ e=>u.there b o e (by simp)) u.tups u.frzs u.tbls (fun m' hm=>by
    obtain⟨o',es',ep',ho',r'⟩:=hm;rw[ho]at ho';cases ho'
    exact⟨_,es',ep',hL,r'⟩) hok I.bare
theorem Inv.call{g':Array GenState}{t':Nat}{d':Drawn}{ch:Li Ad}(I:Inv X pQ σ H s)(u:Un (frs X.stack) ch H H' s.heap h')(hok:HOk X.prog X.w H' h')(hg:AllBare g')(hch:∀ b∈ch,(b∈X.ex\/X.s₀.heap.objs.size<=b)/\b≠X.env.locals/\(∀ x c,X.env.cells.lookup x=some c->c≠b)/\∀ p∈X.pn++pQ,p.1≠b) :
    Inv X pQ σ H' { s with heap:=h',gens:=g',drawn:=d',toks:=t' }:=by
  obtain⟨m,⟨o,es,ep,ho,r⟩,_⟩:=id I.loc;obtain⟨sl,hL⟩:=u.any ho I.free fun z=>(hch _ z).2.1 rfl
  exact I.step (ch:=ch) hch (fun b o hL hb hc e n=>u.keep b o e n (fun z=>(List.mem_cons.mp (I.stkSub b z)).elim hL hb) hc) (fun b o _ _ hc e n=>u.any e n hc) (fun b o hc e n=>u.free b o e n hc) (fun b o hc e=>u.there b o e hc) u.tups u.frzs u.tbls (fun m' hm=>by
    obtain⟨o',es',ep',ho',r'⟩:=hm;rw[ho]at ho';cases ho'
    exact⟨_,es',ep',hL,r'⟩) hok hg
theorem Inv.turned{t':Nat}{it:Ad}(I:Inv X pQ σ H s)(k:∀ b o,b≠it->s.heap.get? b=some o->h'.get? b=some o)(hn:H it=none)(hL:it≠X.env.locals)(h1:it∈X.ex\/X.s₀.heap.objs.size<=it)(h2:∀ x c,X.env.cells.lookup x=some c->c≠it)(h3:∀ p∈X.pn++pQ,p.1≠it):Inv X pQ σ H { s with heap:=h',toks:=t' }:=by
  have nit:∀ b u,H b=some u->b≠it:=fun b u e z=>by rw[z,hn]at e;cases e
  refine I.step (g':=s.gens) (d':=s.drawn) (ch:=[it]) (fun b hb=>?_) (fun b o _ _ hc e _=>k b o (fun z=>hc (by simp[z])) e) (fun b o _ _ hc e _=>⟨o.slots,k b o (fun z=>hc (by simp[z])) e⟩) (fun _ _ _ _ n=>n)
    (fun b o hc e=>⟨o,k b o (fun z=>hc (by simp[z])) e⟩) (fun _ _ e=>e) (fun _ _ _ e=>e) (fun b ps e=>⟨#[],by rw[e];simp⟩) (fun m hm=>?_) (fun b u e=>?_) I.bare
  · have e:b=it:=by simpa using hb
    subst e;exact⟨h1,hL,h2,h3⟩
  · obtain⟨o,es,ep,ho,r⟩:=hm
    exact⟨o,es,ep,k _ o (Ne.symm hL) ho,r⟩
  · refine(I.hok b u e).stay (fun c v hc q=>k c v ?_ q) (fun _ q=>q) fun _ _ q=>q
    rcases hc with z|z
    · rw[z];exact nit b u e
    · exact nit c _ z
theorem Inv.tok(I:Inv X pQ σ H s)(t:Nat):Inv X pQ σ H { s with toks:=t }:=I.un (h':=s.heap) (t':=t) Un.refl I.hok
theorem Inv.kept{t':Nat}(I:Inv X pQ σ H s)(k:∀ b u,s.heap.get? b=some u->h'.get? b=some u):Inv X pQ σ H { s with heap:=h',toks:=t' }:=I.un (Un.kept k) (I.hok.kept k)
theorem Inv.laid{a:Ad}{o:HO}{t':Nat}(I:Inv X pQ σ H s)(k:∀ b u,s.heap.get? b=some u->h'.get? b=some u)(hp:s.heap.objs.size<=a)(new:ObjOk X.prog X.w (upd H a o) h' a o) :
    Inv X pQ σ (upd H a o) { s with heap:=h',toks:=t' }:=I.un (Un.laid k hp (I.hok.fresh hp)) (I.hok.laid k hp new)
theorem Inv.write{x e:Ad}{o:HO}{t':Nat}(I:Inv X pQ σ H s)(mu:Mut (H x))(he:e=x\/H e=some (.own x))(k:∀ b u,b≠e->s.heap.get? b=some u->h'.get? b=some u)(heo:∃ u,h'.get? e=some u)(new:ObjOk X.prog X.w (upd H x o) h' x o):Inv X pQ σ (upd H x o) { s with heap:=h',toks:=t' }:=I.un (Un.write mu he k heo) (I.hok.write mu he k heo new)
theorem Inv.pins_of{pins':Li (Ad×Obj)}(I:Inv X pQ σ H s)(h:∀ p∈pins',s.heap.get? p.1=some p.2/\H p.1=none/\p.1≠X.env.locals/\p.1∉X.fs/\∀ v,p.2.data≠.cell v):Inv X pins' σ H s:=
  ⟨I.ok,I.os,I.bare,I.base,I.loc,I.cell,I.free,I.freeC,fun p hp=>(List.mem_append.mp hp).elim (fun z=>I.pin p (List.mem_append_left _ z)) (h p),I.hok,I.len⟩

theorem nodup_ix{N:Li Str}(hN:N.Nodup){i j:Nat}{x:Str}(a:N[i]?=some x)(b:N[j]?=some x):i=j:=by
  obtain⟨h1,e1⟩:=List.getElem?_eq_some_iff.mp a;obtain⟨h2,e2⟩:=List.getElem?_eq_some_iff.mp b;exact(List.getElem_inj hN).mp (e1.trans e2.symm)

theorem store_ok2{M:Model}{A:Around}{E:vL->Sd->Prop}{i:Nat}{x:Str}{v:V}{u:vL}{Q:Unit->Sd->Prop}(I:Inv X pQ σ H s)(hN:X.N.Nodup)(hi:X.N[i]?=some x)(hx:Loc X.env.scope x)(r:RelV v u)(h:∀ s',Inv X pQ (σ.set i (some v)) H s'->(∃ a,Heap.SameBut a s.heap s'.heap/\(a=X.env.locals\/X.env.cells.lookup x=some a))->Q () s')(hf:X.fn x=true\/X.env.scope.names.lookup x=some .local:=by first|exact .inl rfl|exact .inr rfl|assumption):wpAny M A (storeName X.env x u) Q E s:=by
  obtain⟨m,hn,hl⟩:=id I.loc;have hcls:(X.env.scope.kind==.class||(X.env.scope.kind==.module&&X.env.locals != X.env.globals))=false:=by rw[I.ok.kind];rfl
  have hiσ:i < σ.length:=by rw[I.len];exact(List.getElem?_eq_some_iff.mp hi).1
  have cne:=I.cne;have tracked:∀ {a:Ad}{h':Heap},(∃ o,s.heap.get? a=some o/\H a=none)->Heap.SameBut a s.heap h'->HOk X.prog X.w H h':=fun {a h'} ha hs b ob e=>by
    obtain⟨_,_,hfree⟩:=ha;refine(I.hok b ob e).stay (fun c w' hc q=>(hs.2 c ?_).trans q) (fun _ q=>q) fun _ _ q=>q
    rintro rfl
    rcases hc with rfl|hc
    · rw[hfree]at e;cases e
    · rw[hfree]at hc;cases hc
  rcases hx with hk|hk
  · refine wpAny_storeName_local hk hn (fun h' hn' hs=>?_) hcls
    obtain⟨oL,_,_,hoL,_⟩:=id hn;refine h _ ⟨I.ok,I.os,I.bare,⟨fun b o e n hb hx=>?_,fun b o e n hb hx=>?_,I.base.free,fun b o e hx=>?_,I.base.tups,I.base.frzs,I.base.tbls⟩,⟨_,hn',fun j y v' e1 e2 e3=>?_⟩,fun y c e=>?_,I.free,I.freeC,fun p hp=>?_,tracked ⟨oL,hoL,I.free⟩ hs,by simpa using I.len⟩ ⟨_,hs,.inl rfl⟩
    · exact(hs.2 b (Nat.ne_of_lt (Nat.lt_of_lt_of_le (Heap.lt_size e) I.ok.above))).trans (I.base.keep b o e n hb hx)
    · obtain⟨sl,e1⟩:=I.base.slot b o e n hb hx
      exact⟨sl,(hs.2 b (Nat.ne_of_lt (Nat.lt_of_lt_of_le (Heap.lt_size e) I.ok.above))).trans e1⟩
    · obtain⟨o',e1⟩:=I.base.there b o e hx
      exact⟨o',(hs.2 b (Nat.ne_of_lt (Nat.lt_of_lt_of_le (Heap.lt_size e) I.ok.above))).trans e1⟩
    · by_cases hj:j=i
      · subst hj
        rw[hi]at e1;cases e1
        rw[List.getElem?_set_self hiσ]at e2;cases e2;exact⟨u,r,.inl ⟨hk,by simp⟩⟩
      · rw[List.getElem?_set_ne (Ne.symm hj)]at e2
        obtain⟨u',r',q⟩:=hl j y v' e1 e2 e3;refine⟨u',r',?_⟩;rcases q with⟨k,e⟩|⟨k,c,e,z⟩
        · refine .inl ⟨k,?_⟩
          have:y≠x:=fun e=>hj (nodup_ix hN e1 (e ▸ hi))
          simp[this,e]
        · exact .inr ⟨k,c,e,z.sameBut hs (cne y c e)⟩
    · obtain⟨w',z⟩:=I.cell y c e
      exact⟨w',z.sameBut hs (cne y c e)⟩
    · obtain⟨e,n,ne,nf,d⟩:=I.pin p hp
      exact⟨(hs.2 p.1 ne).trans e,n,ne,nf,d⟩
  · have hfn:X.fn x=true:=by
      rcases hf with z|z
      · exact z
      · rw[z]at hk;cases hk
    obtain⟨c,hc⟩:=I.ok.has x (.inl hk);obtain⟨w',z⟩:=I.cell x c hc;refine wpAny_storeName_cell I.ok.kind hk hc z (fun h' hc' hs=>?_)
    obtain⟨oc,hoc,hocd⟩:=id z;refine h { s with heap:=h' } ⟨I.ok,I.os,I.bare,⟨fun b o e n hb hx=>?_,fun b o e n hb hx=>?_,I.base.free,fun b o e hx=>?_,I.base.tups,I.base.frzs,I.base.tbls⟩,⟨m,hn.sameBut hs (Ne.symm (cne x c hc)),fun j y v' e1 e2 e3=>?_⟩,fun y c' e=>?_,I.free,I.freeC,fun p hp=>?_,tracked ⟨oc,hoc,I.freeC x c hc⟩ hs,by simpa using I.len⟩ ⟨c,hs,.inr hc⟩
    · exact(hs.2 b (Nat.ne_of_lt (Nat.lt_of_lt_of_le (Heap.lt_size e) (I.ok.cab x c hfn hc)))).trans (I.base.keep b o e n hb hx)
    · obtain⟨sl,e1⟩:=I.base.slot b o e n hb hx
      exact⟨sl,(hs.2 b (Nat.ne_of_lt (Nat.lt_of_lt_of_le (Heap.lt_size e) (I.ok.cab x c hfn hc)))).trans e1⟩
    · obtain⟨o',e1⟩:=I.base.there b o e hx
      exact⟨o',(hs.2 b (Nat.ne_of_lt (Nat.lt_of_lt_of_le (Heap.lt_size e) (I.ok.cab x c hfn hc)))).trans e1⟩
    · by_cases hj:j=i
      · subst hj
        rw[hi]at e1;cases e1
        rw[List.getElem?_set_self hiσ]at e2;cases e2;exact⟨u,r,.inr ⟨.inl hk,c,hc,hc'⟩⟩
      · rw[List.getElem?_set_ne (Ne.symm hj)]at e2
        obtain⟨u',r',q⟩:=hl j y v' e1 e2 e3;refine⟨u',r',?_⟩;rcases q with q|⟨k,c',e,z'⟩
        · exact .inl q
        · refine .inr ⟨k,c',e,z'.sameBut hs ?_⟩
          rintro rfl
          exact hj (nodup_ix hN e1 (I.ok.inj _ _ _ e hc ▸ hi))
    · by_cases hcc:c'=c
      · subst hcc;exact⟨_,hc'⟩
      · obtain⟨w2,z2⟩:=I.cell y c' e
        exact⟨w2,z2.sameBut hs hcc⟩
    · obtain⟨e,n,ne,nf,d⟩:=I.pin p hp
      refine⟨(hs.2 p.1 ?_).trans e,n,ne,nf,d⟩;intro q;rw[q,hoc]at e;have q':oc=p.2:=Option.some.inj e;exact d w' (by rw[<-q'];exact hocd)
theorem store_ok{M:Model}{A:Around}{E:vL->Sd->Prop}{i:Nat}{x:Str}{v:V}{u:vL}{Q:Unit->Sd->Prop}(I:Inv X pQ σ H s)(hN:X.N.Nodup)(hi:X.N[i]?=some x)(hx:Loc X.env.scope x)(r:RelV v u)(h:∀ s',Inv X pQ (σ.set i (some v)) H s'->Q () s')(hf:X.fn x=true\/X.env.scope.names.lookup x=some .local:=by first|exact .inl rfl|exact .inr rfl|assumption):wpAny M A (storeName X.env x u) Q E s:=
  store_ok2 I hN hi hx r (fun s' I' _=>h s' I') hf
theorem Inv.call'{s':Sd}{ch:Li Ad}(I:Inv X pQ σ H s)(ho:s'.os=s.os)(u:Un (frs X.stack) ch H H' s.heap s'.heap)(hok:HOk X.prog X.w H' s'.heap)(hg:AllBare s'.gens)(hch:∀ b∈ch,(b∈X.ex\/X.s₀.heap.objs.size<=b)/\b≠X.env.locals/\(∀ x c,X.env.cells.lookup x=some c->c≠b)/\∀ p∈X.pn++pQ,p.1≠b):Inv X pQ σ H' s':=by
  obtain⟨h',g',d',t',o'⟩:=s';have e:o'=s.os:=ho;subst e;exact I.call (g':=g') (t':=t') (d':=d') u hok hg hch
end

abbrev XK:=vL->Ot Ad->Hp->Prop
noncomputable abbrev St:=Li (Ot V)
abbrev VK:=V->Hp->Prop
abbrev TE:=St->Hp->VK->Prop
abbrev TT:=St->Hp->(Bool->Hp->Prop)->Prop
abbrev TA:=St->Hp->(Li V->Hp->Prop)->Prop
structure Ends where
  nx:St->Hp->Prop
  rt:VK
  bk:St->Hp->Prop:=fun _ _=>False
  ct:St->Hp->Prop:=fun _ _=>False
abbrev TS:=Ends->St->Hp->Prop

def EP(X:Cx)(pQ:Li (Ad×Obj))(σ:St)(Q:VK)(u:vL)(s':Sd):Prop:=∃ v H',Inv X pQ σ H' s'/\RelV v u/\Q v H'
def TP(X:Cx)(pQ:Li (Ad×Obj))(σ:St)(Q:Bool->Hp->Prop)(b:Bool)(s':Sd):Prop:=∃ H',Inv X pQ σ H' s'/\Q b H'
def AP(X:Cx)(pQ:Li (Ad×Obj))(σ:St)(Q:Li V->Hp->Prop)(us:Li vL)(s':Sd):Prop:=∃ vs H',Inv X pQ σ H' s'/\Vals vs us/\Q vs H'
def SP(X:Cx)(pQ:Li (Ad×Obj))(D:Ends)(f:Flow)(s':Sd):Prop:=
  match f with
  |.next=>∃ σ' H',Inv X pQ σ' H' s'/\D.nx σ' H'
  |.brk=>∃ σ' H',Inv X pQ σ' H' s'/\D.bk σ' H'
  |.cont=>∃ σ' H',Inv X pQ σ' H' s'/\D.ct σ' H'
  |.ret u=>∃ v σ' H',Inv X pQ σ' H' s'/\RelV v u/\D.rt v H'

def PE(X:Cx)(e:Expr)(t:TE):Prop:=
  ∀ (pQ:Li (Ad×Obj)) (s:Sd) (σ:St) (H:Hp) (Q:VK),Inv X pQ σ H s->t σ H Q->wpAny (model X.prog X.w) X.A (eval e X.env) (EP X pQ σ Q) X.xe s
def PT(X:Cx)(e:Expr)(t:TT):Prop:=
  ∀ (pQ:Li (Ad×Obj)) (s:Sd) (σ:St) (H:Hp) (Q:Bool->Hp->Prop),Inv X pQ σ H s->t σ H Q->wpAny (model X.prog X.w) X.A (isTrue e X.env (eval e X.env)) (TP X pQ σ Q) X.xe s
def PW(X:Cx)(e:Expr)(t:TT):Prop:=
  ∀ (whole:Sem vL) (pQ:Li (Ad×Obj)) (s:Sd) (σ:St) (H:Hp) (Q:Bool->Hp->Prop),Inv X pQ σ H s->t σ H Q->wpAny (model X.prog X.w) X.A (isTrue e X.env whole) (TP X pQ σ Q) X.xe s
theorem PW.pt{X:Cx}{e:Expr}{t:TT}(h:PW X e t):PT X e t:=h _
def PA(X:Cx)(es:Li Expr)(t:TA):Prop:=
  ∀ (pos:Pos) (pQ:Li (Ad×Obj)) (s:Sd) (σ:St) (H:Hp) (Q:Li V->Hp->Prop),Inv X pQ σ H s->t σ H Q->wpAny (model X.prog X.w) X.A (spliced (backTo pos (starEach es X.env))) (AP X pQ σ Q) X.xe s
def PS(X:Cx)(st:Stmt)(t:TS):Prop:=
  ∀ (pQ:Li (Ad×Obj)) (s:Sd) (σ:St) (H:Hp) (D:Ends),Inv X pQ σ H s->t D σ H->wpAny (model X.prog X.w) X.A (exec st X.env) (SP X pQ D) X.xe s
def PSs(X:Cx)(st:Li Stmt)(t:TS):Prop:=
  ∀ (pQ:Li (Ad×Obj)) (s:Sd) (σ:St) (H:Hp) (D:Ends),Inv X pQ σ H s->t D σ H->wpAny (model X.prog X.w) X.A (execs st X.env) (SP X pQ D) X.xe s
theorem thn{α:Type}{t:Sem α}{Q Q':α->Sd->Prop}{M:Model}{A:Around}{E:vL->Sd->Prop}{s:Sd}(h:wpAny M A t Q E s)(hQ:∀ a s,Q a s->Q' a s):wpAny M A t Q' E s:=wpAny_mono h hQ fun _ _ x=>x
end L2

namespace L2
open PySem PySem.Spec PyProof.Rows
section
variable {X:Cx}


noncomputable def tVar(i:Nat):TE:=fun σ H Q=>∃ v,σ[i]?=some (some v)/\Q v H
noncomputable def tC(v:V):TE:=fun _ H Q=>Q v H
theorem pe_var{i:Nat}{x:Str}{pos:Pos}(hN:X.N[i]?=some x)(hv:Vis X.env.scope x)(hd:(x==("__debug__":Str))=false:=by decide)(hcd:(x==("__classdict__":Str))=false:=by decide):PE X (.Name x pos) (tVar i):=by
  intro pQ s σ H Q I h;obtain⟨v,e,h⟩:=h;obtain⟨m,hn,hl⟩:=I.loc;obtain⟨u,r,l⟩:=hl i x v hN e hv;have fin:EP X pQ σ Q u s:=⟨v,H,I,r,h⟩;rcases l with⟨hk,hm⟩|⟨hk,c,hc,hcell⟩
  · exact wpAny_Name (wpAny_loadName_local I.ok.kind hk hn hm fin) hd
  · rcases hk with hk|hk
    · exact wpAny_Name (wpAny_loadName_cell I.ok.kind hk hc hcell fin) hd
    · exact wpAny_Name (wpAny_loadName_free I.ok.kind hk hc hcell fin hcd) hd
theorem pe_int{i j pos}:PE X (.Constant (.int i) j pos) (tC (.int i)):=fun _ _ _ H _ I h=>wpAny_Constant_int ⟨.int i,H,I.tok _,⟨_,rfl⟩,h⟩
theorem pe_bl{b j pos}:PE X (.Constant (.bool b) j pos) (tC (.bl b)):=fun _ _ _ H _ I h=>Constant_bool ⟨.bl b,H,I,rfl,h⟩
theorem pe_non{j pos}:PE X (.Constant .none j pos) (tC .non):=fun _ _ _ H _ I h=>Constant_none ⟨.non,H,I,rfl,h⟩
theorem pe_str{x j pos}:PE X (.Constant (.str x) j pos) (tC (.str x)):=fun _ _ _ H _ I h=>Calls.Constant_str ⟨.str x,H,I.tok _,⟨_,rfl⟩,h⟩

def Gl(X:Cx)(x:Str):Prop:=X.env.kindOf x=some .globalImplicit
theorem ld_glob{E:vL->Sd->Prop}{pQ:Li (Ad×Obj)}{s:Sd}{σ:St}{H:Hp}{x:Str}{u:vL}{pos:Pos}{Q:vL->Sd->Prop}(I:Inv X pQ σ H s)(hg:Gl X x)(hm:X.mg x=some u)(h:Q u s)(hd:(x==("__debug__":Str))=false:=by decide):wpAny (model X.prog X.w) X.A (eval (.Name x pos) X.env) Q E s:=
  Calls.Name_function_global I.ok.kind hg (Calls.loadGlobal_global (by rw[I.ok.glob];exact I.mod.glob.keeps I.bk) hm h) hd
theorem ld_blt{E:vL->Sd->Prop}{pQ:Li (Ad×Obj)}{s:Sd}{σ:St}{H:Hp}{x:Str}{u:vL}{pos:Pos}{Q:vL->Sd->Prop}(I:Inv X pQ σ H s)(hg:Gl X x)(hm:X.mg x=none)(hv:bootBuiltins x=some u)(h:Q u s)(hn:x ≠ "__name__":=by decide)(hd:(x==("__debug__":Str))=false:=by decide):wpAny (model X.prog X.w) X.A (eval (.Name x pos) X.env) Q E s:=by
  obtain⟨mb,h1,h2⟩:=I.mod.blt;exact Calls.Name_function_global I.ok.kind hg (Calls.loadGlobal_builtin (by rw[I.ok.glob];exact I.mod.glob.keeps I.bk) hm (by rw[I.ok.blt];exact h1.keeps I.bk) ((h2 x hn).trans hv) h) hd
theorem pe_glob{x:Str}{v:V}{u:vL}{pos:Pos}(hg:Gl X x)(hm:X.mg x=some u)(r:RelV v u)(hd:(x==("__debug__":Str))=false:=by decide):PE X (.Name x pos) (tC v):=
  fun _ _ _ H _ I h=>ld_glob I hg hm ⟨v,H,I,r,h⟩ hd
theorem pe_bltn{x:Str}{v:V}{u:vL}{pos:Pos}(hg:Gl X x)(hm:X.mg x=none)(hv:bootBuiltins x=some u)(r:RelV v u)(hn:x ≠ "__name__":=by decide)(hd:(x==("__debug__":Str))=false:=by decide):PE X (.Name x pos) (tC v):=
  fun _ _ _ H _ I h=>ld_blt I hg hm hv ⟨v,H,I,r,h⟩ hn hd

variable {a b:Expr}{ta tb:TE}{pos:Pos}

noncomputable def tB(t:TE):TT:=fun σ H Q=>t σ H fun x H1=>∃ c,x=.bl c/\Q c H1
theorem pt_val{e:Expr}{t:TE}(h:PE X e t)(he:∀ whole,isTrue e X.env whole=(do let v <-whole;standAt e.pos;holding [v] (truthy v)):=by intro _;rfl):PT X e (tB t):=by
  intro pQ s σ H Q I hw;refine isTrue_plain (thn (h pQ s σ H _ I hw) fun v s1 ⟨x,H1,I1,r1,q1⟩=>?_) (he _)
  obtain⟨d,rfl,q⟩:=q1;cases r1;exact wpAny_truthy_bool ⟨H1,I1,q⟩

variable {tA tB':TT}{rest:Li Expr}
noncomputable def tAnd(t u:TT):TT:=fun σ H Q=>t σ H fun c H1=>if c=true then u σ H1 Q else Q false H1
noncomputable def tOr(t u:TT):TT:=fun σ H Q=>t σ H fun c H1=>if c=true then Q true H1 else u σ H1 Q
noncomputable def tNot(t:TT):TT:=fun σ H Q=>t σ H fun c H1=>Q (!c) H1
theorem pw_and1(ha:PT X a tA):PW X (.BoolOp .And [a] pos) tA:=by
  intro wh pQ s σ H Q I h;refine isTrue_and (thn (ha pQ s σ H Q I h) fun c s1 e=>?_)
  cases c with
  |true=>exact isTrue_and_nil e
  |false=>exact e
theorem pw_or1(ha:PT X a tA):PW X (.BoolOp .Or [a] pos) tA:=by
  intro wh pQ s σ H Q I h;refine isTrue_or (thn (ha pQ s σ H Q I h) fun c s1 e=>?_)
  cases c with
  |false=>exact isTrue_or_nil e
  |true=>exact e
theorem pw_and(ha:PT X a tA)(hb:PW X (.BoolOp .And (b :: rest) pos) tB'):PW X (.BoolOp .And (a :: b :: rest) pos) (tAnd tA tB'):=by
  intro wh pQ s σ H Q I h;refine isTrue_and (thn (ha pQ s σ H _ I h) fun c s1 ⟨H1,I1,q1⟩=>?_)
  cases c with
  |true=>exact hb wh pQ s1 σ H1 Q I1 q1
  |false=>exact⟨H1,I1,q1⟩
theorem pw_or(ha:PT X a tA)(hb:PW X (.BoolOp .Or (b :: rest) pos) tB'):PW X (.BoolOp .Or (a :: b :: rest) pos) (tOr tA tB'):=by
  intro wh pQ s σ H Q I h;refine isTrue_or (thn (ha pQ s σ H _ I h) fun c s1 ⟨H1,I1,q1⟩=>?_)
  cases c with
  |true=>exact⟨H1,I1,q1⟩
  |false=>exact hb wh pQ s1 σ H1 Q I1 q1
theorem pt_not(ha:PT X a tA):PT X (.UnaryOp .Not a pos) (tNot tA):=by
  intro pQ s σ H Q I h;exact isTrue_not (ha pQ s σ H (fun c H1=>Q (!c) H1) I h)
noncomputable def tAndV(ta tb:TE):TE:=fun σ H Q=>ta σ H fun x H1=>∃ c,x=.bl c/\if c=true then tb σ H1 Q else Q (.bl false) H1
noncomputable def tOrV(ta tb:TE):TE:=fun σ H Q=>ta σ H fun x H1=>∃ c,x=.bl c/\if c=true then Q (.bl true) H1 else tb σ H1 Q
noncomputable def tNotV(ta:TE):TE:=fun σ H Q=>ta σ H fun x H1=>∃ c,x=.bl c/\Q (.bl (!c)) H1
theorem pe_one{op}{t:TE}(h:PE X a t):PE X (.BoolOp op [a] pos) t:=fun pQ s σ H Q I hw=>BoolOp_one (h pQ s σ H Q I hw)
theorem pe_and(ha:PE X a ta)(hb:PE X (.BoolOp .And (b :: rest) pos) tb):PE X (.BoolOp .And (a :: b :: rest) pos) (tAndV ta tb):=by
  intro pQ s σ H Q I h;refine BoolOp_and (thn (ha pQ s σ H _ I h) fun v s1 ⟨x,H1,I1,r1,q1⟩=>?_)
  obtain⟨c,rfl,q1⟩:=q1;cases r1;refine wpAny_truthy_bool ?_;cases c with
  |true=>exact hb pQ s1 σ H1 Q I1 q1
  |false=>exact⟨.bl false,H1,I1,rfl,q1⟩
theorem pe_or(ha:PE X a ta)(hb:PE X (.BoolOp .Or (b :: rest) pos) tb):PE X (.BoolOp .Or (a :: b :: rest) pos) (tOrV ta tb):=by
  intro pQ s σ H Q I h;refine BoolOp_or (thn (ha pQ s σ H _ I h) fun v s1 ⟨x,H1,I1,r1,q1⟩=>?_)
  obtain⟨c,rfl,q1⟩:=q1;cases r1;refine wpAny_truthy_bool ?_;cases c with
  |false=>exact hb pQ s1 σ H1 Q I1 q1
  |true=>exact⟨.bl true,H1,I1,rfl,q1⟩
theorem pe_not(ha:PE X a ta):PE X (.UnaryOp .Not a pos) (tNotV ta):=by
  intro pQ s σ H Q I h;refine UnaryOp_ (thn (ha pQ s σ H _ I h) fun v s1 ⟨x,H1,I1,r1,q1⟩=>?_)
  obtain⟨c,rfl,q1⟩:=q1;cases r1;exact not_of (wpAny_truthy_bool ⟨.bl (!c),H1,I1,rfl,q1⟩)
noncomputable def tIf(t:TT)(ta tb:TE):TE:=fun σ H Q=>t σ H fun c H1=>if c=true then ta σ H1 Q else tb σ H1 Q
theorem pe_ifExp{c:Expr}(hc:PT X c tA)(ha:PE X a ta)(hb:PE X b tb):PE X (.IfExp c a b pos) (tIf tA ta tb):=by
  intro pQ s σ H Q I h;refine wpAny_IfExp (thn (hc pQ s σ H _ I h) fun d s1 ⟨H1,I1,q1⟩=>?_)
  cases d with
  |true=>exact ha pQ s1 σ H1 Q I1 q1
  |false=>exact hb pQ s1 σ H1 Q I1 q1
end
end L2

namespace L2
open PySem PySem.Spec PyProof.Rows

def SqL(K:Fg)(H:Hp)(a:Ad)(xs:Li V):Prop:=
  Rd H a (.lst xs) \/
    ∃ (o:Obj) (its:Array vL) (n:Nat),K.lookup a=some o/\o.cls=.type "list"/\o.dict=none/\o.data=.seq its n/\its.size<=sizeLine/\Vals xs its.toList
def SqT(K:Fg)(H:Hp)(a:Ad)(xs:Li V):Prop:=
  Rd H a (.tup xs) \/
    ∃ (o:Obj) (its:Array vL) (n:Nat),K.lookup a=some o/\o.cls=.type "tuple"/\o.data=.seq its n/\its.size<=sizeLine/\Vals xs its.toList
noncomputable def absV:vL->Ot V
  |.none=>some .non
  |.bool b=>some (.bl b)
  |.int i _=>some (.int i)
  |.str x _=>some (.str x)
  |.bytes b _=>some (.byt b)
  |.float b _=>some (.flt b)
  |.ref a=>some (.ref a)
  |.type n=>some (.ty n)
  |_=>none
theorem RelV.abs{x:V}{u:vL}(r:RelV x u):absV u=some x:=by
  cases x with
  |non=>cases r;rfl
  |bl _=>cases r;rfl
  |int _=>obtain⟨t,rfl⟩:=r;rfl
  |str _=>obtain⟨t,rfl⟩:=r;rfl
  |byt _=>obtain⟨t,rfl⟩:=r;rfl
  |flt _=>obtain⟨t,rfl⟩:=r;rfl
  |ref _=>cases r;rfl
  |ty _=>cases r;rfl
theorem RelV.inj{x y:V}{u:vL}(r:RelV x u)(q:RelV y u):x=y:=Option.some.inj (r.abs.symm.trans q.abs)
theorem Vals.inj:∀ {xs ys:Li V}{us:Li vL},Vals xs us->Vals ys us->xs=ys
  |_,_,_,.nil,.nil=>rfl
  |_,_,_,.cons r t,.cons r' t'=>by rw[r.inj r',Vals.inj t t']
section
variable {X:Cx}{pQ:Li (Ad×Obj)}{σ:St}{H:Hp}{s:Sd}{a:Ad}{xs ys:Li V}
theorem SqT.of{K:Fg}(h:H a=some (.tup xs)):SqT K H a xs:=.inl (.inl h)
theorem Inv.list(I:Inv X pQ σ H s)(h:SqL X.K H a xs):∃ its:Li vL,Vals xs its/\PlainL s.heap a its.toArray/\xs.length<=sizeLine:=by
  rcases h with h|⟨o,its,n,hk,hc,hd,hs,hz,r⟩
  · obtain⟨z,its,n,r,e⟩:=h.ok I.hok
    exact⟨its,r,⟨_,n,e,rfl,rfl,rfl⟩,z⟩
  · refine⟨its.toList,r,⟨o,n,I.kIn a o hk,hc,hd,by simpa using hs⟩,?_⟩
    have e:=r.length;simp only[Array.length_toList]at e;omega
theorem Inv.tuple(I:Inv X pQ σ H s)(h:SqT X.K H a xs):∃ its:Li vL,Vals xs its/\IsTup s.heap a its.toArray/\xs.length<=sizeLine:=by
  rcases h with h|⟨o,its,n,hk,hc,hs,hz,r⟩
  · obtain⟨z,its,r,p⟩:=h.ok I.hok
    exact⟨its,r,p,z⟩
  · refine⟨its.toList,r,⟨o,I.kIn a o hk,hc,n,by simpa using hs⟩,?_⟩
    have e:=r.length;simp only[Array.length_toList]at e;omega
theorem Inv.list_inj(I:Inv X pQ σ H s)(h:SqL X.K H a xs)(h':SqL X.K H a ys):xs=ys:=by
  obtain⟨its,r,⟨o,n,e,_,_,d⟩,_⟩:=I.list h;obtain⟨its',r',⟨o',n',e',_,_,d'⟩,_⟩:=I.list h';rw[e]at e';cases e'
  rw[d]at d'
  injection d' with d1 _
  have:its=its':=by simpa using congrArg Array.toList d1
  subst this;exact r.inj r'
theorem Inv.tuple_inj(I:Inv X pQ σ H s)(h:SqT X.K H a xs)(h':SqT X.K H a ys):xs=ys:=by
  obtain⟨its,r,⟨o,e,_,n,d⟩,_⟩:=I.tuple h;obtain⟨its',r',⟨o',e',_,n',d'⟩,_⟩:=I.tuple h';rw[e]at e';cases e'
  rw[d]at d'
  injection d' with d1 _
  have:its=its':=by simpa using congrArg Array.toList d1
  subst this;exact r.inj r'
end

noncomputable abbrev Cx.wish(X:Cx)(E:vL->Sd->Prop):Cx:={ X with xe:=E }
noncomputable abbrev Cx.nox(X:Cx):Cx:=X.wish fun _ _=>False
theorem Cx.Ok.wish{X:Cx}(ok:X.Ok)(E:vL->Sd->Prop):(X.wish E).Ok:=
  ⟨ok.mod,ok.kind,ok.glob,ok.blt,ok.above,ok.inj,ok.has,ok.cab,ok.hd,ok.frames,ok.stk,ok.exf,ok.bs,ok.bsz,ok.noex,ok.exfs,ok.funs,ok.frf⟩
theorem Cx.Ok.unwish{X:Cx}{E:vL->Sd->Prop}(ok:(X.wish E).Ok):X.Ok:=
  ⟨ok.mod,ok.kind,ok.glob,ok.blt,ok.above,ok.inj,ok.has,ok.cab,ok.hd,ok.frames,ok.stk,ok.exf,ok.bs,ok.bsz,ok.noex,ok.exfs,ok.funs,ok.frf⟩
section
variable {X:Cx}{pQ:Li (Ad×Obj)}{σ:St}{H:Hp}{s:Sd}{E:vL->Sd->Prop}
theorem Inv.wish(I:Inv X pQ σ H s)(E:vL->Sd->Prop):Inv (X.wish E) pQ σ H s:=⟨I.ok.wish E,I.os,I.bare,I.base,I.loc,I.cell,I.free,I.freeC,I.pin,I.hok,I.len⟩
theorem Inv.unwish(I:Inv (X.wish E) pQ σ H s):Inv X pQ σ H s:=⟨I.ok.unwish,I.os,I.bare,I.base,I.loc,I.cell,I.free,I.freeC,I.pin,I.hok,I.len⟩
theorem SP.unwish{D:Ends}{f:Flow}{s':Sd}(h:SP (X.wish E) pQ D f s'):SP X pQ D f s':=by
  cases f with
  |next=>obtain⟨σ',H',I,q⟩:=h;exact⟨σ',H',I.unwish,q⟩
  |brk=>obtain⟨σ',H',I,q⟩:=h;exact⟨σ',H',I.unwish,q⟩
  |cont=>obtain⟨σ',H',I,q⟩:=h;exact⟨σ',H',I.unwish,q⟩
  |ret u=>obtain⟨v,σ',H',I,r,q⟩:=h;exact⟨v,σ',H',I.unwish,r,q⟩
theorem PSs.nox{st:Li Stmt}{t:TS}(h:PSs X.nox st t):PSs X st t:=fun pQ s σ H D I hw=>
  wpAny_mono (h pQ s σ H D (I.wish _) hw) (fun _ _ q=>q.unwish) fun _ _ z=>False.elim z
end

section
variable {X:Cx}{st:Stmt}{rest:Li Stmt}{t u:TS}{e:Expr}{te:TE}{pos:Pos}
noncomputable def tNext:TS:=fun D σ H=>D.nx σ H
noncomputable def tSeq(t u:TS):TS:=fun D σ H=>t { D with nx:=u D } σ H
theorem pss_nil:PSs X [] tNext:=fun _ _ σ H _ I h=>wpAny_execs_nil ⟨σ,H,I,h⟩
theorem pss_cons(h1:PS X st t)(h2:PSs X rest u):PSs X (st :: rest) (tSeq t u):=by
  intro pQ s σ H D I h;refine wpAny_execs_cons (thn (h1 pQ s σ H { D with nx:=u D } I h) fun f s1 q=>?_)
  cases f with
  |next=>
    obtain⟨σ',H',I',q⟩:=q;exact h2 pQ s1 σ' H' D I' q
  |ret v=>exact q
  |brk=>exact q
  |cont=>exact q
noncomputable def tBreak:TS:=fun D σ H=>D.bk σ H
noncomputable def tCont:TS:=fun D σ H=>D.ct σ H
theorem ps_pass:PS X (.Pass pos) tNext:=fun _ _ σ H _ I h=>wpAny_Pass ⟨σ,H,I,h⟩
theorem ps_break:PS X (.Break pos) tBreak:=fun _ _ σ H _ I h=>wpAny_Break ⟨σ,H,I,h⟩
theorem ps_continue:PS X (.Continue pos) tCont:=fun _ _ σ H _ I h=>wpAny_Continue ⟨σ,H,I,h⟩
theorem Inv.quiet{pQ:Li (Ad×Obj)}{σ:St}{H:Hp}{s:Sd}(I:Inv X pQ σ H s):interactive X.env=false:=by simp[interactive,I.ok.kind]
noncomputable def tDrop(te:TE):TS:=fun D σ H=>te σ H fun _ H1=>D.nx σ H1
theorem ps_expr(he:PE X e te)(hs:swapsWith e none pos.line X.env=pure false:=by rfl):PS X (.Expr e pos) (tDrop te):=by
  intro pQ s σ H D I h;exact wpAny_Expr_any (thn (he pQ s σ H _ I h) fun v s1 ⟨x,H1,I1,r1,q1⟩=>⟨σ,H1,I1,q1⟩) I.quiet hs
noncomputable def tRet(te:TE):TS:=fun D σ H=>te σ H D.rt
theorem ps_ret(he:PE X e te):PS X (.Return (some e) pos) (tRet te):=by
  intro pQ s σ H D I h;exact wpAny_Return_some (thn (he pQ s σ H _ I h) fun v s1 ⟨x,H1,I1,r1,q1⟩=>⟨x,σ,H1,I1,r1,q1⟩)
noncomputable def tIfS(c:TT)(t u:TS):TS:=fun D σ H=>c σ H fun b H1=>if b=true then t D σ H1 else u D σ H1
theorem ps_if{c:Expr}{a b:Li Stmt}{tc:TT}(hc:PT X c tc)(ha:PSs X a t)(hb:PSs X b u):PS X (.If c a b pos) (tIfS tc t u):=by
  intro pQ s σ H D I h;refine wpAny_If (thn (hc pQ s σ H _ I h) fun d s1 ⟨H1,I1,q1⟩=>?_)
  cases d with
  |true=>exact ha pQ s1 σ H1 D I1 q1
  |false=>exact hb pQ s1 σ H1 D I1 q1
end

abbrev TG:=V->St->Hp->(St->Hp->Prop)->Prop
abbrev TGs:=Li V->St->Hp->(St->Hp->Prop)->Prop
def PG(X:Cx)(target:Expr)(t:TG):Prop:=
  ∀ (pQ:Li (Ad×Obj)) (s:Sd) (σ:St) (H:Hp) (v:V) (u:vL) (Q:St->Hp->Prop),Inv X pQ σ H s->RelV v u->t v σ H Q->
    wpAny (model X.prog X.w) X.A (assign target X.env u) (fun _ s'=>∃ σ' H',Inv X pQ σ' H' s'/\Q σ' H') X.xe s
def PGs(X:Cx)(ts:Li Expr)(t:TGs):Prop:=
  ∀ (pQ:Li (Ad×Obj)) (s:Sd) (σ:St) (H:Hp) (vs:Li V) (us:Li vL) (Q:St->Hp->Prop),Inv X pQ σ H s->Vals vs us->t vs σ H Q->
    wpAny (model X.prog X.w) X.A (assignInOrder ((assignEach ts X.env).map (·.2)) us) (fun _ s'=>∃ σ' H',Inv X pQ σ' H' s'/\Q σ' H') X.xe s
abbrev TSet:=V->V->V->Hp->(Hp->Prop)->Prop
def PSet(X:Cx)(t:TSet):Prop:=
  ∀ (pQ:Li (Ad×Obj)) (s:Sd) (σ:St) (H:Hp) (o i v:V) (ov iv u:vL) (Q:Hp->Prop),Inv X pQ σ H s->RelV o ov->RelV i iv->RelV v u->t o i v H Q->
    wpAny (model X.prog X.w) X.A (setItem ov iv u) (fun _ s'=>∃ H',Inv X pQ σ H' s'/\Q H') X.xe s
section
variable {X:Cx}{pos:Pos}
noncomputable def gName(i:Nat):TG:=fun v σ H Q=>Q (σ.set i (some v)) H
theorem pg_name{i:Nat}{x:Str}(hN:X.N.Nodup)(hi:X.N[i]?=some x)(hx:Loc X.env.scope x)(hf:X.fn x=true\/X.env.scope.names.lookup x=some .local:=by first|exact .inl rfl|exact .inr rfl|assumption):PG X (.Name x pos) (gName i):=by
  intro pQ s σ H v u Q I r h;exact wpAny_assign_Name (store_ok I hN hi hx r (fun s' I'=>⟨_,H,I',h⟩) hf)
noncomputable def gNil:TGs:=fun vs σ H Q=>vs=[]/\Q σ H
noncomputable def gCons(t:TG)(u:TGs):TGs:=fun vs σ H Q=>∃ v r,vs=v :: r/\t v σ H fun σ' H'=>u r σ' H' Q
theorem pgs_nil:PGs X [] gNil:=by
  intro pQ s σ H vs us Q I r h;obtain⟨e,h⟩:=h;subst e;cases r;exact assignInOrder_nil ⟨σ,H,I,h⟩
theorem pgs_cons{e:Expr}{es:Li Expr}{t:TG}{u:TGs}(h1:PG X e t)(h2:PGs X es u)(hs:(assignEach (e :: es) X.env).map (·.2)=assign e X.env :: (assignEach es X.env).map (·.2):=by rfl):PGs X (e :: es) (gCons t u):=by
  intro pQ s σ H vs us Q I r h;obtain⟨v,vr,e1,h⟩:=h;subst e1;cases r with
  |cons r rr=>
    rw[hs];refine assignInOrder_cons (thn (h1 pQ s σ H _ _ _ I r h) fun _ s1 ⟨σ1,H1,I1,q1⟩=>?_)
    exact h2 pQ s1 σ1 H1 _ _ Q I1 rr q1
noncomputable def gTup(K:Fg)(n:Nat)(t:TGs):TG:=fun v σ H Q=>∃ a xs,v=.ref a/\SqT K H a xs/\xs.length=n/\t xs σ H Q
theorem pg_tup{es:Li Expr}{k:Nat}{t:TGs}{n:Nat}(hc:X.calm=true)(h:PGs X es t)(hn:(assignEach es X.env).length=n:=by rfl)(hst:(assignEach es X.env).findIdx? (·.1)=none:=by rfl):PG X (.Tuple es k pos) (gTup X.K n t):=by
  intro pQ s σ H v u Q I r hw;obtain⟨a,xs,e1,hq,hl,hw⟩:=hw;subst e1;cases r;obtain⟨its,rv,ht,hz⟩:=I.tuple hq;refine assign_Tuple_tuple (I.ok.hd hc) ht (by simp[hn,<-hl,rv.length]) hst fun h' hx=>?_
  have I1:Inv X pQ σ H { s with heap:=h' }:=I.kept (t':=s.toks) fun b o e=>hx b o (Nat.ne_of_lt (Heap.lt_size e)) e
  exact h pQ _ σ H xs _ Q I1 (by simpa using rv) hw
noncomputable def gSub(to ti:TE)(t:TSet):TG:=fun v σ H Q=>to σ H fun o H1=>ti σ H1 fun i H2=>t o i v H2 fun H3=>Q σ H3
theorem pg_sub{o i:Expr}{to ti:TE}{t:TSet}(ho:PE X o to)(hi:PE X i ti)(hs:PSet X t)(ha:∀ v,assign (.Subscript o i pos) X.env v=(do
      let ov <-holding [v] (eval o X.env)
      let iv <-holding [v,ov] (eval i X.env)
      standAt pos
      holding [v,ov,iv] (setItem ov iv v)
      release [v,ov,iv] []):=by intro _;rfl):PG X (.Subscript o i pos) (gSub to ti t):=by
  intro pQ s σ H v u Q I r h;rw[ha];refine wpAny_bind (wpAny_holding (thn (ho pQ s σ H _ I h) fun ov s1 ⟨x,H1,I1,r1,q1⟩=>?_))
  refine wpAny_bind (wpAny_holding (thn (hi pQ s1 σ H1 _ I1 q1) fun iv s2 ⟨y,H2,I2,r2,q2⟩=>?_))
  refine wpAny_bind (wpAny_standAt (wpAny_bind (wpAny_holding (thn (hs pQ s2 σ H2 x y v ov iv u _ I2 r1 r2 r q2) fun _ s3 ⟨H3,I3,q3⟩=>?_))))
  exact wpAny_release ⟨σ,H3,I3,q3⟩
noncomputable def tAsg(te:TE)(g:TG):TS:=fun D σ H=>te σ H fun x H1=>g x σ H1 D.nx
theorem ps_asg{tg e:Expr}{te:TE}{g:TG}(he:PE X e te)(hg:PG X tg g)(hs:swapsWithSole [tg] e pos.line X.env=pure false:=by rfl)(hw:swappedStores [tg] e X.env=pure none:=by rfl)(h1:(assignEach [tg] X.env).map (·.2)=[assign tg X.env]:=by rfl):PS X (.Assign [tg] e pos) (tAsg te g):=by
  intro pQ s σ H D I h;refine wpAny_Assign_stores (thn (he pQ s σ H _ I h) fun v s1 ⟨x,H1,I1,r1,q1⟩=>?_) hs hw
  rw[h1];exact thn (hg pQ s1 σ H1 x v _ I1 r1 q1) fun _ s2 q=>q
theorem ps_set{i:Nat}{x:Str}{e:Expr}{te:TE}{pos':Pos}(hN:X.N.Nodup)(hi:X.N[i]?=some x)(hx:Loc X.env.scope x)(he:PE X e te)(hs:swapsWith e (some (.Name x pos')) pos.line X.env=pure false:=by rfl)(hf:X.fn x=true\/X.env.scope.names.lookup x=some .local:=by first|exact .inl rfl|exact .inr rfl|assumption) :
    PS X (.Assign [.Name x pos'] e pos) (tAsg te (gName i)):=by
  intro pQ s σ H D I h;refine wpAny_Assign_Name (thn (he pQ s σ H _ I h) fun v s1 ⟨y,H1,I1,r1,q1⟩=>?_) hs
  exact store_ok I1 hN hi hx r1 (fun s2 I2=>⟨_,H1,I2,q1⟩) hf
end

section
variable {X:Cx}{pos:Pos}
end

structure It where
  go:Nat->Hp->Prop
  yld:Nat->Hp->V->Hp->Prop
  stop:Nat->Hp->Prop
def FpOk(X:Cx)(pQ:Li (Ad×Obj))(H:Hp)(b:Ad):Prop:=
  H b=none/\b≠X.env.locals/\b∉X.fs/\(b∈X.ex\/X.s₀.heap.objs.size<=b)/\(∀ x c,X.env.cells.lookup x=some c->c≠b)/\∀ p∈X.pn++pQ,p.1≠b
theorem Inv.fpOk{X:Cx}{pQ:Li (Ad×Obj)}{σ:St}{H H':Hp}{s:Sd}{b:Ad}(I:Inv X pQ σ H s)(hb:s.heap.objs.size<=b)(hn:H' b=none):FpOk X pQ H' b:=by
  refine⟨hn,Nat.ne_of_gt (Nat.lt_of_lt_of_le I.lt hb),I.nofs hb,.inr (Nat.le_trans I.sz hb),fun x c e z=>?_,fun p hp z=>?_⟩
  · obtain⟨v,q⟩:=I.cell x c e
    exact absurd (Nat.lt_of_lt_of_le q.lt (by rw[z];exact hb)) (Nat.lt_irrefl _)
  · exact absurd (Nat.lt_of_lt_of_le (Heap.lt_size (I.pin p hp).1) (by rw[z];exact hb)) (Nat.lt_irrefl _)
structure Turn(P:Program)(w:World)(K:Fg)(tg:Expr)(J:It)(fp:List Addr)(it:Addr)(tn:Nat->Heap->Prop):Prop where
  mem:it∈fp
  obj:∀ i h,tn i h->∀ b∈fp,∃ o,h.get? b=some o/\∀ v,o.data≠.cell v
  keep:∀ i h h',tn i h->(∀ b∈fp,∀ o,h.get? b=some o->h'.get? b=some o)->tn i h'
  item:∀ (X:Cx),X.prog=P->X.w=w->X.K=K->X.calm=true->∀ (i:Nat) (pQ:List (Addr×Obj)) (s:Shared) (σ:St) (H:Hp) (E:Value->Shared->Prop),Inv X pQ σ H s->(∀ b∈fp,FpOk X pQ H b)->tn i s.heap->J.go i H->
    wpAny (model P w) X.A (pyNext (.ref it)) (fun r s1=>∃ u,r=some u /\
      wpAny (model P w) X.A (letOwnedTupleGo tg (.ref it) u) (fun _ s2=>∃ x H',Inv X pQ σ H' s2/\RelV x u/\J.yld i H x H'/\tn (i+1) s2.heap/\∀ b∈fp,H' b=none) E s1) E s
  done:∀ (X:Cx),X.prog=P->X.w=w->X.K=K->X.calm=true->∀ (i:Nat) (pQ:List (Addr×Obj)) (s:Shared) (σ:St) (H:Hp) (E:Value->Shared->Prop),Inv X pQ σ H s->(∀ b∈fp,FpOk X pQ H b)->tn i s.heap->J.stop i H->
    wpAny (model P w) X.A (pyNext (.ref it)) (fun r s1=>r=none/\Inv X pQ σ H s1) E s
  self:∀ (A:Around) (i:Nat) (s:Shared) (Q:Value->Shared->Prop) (E:Value->Shared->Prop),tn i s.heap->Q (.ref it) s->wpAny (model P w) A (pyIter (.ref it)) Q E s
abbrev TI:=St->Hp->(It->Hp->Prop)->Prop
def PIE(X:Cx)(pQ:Li (Ad×Obj))(σ:St)(tg:Expr)(R:It->Hp->Prop)(itv:vL)(s2:Sd):Prop:=
  ∃ (it:Ad) (fp:Li Ad) (tn:Nat->Heap->Prop) (J:It) (H':Hp),itv=.ref it/\Inv X pQ σ H' s2/\Turn X.prog X.w X.K tg J fp it tn/\tn 0 s2.heap/\(∀ b∈fp,FpOk X pQ H' b)/\R J H'
def PI(X:Cx)(tg iter:Expr)(wi:TI):Prop:=
  ∀ (pQ:Li (Ad×Obj)) (s:Sd) (σ:St) (H:Hp) (R:It->Hp->Prop),Inv X pQ σ H s->wi σ H R->
    wpAny (model X.prog X.w) X.A (eval iter X.env) (fun v s1=>wpAny (model X.prog X.w) X.A (pyIter v) (PIE X pQ σ tg R) X.xe s1) X.xe s

theorem go_of{M:Model}{A:Around}{E:vL->Sd->Prop}{s:Sd}{tg:Expr}{it:Ad}{u:vL}{o:Obj}{n:String}{vs:Array vL}{Q:Unit->Sd->Prop}(ho:s.heap.get? it=some o)(hc:o.cls=.type n)(hd:o.data=.fields vs)(hn:["enumerate", "zip", "dict_itemiterator", "dict_reverseitemiterator", "odict_iterator", "itertools.zip_longest", "itertools.pairwise"].contains n=false)(hQ:Q () s):wpAny M A (letOwnedTupleGo tg (.ref it) u) Q E s:=by
  unfold letOwnedTupleGo;cases tg<;>first
    |exact wpAny_pure hQ
    | (cases u<;>first
        |exact wpAny_pure hQ
        | (refine wpAny_bind (wpAny_load ho ?_)
           rw[hc,hd];show wpAny M A (if (["enumerate", "zip", "dict_itemiterator", "dict_reverseitemiterator", "odict_iterator", "itertools.zip_longest", "itertools.pairwise"].contains n&&vs[0]?==some (rawInt _))=true then _ else _) Q E s
           rw[if_neg (by intro h;rw[hn,Bool.false_and]at h;cases h)]
           exact wpAny_pure hQ))

noncomputable def Itl(K:Fg)(a:Ad):It:=
  ⟨fun i H=>∃ xs x,SqL K H a xs/\xs[i]?=some x,fun i H x H'=>H'=H/\∀ xs,SqL K H a xs->xs[i]?=some x,fun i H=>∃ xs,SqL K H a xs/\xs.length<=i⟩
noncomputable def Itt(K:Fg)(a:Ad):It:=
  ⟨fun i H=>∃ xs x,SqT K H a xs/\xs[i]?=some x,fun i H x H'=>H'=H/\∀ xs,SqT K H a xs->xs[i]?=some x,fun i H=>∃ xs,SqT K H a xs/\xs.length<=i⟩
noncomputable def Itr(lo:Int)(n:Nat):It:=⟨fun i _=>i < n,fun i H x H'=>H'=H/\x=.int (lo+i),fun i _=>n<=i⟩
theorem turn_list{P:Program}{w:World}{K:Fg}{tg:Expr}(a it:Ad):Turn P w K tg (Itl K a) [it] it (fun i h=>h.IsListIter it a i) where
  mem:=by simp
  obj:=fun i h st b hb=>by
    have e:b=it:=by simpa using hb
    subst e;obtain⟨o,e,c,d⟩:=st;exact⟨o,e,fun v z=>by rw[d]at z;cases z⟩
  keep:=fun i h h' st k=>st.at fun o e=>k it (by simp) o e
  item:=by
    intro X hP hw hK hc i pQ s σ H E I hf st hg;subst hP hw hK;obtain⟨xs,x,hq,hx⟩:=hg;obtain⟨its,rv,p,hz⟩:=I.list hq;obtain⟨u,hu,ru⟩:=rv.get hx;obtain⟨f0,f1,f2,f3,f4,f5⟩:=hf it (by simp)
    refine wpAny_pyNext_list_item st p.isList (x:=u) (by simpa using hu) fun h' st' sb=>?_
    have I1:Inv X pQ σ H { s with heap:=h' }:=I.turned (t':=s.toks) (fun b o hb e=>(sb.2 b hb).trans e) f0 f1 f3 f4 f5
    obtain⟨o,e,c,d⟩:=id st';exact⟨u,rfl,go_of (s:={ s with heap:=h' }) e c d (by decide) ⟨x,H,I1,ru,⟨rfl,fun ys hy=>by rw[I.list_inj hy hq];exact hx⟩,st',fun b hb=>(hf b hb).1⟩⟩
  done:=by
    intro X hP hw hK hc i pQ s σ H E I hf st hg;subst hP hw hK;obtain⟨xs,hq,hx⟩:=hg;obtain⟨its,rv,p,hz⟩:=I.list hq;obtain⟨f0,f1,f2,f3,f4,f5⟩:=hf it (by simp)
    have hl:=rv.length;exact wpAny_pyNext_list_end (I.ok.hd hc) st p.isList (by simp;omega) fun h' eb=>⟨rfl,I.turned (t':=s.toks) (fun b o hb e=>eb b o hb e) f0 f1 f3 f4 f5⟩
  self:=fun _ _ _ _ _ st h=>wpAny_pyIter_listiter st h
theorem turn_tuple{P:Program}{w:World}{K:Fg}{tg:Expr}(a it:Ad):Turn P w K tg (Itt K a) [it] it (fun i h=>h.IsTupleIter it a i) where
  mem:=by simp
  obj:=fun i h st b hb=>by
    have e:b=it:=by simpa using hb
    subst e;obtain⟨o,e,c,d⟩:=st;exact⟨o,e,fun v z=>by rw[d]at z;cases z⟩
  keep:=fun i h h' st k=>st.at fun o e=>k it (by simp) o e
  item:=by
    intro X hP hw hK hc i pQ s σ H E I hf st hg;subst hP hw hK;obtain⟨xs,x,hq,hx⟩:=hg;obtain⟨its,rv,p,hz⟩:=I.tuple hq;obtain⟨u,hu,ru⟩:=rv.get hx;obtain⟨f0,f1,f2,f3,f4,f5⟩:=hf it (by simp)
    refine wpAny_pyNext_tuple_item st (show s.heap.IsTuple a its.toArray from p) (x:=u) (by simpa using hu) fun h' st' sb=>?_
    have I1:Inv X pQ σ H { s with heap:=h' }:=I.turned (t':=s.toks) (fun b o hb e=>(sb.2 b hb).trans e) f0 f1 f3 f4 f5
    obtain⟨o,e,c,d⟩:=id st';exact⟨u,rfl,go_of (s:={ s with heap:=h' }) e c d (by decide) ⟨x,H,I1,ru,⟨rfl,fun ys hy=>by rw[I.tuple_inj hy hq];exact hx⟩,st',fun b hb=>(hf b hb).1⟩⟩
  done:=by
    intro X hP hw hK hc i pQ s σ H E I hf st hg;subst hP hw hK;obtain⟨xs,hq,hx⟩:=hg;obtain⟨its,rv,p,hz⟩:=I.tuple hq;obtain⟨f0,f1,f2,f3,f4,f5⟩:=hf it (by simp)
    have hl:=rv.length;exact wpAny_pyNext_tuple_end (I.ok.hd hc) st (show s.heap.IsTuple a its.toArray from p) (by simp;omega) fun h' eb=>⟨rfl,I.turned (t':=s.toks) (fun b o hb e=>eb b o hb e) f0 f1 f3 f4 f5⟩
  self:=fun _ _ _ _ _ st h=>wpAny_pyIter_tupleiter st h
theorem turn_range{P:Program}{w:World}{K:Fg}{tg:Expr}(it:Ad)(lo:Int)(n:Nat):Turn P w K tg (Itr lo n) [it] it (fun i h=>IsRangeIter h it (lo+(i:Nat) * 1) ((n:Int) - (i:Nat)) 1) where
  mem:=by simp
  obj:=fun i h st b hb=>by
    have e:b=it:=by simpa using hb
    subst e;exact⟨_,st,fun v z=>by
      have z':Data.fields _=Data.cell v:=z;cases z'⟩
  keep:=fun i h h' st k=>k it (by simp) _ st
  item:=by
    intro X hP hw hK hc i pQ s σ H E I hf st hg;subst hP hw hK;obtain⟨f0,f1,f2,f3,f4,f5⟩:=hf it (by simp)
    have W:=Walks.range (prog:=X.prog) (w:=X.w) (I.ok.hd hc) it lo 1 n;refine W.item i s _ _ hg st fun v h' tk hv st' kk=>?_
    obtain⟨t,rfl⟩:=hv;have I1:Inv X pQ σ H { s with heap:=h',toks:=tk }:=I.turned (fun b o hb e=>kk b o (by simpa using hb) e) f0 f1 f3 f4 f5
    refine⟨_,rfl,go_of (s:={ s with heap:=h',toks:=tk }) (n := "range_iterator") st' rfl rfl (by decide) ⟨.int (lo+i),H,I1,⟨t,?_⟩,⟨rfl,rfl⟩,st',fun b hb=>(hf b hb).1⟩⟩
    rw[Int.mul_one]
  done:=by
    intro X hP hw hK hc i pQ s σ H E I hf st hg;subst hP hw hK;obtain⟨f0,f1,f2,f3,f4,f5⟩:=hf it (by simp)
    exact wpAny_pyNext_range_end (I.ok.hd hc) st (by have:n<=i:=hg;omega) fun h' eb=>⟨rfl,I.turned (t':=s.toks) (fun b o hb e=>eb b o hb e) f0 f1 f3 f4 f5⟩
  self:=fun _ _ _ _ _ st h=>wpAny_pyIter_rangeiter st h
end L2

namespace L2
open PySem PySem.Spec PyProof.Rows
section
variable {X:Cx}{tg:Expr}
noncomputable def iList(K:Fg)(tl:TE):TI:=fun σ H R=>tl σ H fun x H1=>∃ a,x=.ref a/\(∃ xs,SqL K H1 a xs)/\R (Itl K a) H1
noncomputable def iTup(K:Fg)(tl:TE):TI:=fun σ H R=>tl σ H fun x H1=>∃ a,x=.ref a/\(∃ xs,SqT K H1 a xs)/\R (Itt K a) H1
theorem pi_list{l:Expr}{tl:TE}(hl:PE X l tl):PI X tg l (iList X.K tl):=by
  intro pQ s σ H R I h;refine thn (hl pQ s σ H _ I h) fun v s1 ⟨x,H1,I1,r1,q1⟩=>?_
  obtain⟨a,e,⟨xs,hq⟩,q⟩:=q1;subst e;cases r1;obtain⟨its,rv,p,hz⟩:=I1.list hq;refine wpAny_pyIter_list p.isList ?_;refine⟨s1.heap.objs.size,[s1.heap.objs.size],_,_,H1,rfl,I1.kept (t':=s1.toks) fun b o e=>Heap.get?_push_of_some _ e,turn_list a _,⟨_,Heap.get?_push_size _ rfl,rfl,rfl⟩,fun b hb=>?_,q⟩
  have e:b=s1.heap.objs.size:=by simpa using hb
  subst e;exact I1.fpOk (Nat.le_refl _) (I1.hok.fresh (Nat.le_refl _))
theorem pi_tup{l:Expr}{tl:TE}(hl:PE X l tl):PI X tg l (iTup X.K tl):=by
  intro pQ s σ H R I h;refine thn (hl pQ s σ H _ I h) fun v s1 ⟨x,H1,I1,r1,q1⟩=>?_
  obtain⟨a,e,⟨xs,hq⟩,q⟩:=q1;subst e;cases r1;obtain⟨its,rv,p,hz⟩:=I1.tuple hq;refine wpAny_pyIter_tuple (show s1.heap.IsTuple a its.toArray from p) ?_;refine⟨s1.heap.objs.size,[s1.heap.objs.size],_,_,H1,rfl,I1.kept (t':=s1.toks) fun b o e=>Heap.get?_push_of_some _ e,turn_tuple a _,⟨_,Heap.get?_push_size _ rfl,rfl,rfl⟩,fun b hb=>?_,q⟩
  have e:b=s1.heap.objs.size:=by simpa using hb
  subst e;exact I1.fpOk (Nat.le_refl _) (I1.hok.fresh (Nat.le_refl _))
theorem range_it{pQ:Li (Ad×Obj)}{σ:St}{H:Hp}{s:Sd}{R:It->Hp->Prop}{E:vL->Sd->Prop}{lo hi:Int}{t u v:Tok}{tk:Nat}(I:Inv X pQ σ H s)(h1:-(2 ^ 62)<=lo)(h2:lo < 2 ^ 62)(h3:-(2 ^ 62)<=hi)(h4:hi < 2 ^ 62)(q:R (Itr lo (hi - lo).toNat) H):wpAny (model X.prog X.w) X.A (pyIter (.ref s.heap.objs.size)) (PIE X pQ σ tg R) E { s with heap:=s.heap.push { cls:=.type "range",data:=.fields #[.int lo t,.int hi u,.int 1 v] },toks:=tk }:=by
  refine wpAny_pyIter_range (IsRange.new ..) (small_one h1 h2 h3 h4) ?_;have I1:Inv X pQ σ H { s with heap:=s.heap.push { cls:=.type "range",data:=.fields #[.int lo t,.int hi u,.int 1 v] },toks:=tk }:=I.kept fun b o e=>Heap.get?_push_of_some _ e
  refine⟨(s.heap.push { cls:=.type "range",data:=.fields #[.int lo t,.int hi u,.int 1 v] }).objs.size,[(s.heap.push { cls:=.type "range",data:=.fields #[.int lo t,.int hi u,.int 1 v] }).objs.size],_,_,H,rfl,
    I1.kept (t':=tk) fun b o e=>Heap.get?_push_of_some _ e,turn_range _ lo (hi - lo).toNat,?_,fun b hb=>?_,q⟩
  · have e1:lo+((0:Nat):Int) * 1=lo:=by simp
    have e2:(((hi - lo).toNat:Nat):Int) - ((0:Nat):Int)=Builtin.Range.rangeSize lo hi 1:=by rw[rangeSize_one];split<;>omega
    show IsRangeIter _ _ (lo+((0:Nat):Int) * 1) ((((hi - lo).toNat:Nat):Int) - ((0:Nat):Int)) 1;rw[e1,e2];exact Heap.get?_push_size _ rfl
  · have e:b=(s.heap.push { cls:=.type "range",data:=.fields #[.int lo t,.int hi u,.int 1 v] }).objs.size:=by simpa using hb
    subst e;exact I1.fpOk (Nat.le_refl _) (I1.hok.fresh (Nat.le_refl _))
noncomputable def iRng1(ta:TA):TI:=fun σ H R=>ta σ H fun vs H1=>∃ j:Int,vs=[.int j]/\-(2 ^ 62)<=j/\j < 2 ^ 62/\R (Itr 0 j.toNat) H1
noncomputable def iRng2(ta:TA):TI:=fun σ H R=>ta σ H fun vs H1=>∃ i j:Int,vs=[.int i,.int j]/\(-(2 ^ 62)<=i/\i < 2 ^ 62/\-(2 ^ 62)<=j/\j < 2 ^ 62)/\R (Itr i (j - i).toNat) H1
theorem pi_range1{a:Expr}{ta:TA}{p pos:Pos}(hg:Gl X "range")(hm:X.mg "range"=none)(ha:PA X [a] ta)(hs:starEach [a] X.env=[(false,eval a X.env)]:=by rfl):PI X tg (.Call (.Name "range" p) [a] [] pos) (iRng1 ta):=by
  intro pQ s σ H R I h;refine Call_ (ld_blt I hg hm boot_range (PyProof.Rows.callWith_type1 (thn (ha pos pQ s σ H _ I h) fun us s1 ⟨vs,H1,I1,r1,q1⟩=>?_) hs rfl))
  obtain⟨j,e,q1,q2,q⟩:=q1;subst e;cases r1 with
  |cons r rr=>
    cases rr;obtain⟨t,rfl⟩:=r;exact call_range_1 (range_it I1 (by omega) (by omega) q1 q2 (by simpa using q))
theorem pi_range2{a b:Expr}{ta:TA}{p pos:Pos}(hg:Gl X "range")(hm:X.mg "range"=none)(ha:PA X [a,b] ta)(hs:starEach [a,b] X.env=[(false,eval a X.env),(false,eval b X.env)]:=by rfl)(hs2:starEach [b] X.env=[(false,eval b X.env)]:=by rfl) :
    PI X tg (.Call (.Name "range" p) [a,b] [] pos) (iRng2 ta):=by
  intro pQ s σ H R I h;refine Call_ (ld_blt I hg hm boot_range (PyProof.Rows.callWith_type1 (thn (ha pos pQ s σ H _ I h) fun us s1 ⟨vs,H1,I1,r1,q1⟩=>?_) (by rw[hs,hs2]) (by rw[hs2];rfl)))
  obtain⟨i,j,e,⟨q1,q2,q3,q4⟩,q⟩:=q1;subst e;cases r1 with
  |cons r rr=>
    cases rr with
    |cons r' rr=>
      cases rr;obtain⟨t,rfl⟩:=r;obtain⟨t',rfl⟩:=r';exact call_range_2 (range_it I1 q1 q2 q3 q4 q)

noncomputable def tFor(wi:TI)(g:TG)(tb:TS):TS:=fun D σ H=>wi σ H fun J H1=>∃ W:Nat->Nat->St->Hp->Prop,(∃ m,W 0 m σ H1)/\∀ i m σ H,W i m σ H->
  (J.stop i H/\D.nx σ H)\/(J.go i H/\∃ N:St->Hp->Prop,(∀ σ' H',N σ' H'->∃ m',m' < m/\W (i+1) m' σ' H')/\∀ x H',J.yld i H x H'->g x σ H' fun σ2 H2=>tb { D with nx:=N,ct:=N,bk:=D.nx } σ2 H2)
noncomputable def pinsAt(fp:Li Ad)(h:Heap):Li (Ad×Obj):=fp.filterMap fun b=>(h.get? b).map fun o=>(b,o)
theorem mem_pinsAt{fp:Li Ad}{h:Heap}{b:Ad}{o:Obj}(hb:b∈fp)(e:h.get? b=some o):(b,o)∈pinsAt fp h:=List.mem_filterMap.mpr ⟨b,hb,by rw[e];rfl⟩
theorem of_pinsAt{fp:Li Ad}{h:Heap}{p:Ad×Obj}(hp:p∈pinsAt fp h):p.1∈fp/\h.get? p.1=some p.2:=by
  obtain⟨b,hb,e⟩:=List.mem_filterMap.mp hp;cases q:h.get? b with
  |none=>rw[q]at e;cases e
  |some o=>
    rw[q]at e;have e':(b,o)=p:=Option.some.inj e;subst e';exact⟨hb,q⟩
theorem Inv.pinned{pQ:Li (Ad×Obj)}{σ:St}{H:Hp}{s:Sd}{fp:Li Ad}(I:Inv X pQ σ H s)(hf:∀ b∈fp,FpOk X pQ H b)(ho:∀ b∈fp,∃ o,s.heap.get? b=some o/\∀ v,o.data≠.cell v):Inv X (pQ++pinsAt fp s.heap) σ H s:=
  I.pins_of fun p hp=>(List.mem_append.mp hp).elim (fun z=>I.pin p (List.mem_append_right _ z)) fun z=>by
    obtain⟨hb,e⟩:=of_pinsAt z;obtain⟨f0,f1,f2,_⟩:=hf p.1 hb;obtain⟨o,e',d⟩:=ho p.1 hb;rw[e]at e';cases e'
    exact⟨e,f0,f1,f2,d⟩
theorem Inv.unpinned{pQ pl:Li (Ad×Obj)}{σ:St}{H:Hp}{s:Sd}(I:Inv X (pQ++pl) σ H s):Inv X pQ σ H s:=I.pins_of fun p hp=>I.pin p (List.mem_append_right _ (List.mem_append_left _ hp))
theorem ps_for{iter:Expr}{body:Li Stmt}{wi:TI}{g:TG}{tb:TS}{pos:Pos}(hp:PassesOwn (model X.prog X.w) X.A X.env X.xe)(hc:X.calm=true)(hi:PI X tg iter wi)(hg:PG X tg g)(hb:PSs X body tb)(hs:∀ x,foldedSetIterable iter X.env x=pure x:=by intro _;rfl):PS X (.For tg iter body [] pos) (tFor wi g tb):=by
  intro pQ s σ H D I h;refine wpAny_For (thn (hi pQ s σ H _ I h) fun v s1 h1=>thn h1 fun itv s2 h2=>?_) hs
  obtain⟨it,fp,tn,J,H2,e,I2,T,st2,f2,W,⟨m0,w0⟩,turn⟩:=h2;subst e
  -- what stays true of the iterator's objects through the loop
  have stat:∀ {H':Hp},(∀ b∈fp,H' b=none)->∀ b∈fp,FpOk X pQ H' b:=fun hn b hb=>⟨hn b hb,(f2 b hb).2⟩
  refine codeAny_forLoop_any (fun n s'=>∃ i σ' H',Inv X pQ σ' H' s'/\tn i s'.heap/\(∀ b∈fp,H' b=none)/\W i n σ' H') ?_ m0 ⟨0,σ,H2,I2,st2,fun b hb=>(f2 b hb).1,w0⟩
  rintro n s3 ⟨i,σ3,H3,I3,st3,fr3,w3⟩
  rcases turn i n σ3 H3 w3 with⟨stop,qn⟩|⟨go,N,hN,step⟩
  · refine wpAny_passesOwn hp (thn (T.done X rfl rfl rfl hc i pQ s3 σ3 H3 X.xe I3 (stat fr3) st3 stop) fun r s4 ⟨hr,I4⟩=>?_)
    subst hr;exact wpAny_execs_nil ⟨σ3,H3,I4,qn⟩
  · refine wpAny_passesOwn hp (thn (T.item X rfl rfl rfl hc i pQ s3 σ3 H3 X.xe I3 (stat fr3) st3 go) fun r s4 ⟨u,hr,h4⟩=>?_)
    subst hr;refine wpAny_passesOwn hp (thn h4 fun _ s5 ⟨x,H5,I5,r5,y5,st5,fr5⟩=>?_)
    have I5':=I5.pinned (stat fr5) (T.obj _ _ st5);refine wpAny_passesOwn hp (thn (hg _ s5 σ3 H5 x u _ I5' r5 (step x H5 y5)) fun _ s6 ⟨σ6,H6,I6,q6⟩=>?_)
    refine wpAny_passesOwn hp (thn (hb _ s6 σ6 H6 _ I6 q6) fun f s7 q7=>?_)
    have again:∀ {σ7:St}{H7:Hp},Inv X (pQ++pinsAt fp s5.heap) σ7 H7 s7->N σ7 H7->∃ m,m < n/\∃ i σ' H',Inv X pQ σ' H' s7/\tn i s7.heap/\(∀ b∈fp,H' b=none)/\W i m σ' H':=fun {σ7 H7} I7 n7=>by
      obtain⟨m',hm,w7⟩:=hN σ7 H7 n7;refine⟨m',hm,i+1,σ7,H7,I7.unpinned,T.keep _ _ _ st5 fun b hb o e=>(I7.pin (b,o) (List.mem_append_right _ (List.mem_append_right _ (mem_pinsAt hb e)))).1,fun b hb=>?_,w7⟩
      obtain⟨o,e,d⟩:=T.obj _ _ st5 b hb;exact(I7.pin (b,o) (List.mem_append_right _ (List.mem_append_right _ (mem_pinsAt hb e)))).2.1
    cases f with
    |next=>obtain⟨σ7,H7,I7,n7⟩:=q7;exact again I7 n7
    |cont=>obtain⟨σ7,H7,I7,n7⟩:=q7;exact again I7 n7
    |brk=>obtain⟨σ7,H7,I7,q7⟩:=q7;exact⟨σ7,H7,I7.unpinned,q7⟩
    |ret v=>obtain⟨x7,σ7,H7,I7,r7,q7⟩:=q7;exact⟨x7,σ7,H7,I7.unpinned,r7,q7⟩
end

theorem for_tup{K:Fg}{a:Ad}{xs:Li V}{g:TG}{tb:TS}{D:Ends}{σ:St}{H:Hp}(Pv:Nat->St->Hp->Prop)(h0:Pv 0 σ H)(hl:∀ i σ H,i<=xs.length->Pv i σ H->SqT K H a xs)(hs:∀ i x σ H,xs[i]?=some x->Pv i σ H->g x σ H fun σ2 H2=>tb { D with nx:=Pv (i+1),ct:=Pv (i+1),bk:=D.nx } σ2 H2)(hd:∀ σ H,Pv xs.length σ H->D.nx σ H) :
    ∃ W:Nat->Nat->St->Hp->Prop,(∃ m,W 0 m σ H)/\∀ i m σ H,W i m σ H->
      ((Itt K a).stop i H/\D.nx σ H)\/((Itt K a).go i H/\∃ N:St->Hp->Prop,(∀ σ' H',N σ' H'->∃ m',m' < m/\W (i+1) m' σ' H')/\∀ x H',(Itt K a).yld i H x H'->g x σ H' fun σ2 H2=>tb { D with nx:=N,ct:=N,bk:=D.nx } σ2 H2):=by
  refine⟨fun i m σ H=>m=xs.length - i/\i<=xs.length/\Pv i σ H,⟨xs.length,by simp,Nat.zero_le _,h0⟩,?_⟩
  rintro i m σ H ⟨rfl,hi,p⟩
  have q:=hl i σ H hi p;by_cases hlt:i < xs.length
  · refine .inr ⟨⟨xs,xs[i],q,by simp[hlt]⟩,Pv (i+1),fun σ' H' p'=>⟨xs.length - (i+1),by omega,rfl,hlt,p'⟩,fun x H' y=>?_⟩
    obtain⟨e,y⟩:=y;subst e;exact hs i x σ _ (y xs q) p
  · have e:i=xs.length:=by omega
    subst e;exact .inl ⟨⟨xs,q,Nat.le_refl _⟩,hd σ H p⟩
theorem for_range{lo:Int}{n:Nat}{g:TG}{tb:TS}{D:Ends}{σ:St}{H:Hp}(Pv:Nat->St->Hp->Prop)(h0:Pv 0 σ H)(hs:∀ i σ H,i < n->Pv i σ H->g (.int (lo+i)) σ H fun σ2 H2=>tb { D with nx:=Pv (i+1),ct:=Pv (i+1),bk:=D.nx } σ2 H2)(hd:∀ σ H,Pv n σ H->D.nx σ H) :
    ∃ W:Nat->Nat->St->Hp->Prop,(∃ m,W 0 m σ H)/\∀ i m σ H,W i m σ H->
      ((Itr lo n).stop i H/\D.nx σ H)\/((Itr lo n).go i H/\∃ N:St->Hp->Prop,(∀ σ' H',N σ' H'->∃ m',m' < m/\W (i+1) m' σ' H')/\∀ x H',(Itr lo n).yld i H x H'->g x σ H' fun σ2 H2=>tb { D with nx:=N,ct:=N,bk:=D.nx } σ2 H2):=by
  refine⟨fun i m σ H=>m=n - i/\i<=n/\Pv i σ H,⟨n,by simp,Nat.zero_le _,h0⟩,?_⟩
  rintro i m σ H ⟨rfl,hi,p⟩
  by_cases hlt:i < n
  · refine .inr ⟨hlt,Pv (i+1),fun σ' H' p'=>⟨n - (i+1),by omega,rfl,hlt,p'⟩,fun x H' y=>?_⟩
    obtain⟨e,y⟩:=y;subst e y;exact hs i σ _ hlt p
  · have e:i=n:=by omega
    subst e;exact .inl ⟨Nat.le_refl _,hd σ H p⟩
end L2

namespace L2
open PySem PySem.Spec PyProof.Rows

abbrev R2:=V->V->Hp->VK->Prop
def OpR(X:Cx)(f:vL->vL->Sem vL)(r:R2):Prop:=
  ∀ (pQ:Li (Ad×Obj)) (s:Sd) (σ:St) (H:Hp) (x y:V) (v u:vL) (Q:VK),Inv X pQ σ H s->RelV x v->RelV y u->r x y H Q->
    wpAny (model X.prog X.w) X.A (f v u) (EP X pQ σ Q) X.xe s
def UnR(X:Cx)(f:vL->Sem vL)(r:V->Hp->VK->Prop):Prop:=
  ∀ (pQ:Li (Ad×Obj)) (s:Sd) (σ:St) (H:Hp) (x:V) (v:vL) (Q:VK),Inv X pQ σ H s->RelV x v->r x H Q->
    wpAny (model X.prog X.w) X.A (f v) (EP X pQ σ Q) X.xe s
def CallR(X:Cx)(f:vL)(r:Li V->Hp->VK->Prop):Prop:=
  ∀ (pQ:Li (Ad×Obj)) (s:Sd) (σ:St) (H:Hp) (xs:Li V) (us:Li vL) (Q:VK),Inv X pQ σ H s->Vals xs us->r xs H Q->
    wpAny (model X.prog X.w) X.A (call f us) (EP X pQ σ Q) X.xe s

noncomputable def tOp(r:R2)(ta tb:TE):TE:=fun σ H Q=>ta σ H fun x H1=>tb σ H1 fun y H2=>r x y H2 Q
noncomputable def tUn(r:V->Hp->VK->Prop)(ta:TE):TE:=fun σ H Q=>ta σ H fun x H1=>r x H1 Q
noncomputable def rI(C:Int->Int->Prop)(g:Int->Int->V):R2:=fun x y H Q=>∃ i j,x=.int i/\y=.int j/\C i j/\Q (g i j) H
noncomputable def rI0(g:Int->Int->V):R2:=fun x y H Q=>∃ i j,x=.int i/\y=.int j/\Q (g i j) H
def rU(g:Int->V):V->Hp->VK->Prop:=fun x H Q=>∃ i,x=.int i/\Q (g i) H

section
variable {X:Cx}{a b c:Expr}{ta tb tc:TE}{pos:Pos}

theorem binT(ha:PE X a ta)(hb:PE X b tb){pQ:Li (Ad×Obj)}{s:Sd}{σ:St}{H:Hp}{R:V->V->Hp->Prop}(I:Inv X pQ σ H s)(h:ta σ H fun x H1=>tb σ H1 fun y H2=>R x y H2){Q:vL->Sd->Prop}{f:vL->vL->Sem vL}(hf:∀ v u s2 x y H2,Inv X pQ σ H2 s2->RelV x v->RelV y u->R x y H2->wpAny (model X.prog X.w) X.A (f v u) Q X.xe s2) :
    wpAny (model X.prog X.w) X.A (eval a X.env) (fun v s₁=>wpAny (model X.prog X.w) X.A (eval b X.env) (fun u s₂=>wpAny (model X.prog X.w) X.A (f v u) Q X.xe s₂) X.xe s₁) X.xe s:=by
  refine thn (ha pQ s σ H _ I h) fun v s1 ⟨x,H1,I1,r1,q1⟩=>?_
  refine thn (hb pQ s1 σ H1 _ I1 q1) fun u s2 ⟨y,H2,I2,r2,q2⟩=>?_
  exact hf v u s2 x y H2 I2 r1 r2 q2

theorem pe_op{op:Operator}{r:R2}(ho:OpR X (binaryOp op) r)(ha:PE X a ta)(hb:PE X b tb):PE X (.BinOp a op b pos) (tOp r ta tb):=by
  intro pQ s σ H Q I h;exact wpAny_BinOp (binT ha hb I h fun v u s2 x y H2 I2 rx ry q=>ho pQ s2 σ H2 x y v u Q I2 rx ry q)
theorem pe_un{op:UnaryOp}{r:V->Hp->VK->Prop}(ho:UnR X (unaryOp op) r)(ha:PE X a ta):PE X (.UnaryOp op a pos) (tUn r ta):=by
  intro pQ s σ H Q I h;exact UnaryOp_ (thn (ha pQ s σ H _ I h) fun v s1 ⟨x,H1,I1,r1,q1⟩=>ho pQ s1 σ H1 x v Q I1 r1 q1)

theorem opI{f:vL->vL->Sem vL}{C:Int->Int->Prop}{g:Int->Int->Int}(rule:∀ (i j:Int) (t u:Tok) (s:Sd) (Q:vL->Sd->Prop) (E:vL->Sd->Prop),C i j->Q (.int (g i j) s.toks) { s with toks:=s.toks+1 }->wpAny (model X.prog X.w) X.A (f (.int i t) (.int j u)) Q E s) :
    OpR X f (rI C fun i j=>.int (g i j)):=by
  intro pQ s σ H x y v u Q I rx ry h;obtain⟨i,j,rfl,rfl,hc,q⟩:=h;obtain⟨t,rfl⟩:=rx;obtain⟨t',rfl⟩:=ry;exact rule i j t t' s _ _ hc ⟨.int (g i j),H,I.tok _,⟨_,rfl⟩,q⟩
theorem opI0{f:vL->vL->Sem vL}{g:Int->Int->Int}(rule:∀ (i j:Int) (t u:Tok) (s:Sd) (Q:vL->Sd->Prop) (E:vL->Sd->Prop),Q (.int (g i j) s.toks) { s with toks:=s.toks+1 }->wpAny (model X.prog X.w) X.A (f (.int i t) (.int j u)) Q E s) :
    OpR X f (rI0 fun i j=>.int (g i j)):=by
  intro pQ s σ H x y v u Q I rx ry h;obtain⟨i,j,rfl,rfl,q⟩:=h;obtain⟨t,rfl⟩:=rx;obtain⟨t',rfl⟩:=ry;exact rule i j t t' s _ _ ⟨.int (g i j),H,I.tok _,⟨_,rfl⟩,q⟩
theorem opB0{f:vL->vL->Sem vL}{g:Int->Int->Bool}(rule:∀ (i j:Int) (t u:Tok) (s:Sd) (Q:vL->Sd->Prop) (E:vL->Sd->Prop),Q (.bool (g i j)) s->wpAny (model X.prog X.w) X.A (f (.int i t) (.int j u)) Q E s) :
    OpR X f (rI0 fun i j=>.bl (g i j)):=by
  intro pQ s σ H x y v u Q I rx ry h;obtain⟨i,j,rfl,rfl,q⟩:=h;obtain⟨t,rfl⟩:=rx;obtain⟨t',rfl⟩:=ry;exact rule i j t t' s _ _ ⟨.bl (g i j),H,I,rfl,q⟩

def CDiv(i j:Int):Prop:=0 < j/\j < 1073741824
def CDivN(i j:Int):Prop:=j≠0/\j.natAbs < 1073741824
def CMul(i j:Int):Prop:=(-(2 ^ 64) < i/\i < 2 ^ 64)\/(-(2 ^ 64) < j/\j < 2 ^ 64)
theorem CMul.ok{i j:Int}(h:CMul i j):IntMulOk i j:=by
  rcases h with⟨h1,h2⟩|⟨h1,h2⟩
  · exact .of_left (intBits_le_64 h1 h2)
  · exact .of_right (intBits_le_64 h1 h2)

theorem op_add:OpR X (binaryOp .Add) (rI0 fun i j=>.int (i+j)):=opI0 fun _ _ _ _ _ _ _ q=>add_int q
theorem op_sub:OpR X (binaryOp .Sub) (rI0 fun i j=>.int (i - j)):=opI0 fun _ _ _ _ _ _ _ q=>sub_int q
theorem op_mul:OpR X (binaryOp .Mult) (rI CMul fun i j=>.int (i * j)):=opI fun _ _ _ _ _ _ _ hc q=>mul_int q hc.ok
theorem op_fdiv:OpR X (binaryOp .FloorDiv) (rI CDiv fun i j=>.int (i / j)):=opI fun i j _ _ _ _ _ hc q=>by
  have h1:(0:Int) < j:=hc.1;have h2:j < 1073741824:=hc.2;exact floordiv_int (by omega) (by rw[Int.fdiv_eq_ediv_of_nonneg i (by omega)];exact q) (.inl (PyProof.noPylong_small (by omega)))
theorem op_fdivN:OpR X (binaryOp .FloorDiv) (rI CDivN fun i j=>.int (i.fdiv j)):=opI fun _ _ _ _ _ _ _ hc q=>floordiv_int hc.1 q (.inl (PyProof.noPylong_small hc.2))
theorem op_mod:OpR X (binaryOp .Mod) (rI (fun _ j=>0 < j) fun i j=>.int (i % j)):=opI fun i j _ _ _ _ _ hc q=>by
  have h1:(0:Int) < j:=hc;exact mod_int' (by omega) (by rw[Int.fmod_eq_emod_of_nonneg i (by omega)];exact q)
theorem op_modN:OpR X (binaryOp .Mod) (rI (fun _ j=>j≠0) fun i j=>.int (i.fmod j)):=opI fun _ _ _ _ _ _ _ hc q=>mod_int' hc q


theorem unI{f:vL->Sem vL}{g:Int->Int}(rule:∀ (i:Int) (t:Tok) (s:Sd) (Q:vL->Sd->Prop) (E:vL->Sd->Prop),Q (.int (g i) s.toks) { s with toks:=s.toks+1 }->wpAny (model X.prog X.w) X.A (f (.int i t)) Q E s) :
    UnR X f (rU fun i=>.int (g i)):=by
  intro pQ s σ H x v Q I rx h;obtain⟨i,rfl,q⟩:=h;obtain⟨t,rfl⟩:=rx;exact rule i t s _ _ ⟨.int (g i),H,I.tok _,⟨_,rfl⟩,q⟩
theorem un_neg:UnR X (unaryOp .USub) (rU fun i=>.int (-i)):=unI fun _ _ _ _ _ q=>neg_int q

end

noncomputable def scal:V->V->Bool
  |.non,.non=>true|.non,.int _=>true|.int _,.non=>true|.non,.bl _=>true|.bl _,.non=>true|.non,.str _=>true|.str _,.non=>true
  |.int _,.int _=>true|.bl _,.bl _=>true|.str _,.str _=>true|.byt _,.byt _=>true
  |.int _,.str _=>true|.str _,.int _=>true|.bl _,.str _=>true|.str _,.bl _=>true
  |_,_=>false
noncomputable def rEq:R2:=fun x y H Q=>scal x y=true/\Q (.bl (decide (x=y))) H
noncomputable def rNe:R2:=fun x y H Q=>scal x y=true/\Q (.bl (!decide (x=y))) H

theorem dec_int{i j:Int}:decide (V.int i=V.int j)=(i==j):=by
  rw[Bool.eq_iff_iff];simp
theorem dec_bl{i j:Bool}:decide (V.bl i=V.bl j)=(i==j):=by
  rw[Bool.eq_iff_iff];simp
theorem dec_str{i j:Str}:decide (V.str i=V.str j)=(i==j):=by
  rw[Bool.eq_iff_iff];simp
theorem dec_byt{i j:Array UInt8}:decide (V.byt i=V.byt j)=(i.toList==j.toList):=by
  rw[Bool.eq_iff_iff];cases i;cases j;simp

section
variable {X:Cx}{a b c:Expr}{ta tb tc:TE}{pos:Pos}
theorem fin_bl{pQ:Li (Ad×Obj)}{σ:St}{H:Hp}{s:Sd}{Q:VK}{k k':Bool}(I:Inv X pQ σ H s)(q:Q (.bl k) H)(e:k=k'):EP X pQ σ Q (.bool k') s:=by
  subst e;exact⟨.bl k,H,I,rfl,q⟩
theorem op_eq:OpR X (compareOp .Eq) rEq:=by
  intro pQ s σ H x y v u Q I rx ry h;obtain⟨hs,q⟩:=h;cases x with
  |non=>
    cases rx;cases y with
    |non=>cases ry;exact PySem.EqNone.eq_none_none (fin_bl I q (by simp))
    |bl j=>cases ry;exact PySem.EqNone.eq_none_bool (fin_bl I q (by simp))
    |int j=>obtain⟨t',rfl⟩:=ry;exact PySem.EqNone.eq_none_int (fin_bl I q (by simp))
    |str j=>obtain⟨t',rfl⟩:=ry;exact PySem.EqNone.eq_none_str (fin_bl I q (by simp))
    |_=>exact absurd (show false=true from hs) Bf
  |bl i=>
    cases rx;cases y with
    |non=>cases ry;exact PySem.EqNone.eq_bool_none (fin_bl I q (by simp))
    |bl j=>cases ry;exact eq_bool (fin_bl I q dec_bl)
    |str j=>obtain⟨t',rfl⟩:=ry;exact PySem.EqMixed.eq_bool_str (fin_bl I q (by simp))
    |_=>exact absurd (show false=true from hs) Bf
  |int i=>
    obtain⟨t,rfl⟩:=rx;cases y with
    |non=>cases ry;exact PySem.EqNone.eq_int_none (fin_bl I q (by simp))
    |int j=>obtain⟨t',rfl⟩:=ry;exact eq_int (fin_bl I q dec_int)
    |str j=>obtain⟨t',rfl⟩:=ry;exact PySem.EqMixed.eq_int_str (fin_bl I q (by simp))
    |_=>exact absurd (show false=true from hs) Bf
  |str i=>
    obtain⟨t,rfl⟩:=rx;cases y with
    |non=>cases ry;exact PySem.EqNone.eq_str_none (fin_bl I q (by simp))
    |bl j=>cases ry;exact PySem.EqMixed.eq_str_bool (fin_bl I q (by simp))
    |int j=>obtain⟨t',rfl⟩:=ry;exact PySem.EqMixed.eq_str_int (fin_bl I q (by simp))
    |str j=>obtain⟨t',rfl⟩:=ry;exact eq_str (fin_bl I q dec_str)
    |_=>exact absurd (show false=true from hs) Bf
  |byt i=>
    obtain⟨t,rfl⟩:=rx;cases y with
    |byt j=>obtain⟨t',rfl⟩:=ry;exact PySem.W.eq_bytes (fin_bl I q dec_byt)
    |_=>exact absurd (show false=true from hs) Bf
  |_=>cases y<;>exact absurd (show false=true from hs) Bf
theorem op_ne:OpR X (compareOp .NotEq) rNe:=by
  intro pQ s σ H x y v u Q I rx ry h;obtain⟨hs,q⟩:=h;cases x with
  |non=>
    cases rx;cases y with
    |non=>cases ry;exact PySem.EqNone.ne_none_none (fin_bl I q (by simp))
    |bl j=>cases ry;exact PySem.EqNone.ne_none_bool (fin_bl I q (by simp))
    |int j=>obtain⟨t',rfl⟩:=ry;exact PySem.EqNone.ne_none_int (fin_bl I q (by simp))
    |str j=>obtain⟨t',rfl⟩:=ry;exact PySem.EqNone.ne_none_str (fin_bl I q (by simp))
    |_=>exact absurd (show false=true from hs) Bf
  |bl i=>
    cases rx;cases y with
    |non=>cases ry;exact PySem.EqNone.ne_bool_none (fin_bl I q (by simp))
    |bl j=>cases ry;exact ne_bool (fin_bl I q (congrArg not dec_bl))
    |str j=>obtain⟨t',rfl⟩:=ry;exact PySem.EqMixed.ne_bool_str (fin_bl I q (by simp))
    |_=>exact absurd (show false=true from hs) Bf
  |int i=>
    obtain⟨t,rfl⟩:=rx;cases y with
    |non=>cases ry;exact PySem.EqNone.ne_int_none (fin_bl I q (by simp))
    |int j=>obtain⟨t',rfl⟩:=ry;exact ne_int (fin_bl I q (congrArg not dec_int))
    |str j=>obtain⟨t',rfl⟩:=ry;exact PySem.EqMixed.ne_int_str (fin_bl I q (by simp))
    |_=>exact absurd (show false=true from hs) Bf
  |str i=>
    obtain⟨t,rfl⟩:=rx;cases y with
    |non=>cases ry;exact PySem.EqNone.ne_str_none (fin_bl I q (by simp))
    |bl j=>cases ry;exact PySem.EqMixed.ne_str_bool (fin_bl I q (by simp))
    |int j=>obtain⟨t',rfl⟩:=ry;exact PySem.EqMixed.ne_str_int (fin_bl I q (by simp))
    |str j=>obtain⟨t',rfl⟩:=ry;exact ne_str (fin_bl I q (congrArg not dec_str))
    |_=>exact absurd (show false=true from hs) Bf
  |byt i=>
    obtain⟨t,rfl⟩:=rx;cases y with
    |byt j=>obtain⟨t',rfl⟩:=ry;exact PySem.W.ne_bytes (fin_bl I q (congrArg not dec_byt))
    |_=>exact absurd (show false=true from hs) Bf
  |_=>cases y<;>exact absurd (show false=true from hs) Bf

theorem op_lt:OpR X (compareOp .Lt) (rI0 fun i j=>.bl (decide (i < j))):=opB0 fun _ _ _ _ _ _ _ q=>lt_int q
theorem op_le:OpR X (compareOp .LtE) (rI0 fun i j=>.bl (decide (i<=j))):=opB0 fun _ _ _ _ _ _ _ q=>le_int q
theorem op_gt:OpR X (compareOp .Gt) (rI0 fun i j=>.bl (decide (j < i))):=opB0 fun _ _ _ _ _ _ _ q=>gt_int q
theorem op_ge:OpR X (compareOp .GtE) (rI0 fun i j=>.bl (decide (j<=i))):=opB0 fun _ _ _ _ _ _ _ q=>ge_int q
theorem op_in_str:OpR X (compareOp .In) (fun x y H Q=>∃ i j,x=.str i/\y=.str j/\Q (.bl (!(Builtin.Str.occurrences j i 0 j.length 1).isEmpty)) H):=by
  intro pQ s σ H x y v u Q I rx ry h;obtain⟨i,j,rfl,rfl,q⟩:=h;obtain⟨t,rfl⟩:=rx;obtain⟨t',rfl⟩:=ry;exact in_str (fin_bl I q rfl)

theorem op_isN:OpR X (compareOp .Is) (fun x y H Q=>y=.non/\Q (.bl (decide (x=.non))) H):=by
  intro pQ s σ H x y v u Q I rx ry h;obtain⟨rfl,q⟩:=h;cases ry;refine is_none_gen (fin_bl I q ?_);cases x<;>first
    | (cases rx;rfl)
    | (obtain⟨t,rfl⟩:=rx;rfl)
theorem op_notN:OpR X (compareOp .IsNot) (fun x y H Q=>y=.non/\Q (.bl (!decide (x=.non))) H):=by
  intro pQ s σ H x y v u Q I rx ry h;obtain⟨rfl,q⟩:=h;cases ry;refine isnot_none_gen (fin_bl I q ?_);cases x<;>first
    | (cases rx;rfl)
    | (obtain⟨t,rfl⟩:=rx;rfl)



theorem pe_cmpR{op:CmpOp}{r:R2}(ho:OpR X (compareOp op) r)(ha:PE X a ta)(hb:PE X b tb)(hm:behindInMarks op b=false):PE X (.Compare a [op] [b] pos) (tOp r ta tb):=by
  intro pQ s σ H Q I h;exact wpAny_Compare1 (binT ha hb I h fun v u s2 x y H2 I2 rx ry q=>ho pQ s2 σ H2 x y v u Q I2 rx ry q) hm
noncomputable def tTest(t:TE):TT:=fun σ H Q=>t σ H fun x H'=>∃ k,x=.bl k/\Q k H'
theorem pt_cmpR{op:CmpOp}{r:R2}(ho:OpR X (compareOp op) r)(ha:PE X a ta)(hb:PE X b tb)(hm:behindInMarks op b=false):PT X (.Compare a [op] [b] pos) (tTest (tOp r ta tb)):=by
  intro pQ s σ H Q I h;refine wpAny_isTrue_Compare1 (thn (ha pQ s σ H _ I h) fun v s1 ⟨x,H1,I1,r1,q1⟩=>thn (hb pQ s1 σ H1 _ I1 q1) fun u s2 ⟨y,H2,I2,r2,q2⟩=>
    thn (ho pQ s2 σ H2 x y v u _ I2 r1 r2 q2) fun c s3 ⟨z,H3,I3,r3,k,e,q3⟩=>?_) hm
  subst e;cases r3;exact wpAny_truthy_bool ⟨H3,I3,q3⟩
noncomputable def tChain(r r':R2)(ta tb tc:TE):TE:=fun σ H Q=>ta σ H fun x H1=>tb σ H1 fun y H2=>r x y H2 fun z H3=>∃ k,z=.bl k /\
  (if k=true then tc σ H3 fun w' H4=>r' y w' H4 Q else Q (.bl false) H3)
theorem pe_chain{op op':CmpOp}{r r':R2}(ho:OpR X (compareOp op) r)(ho':OpR X (compareOp op') r')(ha:PE X a ta)(hb:PE X b tb)(hc:PE X c tc)(hm:lastMarks [op,op'] [b,c]=false:=by with_unfolding_all rfl):PE X (.Compare a [op,op'] [b,c] pos) (tChain r r' ta tb tc):=by
  intro pQ s σ H Q I h;refine Compare_chain (thn (ha pQ s σ H _ I h) fun v s1 ⟨x,H1,I1,r1,q1⟩=>chain_link (thn (hb pQ s1 σ H1 _ I1 q1) fun u s2 ⟨y,H2,I2,r2,q2⟩=>
    thn (ho pQ s2 σ H2 x y v u _ I2 r1 r2 q2) fun d s3 ⟨z,H3,I3,r3,k,e,q3⟩=>?_)) hm
  subst e;cases r3;refine wpAny_truthy_bool ?_;cases k with
  |false=>exact ite_ff ⟨.bl false,H3,I3,rfl,q3⟩
  |true=>exact ite_tt (chain_last (thn (hc pQ s3 σ H3 _ I3 q3) fun w' s4 ⟨z',H4,I4,r4,q4⟩=>ho' pQ s4 σ H4 y z' u w' Q I4 r2 r4 q4))
theorem pt_chain{op op':CmpOp}{r r':R2}(ho:OpR X (compareOp op) r)(ho':OpR X (compareOp op') r')(ha:PE X a ta)(hb:PE X b tb)(hc:PE X c tc)(hm:lastMarks [op,op'] [b,c]=false:=by with_unfolding_all rfl):PT X (.Compare a [op,op'] [b,c] pos) (tTest (tChain r r' ta tb tc)):=by
  intro pQ s σ H Q I h;refine isTrue_chain (thn (ha pQ s σ H _ I h) fun v s1 ⟨x,H1,I1,r1,q1⟩=>test_link (thn (hb pQ s1 σ H1 _ I1 q1) fun u s2 ⟨y,H2,I2,r2,q2⟩=>
    thn (ho pQ s2 σ H2 x y v u _ I2 r1 r2 q2) fun d s3 ⟨z,H3,I3,r3,k,e,q3⟩=>?_)) hm
  subst e;cases r3;refine wpAny_truthy_bool ?_;cases k with
  |false=>
    obtain⟨k',e',q'⟩:=q3;cases e';exact ite_ff ⟨H3,I3,q'⟩
  |true=>
    refine ite_tt (test_last (thn (hc pQ s3 σ H3 _ I3 q3) fun w' s4 ⟨z',H4,I4,r4,q4⟩=>thn (ho' pQ s4 σ H4 y z' u w' _ I4 r2 r4 q4) fun d' s5 ⟨z2,H5,I5,r5,k2,e2,q5⟩=>?_))
    subst e2;cases r5;exact wpAny_truthy_bool ⟨H5,I5,q5⟩

theorem line63:(sizeLine:Nat) < 2 ^ 63:=by rw[sizeLine_eq];decide

theorem op_add_str:OpR X (binaryOp .Add) (fun x y H Q=>∃ i j,x=.str i/\y=.str j/\i.length+j.length<=sizeLine/\Q (.str (i++j)) H):=by
  intro pQ s σ H x y v u Q I rx ry h;obtain⟨i,j,rfl,rfl,hz,q⟩:=h;obtain⟨t,rfl⟩:=rx;obtain⟨t',rfl⟩:=ry;exact add_str (fun t' tk=>⟨.str (i++j),H,I.tok _,⟨_,rfl⟩,q⟩) hz


theorem vals1{x:V}{us:Li vL}(r:Vals [x] us):∃ u,us=[u]/\RelV x u:=by
  cases r with
  |cons r1 r2=>cases r2;exact⟨_,rfl,r1⟩
theorem vals2{x y:V}{us:Li vL}(r:Vals [x,y] us):∃ u w',us=[u,w']/\RelV x u/\RelV y w':=by
  cases r with
  |cons r1 r2=>
    cases r2 with
    |cons r3 r4=>cases r4;exact⟨_,_,rfl,r1,r3⟩
theorem call_max2(hc:X.calm=true):CallR X (.builtin "max") (fun xs H Q=>∃ i j,xs=[.int i,.int j]/\Q (.int (if j > i then j else i)) H):=by
  intro pQ s σ H xs us Q I r h;obtain⟨i,j,rfl,q⟩:=h;obtain⟨u,w',rfl,⟨t,rfl⟩,⟨t',rfl⟩⟩:=vals2 r;refine max_two_ints (I.ok.hd hc) fun h' tk k=>⟨_,H,I.kept k,?_,q⟩
  by_cases hj:j > i
  · rw[if_pos hj,if_pos hj];exact⟨_,rfl⟩
  · rw[if_neg hj,if_neg hj];exact⟨_,rfl⟩
theorem call_min2(hc:X.calm=true):CallR X (.builtin "min") (fun xs H Q=>∃ i j,xs=[.int i,.int j]/\Q (.int (if j < i then j else i)) H):=by
  intro pQ s σ H xs us Q I r h;obtain⟨i,j,rfl,q⟩:=h;obtain⟨u,w',rfl,⟨t,rfl⟩,⟨t',rfl⟩⟩:=vals2 r;refine min_two_ints (I.ok.hd hc) fun h' tk k=>⟨_,H,I.kept k,?_,q⟩
  by_cases hj:j < i
  · rw[if_pos hj,if_pos hj];exact⟨_,rfl⟩
  · rw[if_neg hj,if_neg hj];exact⟨_,rfl⟩
theorem call_int1:CallR X (.type "int") (fun xs H Q=>(∃ i,xs=[.int i]/\Q (.int i) H)\/∃ k,xs=[.bl k]/\Q (.int (if k then 1 else 0)) H):=by
  intro pQ s σ H xs us Q I r h;rcases h with⟨i,rfl,q⟩|⟨k,rfl,q⟩
  · obtain⟨u,rfl,t,rfl⟩:=vals1 r
    exact call_int_int ⟨.int i,H,I,⟨_,rfl⟩,q⟩
  · obtain⟨u,rfl,r1⟩:=vals1 r
    cases r1;exact call_int_bool ⟨.int (if k then 1 else 0),H,I.tok _,⟨_,rfl⟩,q⟩
def LenV(K:Fg)(x:V)(H:Hp)(n:Nat):Prop:=
  match x with
  |.str y=>y.length<=sizeLine/\n=y.length
  |.byt y=>y.size<=sizeLine/\n=y.size
  |.ref p=>(∃ xs,SqL K H p xs/\n=xs.length)\/∃ xs,SqT K H p xs/\n=xs.length
  |_=>False
theorem call_len:CallR X (.builtin "len") (fun xs H Q=>∃ x n,xs=[x]/\LenV X.K x H n/\Q (.int n) H):=by
  intro pQ s σ H xs us Q I r h;obtain⟨x,n,rfl,e,q⟩:=h;obtain⟨u,rfl,rx⟩:=vals1 r;have hl:=line63;have hs:sizeLine=16777216:=sizeLine_eq;cases x with
  |str y=>
    obtain⟨t,rfl⟩:=rx;obtain⟨hy,e'⟩:y.length<=sizeLine/\n=y.length:=e;subst e';exact len_str (by omega) ⟨.int _,H,I.tok _,⟨_,rfl⟩,q⟩
  |byt y=>
    obtain⟨t,rfl⟩:=rx;obtain⟨hy,e'⟩:y.size<=sizeLine/\n=y.size:=e;subst e';exact PySem.W.len_bytes (by omega) ⟨.int _,H,I.tok _,⟨_,rfl⟩,q⟩
  |ref p=>
    cases rx;have e':(∃ xs,SqL X.K H p xs/\n=xs.length)\/∃ xs,SqT X.K H p xs/\n=xs.length:=e;rcases e' with⟨xs,hx,e'⟩|⟨xs,hx,e'⟩
    · subst e'
      obtain⟨its,r',pl,hz⟩:=I.list hx;have hlen:=r'.length;exact Calls.call_len_list pl.isList (by simp only[List.size_toArray];omega) ⟨.int xs.length,H,I.tok _,⟨_,by simp only[List.size_toArray];rw[hlen]⟩,q⟩
    · subst e'
      obtain⟨its,r',pl,hz⟩:=I.tuple hx;have hlen:=r'.length;exact len_tuple pl (by simp only[List.size_toArray];omega) ⟨.int xs.length,H,I.tok _,⟨_,by simp only[List.size_toArray];rw[hlen]⟩,q⟩
  |_=>exact(show False from e).elim
end
end L2

namespace L2
open PySem PySem.Spec PyProof.Rows

structure ObjM(h:Heap)(x dx C:Addr)(mA:Str->Option Value):Prop where
  obj:h.get? x=some (PySem.W.instObj C dx)
  ns:h.Ns1 dx mA
  ne:dx≠x

theorem lookIn_ns{h:Heap}{dx:Ad}{mA:Str->Ot vL}(n:h.Ns1 dx mA):∃ od,h.get? dx=some od/\∀ name,PySem.W.lookIn name od=some (mA name):=by
  obtain⟨o,es,ep,ho,hd,hk,_,hm⟩:=n;refine⟨o,ho,fun name=>?_⟩
  have e:=hm name;unfold nsFind findBy at e;rw[<-Array.find?_toList]at e;unfold PySem.W.lookIn;rw[hd];dsimp only;split
  · rename_i y q
    rw[q]at e;exact congrArg some e
  · rename_i q
    rw[q]at e;have a:es.toList.any (·.refKey)=false:=by
      rw[List.any_eq_false];intro y hy;obtain⟨z,t,hkey⟩:=hk y (Array.mem_toList_iff.mp hy);simp[DictEntry.refKey,hkey]
    have a':¬es.toList.any (·.refKey)=true:=by rw[a];exact Bf
    rw[if_neg a'];exact congrArg some e

theorem ObjM.look{h:Heap}{x dx C:Ad}{mA:Str->Ot vL}(I:ObjM h x dx C mA):∃ od,PySem.W.InstAt h x (PySem.W.instObj C dx) C (some od)/\∀ name,PySem.W.lookIn name od=some (mA name):=
  let ⟨od,ho,hl⟩:=lookIn_ns I.ns
  ⟨od,⟨I.obj,rfl,rfl,ho⟩,hl⟩

section
variable {prog:Program}{w:World}{A:Around}{E:vL->Sd->Prop}{s:Sd}{K:Fg}{x dx C f:Ad}{mA:Str->Ot vL}{name:Str}{v:vL}

theorem get_map{expr:Bool}{Q:vL->Sd->Prop}(X:K.In s.heap)(I:ObjM s.heap x dx C mA)(hg:PySem.W.plainGet K C name=true)(hh:PySem.W.hasDictIn K C=true)(ha:PySem.W.findIn K (.ref C) name=some none)(hv:mA name=some v)(hv':PySem.W.handedIn v=true)(h:Q v { s with toks:=s.toks+1 }) :
    wpAny (model prog w) A (getAttr (.ref x) name expr) Q E s:=by
  obtain⟨od,J,hl⟩:=I.look;exact PySem.W.get_value X J (PySem.W.plainGet_of hg).1 (PySem.W.findObj_own hh ha rfl (by rw[hl,hv])) hv' h


theorem get_meth{pl:Sem Bool}{Q:vL×Li vL->Sd->Prop}(X:K.In s.heap)(I:ObjM s.heap x dx C mA)(hg:PySem.W.plainGet K C name=true)(hf:PySem.W.findIn K (.ref C) name=some (some (.ref f)))(ht:PySem.W.isFn K (.ref f)=true)(hv:mA name=none)(h:Q (.ref f,[.ref x]) s) :
    wpAny (model prog w) A (getMethod (.ref x) name pl) Q E s:=by
  obtain⟨od,J,hl⟩:=I.look;exact PySem.W.method_fn X J (PySem.W.plainGet_of hg).1 (PySem.W.plainGet_of hg).2 hf (beq_iff_eq.mp ht) (by show(PySem.W.lookIn name od).map (·.isSome)=some false;rw[hl,hv];rfl) h

theorem set_map{ns:Li Str}{Q:Unit->Sd->Prop}(X:K.In s.heap)(I:ObjM s.heap x dx C mA)(hs:PySem.W.findIn K (.ref C) "__setattr__"=some (some (.builtin "object.__setattr__")))(hp:PySem.W.plainOver K C=true)(ht:PySem.W.takerIn K C name=some none)(hh:PySem.W.hasDictIn K C=true)(hw:PySem.Within mA ns)(hsz:ns.length<=sizeLine)(h:∀ h',ObjM h' x dx C (fun y=>if y=name then some v else mA y)->Heap.SameBut dx s.heap h'->Q () { s with heap:=h',toks:=s.toks+2 }) :
    wpAny (model prog w) A (setAttr (.ref x) name v) Q E s:=by
  obtain⟨od,J,hl⟩:=I.look;refine PySem.W.set_plain X J hs (PySem.W.osa_open (s:={ s with toks:=s.toks+1 }) (r:=none) X J hp ht fun b=>?_)
  obtain⟨cd,hc,hd'⟩:=PySem.W.any_some hh;have hx:s.heap.get? x=some ⟨.ref C,some dx,.plain,#[]⟩:=I.obj;refine wpAny_bind (wpAny_pure (wpAny_bind (wpAny_bind (wpAny_loadPart hx (wpAny_bind (PySem.W.Looks.here (s:={ s with toks:=s.toks+1 }) (PySem.W.looks_clsIn X hc) ?_))))))
  rw[hd'];refine wpAny_pure (a:=some dx) (wpAny_bind (wpAny_pure (wpAny_bind ?_)));refine wpAny_nsSet1 (s:={ s with toks:=s.toks+1 }) I.ns fun h' hn2 hs2=>?_
  obtain⟨oD,esD,epD,hoD,hdD,hcD⟩:=hn2.count (PySem.Within.cons name v hw);refine wpAny_bind (wpAny_lookBehind hoD (by rw[hdD];exact pastItsLine_dict (Nat.le_trans hcD (by rw[List.length_cons];omega))) ?_)
  exact wpAny_pure (h _ ⟨(hs2.2 _ (Ne.symm I.ne)).trans I.obj,hn2,I.ne⟩ hs2)

theorem make_map{R:Result->Sd->Prop}{vs:Li vL}{kw:Li (Str×vL)}(X:K.In s.heap)(hm:PySem.W.makesIn K C=true)(hi:PySem.W.findIn K (.ref C) "__init__"=some (some (.ref f)))(hf:PySem.W.typeIn K (.ref f)=some (.type "function"))(h:codeAny (model prog w) (A.under (.builtin "type.__call__" ⟨.ref C :: vs,kw⟩)) (.call (.ref f) ⟨.ref (s.heap.objs.size+1) :: vs,kw⟩) (PySem.W.InitBack (s.heap.objs.size+1) R)
      { s with heap:=(s.heap.push PySem.W.emptyDict).push (PySem.W.instObj C s.heap.objs.size) }) :
    codeAny (model prog w) A (.call (.ref C) ⟨vs,kw⟩) R s:=by
  obtain⟨hh,g,d,t,os⟩:=s;exact PySem.W.make_core (PySem.W.makes_of X hm) (PySem.W.looks_findIn X hi) (fun self=>PySem.W.bind_fn X self hf) (.inl rfl) h
end

noncomputable def putF(f:Str)(v:V):Li (Str×V)->Li (Str×V)
  |[]=>[(f,v)]
  | (g,x) :: r=>if g=f then (g,v) :: r else (g,x) :: putF f v r
theorem lookup_putF(f g:Str)(v:V):∀ fs:Li (Str×V),(putF f v fs).lookup g=if g=f then some v else fs.lookup g
  |[]=>by
    show List.lookup g [(f,v)]=_;by_cases h:g=f
    · have hb:(g==f)=true:=beq_iff_eq.mpr h
      simp only[List.lookup,hb,if_pos h]
    · have hb:(g==f)=false:=beq_eq_false_iff_ne.mpr h
      simp only[List.lookup,hb,if_neg h]
  | (k,x) :: r=>by
    have ih:=lookup_putF f g v r;rw[show putF f v ((k,x) :: r)=(if k=f then (k,v) :: r else (k,x) :: putF f v r) from rfl]
    by_cases hk:k=f
    · rw[if_pos hk]
      by_cases h:g=k
      · have hb:(g==k)=true:=beq_iff_eq.mpr h
        simp only[List.lookup,hb,if_pos (h.trans hk)]
      · have hb:(g==k)=false:=beq_eq_false_iff_ne.mpr h
        simp only[List.lookup,hb,if_neg (fun e:g=f=>h (e.trans hk.symm))]
    · rw[if_neg hk]
      by_cases h:g=k
      · have hb:(g==k)=true:=beq_iff_eq.mpr h
        simp only[List.lookup,hb,if_neg (fun e:g=f=>hk (h.symm.trans e))]
      · have hb:(g==k)=false:=beq_eq_false_iff_ne.mpr h
        simp only[List.lookup,hb];exact ih
theorem keys_putF(f:Str)(v:V):∀ fs:Li (Str×V),f∈(putF f v fs).map (·.1)/\∀ g,g∈fs.map (·.1)->g∈(putF f v fs).map (·.1)
  |[]=>⟨by simp[putF],fun g h=>by simp at h⟩
  | (k,x) :: r=>by
    obtain⟨i1,i2⟩:=keys_putF f v r;rw[show putF f v ((k,x) :: r)=(if k=f then (k,v) :: r else (k,x) :: putF f v r) from rfl]
    by_cases hk:k=f
    · rw[if_pos hk]
      subst hk;exact⟨by simp,fun g h=>by simpa using h⟩
    · rw[if_neg hk]
      refine⟨?_,fun g h=>?_⟩
      · rw[List.map_cons]
        exact Lm _ i1
      · rw[List.map_cons]at h ⊢
        rcases List.mem_cons.mp h with e|e
        · exact List.mem_cons.mpr (.inl e)
        · exact Lm _ (i2 g e)
theorem length_putF(f:Str)(v:V):∀ fs:Li (Str×V),(putF f v fs).length<=fs.length+1
  |[]=>by simp[putF]
  | (k,x) :: r=>by
    have ih:=length_putF f v r;rw[show putF f v ((k,x) :: r)=(if k=f then (k,v) :: r else (k,x) :: putF f v r) from rfl]
    by_cases hk:k=f
    · rw[if_pos hk,List.length_cons,List.length_cons];omega
    · rw[if_neg hk,List.length_cons,List.length_cons];omega

theorem RelO.some_of{v:V}{o:Ot vL}(r:RelO (some v) o):∃ u,o=some u/\RelV v u:=by
  cases o with
  |none=>exact(show False from r).elim
  |some u=>exact⟨u,rfl,r⟩
theorem RelO.none_of{o:Ot vL}(r:RelO none o):o=none:=by
  cases o with
  |none=>rfl
  |some u=>exact(show False from r).elim
theorem handed_of{v:V}{u:vL}(r:RelV v u):PySem.W.handedIn u=true:=by
  cases v with
  |non=>cases (show u=Value.none from r);rfl
  |bl b=>cases (show u=Value.bool b from r);rfl
  |int i=>obtain⟨t,e⟩:=(show ∃ t,u=Value.int i t from r);cases e;rfl
  |str x=>obtain⟨t,e⟩:=(show ∃ t,u=Value.str x t from r);cases e;rfl
  |byt b=>obtain⟨t,e⟩:=(show ∃ t,u=Value.bytes b t from r);cases e;rfl
  |flt b=>obtain⟨t,e⟩:=(show ∃ t,u=Value.float b t from r);cases e;rfl
  |ref a=>cases (show u=Value.ref a from r);rfl
  |ty n=>cases (show u=Value.type n from r);rfl

section
variable {P:Program}{w:World}{H H':Hp}{h h':Heap}{a C dx:Ad}{fs fs':Li (Str×V)}
theorem ins_get(hok:HOk P w H h)(e:H a=some (.ins C dx fs)):∃ mA,ObjM h a dx C mA/\(∀ f,RelO (fs.lookup f) (mA f))/\PySem.Within mA (fs.map (·.1))/\fs.length<=1000/\H dx=some (.own a):=by
  obtain⟨d,z,ne,ob,mA,n,r,q⟩:=(show ObjOk P w H h a (.ins C dx fs) from hok a _ e);exact⟨mA,⟨ob,n,ne⟩,r,q,z,d⟩
end

structure Cls(K:Fg)(C:Addr):Prop where
  pg:PySem.W.plainGet K C Str.empty=true
  hd:PySem.W.hasDictIn K C=true
  po:PySem.W.plainOver K C=true
  sa:PySem.W.findIn K (.ref C) "__setattr__"=some (some (.builtin "object.__setattr__"))
theorem Cls.get{K:Fg}{C:Ad}(c:Cls K C)(f:Str):PySem.W.plainGet K C f=true:=c.pg
def NoAttr(K:Fg)(C:Ad)(f:Str):Prop:=PySem.W.findIn K (.ref C) f=some none
theorem NoAttr.taker{K:Fg}{C:Ad}{f:Str}(n:NoAttr K C f):PySem.W.takerIn K C f=some none:=by
  unfold PySem.W.takerIn;rw[show PySem.W.findIn K (.ref C) f=some none from n];rfl
structure Con(K:Fg)(C:Addr)(f:Str)(v:V)(u:Value):Prop where
  at_:PySem.W.findIn K (.ref C) f=some (some u)
  rel:RelV v u
  get:PySem.W.specialIn K u "__get__"=some none
  cp:PySem.W.copiedNames.contains f=false
structure Meth(K:Fg)(C:Addr)(m:Str)(f:Addr):Prop where
  at_:PySem.W.findIn K (.ref C) m=some (some (.ref f))
  fn:PySem.W.isFn K (.ref f)=true
  kp:PySem.W.keepIn K (.ref f)=true

section
variable {X:Cx}{pQ:Li (Ad×Obj)}{σ:St}{H:Hp}{s:Sd}{a C dx:Ad}{fs:Li (Str×V)}{f:Str}{v:V}{A:Around}{E:vL->Sd->Prop}

theorem getattr_ok{b:Bool}{Q:vL->Sd->Prop}(I:Inv X pQ σ H s)(e:H a=some (.ins C dx fs))(c:Cls X.K C)(n:NoAttr X.K C f)(l:fs.lookup f=some v)(h:∀ u s',Inv X pQ σ H s'->RelV v u->Q u s'):wpAny (model X.prog X.w) A (getAttr (.ref a) f b) Q E s:=by
  obtain⟨mA,O,r,_,_,_⟩:=ins_get I.hok e;obtain⟨u,hu,ru⟩:=RelO.some_of (v:=v) (o:=mA f) (by rw[<-l];exact r f)
  exact get_map I.kIn O (c.get f) c.hd n hu (handed_of ru) (h u _ (I.tok _) ru)


theorem getmeth_ok{m:Str}{g:Ad}{pl:Sem Bool}{Q:vL×Li vL->Sd->Prop}(I:Inv X pQ σ H s)(e:H a=some (.ins C dx fs))(c:Cls X.K C)(k:Meth X.K C m g)(l:fs.lookup m=none)(h:Q (.ref g,[.ref a]) s):wpAny (model X.prog X.w) A (getMethod (.ref a) m pl) Q E s:=by
  obtain⟨mA,O,r,_,_,_⟩:=ins_get I.hok e;have hn:mA m=none:=RelO.none_of (by rw[<-l];exact r m)
  exact get_meth I.kIn O (c.get m) k.at_ k.fn hn h

theorem setattr_ok{y:V}{u:vL}{Q:Unit->Sd->Prop}(I:Inv X pQ σ H s)(e:H a=some (.ins C dx fs))(c:Cls X.K C)(n:NoAttr X.K C f)(hl:fs.length < 1000)(ry:RelV y u)(h:∀ s',Inv X pQ σ (upd H a (.ins C dx (putF f y fs))) s'->Q () s'):wpAny (model X.prog X.w) A (setAttr (.ref a) f u) Q E s:=by
  obtain⟨mA,O,r,wi,_,ho⟩:=ins_get I.hok e;have hz:(fs.map (·.1)).length<=sizeLine:=by rw[List.length_map,sizeLine_eq];omega
  refine set_map I.kIn O c.sa c.po n.taker c.hd wi hz fun h' O' sb=>h _ ?_
  have hd:∃ o,h'.get? dx=some o:=let ⟨o,_,_,e',_⟩:=O'.ns;⟨o,e'⟩
  refine I.write (x:=a) (e:=dx) (by rw[e];exact True.intro) (.inr ho) (fun b q hb z=>(sb.2 b hb).trans z) hd ?_
  refine⟨by rw[upd_ne O.ne];exact ho,?_,O.ne,O'.obj,_,O'.ns,fun g=>?_,fun g hg=>?_⟩
  · have:=length_putF f y fs;omega
  · show RelO ((putF f y fs).lookup g) (if g=f then some u else mA g)
    rw[lookup_putF];by_cases q:g=f
    · rw[if_pos q,if_pos q];exact ry
    · rw[if_neg q,if_neg q];exact r g
  · by_cases q:g=f
    · rw[q];exact(keys_putF f y fs).1
    · refine(keys_putF f y fs).2 g (wi g fun z=>hg ?_)
      show(if g=f then some u else mA g)=none
      rw[if_neg q];exact z

theorem Inv.made(I:Inv X pQ σ H s):Inv X pQ σ (upd (upd H s.heap.objs.size (.own (s.heap.objs.size+1))) (s.heap.objs.size+1) (.ins C s.heap.objs.size []))
    { s with heap:=(s.heap.push PySem.W.emptyDict).push (PySem.W.instObj C s.heap.objs.size) }:=by
  have e1:(s.heap.push PySem.W.emptyDict).get? s.heap.objs.size=some PySem.W.emptyDict:=Heap.get?_push_size s.heap rfl;have e2:((s.heap.push PySem.W.emptyDict).push (PySem.W.instObj C s.heap.objs.size)).get? (s.heap.objs.size+1)=some (PySem.W.instObj C s.heap.objs.size):=by
    have:=Heap.get?_push_size (s.heap.push PySem.W.emptyDict) (o:=PySem.W.instObj C s.heap.objs.size) rfl
    rwa [Heap.size_push]at this
  have e3:(s.heap.push PySem.W.emptyDict).Ns s.heap.objs.size (fun _=>none):=⟨PySem.W.emptyDict,#[],_,e1,rfl,(fun e he=>absurd he (by simp)),fun _=>rfl⟩
  have I1:=I.laid (a:=s.heap.objs.size) (o:=.own (s.heap.objs.size+1)) (h':=s.heap.push PySem.W.emptyDict) (t':=s.toks) (fun b u q=>Heap.get?_push_of_some _ q) (Nat.le_refl _) ⟨_,e1⟩
  refine I1.laid (a:=s.heap.objs.size+1) (o:=.ins C s.heap.objs.size []) (t':=s.toks) (fun b u q=>Heap.get?_push_of_some _ q) (Nat.le_of_eq (Heap.size_push _ _)) ?_
  have ne:s.heap.objs.size≠s.heap.objs.size+1:=Nat.ne_of_lt (Nat.lt_succ_self _);refine⟨by rw[upd_ne ne,upd_same],Nat.zero_le _,ne,e2,fun _=>none,(Heap.Ns1.of_empty e3).at fun o q=>Heap.get?_push_of_some _ q,fun _=>True.intro,fun y hy=>absurd rfl hy⟩

theorem attr_of{prog:Program}{w:World}{env:Env}{e:Expr}{f:Str}{pos:Pos}{s:Sd}{Q:vL->Sd->Prop}(hb:attributeBase e f env (eval e env)=eval e env)(h:wpAny (model prog w) A (eval e env) (fun o s₁=>wpAny (model prog w) A (getAttr o f true) Q E s₁) E s):wpAny (model prog w) A (eval (.Attribute e f pos) env) Q E s:=
  Attribute_any_ h (by rw[arm_eval_Attribute,hb])
end

noncomputable def tFld(K:Fg)(ta:TE)(f:Str):TE:=fun σ H Q=>ta σ H fun x H1=>∃ a C dx fs v,x=.ref a/\H1 a=some (.ins C dx fs)/\Cls K C/\NoAttr K C f/\fs.lookup f=some v/\Q v H1
noncomputable def sFld(K:Fg)(ta tv:TE)(f:Str):TS:=fun D σ H=>tv σ H fun y H1=>ta σ H1 fun x H2=>∃ a C dx fs,x=.ref a/\H2 a=some (.ins C dx fs)/\Cls K C/\NoAttr K C f/\fs.length < 1000 /\
  D.nx σ (upd H2 a (.ins C dx (putF f y fs)))

section
variable {X:Cx}{o e value:Expr}{f:Str}{pos pos' tpos:Pos}{ta tv:TE}
theorem pe_fld(he:PE X e ta)(hb:attributeBase e f X.env (eval e X.env)=eval e X.env):PE X (.Attribute e f pos) (tFld X.K ta f):=by
  intro pQ s σ H Q I h;refine attr_of hb (thn (he pQ s σ H _ I h) fun u s1 ⟨x,H1,I1,rx,a,C,dx,fs,v,ex,ea,c,n,l,q⟩=>?_)
  subst ex;obtain rfl:u=Value.ref a:=rx;exact getattr_ok I1 ea c n l fun u' s2 I2 ru=>⟨v,H1,I2,ru,q⟩
theorem ps_fld(ha:PE X o ta)(hv:PE X value tv)(hs:swapsWith value (some (.Attribute o f pos')) pos.line X.env=pure false):PS X (.Assign [.Attribute o f pos'] value pos) (sFld X.K ta tv f):=by
  intro pQ s σ H D I h;refine plainObj_wpAny_Assign_Attribute (thn (hv pQ s σ H _ I h) fun u s1 ⟨y,H1,I1,ry,q⟩=>thn (ha pQ s1 σ H1 _ I1 q) fun ov s2 ⟨x,H2,I2,rx,a,C,dx,fs,ex,ea,c,n,l,q2⟩=>?_) hs
  subst ex;obtain rfl:ov=Value.ref a:=rx;exact setattr_ok I2 ea c n l ry fun s3 I3=>⟨σ,_,I3,q2⟩

end

section
variable {X:Cx}{pQ:Li (Ad×Obj)}{σ:St}{H:Hp}{s:Sd}{A:Around}{E:vL->Sd->Prop}{Q:vL->Sd->Prop}{c:vL}{b:Bool}
inductive TyOf(K:Fg)(H:Hp):V->Value->Prop where
  |non:TyOf K H .non (.type "NoneType")
  |bl (x:Bool):TyOf K H (.bl x) (.type "bool")
  |int (i:Int):TyOf K H (.int i) (.type "int")
  |str (x:Str):TyOf K H (.str x) (.type "str")
  |flt (x:UInt64):TyOf K H (.flt x) (.type "float")
  |lst {a:Addr}{xs:List V} (e:H a=some (.lst xs)):TyOf K H (.ref a) (.type "list")
  |frz {a:Addr}{o:Obj}{xs:List V} (e:H a=some (.frz o (.lst xs))):TyOf K H (.ref a) (.type "list")
  |tup {a:Addr}{xs:List V} (e:H a=some (.tup xs)):TyOf K H (.ref a) (.type "tuple")
  |dK {a:Addr}{kvs:List (Key×V)} (e:H a=some (.dK kvs)):TyOf K H (.ref a) (.type "dict")
  |dT {a:Addr}{kvs:List (List Key×V)} (e:H a=some (.dT kvs)):TyOf K H (.ref a) (.type "dict")
  |ins {a C dx:Addr}{fs:List (Str×V)} (e:H a=some (.ins C dx fs)) (cl:Cls K C) (ha:PySem.W.findIn K (.ref C) "__class__"=some (some (.builtin "object.__class__")))
      (hn:PySem.W.specialIn K (.builtin "object.__class__") "__get__"=some (some (.builtin "getset_descriptor.__get__"))) (htk:PySem.W.takesIn K (.builtin "object.__class__")=some true)
      (hm:PySem.W.mroIn K C (.type "object")=some true):TyOf K H (.ref a) (.ref C)
theorem isinst_ok{x:V}{u t:vL}(I:Inv X pQ σ H s)(rx:RelV x u)(ty:TyOf X.K H x t)(e:PySem.W.kitOne X.K t c=some b)(h:∀ tk,Q (.bool b) { s with toks:=tk }) :
    wpAny (model X.prog X.w) A (call (.builtin "isinstance") [u,c]) Q E s:=by
  cases ty with
  |non=>cases (show u=Value.none from rx);exact PySem.W.kia_one PySem.W.kitx_none I.kIn True.intro e (fun z=>nomatch z) h
  |bl y=>cases (show u=Value.bool y from rx);exact PySem.W.kia_one PySem.W.kitx_bool I.kIn True.intro e (fun z=>nomatch z) h
  |int i=>obtain⟨t,q⟩:=(show ∃ t,u=Value.int i t from rx);cases q;exact PySem.W.kia_one PySem.W.kitx_int I.kIn True.intro e (fun z=>nomatch z) h
  |str y=>obtain⟨t,q⟩:=(show ∃ t,u=Value.str y t from rx);cases q;exact PySem.W.kia_one PySem.W.kitx_str I.kIn True.intro e (fun z=>nomatch z) h
  |flt y=>obtain⟨t,q⟩:=(show ∃ t,u=Value.float y t from rx);cases q;exact PySem.W.kia_one PySem.W.kitx_float I.kIn True.intro e (fun z=>nomatch z) h
  |@lst a xs ea=>
    cases (show u=Value.ref a from rx)
    obtain⟨_,_,n,_,h1⟩:=(show ObjOk X.prog X.w H s.heap a (.lst xs) from I.hok a _ ea);exact PySem.W.kia_one PySem.W.kitx_list I.kIn ⟨_,h1,rfl⟩ e (fun z=>nomatch z) h
  |@frz a ob xs ea=>
    cases (show u=Value.ref a from rx)
    obtain⟨_,_,_,n,_,h1⟩:=(show ObjOk X.prog X.w H s.heap a (.frz ob (.lst xs)) from I.hok a _ ea);exact PySem.W.kia_one PySem.W.kitx_list I.kIn ⟨_,h1,rfl⟩ e (fun z=>nomatch z) h
  |@tup a xs ea=>
    cases (show u=Value.ref a from rx)
    obtain⟨_,_,_,p⟩:=(show ObjOk X.prog X.w H s.heap a (.tup xs) from I.hok a _ ea);obtain⟨o,h1,h2,_⟩:=p;exact PySem.W.kia_one PySem.W.kitx_tuple I.kIn ⟨o,h1,h2⟩ e (fun z=>nomatch z) h
  |@dK a kvs ea=>
    cases (show u=Value.ref a from rx)
    obtain⟨_,_,vs,_,p⟩:=(show ObjOk X.prog X.w H s.heap a (.dK kvs) from I.hok a _ ea);obtain⟨o,es,ep,h1,h2,_⟩:=p;exact PySem.W.kia_one PySem.W.kitx_dict I.kIn ⟨o,h1,h2.1⟩ e (fun z=>nomatch z) h
  |@dT a kvs ea=>
    cases (show u=Value.ref a from rx)
    obtain⟨_,_,xs,_,o,es,ep,h1,h2,_⟩:=(show ObjOk X.prog X.w H s.heap a (.dT kvs) from I.hok a _ ea);exact PySem.W.kia_one PySem.W.kitx_dict I.kIn ⟨o,h1,h2.1⟩ e (fun z=>nomatch z) h
  |@ins a C dx fs ea cl ha hn htk hm=>
    cases (show u=Value.ref a from rx)
    obtain⟨mA,O,_⟩:=ins_get I.hok ea;obtain⟨od,J,_⟩:=O.look;exact PySem.W.kia_one (PySem.W.kitx_own (cl.get _) cl.hd ha hn htk hm) I.kIn J e (fun z=>nomatch z) h
end
end L2

namespace L2
open PySem PySem.Spec PyProof.Rows

structure Room(k:Nat)(A:Around):Prop where
  hd:A.handled=none
  dp:A.depth+3 * k+5 < recursionLimit
  un:A.units+16 * k+200 < cLine
theorem Room.mono{j k:Nat}{A:Around}(r:Room k A)(h:j<=k):Room j A:=⟨r.hd,by have:=r.dp;omega,by have:=r.un;omega⟩
theorem Room.deeper{k:Nat}{A:Around}(r:Room (k+1) A)(env:Env):Room k (A.deeper env):=
  ⟨r.hd,by have:=r.dp;show A.depth+1+3 * k+5 < _;omega,by have:=r.un;show A.units+3+16 * k+200 < _;omega⟩
theorem make_depth{A:Around}{C:Ad}{us:Li vL}{kw:Li (Str×vL)}:(A.under (.builtin "type.__call__" ⟨.ref C :: us,kw⟩)).depth=A.depth+1:=by
  first|rfl|simp[Around.under,Code.weight,Code.isCreation,Code.isGuard,Code.isCaller,Code.frames,Code.isFrame,guardIds]
theorem make_units{A:Around}{C:Ad}{us:Li vL}{kw:Li (Str×vL)}:(A.under (.builtin "type.__call__" ⟨.ref C :: us,kw⟩)).units=A.units+1:=by
  first|rfl|simp[Around.under,Code.cUnits,Code.frames,Code.isFrame]
theorem Room.make{k:Nat}{A:Around}(r:Room (k+1) A)(C:Ad)(us:Li vL)(kw:Li (Str×vL)):Room k (A.under (.builtin "type.__call__" ⟨.ref C :: us,kw⟩)):=
  ⟨r.hd,by have:=r.dp;rw[make_depth];omega,by have:=r.un;rw[make_units];omega⟩
theorem Room.depth{k:Nat}{A:Around}(r:Room k A):A.depth < recursionLimit:=by have:=r.dp;omega
theorem Room.units{k:Nat}{A:Around}(r:Room k A):A.units+64 < cLine:=by have:=r.un;omega

noncomputable def tNil:TA:=fun _ H Q=>Q [] H
noncomputable def tCons(ta:TE)(tr:TA):TA:=fun σ H Q=>ta σ H fun x H1=>tr σ H1 fun xs H2=>Q (x :: xs) H2
section
variable {X:Cx}{e:Expr}{es:Li Expr}{te:TE}{t:TA}{pos:Pos}
theorem pa_nil:PA X [] tNil:=fun _ _ _ _ H Q I h=>Calls.spliced_nil ⟨[],H,I,.nil,h⟩
theorem pa_cons(ha:PE X e te)(hr:PA X es t)(hs:starEach (e :: es) X.env=(false,eval e X.env) :: starEach es X.env:=by rfl):PA X (e :: es) (tCons te t):=by
  intro pos pQ s σ H Q I h;rw[hs];show wpAny _ _ (spliced ((false,eval e X.env) :: backTo pos (starEach es X.env))) _ _ s;refine Calls.spliced_cons (thn (ha pQ s σ H _ I h) fun u s1 ⟨x,H1,I1,r1,q1⟩=>?_)
  exact thn (hr pos pQ s1 σ H1 _ I1 q1) fun us s2 ⟨xs,H2,I2,r2,q2⟩=>⟨x :: xs,H2,I2,.cons r1 r2,q2⟩

noncomputable def tTup(t:TA):TE:=fun σ H Q=>t σ H fun xs H1=>xs.length<=sizeLine/\∀ p,H1 p=none->Q (.ref p) (upd H1 p (.tup xs))
noncomputable def tLst(t:TA):TE:=fun σ H Q=>t σ H fun xs H1=>xs.length<=sizeLine/\∀ p,H1 p=none->Q (.ref p) (upd H1 p (.lst xs))
theorem pe_tup{x1}(h:PA X es t):PE X (.Tuple es x1 pos) (tTup t):=by
  intro pQ s σ H Q I hq;refine wpAny_Tuple_spliced (thn (h pos pQ s σ H _ I hq) fun us s1 ⟨xs,H1,I1,r,z,q⟩=>⟨by rw[<-r.length];exact z,?_⟩)
  have hf:H1 s1.heap.objs.size=none:=I1.hok.fresh (Nat.le_refl _);refine⟨.ref s1.heap.objs.size,upd H1 s1.heap.objs.size (.tup xs),I1.laid (t':=s1.toks) (fun b u e=>Heap.get?_push_of_some _ e) (Nat.le_refl _) ?_,rfl,q _ hf⟩
  exact⟨z,us,r,⟨_,Heap.get?_push_size _ rfl,rfl,_,rfl⟩⟩
theorem pe_lst(h:PA X es t):PE X (.List es pos) (tLst t):=by
  intro pQ s σ H Q I hq;refine wpAny_List_spliced (thn (h pos pQ s σ H _ I hq) fun us s1 ⟨xs,H1,I1,r,z,q⟩=>⟨by rw[<-r.length];exact z,?_⟩)
  have hf:H1 s1.heap.objs.size=none:=I1.hok.fresh (Nat.le_refl _);refine⟨.ref s1.heap.objs.size,upd H1 s1.heap.objs.size (.lst xs),I1.laid (t':=s1.toks) (fun b u e=>Heap.get?_push_of_some _ e) (Nat.le_refl _) ?_,rfl,q _ hf⟩
  exact⟨z,us,0,r,Heap.get?_push_size _ rfl⟩
end

abbrev Sp:=Li V->Hp->VK->XK->Prop
abbrev CXT:=Li Env->Hp->Sd->XK->vL->Sd->Prop

structure Env0(P:Program)(w:World)(K:Fg)(mg:Str->Option Value)(base:Heap)(A:Around)(outer:List Env)(s:Shared)(H:Hp):Prop where
  frames:A.frames=some outer
  mod:Mod K mg base
  bs:∀ b o,base.get? b=some o->s.heap.get? b=some o/\H b=none
  bsz:base.objs.size<=s.heap.objs.size
  funs:s.heap.FunFrames base outer
  frf:∀ b∈frs outer,H b=none
  hok:HOk P w H s.heap
  bare:AllBare s.gens
def CE(outer:Li Env)(P:Program)(w:World)(H:Hp)(s:Sd)(Q:VK)(u:vL)(s':Sd):Prop:=
  ∃ v H',s'.os=s.os/\AllBare s'.gens/\Un (frs outer) [] H H' s.heap s'.heap/\HOk P w H' s'.heap/\RelV v u/\Q v H'
def CR(CX:CXT)(outer:Li Env)(P:Program)(w:World)(H:Hp)(s:Sd)(Q:VK)(E:XK)(r:Result)(s':Sd):Prop:=
  match r with
  |.ok (.ret u)=>CE outer P w H s Q u s'
  |.ok _=>False
  |.error e=>CX outer H s E e s'
structure FnOk(P:Program)(w:World)(K:Fg)(mg:Str->Option Value)(base:Heap)(CX:CXT)(k:Nat)(f:Addr)(fd:FuncData)(ps:List Str)(sp:Sp):Prop where
  len:∀ vs H Q E,sp vs H Q E->vs.length=ps.length
  run:∀ (A:Around) (outer:List Env) (s:Shared) (H:Hp) (args:Args) (us:List Value) (vs:List V) (Q:VK) (E:XK),Room k A->Env0 P w K mg base A outer s H->BindsTo s fd args (ps.zip us)->Vals vs us->sp vs H Q E->
    codeAny (model P w) A (.call (.ref f) args) (CR CX outer P w H s Q E) s

theorem Env0.make{P:Program}{w:World}{K:Fg}{mg:Str->Ot vL}{base:Heap}{A:Around}{outer:Li Env}{s:Sd}{H:Hp}(e:Env0 P w K mg base A outer s H)(C:Ad)(us:Li vL)(kw:Li (Str×vL)) :
    Env0 P w K mg base (A.under (.builtin "type.__call__" ⟨.ref C :: us,kw⟩)) outer s H:=⟨by first|exact e.frames | (simpa[Around.under,Code.envs,Code.isFrame,pushEnvs] using e.frames),e.mod,e.bs,e.bsz,e.funs,e.frf,e.hok,e.bare⟩

section
variable {X:Cx}{pQ:Li (Ad×Obj)}{σ:St}{H:Hp}{s s':Sd}
theorem Inv.env0(I:Inv X pQ σ H s):Env0 X.prog X.w X.K X.mg X.base X.A X.stack s H:=
  ⟨I.ok.frames,I.ok.mod,I.bs,Nat.le_trans I.ok.bsz I.sz,I.stack,I.stkFree,I.hok,I.bare⟩
theorem Inv.after{Q:VK}{u:vL}(I:Inv X pQ σ H s)(h:CE X.stack X.prog X.w H s Q u s'):EP X pQ σ Q u s':=by
  obtain⟨v,H',os,bare,un,hok,r,q⟩:=h;obtain⟨hh,g,d,t,os'⟩:=s';obtain rfl:os'=s.os:=os;exact⟨v,H',I.call (h':=hh) (g':=g) (d':=d) (t':=t) (ch:=[]) un hok bare (fun b z=>absurd z (by simp)),r,q⟩
end

noncomputable def tCall(sp:Sp)(dvs:Li V)(E:XK)(t:TA):TE:=fun σ H Q=>t σ H fun vs H1=>sp (vs++dvs) H1 Q E

def Binds(K:Fg)(fd:FuncData)(ps:Li Str)(ds:Li vL):Prop:=
  ∀ (s:Sd) (us:Li vL),K.In s.heap->(us++ds).length=ps.length->BindsTo s fd ⟨us,[]⟩ (ps.zip (us++ds))
theorem Binds.all{K:Fg}{fd:FuncData}{ps:Li Str}(h:∀ us:Li vL,us.length=ps.length->bindArgs fd ⟨us,[]⟩=pure (ps.zip us)):Binds K fd ps []:=fun s us _ hl=>by
  rw[List.append_nil]at hl ⊢;exact .of_eq (h us hl)

def Passes(CX:CXT)(X:Cx)(E:XK):Prop:=∀ (pQ:Li (Ad×Obj)) (σ:St) (H:Hp) (s:Sd) (e:vL) (s':Sd),Inv X pQ σ H s->CX X.stack H s E e s'->X.xe e s'

section
variable {X:Cx}{CX:CXT}{k:Nat}{f C:Ad}{fd:FuncData}{ps:Li Str}{sp:Sp}{dvs:Li V}{ds:Li vL}{E:XK}{x m:Str}{p pos apos:Pos}{e o:Expr}{es:Li Expr}{ta:TE}{t:TA}

theorem run_fn{pQ:Li (Ad×Obj)}{σ:St}{H:Hp}{s:Sd}{Q:VK}{us:Li vL}{vs:Li V}(F:FnOk X.prog X.w X.K X.mg X.base CX k f fd ps sp)(hr:Room k X.A)(hb:Binds X.K fd ps ds)(hd:Vals dvs ds)(hx:Passes CX X E)(I:Inv X pQ σ H s)(r:Vals vs us)(h:sp (vs++dvs) H Q E):wpAny (model X.prog X.w) X.A (call (.ref f) us) (EP X pQ σ Q) X.xe s:=by
  have r2:Vals (vs++dvs) (us++ds):=r.append hd;have hl:(us++ds).length=ps.length:=by rw[<-r2.length];exact F.len _ _ _ _ h
  refine wpAny_call (codeAny_mono (F.run X.A X.stack s H ⟨us,[]⟩ (us++ds) (vs++dvs) Q E hr I.env0 (hb s us I.kIn hl) r2 h) fun r s' hq=>?_)
  cases r with
  |error e=>exact hx pQ σ H s e s' I hq
  |ok fl=>
    cases fl with
    |ret u=>exact I.after hq
    |next=>exact False.elim hq
    |brk=>exact False.elim hq
    |cont=>exact False.elim hq

theorem pe_call(F:FnOk X.prog X.w X.K X.mg X.base CX k f fd ps sp)(hr:Room k X.A)(hg:Gl X x)(hm:X.mg x=some (.ref f))(hk:PySem.W.keepIn X.K (.ref f)=true)(hb:Binds X.K fd ps ds)(hd:Vals dvs ds)(hx:Passes CX X E)(ha:PA X (e :: es) t)(hdb:(x==("__debug__":Str))=false:=by decide)(he:starEach (e :: es) X.env=(false,eval e X.env) :: starEach es X.env:=by rfl)(hpl:(backTo pos (starEach es X.env)).any (·.1)=false:=by rfl) :
    PE X (.Call (.Name x p) (e :: es) [] pos) (tCall sp dvs E t):=by
  intro pQ s σ H Q I h;refine wpAny_Call_Name_kw (ld_glob I hg hm ?_ hdb);refine PySem.W.callWith_K (h₀:=X.base) I.ok.mod.kin hk (thn (ha pos pQ s σ H _ I h) fun us s1 ⟨vs,H1,I1,r,q⟩=>⟨I1.kIn,?_⟩) he hpl
  exact run_fn F hr hb hd hx I1 r q
theorem pe_call0(F:FnOk X.prog X.w X.K X.mg X.base CX k f fd ps sp)(hr:Room k X.A)(hg:Gl X x)(hm:X.mg x=some (.ref f))(hk:PySem.W.keepIn X.K (.ref f)=true)(hb:Binds X.K fd ps ds)(hd:Vals dvs ds)(hx:Passes CX X E)(hdb:(x==("__debug__":Str))=false:=by decide):PE X (.Call (.Name x p) [] [] pos) (tCall sp dvs E tNil):=by
  intro pQ s σ H Q I h;refine wpAny_Call_Name_kw (ld_glob I hg hm ?_ hdb);exact PySem.W.callWith_K0 I.kIn hk (run_fn (us:=[]) F hr hb hd hx I .nil h)


structure Mk(K:Fg)(C f:Addr):Prop where
  makes:PySem.W.makesIn K C=true
  init:PySem.W.findIn K (.ref C) "__init__"=some (some (.ref f))
  fn:PySem.W.isFn K (.ref f)=true
  kp:PySem.W.keepIn K (.ref C)=true

theorem run_make{pQ:Li (Ad×Obj)}{σ:St}{H:Hp}{s:Sd}{Q:VK}{us:Li vL}{vs:Li V}(M:Mk X.K C f)(F:FnOk X.prog X.w X.K X.mg X.base CX k f fd ps sp)(hr:Room (k+1) X.A)(hb:Binds X.K fd ps ds)(hd:Vals dvs ds)(hx:Passes CX X E)(I:Inv X pQ σ H s)(r:Vals vs us)(h:∀ x dx,H x=none->H dx=none->dx≠x->(∀ o,X.K.lookup x≠some o)->sp (.ref x :: (vs++dvs)) (upd (upd H dx (.own x)) x (.ins C dx [])) (fun v H2=>v=.non/\Q (.ref x) H2) E) :
    wpAny (model X.prog X.w) X.A (call (.ref C) us) (EP X pQ σ Q) X.xe s:=by
  have hq:=h (s.heap.objs.size+1) s.heap.objs.size (I.hok.fresh (Nat.le_succ _)) (I.hok.fresh (Nat.le_refl _)) (Nat.ne_of_lt (Nat.lt_succ_self _)) (fun o z=>absurd (Heap.lt_size (I.kIn _ o z)) (Nat.not_lt.mpr (Nat.le_succ _)))
  have I2:=Inv.made (C:=C) I;have r2:Vals (V.ref (s.heap.objs.size+1) :: (vs++dvs)) (Value.ref (s.heap.objs.size+1) :: (us++ds)):=.cons rfl (r.append hd);have hl:(Value.ref (s.heap.objs.size+1) :: us++ds).length=ps.length:=by
    have e:=r2.length;rw[F.len _ _ _ _ hq]at e;exact e.symm
  refine wpAny_call (make_map (f:=f) I.kIn M.makes M.init (beq_iff_eq.mp M.fn) (codeAny_mono (F.run _ X.stack _ _ ⟨Value.ref (s.heap.objs.size+1) :: us,[]⟩ (Value.ref (s.heap.objs.size+1) :: (us++ds)) _ _ E (hr.make C us [])
    (I2.env0.make C us []) (hb _ (Value.ref (s.heap.objs.size+1) :: us) I2.kIn hl) r2 hq) fun r s' hq'=>?_))
  cases r with
  |error e=>exact hx pQ σ _ _ e s' I2 hq'
  |ok fl=>
    cases fl with
    |ret u=>
      obtain⟨v,H',I3,rv,ev,q3⟩:=I2.after hq';subst ev;exact⟨rv,⟨V.ref (s.heap.objs.size+1),H',I3,rfl,q3⟩⟩
    |next=>exact False.elim hq'
    |brk=>exact False.elim hq'
    |cont=>exact False.elim hq'
end

section
variable {X:Cx}{CX:CXT}{k:Nat}{f C:Ad}{fd:FuncData}{ps ks:Li Str}{sp:Sp}{E:XK}{x m:Str}{p pos apos kpos:Pos}{e o:Expr}{es:Li Expr}{kws:Li Keyword}{te ta:TE}{t tk:TA}{nm:Ot Str}

structure KBinds(K:Fg)(fd:FuncData)(ps ks:List Str)(g:List Value->List Value->List Value)(gV:List V->List V->List V):Prop where
  to:∀ (s:Shared) (us ws:List Value),K.In s.heap->(g us ws).length=ps.length->BindsTo s fd ⟨us,ks.zip ws⟩ (ps.zip (g us ws))
  rel:∀ {vs:List V}{us:List Value}{zs:List V}{ws:List Value},Vals vs us->Vals zs ws->Vals (gV vs zs) (g us ws)
variable {g:Li vL->Li vL->Li vL}{gV:Li V->Li V->Li V}
end

structure FnScope(N P:List Str)(sc:Scope):Prop where
  kind:sc.kind=.function
  co:sc.isCoroutine=false
  gen:sc.isGenerator=false
  nd:N.Nodup
  pre:N.take P.length=P
  par:∀ x∈P,sc.names.lookup x=some .local\/sc.names.lookup x=some .cell
  nofree:∀ y∈sc.names,y.2≠.free

theorem bindL_out{kindOf:Str->Ot NameKind}{x:Str}:∀ {binds:Li (Str×vL)}{m:Str->Ot vL},(∀ v,(x,v)∉binds)->bindL kindOf binds m x=m x
  |[],_,_=>rfl
  | (n,v) :: r,m,h=>by
    unfold bindL;rw[bindL_out fun w hw=>h w (Lm _ hw)]
    split
    · have:x≠n:=by rintro rfl;exact h v Ls
      simp[this]
    · rfl
theorem bindC_out{kindOf:Str->Ot NameKind}{x:Str}:∀ {binds:Li (Str×vL)}{m:Str->Ot vL},(∀ v,(x,v)∉binds)->bindC kindOf binds m x=m x
  |[],_,_=>rfl
  | (n,v) :: r,m,h=>by
    unfold bindC;rw[bindC_out fun w hw=>h w (Lm _ hw)]
    split
    · rfl
    · have:x≠n:=by rintro rfl;exact h v Ls
      simp[this]
theorem bindL_get{kindOf:Str->Ot NameKind}{x:Str}{v:vL}:∀ {P:Li Str}{vs:Li vL}{i:Nat}{m:Str->Ot vL},P.Nodup->P[i]?=some x->vs[i]?=some v->kindOf x=some .local->
    bindL kindOf (P.zip vs) m x=some v
  |[],_,_,_,_,h,_,_=>by simp at h
  |_ :: _,[],_,_,_,_,h,_=>by simp at h
  |p :: P,w :: vs,0,m,nd,h1,h2,hk=>by
    simp at h1 h2;subst h1;subst h2;show bindL kindOf ((p,w) :: P.zip vs) m p=_;unfold bindL;rw[bindL_out fun v hv=>(List.nodup_cons.mp nd).1 (List.of_mem_zip hv).1,if_pos hk]
    simp
  |p :: P,w :: vs,i+1,m,nd,h1,h2,hk=>by
    show bindL kindOf ((p,w) :: P.zip vs) m x=_;unfold bindL;exact bindL_get (i:=i) (List.nodup_cons.mp nd).2 (by simpa using h1) (by simpa using h2) hk
theorem bindC_get{kindOf:Str->Ot NameKind}{x:Str}{v:vL}:∀ {P:Li Str}{vs:Li vL}{i:Nat}{m:Str->Ot vL},P.Nodup->P[i]?=some x->vs[i]?=some v->kindOf x≠some .local->
    bindC kindOf (P.zip vs) m x=some v
  |[],_,_,_,_,h,_,_=>by simp at h
  |_ :: _,[],_,_,_,_,h,_=>by simp at h
  |p :: P,w :: vs,0,m,nd,h1,h2,hk=>by
    simp at h1 h2;subst h1;subst h2;show bindC kindOf ((p,w) :: P.zip vs) m p=_;unfold bindC;rw[bindC_out fun v hv=>(List.nodup_cons.mp nd).1 (List.of_mem_zip hv).1,if_neg hk]
    simp
  |p :: P,w :: vs,i+1,m,nd,h1,h2,hk=>by
    show bindC kindOf ((p,w) :: P.zip vs) m x=_;unfold bindC;exact bindC_get (i:=i) (List.nodup_cons.mp nd).2 (by simpa using h1) (by simpa using h2) hk

noncomputable def start(N:Li Str)(vs:Li V):St:=vs.map some++List.replicate (N.length - vs.length) none

noncomputable def cxOf(CX:CXT)(P:Program)(w:World)(K:Fg)(mg:Str->Ot vL)(base:Heap)(N:Li Str)(qual:Str)(scope:Scope)(f:Ad)(cd:vL)(A:Around)(outer:Li Env)(s:Sd)(H:Hp)(E:XK):Cx where
  prog:=P
  w:=w
  K:=K
  mg:=mg
  base:=base
  A:=A.deeper (envOfC qual scope s.heap.objs.size f cd)
  N:=N
  s₀:=s
  H₀:=H
  env:=envOfC qual scope s.heap.objs.size f cd
  outer:=outer
  stack:=envOfC qual scope s.heap.objs.size f cd :: outer
  ex:=[]
  calm:=true
  fn:=fun _=>true
  pn:=[]
  xe:=fun e s'=>wpAny (model P w) (A.deeper (envOfC qual scope s.heap.objs.size f cd)) (leaving (envOfC qual scope s.heap.objs.size f cd) e) (fun _ s''=>CX outer H s E e s'') (fun e' s''=>CX outer H s E e' s'') s'

theorem cell_has{sc:Scope}{n:Nat}{x:Str}(h:sc.names.lookup x=some .cell):∃ c,(cellsFrom n sc.names []).lookup x=some c:=by
  have q:=PySem.W.cellsFrom_some sc.names n [] (.inl h);exact Option.isSome_iff_exists.mp q

theorem inv_start{CX:CXT}{P:Program}{w:World}{K:Fg}{mg:Str->Ot vL}{base:Heap}{N ps:Li Str}{qual:Str}{scope:Scope}{f:Ad}{cd:vL}{A:Around}{outer:Li Env}{s s1:Sd}{H:Hp}{E:XK}{us:Li vL}{vs:Li V}(S:FnScope N ps scope)(hd:A.handled=none)(e0:Env0 P w K mg base A outer s H)(hl:vs.length=ps.length)(r:Vals vs us)(x:InCallC s s.heap.objs.size (bindL (envOfC qual scope s.heap.objs.size f cd).kindOf (ps.zip us) fun _=>none) (cellsFrom (s.heap.objs.size+1) scope.names []) (bindC (envOfC qual scope s.heap.objs.size f cd).kindOf (ps.zip us) fun _=>none) s1) :
    Inv (cxOf CX P w K mg base N qual scope f cd A outer s H E) [] (start N vs) H s1:=by
  have hpl:ps.length<=N.length:=by have:=congrArg List.length S.pre;rw[List.length_take]at this;omega
  obtain⟨h1,tk,rfl,hk⟩:=x.done;have noA:∀ b:Ad,b∉(cxOf CX P w K mg base N qual scope f cd A outer s H E).ex:=fun b z=>absurd (show b∈([]:Li Ad) from z) (by simp)
  refine⟨⟨e0.mod,S.kind,rfl,rfl,Nat.le_refl _,fun y z c h1 h2=>?_,fun y hy=>?_,fun y c _ h=>?_,fun _=>hd,Around.frames_deeper e0.frames,.inr ⟨rfl,rfl⟩,fun b z=>absurd z (noA b),e0.bs,e0.bsz,fun b _ _=>noA b,fun b z=>absurd z (noA b),e0.funs,e0.frf⟩,
    rfl,e0.bare,Un.kept hk,⟨_,x.toInCall.ns,fun i y v h1 h2 h3=>?_⟩,fun y c h=>⟨_,x.cell y c h⟩,e0.hok.fresh (Nat.le_refl _),fun y c h=>?_,fun p hp=>absurd (show p∈([]:Li (Ad×Obj)) from hp) (by simp),e0.hok.kept hk,?_⟩
  · exact name_of_addr x.apart (PySem.mem_of_lookup h1) (PySem.mem_of_lookup h2)
  · have hy:scope.names.lookup y=some .cell\/scope.names.lookup y=some .free:=hy
    rcases hy with hy|hy
    · exact cell_has hy
    · exact absurd rfl (S.nofree _ (PySem.mem_of_lookup hy))
  · exact Nat.le_of_lt (x.above y c (PySem.mem_of_lookup h))
  · have hi:i < vs.length:=by
      unfold start at h2;by_cases hi:i < vs.length
      · exact hi
      · rw[List.getElem?_append_right (by simpa using hi)]at h2
        rw[List.getElem?_replicate]at h2;split at h2<;>cases h2
    have ha:vs[i]?=some v:=by
      unfold start at h2;rw[List.getElem?_append_left (by simpa using hi),List.getElem?_map]at h2
      cases e:vs[i]? with
      |none=>rw[e]at h2;cases h2
      |some a=>rw[e]at h2;cases h2;rfl
    obtain⟨u,hu,rv⟩:=r.get ha;have hp:ps[i]?=some y:=by
      rw[<-S.pre,List.getElem?_take_of_lt (by omega)];exact h1
    have ndP:ps.Nodup:=by rw[<-S.pre];exact S.nd.sublist (List.take_sublist _ _)
    refine⟨u,rv,?_⟩;rcases S.par y (List.mem_of_getElem? hp) with k|k
    · exact .inl ⟨k,bindL_get ndP hp hu k⟩
    · obtain⟨c,e⟩:=cell_has (n:=s.heap.objs.size+1) k
      refine .inr ⟨.inl k,c,e,?_⟩;have q:=x.cell y c e;rw[bindC_get ndP hp hu (by show scope.names.lookup y≠_;rw[k];decide)]at q
      exact q
  · exact e0.hok.fresh (Nat.le_of_lt (x.above y c (PySem.mem_of_lookup h)))
  · unfold start
    show _=N.length;rw[List.length_append,List.length_map,List.length_replicate];omega

theorem fn_of{CX:CXT}{P:Program}{w:World}{K:Fg}{mg:Str->Ot vL}{base:Heap}{k:Nat}{f:Ad}{name qual:Str}{params:Arguments}{body:Li Stmt}{scope:Scope}{dV kV doc pm cdv ct oc:vL}{an od:Ot Ad}{osl:Array (Ot vL)}{N ps:Li Str}{sp:Sp}(lk:K.lookup f=some ⟨oc,od,.func (PySem.W.fnOf name qual params body scope dV kV doc pm an cdv ct),osl⟩)(hcd:PySem.W.codeIn K cdv qual=true)(S:FnScope N ps scope)(len:∀ vs H Q E,sp vs H Q E->vs.length=ps.length)(hbody:∀ (A:Around) (outer:Li Env) (s:Sd) (H:Hp) (vs:Li V) (Q:VK) (E:XK),Room k (A.deeper (envOfC qual scope s.heap.objs.size f cdv))->sp vs H Q E->
      ∃ t,PSs (cxOf CX P w K mg base N qual scope f cdv A outer s H E) body t/\t { nx:=fun _ H'=>Q .non H',rt:=Q } (start N vs) H) :
    FnOk P w K mg base CX (k+1) f (PySem.W.fnOf name qual params body scope dV kV doc pm an cdv ct) ps sp:=by
  refine⟨len,fun A outer s H args us vs Q E hr e0 hb r hsp=>?_⟩
  have hl:=len _ _ _ _ hsp;have KX:K.In s.heap:=e0.mod.kin.keeps fun b o e=>(e0.bs b o e).1
  have lim:s.heap.NoLimit:=e0.mod.nolimit.keeps fun b o e=>(e0.bs b o e).1
  have hkind:∀ y∈ps.zip us,scope.names.lookup y.1=some .local\/(scope.names.lookup y.1=some .cell/\((cellsFrom (s.heap.objs.size+1) scope.names []).lookup y.1).isSome=true):=fun⟨n,v⟩ hy=>by
    rcases S.par n (List.of_mem_zip hy).1 with q|q
    · exact .inl q
    · exact .inr ⟨q,PySem.W.cellsFrom_some _ _ _ (.inl q)⟩
  refine codeAny_call_function hr.depth (KX _ _ lk) rfl S.co S.gen rfl (PySem.W.codeRec_of KX hcd) (hb _ _ _ _ ?_);refine wpAny_newFunctionEnv_cells S.kind hkind fun env he s1 x=>?_
  subst he;refine⟨lim.keeps x.toInCall.keep,codeAny_func ?_⟩;obtain⟨t,ht,hq⟩:=hbody A outer s H vs Q E (hr.deeper _) hsp;have I:Inv (cxOf CX P w K mg base N qual scope f cdv A outer s H E) [] (start N vs) H s1:=inv_start S hr.hd e0 hl r x;refine wpAny_mono (ht [] s1 (start N vs) H _ I hq) (fun fl s' hs=>?_) fun e s' hs=>hs
  have fin:∀ {σ':St}{H':Hp}{v:V}{u:vL},Inv (cxOf CX P w K mg base N qual scope f cdv A outer s H E) [] σ' H' s'->RelV v u->Q v H'->CE outer P w H s Q u s':=
    fun {σ' H' v u} J rv q=>⟨v,H',J.os,J.bare,J.base,J.hok,rv,q⟩
  cases fl with
  |ret u=>
    obtain⟨v,σ',H',J,rv,q⟩:=hs;exact fin J rv q
  |next=>
    obtain⟨σ',H',J,q⟩:=hs;exact fin (v:=V.non) (u:=Value.none) J rfl q
  |brk=>
    obtain⟨_,_,_,q⟩:=hs;exact False.elim q
  |cont=>
    obtain⟨_,_,_,q⟩:=hs;exact False.elim q
end L2

namespace L2
open PySem PySem.Spec PyProof.Rows
section
variable {X:Cx}{x:Str}{p pos:Pos}{e:Expr}{es:Li Expr}{t:TA}{id T:String}{r:Li V->Hp->VK->Prop}

noncomputable def tCB(r:Li V->Hp->VK->Prop)(t:TA):TE:=fun σ H Q=>t σ H fun vs H1=>r vs H1 Q
theorem pe_callB(hc:CallR X (.builtin id) r)(hg:Gl X x)(hm:X.mg x=none)(hv:bootBuiltins x=some (.builtin id))(ha:PA X (e :: es) t)(hn:x ≠ "__name__":=by decide)(hdb:(x==("__debug__":Str))=false:=by decide)(he:starEach (e :: es) X.env=(false,eval e X.env) :: starEach es X.env:=by rfl)(hpl:(backTo pos (starEach es X.env)).any (·.1)=false:=by rfl):PE X (.Call (.Name x p) (e :: es) [] pos) (tCB r t):=by
  intro pQ s σ H Q I h;refine wpAny_Call_Name_kw (ld_blt I hg hm hv ?_ hn hdb);exact PyProof.Rows.callWith_builtin1 (thn (ha pos pQ s σ H _ I h) fun us s1 ⟨vs,H1,I1,r1,q1⟩=>hc pQ s1 σ H1 vs us Q I1 r1 q1) he hpl
theorem pe_callTy(hc:CallR X (.type T) r)(hg:Gl X x)(hm:X.mg x=none)(hv:bootBuiltins x=some (.type T))(ha:PA X (e :: es) t)(hn:x ≠ "__name__":=by decide)(hdb:(x==("__debug__":Str))=false:=by decide)(he:starEach (e :: es) X.env=(false,eval e X.env) :: starEach es X.env:=by rfl)(hpl:(backTo pos (starEach es X.env)).any (·.1)=false:=by rfl):PE X (.Call (.Name x p) (e :: es) [] pos) (tCB r t):=by
  intro pQ s σ H Q I h;refine wpAny_Call_Name_kw (ld_blt I hg hm hv ?_ hn hdb);exact PyProof.Rows.callWith_type1 (thn (ha pos pQ s σ H _ I h) fun us s1 ⟨vs,H1,I1,r1,q1⟩=>hc pQ s1 σ H1 vs us Q I1 r1 q1) he hpl
end
end L2

namespace HT
open PySem PyProof.Rows



section
open PySem.SeqAt
open PySem.AutoSeq1 (wpAny_loadPart')
open PySem.MeetsSeq PySem.MeetsSeq2 PySem.MeetsSeq3

end

section
variable {prog:Program}{w:World}{A:Around}{E:vL->Sd->Prop}{s:Sd}


theorem cat_tup{t b:Ad}{vs ws:Li vL}{Q:vL->Sd->Prop}(ht:IsTup s.heap t vs.toArray)(hb:IsTup s.heap b ws.toArray)(hv:vs≠[])(h1:ws=[]->Q (.ref t) s)(h2:ws≠[]->Q (.ref s.heap.objs.size) { s with heap:=s.heap.push { cls:=.type "tuple",data:=.seq (vs++ws).toArray } })(hsz:vs.length+ws.length<=sizeLine):wpAny (model prog w) A (binaryOp .Add (.ref t) (.ref b)) Q E s:=by
  obtain⟨⟨cls,dd,data,sl⟩,ho,hc,n,hd⟩:=id ht;obtain⟨⟨cls2,dd2,data2,sl2⟩,ho2,hc2,n2,hd2⟩:=id hb;simp only at hc hd hc2 hd2;subst hc hd hc2 hd2;have e:vs.toArray++ws.toArray=(vs++ws).toArray:=by simp
  by_cases hw:ws=[]
  · exact concat_meets ⟨_,ho,rfl⟩ ⟨_,ho2,rfl⟩ noFill_tuple_add seq_tuple_add PySem.F.slot_tuple_add PySem.F.entry_tuple_add (PySem.F.args_tuple_add_2 _ _)
      (tuple_addW1 t b vs.toArray ws.toArray n n2 dd dd2 sl sl2 (by simpa using hv) (by simp[hw])) ⟨ho,ho2,h1 hw⟩
  · refine concat_meets ⟨_,ho,rfl⟩ ⟨_,ho2,rfl⟩ noFill_tuple_add seq_tuple_add PySem.F.slot_tuple_add PySem.F.entry_tuple_add (PySem.F.args_tuple_add_2 _ _)
      (tuple_addW2 t b vs.toArray ws.toArray n n2 dd dd2 sl sl2 (by simpa using hv) (by simpa using hw) (by rw[List.size_toArray,List.size_toArray];exact hsz)) ⟨ho,ho2,?_⟩
    rw[e];exact h2 hw

noncomputable def sIx(n d:Nat):Ot Int->Nat
  |none=>d
  |some v=>if v < 0 then (v+(n:Int)).toNat else min v.toNat n
theorem sIx_le(n d:Nat)(hd:d<=n)(o:Ot Int):sIx n d o<=n:=by
  cases o with
  |none=>exact hd
  |some v=>
    show(if v < 0 then (v+(n:Int)).toNat else min v.toNat n)<=n
    by_cases hv:v < 0
    · rw[if_pos hv];omega
    · rw[if_neg hv];exact Nat.min_le_right _ _
theorem clip_eq(v:Int)(n d:Nat):(if v < 0 then max (v+(n:Int)) 0 else min v (n:Int))=((sIx n d (some v):Nat):Int):=by
  show(if v < 0 then max (v+(n:Int)) 0 else min v (n:Int))=(((if v < 0 then (v+(n:Int)).toNat else min v.toNat n):Nat):Int)
  by_cases hv:v < 0
  · simp only[if_pos hv];omega
  · simp only[if_neg hv];omega
theorem adjust_gen(lo hi:Ot Int)(n:Nat):Builtin.Slice.sliceAdjust lo hi 1 (n:Int)=(((sIx n 0 lo:Nat):Int),((sIx n n hi:Nat):Int)):=by
  have h1:¬((1:Int) < 0):=by omega
  unfold Builtin.Slice.sliceAdjust;simp only[h1,if_false];refine Prod.ext ?_ ?_
  · cases lo with
    |none=>rfl
    |some v=>exact clip_eq v n 0
  · cases hi with
    |none=>rfl
    |some v=>exact clip_eq v n n
theorem places_gen(i j:Nat):Builtin.Slice.slicePlaces (i:Int) (j:Int) 1=j - i:=by
  unfold Builtin.Slice.slicePlaces;have h1:(1:Int) > 0:=by omega
  simp only[h1,if_true,Int.ediv_one];split<;>omega
theorem slicePart_{v:vL}{o:Ot Int}{Q:Ot Int->Sd->Prop}(p:IsPart v o)(h:Q o s):wpAny (model prog w) A (Builtin.Slice.slicePartIndex v) Q E s:=by
  cases p with
  |none=>exact slicePart_none h
  |int i t=>exact slicePart_int h
theorem sliceApplied_gen{sl:Ad}{vl vu:vL}{lo hi:Ot Int}{n:Nat}{Q:Int×Int×Nat->Sd->Prop}(hs:s.heap.IsSliceOf sl vl vu .none)(pl:IsPart vl lo)(pu:IsPart vu hi)(h:Q (((sIx n 0 lo:Nat):Int),1,sIx n n hi - sIx n 0 lo) s):wpAny (model prog w) A (Builtin.Slice.sliceApplied (.ref sl) (pure (n:Int))) Q E s:=by
  obtain⟨os,hos,hcs,hds⟩:=id hs;unfold Builtin.Slice.sliceApplied Builtin.Slice.sliceFields;refine wpAny_bind (wpAny_bind (wpAny_field hos hds (x:=vl) rfl (wpAny_bind (wpAny_field hos hds (x:=vu) rfl (wpAny_bind (wpAny_field hos hds (x:=.none) rfl (wpAny_pure ?_)))))));refine wpAny_bind (slicePart_none ?_);show wpAny _ _ (if ((1:Int)==0)=true then _ else _) _ _ s
  rw[if_neg (by decide)]
  refine wpAny_bind (slicePart_ pl (wpAny_bind (slicePart_ pu (wpAny_bind (wpAny_pure ?_)))));show wpAny _ _ (match Builtin.Slice.sliceAdjust lo hi 1 (n:Int) with | (lo,hi)=>pure (lo,(1:Int),Builtin.Slice.slicePlaces lo hi 1)) _ _ s
  rw[adjust_gen lo hi n];show wpAny _ _ (pure (((sIx n 0 lo:Nat):Int),(1:Int),Builtin.Slice.slicePlaces ((sIx n 0 lo:Nat):Int) ((sIx n n hi:Nat):Int) 1)) _ _ s;rw[places_gen];exact wpAny_pure h
theorem pick_gen(xs:Array vL)(i k:Nat):((List.range k).filterMap fun(m:Nat)=>xs[((i:Int)+(m:Int) * 1).toNat]?).toArray=((xs.toList.drop i).take k).toArray:=by
  have e:(fun(m:Nat)=>xs[((i:Int)+(m:Int) * 1).toNat]?)=fun m=>xs[i+m]?:=by
    funext m
    have:((i:Int)+(m:Int) * 1).toNat=i+m:=by omega
    rw[this]
  rw[e];have:=pick_run xs i k;rw[List.filterMap_map]at this;have e2:((fun x=>xs[x]?) ∘ fun x=>i+x)=fun m=>xs[i+m]?:=rfl
  rw[e2]at this;rw[this]

theorem getItem_tuple_cut{t sl:Ad}{items:Array vL}{vl vu:vL}{lo hi:Ot Int}{Q:vL->Sd->Prop}(ht:IsTup s.heap t items)(hs:s.heap.IsSliceOf sl vl vu .none)(pl:IsPart vl lo)(pu:IsPart vu hi)(hw:¬(sIx items.size 0 lo=0/\sIx items.size items.size hi=items.size))(h:Q (.ref s.heap.objs.size) { s with heap:=s.heap.push { cls:=.type "tuple",data:=.seq ((items.toList.drop (sIx items.size 0 lo)).take (sIx items.size items.size hi - sIx items.size 0 lo)).toArray } })(hsz:items.size<=sizeLine):wpAny (model prog w) A (getItem (.ref t) (.ref sl)) Q E s:=by
  have htake:sizeOk (.seq ((items.toList.drop (sIx items.size 0 lo)).take (sIx items.size items.size hi - sIx items.size 0 lo)).toArray):=by
    show((items.toList.drop (sIx items.size 0 lo)).take (sIx items.size items.size hi - sIx items.size 0 lo)).toArray.size<=sizeLine;rw[List.size_toArray,List.length_take,List.length_drop,Array.length_toList];omega
  have hj:sIx items.size items.size hi<=items.size:=sIx_le _ _ (Nat.le_refl _) hi;obtain⟨os,hos,hcs,hds⟩:=id hs;have hTs:s.TypeIs (.ref sl) "slice":=⟨os,hos,hcs⟩;unfold getItem
  try with_reducible refine wpAny_holding ?_
  first|refine wpAny_bind (wpAny_pure ?_)|skip
  refine wpAny_bind (wpAny_sequenceKey ht.typeIs (by decide) ?_)
  refine wpAny_bind (wpAny_callSpecial?_slot (name:=Str.ofString "__getitem__") ht.typeIs PyProof.Rows.slot_tuple_getitem
    (wpAny_call_entry PyProof.Rows.slot_tuple_getitem ht.typeIs entry_tuple_getitem ?_ (args_tuple_getitem _ _)))
  show wpAny _ _ (Builtin.Tuple.tupleItemsOf (.ref t) >>= _) _ _ s;refine wpAny_bind (tupleItemsOf_ ht ?_);refine wpAny_bind (wpAny_typeOf hTs ?_);rw[if_pos (by decide)]
  refine wpAny_bind (sliceApplied_gen hs pl pu ?_);have hno:¬((((sIx items.size 0 lo:Nat):Int)==0&&(1:Int)==1&&(sIx items.size items.size hi - sIx items.size 0 lo)==items.size)=true):=by
    intro q;rw[Ba,Ba]at q;have q1:((sIx items.size 0 lo:Nat):Int)=0:=eq_of_beq q.1.1;have q2:sIx items.size items.size hi - sIx items.size 0 lo=items.size:=eq_of_beq q.2;exact hw ⟨by omega,by omega⟩
  show wpAny _ _ (if (((sIx items.size 0 lo:Nat):Int)==0&&(1:Int)==1&&(sIx items.size items.size hi - sIx items.size 0 lo)==items.size)=true then _ else _) _ _ s
  rw[if_neg hno,pick_gen]
  first
    |exact wpAny_bind (m:=Builtin.Tuple.tupleExact _) (wpAny_newObj_type (wpAny_pure ⟨_,rfl,wpAny_pure h⟩) htake)
    |exact wpAny_bind (m:=Builtin.Tuple.tupleExact _) (wpAny_newObj_type (wpAny_bind (wpAny_pure (wpAny_pure ⟨_,rfl,wpAny_pure h⟩))) htake)
    |exact wpAny_bind (wpAny_bind (m:=Builtin.Tuple.tupleExact _) (wpAny_newObj_type (wpAny_pure (wpAny_pure ⟨_,rfl,wpAny_pure h⟩)) htake))
    |exact wpAny_bind (wpAny_bind (m:=Builtin.Tuple.tupleExact _) (wpAny_newObj_type (wpAny_pure ⟨_,rfl,wpAny_pure h⟩) htake))
end
end HT

namespace L2
open PySem PySem.Spec PyProof.Rows

abbrev TO:=St->Hp->(Ot Int->Hp->Prop)->Prop
def PO(X:Cx)(e:Ot Expr)(t:TO):Prop:=
  ∀ (pQ:Li (Ad×Obj)) (s:Sd) (σ:St) (H:Hp) (Q:Ot Int->Hp->Prop),Inv X pQ σ H s->t σ H Q->
    wpAny (model X.prog X.w) X.A (evalPart e X.env) (fun u s'=>∃ o H',Inv X pQ σ H' s'/\IsPart u o/\Q o H') X.xe s
noncomputable def tNoPart:TO:=fun _ H Q=>Q none H
noncomputable def tPart(t:TE):TO:=fun σ H Q=>t σ H fun x H1=>∃ i,x=.int i/\Q (some i) H1


section
variable {X:Cx}{e:Expr}{te:TE}{lo hi:Ot Expr}{tl th:TO}{pos p2:Pos}

theorem po_none:PO X none tNoPart:=by
  intro pQ s σ H Q I h;rw[evalPart_none];exact wpAny_pure ⟨none,H,I,.none,h⟩
theorem po_some(h:PE X e te):PO X (some e) (tPart te):=by
  intro pQ s σ H Q I hw;rw[evalPart_some];refine thn (h pQ s σ H _ I hw) fun u s1 ⟨x,H1,I1,r1,q1⟩=>?_
  obtain⟨i,rfl,q⟩:=q1;obtain⟨t,rfl⟩:=r1;exact⟨some i,H1,I1,.int i t,q⟩

def SlR(X:Cx)(r:V->Ot Int->Ot Int->Hp->VK->Prop):Prop:=
  ∀ (pQ:Li (Ad×Obj)) (s:Sd) (σ:St) (H:Hp) (x:V) (v vl vu:vL) (lo hi:Ot Int) (sl:Ad) (Q:VK),Inv X pQ σ H s->RelV x v->s.heap.IsSliceOf sl vl vu .none->IsPart vl lo->IsPart vu hi->r x lo hi H Q->
    ∃ T id,typeLookup (.type T) "__getitem__"=pure (some (.builtin id))/\s.TypeIs v T/\wpAny (model X.prog X.w) X.A (getItem v (.ref sl)) (EP X pQ σ Q) X.xe s
noncomputable def tSl(r:V->Ot Int->Ot Int->Hp->VK->Prop)(te:TE)(tl th:TO):TE:=fun σ H Q=>te σ H fun x H1=>tl σ H1 fun l H2=>th σ H2 fun u H3=>r x l u H3 Q
theorem pe_slice{r:V->Ot Int->Ot Int->Hp->VK->Prop}(hr:SlR X r)(he:PE X e te)(hl:PO X lo tl)(hu:PO X hi th):PE X (.Subscript e (.Slice lo hi none p2) pos) (tSl r te tl th):=by
  intro pQ s σ H Q I h;refine Subscript_ (thn (he pQ s σ H _ I h) fun v s1 ⟨x,H1,I1,r1,q1⟩=>?_)
  refine wpAny_Slice (thn (hl pQ s1 σ H1 _ I1 q1) fun vl s2 ⟨l,H2,I2,pl,q2⟩=>thn (hu pQ s2 σ H2 _ I2 q2) fun vu s3 ⟨u,H3,I3,pu,q3⟩=>?_)
  rw[evalPart_none];refine wpAny_pure ?_;have I4:Inv X pQ σ H3 { s3 with heap:=s3.heap.push { cls:=.type "slice",data:=.fields #[vl,vu,.none] } }:=I3.kept (t':=s3.toks) fun b ob q=>Heap.get?_push_of_some _ q
  obtain⟨T,id,hT,ht,hg⟩:=hr pQ { s3 with heap:=s3.heap.push { cls:=.type "slice",data:=.fields #[vl,vu,.none] } } σ H3 x v vl vu l u s3.heap.objs.size Q I4 r1 (Heap.IsSliceOf.new ..) pl pu q3
  show wpAny (model X.prog X.w) X.A (subscriptTail e (.Slice lo hi none p2) v (.ref s3.heap.objs.size)) (EP X pQ σ Q) X.xe { s3 with heap:=s3.heap.push { cls:=.type "slice",data:=.fields #[vl,vu,.none] } }
  exact tail_any (ops:=[.ref s3.heap.objs.size,v]) ht hT hg (by with_unfolding_all rfl)

noncomputable def cutV(xs:Li V)(lo hi:Ot Int):Li V:=(xs.drop (HT.sIx xs.length 0 lo)).take (HT.sIx xs.length xs.length hi - HT.sIx xs.length 0 lo)
theorem cutV_length(xs:Li V)(lo hi:Ot Int):(cutV xs lo hi).length<=xs.length:=by
  unfold cutV;rw[List.length_take,List.length_drop];omega
def rSlT(K:Fg):V->Ot Int->Ot Int->Hp->VK->Prop:=fun x lo hi H Q=>∃ a xs,x=.ref a/\SqT K H a xs /\
  ¬(HT.sIx xs.length 0 lo=0/\HT.sIx xs.length xs.length hi=xs.length)/\∀ p,H p=none->Q (.ref p) (upd H p (.tup (cutV xs lo hi)))
theorem sl_tup:SlR X (rSlT X.K):=by
  intro pQ s σ H x v vl vu lo hi sl Q I rx hs pl pu h;obtain⟨a,xs,rfl,hx,hw,q⟩:=h;cases rx;obtain⟨its,r,ht,hz⟩:=I.tuple hx;have hlen:its.toArray.size=xs.length:=by rw[List.size_toArray];exact r.length.symm
  refine⟨"tuple",_,PyProof.Rows.slot_tuple_getitem.lookup,ht.typeIs,?_⟩;refine HT.getItem_tuple_cut ht hs pl pu (by rw[hlen];exact hw) ?_ (by rw[hlen];exact hz)
  rw[hlen];refine⟨.ref s.heap.objs.size,_,I.laid (t':=s.toks) (o:=.tup (cutV xs lo hi)) (fun b ob q=>Heap.get?_push_of_some _ q) (Nat.le_refl _) ?_,rfl,q _ (I.hok.fresh (Nat.le_refl _))⟩
  exact⟨Nat.le_trans (cutV_length xs lo hi) hz,_,(r.drop (HT.sIx xs.length 0 lo)).take (HT.sIx xs.length xs.length hi - HT.sIx xs.length 0 lo),IsTup.new _ _⟩

noncomputable def rCatT(K:Fg):R2:=fun x y H Q=>∃ a b xs ys,x=.ref a/\y=.ref b/\SqT K H a xs/\SqT K H b ys/\xs≠[]/\xs.length+ys.length<=sizeLine /\
  (ys=[]->Q (.ref a) H)/\(ys≠[]->∀ p,H p=none->Q (.ref p) (upd H p (.tup (xs++ys))))
theorem Vals.nil_iff{xs:Li V}{us:Li vL}(r:Vals xs us):us=[]↔xs=[]:=by
  cases r with
  |nil=>simp
  |cons _ _=>simp
theorem op_catT:OpR X (binaryOp .Add) (rCatT X.K):=by
  intro pQ s σ H x y v u Q I rx ry h;obtain⟨a,b,xs,ys,rfl,rfl,ha,hb,hx,hz,q1,q2⟩:=h;cases rx;cases ry;obtain⟨its,r1,p1,_⟩:=I.tuple ha;obtain⟨its2,r2,p2,_⟩:=I.tuple hb;refine HT.cat_tup p1 p2 (fun z=>hx (r1.nil_iff.mp z)) (fun z=>⟨.ref a,H,I,rfl,q1 (r2.nil_iff.mp z)⟩) (fun z=>?_) (by rw[<-r1.length,<-r2.length];exact hz)
  refine⟨.ref s.heap.objs.size,_,I.laid (t':=s.toks) (o:=.tup (xs++ys)) (fun b ob q=>Heap.get?_push_of_some _ q) (Nat.le_refl _) ?_,rfl,q2 (fun w=>z (r2.nil_iff.mpr w)) _ (I.hok.fresh (Nat.le_refl _))⟩
  exact⟨by rw[List.length_append];exact hz,_,r1.append r2,IsTup.new _ _⟩
end
end L2

namespace L2
open PySem PySem.Spec PyProof.Rows

noncomputable def ixN(n:Nat)(i:Int):Ot Nat:=if 0<=i then (if i < n then some i.toNat else none) else if -(n:Int)<=i then some (i+n).toNat else none
noncomputable def atI{α:Type}(xs:Li α)(i:Int):Ot α:=(ixN xs.length i).bind fun j=>xs[j]?
theorem ixN_seq{n:Nat}{i:Int}{j:Nat}(h:ixN n i=some j):seqIndex? i n=some j/\j < n/\-(n:Int)<=i/\i < n:=by
  unfold ixN at h;by_cases h0:0<=i
  · rw[if_pos h0]at h
    by_cases h1:i < n
    · rw[if_pos h1]at h
      have e:i.toNat=j:=Option.some.inj h;exact⟨by rw[seqIndex_of h0 h1,e],by omega,by omega,h1⟩
    · rw[if_neg h1]at h;cases h
  · rw[if_neg h0]at h
    by_cases h1:-(n:Int)<=i
    · rw[if_pos h1]at h
      have e:(i+n).toNat=j:=Option.some.inj h;exact⟨by rw[seqIndex_neg (by omega) h1,e],by omega,h1,by omega⟩
    · rw[if_neg h1]at h;cases h
theorem atI_get{α:Type}{xs:Li α}{i:Int}{v:α}(h:atI xs i=some v):∃ j,seqIndex? i xs.length=some j/\xs[j]?=some v/\j < xs.length/\-(xs.length:Int)<=i/\i < xs.length:=by
  unfold atI at h;cases e:ixN xs.length i with
  |none=>rw[e]at h;cases h
  |some j=>
    rw[e]at h;obtain⟨h1,h2,h3,h4⟩:=ixN_seq e;exact⟨j,h1,h,h2,h3,h4⟩

def PlainIx(b:Expr):Prop:=∀ o i,subscripted b false o i=operate [o,i] (getItem o i)
def IxR(X:Cx)(r:R2):Prop:=
  ∀ (value slice:Expr) (pQ:Li (Ad×Obj)) (s:Sd) (σ:St) (H:Hp) (x y:V) (v u:vL) (Q:VK),Inv X pQ σ H s->RelV x v->RelV y u->r x y H Q->
    subscripted slice false v u=operate [v,u] (getItem v u)->wpAny (model X.prog X.w) X.A (subscriptTail value slice v u) (EP X pQ σ Q) X.xe s
def MtR(X:Cx)(id:String)(r:V->Li V->Hp->VK->Prop):Prop:=
  ∀ (pQ:Li (Ad×Obj)) (s:Sd) (σ:St) (H:Hp) (x:V) (xs:Li V) (v:vL) (us:Li vL) (Q:VK),Inv X pQ σ H s->RelV x v->Vals xs us->r x xs H Q->
    wpAny (model X.prog X.w) X.A (call (.builtin id) (v :: us)) (EP X pQ σ Q) X.xe s
section
variable {X:Cx}{a b:Expr}{ta tb:TE}{pos:Pos}
theorem pe_ix{r:R2}(hr:IxR X r)(ha:PE X a ta)(hb:PE X b tb)(hs:PlainIx b):PE X (.Subscript a b pos) (tOp r ta tb):=by
  intro pQ s σ H Q I h;exact Subscript_ (binT ha hb I h fun v u s2 x y H2 I2 rx ry q=>hr a b pQ s2 σ H2 x y v u Q I2 rx ry q (hs _ _))

noncomputable def rIxL(K:Fg):R2:=fun x y H Q=>∃ p xs i v,x=.ref p/\y=.int i/\SqL K H p xs/\atI xs i=some v/\Q v H
noncomputable def rIxT(K:Fg):R2:=fun x y H Q=>∃ p xs i v,x=.ref p/\y=.int i/\SqT K H p xs/\atI xs i=some v/\Q v H
noncomputable def rIxS:R2:=fun x y H Q=>∃ z i c,x=.str z/\y=.int i/\z.length<=sizeLine/\atI z.cps.toList i=some c/\Q (.str ⟨#[c]⟩) H
theorem ix_list:IxR X (rIxL X.K):=by
  intro value slice pQ s σ H x y v u Q I rx ry h hs;obtain⟨p,xs,i,z,rfl,rfl,hq,he,q⟩:=h;cases rx;obtain⟨t,rfl⟩:=ry;obtain⟨its,r,pl,hz⟩:=I.list hq;obtain⟨j,h1,h2,h3,h4,h5⟩:=atI_get he;obtain⟨w,ew,rw'⟩:=r.get h2;have hl:=r.length;have hn:=line63;have fin:EP X pQ σ Q w s:=⟨z,H,I,rw',q⟩;by_cases h0:0<=i
  · have hj:i.toNat=j:=by
      rw[seqIndex_of h0 h5]at h1;exact Option.some.inj h1
    exact item_listR pl.isList h0 (by omega) (by rw[hj];simpa using ew) fin hs
  · have hj:(i+(its.toArray.size:Int)).toNat=j:=by
      rw[seqIndex_neg (by omega) h4]at h1
      rw[List.size_toArray,<-hl];exact Option.some.inj h1
    exact subscriptTail_builtinR (x:=w) pl.isList.typeIs slot_list_getitem.lookup
      (wpAny_getItem_list_neg (Q:=fun r s'=>r=w/\EP X pQ σ Q r s') pl.isList (by omega) (by rw[List.size_toArray]<;>omega) (by omega) (by rw[hj];simpa using ew) ⟨rfl,fin⟩) hs
theorem ix_tup:IxR X (rIxT X.K):=by
  intro value slice pQ s σ H x y v u Q I rx ry h hs;obtain⟨p,xs,i,z,rfl,rfl,hq,he,q⟩:=h;cases rx;obtain⟨t,rfl⟩:=ry;obtain⟨its,r,pl,hz⟩:=I.tuple hq;obtain⟨j,h1,h2,h3,h4,h5⟩:=atI_get he;obtain⟨w,ew,rw'⟩:=r.get h2;have hl:=r.length;have hn:=line63;have fin:EP X pQ σ Q w s:=⟨z,H,I,rw',q⟩;exact subscriptTail_builtinR (x:=w) pl.typeIs slot_tuple_getitem.lookup
    (getItem_tuple (j:=j) (Q:=fun r s'=>r=w/\EP X pQ σ Q r s') pl (by omega) (by omega) (by rw[List.size_toArray,<-hl];exact h1) (by simpa using ew) ⟨rfl,fin⟩) hs
theorem ix_str:IxR X rIxS:=by
  intro value slice pQ s σ H x y v u Q I rx ry h hs;obtain⟨z,i,c,rfl,rfl,hz,he,q⟩:=h;obtain⟨t,rfl⟩:=rx;obtain⟨t',rfl⟩:=ry;obtain⟨j,h1,h2,h3,h4,h5⟩:=atI_get he;have hl:z.cps.toList.length=z.length:=by simp[Str.length]
  rw[hl]at h1 h4 h5;have hn:=line63;exact tail_any (typeIs_str s z t) slot_str_getitem.lookup (getItem_str (c:=c) (by
    have e1:decide (i < -(2 ^ 63:Int))=false:=decide_eq_false (by omega)
    have e2:decide (i>=2 ^ 63)=false:=decide_eq_false (by omega)
    rw[e1,e2,Bool.or_false]) (by rw[h1];simpa using h2) ⟨.str ⟨#[c]⟩,H,I.tok _,⟨_,rfl⟩,q⟩) hs


theorem slice_bounds(lo hi:Ot Int)(n:Nat):(sliceBounds lo hi none n).1=((HT.sIx n 0 lo:Nat):Int)/\(sliceBounds lo hi none n).2.1=((HT.sIx n n hi:Nat):Int)/\(sliceBounds lo hi none n).2.2=1:=by
  refine⟨?_,?_,rfl⟩
  · cases lo with
    |none=>simp[sliceBounds,HT.sIx]
    |some i=>
      simp only[sliceBounds,HT.sIx,Option.getD_none,show(1:Int) > 0 by decide,if_true]
      by_cases h:i < 0
      · simp only[h,if_true]<;>omega
      · simp only[h,if_false]<;>omega
  · cases hi with
    |none=>simp[sliceBounds,HT.sIx]
    |some i=>
      simp only[sliceBounds,HT.sIx,Option.getD_none,show(1:Int) > 0 by decide,if_true]
      by_cases h:i < 0
      · simp only[h,if_true]<;>omega
      · simp only[h,if_false]<;>omega
theorem slicePick_cut(its:Li vL)(lo hi:Ot Int):slicePick its.toArray lo hi none=((its.drop (HT.sIx its.length 0 lo)).take (HT.sIx its.length its.length hi - HT.sIx its.length 0 lo)).toArray:=by
  obtain⟨h1,h2,h3⟩:=slice_bounds lo hi its.toArray.size;unfold slicePick;rw[h1,h2,h3];simp only[sliceRange_one,pick_run,List.size_toArray]<;>rfl
def rSlL(K:Fg):V->Ot Int->Ot Int->Hp->VK->Prop:=fun x lo hi H Q=>∃ a xs,x=.ref a/\SqL K H a xs/\∀ p,H p=none->Q (.ref p) (upd H p (.lst (cutV xs lo hi)))
theorem sl_list:SlR X (rSlL X.K):=by
  intro pQ s σ H x v vl vu lo hi sl Q I rx hs pl pu h;obtain⟨a,xs,rfl,hx,q⟩:=h;cases rx;obtain⟨its,r,ht,hz⟩:=I.list hx;have hlen:=r.length;refine⟨"list",_,slot_list_getitem.lookup,ht.isList.typeIs,?_⟩;refine wpAny_getItem_list_slice ht.isList hs pl pu .none (by simp) ?_ (by rw[List.size_toArray]<;>omega)
  rw[slicePick_cut,<-hlen];refine⟨.ref s.heap.objs.size,_,I.laid (t':=s.toks) (o:=.lst (cutV xs lo hi)) (fun b ob q=>Heap.get?_push_of_some _ q) (Nat.le_refl _) ?_,rfl,q _ (I.hok.fresh (Nat.le_refl _))⟩
  exact⟨Nat.le_trans (cutV_length xs lo hi) hz,_,0,(r.drop (HT.sIx xs.length 0 lo)).take (HT.sIx xs.length xs.length hi - HT.sIx xs.length 0 lo),Heap.get?_push_size _ rfl⟩

noncomputable def flatV:V->Bool
  |.non=>true
  |.bl _=>true
  |.int _=>true
  |.str _=>true
  |_=>false
noncomputable def eqV:V->V->Bool
  |.non,.non=>true
  |.bl a,.bl b=>a==b
  |.bl a,.int b=>(if a then 1 else 0)==b
  |.int a,.bl b=>a==(if b then 1 else 0)
  |.int a,.int b=>a==b
  |.str a,.str b=>a==b
  |_,_=>false
theorem eqAt_V{A:Around}{s:Sd}{y x:V}{u v:vL}(ry:RelV y u)(rx:RelV x v)(fy:flatV y=true)(fx:flatV x=true):SeqAt.EqAt A s u v (eqV y x):=by
  cases y with
  |non=>
    cases ry;cases x with
    |non=>cases rx;exact SeqAt.EqAt.same _
    |bl b=>cases rx;exact SeqAt.EqAt.none_bool b
    |int b=>obtain⟨t,rfl⟩:=rx;exact SeqAt.EqAt.none_int b t
    |str b=>obtain⟨t,rfl⟩:=rx;exact SeqAt.EqAt.none_str b t
    |_=>exact absurd (show false=true from fx) Bf
  |bl a=>
    cases ry;cases x with
    |non=>cases rx;exact SeqAt.EqAt.bool_none a
    |bl b=>cases rx;exact SeqAt.EqAt.bool_bool a b
    |int b=>obtain⟨t,rfl⟩:=rx;exact SeqAt.EqAt.bool_int a b t
    |str b=>obtain⟨t,rfl⟩:=rx;exact SeqAt.EqAt.bool_str a b t
    |_=>exact absurd (show false=true from fx) Bf
  |int a=>
    obtain⟨t',rfl⟩:=ry;cases x with
    |non=>cases rx;exact SeqAt.EqAt.int_none a t'
    |bl b=>cases rx;exact SeqAt.EqAt.int_bool a t' b
    |int b=>obtain⟨t,rfl⟩:=rx;exact SeqAt.EqAt.int_int a t' b t
    |str b=>obtain⟨t,rfl⟩:=rx;exact SeqAt.EqAt.int_str a t' b t
    |_=>exact absurd (show false=true from fx) Bf
  |str a=>
    obtain⟨t',rfl⟩:=ry;cases x with
    |non=>cases rx;exact SeqAt.EqAt.str_none a t'
    |bl b=>cases rx;exact SeqAt.EqAt.str_bool a t' b
    |int b=>obtain⟨t,rfl⟩:=rx;exact SeqAt.EqAt.str_int a t' b t
    |str b=>obtain⟨t,rfl⟩:=rx;exact SeqAt.EqAt.str_str a t' b t
    |_=>exact absurd (show false=true from fx) Bf
  |_=>exact absurd (show false=true from fy) Bf
noncomputable def eqU(x:V)(u:vL):Bool:=match u with
  |.none=>eqV .non x
  |.bool b=>eqV (.bl b) x
  |.int i _=>eqV (.int i) x
  |.str z _=>eqV (.str z) x
  |_=>false
theorem eqU_of{x y:V}{u:vL}(r:RelV y u)(f:flatV y=true):eqU x u=eqV y x:=by
  cases y with
  |non=>cases r;rfl
  |bl b=>cases r;rfl
  |int i=>obtain⟨t,rfl⟩:=r;rfl
  |str z=>obtain⟨t,rfl⟩:=r;rfl
  |_=>exact absurd (show false=true from f) Bf
theorem any_eqU{x:V}:∀ {xs:Li V}{us:Li vL},Vals xs us->xs.all flatV=true->us.any (eqU x)=xs.any fun y=>eqV y x
  |_,_,.nil,_=>rfl
  |y :: xs,u :: us,.cons r t,f=>by
    rw[List.all_cons,Ba]at f;rw[List.any_cons,List.any_cons,eqU_of r f.1,any_eqU t f.2]
theorem mem_eqAt{A:Around}{s:Sd}{x:V}{v:vL}(rx:RelV x v)(fx:flatV x=true):∀ {xs:Li V}{us:Li vL},Vals xs us->xs.all flatV=true->∀ u∈us,SeqAt.EqAt A s u v (eqU x u)
  |_,_,.nil,_=>fun u hu=>by cases hu
  |y :: xs,u :: us,.cons r t,f=>fun u' hu=>by
    rw[List.all_cons,Ba]at f;rcases List.mem_cons.mp hu with rfl|hu
    · rw[eqU_of r f.1];exact eqAt_V r rx f.1 fx
    · exact mem_eqAt rx fx t f.2 u' hu
noncomputable def inV(x:V)(xs:Li V):Bool:=xs.any fun y=>eqV y x
noncomputable def rIn(K:Fg)(neg:Bool):R2:=fun x y H Q=>∃ p xs,y=.ref p/\(SqL K H p xs\/SqT K H p xs)/\flatV x=true/\xs.all flatV=true/\Q (.bl (if neg then !inV x xs else inV x xs)) H
theorem op_in_seq:OpR X (compareOp .In) (rIn X.K false):=by
  intro pQ s σ H x y v u Q I rx ry h;obtain⟨p,xs,rfl,hq,fx,fs,q⟩:=h;cases ry;rcases hq with hq|hq
  · obtain⟨its,r,pl,hz⟩:=I.list hq
    refine SeqAt.in_listAt (eqU x) pl.isList (fun w hw=>mem_eqAt rx fx r fs w (by simpa using hw)) ⟨.bl _,H,I,rfl,?_⟩
    rw[show its.toArray.any (eqU x)=its.any (eqU x) by simp,any_eqU r fs]
    exact q
  · obtain⟨its,r,pl,hz⟩:=I.tuple hq
    refine SeqAt.in_tupleAt (eqU x) pl (fun w hw=>mem_eqAt rx fx r fs w (by simpa using hw)) ⟨.bl _,H,I,rfl,?_⟩
    rw[show its.toArray.any (eqU x)=its.any (eqU x) by simp,any_eqU r fs]
    exact q
theorem op_notIn_seq:OpR X (compareOp .NotIn) (rIn X.K true):=by
  intro pQ s σ H x y v u Q I rx ry h;obtain⟨p,xs,rfl,hq,fx,fs,q⟩:=h;cases ry;rcases hq with hq|hq
  · obtain⟨its,r,pl,hz⟩:=I.list hq
    refine SeqAt.notIn_listAt (eqU x) pl.isList (fun w hw=>mem_eqAt rx fx r fs w (by simpa using hw)) ⟨.bl _,H,I,rfl,?_⟩
    rw[show its.toArray.any (eqU x)=its.any (eqU x) by simp,any_eqU r fs]
    exact q
  · obtain⟨its,r,pl,hz⟩:=I.tuple hq
    refine SeqAt.notIn_tupleAt (eqU x) pl (fun w hw=>mem_eqAt rx fx r fs w (by simpa using hw)) ⟨.bl _,H,I,rfl,?_⟩
    rw[show its.toArray.any (eqU x)=its.any (eqU x) by simp,any_eqU r fs]
    exact q
theorem op_notIn_str:OpR X (compareOp .NotIn) (fun x y H Q=>∃ i j,x=.str i/\y=.str j/\Q (.bl (!(!(Builtin.Str.occurrences j i 0 j.length 1).isEmpty))) H):=by
  intro pQ s σ H x y v u Q I rx ry h;obtain⟨i,j,rfl,rfl,q⟩:=h;obtain⟨t,rfl⟩:=rx;obtain⟨t',rfl⟩:=ry;exact notIn_str ⟨.bl _,H,I,rfl,q⟩

theorem call_len_seq:CallR X (.builtin "len") (fun xs H Q=>∃ p ys,xs=[.ref p]/\(SqL X.K H p ys\/SqT X.K H p ys)/\Q (.int ys.length) H):=by
  intro pQ s σ H xs us Q I r h;obtain⟨p,ys,rfl,hq,q⟩:=h;obtain⟨u,rfl,rx⟩:=vals1 r;cases rx;have hn:=line63;rcases hq with hq|hq
  · obtain⟨its,r',pl,hz⟩:=I.list hq
    have hlen:=r'.length;exact Calls.call_len_list pl.isList (by simp only[List.size_toArray]<;>omega) ⟨.int ys.length,H,I.tok _,⟨s.toks+1,by rw[List.size_toArray,hlen]⟩,q⟩
  · obtain⟨its,r',pl,hz⟩:=I.tuple hq
    have hlen:=r'.length;exact len_tuple pl (by simp only[List.size_toArray]<;>omega) ⟨.int ys.length,H,I.tok _,⟨s.toks+1,by rw[List.size_toArray,hlen]⟩,q⟩
theorem call_tuple_of:CallR X (.type "tuple") (fun xs H Q=>∃ p ys,xs=[.ref p]/\((SqL X.K H p ys/\∀ l,H l=none->Q (.ref l) (upd H l (.tup ys)))\/(SqT X.K H p ys/\Q (.ref p) H))):=by
  intro pQ s σ H xs us Q I r h;obtain⟨p,ys,rfl,h⟩:=h;obtain⟨u,rfl,rx⟩:=vals1 r;cases rx;rcases h with⟨hq,q⟩|⟨hq,q⟩
  · obtain⟨its,r',pl,hz⟩:=I.list hq
    have hlen:=r'.length;refine call_tuple_list pl.isList (fun h' kp=>?_) (by simp only[List.size_toArray]<;>omega)
    have I1:Inv X pQ σ H { s with heap:=h' }:=I.kept (t':=s.toks) kp
    have I2:Inv X pQ σ (upd H h'.objs.size (.tup ys)) { s with heap:=h'.push { cls:=.type "tuple",data:=.seq its.toArray } }:=
      I1.laid (t':=s.toks) (fun b o e=>Heap.get?_push_of_some _ e) (Nat.le_refl _) (show ObjOk X.prog X.w _ _ _ (.tup ys) from⟨hz,its,r',IsTup.new _ _⟩)
    exact⟨.ref h'.objs.size,_,I2,rfl,q _ (I1.hok.fresh (Nat.le_refl _))⟩
  · obtain⟨its,r',pl,hz⟩:=I.tuple hq
    exact call_tuple_same pl ⟨.ref p,H,I,rfl,q⟩

def tyV(K:Fg)(T:String)(x:V)(H:Hp):Prop:=match x with
  |.str _=>T = "str"
  |.int _=>T = "int"
  |.ref p=>(T = "list"/\∃ xs,SqL K H p xs)\/(T = "tuple"/\∃ o,K.lookup p=some o/\o.cls=.type "tuple"/\o.dict=none) \/
      (T = "dict"/\((∃ kvs,H p=some (.dK kvs))\/∃ kvs,H p=some (.dT kvs)))\/(T = "set"/\∃ S n,H p=some (.set S n))
  |_=>False
theorem tyV_is{pQ:Li (Ad×Obj)}{σ:St}{H:Hp}{s:Sd}{T:String}{x:V}{v:vL}(I:Inv X pQ σ H s)(r:RelV x v)(ty:tyV X.K T x H) :
    s.TypeIs v T/\∀ a,v=.ref a->∃ ob,s.heap.get? a=some ob/\ob.dict=none:=by
  cases x with
  |str z=>
    obtain⟨t,rfl⟩:=r;cases (show T = "str" from ty)
    exact⟨typeIs_str s z t,fun _ e=>nomatch e⟩
  |int i=>
    obtain⟨t,rfl⟩:=r;cases (show T = "int" from ty)
    exact⟨typeIs_int s i t,fun _ e=>nomatch e⟩
  |ref p=>
    cases r;rcases ty with⟨rfl,xs,hq⟩|⟨rfl,o,hk,hc,hd⟩|⟨rfl,hk⟩|⟨rfl,S,n,hk⟩
    · obtain⟨its,_,pl,_⟩:=I.list hq
      refine⟨pl.isList.typeIs,fun a e=>?_⟩
      cases e;obtain⟨o,n,e,c,hd,_⟩:=pl;exact⟨o,e,hd⟩
    · refine⟨⟨o,I.kIn p o hk,hc⟩,fun a e=>?_⟩
      cases e;exact⟨o,I.kIn _ o hk,hd⟩
    · have z:∃ o,s.heap.get? p=some o/\o.ExactDict:=by
        rcases hk with⟨kvs,hk⟩|⟨kvs,hk⟩
        · obtain⟨_,_,_,_,o,_,_,e,ex,_⟩:=I.hok p _ hk
          exact⟨o,e,ex⟩
        · obtain⟨_,_,_,_,o,_,_,e,ex,_⟩:=I.hok p _ hk
          exact⟨o,e,ex⟩
      obtain⟨o,e,ex⟩:=z;refine⟨⟨o,e,ex.1⟩,fun a e2=>?_⟩
      cases e2;exact⟨o,e,ex.2.1⟩
    · obtain⟨o,_,_,_,e,ex,_⟩:=I.hok p _ hk
      refine⟨⟨o,e,ex.1⟩,fun a e2=>?_⟩
      cases e2;exact⟨o,e,ex.2.1⟩
  |_=>exact False.elim ty
noncomputable def tBM(K:Fg)(T:String)(r:V->Li V->Hp->VK->Prop)(to:TE)(t:TA):TE:=fun σ H Q=>to σ H fun x H1=>tyV K T x H1/\t σ H1 fun xs H2=>r x xs H2 Q
variable {o e:Expr}{es:Li Expr}{to:TE}{t:TA}{name:Str}{apos cpos:Pos}{T id:String}{r:V->Li V->Hp->VK->Prop}
theorem pe_bm(pa:PlainAttrs T)(slot:Slot T name id)(hty:typeOf (.builtin id)=pure (.type "method_descriptor"))(hm:MtR X id r)(ho:PE X o to)(ha:PA X (e :: es) t)(hbase:attributeBase o name X.env (eval o X.env)=eval o X.env:=by rfl)(hfew:((backTo cpos (starEach (e :: es) X.env)).all (fun x=>!x.1)&&(backToKw cpos (keywordEach [] X.env)).all (fun x=>x.1.isSome)
     &&decide ((e :: es).length+([]:Li Keyword).length+(if ([]:Li Keyword).isEmpty then 0 else 1) < 30))=true:=by rfl)(hline:(apos.endLine==cpos.line)=true:=by rfl)(hs:starEach (e :: es) X.env=(false,eval e X.env) :: starEach es X.env:=by rfl)(hplain:(backTo cpos (starEach es X.env)).any (·.1)=false:=by rfl) :
    PE X (.Call (.Attribute o name apos) (e :: es) [] cpos) (tBM X.K T r to t):=by
  intro pQ s σ H Q I h;refine wpAny_Call_method_late hbase hfew hline rfl (thn (ho pQ s σ H _ I h) fun v s1 ⟨x,H1,I1,r1,ty,q1⟩=>?_)
  obtain⟨h1,h2⟩:=tyV_is I1 r1 ty;refine⟨T,id,pa,slot,hty,h1,h2,?_⟩;have hA:=ha cpos pQ s1 σ H1 _ I1 q1;rw[hs]at hA ⊢;refine Calls.callWith_builtin (by show(false||(backTo cpos (starEach es X.env)).any (·.1))=false;rw[hplain]<;>rfl) (Calls.evalArgs_plain ?_)
  exact thn hA fun us s2 ⟨vs,H2,I2,r2,q2⟩=>hm pQ s2 σ H2 x vs v us Q I2 r1 r2 q2
end
end L2

namespace L2
open PySem PySem.Spec PyProof.Rows

def MtM(X:Cx)(id:String)(r:V->Li V->Hp->VK->Prop):Prop:=
  ∀ (pQ:Li (Ad×Obj)) (s:Sd) (σ:St) (H:Hp) (x:V) (xs:Li V) (v:vL) (us:Li vL) (Q:VK),Inv X pQ σ H s->RelV x v->Vals xs us->r x xs H Q->
    wpAny (model X.prog X.w) X.A (call (.builtin id) (v :: us)) (EP X pQ σ Q) X.xe s

theorem Vals.one{x:V}{us:Li vL}(h:Vals [x] us):∃ u,us=[u]/\RelV x u:=by
  cases h with
  |cons r h=>cases h;exact⟨_,rfl,r⟩

section
variable {X:Cx}{pQ:Li (Ad×Obj)}{σ:St}{H:Hp}{s:Sd}{l b:Ad}{xs ys zs:Li V}

theorem Inv.lset{its its':Li vL}{n:Nat}{f:Array vL->Array vL}{t':Nat}(I:Inv X pQ σ H s)(hH:H l=some (.lst xs))(e:s.heap.get? l=some { cls:=.type "list",data:=.seq its.toArray n })(hf:f its.toArray=its'.toArray)(hv:Vals ys its')(hz:ys.length<=sizeLine) :
    Inv X pQ σ (upd H l (.lst ys)) { s with heap:=s.heap.update l (Obj.mapSeq f),toks:=t' }:=by
  have q:=PySem.IsL.update e f;rw[hf]at q;refine I.write (x:=l) (e:=l) (by rw[hH];exact trivial) (.inl rfl) (fun b' u hb hu=>(Heap.get?_update_other s.heap (Obj.mapSeq f) (Ne.symm hb)).trans hu) ⟨_,q⟩ ?_
  exact⟨hz,its',_,hv,q⟩
theorem Inv.lnew{its:Li vL}{t':Nat}(I:Inv X pQ σ H s)(hv:Vals ys its)(hz:ys.length<=sizeLine) :
    Inv X pQ σ (upd H s.heap.objs.size (.lst ys)) { s with heap:=s.heap.push { cls:=.type "list",data:=.seq its.toArray },toks:=t' }:=
  I.laid (fun _ _ q=>Heap.get?_push_of_some _ q) (Nat.le_refl _) ⟨hz,its,0,hv,Heap.get?_push_size _ rfl⟩
theorem Inv.lstM(I:Inv X pQ σ H s)(hH:H l=some (.lst xs)):xs.length<=sizeLine/\∃ (its:Li vL) (n:Nat),Vals xs its/\xs.length=its.length/\s.heap.get? l=some { cls:=.type "list",data:=.seq its.toArray n }:=by
  obtain⟨z,its,n,r,e⟩:=I.hok l _ hH;exact⟨z,its,n,r,r.length,e⟩

theorem notLongL{n:Nat}(h:n<=sizeLine):Builtin.List.listTooLong n=false:=by
  unfold Builtin.List.listTooLong;exact decide_eq_false (by omega)
end

section
variable {X:Cx}

def rAppend:V->Li V->Hp->VK->Prop:=fun x vs H Q=>∃ l xs y,x=.ref l/\vs=[y]/\H l=some (.lst xs)/\xs.length < sizeLine/\Q .non (upd H l (.lst (xs++[y])))
theorem mt_append:MtM X "list.append" rAppend:=by
  intro pQ s σ H x vs v us Q I rx rv h;obtain⟨l,xs,y,rfl,rfl,hH,hz,q⟩:=h;cases rx;obtain⟨u,rfl,ru⟩:=rv.one;obtain⟨z,its,n,r,hl,e⟩:=I.lstM hH;refine call_meets F.slot_list_append ⟨_,e,rfl⟩ F.entry_list_append (F.args_list_append_2 _ _) (PySem.list_append l its.toArray n u (by rw[List.size_toArray];omega)) ⟨e,?_⟩
  refine⟨.non,_,I.lset (its':=its++[u]) hH e (by simp) (r.append (.cons ru .nil)) ?_,rfl,q⟩
  rw[List.length_append,List.length_singleton];omega

def rExtend:V->Li V->Hp->VK->Prop:=fun x vs H Q=>∃ l b xs zs,x=.ref l/\vs=[.ref b]/\H l=some (.lst xs)/\H b=some (.lst zs)/\xs.length+zs.length<=sizeLine/\Q .non (upd H l (.lst (xs++zs)))
theorem mt_extend:MtM X "list.extend" rExtend:=by
  intro pQ s σ H x vs v us Q I rx rv h;obtain⟨l,b,xs,zs,rfl,rfl,hH,hB,hz,q⟩:=h;cases rx;obtain⟨u,rfl,ru⟩:=rv.one;cases ru;obtain⟨z,its,n,r,hl,e⟩:=I.lstM hH;obtain⟨z2,its2,n2,r2,hl2,e2⟩:=I.lstM hB;have hsz:its.toArray.size+its2.toArray.size<=sizeLine:=by rw[List.size_toArray,List.size_toArray];omega
  have hlong:¬(!its.toArray.isEmpty&&Builtin.List.listTooLong (its.toArray.size+its2.toArray.size))=true:=by
    rw[notLongL hsz,Bool.and_false];exact Bf
  refine call_meets F.slot_list_extend ⟨_,e,rfl⟩ F.entry_list_extend (F.args_list_extend_2 _ _)
    (AutoSeq1.list_extend_list_list_0 l its.toArray n b its2.toArray n2 hlong (by rw[List.size_toArray];omega) (by omega)) ⟨e,e2,?_⟩
  refine⟨.non,_,I.lset (its':=its++its2) hH e (by simp) (r.append r2) ?_,rfl,q⟩
  rw[List.length_append];omega






end

section
variable {prog:Program}{w:World}{A:Around}{E:vL->Sd->Prop}{s:Sd}
end

section
variable {X:Cx}
end
end L2

namespace Att
open PySem PySem.W PySem.Calls PyProof.Rows

theorem ints_of_wellAll{P:Params}{h:Heap}:∀ (ns:Li Int) (vs:Li vL),WellAll P h vs (ns.map WData.int)->IntsAre vs ns:=by
  intro ns
  induction ns with
  |nil=>
    intro vs w;rw[List.map_nil]at w;cases w;exact .nil
  |cons n ns ih=>
    intro vs w;rw[List.map_cons]at w;cases w with
    |cons a b=>
      cases a;exact .cons _ _ (ih _ b)

theorem script_of{l:OpenLaw}{n:Nat}(hn:l.most=some n){P:Params}{h:Heap}{args:Li WData}{vals:Li vL}(hpre:l.row.toRowW.claim.pre args=true)(hwl:WellAll P h vals args) :
    ∃ a vs ns,vals=[Value.ref a]/\args=[WData.list (ns.map WData.int)]/\h.get? a=some { cls:=.type "list",data:=.seq vs.toArray }/\IntsAre vs ns/\ns.length<=n:=by
  have hsh:WShape.hasAll [] args [.list .int]=true:=(pre_splitW hpre).1;have hc:l.pre.holds [] { args:=args }=true:=(pre_splitW hpre).2;obtain⟨d,r,rfl,h1,h2⟩:=hasAllW_cons hsh;obtain rfl:=hasAllW_nil h2;obtain⟨xs,rfl,h3⟩:=hasW_list h1;obtain⟨ns,rfl⟩:=items_int h3;have hlen:ns.length<=n:=by
    unfold OpenLaw.pre at hc;have h4:(WTm.not (.lt (.lit (.int (n:Int))) (.len (.arg 0)))).holds [] { args:=[.list (ns.map .int)] }=true:=by
      have h4:=(holds_andW hc).1;rw[hn]at h4;exact h4
    have h5:=condW_of h4 (w_not (w_lt w_lit (w_len_list (w_arg rfl))));rw[List.length_map]at h5;refine Nat.le_of_not_lt fun q=>?_
    have q':(n:Int) < ((ns.length:Nat):Int):=by omega
    first
      | (rw[decide_eq_true q']at h5;exact absurd h5 (by decide))
      | (simp at h5;omega)
  cases hwl with
  |cons w1 w2=>
    cases w2;cases w1 with
    |list ho hall=>exact⟨_,_,ns,rfl,rfl,ho,ints_of_wellAll ns _ hall,hlen⟩

theorem post_true(l:OpenLaw)(args:Li WData):l.row.toRowW.claim.post args (.bool true) args=true:=
  postW_of (r:=l.row.toRowW) (X:=(true==true))
    (show WShape.has [] (.bool true) .bool=true by first|rfl|decide|simp[WShape.has,WShape.arms,WShape.armsAll])
    (show(WTm.eq .res (.lit (.bool true))).value [] { args:=args,res:=some (.bool true),after:=args }=some (.bool (true==true)) from w_eq_bool (w_res rfl) w_lit) rfl


theorem attach_call{l:OpenLaw}{n:Nat}{q:Program}{loose:Li Str}{XP:(Str->Ot vL)->Heap->Prop}{YP:World->Heap->Prop}{d:DefRec}(hn:l.most=some n)(hdf:d.params.defaults=[])(call:∀ (w:World) (s₀ s₁:Sd) (mg mb:Str->Ot vL) (fa:Ad) (o:Obj) (pm cd doc:vL) (a:Ad) (vs:Li vL) (ns:Li Int),
      Ground q loose [] XP w s₀ mg mb s₁.heap->YP w s₁.heap->
      s₁.heap.get? fa=some o->o.data=.func (docDef d.name d.params d.body d.scope pm cd doc)->s₁.heap.CodeRec cd d.name->mg d.name=some (.ref fa)->
      s₁.heap.get? a=some { cls:=.type "list",data:=.seq vs.toArray }->IntsAre vs ns->ns.length<=n->s₁.gens=#[]->
      codeAny (model l.prog w) callerA (.call (.ref fa) ⟨[.ref a],[]⟩) (fun r s'=>r=.ok (.ret (.bool true))/\OldK s₁.heap s'.heap/\s'.os=s₁.os/\AllBare s'.gens) s₁) :
    WalkO q loose XP YP l.row.toRowW d [] (fun f vs=>PySem.call f vs):=by
  intro w s₀ s₁ mg mb G Y fa o pm cd doc dV kV ho hd hcd hD hmg hg args vals as hpre hlay hrd hwl hlo;obtain rfl:dV=.none:=Dflts.none hD hdf;obtain rfl:kV=.none:=Dflts.noKw hD;obtain⟨a,vs,ns,rfl,rfl,hobj,hints,hlen⟩:=script_of hn hpre hwl;refine enter_call (codeAny_mono (call w s₀ s₁ mg mb fa o pm cd doc a vs ns G Y ho (fd_plain hd) hcd hmg hobj hints hlen hg) fun r s' hq=>?_)
  obtain⟨rfl,h2,h3,h4⟩:=hq;exact⟨.inl ⟨.bool true,.bool true,[],rfl,fun _=>rfl,.bool true,post_true l _,fun _=>⟨List.Pairwise.nil,fun _ hm=>(nomatch hm)⟩⟩,h2,h3,h4⟩


section
variable {prog:Program}{w:World}{A:Around}{E:vL->Sd->Prop}{s:Sd}{K:Frag}






end
end Att

namespace L2
open PySem PySem.Spec PyProof.Rows

theorem vals_ints:∀ {vs:Li vL}{ns:Li Int},IntsAre vs ns->Vals (ns.map V.int) vs
  |_,_,.nil=>.nil
  |_,_,.cons n t h=>.cons ⟨t,rfl⟩ (vals_ints h)

def Only(H:Hp):Prop:=∀ b,H b=none\/∃ o xs,H b=some (.frz o (.lst xs))

theorem law_call{P:Program}{w:World}{K:Fg}{mg mb:Str->Ot vL}{CX:CXT}{k:Nat}{fa a:Ad}{fd:FuncData}{x:Str}{sp:Sp}{s₁:Sd}{vs:Li vL}{ns:Li Int}(KX:K.In s₁.heap)(hns:s₁.heap.Ns mainGlobals mg)(hb:s₁.heap.Ns builtinsNs mb)(hbb:∀ x:Str,x ≠ "__name__"->mb x=bootBuiltins x)(hlim:s₁.heap.NoLimit)(hg:s₁.gens=#[])(ha:s₁.heap.get? a=some { cls:=.type "list",data:=.seq vs.toArray })(hi:IntsAre vs ns)(hl:ns.length<=sizeLine)(hr:Room k callerA)(F:∀ base:Heap,K.In base->base.Ns mainGlobals mg->FnOk P w K mg base CX k fa fd [x] sp)(hbind:∀ (s:Sd) (u:vL),BindsTo s fd ⟨[u],[]⟩ [(x,u)])(hsp:∀ H:Hp,Only H->SqL K H a (ns.map V.int)->sp [.ref a] H (fun v _=>v=.bl true) fun _ _ _=>False)(hCX:∀ H e s',CX [] H s₁ (fun _ _ _=>False) e s'->False) :
    codeAny (model P w) callerA (.call (.ref fa) ⟨[.ref a],[]⟩) (fun r s'=>r=.ok (.ret (.bool true))/\OldK s₁.heap s'.heap/\s'.os=s₁.os/\AllBare s'.gens) s₁:=by
  have rv:=vals_ints hi;have lenV:=hi.length
  -- from an abstract heap in which nothing but the script may be tracked
  have core:∀ H:Hp,Only H->SqL K H a (ns.map V.int)->HOk P w H s₁.heap->(∀ b,H b≠none->b=a)->(H a≠none->K.lookup a=none)->
      codeAny (model P w) callerA (.call (.ref fa) ⟨[.ref a],[]⟩) (fun r s'=>r=.ok (.ret (.bool true))/\OldK s₁.heap s'.heap/\s'.os=s₁.os/\AllBare s'.gens) s₁:=by
    intro H hO hS hok hA hK;have base_of:∀ {b:Ad}{o:Obj},s₁.heap.get? b=some o->H b=none->(hidT s₁.heap H).get? b=some o:=fun e n=>hidT_get e n
    have noA:∀ {b:Ad}{o:Obj}{es:Array DictEntry}{ep:Nat},s₁.heap.get? b=some o->o.data=.dict es ep->H b=none:=fun {b o es ep} e d=>by
      cases q:H b with
      |none=>rfl
      |some u=>
        have e':b=a:=hA b (by rw[q];simp)
        subst e';rw[ha]at e;cases e
        have d':Data.seq vs.toArray _=Data.dict es ep:=d;cases d'
    have nsK:∀ {b:Ad}{m:Str->Ot vL},s₁.heap.Ns b m->(hidT s₁.heap H).Ns b m:=fun {b m} ⟨o,es,ep,e,d,r⟩=>⟨o,es,ep,base_of e (noA e d),d,r⟩
    have hKb:K.In (hidT s₁.heap H):=fun b o e=>base_of (KX b o e) (by
      cases q:H b with
      |none=>rfl
      |some u=>
        have e':b=a:=hA b (by rw[q];simp)
        subst e';rw[hK (by rw[q];simp)]at e;cases e)
    have hM:Mod K mg (hidT s₁.heap H):=⟨hKb,nsK hns,⟨mb,nsK hb,hbb⟩,let ⟨mc,h1,h2⟩:=hlim;⟨mc,nsK h1,h2⟩⟩
    have e0:Env0 P w K mg (hidT s₁.heap H) callerA [] s₁ H:=⟨rfl,hM,fun b o e=>of_hidT e,Nat.le_of_eq (hidT_size _ _),trivial,fun b hb=>absurd (show b∈([]:Li Ad) from hb) (by simp),hok,.of_eq hg⟩
    refine codeAny_mono ((F _ hKb (nsK hns)).run callerA [] s₁ H ⟨[.ref a],[]⟩ [.ref a] [.ref a] _ _ hr e0 (hbind s₁ (.ref a)) (.cons rfl .nil) (hsp H hO hS)) fun r s' h=>?_
    cases r with
    |error e=>exact(hCX H e s' h).elim
    |ok fl=>
      cases fl with
      |next=>exact False.elim h
      |brk=>exact False.elim h
      |cont=>exact False.elim h
      |ret u=>
        obtain⟨v,H',os,bare,un,hok',r',q⟩:=h;have q':v=.bl true:=q;subst q';obtain rfl:u=Value.bool true:=r';refine⟨rfl,OldK.of_keep fun b o e=>?_,os,bare⟩
        cases q:H b with
        |none=>exact un.keep b o e q (by intro z;exact absurd (show b∈([]:Li Ad) from z) (by simp)) (by simp)
        |some u=>
          rcases hO b with z|⟨ob,xs,z⟩
          · rw[q]at z;cases z
          · have z2:=un.frzs b ob _ z
            obtain⟨e1,_⟩:=hok b _ z;obtain⟨e2,_⟩:=hok' b _ z2;rw[e]at e1;cases e1
            exact e2
  cases hk:K.lookup a with
  |some o=>
    -- the script is one of the module's own objects
    have e:=KX a o hk;rw[ha]at e;cases e;refine core (fun _=>none) (fun _=>.inl rfl) (.inr ⟨_,vs.toArray,_,hk,rfl,rfl,rfl,by rw[List.size_toArray,lenV];exact hl,by simpa using rv⟩) (fun b u z=>by have z':(none:Ot HO)=some u:=z;cases z') (fun b z=>absurd rfl z) fun z=>absurd rfl z
  |none=>
    refine core (fun b=>if b=a then some (.frz { cls:=.type "list",data:=.seq vs.toArray } (.lst (ns.map V.int))) else none) (fun b=>?_) (.inl (.inr ⟨{ cls:=.type "list",data:=.seq vs.toArray },if_pos rfl⟩)) (fun b u z=>?_) (fun b z=>?_) fun _=>hk
    · by_cases hb:b=a
      · exact .inr ⟨_,_,if_pos hb⟩
      · exact .inl (if_neg hb)
    · by_cases hb:b=a
      · have z':=(if_pos hb).symm.trans z
        cases z';subst hb;exact⟨ha,by rw[List.length_map];exact hl,vs,_,rv,ha⟩
      · have z':=(if_neg hb).symm.trans z
        cases z'
    · by_cases hb:b=a
      · exact hb
      · exact absurd (if_neg hb) z
end L2

namespace L2
open PySem PySem.Spec PyProof.Rows


theorem walk_of{l:PySem.W.OpenLaw}{n k:Nat}{q:Program}{loose:Li Str}{XP:(Str->Ot vL)->Heap->Prop}{YP:World->Heap->Prop}{d:DefRec}{K:Params->Fg}{CX:World->CXT}{sp:World->Sp}{x:Str}(hn:l.most=some n)(hn2:n<=sizeLine)(hdf:d.params.defaults=[])(hr:Room k callerA)(hY:∀ (w:World) (h:Heap),YP w h->(K w.params).In h)(F:∀ (w:World) (mg:Str->Ot vL) (fa:Ad) (h:Heap),(K w.params).In h->h.Ns mainGlobals mg->mg d.name=some (.ref fa)->
      ∃ fd:FuncData,(∀ (s:Sd) (u:vL),BindsTo s fd ⟨[u],[]⟩ [(x,u)]) /\
        ∀ base:Heap,(K w.params).In base->base.Ns mainGlobals mg->FnOk l.prog w (K w.params) mg base (CX w) k fa fd [x] (sp w))(hsp:∀ (w:World) (H:Hp) (a:Ad) (ns:Li Int),ns.length<=n->Only H->SqL (K w.params) H a (ns.map V.int)->sp w [.ref a] H (fun v _=>v=.bl true) fun _ _ _=>False)(hCX:∀ (w:World) (H:Hp) (s:Sd) (e:vL) (s':Sd),CX w [] H s (fun _ _ _=>False) e s'->False) :
    PySem.W.WalkO q loose XP YP l.row.toRowW d [] (fun f vs=>PySem.call f vs):=by
  refine Att.attach_call hn hdf fun w s₀ s₁ mg mb fa o pm cd doc a vs ns G Y ho hd hcd hmg hobj hints hlen hg=>?_
  have KX:=hY w _ Y;obtain⟨fd,hb,hF⟩:=F w mg fa _ KX G.T.g hmg;exact law_call KX G.T.g G.T.b G.T.builtins G.T.nolimit hg hobj hints (Nat.le_trans hlen hn2) hr hF hb (fun H hO hS=>hsp w H a ns hlen hO hS) fun H e s'=>hCX w H s₁ e s'
end L2


namespace L2
open PySem PySem.Spec PyProof.Rows

noncomputable def defArgs(s:Stmt):Arguments:=match s with
  |.FunctionDef _ a _ _ _ _ _ _ _ _=>a
  |_=>{ posonlyargs:=[],args:=[],vararg:=none,kwonlyargs:=[],kw_defaults:=[],kwarg:=none,defaults:=[] }
noncomputable def defBody(s:Stmt):Li Stmt:=match s with
  |.FunctionDef _ _ b _ _ _ _ _ _ _=>b
  |_=>[]
noncomputable def defScope(s:Stmt):Scope:=match s with
  |.FunctionDef _ _ _ _ _ _ sc _ _ _=>sc
  |_=>{ kind:=.function,names:=[],isGenerator:=false,isCoroutine:=false }

noncomputable abbrev CX0:CXT:=fun _ _ _ _ _ _=>False
noncomputable abbrev E0:XK:=fun _ _ _=>False
theorem pass0{X:Cx}:Passes CX0 X E0:=fun _ _ _ _ _ _ _ h=>h.elim

structure Fun(K:Fg)(x qual:Str)(st:Stmt)(f:Addr)(fd:FuncData):Prop where
  ex:∃ (oc:Value) (od:Option Addr) (kV doc pm:Value) (an:Option Addr) (cdv ct:Value) (osl:Array (Option Value)),
    fd=PySem.W.fnOf x qual (defArgs st) (defBody st) (defScope st) .none kV doc pm an cdv ct/\K.lookup f=some ⟨oc,od,.func fd,osl⟩/\PySem.W.codeIn K cdv qual=true
  kp:PySem.W.keepIn K (.ref f)=true
section
variable {P:Program}{w:World}{K:Fg}{mg:Str->Ot vL}{base:Heap}
end

section
variable {X:Cx}
end



end L2



namespace L2
open PySem PySem.Spec PyProof.Rows
section
variable {κ:Type} [DecidableEq κ]
noncomputable def valV(kvs:Li (κ×V))(k:κ):Ot V:=(kvs.find? fun kv=>decide (kv.1=k)).map (·.2)
noncomputable def putK(kvs:Li (κ×V))(k:κ)(v:V):Li (κ×V):=
 if (kvs.any fun kv=>decide (kv.1=k))=true then kvs.map (fun kv=>if kv.1=k then (kv.1,v) else kv) else kvs++[(k,v)]
theorem valV_pos{p:κ×V}{r:Li (κ×V)}{k:κ}(e:p.1=k):valV (p :: r) k=some p.2:=by simp[valV,List.find?_cons,e]
theorem valV_neg{p:κ×V}{r:Li (κ×V)}{k:κ}(e:¬p.1=k):valV (p :: r) k=valV r k:=by simp[valV,List.find?_cons,e]
theorem length_putK(kvs:Li (κ×V))(k:κ)(v:V):(putK kvs k v).length<=kvs.length+1:=by
 unfold putK;split
 ·rw[List.length_map];omega
 ·rw[List.length_append,List.length_cons,List.length_nil];omega
theorem RelO.isSome_eq{o:Ot V}{u:Ot vL}(r:RelO o u):o.isSome=u.isSome:=by
 cases o with
 |none=>cases u with
  |none=>rfl
  |some _=>exact(show False from r).elim
 |some _=>cases u with
  |none=>exact(show False from r).elim
  |some _=>rfl
theorem KV.val{kvs:Li (κ×V)}{vs:Li (κ×vL)}(r:KV kvs vs)(k:κ):RelO (valV kvs k) (valueAt vs k):=by
 unfold KV at r
 induction r with
 |nil=>exact True.intro
 |@cons p q ps qs h t ih=>
  obtain⟨h1,h2⟩:=h;by_cases e:p.1=k
  ·have e':q.1=k:=h1.symm.trans e
   have b:valueAt (q :: qs) k=some q.2:=by simp[valueAt,List.find?_cons,e']
   rw[valV_pos e,b];exact h2
  ·have e':¬q.1=k:=fun z=>e (h1.trans z)
   have b:valueAt (q :: qs) k=valueAt qs k:=by simp[valueAt,List.find?_cons,e']
   rw[valV_neg e,b];exact ih
theorem KV.any{kvs:Li (κ×V)}{vs:Li (κ×vL)}(r:KV kvs vs)(k:κ):(kvs.any fun kv=>decide (kv.1=k))=vs.any fun kv=>decide (kv.1=k):=by
 unfold KV at r
 induction r with
 |nil=>rfl
 |cons h t ih=>rw[List.any_cons,List.any_cons,ih,h.1]
theorem KV.repl{kvs:Li (κ×V)}{vs:Li (κ×vL)}(r:KV kvs vs)(k:κ){y:V}{u:vL}(ry:RelV y u) :
  KV (kvs.map fun kv=>if kv.1=k then (kv.1,y) else kv) (vs.map fun kv=>if kv.1=k then (kv.1,u) else kv):=by
 unfold KV at r ⊢
 induction r with
 |nil=>exact .nil
 |@cons p q ps qs h t ih=>
  rw[List.map_cons,List.map_cons];refine .cons ?_ ih;obtain⟨h1,h2⟩:=h;by_cases e:p.1=k
  ·rw[if_pos e,if_pos (h1.symm.trans e)];exact⟨h1,ry⟩
  ·rw[if_neg e,if_neg (fun z=>e (h1.trans z))];exact⟨h1,h2⟩
theorem KV.put{kvs:Li (κ×V)}{vs:Li (κ×vL)}(r:KV kvs vs)(k:κ){y:V}{u:vL}(ry:RelV y u):KV (putK kvs k y) (stored vs k u):=by
 unfold putK stored;rw[r.any k];by_cases e:(vs.any fun kv=>decide (kv.1=k))=true
 ·rw[if_pos e,if_pos e];exact r.repl k ry
 ·rw[if_neg e,if_neg e];exact Paired.snoc r ⟨rfl,ry⟩
end
theorem kV_is{P:Program}{w:World}{k:Key}{u:vL}(r:RelV (kV k) u):(mixKind P w).is k u=true:=by
 cases k with
 |inl i=>obtain⟨t,e⟩:=(show ∃ t,u=Value.int i t from r);subst e;exact mixKind_int P w i t
 |inr x=>obtain⟨t,e⟩:=(show ∃ t,u=Value.str x t from r);subst e;exact mixKind_str P w x t
section
variable {P:Program}{w:World}{H:Hp}{h:Heap}{a:Ad}
theorem rd_of{u:HO}(ok:HOk P w H h)(e:Rd H a u):ObjOk P w H h a u:=e.ok ok
theorem dk_rd{kvs:Li (Key×V)}(ok:HOk P w H h)(e:Rd H a (.dK kvs)):kvs.length<=sizeLine/\(a==sysModules)=false/\∃ vs,KV kvs vs/\h.DictOf (mixKind P w) a vs:=
 show ObjOk P w H h a (.dK kvs) from rd_of ok e
theorem dk_of{kvs:Li (Key×V)}(ok:HOk P w H h)(e:H a=some (.dK kvs)):kvs.length<=sizeLine/\(a==sysModules)=false/\∃ vs,KV kvs vs/\h.DictOf (mixKind P w) a vs:=dk_rd ok (.inl e)
end
section
variable {X:Cx}{pQ:Li (Ad×Obj)}{σ:St}{H:Hp}{s:Sd}{a:Ad}{y v:V}{u r:vL}{o:Ot V}{A:Around}{E:vL->Sd->Prop}
theorem Inv.big(I:Inv X pQ σ H s):sysModules < s.heap.objs.size:=by
 have h:mainGlobals < s.heap.objs.size:=(I.mod.glob.keeps I.bk).lt;exact Nat.lt_trans (by decide) h
theorem d_write{h':Heap}{t':Nat}{ob:HO}(I:Inv X pQ σ H s)(mu:Mut (H a))(hs:Heap.SameBut a s.heap h')(he:∃ q,h'.get? a=some q)(new:ObjOk X.prog X.w (upd H a ob) h' a ob) :
  Inv X pQ σ (upd H a ob) { s with heap:=h',toks:=t' }:=
 I.write (x:=a) (e:=a) mu (.inl rfl) (fun b q hb z=>(hs.2 b hb).trans z) he new
theorem dk_new{P:Program}{w:World}{H':Hp}{h':Heap}{kvs:Li (Key×V)}{vs:Li (Key×vL)}(z:kvs.length<=sizeLine)(hd:(a==sysModules)=false)(rel:KV kvs vs)(dd:h'.DictOf (mixKind P w) a vs) :
  ObjOk P w H' h' a (.dK kvs):=⟨z,hd,vs,rel,dd⟩
end
theorem dk_empty{P:Program}{w:World}{H:Hp}(h:Heap)(hb:sysModules < h.objs.size):ObjOk P w H (h.push { cls:=.type "dict",data:=.dict #[] }) h.objs.size (.dK []):=
 ⟨Nat.zero_le _,beq_eq_false_iff_ne.mpr (Ne.symm (Nat.ne_of_lt hb)),[],.nil,Heap.DictOf.new h⟩
section
variable {X:Cx}
noncomputable def rIxD:R2:=fun x y H Q=>∃ p kvs k v,x=.ref p/\y=kV k/\H p=some (.dK kvs)/\valV kvs k=some v/\Q v H
theorem ix_dct:IxR X rIxD:=by
 intro value slice pQ s σ H x y v u Q I rx ry h hs;obtain⟨p,kvs,k,z,rfl,rfl,hq,he,q⟩:=h;cases rx;obtain⟨zz,hd,vs,rel,dd⟩:=dk_of I.hok hq;obtain⟨w',hw,rw'⟩:=RelO.some_of (v:=z) (o:=valueAt vs k) (by rw[<-he];exact rel.val k)
 exact tail_any dd.typeIs PySem.F.slot_dict_getitem.lookup (wpAny_getItem_of (kV_is ry) dd.mapOf hw ⟨z,H,I.tok _,rw',q⟩) hs
noncomputable def rInD:R2:=fun x y H Q=>∃ p kvs k,y=.ref p/\x=kV k/\H p=some (.dK kvs)/\Q (.bl (valV kvs k).isSome) H
theorem op_in_dct:OpR X (compareOp .In) rInD:=by
 intro pQ s σ H x y v u Q I rx ry h;obtain⟨p,kvs,k,rfl,rfl,hq,q⟩:=h;cases ry;obtain⟨zz,hd,vs,rel,dd⟩:=dk_of I.hok hq;refine wpAny_in_of (kV_is rx) hd dd.mapOf ?_;rw[<-(rel.val k).isSome_eq];exact⟨.bl (valV kvs k).isSome,H,I.tok _,rfl,q⟩
theorem ni_dct{pQ:Li (Ad×Obj)}{σ:St}{H:Hp}{s:Sd}{p:Ad}{kvs:Li (Key×V)}{k:Key}{u:vL}{Q:VK}(I:Inv X pQ σ H s)(hq:H p=some (.dK kvs))(rx:RelV (kV k) u) :
  (Q (.bl (valV kvs k).isSome) H->wpAny (model X.prog X.w) X.A (compareOp .In u (.ref p)) (EP X pQ σ Q) X.xe s)/\(Q (.bl (!(valV kvs k).isSome)) H->wpAny (model X.prog X.w) X.A (compareOp .NotIn u (.ref p)) (EP X pQ σ Q) X.xe s):=by
 obtain⟨zz,hd,vs,rel,dd⟩:=dk_of I.hok hq;have e:=(rel.val k).isSome_eq;rw[e];exact⟨fun q=>wpAny_in_of (kV_is rx) hd dd.mapOf ⟨.bl _,H,I.tok _,rfl,q⟩,fun q=>wpAny_notIn_of (kV_is rx) hd dd.mapOf ⟨.bl _,H,I.tok _,rfl,q⟩⟩
noncomputable def tDNewK(K:Fg):TE:=fun _ H Q=>∀ p,H p=none->(∀ o,K.lookup p≠some o)->Q (.ref p) (upd H p (.dK []))
theorem pe_dnewK{pos:Pos}:PE X (.Dict [] [] pos) (tDNewK X.K):=fun pQ s σ H Q I h=>
 wpAny_Dict_empty ⟨.ref s.heap.objs.size,_,I.laid (a:=s.heap.objs.size) (o:=.dK []) (t':=s.toks) (fun _ _ q=>Heap.get?_push_of_some _ q) (Nat.le_refl _) (dk_empty s.heap I.big),rfl,h _ (I.hok.fresh (Nat.le_refl _)) fun o z=>absurd (Heap.lt_size (I.kIn _ o z)) (Nat.lt_irrefl _)⟩
def rSetK:V->V->V->Hp->(Hp->Prop)->Prop:=fun o i v H Q=>∃ p kvs k,o=.ref p/\i=kV k/\H p=some (.dK kvs)/\kvs.length < sizeLine/\Q (upd H p (.dK (putK kvs k v)))
theorem set_dK:PSet X rSetK:=by
 intro pQ s σ H o i v ov iv u Q I ro ri rv h;obtain⟨a,kvs,k,rfl,rfl,e,l,q⟩:=h;cases ro;obtain⟨z,hd,vs,rel,dd⟩:=dk_of I.hok e;have hz:vs.length<=sizeLine:=by rw[<-rel.length];exact z
 have hl:(putK kvs k v).length<=sizeLine:=by have:=length_putK kvs k v;omega
 refine wpAny_setItem_pairs (hsz:=hz) (kV_is ri) dd fun h' dd' hs=>⟨_,?_,q⟩
 have he:∃ q,h'.get? a=some q:=let ⟨q,_,_,hq,_⟩:=dd';⟨q,hq⟩
 exact d_write I (by rw[e];exact True.intro) hs he (dk_new hl hd (rel.put k rv) dd')
theorem len_dK{pQ:Li (Ad×Obj)}{σ:St}{H:Hp}{s:Sd}{a:Ad}{kvs:Li (Key×V)}{Q:VK}(I:Inv X pQ σ H s)(e:H a=some (.dK kvs))(q:Q (.int kvs.length) H):wpAny (model X.prog X.w) X.A (call (.builtin "len") [.ref a]) (EP X pQ σ Q) X.xe s:=by
 obtain⟨z,hd,vs,rel,dd⟩:=dk_of I.hok e;refine call_len_dict hd dd (by rw[<-rel.length];rw[sizeLine_eq]at z;omega) ?_
 rw[<-rel.length];exact⟨.int kvs.length,H,I.tok _,⟨_,rfl⟩,q⟩
end
end L2


namespace Dp
open PySem
theorem Zb{α:Type}{x:α}{C:Prop}(h:(none:Ot α)=some x):C:=nomatch h
noncomputable abbrev S(x:String):Str:=Str.ofString x

inductive D where
 |non|bl (b:Bool)|int (i:Int)|str (x:Str)|tup (xs:List D)|lst (id:Nat)|dct (ks:List Str) (vs:List D)|obj (i:Nat)|kt (ks:List Str)|dic (id:Nat)

noncomputable abbrev Env:=Li (Ot D)
noncomputable abbrev Yp:=Bool×Li D
noncomputable abbrev Za:=Li Yp
noncomputable abbrev Res:=Ot (D×Za)
noncomputable abbrev Fn:=Li D->Za->Res

noncomputable def o2{α β γ:Type}(f:α->β->γ):Ot α->Ot β->Ot γ
 |some x,some y=>some (f x y)
 |_,_=>none
noncomputable def og{α:Type}(p:Prop)[Decidable p](o:Ot α):Ot α:=if p then o else none
mutual
noncomputable def ZV:D->D->Bool
 |.non,.non=>true
 |.bl a,.bl b=>a==b
 |.int a,.int b=>decide (a=b)
 |.str a,.str b=>decide (a=b)
 |.tup a,.tup b=>ZY a b
 |_,_=>false
noncomputable def ZY:Li D->Li D->Bool
 |[],[]=>true
 |x :: xs,y :: ys=>ZV x y&&ZY xs ys
 |_,_=>false
end
mutual
noncomputable def okD:Nat->D->Bool
 |_,.non=>true
 |_,.int _=>true
 |_,.str _=>true
 |n+1,.tup xs=>Y0 n xs
 |_,_=>false
noncomputable def Y0:Nat->Li D->Bool
 |_,[]=>true
 |n,x :: xs=>okD n x&&Y0 n xs
end
inductive Sc where
 |non|bl (b:Bool)|int (i:Int)|str (x:Str)
noncomputable def scD:D->Ot Sc
 |.non=>some .non
 |.bl b=>some (.bl b)
 |.int i=>some (.int i)
 |.str x=>some (.str x)
 |_=>none
noncomputable def ZdJ:Sc->Sc->Ot Bool
 |.non,.non=>some true
 |.non,.bl _=>some false
 |.non,.int _=>some false
 |.non,.str _=>some false
 |.bl _,.non=>some false
 |.bl a,.bl b=>some (a==b)
 |.bl _,.int _=>none
 |.bl _,.str _=>some false
 |.int _,.non=>some false
 |.int _,.bl _=>none
 |.int a,.int b=>some (decide (a=b))
 |.int _,.str _=>some false
 |.str _,.non=>some false
 |.str _,.bl _=>some false
 |.str _,.int _=>some false
 |.str a,.str b=>some (decide (a=b))
noncomputable def eqT(xs:Li D):D->Ot Bool
 |.tup ys=>if okD 8 (.tup xs)&&okD 8 (.tup ys) then some (ZY xs ys) else none
 |_=>none
noncomputable def eqD(x y:D):Ot Bool:=match x with
 |.tup xs=>eqT xs y
 |x=>(o2 ZdJ (scD x) (scD y)).join

inductive Ty where
 |int|bool|str|tuple
 deriving DecidableEq

set_option genInjectivity false in
inductive CE where
 |var (i:Nat)|cst (d:D)
 |bin (op:Operator) (a b:CE)|neg (a:CE)
 |cmp (op:CmpOp) (a b:CE)
 |not (a:CE)|and (a b:CE)|or (a b:CE)|ife (c a b:CE)
 |tupE (a:CE)|lstE (a:CE)|aN|aC (a r:CE)
 |ix (a b:CE)|slice (a lo hi:CE)|nop|part (a:CE)
 |call (f:Nat) (args:CE) (ds:List D)
 |len (a:CE)|tOf (a:CE)|listOf (a:CE)|intOf (a:CE)|min (a b:CE)|max (a b:CE)|isi (T:Ty) (a:CE)
 |comp (rng:Bool) (fr:List Nat) (it elt Yw:CE)|comp2 (fr:List Nat) (it elt Yw:CE)|compT (fr:List Nat) (it elt Yw:CE)|lstR (a b:CE)|new (i:Nat)|meth (tab:List (Nat×Nat)) (o a:CE)|isc (l:List Nat) (a:CE)|tix (o a:CE)
 |rs (k:Bool) (a:CE)
 |inv (a:CE)|tupR (a:CE)|look (ks:List Str) (ds:List D) (a:CE)|dget (a k d:CE)|all (a:CE)|any (a:CE)|inR (ng:Bool) (a b:CE)
 |dict (ks:List Str) (a:CE)|dnew|strOf (a:CE)|joinE (a b:CE)|starts (a b:CE)|rng2 (a b:CE)|srt (a:CE)

set_option genInjectivity false in
inductive CS where
 |skip|seq (a b:CS)|ret (e:CE)|set (i:Nat) (e:CE)|app (i:Nat) (e:CE)|ext (i:Nat) (e:CE)|put (i:Nat) (k e:CE)
 |ite (c:CE) (a b:CS)|for1 (i:Nat) (rng:Bool) (it:CE) (b:CS)|for3 (i:Nat) (it:CE) (b:CS)|forP (i j:Nat) (it:CE) (b:CS)|forE (i j:Nat) (it:CE) (b:CS)|set2 (i j:Nat) (e:CE)|for4 (i j l:Nat) (it:CE) (b:CS)|for2 (i j:Nat) (it:CE) (b:CS)|whl (c:CE) (b:CS)|brk|cont|stop|set3 (i j l:Nat) (e:CE)|act (e:CE)|dput (i:Nat) (a b e:CE)|app2 (o e:CE)

noncomputable def ZE(i:Int):Bool:=decide (-(2 ^ 64) < i)&&decide (i < 2 ^ 64)
noncomputable def Zd:Nat:=1000000

noncomputable def Zaj(op:Operator)(i j:Int):Ot Int:=
 match op with
 |.Add=>some (i+j)
 |.Sub=>some (i - j)
 |.Mult=>if ZE i||ZE j then some (i * j) else none
 |.FloorDiv=>if 0 < j/\j < 1073741824 then some (i / j) else if j < 0/\-1073741824 < j then some (i.fdiv j) else none
 |.Mod=>if 0 < j then some (i % j) else if j < 0 then some (i.fmod j) else none
 |_=>none
noncomputable def VY:Operator->Bool
 |.Add=>true
 |_=>false
noncomputable def Je(op:Operator)(x y:D)(st:Za):Res:=
 match x,y with
 |.int i,.int j=>match Zaj op i j with
  |some k=>some (.int k,st)
  |none=>none
 |.tup xs,.tup ys=>if VY op=true/\xs.length+ys.length<=Zd then some (.tup (xs++ys),st) else none
 |.str x,.str y=>if VY op=true/\x.length+y.length<=Zd then some (.str (x++y),st) else none
 |_,_=>none

noncomputable def JM(x k:Str):Bool:=!(PySem.Builtin.Str.occurrences x k 0 x.length 1).isEmpty
noncomputable def chS(x:Str):Li Str:=x.cps.toList.map fun c=>⟨#[c]⟩
noncomputable def UD(c:Nat):Bool:=decide (48<=c)&&decide (c<=57)
noncomputable def dgV(l:Li Nat):Nat:=l.foldl (fun a c=>a * 10+(c - 48)) 0
noncomputable def V0(l:Li Nat):Bool:=!l.isEmpty&&l.all UD&&decide (l.length<=600)
noncomputable def Wp(x:Str):Ot Int:=match x.cps.toList with
 |45 :: r=>if V0 r=true then some (-(dgV r:Int)) else none
 |l=>if V0 l=true then some (dgV l:Int) else none
noncomputable def stW(x y:Str):Bool:=x.cps.toList.take y.cps.toList.length==y.cps.toList
noncomputable def Qp:Li Str->Li Nat
 |[]=>[]
 |x :: r=>x.cps.toList++Qp r
noncomputable def Yx(s:Str):Li Str->Li Nat
 |[]=>[]
 |x :: r=>(s.cps.toList++x.cps.toList)++Yx s r
noncomputable def X2(s:Str):Li Str->Li Nat
 |[]=>[]
 |x :: r=>x.cps.toList++Yx s r
noncomputable def Vc:Li D->Ot (Li Str)
 |[]=>some []
 |.str x :: r=>(Vc r).map (x :: ·)
 |_=>none
noncomputable def ZbG(_:Za)(_ _:Li D):Ot Bool:=none
noncomputable def Qv(xs ys:Li D):Ot Bool:=if (xs.isEmpty||ys.isEmpty)=true then some (xs.isEmpty&&ys.isEmpty) else if Y0 7 xs&&Y0 7 ys then some (ZY xs ys) else none
noncomputable def ZkB(st:Za)(xs:Li D):D->Ot Bool
 |.tup ys=>(match eqT xs (.tup ys) with
  |some k=>some k
  |none=>ZbG st xs ys)
 |_=>none
noncomputable def Zan(f:D->D->Bool):Li D->Li D->Bool
 |[],[]=>true
 |x :: xs,y :: ys=>f x y&&Zan f xs ys
 |_,_=>false
noncomputable def dEq(st:Za):Nat->D->D->Bool
 |_,.str x,.str y=>decide (x=y)
 |n+1,.lst a,.lst b=>(match st[a]? with
  |some c=>(match st[b]? with
   |some d=>Zan (dEq st n) c.2 d.2
   |none=>false)
  |none=>false)
 |_,_,_=>false
noncomputable def Zct(st:Za)(a:Nat):D->Ot Bool
 |.lst b=>(match (o2 (fun(c d:Yp)=>Qv c.2 d.2) st[a]? st[b]?).join with
  |some k=>some k
  |none=>if dEq st 8 (.lst a) (.lst b)=true then some true else none)
 |_=>none
noncomputable def eqS(st:Za)(x y:D):Ot Bool:=match x with
 |.lst a=>Zct st a y
 |.tup xs=>ZkB st xs y
 |x=>eqD x y

noncomputable def Xb:Int->Li D->Ot Bool
 |_,[]=>some false
 |k,.int i :: r=>(Xb k r).map fun b=>decide (i=k)||b
 |_,_=>none
noncomputable def YM:Str->Li D->Ot Bool
 |_,[]=>some false
 |k,.str i :: r=>(YM k r).map fun b=>decide (i=k)||b
 |_,_=>none

noncomputable def isK(k:Str):D->Bool
 |.tup [.str x,_]=>decide (x=k)
 |_=>false
noncomputable def ZmQ:D->Ot D
 |.tup [_,v]=>some v
 |_=>none
noncomputable def Yk(xs:Li D)(k:Str):Ot D:=(xs.find? (isK k)).bind ZmQ
noncomputable def Wf:Li D->Bool
 |.int _ :: _=>true
 |_=>false
noncomputable def dAt(k:Str)(a:Nat)(st:Za):Ot (Ot D):=match st[a]? with
 |some (_,xs)=>if Wf xs=true then none else some (Yk xs k)
 |none=>none
noncomputable def ZT:Li Str->Li D->Str->Ot D
 |k :: ks,v :: vs,x=>if k=x then some v else ZT ks vs x
 |_,_,_=>none
noncomputable def ZaJ(f:Int->Int->Bool):D->D->Ot Bool
 |.int i,.int j=>some (f i j)
 |_,_=>none
noncomputable def ltD(x y:D):Ot Bool:=ZaJ (fun i j=>decide (i < j)) x y
noncomputable def ltS(_:Za)(x y:D):Ot Bool:=ltD x y
noncomputable def inS(st:Za)(x y:D):Ot Bool:=match x,y with
 |.int k,.lst a=>match st[a]? with
  |some (_,xs)=>Xb k xs
  |none=>none
 |.str k,.lst a=>match st[a]? with
  |some (_,xs)=>YM k xs
  |none=>none
 |.int k,.tup xs=>Xb k xs
 |.str k,.tup xs=>YM k xs
 |.str k,.dct ks vs=>some (ZT ks vs k).isSome
 |.str k,.dic a=>(dAt k a st).map Option.isSome
 |.str k,.kt ks=>some (ks.contains k)
 |.str k,.str x=>some (JM x k)
 |_,_=>none
noncomputable def niS(st:Za)(x y:D):Ot Bool:=match y with
 |.dct _ _=>none
 |y=>(inS st x y).map not
noncomputable def isN:D->Ot Bool
 |.non=>some true
 |.int _=>some false
 |.str _=>some false
 |.bl _=>some false
 |.tup _=>some false
 |.lst _=>some false
 |.dct _ _=>none
 |.obj _=>none
 |.kt _=>none
 |.dic _=>none
noncomputable def isB(b:Bool):D->Ot Bool
 |.bl a=>some (a==b)
 |_=>none
noncomputable def isD(x:D):D->Ot Bool
 |.non=>isN x
 |.bl b=>isB b x
 |_=>none
noncomputable def WD(op:CmpOp)(x y:D)(st:Za):Ot Bool:=
 match op with
 |.Lt=>ltS st x y
 |.LtE=>ZaJ (fun i j=>decide (i<=j)) x y
 |.Gt=>ZaJ (fun i j=>decide (j < i)) x y
 |.GtE=>ZaJ (fun i j=>decide (j<=i)) x y
 |.Eq=>eqS st x y
 |.NotEq=>(eqS st x y).map not
 |.In=>inS st x y
 |.NotIn=>niS st x y
 |.Is=>isD x y
 |.IsNot=>(isD x y).map not

noncomputable def ixN(n:Nat)(i:Int):Ot Nat:=if 0<=i then (if i < n then some i.toNat else none) else if -(n:Int)<=i then some (i+n).toNat else none
noncomputable def atD(xs:Li D)(i:Int):Ot D:=(ixN xs.length i).bind fun j=>xs[j]?
noncomputable def ixD(x y:D)(st:Za):Ot D:=
 match x,y with
 |.tup xs,.int i=>atD xs i
 |.lst a,.int i=>match st[a]? with
  |some (_,xs)=>atD xs i
  |none=>none
 |.dct ks vs,.str k=>ZT ks vs k
 |.kt ks,.int i=>atD (ks.map .str) i
 |.dic a,.str k=>(dAt k a st).join
 |.str x,.int i=>if x.length<=Zd then atD ((chS x).map .str) i else none
 |_,_=>none

noncomputable def sIx(n d:Nat):Ot Int->Nat
 |none=>d
 |some i=>if i < 0 then (i+n).toNat else Nat.min i.toNat n
noncomputable def Qr(x:Str)(lo hi:Ot Int):Str:=⟨((x.cps.toList.drop (sIx x.length 0 lo)).take (sIx x.length x.length hi - sIx x.length 0 lo)).toArray⟩
noncomputable def Zcm(xs:Li D)(lo hi:Ot Int):Li D:=(xs.drop (sIx xs.length 0 lo)).take (sIx xs.length xs.length hi - sIx xs.length 0 lo)
noncomputable def Yn(x:D)(lo hi:Ot Int)(st:Za):Res:=
 match x with
 |.tup xs=>if sIx xs.length 0 lo=0/\sIx xs.length xs.length hi=xs.length then some (.tup xs,st) else some (.tup (Zcm xs lo hi),st)
 |.lst a=>match st[a]? with
  |some (_,xs)=>some (.lst st.length,st++[(true,Zcm xs lo hi)])
  |none=>none
 |.str x=>if x.length<=Zd then some (.str (Qr x lo hi),st) else none
 |_=>none

noncomputable def ZcF(x:D)(st:Za):Ot Int:=
 match x with
 |.tup xs=>some xs.length
 |.lst a=>match st[a]? with
  |some (_,xs)=>some xs.length
  |none=>none
 |.kt ks=>some ks.length
 |.str x=>if x.length<=Zd then some x.length else none
 |.dic a=>match st[a]? with
  |some (_,xs)=>if Wf xs=true then none else some xs.length
  |none=>none
 |_=>none

noncomputable def ZgB(T:Ty):D->Ot Bool
 |.int _=>some (decide (T=.int))
 |.bl _=>some (decide (T=.int)||decide (T=.bool))
 |.str _=>some (decide (T=.str))
 |.tup _=>some (decide (T=.tuple))
 |.non=>some false
 |_=>none

noncomputable def Xc(rng:Bool)(x:D):Ot (Li D):=
 match rng,x with
 |true,.int n=>if n < 2 ^ 62/\-(2 ^ 62)<=n then some ((List.range n.toNat).map fun(k:Nat)=>D.int (k:Int)) else none
 |false,.tup xs=>some xs
 |_,_=>none

noncomputable def WT(a b c:Int):Nat:=if 0 < c then (if a < b then ((b - a - 1) / c+1).toNat else 0) else (if b < a then ((a - b - 1) / (-c)+1).toNat else 0)
noncomputable def Xe(a b c:Int):Bool:=decide ((-(2 ^ 30) < a/\a < 2 ^ 30)/\(-(2 ^ 30) < b/\b < 2 ^ 30)/\(c=1\/c=-1\/c=2\/c=3\/c=4))
noncomputable def XH(a b c:Int):Li Int:=(List.range (WT a b c)).map fun(k:Nat)=>a+k * c
noncomputable def Yv(ok:Za->Prop)(f:D->Za->Res)(c:D->Za->Res):Li D->Za->Ot (Li D×Za)
 |[],st=>open Classical in if ok st then some ([],st) else none
 |x :: xs,st=>open Classical in if ok st then (match c x st with
  |some (.bl true,st1)=>match f x st1 with
   |some (y,st2)=>match Yv ok f c xs st2 with
    |some (ys,st3)=>some (y :: ys,st3)
    |none=>none
   |none=>none
  |some (.bl false,st1)=>Yv ok f c xs st1
  |_=>none) else none
noncomputable def Qe(rng:Bool)(x:D)(st:Za):Ot (Li D×(Za->Prop)):=match Xc rng x with
 |some xs=>some (xs,fun _=>True)
 |none=>match rng,x with
  |false,.lst a=>match st[a]? with
   |some c=>some (c.2,fun s=>s[a]?=some c)
   |none=>none
  |false,.str x=>if x.cps.all (fun c=>decide (c < 128))=true then some ((chS x).map .str,fun _=>True) else none
  |false,.dct [] [.int a,.int b]=>some ((XH a b 1).map .int,fun _=>True)
  |_,_=>none


noncomputable def J7(xs ys:Li D):Li D:=(xs.zip ys).map fun p=>.tup [p.1,p.2]
noncomputable def Uv(x:D)(st:Za):Ot (Li D×(Za->Prop)):=match x with
 |.tup [.lst a,.tup ys]=>match st[a]? with
  |some c=>some (J7 c.2 ys,fun s=>s[a]?=some c)
  |none=>none
 |_=>none


noncomputable abbrev Ev:=Env->Za->Res
noncomputable def ZF(fa:Ev)(g:D->Za->Res):Ev:=fun ρ st=>match fa ρ st with
 |some (x,st1)=>g x st1
 |none=>none
noncomputable def ZS(fa fb:Ev)(g:D->D->Za->Res):Ev:=fun ρ st=>match fa ρ st with
 |some (x,st1)=>match fb ρ st1 with
  |some (y,st2)=>g x y st2
  |none=>none
 |none=>none
noncomputable def JV(fa fb fc:Ev)(g:D->D->D->Za->Res):Ev:=fun ρ st=>match fa ρ st with
 |some (x,st1)=>match fb ρ st1 with
  |some (y,st2)=>match fc ρ st2 with
   |some (z,st3)=>g x y z st3
   |none=>none
  |none=>none
 |none=>none
noncomputable def Yw(fc ft ff:Ev):Ev:=fun ρ st=>match fc ρ st with
 |some (.bl true,st1)=>ft ρ st1
 |some (.bl false,st1)=>ff ρ st1
 |_=>none
noncomputable def YL(i:Nat):Ev:=fun ρ st=>match ρ[i]? with
 |some (some d)=>some (d,st)
 |_=>none
noncomputable def evC(d:D):Ev:=fun _ st=>some (d,st)
noncomputable def ZgN:D->Za->Res
 |.int i,st=>some (.int (-i),st)
 |_,_=>none
noncomputable def ZaE:D->Za->Res
 |.bl k,st=>some (.bl (!k),st)
 |_,_=>none
noncomputable def Xt(op:CmpOp)(x y:D)(st:Za):Res:=match WD op x y st with
 |some k=>some (.bl k,st)
 |none=>none
noncomputable def ZcK:D->Za->Res
 |.tup xs,st=>some (.lst st.length,st++[(true,xs)])
 |_,_=>none
noncomputable def Wl:D->D->Za->Res
 |x,.tup xs,st=>if xs.length < 1000 then some (.tup (x :: xs),st) else none
 |_,_,_=>none
noncomputable def ixR(x y:D)(st:Za):Res:=match ixD x y st with
 |some d=>some (d,st)
 |none=>none
noncomputable def Wi:D->D->D->Za->Res
 |x,.non,.non,st=>Yn x none none st
 |x,.int i,.non,st=>Yn x (some i) none st
 |x,.non,.int j,st=>Yn x none (some j) st
 |x,.int i,.int j,st=>Yn x (some i) (some j) st
 |_,_,_,_=>none
noncomputable def ZbH:D->Za->Res
 |.int i,st=>some (.int i,st)
 |_,_=>none
noncomputable def UN(g:Fn)(ds:Li D):D->Za->Res
 |.tup xs,st=>g (xs++ds) st
 |_,_=>none
noncomputable def JH(F:Nat->Fn)(tab:Li (Nat×Nat))(fo fa:Ev):Ev:=fun ρ st=>match fo ρ st with
 |some (.dic a,st1)=>(match st1[a]? with
  |some (_,.int c :: _)=>(match tab.lookup c.toNat with
   |some j=>(match fa ρ st1 with
    |some (.tup xs,st2)=>F j (.dic a :: xs) st2
    |_=>none)
   |none=>none)
  |_=>none)
 |_=>none
noncomputable def X4(c:Nat):Li Nat->Li (Li Nat)
 |[]=>[[]]
 |x :: r=>if x=c then [] :: X4 c r else match X4 c r with
  |p :: q=>(x :: p) :: q
  |[]=>[[x]]
noncomputable def WW(x y:Str):Li Str:=(X4 (y.cps.toList.headD 0) x.cps.toList).map fun l=>⟨l.toArray⟩
noncomputable def Zc0:D->D->Za->Res
 |.str x,.tup [.str y],st=>if y.length=1/\x.length<=Zd then some (.lst st.length,st++[(true,(WW x y).map .str)]) else none
 |_,_,_=>none
noncomputable def Zl4(F:Nat->Fn):Li Nat->Ev
 |[i,j]=>fun _ st=>match F j [.dic st.length] (st++[(true,[.int i])]) with
  |some (.non,st')=>some (.dic st.length,st')
  |_=>none
 |_=>fun _ _=>none
noncomputable def ZdR(ks:Li Str)(d:D)(st:Za):Res:=match ks,d with
 |[f],.dic a=>(match st[a]? with
  |some (_,.int _ :: es)=>(match Yk es f with
   |some v=>some (v,st)
   |none=>none)
  |_=>none)
 |_,_=>none
noncomputable def X3(x:D)(st:Za):Res:=match ZcF x st with
 |some n=>some (.int n,st)
 |none=>none
noncomputable def XN:D->Za->Res
 |.tup xs,st=>some (.tup xs,st)
 |.lst l,st=>match st[l]? with
  |some (_,xs)=>some (.tup xs,st)
  |none=>none
 |_,_=>none
noncomputable def Zec:D->Za->Res
 |.int i,st=>some (.int i,st)
 |.bl true,st=>some (.int 1,st)
 |.bl false,st=>some (.int 0,st)
 |.str x,st=>(match Wp x with
  |some i=>some (.int i,st)
  |none=>none)
 |_,_=>none
noncomputable def J3:D->Za->Res
 |.int i,st=>if ZE i=true then some (.str (Str.ofString (toString i)),st) else none
 |_,_=>none
noncomputable def Zbw(ds:Li D)(st:Za):Res:=match Vc ds with
 |some xs=>if (Qp xs).length<=Zd then some (.str ⟨(Qp xs).toArray⟩,st) else none
 |none=>none
noncomputable def Zbv(s:Str)(ds:Li D)(st:Za):Res:=match Vc ds with
 |some xs=>if (Yx s xs).length<=Zd then some (.str ⟨(X2 s xs).toArray⟩,st) else none
 |none=>none
noncomputable def UX:D->D->Za->Res
 |.str s,.lst a,st=>match st[a]? with
  |some (_,ds)=>if s.length=0 then Zbw ds st else Zbv s ds st
  |none=>none
 |_,_,_=>none
noncomputable def JS:D->D->Za->Res
 |.int a,.int b,st=>if Xe a b 1=true then some (.dct [] [.int a,.int b],st) else none
 |_,_,_=>none
noncomputable def Vs:D->D->Za->Res
 |.str x,.tup [.str y],st=>some (.bl (stW x y),st)
 |_,_,_=>none
noncomputable def ZgJ:D->D->Za->Res
 |.int i,.int j,st=>some (.int (if j < i then j else i),st)
 |_,_,_=>none
noncomputable def ZgH:D->D->Za->Res
 |.int i,.int j,st=>some (.int (if j > i then j else i),st)
 |_,_,_=>none
noncomputable def Zav(T:Ty)(x:D)(st:Za):Res:=match ZgB T x with
 |some k=>some (.bl k,st)
 |none=>none
noncomputable def UY(ks:Li Str)(ds:Li D):D->Za->Res
 |.str k,st=>match ZT ks ds k with
  |some d=>some (d,st)
  |none=>none
 |_,_=>none
noncomputable def getD:D->D->D->Za->Res
 |.dct ks vs,.str k,d,st=>some ((ZT ks vs k).getD d,st)
 |_,_,_,_=>none
noncomputable def Xr:Li D->Ot (Li Bool)
 |[]=>some []
 |.bl b :: r=>(Xr r).map (b :: ·)
 |_=>none
noncomputable def WR(f:Li Bool->Bool)(x:D)(st:Za):Res:=match x with
 |.lst a=>match st[a]? with
  |some (_,xs)=>match Xr xs with
   |some bs=>some (.bl (f bs),st)
   |none=>none
  |none=>none
 |_=>none

noncomputable def one(d:D):Li (Ot D):=[some d]
noncomputable def two:D->Li (Ot D)
 |.tup [a,b]=>[some a,some b]
 |_=>[]
noncomputable def YZ(b:D->Li (Ot D))(ρ:Env)(fr:Li Nat)(d:D):Env:=b d++fr.map fun i=>(ρ[i]?).join
noncomputable def W3(b:D->Li (Ot D))(w:D->Za->Ot (Li D×(Za->Prop)))(fr:Li Nat)(fi fe fc:Ev):Ev:=fun ρ st=>match fi ρ st with
 |some (x,st1)=>match w x st1 with
  |some (xs,ok)=>if xs.length<=1000 then
    match Yv ok (fun d s=>fe (YZ b ρ fr d) s) (fun d s=>fc (YZ b ρ fr d) s) xs st1 with
    |some (ys,st2)=>some (.lst st2.length,st2++[(true,ys)])
    |none=>none
   else none
  |none=>none
 |none=>none

noncomputable def ZhV:Ev:=fun _ st=>some (.dic st.length,st++[(true,[])])
noncomputable def ev(F:Nat->Fn):CE->Ev
 |.var i=>YL i
 |.cst d=>evC d
 |.bin op a b=>ZS (ev F a) (ev F b) (Je op)
 |.neg a=>ZF (ev F a) ZgN
 |.cmp op a b=>ZS (ev F a) (ev F b) (Xt op)
 |.not a=>ZF (ev F a) ZaE
 |.and a b=>Yw (ev F a) (ev F b) (evC (.bl false))
 |.or a b=>Yw (ev F a) (evC (.bl true)) (ev F b)
 |.ife c a b=>Yw (ev F c) (ev F a) (ev F b)
 |.tupE a=>ev F a
 |.lstE a=>ZF (ev F a) ZcK
 |.aN=>evC (.tup [])
 |.aC a r=>ZS (ev F a) (ev F r) Wl
 |.ix a b=>ZS (ev F a) (ev F b) ixR
 |.slice a lo hi=>JV (ev F a) (ev F lo) (ev F hi) Wi
 |.nop=>evC .non
 |.part a=>ZF (ev F a) ZbH
 |.call f a ds=>ZF (ev F a) (UN (F f) ds)
 |.len a=>ZF (ev F a) X3
 |.tOf a=>ZF (ev F a) XN
 |.listOf _=>fun _ _=>none
 |.intOf a=>ZF (ev F a) Zec
 |.min a b=>ZS (ev F a) (ev F b) ZgJ
 |.max a b=>ZS (ev F a) (ev F b) ZgH
 |.isi T a=>ZF (ev F a) (Zav T)
 |.rs _ _=>fun _ _=>none
 |.inv _=>fun _ _=>none
 |.tupR _=>fun _ _=>none
 |.look ks ds a=>ZF (ev F a) (UY ks ds)
 |.dget _ _ _=>fun _ _=>none
 |.inR _ _ _=>fun _ _=>none
 |.all a=>ZF (ev F a) (WR fun l=>l.all id)
 |.any _=>fun _ _=>none
 |.comp rng fr it elt cnd=>W3 one (Qe rng) fr (ev F it) (ev F elt) (ev F cnd)
 |.comp2 fr it elt cnd=>W3 two Uv fr (ev F it) (ev F elt) (ev F cnd)
 |.compT _ _ _ _=>fun _ _=>none
 |.lstR _ _=>fun _ _=>none
 |.new _=>fun _ _=>none
 |.meth tab o a=>JH F tab (ev F o) (ev F a)
 |.isc l _=>Zl4 F l
 |.tix o a=>ZS (ev F o) (ev F a) Zc0
 |.dict ks a=>ZF (ev F a) (ZdR ks)
 |.dnew=>ZhV
 |.strOf a=>ZF (ev F a) J3
 |.joinE a b=>ZS (ev F a) (ev F b) UX
 |.starts a b=>ZS (ev F a) (ev F b) Vs
 |.rng2 a b=>ZS (ev F a) (ev F b) JS
 |.srt _=>fun _ _=>none

inductive Fl where
 |nx (ρ:Env)|rt (d:D)|bk (ρ:Env)|ct (ρ:Env)

noncomputable def Zy(ρ:Env)(i:Nat)(d:D):Env:=ρ.set i (some d)

noncomputable def Yg(body:D->Env->Za->Ot (Fl×Za)):Li D->Env->Za->Ot (Fl×Za)
 |[],ρ,st=>some (.nx ρ,st)
 |d :: ds,ρ,st=>match body d ρ st with
  |some (.nx ρ',st')=>Yg body ds ρ' st'
  |some (.ct ρ',st')=>Yg body ds ρ' st'
  |some (.bk ρ',st')=>some (.nx ρ',st')
  |some (.rt v,st')=>some (.rt v,st')
  |none=>none
noncomputable def ZH(body:D->Env->Za->Ot (Fl×Za))(a:Nat):Nat->Nat->Env->Za->Ot (Fl×Za)
 |0,i,ρ,st=>match st[a]? with
  |some (_,xs)=>if xs.length<=i then some (.nx ρ,st) else none
  |none=>none
 |n+1,i,ρ,st=>match st[a]? with
  |some (_,xs)=>match xs[i]? with
   |none=>some (.nx ρ,st)
   |some d=>match body d ρ st with
    |some (.nx ρ',st')=>ZH body a n (i+1) ρ' st'
    |some (.ct ρ',st')=>ZH body a n (i+1) ρ' st'
    |some (.bk ρ',st')=>some (.nx ρ',st')
    |some (.rt v,st')=>some (.rt v,st')
    |none=>none
  |none=>none

noncomputable abbrev Ex:=Env->Za->Ot (Fl×Za)
noncomputable def UH(f g:Ex):Ex:=fun ρ st=>match f ρ st with
 |some (.nx ρ',st')=>g ρ' st'
 |r=>r
noncomputable def ZaQ(f:Ev):Ex:=fun ρ st=>match f ρ st with
 |some (d,st')=>some (.rt d,st')
 |none=>none
noncomputable def JW(i:Nat)(f:Ev):Ex:=fun ρ st=>match f ρ st with
 |some (d,st')=>some (.nx (Zy ρ i d),st')
 |none=>none
noncomputable def Zc8(f:Ev):Ex:=fun ρ st=>match f ρ st with
 |some (_,st')=>some (.nx ρ,st')
 |none=>none
noncomputable def Zb2(a:Nat)(d:D)(st:Za):Ot Za:=match st[a]? with
 |some (true,xs)=>if xs.length < Zd then some (st.set a (true,xs++[d])) else none
 |_=>none
noncomputable def Zdc(i:Nat)(f:Ev):Ex:=fun ρ st=>match ρ[i]? with
 |some (some (.lst a))=>match f ρ st with
  |some (d,st')=>match Zb2 a d st' with
   |some st2=>some (.nx ρ,st2)
   |none=>none
  |none=>none
 |_=>none
noncomputable def Ja(o f:Ev):Ex:=fun ρ st=>match o ρ st with
 |some (.lst a,st1)=>match f ρ st1 with
  |some (d,st2)=>match Zb2 a d st2 with
   |some st3=>some (.nx ρ,st3)
   |none=>none
  |none=>none
 |_=>none
noncomputable def ZiS(a b:Nat)(st:Za):Ot Za:=match st[a]?,st[b]? with
 |some (true,xs),some (true,ys)=>if xs.length+ys.length<=Zd then some (st.set a (true,xs++ys)) else none
 |_,_=>none
noncomputable def ZdM(i:Nat)(f:Ev):Ex:=fun ρ st=>match ρ[i]? with
 |some (some (.lst a))=>match f ρ st with
  |some (.lst b,st')=>match ZiS a b st' with
   |some st2=>some (.nx ρ,st2)
   |none=>none
  |_=>none
 |_=>none
noncomputable def ZeU(i:Nat)(k:CE)(f:Ev):Ex:=fun ρ st=>match k with
 |.cst (.str x)=>(match f ρ st with
  |some (d,st1)=>(match ρ[i]? with
   |some (some (.dic a))=>(match st1[a]? with
    |some (true,.int c :: es)=>if es.length < 900/\es.any (isK x)=false then some (.nx ρ,st1.set a (true,.int c :: (es++[.tup [.str x,d]]))) else none
    |_=>none)
   |_=>none)
  |none=>none)
 |_=>none
noncomputable def Jp(o k f:Ev):Ex:=fun ρ st=>match f ρ st with
 |some (d,st1)=>(match o ρ st1 with
  |some (.dic a,st2)=>(match k ρ st2 with
   |some (.str x,st3)=>(match st3[a]? with
    |some (true,es)=>if Wf es=false/\es.length < Zd/\es.any (isK x)=false then some (.nx ρ,st3.set a (true,es++[.tup [.str x,d]])) else none
    |_=>none)
   |_=>none)
  |_=>none)
 |none=>none
noncomputable def UE(c:Ev)(f g:Ex):Ex:=fun ρ st=>match c ρ st with
 |some (.bl true,st1)=>f ρ st1
 |some (.bl false,st1)=>g ρ st1
 |_=>none
noncomputable def Vh(i:Nat)(rng:Bool)(it:Ev)(b:Ex):Ex:=fun ρ st=>match it ρ st with
 |some (x,st1)=>match Xc rng x with
  |some xs=>Yg (fun d ρ s=>b (Zy ρ i d) s) xs ρ st1
  |none=>match rng,x with
   |false,.lst a=>match st1[a]? with
    |some (_,xs)=>ZH (fun d ρ s=>b (Zy ρ i d) s) a xs.length 0 ρ st1
    |none=>none
   |_,_=>none
 |none=>none
noncomputable def ZX(ok:Za->Prop)(body:D->D->Env->Za->Ot (Fl×Za)):Li (D×D)->Env->Za->Ot (Fl×Za)
 |[],ρ,st=>open Classical in if ok st then some (.nx ρ,st) else none
 |p :: ps,ρ,st=>open Classical in if ok st then (match body p.1 p.2 ρ st with
  |some (.nx ρ',st')=>ZX ok body ps ρ' st'
  |some (.ct ρ',st')=>ZX ok body ps ρ' st'
  |some (.bk ρ',st')=>some (.nx ρ',st')
  |some (.rt v,st')=>some (.rt v,st')
  |none=>none) else none
noncomputable def Jv(i j:Nat)(it:Ev)(b:Ex):Ex:=fun ρ st=>match it ρ st with
 |some (.tup [.lst la,.tup ys],st1)=>match st1[la]? with
  |some ca=>ZX (fun s=>s[la]?=some ca) (fun x y ρ s=>b (Zy (Zy ρ i x) j y) s) (ca.2.zip ys) ρ st1
  |none=>none
 |_=>none
noncomputable def Wm:Nat->Li D->Li (D×D)
 |_,[]=>[]
 |k,x :: xs=>(.int (k:Int),x) :: Wm (k+1) xs
noncomputable def Zlp(x:D)(st:Za):Ot (Li D×(Za->Prop)):=match x with
 |.lst a=>match st[a]? with
  |some c=>some (c.2,fun s=>s[a]?=some c)
  |none=>none
 |_=>none
noncomputable def Ju(i j:Nat)(it:Ev)(b:Ex):Ex:=fun ρ st=>match it ρ st with
 |some (x,st1)=>match Zlp x st1 with
  |some (xs,ok)=>ZX ok (fun x y ρ s=>b (Zy (Zy ρ i x) j y) s) (Wm 1 xs) ρ st1
  |none=>none
 |none=>none
noncomputable def U3(i j:Nat)(b:Ex)(d:D)(ρ:Env)(s:Za):Ot (Fl×Za):=match d with
 |.tup [x,y]=>b (Zy (Zy ρ i x) j y) s
 |_=>none
noncomputable def Jt(i j:Nat)(it:Ev)(b:Ex):Ex:=fun ρ st=>match it ρ st with
 |some (.lst a,st1)=>match st1[a]? with
  |some (_,xs)=>ZH (U3 i j b) a xs.length 0 ρ st1
  |none=>none
 |some (.tup xs,st1)=>Yg (U3 i j b) xs ρ st1
 |_=>none


noncomputable def ex(F:Nat->Fn):CS->Ex
 |.skip=>fun ρ st=>some (.nx ρ,st)
 |.seq a b=>UH (ex F a) (ex F b)
 |.ret e=>ZaQ (ev F e)
 |.set i e=>JW i (ev F e)
 |.app i e=>Zdc i (ev F e)
 |.ext i e=>ZdM i (ev F e)
 |.put i k e=>ZeU i k (ev F e)
 |.ite c a b=>UE (ev F c) (ex F a) (ex F b)
 |.for1 i rng it b=>Vh i rng (ev F it) (ex F b)
 |.forP i j it b=>Jv i j (ev F it) (ex F b)
 |.forE i j it b=>Ju i j (ev F it) (ex F b)
 |.for3 _ _ _=>fun _ _=>none
 |.set2 _ _ _=>fun _ _=>none
 |.for4 _ _ _ _ _=>fun _ _=>none
 |.for2 i j it b=>Jt i j (ev F it) (ex F b)
 |.whl _ _=>fun _ _=>none
 |.brk=>fun ρ st=>some (.bk ρ,st)
 |.cont=>fun ρ st=>some (.ct ρ,st)
 |.stop=>fun _ _=>none
 |.set3 _ _ _ _=>fun _ _=>none
 |.act e=>Zc8 (ev F e)
 |.dput _ a b e=>Jp (ev F a) (ev F b) (ev F e)
 |.app2 o e=>Ja (ev F o) (ev F e)

structure FD where
 ps:Nat
 ns:Nat
 body:CS
noncomputable def fnD(F:Nat->Fn)(f:FD):Fn:=fun ds st=>
 if ds.length=f.ps then
  match ex F f.body (ds.map some++List.replicate (f.ns - ds.length) none) st with
  |some (.rt d,st')=>some (d,st')
  |some (.nx _,st')=>some (.non,st')
  |_=>none
 else none
noncomputable def run(T:Nat->Ot FD):Nat->Nat->Fn
 |0,_=>fun _ _=>none
 |n+1,i=>match T i with
  |some f=>fnD (run T n) f
  |none=>fun _ _=>none

inductive GV where
 |fn (i:Nat) (ps:Nat) (ds:List D)|cst (d:D)|blt|dct (ks:List Str) (ds:List D)|cls (i:Nat) (ms:List (Str×Nat×Nat)) (subs:List Nat)
noncomputable abbrev Gs:=Li (Str×GV)

noncomputable def CE.ofConst:Const->Ot CE
 |.none=>some (.cst .non)
 |.bool b=>some (.cst (.bl b))
 |.int i=>some (.cst (.int i))
 |.str x=>some (.cst (.str x))
 |_=>none
noncomputable def X7(sc:Scope)(x:Str):Bool:=!(x==("__debug__":Str))&&!(x==("__classdict__":Str))&&match sc.names.lookup x with
 |some .local=>true
 |some .cell=>true
 |some .free=>true
 |_=>false
noncomputable def ZO(sc:Scope)(x:Str):Bool:=!(x==("__debug__":Str))&&match sc.names.lookup x with
 |some .globalImplicit=>true
 |_=>false
noncomputable def Zll(x:Str):Ot Ty:=
 if x = "int" then some .int else if x = "bool" then some .bool else if x = "str" then some .str else if x = "tuple" then some .tuple else none
noncomputable def ZW(sc:Scope):Li Str:=(sc.names.filter fun p=>decide (p.2=.free)).map (·.1)

noncomputable def Zix(f:Str)(x:CE):Ot CE:=
 if f = "len" then some (.len x) else if f = "tuple" then some (.tOf x) else if f = "int" then some (.intOf x) else if f = "all" then some (.all x) else if f = "str" then some (.strOf x) else none
noncomputable def Ziy(f:Str)(x y:CE):Ot CE:=if f = "min" then some (.min x y) else if f = "max" then some (.max x y) else none
noncomputable def UV(G:Gs)(x:Str):Bool:=match G.lookup x with
 |some .blt=>true
 |_=>false
noncomputable def Zj5(G:Gs)(sc:Scope)(t:Str):Ot Ty:=if ZO sc t&&UV G t then Zll t else none
noncomputable def ZbW(G:Gs)(sc:Scope):Expr->Ot Ty
 |.Name t _=>Zj5 G sc t
 |_=>none


noncomputable def Zh7(m:Str)(k:Nat)(G:Gs)(x:Str):Ot (Nat×Nat):=match G.lookup x with
 |some (.cls i ms _)=>(match ms.lookup m with
  |some (j,ps)=>if ps=k+1 then some (i,j) else none
  |none=>none)
 |_=>none
noncomputable def XT(m:Str)(k:Nat)(G:Gs):Li (Nat×Nat):=(G.map Prod.fst).filterMap (Zh7 m k G)
noncomputable def ZhR:Expr->Ot (Str×Li Expr)
 |.Call (.Name f _) as [] _=>some (f,as)
 |_=>none
noncomputable def fnA(G:Gs)(sc:Scope)(nm:Str)(e:Expr):Ot (Li Expr):=(ZhR e).bind fun p=>og (p.1=nm/\ZO sc p.1=true/\UV G p.1=true) (some p.2)
noncomputable def Zk6:Li Expr->Ot Expr
 |[a]=>some a
 |_=>none
noncomputable def YQ(G:Gs)(sc:Scope)(e:Expr):Ot Expr:=(fnA G sc "range" e).bind Zk6
noncomputable def ZaZ(_:Gs)(_:Scope)(_:Str)(_:Expr):Ot Expr:=none
noncomputable def Zfl:Li Expr->Ot (Expr×Expr)
 |[a,b]=>some (a,b)
 |_=>none
noncomputable def ZaB(_:Gs)(_:Scope)(_:Str)(_:Expr):Ot (Expr×Expr):=none
noncomputable def o3{α β γ δ:Type}(f:α->β->γ->δ):Ot α->Ot β->Ot γ->Ot δ
 |some x,b,c=>o2 (f x) b c
 |none,_,_=>none
theorem QT{α γ:Type}{P:γ->Prop}{f:α->γ}{a:Ot α}{c:γ}(h:a.map f=some c)(k:∀ x,a=some x->P (f x)):P c:=by
 cases a with
 |none=>exact Zb h
 |some x=>cases h;exact k x rfl
theorem Z6{α β γ:Type}{P:γ->Prop}{f:α->β->γ}{a:Ot α}{b:Ot β}{c:γ}(h:o2 f a b=some c)(k:∀ x y,a=some x->b=some y->P (f x y)):P c:=by
 cases a with
 |none=>exact Zb h
 |some x=>cases b with
  |none=>exact Zb h
  |some y=>cases h;exact k x y rfl rfl
theorem QU{α β γ δ:Type}{P:δ->Prop}{f:α->β->γ->δ}{a:Ot α}{b:Ot β}{d:Ot γ}{c:δ}(h:o3 f a b d=some c)(k:∀ x y z,a=some x->b=some y->d=some z->P (f x y z)):P c:=by
 cases a with
 |none=>exact Zb h
 |some x=>exact Z6 (P:=P) h fun y z e e'=>k x y z rfl e e'
theorem XA{α:Type}{P:Prop}{p:Prop}[Decidable p]{o:Ot α}{c:α}(h:og p o=some c)(k:p->o=some c->P):P:=by
 unfold og at h;by_cases hp:p
 ·rw[if_pos hp]at h;exact k hp h
 ·rw[if_neg hp]at h;cases h
theorem j_e{α:Type}{P:Prop}{o:Ot (Ot α)}{c:α}(h:o.join=some c)(k:o=some (some c)->P):P:=by
 cases o with
 |none=>exact Zb h
 |some x=>cases h;exact k rfl

noncomputable def Zdf(G:Gs)(sc:Scope)(f:Str)(a:Expr)(r:Expr->Ot CE):Ot CE:=match ZaZ G sc f a with
 |some e=>(r e).map .tupR
 |none=>match ZaB G sc f a with
  |some (u,v)=>o2 .lstR (r u) (r v)
  |none=>((r a).map (Zix f)).join
noncomputable def Zdg(G:Gs)(sc:Scope)(f:Str)(a b:Expr)(r:Expr->Ot CE):Ot CE:=if f = "isinstance" then o2 (fun x T=>.isi T x) (r a) (ZbW G sc b) else (o2 (Ziy f) (r a) (r b)).join
noncomputable def Zdp(G:Gs)(sc:Scope)(f:Str)(as:Li Expr)(cs:Ot CE)(r:Expr->Ot CE):Ot CE:=
 if ZO sc f then (match G.lookup f with
   |some (.fn i ps ds)=>og (as.length<=ps/\ps<=as.length+ds.length) (cs.map fun c=>.call i c (ds.drop (as.length+ds.length - ps)))
   |some .blt=>match as with
    |[a]=>Zdf G sc f a r
    |[a,b]=>Zdg G sc f a b r
    |_=>none
   |some (.cls i ms _)=>match as with
    |[]=>(ms.lookup ("__init__":Str)).bind fun p=>og (p.2=1) (some (.isc [i,p.1] .aN))
    |_=>none
   |_=>none) else none
noncomputable def ZhN(G:Gs)(ob:Expr)(m:Str)(ap:Pos)(as:Li Expr)(cp:Pos)(cs:Ot CE)(r:Expr->Ot CE):Ot CE:=match ob with
 |.Constant _ _ _=>(match as with
  |[a]=>og (m = "join"/\(ap.endLine==cp.line)=true) (o2 .joinE (r ob) (r a))
  |_=>none)
 |.Name _ _=>og ((ap.endLine==cp.line)=true/\as.length < 20) (if m = "split" then og (as.length=1) (o2 .tix (r ob) cs) else if m = "startswith" then og (as.length=1) (o2 .starts (r ob) cs) else o2 (.meth (XT m as.length G)) (r ob) cs)
 |_=>none
noncomputable def Zks(G:Gs)(sc:Scope)(f:Expr)(as:Li Expr)(cp:Pos)(cs:Ot CE)(r:Expr->Ot CE):Ot CE:=match f with
 |.Name f _=>Zdp G sc f as cs r
 |.Attribute ob m ap=>ZhN G ob m ap as cp cs r
 |_=>none
noncomputable def ZkL:Expr->Bool
 |.Slice ..=>true
 |_=>false
noncomputable def fldNames:Li Str:=["takes", "names", "rows", "aims"]
noncomputable def ZkI(o:Expr)(f:Str)(c:Ot CE):Ot CE:=match o with
 |.Name _ _=>og (fldNames.contains f=true) (c.map (.dict [f]))
 |_=>none
noncomputable def ZlU(keys:Li (Ot Expr))(vals:Li Expr):Ot CE:=match keys with
 |[]=>og (vals.length=0) (some .dnew)
 |_=>none
noncomputable def WS(_:Gs)(_:Scope)(_:Expr):Ot (Li Expr):=none
noncomputable def Wz(G:Gs)(sc:Scope)(e:Expr):Ot (Li Expr):=(fnA G sc "zip" e).bind fun as=>og (as.length=2) (some as)
noncomputable def XR(G:Gs)(sc:Scope):Expr->Ot Expr
 |.Call (.Name f _) [x] [⟨some k,.Constant (.int 1) _ _,_⟩] _=>og (f = "enumerate"/\k = "start"/\ZO sc f=true/\UV G f=true) (some x)
 |_=>none
noncomputable def nmE:Expr->Ot Str
 |.Name x _=>some x
 |_=>none
noncomputable def nmL:Li Expr->Ot (Li Str)
 |[a,b]=>o2 (fun x y=>[x,y]) (nmE a) (nmE b)
 |_=>none
noncomputable def tgN:Expr->Ot (Li Str)
 |.Name x _=>some [x]
 |.Tuple es _ _=>nmL es
 |_=>none
noncomputable def mkC(r:Ot (Ot Bool))(fr:Li Nat)(ci ce cc:CE):CE:=match r with
 |some (some b)=>.comp b fr ci ce cc
 |some none=>.comp2 fr ci ce cc
 |none=>.compT fr ci ce cc
noncomputable def XC(N:Li Str):Li Str->Ot (Li Nat)
 |[]=>some []
 |x :: r=>match N.idxOf? x,XC N r with
  |some i,some is=>some (i :: is)
  |_,_=>none

noncomputable def Zer(G:Gs)(sc:Scope)(N:Li Str)(x:Str):Ot CE:=
 if X7 sc x then (N.idxOf? x).map .var else if ZO sc x then (match G.lookup x with
  |some (.cst d)=>some (.cst d)
  |_=>none) else none
noncomputable def W8(G:Gs)(sc:Scope):Expr->Ot (Li Str×Li D)
 |.Name x _=>if ZO sc x then (match G.lookup x with
  |some (.dct ks ds)=>some (ks,ds)
  |_=>none) else none
 |_=>none
noncomputable def Vr:Expr->Ot (Ot Expr×Ot Expr)
 |.Slice lo hi none _=>some (lo,hi)
 |_=>none
noncomputable def Zib(_:Expr):Ot Expr:=none
noncomputable def Zat:CE->Bool
 |.ix (.var _) (.cst (.int _))=>true
 |.var _=>true
 |.len (.var _)=>true
 |_=>false
noncomputable def Zl2:CE->Bool
 |.neg (.cst (.int 1))=>true
 |_=>false
noncomputable def VZ(sc:Scope)(x:Str):Bool:=match sc.names.lookup x with
 |some .cell=>true
 |some .free=>true
 |_=>false
noncomputable def Xu(sc sc2:Scope)(xs:Li Str):Bool:=
 decide (sc2.kind=.function)&&(sc2.names.all fun p=>decide (p.2≠.cell))&&(xs.all fun x=>decide (sc2.names.lookup x=some .local))&&(sc2.names.all fun p=>!decide (p.2=.local)||decide (sc2.names.lookup p.1=some .local)) &&
 decide (xs++ZW sc2).Nodup&&(ZW sc2).all (fun y=>VZ sc y&&decide (sc2.names.lookup y=some .free))
noncomputable def Zi2:CmpOp->Ot Bool
 |.In=>some false
 |.NotIn=>some true
 |_=>none
noncomputable def unC(op:UnaryOp)(a:Ot CE):Ot CE:=match op with
 |.Not=>a.map .not
 |.USub=>a.map .neg
 |_=>none
noncomputable def Zkv(G:Gs)(sc:Scope)(f:Expr->Ot CE)(a:Ot CE):Li CmpOp->Li Expr->Ot CE
 |[op],[b]=>(match W8 G sc b with
  |some (ks,_)=>o2 (fun _ x=>.cmp op x (.cst (.kt ks))) (Zi2 op) a
  |none=>o2 (.cmp op) a (f b))
 |[op,op2],[b,b2]=>(o3 (fun x y z=>og (Zat y=true) (some (.and (.cmp op x y) (.cmp op2 y z)))) a (f b) (f b2)).join
 |_,_=>none
noncomputable def ZhP(f:Expr->Ot CE)(op:BoolOp)(pos:Pos):Li Expr->Ot CE
 |[]=>none
 |[a]=>f a
 |a :: b :: r=>match op with
  |.And=>o2 .and (f a) (f (.BoolOp .And (b :: r) pos))
  |.Or=>o2 .or (f a) (f (.BoolOp .Or (b :: r) pos))
noncomputable def Zj1(G:Gs)(sc:Scope)(f:Expr->Ot CE)(fo:Ot Expr->Ot CE)(a b:Expr):Ot CE:=match Vr b with
 |some (lo,hi)=>o3 .slice (f a) (fo lo) (fo hi)
 |none=>match Zib b with
  |some s=>(o2 (fun x y=>og (Zl2 y=true) (some (.rs false x))) (f a) (f s)).join
  |none=>match W8 G sc a with
   |some (ks,ds)=>(f b).map (.look ks ds)
   |none=>o2 .ix (f a) (f b)
noncomputable def itC(G:Gs)(sc:Scope)(it:Expr)(f:Expr->Ot CE):Li Str->Ot (Ot (Ot Bool)×CE)
 |[_]=>(match YQ G sc it with
  |some a=>(f a).map fun c=>(some (some true),c)
  |none=>match (fnA G sc "range" it).bind Zfl with
   |some p=>o2 (fun x y=>(some (some false),.rng2 x y)) (f p.1) (f p.2)
   |none=>(f it).map fun c=>(some (some false),c))
 |_=>(match (fnA G sc "zip" it).bind Zfl with
  |some p=>o2 (fun x y=>(some none,.aC x (.aC y .aN))) (f p.1) (f p.2)
  |none=>(f it).map fun c=>(none,c))
noncomputable def ifC(f:Expr->Ot CE):Li Expr->Ot CE
 |[]=>some (CE.cst (.bl true))
 |[c]=>f c
 |_=>none
noncomputable def ZhT(G:Gs)(sc sc2:Scope)(N:Li Str)(f:Expr->Ot CE)(g:Li Str->Expr->Ot CE)(elt:Expr):Li Comprehension->Ot CE
 |[⟨tg,it,ifs,0⟩]=>(match tgN tg with
  |none=>none
  |some xs=>og (Xu sc sc2 xs=true) (o3 (fun fr p (q:CE×CE)=>mkC p.1 fr p.2 q.1 q.2) (XC N (ZW sc2)) (itC G sc it f xs) (o2 Prod.mk (g (xs++ZW sc2) elt) (ifC (g (xs++ZW sc2)) ifs))))
 |_=>none
mutual
noncomputable def cE(G:Gs):Nat->Scope->Li Str->Expr->Ot CE
 |0,_,_,_=>none
 |n+1,sc,N,e=>match e with
  |.Constant c _ _=>CE.ofConst c
  |.Name x _=>Zer G sc N x
  |.BinOp a op b _=>o2 (.bin op) (cE G n sc N a) (cE G n sc N b)
  |.UnaryOp op a _=>unC op (cE G n sc N a)
  |.Compare a ops bs _=>Zkv G sc (cE G n sc N) (cE G n sc N a) ops bs
  |.BoolOp op vs pos=>ZhP (cE G n sc N) op pos vs
  |.IfExp c a b _=>o3 .ife (cE G n sc N c) (cE G n sc N a) (cE G n sc N b)
  |.Tuple es _ _=>(cEs G n sc N es).map .tupE
  |.List es _=>(cEs G n sc N es).map .lstE
  |.Dict keys vals _=>ZlU keys vals
  |.Attribute o f _=>ZkI o f (cE G n sc N o)
  |.Subscript a b _=>Zj1 G sc (cE G n sc N) (cO G n sc N) a b
  |.Call f as [] cp=>Zks G sc f as cp (cEs G n sc N as) (cE G n sc N)
  |.ListComp elt gens sc2 _=>ZhT G sc sc2 N (cE G n sc N) (cE G n sc2) elt gens
  |_=>none
noncomputable def cEs(G:Gs):Nat->Scope->Li Str->Li Expr->Ot CE
 |0,_,_,_=>none
 |_+1,_,_,[]=>some .aN
 |n+1,sc,N,e :: es=>o2 .aC (cE G n sc N e) (cEs G n sc N es)
noncomputable def cO(G:Gs):Nat->Scope->Li Str->Ot Expr->Ot CE
 |0,_,_,_=>none
 |_+1,_,_,none=>some .nop
 |n+1,sc,N,some e=>(cE G n sc N e).map .part
end

noncomputable def We:Expr->Bool
 |.ListComp ..=>true
 |.SetComp ..=>true
 |.DictComp ..=>true
 |_=>false
noncomputable def Zko(N:Li Str)(tg e:Expr)(c:Ot CE):Ot CS:=match tg with
 |.Name x _=>o2 .set (N.idxOf? x) c
 |_=>none



noncomputable def ZiY(G:Gs)(sc:Scope)(N:Li Str)(f:Expr->Ot CE)(fs:Li Expr->Ot CE)(tg it:Expr)(b:Ot CS):Ot CS:=match tg with
 |.Name x _=>(match WS G sc it with
  |some as=>o3 .for3 (N.idxOf? x) (fs as) b
  |none=>match YQ G sc it with
   |some a=>o3 (fun i c b=>.for1 i true c b) (N.idxOf? x) (f a) b
   |none=>o3 (fun i c b=>.for1 i false c b) (N.idxOf? x) (f it) b)
 |.Tuple [.Name x _,.Name y _] _ _=>(o2 (fun i j=>og (i≠j) (some (i,j))) (N.idxOf? x) (N.idxOf? y)).join.bind fun p=>(match Wz G sc it with
  |some as=>o2 (.forP p.1 p.2) (fs as) b
  |none=>match XR G sc it with
   |some e=>o2 (.forE p.1 p.2) (f e) b
   |none=>o2 (.for2 p.1 p.2) (f it) b)
 |.Tuple [.Name x _,.Name y _,.Name z _] _ _=>o3 (fun(p:Nat×Nat) (q:Nat×CE) b=>.for4 p.1 p.2 q.1 q.2 b) (o2 Prod.mk (N.idxOf? x) (N.idxOf? y)) (o2 Prod.mk (N.idxOf? z) (f it)) b
 |_=>none
noncomputable def Ziw(sc:Scope)(N:Li Str)(x m:Str)(ap cp:Pos)(c:Ot CE):Ot CS:=og (X7 sc x=true/\(ap.endLine==cp.line)=true) (if m = "append" then o2 .app (N.idxOf? x) c else if m = "extend" then o2 .ext (N.idxOf? x) c else none)
noncomputable def Zkm(sc:Scope)(N:Li Str)(f:Expr->Ot CE):Expr->Ot CS
 |.Call (.Name g fp) as kw cp=>(f (.Call (.Name g fp) as kw cp)).map .act
 |.Call (.Attribute (.Name x p) m ap) as kw cp=>if m = "append"\/m = "extend" then (match as,kw with
  |[e],[]=>Ziw sc N x m ap cp (f e)
  |_,_=>none) else (f (.Call (.Attribute (.Name x p) m ap) as kw cp)).map .act
 |.Call (.Attribute (.Attribute o k p) m ap) [e] [] cp=>og (m = "append"/\(ap.endLine==cp.line)=true) (o2 .app2 (f (.Attribute o k p)) (f e))
 |_=>none
mutual
noncomputable def cS(G:Gs):Nat->Scope->Li Str->Stmt->Ot CS
 |0,_,_,_=>none
 |n+1,sc,N,s=>match s with
  |.Assign [.Subscript o k _] e _=>og (We e=false/\ZkL k=false) (o3 (.dput 0) (cE G n sc N o) (cE G n sc N k) (cE G n sc N e))
  |.Assign [.Attribute (.Name x _) k _] e _=>og (We e=false/\X7 sc x=true/\fldNames.contains k=true) (o2 (fun i c=>.put i (.cst (.str k)) c) (N.idxOf? x) (cE G n sc N e))
  |.Try b (_ :: _) [] [] _=>cSs G n sc N b
  |.Assign [tg] e _=>Zko N tg e (cE G n sc N e)
  |.Expr e _=>Zkm sc N (cE G n sc N) e
  |.Return (some e) _=>(cE G n sc N e).map .ret
  |.If c a b _=>o3 .ite (cE G n sc N c) (cSs G n sc N a) (cSs G n sc N b)
  |.For tg it b [] _=>ZiY G sc N (cE G n sc N) (cEs G n sc N) tg it (cSs G n sc N b)
  |.Pass _=>some .skip
  |.Break _=>some .brk
  |.Continue _=>some .cont
  |.Raise _ _ _=>some .stop
  |_=>none
noncomputable def cSs(G:Gs):Nat->Scope->Li Str->Li Stmt->Ot CS
 |0,_,_,_=>none
 |_+1,_,_,[]=>some .skip
 |n+1,sc,N,s :: r=>o2 .seq (cS G n sc N s) (cSs G n sc N r)
end
theorem Qb{c:Nat}:∀ {p:Li Nat},c∉p->X4 c p=[p]
 |[],_=>rfl
 |x :: p,h=>by
  have hx:¬x=c:=fun z=>h (by rw[z];exact Ls)
  have ih:=Qb (fun z=>h (Lm _ z):c∉p)
  unfold X4;rw[if_neg hx,ih]
theorem J2{c:Nat}{q:Li Nat}:∀ {p:Li Nat},c∉p->X4 c (p++c :: q)=p :: X4 c q
 |[],_=>by
  show X4 c (c :: q)=_
  conv=>lhs;unfold X4
  rw[if_pos rfl]
 |x :: p,h=>by
  have hx:¬x=c:=fun z=>h (by rw[z];exact Ls)
  have ih:=J2 (q:=q) (fun z=>h (Lm _ z):c∉p)
  show X4 c (x :: (p++c :: q))=_
  conv=>lhs;unfold X4
  rw[if_neg hx,ih]
theorem Uo{c:Nat}:∀ {xs:Li Str},xs≠[]->(∀ p∈xs,c∉p.cps.toList)->X4 c (X2 ⟨#[c]⟩ xs)=xs.map fun p=>p.cps.toList
 |[],h,_=>absurd rfl h
 |[x],_,h=>by
  show X4 c (x.cps.toList++[])=_;rw[List.append_nil,Qb (h x Ls)];rfl
 |x :: y :: r,_,h=>by
  have ih:=Uo (c:=c) (xs:=y :: r) (List.cons_ne_nil _ _) (fun p hp=>h p (Lm _ hp))
  show X4 c (x.cps.toList++c :: X2 ⟨#[c]⟩ (y :: r))=_;rw[J2 (h x Ls),ih];rfl
end Dp


namespace Dp
open PySem PySem.Spec PyProof.Rows L2
class ClsTab where
 ca:Nat->Addr
variable [ClsTab]

theorem Zq{X:Cx}{e:Expr}{t t':TE}(h:PE X e t)(i:∀ σ H Q,t' σ H Q->t σ H Q):PE X e t':=fun pQ s σ H Q I q=>h pQ s σ H Q I (i σ H Q q)
theorem Wh{X:Cx}{e:Expr}{t t':TT}(h:PT X e t)(i:∀ σ H Q,t' σ H Q->t σ H Q):PT X e t':=fun pQ s σ H Q I q=>h pQ s σ H Q I (i σ H Q q)
theorem Ui{X:Cx}{e:Li Expr}{t t':TA}(h:PA X e t)(i:∀ σ H Q,t' σ H Q->t σ H Q):PA X e t':=fun pos pQ s σ H Q I q=>h pos pQ s σ H Q I (i σ H Q q)
theorem ZeP{X:Cx}{e:Ot Expr}{t t':TO}(h:PO X e t)(i:∀ σ H Q,t' σ H Q->t σ H Q):PO X e t':=fun pQ s σ H Q I q=>h pQ s σ H Q I (i σ H Q q)
theorem ZU{X:Cx}{e:Stmt}{t t':TS}(h:PS X e t)(i:∀ D σ H,t' D σ H->t D σ H):PS X e t':=fun pQ s σ H D I q=>h pQ s σ H D I (i D σ H q)
theorem ZbL{X:Cx}{e:Li Stmt}{t t':TS}(h:PSs X e t)(i:∀ D σ H,t' D σ H->t D σ H):PSs X e t':=fun pQ s σ H D I q=>h pQ s σ H D I (i D σ H q)

def KT(K:Fg)(a:Ad)(xs:Li V):Prop:=
 ∃ (o:Obj) (its:Array vL) (n:Nat),K.lookup a=some o/\o.cls=.type "tuple"/\o.data=.seq its n/\its.size<=sizeLine/\Vals xs its.toList
def TupAt(K:Fg)(H:Hp)(a:Ad)(xs:Li V):Prop:=H a=some (.tup xs)\/KT K a xs
theorem TupAt.sq{K:Fg}{H:Hp}{a:Ad}{xs:Li V}(h:TupAt K H a xs):SqT K H a xs:=by
 rcases h with h|h
 ·exact .inl (.inl h)
 ·exact .inr h
noncomputable def isM:HO->Bool
 |.dK _=>true
 |.ins _ _ _=>true
 |_=>false
def Yr(H:Hp)(a:Ad):Prop:=∃ o,H a=some o/\isM o=true
def LA(ad:Li Ad)(H:Hp)(i:Nat)(a:Ad):Prop:=ad[i]?=some a/\¬Yr H a
theorem QR{H:Hp}{a:Ad}{o:HO}(h:H a=some o)(n:isM o=false):¬Yr H a:=fun⟨o',z,m⟩=>by rw[h]at z;cases z;rw[n]at m;cases m
mutual
inductive Den(K:Fg)(ad:List Addr)(H:Hp):V->D->Prop where
 |non:Den K ad H .non .non
 |bl (b:Bool):Den K ad H (.bl b) (.bl b)
 |int (i:Int):Den K ad H (.int i) (.int i)
 |str (x:Str):Den K ad H (.str x) (.str x)
 |tup {a:Addr}{xs:List V}{ds:List D} (h:TupAt K H a xs) (r:Dens K ad H xs ds):Den K ad H (.ref a) (.tup ds)
 |lst {a:Addr}{i:Nat} (h:LA ad H i a):Den K ad H (.ref a) (.lst i)
 |dic {a:Addr}{i:Nat} (h:ad[i]?=some a) (n:Yr H a):Den K ad H (.ref a) (.dic i)
 |obj {a dx:Addr}{i:Nat} (h:H a=some (.ins (ClsTab.ca i) dx [])) (n:a∉ad):Den K ad H (.ref a) (.obj i)
 |kt {a:Addr}{ks:List Str}{o:Obj}{its:Array Value}{n:Nat} (l:K.lookup a=some o) (c:o.cls=.type "tuple") (g:o.dict=none) (e:o.data=.seq its n) (z:its.size<=sizeLine) (r:Vals (ks.map V.str) its.toList):Den K ad H (.ref a) (.kt ks)
inductive Dens(K:Fg)(ad:List Addr)(H:Hp):List V->List D->Prop where
 |nil:Dens K ad H [] []
 |cons {v:V}{d:D}{vs:List V}{ds:List D} (h:Den K ad H v d) (r:Dens K ad H vs ds):Dens K ad H (v :: vs) (d :: ds)
end

structure Ext(ad:List Addr)(H:Hp)(ad':List Addr)(H':Hp):Prop where
 pre:∀ (i:Nat) (a:Addr),ad[i]?=some a->ad'[i]?=some a
 tup:∀ b xs,H b=some (.tup xs)->H' b=some (.tup xs)
 keep:∀ b o,H b=some o->b∉ad->H' b=some o
 new:∀ b,b∈ad'->b∈ad\/H b=none
 kd:∀ (i:Nat) (a:Addr),ad[i]?=some a->(Yr H a↔Yr H' a)
theorem Ext.refl(ad:Li Ad)(H:Hp):Ext ad H ad H:=⟨fun _ _ h=>h,fun _ _ h=>h,fun _ _ h _=>h,fun _ h=>.inl h,fun _ _ _=>Iff.rfl⟩
theorem Ext.trans{a1 a2 a3:Li Ad}{H1 H2 H3:Hp}(x:Ext a1 H1 a2 H2)(y:Ext a2 H2 a3 H3):Ext a1 H1 a3 H3:=by
 refine⟨fun i a h=>y.pre i a (x.pre i a h),fun b xs h=>y.tup b xs (x.tup b xs h),fun b o h n=>?_,fun b h=>?_,fun i a h=>(x.kd i a h).trans (y.kd i a (x.pre i a h))⟩
 ·refine y.keep b o (x.keep b o h n) fun z=>?_
  rcases x.new b z with z|z
  ·exact n z
  ·rw[h]at z;cases z
 ·rcases y.new b h with z|z
  ·exact x.new b z
  ·cases e:H1 b with
   |none=>exact .inr rfl
   |some o=>
    by_cases q:b∈a1
    ·exact .inl q
    ·rw[x.keep b o e q]at z;cases z

theorem TupAt.mono{K:Fg}{ad ad':Li Ad}{H H':Hp}{a:Ad}{xs:Li V}(x:Ext ad H ad' H')(h:TupAt K H a xs):TupAt K H' a xs:=h.imp (x.tup _ _) id
theorem TupAt.upd{K:Fg}{H:Hp}{a p:Ad}{xs:Li V}{o o':HO}(hp:H p=some o)(ho:∀ xs,o≠.tup xs)(h:TupAt K H a xs):TupAt K (upd H p o') a xs:=by
 rcases h with h|h
 ·refine .inl ?_
  have n:a≠p:=fun z=>by subst z;rw[h]at hp;cases hp;exact ho _ rfl
  rw[upd_ne n];exact h
 ·exact .inr h
section
variable {K:Fg}{ad ad':Li Ad}{H H':Hp}
structure Keeps(K:Fg)(ad ad':List Addr)(H H':Hp):Prop where
 t:∀ {a xs},TupAt K H a xs->TupAt K H' a xs
 l:∀ {i:Nat}{a:Addr},ad[i]?=some a->ad'[i]?=some a/\(Yr H a↔Yr H' a)
 o:∀ {a C dx},H a=some (.ins C dx [])->a∉ad->H' a=some (.ins C dx [])/\a∉ad'
theorem Den.map(x:Keeps K ad ad' H H'){v:V}{d:D}(h:Den K ad H v d):Den K ad' H' v d:=
 Den.rec (motive_1:=fun v d _=>Den K ad' H' v d) (motive_2:=fun vs ds _=>Dens K ad' H' vs ds) .non .bl .int .str (fun h _ r=>.tup (x.t h) r) (fun h=>.lst ⟨(x.l h.1).1,fun z=>h.2 ((x.l h.1).2.mpr z)⟩) (fun h n=>.dic (x.l h).1 ((x.l h).2.mp n)) (fun h n=>.obj (x.o h n).1 (x.o h n).2) .kt .nil (fun _ _ a b=>.cons a b) h
theorem Dens.map(x:Keeps K ad ad' H H'){vs:Li V}{ds:Li D}(h:Dens K ad H vs ds):Dens K ad' H' vs ds:=
 Dens.rec (motive_1:=fun _ _ _=>True) (motive_2:=fun vs ds _=>Dens K ad' H' vs ds) trivial (fun _=>trivial) (fun _=>trivial) (fun _=>trivial) (fun _ _ _=>trivial) (fun _=>trivial) (fun _ _=>trivial) (fun _ _=>trivial) (fun _ _ _ _ _ _=>trivial) .nil (fun a _ _ b=>.cons (a.map x) b) h
theorem Ext.keeps(x:Ext ad H ad' H'):Keeps K ad ad' H H':=⟨fun h=>h.mono x,fun h=>⟨x.pre _ _ h,x.kd _ _ h⟩,fun h n=>⟨x.keep _ _ h n,fun z=>(x.new _ z).elim n fun q=>by rw[h]at q;cases q⟩⟩
theorem Den.mono(x:Ext ad H ad' H'){v:V}{d:D}(h:Den K ad H v d):Den K ad' H' v d:=h.map x.keeps
theorem Dens.mono(x:Ext ad H ad' H'){vs:Li V}{ds:Li D}(h:Dens K ad H vs ds):Dens K ad' H' vs ds:=h.map x.keeps
theorem Zi9(x:∀ (i:Nat) (a:Ad),ad[i]?=some a->ad'[i]?=some a)(y:∀ b,b∈ad'->b∈ad\/∃ xs,H b=some (.lst xs)):Keeps K ad ad' H H:=⟨id,fun h=>⟨x _ _ h,Iff.rfl⟩,fun h n=>⟨h,fun z=>(y _ z).elim n fun⟨xs,q⟩=>by rw[h]at q;cases q⟩⟩
theorem Dens.length:∀ {vs:Li V}{ds:Li D},Dens K ad H vs ds->vs.length=ds.length
 |_,_,.nil=>rfl
 |_,_,.cons _ r=>congrArg (·+1) (Dens.length r)
theorem Dens.get:∀ {vs:Li V}{ds:Li D}{i:Nat}{d:D},Dens K ad H vs ds->ds[i]?=some d->∃ v,vs[i]?=some v/\Den K ad H v d
 |_,_,_,_,.nil,e=>by simp at e
 |_,_,0,_,.cons h _,e=>by simp at e;subst e;exact⟨_,rfl,h⟩
 |_,_,i+1,d,.cons _ r,e=>by
  obtain⟨v,h1,h2⟩:=Dens.get (i:=i) (d:=d) r (by simpa using e)
  exact⟨v,by simpa using h1,h2⟩
theorem Dens.append:∀ {vs ws:Li V}{ds es:Li D},Dens K ad H vs ds->Dens K ad H ws es->Dens K ad H (vs++ws) (ds++es)
 |_,_,_,_,.nil,s=>s
 |_,_,_,_,.cons h r,s=>.cons h (Dens.append r s)
theorem Dens.take:∀ {vs:Li V}{ds:Li D} (n:Nat),Dens K ad H vs ds->Dens K ad H (vs.take n) (ds.take n)
 |_,_,0,_=>.nil
 |_,_,_+1,.nil=>.nil
 |_,_,n+1,.cons h r=>.cons h (Dens.take n r)
theorem Dens.drop:∀ {vs:Li V}{ds:Li D} (n:Nat),Dens K ad H vs ds->Dens K ad H (vs.drop n) (ds.drop n)
 |_,_,0,r=>r
 |_,_,_+1,.nil=>.nil
 |_,_,n+1,.cons _ r=>Dens.drop n r
theorem Den.ofInt{v:V}{i:Int}(h:Den K ad H v (.int i)):v=.int i:=by cases h;rfl
theorem Den.ofStr{v:V}{x:Str}(h:Den K ad H v (.str x)):v=.str x:=by cases h;rfl
theorem Den.ofBl{v:V}{b:Bool}(h:Den K ad H v (.bl b)):v=.bl b:=by cases h;rfl
theorem Den.ofNon{v:V}(h:Den K ad H v .non):v=.non:=by cases h;rfl
theorem Den.ofDct{v:V}{ks:Li Str}{ds:Li D}(h:Den K ad H v (.dct ks ds)):∃ a vs,v=.ref a/\H a=some (.dK ((ks.zip vs).map fun p=>(Sum.inr p.1,p.2)))/\ks.length=vs.length/\Dens K ad H vs ds:=by
 cases h
theorem Den.ofTup{v:V}{ds:Li D}(h:Den K ad H v (.tup ds)):∃ a xs,v=.ref a/\TupAt K H a xs/\Dens K ad H xs ds:=by
 cases h with
 |tup h r=>exact⟨_,_,rfl,h,r⟩
theorem Den.ofLst{v:V}{i:Nat}(h:Den K ad H v (.lst i)):∃ a,v=.ref a/\LA ad H i a:=by
 cases h with
 |lst h=>exact⟨_,rfl,h⟩
theorem Den.ofDic{v:V}{i:Nat}(h:Den K ad H v (.dic i)):∃ a,v=.ref a/\ad[i]?=some a/\Yr H a:=by
 cases h with
 |dic h n=>exact⟨_,rfl,h,n⟩
theorem Den.newL{a:Ad}{i:Nat}{xs:Li V}(h:ad[i]?=some a):Den K ad (upd H a (.lst xs)) (.ref a) (.lst i):=.lst ⟨h,QR upd_same rfl⟩
theorem LA.mono{i:Nat}{a:Ad}(x:Ext ad H ad' H')(h:LA ad H i a):LA ad' H' i a:=⟨x.pre _ _ h.1,fun z=>h.2 ((x.kd _ _ h.1).mpr z)⟩

theorem Den.ofKt{v:V}{ks:Li Str}(h:Den K ad H v (.kt ks)):∃ a o its n,v=.ref a/\K.lookup a=some o/\(o.cls=.type "tuple"/\o.dict=none)/\o.data=.seq its n/\its.size<=sizeLine/\Vals (ks.map V.str) its.toList:=by
 cases h with
 |kt l c g e z r=>exact⟨_,_,_,_,rfl,l,⟨c,g⟩,e,z,r⟩
theorem WX:∀ ks:Li Str,Dens K ad H (ks.map V.str) (ks.map D.str)
 |[]=>.nil
 |k :: ks=>.cons (.str k) (WX ks)

def KL(K:Fg)(a:Ad)(xs:Li V):Prop:=
 ∃ (o:Obj) (its:Array vL) (n:Nat),(K.lookup a=some o/\o.cls=.type "list")/\(o.dict=none/\o.data=.seq its n)/\its.size<=sizeLine/\Vals xs its.toList
inductive Ents(K:Fg)(ad:List Addr)(H:Hp):List (Str×V)->List D->Prop where
 |nil:Ents K ad H [] []
 |cons {k:Str}{v:V}{d:D}{kvs:List (Str×V)}{ds:List D} (h:Den K ad H v d) (r:Ents K ad H kvs ds):Ents K ad H ((k,v) :: kvs) (.tup [.str k,d] :: ds)
theorem Ents.map(x:Keeps K ad ad' H H'){kvs:Li (Str×V)}{ds:Li D}(h:Ents K ad H kvs ds):Ents K ad' H' kvs ds:=by
 induction h with
 |nil=>exact .nil
 |cons h _ ih=>exact .cons (h.map x) ih
theorem Ents.mono(x:Ext ad H ad' H'){kvs:Li (Str×V)}{ds:Li D}(h:Ents K ad H kvs ds):Ents K ad' H' kvs ds:=h.map x.keeps
theorem Ents.dict{kvs:Li (Str×V)}{ds:Li D}(h:Ents K ad H kvs ds):Wf ds=false:=by cases h<;>rfl
noncomputable abbrev YW(kvs:Li (Str×V)):Li (Key×V):=kvs.map fun p=>(Sum.inr p.1,p.2)
structure ObC(K:Fg)(C:Addr):Prop where
 cl:Cls K C
 na:∀ f,fldNames.contains f=true->NoAttr K C f
inductive CellOk(K:Fg)(ad:List Addr)(H:Hp)(a:Addr)(c:Yp):Prop where
 |l {xs:List V} (n:¬Yr H a) (r:Dens K ad H xs c.2) (h:(c.1=true/\H a=some (.lst xs))\/(c.1=false/\((∃ o,H a=some (.frz o (.lst xs)))\/KL K a xs)))
 |d {kvs:List (Str×V)} (r:Ents K ad H kvs c.2) (e:c.1=true) (h:H a=some (.dK (YW kvs)))
 |o {i:Nat}{dx:Addr}{kvs:List (Str×V)}{es:List D} (q:c.2=.int (i:Int) :: es) (r:Ents K ad H kvs es) (e:c.1=true) (h:H a=some (.ins (ClsTab.ca i) dx kvs)) (oc:ObC K (ClsTab.ca i)/\∀ k,fldNames.contains k=false->kvs.lookup k=none)
structure StOk(K:Fg)(ad:List Addr)(H:Hp)(st:Za):Prop where
 len:ad.length=st.length
 nd:∀ (i j:Nat) (a:Addr) (c d:List D),ad[i]?=some a->ad[j]?=some a->st[i]?=some (true,c)->st[j]?=some (true,d)->i=j
 cell:∀ (i:Nat) (c:Yp),st[i]?=some c->∃ a,ad[i]?=some a/\CellOk K ad H a c

theorem CellOk.sq{a:Ad}{c:Yp}(h:CellOk K ad H a c)(n:¬Yr H a):∃ xs,Dens K ad H xs c.2/\SqL K H a xs:=by
 cases h with
 |l _ r h=>
  obtain⟨_,e⟩|⟨_,⟨o,e⟩|⟨o,its,n,⟨h1,h2⟩,⟨h3,h4⟩,h5,h6⟩⟩:=h
  ·exact⟨_,r,.inl (.inl e)⟩
  ·exact⟨_,r,.inl (.inr ⟨o,e⟩)⟩
  ·exact⟨_,r,.inr ⟨o,its,n,h1,h2,h3,h4,h5,h6⟩⟩
 |d r e h=>exact absurd ⟨_,h,rfl⟩ n
 |o _ r e h _=>exact absurd ⟨_,h,rfl⟩ n
theorem StOk.list{st:Za}{a:Ad}{i:Nat}{b:Bool}{ds:Li D}(S:StOk K ad H st)(h:LA ad H i a)(e:st[i]?=some (b,ds)):∃ xs,Dens K ad H xs ds/\SqL K H a xs:=by
 obtain⟨a',e',c⟩:=S.cell i _ e;rw[h.1]at e';cases e'
 exact c.sq h.2
theorem StOk.listM{st:Za}{a:Ad}{i:Nat}{ds:Li D}(S:StOk K ad H st)(h:LA ad H i a)(e:st[i]?=some (true,ds)):∃ xs,Dens K ad H xs ds/\H a=some (.lst xs):=by
 obtain⟨a',e',c⟩:=S.cell i _ e;rw[h.1]at e';cases e'
 cases c with
 |l _ r q=>
  obtain⟨_,q⟩|⟨q,_⟩:=q
  ·exact⟨_,r,q⟩
  ·cases q
 |d r _ q=>exact absurd ⟨_,q,rfl⟩ h.2
 |o _ r _ q _=>exact absurd ⟨_,q,rfl⟩ h.2
theorem StOk.dict{st:Za}{a:Ad}{i:Nat}{b:Bool}{ds:Li D}(S:StOk K ad H st)(h:ad[i]?=some a)(n:Yr H a)(e:st[i]?=some (b,ds))(ob:Wf ds=false):∃ kvs,Ents K ad H kvs ds/\H a=some (.dK (YW kvs))/\b=true:=by
 obtain⟨a',e',c⟩:=S.cell i _ e;rw[h]at e';cases e'
 cases c with
 |l z=>exact absurd n z
 |d r e q=>exact⟨_,r,q,e⟩
 |o q _ _ _ _=>rw[show ds=_ from q]at ob;cases ob
theorem StOk.obj{st:Za}{a:Ad}{i:Nat}{b:Bool}{c:Int}{es:Li D}(S:StOk K ad H st)(h:ad[i]?=some a)(n:Yr H a)(e:st[i]?=some (b,.int c :: es)):∃ (j:Nat) (dx:Ad) (kvs:Li (Str×V)),c=(j:Int)/\Ents K ad H kvs es/\H a=some (.ins (ClsTab.ca j) dx kvs)/\b=true/\ObC K (ClsTab.ca j)/\∀ k,fldNames.contains k=false->kvs.lookup k=none:=by
 obtain⟨a',e',c⟩:=S.cell i _ e;rw[h]at e';cases e'
 cases c with
 |l z=>exact absurd n z
 |d r e q=>have:=r.dict;cases this
 |o q r e h oc=>cases q;exact⟨_,_,_,rfl,r,h,e,oc⟩
theorem Za1{p a:Ad}{o:HO}(hp:¬Yr H p)(ho:isM o=false):Yr H a↔Yr (upd H p o) a:=by
 by_cases z:a=p
 ·subst z
  exact⟨fun q=>absurd q hp,fun q=>absurd q (QR upd_same ho)⟩
 ·unfold Yr
  rw[upd_ne z]
theorem ZbC{p:Ad}(hp:H p=none):¬Yr H p:=fun⟨_,z,_⟩=>by rw[hp]at z;cases z
theorem Ext.laid{p:Ad}{o:HO}(hp:H p=none)(ho:isM o=false:=by rfl):Ext ad H ad (upd H p o):=
 ⟨fun _ _ h=>h,fun b xs h=>by rw[upd_ne (ne_of_none h hp)];exact h,fun b o h _=>by rw[upd_ne (ne_of_none h hp)];exact h,fun _ h=>.inl h,fun _ _ _=>Za1 (ZbC hp) ho⟩
theorem CellOk.laid{i:Nat}{p a:Ad}{o:HO}{c:Yp}{ad':Li Ad}(ha:ad[i]?=some a)(hp:H p=none)(x:Ext ad H ad' (upd H p o))(h:CellOk K ad H a c):CellOk K ad' (upd H p o) a c:=by
 cases h with
 |l n r h=>
  refine .l (fun z=>n ((x.kd i a ha).mpr z)) (r.mono x) ?_
  rcases h with⟨b,e⟩|⟨b,⟨o,e⟩|e⟩
  ·exact .inl ⟨b,by rw[upd_ne (ne_of_none e hp)];exact e⟩
  ·exact .inr ⟨b,.inl ⟨o,by rw[upd_ne (ne_of_none e hp)];exact e⟩⟩
  ·exact .inr ⟨b,.inr e⟩
 |d r e h=>exact .d (r.mono x) e (by rw[upd_ne (ne_of_none h hp)];exact h)
 |o q r e h oc=>exact .o q (r.mono x) e (by rw[upd_ne (ne_of_none h hp)];exact h) oc
theorem StOk.laid{st:Za}{p:Ad}{o:HO}(S:StOk K ad H st)(hp:H p=none)(ho:isM o=false:=by rfl):StOk K ad (upd H p o) st:=
 ⟨S.len,S.nd,fun i c e=>let ⟨a,h,q⟩:=S.cell i c e;⟨a,h,q.laid h hp (Ext.laid hp ho)⟩⟩
theorem Wo{α:Type}{l:Li α}{x y:α}{i:Nat}(h:(l++[x])[i]?=some y):l[i]?=some y\/(i=l.length/\y=x):=by
 by_cases hi:i < l.length
 ·rw[List.getElem?_append_left hi]at h
  exact .inl h
 ·rw[List.getElem?_append_right (by omega)]at h
  have:i - l.length=0:=by
   cases e:i - l.length with
   |zero=>rfl
   |succ k=>rw[e]at h;simp at h
  rw[this]at h;simp at h;exact .inr ⟨by omega,h.symm⟩
theorem XI{α:Type}{l:Li α}{x y:α}{i:Nat}(h:l[i]?=some y):(l++[x])[i]?=some y:=by
 rw[List.getElem?_append_left (List.getElem?_eq_some_iff.mp h).1];exact h
theorem Z3{α:Type}{l:Li α}{x:α}:(l++[x])[l.length]?=some x:=by simp
theorem Ext.pushG{p:Ad}{o:HO}(hp:H p=none)(hk:∀ (i:Nat) (a:Ad),ad[i]?=some a->(Yr H a↔Yr (upd H p o) a)):Ext ad H (ad++[p]) (upd H p o):=
 ⟨fun _ _ h=>XI h,fun b xs h=>by rw[upd_ne (ne_of_none h hp)];exact h,fun b o h _=>by rw[upd_ne (ne_of_none h hp)];exact h,fun b h=>(List.mem_append.mp h).elim .inl fun z=>.inr (by rw[List.mem_singleton.mp z];exact hp),hk⟩
theorem Ext.push{p:Ad}{xs:Li V}(hp:H p=none):Ext ad H (ad++[p]) (upd H p (.lst xs)):=Ext.pushG hp fun _ _ _=>Za1 (ZbC hp) rfl
theorem StOk.more{st:Za}{p:Ad}{H':Hp}{ds:Li D}(S:StOk K ad H st)(hn:∀ (i:Nat) (c:Li D),ad[i]?=some p->st[i]?=some (true,c)->False)(hc:∀ (i:Nat) (c:Yp) (a:Ad),ad[i]?=some a->CellOk K ad H a c->CellOk K (ad++[p]) H' a c)(hp:CellOk K (ad++[p]) H' p (true,ds)):StOk K (ad++[p]) H' (st++[(true,ds)]):=by
 have old:∀ (i:Nat) (c:Li D) (a:Ad),(ad++[p])[i]?=some a->st[i]?=some (true,c)->ad[i]?=some a:=fun i c a h e=>by
  obtain⟨a1,q1,_⟩:=S.cell i _ e;have z1:=XI (x:=p) q1;rw[h]at z1;cases z1;exact q1
 refine⟨by rw[List.length_append,List.length_append,S.len];rfl,fun i j a c d h1 h2 h3 h4=>?_,fun i c e=>?_⟩
 ·rcases Wo h3 with h3|⟨e3,_⟩
  ·rcases Wo h4 with h4|⟨e4,_⟩
   ·exact S.nd i j a c d (old i c a h1 h3) (old j d a h2 h4) h3 h4
   ·have q1:=old i c a h1 h3
    rw[e4,<-S.len,Z3]at h2;cases h2;exact(hn i c q1 h3).elim
  ·rcases Wo h4 with h4|⟨e4,_⟩
   ·have q2:=old j d a h2 h4
    rw[e3,<-S.len,Z3]at h1;cases h1;exact(hn j d q2 h4).elim
   ·omega
 ·rcases Wo e with e|⟨e1,e2⟩
  ·obtain⟨a,h,q⟩:=S.cell i c e
   exact⟨a,XI h,hc i c a h q⟩
  ·subst e2
   exact⟨p,by rw[e1,<-S.len];exact Z3,hp⟩
theorem StOk.noNew{st:Za}{p:Ad}(S:StOk K ad H st)(hp:H p=none)(i:Nat)(c:Li D)(h:ad[i]?=some p)(e:st[i]?=some (true,c)):False:=by
 obtain⟨a',e',q⟩:=S.cell i _ e;rw[h]at e';cases e'
 cases q with
 |l _ _ q=>
  obtain⟨_,q⟩|⟨q,_⟩:=q
  ·rw[hp]at q;cases q
  ·cases q
 |d _ _ q=>rw[hp]at q;cases q
 |o _ _ _ q _=>rw[hp]at q;cases q
theorem StOk.push{st:Za}{p:Ad}{xs:Li V}{ds:Li D}(S:StOk K ad H st)(hp:H p=none)(r:Dens K ad H xs ds):StOk K (ad++[p]) (upd H p (.lst xs)) (st++[(true,ds)]):=
 S.more (S.noNew hp) (fun _ _ _ h q=>q.laid h hp (Ext.push hp)) (.l (QR upd_same rfl) (r.mono (Ext.push hp)) (.inl ⟨rfl,upd_same⟩))
theorem StOk.wrG{st:Za}{p:Ad}{o:HO}(S:StOk K ad H st)(kp:Keeps K ad ad H (upd H p o))(hn:p∉ad):StOk K ad (upd H p o) st:=
 ⟨S.len,S.nd,fun i c e=>by
  obtain⟨a,h,q⟩:=S.cell i c e;have ne:a≠p:=fun z=>hn (by rw[<-z];exact List.mem_of_getElem? h)
  refine⟨a,h,?_⟩;cases q with
  |l n r q=>
   refine .l (fun z=>n ((kp.l h).2.mpr z)) (r.map kp) ?_
   rcases q with⟨b,q⟩|⟨b,⟨o,q⟩|q⟩
   ·exact .inl ⟨b,by rw[upd_ne ne];exact q⟩
   ·exact .inr ⟨b,.inl ⟨o,by rw[upd_ne ne];exact q⟩⟩
   ·exact .inr ⟨b,.inr q⟩
  |d r t q=>exact .d (r.map kp) t (by rw[upd_ne ne];exact q)
  |o z r t q oc=>exact .o z (r.map kp) t (by rw[upd_ne ne];exact q) oc⟩
theorem StOk.has{st:Za}{i:Nat}{a:Ad}(S:StOk K ad H st)(hi:ad[i]?=some a):(∃ o,H a=some o)\/∃ o,K.lookup a=some o:=by
 obtain⟨a',e',q⟩:=S.cell i _ (Lg (show i < st.length by rw[<-S.len];exact(List.getElem?_eq_some_iff.mp hi).1))
 rw[hi]at e';cases e'
 cases q with
 |l _ _ q=>
  obtain⟨_,q⟩|⟨_,⟨o,q⟩|⟨o,its,m,⟨h1,h2⟩,_⟩⟩:=q
  ·exact .inl ⟨_,q⟩
  ·exact .inl ⟨_,q⟩
  ·exact .inr ⟨_,h1⟩
 |d _ _ q=>exact .inl ⟨_,q⟩
 |o _ _ _ q _=>exact .inl ⟨_,q⟩
theorem StOk.extD{st:Za}{p:Ad}{o:HO}(S:StOk K ad H st)(hp:H p=none)(hk:∀ o,K.lookup p≠some o):Ext ad H (ad++[p]) (upd H p o):=
 Ext.pushG hp fun i a h=>by
  have n:a≠p:=fun z=>(S.has h).elim (fun⟨o,q⟩=>by rw[z,hp]at q;cases q) fun⟨o,q⟩=>hk o (z ▸ q)
  unfold Yr;rw[upd_ne n]
theorem StOk.pushD{st:Za}{p:Ad}(S:StOk K ad H st)(hp:H p=none)(hk:∀ o,K.lookup p≠some o):StOk K (ad++[p]) (upd H p (.dK [])) (st++[(true,[])]):=
 S.more (S.noNew hp) (fun _ _ _ h q=>q.laid h hp (S.extD hp hk)) (.d .nil rfl upd_same)
theorem StOk.pushO{st:Za}{p dx:Ad}{i:Nat}(S:StOk K ad H st)(hp:H p=none)(hk:∀ o,K.lookup p≠some o)(oc:ObC K (ClsTab.ca i)):StOk K (ad++[p]) (upd H p (.ins (ClsTab.ca i) dx [])) (st++[(true,[.int (i:Int)])]):=
 S.more (S.noNew hp) (fun _ _ _ h q=>q.laid h hp (S.extD hp hk)) (.o rfl .nil rfl upd_same ⟨oc,fun _ _=>rfl⟩)
theorem StOk.adopt{st:Za}{p:Ad}{xs:Li V}{ds:Li D}(S:StOk K ad H st)(hp:H p=some (.lst xs))(hn:p∉ad)(r:Dens K ad H xs ds):StOk K (ad++[p]) H (st++[(true,ds)]):=by
 have kp:Keeps K ad (ad++[p]) H H:=Zi9 (fun _ _ h=>XI h) (fun b hb=>(List.mem_append.mp hb).imp id fun z=>⟨xs,by rw[List.mem_singleton.mp z];exact hp⟩)
 exact S.more (fun i _ h _=>hn (List.mem_of_getElem? h)) (fun _ _ _ _ q=>by
  cases q with
  |l n r h=>exact .l n (r.map kp) h
  |d r e h=>exact .d (r.map kp) e h
  |o q r e h oc=>exact .o q (r.map kp) e h oc) (.l (QR hp rfl) (r.map kp) (.inl ⟨rfl,hp⟩))
theorem Ext.writeG{a:Ad}{o o':HO}(h:H a=some o)(ha:a∈ad)(h1:∀ xs,o≠.tup xs)(hk:Yr H a↔Yr (upd H a o') a):Ext ad H ad (upd H a o'):=
 ⟨fun _ _ h=>h,fun b zs e=>by rw[upd_ne (ne_of e h (fun z=>h1 _ z.symm))];exact e,fun b o e n=>by rw[upd_ne (show b≠a from fun z=>n (by rw[z];exact ha))];exact e,fun _ h=>.inl h,fun _ b _=>by
  by_cases z:b=a
  ·rw[z];exact hk
  ·unfold Yr;rw[upd_ne z]⟩
theorem Ext.write{a:Ad}{xs ys:Li V}(h:H a=some (.lst xs))(ha:a∈ad):Ext ad H ad (upd H a (.lst ys)):=
 Ext.writeG h ha (fun _ z=>nomatch z) ⟨fun z=>absurd z (QR h rfl),fun z=>absurd z (QR upd_same rfl)⟩
theorem StOk.writeG{st:Za}{a:Ad}{i:Nat}{ds es:Li D}{o o':HO}(S:StOk K ad H st)(h:ad[i]?=some a)(e:st[i]?=some (true,ds))(hx:H a=some o)(hf:∀ q u,o≠.frz q u)(x:Ext ad H ad (upd H a o'))(r:CellOk K ad (upd H a o') a (true,es)) :
  StOk K ad (upd H a o') (st.set i (true,es)):=by
 have hi:i < st.length:=(List.getElem?_eq_some_iff.mp e).1;refine⟨by rw[List.length_set];exact S.len,fun j k b c d h1 h2 h3 h4=>?_,fun j c q=>?_⟩
 ·have up:∀ (j:Nat) (c:Li D),(st.set i (true,es))[j]?=some (true,c)->∃ c',st[j]?=some (true,c'):=fun j c q=>by
   by_cases z:i=j
   ·subst z;exact⟨_,e⟩
   ·rw[List.getElem?_set_ne z]at q;exact⟨_,q⟩
  obtain⟨c',h3⟩:=up j c h3;obtain⟨d',h4⟩:=up k d h4;exact S.nd j k b c' d' h1 h2 h3 h4
 ·by_cases z:i=j
  ·subst z
   rw[List.getElem?_set_self hi]at q;cases q;exact⟨a,h,r⟩
  ·rw[List.getElem?_set_ne z]at q
   obtain⟨b,hb,hz⟩:=S.cell j c q;refine⟨b,hb,?_⟩;have ne:c.1=true->b≠a:=fun t w=>by
    obtain⟨cb,cl⟩:=c;cases (show cb=true from t)
    exact z (S.nd i j a ds cl h (w ▸ hb) e q)
   cases hz with
   |l n rz hz=>
    refine .l (fun z=>n ((x.kd j b hb).mpr z)) (rz.mono x) ?_
    rcases hz with⟨t,hz⟩|⟨t,⟨o,hz⟩|hz⟩
    ·exact .inl ⟨t,by rw[upd_ne (ne t)];exact hz⟩
    ·exact .inr ⟨t,.inl ⟨o,by rw[upd_ne (ne_of hz hx (fun z=>hf _ _ z.symm))];exact hz⟩⟩
    ·exact .inr ⟨t,.inr hz⟩
   |d rz t hz=>exact .d (rz.mono x) t (by rw[upd_ne (ne t)];exact hz)
   |o z rz t hz oc=>exact .o z (rz.mono x) t (by rw[upd_ne (ne t)];exact hz) oc
theorem StOk.write{st:Za}{a:Ad}{i:Nat}{ds es:Li D}{xs ys:Li V}(S:StOk K ad H st)(h:LA ad H i a)(e:st[i]?=some (true,ds))(hx:H a=some (.lst xs))(r:Dens K ad H ys es) :
  StOk K ad (upd H a (.lst ys)) (st.set i (true,es)):=
 S.writeG h.1 e hx (fun _ _ z=>nomatch z) (Ext.write hx (List.mem_of_getElem? h.1)) (.l (QR upd_same rfl) (r.mono (Ext.write hx (List.mem_of_getElem? h.1))) (.inl ⟨rfl,upd_same⟩))
theorem Ext.writeM{a:Ad}{o o':HO}(h:H a=some o)(m:isM o=true)(m':isM o'=true)(ha:a∈ad):Ext ad H ad (upd H a o'):=
 Ext.writeG h ha (fun _ z=>by rw[z]at m;cases m) ⟨fun _=>⟨_,upd_same,m'⟩,fun _=>⟨_,h,m⟩⟩
theorem StOk.writeD{st:Za}{a:Ad}{i:Nat}{ds es:Li D}{kvs kvs':Li (Str×V)}(S:StOk K ad H st)(h:ad[i]?=some a)(e:st[i]?=some (true,ds))(hx:H a=some (.dK (YW kvs)))(r:Ents K ad H kvs' es) :
  StOk K ad (upd H a (.dK (YW kvs'))) (st.set i (true,es)):=
 S.writeG h e hx (fun _ _ z=>nomatch z) (Ext.writeM hx rfl rfl (List.mem_of_getElem? h)) (.d (r.mono (Ext.writeM hx rfl rfl (List.mem_of_getElem? h))) rfl upd_same)
theorem StOk.writeO{st:Za}{a dx:Ad}{i j:Nat}{ds es:Li D}{kvs kvs':Li (Str×V)}(S:StOk K ad H st)(h:ad[i]?=some a)(e:st[i]?=some (true,ds))(hx:H a=some (.ins (ClsTab.ca j) dx kvs))(oc:ObC K (ClsTab.ca j))(r:Ents K ad H kvs' es)(nf:∀ k,fldNames.contains k=false->kvs'.lookup k=none) :
  StOk K ad (upd H a (.ins (ClsTab.ca j) dx kvs')) (st.set i (true,.int (j:Int) :: es)):=
 S.writeG h e hx (fun _ _ z=>nomatch z) (Ext.writeM hx rfl rfl (List.mem_of_getElem? h)) (.o rfl (r.mono (Ext.writeM hx rfl rfl (List.mem_of_getElem? h))) rfl upd_same ⟨oc,nf⟩)

structure EnvOk(K:Fg)(ad:List Addr)(H:Hp)(σ:L2.St)(ρ:Env):Prop where
 len:σ.length=ρ.length
 at_:∀ (i:Nat) (d:D),ρ[i]?=some (some d)->∃ v,σ[i]?=some (some v)/\Den K ad H v d
theorem EnvOk.mono{σ:L2.St}{ρ:Env}(x:Ext ad H ad' H')(h:EnvOk K ad H σ ρ):EnvOk K ad' H' σ ρ:=⟨h.len,fun i d e=>let ⟨v,e1,e2⟩:=h.at_ i d e;⟨v,e1,e2.mono x⟩⟩
theorem EnvOk.set{σ:L2.St}{ρ:Env}{v:V}{d:D}(h:EnvOk K ad H σ ρ)(i:Nat)(r:Den K ad H v d):EnvOk K ad H (σ.set i (some v)) (Zy ρ i d):=by
 refine⟨by unfold Zy;rw[List.length_set,List.length_set];exact h.len,fun j e q=>?_⟩
 unfold Zy at q;by_cases z:i=j
 ·subst z
  by_cases hi:i < ρ.length
  ·rw[List.getElem?_set_self hi]at q
   cases q;exact⟨v,by rw[List.getElem?_set_self (by rw[h.len];exact hi)],r⟩
  ·rw[List.getElem?_eq_none (by rw[List.length_set];omega)]at q
   cases q
 ·rw[List.getElem?_set_ne z]at q
  obtain⟨w,e1,e2⟩:=h.at_ j e q;exact⟨w,by rw[List.getElem?_set_ne z];exact e1,e2⟩
end

def Post(K:Fg)(ad:Li Ad)(H:Hp)(d:D)(st':Za)(Q:VK):Prop:=∀ v ad' H',Ext ad H ad' H'->StOk K ad' H' st'->Den K ad' H' v d->Q v H'
noncomputable def tE(K:Fg)(f:Env->Za->Res):TE:=fun σ H Q=>∃ ad ρ st d st',EnvOk K ad H σ ρ/\StOk K ad H st/\f ρ st=some (d,st')/\Post K ad H d st' Q
noncomputable def tT(K:Fg)(f:Env->Za->Res):TT:=fun σ H Q=>∃ ad ρ st k st',EnvOk K ad H σ ρ/\StOk K ad H st/\f ρ st=some (.bl k,st')/\∀ ad' H',Ext ad H ad' H'->StOk K ad' H' st'->Q k H'
noncomputable def tA(K:Fg)(f:Env->Za->Res):TA:=fun σ H Q=>∃ ad ρ st ds st',EnvOk K ad H σ ρ/\StOk K ad H st/\f ρ st=some (.tup ds,st')/\∀ vs ad' H',Ext ad H ad' H'->StOk K ad' H' st'->Dens K ad' H' vs ds->Q vs H'
noncomputable def rD(K:Fg)(f:D->D->Za->Res):R2:=fun x y H Q=>∃ ad st dx dy d st',StOk K ad H st/\Den K ad H x dx/\Den K ad H y dy/\f dx dy st=some (d,st')/\Post K ad H d st' Q
noncomputable def spD(K:Fg)(g:Fn):Sp:=fun vs H Q _=>∃ ad ds st d st',StOk K ad H st/\Dens K ad H vs ds/\g ds st=some (d,st')/\Post K ad H d st' Q
noncomputable def tS(K:Fg)(f:Env->Za->Ot (Fl×Za)):TS:=fun D σ H=>∃ ad ρ st r st',EnvOk K ad H σ ρ/\StOk K ad H st/\f ρ st=some (r,st') /\
 match r with
 |.nx ρ'=>∀ σ' ad' H',Ext ad H ad' H'->StOk K ad' H' st'->EnvOk K ad' H' σ' ρ'->D.nx σ' H'
 |.bk ρ'=>∀ σ' ad' H',Ext ad H ad' H'->StOk K ad' H' st'->EnvOk K ad' H' σ' ρ'->D.bk σ' H'
 |.ct ρ'=>∀ σ' ad' H',Ext ad H ad' H'->StOk K ad' H' st'->EnvOk K ad' H' σ' ρ'->D.ct σ' H'
 |.rt d=>Post K ad H d st' D.rt
theorem Post.at{K:Fg}{ad:Li Ad}{H:Hp}{d:D}{st:Za}{Q:VK}(p:Post K ad H d st Q)(S:StOk K ad H st){v:V}(h:Den K ad H v d):Q v H:=p v ad H (Ext.refl _ _) S h
theorem Post.later{K:Fg}{ad ad':Li Ad}{H H':Hp}{d:D}{st:Za}{Q:VK}(p:Post K ad H d st Q)(x:Ext ad H ad' H'):Post K ad' H' d st Q:=fun v a2 H2 y S h=>p v a2 H2 (x.trans y) S h
end Dp



namespace Dp
open PySem PySem.Spec PyProof.Rows L2
variable [ClsTab]
section
variable {X:Cx}{a b c:Expr}{fa fb fc:Ev}{pos:Pos}

theorem Zgx{K:Fg}{i:Nat}(σ:L2.St)(H:Hp)(Q:VK)(h:tE K (YL i) σ H Q):tVar i σ H Q:=by
 obtain⟨ad,ρ,st,d,st',E,S,e,p⟩:=h;unfold YL at e;split at e
 ·rename_i q
  obtain⟨v,e1,e2⟩:=E.at_ i _ q;cases e;exact⟨v,e1,p.at S e2⟩
 ·exact Zb e
theorem Jy{K:Fg}{v:V}{d:D}(hd:∀ ad H,Den K ad H v d)(σ:L2.St)(H:Hp)(Q:VK)(h:tE K (evC d) σ H Q):tC v σ H Q:=by
 obtain⟨ad,ρ,st,d',st',E,S,e,p⟩:=h;cases e;exact p.at S (hd _ _)
theorem QA{K:Fg}{g:D->D->Za->Res}(σ:L2.St)(H:Hp)(Q:VK)(h:tE K (ZS fa fb g) σ H Q):tOp (rD K g) (tE K fa) (tE K fb) σ H Q:=by
 obtain⟨ad,ρ,st,d,st',E,S,e,p⟩:=h;unfold ZS at e;split at e
 ·rename_i x st1 q1
  split at e
  ·rename_i y st2 q2
   refine⟨ad,ρ,st,x,st1,E,S,q1,fun v1 ad1 H1 x1 S1 d1=>⟨ad1,ρ,st1,y,st2,E.mono x1,S1,q2,fun v2 ad2 H2 x2 S2 d2=>?_⟩⟩
   exact⟨ad2,st2,x,y,d,st',S2,d1.mono x2,d2,e,p.later (x1.trans x2)⟩
  ·exact Zb e
 ·exact Zb e
def rU1(K:Fg)(g:D->Za->Res):V->Hp->VK->Prop:=fun x H Q=>∃ ad st dx d st',StOk K ad H st/\Den K ad H x dx/\g dx st=some (d,st')/\Post K ad H d st' Q
theorem Zi1{K:Fg}{g:D->Za->Res}(σ:L2.St)(H:Hp)(Q:VK)(h:tE K (ZF fa g) σ H Q):tUn (rU1 K g) (tE K fa) σ H Q:=by
 obtain⟨ad,ρ,st,d,st',E,S,e,p⟩:=h;unfold ZF at e;split at e
 ·rename_i x st1 q1
  exact⟨ad,ρ,st,x,st1,E,S,q1,fun v1 ad1 H1 x1 S1 d1=>⟨ad1,st1,x,d,st',S1,d1,e,p.later x1⟩⟩
 ·exact Zb e
theorem QC{K:Fg}(σ:L2.St)(H:Hp)(Q:Bool->Hp->Prop)(h:tT K fa σ H Q):tE K fa σ H fun x H1=>∃ c,x=.bl c/\Q c H1:=by
 obtain⟨ad,ρ,st,k,st',E,S,e,p⟩:=h;exact⟨ad,ρ,st,.bl k,st',E,S,e,fun v ad' H' x S' d'=>⟨k,d'.ofBl,p ad' H' x S'⟩⟩
theorem Z9{fc ft ff:Ev}{ρ:Env}{st:Za}{r:D×Za}(h:Yw fc ft ff ρ st=some r):∃ k st1,fc ρ st=some (.bl k,st1)/\(if k=true then ft ρ st1 else ff ρ st1)=some r:=by
 unfold Yw at h;split at h
 ·rename_i st1 q
  exact⟨true,st1,q,by rw[if_pos rfl];exact h⟩
 ·rename_i st1 q
  exact⟨false,st1,q,by rw[if_neg Bf];exact h⟩
 ·exact Zb h
theorem Zi0{K:Fg}(σ:L2.St)(H:Hp)(Q:VK)(h:tE K (Yw fc fa fb) σ H Q):tIf (tT K fc) (tE K fa) (tE K fb) σ H Q:=by
 obtain⟨ad,ρ,st,d,st',E,S,e,p⟩:=h;obtain⟨k,st1,q,e⟩:=Z9 e;refine⟨ad,ρ,st,k,st1,E,S,q,fun ad1 H1 x1 S1=>?_⟩
 cases k with
 |true=>
  rw[if_pos rfl]at e ⊢;exact⟨ad1,ρ,st1,d,st',E.mono x1,S1,e,p.later x1⟩
 |false=>
  rw[if_neg Bf]at e ⊢;exact⟨ad1,ρ,st1,d,st',E.mono x1,S1,e,p.later x1⟩
theorem ZdW{K:Fg}(σ:L2.St)(H:Hp)(Q:VK)(h:tE K (Yw fa fb (evC (.bl false))) σ H Q):tAndV (tE K fa) (tE K fb) σ H Q:=by
 obtain⟨ad,ρ,st,d,st',E,S,e,p⟩:=h;obtain⟨k,st1,q,e⟩:=Z9 e;refine⟨ad,ρ,st,.bl k,st1,E,S,q,fun v1 ad1 H1 x1 S1 d1=>⟨k,d1.ofBl,?_⟩⟩
 cases k with
 |true=>
  rw[if_pos rfl]at e ⊢;exact⟨ad1,ρ,st1,d,st',E.mono x1,S1,e,p.later x1⟩
 |false=>
  rw[if_neg Bf]at e ⊢;cases e;exact(p.later x1).at S1 (.bl false)
theorem Zgs{K:Fg}(σ:L2.St)(H:Hp)(Q:VK)(h:tE K (Yw fa (evC (.bl true)) fb) σ H Q):tOrV (tE K fa) (tE K fb) σ H Q:=by
 obtain⟨ad,ρ,st,d,st',E,S,e,p⟩:=h;obtain⟨k,st1,q,e⟩:=Z9 e;refine⟨ad,ρ,st,.bl k,st1,E,S,q,fun v1 ad1 H1 x1 S1 d1=>⟨k,d1.ofBl,?_⟩⟩
 cases k with
 |true=>
  rw[if_pos rfl]at e ⊢;cases e;exact(p.later x1).at S1 (.bl true)
 |false=>
  rw[if_neg Bf]at e ⊢;exact⟨ad1,ρ,st1,d,st',E.mono x1,S1,e,p.later x1⟩
theorem ZdV{K:Fg}(σ:L2.St)(H:Hp)(Q:Bool->Hp->Prop)(h:tT K (Yw fa fb (evC (.bl false))) σ H Q):tAnd (tT K fa) (tT K fb) σ H Q:=by
 obtain⟨ad,ρ,st,d,st',E,S,e,p⟩:=h;obtain⟨k,st1,q,e⟩:=Z9 e;refine⟨ad,ρ,st,k,st1,E,S,q,fun ad1 H1 x1 S1=>?_⟩
 cases k with
 |true=>
  rw[if_pos rfl]at e ⊢;exact⟨ad1,ρ,st1,d,st',E.mono x1,S1,e,fun ad2 H2 x2 S2=>p ad2 H2 (x1.trans x2) S2⟩
 |false=>
  rw[if_neg Bf]at e ⊢;cases e;exact p ad1 H1 x1 S1
theorem Zgr{K:Fg}(σ:L2.St)(H:Hp)(Q:Bool->Hp->Prop)(h:tT K (Yw fa (evC (.bl true)) fb) σ H Q):tOr (tT K fa) (tT K fb) σ H Q:=by
 obtain⟨ad,ρ,st,d,st',E,S,e,p⟩:=h;obtain⟨k,st1,q,e⟩:=Z9 e;refine⟨ad,ρ,st,k,st1,E,S,q,fun ad1 H1 x1 S1=>?_⟩
 cases k with
 |true=>
  rw[if_pos rfl]at e ⊢;cases e;exact p ad1 H1 x1 S1
 |false=>
  rw[if_neg Bf]at e ⊢;exact⟨ad1,ρ,st1,d,st',E.mono x1,S1,e,fun ad2 H2 x2 S2=>p ad2 H2 (x1.trans x2) S2⟩
theorem Zd9{K:Fg}(σ:L2.St)(H:Hp)(Q:Bool->Hp->Prop)(h:tT K (ZF fa ZaE) σ H Q):tNot (tT K fa) σ H Q:=by
 obtain⟨ad,ρ,st,d,st',E,S,e,p⟩:=h;unfold ZF at e;split at e
 ·rename_i x st1 q1
  cases x with
  |bl k=>
   cases (show some (D.bl (!k),st1)=_ from e)
   exact⟨ad,ρ,st,k,_,E,S,q1,fun ad1 H1 x1 S1=>p ad1 H1 x1 S1⟩
  |_=>simp[ZaE]at e
 ·exact Zb e
theorem Zea{K:Fg}(σ:L2.St)(H:Hp)(Q:VK)(h:tE K (ZF fa ZaE) σ H Q):tNotV (tE K fa) σ H Q:=by
 obtain⟨ad,ρ,st,d,st',E,S,e,p⟩:=h;unfold ZF at e;split at e
 ·rename_i x st1 q1
  cases x with
  |bl k=>
   cases (show some (D.bl (!k),st1)=_ from e)
   exact⟨ad,ρ,st,.bl k,_,E,S,q1,fun v1 ad1 H1 x1 S1 d1=>⟨k,d1.ofBl,(p.later x1).at S1 (.bl _)⟩⟩
  |_=>simp[ZaE]at e
 ·exact Zb e
theorem VW{K:Fg}(σ:L2.St)(H:Hp)(Q:Li V->Hp->Prop)(h:tA K (evC (.tup [])) σ H Q):tNil σ H Q:=by
 obtain⟨ad,ρ,st,d,st',E,S,e,p⟩:=h;cases e;exact p [] ad H (Ext.refl _ _) S .nil
theorem WL{K:Fg}(σ:L2.St)(H:Hp)(Q:Li V->Hp->Prop)(h:tA K (ZS fa fb Wl) σ H Q):tCons (tE K fa) (tA K fb) σ H Q:=by
 obtain⟨ad,ρ,st,d,st',E,S,e,p⟩:=h;unfold ZS at e;split at e
 ·rename_i x st1 q1
  split at e
  ·rename_i y st2 q2
   cases y with
   |tup zs=>
    have e:(if zs.length < 1000 then some (D.tup (x :: zs),st2) else none)=some (D.tup d,st'):=e
    split at e
    ·cases e
     refine⟨ad,ρ,st,_,st1,E,S,q1,fun v1 ad1 H1 x1 S1 d1=>⟨ad1,ρ,st1,zs,_,E.mono x1,S1,q2,fun v2 ad2 H2 x2 S2 d2=>?_⟩⟩
     exact p _ ad2 H2 (x1.trans x2) S2 (.cons (d1.mono x2) d2)
    ·cases e
   |_=>simp[Wl]at e
  ·cases e
 ·cases e
theorem Zgw{K:Fg}(hb:∀ ρ st ds st',fa ρ st=some (.tup ds,st')->ds.length<=1000)(ht:∀ ρ st d st',fa ρ st=some (d,st')->∃ ds,d=.tup ds)(σ:L2.St)(H:Hp)(Q:VK)(h:tE K fa σ H Q):tTup (tA K fa) σ H Q:=by
 obtain⟨ad,ρ,st,d,st',E,S,e,p⟩:=h;obtain⟨ds,rfl⟩:=ht _ _ _ _ e;refine⟨ad,ρ,st,ds,st',E,S,e,fun vs ad1 H1 x1 S1 d1=>⟨?_,fun q hq=>?_⟩⟩
 ·rw[d1.length]
  exact Nat.le_trans (hb _ _ _ _ e) (by decide)
 ·exact p _ ad1 _ (x1.trans (Ext.laid hq)) (S1.laid hq) (.tup (.inl upd_same) (d1.mono (Ext.laid hq)))
theorem Zgp{K:Fg}(hb:∀ ρ st ds st',fa ρ st=some (.tup ds,st')->ds.length<=1000)(σ:L2.St)(H:Hp)(Q:VK)(h:tE K (ZF fa ZcK) σ H Q):tLst (tA K fa) σ H Q:=by
 obtain⟨ad,ρ,st,d,st',E,S,e,p⟩:=h;unfold ZF at e;split at e
 ·rename_i x st1 q1
  cases x with
  |tup ds=>
   cases (show some (D.lst st1.length,st1++[(true,ds)])=_ from e)
   refine⟨ad,ρ,st,ds,_,E,S,q1,fun vs ad1 H1 x1 S1 d1=>⟨?_,fun q hq=>?_⟩⟩
   ·rw[d1.length]
    exact Nat.le_trans (hb _ _ _ _ q1) (by decide)
   ·refine p _ (ad1++[q]) _ (x1.trans (Ext.push hq)) (S1.push hq d1) (.newL ?_)
    rw[<-S1.len];exact Z3
  |_=>simp[ZcK]at e
 ·exact Zb e
theorem Jz{K:Fg}{g:Fn}{ds:Li D}{dvs:Li V}{E:XK}(hd:∀ ad H,Dens K ad H dvs ds)(σ:L2.St)(H:Hp)(Q:VK)(h:tE K (ZF fa (UN g ds)) σ H Q):tCall (spD K g) dvs E (tA K fa) σ H Q:=by
 obtain⟨ad,ρ,st,d,st',E,S,e,p⟩:=h;unfold ZF at e;split at e
 ·rename_i x st1 q1
  cases x with
  |tup xs=>exact⟨ad,ρ,st,xs,_,E,S,q1,fun vs ad1 H1 x1 S1 d1=>⟨ad1,xs++ds,_,d,st',S1,d1.append (hd _ _),e,p.later x1⟩⟩
  |_=>simp[UN]at e
 ·exact Zb e
def rC(K:Fg)(g:Li D->Za->Res):Li V->Hp->VK->Prop:=fun vs H Q=>∃ ad st ds d st',StOk K ad H st/\Dens K ad H vs ds/\g ds st=some (d,st')/\Post K ad H d st' Q
noncomputable def on1(g:D->Za->Res):Li D->Za->Res
 |[x],st=>g x st
 |_,_=>none
noncomputable def on2(g:D->D->Za->Res):Li D->Za->Res
 |[x,y],st=>g x y st
 |_,_=>none
theorem Xz{K:Fg}{g:D->Za->Res}(σ:L2.St)(H:Hp)(Q:VK)(h:tE K (ZF fa g) σ H Q):tCB (rC K (on1 g)) (tCons (tE K fa) tNil) σ H Q:=by
 obtain⟨ad,ρ,st,d,st',E,S,e,p⟩:=h;unfold ZF at e;split at e
 ·rename_i x st1 q1
  exact⟨ad,ρ,st,x,st1,E,S,q1,fun v1 ad1 H1 x1 S1 d1=>⟨ad1,st1,[x],d,st',S1,.cons d1 .nil,e,p.later x1⟩⟩
 ·exact Zb e
theorem Jx{K:Fg}{g:D->D->Za->Res}(σ:L2.St)(H:Hp)(Q:VK)(h:tE K (ZS fa fb g) σ H Q):tCB (rC K (on2 g)) (tCons (tE K fa) (tCons (tE K fb) tNil)) σ H Q:=by
 obtain⟨ad,ρ,st,d,st',E,S,e,p⟩:=h;unfold ZS at e;split at e
 ·rename_i x st1 q1
  split at e
  ·rename_i y st2 q2
   refine⟨ad,ρ,st,x,st1,E,S,q1,fun v1 ad1 H1 x1 S1 d1=>⟨ad1,ρ,st1,y,st2,E.mono x1,S1,q2,fun v2 ad2 H2 x2 S2 d2=>?_⟩⟩
   exact⟨ad2,st2,[x,y],d,st',S2,.cons (d1.mono x2) (.cons d2 .nil),e,p.later (x1.trans x2)⟩
  ·exact Zb e
 ·exact Zb e
noncomputable def tO(K:Fg)(f:Ev):TO:=fun σ H Q=>∃ ad ρ st d st',EnvOk K ad H σ ρ/\StOk K ad H st/\f ρ st=some (d,st') /\
 ((d=.non/\∀ ad' H',Ext ad H ad' H'->StOk K ad' H' st'->Q none H')\/∃ i,d=.int i/\∀ ad' H',Ext ad H ad' H'->StOk K ad' H' st'->Q (some i) H')
def rSl(K:Fg):V->Ot Int->Ot Int->Hp->VK->Prop:=fun x lo hi H Q=>∃ ad st dx d st',StOk K ad H st/\Den K ad H x dx/\Yn dx lo hi st=some (d,st')/\Post K ad H d st' Q
noncomputable def part:D->Ot (Ot Int)
 |.non=>some none
 |.int i=>some (some i)
 |_=>none
theorem Q4{x l h:D}{st:Za}{r:D×Za}(e:Wi x l h st=some r):∃ lo hi,part l=some lo/\part h=some hi/\Yn x lo hi st=some r:=by
 unfold Wi at e;split at e
 ·exact⟨_,_,rfl,rfl,e⟩
 ·exact⟨_,_,rfl,rfl,e⟩
 ·exact⟨_,_,rfl,rfl,e⟩
 ·exact⟨_,_,rfl,rfl,e⟩
 ·exact Zb e
theorem Zie{K:Fg}{f:Ev}{σ:L2.St}{H:Hp}{Q:Ot Int->Hp->Prop}{ad:Li Ad}{ρ:Env}{st st':Za}{d:D}{o:Ot Int}(E:EnvOk K ad H σ ρ)(S:StOk K ad H st)(e:f ρ st=some (d,st'))(po:part d=some o)(q:∀ ad' H',Ext ad H ad' H'->StOk K ad' H' st'->Q o H'):tO K f σ H Q:=by
 refine⟨ad,ρ,st,d,st',E,S,e,?_⟩;cases d with
 |non=>cases po;exact .inl ⟨rfl,q⟩
 |int i=>cases po;exact .inr ⟨i,rfl,q⟩
 |_=>exact Zb po
theorem Zcz{K:Fg}(σ:L2.St)(H:Hp)(Q:VK)(h:tE K (JV fa fb fc Wi) σ H Q):tSl (rSl K) (tE K fa) (tO K fb) (tO K fc) σ H Q:=by
 obtain⟨ad,ρ,st,d,st',E,S,e,p⟩:=h;unfold JV at e;split at e
 ·rename_i x st1 q1
  split at e
  ·rename_i y st2 q2
   split at e
   ·rename_i z st3 q3
    obtain⟨lo,hi,pl,ph,e⟩:=Q4 e;refine⟨ad,ρ,st,x,st1,E,S,q1,fun v1 ad1 H1 x1 S1 d1=>Zie (E.mono x1) S1 q2 pl fun ad2 H2 x2 S2=>Zie (E.mono (x1.trans x2)) S2 q3 ph fun ad3 H3 x3 S3=>?_⟩
    exact⟨ad3,st3,x,d,st',S3,d1.mono (x2.trans x3),e,p.later (x1.trans (x2.trans x3))⟩
   ·exact Zb e
  ·exact Zb e
 ·exact Zb e
theorem Zgq{K:Fg}(σ:L2.St)(H:Hp)(Q:Ot Int->Hp->Prop)(h:tO K (evC .non) σ H Q):tNoPart σ H Q:=by
 obtain⟨ad,ρ,st,d,st',E,S,e,p⟩:=h;cases e;rcases p with⟨_,p⟩|⟨i,z,_⟩
 ·exact p ad H (Ext.refl _ _) S
 ·cases z
end
end Dp



namespace Dp
open PySem PySem.Spec PyProof.Rows L2
variable [ClsTab]
def PostS(K:Fg)(ad:Li Ad)(H:Hp)(r:Fl)(st':Za)(D:Ends):Prop:=match r with
 |.nx ρ'=>∀ σ' ad' H',Ext ad H ad' H'->StOk K ad' H' st'->EnvOk K ad' H' σ' ρ'->D.nx σ' H'
 |.bk ρ'=>∀ σ' ad' H',Ext ad H ad' H'->StOk K ad' H' st'->EnvOk K ad' H' σ' ρ'->D.bk σ' H'
 |.ct ρ'=>∀ σ' ad' H',Ext ad H ad' H'->StOk K ad' H' st'->EnvOk K ad' H' σ' ρ'->D.ct σ' H'
 |.rt d=>Post K ad H d st' D.rt
theorem PostS.later{K:Fg}{ad ad':Li Ad}{H H':Hp}{r:Fl}{st:Za}{D:Ends}(x:Ext ad H ad' H')(p:PostS K ad H r st D):PostS K ad' H' r st D:=by
 cases r with
 |nx ρ=>exact fun σ2 a2 H2 y S E=>p σ2 a2 H2 (x.trans y) S E
 |bk ρ=>exact fun σ2 a2 H2 y S E=>p σ2 a2 H2 (x.trans y) S E
 |ct ρ=>exact fun σ2 a2 H2 y S E=>p σ2 a2 H2 (x.trans y) S E
 |rt d=>exact Post.later p x
theorem Yi{K:Fg}{f:Ex}{D:Ends}{σ:L2.St}{H:Hp}{ad:Li Ad}{ρ:Env}{st st':Za}{r:Fl}(E:EnvOk K ad H σ ρ)(S:StOk K ad H st)(e:f ρ st=some (r,st'))(p:PostS K ad H r st' D):tS K f D σ H:=by
 refine⟨ad,ρ,st,r,st',E,S,e,?_⟩;cases r<;>exact p
theorem Yc{K:Fg}{f:Ex}{D:Ends}{σ:L2.St}{H:Hp}(h:tS K f D σ H):∃ ad ρ st r st',EnvOk K ad H σ ρ/\StOk K ad H st/\f ρ st=some (r,st')/\PostS K ad H r st' D:=by
 obtain⟨ad,ρ,st,r,st',E,S,e,p⟩:=h;refine⟨ad,ρ,st,r,st',E,S,e,?_⟩;cases r<;>exact p
section
variable {K:Fg}{f g:Ex}{fe fi fk:Ev}
theorem JB(D:Ends)(σ:L2.St)(H:Hp)(h:tS K (fun ρ st=>some (.nx ρ,st)) D σ H):tNext D σ H:=by
 obtain⟨ad,ρ,st,r,st',E,S,e,p⟩:=Yc h;cases e;exact p σ ad H (Ext.refl _ _) S E
theorem Zgk(D:Ends)(σ:L2.St)(H:Hp)(h:tS K (fun ρ st=>some (.bk ρ,st)) D σ H):tBreak D σ H:=by
 obtain⟨ad,ρ,st,r,st',E,S,e,p⟩:=Yc h;cases e;exact p σ ad H (Ext.refl _ _) S E
theorem ZdY(D:Ends)(σ:L2.St)(H:Hp)(h:tS K (fun ρ st=>some (.ct ρ,st)) D σ H):tCont D σ H:=by
 obtain⟨ad,ρ,st,r,st',E,S,e,p⟩:=Yc h;cases e;exact p σ ad H (Ext.refl _ _) S E
theorem Zgv(D:Ends)(σ:L2.St)(H:Hp)(h:tS K (UH f g) D σ H):tSeq (tS K f) (tS K g) D σ H:=by
 obtain⟨ad,ρ,st,r,st',E,S,e,p⟩:=Yc h;unfold UH at e;split at e
 ·rename_i ρ1 st1 q
  exact Yi E S q fun σ1 ad1 H1 x1 S1 E1=>Yi E1 S1 e (p.later x1)
 ·rename_i q
  refine Yi E S e ?_;cases r with
  |nx ρ1=>exact absurd e (q ρ1 st')
  |bk ρ1=>exact p
  |ct ρ1=>exact p
  |rt d=>exact p
theorem Zgu(D:Ends)(σ:L2.St)(H:Hp)(h:tS K (ZaQ fe) D σ H):tRet (tE K fe) D σ H:=by
 obtain⟨ad,ρ,st,r,st',E,S,e,p⟩:=Yc h;unfold ZaQ at e;split at e
 ·rename_i d st1 q
  cases e;exact⟨ad,ρ,st,d,_,E,S,q,p⟩
 ·exact Zb e
theorem QB{i:Nat}(D:Ends)(σ:L2.St)(H:Hp)(h:tS K (JW i fe) D σ H):tAsg (tE K fe) (gName i) D σ H:=by
 obtain⟨ad,ρ,st,r,st',E,S,e,p⟩:=Yc h;unfold JW at e;split at e
 ·rename_i d st1 q
  cases e;exact⟨ad,ρ,st,d,_,E,S,q,fun v ad1 H1 x1 S1 d1=>p _ ad1 H1 x1 S1 ((E.mono x1).set i d1)⟩
 ·exact Zb e
theorem Zbs(D:Ends)(σ:L2.St)(H:Hp)(h:tS K (Zc8 fe) D σ H):tDrop (tE K fe) D σ H:=by
 obtain⟨ad,ρ,st,r,st',E,S,e,p⟩:=Yc h;unfold Zc8 at e;split at e
 ·rename_i d st1 q
  cases e;exact⟨ad,ρ,st,d,_,E,S,q,fun v ad1 H1 x1 S1 d1=>p _ ad1 H1 x1 S1 (E.mono x1)⟩
 ·exact Zb e
theorem Zgo(D:Ends)(σ:L2.St)(H:Hp)(h:tS K (UE fe f g) D σ H):tIfS (tT K fe) (tS K f) (tS K g) D σ H:=by
 obtain⟨ad,ρ,st,r,st',E,S,e,p⟩:=Yc h;unfold UE at e;split at e
 ·rename_i st1 q
  refine⟨ad,ρ,st,true,st1,E,S,q,fun ad1 H1 x1 S1=>?_⟩
  dsimp only;rw[if_pos rfl];exact Yi (E.mono x1) S1 e (p.later x1)
 ·rename_i st1 q
  refine⟨ad,ρ,st,false,st1,E,S,q,fun ad1 H1 x1 S1=>?_⟩
  dsimp only;rw[if_neg Bf];exact Yi (E.mono x1) S1 e (p.later x1)
 ·exact Zb e
theorem Q6{ad:Li Ad}{H:Hp}{st:Za}{i:Nat}{a:Ad}(S:StOk K ad H st)(h:LA ad H i a):∃ b ds,st[i]?=some (b,ds):=by
 have hi:i < st.length:=by rw[<-S.len];exact(List.getElem?_eq_some_iff.mp h.1).1
 exact⟨st[i].1,st[i].2,by rw[Lg hi]⟩
theorem Zbb{ad:Li Ad}{H:Hp}{st st2:Za}{i:Nat}{a:Ad}{v:V}{d:D}(S:StOk K ad H st)(h:LA ad H i a)(hd:Den K ad H v d)(e:Zb2 i d st=some st2) :
  ∃ xs,H a=some (.lst xs)/\xs.length < sizeLine/\Ext ad H ad (upd H a (.lst (xs++[v])))/\StOk K ad (upd H a (.lst (xs++[v]))) st2:=by
 unfold Zb2 at e;split at e
 ·rename_i ds q
  split at e
  ·rename_i hz
   cases e;obtain⟨xs,r,hx⟩:=S.listM h q;refine⟨xs,hx,?_,Ext.write hx (List.mem_of_getElem? h.1),S.write h q hx (r.append (.cons hd .nil))⟩;rw[r.length];exact Nat.lt_of_lt_of_le hz (by decide)
  ·exact Zb e
 ·exact Zb e
theorem Zgj{i:Nat}(D:Ends)(σ:L2.St)(H:Hp)(h:tS K (Zdc i fe) D σ H):tDrop (tBM K "list" rAppend (tVar i) (tCons (tE K fe) tNil)) D σ H:=by
 obtain⟨ad,ρ,st,r,st',E,S,e,p⟩:=Yc h;unfold Zdc at e;split at e
 ·rename_i a q0
  split at e
  ·rename_i d st1 q1
   split at e
   ·rename_i st2 q2
    cases e;obtain⟨v,e1,e2⟩:=E.at_ i _ q0;obtain⟨l,rfl,hl⟩:=e2.ofLst;obtain⟨b,ds,hc⟩:=Q6 S hl;obtain⟨xs,_,sq⟩:=S.list hl hc;refine⟨_,e1,.inl ⟨rfl,xs,sq⟩,ad,ρ,st,d,st1,E,S,q1,fun w ad1 H1 x1 S1 d1=>?_⟩
    obtain⟨ys,hy,hz,x2,S2⟩:=Zbb S1 (hl.mono x1) d1 q2;exact⟨l,ys,w,rfl,rfl,hy,hz,p _ ad1 _ (x1.trans x2) S2 (E.mono (x1.trans x2))⟩
   ·exact Zb e
  ·exact Zb e
 ·exact Zb e
theorem ZdX{fo:Ev}(D:Ends)(σ:L2.St)(H:Hp)(h:tS K (Ja fo fe) D σ H):tDrop (tBM K "list" rAppend (tE K fo) (tCons (tE K fe) tNil)) D σ H:=by
 obtain⟨ad,ρ,st,r,st',E,S,e,p⟩:=Yc h;unfold Ja at e;split at e
 ·rename_i a st0 q0
  split at e
  ·rename_i d st1 q1
   split at e
   ·rename_i st2 q2
    cases e;refine⟨ad,ρ,st,.lst a,st0,E,S,q0,fun v ad0 H0 x0 S0 d0=>?_⟩
    obtain⟨l,rfl,hl⟩:=d0.ofLst;obtain⟨b,ds,hc⟩:=Q6 S0 hl;obtain⟨xs,_,sq⟩:=S0.list hl hc;refine⟨.inl ⟨rfl,xs,sq⟩,ad0,ρ,st0,d,st1,E.mono x0,S0,q1,fun w ad1 H1 x1 S1 d1=>?_⟩
    obtain⟨ys,hy,hz,x2,S2⟩:=Zbb S1 (hl.mono x1) d1 q2;exact⟨l,ys,w,rfl,rfl,hy,hz,p _ ad1 _ ((x0.trans x1).trans x2) S2 (E.mono ((x0.trans x1).trans x2))⟩
   ·exact Zb e
  ·exact Zb e
 ·exact Zb e
theorem Zgl{i:Nat}(D:Ends)(σ:L2.St)(H:Hp)(h:tS K (ZdM i fe) D σ H):tDrop (tBM K "list" rExtend (tVar i) (tCons (tE K fe) tNil)) D σ H:=by
 obtain⟨ad,ρ,st,r,st',E,S,e,p⟩:=Yc h;unfold ZdM at e;split at e
 ·rename_i a q0
  split at e
  ·rename_i b st1 q1
   split at e
   ·rename_i st2 q2
    cases e;obtain⟨v,e1,e2⟩:=E.at_ i _ q0;obtain⟨l,rfl,hl⟩:=e2.ofLst;obtain⟨bb,ds,hc⟩:=Q6 S hl;obtain⟨xs,_,sq⟩:=S.list hl hc;refine⟨_,e1,.inl ⟨rfl,xs,sq⟩,ad,ρ,st,.lst b,st1,E,S,q1,fun w ad1 H1 x1 S1 d1=>?_⟩
    obtain⟨m,rfl,hm⟩:=d1.ofLst;unfold ZiS at q2;split at q2
    ·rename_i cs es f1 f2
     split at q2
     ·rename_i hz
      cases q2;have hl1:=hl.mono x1;obtain⟨ys,ry,hy⟩:=S1.listM hl1 f1;obtain⟨zs,rz,hzz⟩:=S1.listM hm f2;have x2:=Ext.write (ys:=ys++zs) hy (List.mem_of_getElem? hl1.1);refine⟨l,m,ys,zs,rfl,rfl,hy,hzz,?_,p _ ad1 _ (x1.trans x2) (S1.write hl1 f1 hy (ry.append rz)) (E.mono (x1.trans x2))⟩;rw[ry.length,rz.length];exact Nat.le_trans hz (by decide)
     ·exact Zb q2
    ·exact Zb q2
   ·exact Zb e
  ·exact Zb e
 ·exact Zb e
theorem ZdH{ad:Li Ad}{H:Hp}{x:Str}{kvs:Li (Str×V)}{ds:Li D}(r:Ents K ad H kvs ds):((YW kvs).any fun kv=>decide (kv.1=Sum.inr x))=ds.any (isK x):=by
 induction r with
 |nil=>rfl
 |@cons k v d kvs ds h _ ih=>
  rw[show YW ((k,v) :: kvs)=(Sum.inr k,v) :: YW kvs from rfl,List.any_cons,List.any_cons,ih]
  congr 1
  show decide ((Sum.inr k:Key)=Sum.inr x)=decide (k=x);rw[Bool.eq_iff_iff];simp
theorem Xx{ad:Li Ad}{H:Hp}{kvs:Li (Str×V)}{ds:Li D}(r:Ents K ad H kvs ds):kvs.length=ds.length:=by
 induction r with
 |nil=>rfl
 |cons _ _ ih=>rw[List.length_cons,List.length_cons,ih]
theorem UP{ad:Li Ad}{H:Hp}{x:Str}{v:V}{d:D}{kvs:Li (Str×V)}{ds:Li D}(hd:Den K ad H v d)(r:Ents K ad H kvs ds):Ents K ad H (kvs++[(x,v)]) (ds++[.tup [.str x,d]]):=by
 induction r with
 |nil=>exact .cons hd .nil
 |cons h _ ih=>exact .cons h ih
theorem Zcq{ad:Li Ad}{H:Hp}{x:Str}{v:V}{kvs:Li (Str×V)}{ds:Li D}(r:Ents K ad H kvs ds)(n:ds.any (isK x)=false):putK (YW kvs) (Sum.inr x) v=YW (kvs++[(x,v)]):=by
 unfold putK;rw[ZdH r,if_neg (by rw[n];exact Bf)]
 simp
theorem Zcp{ad:Li Ad}{H:Hp}{x:Str}{v:V}{kvs:Li (Str×V)}{ds:Li D}(r:Ents K ad H kvs ds)(n:ds.any (isK x)=false):putF x v kvs=kvs++[(x,v)]:=by
 induction r with
 |nil=>rfl
 |@cons k w d kvs ds h _ ih=>
  rw[List.any_cons,Bool.or_eq_false_iff]at n;have ne:¬k=x:=of_decide_eq_false n.1;show(if k=x then (k,v) :: kvs else (k,w) :: putF x v kvs)=_
  rw[if_neg ne,ih n.2];rfl
theorem WI{ad:Li Ad}{H:Hp}{x:Str}{kvs:Li (Str×V)}{ds:Li D}(r:Ents K ad H kvs ds):(∃ v d,(valV (YW kvs) (Sum.inr x)=some v/\kvs.lookup x=some v)/\Yk ds x=some d/\Den K ad H v d)\/((valV (YW kvs) (Sum.inr x)=none/\kvs.lookup x=none)/\Yk ds x=none):=by
 induction r with
 |nil=>exact .inr ⟨⟨rfl,rfl⟩,rfl⟩
 |@cons k w c kvs ds h _ ih=>
  by_cases q:k=x
  ·subst q
   exact .inl ⟨w,c,⟨valV_pos rfl,by rw[List.lookup_cons,beq_self_eq_true]⟩,by unfold Yk;rw[List.find?_cons_of_pos (show isK k (.tup [.str k,c])=true from decide_eq_true rfl)];rfl,h⟩
  ·have e1:valV (YW ((k,w) :: kvs)) (Sum.inr x)=valV (YW kvs) (Sum.inr x):=valV_neg fun z=>q (Sum.inr.inj z)
   have e2:Yk (.tup [.str k,c] :: ds) x=Yk ds x:=by unfold Yk;rw[List.find?_cons_of_neg (show ¬isK x (.tup [.str k,c])=true from fun z=>q (of_decide_eq_true z))]
   have e3:List.lookup x ((k,w) :: kvs)=List.lookup x kvs:=by rw[List.lookup_cons,show(x==k)=false from beq_eq_false_iff_ne.mpr fun z=>q z.symm]
   rw[e1,e2,e3];exact ih
theorem Zcr{ad:Li Ad}{H:Hp}{x:Str}{kvs:Li (Str×V)}{ds:Li D}(r:Ents K ad H kvs ds):(valV (YW kvs) (Sum.inr x)).isSome=(Yk ds x).isSome:=by
 rcases WI (x:=x) r with⟨w,d0,e1,e2,e3⟩|⟨e1,e2⟩
 ·rw[e1.1,e2];rfl
 ·rw[e1.1,e2];rfl
theorem UZ{x k:Str}{v:V}:∀ {kvs:Li (Str×V)},kvs.lookup k=none->k≠x->(kvs++[(x,v)]).lookup k=none
 |[],_,h=>by show List.lookup k [(x,v)]=none;rw[List.lookup_cons,beq_eq_false_iff_ne.mpr h];rfl
 | (y,w) :: r,e,h=>by
  rw[List.lookup_cons]at e;show List.lookup k ((y,w) :: (r++[(x,v)]))=none;rw[List.lookup_cons];cases q:k==y with
  |true=>rw[q]at e;cases e
  |false=>rw[q]at e;exact UZ e h
theorem Zgt{i:Nat}{x:Str}(hx:fldNames.contains x=true)(D:Ends)(σ:L2.St)(H:Hp)(h:tS K (ZeU i (.cst (.str x)) fe) D σ H):sFld K (tVar i) (tE K fe) x D σ H:=by
 obtain⟨ad,ρ,st,r,st',E,S,e,p⟩:=Yc h;unfold ZeU at e;simp only at e;split at e
 ·rename_i d st1 q1
  split at e
  ·rename_i a q0
   split at e
   ·rename_i c es q2
    split at e
    ·rename_i hz
     cases e;obtain⟨v,e1,e2⟩:=E.at_ i _ q0;obtain⟨l,rfl,hl,n⟩:=e2.ofDic;refine⟨ad,ρ,st,d,st1,E,S,q1,fun w ad1 H1 x1 S1 d1=>⟨_,e1,?_⟩⟩
     obtain⟨j,dx,kvs,rfl,r,ho,_,oc,nf⟩:=S1.obj (x1.pre _ _ hl) ((x1.kd _ _ hl).mp n) q2;have xw:∀ fs,Ext ad1 H1 ad1 (upd H1 l (.ins (ClsTab.ca j) dx fs)):=fun fs=>Ext.writeM ho rfl rfl (List.mem_of_getElem? (x1.pre _ _ hl))
     refine⟨l,_,dx,kvs,rfl,ho,oc.cl,oc.na x hx,by rw[Xx r];omega,?_⟩
     rw[Zcp r hz.2];exact p _ ad1 _ (x1.trans (xw _)) (S1.writeO (x1.pre _ _ hl) q2 ho oc (UP d1 r) fun k hk=>UZ (nf k hk) fun z=>by rw[z,hx]at hk;cases hk) (E.mono (x1.trans (xw _)))
    ·exact Zb e
   ·exact Zb e
  ·exact Zb e
 ·exact Zb e
theorem ZdZ(σ:L2.St)(H:Hp)(Q:VK)(h:tE K ZhV σ H Q):tDNewK K σ H Q:=by
 obtain⟨ad,ρ,st,d,st',E,S,e,p⟩:=h;cases e;intro q hq hk;exact p _ (ad++[q]) _ (S.extD hq hk) (S.pushD hq hk) (.dic (by rw[<-S.len];exact Z3) ⟨_,upd_same,rfl⟩)
theorem Zd0{fo fk:Ev}(D:Ends)(σ:L2.St)(H:Hp)(h:tS K (Jp fo fk fe) D σ H):tAsg (tE K fe) (gSub (tE K fo) (tE K fk) rSetK) D σ H:=by
 obtain⟨ad,ρ,st,r,st',E,S,e,p⟩:=Yc h;unfold Jp at e;split at e
 ·rename_i d st1 q1
  split at e
  ·rename_i a st2 q2
   split at e
   ·rename_i x st3 q3
    split at e
    ·rename_i ds q4
     split at e
     ·rename_i hz
      cases e;refine⟨ad,ρ,st,d,st1,E,S,q1,fun w ad1 H1 x1 S1 d1=>⟨ad1,ρ,st1,.dic a,st2,E.mono x1,S1,q2,fun w2 ad2 H2 x2 S2 d2=>⟨ad2,ρ,st2,.str x,st3,E.mono (x1.trans x2),S2,q3,fun w3 ad3 H3 x3 S3 d3=>?_⟩⟩⟩
      obtain⟨l,rfl,hl,n⟩:=d2.ofDic;cases d3.ofStr;obtain⟨kvs,r,ho,_⟩:=S3.dict (x3.pre _ _ hl) ((x3.kd _ _ hl).mp n) q4 hz.1;have xw:∀ fs,Ext ad3 H3 ad3 (upd H3 l (.dK fs)):=fun fs=>Ext.writeM ho rfl rfl (List.mem_of_getElem? (x3.pre _ _ hl))
      refine⟨l,_,Sum.inr x,rfl,rfl,ho,by rw[List.length_map,Xx r];exact Nat.lt_of_lt_of_le hz.2.1 (by decide),?_⟩
      rw[Zcq r hz.2.2];exact p _ ad3 _ (x1.trans (x2.trans (x3.trans (xw _)))) (S3.writeD (x3.pre _ _ hl) q4 ho (UP (d1.mono (x2.trans x3)) r)) (E.mono (x1.trans (x2.trans (x3.trans (xw _)))))
     ·exact Zb e
    ·exact Zb e
   ·exact Zb e
  ·exact Zb e
 ·exact Zb e
def Left(K:Fg)(b:D->Env->Za->Ot (Fl×Za))(E:Ends)(xs:Li D)(σ:L2.St)(H:Hp):Prop:=∃ ad ρ st r st',EnvOk K ad H σ ρ/\StOk K ad H st/\Yg b xs ρ st=some (r,st')/\PostS K ad H r st' E
theorem Left.turn{i:Nat}{b:Ex}{E:Ends}{x:D}{xs:Li D}{σ:L2.St}{H:Hp}{v:V}(hv:∀ ad H,Den K ad H v x)(h:Left K (fun d ρ s=>b (Zy ρ i d) s) E (x :: xs) σ H) :
  tS K b { E with nx:=Left K (fun d ρ s=>b (Zy ρ i d) s) E xs,ct:=Left K (fun d ρ s=>b (Zy ρ i d) s) E xs,bk:=E.nx } (σ.set i (some v)) H:=by
 obtain⟨ad,ρ,st,r,st',En,S,e,p⟩:=h;unfold Yg at e;have En2:=En.set i (hv ad H);split at e
 ·rename_i ρ1 st1 q
  exact Yi En2 S q fun σ1 ad1 H1 x1 S1 E1=>⟨ad1,ρ1,st1,r,st',E1,S1,e,p.later x1⟩
 ·rename_i ρ1 st1 q
  exact Yi En2 S q fun σ1 ad1 H1 x1 S1 E1=>⟨ad1,ρ1,st1,r,st',E1,S1,e,p.later x1⟩
 ·rename_i ρ1 st1 q
  cases e;exact Yi En2 S q fun σ1 ad1 H1 x1 S1 E1=>p σ1 ad1 H1 x1 S1 E1
 ·rename_i d st1 q
  cases e;exact Yi En2 S q p
 ·exact Zb e
theorem Left.turnD{i:Nat}{b:Ex}{E:Ends}{x:D}{xs:Li D}{σ:L2.St}{H:Hp}{ad:Li Ad}{ρ:Env}{st st':Za}{r:Fl}{v:V}(En:EnvOk K ad H σ ρ)(S:StOk K ad H st)(hv:Den K ad H v x)(e:Yg (fun d ρ s=>b (Zy ρ i d) s) (x :: xs) ρ st=some (r,st'))(p:PostS K ad H r st' E)(L:L2.St->Hp->Prop)(hL:∀ σ1 ad1 H1 ρ1 st1,Ext ad H ad1 H1->StOk K ad1 H1 st1->EnvOk K ad1 H1 σ1 ρ1->Yg (fun d ρ s=>b (Zy ρ i d) s) xs ρ1 st1=some (r,st')->L σ1 H1) :
  tS K b { E with nx:=L,ct:=L,bk:=E.nx } (σ.set i (some v)) H:=by
 unfold Yg at e;have En2:=En.set i hv;split at e
 ·rename_i ρ1 st1 q
  exact Yi En2 S q fun σ1 ad1 H1 x1 S1 E1=>hL σ1 ad1 H1 ρ1 st1 x1 S1 E1 e
 ·rename_i ρ1 st1 q
  exact Yi En2 S q fun σ1 ad1 H1 x1 S1 E1=>hL σ1 ad1 H1 ρ1 st1 x1 S1 E1 e
 ·rename_i ρ1 st1 q
  cases e;exact Yi En2 S q fun σ1 ad1 H1 x1 S1 E1=>p σ1 ad1 H1 x1 S1 E1
 ·rename_i d st1 q
  cases e;exact Yi En2 S q p
 ·exact Zb e
theorem Left.done{b:D->Env->Za->Ot (Fl×Za)}{E:Ends}{σ:L2.St}{H:Hp}(h:Left K b E [] σ H):E.nx σ H:=by
 obtain⟨ad,ρ,st,r,st',En,S,e,p⟩:=h;cases e;exact p σ ad H (Ext.refl _ _) S En
theorem ZaP(n k:Nat)(h:k < n):((List.range n).map fun(j:Nat)=>D.int (j:Int)).drop k=D.int (k:Int) :: ((List.range n).map fun(j:Nat)=>D.int (j:Int)).drop (k+1):=by
 rw[List.drop_eq_getElem_cons (by simpa using h)]
 simp
theorem Zd5{i:Nat}(E:Ends)(σ:L2.St)(H:Hp)(h:tS K (Vh i true fi f) E σ H):tFor (iRng1 (tCons (tE K fi) tNil)) (gName i) (tS K f) E σ H:=by
 obtain⟨ad,ρ,st,r,st',En,S,e,p⟩:=Yc h;unfold Vh at e;split at e
 ·rename_i x st1 q1
  cases x with
  |int n=>
   have e:(match (if n < 2 ^ 62/\-(2 ^ 62)<=n then some ((List.range n.toNat).map fun(k:Nat)=>D.int (k:Int)) else none) with
    |some xs=>Yg (fun d ρ s=>f (Zy ρ i d) s) xs ρ st1
    |none=>none)=some (r,st'):=e
   by_cases hn:n < 2 ^ 62/\-(2 ^ 62)<=n
   ·rw[if_pos hn]at e
    refine⟨ad,ρ,st,.int n,st1,En,S,q1,fun v ad1 H1 x1 S1 d1=>⟨n,by rw[d1.ofInt],hn.2,hn.1,?_⟩⟩
    refine for_range (fun k σ' H'=>Left K (fun d ρ s=>f (Zy ρ i d) s) E (((List.range n.toNat).map fun(k:Nat)=>D.int (k:Int)).drop k) σ' H') ⟨ad1,ρ,st1,r,st',En.mono x1,S1,e,p.later x1⟩ (fun k σ' H' hk L=>?_) fun σ' H' L=>?_
    ·rw[ZaP _ _ hk]at L
     have z:(0:Int)+(k:Int)=(k:Int):=Int.zero_add _;rw[z];exact L.turn fun _ _=>.int _
    ·rw[List.drop_eq_nil_of_le (by simp)]at L
     exact L.done
   ·rw[if_neg hn]at e
    cases e
  |_=>simp[Xc]at e
 ·exact Zb e
def ZhL(K:Fg)(b:D->Env->Za->Ot (Fl×Za))(E:Ends)(a:Ad)(vs:Li V)(xs:Li D)(k:Nat)(σ:L2.St)(H:Hp):Prop:=
 ∃ ad ρ st r st',EnvOk K ad H σ ρ/\StOk K ad H st/\(TupAt K H a vs/\Dens K ad H vs xs)/\Yg b (xs.drop k) ρ st=some (r,st')/\PostS K ad H r st' E
theorem Zd6{i:Nat}(E:Ends)(σ:L2.St)(H:Hp){ad:Li Ad}{ρ:Env}{st st1 st':Za}{r:Fl}{xs:Li D}(En:EnvOk K ad H σ ρ)(S:StOk K ad H st)(q1:fi ρ st=some (.tup xs,st1))(e:Yg (fun d ρ s=>f (Zy ρ i d) s) xs ρ st1=some (r,st'))(p:PostS K ad H r st' E):tFor (iTup K (tE K fi)) (gName i) (tS K f) E σ H:=by
 refine⟨ad,ρ,st,.tup xs,st1,En,S,q1,fun v ad1 H1 x1 S1 d1=>?_⟩
 obtain⟨a,vs,rfl,ha,rv⟩:=d1.ofTup;refine⟨a,rfl,⟨vs,(ha).sq⟩,?_⟩;refine for_tup (xs:=vs) (fun k σ' H'=>ZhL K (fun d ρ s=>f (Zy ρ i d) s) E a vs xs k σ' H') ⟨ad1,ρ,st1,r,st',En.mono x1,S1,⟨ha,rv⟩,by rw[List.drop_zero];exact e,p.later x1⟩ (fun k σ' H' _ L=>?_) (fun k y σ' H' hk L=>?_) fun σ' H' L=>?_
 ·obtain⟨_,_,_,_,_,_,_,⟨h,_⟩,_⟩:=L
  exact(h).sq
 ·obtain⟨ad2,ρ2,st2,r2,st2',En2,S2,⟨h2,rv2⟩,e2,p2⟩:=L
  have hk':k < xs.length:=by rw[<-rv2.length];exact(List.getElem?_eq_some_iff.mp hk).1
  have hx:xs[k]?=some xs[k]:=Lg hk';obtain⟨w,ew,dw⟩:=rv2.get hx;rw[hk]at ew;cases ew
  rw[List.drop_eq_getElem_cons hk']at e2;exact Left.turnD En2 S2 dw e2 p2 _ fun σ3 ad3 H3 ρ3 st3 x3 S3 E3 e3=>⟨ad3,ρ3,st3,r2,st2',E3,S3,⟨h2.mono x3,rv2.mono x3⟩,e3,p2.later x3⟩
 ·obtain⟨ad2,ρ2,st2,r2,st2',En2,S2,⟨h2,rv2⟩,e2,p2⟩:=L
  rw[rv2.length,List.drop_length]at e2;exact Left.done ⟨ad2,ρ2,st2,r2,st2',En2,S2,e2,p2⟩
theorem JA{G:TG}{B:D->Env->Za->Ot (Fl×Za)}(E:Ends)(σ:L2.St)(H:Hp){ad:Li Ad}{ρ:Env}{st st1 st':Za}{r:Fl}{l:Nat}{bb:Bool}{xs:Li D}(En:EnvOk K ad H σ ρ)(S:StOk K ad H st)(q1:fi ρ st=some (.lst l,st1))(q2:st1[l]?=some (bb,xs))(e:ZH B l xs.length 0 ρ st1=some (r,st'))(p:PostS K ad H r st' E)(hG:∀ (x:D) (v:V) (σ:L2.St) (H:Hp) (ad:Li Ad) (ρ:Env) (st st1:Za) (r1:Fl) (E':Ends),EnvOk K ad H σ ρ->StOk K ad H st->Den K ad H v x->B x ρ st=some (r1,st1)->PostS K ad H r1 st1 E'->G v σ H fun σ2 H2=>tS K f E' σ2 H2) :
  tFor (iList K (tE K fi)) G (tS K f) E σ H:=by
 refine⟨ad,ρ,st,.lst l,st1,En,S,q1,fun v ad1 H1 x1 S1 d1=>?_⟩
 obtain⟨a,rfl,ha⟩:=d1.ofLst;obtain⟨vs,rv,sq⟩:=S1.list ha q2;refine⟨a,rfl,⟨vs,sq⟩,?_⟩;refine⟨fun k m σ' H'=>∃ ad2 ρ2 st2,(EnvOk K ad2 H' σ' ρ2/\StOk K ad2 H' st2/\LA ad2 H' l a)/\ZH B l m k ρ2 st2=some (r,st')/\PostS K ad2 H' r st' E,⟨xs.length,ad1,ρ,st1,⟨En.mono x1,S1,ha⟩,e,p.later x1⟩,?_⟩
 rintro k m σ' H' ⟨ad2,ρ2,st2,⟨En2,S2,ha2⟩,e2,p2⟩
 obtain⟨b2,ys,hc⟩:=Q6 S2 ha2;obtain⟨ws,rw',sq2⟩:=S2.list ha2 hc;have stop:ys.length<=k->ZH B l m k ρ2 st2=some (.nx ρ2,st2):=fun hk=>by
  cases m with
  |zero=>unfold ZH;simp only[hc];rw[if_pos hk]
  |succ m=>unfold ZH;simp only[hc,List.getElem?_eq_none hk]
 by_cases hk:ys.length<=k
 ·refine .inl ⟨⟨ws,sq2,by rw[rw'.length];exact hk⟩,?_⟩
  rw[stop hk]at e2;cases e2;exact p2 σ' ad2 H' (Ext.refl _ _) S2 En2
 ·have hk':k < ys.length:=by omega
  have hy:ys[k]?=some ys[k]:=Lg hk';obtain⟨w,ew,dw⟩:=rw'.get hy;cases m with
  |zero=>
   unfold ZH at e2;simp only[hc]at e2;rw[if_neg hk]at e2;cases e2
  |succ m=>
   unfold ZH at e2;simp only[hc,hy]at e2;refine .inr ⟨⟨ws,w,sq2,ew⟩,fun σ3 H3=>∃ ad3 ρ3 st3,(EnvOk K ad3 H3 σ3 ρ3/\StOk K ad3 H3 st3/\LA ad3 H3 l a)/\ZH B l m (k+1) ρ3 st3=some (r,st')/\PostS K ad3 H3 r st' E,fun σ3 H3 h3=>⟨m,Nat.lt_succ_self m,h3⟩,fun x H3 hx=>?_⟩
   obtain⟨rfl,hx⟩:=hx;have ex:=hx ws sq2;rw[ew]at ex;cases ex
   split at e2
   ·rename_i ρ3 st3 q
    exact hG _ _ _ _ ad2 ρ2 st2 _ _ _ En2 S2 dw q fun σ4 ad4 H4 x4 S4 E4=>⟨ad4,ρ3,st3,⟨E4,S4,ha2.mono x4⟩,e2,p2.later x4⟩
   ·rename_i ρ3 st3 q
    exact hG _ _ _ _ ad2 ρ2 st2 _ _ _ En2 S2 dw q fun σ4 ad4 H4 x4 S4 E4=>⟨ad4,ρ3,st3,⟨E4,S4,ha2.mono x4⟩,e2,p2.later x4⟩
   ·rename_i ρ3 st3 q
    cases e2;exact hG _ _ _ _ ad2 ρ2 st2 _ _ _ En2 S2 dw q fun σ4 ad4 H4 x4 S4 E4=>p2 σ4 ad4 H4 x4 S4 E4
   ·rename_i d st3 q
    cases e2;exact hG _ _ _ _ ad2 ρ2 st2 _ _ _ En2 S2 dw q p2
   ·exact Zb e2
theorem Zd3{i:Nat}(E:Ends)(σ:L2.St)(H:Hp)(h:tS K (Vh i false fi f) E σ H):tFor (iTup K (tE K fi)) (gName i) (tS K f) E σ H\/tFor (iList K (tE K fi)) (gName i) (tS K f) E σ H:=by
 obtain⟨ad,ρ,st,r,st',En,S,e,p⟩:=Yc h;unfold Vh at e;split at e
 ·rename_i x st1 q1
  cases x with
  |tup xs=>exact .inl (Zd6 E σ H En S q1 e p)
  |lst l=>
   have e:(match st1[l]? with
    |some (_,xs)=>ZH (fun d ρ s=>f (Zy ρ i d) s) l xs.length 0 ρ st1
    |none=>none)=some (r,st'):=e
   split at e
   ·rename_i bb xs q2
    refine .inr (JA E σ H En S q1 q2 e p fun x v σ H ad ρ st st1 r1 E' En S dv e1 p1=>?_)
    exact Yi (En.set i dv) S e1 p1
   ·exact Zb e
  |_=>simp[Xc]at e
 ·exact Zb e
theorem Zcy{G:TG}{B:D->Env->Za->Ot (Fl×Za)}(E:Ends)(σ:L2.St)(H:Hp){ad:Li Ad}{ρ:Env}{st st1 st':Za}{r:Fl}{xs:Li D}(En:EnvOk K ad H σ ρ)(S:StOk K ad H st)(q1:fi ρ st=some (.tup xs,st1))(e:Yg B xs ρ st1=some (r,st'))(p:PostS K ad H r st' E)(hG:∀ (x:D) (v:V) (σ:L2.St) (H:Hp) (ad:Li Ad) (ρ:Env) (st st1:Za) (r1:Fl) (E':Ends),EnvOk K ad H σ ρ->StOk K ad H st->Den K ad H v x->B x ρ st=some (r1,st1)->PostS K ad H r1 st1 E'->G v σ H fun σ2 H2=>tS K f E' σ2 H2) :
  tFor (iTup K (tE K fi)) G (tS K f) E σ H:=by
 refine⟨ad,ρ,st,.tup xs,st1,En,S,q1,fun v ad1 H1 x1 S1 d1=>?_⟩
 obtain⟨a,vs,rfl,ha,rv⟩:=d1.ofTup;refine⟨a,rfl,⟨vs,(ha).sq⟩,?_⟩;refine for_tup (xs:=vs) (fun k σ' H'=>ZhL K B E a vs xs k σ' H') ⟨ad1,ρ,st1,r,st',En.mono x1,S1,⟨ha,rv⟩,by rw[List.drop_zero];exact e,p.later x1⟩ (fun k σ' H' _ L=>?_) (fun k y σ' H' hk L=>?_) fun σ' H' L=>?_
 ·obtain⟨_,_,_,_,_,_,_,⟨h,_⟩,_⟩:=L
  exact(h).sq
 ·obtain⟨ad2,ρ2,st2,r2,st2',En2,S2,⟨h2,rv2⟩,e2,p2⟩:=L
  have hk':k < xs.length:=by rw[<-rv2.length];exact(List.getElem?_eq_some_iff.mp hk).1
  have hx:xs[k]?=some xs[k]:=Lg hk';obtain⟨w,ew,dw⟩:=rv2.get hx;rw[hk]at ew;cases ew
  rw[List.drop_eq_getElem_cons hk']at e2;unfold Yg at e2;split at e2
  ·rename_i ρ3 st3 q
   exact hG _ _ _ _ ad2 ρ2 st2 _ _ _ En2 S2 dw q fun σ4 ad4 H4 x4 S4 E4=>⟨ad4,ρ3,st3,r2,st2',E4,S4,⟨h2.mono x4,rv2.mono x4⟩,e2,p2.later x4⟩
  ·rename_i ρ3 st3 q
   exact hG _ _ _ _ ad2 ρ2 st2 _ _ _ En2 S2 dw q fun σ4 ad4 H4 x4 S4 E4=>⟨ad4,ρ3,st3,r2,st2',E4,S4,⟨h2.mono x4,rv2.mono x4⟩,e2,p2.later x4⟩
  ·rename_i ρ3 st3 q
   cases e2;exact hG _ _ _ _ ad2 ρ2 st2 _ _ _ En2 S2 dw q fun σ4 ad4 H4 x4 S4 E4=>p2 σ4 ad4 H4 x4 S4 E4
  ·rename_i d st3 q
   cases e2;exact hG _ _ _ _ ad2 ρ2 st2 _ _ _ En2 S2 dw q p2
  ·exact Zb e2
 ·obtain⟨ad2,ρ2,st2,r2,st2',En2,S2,⟨h2,rv2⟩,e2,p2⟩:=L
  rw[rv2.length,List.drop_length]at e2;exact Left.done ⟨ad2,ρ2,st2,r2,st2',En2,S2,e2,p2⟩
theorem Zd1{i j:Nat}(E:Ends)(σ:L2.St)(H:Hp)(h:tS K (Jt i j fi f) E σ H):tFor (iTup K (tE K fi)) (gTup K 2 (gCons (gName i) (gCons (gName j) gNil))) (tS K f) E σ H\/tFor (iList K (tE K fi)) (gTup K 2 (gCons (gName i) (gCons (gName j) gNil))) (tS K f) E σ H:=by
 obtain⟨ad,ρ,st,r,st',En,S,e,p⟩:=Yc h;unfold Jt at e;split at e
 ·rename_i l st1 q1
  split at e
  ·rename_i bb xs q2
   right
   refine JA E σ H En S q1 q2 e p fun x v σ H ad ρ st st1 r1 E' En S dv e1 p1=>?_
   unfold U3 at e1;split at e1
   ·rename_i y z
    obtain⟨a,vs,rfl,ha,rv⟩:=dv.ofTup;cases rv with
    |cons d1 rv=>
     cases rv with
     |cons d2 rv=>
      cases rv;exact⟨a,_,rfl,(ha).sq,rfl,_,_,rfl,_,_,rfl,rfl,Yi ((En.set i d1).set j d2) S e1 p1⟩
   ·exact Zb e1
  ·exact Zb e
 ·rename_i xs st1 q1
  left
  refine Zcy E σ H En S q1 e p fun x v σ H ad ρ st st1 r1 E' En S dv e1 p1=>?_
  unfold U3 at e1;split at e1
  ·rename_i y z
   obtain⟨a,vs,rfl,ha,rv⟩:=dv.ofTup;cases rv with
   |cons d1 rv=>
    cases rv with
    |cons d2 rv=>
     cases rv;exact⟨a,_,rfl,(ha).sq,rfl,_,_,rfl,_,_,rfl,rfl,Yi ((En.set i d1).set j d2) S e1 p1⟩
  ·exact Zb e1
 ·exact Zb e
noncomputable def Itz(K:Fg)(a b:Ad):It:=
 ⟨fun i H=>∃ xs ys x y,SqL K H a xs/\SqT K H b ys/\xs[i]?=some x/\ys[i]?=some y,
  fun i H v H'=>∃ p x y,v=.ref p/\H p=none/\H'=upd H p (.tup [x,y])/\(∀ xs,SqL K H a xs->xs[i]?=some x)/\∀ ys,SqT K H b ys->ys[i]?=some y,
  fun i H=>∃ xs ys,SqL K H a xs/\SqT K H b ys/\min xs.length ys.length<=i⟩
noncomputable def ZiZ(K:Fg)(ta:TA):TI:=fun σ H R=>ta σ H fun vs H1=>∃ a b,vs=[.ref a,.ref b]/\(∃ xs,SqL K H1 a xs)/\(∃ ys,SqT K H1 b ys)/\R (Itz K a b) H1
theorem Zep{ok:Za->Prop}{B:D->D->Env->Za->Ot (Fl×Za)}{l:Li (D×D)}{ρ:Env}{st:Za}{z:Fl×Za}(e:ZX ok B l ρ st=some z):ok st:=by
 cases l with
 |nil=>
  unfold ZX at e;by_cases h:ok st
  ·exact h
  ·rw[if_neg h]at e;cases e
 |cons _ _=>
  unfold ZX at e;by_cases h:ok st
  ·exact h
  ·rw[if_neg h]at e;cases e
inductive LK(K:Fg)(ok:Za->Prop)(B:D->D->Env->Za->Option (Fl×Za))(qs:List (D×D))(Good:List Addr->Hp->Prop)(r:Fl)(st':Za)(E:Ends)(k m:Nat)(σ:L2.St)(H:Hp):Prop
 |mk {ad:List Addr}{ρ:Env}{st:Za} (hk:k+m=qs.length) (En:EnvOk K ad H σ ρ) (S:StOk K ad H st) (g:Good ad H) (e:ZX ok B (qs.drop k) ρ st=some (r,st')) (p:PostS K ad H r st' E):LK K ok B qs Good r st' E k m σ H
theorem V9{i j:Nat}{ok:Za->Prop}{qs:Li (D×D)}{Good:Li Ad->Hp->Prop}{r:Fl}{st':Za}{E:Ends}{J:It}(gm:∀ ad H ad' H',Ext ad H ad' H'->Good ad H->Good ad' H')(stop:∀ ad H st,Good ad H->StOk K ad H st->ok st->J.stop qs.length H)(go:∀ k ad H st q,Good ad H->StOk K ad H st->ok st->qs[k]?=some q->∃ w1 w2,J.go k H/\Den K ad H w1 q.1/\Den K ad H w2 q.2/\∀ x H',J.yld k H x H'->∃ pt,x=.ref pt/\H pt=none/\H'=upd H pt (.tup [w1,w2]))(k m:Nat)(σ:L2.St)(H:Hp)(h:LK K ok (fun x y ρ s=>f (Zy (Zy ρ i x) j y) s) qs Good r st' E k m σ H) :
  (J.stop k H/\E.nx σ H)\/(J.go k H/\∃ N:L2.St->Hp->Prop,(∀ σ' H',N σ' H'->∃ m',m' < m/\LK K ok (fun x y ρ s=>f (Zy (Zy ρ i x) j y) s) qs Good r st' E (k+1) m' σ' H')/\∀ x H',J.yld k H x H'->gTup K 2 (gCons (gName i) (gCons (gName j) gNil)) x σ H' fun σ2 H2=>tS K f { E with nx:=N,ct:=N,bk:=E.nx } σ2 H2):=by
 cases h with
 |@mk ad ρ st hkm En S g e p=>
  have ok2:=Zep e;by_cases hk:qs.length<=k
  ·have hk':k=qs.length:=by omega
   subst hk';rw[List.drop_length]at e;unfold ZX at e;rw[if_pos ok2]at e;cases e;exact .inl ⟨stop _ _ _ g S ok2,p σ _ H (Ext.refl _ _) S En⟩
  ·have hk':k < qs.length:=Nat.lt_of_not_le hk
   obtain⟨w1,w2,hgo,dw1,dw2,hy⟩:=go k _ _ _ qs[k] g S ok2 (Lg hk');rw[List.drop_eq_getElem_cons hk']at e;unfold ZX at e;rw[if_pos ok2]at e;generalize qs[k]=q at e dw1 dw2;refine .inr ⟨hgo,LK K ok (fun x y ρ s=>f (Zy (Zy ρ i x) j y) s) qs Good r st' E (k+1) (m - 1),fun σ3 H3 h3=>⟨m - 1,by omega,h3⟩,fun x H3 hx=>?_⟩
   obtain⟨pt,rfl,hpt,rfl⟩:=hy x H3 hx;have xt:Ext ad H ad (upd H pt (.tup [w1,w2])):=Ext.laid hpt;have fin:∀ {rr:Fl}{s3:Za}{E':Ends},f (Zy (Zy ρ i q.1) j q.2) st=some (rr,s3)->PostS K ad (upd H pt (.tup [w1,w2])) rr s3 E'->gTup K 2 (gCons (gName i) (gCons (gName j) gNil)) (.ref pt) σ (upd H pt (.tup [w1,w2])) fun σ2 H2=>tS K f E' σ2 H2:=fun q pp=>
    ⟨pt,_,rfl,SqT.of upd_same,rfl,_,_,rfl,_,_,rfl,rfl,Yi (((En.mono xt).set i (dw1.mono xt)).set j (dw2.mono xt)) (S.laid hpt) q pp⟩
   have nxt:∀ {ρ3:Env}{st3:Za},ZX ok (fun x y ρ s=>f (Zy (Zy ρ i x) j y) s) (qs.drop (k+1)) ρ3 st3=some (r,st')->∀ (σ4:L2.St) (ad4:Li Ad) (H4:Hp),Ext ad (upd H pt (.tup [w1,w2])) ad4 H4->StOk K ad4 H4 st3->EnvOk K ad4 H4 σ4 ρ3->LK K ok (fun x y ρ s=>f (Zy (Zy ρ i x) j y) s) qs Good r st' E (k+1) (m - 1) σ4 H4:=fun e3 σ4 ad4 H4 x4 S4 E4=>
    .mk (by omega) E4 S4 (gm _ _ _ _ (xt.trans x4) g) e3 (p.later (xt.trans x4))
   clear hy go stop hkm hk hk' hgo;split at e
   ·rename_i q0
    exact fin q0 (nxt e)
   ·rename_i q0
    exact fin q0 (nxt e)
   ·rename_i q0
    cases e;exact fin q0 fun σ4 ad4 H4 x4 S4 E4=>p σ4 ad4 H4 (xt.trans x4) S4 E4
   ·rename_i q0
    cases e;exact fin q0 (p.later xt)
   ·exact Zb e
theorem Zd4{i j:Nat}(E:Ends)(σ:L2.St)(H:Hp)(h:tS K (Jv i j fi f) E σ H):tFor (ZiZ K (tA K fi)) (gTup K 2 (gCons (gName i) (gCons (gName j) gNil))) (tS K f) E σ H:=by
 obtain⟨ad,ρ,st,r,st',En,S,e,p⟩:=Yc h;unfold Jv at e;split at e
 ·rename_i la ys st1 q1
  split at e
  ·rename_i ca hca
   refine⟨ad,ρ,st,_,st1,En,S,q1,fun vs ad1 H1 x1 S1 d1=>?_⟩
   obtain⟨v1,v2,rfl,dv1,dv2⟩:∃ v1 v2,vs=[v1,v2]/\Den K ad1 H1 v1 (.lst la)/\Den K ad1 H1 v2 (.tup ys):=by
    cases d1 with
    |cons h1 d1=>
     cases d1 with
     |cons h2 d1=>cases d1;exact⟨_,_,rfl,h1,h2⟩
   obtain⟨a,rfl,ha⟩:=dv1.ofLst;obtain⟨b,ws,rfl,hb,rw0⟩:=dv2.ofTup;obtain⟨us,ru,squ⟩:=S1.list ha (show st1[la]?=some (ca.1,ca.2) from hca);refine⟨a,b,rfl,⟨us,squ⟩,⟨ws,hb.sq⟩,_,⟨_,.mk (Good:=fun ad H=>LA ad H la a/\TupAt K H b ws/\Dens K ad H ws ys) (Nat.zero_add _) (En.mono x1) S1 ⟨ha,hb,rw0⟩ e (p.later x1)⟩,V9 (fun _ _ _ _ x g=>⟨g.1.mono x,g.2.1.mono x,g.2.2.mono x⟩) (fun ad H st g S o=>?_) fun k ad H st q g S o hq=>?_⟩
   ·obtain⟨us,ru,squ⟩:=S.list g.1 (show st[la]?=some (ca.1,ca.2) from o)
    exact⟨us,ws,squ,g.2.1.sq,by rw[ru.length,g.2.2.length];exact Nat.le_of_eq (List.length_zip ..).symm⟩
   ·obtain⟨us,ru,squ⟩:=S.list g.1 (show st[la]?=some (ca.1,ca.2) from o)
    obtain⟨h1,h2⟩:=List.getElem?_zip_eq_some.mp hq;obtain⟨w1,e1,d1⟩:=ru.get h1;obtain⟨w2,e2,d2⟩:=g.2.2.get h2;exact⟨w1,w2,⟨us,ws,w1,w2,squ,g.2.1.sq,e1,e2⟩,d1,d2,fun x H' ⟨pt,y1,y2,z1,z2,z3,hy1,hy2⟩=>⟨pt,z1,z2,by have z:=hy1 us squ;rw[e1]at z;cases z;have z:=hy2 ws g.2.1.sq;rw[e2]at z;cases z;exact z3⟩⟩
  ·exact Zb e
 ·exact Zb e
end
end Dp



namespace Dp
open PySem PySem.Spec PyProof.Rows L2
variable [ClsTab]
mutual
theorem ZfL:∀ {x y:D},ZV x y=true->x=y
 |.non,y,h=>by cases y<;>simp[ZV]at h ⊢
 |.bl a,y,h=>by cases y<;>simp[ZV]at h ⊢;exact h
 |.int a,y,h=>by cases y<;>simp[ZV]at h ⊢;exact h
 |.str a,y,h=>by cases y<;>simp[ZV]at h ⊢;exact h
 |.tup a,y,h=>by
  cases y with
  |tup b=>rw[Jc (x:=a) (y:=b) (by simpa[ZV] using h)]
  |_=>simp[ZV]at h
 |.lst a,y,h=>by cases y<;>simp[ZV]at h
 |.dct a b,y,h=>by cases y<;>simp[ZV]at h
 |.obj a,y,h=>by cases y<;>simp[ZV]at h
 |.kt a,y,h=>by cases y<;>simp[ZV]at h
 |.dic a,y,h=>by cases y<;>simp[ZV]at h
theorem Jc:∀ {x y:Li D},ZY x y=true->x=y
 |[],y,h=>by cases y<;>simp[ZY]at h ⊢
 |a :: x,y,h=>by
  cases y with
  |nil=>simp[ZY]at h
  |cons b y=>
   have h:(ZV a b&&ZY x y)=true:=h;rw[Ba]at h;rw[ZfL h.1,Jc h.2]
end
mutual
theorem UK:∀ {n:Nat}{x:D},okD n x=true->ZV x x=true
 |_,.non,_=>rfl
 |_,.bl a,_=>by simp[ZV]
 |_,.int a,_=>by simp[ZV]
 |_,.str a,_=>by simp[ZV]
 |0,.tup a,h=>by simp[okD]at h
 |n+1,.tup a,h=>VA (n:=n) (x:=a) h
 |_,.lst a,h=>by simp[okD]at h
 |_,.dct a b,h=>by simp[okD]at h
 |_,.obj a,h=>by simp[okD]at h
 |_,.kt a,h=>by simp[okD]at h
 |_,.dic a,h=>by simp[okD]at h
theorem VA:∀ {n:Nat}{x:Li D},Y0 n x=true->ZY x x=true
 |_,[],_=>rfl
 |n,a :: x,h=>by
  have h:(okD n a&&Y0 n x)=true:=h;rw[Ba]at h;show(ZV a a&&ZY x x)=true;rw[UK h.1,VA h.2];rfl
end
theorem XB:∀ {n:Nat}{xs:Li D}{i:Nat}{d:D},Y0 n xs=true->xs[i]?=some d->okD n d=true
 |_,[],_,_,_,e=>by simp at e
 |n,x :: xs,i,d,h,e=>by
  have h:(okD n x&&Y0 n xs)=true:=h;rw[Ba]at h;cases i with
  |zero=>simp at e;subst e;exact h.1
  |succ i=>exact XB (i:=i) h.2 (by simpa using e)
theorem Y4:∀ {xs ys:Li D},ZY xs ys=((List.range (min xs.length ys.length)).all (fun i=>ZV ((xs[i]?).getD .non) ((ys[i]?).getD .non))&&xs.length==ys.length)
 |[],[]=>rfl
 |[],_ :: _=>by simp[ZY]
 |_ :: _,[]=>by simp[ZY]
 |x :: xs,y :: ys=>by
  have ih:=@Y4 xs ys;show(ZV x y&&ZY xs ys)=_;rw[ih];have e:min (x :: xs).length (y :: ys).length=min xs.length ys.length+1:=by simp only[List.length_cons];omega
  rw[e,List.range_succ_eq_map,List.all_cons,List.all_map];simp only[List.length_cons];have z:(xs.length+1==ys.length+1)=(xs.length==ys.length):=by
   rw[Bool.eq_iff_iff];simp
  rw[z,Bool.and_assoc];rfl
section
variable {X:Cx}{ad:Li Ad}{H:Hp}
def Zke(X:Cx)(ad:Li Ad)(H:Hp)(v:V)(x:D):Prop:=∀ n m y,okD n x=true->okD m y=true->Den X.K ad H v y->x=y
theorem W9{n:Nat}{x:D}{P:Prop}(h:okD n x=true)(h0:∀ n,okD n x=false):P:=by rw[h0]at h;cases h
theorem ZeB(i n:Nat):okD n (.lst i)=false:=by cases n<;>rfl
theorem ZeA(i n:Nat):okD n (.dic i)=false:=by cases n<;>rfl
theorem ZeC(i n:Nat):okD n (.obj i)=false:=by cases n<;>rfl
theorem Zh8(ks:Li Str)(n:Nat):okD n (.kt ks)=false:=by cases n<;>rfl
theorem ZeD{n:Nat}{xs:Li D}(h:okD n (.tup xs)=true):∃ m,Y0 m xs=true:=by
 cases n with
 |zero=>cases h
 |succ n=>exact⟨n,h⟩
theorem Den.injP(J:∀ (a:Ad) (xs ys:Li V),TupAt X.K H a xs->TupAt X.K H a ys->xs=ys){v:V}{x:D}(h:Den X.K ad H v x):Zke X ad H v x:=
 Den.rec (motive_1:=fun v x _=>Zke X ad H v x) (motive_2:=fun vs xs _=>∀ n m ys,Y0 n xs=true->Y0 m ys=true->Dens X.K ad H vs ys->xs=ys)
  (fun _ _ _ _ _ h=>by cases h;rfl) (fun _ _ _ _ _ _ h=>by cases h;rfl) (fun _ _ _ _ _ _ h=>by cases h;rfl) (fun _ _ _ _ _ _ h=>by cases h;rfl)
  (fun e _ ih n m y hx hy h=>by
   obtain⟨n',hx⟩:=ZeD hx;cases h with
   |tup e' r'=>
    cases J _ _ _ e e'
    obtain⟨m',hy⟩:=ZeD hy;rw[ih n' m' _ hx hy r']
   |lst _=>exact W9 hy (ZeB _)
   |dic _ _=>exact W9 hy (ZeA _)
   |obj _ _=>exact W9 hy (ZeC _)
   |kt _ _ _ _ _ _=>exact W9 hy (Zh8 _))
  (fun _ _ _ _ hx _ _=>W9 hx (ZeB _)) (fun _ _ _ _ _ hx _ _=>W9 hx (ZeA _)) (fun _ _ _ _ _ hx _ _=>W9 hx (ZeC _)) (fun _ _ _ _ _ _ _ _ _ hx _ _=>W9 hx (Zh8 _))
  (fun _ _ _ _ _ h=>by cases h;rfl)
  (fun _ _ i1 i2 n m ys hx hy h=>by
   cases h with
   |cons a' r'=>
    have hx:=Bool.and_eq_true_iff.mp hx;have hy:=Bool.and_eq_true_iff.mp hy;rw[i1 n m _ hx.1 hy.1 a',i2 n m _ hx.2 hy.2 r']) h
theorem Den.inj(J:∀ (a:Ad) (xs ys:Li V),TupAt X.K H a xs->TupAt X.K H a ys->xs=ys){n m:Nat}{v:V}{x y:D}(hx:okD n x=true)(hy:okD m y=true)(h:Den X.K ad H v x)(h':Den X.K ad H v y):x=y:=h.injP J n m y hx hy h'
open PySem.SeqAt in
theorem ZiQ{pQ:Li (Ad×Obj)}{σ:L2.St}{s:Sd}(I:Inv X pQ σ H s):∀ (n:Nat) (x y:D) (A:Around) (vx vy:V) (ux uy:vL),okD n x=true->okD n y=true->A.units+n < cLine->Den X.K ad H vx x->Den X.K ad H vy y->RelV vx ux->RelV vy uy->EqAt A s ux uy (ZV x y):=by
 intro n
 induction n with
 |zero=>
  intro x y A vx vy ux uy hx hy hu dx dy rx ry;cases dx with
  |non=>
   cases rx;cases dy with
   |non=>cases ry;exact EqAt.same _
   |int j=>obtain⟨t',rfl⟩:=ry;exact EqAt.none_int j t'
   |str j=>obtain⟨t',rfl⟩:=ry;exact EqAt.none_str j t'
   |_=>simp[okD]at hy
  |int i=>
   obtain⟨t,rfl⟩:=rx;cases dy with
   |non=>cases ry;exact EqAt.int_none i t
   |int j=>obtain⟨t',rfl⟩:=ry;exact(show ZV (.int i) (.int j)=(i==j) from by rw[Bool.eq_iff_iff];simp[ZV]) ▸ EqAt.int_int i t j t'
   |str j=>obtain⟨t',rfl⟩:=ry;exact EqAt.int_str i t j t'
   |_=>simp[okD]at hy
  |str i=>
   obtain⟨t,rfl⟩:=rx;cases dy with
   |non=>cases ry;exact EqAt.str_none i t
   |int j=>obtain⟨t',rfl⟩:=ry;exact EqAt.str_int i t j t'
   |str j=>obtain⟨t',rfl⟩:=ry;exact(show ZV (.str i) (.str j)=(i==j) from by rw[Bool.eq_iff_iff];simp[ZV]) ▸ EqAt.str_str i t j t'
   |_=>simp[okD]at hy
  |_=>simp[okD]at hx
 |succ n ih=>
  intro x y A vx vy ux uy hx hy hu dx dy rx ry;cases dx with
  |non=>
   cases rx;cases dy with
   |non=>cases ry;exact EqAt.same _
   |int j=>obtain⟨t',rfl⟩:=ry;exact EqAt.none_int j t'
   |str j=>obtain⟨t',rfl⟩:=ry;exact EqAt.none_str j t'
   |tup e r=>
    cases ry;obtain⟨its,_,p,_⟩:=I.tuple ((e).sq);exact EqAt.none_tuple p (by omega)
   |_=>simp[okD]at hy
  |int i=>
   obtain⟨t,rfl⟩:=rx;cases dy with
   |non=>cases ry;exact EqAt.int_none i t
   |int j=>obtain⟨t',rfl⟩:=ry;exact(show ZV (.int i) (.int j)=(i==j) from by rw[Bool.eq_iff_iff];simp[ZV]) ▸ EqAt.int_int i t j t'
   |str j=>obtain⟨t',rfl⟩:=ry;exact EqAt.int_str i t j t'
   |tup e r=>
    cases ry;obtain⟨its,_,p,_⟩:=I.tuple ((e).sq);exact EqAt.int_tuple i t p (by omega)
   |_=>simp[okD]at hy
  |str i=>
   obtain⟨t,rfl⟩:=rx;cases dy with
   |non=>cases ry;exact EqAt.str_none i t
   |int j=>obtain⟨t',rfl⟩:=ry;exact EqAt.str_int i t j t'
   |str j=>obtain⟨t',rfl⟩:=ry;exact(show ZV (.str i) (.str j)=(i==j) from by rw[Bool.eq_iff_iff];simp[ZV]) ▸ EqAt.str_str i t j t'
   |tup e r=>
    cases ry;obtain⟨its,_,p,_⟩:=I.tuple ((e).sq);exact EqAt.str_tuple i t p (by omega)
   |_=>simp[okD]at hy
  |@tup a xs ds e r=>
   cases rx;obtain⟨its,rv,p,_⟩:=I.tuple ((e).sq);cases dy with
   |non=>cases ry;exact EqAt.tuple_none p (by omega)
   |int j=>obtain⟨t',rfl⟩:=ry;exact EqAt.tuple_int j t' p (by omega)
   |str j=>obtain⟨t',rfl⟩:=ry;exact EqAt.tuple_str j t' p (by omega)
   |@tup b ys es e' r'=>
    cases ry;by_cases hab:a=b
    ·subst hab
     have z:=Den.inj (fun _ _ _ e e2=>I.tuple_inj e.sq e2.sq) (n:=n+1) (m:=n+1) hx hy (Den.tup e r) (Den.tup e' r')
     cases z;rw[UK hx];exact EqAt.same _
    ·obtain⟨its',rv',p',_⟩:=I.tuple ((e').sq)
     refine EqAt.of_refs hab ?_;have q:=RcAt.tuples (A:=A) (s:=s) (e:=fun i=>ZV ((ds[i]?).getD .non) ((es[i]?).getD .non)) p p' (by omega) fun j h1 h2=>?_
     ·have e1:its.toArray.size=ds.length:=by rw[List.size_toArray,<-rv.length,r.length]
      have e2:its'.toArray.size=es.length:=by rw[List.size_toArray,<-rv'.length,r'.length]
      rw[e1,e2]at q;show RcAt A s (.ref a) (.ref b) (ZY ds es);rw[Y4];exact q
     ·have l1:j < ds.length:=by rw[<-r.length,rv.length];simpa using h1
      have l2:j < es.length:=by rw[<-r'.length,rv'.length];simpa using h2
      have g1:ds[j]?=some ds[j]:=Lg l1;have g2:es[j]?=some es[j]:=Lg l2;obtain⟨v1,q1,d1⟩:=r.get g1;obtain⟨v2,q2,d2⟩:=r'.get g2;obtain⟨u1,w1,r1⟩:=rv.get q1;obtain⟨u2,w2,r2⟩:=rv'.get q2;have f1:its.toArray[j]=u1:=by
       have:its[j]?=some (its[j]'(by simpa using h1)):=Lg _
       rw[w1]at this;simpa using(Option.some.inj this).symm
      have f2:its'.toArray[j]=u2:=by
       have:its'[j]?=some (its'[j]'(by simpa using h2)):=Lg _
       rw[w2]at this;simpa using(Option.some.inj this).symm
      rw[f1,f2,g1,g2];exact ih ds[j] es[j] A.in1 v1 v2 u1 u2 (XB hx g1) (XB hy g2) (by show A.units+1+n < cLine;omega) d1 d2 r1 r2
   |_=>simp[okD]at hy
  |_=>simp[okD]at hx
open PySem.SeqAt in
theorem Zaw{pQ:Li (Ad×Obj)}{σ:L2.St}{s:Sd}(I:Inv X pQ σ H s){n:Nat}{A:Around}{a b:Ad}{xs ys:Li V}{ds es:Li D}{its its':Li vL}(hx:Y0 n ds=true)(hy:Y0 n es=true)(hu:A.units+n+1 < cLine)(r:Dens X.K ad H xs ds)(r':Dens X.K ad H ys es)(rv:Vals xs its)(rv':Vals ys its')(j:Nat)(h1:j < its.toArray.size)(h2:j < its'.toArray.size):EqAt A.in1 s its.toArray[j] its'.toArray[j] (ZV ((ds[j]?).getD .non) ((es[j]?).getD .non)):=by
 have l1:j < ds.length:=by rw[<-r.length,rv.length];simpa using h1
 have l2:j < es.length:=by rw[<-r'.length,rv'.length];simpa using h2
 have g1:ds[j]?=some ds[j]:=Lg l1;have g2:es[j]?=some es[j]:=Lg l2;obtain⟨v1,q1,d1⟩:=r.get g1;obtain⟨v2,q2,d2⟩:=r'.get g2;obtain⟨u1,w1,r1⟩:=rv.get q1;obtain⟨u2,w2,r2⟩:=rv'.get q2;have f1:its.toArray[j]=u1:=by
  have:its[j]?=some (its[j]'(by simpa using h1)):=Lg _
  rw[w1]at this;simpa using(Option.some.inj this).symm
 have f2:its'.toArray[j]=u2:=by
  have:its'[j]?=some (its'[j]'(by simpa using h2)):=Lg _
  rw[w2]at this;simpa using(Option.some.inj this).symm
 rw[f1,f2,g1,g2];exact ZiQ I n ds[j] es[j] A.in1 v1 v2 u1 u2 (XB hx g1) (XB hy g2) (by show A.units+1+n < cLine;omega) d1 d2 r1 r2
open PySem.SeqAt in
theorem Zg8{pQ:Li (Ad×Obj)}{σ:L2.St}{s:Sd}(I:Inv X pQ σ H s){n:Nat}{A:Around}{a b:Ad}{xs ys:Li V}{ds es:Li D}(hx:Y0 n ds=true)(hy:Y0 n es=true)(hu:A.units+n+1 < cLine)(e:TupAt X.K H a xs)(r:Dens X.K ad H xs ds)(e':TupAt X.K H b ys)(r':Dens X.K ad H ys es):RcAt A s (.ref a) (.ref b) (ZY ds es)/\RcNeAt A s (.ref a) (.ref b) (!ZY ds es):=by
 obtain⟨its,rv,p,_⟩:=I.tuple (e.sq);obtain⟨its',rv',p',_⟩:=I.tuple (e'.sq);have e1:its.toArray.size=ds.length:=by rw[List.size_toArray,<-rv.length,r.length]
 have e2:its'.toArray.size=es.length:=by rw[List.size_toArray,<-rv'.length,r'.length]
 have q:=RcAt.tuples (A:=A) (s:=s) (e:=fun i=>ZV ((ds[i]?).getD .non) ((es[i]?).getD .non)) p p' (by omega) fun j h1 h2=>Zaw (a:=a) (b:=b) I hx hy hu r r' rv rv' j h1 h2
 have q':=RcNeAt.tuples (A:=A) (s:=s) (e:=fun i=>ZV ((ds[i]?).getD .non) ((es[i]?).getD .non)) p p' (by omega) fun j h1 h2=>Zaw (a:=a) (b:=b) I hx hy hu r r' rv rv' j h1 h2
 rw[e1,e2]at q q';rw[Y4];exact⟨q,q'⟩
end
end Dp



namespace Dp
open PySem PySem.Spec PyProof.Rows L2 Builtin Builtin.Str
variable [ClsTab]
section
variable {X:Cx}{tg:Expr}
noncomputable def Itx(x:Str):It:=⟨fun i _=>i < x.cps.size,fun i H v H'=>H'=H/\∃ c,x.cps[i]?=some c/\v=.str ⟨#[c]⟩,fun i _=>x.cps.size<=i⟩
theorem Zfj{P:Program}{w:World}{K:Fg}(x:Str)(t:Tok)(it:Ad):Turn P w K tg (Itx x) [it] it (fun i h=>h.IsStrIter it "str_ascii_iterator" x t i) where
 mem:=by simp
 obj:=fun i h st b hb=>by
  have e:b=it:=by simpa using hb
  subst e;obtain⟨o,e,c,d⟩:=st;exact⟨o,e,fun v z=>by rw[d]at z;cases z⟩
 keep:=fun i h h' st k=>by
  obtain⟨o,e,c⟩:=st;exact⟨o,k it (by simp) o e,c⟩
 item:=by
  intro X hP hw hK hc i pQ s σ H E I hf st hg;subst hP hw hK;have hg:i < x.cps.size:=hg;have hx:x.cps[i]?=some x.cps[i]:=Array.getElem?_eq_getElem hg;obtain⟨f0,f1,f2,f3,f4,f5⟩:=hf it (by simp)
  refine wpAny_pyNext_ascii_item st hx fun h' st' sb=>?_
  have I1:Inv X pQ σ H { s with heap:=h',toks:=s.toks+1 }:=I.turned (t':=s.toks+1) (fun b o hb e=>(sb.2 b hb).trans e) f0 f1 f3 f4 f5
  obtain⟨o,e,c,d⟩:=id st';exact⟨_,rfl,go_of (s:={ s with heap:=h',toks:=s.toks+1 }) e c d (by decide) ⟨.str ⟨#[x.cps[i]]⟩,H,I1,⟨_,rfl⟩,⟨rfl,_,hx,rfl⟩,st',fun b hb=>(hf b hb).1⟩⟩
 done:=by
  intro X hP hw hK hc i pQ s σ H E I hf st hg;subst hP hw hK;have hg:x.cps.size<=i:=hg;obtain⟨f0,f1,f2,f3,f4,f5⟩:=hf it (by simp)
  exact wpAny_pyNext_ascii_end (I.ok.hd hc) st (Array.getElem?_eq_none hg) fun h' eb=>⟨rfl,I.turned (t':=s.toks) (fun b o hb e=>eb b o hb e) f0 f1 f3 f4 f5⟩
 self:=fun _ _ _ _ _ st h=>wpAny_pyIter_striter_ascii st h
noncomputable def ZkJ(tl:TE):TI:=fun σ H R=>tl σ H fun x H1=>∃ z,x=.str z/\z.cps.all (fun c=>decide (c < 128))=true/\R (Itx z) H1
theorem Zjq{l:Expr}{tl:TE}(hl:PE X l tl):PI X tg l (ZkJ tl):=by
 intro pQ s σ H R I h;refine thn (hl pQ s σ H _ I h) fun v s1 ⟨x,H1,I1,r1,q1⟩=>?_
 obtain⟨z,e,hz,q⟩:=q1;subst e;obtain⟨t,rfl⟩:=r1;refine wpAny_pyIter_ascii hz ?_;refine⟨s1.heap.objs.size,[s1.heap.objs.size],_,_,H1,rfl,I1.kept (t':=s1.toks) fun b o e=>Heap.get?_push_of_some _ e,Zfj z t _,⟨_,Heap.get?_push_size _ rfl,rfl,rfl⟩,fun b hb=>?_,q⟩
 have e:b=s1.heap.objs.size:=by simpa using hb
 subst e;exact I1.fpOk (Nat.le_refl _) (I1.hok.fresh (Nat.le_refl _))
theorem ZcU{xs:Li Nat}{a m:Nat}(h:a+m<=xs.length):((List.range m).map fun k=>a+k).filterMap (xs[·]?)=(xs.drop a).take m:=by
 apply List.ext_getElem?
 intro i
 induction m generalizing a i with
 |zero=>simp
 |succ m ih=>
  have ha:a < xs.length:=by omega
  rw[List.range_succ_eq_map,List.map_cons,List.map_map,List.filterMap_cons_some (b:=xs[a]) (by simp[ha]),List.drop_eq_getElem_cons ha,List.take_succ_cons]
  cases i with
  |zero=>rfl
  |succ i=>
   rw[List.getElem?_cons_succ,List.getElem?_cons_succ,<-ih (a:=a+1) (by omega) i]
   congr 2
   apply List.map_congr_left
   intro k _;show a+(k+1)=a+1+k;omega
theorem clip_eq(n d:Nat)(o:Ot Int)(hd:d<=n):(match o with
  |none=>(d:Int)
  |some i=>max 0 (min (if i < 0 then i+(n:Int) else i) (n:Int)))=((Dp.sIx n d o:Nat):Int)/\Dp.sIx n d o<=n:=by
 cases o with
 |none=>exact⟨rfl,hd⟩
 |some i=>
  show max 0 (min (if i < 0 then i+(n:Int) else i) (n:Int))=((if i < 0 then (i+n).toNat else Nat.min i.toNat n:Nat):Int)/\(if i < 0 then (i+n).toNat else Nat.min i.toNat n)<=n
  by_cases h:i < 0
  ·rw[if_pos h,if_pos h];omega
  ·rw[if_neg h,if_neg h]
   show max 0 (min i (n:Int))=((min i.toNat n:Nat):Int)/\min i.toNat n<=n;omega
theorem ZjX(x:Str)(lo hi:Ot Int):((strSliceIndices lo hi 1 x.length).filterMap (x.cps[·]?))=(x.cps.toList.drop (Dp.sIx x.length 0 lo)).take (Dp.sIx x.length x.length hi - Dp.sIx x.length 0 lo):=by
 obtain⟨e1,l1⟩:=clip_eq x.length 0 lo (Nat.zero_le _);obtain⟨e2,l2⟩:=clip_eq x.length x.length hi (Nat.le_refl _);have hl:x.cps.toList.length=x.length:=Array.length_toList;generalize Dp.sIx x.length 0 lo=a at *
 generalize Dp.sIx x.length x.length hi=b at *
 have e:strSliceIndices lo hi 1 x.length=sliceRange (a:Int) (b:Int) 1:=by
  rw[<-e1,<-e2];rfl
 rw[e];have er:sliceRange (a:Int) (b:Int) 1=(List.range (b - a)).map fun k=>a+k:=by
  have ec:(if (a:Int) < (b:Int) then ((b:Int) - (a:Int)+1 - 1) / 1 else 0).toNat=b - a:=by
   split
   ·rw[Int.ediv_one];omega
   ·show 0=b - a;omega
  show(List.range (if (a:Int) < (b:Int) then ((b:Int) - (a:Int)+1 - 1) / 1 else 0).toNat).map (fun(k:Nat)=>((a:Int)+1 * (k:Int)).toNat)=_
  rw[ec];apply List.map_congr_left
  intro k _;omega
 have ea:(fun i:Nat=>x.cps[i]?)=fun i=>x.cps.toList[i]?:=by funext i;simp
 rw[er,ea];by_cases hab:a<=b
 ·exact ZcU (by omega)
 ·rw[show b - a=0 by omega];simp
theorem ZdA{x:Str}{lo hi:Ot Int}(h:(strSliceIndices lo hi 1 x.length).length=x.length):Qr x lo hi=x:=by
 obtain⟨e1,l1⟩:=clip_eq x.length 0 lo (Nat.zero_le _);obtain⟨e2,l2⟩:=clip_eq x.length x.length hi (Nat.le_refl _);have hl:x.cps.toList.length=x.length:=Array.length_toList;unfold Qr;generalize Dp.sIx x.length 0 lo=a at *
 generalize Dp.sIx x.length x.length hi=b at *
 have e:strSliceIndices lo hi 1 x.length=sliceRange (a:Int) (b:Int) 1:=by
  rw[<-e1,<-e2];rfl
 rw[e]at h;have h:((List.range (if (a:Int) < (b:Int) then ((b:Int) - (a:Int)+1 - 1) / 1 else 0).toNat).map (fun(k:Nat)=>((a:Int)+1 * (k:Int)).toNat)).length=x.length:=h
 rw[List.length_map,List.length_range]at h;have hk:(x.cps.toList.drop a).take (b - a)=x.cps.toList:=by
  split at h
  ·rw[Int.ediv_one]at h
   have:a=0:=by omega
   subst this;rw[List.drop_zero,List.take_of_length_le (by omega)]
  ·have:x.cps.toList=[]:=List.eq_nil_of_length_eq_zero (by have:(0:Int).toNat=0:=rfl;omega)
   rw[this];simp
 rw[hk]
theorem ZjY:SlR X (fun x lo hi H Q=>∃ z,x=.str z/\z.length<=sizeLine/\Q (.str (Qr z lo hi)) H):=by
 intro pQ s σ H x v vl vu lo hi sl Q I rx hs pl pu h;obtain⟨z,rfl,hz,q⟩:=h;obtain⟨t,rfl⟩:=rx;have pv:∀ {v:vL}{o:Ot Int},IsPart v o->∃ l:Ot (Int×Tok),v=partValue l/\l.map (·.1)=o:=fun {v o} p=>by
  cases p with
  |none=>exact⟨none,rfl,rfl⟩
  |int i t=>exact⟨some (i,t),rfl,rfl⟩
 obtain⟨l,rfl,el⟩:=pv pl;obtain⟨u,rfl,eu⟩:=pv pu;refine⟨"str",_,slot_str_getitem.lookup,typeIs_str s z t,wpAny_getItem_str_slice (l:=l) (u:=u) (st:=none) hs rfl ?_⟩;unfold sliceMade slicePicked;rw[el,eu];show(if ((1:Int)==1&&(strSliceIndices lo hi 1 z.length).length==z.length)=true then Made.val (.str z t) else Made.str ⟨((strSliceIndices lo hi 1 z.length).filterMap (z.cps[·]?)).toArray⟩).post _ s
 by_cases hw:((1:Int)==1&&(strSliceIndices lo hi 1 z.length).length==z.length)=true
 ·rw[if_pos hw]
  have hw':(strSliceIndices lo hi 1 z.length).length=z.length:=by simpa using hw
  rw[ZdA hw']at q;exact⟨.str z,H,I,⟨t,rfl⟩,q⟩
 ·rw[if_neg hw,ZjX]
  refine⟨?_,.str (Qr z lo hi),H,I.tok _,⟨_,rfl⟩,q⟩;have:((z.cps.toList.drop (Dp.sIx z.length 0 lo)).take (Dp.sIx z.length z.length hi - Dp.sIx z.length 0 lo)).length<=z.cps.toList.length:=by
   rw[List.length_take,List.length_drop];omega
  have hl:z.cps.toList.length=z.length:=Array.length_toList;show(List.toArray _).size<=_;rw[List.size_toArray];omega
theorem ZdP{l:Li Nat}(h:V0 l=true):PySem.NumText.AllDigits l/\l≠[]/\l.length<=600:=by
 unfold V0 at h;simp only[Ba,decide_eq_true_eq,Bool.not_eq_true',List.isEmpty_eq_false_iff,List.all_eq_true]at h;refine⟨fun c hc=>?_,h.1.1,h.2⟩
 have:=h.1.2 c hc;unfold UD at this;simpa using this
theorem Zee{x:Str}{i:Int}(h:Wp x=some i):PySem.intText? x=some i/\x.length<=640:=by
 have hl:x.cps.toList.length=x.length:=Array.length_toList;unfold Wp at h;split at h
 ·rename_i r e
  split at h
  ·rename_i hf
   cases h;obtain⟨h1,h2,h3⟩:=ZdP hf;have hx:x.length<=601:=by rw[<-hl,e,List.length_cons];omega
   exact⟨PySem.intText_neg e h1 h2 (by omega),by omega⟩
  ·exact Zb h
 ·rename_i l _
  split at h
  ·rename_i hf
   cases h;obtain⟨h1,h2,h3⟩:=ZdP hf;have hx:x.length<=601:=by rw[<-hl];omega
   exact⟨PySem.intText_digits h1 h2 (by omega),by omega⟩
  ·exact Zb h
theorem Zcb:CallR X (.type "int") (fun xs H Q=>∃ x i,xs=[.str x]/\Wp x=some i/\Q (.int i) H):=by
 intro pQ s σ H xs us Q I r h;obtain⟨x,i,rfl,hi,q⟩:=h;obtain⟨u,rfl,t,rfl⟩:=vals1 r;obtain⟨h1,h2⟩:=Zee hi;exact PySem.W.KIN.call_text h1 h2 ⟨.int i,H,I.tok _,⟨_,rfl⟩,q⟩
theorem Zcg:CallR X (.type "str") (fun xs H Q=>∃ i,xs=[.int i]/\ZE i=true/\Q (.str (Str.ofString (toString i))) H):=by
 intro pQ s σ H xs us Q I r h;obtain⟨i,rfl,hi,q⟩:=h;obtain⟨u,rfl,t,rfl⟩:=vals1 r;refine PySem.P.str_of_int ?_ ⟨.str (Str.ofString (toString i)),H,I.tok _,⟨_,rfl⟩,q⟩;unfold ZE at hi;simp only[Ba,decide_eq_true_eq]at hi;by_cases h0:i.natAbs=0
 ·rw[h0];decide
 ·have:i.natAbs < 2 ^ 64:=by omega
  have:=(Nat.log2_lt h0).mpr this;omega
theorem ZcP:MtR X "str.startswith" (fun x xs H Q=>∃ z y,x=.str z/\xs=[.str y]/\Q (.bl (stW z y)) H):=by
 intro pQ s σ H x xs v us Q I rx r h;obtain⟨z,y,rfl,rfl,q⟩:=h;obtain⟨t,rfl⟩:=rx;obtain⟨u,rfl,t',rfl⟩:=vals1 r;refine PySem.SC.startswith ⟨.bl (stW z y),H,I,?_,q⟩;show Value.bool _=Value.bool _
 congr 1
 show(decide (0+y.length<=z.length)&&z.cps.extract 0 (0+y.length)==y.cps)=(z.cps.toList.take y.cps.toList.length==y.cps.toList);have hl:z.cps.toList.length=z.length:=Array.length_toList;have hy:y.cps.toList.length=y.length:=Array.length_toList;have ee:(z.cps.extract 0 (0+y.length)).toList=z.cps.toList.take y.length:=by simp
 rw[hy,Bool.eq_iff_iff,Ba,decide_eq_true_eq,beq_iff_eq,beq_iff_eq,<-ee];constructor
 ·rintro⟨_,h⟩;rw[h]
 ·intro h
  have h':=Array.ext' h;refine⟨?_,h'⟩;have:=congrArg List.length h;rw[ee,List.length_take,hy]at this;omega
theorem V4{s:Str}:∀ (xs:Li Str) (n:Nat),xs.foldl (fun a p=>a+p.length+s.length) n=n+(Yx s xs).length
 |[],n=>rfl
 |x :: xs,n=>by
  rw[List.foldl_cons,V4 xs];show _=n+((s.cps.toList++x.cps.toList)++Yx s xs).length;have hx:x.cps.toList.length=x.length:=Array.length_toList;have hs:s.cps.toList.length=s.length:=Array.length_toList;rw[List.length_append,List.length_append,hx,hs];omega
theorem VV{s:Str}:∀ (xs:Li Str) (acc:Array Nat),xs.foldl (fun acc p=>acc++s.cps++p.cps) acc=(acc.toList++Yx s xs).toArray
 |[],acc=>by simp[Yx]
 |x :: xs,acc=>by
  rw[List.foldl_cons,VV xs];simp[Yx]
theorem US{s:Str}(xs:Li Str):glued s xs=⟨(X2 s xs).toArray⟩:=by
 cases xs with
 |nil=>rfl
 |cons x xs=>
  unfold glued;rw[List.drop_one,List.tail_cons,List.headD_cons,VV];rfl
theorem VU{s:Str}(h:s.length=0):∀ (xs:Li Str),Yx s xs=Qp xs
 |[]=>rfl
 |x :: xs=>by
  have hs:s.cps.toList=[]:=List.eq_nil_of_length_eq_zero (Array.length_toList.trans h);show(s.cps.toList++x.cps.toList)++Yx s xs=x.cps.toList++Qp xs;rw[hs,VU h xs];rfl
theorem ZdU{s:Str}(h:s.length=0)(xs:Li Str):X2 s xs=Qp xs:=by
 cases xs with
 |nil=>rfl
 |cons x xs=>show x.cps.toList++Yx s xs=x.cps.toList++Qp xs;rw[VU h]
theorem Qd:∀ {ys:Li Str}{its:Li vL},Vals (ys.map V.str) its->∃ l:Li (Str×Tok),its=strValues l/\l.map (·.1)=ys
 |[],_,.nil=>⟨[],rfl,rfl⟩
 |y :: ys,_,.cons ⟨t,e⟩ r=>by
  obtain⟨l,rfl,h⟩:=Qd r;exact⟨(y,t) :: l,by rw[e];rfl,by rw[List.map_cons,h]⟩
theorem ZgK:MtR X "str.join" (fun x xs H Q=>∃ z a ys,x=.str z/\xs=[.ref a]/\SqL X.K H a (ys.map V.str)/\(Yx z ys).length<=Zd/\Q (.str ⟨(X2 z ys).toArray⟩) H):=by
 intro pQ s σ H x xs v us Q I rx r h;obtain⟨z,a,ys,rfl,rfl,sq,hl,q⟩:=h;obtain⟨t,rfl⟩:=rx;obtain⟨u,rfl,r1⟩:=vals1 r;cases r1;obtain⟨its,rv,p,hn⟩:=I.list sq;obtain⟨l,rfl,el⟩:=Qd rv;refine PySem.SC.join p.isList el ?_ fun t' k=>⟨.str ⟨(X2 z ys).toArray⟩,H,I.tok _,⟨t',?_⟩,q⟩
 ·unfold JoinOk tooLong
  rw[List.foldl_toArray,V4];have:Zd<=sizeLine:=by decide
  simp;omega
 ·show Value.str (glued z ys) t'=_
  rw[US]
theorem Jw{s:Str}(h:s.length=1):∀ xs:Li Str,xs.length<=(Yx s xs).length
 |[]=>Nat.zero_le _
 |x :: r=>by
  have:=Jw h r;have e:s.cps.toList.length=1:=by rw[Array.length_toList];exact h
  show r.length+1<=((s.cps.toList++x.cps.toList)++Yx s r).length;rw[List.length_append,List.length_append];omega
theorem JD{s:Str}(xs:Li Str):Str.join s xs=⟨(X2 s xs).toArray⟩:=by rw[<-StrLaws.glued_eq_join];exact US xs
theorem Qc{x y:Str}(h:y.length=1):(Txt.split x y).length<=x.length+1:=by
 have e:=congrArg (fun z:Str=>z.cps.toList.length) (StrLaws.join_split x y)
 simp only[JD]at e;cases q:Txt.split x y with
 |nil=>exact Nat.zero_le _
 |cons a r=>
  rw[q]at e;have g:=Jw h r;have e:(a.cps.toList++Yx y r).length=x.cps.toList.length:=e;rw[List.length_append,Array.length_toList]at e;show r.length+1<=x.cps.size+1;rw[<-Array.length_toList];omega
theorem Zfe{x y:Str}(h:y.length=1):Txt.split x y=WW x y:=by
 obtain⟨⟨l⟩⟩:=y;obtain⟨c,rfl⟩:∃ c,l=[c]:=by
  match l,(show l.length=1 from h) with
  |[c],_=>exact⟨c,rfl⟩
 have e:=StrLaws.join_split x ⟨#[c]⟩;have f:=StrLaws.split_free x c;have n:Txt.split x ⟨#[c]⟩≠[]:=by
  unfold Txt.split;split
  ·exact List.cons_ne_nil _ _
  ·split
   ·exact List.cons_ne_nil _ _
   ·unfold partsBetween
    cases occurrences x ⟨#[c]⟩ 0 x.length (x.length+1)<;>exact List.cons_ne_nil _ _
 generalize Txt.split x ⟨#[c]⟩=L at e f n;have h0:x.cps.toList=X2 ⟨#[c]⟩ L:=by rw[JD]at e;rw[<-e]
 have g:=Uo n f;show L=(X4 c x.cps.toList).map fun l=>⟨l.toArray⟩
 rw[h0,g,List.map_map];exact(List.map_id L).symm
theorem J5:∀ l:Li (Str×Tok),Vals ((l.map (·.1)).map V.str) (strValues l)
 |[]=>.nil
 | (y,t) :: l=>.cons ⟨t,rfl⟩ (J5 l)
theorem ZcY{prog:Program}{w:World}{A:Around}{E:vL->Sd->Prop}{s:Sd}{x y:Str}{t u:Tok}{Q:vL->Sd->Prop}(hy:y.length=1)(hz:x.length<=Zd)(hq:∀ (l:Li (Str×Tok)) (k:Nat),l.map (·.1)=Txt.split x y->Q (.ref s.heap.objs.size) { s with heap:=s.heap.push { cls:=.type "list",data:=.seq (strValues l).toArray },toks:=k }):wpAny (model prog w) A (call (.builtin "str.split") [.str x t,.str y u]) Q E s:=by
 have hy0:(y.length==0)=false:=by rw[hy];rfl
 have hs:x.length<=sizeLine:=Nat.le_trans hz (by decide)
 have hl:=Qc (x:=x) hy;cases h1:(decide (x.length < y.length)||decide (strKind x < strKind y)) with
 |true=>exact call_meets F.slot_str_split (typeIs_str _ _ _) F.entry_str_split (F.args_str_split_2 _ _) (meets_str_split_cannot_occur x y t u h1) (hq [(x,t)] s.toks (if_pos h1).symm)
 |false=>
  cases hf:(occurrences x y 0 x.length (x.length+1)).isEmpty with
  |true=>exact call_meets F.slot_str_split (typeIs_str _ _ _) F.entry_str_split (F.args_str_split_2 _ _) (meets_str_split_not_found x y t u h1 hy0 hf) (hq [(x,t)] s.toks ((if_neg (ne_true_of_eq_false h1)).trans (if_pos hf)).symm)
  |false=>
   have e:Txt.split x y=partsBetween x (occurrences x y 0 x.length (x.length+1)) y.length:=(if_neg (ne_true_of_eq_false h1)).trans (if_neg (ne_true_of_eq_false hf));refine call_meets F.slot_str_split (typeIs_str _ _ _) F.entry_str_split (F.args_str_split_2 _ _) (meets_str_split_sep x y t u h1 hy0 hf hs (by rw[<-e];exact Nat.le_trans hl (Nat.le_trans (Nat.succ_le_succ hz) (by decide)))) ?_
   have g:=hq (numbered s.toks (Txt.split x y)) (s.toks+(Txt.split x y).length) (numbered_texts _ _);rw[e,<-strsFrom_eq]at g;exact g
theorem Zeq:MtR X "str.split" (fun x xs H Q=>∃ z y,x=.str z/\xs=[.str y]/\(y.length=1/\z.length<=Zd)/\∀ p,H p=none->Q (.ref p) (upd H p (.lst ((WW z y).map V.str)))):=by
 intro pQ s σ H x xs v us Q I rx r h;obtain⟨z,y,rfl,rfl,c,q⟩:=h;obtain⟨t,rfl⟩:=rx;obtain⟨u,rfl,t',rfl⟩:=vals1 r;refine ZcY c.1 c.2 fun l k e=>?_
 have fr:H s.heap.objs.size=none:=I.hok.fresh (Nat.le_refl _);rw[<-Zfe c.1]at q;have hl:=Qc (x:=z) c.1;refine⟨.ref s.heap.objs.size,_,I.laid (t':=k) (o:=.lst ((Txt.split z y).map V.str)) (fun b o q=>Heap.get?_push_of_some _ q) (Nat.le_refl _) ⟨by rw[List.length_map];exact Nat.le_trans hl (Nat.le_trans (Nat.succ_le_succ c.2) (by decide)),strValues l,_,by rw[<-e];exact J5 l,Heap.get?_push_size _ rfl⟩,rfl,q _ fr⟩
end
end Dp



namespace Dp
open PySem PySem.Spec PyProof.Rows L2
variable [ClsTab]
section
open Builtin
open AutoSeq1 (wpAny_loadPart')
end
theorem YS:Zd<=sizeLine:=by decide
section
variable {X:Cx}
theorem Zen{i:Int}(h:ZE i=true):-(2 ^ 64) < i/\i < 2 ^ 64:=by
 unfold ZE at h;rw[Ba]at h;exact⟨of_decide_eq_true h.1,of_decide_eq_true h.2⟩
theorem ZfW{pQ:Li (Ad×Obj)}{s:Sd}{σ:L2.St}{H:Hp}{a b:Ad}{xs ys:Li V}{Q:VK}(I:Inv X pQ σ H s)(ha:TupAt X.K H a xs)(hb:TupAt X.K H b ys)(hz:xs.length+ys.length<=sizeLine)(q0:xs=[]->Q (.ref b) H)(q1:ys=[]->Q (.ref a) H)(q2:∀ p,H p=none->Q (.ref p) (upd H p (.tup (xs++ys)))):wpAny (model X.prog X.w) X.A (binaryOp .Add (.ref a) (.ref b)) (EP X pQ σ Q) X.xe s:=by
 by_cases hx:xs=[]
 ·obtain⟨its,r1,p1,_⟩:=I.tuple (ha.sq)
  obtain⟨its2,r2,p2,_⟩:=I.tuple (hb.sq);have e1:its=[]:=r1.nil_iff.mpr hx;subst e1;obtain⟨⟨c1,dd,dt,sl⟩,ho,hc,n,hd⟩:=id p1;obtain⟨⟨c2,dd2,dt2,sl2⟩,ho2,hc2,n2,hd2⟩:=id p2;simp only at hc hd hc2 hd2;subst hc hd hc2 hd2;exact concat_meets ⟨_,ho,rfl⟩ ⟨_,ho2,rfl⟩ noFill_tuple_add seq_tuple_add PySem.F.slot_tuple_add PySem.F.entry_tuple_add (PySem.F.args_tuple_add_2 _ _)
   (tuple_addW0 a b #[] its2.toArray n n2 dd dd2 sl sl2 rfl) ⟨ho,ho2,⟨.ref b,H,I,rfl,q0 hx⟩⟩
 ·exact op_catT pQ s σ H (.ref a) (.ref b) _ _ Q I rfl rfl ⟨a,b,xs,ys,rfl,rfl,(ha).sq,(hb).sq,hx,hz,q1,fun _=>q2⟩
theorem ZgY{op:Operator}{i j k:Int}{pQ:Li (Ad×Obj)}{s:Sd}{σ:L2.St}{H:Hp}{v u:vL}{Q:VK}(I:L2.Inv X pQ σ H s)(rx:RelV (.int i) v)(ry:RelV (.int j) u)(e:Zaj op i j=some k)(p:Q (.int k) H) :
  wpAny (model X.prog X.w) X.A (binaryOp op v u) (EP X pQ σ Q) X.xe s:=by
 unfold Zaj at e;split at e
 ·cases e
  exact op_add pQ s σ H _ _ v u Q I rx ry ⟨_,_,rfl,rfl,p⟩
 ·cases e
  exact op_sub pQ s σ H _ _ v u Q I rx ry ⟨_,_,rfl,rfl,p⟩
 ·split at e
  ·rename_i hl
   cases e;refine op_mul pQ s σ H _ _ v u Q I rx ry ⟨_,_,rfl,rfl,?_,p⟩;rw[Bool.or_eq_true]at hl;exact hl.elim (fun z=>.inl (Zen z)) fun z=>.inr (Zen z)
  ·cases e
 ·split at e
  ·rename_i hl
   cases e;exact op_fdiv pQ s σ H _ _ v u Q I rx ry ⟨_,_,rfl,rfl,hl,p⟩
  ·split at e
   ·rename_i hl
    cases e;exact op_fdivN pQ s σ H _ _ v u Q I rx ry ⟨_,_,rfl,rfl,⟨by omega,by omega⟩,p⟩
   ·cases e
 ·split at e
  ·rename_i hl
   cases e;exact op_mod pQ s σ H _ _ v u Q I rx ry ⟨_,_,rfl,rfl,hl,p⟩
  ·split at e
   ·rename_i hl
    cases e;exact op_modN pQ s σ H _ _ v u Q I rx ry ⟨_,_,rfl,rfl,(by omega),p⟩
   ·cases e
 ·cases e
theorem Zc9{op:Operator}(h:VY op=true):op=.Add:=by cases op<;>first|rfl|cases h
theorem ZgX{op:Operator}:OpR X (binaryOp op) (rD X.K (Je op)):=by
 intro pQ s σ H x y v u Q I rx ry h;obtain⟨ad,st,dx,dy,d,st',S,hx,hy,e,p⟩:=h;unfold Je at e;split at e
 ·split at e
  ·rename_i k q
   cases e;cases hx;cases hy
   exact ZgY I rx ry q (p.at S (.int _))
  ·exact Zb e
 ·split at e
  ·rename_i hz0
   cases Zc9 hz0.1
   have hz:=hz0.2;cases e;obtain⟨a,xs,rfl,ha,r1⟩:=hx.ofTup;obtain⟨b,ys,rfl,hb,r2⟩:=hy.ofTup;cases rx;cases ry
   refine ZfW I ha hb (by rw[r1.length,r2.length];exact Nat.le_trans hz YS) (fun z=>?_) (fun z=>?_) fun q hq=>?_
   ·subst z;cases r1
    exact p.at S hy
   ·subst z;cases r2
    rw[List.append_nil]at p;exact p.at S hx
   ·exact p _ ad _ (Ext.laid hq) (S.laid hq) (.tup (.inl upd_same) ((r1.append r2).mono (Ext.laid hq)))
  ·exact Zb e
 ·split at e
  ·rename_i hz
   cases Zc9 hz.1
   cases e;cases hx;cases hy
   exact op_add_str pQ s σ H _ _ v u Q I rx ry ⟨_,_,rfl,rfl,Nat.le_trans hz.2 YS,p.at S (.str _)⟩
  ·exact Zb e
 ·exact Zb e
theorem ZhH:UnR X (unaryOp .USub) (rU1 X.K ZgN):=by
 intro pQ s σ H x v Q I rx h;obtain⟨ad,st,dx,d,st',S,hx,e,p⟩:=h;unfold ZgN at e;split at e
 ·cases e;cases hx
  exact un_neg pQ s σ H _ v Q I rx ⟨_,rfl,p.at S (.int _)⟩
 ·exact Zb e
theorem Zah{xs:Li V}{ds:Li D}{ad:Li Ad}{H:Hp}{i:Int}{d:D}(r:Dens X.K ad H xs ds)(e:atD ds i=some d):∃ v,atI xs i=some v/\Den X.K ad H v d:=by
 unfold atD at e;have hl:L2.ixN xs.length i=Dp.ixN ds.length i:=by rw[r.length];rfl
 cases q:Dp.ixN ds.length i with
 |none=>rw[q]at e;cases e
 |some j=>
  rw[q]at e;obtain⟨v,e1,e2⟩:=r.get (i:=j) e;refine⟨v,?_,e2⟩;unfold atI;rw[hl,q];exact e1
theorem V7{ad:Li Ad}{H:Hp}{k:Str}:∀ {ks:Li Str}{vs:Li V}{ds:Li D},Dens X.K ad H vs ds->ks.length=vs.length->
  (∃ v d,valV ((ks.zip vs).map fun p=>((Sum.inr p.1:Key),p.2)) (Sum.inr k)=some v/\ZT ks ds k=some d/\Den X.K ad H v d)\/(valV ((ks.zip vs).map fun p=>((Sum.inr p.1:Key),p.2)) (Sum.inr k)=none/\ZT ks ds k=none)
 |[],_,_,.nil,_=>.inr ⟨rfl,rfl⟩
 |[],_,_,.cons _ _,h=>by simp at h
 |_ :: _,_,_,.nil,h=>by simp at h
 |x :: ks,v :: vs,d :: ds,.cons hd r,h=>by
  by_cases e:x=k
  ·subst e
   exact .inl ⟨v,d,valV_pos rfl,by simp[ZT],hd⟩
  ·have ih:=V7 (k:=k) r (by simpa using h)
   have e1:valV (((x :: ks).zip (v :: vs)).map fun p=>((Sum.inr p.1:Key),p.2)) (Sum.inr k)=valV ((ks.zip vs).map fun p=>((Sum.inr p.1:Key),p.2)) (Sum.inr k):=valV_neg (p:=(Sum.inr x,v)) (by intro z;exact e (Sum.inr.inj z))
   have e2:ZT (x :: ks) (d :: ds) k=ZT ks ds k:=by simp[ZT,e]
   rw[e1,e2];exact ih
theorem ZdE{k:Str}{a:Nat}{st:Za}{o:Ot D}(h:dAt k a st=some o):∃ b xs,st[a]?=some (b,xs)/\Wf xs=false/\o=Yk xs k:=by
 unfold dAt at h;split at h
 ·rename_i b xs q
  split at h
  ·exact Zb h
  ·rename_i c
   cases h;exact⟨b,xs,q,Bool.eq_false_iff.mpr c,rfl⟩
 ·exact Zb h
theorem Zku{x:Str}{i:Int}{d:D}(q:atD ((chS x).map D.str) i=some d):∃ c,atI x.cps.toList i=some c/\d=.str ⟨#[c]⟩:=by
 unfold atD at q;unfold atI;have hl:((chS x).map D.str).length=x.cps.toList.length:=by simp[chS]
 rw[hl]at q;show ∃ c,(Dp.ixN x.cps.toList.length i).bind (fun j=>x.cps.toList[j]?)=some c/\_
 cases e:Dp.ixN x.cps.toList.length i with
 |none=>rw[e]at q;cases q
 |some j=>
  rw[e]at q;have q:((chS x).map D.str)[j]?=some d:=q;unfold chS at q;rw[List.getElem?_map,List.getElem?_map]at q;show ∃ c,x.cps.toList[j]?=some c/\_;cases e2:x.cps.toList[j]? with
  |none=>rw[e2]at q;cases q
  |some c=>rw[e2]at q;cases q;exact⟨c,rfl,rfl⟩
theorem Zl7(hu:X.A.units+64 < cLine):IxR X (rD X.K ixR):=by
 intro value slice pQ s σ H x y v u Q I rx ry h hs;obtain⟨ad,st,dx,dy,d,st',S,hx,hy,e,p⟩:=h;unfold ixR at e;split at e
 ·rename_i d' q
  cases e;unfold ixD at q;split at q
  ·obtain⟨a,xs,rfl,ha,r⟩:=hx.ofTup
   cases hy;obtain⟨w,e1,e2⟩:=Zah r q;exact ix_tup value slice pQ s σ H _ _ v u Q I rx ry ⟨a,xs,_,w,rfl,rfl,(ha).sq,e1,p.at S e2⟩ hs
  ·split at q
   ·rename_i q0
    obtain⟨a,rfl,ha⟩:=hx.ofLst;cases hy;obtain⟨xs,r,sq⟩:=S.list ha q0;obtain⟨w,e1,e2⟩:=Zah r q;exact ix_list value slice pQ s σ H _ _ v u Q I rx ry ⟨a,xs,_,w,rfl,rfl,sq,e1,p.at S e2⟩ hs
   ·exact Zb q
  ·obtain⟨a,vs,rfl,ha,hl,r⟩:=hx.ofDct
   cases hy;rcases V7 r hl with⟨w,d0,e1,e2,e3⟩|⟨_,e2⟩
   ·rw[e2]at q
    cases q;exact ix_dct value slice pQ s σ H _ _ v u Q I rx ry ⟨a,_,Sum.inr _,w,rfl,rfl,ha,e1,p.at S e3⟩ hs
   ·rw[e2]at q;cases q
  ·obtain⟨a,o,its,n,rfl,h1,h2,h3,h4,h5⟩:=hx.ofKt
   cases hy;obtain⟨w,e1,e2⟩:=Zah (WX _) q;exact ix_tup value slice pQ s σ H _ _ v u Q I rx ry ⟨a,_,_,w,rfl,rfl,.inr ⟨o,its,n,h1,h2.1,h3,h4,h5⟩,e1,p.at S e2⟩ hs
  ·refine j_e q fun q=>?_
   obtain⟨bb,es,q0,ob,q⟩:=ZdE q;obtain⟨a,rfl,ha,hn⟩:=hx.ofDic;obtain⟨kvs,r,hk,_⟩:=S.dict ha hn q0 ob;cases hy;rcases WI r with⟨w,d0,e1,e2,e3⟩|⟨_,e2⟩
   ·rw[e2]at q
    cases q;exact ix_dct value slice pQ s σ H _ _ v u Q I rx ry ⟨a,_,Sum.inr _,w,rfl,rfl,hk,e1.1,p.at S e3⟩ hs
   ·rw[e2]at q;cases q
  ·split at q
   ·rename_i hz
    cases hx;cases hy
    obtain⟨c,e1,rfl⟩:=Zku q;exact ix_str value slice pQ s σ H _ _ v u Q I rx ry ⟨_,_,c,rfl,rfl,Nat.le_trans hz YS,e1,p.at S (.str _)⟩ hs
   ·exact Zb q
  ·exact Zb q
 ·exact Zb e
theorem Y8(n d:Nat)(o:Ot Int):Dp.sIx n d o=HT.sIx n d o:=by cases o<;>rfl
theorem ZdB{xs:Li V}{ds:Li D}{ad:Li Ad}{H:Hp}{lo hi:Ot Int}(r:Dens X.K ad H xs ds):Dens X.K ad H (cutV xs lo hi) (Zcm ds lo hi):=by
 unfold cutV Zcm;rw[<-r.length,Y8,Y8];exact(r.drop _).take _
theorem UC{prog:Program}{w:World}{A:Around}{E:vL->Sd->Prop}{s:Sd}{t sl:Ad}{items:Array vL}{vl vu:vL}{lo hi:Ot Int}{Q:vL->Sd->Prop}(ht:IsTup s.heap t items)(hs:s.heap.IsSliceOf sl vl vu .none)(pl:IsPart vl lo)(pu:IsPart vu hi)(hw:HT.sIx items.size 0 lo=0/\HT.sIx items.size items.size hi=items.size)(h:Q (.ref t) s):wpAny (model prog w) A (getItem (.ref t) (.ref sl)) Q E s:=by
 obtain⟨os,hos,hcs,hds⟩:=id hs;have hTs:s.TypeIs (.ref sl) "slice":=⟨os,hos,hcs⟩;unfold getItem
 try with_reducible refine wpAny_holding ?_
 first|refine wpAny_bind (wpAny_pure ?_)|skip
 refine wpAny_bind (wpAny_sequenceKey ht.typeIs (by decide) ?_)
 refine wpAny_bind (wpAny_callSpecial?_slot (name:=Str.ofString "__getitem__") ht.typeIs PyProof.Rows.slot_tuple_getitem
  (wpAny_call_entry PyProof.Rows.slot_tuple_getitem ht.typeIs PyProof.Rows.entry_tuple_getitem ?_ (PyProof.Rows.args_tuple_getitem _ _)))
 show wpAny _ _ (Builtin.Tuple.tupleItemsOf (.ref t) >>= _) _ _ s;refine wpAny_bind (tupleItemsOf_ ht ?_);refine wpAny_bind (wpAny_typeOf hTs ?_);rw[if_pos (by decide)]
 refine wpAny_bind (HT.sliceApplied_gen hs pl pu ?_);rw[hw.1,hw.2];have hyes:(((0:Nat):Int)==0&&(1:Int)==1&&(items.size - 0)==items.size)=true:=by simp
 show wpAny _ _ (if (((0:Nat):Int)==0&&(1:Int)==1&&(items.size - 0)==items.size)=true then _ else _) _ _ s
 rw[if_pos hyes];unfold Builtin.Tuple.tupleIsExact
 wp_walk using wpAny_typeOf ht.typeIs

 exact⟨_,rfl,wpAny_pure h⟩
theorem Zfc:SlR X (fun x lo hi H Q=>∃ a xs,x=.ref a/\SqT X.K H a xs/\(HT.sIx xs.length 0 lo=0/\HT.sIx xs.length xs.length hi=xs.length)/\Q (.ref a) H):=by
 intro pQ s σ H x v vl vu lo hi sl Q I rx hs pl pu h;obtain⟨a,xs,rfl,hx,hw,q⟩:=h;cases rx;obtain⟨its,r,ht,hz⟩:=I.tuple hx;have hlen:its.toArray.size=xs.length:=by rw[List.size_toArray];exact r.length.symm
 refine⟨"tuple",_,PyProof.Rows.slot_tuple_getitem.lookup,ht.typeIs,?_⟩;exact UC ht hs pl pu (by rw[hlen];exact hw) ⟨.ref a,H,I,rfl,q⟩
theorem ZmP:SlR X (rSl X.K):=by
 intro pQ s σ H x v vl vu lo hi sl Q I rx hs pl pu h;obtain⟨ad,st,dx,d,st',S,hx,e,p⟩:=h;unfold Yn at e;split at e
 ·rename_i ds
  split at e
  ·rename_i hw
   cases e;obtain⟨a,xs,rfl,ha,r⟩:=hx.ofTup;refine Zfc pQ s σ H _ v vl vu lo hi sl Q I rx hs pl pu ⟨a,xs,rfl,ha.sq,?_,p.at S hx⟩;rw[r.length,<-Y8,<-Y8];exact hw
  ·rename_i hw
   cases e;obtain⟨a,xs,rfl,ha,r⟩:=hx.ofTup;refine sl_tup pQ s σ H _ v vl vu lo hi sl Q I rx hs pl pu ⟨a,xs,rfl,(ha).sq,?_,fun q hq=>p _ ad _ (Ext.laid hq) (S.laid hq) (.tup (.inl upd_same) ((ZdB r).mono (Ext.laid hq)))⟩
   rw[r.length,<-Y8,<-Y8];exact hw
 ·split at e
  ·rename_i q0
   cases e;obtain⟨a,rfl,ha⟩:=hx.ofLst;obtain⟨xs,r,sq⟩:=S.list ha q0;refine sl_list pQ s σ H _ v vl vu lo hi sl Q I rx hs pl pu ⟨a,xs,rfl,sq,fun q hq=>p _ (ad++[q]) _ (Ext.push hq) (S.push hq (ZdB r)) (.newL ?_)⟩
   rw[<-S.len];exact Z3
  ·exact Zb e
 ·split at e
  ·rename_i hz
   cases e;cases hx
   exact ZjY pQ s σ H _ v vl vu lo hi sl Q I rx hs pl pu ⟨_,rfl,Nat.le_trans hz YS,p.at S (.str _)⟩
  ·exact Zb e
 ·exact Zb e
theorem W5{ad:Li Ad}{H:Hp}{vs:Li V}{d:D}(h:Dens X.K ad H vs [d]):∃ v,vs=[v]/\Den X.K ad H v d:=by
 cases h with
 |cons h r=>cases r;exact⟨_,rfl,h⟩
theorem ZhU{ad:Li Ad}{H:Hp}{vs:Li V}{d e:D}(h:Dens X.K ad H vs [d,e]):∃ v w,vs=[v,w]/\Den X.K ad H v d/\Den X.K ad H w e:=by
 cases h with
 |cons h r=>
  cases r with
  |cons h' r=>cases r;exact⟨_,_,rfl,h,h'⟩
theorem YI{g:D->Za->Res}{ds:Li D}{st:Za}{r:D×Za}(h:on1 g ds st=some r):∃ d,ds=[d]/\g d st=some r:=by
 unfold on1 at h;split at h
 ·exact⟨_,rfl,h⟩
 ·exact Zb h
theorem U2{g:D->D->Za->Res}{ds:Li D}{st:Za}{r:D×Za}(h:on2 g ds st=some r):∃ d e,ds=[d,e]/\g d e st=some r:=by
 unfold on2 at h;split at h
 ·exact⟨_,_,rfl,h⟩
 ·exact Zb h
theorem Zcc:CallR X (.builtin "len") (rC X.K (on1 X3)):=by
 intro pQ s σ H xs us Q I r h;obtain⟨ad,st,ds,d,st',S,hd,e,p⟩:=h;obtain⟨x,rfl,e1⟩:=YI e;have e:=e1;obtain⟨v,rfl,hv⟩:=W5 hd;unfold X3 at e;split at e
 ·rename_i n q
  cases e;unfold ZcF at q;split at q
  ·cases q
   obtain⟨a,ys,rfl,ha,rr⟩:=hv.ofTup;refine call_len_seq pQ s σ H _ us Q I r ⟨a,ys,rfl,.inr ((ha).sq),?_⟩;rw[rr.length];exact p.at S (.int _)
  ·split at q
   ·rename_i q0
    cases q;obtain⟨a,rfl,ha⟩:=hv.ofLst;obtain⟨ys,rr,sq⟩:=S.list ha q0;refine call_len_seq pQ s σ H _ us Q I r ⟨a,ys,rfl,.inl sq,?_⟩;rw[rr.length];exact p.at S (.int _)
   ·cases q
  ·cases q
   obtain⟨a,o,its,n,rfl,h1,h2,h3,h4,h5⟩:=hv.ofKt;refine call_len_seq pQ s σ H _ us Q I r ⟨a,_,rfl,.inr (.inr ⟨o,its,n,h1,h2.1,h3,h4,h5⟩),?_⟩;rw[List.length_map];exact p.at S (.int _)
  ·split at q
   ·rename_i hz
    cases q;cases hv
    exact call_len pQ s σ H _ us Q I r ⟨_,_,rfl,⟨Nat.le_trans hz YS,rfl⟩,p.at S (.int _)⟩
   ·cases q
  ·split at q
   ·rename_i q0
    split at q
    ·cases q
    ·rename_i ob
     cases q;obtain⟨a,rfl,ha,hn⟩:=hv.ofDic;obtain⟨kvs,rr,hk,_⟩:=S.dict ha hn q0 (Bool.eq_false_iff.mpr ob);obtain⟨u,rfl,ru⟩:=vals1 r;cases ru;refine len_dK I hk ?_;rw[List.length_map,Xx rr];exact p.at S (.int _)
   ·cases q
  ·cases q
 ·exact Zb e
theorem Ji:CallR X (.type "tuple") (rC X.K (on1 XN)):=by
 intro pQ s σ H xs us Q I r h;obtain⟨ad,st,ds,d,st',S,hd,e,p⟩:=h;obtain⟨x,rfl,e1⟩:=YI e;have e:=e1;obtain⟨v,rfl,hv⟩:=W5 hd;unfold XN at e;split at e
 ·cases e
  obtain⟨a,ys,rfl,ha,rr⟩:=hv.ofTup;exact call_tuple_of pQ s σ H _ us Q I r ⟨a,ys,rfl,.inr ⟨(ha).sq,p.at S hv⟩⟩
 ·split at e
  ·rename_i q0
   cases e;obtain⟨a,rfl,ha⟩:=hv.ofLst;obtain⟨ys,rr,sq⟩:=S.list ha q0;exact call_tuple_of pQ s σ H _ us Q I r ⟨a,ys,rfl,.inl ⟨sq,fun l hl=>p _ ad _ (Ext.laid hl) (S.laid hl) (.tup (.inl upd_same) (rr.mono (Ext.laid hl)))⟩⟩
  ·cases e
 ·cases e
theorem Jg{ad:Li Ad}{H:Hp}:∀ {vs:Li V}{ds:Li D}{bs:Li Bool},Dens X.K ad H vs ds->Xr ds=some bs->vs=bs.map V.bl
 |_,_,_,.nil,e=>by cases e;rfl
 |_,_,bs,.cons (d:=d) h r,e=>by
  cases d with
  |bl b=>
   cases h;unfold Xr at e;cases q:Xr _ with
   |none=>rw[q]at e;cases e
   |some l=>rw[q]at e;cases e;rw[Jg r q];rfl
  |_=>simp[Xr]at e
theorem Ur:∀ {bs:Li Bool}{its:Li vL},Vals (bs.map V.bl) its->its=bs.map Value.bool
 |[],_,.nil=>rfl
 |b :: bs,_,.cons r t=>by cases r;rw[Ur t];rfl
theorem ZeY{nm:String}{f:Li Bool->Bool}(hw:∀ {prog:Program}{w:World}{A:Around}{E:vL->Sd->Prop}{s:Sd}{l:Ad}{bs:Li Bool}{Q:vL->Sd->Prop},A.handled=none->s.heap.IsList l (bs.map Value.bool).toArray->
   (∀ h' tk,(∀ b o,s.heap.get? b=some o->h'.get? b=some o)->Q (.bool (f bs)) { s with heap:=h',toks:=tk })->wpAny (model prog w) A (call (.builtin nm) [.ref l]) Q E s)(hc:X.calm=true):CallR X (.builtin nm) (rC X.K (on1 (WR f))):=by
 intro pQ s σ H xs us Q I r h;obtain⟨ad,st,ds,d,st',S,hd,e,p⟩:=h;obtain⟨x,rfl,e1⟩:=YI e;have e:=e1;obtain⟨v,rfl,hv⟩:=W5 hd;unfold WR at e;split at e
 ·split at e
  ·rename_i q0
   split at e
   ·rename_i bs q1
    cases e;obtain⟨a,rfl,ha⟩:=hv.ofLst;obtain⟨ys,rr,sq⟩:=S.list ha q0;cases r with
    |cons r r'=>
     cases r';cases r
     obtain⟨its,rv,pl,_⟩:=I.list sq;have eb:=Jg rr q1;subst eb;have ei:=Ur rv;subst ei;exact hw (I.ok.hd hc) pl.isList fun h' tk k=>⟨.bl _,H,I.kept (t':=tk) k,rfl,p.at S (.bl _)⟩
   ·exact Zb e
  ·exact Zb e
 ·exact Zb e
theorem ZgD{s:Sd}{h':Heap}{o:Obj}(hk:∀ b x,b∉[s.heap.objs.size]->(s.heap.push o).get? b=some x->h'.get? b=some x):∀ b x,s.heap.get? b=some x->h'.get? b=some x:=
 fun b x e=>hk b x (fun hm=>by rw[List.mem_singleton.mp hm]at e;exact Nat.lt_irrefl _ (Heap.lt_size e)) (Heap.get?_push_of_some _ e)
theorem ZfQ{bs:Li Bool}{i:Nat}{v:vL}(h:(bs.map Value.bool).toArray[i]?=some v):∃ b,bs[i]?=some b/\v=.bool b:=by
 rw[List.getElem?_toArray,List.getElem?_map]at h;cases q:bs[i]? with
 |none=>rw[q]at h;cases h
 |some b=>rw[q]at h;cases h;exact⟨b,rfl,rfl⟩
theorem Zkn{prog:Program}{w:World}{A:Around}{E:vL->Sd->Prop}{s:Sd}{l:Ad}{bs:Li Bool}{Q:vL->Sd->Prop}(hh:A.handled=none)(hl:s.heap.IsList l (bs.map Value.bool).toArray)(h:∀ h' tk,(∀ b o,s.heap.get? b=some o->h'.get? b=some o)->Q (.bool (bs.all id)) { s with heap:=h',toks:=tk }):wpAny (model prog w) A (call (.builtin "all") [.ref l]) Q E s:=by
 have hlt:l < s.heap.objs.size:=by obtain⟨_,e,_⟩:=hl;exact Heap.lt_size e
 refine call_all_walk (wpAny_pyIter_list hl ?_);refine⟨s.heap.objs.size,[s.heap.objs.size,l],[s.heap.objs.size],(bs.map Value.bool).toArray.size,_,_,fun i=>(bs[i]?).getD true,rfl,Walks.list (A:=A.in1) hh _ l (Nat.ne_of_lt hlt) _,
  ⟨⟨_,Heap.get?_push_size _ rfl,rfl,rfl⟩,hl.push _⟩,fun i v s' Q' E' hP hQ=>?_,fun h' tk hk=>?_⟩
 ·obtain⟨b,e,rfl⟩:=ZfQ hP
  simp only[e,Option.getD_some]at hQ;exact wpAny_truthy_bool hQ
 ·have e:((List.range (bs.map Value.bool).toArray.size).all fun i=>(bs[i]?).getD true)=bs.all id:=by
   rw[List.size_toArray,List.length_map,Bool.eq_iff_iff,List.all_eq_true,List.all_eq_true];constructor
   ·intro z b hb
    obtain⟨i,hi,rfl⟩:=List.getElem_of_mem hb;have:=z i (List.mem_range.mpr hi);simp only[Lg hi,Option.getD_some]at this;exact this
   ·intro z i hi
    have hi':=List.mem_range.mp hi;simp only[Lg hi',Option.getD_some];exact z _ (List.getElem_mem hi')
  rw[e];exact h h' tk (ZgD hk)
theorem Zca:CallR X (.type "int") (rC X.K (on1 Zec)):=by
 intro pQ s σ H xs us Q I r h;obtain⟨ad,st,ds,d,st',S,hd,e,p⟩:=h;obtain⟨x,rfl,e1⟩:=YI e;have e:=e1;obtain⟨v,rfl,hv⟩:=W5 hd;unfold Zec at e;split at e
 ·cases e;cases hv
  exact call_int1 pQ s σ H _ us Q I r (.inl ⟨_,rfl,p.at S (.int _)⟩)
 ·cases e;cases hv
  exact call_int1 pQ s σ H _ us Q I r (.inr ⟨true,rfl,p.at S (.int _)⟩)
 ·cases e;cases hv
  exact call_int1 pQ s σ H _ us Q I r (.inr ⟨false,rfl,p.at S (.int _)⟩)
 ·split at e
  ·rename_i i hi
   cases e;cases hv
   exact Zcb pQ s σ H _ us Q I r ⟨_,i,rfl,hi,p.at S (.int _)⟩
  ·exact Zb e
 ·exact Zb e
theorem Zcf:CallR X (.type "str") (rC X.K (on1 J3)):=by
 intro pQ s σ H xs us Q I r h;obtain⟨ad,st,ds,d,st',S,hd,e,p⟩:=h;obtain⟨x,rfl,e1⟩:=YI e;have e:=e1;obtain⟨v,rfl,hv⟩:=W5 hd;unfold J3 at e;split at e
 ·split at e
  ·rename_i hi
   cases e;cases hv
   exact Zcg pQ s σ H _ us Q I r ⟨_,rfl,hi,p.at S (.str _)⟩
  ·exact Zb e
 ·exact Zb e
theorem Zce(hc:X.calm=true):CallR X (.builtin "min") (rC X.K (on2 ZgJ)):=by
 intro pQ s σ H xs us Q I r h;obtain⟨ad,st,ds,d,st',S,hd,e,p⟩:=h;obtain⟨x,y,rfl,e1⟩:=U2 e;have e:=e1;obtain⟨v,w,rfl,hv,hw⟩:=ZhU hd;unfold ZgJ at e;split at e
 ·cases e;cases hv;cases hw
  exact call_min2 hc pQ s σ H _ us Q I r ⟨_,_,rfl,p.at S (.int _)⟩
 ·exact Zb e
theorem Zcd(hc:X.calm=true):CallR X (.builtin "max") (rC X.K (on2 ZgH)):=by
 intro pQ s σ H xs us Q I r h;obtain⟨ad,st,ds,d,st',S,hd,e,p⟩:=h;obtain⟨x,y,rfl,e1⟩:=U2 e;have e:=e1;obtain⟨v,w,rfl,hv,hw⟩:=ZhU hd;unfold ZgH at e;split at e
 ·cases e;cases hv;cases hw
  exact call_max2 hc pQ s σ H _ us Q I r ⟨_,_,rfl,p.at S (.int _)⟩
 ·exact Zb e
noncomputable def tyN:Ty->String
 |.int => "int"
 |.bool => "bool"
 |.str => "str"
 |.tuple => "tuple"
noncomputable def Zek:D->String
 |.int _ => "int"
 |.bl _ => "bool"
 |.str _ => "str"
 |.tup _ => "tuple"
 |.non => "NoneType"
 |_ => "list"
theorem Zem(K:Fg){T:Ty}{d:D}{k:Bool}(h:ZgB T d=some k):PySem.W.kitOne K (.type (Zek d)) (.type (tyN T))=some k:=by
 cases d<;>first | (cases h;done) | (cases T<;>(cases h;rfl))
theorem Zln{K:Fg}{ad:Li Ad}{H:Hp}{v:V}{d:D}{T:Ty}{k:Bool}(h:ZgB T d=some k)(hv:Den K ad H v d):TyOf K H v (.type (Zek d))\/∃ a xs,v=.ref a/\SqT K H a xs/\Zek d = "tuple":=by
 cases hv with
 |non=>exact .inl .non
 |bl b=>exact .inl (.bl b)
 |int i=>exact .inl (.int i)
 |str x=>exact .inl (.str x)
 |tup e r=>exact .inr ⟨_,_,rfl,e.sq,rfl⟩
 |lst e=>exact Zb h
 |dic _ _=>exact Zb h
 |obj _ _=>exact Zb h
 |kt _ _ _ _ _ _=>exact Zb h
theorem Zdq{T:Ty}:CallR X (.builtin "isinstance") (fun vs H Q=>∃ v,vs=[v,.ty (tyN T)]/\rC X.K (on1 (Zav T)) [v] H Q):=by
 intro pQ s σ H xs us Q I r h;obtain⟨v,rfl,ad,st,ds,d,st',S,hd,e,p⟩:=h;obtain⟨x,rfl,e1⟩:=YI e;have e:=e1;obtain⟨w,hw,hv⟩:=W5 hd;cases hw;unfold Zav at e;split at e
 ·rename_i k q
  cases e;cases r with
  |cons r1 r2=>
   cases r2 with
   |cons r3 r4=>
    cases r4;cases r3;rcases Zln q hv with ty|⟨a,zs,rfl,sq,kd⟩
    ·exact isinst_ok I r1 ty (Zem X.K q) fun tk=>⟨.bl k,H,I.tok _,rfl,p.at S (.bl k)⟩
    ·have kt:=Zem X.K q
     rw[kd]at kt;cases r1;obtain⟨its,_,pp,_⟩:=I.tuple sq;obtain⟨o,h1,h2,_⟩:=pp;exact PySem.W.kia_one PySem.W.kitx_tuple I.kIn ⟨o,h1,h2⟩ kt (fun z=>nomatch z) fun tk=>⟨.bl k,H,I.tok _,rfl,p.at S (.bl k)⟩
 ·exact Zb e
end
section
variable {X:Cx}
end
end Dp



namespace Dp
open PySem PySem.Spec PyProof.Rows L2
variable [ClsTab]
section
open PySem.SeqAt PySem.MeetsSeq PySem.MeetsSeq2 PySem.MeetsSeq3 PySem.SeqRoads2
open AutoSeq1 (wpAny_loadPart')
end
section
variable {X:Cx}
theorem Zeb{ad:Li Ad}{H:Hp}{k:Int}:∀ {xs:Li V}{ds:Li D}{b:Bool},Dens X.K ad H xs ds->Xb k ds=some b->xs.all flatV=true/\inV (.int k) xs=b
 |_,_,_,.nil,e=>by cases e;exact⟨rfl,rfl⟩
 |_,_,b,.cons (d:=d) h r,e=>by
  cases d with
  |int i=>
   cases h;unfold Xb at e;cases q:Xb k _ with
   |none=>rw[q]at e;cases e
   |some b'=>
    rw[q]at e;cases e;obtain⟨h1,h2⟩:=Zeb r q;refine⟨by rw[List.all_cons,h1];rfl,?_⟩
    show((i==k)||inV (.int k) _)=(decide (i=k)||b');rw[h2];rfl
  |_=>simp[Xb]at e
theorem Zar{ad:Li Ad}{H:Hp}{k:Str}:∀ {xs:Li V}{ds:Li D}{b:Bool},Dens X.K ad H xs ds->YM k ds=some b->xs.all flatV=true/\inV (.str k) xs=b
 |_,_,_,.nil,e=>by cases e;exact⟨rfl,rfl⟩
 |_,_,b,.cons (d:=d) h r,e=>by
  cases d with
  |str i=>
   cases h;unfold YM at e;cases q:YM k _ with
   |none=>rw[q]at e;cases e
   |some b'=>
    rw[q]at e;cases e;obtain⟨h1,h2⟩:=Zar r q;refine⟨by rw[List.all_cons,h1];rfl,?_⟩
    show((i==k)||inV (.str k) _)=(decide (i=k)||b');rw[h2]
    congr 1
  |_=>simp[YM]at e
def CW(X:Cx)(pQ:Li (Ad×Obj))(σ:L2.St)(Q:VK)(s:Sd)(op:CmpOp)(v u:vL):Prop:=wpAny (model X.prog X.w) X.A (compareOp op v u) (EP X pQ σ Q) X.xe s
def CW2(X:Cx)(pQ:Li (Ad×Obj))(σ:L2.St)(Q:VK)(s:Sd)(H:Hp)(op op':CmpOp)(v u:vL)(k:Bool):Prop:=(Q (.bl k) H->CW X pQ σ Q s op v u)/\(Q (.bl (!k)) H->CW X pQ σ Q s op' v u)
noncomputable def vSc:Sc->V
 |.non=>.non
 |.bl b=>.bl b
 |.int i=>.int i
 |.str x=>.str x
theorem Den.vSc{K:Fg}{ad:Li Ad}{H:Hp}{x:V}{d:D}{a:Sc}(h:Den K ad H x d)(e:scD d=some a):x=vSc a:=by
 cases h<;>cases e<;>rfl
theorem Zgc{a b:Sc}{k:Bool}(h:ZdJ a b=some k):scal (vSc a) (vSc b)=true/\decide (vSc a=vSc b)=k:=by
 cases a<;>cases b<;>first
  | (cases h;done)
  | (cases h;exact⟨rfl,rfl⟩)
  | (cases h;exact⟨rfl,dec_bl⟩)
  | (cases h;exact⟨rfl,by simp[vSc]⟩)
inductive EqD(x y:V):D->D->Bool->Prop
 |sc {dx dy:D}{k:Bool} (h3:scal x y=true) (h4:decide (x=y)=k):EqD x y dx dy k
 |tup {xs ys:List D} (h:(okD 8 (.tup xs)&&okD 8 (.tup ys))=true):EqD x y (.tup xs) (.tup ys) (ZY xs ys)
theorem Zga{K:Fg}{ad:Li Ad}{H:Hp}{x y:V}{dx dy:D}{k:Bool}(hx:Den K ad H x dx)(hy:Den K ad H y dy)(e:eqD dx dy=some k):EqD x y dx dy k:=by
 unfold eqD at e;split at e
 ·unfold eqT at e
  split at e
  ·split at e
   ·rename_i hok
    cases e;exact .tup hok
   ·exact Zb e
  ·exact Zb e
 ·refine j_e e fun e=>Z6 (P:=fun o=>o=some k->EqD x y dx dy k) e (fun a b h1 h2 h=>?_) rfl
  obtain⟨h3,h4⟩:=Zgc h;rw[<-hx.vSc h1,<-hy.vSc h2]at h3 h4;exact .sc h3 h4
theorem ZkC(hu:X.A.units+64 < cLine){pQ:Li (Ad×Obj)}{s:Sd}{σ:L2.St}{H:Hp}{x y:V}{v u:vL}{Q:VK}{ad:Li Ad}{st:Za}{dx dy:D}{k:Bool}(I:Inv X pQ σ H s)(rx:RelV x v)(ry:RelV y u)(S:StOk X.K ad H st)(hx:Den X.K ad H x dx)(hy:Den X.K ad H y dy)(e:eqD dx dy=some k):CW2 X pQ σ Q s H .Eq .NotEq v u k:=by
 cases Zga hx hy e with
 |sc h3 h4=>
  subst h4;exact⟨fun q=>op_eq pQ s σ H x y v u Q I rx ry ⟨h3,q⟩,fun q=>op_ne pQ s σ H x y v u Q I rx ry ⟨h3,q⟩⟩
 |tup hok=>
  rw[Ba]at hok;obtain⟨a,xs,rfl,ha,r1⟩:=hx.ofTup;obtain⟨b,ys,rfl,hb,r2⟩:=hy.ofTup;cases rx;cases ry
  obtain⟨g1,g2⟩:=Zg8 (ad:=ad) (A:=X.A) I (n:=7) hok.1 hok.2 (by omega) ha r1 hb r2
  exact⟨fun q=>g1 X.prog X.w X.xe _ ⟨.bl _,H,I,rfl,q⟩,fun q=>g2 X.prog X.w X.xe _ ⟨.bl _,H,I,rfl,q⟩⟩
open PySem.SeqAt in
theorem Zg7{X:Cx}{H:Hp}{ad:Li Ad}{pQ:Li (Ad×Obj)}{σ:L2.St}{s:Sd}(I:Inv X pQ σ H s){n:Nat}{A:Around}{a b:Ad}{xs ys:Li V}{ds es:Li D}{its its':Li vL}(hx:Y0 n ds=true)(hy:Y0 n es=true)(hu:A.units+n+1 < cLine)(r:Dens X.K ad H xs ds)(r':Dens X.K ad H ys es)(rv:Vals xs its)(rv':Vals ys its')(p:s.heap.IsList a its.toArray)(p':s.heap.IsList b its'.toArray):RcAt A s (.ref a) (.ref b) (ZY ds es)/\RcNeAt A s (.ref a) (.ref b) (!ZY ds es):=by
 have e1:its.toArray.size=ds.length:=by rw[List.size_toArray,<-rv.length,r.length]
 have e2:its'.toArray.size=es.length:=by rw[List.size_toArray,<-rv'.length,r'.length]
 by_cases hl:ds.length=es.length
 ·have it:=fun j h1 h2=>Zaw (a:=a) (b:=b) I hx hy hu r r' rv rv' j h1 h2
  have q:=RcAt.lists (A:=A) (s:=s) (e:=fun i=>ZV ((ds[i]?).getD .non) ((es[i]?).getD .non)) p p' (by omega) (by omega) it
  have q':=RcNeAt.lists (A:=A) (s:=s) (e:=fun i=>ZV ((ds[i]?).getD .non) ((es[i]?).getD .non)) p p' (by omega) (by omega) it
  rw[e1]at q q';rw[Y4,show min ds.length es.length=ds.length by omega,show(ds.length==es.length)=true by simpa using hl,Bool.and_true]
  exact⟨q,q'⟩
 ·have q:=RcAt.lists_lengths (A:=A) (s:=s) p p' (by rw[e1,e2];simpa using hl) (by omega)
  have q':=RcNeAt.lists_lengths (A:=A) (s:=s) p p' (by rw[e1,e2];simpa using hl) (by omega)
  rw[Y4,show(ds.length==es.length)=false by simpa using hl,Bool.and_false]
  exact⟨q,q'⟩
open PySem.SeqAt in
theorem ZlY(hu:X.A.units+64 < cLine){pQ:Li (Ad×Obj)}{s:Sd}{σ:L2.St}{H:Hp}{x y:V}{v u:vL}{Q:VK}{ad:Li Ad}{st:Za}{ds es:Li D}{k:Bool}(I:Inv X pQ σ H s)(rx:RelV x v)(ry:RelV y u)(S:StOk X.K ad H st)(hx:Den X.K ad H x (.tup ds))(hy:Den X.K ad H y (.tup es))(e:ZbG st ds es=some k):CW2 X pQ σ Q s H .Eq .NotEq v u k:=by cases e
open PySem.SeqAt in
theorem Zbj{f:D->D->Bool}:∀ {xs ys:Li D}{j:Nat}{d e:D},Zan f xs ys=true->xs[j]?=some d->ys[j]?=some e->f d e=true
 |x :: xs,y :: ys,0,d,e,h,h1,h2=>by cases h1;cases h2;exact(Bool.and_eq_true_iff.mp h).1
 |x :: xs,y :: ys,j+1,d,e,h,h1,h2=>Zbj (Bool.and_eq_true_iff.mp h).2 (show xs[j]?=some d from h1) (show ys[j]?=some e from h2)
 |[],_,_,_,_,_,h1,_=>nomatch h1
 |_ :: _,[],_,_,_,h,_,_=>nomatch h
theorem Jn{f:D->D->Bool}:∀ {xs ys:Li D},Zan f xs ys=true->xs.length=ys.length
 |[],[],_=>rfl
 |x :: xs,y :: ys,h=>congrArg (·+1) (Jn (Bool.and_eq_true_iff.mp h).2)
 |[],_ :: _,h=>nomatch h
 |_ :: _,[],h=>nomatch h
open PySem.SeqAt in
theorem Jr{n:Nat}{pQ:Li (Ad×Obj)}{s:Sd}{σ:L2.St}{H:Hp}{ad:Li Ad}{st:Za}(I:Inv X pQ σ H s)(S:StOk X.K ad H st)(ih:∀ (d e:D) (A:Around) (vx vy:V) (ux uy:vL),dEq st n d e=true->A.units+n < cLine->Den X.K ad H vx d->Den X.K ad H vy e->RelV vx ux->RelV vy uy->EqAt A s ux uy true){a b:Ad}{la lb:Nat}{A:Around}(h:dEq st (n+1) (.lst la) (.lst lb)=true)(hu:A.units+n+1 < cLine)(ha:LA ad H la a)(hb:LA ad H lb b):RcAt A s (.ref a) (.ref b) true/\RcNeAt A s (.ref a) (.ref b) false:=by
 have h:(match st[la]? with
  |some c=>(match st[lb]? with
   |some d=>Zan (dEq st n) c.2 d.2
   |none=>false)
  |none=>false)=true:=h
 split at h
 ·rename_i c q1
  split at h
  ·rename_i d q2
   obtain⟨vs,r1,s1⟩:=S.list ha (show st[la]?=some (c.1,c.2) from q1);obtain⟨ws,r2,s2⟩:=S.list hb (show st[lb]?=some (d.1,d.2) from q2);obtain⟨its,rv,p1,_⟩:=I.list s1;obtain⟨its',rv',p2,_⟩:=I.list s2;have l1:its.length=c.2.length:=by rw[<-rv.length,r1.length]
   have l2:its'.length=d.2.length:=by rw[<-rv'.length,r2.length]
   have lz:=Jn h;have hz:its.toArray.size=its'.toArray.size:=by rw[List.size_toArray,List.size_toArray];omega
   have it:∀ j (h1:j < its.toArray.size) (h2:j < its'.toArray.size),EqAt A.in1 s its.toArray[j] its'.toArray[j] true:=fun j h1 h2=>by
    rw[List.size_toArray]at h1 h2;obtain⟨v1,e1,d1⟩:=r1.get (Lg (show j < c.2.length by omega))
    obtain⟨v2,e2,d2⟩:=r2.get (Lg (show j < d.2.length by omega))
    obtain⟨u1,f1,g1⟩:=rv.get e1;obtain⟨u2,f2,g2⟩:=rv'.get e2;rw[Lg h1]at f1;rw[Lg h2]at f2;cases f1;cases f2
    exact ih _ _ A.in1 v1 v2 _ _ (Zbj h (Lg _) (Lg _)) (by show A.units+1+n < cLine;omega) d1 d2 g1 g2
   have al:((List.range its.toArray.size).all fun _=>true)=true:=by simp
   have g1:=RcAt.lists (A:=A) (s:=s) (e:=fun _=>true) p1.isList p2.isList hz (by omega) it
   have g2:=RcNeAt.lists (A:=A) (s:=s) (e:=fun _=>true) p1.isList p2.isList hz (by omega) it
   rw[al]at g1 g2;exact⟨g1,g2⟩
  ·cases h
 ·cases h
open PySem.SeqAt in
theorem ZiM{pQ:Li (Ad×Obj)}{s:Sd}{σ:L2.St}{H:Hp}{ad:Li Ad}{st:Za}(I:Inv X pQ σ H s)(S:StOk X.K ad H st):∀ (n:Nat) (d e:D) (A:Around) (vx vy:V) (ux uy:vL),dEq st n d e=true->A.units+n < cLine->Den X.K ad H vx d->Den X.K ad H vy e->RelV vx ux->RelV vy uy->EqAt A s ux uy true:=by
 have str:∀ {x y:Str}{A:Around}{vx vy:V}{ux uy:vL},decide (x=y)=true->Den X.K ad H vx (.str x)->Den X.K ad H vy (.str y)->RelV vx ux->RelV vy uy->EqAt A s ux uy true:=fun {x y A vx vy ux uy} h hx hy rx ry=>by
  have e:=of_decide_eq_true h;subst e;cases hx;cases hy
  obtain⟨t,rfl⟩:=rx;obtain⟨t',rfl⟩:=ry;have g:=EqAt.str_str (A:=A) (s:=s) x t x t';rw[beq_self_eq_true]at g;exact g
 intro n
 induction n with
 |zero=>
  intro d e A vx vy ux uy h hu hx hy rx ry;unfold dEq at h;split at h
  ·exact str h hx hy rx ry
  ·rename_i z;cases z
  ·cases h
 |succ n ih=>
  intro d e A vx vy ux uy h hu hx hy rx ry;have h0:=h;unfold dEq at h;split at h
  ·exact str h hx hy rx ry
  ·rename_i m la lb z
   cases z;obtain⟨a,rfl,ha⟩:=hx.ofLst;obtain⟨b,rfl,hb⟩:=hy.ofLst;cases rx;cases ry
   by_cases hab:a=b
   ·subst hab;exact EqAt.same _
   ·exact EqAt.of_refs hab (Jr I S ih h0 (by omega) ha hb).1
  ·cases h
open PySem.SeqAt in
theorem Zgd{pQ:Li (Ad×Obj)}{s:Sd}{σ:L2.St}{H:Hp}{ad:Li Ad}{st:Za}{a b:Ad}{la lb:Nat}{A:Around}(I:Inv X pQ σ H s)(S:StOk X.K ad H st)(h:dEq st 8 (.lst la) (.lst lb)=true)(hu:A.units+8 < cLine)(ha:LA ad H la a)(hb:LA ad H lb b):RcAt A s (.ref a) (.ref b) true/\RcNeAt A s (.ref a) (.ref b) false:=
 Jr (n:=7) I S (ZiM I S 7) h (by omega) ha hb
theorem ZkD(hu:X.A.units+64 < cLine){pQ:Li (Ad×Obj)}{s:Sd}{σ:L2.St}{H:Hp}{x y:V}{v u:vL}{Q:VK}{ad:Li Ad}{st:Za}{dx dy:D}{k:Bool}(I:Inv X pQ σ H s)(rx:RelV x v)(ry:RelV y u)(S:StOk X.K ad H st)(hx:Den X.K ad H x dx)(hy:Den X.K ad H y dy)(e:eqS st dx dy=some k):CW2 X pQ σ Q s H .Eq .NotEq v u k:=by
 have sc:scal x y=true->(decide (x=y))=k->CW2 X pQ σ Q s H .Eq .NotEq v u k:=fun h1 h2=>by
  subst h2;exact⟨fun q=>op_eq pQ s σ H x y v u Q I rx ry ⟨h1,q⟩,fun q=>op_ne pQ s σ H x y v u Q I rx ry ⟨h1,q⟩⟩
 unfold eqS at e;split at e
 ·unfold Zct at e
  split at e
  case h_2=>exact Zb e
  obtain⟨a,rfl,ha⟩:=hx.ofLst;obtain⟨b,rfl,hb⟩:=hy.ofLst;cases rx;cases ry
  have two:∀ {ba bb:Bool}{xs ys:Li D},st[_]?=some (ba,xs)->st[_]?=some (bb,ys)->(xs=[]\/ys=[])->(xs.isEmpty&&ys.isEmpty)=k->CW2 X pQ σ Q s H .Eq .NotEq (.ref a) (.ref b) k:=fun {ba bb xs ys} q1 q2 hz hk=>by
   obtain⟨vs,r1,s1⟩:=S.list ha q1;obtain⟨ws,r2,s2⟩:=S.list hb q2;obtain⟨its,rv,p1,_⟩:=I.list s1;obtain⟨its',rv',p2,_⟩:=I.list s2;have l1:its.toArray.size=xs.length:=by rw[List.size_toArray,<-rv.length,r1.length]
   have l2:its'.toArray.size=ys.length:=by rw[List.size_toArray,<-rv'.length,r2.length]
   by_cases hl:xs.length=ys.length
   ·have z1:xs=[]:=by
     rcases hz with z|z
     ·exact z
     ·rw[z]at hl;exact List.length_eq_zero_iff.mp hl
    have z2:ys=[]:=by rw[z1]at hl;exact List.length_eq_zero_iff.mp hl.symm
    subst z1 z2;cases hk;have f:its=[]:=List.length_eq_zero_iff.mp (by simpa using l1)
    have f':its'=[]:=List.length_eq_zero_iff.mp (by simpa using l2)
    subst f f';refine⟨fun q=>SeqAt.RcAt.lists (e:=fun _=>true) p1.isList p2.isList rfl (by omega) (fun j h1 _=>absurd h1 (by simp)) X.prog X.w X.xe _ ⟨.bl true,H,I,rfl,q⟩,fun q=>SeqAt.RcNeAt.lists (e:=fun _=>true) p1.isList p2.isList rfl (by omega) (fun j h1 _=>absurd h1 (by simp)) X.prog X.w X.xe _ ⟨.bl false,H,I,rfl,q⟩⟩
   ·have hk':k=false:=by
     rw[<-hk];rcases hz with z|z
     ·subst z
      cases ys with
      |nil=>exact absurd rfl hl
      |cons _ _=>rfl
     ·subst z
      cases xs with
      |nil=>exact absurd rfl hl
      |cons _ _=>rfl
    subst hk';have hne:(its.toArray.size != its'.toArray.size)=true:=by rw[l1,l2];simpa using hl
    exact⟨fun q=>SeqAt.RcAt.lists_lengths p1.isList p2.isList hne (by omega) X.prog X.w X.xe _ ⟨.bl false,H,I,rfl,q⟩,fun q=>SeqAt.RcNeAt.lists_lengths p1.isList p2.isList hne (by omega) X.prog X.w X.xe _ ⟨.bl true,H,I,rfl,q⟩⟩
  split at e
  case h_2=>
   split at e
   ·rename_i hd
    cases e;obtain⟨g1,g2⟩:=Zgd (A:=X.A) I S hd (by omega) ha hb
    exact⟨fun q=>g1 X.prog X.w X.xe _ ⟨.bl true,H,I,rfl,q⟩,fun q=>g2 X.prog X.w X.xe _ ⟨.bl false,H,I,rfl,q⟩⟩
   ·exact Zb e
  rename_i k' hj;cases e;refine j_e hj fun e=>Z6 (P:=fun o=>o=some k->CW2 X pQ σ Q s H .Eq .NotEq (.ref a) (.ref b) k) e (fun c d q1 q2 e=>?_) rfl
  obtain⟨c1,c2⟩:=c;obtain⟨d1,d2⟩:=d;unfold Qv at e;split at e
  ·rename_i hz
   cases e;rw[Bool.or_eq_true]at hz;exact two q1 q2 (hz.imp List.isEmpty_iff.mp List.isEmpty_iff.mp) rfl
  ·split at e
   ·rename_i hok
    cases e;rw[Ba]at hok;obtain⟨vs,r1,s1⟩:=S.list ha q1;obtain⟨ws,r2,s2⟩:=S.list hb q2;obtain⟨its,rv,p1,_⟩:=I.list s1;obtain⟨its',rv',p2,_⟩:=I.list s2;obtain⟨g1,g2⟩:=Zg7 (ad:=ad) (A:=X.A) I hok.1 hok.2 (by omega) r1 r2 rv rv' p1.isList p2.isList
    exact⟨fun q=>g1 X.prog X.w X.xe _ ⟨.bl _,H,I,rfl,q⟩,fun q=>g2 X.prog X.w X.xe _ ⟨.bl _,H,I,rfl,q⟩⟩
   ·exact Zb e
 ·unfold ZkB at e
  split at e
  ·split at e
   ·rename_i k' q
    cases e;exact ZkC hu I rx ry S hx hy (show eqD (.tup _) (.tup _)=some _ from q)
   ·exact ZlY hu I rx ry S hx hy e
  ·exact Zb e
 ·exact ZkC hu I rx ry S hx hy e
open Classical in
section
variable {pQ:Li (Ad×Obj)}{s:Sd}{σ:L2.St}{H:Hp}{x y:V}{v u:vL}{Q:VK}{ad:Li Ad}{st:Za}{dx dy:D}{k:Bool}
theorem VX{a:Ad}{xs:Li V}(I:Inv X pQ σ H s)(rx:RelV x v)(ry:RelV y u)(ey:y=.ref a)(sq:SqL X.K H a xs\/SqT X.K H a xs)(fx:flatV x=true)(h:xs.all flatV=true/\inV x xs=k):CW2 X pQ σ Q s H .In .NotIn v u k:=by
 obtain⟨h1,h2⟩:=h;subst h2;exact⟨fun pk=>op_in_seq pQ s σ H _ _ v u Q I rx ry ⟨a,xs,ey,sq,fx,h1,pk⟩,fun pk=>op_notIn_seq pQ s σ H _ _ v u Q I rx ry ⟨a,xs,ey,sq,fx,h1,pk⟩⟩
omit [ClsTab] in
theorem ZhZ(k:Str):∀ ks:Li Str,(ks.map V.str).all flatV=true/\inV (.str k) (ks.map V.str)=ks.contains k
 |[]=>⟨rfl,rfl⟩
 |a :: ks=>by
  obtain⟨h1,h2⟩:=ZhZ k ks;refine⟨by rw[List.map_cons,List.all_cons,h1];rfl,?_⟩
  unfold inV at h2 ⊢
  rw[List.map_cons,List.any_cons,h2,List.contains_cons]
  congr 1
  show decide (a=k)=(k==a);by_cases e:a=k
  ·subst e;rw[decide_eq_true rfl,beq_self_eq_true]
  ·rw[decide_eq_false e,beq_eq_false_iff_ne.mpr fun z=>e z.symm]
def InW(X:Cx)(pQ:Li (Ad×Obj))(σ:L2.St)(Q:VK)(s:Sd)(H:Hp)(v u:vL)(dy:D)(k:Bool):Prop:=(Q (.bl k) H->CW X pQ σ Q s .In v u)/\((∀ ks vs,dy≠.dct ks vs)->Q (.bl (!k)) H->CW X pQ σ Q s .NotIn v u)
theorem CW2.inW(h:CW2 X pQ σ Q s H .In .NotIn v u k):InW X pQ σ Q s H v u dy k:=⟨h.1,fun _=>h.2⟩
theorem ZkK(hu:X.A.units+64 < cLine)(I:Inv X pQ σ H s)(rx:RelV x v)(ry:RelV y u)(S:StOk X.K ad H st)(hx:Den X.K ad H x dx)(hy:Den X.K ad H y dy)(q:inS st dx dy=some k):InW X pQ σ Q s H v u dy k:=by
 unfold inS at q;split at q
 ·split at q
  ·rename_i q0
   obtain⟨a,e,ha⟩:=hy.ofLst;obtain⟨xs,r,sq⟩:=S.list ha q0;cases hx;exact(VX I rx ry e (.inl sq) rfl (Zeb r q)).inW
  ·cases q
 ·split at q
  ·rename_i q0
   obtain⟨a,e,ha⟩:=hy.ofLst;obtain⟨xs,r,sq⟩:=S.list ha q0;cases hx;exact(VX I rx ry e (.inl sq) rfl (Zar r q)).inW
  ·cases q
 ·obtain⟨a,xs,e,ha,r⟩:=hy.ofTup
  cases hx;exact(VX I rx ry e (.inr ha.sq) rfl (Zeb r q)).inW
 ·obtain⟨a,xs,e,ha,r⟩:=hy.ofTup
  cases hx;exact(VX I rx ry e (.inr ha.sq) rfl (Zar r q)).inW
 ·obtain⟨a,vs,rfl,ha,hl,r⟩:=hy.ofDct
  cases hx;cases q;refine⟨fun pk=>op_in_dct pQ s σ H _ _ v u Q I rx ry ⟨a,_,Sum.inr _,rfl,rfl,ha,?_⟩,fun z=>absurd rfl (z _ _)⟩
  rcases V7 r hl with⟨w,d0,e1,e2,e3⟩|⟨e1,e2⟩
  ·rw[e1];rw[e2]at pk;exact pk
  ·rw[e1];rw[e2]at pk;exact pk
 ·obtain⟨o,q2,rfl⟩:=Option.map_eq_some_iff.mp q
  obtain⟨bb,es,q0,ob,rfl⟩:=ZdE q2;obtain⟨a,rfl,ha,hn⟩:=hy.ofDic;obtain⟨kvs,r,hk,_⟩:=S.dict ha hn q0 ob;cases hx.ofStr;cases ry
  have z:=ni_dct (X:=X) (Q:=Q) (k:=Sum.inr _) I hk rx;rw[Zcr r]at z;exact⟨z.1,fun _=>z.2⟩
 ·cases q
  obtain⟨a,o,its,n,rfl,h1,h2,h3,h4,h5⟩:=hy.ofKt;cases hx;exact(VX I rx ry rfl (.inr (.inr ⟨o,its,n,h1,h2.1,h3,h4,h5⟩)) rfl (ZhZ _ _)).inW
 ·cases hx;cases hy;cases q
  exact⟨fun pk=>op_in_str pQ s σ H _ _ v u Q I rx ry ⟨_,_,rfl,rfl,pk⟩,fun _ pk=>op_notIn_str pQ s σ H _ _ v u Q I rx ry ⟨_,_,rfl,rfl,pk⟩⟩
 ·cases q
theorem ZgA(hx:Den X.K ad H x dx)(q:isN dx=some k):decide (x=V.non)=k:=by
 cases hx<;>cases q<;>rfl
theorem ZkM(I:Inv X pQ σ H s)(rx:RelV x v)(ry:RelV y u)(hx:Den X.K ad H x dx)(hy:Den X.K ad H y dy)(q:isD dx dy=some k):CW2 X pQ σ Q s H .Is .IsNot v u k:=by
 unfold isD at q;split at q
 ·cases hy
  have z:=ZgA hx q;subst z;exact⟨fun pk=>op_isN pQ s σ H _ _ v u Q I rx ry ⟨rfl,pk⟩,fun pk=>op_notN pQ s σ H _ _ v u Q I rx ry ⟨rfl,pk⟩⟩
 ·unfold isB at q
  split at q
  ·cases q
   cases hx;cases hy
   cases rx;cases ry
   have e:∀ a b:Bool,(Value.bool a==Value.bool b)=(a==b):=fun a b=>by cases a<;>cases b<;>rfl
   exact⟨fun pk=>wpAny_is_plain rfl (by rw[e];exact⟨.bl _,H,I,rfl,pk⟩),fun pk=>wpAny_isNot_plain rfl (by rw[e];exact⟨.bl _,H,I,rfl,pk⟩)⟩
  ·cases q
 ·cases q
theorem Vp{f:Int->Int->Bool}(hx:Den X.K ad H x dx)(hy:Den X.K ad H y dy)(q:ZaJ f dx dy=some k):∃ i j,x=.int i/\y=.int j/\f i j=k:=by
 unfold ZaJ at q;split at q
 ·cases q;cases hx;cases hy;exact⟨_,_,rfl,rfl,rfl⟩
 ·exact Zb q
theorem Zmf(hu:X.A.units+64 < cLine)(I:Inv X pQ σ H s)(rx:RelV x v)(ry:RelV y u)(S:StOk X.K ad H st)(hx:Den X.K ad H x dx)(hy:Den X.K ad H y dy)(q:ltS st dx dy=some k)(pk:Q (.bl k) H):CW X pQ σ Q s .Lt v u:=by
   have q:ltD dx dy=some k:=q;obtain⟨i,j,rfl,rfl,z⟩:=Vp hx hy q;exact op_lt pQ s σ H _ _ v u Q I rx ry ⟨_,_,rfl,rfl,by cases z;exact pk⟩
theorem QP{o:Ot Bool}(q:o.map not=some k):o=some (!k):=by
 cases o with
 |none=>exact Zb q
 |some k'=>cases q;rw[Bool.not_not]
theorem Zev{op op':CmpOp}(h:CW2 X pQ σ Q s H op op' v u (!k))(pk:Q (.bl k) H):CW X pQ σ Q s op' v u:=h.2 (by rw[Bool.not_not];exact pk)
end
theorem XU(hu:X.A.units+64 < cLine){op:CmpOp}:OpR X (compareOp op) (rD X.K (Xt op)):=by
 intro pQ s σ H x y v u Q I rx ry h;obtain⟨ad,st,dx,dy,d,st',S,hx,hy,e,p⟩:=h
 change CW X pQ σ Q s op v u;unfold Xt at e;cases q:WD op dx dy st with
 |none=>rw[q]at e;cases e
 |some k=>
  rw[q]at e;cases e;have pk:=p.at S (.bl k);clear p;cases op with
  |Lt=>exact Zmf hu I rx ry S hx hy q pk
  |LtE=>
   obtain⟨i,j,rfl,rfl,z⟩:=Vp hx hy q;exact op_le pQ s σ H _ _ v u Q I rx ry ⟨_,_,rfl,rfl,by cases z;exact pk⟩
  |Gt=>
   obtain⟨i,j,rfl,rfl,z⟩:=Vp hx hy q;exact op_gt pQ s σ H _ _ v u Q I rx ry ⟨_,_,rfl,rfl,by cases z;exact pk⟩
  |GtE=>
   obtain⟨i,j,rfl,rfl,z⟩:=Vp hx hy q;exact op_ge pQ s σ H _ _ v u Q I rx ry ⟨_,_,rfl,rfl,by cases z;exact pk⟩
  |Eq=>exact(ZkD hu I rx ry S hx hy q).1 pk
  |NotEq=>exact Zev (ZkD hu I rx ry S hx hy (QP q)) pk
  |In=>exact(ZkK hu I rx ry S hx hy q).1 pk
  |NotIn=>
   have q:niS st dx dy=some k:=q;unfold niS at q;split at q
   ·exact Zb q
   ·rename_i hn
    exact(ZkK hu I rx ry S hx hy (QP q)).2 hn (by rw[Bool.not_not];exact pk)
  |Is=>exact(ZkM I rx ry hx hy q).1 pk
  |IsNot=>exact Zev (ZkM I rx ry hx hy (QP q)) pk
end
end Dp



namespace Dp
open PySem PySem.Spec PyProof.Rows L2
variable [ClsTab]
noncomputable def Zm:Expr->Bool
 |.Starred ..=>false
 |.Set ..=>false
 |.Slice ..=>false
 |_=>true
theorem Zh{G:Gs}{n:Nat}{sc:Scope}{N:Li Str}{e:Expr}{c:CE}(h:cE G n sc N e=some c):Zm e=true:=by
 cases n with
 |zero=>exact nomatch (show(none:Ot CE)=some c from h)
 |succ n=>cases e<;>first|rfl|exact nomatch (show(none:Ot CE)=some c from h)
theorem Zf{e:Expr}{es:Li Expr}{env:PySem.Env}(h:Zm e=true):starEach (e :: es) env=(false,eval e env) :: starEach es env:=by
 cases e<;>first|rfl|cases h
theorem Yy{op:CmpOp}{b:Expr}(h:Zm b=true):behindInMarks op b=false:=by
 cases b<;>first|rfl|cases h
theorem JC{b:Expr}(h:Zm b=true):PlainIx b:=by
 cases b<;>first | (intro o i;rfl)|cases h
theorem Y3{pos:Pos}{env:PySem.Env}:∀ {es:Li Expr},es.all Zm=true->(backTo pos (starEach es env)).any (·.1)=false
 |[],_=>rfl
 |e :: es,h=>by
  rw[List.all_cons,Ba]at h;rw[Zf h.1];show(false||(backTo pos (starEach es env)).any (·.1))=false;rw[Y3 h.2];rfl
inductive EsOk(Pm:Params)(K:Fg):List DictEntry->List Str->List D->Prop where
 |nil:EsOk Pm K [] [] []
 |cons {e:DictEntry}{es:List DictEntry}{k:Str}{ks:List Str}{d:D}{ds:List D}{v:V}{t:Tok} (h1:e.hash=PyData.keyHash Pm k) (h2:e.key=.str k t) (h3:RelV v e.val) (h4:∀ ad H,Den K ad H v d) (r:EsOk Pm K es ks ds):EsOk Pm K (e :: es) (k :: ks) (d :: ds)
def Za4(Pm:Params)(K:Fg)(mg:Str->Ot vL)(x:Str)(ks:Li Str)(ds:Li D):Prop:=
 ∃ A o es ep,mg x=some (.ref A)/\K.lookup A=some o/\o.ExactDict/\o.data=.dict es ep/\(A==sysModules)=false/\ks.Nodup/\EsOk Pm K es.toList ks ds
theorem EsOk.open{w:World}{P:Program}{K:Fg}:∀ {es:Li DictEntry}{ks:Li Str}{ds:Li D},EsOk w.params K es ks ds->∃ kvs:Li (Key×vL),Pairs (mixKind P w) es kvs/\kvs.map (·.1)=ks.map Sum.inr/\(∀ e∈es,∃ k,(mixKind P w).is k e.key=true/\e.hash=(mixKind P w).hash k) /\
  ∀ k d,ZT ks ds k=some d->∃ u v,valueAt kvs (Sum.inr k)=some u/\RelV v u/\∀ ad H,Den K ad H v d
 |_,_,_,.nil=>⟨[],.nil,rfl,(fun _ h=>nomatch h),fun k d h=>by simp[ZT]at h⟩
 |e :: es,k0 :: ks,d0 :: ds,.cons (v:=v) (t:=t) h1 h2 h3 h4 r=>by
  obtain⟨kvs,a1,a2,a3,a4⟩:=EsOk.open (P:=P) r;have hk:(mixKind P w).is (Sum.inr k0) e.key=true:=by rw[h2];exact mixKind_str P w k0 t
  refine⟨(Sum.inr k0,e.val) :: kvs,.cons hk rfl a1,by rw[List.map_cons,List.map_cons,a2],fun x hx=>?_,fun k d h=>?_⟩
  ·rcases List.mem_cons.mp hx with rfl|hx
   ·exact⟨Sum.inr k0,hk,h1⟩
   ·exact a3 x hx
  ·unfold valueAt
   by_cases c:k0=k
   ·subst c
    have h:ZT (k0 :: ks) (d0 :: ds) k0=some d:=h;simp only[ZT,if_pos]at h;cases h;exact⟨e.val,v,by simp,h3,h4⟩
   ·have h:ZT ks ds k=some d:=by
     simp only[ZT,if_neg c]at h;exact h
    obtain⟨u,v',b1,b2,b3⟩:=a4 k d h;refine⟨u,v',?_,b2,b3⟩;have nk:¬(Sum.inr k0:Key)=Sum.inr k:=fun z=>c (Sum.inr.inj z)
    rw[List.find?_cons_of_neg (by simpa using nk)]
    exact b1
structure NewOk(K:Fg)(C:Addr):Prop where
 makes:PySem.W.makesIn K C=true
 kp:PySem.W.keepIn K (.ref C)=true
 oc:ObC K C
def GOk(P:Program)(w:World)(K:Fg)(mg:Str->Ot vL)(base:Heap)(A:Around)(F:Nat->Fn)(x:Str):GV->Prop
 |.cst d=>∃ v u,mg x=some u/\RelV v u/\∀ ad H,Den K ad H v d
 |.blt=>mg x=none
 |.dct ks ds=>Za4 w.params K mg x ks ds
 |.cls i ms subs=>mg x=some (.ref (ClsTab.ca i))/\NewOk K (ClsTab.ca i) /\
   ∀ m j ps,ms.lookup m=some (j,ps)->∃ (k:Nat) (f:Ad) (fd:FuncData) (pn:Li Str),FnOk P w K mg base CX0 k f fd pn (spD K (F j))/\Room (k+1) A/\Meth K (ClsTab.ca i) m f/\Binds K fd pn []
 |.fn i ps ds=>∃ (k:Nat) (f:Ad) (fd:FuncData) (pn:Li Str),FnOk P w K mg base CX0 k f fd pn (spD K (F i))/\Room k A/\mg x=some (.ref f)/\PySem.W.keepIn K (.ref f)=true /\
   ∀ m,m<=ds.length->∃ dvs us,(∀ ad H,Dens K ad H dvs (ds.drop m))/\Vals dvs us/\Binds K fd pn us
structure Cxt(X:Cx)(G:Gs)(F:Nat->Fn)(sc:Scope)(N:List Str):Prop where
 hN:X.N=N
 vis:∀ x,X7 sc x=true->Vis X.env.scope x
 glb:∀ x,ZO sc x=true->Gl X x
 calm:X.calm=true
 hu:X.A.units+64 < cLine
 gl:∀ x g,G.lookup x=some g->GOk X.prog X.w X.K X.mg X.base X.A F x g
 cel:∀ x,VZ sc x=true->X.env.scope.names.lookup x=some .cell\/X.env.scope.names.lookup x=some .free
 nx:X.xe=fun _ _=>False
theorem Wc{N:Li Str}{x:Str}{i:Nat}(h:N.idxOf? x=some i):N[i]?=some x:=by
 unfold List.idxOf? at h
 rw[List.findIdx?_eq_some_iff_getElem]at h;obtain⟨hi,h1,_⟩:=h;rw[Lg hi];rw[beq_iff_eq.mp h1]
theorem QL{sc:Scope}{x:Str}(h:X7 sc x=true):(x==("__debug__":Str))=false/\(x==("__classdict__":Str))=false:=by
 unfold X7 at h;rw[Ba,Ba,Bool.not_eq_true',Bool.not_eq_true']at h;exact h.1
theorem Y6{sc:Scope}{x:Str}(h:ZO sc x=true):(x==("__debug__":Str))=false:=by
 unfold ZO at h;rw[Ba,Bool.not_eq_true']at h;exact h.1
section
variable {X:Cx}{F:Nat->Fn}
theorem Zk9{e:Expr}{f:Ev}(h:PE X e (tE X.K f))(he:∀ whole,isTrue e X.env whole=(do let v <-whole;standAt e.pos;holding [v] (truthy v)):=by intro _;rfl):PT X e (tT X.K f):=Wh (pt_val h he) QC
theorem Zjt{c a b:Expr}{fc fa fb:Ev}{pos:Pos}(hc:PT X c (tT X.K fc))(ha:PT X a (tT X.K fa))(hb:PT X b (tT X.K fb)):PT X (.IfExp c a b pos) (tT X.K (Yw fc fa fb)):=by
 intro pQ s σ H Q I h;obtain⟨ad,ρ,st,d,st',E,S,e,p⟩:=h;obtain⟨k,st1,q,e⟩:=Z9 e;show wpAny _ _ (isTrue c X.env (eval c X.env) >>= fun t=>if t then isTrue a X.env (eval a X.env) else isTrue b X.env (eval b X.env)) _ _ s
 refine wpAny_bind (thn (hc pQ s σ H (fun k' H1=>k'=k/\∃ ad1,Ext ad H ad1 H1/\StOk X.K ad1 H1 st1) I ⟨ad,ρ,st,k,st1,E,S,q,fun ad1 H1 x1 S1=>⟨rfl,ad1,x1,S1⟩⟩) fun t s1 ⟨H1,I1,et,ad1,x1,S1⟩=>?_)
 subst et;cases t with
 |true=>
  rw[if_pos rfl]at e ⊢;exact ha pQ s1 σ H1 Q I1 ⟨ad1,ρ,st1,d,st',E.mono x1,S1,e,fun ad2 H2 x2 S2=>p ad2 H2 (x1.trans x2) S2⟩
 |false=>
  rw[if_neg Bf]at e ⊢;exact hb pQ s1 σ H1 Q I1 ⟨ad1,ρ,st1,d,st',E.mono x1,S1,e,fun ad2 H2 x2 S2=>p ad2 H2 (x1.trans x2) S2⟩
def Zab:CE->Prop
 |.aN=>True
 |.aC _ _=>True
 |_=>False
theorem Ql{c:CE}(h:Zab c){ρ:Env}{st st':Za}{d:D}(e:ev F c ρ st=some (d,st')):∃ ds,d=.tup ds/\ds.length<=1000:=by
 cases c with
 |aN=>cases e;exact⟨[],rfl,by decide⟩
 |aC a r=>
  have e:ZS (ev F a) (ev F r) Wl ρ st=some (d,st'):=e;unfold ZS at e;split at e
  ·split at e
   ·rename_i y st2 _
    cases y with
    |tup zs=>
     have e:(if zs.length < 1000 then some (D.tup (_ :: zs),st2) else none)=some (d,st'):=e
     split at e
     ·rename_i hz
      cases e;exact⟨_,rfl,hz⟩
     ·exact Zb e
    |_=>simp[Wl]at e
   ·exact Zb e
  ·exact Zb e
 |_=>exact False.elim h
structure SE(X:Cx)(F:Nat->Fn)(e:Expr)(c:CE):Prop where
 pe:PE X e (tE X.K (ev F c))
 pt:PT X e (tT X.K (ev F c))
theorem SE.of{e:Expr}{c:CE}(h:PE X e (tE X.K (ev F c)))(he:∀ whole,isTrue e X.env whole=(do let v <-whole;standAt e.pos;holding [v] (truthy v)):=by intro _;rfl):SE X F e c:=⟨h,Zk9 h he⟩
theorem JR{op:BoolOp}{es:Li Expr}{pos:Pos}{t:TT}(h:PT X (.BoolOp op es pos) t):PW X (.BoolOp op es pos) t:=fun _ pQ s σ H Q I q=>h pQ s σ H Q I q
end
end Dp



namespace Dp
open PySem PySem.Spec PyProof.Rows L2
variable [ClsTab]
theorem Jf:bootBuiltins "tuple"=some (.type "tuple"):=by decide +kernel
theorem Zdh:bootBuiltins "int"=some (.type "int"):=by decide +kernel
theorem ZfO:bootBuiltins "bool"=some (.type "bool"):=by decide +kernel
theorem Zdi:bootBuiltins "str"=some (.type "str"):=by decide +kernel
theorem ZiC:bootBuiltins "min"=some (.builtin "min"):=by decide +kernel
theorem ZiB:bootBuiltins "max"=some (.builtin "max"):=by decide +kernel
theorem Ux:bootBuiltins "isinstance"=some (.builtin "isinstance"):=by decide +kernel
theorem Ziz:bootBuiltins "all"=some (.builtin "all"):=by decide +kernel
theorem ZiA:bootBuiltins "len"=some (.builtin "len"):=by decide +kernel
section
variable {G:Gs}{F:Nat->Fn}
def ZC(G:Gs)(F:Nat->Fn)(n:Nat):Prop:=∀ X sc N,Cxt X G F sc N->∀ e c,cE G n sc N e=some c->SE X F e c
def YX(G:Gs)(F:Nat->Fn)(n:Nat):Prop:=∀ X sc N,Cxt X G F sc N->∀ es c,cEs G n sc N es=some c->PA X es (tA X.K (ev F c))/\Zab c/\es.all Zm=true/\(es=[]->c=.aN)
def Qj(G:Gs)(F:Nat->Fn)(n:Nat):Prop:=∀ X sc N,Cxt X G F sc N->∀ e c,cO G n sc N e=some c->PO X e (tO X.K (ev F c))

theorem Ze7{X:Cx}{v:Const}{k:Nat}{pos:Pos}{c:CE}(h:CE.ofConst v=some c):SE X F (.Constant v k pos) c:=by
 cases v with
 |none=>cases h;exact .of (Zq pe_non (Jy fun _ _=>.non))
 |bool b=>cases h;exact .of (Zq pe_bl (Jy fun _ _=>.bl b))
 |int i=>cases h;exact .of (Zq pe_int (Jy fun _ _=>.int i))
 |str x=>cases h;exact .of (Zq pe_str (Jy fun _ _=>.str x))
 |_=>exact Zb h
theorem Zhl{X:Cx}{sc:Scope}{N:Li Str}{x:Str}{pos:Pos}{c:CE}(K:Cxt X G F sc N)(h:Zer G sc N x=some c):SE X F (.Name x pos) c:=by
 unfold Zer at h;split at h
 ·rename_i hl
  cases q:N.idxOf? x with
  |none=>rw[q]at h;cases h
  |some i=>
   rw[q]at h;cases h;obtain⟨h1,h2⟩:=QL hl;exact .of (Zq (pe_var (i:=i) (by rw[K.hN];exact Wc q) (K.vis x hl) h1 h2) Zgx)
 ·split at h
  ·rename_i hg
   split at h
   ·rename_i d q
    cases h;obtain⟨v,u,hm,r,hd⟩:=K.gl x _ q;exact .of (Zq (pe_glob (K.glb x hg) hm r (Y6 hg)) (Jy hd))
   ·exact Zb h
  ·exact Zb h
theorem pa1{X:Cx}{a:Expr}{t:TE}(hp:Zm a=true)(ha:PE X a t):PA X [a] (tCons t tNil):=pa_cons ha pa_nil (Zf hp)
theorem pa2{X:Cx}{a b:Expr}{t u:TE}(hp:Zm a=true)(hq:Zm b=true)(ha:PE X a t)(hb:PE X b u):PA X [a,b] (tCons t (tCons u tNil)):=pa_cons ha (pa1 hq hb) (Zf hp)
theorem Zhd{X:Cx}{sc:Scope}{N:Li Str}{f:Str}{a:Expr}{x c:CE}{p pos:Pos}(K:Cxt X G F sc N)(hg:ZO sc f=true)(hm:X.mg f=none)(hp:Zm a=true)(A:PE X a (tE X.K (ev F x)))(h:Zix f x=some c) :
  PE X (.Call (.Name f p) [a] [] pos) (tE X.K (ev F c)):=by 
 have hG:=K.glb f hg;unfold Zix at h;split at h
 ·rename_i e;subst e;cases h
  exact Zq (pe_callB Zcc hG hm ZiA (pa1 hp A) (by decide) (by decide) (Zf hp) rfl) Xz
 ·split at h
  ·rename_i e;subst e;cases h
   exact Zq (pe_callTy Ji hG hm Jf (pa1 hp A) (by decide) (by decide) (Zf hp) rfl) Xz
  ·split at h
   ·rename_i e;subst e;cases h
    exact Zq (pe_callTy Zca hG hm Zdh (pa1 hp A) (by decide) (by decide) (Zf hp) rfl) Xz
   ·split at h
    ·rename_i e;subst e;cases h
     exact Zq (pe_callB (ZeY Zkn K.calm) hG hm Ziz (pa1 hp A) (by decide) (by decide) (Zf hp) rfl) Xz
    ·split at h
     ·rename_i e;subst e;cases h
      exact Zq (pe_callTy Zcf hG hm Zdi (pa1 hp A) (by decide) (by decide) (Zf hp) rfl) Xz
     ·exact Zb h
theorem U7{F:Nat->Fn}{y:CE}(h:Zat y=true){ρ:Env}{st st':Za}{d:D}(e:ev F y ρ st=some (d,st')):st'=st:=by
 unfold Zat at h;split at h
 ·rename_i i j
  have e:ZS (YL i) (evC (.int j)) ixR ρ st=some (d,st'):=e;unfold ZS at e;split at e
  ·rename_i x st1 q1
   unfold YL at q1;split at q1
   ·cases q1
    have e:ixR x (.int j) st=some (d,st'):=e;unfold ixR at e;split at e
    ·cases e;rfl
    ·exact Zb e
   ·cases q1
  ·exact Zb e
 ·have e:YL _ ρ st=some (d,st'):=e
  unfold YL at e;split at e
  ·cases e;rfl
  ·exact Zb e
 ·rename_i i
  have e:ZF (YL i) X3 ρ st=some (d,st'):=e;unfold ZF at e;split at e
  ·rename_i x st1 q1
   unfold YL at q1;split at q1
   ·cases q1
    unfold X3 at e;split at e
    ·cases e;rfl
    ·exact Zb e
   ·cases q1
  ·exact Zb e
 ·cases h
theorem VJ{op:CmpOp}{x y d:D}{st st':Za}(h:Xt op x y st=some (d,st')):∃ k,d=.bl k/\st'=st:=by
 unfold Xt at h;split at h
 ·cases h;exact⟨_,rfl,rfl⟩
 ·exact Zb h
theorem UT{K:Fg}{op op2:CmpOp}{fa fb fc:Ev}(hb:∀ ρ st st' d,fb ρ st=some (d,st')->st'=st)(σ:L2.St)(H:Hp)(Q:VK)(h:tE K (Yw (ZS fa fb (Xt op)) (ZS fb fc (Xt op2)) (evC (.bl false))) σ H Q) :
  tChain (rD K (Xt op)) (rD K (Xt op2)) (tE K fa) (tE K fb) (tE K fc) σ H Q:=by
 obtain⟨ad,ρ,st,d,st',E,S,e,p⟩:=h;obtain⟨k,st1,q,e⟩:=Z9 e;unfold ZS at q;split at q
 ·rename_i x s1 q1
  split at q
  ·rename_i y s2 q2
   have z:=hb _ _ _ _ q2;subst z;obtain⟨k',ek,es⟩:=VJ q;subst es;refine⟨ad,ρ,st,x,_,E,S,q1,fun v1 ad1 H1 x1 S1 d1=>⟨ad1,ρ,_,y,_,E.mono x1,S1,q2,fun v2 ad2 H2 x2 S2 d2=>⟨ad2,_,x,y,.bl k,_,S2,d1.mono x2,d2,q,fun v3 ad3 H3 x3 S3 d3=>⟨k,d3.ofBl,?_⟩⟩⟩⟩
   cases k with
   |false=>
    rw[if_neg Bf]at e ⊢;cases e;exact(p.later (x1.trans (x2.trans x3))).at S3 (.bl false)
   |true=>
    rw[if_pos rfl]at e ⊢;unfold ZS at e;rw[q2]at e;split at e
    ·rename_i y' s3 qq
     cases qq;split at e
     ·rename_i z s4 q4
      exact⟨ad3,ρ,_,z,s4,E.mono (x1.trans (x2.trans x3)),S3,q4,fun v4 ad4 H4 x4 S4 d4=>⟨ad4,s4,y,z,d,st',S4,d2.mono (x3.trans x4),d4,e,p.later (x1.trans (x2.trans (x3.trans x4)))⟩⟩
     ·exact Zb e
    ·exact Zb e
  ·exact Zb q
 ·exact Zb q
theorem Ziv{X:Cx}{b:Expr}{pos:Pos}(hq:Zm b=true):(backTo pos (starEach [b] X.env)).any (·.1)=false:=Y3 (by rw[List.all_cons,hq];rfl)
theorem Zhe{X:Cx}{sc:Scope}{N:Li Str}{f:Str}{a b:Expr}{x y c:CE}{p pos:Pos}(K:Cxt X G F sc N)(hg:ZO sc f=true)(hm:X.mg f=none)(hp:Zm a=true)(hq:Zm b=true)(A:PE X a (tE X.K (ev F x)))(B:PE X b (tE X.K (ev F y)))(h:Ziy f x y=some c):PE X (.Call (.Name f p) [a,b] [] pos) (tE X.K (ev F c)):=by
 have hG:=K.glb f hg;unfold Ziy at h;split at h
 ·rename_i e;subst e;cases h
  exact Zq (pe_callB (Zce K.calm) hG hm ZiC (pa2 hp hq A B) (by decide) (by decide) (Zf hp) (Ziv hq)) Jx
 ·split at h
  ·rename_i e;subst e;cases h
   exact Zq (pe_callB (Zcd K.calm) hG hm ZiB (pa2 hp hq A B) (by decide) (by decide) (Zf hp) (Ziv hq)) Jx
  ·exact Zb h
theorem Zgn{K:Fg}{T:Ty}{fa:Ev}(σ:L2.St)(H:Hp)(Q:VK)(h:tE K (ZF fa (Zav T)) σ H Q) :
  tCB (fun vs H Q=>∃ v,vs=[v,.ty (tyN T)]/\rC K (on1 (Zav T)) [v] H Q) (tCons (tE K fa) (tCons (tC (.ty (tyN T))) tNil)) σ H Q:=by
 obtain⟨ad,ρ,st,d,st',E,S,e,p⟩:=h;unfold ZF at e;split at e
 ·rename_i x st1 q1
  exact⟨ad,ρ,st,x,st1,E,S,q1,fun v1 ad1 H1 x1 S1 d1=>⟨v1,rfl,ad1,st1,[x],d,st',S1,.cons d1 .nil,e,p.later x1⟩⟩
 ·exact Zb e
theorem Zfm{X:Cx}{sc:Scope}{N:Li Str}{b:Expr}{T:Ty}(K:Cxt X G F sc N)(h:ZbW G sc b=some T):Zm b=true/\PE X b (tC (.ty (tyN T))):=by
 cases b with
 |Name t p=>
  have h2:Zj5 G sc t=some T:=h;clear h;unfold Zj5 at h2;split at h2
  ·rename_i hg
   rw[Ba]at hg;have hm:X.mg t=none:=by
    have z:=hg.2;unfold UV at z;split at z
    ·rename_i q;exact K.gl t _ q
    ·cases z
   have hG:=K.glb t hg.1;refine⟨rfl,?_⟩;unfold Zll at h2;split at h2
   ·rename_i e;subst e;cases h2
    exact pe_bltn hG hm Zdh rfl
   ·split at h2
    ·rename_i e;subst e;cases h2
     exact pe_bltn hG hm ZfO rfl
    ·split at h2
     ·rename_i e;subst e;cases h2
      exact pe_bltn hG hm Zdi rfl
     ·split at h2
      ·rename_i e;subst e;cases h2
       exact pe_bltn hG hm Jf rfl
      ·exact Zb h2
  ·exact Zb h2
 |_=>simp[ZbW]at h
theorem ZjK{X:Cx}{sc:Scope}{N:Li Str}{a b:Expr}{x:CE}{T:Ty}{p pos:Pos}(K:Cxt X G F sc N)(hg:ZO sc "isinstance"=true)(hm:X.mg "isinstance"=none)(hp:Zm a=true)(A:PE X a (tE X.K (ev F x)))(hT:ZbW G sc b=some T) :
  PE X (.Call (.Name "isinstance" p) [a,b] [] pos) (tE X.K (ev F (.isi T x))):=by
 obtain⟨hq,B⟩:=Zfm K hT;exact Zq (pe_callB (Zdq (T:=T)) (K.glb _ hg) hm Ux (pa2 hp hq A B) (by decide) (by decide) (Zf hp) (Ziv hq)) Zgn
theorem Zhg{X:Cx}{sc:Scope}{N:Li Str}{f:Str}{as:Li Expr}{cs:CE}{i ps:Nat}{ds:Li D}{p pos:Pos}(K:Cxt X G F sc N)(hg:ZO sc f=true)(hG:G.lookup f=some (.fn i ps ds))(hl:as.length<=ps/\ps<=as.length+ds.length)(A:PA X as (tA X.K (ev F cs))/\Zab cs/\as.all Zm=true/\(as=[]->cs=.aN)):PE X (.Call (.Name f p) as [] pos) (tE X.K (ev F (.call i cs (ds.drop (as.length+ds.length - ps))))):=by
 obtain⟨k,fa,fd,pn,Fk,hr,hm,hk,hb⟩:=K.gl f _ hG;obtain⟨dvs,us,hd,hv,hbn⟩:=hb (as.length+ds.length - ps) (by omega)
 obtain⟨PAs,_,hp,hn⟩:=A;cases as with
 |nil=>
  refine Zq (pe_call0 (E:=E0) Fk hr (K.glb f hg) hm hk hbn hv pass0 (Y6 hg)) fun σ H Q h=>?_
  rw[hn rfl]at h;exact VW σ H _ (Jz (E:=E0) hd σ H Q h)
 |cons e es=>
  rw[List.all_cons,Ba]at hp;exact Zq (pe_call (E:=E0) Fk hr (K.glb f hg) hm hk hbn hv pass0 PAs (Y6 hg) (Zf hp.1) (Y3 hp.2)) (Jz hd)
theorem Qy{X:Cx}{sc:Scope}{N:Li Str}{nm:Str}{b:Expr}{as:Li Expr}(K:Cxt X G F sc N)(h:fnA G sc nm b=some as):∃ p pos,b=.Call (.Name nm p) as [] pos/\Gl X nm/\X.mg nm=none:=by
 obtain⟨q,h1,h2⟩:=Option.bind_eq_some_iff.mp h;refine XA h2 fun hc h3=>?_
 obtain⟨rfl,hg,hb⟩:=hc;cases h3;unfold ZhR at h1;split at h1
 ·cases h1
  refine⟨_,_,rfl,K.glb _ hg,?_⟩;unfold UV at hb;split at hb
  ·rename_i q;exact K.gl _ _ q
  ·cases hb
 ·cases h1
theorem ZgW{as:Li Expr}{a:Expr}(h:Zk6 as=some a):as=[a]:=by
 cases as with
 |nil=>exact Zb h
 |cons x as=>cases as with
  |nil=>cases h;rfl
  |cons _ _=>exact Zb h
theorem UG{X:Cx}{sc:Scope}{N:Li Str}{b e:Expr}(K:Cxt X G F sc N)(h:YQ G sc b=some e):∃ p pos,b=.Call (.Name "range" p) [e] [] pos/\Gl X "range"/\X.mg "range"=none:=by
 obtain⟨as,h1,h2⟩:=Option.bind_eq_some_iff.mp h;rw[ZgW h2]at h1;exact Qy K h1
theorem ZjN{X:Cx}{sc:Scope}{N:Li Str}{f:Str}{a e:Expr}{o:Ot CE}{c:CE}{p pos:Pos}(K:Cxt X G F sc N)(hg:ZO sc f=true)(hm:X.mg f=none)(hb:ZaZ G sc f a=some e)(B:∀ c,o=some c->Zm e=true/\PE X e (tE X.K (ev F c)))(h:o.map CE.tupR=some c):SE X F (.Call (.Name f p) [a] [] pos) c:=by cases hb
noncomputable def rLk(K:Fg)(A:Ad)(ks:Li Str)(ds:Li D):R2:=fun x y H Q=>x=.ref A/\∃ k d,y=.str k/\ZT ks ds k=some d/\∀ v,(∀ ad H,Den K ad H v d)->Q v H
theorem ZkN{X:Cx}{A:Ad}{o:Obj}{es:Array DictEntry}{ep:Nat}{ks:Li Str}{ds:Li D}(lk:X.K.lookup A=some o)(ex:o.ExactDict)(hd:o.data=.dict es ep)(hm:(A==sysModules)=false)(nd:ks.Nodup)(eo:EsOk X.w.params X.K es.toList ks ds):IxR X (rLk X.K A ks ds):=by
 intro value slice pQ s σ H x y v u Q I rx ry h hs;obtain⟨rfl,k,d,rfl,he,q⟩:=h;cases rx;obtain⟨kvs,pr,kn,kk,val⟩:=eo.open (P:=X.prog);have dd:s.heap.DictOf (mixKind X.prog X.w) A kvs:=by
  refine⟨o,es,ep,I.kIn A o lk,ex,hd,fun e he=>kk e (by simpa using he),pr,?_⟩
  rw[kn];exact List.pairwise_map.mpr (nd.imp fun h z=>h (Sum.inr.inj z))
 obtain⟨w,z,hw,rw',dn⟩:=val k d he;exact tail_any dd.typeIs PySem.F.slot_dict_getitem.lookup (wpAny_getItem_of (kV_is (k:=Sum.inr k) ry) dd.mapOf hw ⟨z,H,I.tok _,rw',q z dn⟩) hs
theorem Zd8{K:Fg}{A:Ad}{ks:Li Str}{ds:Li D}{fa:Ev}(σ:L2.St)(H:Hp)(Q:VK)(h:tE K (ZF fa (UY ks ds)) σ H Q):tOp (rLk K A ks ds) (tC (.ref A)) (tE K fa) σ H Q:=by
 obtain⟨ad,ρ,st,d,st',E,S,e,p⟩:=h;unfold ZF at e;split at e
 ·rename_i x st1 q1
  unfold UY at e;split at e
  ·rename_i k
   split at e
   ·rename_i d' hl
    cases e;exact⟨ad,ρ,st,.str k,_,E,S,q1,fun v ad1 H1 x1 S1 d1=>⟨rfl,k,d,d1.ofStr,hl,fun w dn=>p w ad1 H1 x1 S1 (dn ad1 H1)⟩⟩
   ·exact Zb e
  ·exact Zb e
 ·exact Zb e
theorem ZhG{as:Li Expr}{p:Expr×Expr}(h:Zfl as=some p):as=[p.1,p.2]:=by
 cases as with
 |nil=>exact Zb h
 |cons x as=>cases as with
  |nil=>exact Zb h
  |cons y as=>cases as with
   |nil=>cases h;rfl
   |cons _ _=>exact Zb h
theorem Zhj{X:Cx}{sc:Scope}{N:Li Str}{f:Str}{a u v:Expr}{x y:CE}{p pos:Pos}(K:Cxt X G F sc N)(hg:ZO sc f=true)(hm:X.mg f=none)(hb:ZaB G sc f a=some (u,v))(hu:Zm u=true)(hv:Zm v=true)(A:PE X u (tE X.K (ev F x)))(B:PE X v (tE X.K (ev F y))):PE X (.Call (.Name f p) [a] [] pos) (tE X.K (ev F (.lstR x y))):=by cases hb
theorem Zhi{X:Cx}{sc:Scope}{N:Li Str}{a b:Expr}{y:CE}{ks:Li Str}{ds:Li D}{pos:Pos}(K:Cxt X G F sc N)(hn:W8 G sc a=some (ks,ds))(hp:Zm b=true)(B:PE X b (tE X.K (ev F y))):PE X (.Subscript a b pos) (tE X.K (ev F (.look ks ds y))):=by
 unfold W8 at hn;split at hn
 ·split at hn
  ·rename_i hg
   split at hn
   ·rename_i q
    cases hn;obtain⟨A,o,es,ep,hm,lk,ex,hd,hs,nd,eo⟩:=K.gl _ _ q;exact Zq (pe_ix (ZkN lk ex hd hs nd eo) (pe_glob (K.glb _ hg) hm (show RelV (.ref A) (.ref A) from rfl) (Y6 hg)) B (JC hp)) Zd8
   ·exact Zb hn
  ·exact Zb hn
 ·exact Zb hn
theorem Zld{X:Cx}{sc:Scope}{N:Li Str}{f:Str}{i j:Nat}{ms:Li (Str×Nat×Nat)}{subs:Li Nat}{p pos:Pos}(K:Cxt X G F sc N)(hg:ZO sc f=true)(hG:G.lookup f=some (.cls i ms subs))(hl:ms.lookup ("__init__":Str)=some (j,1)):PE X (.Call (.Name f p) [] [] pos) (tE X.K (ev F (.isc [i,j] .aN))):=by
 obtain⟨hm,nw,hms⟩:=K.gl f _ hG;obtain⟨k,fa,fd,pn,Fk,hr,hme,hb⟩:=hms _ j 1 hl;intro pQ s σ H Q I h;obtain⟨ad,ρ,st,d,st',E,S,e,q⟩:=h;have e:(match F j [.dic st.length] (st++[(true,[.int i])]) with
  |some (.non,st')=>some (D.dic st.length,st')
  |_=>none)=some (d,st'):=e
 split at e
 ·rename_i st2 q2
  cases e;refine wpAny_Call_Name_kw (ld_glob I (K.glb f hg) hm ?_ (Y6 hg));refine PySem.W.callWith_K0 I.kIn nw.kp (run_make (us:=[]) (vs:=[]) (E:=E0) ⟨nw.makes,hme.at_,hme.fn,nw.kp⟩ Fk hr hb .nil pass0 I .nil fun x dx hx hdx hne hk=>?_)
  have hx2:upd H dx (.own x) x=none:=by rw[upd_ne hne.symm];exact hx
  have S1:=S.laid (o:=.own x) hdx;have xt:=(Ext.laid (ad:=ad) (o:=.own x) hdx).trans (S1.extD (o:=.ins (ClsTab.ca i) dx []) hx2 hk);have gl:(ad++[x])[st.length]?=some x:=by rw[<-S.len];exact Z3
  exact⟨ad++[x],[.dic st.length],_,.non,_,S1.pushO hx2 hk nw.oc,.cons (.dic gl ⟨_,upd_same,rfl⟩) .nil,q2,fun v ad2 H2 x2 S2 d2=>⟨d2.ofNon,q _ ad2 H2 (xt.trans x2) S2 (.dic (x2.pre _ _ gl) ((x2.kd _ _ gl).mp ⟨_,upd_same,rfl⟩))⟩⟩
 ·exact Zb e
theorem Zgm{K:Fg}{fa:Ev}{f:Str}(hf:fldNames.contains f=true)(σ:L2.St)(H:Hp)(Q:VK)(h:tE K (ZF fa (ZdR [f])) σ H Q):tFld K (tE K fa) f σ H Q:=by
 obtain⟨ad,ρ,st,d,st',E,S,e,p⟩:=h;unfold ZF at e;split at e
 ·rename_i x st1 q1
  unfold ZdR at e;split at e
  ·rename_i f' a hz
   cases hz;split at e
   ·rename_i b c es q2
    split at e
    ·rename_i w q3
     cases e;refine⟨ad,ρ,st,.dic a,_,E,S,q1,fun v ad1 H1 x1 S1 d1=>?_⟩
     obtain⟨l,rfl,hl,n⟩:=d1.ofDic;obtain⟨j,dx,kvs,rfl,r,ho,_,oc,nf⟩:=S1.obj hl n q2;rcases WI (x:=f) r with⟨u,d0,e1,e2,e3⟩|⟨_,e2⟩
     ·rw[e2]at q3
      cases q3;exact⟨l,_,dx,kvs,u,rfl,ho,oc.cl,oc.na f hf,e1.2,(p.later x1).at S1 e3⟩
     ·rw[e2]at q3;cases q3
    ·exact Zb e
   ·exact Zb e
  ·exact Zb e
 ·exact Zb e
theorem ZjI{X:Cx}{o:Expr}{f:Str}{c:Ot CE}{r:CE}{pos:Pos}(A:∀ x,c=some x->PE X o (tE X.K (ev F x)))(h:ZkI o f c=some r):PE X (.Attribute o f pos) (tE X.K (ev F r)):=by
 cases o with
 |Name y yp=>exact XA h fun hc h=>QT (P:=fun r=>PE X _ (tE X.K (ev F r))) h fun x hx=>Zq (pe_fld (A x hx) rfl) (Zgm hc)
 |_=>exact Zb h
theorem Zh5{α:Type}:∀ {us:Li α},us.length=1->∃ a,us=[a]
 |[a],_=>⟨a,rfl⟩
theorem Zcw{pos:Pos}{env:PySem.Env}{as:Li Expr}(h:as.all Zm=true)(hl:as.length < 20):((backTo pos (starEach as env)).all (fun x=>!x.1)&&(backToKw pos (keywordEach [] env)).all (fun x=>x.1.isSome)
  &&decide (as.length+([]:Li Keyword).length+(if ([]:Li Keyword).isEmpty then 0 else 1) < 30))=true:=by
 have a:=Y3 (pos:=pos) (env:=env) h;have b:(backTo pos (starEach as env)).all (fun x=>!x.1)=true:=by
  rw[List.all_eq_true];intro x hx;have:=List.any_eq_false.mp a x hx;simpa using this
 rw[b,decide_eq_true (show as.length+([]:Li Keyword).length+(if ([]:Li Keyword).isEmpty then 0 else 1) < 30 by simp;omega)]
 rfl
theorem ZgI{X:Cx}{o:Expr}{name:Str}{apos pos:Pos}{args:Li Expr}{Q:vL->Sd->Prop}{s:Sd}(hbase:attributeBase o name X.env (eval o X.env)=eval o X.env)(hfew:((backTo pos (starEach args X.env)).all (fun x=>!x.1)&&(backToKw pos (keywordEach [] X.env)).all (fun x=>x.1.isSome)&&decide (args.length+([]:Li Keyword).length+(if ([]:Li Keyword).isEmpty then 0 else 1) < 30))=true)(hline:(apos.endLine==pos.line)=true)(h:wpAny (model X.prog X.w) X.A (eval o X.env) (fun ov s₁=>∀ pl,wpAny (model X.prog X.w) X.A (getMethod ov name pl) (fun fx s₂=>wpAny (model X.prog X.w) X.A (callWith pos fx.1 fx.2 (backTo pos (starEach args X.env)) (backToKw pos (keywordEach [] X.env))) Q X.xe s₂) X.xe s₁) X.xe s) :
  wpAny (model X.prog X.w) X.A (eval (.Call (.Attribute o name apos) args [] pos) X.env) Q X.xe s:=by
 rw[arm_eval_Call,hbase];refine wpAny_bind (wpAny_mono h (fun ov s₁ h₁=>?_) fun _ _ e=>e)
 refine wpAny_bind (wpAny_standAt ?_);have hform:methodCallForm (args.length+([]:Li Keyword).length) (backTo pos (starEach args X.env)) (backToKw pos (keywordEach [] X.env))=true:=hfew;have hpos:methodCallPos true o X.env apos pos=pure pos:=by unfold methodCallPos;simp[hline]
 unfold methodCall;rw[hform];refine wpAny_bind (wpAny_holding ?_);exact wpAny_mono (h₁ _) (fun fx s₂ h₂=>wpAny_bind (wpAny_of_eq hpos h₂)) fun _ _ e=>e
theorem Zj2{m:Str}{k i j:Nat}(h:(XT m k G).lookup i=some j):∃ x ms subs,G.lookup x=some (.cls i ms subs)/\ms.lookup m=some (j,k+1):=by
 have hm:(i,j)∈XT m k G:=by
  generalize XT m k G=l at h
  induction l with
  |nil=>exact Zb h
  |cons p l ih=>
   obtain⟨a,b⟩:=p;rw[List.lookup_cons]at h;split at h
   ·rename_i z
    cases h;rw[beq_iff_eq.mp z];exact Ls
   ·exact Lm _ (ih h)
 obtain⟨x,_,hx⟩:=List.mem_filterMap.mp hm;unfold Zh7 at hx;split at hx
 ·rename_i i' ms subs q
  split at hx
  ·rename_i j' ps q2
   split at hx
   ·rename_i e
    subst e;cases hx;exact⟨x,ms,subs,q,q2⟩
   ·exact Zb hx
  ·exact Zb hx
 ·exact Zb hx
def ZjB:V->Li V->Hp->VK->Prop:=fun x xs H Q=>∃ z y,x=.str z/\xs=[.str y]/\(y.length=1/\z.length<=Zd)/\∀ p,H p=none->Q (.ref p) (upd H p (.lst ((WW z y).map V.str)))
theorem ZcA{X:Cx}{fa fb:Ev}(σ:L2.St)(H:Hp)(Q:VK)(h:tE X.K (ZS fa fb Zc0) σ H Q):tBM X.K "str" ZjB (tE X.K fa) (tA X.K fb) σ H Q:=by
 obtain⟨ad,ρ,st,d,st',E,S,e,p⟩:=h;unfold ZS at e;split at e
 ·rename_i dx st1 q1
  split at e
  ·rename_i dy st2 q2
   unfold Zc0 at e;split at e
   ·rename_i x y
    split at e
    ·rename_i c
     cases e;refine⟨ad,ρ,st,.str x,st1,E,S,q1,fun v ad1 H1 x1 S1 d1=>?_⟩
     cases d1;refine⟨rfl,ad1,ρ,st1,[.str y],_,E.mono x1,S1,q2,fun vs ad2 H2 x2 S2 d2=>?_⟩
     obtain⟨w,rfl,dw⟩:=W5 d2;cases dw;refine⟨x,y,rfl,rfl,c,fun q hq=>p.later (x1.trans x2) _ (ad2++[q]) _ (Ext.push hq) (S2.push hq (WX _)) (.newL ?_)⟩
     rw[<-S2.len];exact Z3
    ·exact Zb e
   ·exact Zb e
  ·exact Zb e
 ·exact Zb e
theorem ZjM{X:Cx}{y:Str}{yp ap cp:Pos}{as:Li Expr}{x cs:CE}(hline:(ap.endLine==cp.line)=true)(hlen:as.length=1)(B:PE X (.Name y yp) (tE X.K (ev F x)))(A:PA X as (tA X.K (ev F cs))/\Zab cs/\as.all Zm=true/\(as=[]->cs=.aN)):PE X (.Call (.Attribute (.Name y yp) "split" ap) as [] cp) (tE X.K (ev F (.tix x cs))):=by
 obtain⟨PAs,_,hp,_⟩:=A;obtain⟨e0,rfl⟩:=Zh5 hlen;rw[List.all_cons,Ba]at hp;exact Zq (pe_bm PySem.F.plainAttrs_str PySem.F.slot_str_split PySem.F.type_str_split Zeq B PAs rfl (by rw[Zf hp.1];rfl) hline (Zf hp.1) rfl) ZcA
theorem ZbT{k:Str}:∀ {ks:Li Str}{kvs:Li (Key×vL)},kvs.map (·.1)=ks.map Sum.inr->(valueAt kvs (Sum.inr k)).isSome=ks.contains k
 |[],[],_=>rfl
 |[],_ :: _,h=>nomatch h
 |_ :: _,[],h=>nomatch h
 |a :: ks,p :: kvs,h=>by
  rw[List.map_cons,List.map_cons]at h
  injection h with h1 h2
  have ih:=ZbT (k:=k) h2;unfold valueAt at ih ⊢
  rw[List.contains_cons];by_cases c:a=k
  ·subst c
   rw[List.find?_cons_of_pos (by simpa using h1),beq_self_eq_true];rfl
  ·rw[List.find?_cons_of_neg (by rw[h1];simpa using c),ih,show(k==a)=false from beq_eq_false_iff_ne.mpr fun z=>c z.symm,Bool.false_or]
theorem Zi4{X:Cx}{A:Ad}{o:Obj}{es:Array DictEntry}{ep:Nat}{ks:Li Str}{ds:Li D}(lk:X.K.lookup A=some o)(ex:o.ExactDict)(hd:o.data=.dict es ep)(hm:(A==sysModules)=false)(nd:ks.Nodup)(eo:EsOk X.w.params X.K es.toList ks ds){pQ:Li (Ad×Obj)}{σ:L2.St}{H:Hp}{s:Sd}{k:Str}{u:vL}{Q:VK}(I:L2.Inv X pQ σ H s)(ru:RelV (.str k) u) :
  CW2 X pQ σ Q s H .In .NotIn u (.ref A) (ks.contains k):=by
 obtain⟨kvs,pr,kn,kk,val⟩:=eo.open (P:=X.prog);have dd:s.heap.DictOf (mixKind X.prog X.w) A kvs:=by
  refine⟨o,es,ep,I.kIn A o lk,ex,hd,fun e he=>kk e (by simpa using he),pr,?_⟩
  rw[kn];exact List.pairwise_map.mpr (nd.imp fun h z=>h (Sum.inr.inj z))
 have e:=ZbT (k:=k) kn;rw[<-e];exact⟨fun q=>wpAny_in_of (kV_is (k:=Sum.inr k) ru) hm dd.mapOf ⟨.bl _,H,I.tok _,rfl,q⟩,fun q=>wpAny_notIn_of (kV_is (k:=Sum.inr k) ru) hm dd.mapOf ⟨.bl _,H,I.tok _,rfl,q⟩⟩
theorem ZjJ{X:Cx}{sc:Scope}{N:Li Str}{a b:Expr}{x:CE}{ks:Li Str}{ds:Li D}{op:CmpOp}{ng:Bool}{pos:Pos}(K:Cxt X G F sc N)(hn:W8 G sc b=some (ks,ds))(hg:Zi2 op=some ng)(A:PE X a (tE X.K (ev F x))):SE X F (.Compare a [op] [b] pos) (.cmp op x (.cst (.kt ks))):=by
 cases b with
 |Name t tp=>
  replace hn:(if ZO sc t then (match G.lookup t with
   |some (.dct ks ds)=>some (ks,ds)
   |_=>none) else none)=some (ks,ds):=hn
  split at hn
  ·rename_i hg1
   split at hn
   ·rename_i q
    cases hn;obtain⟨A0,o,es,ep,hm,lk,ex,hd,hs,nd,eo⟩:=K.gl _ _ q;have B:PE X (.Name t tp) (tC (.ref A0)):=pe_glob (K.glb _ hg1) hm (show RelV (.ref A0) (.ref A0) from rfl) (Y6 hg1);have R:OpR X (compareOp op) (fun u v H Q=>∃ k b,u=.str k/\v=.ref A0/\WD op (.str k) (.kt ks) []=some b/\Q (.bl b) H):=by
     intro pQ s σ H u v u' v' Q I ru rv h;obtain⟨k,b,rfl,rfl,hb,q⟩:=h;cases rv;have z:=Zi4 (Q:=Q) lk ex hd hs nd eo I ru;cases op with
     |In=>cases hb;exact z.1 q
     |NotIn=>cases hb;exact z.2 q
     |_=>exact Zb hg
    have I0:∀ σ H Q,tE X.K (ev F (.cmp op x (.cst (.kt ks)))) σ H Q->tOp (fun u v H Q=>∃ k b,u=.str k/\v=.ref A0/\WD op (.str k) (.kt ks) []=some b/\Q (.bl b) H) (tE X.K (ev F x)) (tC (.ref A0)) σ H Q:=fun σ H Q h=>by
     obtain⟨ad,ρ,st,d,st',E,S,e,p⟩:=h;have e:ZS (ev F x) (evC (.kt ks)) (Xt op) ρ st=some (d,st'):=e;unfold ZS at e;split at e
     ·rename_i dx st1 q1
      have e:Xt op dx (.kt ks) st1=some (d,st'):=e;refine⟨ad,ρ,st,dx,st1,E,S,q1,fun v ad1 H1 x1 S1 d1=>?_⟩
      obtain⟨k0,rfl,rfl⟩:=VJ e;unfold Xt at e;split at e
      ·rename_i kb hb
       cases e;obtain⟨w,rfl⟩:∃ w,dx=.str w:=by
        cases op with
        |In=>cases dx<;>first|exact⟨_,rfl⟩|cases hb
        |NotIn=>cases dx<;>first|exact⟨_,rfl⟩|cases hb
        |_=>exact Zb hg
       refine⟨w,k0,d1.ofStr,rfl,?_,(p.later x1).at S1 (.bl _)⟩;cases op with
       |In=>exact hb
       |NotIn=>exact hb
       |_=>exact Zb hg
      ·exact Zb e
     ·exact Zb e
    exact⟨Zq (pe_cmpR R A B (Yy rfl)) I0,Wh (pt_cmpR R A B (Yy rfl)) fun σ H Q q=>I0 σ H _ (QC σ H Q q)⟩
   ·exact Zb hn
  ·exact Zb hn
 |_=>exact Zb hn
def Zg6:V->Li V->Hp->VK->Prop:=fun x xs H Q=>∃ z y,x=.str z/\xs=[.str y]/\Q (.bl (stW z y)) H
def Zia(K:Fg):V->Li V->Hp->VK->Prop:=fun x xs H Q=>∃ z a ys,x=.str z/\xs=[.ref a]/\SqL K H a (ys.map V.str)/\(Yx z ys).length<=Zd/\Q (.str ⟨(X2 z ys).toArray⟩) H
theorem Zaq{X:Cx}{fa fb:Ev}(σ:L2.St)(H:Hp)(Q:VK)(h:tE X.K (ZS fa fb Vs) σ H Q):tBM X.K "str" Zg6 (tE X.K fa) (tA X.K fb) σ H Q:=by
 obtain⟨ad,ρ,st,d,st',E,S,e,p⟩:=h;unfold ZS at e;split at e
 ·rename_i dx st1 q1
  split at e
  ·rename_i dy st2 q2
   unfold Vs at e;split at e
   ·rename_i x y
    cases e;refine⟨ad,ρ,st,.str x,st1,E,S,q1,fun v ad1 H1 x1 S1 d1=>?_⟩
    cases d1;refine⟨rfl,ad1,ρ,st1,[.str y],_,E.mono x1,S1,q2,fun vs ad2 H2 x2 S2 d2=>?_⟩
    obtain⟨w,rfl,dw⟩:=W5 d2;cases dw;exact⟨x,y,rfl,rfl,(p.later (x1.trans x2)).at S2 (.bl _)⟩
   ·exact Zb e
  ·exact Zb e
 ·exact Zb e
theorem ZbS{K:Fg}{ad:Li Ad}{H:Hp}:∀ {ys:Li V}{ds:Li D}{xs:Li Str},Dens K ad H ys ds->Vc ds=some xs->ys=xs.map V.str
 |_,_,_,.nil,h=>by cases h;rfl
 |_,d :: ds,xs,.cons a r,h=>by
  cases d with
  |str x=>
   obtain⟨zs,h1,h2⟩:=Option.map_eq_some_iff.mp (show(Vc ds).map (x :: ·)=some xs from h);cases h2;cases a;rw[ZbS r h1];rfl
  |_=>exact Zb h
theorem Zd7{K:Fg}{fa fb:Ev}(σ:L2.St)(H:Hp)(Q:VK)(h:tE K (ZS fa fb UX) σ H Q):tBM K "str" (Zia K) (tE K fa) (tCons (tE K fb) tNil) σ H Q:=by
 obtain⟨ad,ρ,st,d,st',E,S,e,p⟩:=h;unfold ZS at e;split at e
 ·rename_i dx st1 q1
  split at e
  ·rename_i dy st2 q2
   unfold UX at e;split at e
   ·rename_i s a
    split at e
    ·rename_i bb ds q3
     have core:∀ {xs:Li Str}{d':D}{s':Za},Vc ds=some xs->(Yx s xs).length<=Zd->Post K ad H (.str ⟨(X2 s xs).toArray⟩) st2 Q->tBM K "str" (Zia K) (tE K fa) (tCons (tE K fb) tNil) σ H Q:=fun {xs d' s'} hx hz p=>by
      refine⟨ad,ρ,st,.str s,st1,E,S,q1,fun v ad1 H1 x1 S1 d1=>?_⟩
      cases d1;refine⟨rfl,ad1,ρ,st1,.lst a,_,E.mono x1,S1,q2,fun w ad2 H2 x2 S2 d2=>?_⟩
      obtain⟨l,rfl,hl⟩:=d2.ofLst;obtain⟨ys,rv,sq⟩:=S2.list hl q3;have ey:=ZbS rv hx;subst ey;exact⟨s,l,xs,rfl,rfl,sq,hz,(p.later (x1.trans x2)).at S2 (.str _)⟩
     split at e
     ·rename_i hs
      unfold Zbw at e;split at e
      ·rename_i xs hx
       split at e
       ·rename_i hz
        cases e;exact core (d':=.non) (s':=[]) hx (by rw[VU hs];exact hz) (by rw[ZdU hs];exact p)
       ·exact Zb e
      ·exact Zb e
     ·unfold Zbv at e
      split at e
      ·rename_i xs hx
       split at e
       ·rename_i hz
        cases e;exact core (d':=.non) (s':=[]) hx hz p
       ·exact Zb e
      ·exact Zb e
    ·exact Zb e
   ·exact Zb e
  ·exact Zb e
 ·exact Zb e
theorem ZcX{X:Cx}{y:Str}{yp ap cp:Pos}{as:Li Expr}{x cs:CE}(hline:(ap.endLine==cp.line)=true)(hlen:as.length=1)(B:PE X (.Name y yp) (tE X.K (ev F x)))(A:PA X as (tA X.K (ev F cs))/\Zab cs/\as.all Zm=true/\(as=[]->cs=.aN)):PE X (.Call (.Attribute (.Name y yp) "startswith" ap) as [] cp) (tE X.K (ev F (.starts x cs))):=by
 obtain⟨PAs,_,hp,_⟩:=A;obtain⟨e0,rfl⟩:=Zh5 hlen;rw[List.all_cons,Ba]at hp;exact Zq (pe_bm PySem.F.plainAttrs_str PySem.F.slot_str_startswith PySem.F.type_str_startswith ZcP B PAs rfl (by rw[Zf hp.1];rfl) hline (Zf hp.1) rfl) Zaq
theorem Zhh{X:Cx}{v:Const}{kd:Nat}{kp ap cp:Pos}{a:Expr}{x z:CE}(hline:(ap.endLine==cp.line)=true)(hp:Zm a=true)(B:PE X (.Constant v kd kp) (tE X.K (ev F x)))(A:PE X a (tE X.K (ev F z))):PE X (.Call (.Attribute (.Constant v kd kp) "join" ap) [a] [] cp) (tE X.K (ev F (.joinE x z))):=
 Zq (pe_bm PySem.F.plainAttrs_str PySem.F.slot_str_join PySem.F.type_str_join ZgK B (pa1 hp A) rfl (by rw[Zf hp];rfl) hline (Zf hp) rfl) Zd7
theorem Zhk{X:Cx}{sc:Scope}{N:Li Str}{y m:Str}{yp ap cp:Pos}{as:Li Expr}{x cs:CE}(K:Cxt X G F sc N)(hline:(ap.endLine==cp.line)=true)(hlen:as.length < 20)(B:PE X (.Name y yp) (tE X.K (ev F x)))(A:PA X as (tA X.K (ev F cs))/\Zab cs/\as.all Zm=true/\(as=[]->cs=.aN)):PE X (.Call (.Attribute (.Name y yp) m ap) as [] cp) (tE X.K (ev F (.meth (XT m as.length G) x cs))):=by
 obtain⟨PAs,_,hp,hn⟩:=A;intro pQ s σ H Q I h;obtain⟨ad,ρ,st,d,st',E,S,e,p⟩:=h;replace e:JH F (XT m as.length G) (ev F x) (ev F cs) ρ st=some (d,st'):=e;unfold JH at e;split at e
 ·rename_i i st1 q1
  split at e
  ·rename_i b c es q0
   split at e
   ·rename_i j hj
    split at e
    ·rename_i xs st2 q2
     obtain⟨cx,ms,subs,hG,hl⟩:=Zj2 hj;obtain⟨_,nw,hms⟩:=K.gl cx _ hG;obtain⟨k,f,fd,pn,Fk,hr,hme,hb⟩:=hms m j _ hl;have hr:=hr.mono (Nat.le_succ k);refine ZgI rfl (Zcw hp hlen) hline (thn (B pQ s σ H (fun v H1=>∃ ad1,Ext ad H ad1 H1/\StOk X.K ad1 H1 st1/\Den X.K ad1 H1 v (.dic i)) I ⟨ad,ρ,st,.dic i,st1,E,S,q1,fun v ad1 H1 x1 S1 d1=>⟨ad1,x1,S1,d1⟩⟩) fun u s1 ⟨v,H1,I1,rv,ad1,x1,S1,d1⟩ pl=>?_)
     obtain⟨a,rfl,hl1,n1⟩:=d1.ofDic;obtain⟨jc,dx,kvs,rfl,r,ho,_,oc,nf⟩:=S1.obj hl1 n1 q0;cases (show u=Value.ref a from rv)
     rw[Int.toNat_natCast]at hme;have hmf:fldNames.contains m=false:=by
      cases z:fldNames.contains m with
      |false=>rfl
      |true=>have z1:=oc.na m z;have z2:=hme.at_;unfold NoAttr at z1;rw[z1]at z2;cases z2
     refine getmeth_ok I1 ho oc.cl hme (nf m hmf) ?_;cases as with
     |nil=>
      have hc:=hn rfl;subst hc;have q2:some (D.tup [],st1)=some (.tup xs,st2):=q2;cases q2;exact PySem.W.callWith_K0 (first:=[.ref a]) I1.kIn hme.kp (run_fn (us:=[.ref a]) (vs:=[.ref a]) (E:=E0) Fk hr hb .nil pass0 I1 (.cons rfl .nil) ⟨ad1,[.dic i],st1,d,st',S1,.cons d1 .nil,e,p.later x1⟩)
     |cons e0 es0=>
      rw[List.all_cons,Ba]at hp;refine PySem.W.callWith_K (first:=[.ref a]) (h₀:=X.base) I.ok.mod.kin hme.kp (thn (PAs cp pQ s1 σ H1 _ I1 ⟨ad1,ρ,st1,xs,st2,E.mono x1,S1,q2,fun vs ad2 H2 x2 S2 d2=>(show(fun vs H2=>∃ ad2,Ext ad1 H1 ad2 H2/\StOk X.K ad2 H2 st2/\Dens X.K ad2 H2 vs xs) vs H2 from⟨ad2,x2,S2,d2⟩)⟩) fun us s2 ⟨vs,H2,I2,r,ad2,x2,S2,d2⟩=>⟨I2.kIn,?_⟩) (Zf hp.1) (Y3 hp.2)
      refine run_fn (us:=.ref a :: us) (vs:=.ref a :: vs) (E:=E0) Fk hr hb .nil pass0 I2 (.cons rfl r) ?_;rw[List.append_nil];exact⟨ad2,.dic i :: xs,st2,d,st',S2,.cons (d1.mono x2) d2,e,p.later (x1.trans x2)⟩
    ·exact Zb e
   ·exact Zb e
  ·exact Zb e
 ·exact Zb e
theorem ZaS{b:Expr}{p:Ot Expr×Ot Expr}(q:Vr b=some p):∃ p2,b=.Slice p.1 p.2 none p2:=by
 unfold Vr at q;split at q
 ·cases q;exact⟨_,rfl⟩
 ·exact Zb q
theorem Zle{X:Cx}{op:UnaryOp}{a:Expr}{o:Ot CE}{c:CE}{pos:Pos}(A:∀ x,o=some x->SE X F a x)(h:unC op o=some c):SE X F (.UnaryOp op a pos) c:=by
 cases op with
 |Not=>exact QT (P:=SE X F _) (show o.map CE.not=some c from h) fun x hx=>⟨Zq (pe_not (A x hx).pe) Zea,Wh (pt_not (A x hx).pt) Zd9⟩
 |USub=>exact QT (P:=SE X F _) (show o.map CE.neg=some c from h) fun x hx=>.of (Zq (pe_un ZhH (A x hx).pe) Zi1)
 |_=>exact Zb h
section
variable {X:Cx}{sc:Scope}{N:Li Str}{n:Nat}{c:CE} (K:Cxt X G F sc N) (hf:∀ e c,cE G n sc N e=some c->SE X F e c)
include K hf
theorem ZjH{a:Expr}{ops:Li CmpOp}{bs:Li Expr}{pos:Pos}(h:Zkv G sc (cE G n sc N) (cE G n sc N a) ops bs=some c):SE X F (.Compare a ops bs pos) c:=by
 cases ops with
 |nil=>exact Zb h
 |cons op ops=>cases bs with
  |nil=>cases ops with
   |nil=>exact Zb h
   |cons _ r=>cases r<;>cases h
  |cons b bs=>cases ops with
   |nil=>cases bs with
    |cons _ _=>exact Zb h
    |nil=>
     replace h:(match W8 G sc b with
      |some (ks,_)=>o2 (fun _ x=>CE.cmp op x (.cst (.kt ks))) (Zi2 op) (cE G n sc N a)
      |none=>o2 (CE.cmp op) (cE G n sc N a) (cE G n sc N b))=some c:=h
     cases hn:W8 G sc b with
      |some p=>
       obtain⟨ks,ds⟩:=p;rw[hn]at h;exact Z6 (P:=SE X F _) h fun ng x hg hx=>ZjJ K hn hg (hf a x hx).pe
      |none=>
      rw[hn]at h;exact Z6 (P:=SE X F _) h fun x y hx hy=>⟨Zq (pe_cmpR (XU K.hu) (hf a x hx).pe (hf b y hy).pe (Yy (Zh hy))) QA,Wh (pt_cmpR (XU K.hu) (hf a x hx).pe (hf b y hy).pe (Yy (Zh hy))) fun σ H Q q=>QA σ H _ (QC σ H Q q)⟩
   |cons op2 ops=>cases ops with
    |cons _ _=>exact Zb h
    |nil=>cases bs with
     |nil=>exact Zb h
     |cons b2 bs=>cases bs with
      |cons _ _=>exact Zb h
      |nil=>
       refine j_e h fun h=>QU (P:=fun o=>o=some c->SE X F _ c) h (fun x y z hx hy hz h=>XA h fun hr h=>?_) rfl
       cases h;have hm:lastMarks [op,op2] [b,b2]=false:=Yy (op:=op2) (Zh hz);exact⟨Zq (pe_chain (XU K.hu) (XU K.hu) (hf a x hx).pe (hf b y hy).pe (hf b2 z hz).pe hm) (UT fun _ _ _ _=>U7 hr),Wh (pt_chain (XU K.hu) (XU K.hu) (hf a x hx).pe (hf b y hy).pe (hf b2 z hz).pe hm) fun σ H Q q=>UT (fun _ _ _ _=>U7 hr) σ H _ (QC σ H Q q)⟩
omit K in
theorem Zhf{op:BoolOp}{vs:Li Expr}{pos:Pos}(h:ZhP (cE G n sc N) op pos vs=some c):SE X F (.BoolOp op vs pos) c:=by
 cases vs with
 |nil=>exact Zb h
 |cons a r=>cases r with
  |nil=>
   have A:=hf a c h;refine⟨pe_one A.pe,?_⟩;cases op with
   |And=>exact(pw_and1 A.pt).pt
   |Or=>exact(pw_or1 A.pt).pt
  |cons b r=>cases op with
   |And=>exact Z6 (P:=SE X F _) (show o2 CE.and (cE G n sc N a) (cE G n sc N (.BoolOp .And (b :: r) pos))=some c from h) fun x y hx hy=>⟨Zq (pe_and (hf a x hx).pe (hf _ y hy).pe) ZdW,Wh (pw_and (hf a x hx).pt (JR (hf _ y hy).pt)).pt ZdV⟩
   |Or=>exact Z6 (P:=SE X F _) (show o2 CE.or (cE G n sc N a) (cE G n sc N (.BoolOp .Or (b :: r) pos))=some c from h) fun x y hx hy=>⟨Zq (pe_or (hf a x hx).pe (hf _ y hy).pe) Zgs,Wh (pw_or (hf a x hx).pt (JR (hf _ y hy).pt)).pt Zgr⟩
theorem ZjL(ihO:Qj G F n){a b:Expr}{pos:Pos}(h:Zj1 G sc (cE G n sc N) (cO G n sc N) a b=some c):SE X F (.Subscript a b pos) c:=by
 unfold Zj1 at h;cases q:Vr b with
 |some p=>
  obtain⟨lo,hi⟩:=p;rw[q]at h;obtain⟨p2,rfl⟩:=ZaS q;exact QU (P:=SE X F _) h fun x l u hx hl hu=>.of (Zq (pe_slice ZmP (hf a x hx).pe (ihO X sc N K lo l hl) (ihO X sc N K hi u hu)) Zcz)
 |none=>
  rw[q]at h;dsimp only at h;cases q':Zib b with
  |some s=>
   cases q'
  |none=>
   rw[q']at h;dsimp only at h;cases hn:W8 G sc a with
   |some p=>
    obtain⟨ks,ds⟩:=p;rw[hn]at h;exact QT (P:=SE X F _) h fun y hy=>.of (Zhi K hn (Zh hy) (hf b y hy).pe)
   |none=>
    rw[hn]at h;exact Z6 (P:=SE X F _) h fun x y hx hy=>.of (Zq (pe_ix (Zl7 K.hu) (hf a x hx).pe (hf b y hy).pe (JC (Zh hy))) QA)
theorem Ze4{f:Str}{a:Expr}{p pos:Pos}(hg:ZO sc f=true)(hm:X.mg f=none)(h:Zdf G sc f a (cE G n sc N)=some c):SE X F (.Call (.Name f p) [a] [] pos) c:=by
 unfold Zdf at h
 ·cases he:ZaZ G sc f a with
  |some e=>
   rw[he]at h;exact ZjN K hg hm he (fun c hc=>⟨Zh hc,(hf e c hc).pe⟩) h
  |none=>
   rw[he]at h;dsimp only at h;cases hl:ZaB G sc f a with
   |some q=>
    obtain⟨u,v⟩:=q;rw[hl]at h;exact Z6 (P:=SE X F _) h fun x y hx hy=>.of (Zhj K hg hm hl (Zh hx) (Zh hy) (hf u x hx).pe (hf v y hy).pe)
   |none=>
    rw[hl]at h;exact j_e h fun h=>QT (P:=fun o=>o=some c->SE X F _ c) h (fun x hx h=>.of (Zhd K hg hm (Zh hx) (hf a x hx).pe h)) rfl
theorem Ze5{f:Str}{a b:Expr}{p pos:Pos}(hg:ZO sc f=true)(hm:X.mg f=none)(h:Zdg G sc f a b (cE G n sc N)=some c):SE X F (.Call (.Name f p) [a,b] [] pos) c:=by
 unfold Zdg at h;by_cases ei:f = "isinstance"
 ·subst ei
  rw[if_pos rfl]at h;exact Z6 (P:=SE X F _) h fun x T hx hT=>.of (ZjK K hg hm (Zh hx) (hf a x hx).pe hT)
 ·rw[if_neg ei]at h
  exact j_e h fun h=>Z6 (P:=fun o=>o=some c->SE X F _ c) h (fun x y hx hy h=>.of (Zhe K hg hm (Zh hx) (Zh hy) (hf a x hx).pe (hf b y hy).pe h)) rfl
theorem Ze6(ihA:YX G F n){f:Str}{as:Li Expr}{p pos:Pos}(h:Zdp G sc f as (cEs G n sc N as) (cE G n sc N)=some c):SE X F (.Call (.Name f p) as [] pos) c:=by
 unfold Zdp at h;cases hg:ZO sc f with
 |false=>rw[hg]at h;cases h
 |true=>
 rw[hg,if_pos rfl]at h;cases hG:G.lookup f with
 |none=>rw[hG]at h;cases h
 |some g=>
  rw[hG]at h;cases g with
  |fn i ps ds=>exact XA h fun hl h=>QT (P:=SE X F _) h fun cs hcs=>.of (Zhg K hg hG hl (ihA X sc N K as cs hcs))
  |blt=>
   have hm:X.mg f=none:=K.gl f _ hG;cases as with
   |nil=>exact Zb h
   |cons a as=>cases as with
    |nil=>exact Ze4 K hf hg hm h
    |cons b as=>cases as with
     |nil=>exact Ze5 K hf hg hm h
     |cons _ _=>exact Zb h
  |cls i ms subs=>cases as with
   |cons _ _=>exact Zb h
   |nil=>
    obtain⟨⟨j,ps⟩,hi,h⟩:=Option.bind_eq_some_iff.mp h;refine XA h fun hps h=>?_
    cases (show ps=1 from hps)
    cases h;exact .of (Zld K hg hG hi)
  |_=>exact Zb h
theorem Zhc(ihA:YX G F n){ob:Expr}{m:Str}{ap pos:Pos}{as:Li Expr}(h:ZhN G ob m ap as pos (cEs G n sc N as) (cE G n sc N)=some c):SE X F (.Call (.Attribute ob m ap) as [] pos) c:=by
 cases ob with
 |Name y yp=>
  refine XA h fun hc h=>?_
  by_cases hm:m = "split"
  ·subst hm
   rw[if_pos rfl]at h;exact XA h fun h1 h=>Z6 (P:=SE X F _) h fun x cs hx hcs=>.of (ZjM hc.1 h1 (hf _ x hx).pe (ihA X sc N K as cs hcs))
  ·rw[if_neg hm]at h
   by_cases hm2:m = "startswith"
   ·subst hm2
    rw[if_pos rfl]at h;exact XA h fun h1 h=>Z6 (P:=SE X F _) h fun x cs hx hcs=>.of (ZcX hc.1 h1 (hf _ x hx).pe (ihA X sc N K as cs hcs))
   ·rw[if_neg hm2]at h
    exact Z6 (P:=SE X F _) h fun x cs hx hcs=>.of (Zhk K hc.1 hc.2 (hf _ x hx).pe (ihA X sc N K as cs hcs))
 |Constant v kd kp=>cases as with
  |nil=>exact Zb h
  |cons a as=>cases as with
   |cons _ _=>exact Zb h
   |nil=>
    refine XA h fun hc h=>Z6 (P:=SE X F _) h fun x z hx hz=>?_
    obtain⟨rfl,hline⟩:=hc;exact .of (Zhh hline (Zh hz) (hf _ x hx).pe (hf a z hz).pe)
 |_=>exact Zb h
end
theorem ZaU{n:Nat}(ihE:ZC G F n)(ihA:YX G F n)(ihO:Qj G F n)(hcomp:∀ X sc N,Cxt X G F sc N->∀ elt gens sc2 pos c,cE G (n+1) sc N (.ListComp elt gens sc2 pos)=some c->SE X F (.ListComp elt gens sc2 pos) c):ZC G F (n+1):=by
 intro X sc N K e c h;have hf:=ihE X sc N K;have no:∀ {P:Prop},(none:Ot CE)=some c->P:=fun z=>nomatch z
 cases e with
 |Constant v k pos=>exact Ze7 h
 |Name x pos=>exact Zhl K h
 |BinOp a op b pos=>exact Z6 (P:=SE X F _) (show o2 (CE.bin op) (cE G n sc N a) (cE G n sc N b)=some c from h) fun x y hx hy=>.of (Zq (pe_op ZgX (hf a x hx).pe (hf b y hy).pe) QA)
 |UnaryOp op a pos=>exact Zle (hf a) h
 |Compare a ops bs pos=>exact ZjH K hf h
 |BoolOp op vs pos=>exact Zhf hf h
 |IfExp t a b pos=>exact QU (P:=SE X F _) (show o3 CE.ife (cE G n sc N t) (cE G n sc N a) (cE G n sc N b)=some c from h) fun z x y hz hx hy=>⟨Zq (pe_ifExp (hf t z hz).pt (hf a x hx).pe (hf b y hy).pe) Zi0,Zjt (hf t z hz).pt (hf a x hx).pt (hf b y hy).pt⟩
 |Tuple es k pos=>
  refine QT (P:=SE X F _) (show(cEs G n sc N es).map CE.tupE=some c from h) fun x q=>?_
  obtain⟨A,hA,_,_⟩:=ihA X sc N K es x q;exact .of (Zq (pe_tup A) (Zgw (fun ρ st ds st' e=>by obtain⟨ds',z,hz⟩:=Ql hA e;cases z;exact hz) fun ρ st d st' e=>by obtain⟨ds',z,hz⟩:=Ql hA e;exact⟨ds',z⟩))
 |List es pos=>
  refine QT (P:=SE X F _) (show(cEs G n sc N es).map CE.lstE=some c from h) fun x q=>?_
  obtain⟨A,hA,_,_⟩:=ihA X sc N K es x q;exact .of (Zq (pe_lst A) (Zgp fun ρ st ds st' e=>by obtain⟨ds',z,hz⟩:=Ql hA e;cases z;exact hz))
 |Dict keys vals pos=>cases keys with
  |nil=>cases vals with
   |nil=>cases h;exact .of (Zq pe_dnewK ZdZ)
   |cons _ _=>exact Zb h
  |cons k0 keys=>exact Zb h
 |Attribute o f pos=>exact .of (ZjI (fun x hx=>(hf o x hx).pe) h)
 |Subscript a b pos=>exact ZjL K hf ihO h
 |Call f as kws pos=>cases kws with
  |cons _ _=>exact no h
  |nil=>cases f with
   |Attribute ob m ap=>exact Zhc K hf ihA h
   |Name f p=>exact Ze6 K hf ihA h
   |_=>exact no h
 |ListComp elt gens sc2 pos=>exact hcomp X sc N K elt gens sc2 pos c h
 |_=>exact no h
theorem JY{n:Nat}(ihE:ZC G F n)(ihA:YX G F n):YX G F (n+1):=by
 intro X sc N K es c h;cases es with
 |nil=>
  simp only[cEs]at h;cases h;exact⟨Ui pa_nil VW,trivial,rfl,fun _=>rfl⟩
 |cons e es=>
  refine Z6 (P:=fun c=>PA X _ (tA X.K (ev F c))/\Zab c/\_/\(_->c=.aN)) (show o2 CE.aC (cE G n sc N e) (cEs G n sc N es)=some c from h) fun x r hx hr=>?_
  obtain⟨A,hA,hp,_⟩:=ihA X sc N K es r hr;exact⟨Ui (pa_cons (ihE X sc N K e x hx).pe A (Zf (Zh hx))) WL,trivial,by rw[List.all_cons,hp,Zh hx];rfl,fun z=>nomatch z⟩
theorem JZ{n:Nat}(ihE:ZC G F n):Qj G F (n+1):=by
 intro X sc N K e c h;cases e with
 |none=>
  simp only[cO]at h;cases h;exact ZeP po_none Zgq
 |some e=>
  simp only[cO]at h;cases q:cE G n sc N e with
  |none=>rw[q]at h;cases h
  |some x=>
   rw[q]at h;cases h;refine ZeP (po_some (ihE X sc N K e x q).pe) fun σ H Q hq=>?_
   obtain⟨ad,ρ,st,d,st',E,S,e1,p⟩:=hq;have e1:ZF (ev F x) ZbH ρ st=some (d,st'):=e1;unfold ZF at e1;split at e1
   ·rename_i y st1 q1
    cases y with
    |int i=>
     cases e1;rcases p with⟨z,_⟩|⟨j,z,p⟩
     ·cases z
     ·cases z
      exact⟨ad,ρ,st,.int i,_,E,S,q1,fun v ad' H' x S' d'=>⟨i,d'.ofInt,p ad' H' x S'⟩⟩
    |_=>simp[ZbH]at e1
   ·exact Zb e1
end
end Dp



namespace Dp
open PySem PySem.Spec PyProof.Rows L2
variable [ClsTab]
theorem b_e{α β:Type}{P:Prop}{o:Ot α}{f:α->Ot β}{c:β}(h:o.bind f=some c)(k:∀ x,o=some x->f x=some c->P):P:=by
 cases o with
 |none=>exact Zb h
 |some x=>exact k x rfl h
theorem Zh9{X:Cx}{s:Stmt}{t u:TS}(h1:PS X s t)(h2:PS X s u):PS X s (fun D σ H=>t D σ H\/u D σ H):=fun pQ s σ H D I q=>q.elim (h1 pQ s σ H D I) (h2 pQ s σ H D I)
theorem XM{e:Expr}{tg:Ot Expr}{l:Nat}{env:PySem.Env}(h:We e=false):swapsWith e tg l env=pure false:=by
 cases e<;>first|rfl|cases h
theorem ZaT{e tg:Expr}{l:Nat}{env:PySem.Env}(h:We e=false):swapsWithSole [tg] e l env=pure false:=XM h
theorem Zag{o k:Expr}{p:Pos}{env:PySem.Env}(h:Zm k=true):∀ v,assign (.Subscript o k p) env v=(do
   let ov <-holding [v] (eval o env)
   let iv <-holding [v,ov] (eval k env)
   standAt p
   holding [v,ov,iv] (setItem ov iv v)
   release [v,ov,iv] []):=by
 cases k<;>first | (intro _;rfl)|cases h
theorem ZaW{o k e:Expr}{p:Pos}{env:PySem.Env}:swappedStores [.Subscript o k p] e env=pure none:=by
 cases e<;>rfl
theorem Z2{e:Expr}{env:PySem.Env}(h:Zm e=true):∀ x,foldedSetIterable e env x=pure x:=by
 cases e<;>first | (intro _;rfl)|cases h
structure CxtS(X:Cx)(G:Gs)(F:Nat->Fn)(sc:Scope)(N:List Str):Prop extends Cxt X G F sc N where
 nd:N.Nodup
 loc:∀ x∈N,Loc X.env.scope x
 fn:∀ x,X.fn x=true
section
variable {G:Gs}{F:Nat->Fn}
def Zae(G:Gs)(F:Nat->Fn)(n:Nat):Prop:=∀ X sc N,CxtS X G F sc N->∀ s c,cS G n sc N s=some c->PS X s (tS X.K (ex F c))
def Z1(G:Gs)(F:Nat->Fn)(n:Nat):Prop:=∀ X sc N,CxtS X G F sc N->∀ s c,cSs G n sc N s=some c->PSs X s (tS X.K (ex F c))
theorem Qz{N:Li Str}{x:Str}{i:Nat}(h:N.idxOf? x=some i):x∈N:=List.mem_of_getElem? (Wc h)
theorem XF{X:Cx}{sc:Scope}{N:Li Str}{x:Str}{i:Nat}{p:Pos}(K:CxtS X G F sc N)(h:N.idxOf? x=some i):PG X (.Name x p) (gName i):=
 pg_name (by rw[K.hN];exact K.nd) (by rw[K.hN];exact Wc h) (K.loc x (Qz h)) (.inl (K.fn x))
theorem Wg{X:Cx}{sc:Scope}{N:Li Str}(K:CxtS X G F sc N):PassesOwn (model X.prog X.w) X.A X.env X.xe:=by
 rw[K.nx];exact PassesOwn.never
theorem ZeJ{X:Cx}{sc:Scope}{N:Li Str}{x:Str}{i:Nat}{p:Pos}(K:Cxt X G F sc N)(hl:X7 sc x=true)(hi:N.idxOf? x=some i):PE X (.Name x p) (tVar i):=
 pe_var (by rw[K.hN];exact Wc hi) (K.vis _ hl) (QL hl).1 (QL hl).2
theorem Vb{X:Cx}{sc:Scope}{N:Li Str}{it a tg:Expr}{x:CE}(K:Cxt X G F sc N)(h:YQ G sc it=some a)(hp:Zm a=true)(A:PE X a (tE X.K (ev F x))):Zm it=true/\PI X tg it (iRng1 (tCons (tE X.K (ev F x)) tNil)):=by
 obtain⟨_,_,rfl,hg,hm⟩:=UG K h;exact⟨rfl,pi_range1 hg hm (pa1 hp A) (Zf hp)⟩
def Vw(G:Gs)(F:Nat->Fn)(n:Nat):Prop:=∀ X sc N,CxtS X G F sc N->∀ (x:Str) (i:Nat) (p:Pos) elt gens sc2 epos (pos:Pos) c,N.idxOf? x=some i->cE G n sc N (.ListComp elt gens sc2 epos)=some c->
 swapsWith (.ListComp elt gens sc2 epos) (some (.Name x p)) pos.line X.env=pure true->PS X (.Assign [.Name x p] (.ListComp elt gens sc2 epos) pos) (tAsg (tE X.K (ev F c)) (gName i))
theorem ZaY{elt:Expr}{gens:Li Comprehension}{sc2:Scope}{epos p:Pos}{x:Str}{l:Nat}{env:PySem.Env}:∃ b:Bool,swapsWith (.ListComp elt gens sc2 epos) (some (.Name x p)) l env=pure b:=⟨_,rfl⟩
theorem Zew{n:Nat}{sc:Scope}{N:Li Str}{e:Expr}{c:CE}(h:cE G n sc N e=some c):We e=false\/∃ elt gens sc2 epos,e=.ListComp elt gens sc2 epos:=by
 cases n with
 |zero=>exact nomatch (show(none:Ot CE)=some c from h)
 |succ n=>cases e<;>first|exact .inl rfl|exact .inr ⟨_,_,_,_,rfl⟩|exact nomatch (show(none:Ot CE)=some c from h)
theorem ZjQ{n:Nat}(ihE:ZC G F n)(hA:Vw G F n){X:Cx}{sc:Scope}{N:Li Str}(K:CxtS X G F sc N){c:CS}{x:Str}{e:Expr}{p pos:Pos}(h:o2 CS.set (N.idxOf? x) (cE G n sc N e)=some c):PS X (.Assign [.Name x p] e pos) (tS X.K (ex F c)):=by
 refine Z6 (P:=fun c=>PS X _ (tS X.K (ex F c))) h fun i y hi hx=>?_
 have pl:∀ hs,PS X (.Assign [.Name x p] e pos) (tAsg (tE X.K (ev F y)) (gName i)):=fun hs=>ps_set (by rw[K.hN];exact K.nd) (by rw[K.hN];exact Wc hi) (K.loc _ (Qz hi)) (ihE X sc N K.toCxt _ y hx).pe hs (.inl (K.fn _))
 rcases Zew hx with hc|⟨elt,gens,sc2,epos,rfl⟩
 ·exact ZU (pl (XM hc)) QB
 ·obtain⟨b,hb⟩:=ZaY (elt:=elt) (gens:=gens) (sc2:=sc2) (epos:=epos) (p:=p) (x:=x) (l:=pos.line) (env:=X.env)
  cases b with
  |false=>exact ZU (pl hb) QB
  |true=>exact ZU (hA X sc N K _ i p elt gens sc2 epos pos y hi hx hb) QB
theorem ZjO{n:Nat}(ihE:ZC G F n){X:Cx}{sc:Scope}{N:Li Str}(K:CxtS X G F sc N){c:CS}{f:Str}{fp cp pos:Pos}{as:Li Expr}{kw:Li Keyword}(h:(cE G n sc N (.Call (.Name f fp) as kw cp)).map CS.act=some c):PS X (.Expr (.Call (.Name f fp) as kw cp) pos) (tS X.K (ex F c)):=by
 obtain⟨ce,hx,rfl⟩:=Option.map_eq_some_iff.mp h;exact ZU (ps_expr (ihE X sc N K.toCxt _ ce hx).pe rfl) Zbs
theorem Zhp{n:Nat}(ihE:ZC G F n){X:Cx}{sc:Scope}{N:Li Str}(K:CxtS X G F sc N){c:CS}{o k e:Expr}{q pos:Pos}(h:og (We e=false/\ZkL k=false) (o3 (CS.dput 0) (cE G n sc N o) (cE G n sc N k) (cE G n sc N e))=some c):PS X (.Assign [.Subscript o k q] e pos) (tS X.K (ex F c)):=
 XA h fun hc h=>QU (P:=fun c=>PS X _ (tS X.K (ex F c))) h fun co ck ce ho hk he=>ZU (ps_asg (ihE X sc N K.toCxt _ ce he).pe (pg_sub (ihE X sc N K.toCxt _ co ho).pe (ihE X sc N K.toCxt _ ck hk).pe set_dK (Zag (Zh hk))) (ZaT hc.1) ZaW) Zd0
theorem Zhx{n:Nat}(ihE:ZC G F n){X:Cx}{sc:Scope}{N:Li Str}(K:CxtS X G F sc N){c:CS}{x f:Str}{e:Expr}{p q pos:Pos}(h:og (We e=false/\X7 sc x=true/\fldNames.contains f=true) (o2 (fun i c=>CS.put i (.cst (.str f)) c) (N.idxOf? x) (cE G n sc N e))=some c):PS X (.Assign [.Attribute (.Name x p) f q] e pos) (tS X.K (ex F c)):=
 XA h fun hc h=>Z6 (P:=fun c=>PS X _ (tS X.K (ex F c))) h fun i ce hi he=>ZU (ps_fld (ZeJ K.toCxt hc.2.1 hi) (ihE X sc N K.toCxt _ ce he).pe (XM hc.1)) (Zgt hc.2.2)
theorem ZjS{n:Nat}(ihS:Z1 G F n){X:Cx}{sc:Scope}{N:Li Str}(K:CxtS X G F sc N){c:CS}{b:Li Stmt}{h0:ExceptHandler}{hs:Li ExceptHandler}{pos:Pos}(h:cSs G n sc N b=some c):PS X (.Try b (h0 :: hs) [] [] pos) (tS X.K (ex F c)):=by
 intro pQ s σ H D I q;refine wpAny_Try_except (wpAny_mono (ihS X sc N K _ c h pQ s σ H D I q) (fun f s1 hq=>?_) fun e s1 hx=>?_)
 ·cases f with
  |next=>exact wpAny_pure hq
  |_=>exact hq
 ·rw[K.nx]at hx;exact hx.elim
theorem ZjR{n:Nat}(ihE:ZC G F n){X:Cx}{sc:Scope}{N:Li Str}(K:CxtS X G F sc N){c:CS}{e:Expr}{pos:Pos}(h:(cE G n sc N e).map CS.ret=some c):PS X (.Return (some e) pos) (tS X.K (ex F c)):=
 QT (P:=fun c=>PS X _ (tS X.K (ex F c))) h fun x q=>ZU (ps_ret (ihE X sc N K.toCxt _ x q).pe) Zgu
theorem Zlf{n:Nat}(ihE:ZC G F n)(ihS:Z1 G F n){X:Cx}{sc:Scope}{N:Li Str}(K:CxtS X G F sc N){c:CS}{e:Expr}{a b:Li Stmt}{pos:Pos}(h:o3 CS.ite (cE G n sc N e) (cSs G n sc N a) (cSs G n sc N b)=some c):PS X (.If e a b pos) (tS X.K (ex F c)):=
 QU (P:=fun c=>PS X _ (tS X.K (ex F c))) h fun cc ca cb hc ha hb=>ZU (ps_if (ihE X sc N K.toCxt _ cc hc).pt (ihS X sc N K _ ca ha) (ihS X sc N K _ cb hb)) Zgo
theorem Zhs{n:Nat}(ihA:YX G F n)(ihS:Z1 G F n){X:Cx}{sc:Scope}{N:Li Str}(K:CxtS X G F sc N){c:CS}{x:Str}{it:Expr}{as:Li Expr}{b:Li Stmt}{p pos:Pos}(hr:WS G sc it=some as)(h:o3 CS.for3 (N.idxOf? x) (cEs G n sc N as) (cSs G n sc N b)=some c):PS X (.For (.Name x p) it b [] pos) (tS X.K (ex F c)):=by cases hr
theorem Zhq{n:Nat}(ihE:ZC G F n)(ihS:Z1 G F n){X:Cx}{sc:Scope}{N:Li Str}(K:CxtS X G F sc N){c:CS}{x:Str}{it:Expr}{b:Li Stmt}{p pos:Pos}(h:(match YQ G sc it with
   |some a=>o3 (fun i c b=>CS.for1 i true c b) (N.idxOf? x) (cE G n sc N a) (cSs G n sc N b)
   |none=>o3 (fun i c b=>CS.for1 i false c b) (N.idxOf? x) (cE G n sc N it) (cSs G n sc N b))=some c):PS X (.For (.Name x p) it b [] pos) (tS X.K (ex F c)):=by
 cases ha:YQ G sc it with
 |some a=>
  rw[ha]at h;refine QU (P:=fun c=>PS X _ (tS X.K (ex F c))) h fun i ci cb hi q hb=>?_
  obtain⟨hp,pi⟩:=Vb K.toCxt ha (Zh q) (ihE X sc N K.toCxt a _ q).pe;exact ZU (ps_for (Wg K) K.calm pi (XF K hi) (ihS X sc N K _ cb hb) (Z2 hp)) Zd5
 |none=>
  rw[ha]at h;refine QU (P:=fun c=>PS X _ (tS X.K (ex F c))) h fun i ci cb hi q hb=>?_
  have A:=(ihE X sc N K.toCxt _ _ q).pe;have hf:=Z2 (env:=X.env) (Zh q);exact ZU (Zh9 (ps_for (Wg K) K.calm (pi_tup A) (XF K hi) (ihS X sc N K _ cb hb) hf) (ps_for (Wg K) K.calm (pi_list A) (XF K hi) (ihS X sc N K _ cb hb) hf)) Zd3
theorem W6{X:Cx}{pQ:Li (Ad×Obj)}{σ:L2.St}{H:Hp}{s:Sd}{h':Heap}{t':Nat}{wr:Li Ad}(I:L2.Inv X pQ σ H s)(hf:∀ b∈wr,FpOk X pQ H b)(k:∀ b o,b∉wr->s.heap.get? b=some o->h'.get? b=some o):L2.Inv X pQ σ H { s with heap:=h',toks:=t' }:=by
 have nw:∀ b u,H b=some u->b∉wr:=fun b u e hb=>by have:=(hf b hb).1;rw[e]at this;cases this
 refine I.step (g':=s.gens) (d':=s.drawn) (ch:=wr) (fun b hb=>⟨(hf b hb).2.2.2.1,(hf b hb).2.1,(hf b hb).2.2.2.2.1,(hf b hb).2.2.2.2.2⟩) (fun b o _ _ hc e _=>k b o hc e) (fun b o _ _ hc e _=>⟨o.slots,k b o hc e⟩)
  (fun b o _ e n=>n) (fun b o hc e=>⟨o,k b o hc e⟩) (fun b ys e=>e) (fun b o u e=>e) (fun b ps e=>⟨#[],by rw[e];simp⟩) (fun m hm=>?_) (fun b u e=>?_) I.bare
 ·obtain⟨o,es,ep,ho,r⟩:=hm
  exact⟨o,es,ep,k _ o (fun z=>(hf _ z).2.1 rfl) ho,r⟩
 ·refine(I.hok b u e).stay (fun c v hc q=>k c v ?_ q) (fun c q=>q) fun c ys q=>q
  rcases hc with z|z
  ·rw[z];exact nw b u e
  ·exact nw c _ z
theorem X6{X:Cx}{pQ:Li (Ad×Obj)}{σ:L2.St}{H:Hp}{s:Sd}{h':Heap}{t':Nat}{wr:Li Ad}{T:Ad}{xs:Li V}(I:L2.Inv X pQ σ H s)(hf:∀ b∈wr,FpOk X pQ H b)(k:∀ b o,b∉wr->s.heap.get? b=some o->h'.get? b=some o)(hT:s.heap.objs.size<=T)(new:ObjOk X.prog X.w (upd H T (.tup xs)) h' T (.tup xs)):L2.Inv X pQ σ (upd H T (.tup xs)) { s with heap:=h',toks:=t' }:=by
 have hn:H T=none:=I.hok.fresh hT;have nT:∀ b u,s.heap.get? b=some u->b≠T:=fun b u e=>Nat.ne_of_lt (Nat.lt_of_lt_of_le (Heap.lt_size e) hT)
 have nw:∀ b u,H b=some u->b∉wr:=fun b u e hb=>by have:=(hf b hb).1;rw[e]at this;cases this
 refine I.step (g':=s.gens) (d':=s.drawn) (ch:=wr) (fun b hb=>⟨(hf b hb).2.2.2.1,(hf b hb).2.1,(hf b hb).2.2.2.2.1,(hf b hb).2.2.2.2.2⟩) (fun b o _ _ hc e _=>k b o hc e) (fun b o _ _ hc e _=>⟨o.slots,k b o hc e⟩)
  (fun b o _ e n=>by rw[upd_ne (nT b o e)];exact n) (fun b o hc e=>⟨o,k b o hc e⟩) (fun b ys e=>by rw[upd_ne (ne_of_none e hn)];exact e) (fun b o u e=>by rw[upd_ne (ne_of_none e hn)];exact e) (fun b ps e=>⟨#[],by rw[upd_ne (ne_of_none e hn),e];simp⟩) (fun m hm=>?_) (fun b u e=>?_) I.bare
 ·obtain⟨o,es,ep,ho,r⟩:=hm
  exact⟨o,es,ep,k _ o (fun z=>(hf _ z).2.1 rfl) ho,r⟩
 ·by_cases hb:b=T
  ·subst hb;rw[upd_same]at e;cases e;exact new
  ·rw[upd_ne hb]at e
   refine(I.hok b u e).stay (fun c v hc q=>k c v ?_ q) (fun c q=>by rw[upd_ne (ne_of_none q hn)];exact q) fun c ys q=>by rw[upd_ne (ne_of_none q hn)];exact q
   rcases hc with z|z
   ·rw[z];exact nw b u e
   ·exact nw c _ z
theorem ZbQ{X:Cx}{pQ:Li (Ad×Obj)}{σ:L2.St}{H:Hp}{s:Sd}{a:Ad}{xs ys:Li V}(I:L2.Inv X pQ σ H s)(h1:SqL X.K H a xs)(h2:SqL X.K H a ys):ys=xs:=by
 obtain⟨i1,r1,⟨o1,n1,g1,_,_,d1⟩,_⟩:=I.list h1;obtain⟨i2,r2,⟨o2,n2,g2,_,_,d2⟩,_⟩:=I.list h2;rw[g1]at g2;cases g2;rw[d1]at d2;have e:i1.toArray=i2.toArray:=by injection d2
 have e:i1=i2:=by simpa using e
 subst e;exact Vals.inj r2 r1
section
variable {prog:Program}{w:World}{A:Around}{E:vL->Sd->Prop}{s:Sd}
open Sem (wp)
open AutoSeq1 (wpAny_loadPart')
omit [ClsTab] in
theorem JK{it l:Ad}{i:Nat}{items:Array vL}{Q:vL->Sd->Prop}(hh:A.handled=none)(hit:s.heap.IsTupleIter it l i)(hl:s.heap.IsTuple l items)(hQ:∀ x h',items[i]?=some x->h'.IsTupleIter it l (i+1)->Heap.SameBut it s.heap h'->Q x { s with heap:=h' })(hE:items[i]?=none->∀ h' e,Heap.ExtBut it s.heap h'->(∃ o,h'.get? e=some o/\o.cls=.type "StopIteration")->E (.ref e) { s with heap:=h' }) :
  wpAny (model prog w) A (Builtin.SmallTypes.nextOf (.ref it)) Q E s:=by
 obtain⟨o,ho,hc,hd⟩:=id hit;obtain⟨ol,hol,_,nl,hdl⟩:=hl;unfold Builtin.SmallTypes.nextOf;refine wpAny_bind (wpAny_callSpecial?_slot (name:=Str.ofString "__next__") hit.typeIs PySem.F.slot_tuple_iterator_next
  (wpAny_call_entry PySem.F.slot_tuple_iterator_next hit.typeIs PySem.F.entry_tuple_iterator_next ?_ (PySem.F.args_tuple_iterator_next_1 _)))
 show wpAny _ _ (field (.ref it) 0 >>= _) _ _ s;refine wpAny_bind (wpAny_field ho hd (x:=.ref l) rfl ?_);show wpAny _ _ (if (Value.ref l==Value.none)=true then _ else _) _ _ s
 rw[if_neg (show ¬((Value.ref l==Value.none)=true) from Bf)];show wpAny _ _ (field (.ref it) 1 >>= _) _ _ s;refine wpAny_bind (wpAny_field ho hd (x:=.int i 0) rfl ?_);show wpAny _ _ (seqItems? (.ref l) >>= _) _ _ s;refine wpAny_bind (wpAny_seqItems hol hdl ?_);cases hx:items[i]? with
 |some x=>
  simp only[Int.toNat_natCast,hx];refine wpAny_bind (wpAny_setField ho hd (by simp) (wpAny_pure ⟨x,rfl,wpAny_pure (hQ _ _ hx ?_ (Heap.SameBut.update ..))⟩))
  exact⟨_,Heap.get?_update_self _ ho (Obj.isFreed_of_fields (Obj.data_mapFields hd _)),(Obj.cls_mapFields ..).trans hc,by
   rw[Obj.data_mapFields hd];simp[rawInt]⟩
 |none=>
  simp only[Int.toNat_natCast,hx];refine wpAny_bind (wpAny_rule (wpAny_bind (wpAny_setField ho hd (by simp) ?_)))
  show wpAny _ _ (newExc (.type "StopIteration") [] >>= _) _ _ _;refine wpAny_bind ?_;simp only[newExc,newTuple];refine wpAny_bind (wpAny_newObj_type ?_ (by size_fits))
  refine wpAny_bind (m:=firstArgMember _ _) (wpAny_of_eq (a:=Value.none) (by first|rfl | (simp only[firstArgMember];rfl)) ?_)
  refine wpAny_newObj_type ?_ (by size_fits)
  simp only[raiseNew];refine wpAny_bind (wpAny_handled ?_)
  first|rw[show A.in1.handled=none from hh]|rw[hh]
  refine wpAny_bind (wpAny_pure (wpAny_throw ?_));exact hE hx _ _ (((Heap.SameBut.update ..).extBut.push _).push _) ⟨_,Heap.get?_push_size _ rfl,rfl⟩
end
structure ZD(z TI TO i1 i2:Addr):Prop where
 a:TI≠z
 b:TO≠z
 c:i1≠z
 d:i2≠z
 e:TI≠TO
 f:TI≠i1
 g:TI≠i2
 h:TO≠i1
 i:TO≠i2
 j:i1≠i2
section
variable {prog:Program}{w:World}{A:Around}{s:Sd}{z TI TO i1 i2:Ad}{x y a b:vL}{S1 S2:Heap->Prop}
open Builtin.SmallTypes
def KB(l:Li Ad)(h h':Heap):Prop:=∀ c o,c∉l->h.get? c=some o->h'.get? c=some o
theorem KB.of{l:Li Ad}{p:Ad}{h h':Heap}(k:Heap.SameBut p h h')(m:p∈l):KB l h h':=fun c o n e=>k.extBut c o (fun q=>n (q ▸ m)) e
theorem KB.trans{l:Li Ad}{h1 h2 h3:Heap}(x:KB l h1 h2)(y:KB l h2 h3):KB l h1 h3:=fun c o n e=>y c o n (x c o n e)
theorem ZkT{z TO i1 i2:Ad}:z∈[z,TO,i1,i2]/\TO∈[z,TO,i1,i2]/\i1∈[z,TO,i1,i2]/\i2∈[z,TO,i1,i2]:=⟨.head _,.tail _ (.head _),.tail _ (.tail _ (.head _)),.tail _ (.tail _ (.tail _ (.head _)))⟩
def Nx(prog:Program)(w:World)(A:Around)(s:Sd)(l:Li Ad)(i:Ad)(x:vL)(S:Heap->Prop):Prop:=
 ∀ (h:Heap) (Q E:vL->Sd->Prop),KB l s.heap h->(∀ h',S h'->Heap.SameBut i h h'->Q x { s with heap:=h' })->wpAny (model prog w) A (nextOf (.ref i)) Q E { s with heap:=h }
def Nz(prog:Program)(w:World)(A:Around)(s:Sd)(l:Li Ad)(i:Ad):Prop:=
 ∀ (h:Heap) (Q E:vL->Sd->Prop),KB l s.heap h->(∀ h' e,Heap.ExtBut i h h'->(∃ o,h'.get? e=some o/\o.cls=.type "StopIteration")->E (.ref e) { s with heap:=h' })->wpAny (model prog w) A (nextOf (.ref i)) Q E { s with heap:=h }
theorem ZhJ{Q:vL->Sd->Prop}{E:vL->Sd->Prop}(d:ZD z TI TO i1 i2)(hz:IsZip s.heap z TI TO .none)(hI:IsPair s.heap TI (.ref i1) (.ref i2))(hO:IsPair s.heap TO a b)(n1:Nx prog w A s [z] i1 x S1)(n2:Nx prog w A s [z,TO,i1] i2 y S2)(k1:∀ h h',S1 h->(∀ o,h.get? i1=some o->h'.get? i1=some o)->S1 h')(k2:∀ h h',S2 h->(∀ o,h.get? i2=some o->h'.get? i2=some o)->S2 h')(hQ:∀ h',IsZip h' z TI TO (rawInt s.heap.objs.size)->IsPair h' TO x y->S1 h'->S2 h'->IsPair h' s.heap.objs.size x y->KB [z,TO,i1,i2] s.heap h'->Q (.ref s.heap.objs.size) { s with heap:=h' }) :
  wpAny (model prog w) A (Builtin.«zip.__next__» ⟨[.ref z],[]⟩) (fun fin s'=>∃ v,fin=.done (.ret v)/\Q v s') E s:=by
 obtain⟨m1,m2,m3,m4⟩:=ZkT (z:=z) (TO:=TO) (i1:=i1) (i2:=i2);show wpAny _ _ (field (.ref z) 2 >>= _) _ _ _;refine wpAny_bind (wpAny_field hz rfl (x:=.bool false) rfl (wpAny_bind (wpAny_field hz rfl (x:=.ref TI) rfl (wpAny_bind (wpAny_seqItems hI rfl ?_)))));show wpAny _ _ (ownedTupleIsFree (.ref z) >>= _) _ _ _;unfold ownedTupleIsFree;refine wpAny_bind (wpAny_bind (wpAny_field hz rfl (x:=.none) rfl (wpAny_pure ?_)))
 simp only[if_true];refine wpAny_bind (wpAny_rule (wpAny_bind (wpAny_field hz rfl (x:=.ref TO) rfl (wpAny_bind (wpAny_setField_rec hz (by simp) fun g1 u1 t1=>wpAny_bind ?_)))))
 simp only[List.zipIdx_cons,List.zipIdx_nil,List.forIn_cons,List.forIn_nil];refine wpAny_bind (wpAny_bind (wpAny_onRaise ?_));show wpAny _ _ (nextOf (.ref i1) >>= _) _ _ _;have K1:KB [z] s.heap g1:=KB.of t1 (.head _);refine wpAny_bind (n1 g1 _ _ K1 fun g2 v2 t2=>wpAny_pure ?_)
 have o2:IsPair g2 TO a b:=t2.extBut _ _ d.h (t1.extBut _ _ d.b hO);refine wpAny_bind (wpAny_seqItems o2 rfl (wpAny_bind (wpAny_updateSeq_pair o2 fun g3 o3 t3=>wpAny_bind (wpAny_letGo (wpAny_pure ?_)))))
 have o3:IsPair g3 TO x b:=o3;refine wpAny_bind (wpAny_bind (wpAny_onRaise ?_));show wpAny _ _ (nextOf (.ref i2) >>= _) _ _ _;have K3:KB [z,TO,i1] s.heap g3:=(KB.of t1 (.head _)).trans ((KB.of t2 (.tail _ (.tail _ (.head _)))).trans (KB.of t3 (.tail _ (.head _))));refine wpAny_bind (n2 g3 _ _ K3 fun g4 v4 t4=>wpAny_pure ?_)
 have o4:IsPair g4 TO x b:=t4.extBut _ _ d.i o3;refine wpAny_bind (wpAny_seqItems o4 rfl (wpAny_bind (wpAny_updateSeq_pair o4 fun g5 o5 t5=>wpAny_bind (wpAny_letGo (wpAny_pure (wpAny_pure ?_))))))
 have o5:IsPair g5 TO x y:=o5;refine wpAny_bind (wpAny_seqItems o5 rfl (wpAny_bind (wpAny_newTuple ?_)));have K4:KB [z,TO,i1,i2] s.heap g5:=((KB.of t1 m1).trans ((KB.of t2 m3).trans ((KB.of t3 m2).trans ((KB.of t4 m4).trans (KB.of t5 m2)))));have sz:g5.objs.size=s.heap.objs.size:=by rw[t5.1,t4.1,t3.1,t2.1,t1.1]
 have u5:IsZip g5 z TI TO .ellipsis:=t5.extBut _ _ d.b.symm (t4.extBut _ _ d.d.symm (t3.extBut _ _ d.b.symm (t2.extBut _ _ d.c.symm u1)));have zl:=Heap.lt_size u5;show wpAny _ _ (ownedTupleHandOut (.ref z) (.ref g5.objs.size) >>= _) _ _ _;unfold ownedTupleHandOut;have u6:IsZip (g5.push { cls:=.type "tuple",data:=.seq #[x,y] }) z TI TO .ellipsis:=Heap.get?_push_of_some _ u5;refine wpAny_bind (wpAny_bind (wpAny_setField_rec u6 (by simp) fun g7 u7 t7=>?_))
 have u7:IsZip g7 z TI TO (rawInt g5.objs.size):=u7;refine wpAny_setField_rec u7 (by simp) fun g8 u8 t8=>wpAny_pure ⟨_,rfl,?_⟩
 have u8:IsZip g8 z TI TO (rawInt g5.objs.size):=u8;have up:∀ c o,c≠z->g5.get? c=some o->g8.get? c=some o:=fun c o n e=>t8.extBut _ _ n (t7.extBut _ _ n (Heap.get?_push_of_some _ e))
 have p8:IsPair g8 g5.objs.size x y:=t8.extBut _ _ (Nat.ne_of_gt zl) (t7.extBut _ _ (Nat.ne_of_gt zl) (Heap.get?_push_size _ rfl));show Q (.ref g5.objs.size) _;rw[sz]at u8 p8 ⊢;exact hQ g8 u8 (up _ _ d.b o5) (k1 _ _ v2 fun o e=>up _ _ d.c (t5.extBut _ _ d.h.symm (t4.extBut _ _ d.j (t3.extBut _ _ d.h.symm e)))) (k2 _ _ v4 fun o e=>up _ _ d.d (t5.extBut _ _ d.i.symm e)) p8 (K4.trans fun c o n e=>up c o (fun q=>n (q ▸ m1)) e)
theorem Zfu{Q:Fin->Sd->Prop}{E:vL->Sd->Prop}(d:ZD z TI TO i1 i2)(hz:IsZip s.heap z TI TO .none)(hI:IsPair s.heap TI (.ref i1) (.ref i2))(hO:IsPair s.heap TO a b)(n:Nz prog w A s [z] i1\/∃ x S,Nx prog w A s [z] i1 x S/\Nz prog w A s [z,TO,i1] i2)(hE:∀ h' e,KB [z,TO,i1,i2] s.heap h'->(∃ o,h'.get? e=some o/\o.cls=.type "StopIteration")->E (.ref e) { s with heap:=h' }):wpAny (model prog w) A (Builtin.«zip.__next__» ⟨[.ref z],[]⟩) Q E s:=by
 obtain⟨m1,m2,m3,m4⟩:=ZkT (z:=z) (TO:=TO) (i1:=i1) (i2:=i2);show wpAny _ _ (field (.ref z) 2 >>= _) _ _ _;refine wpAny_bind (wpAny_field hz rfl (x:=.bool false) rfl (wpAny_bind (wpAny_field hz rfl (x:=.ref TI) rfl (wpAny_bind (wpAny_seqItems hI rfl ?_)))));show wpAny _ _ (ownedTupleIsFree (.ref z) >>= _) _ _ _;unfold ownedTupleIsFree;refine wpAny_bind (wpAny_bind (wpAny_field hz rfl (x:=.none) rfl (wpAny_pure ?_)))
 simp only[if_true];refine wpAny_bind (wpAny_rule (wpAny_bind (wpAny_field hz rfl (x:=.ref TO) rfl (wpAny_bind (wpAny_setField_rec hz (by simp) fun g1 u1 t1=>wpAny_bind ?_)))))
 simp only[List.zipIdx_cons,List.zipIdx_nil,List.forIn_cons,List.forIn_nil];refine wpAny_bind (wpAny_bind (wpAny_onRaise ?_));show wpAny _ _ (nextOf (.ref i1) >>= _) _ _ _;have u1:IsZip g1 z TI TO .ellipsis:=u1;have K1:KB [z] s.heap g1:=KB.of t1 (.head _);have out:∀ {g:Heap}{e:Ad},IsZip g z TI TO .ellipsis->KB [z,TO,i1,i2] s.heap g->(∃ o,g.get? e=some o/\o.cls=.type "StopIteration")->∀ g',Heap.SameBut z g g'->E (.ref e) { s with heap:=g' }:=fun {g e} u k ⟨o,ho,hc⟩ g' t=>by
  have ne:e≠z:=fun q=>by subst q;rw[u]at ho;cases ho;simp at hc
  exact hE g' e (k.trans (KB.of t m1)) ⟨o,t.extBut _ _ ne ho,hc⟩
 rcases n with n|⟨x,S,n1,n2⟩
 ·refine wpAny_bind (n g1 _ _ K1 fun g2 e t2 he=>?_)
  have u2:IsZip g2 z TI TO .ellipsis:=t2 _ _ d.c.symm u1;exact wpAny_setField_rec u2 (by simp) fun g3 _ t3=>out u2 ((KB.of t1 m1).trans fun c o n e=>t2 c o (fun q=>n (q ▸ m3)) e) he g3 t3
 ·refine wpAny_bind (n1 g1 _ _ K1 fun g2 v2 t2=>wpAny_pure ?_)
  have o2:IsPair g2 TO a b:=t2.extBut _ _ d.h (t1.extBut _ _ d.b hO);refine wpAny_bind (wpAny_seqItems o2 rfl (wpAny_bind (wpAny_updateSeq_pair o2 fun g3 o3 t3=>wpAny_bind (wpAny_letGo (wpAny_pure ?_)))))
  refine wpAny_bind (wpAny_bind (wpAny_onRaise ?_));show wpAny _ _ (nextOf (.ref i2) >>= _) _ _ _;have K3:KB [z,TO,i1] s.heap g3:=(KB.of t1 (.head _)).trans ((KB.of t2 (.tail _ (.tail _ (.head _)))).trans (KB.of t3 (.tail _ (.head _))));refine wpAny_bind (n2 g3 _ _ K3 fun g4 e t4 he=>?_)
  have u4:IsZip g4 z TI TO .ellipsis:=t4 _ _ d.d.symm (t3.extBut _ _ d.b.symm (t2.extBut _ _ d.c.symm u1));exact wpAny_setField_rec u4 (by simp) fun g5 _ t5=>out u4 ((KB.of t1 m1).trans ((KB.of t2 m3).trans ((KB.of t3 m2).trans fun c o n e=>t4 c o (fun q=>n (q ▸ m4)) e))) he g5 t5
end
structure ZSt(z TI TO i1 i2 a b:Addr)(i:Nat)(h:Heap):Prop where
 hz:IsZip h z TI TO .none
 hI:IsPair h TI (.ref i1) (.ref i2)
 hO:∃ u v,IsPair h TO u v
 h1:h.IsListIter i1 a i
 h2:h.IsTupleIter i2 b i
theorem ZbY{z TI TO i1 i2 c:Ad}(h:c∈[z,TO,i1,i2]):c∈[z,TI,TO,i1,i2]:=by
 rcases List.mem_cons.mp h with rfl|h
 ·exact .head _
 ·exact .tail _ (.tail _ h)
theorem ZbZ{z TI TO i1 i2 a b c:Ad}{i:Nat}{h:Heap}(st:ZSt z TI TO i1 i2 a b i h)(hc:c∈[z,TI,TO,i1,i2]):∃ o,h.get? c=some o/\∀ v,o.data≠.cell v:=by
 obtain⟨hz,hI,⟨u,v,hO⟩,⟨o1,g1,_,f1⟩,⟨o2,g2,_,f2⟩⟩:=st;simp only[List.mem_cons,List.not_mem_nil,or_false]at hc;rcases hc with rfl|rfl|rfl|rfl|rfl
 ·exact⟨_,hz,fun v q=>by cases (show Data.fields _=Data.cell v from q)⟩
 ·exact⟨_,hI,fun v q=>by cases (show Data.seq _ _=Data.cell v from q)⟩
 ·exact⟨_,hO,fun v q=>by cases (show Data.seq _ _=Data.cell v from q)⟩
 ·exact⟨_,g1,fun v q=>by rw[f1]at q;cases q⟩
 ·exact⟨_,g2,fun v q=>by rw[f2]at q;cases q⟩
theorem Zbp{X:Cx}{pQ:Li (Ad×Obj)}{σ:L2.St}{H:Hp}{s:Sd}{a c:Ad}(I:L2.Inv X pQ σ H s)(f:FpOk X pQ H c)(h:(∃ o,H a=some o)\/∃ o,X.K.lookup a=some o):a≠c:=fun q=>by
 subst q;rcases h with⟨o,h⟩|⟨o,h⟩
 ·rw[f.1]at h;cases h
 ·have hb:=I.ok.mod.kin a o h
  rcases f.2.2.2.1 with g|g
  ·exact I.ok.noex a o hb g
  ·exact absurd (Heap.lt_size (I.ok.bs a o hb).1) (Nat.not_lt.mpr g)
theorem Zj0{K:Fg}{H:Hp}{a:Ad}{xs:Li V}(h:SqT K H a xs):(∃ o,H a=some o)\/∃ o,K.lookup a=some o:=by
 rcases h with(h|⟨o,h⟩)|⟨o,its,n,h,_⟩
 ·exact .inl ⟨_,h⟩
 ·exact .inl ⟨_,h⟩
 ·exact .inr ⟨_,h⟩
theorem ZaV{K:Fg}{H:Hp}{a:Ad}{xs:Li V}(h:SqL K H a xs):(∃ o,H a=some o)\/∃ o,K.lookup a=some o:=by
 rcases h with(h|⟨o,h⟩)|⟨o,its,n,h,_⟩
 ·exact .inl ⟨_,h⟩
 ·exact .inl ⟨_,h⟩
 ·exact .inr ⟨_,h⟩
theorem Zaa{prog:Program}{w:World}{A:Around}{s:Sd}{z TI TO:Ad}{Q:Ot vL->Sd->Prop}{E:vL->Sd->Prop}(hz:IsZip s.heap z TI TO .none)(h:∀ {Qf:Fin->Sd->Prop}{Ef:vL->Sd->Prop},(∀ v s',Q (some v) s'->Qf (.done (.ret v)) s')->(∀ e s',(∃ o,s'.heap.get? e=some o/\o.cls=.type "StopIteration")->Q none s'->Ef (.ref e) s')->wpAny (model prog w) A.in1 (Builtin.«zip.__next__» ⟨[.ref z],[]⟩) Qf Ef s):wpAny (model prog w) A (pyNext (.ref z)) Q E s:=by
 have hT:s.TypeIs (.ref z) "zip":=⟨_,hz,rfl⟩;unfold pyNext;refine wpAny_bind (wpAny_attempt (wpAny_callSpecial?_slot (name:=Str.ofString "__next__") hT F.slot_zip_next (wpAny_call_entry F.slot_zip_next hT F.entry_zip_next (h (fun v s' q=>⟨v,rfl,wpAny_pure q⟩) fun e s' he q=>?_) (F.args_zip_next_1 _))))
 obtain⟨o,ho,hc⟩:=he;exact wpAny_bind (wpAny_isInstance (T := "StopIteration") (b:=true) ⟨o,ho,hc⟩ isSubtype_stop (wpAny_pure q))
section
variable {X:Cx}{z TI TO i1 i2 a b:Ad}{i:Nat}{pQ:Li (Ad×Obj)}{s:Sd}{σ:L2.St}{H:Hp}{E:vL->Sd->Prop}
theorem nl{l:Li Ad}{c:Ad}(h:∀ d∈l,c≠d):c∉l:=fun m=>h c m rfl
theorem Zfv(d:ZD z TI TO i1 i2)(hc:X.calm=true)(I:L2.Inv X pQ σ H s)(hf:∀ c∈[z,TI,TO,i1,i2],FpOk X pQ H c)(st:ZSt z TI TO i1 i2 a b i s.heap){xs ys:Li V}(sq1:SqL X.K H a xs)(sq2:SqT X.K H b ys){its1 its2:Li vL}(p1:s.heap.IsList a its1.toArray)(p2:s.heap.IsTuple b its2.toArray) :
  (∀ u,its1.toArray[i]?=some u->Nx X.prog X.w X.A.in1 s [z] i1 u fun h=>h.IsListIter i1 a (i+1))/\(its1.toArray[i]?=none->Nz X.prog X.w X.A.in1 s [z] i1)/\(∀ u,its2.toArray[i]?=some u->Nx X.prog X.w X.A.in1 s [z,TO,i1] i2 u fun h=>h.IsTupleIter i2 b (i+1))/\(its2.toArray[i]?=none->Nz X.prog X.w X.A.in1 s [z,TO,i1] i2):=by
 have na:∀ {c},c∈[z,TI,TO,i1,i2]->a≠c:=fun m=>Zbp I (hf _ m) (ZaV sq1)
 have nb:∀ {c},c∈[z,TI,TO,i1,i2]->b≠c:=fun m=>Zbp I (hf _ m) (Zj0 sq2)
 have m1:z∈[z,TI,TO,i1,i2]:=.head _;have e1:∀ h,KB [z] s.heap h->h.IsListIter i1 a i/\h.IsList a its1.toArray:=fun h k=>⟨st.h1.at fun o e=>k _ o (nl fun c m=>by rw[List.mem_singleton.mp m];exact d.c) e,p1.at fun o e=>k _ o (nl fun c m=>by rw[List.mem_singleton.mp m];exact na m1) e⟩
 have e2:∀ h,KB [z,TO,i1] s.heap h->h.IsTupleIter i2 b i/\h.IsTuple b its2.toArray:=fun h k=>⟨st.h2.at fun o e=>k _ o (nl fun c m=>by
   simp only[List.mem_cons,List.not_mem_nil,or_false]at m;rcases m with rfl|rfl|rfl
   ·exact d.d
   ·exact d.i.symm
   ·exact d.j.symm) e,p2.at fun o e=>k _ o (nl fun c m=>nb (by
   simp only[List.mem_cons,List.not_mem_nil,or_false]at m ⊢;rcases m with rfl|rfl|rfl
   ·exact .inl rfl
   ·exact .inr (.inr (.inl rfl))
   ·exact .inr (.inr (.inr (.inl rfl))))) e⟩
 have hh:X.A.in1.handled=none:=I.ok.hd hc;refine⟨fun u eu h Q E k hq=>?_,fun eu h Q E k hq=>?_,fun u eu h Q E k hq=>?_,fun eu h Q E k hq=>?_⟩
 ·obtain⟨f1,f2⟩:=e1 h k
  exact wpAny_nextOf_list_item (s:={ s with heap:=h }) f1 f2 eu fun h2 v t=>hq h2 v t
 ·obtain⟨f1,f2⟩:=e1 h k
  exact wpAny_nextOf_list_end (s:={ s with heap:=h }) hh f1 f2 eu fun h2 e t he=>hq h2 e t he
 ·obtain⟨f1,f2⟩:=e2 h k
  exact JK (s:={ s with heap:=h }) hh f1 f2 (fun x h2 ex v t=>by rw[eu]at ex;cases ex;exact hq h2 v t) fun ex=>by rw[eu]at ex;cases ex
 ·obtain⟨f1,f2⟩:=e2 h k
  exact JK (s:={ s with heap:=h }) hh f1 f2 (fun x h2 ex v t=>by rw[eu]at ex;cases ex) fun _ h2 e t he=>hq h2 e t he
theorem Zft{elts:Li Expr}{kk:Nat}{pos:Pos}(d:ZD z TI TO i1 i2)(hc:X.calm=true)(I:L2.Inv X pQ σ H s)(hf:∀ c∈[z,TI,TO,i1,i2],FpOk X pQ H c)(st:ZSt z TI TO i1 i2 a b i s.heap)(hg:(Itz X.K a b).go i H) :
  wpAny (model X.prog X.w) X.A (pyNext (.ref z)) (fun r s1=>∃ u,r=some u/\wpAny (model X.prog X.w) X.A (letOwnedTupleGo (.Tuple elts kk pos) (.ref z) u) (fun _ s2=>∃ x H',L2.Inv X pQ σ H' s2/\RelV x u/\(Itz X.K a b).yld i H x H'/\ZSt z TI TO i1 i2 a b (i+1) s2.heap/\∀ c∈[z,TI,TO,i1,i2],H' c=none) E s1) E s:=by
 obtain⟨xs,ys,x,y,sq1,sq2,ex,ey⟩:=hg;obtain⟨its1,r1,p1,_⟩:=I.list sq1;obtain⟨its2,r2,p2,_⟩:=I.tuple sq2;obtain⟨n1,_,n2,_⟩:=Zfv d hc I hf st sq1 sq2 p1.isList p2;obtain⟨u,eu,ru⟩:=r1.get ex;obtain⟨v,ev,rv⟩:=r2.get ey;have eu:its1.toArray[i]?=some u:=by rw[List.getElem?_toArray];exact eu
 have ev:its2.toArray[i]?=some v:=by rw[List.getElem?_toArray];exact ev
 obtain⟨oa,ob,hO⟩:=st.hO;refine Zaa st.hz fun {Qf Ef} hq _=>wpAny_mono (ZhJ d st.hz st.hI hO (n1 u eu) (n2 v ev) (fun h h' q k=>q.at k) (fun h h' q k=>q.at k) (Q:=fun r s1=>Qf (.done (.ret r)) s1) (E:=Ef) fun g a1 a2 a3 a4 a5 kb=>hq _ _ ⟨_,rfl,?_⟩) (fun r s1 ⟨v,e,q⟩=>by rw[e];exact q) fun _ _ e=>e
 refine wpAny_letOwnedTupleGo_zip (s:={ s with heap:=g }) a1 fun g2 b1 t2=>?_
 have hT:s.heap.objs.size<=s.heap.objs.size:=Nat.le_refl _;have zn:∀ c∈[z,TI,TO,i1,i2],c≠s.heap.objs.size:=fun c hcm q=>by
  obtain⟨o,e,_⟩:=ZbZ st hcm;exact absurd (Heap.lt_size e) (by rw[q];exact Nat.lt_irrefl _)
 have kb2:KB [z,TO,i1,i2] s.heap g2:=kb.trans (KB.of t2 (.head _));have tn:s.heap.objs.size≠z:=fun q=>zn z (.head _) q.symm
 have up:∀ c o,c≠z->g.get? c=some o->g2.get? c=some o:=fun c o n e=>t2.extBut c o n e
 have I2:L2.Inv X pQ σ (upd H s.heap.objs.size (.tup [x,y])) { s with heap:=g2,toks:=s.toks }:=X6 (wr:=[z,TO,i1,i2]) I (fun c hcm=>hf c (ZbY hcm)) (fun c o n e=>kb2 c o n e) hT ⟨show 2<=sizeLine by decide,[u,v],.cons ru (.cons rv .nil),⟨_,up _ _ tn a5,rfl,_,rfl⟩⟩
 have fr:H s.heap.objs.size=none:=I.hok.fresh (Nat.le_refl _);refine⟨.ref s.heap.objs.size,upd H s.heap.objs.size (.tup [x,y]),I2,rfl,⟨_,x,y,rfl,fr,rfl,fun xs' q=>by rw[ZbQ I sq1 q];exact ex,fun ys' q=>by rw[I.tuple_inj q sq2];exact ey⟩,⟨b1,up _ _ d.a (kb _ _ (nl fun c m=>?_) st.hI),⟨_,_,up _ _ d.b a2⟩,a3.at fun o e=>up _ o d.c e,a4.at fun o e=>up _ o d.d e⟩,fun c hcm=>?_⟩
 ·simp only[List.mem_cons,List.not_mem_nil,or_false]at m
  rcases m with rfl|rfl|rfl|rfl
  ·exact d.a
  ·exact d.e
  ·exact d.f
  ·exact d.g
 ·rw[upd_ne (zn c hcm)]
  exact(hf c hcm).1
theorem Zfs(d:ZD z TI TO i1 i2)(hc:X.calm=true)(I:L2.Inv X pQ σ H s)(hf:∀ c∈[z,TI,TO,i1,i2],FpOk X pQ H c)(st:ZSt z TI TO i1 i2 a b i s.heap)(hg:(Itz X.K a b).stop i H) :
  wpAny (model X.prog X.w) X.A (pyNext (.ref z)) (fun r s1=>r=none/\L2.Inv X pQ σ H s1) E s:=by
 obtain⟨xs,ys,sq1,sq2,hle⟩:=hg;obtain⟨its1,r1,p1,_⟩:=I.list sq1;obtain⟨its2,r2,p2,_⟩:=I.tuple sq2;obtain⟨n1,z1,n2,z2⟩:=Zfv d hc I hf st sq1 sq2 p1.isList p2;obtain⟨oa,ob,hO⟩:=st.hO;have l1:=r1.length;have l2:=r2.length;have dn:Nz X.prog X.w X.A.in1 s [z] i1\/∃ x S,Nx X.prog X.w X.A.in1 s [z] i1 x S/\Nz X.prog X.w X.A.in1 s [z,TO,i1] i2:=by
  cases q:its1.toArray[i]? with
  |none=>exact .inl (z1 q)
  |some u=>
   rw[List.getElem?_toArray,List.getElem?_eq_some_iff]at q;refine .inr ⟨u,_,n1 u (by rw[List.getElem?_toArray,List.getElem?_eq_some_iff];exact q),z2 ?_⟩
   rw[List.getElem?_toArray,List.getElem?_eq_none_iff];have:=q.1;omega
 exact Zaa st.hz fun {Qf Ef} _ he=>Zfu d st.hz st.hI hO dn fun g e kb hs=>he e _ hs ⟨rfl,W6 (t':=s.toks) (wr:=[z,TO,i1,i2]) I (fun c hcm=>hf c (ZbY hcm)) fun c o n e=>kb c o n e⟩
end
theorem Zfk{P:Program}{w:World}{K:Fg}{elts:Li Expr}{kk:Nat}{pos:Pos}(z TI TO i1 i2 a b:Ad)(d:ZD z TI TO i1 i2):Turn P w K (.Tuple elts kk pos) (Itz K a b) [z,TI,TO,i1,i2] z (ZSt z TI TO i1 i2 a b) where
 mem:=.head _
 obj:=fun i h st c hc=>ZbZ st hc
 keep:=fun i h h' st k=>by
  obtain⟨hz,hI,⟨u,v,hO⟩,h1,h2⟩:=st;exact⟨k z (.head _) _ hz,k TI (.tail _ (.head _)) _ hI,⟨u,v,k TO (.tail _ (.tail _ (.head _))) _ hO⟩,h1.at fun o e=>k i1 (.tail _ (.tail _ (.tail _ (.head _)))) o e,h2.at fun o e=>k i2 (.tail _ (.tail _ (.tail _ (.tail _ (.head _))))) o e⟩
 item:=fun X hP hw hK hc i pQ s σ H E I hf st hg=>by
  subst hP hw hK;exact Zft d hc I hf st hg
 done:=fun X hP hw hK hc i pQ s σ H E I hf st hg=>by
  subst hP hw hK;exact Zfs d hc I hf st hg
 self:=fun _ _ _ _ _ st h=>wpAny_pyIter_zip st.hz h
theorem ZiD:bootBuiltins "zip"=some (.type "zip"):=by decide +kernel
theorem ZaD(l1 l2:Ad)(xs ys:Array vL) :
  Meets (Builtin.«zip.__new__» ⟨[.type "zip",.ref l1,.ref l2],[]⟩) (fun _ R s=>s.heap.IsList l1 xs/\s.heap.IsTuple l2 ys/\∀ h',h'=((((s.heap.push { cls:=.type "list_iterator",data:=.fields #[.ref l1,.int 0 0] }).push { cls:=.type "tuple_iterator",data:=.fields #[.ref l2,.int 0 0] }).push { cls:=.type "tuple",data:=.seq #[.ref s.heap.objs.size,.ref (s.heap.push { cls:=.type "list_iterator",data:=.fields #[.ref l1,.int 0 0] }).objs.size] }).push { cls:=.type "tuple",data:=.seq #[.none,.none] })->
   R (.ok (.ret (.ref h'.objs.size))) { s with heap:=h'.push { cls:=.type "zip",data:=.fields #[.none,.bool false,.bool false,.ref ((s.heap.push { cls:=.type "list_iterator",data:=.fields #[.ref l1,.int 0 0] }).push { cls:=.type "tuple_iterator",data:=.fields #[.ref l2,.int 0 0] }).objs.size,.ref (((s.heap.push { cls:=.type "list_iterator",data:=.fields #[.ref l1,.int 0 0] }).push { cls:=.type "tuple_iterator",data:=.fields #[.ref l2,.int 0 0] }).push { cls:=.type "tuple",data:=.seq #[.ref s.heap.objs.size,.ref (s.heap.push { cls:=.type "list_iterator",data:=.fields #[.ref l1,.int 0 0] }).objs.size] }).objs.size] } }):=
 .of_wp fun prog w A R s h=>by
  obtain⟨hp,g,d,tk,os⟩:=s;obtain⟨hl1,hl2,h⟩:=h;have hsub:=sub_zip;have hL1:Heap.IsList (Shared.heap ⟨hp,g,d,tk,os⟩) l1 xs:=hl1;have hL2:Heap.IsTuple (Shared.heap ⟨hp.push { cls:=.type "list_iterator",data:=.fields #[.ref l1,.int 0 0] },g,d,tk,os⟩) l2 ys:=hl2.at fun o e=>Heap.get?_push_of_some _ e
  wp_walk using wpAny_pyIter_list hL1,wpAny_pyIter_tuple hL2
  exact⟨_,rfl,h _ rfl⟩
theorem Zch{prog:Program}{w:World}{A:Around}{E:vL->Sd->Prop}{s:Sd}{l1 l2:Ad}{xs ys:Array vL}{Q:vL->Sd->Prop}(hl1:s.heap.IsList l1 xs)(hl2:s.heap.IsTuple l2 ys)(h:∀ h',ZSt (s.heap.objs.size+4) (s.heap.objs.size+2) (s.heap.objs.size+3) s.heap.objs.size (s.heap.objs.size+1) l1 l2 0 h'->(∀ c o,s.heap.get? c=some o->h'.get? c=some o)->Q (.ref (s.heap.objs.size+4)) { s with heap:=h' }) :
  wpAny (model prog w) A (call (.type "zip") [.ref l1,.ref l2]) Q E s:=by
 refine callType_new F.called_zip (by decide) (F.typeCall_zip_2 _ _) (F.newCall_zip_2 _ _) (fun obj=>F.args_object_init_3 obj _ _) F.entry_zip_new (ZaD l1 l2 xs ys) ⟨hl1,hl2,fun h' e=>?_⟩
 have z0:∀ (g:Heap) (o:Obj),(g.push o).objs.size=g.objs.size+1:=fun g o=>Heap.size_push ..
 generalize hg1:s.heap.push { cls:=.type "list_iterator",data:=.fields #[.ref l1,.int 0 0] }=g1 at e;generalize hg2:g1.push { cls:=.type "tuple_iterator",data:=.fields #[.ref l2,.int 0 0] }=g2 at e;generalize hg3:g2.push { cls:=.type "tuple",data:=.seq #[.ref s.heap.objs.size,.ref g1.objs.size] }=g3 at e;have s1:g1.objs.size=s.heap.objs.size+1:=by rw[<-hg1,z0]
 have s2:g2.objs.size=s.heap.objs.size+2:=by rw[<-hg2,z0,s1]
 have s3:g3.objs.size=s.heap.objs.size+3:=by rw[<-hg3,z0,s2]
 have s4:h'.objs.size=s.heap.objs.size+4:=by rw[e,z0,s3]
 have q1:g1.get? s.heap.objs.size=some { cls:=.type "list_iterator",data:=.fields #[.ref l1,.int 0 0] }:=by rw[<-hg1];exact Heap.get?_push_size _ rfl
 have q2:g2.get? (s.heap.objs.size+1)=some { cls:=.type "tuple_iterator",data:=.fields #[.ref l2,.int 0 0] }:=by rw[<-hg2,<-s1];exact Heap.get?_push_size _ rfl
 have q3:IsPair g3 (s.heap.objs.size+2) (.ref s.heap.objs.size) (.ref (s.heap.objs.size+1)):=by rw[<-hg3,<-s2,<-s1];exact Heap.get?_push_size _ rfl
 have q4:IsPair h' (s.heap.objs.size+3) .none .none:=by rw[e,<-s3];exact Heap.get?_push_size _ rfl
 have u2:∀ c o,g1.get? c=some o->g2.get? c=some o:=fun c o x=>by rw[<-hg2];exact Heap.get?_push_of_some _ x
 have u3:∀ c o,g2.get? c=some o->g3.get? c=some o:=fun c o x=>by rw[<-hg3];exact Heap.get?_push_of_some _ x
 have u4:∀ c o,g3.get? c=some o->h'.get? c=some o:=fun c o x=>by rw[e];exact Heap.get?_push_of_some _ x
 have u5:∀ {c:Ad}{o:Obj} (ob:Obj),h'.get? c=some o->(h'.push ob).get? c=some o:=fun ob x=>Heap.get?_push_of_some _ x
 have u1:∀ c o,s.heap.get? c=some o->g1.get? c=some o:=fun c o x=>by rw[<-hg1];exact Heap.get?_push_of_some _ x
 show _/\_;rw[s2,s3];have q5:IsZip (h'.push { cls:=.type "zip",data:=.fields #[.none,.bool false,.bool false,.ref (s.heap.objs.size+2),.ref (s.heap.objs.size+3)] }) (s.heap.objs.size+4) (s.heap.objs.size+2) (s.heap.objs.size+3) .none:=by rw[<-s4];exact Heap.get?_push_size _ rfl
 rw[s4];exact⟨⟨_,q5,rfl⟩,h _ ⟨q5,u5 _ (u4 _ _ q3),⟨_,_,u5 _ q4⟩,⟨_,u5 _ (u4 _ _ (u3 _ _ (u2 _ _ q1))),rfl,rfl⟩,⟨_,u5 _ (u4 _ _ (u3 _ _ q2)),rfl,rfl⟩⟩ fun c o x=>u5 _ (u4 _ _ (u3 _ _ (u2 _ _ (u1 _ _ x))))⟩
theorem ZeN{X:Cx}{elts:Li Expr}{kk:Nat}{tp:Pos}{x y:Expr}{ta:TA}{p pos:Pos}(hg:Gl X "zip")(hm:X.mg "zip"=none)(ha:PA X [x,y] ta)(hp:[x,y].all Zm=true):PI X (.Tuple elts kk tp) (.Call (.Name "zip" p) [x,y] [] pos) (ZiZ X.K ta):=by
 intro pQ s σ H R I h;rw[List.all_cons,List.all_cons,Ba,Ba]at hp;have hs2:starEach [y] X.env=[(false,eval y X.env)]:=Zf hp.2.1;have hs:starEach [x,y] X.env=[(false,eval x X.env),(false,eval y X.env)]:=by rw[Zf hp.1,hs2]
 refine Call_ (ld_blt I hg hm ZiD (PyProof.Rows.callWith_type1 (thn (ha pos pQ s σ H _ I h) fun us s1 ⟨vs,H1,I1,r1,q1⟩=>?_) (by rw[hs,hs2]) (by rw[hs2];rfl)))
 obtain⟨a,b,rfl,⟨xs,sq1⟩,⟨ys,sq2⟩,q⟩:=q1;cases r1 with
 |cons r rr=>
  cases rr with
  |cons r' rr=>
   cases rr;cases r;cases r';obtain⟨its1,_,p1,_⟩:=I1.list sq1;obtain⟨its2,_,p2,_⟩:=I1.tuple sq2;have ne:∀ {i j:Nat},i≠j->(s1.heap.objs.size+i:Nat)≠s1.heap.objs.size+j:=fun h z=>h (Nat.add_left_cancel z)
   refine Zch p1.isList (show s1.heap.IsTuple b its2.toArray from p2) fun h' st k=>wpAny_pyIter_zip st.hz ?_
   refine⟨s1.heap.objs.size+4,[s1.heap.objs.size+4,s1.heap.objs.size+2,s1.heap.objs.size+3,s1.heap.objs.size,s1.heap.objs.size+1],_,_,H1,rfl,I1.kept (t':=s1.toks) k,Zfk _ _ _ _ _ a b ⟨ne (i:=2) (j:=4) (by decide),ne (i:=3) (j:=4) (by decide),ne (i:=0) (j:=4) (by decide),ne (i:=1) (j:=4) (by decide),ne (i:=2) (j:=3) (by decide),ne (i:=2) (j:=0) (by decide),ne (i:=2) (j:=1) (by decide),ne (i:=3) (j:=0) (by decide),ne (i:=3) (j:=1) (by decide),ne (i:=0) (j:=1) (by decide)⟩,st,fun c hcm=>?_,q⟩
   have hc:s1.heap.objs.size<=c:=by
    simp only[List.mem_cons,List.not_mem_nil,or_false]at hcm;rcases hcm with rfl|rfl|rfl|rfl|rfl
    ·exact Nat.le_add_right _ _
    ·exact Nat.le_add_right _ _
    ·exact Nat.le_add_right _ _
    ·exact Nat.le_refl _
    ·exact Nat.le_add_right _ _
   exact I1.fpOk hc (I1.hok.fresh hc)
section
variable {prog:Program}{w:World}{A:Around}{E:vL->Sd->Prop}{s:Sd}
open AutoSeq1 (wpAny_loadPart')
theorem Zgy{T newId:String}{self:vL}{rest:Li vL}{kw:Li (Str×vL)}(hl:typeLookup (.type T) "__init__"=pure (some (.builtin "object.__init__")))(hm:Bind.madeBy (.type T)=pure (some newId))(hne:(some newId != some "object.__new__")=true)(hk:(!rest.isEmpty||!kw.isEmpty)=true) :
  Meets (Builtin.«object.__init__» ⟨self :: rest,kw⟩) (fun _ R s=>s.TypeIs self T/\R (.ok (.ret .none)) s):=by
 refine Meets.of_wp fun prog w A R s hs=>?_
 obtain⟨hT,hq⟩:=hs
 repeat (any_goals (first|assumption|wp_step))
 exact⟨_,rfl,hq⟩
theorem Zlm{T newId:String}{Bn:Builtin}{args:Li vL}{kw:Li (Str×vL)}{S:PySem.Spec}{Q:vL->Sd->Prop}(ft:TypeCalled T newId "object.__init__")(hne:(some newId != some "object.__new__")=true)(hk:(!args.isEmpty||!kw.isEmpty)=true)(hct:checkTypeCall T ⟨args,kw⟩=pure ())(hcn:checkBuiltinCall newId ⟨.type T :: args,kw⟩=pure ())(hok:∀ obj,argsOk "object.__init__" ⟨obj :: args,kw⟩)(eN:entryFor table newId=some Bn)(g:Meets (Bn ⟨.type T :: args,kw⟩) S)(h:S A.in1 (wants (fun obj s₁=>s₁.TypeIs obj T/\Q obj s₁) E) s):wpAny (model prog w) A (call (.type T) args kw) Q E s:=by
 obtain⟨c,tl,hmro⟩:=ft.mro;have hmade:=ft.made;have hsub:=ft.sub;refine wpAny_call (codeAny_of_tree (show wpAny _ _ (callAny (.type T) _) _ _ _ from wpAny_pure ⟨Code.quiet_builtin _ (by decide +kernel),codeAny_builtin F.entry_type_call ?_⟩))
 rw[Around.under_plain (weight_type_call_type T args kw) (units_type_call_type T args kw)];have h1:=ft.notType;have h2:=ft.canCreate
 repeat (any_goals (first|assumption|wp_step))
 refine codeAny_mono (codeAny_call_builtin ft.plain eN (wpAny_of_eq hcn (g prog w A.in1 _ s h))) fun r t hr=>?_
 cases r with
 |error e=>exact hr
 |ok fl=>
  cases fl with
  |ret obj=>
   have hli:=ft.init.lookup;have hbi:=ft.init.bind obj;have hT:=hr.1
   repeat (any_goals (first|assumption|wp_step))
   refine codeAny_mono (codeAny_call_builtin ft.init.plain F.entry_object_init (ft.init.check _ _ _ _ _ _ _ _ hT (hok obj) ((Zgy hli hmade hne hk) prog w A.in1 (wants (fun r s₂=>r=.none/\Q obj s₂) E) t ⟨hT,rfl,hr.2⟩))) fun r u hu=>?_
   cases r with
   |error e=>exact hu
   |ok fl=>
    cases fl with
    |ret r=>
     obtain⟨rfl,hq⟩:=hu
     repeat (any_goals (first|assumption|wp_step))
    |_=>exact hu.elim
  |_=>exact hr.elim
theorem ZhD(a v:vL):checkTypeCall "enumerate" ⟨[a],[("start",v)]⟩=pure ():=by kernel_rfl
theorem ZgM(a v:vL):checkBuiltinCall "enumerate.__new__" ⟨[.type "enumerate",a],[("start",v)]⟩=pure ():=by kernel_rfl
theorem ZfG(o a v:vL):argsOk "object.__init__" ⟨[o,a],[("start",v)]⟩:=by
 unfold argsOk;rw[signature?_of (id := "object.__init__") (n:=['_','_','t','i','n','i','_','_']) (o:=['t','c','e','j','b','o']) (by kernel_rfl) F.owner_object];kernel_rfl
theorem JG(l:Ad)(items:Array vL)(n:Nat)(dct:Ot Ad)(sl:Array (Ot vL))(t:Tok) :
  Meets (Builtin.«enumerate.__new__» ⟨[.type "enumerate",.ref l],[("start",.int 1 t)]⟩) (fun _ R s=>s.heap.get? l=some { cls:=.type "list",dict:=dct,data:=.seq items n,slots:=sl } /\
   R (.ok (.ret (.ref (s.heap.push { cls:=.type "list_iterator",data:=.fields #[.ref l,.int 0 0] }).objs.size)))
    { s with heap:=(s.heap.push { cls:=.type "list_iterator",data:=.fields #[.ref l,.int 0 0] }).push { cls:=.type "enumerate",data:=.fields #[.none,.bool false,.ref s.heap.objs.size,rawInt 1,.none,.none] } }):=
 .of_wp fun prog w A R s h=>by
  obtain⟨hp,g,d,tk,os⟩:=s;obtain⟨hl,h⟩:=h;have hsub:=sub_enumerate;have hL:Heap.IsList (Shared.heap ⟨hp,g,d,tk,os⟩) l items:=⟨_,hl,rfl,n,rfl⟩
  wp_walk using wpAny_loadPart' hl
  refine wpAny_stack_any fun st=>wpAny_pure ?_
  split
  ·rename_i c _ _ _ _ _
   cases (c==Value.type "enumerate")
   ·wp_walk using wpAny_loadPart' hl,wpAny_pyIter_list hL
    exact⟨_,rfl,h⟩
   ·wp_walk using wpAny_loadPart' hl,wpAny_pyIter_list hL
    exact⟨_,rfl,h⟩
  ·wp_walk using wpAny_loadPart' hl,wpAny_pyIter_list hL
   exact⟨_,rfl,h⟩
end
theorem Zky{M:Model}{A:Around}{E:vL->Sd->Prop}{s:Sd}{pos:Pos}{T:String}{args:Li (Bool×Sem vL)}{keywords:Li (Ot Str×Sem vL)}{Q:vL->Sd->Prop}(hplain:args.any (·.1)=false)(hkw:keywords.any (·.1.isNone)=false)(h:wpAny M A (evalArgs (.type T) true args keywords) (fun a t=>wpAny M A (call (.type T) a.pos a.kw) Q E t) E s):wpAny M A (callWith pos (.type T) [] args keywords) Q E s:=by
 unfold callWith;refine wpAny_bind (wpAny_holding (wpAny_mono h (fun a t h1=>wpAny_bind (wpAny_standAt ?_)) fun _ _ x=>x))
 simp only[hplain,hkw,Bool.or_false];exact wpAny_bind (wpAny_pure (wpAny_bind (wpAny_mono h1 (fun r u hr=>wpAny_bind (wpAny_holding (wpAny_point (wpAny_pure hr)))) fun _ _ x=>x)))
noncomputable def Ite(sq:Hp->Li V->Prop):It:=
 ⟨fun i H=>∃ xs x,sq H xs/\xs[i]?=some x,fun i H v H'=>∃ T x,v=.ref T/\H T=none/\H'=upd H T (.tup [.int ((i+1:Nat):Int),x])/\∀ xs,sq H xs->xs[i]?=some x,fun i H=>∃ xs,sq H xs/\xs.length=i⟩
noncomputable def ZhY(K:Fg)(te:TE):TI:=fun σ H R=>te σ H fun v H1=>∃ a,v=.ref a/\(∃ xs,SqL K H1 a xs)/\R (Ite fun H=>SqL K H a) H1
def shP(P:Nat->vL->Prop):Nat->vL->Prop
 |0,_=>False
 |k+1,v=>P k v
def shS(S:Nat->Heap->Prop):Nat->Heap->Prop
 |0,_=>False
 |k+1,h=>S k h
omit [ClsTab] in
theorem Jq{prog:Program}{w:World}{A:Around}{it:Ad}{fp:Li Ad}{n:Nat}{P:Nat->vL->Prop}{S:Nat->Heap->Prop}(D:Draws prog w A it fp n P S):Draws prog w A it fp (n+1) (shP P) (shS S) where
 live:=fun i h st=>by
  cases i with
  |zero=>exact st.elim
  |succ k=>exact D.live k h st
 frame:=fun i h h' st k=>by
  cases i with
  |zero=>exact st.elim
  |succ j=>exact D.frame j h h' st k
 item:=fun i s Q E hi st hQ=>by
  cases i with
  |zero=>exact st.elim
  |succ k=>exact D.item k s Q E (Nat.lt_of_succ_lt_succ hi) st fun x h' tk p q sb=>hQ x h' tk p q sb
 done:=fun s Q E st hE=>D.done s Q E st hE
theorem Zc1{P:Program}{w:World}{K:Fg}{elts:Li Expr}{kk:Nat}{pos:Pos}(e it a:Ad)(d:e≠it) :
  Turn P w K (.Tuple elts kk pos) (Ite fun H=>SqL K H a) [e,it] e (fun i h=>(∃ old,IsEnum h e it ((i+1:Nat):Int) old)/\h.IsListIter it a i) where
 mem:=by simp
 obj:=fun i h st c hc=>by
  obtain⟨⟨old,he⟩,⟨o,g,_,f⟩⟩:=st;simp only[List.mem_cons,List.not_mem_nil,or_false]at hc;rcases hc with rfl|rfl
  ·exact⟨_,he,fun v q=>by cases (show Data.fields _=Data.cell v from q)⟩
  ·exact⟨o,g,fun v q=>by rw[f]at q;cases q⟩
 keep:=fun i h h' st k=>by
  obtain⟨⟨old,he⟩,h1⟩:=st;exact⟨⟨old,k e (by simp) _ he⟩,h1.at fun o g=>k it (by simp) o g⟩
 item:=by
  intro X hP hw hK hc i pQ s σ H E I hf st hg;subst hP hw hK;obtain⟨xs,x,hs,ex⟩:=hg;obtain⟨its,r,p,_⟩:=I.list hs;have na:∀ {c},c∈[e,it]->a≠c:=fun m=>Zbp I (hf _ m) (ZaV hs)
  have D:=Jq (Draws.list (prog:=X.prog) (w:=X.w) (show X.A.in1.handled=none from I.ok.hd hc) it a (na (.tail _ (.head _))) its.toArray);have W:=WalksT.enumerateD D e d (by simp only[List.mem_cons,List.not_mem_nil,or_false];exact fun q=>q.elim d fun q=>na (.head _) q.symm) (by simp)
  have l1:=r.length;have ix:i < xs.length:=(List.getElem?_eq_some_iff.mp ex).1;refine W.item (i+1) s _ _ (by simp;omega) ⟨st.1,st.2,p.isList⟩ fun T vals h' tk hv hT tup mid k1=>?_
  obtain⟨t,u,eu,rfl⟩:=hv;refine⟨.ref T,rfl,W.go elts kk pos (i+1) T _ _ _ mid fun h2' st2 k2=>?_⟩
  have nT:=W.apart (i+1) T h' mid;have ru:RelV x u:=by
   obtain⟨u',e1,e2⟩:=r.get ex;have eu:its.toArray[i]?=some u:=eu;have:its[i]?=some u:=by simpa using eu
   rw[this]at e1;cases e1;exact e2
  have tup2:h2'.IsTuple T #[.int ((i+1:Nat):Int) t,u]:=tup.at fun o g=>k2 T o nT g
  have I2:L2.Inv X pQ σ (upd H T (.tup [.int ((i+1:Nat):Int),x])) { s with heap:=h2',toks:=tk }:=X6 (wr:=[e,it]) I hf (fun c o hcn g=>k2 c o hcn (k1 c o hcn g)) hT ⟨show 2<=sizeLine by decide,[.int ((i+1:Nat):Int) t,u],.cons ⟨t,rfl⟩ (.cons ru .nil),tup2⟩
  refine⟨.ref T,_,I2,rfl,⟨T,x,rfl,I.hok.fresh hT,rfl,fun xs' q=>by rw[ZbQ I hs q];exact ex⟩,⟨st2.1,st2.2.1⟩,fun c hcm=>?_⟩
  have:c≠T:=fun q=>by
   have lt:∀ {o},s.heap.get? c=some o->False:=fun g=>absurd (Heap.lt_size g) (Nat.not_lt.mpr (by rw[q];exact hT))
   obtain⟨⟨_,he⟩,⟨_,g,_⟩⟩:=st;simp only[List.mem_cons,List.not_mem_nil,or_false]at hcm;rcases hcm with rfl|rfl
   ·exact lt he
   ·exact lt g
  rw[upd_ne this];exact(hf c hcm).1
 done:=by
  intro X hP hw hK hc i pQ s σ H E I hf st hg;subst hP hw hK;obtain⟨xs,hs,hle⟩:=hg;obtain⟨its,r,p,_⟩:=I.list hs;have na:∀ {c},c∈[e,it]->a≠c:=fun m=>Zbp I (hf _ m) (ZaV hs)
  have D:=Jq (Draws.list (prog:=X.prog) (w:=X.w) (show X.A.in1.handled=none from I.ok.hd hc) it a (na (.tail _ (.head _))) its.toArray);have W:=WalksT.enumerateD D e d (by simp only[List.mem_cons,List.not_mem_nil,or_false];exact fun q=>q.elim d fun q=>na (.head _) q.symm) (by simp)
  have l1:=r.length;have e1:i=its.toArray.size:=by simp;omega
  subst e1;exact W.done s _ _ ⟨st.1,st.2,p.isList⟩ fun h' tk k=>⟨rfl,W6 (wr:=[e,it]) I hf k⟩
 self:=fun _ _ _ _ _ st h=>let ⟨⟨_,he⟩,_⟩:=st;wpAny_pyIter_enum he h
theorem ZfP:bootBuiltins "enumerate"=some (.type "enumerate"):=by decide +kernel
theorem Zg1{X:Cx}{elts:Li Expr}{kk:Nat}{tp:Pos}{x:Expr}{te:TE}{p pos kp cp:Pos}{ck:Nat}(hg:Gl X "enumerate")(hm:X.mg "enumerate"=none)(hp:Zm x=true)(he:PE X x te):PI X (.Tuple elts kk tp) (.Call (.Name "enumerate" p) [x] [⟨some "start",.Constant (.int 1) ck cp,kp⟩] pos) (ZhY X.K te):=by
 intro pQ s σ H R I h;have hs:starEach [x] X.env=[(false,eval x X.env)]:=Zf hp;refine wpAny_Call_Name_kw (ld_blt I hg hm ZfP (Zky (by rw[hs];rfl) rfl ?_))
 rw[hs];refine evalArgs_kwB rfl (Calls.spliced_cons (thn (he pQ s σ H _ I h) fun u s1 ⟨v,H1,I1,rv,a,ea,⟨xs,sq⟩,q⟩=>Calls.spliced_nil ?_))
 subst ea;cases (show u=Value.ref a from rv)
 refine kws_cons (thn (pe_int pQ s1 σ H1 (fun v H=>v=.int 1/\H=H1) I1 ⟨rfl,rfl⟩) fun u2 s2 ⟨v2,H2,I2,r2,e2,e3⟩=>kws_nil ?_)
 subst e2;subst e3
 obtain⟨t,rfl⟩:=r2;obtain⟨its,_,p1,_⟩:=I2.list sq;obtain⟨⟨c,dct,dt,sl⟩,hl,hc,n,hd⟩:=id p1.isList;replace hc:c=.type "list":=hc;replace hd:dt=.seq its.toArray n:=hd;subst hc hd;refine Zlm F.called_enumerate (by decide) rfl (ZhD _ _) (ZgM _ _) (fun obj=>ZfG obj _ _) F.entry_enumerate_new (JG a its.toArray n dct sl t) ⟨hl,?_⟩
 have z1:(s2.heap.push { cls:=.type "list_iterator",data:=.fields #[.ref a,.int 0 0] }).objs.size=s2.heap.objs.size+1:=Heap.size_push ..;generalize hg1:s2.heap.push { cls:=.type "list_iterator",data:=.fields #[.ref a,.int 0 0] }=g1 at z1 ⊢;generalize hg2:g1.push { cls:=.type "enumerate",data:=.fields #[.none,.bool false,.ref s2.heap.objs.size,rawInt 1,.none,.none] }=g2
 have q1:IsEnum g2 (s2.heap.objs.size+1) s2.heap.objs.size ((0+1:Nat):Int) .none:=by rw[<-hg2,<-z1];exact Heap.get?_push_size _ rfl
 have q0:g2.IsListIter s2.heap.objs.size a 0:=by
  refine⟨{ cls:=.type "list_iterator",data:=.fields #[.ref a,.int 0 0] },?_,rfl,rfl⟩;rw[<-hg2,<-hg1];exact Heap.get?_push_of_some _ (Heap.get?_push_size _ rfl)
 have k2:∀ b o,s2.heap.get? b=some o->g2.get? b=some o:=fun b o e=>by rw[<-hg2,<-hg1];exact Heap.get?_push_of_some _ (Heap.get?_push_of_some _ e)
 show _/\_;rw[z1];refine⟨⟨_,q1,rfl⟩,wpAny_pyIter_enum q1 ?_⟩;refine⟨s2.heap.objs.size+1,[s2.heap.objs.size+1,s2.heap.objs.size],_,_,H2,rfl,I2.kept (t':=s2.toks) k2,Zc1 _ _ a (Nat.succ_ne_self _),⟨⟨_,q1⟩,q0⟩,fun c hcm=>?_,q⟩
 have hc:s2.heap.objs.size<=c:=by
  simp only[List.mem_cons,List.not_mem_nil,or_false]at hcm;rcases hcm with rfl|rfl
  ·exact Nat.le_add_right _ _
  ·exact Nat.le_refl _
 exact I2.fpOk hc (I2.hok.fresh hc)
theorem UQ:∀ {xs:Li D}{k i:Nat}{x:D},xs[i]?=some x->(Wm k xs)[i]?=some (.int ((k+i:Nat):Int),x)
 |[],_,_,_,h=>nomatch h
 |x :: xs,k,0,_,h=>by cases h;rfl
 |x :: xs,k,i+1,y,h=>by
  show(Wm (k+1) xs)[i]?=_;rw[UQ (show xs[i]?=some y from h),show k+1+i=k+(i+1) by omega]
theorem WJ:∀ {xs:Li D}{k:Nat},(Wm k xs).length=xs.length
 |[],_=>rfl
 |x :: xs,k=>congrArg (·+1) WJ
theorem Zd2{K:Fg}{fi:Ev}{f:Ex}{i j:Nat}(E:Ends)(σ:L2.St)(H:Hp)(h:tS K (Ju i j fi f) E σ H):tFor (ZhY K (tE K fi)) (gTup K 2 (gCons (gName i) (gCons (gName j) gNil))) (tS K f) E σ H:=by
 obtain⟨ad,ρ,st,r,st',En,S,e,p⟩:=Yc h;unfold Ju at e;split at e
 ·rename_i x st1 q1
  split at e
  ·rename_i xs ok hw
   cases x with
   |lst l=>
    have hw:(match st1[l]? with
     |some c=>some (c.2,fun s=>s[l]?=some c)
     |none=>none)=some (xs,ok):=hw
    cases hc:st1[l]? with
    |none=>rw[hc]at hw;cases hw
    |some c=>
    rw[hc]at hw;cases hw;refine⟨ad,ρ,st,.lst l,st1,En,S,q1,fun v ad1 H1 x1 S1 d1=>?_⟩
    obtain⟨a,rfl,ha⟩:=d1.ofLst;obtain⟨vs,rv,sq⟩:=S1.list ha (show st1[l]?=some (c.1,c.2) from hc);refine⟨a,rfl,⟨vs,sq⟩,_,⟨_,.mk (Good:=fun ad H=>LA ad H l a) (Nat.zero_add _) (En.mono x1) S1 ha e (p.later x1)⟩,V9 (fun _ _ _ _ x g=>g.mono x) (fun ad H st g S o=>?_) fun k ad H st q g S o hq=>?_⟩
    ·obtain⟨vs,rv,sq⟩:=S.list g (show st[l]?=some (c.1,c.2) from o)
     exact⟨vs,sq,by rw[rv.length,WJ]⟩
    ·obtain⟨vs,rv,sq⟩:=S.list g (show st[l]?=some (c.1,c.2) from o)
     have hk:k < c.2.length:=by rw[<-WJ (k:=1)];exact(List.getElem?_eq_some_iff.mp hq).1
     have hg:=Lg hk;rw[UQ (k:=1) hg]at hq;cases hq;obtain⟨w,ew,dw⟩:=rv.get hg;exact⟨.int ((1+k:Nat):Int),w,⟨vs,w,sq,ew⟩,.int _,dw,fun x H' ⟨pt,y1,e1,e2,e3,hy⟩=>⟨pt,e1,e2,by have z:=hy vs sq;rw[ew]at z;cases z;rw[e3,Nat.add_comm]⟩⟩
   |_=>exact Zb hw
  ·exact Zb e
 ·exact Zb e
theorem Zao{X:Cx}{sc:Scope}{N:Li Str}{it e:Expr}(K:Cxt X G F sc N)(h:XR G sc it=some e):∃ p pos kp cp ck,it=.Call (.Name "enumerate" p) [e] [⟨some "start",.Constant (.int 1) ck cp,kp⟩] pos/\Gl X "enumerate"/\X.mg "enumerate"=none:=by
 unfold XR at h;split at h
 ·refine XA h fun hc h2=>?_
  obtain⟨rfl,rfl,hg,hb⟩:=hc;cases h2;refine⟨_,_,_,_,_,rfl,K.glb _ hg,?_⟩;unfold UV at hb;split at hb
  ·rename_i q;exact K.gl _ _ q
  ·cases hb
 ·exact Zb h
theorem UI{X:Cx}{sc:Scope}{N:Li Str}{it:Expr}{as:Li Expr}(K:Cxt X G F sc N)(h:Wz G sc it=some as):∃ p pos a b,it=.Call (.Name "zip" p) [a,b] [] pos/\as=[a,b]/\Gl X "zip"/\X.mg "zip"=none:=by
 obtain⟨bs,h1,h2⟩:=Option.bind_eq_some_iff.mp h;obtain⟨p,pos,rfl,hg,hm⟩:=Qy K h1;refine XA h2 fun hl h3=>?_
 cases h3;cases as with
 |nil=>cases hl
 |cons a as=>cases as with
  |nil=>cases hl
  |cons b as=>cases as with
   |nil=>exact⟨p,pos,_,_,rfl,rfl,hg,hm⟩
   |cons _ _=>cases hl
theorem Zhw{n i j:Nat}(ihA:YX G F n)(ihS:Z1 G F n){X:Cx}{sc:Scope}{N:Li Str}(K:CxtS X G F sc N){c:CS}{x y:Str}{it:Expr}{as:Li Expr}{b:Li Stmt}{p p2 pos tp:Pos}{ctx:Nat}(hi:N.idxOf? x=some i)(hj:N.idxOf? y=some j)(hz:Wz G sc it=some as)(h:o2 (CS.forP i j) (cEs G n sc N as) (cSs G n sc N b)=some c):PS X (.For (.Tuple [.Name x p,.Name y p2] ctx tp) it b [] pos) (tS X.K (ex F c)):=by
 refine Z6 (P:=fun c=>PS X _ (tS X.K (ex F c))) h fun ci cb hc hb=>?_
 obtain⟨p1,p3,a,b',rfl,rfl,hg,hm⟩:=UI K.toCxt hz;obtain⟨A,_,pl,_⟩:=ihA X sc N K.toCxt _ ci hc;exact ZU (ps_for (Wg K) K.calm (ZeN hg hm A pl) (pg_tup K.calm (pgs_cons (XF K hi) (pgs_cons (XF K hj) pgs_nil))) (ihS X sc N K _ cb hb) (Z2 rfl)) Zd4
theorem Zhv{n i j:Nat}(ihE:ZC G F n)(ihS:Z1 G F n){X:Cx}{sc:Scope}{N:Li Str}(K:CxtS X G F sc N){c:CS}{x y:Str}{it e:Expr}{b:Li Stmt}{p p2 pos tp:Pos}{ctx:Nat}(hi:N.idxOf? x=some i)(hj:N.idxOf? y=some j)(hz:XR G sc it=some e)(h:o2 (CS.forE i j) (cE G n sc N e) (cSs G n sc N b)=some c):PS X (.For (.Tuple [.Name x p,.Name y p2] ctx tp) it b [] pos) (tS X.K (ex F c)):=by
 refine Z6 (P:=fun c=>PS X _ (tS X.K (ex F c))) h fun ci cb hc hb=>?_
 obtain⟨p3,p4,p5,p6,ck,rfl,hg,hm⟩:=Zao K.toCxt hz;exact ZU (ps_for (Wg K) K.calm (Zg1 hg hm (Zh hc) (ihE X sc N K.toCxt _ ci hc).pe) (pg_tup K.calm (pgs_cons (XF K hi) (pgs_cons (XF K hj) pgs_nil))) (ihS X sc N K _ cb hb) (Z2 rfl)) Zd2
theorem Zht{n:Nat}(ihE:ZC G F n)(ihS:Z1 G F n){X:Cx}{sc:Scope}{N:Li Str}(K:CxtS X G F sc N){c:CS}{x y z:Str}{it:Expr}{b:Li Stmt}{p p2 p3 pos tp:Pos}{ctx:Nat}(h:o3 (fun(p:Nat×Nat) (q:Nat×CE) b=>CS.for4 p.1 p.2 q.1 q.2 b) (o2 Prod.mk (N.idxOf? x) (N.idxOf? y)) (o2 Prod.mk (N.idxOf? z) (cE G n sc N it)) (cSs G n sc N b)=some c):PS X (.For (.Tuple [.Name x p,.Name y p2,.Name z p3] ctx tp) it b [] pos) (tS X.K (ex F c)):=
 QU (P:=fun c=>PS X _ (tS X.K (ex F c))) h fun u v cb hu hv hb=>Z6 (P:=fun u:Nat×Nat=>PS X _ (tS X.K (ex F (.for4 u.1 u.2 v.1 v.2 cb)))) hu fun i j hi hj=>Z6 (P:=fun v:Nat×CE=>PS X _ (tS X.K (ex F (.for4 i j v.1 v.2 cb)))) hv fun l ci hl hc=>
  fun pQ s σ H D I q=>by
   obtain⟨_,_,_,_,_,_,_,e,_⟩:=Yc q;cases e
theorem Zhr{n i j:Nat}(ihE:ZC G F n)(ihS:Z1 G F n){X:Cx}{sc:Scope}{N:Li Str}(K:CxtS X G F sc N){c:CS}{x y:Str}{it:Expr}{b:Li Stmt}{p p2 pos tp:Pos}{ctx:Nat}(hi:N.idxOf? x=some i)(hj:N.idxOf? y=some j)(h:o2 (CS.for2 i j) (cE G n sc N it) (cSs G n sc N b)=some c):PS X (.For (.Tuple [.Name x p,.Name y p2] ctx tp) it b [] pos) (tS X.K (ex F c)):=by
 refine Z6 (P:=fun c=>PS X _ (tS X.K (ex F c))) h fun ci cb hc hb=>?_
 have A:=(ihE X sc N K.toCxt _ ci hc).pe;have hf:=Z2 (env:=X.env) (Zh hc);exact ZU (Zh9 (ps_for (Wg K) K.calm (pi_tup A) (pg_tup K.calm (pgs_cons (XF K hi) (pgs_cons (XF K hj) pgs_nil))) (ihS X sc N K _ cb hb) hf) (ps_for (Wg K) K.calm (pi_list A) (pg_tup K.calm (pgs_cons (XF K hi) (pgs_cons (XF K hj) pgs_nil))) (ihS X sc N K _ cb hb) hf)) Zd1
theorem ZjP{n:Nat}(ihE:ZC G F n){X:Cx}{sc:Scope}{N:Li Str}(K:CxtS X G F sc N){c:CS}{x m:Str}{e:Expr}{p ap cp pos:Pos}(h:Ziw sc N x m ap cp (cE G n sc N e)=some c):PS X (.Expr (.Call (.Attribute (.Name x p) m ap) [e] [] cp) pos) (tS X.K (ex F c)):=by
 refine XA h fun hc h=>?_
 by_cases e1:m = "append"
 ·subst e1
  rw[if_pos rfl]at h;exact Z6 (P:=fun c=>PS X _ (tS X.K (ex F c))) h fun i y hi hx=>ZU (ps_expr (pe_bm PySem.F.plainAttrs_list PySem.F.slot_list_append PySem.F.type_list_append mt_append (ZeJ K.toCxt hc.1 hi) (pa1 (Zh hx) (ihE X sc N K.toCxt _ y hx).pe) rfl (by rw[Zf (Zh hx)];rfl) hc.2 (Zf (Zh hx)) rfl) rfl) Zgj
 ·rw[if_neg e1]at h
  by_cases e2:m = "extend"
  ·subst e2
   rw[if_pos rfl]at h;exact Z6 (P:=fun c=>PS X _ (tS X.K (ex F c))) h fun i y hi hx=>ZU (ps_expr (pe_bm PySem.F.plainAttrs_list PySem.F.slot_list_extend PySem.F.type_list_extend mt_extend (ZeJ K.toCxt hc.1 hi) (pa1 (Zh hx) (ihE X sc N K.toCxt _ y hx).pe) rfl (by rw[Zf (Zh hx)];rfl) hc.2 (Zf (Zh hx)) rfl) rfl) Zgl
  ·rw[if_neg e2]at h;cases h
theorem Zho{n:Nat}(ihE:ZC G F n)(hA:Vw G F n){X:Cx}{sc:Scope}{N:Li Str}(K:CxtS X G F sc N){c:CS}{tg e:Expr}{pos:Pos}(h:Zko N tg e (cE G n sc N e)=some c):PS X (.Assign [tg] e pos) (tS X.K (ex F c)):=by
 have no:∀ {P:Prop},(none:Ot CS)=some c->P:=fun z=>nomatch z
 cases tg with
 |Name x p=>exact ZjQ ihE hA K h
 |_=>exact no h
theorem Zhu{n:Nat}(ihE:ZC G F n)(ihA:YX G F n)(ihS:Z1 G F n){X:Cx}{sc:Scope}{N:Li Str}(K:CxtS X G F sc N){c:CS}{tg it:Expr}{b:Li Stmt}{pos:Pos}(h:ZiY G sc N (cE G n sc N) (cEs G n sc N) tg it (cSs G n sc N b)=some c):PS X (.For tg it b [] pos) (tS X.K (ex F c)):=by
 have no:∀ {P:Prop},(none:Ot CS)=some c->P:=fun z=>nomatch z
 cases tg with
 |Name x p=>
  unfold ZiY at h;cases hr:WS G sc it with
  |some as=>
   rw[hr]at h;exact Zhs ihA ihS K hr h
  |none=>
   rw[hr]at h;exact Zhq ihE ihS K h
 |Tuple es ctx tp=>cases es with
  |nil=>exact no h
  |cons a es=>cases a with
   |Name x p=>cases es with
    |nil=>exact no h
    |cons b2 es=>cases b2 with
     |Name y p2=>cases es with
      |nil=>
       replace h:((o2 (fun i j=>og (i≠j) (some (i,j))) (N.idxOf? x) (N.idxOf? y)).join.bind fun p=>(match Wz G sc it with
        |some as=>o2 (CS.forP p.1 p.2) (cEs G n sc N as) (cSs G n sc N b)
        |none=>match XR G sc it with
         |some e=>o2 (CS.forE p.1 p.2) (cE G n sc N e) (cSs G n sc N b)
         |none=>o2 (CS.for2 p.1 p.2) (cE G n sc N it) (cSs G n sc N b)))=some c:=h
       refine b_e h fun q hq h=>j_e hq fun hq=>Z6 (P:=fun o=>o=some q->PS X _ (tS X.K (ex F c))) hq (fun i j hi hj e=>XA e fun _ e=>?_) rfl
       cases e;cases hz:Wz G sc it with
       |some as=>
        rw[hz]at h;exact Zhw ihA ihS K hi hj hz h
       |none=>
        rw[hz]at h;dsimp only at h;cases he:XR G sc it with
        |some e=>
         rw[he]at h;exact Zhv ihE ihS K hi hj he h
        |none=>
         rw[he]at h;exact Zhr ihE ihS K hi hj h
      |cons c2 es=>cases c2 with
       |Name _ _=>cases es with
        |nil=>exact Zht ihE ihS K h
        |cons _ _=>exact no h
       |_=>exact no h
     |_=>exact no h
   |_=>exact no h
 |_=>exact no h
theorem Zhn{n:Nat}(ihE:ZC G F n){X:Cx}{sc:Scope}{N:Li Str}(K:CxtS X G F sc N){c:CS}{m k:Str}{o e:Expr}{p ap cp pos:Pos}(h:og (m = "append"/\(ap.endLine==cp.line)=true) (o2 CS.app2 (cE G n sc N (.Attribute o k p)) (cE G n sc N e))=some c):PS X (.Expr (.Call (.Attribute (.Attribute o k p) m ap) [e] [] cp) pos) (tS X.K (ex F c)):=by
 refine XA h fun hc h'=>?_
 obtain⟨e1,hl⟩:=hc;subst e1;exact Z6 (P:=fun c=>PS X _ (tS X.K (ex F c))) h' fun z y hz hx=>ZU (ps_expr (pe_bm PySem.F.plainAttrs_list PySem.F.slot_list_append PySem.F.type_list_append mt_append (ihE X sc N K.toCxt _ z hz).pe (pa1 (Zh hx) (ihE X sc N K.toCxt _ y hx).pe) rfl (by rw[Zf (Zh hx)];rfl) hl (Zf (Zh hx)) rfl) rfl) ZdX
theorem Zhm{n:Nat}(ihE:ZC G F n){X:Cx}{sc:Scope}{N:Li Str}(K:CxtS X G F sc N){c:CS}{v:Expr}{pos:Pos}(h:Zkm sc N (cE G n sc N) v=some c):PS X (.Expr v pos) (tS X.K (ex F c)):=by
 have no:∀ {P:Prop},(none:Ot CS)=some c->P:=fun z=>nomatch z
 cases v with
 |Call f as kw cp=>cases f with
  |Attribute o m ap=>cases o with
   |Name x p=>
    replace h:(if m = "append"\/m = "extend" then (match (generalizing:=false) as,kw with
     |[e],[]=>Ziw sc N x m ap cp (cE G n sc N e)
     |_,_=>none) else (cE G n sc N (.Call (.Attribute (.Name x p) m ap) as kw cp)).map CS.act)=some c:=h
    split at h
    ·split at h
     ·exact ZjP ihE K h
     ·exact no h
    ·obtain⟨ce,hx,rfl⟩:=Option.map_eq_some_iff.mp h
     exact ZU (ps_expr (ihE X sc N K.toCxt _ ce hx).pe rfl) Zbs
   |Attribute o k p=>cases as with
    |nil=>exact no h
    |cons e es=>cases es with
     |nil=>cases kw with
      |nil=>exact Zhn ihE K h
      |cons _ _=>exact no h
     |cons _ _=>exact no h
   |_=>exact no h
  |Name f fp=>exact ZjO ihE K h
  |_=>exact no h
 |_=>exact no h
theorem J0{n:Nat}(ihE:ZC G F n)(ihA:YX G F n)(ihS:Z1 G F n)(hA:Vw G F n):Zae G F (n+1):=by
 intro X sc N K s c h;have no:∀ {P:Prop},(none:Ot CS)=some c->P:=fun z=>nomatch z
 cases s with
 |Assign tgs e pos=>cases tgs with
  |nil=>exact no h
  |cons t ts=>cases ts with
   |cons _ _=>cases t with
    |Attribute o k p=>cases o<;>exact no h
    |_=>exact no h
   |nil=>cases t with
    |Subscript o k p=>exact Zhp ihE K h
    |Attribute o k p=>cases o with
     |Name x q=>exact Zhx ihE K h
     |_=>exact no h
    |_=>exact Zho ihE hA K h
 |Try b hs oe fb pos=>cases hs with
  |nil=>exact no h
  |cons h0 hs=>cases oe with
   |cons _ _=>exact no h
   |nil=>cases fb with
    |cons _ _=>exact no h
    |nil=>exact ZjS ihS K h
 |Return e pos=>cases e with
  |none=>exact no h
  |some e=>exact ZjR ihE K h
 |If e a b pos=>exact Zlf ihE ihS K h
 |For t it b oe pos=>cases oe with
  |cons _ _=>exact no h
  |nil=>exact Zhu ihE ihA ihS K h
 |Expr v pos=>exact Zhm ihE K h
 |Pass pos=>
  cases (show some CS.skip=some c from h)
  exact ZU ps_pass JB
 |Break pos=>
  cases (show some CS.brk=some c from h)
  exact ZU ps_break Zgk
 |Raise a b pos=>
  cases (show some CS.stop=some c from h)
  exact fun pQ s σ H D I q=>by
   obtain⟨_,_,_,_,_,_,_,e,_⟩:=Yc q;cases e
 |Continue pos=>
  cases (show some CS.cont=some c from h)
  exact ZU ps_continue ZdY
 |_=>exact no h
theorem Q5{n:Nat}(ihS:Zae G F n)(ihSs:Z1 G F n):Z1 G F (n+1):=by
 intro X sc N K s c h;cases s with
 |nil=>
  simp only[cSs]at h;cases h;exact ZbL pss_nil JB
 |cons s r=>
  exact Z6 (P:=fun c=>PSs X _ (tS X.K (ex F c))) (show o2 CS.seq (cS G n sc N s) (cSs G n sc N r)=some c from h) fun a b ha hb=>ZbL (pss_cons (ihS X sc N K s a ha) (ihSs X sc N K r b hb)) Zgv
end
end Dp



namespace Dp
open PySem PySem.Spec PyProof.Rows L2
variable [ClsTab]
def Xm(G:Gs)(F:Nat->Fn):Prop:=∀ n,ZC G F n->(∀ X sc N,Cxt X G F sc N->∀ elt gens sc2 pos c,cE G (n+1) sc N (.ListComp elt gens sc2 pos)=some c->SE X F (.ListComp elt gens sc2 pos) c)/\Vw G F (n+1)
theorem Qa{G:Gs}{F:Nat->Fn}(hc:Xm G F):∀ n,(ZC G F n/\YX G F n/\Qj G F n)/\Zae G F n/\Z1 G F n/\Vw G F n
 |0=>⟨⟨fun X sc N K e c h=>(nomatch (show(none:Ot CE)=some c from h)),fun X sc N K e c h=>(nomatch (show(none:Ot CE)=some c from h)),fun X sc N K e c h=>(nomatch (show(none:Ot CE)=some c from h))⟩,fun X sc N K e c h=>(nomatch (show(none:Ot CS)=some c from h)),fun X sc N K e c h=>(nomatch (show(none:Ot CS)=some c from h)),fun X sc N K x i p elt gens sc2 epos pos c _ h=>(nomatch (show(none:Ot CE)=some c from h))⟩
 |n+1=>by
  obtain⟨⟨hE,hA,hO⟩,hS,hSs,hCA⟩:=Qa hc n;exact⟨⟨ZaU hE hA hO (hc n hE).1,JY hE hA,JZ hE⟩,J0 hE hA hSs hCA,Q5 hS hSs,(hc n hE).2⟩
def Zb0(K:Fg)(G:Gs)(T:Nat->Ot FD)(x y:Str)(i:Nat)(f:Ad)(fd:FuncData)(pn N:Li Str):Prop:=∃ (st:Stmt) (oc:vL) (od:Ot Ad) (dV kV doc pm:vL) (an:Ot Ad) (cdv ct:vL) (osl:Array (Ot vL)) (code:CS),
  fd=PySem.W.fnOf x y (defArgs st) (defBody st) (defScope st) dV kV doc pm an cdv ct/\K.lookup f=some ⟨oc,od,.func fd,osl⟩/\PySem.W.codeIn K cdv y=true/\FnScope N pn (defScope st)/\(∀ y∈N,Loc (defScope st) y) /\
  cSs G 60 (defScope st) N (defBody st)=some code/\T i=some ⟨pn.length,N.length,code⟩
def Zfw(K:Fg)(mg:Str->Ot vL)(G:Gs)(T:Nat->Ot FD)(i:Nat)(f:Ad)(fd:FuncData)(pn:Li Str):Prop:=∀ (P:Program) (w:World) (base:Heap) (n:Nat),(∀ m,m<=n->∀ A,Room (2 * m+1) A->∀ y g,G.lookup y=some g->GOk P w K mg base A (run T m) y g)->FnOk P w K mg base CX0 (2 * (n+1)) f fd pn (spD K (run T (n+1) i))
structure DefOk(K:Fg)(mg:Str->Option Value)(G:Gs)(T:Nat->Option FD)(x:Str)(i:Nat)(ds:List D)(f:Addr)(fd:FuncData)(pn N:List Str):Prop where
 ob:Zb0 K G T x x i f fd pn N\/Zfw K mg G T i f fd pn
 kp:PySem.W.keepIn K (.ref f)=true
 at_:mg x=some (.ref f)
 bn:∀ m,m<=ds.length->∃ dvs us,(∀ ad H,Dens K ad H dvs (ds.drop m))/\Vals dvs us/\Binds K fd pn us
structure MethOk(K:Fg)(G:Gs)(T:Nat->Option FD)(C:Addr)(x y:Str)(i:Nat)(f:Addr)(fd:FuncData)(pn N:List Str):Prop where
 ob:Zb0 K G T x y i f fd pn N
 mt:Meth K C x f
 bn:Binds K fd pn []
structure Text(Pm:Params)(K:Fg)(mg:Str->Option Value)(G:Gs)(T:Nat->Option FD):Prop where
 cst:∀ x d,G.lookup x=some (.cst d)->∃ v u,mg x=some u/\RelV v u/\∀ ad H,Den K ad H v d
 blt:∀ x,G.lookup x=some .blt->mg x=none
 dct:∀ x ks ds,G.lookup x=some (.dct ks ds)->Za4 Pm K mg x ks ds
 fn:∀ x i ps ds,G.lookup x=some (.fn i ps ds)->∃ f fd pn N,DefOk K mg G T x i ds f fd pn N
 cls:∀ x i ms subs,G.lookup x=some (.cls i ms subs)->(mg x=some (.ref (ClsTab.ca i))/\NewOk K (ClsTab.ca i)) /\
  ∀ m j ps,ms.lookup m=some (j,ps)->∃ y f fd pn N,MethOk K G T (ClsTab.ca i) m y j f fd pn N
section
variable {P:Program}{w:World}{K:Fg}{mg:Str->Ot vL}{base:Heap}{G:Gs}{T:Nat->Ot FD}
theorem Zfn{sc:Scope}{x:Str}(h:X7 sc x=true):Vis sc x:=by
 unfold X7 at h;rw[Ba]at h;have h:=h.2;split at h
 ·rename_i q;exact .inl q
 ·rename_i q;exact .inr (.inl q)
 ·rename_i q;exact .inr (.inr q)
 ·cases h
theorem Zbq{sc:Scope}{x:Str}(h:ZO sc x=true):sc.names.lookup x=some .globalImplicit:=by
 unfold ZO at h;rw[Ba]at h;have h:=h.2;split at h
 ·rename_i q;exact q
 ·cases h
theorem Zbf{sc:Scope}{x:Str}(h:VZ sc x=true):sc.names.lookup x=some .cell\/sc.names.lookup x=some .free:=by
 unfold VZ at h;split at h
 ·rename_i q;exact .inl q
 ·rename_i q;exact .inr q
 ·cases h
theorem Zcs{K:Fg}{ad:Li Ad}{H:Hp}{N:Li Str}{vs:Li V}{ds:Li D}(h:Dens K ad H vs ds)(hl:ds.length<=N.length):EnvOk K ad H (L2.start N vs) (ds.map some++List.replicate (N.length - ds.length) none):=by
 have e:=h.length;refine⟨by unfold L2.start;simp[e],fun i d q=>?_⟩
 by_cases hi:i < ds.length
 ·rw[List.getElem?_append_left (by simpa using hi),List.getElem?_map,Lg hi]at q
  have q':ds[i]=d:=by simpa using q
  have g:ds[i]?=some d:=by rw[Lg hi,q']
  obtain⟨v,e1,e2⟩:=h.get g;refine⟨v,?_,e2⟩;unfold L2.start;rw[List.getElem?_append_left (by simpa[e] using hi),List.getElem?_map,e1]
  rfl
 ·rw[List.getElem?_append_right (by simpa using hi),List.getElem?_replicate]at q
  split at q<;>cases q
theorem Zjn{n:Nat}(hc:∀ n,Xm G (run T n))(gl:∀ A,Room (2 * n+1) A->∀ y g,G.lookup y=some g->GOk P w K mg base A (run T n) y g){x y:Str}{i:Nat}{f:Ad}{fd:FuncData}{pn N:Li Str}(ob:Zb0 K G T x y i f fd pn N):FnOk P w K mg base CX0 (2 * (n+1)) f fd pn (spD K (run T (n+1) i)):=by
 obtain⟨st,oc,od,dV,kV,doc,pm,an,cdv,ct,osl,code,rfl,lk,hcd,S,hloc,hcode,hT⟩:=ob;have hrun:run T (n+1) i=fnD (run T n) ⟨pn.length,N.length,code⟩:=by
  show(match T i with|some f=>fnD (run T n) f|none=>fun _ _=>none)=_
  rw[hT]
 refine fn_of (k:=2 * n+1) lk hcd S (fun vs H Q E h=>?_) (fun A outer s H vs Q E hr h=>?_)
 ·obtain⟨ad,es,st,d,st',_,hd,e,_⟩:=h
  rw[hrun]at e;unfold fnD at e;split at e
  ·rename_i hl
   rw[hd.length];exact hl
  ·exact Zb e
 ·obtain⟨ad,es,s0,d,st',S0,hd,e,p⟩:=h
  rw[hrun]at e;unfold fnD at e;split at e
  ·rename_i hl
   have C:CxtS (cxOf CX0 P w K mg base N y (defScope st) f cdv A outer s H E).nox G (run T n) (defScope st) N:={
    hN:=rfl
    vis:=fun y hy=>Zfn hy
    glb:=fun y hy=>Zbq hy
    calm:=rfl
    hu:=hr.units
    gl:=gl _ hr
    cel:=fun y hy=>Zbf hy
    nx:=rfl
    nd:=S.nd
    loc:=hloc
    fn:=fun _=>rfl }
   have B:=(Qa (hc n) 60).2.2.1 _ _ _ C _ _ hcode;have hpl:pn.length<=N.length:=by have:=congrArg List.length S.pre;rw[List.length_take]at this;omega
   have E0':=Zcs (N:=N) hd (by rw[show es.length=pn.length from hl];exact hpl)
   refine⟨_,B.nox,?_⟩;split at e
   ·rename_i d' st1 q
    cases e;exact Yi E0' S0 q p
   ·rename_i ρ st1 q
    cases e;exact Yi E0' S0 q fun σ1 ad1 H1 x1 S1 E1=>(p.later x1).at S1 .non
   ·exact Zb e
  ·exact Zb e
theorem ZhI{i:Nat}{f:Ad}{fd:FuncData}{pn:Li Str}:FnOk P w K mg base CX0 0 f fd pn (spD K (run T 0 i)):=by
 refine⟨fun vs H Q E h=>?_,fun A outer s H args us vs Q E _ _ _ _ h=>?_⟩
 ·obtain⟨_,_,_,_,_,_,_,e,_⟩:=h;cases e
 ·obtain⟨_,_,_,_,_,_,_,e,_⟩:=h;cases e
theorem ZhX{n:Nat}(X:Text w.params K mg G T)(F1:∀ {x y:Str}{i:Nat}{f:Ad}{fd:FuncData}{pn N:Li Str},Zb0 K G T x y i f fd pn N\/Zfw K mg G T i f fd pn->FnOk P w K mg base CX0 (2 * n) f fd pn (spD K (run T n i)))(A:Around)(hr:Room (2 * n+1) A):∀ y g,G.lookup y=some g->GOk P w K mg base A (run T n) y g:=fun y g hg=>by
 cases g with
 |cst d=>exact X.cst y d hg
 |blt=>exact X.blt y hg
 |dct ks ds=>exact X.dct y ks ds hg
 |fn j qs es=>
  obtain⟨f,fd,pn,N,Dk⟩:=X.fn y j qs es hg;exact⟨2 * n,f,fd,pn,F1 Dk.ob,hr.mono (Nat.le_succ _),Dk.at_,Dk.kp,Dk.bn⟩
 |cls i ms subs=>
  obtain⟨⟨h1,h2⟩,h4⟩:=X.cls y i ms subs hg;refine⟨h1,h2,fun m j ps hm=>?_⟩
  obtain⟨z,f,fd,pn,N,Mk⟩:=h4 m j ps hm;exact⟨2 * n,f,fd,pn,F1 (.inl Mk.ob),hr,Mk.mt,Mk.bn⟩
theorem Zaf(hc:∀ n,Xm G (run T n))(X:Text w.params K mg G T):∀ (n m:Nat),m<=n->∀ {x y:Str}{i:Nat}{f:Ad}{fd:FuncData}{pn N:Li Str},Zb0 K G T x y i f fd pn N\/Zfw K mg G T i f fd pn->FnOk P w K mg base CX0 (2 * m) f fd pn (spD K (run T m i))
 |n,0,_,_,_,_,_,_,_,_,_=>ZhI
 |n+1,m+1,h,_,_,_,_,_,_,_,.inl ob=>Zjn hc (fun A hr=>ZhX X (fun ob=>Zaf hc X n m (Nat.le_of_succ_le_succ h) ob) A hr) ob
 |n+1,m+1,h,_,_,_,_,_,_,_,.inr hd=>hd P w base m fun l hl A hr=>ZhX X (fun ob=>Zaf hc X n l (Nat.le_trans hl (Nat.le_of_succ_le_succ h)) ob) A hr
theorem Ziu(hc:∀ n,Xm G (run T n))(X:Text w.params K mg G T)(n:Nat){x y:Str}{i:Nat}{f:Ad}{fd:FuncData}{pn N:Li Str}(h:Zb0 K G T x y i f fd pn N\/Zfw K mg G T i f fd pn):FnOk P w K mg base CX0 (2 * n) f fd pn (spD K (run T n i)):=Zaf hc X n n (Nat.le_refl _) h
end
end Dp



namespace Dp
open PySem PySem.Spec PyProof.Rows L2
variable [ClsTab]
section
variable {ad:Li Ad}{H:Hp}{p:Ad}{xs ys:Li V}
theorem QM(hp:H p=some (.lst xs)){a:Ad}:Yr H a↔Yr (upd H p (.lst ys)) a:=Za1 (QR hp rfl) rfl
theorem Zay{K:Fg}(hp:H p=some (.lst xs)):Keeps K ad ad H (upd H p (.lst ys)):=⟨fun h=>h.upd hp (by intro xs z;cases z),fun h=>⟨h,QM hp⟩,fun h n=>⟨by rw[upd_ne (ne_of h hp (by intro z;cases z))];exact h,n⟩⟩
theorem Den.wr{K:Fg}(hp:H p=some (.lst xs)){v:V}{d:D}(h:Den K ad H v d):Den K ad (upd H p (.lst ys)) v d:=h.map (Zay hp)
theorem Dens.wr{K:Fg}(hp:H p=some (.lst xs)){vs:Li V}{ds:Li D}(h:Dens K ad H vs ds):Dens K ad (upd H p (.lst ys)) vs ds:=h.map (Zay hp)
theorem EnvOk.wr{K:Fg}{σ:L2.St}{ρ:Env}(hp:H p=some (.lst xs))(h:EnvOk K ad H σ ρ):EnvOk K ad (upd H p (.lst ys)) σ ρ:=⟨h.len,fun i d e=>let ⟨v,e1,e2⟩:=h.at_ i d e;⟨v,e1,e2.wr hp⟩⟩
theorem StOk.wr{K:Fg}{st:Za}(S:StOk K ad H st)(hp:H p=some (.lst xs))(hn:p∉ad):StOk K ad (upd H p (.lst ys)) st:=
 S.wrG (Zay hp) hn
theorem Ext.wr{ad0:Li Ad}{H0:Hp}(x:Ext ad0 H0 ad H)(hp:H p=some (.lst xs))(h0:H0 p=none):Ext ad0 H0 ad (upd H p (.lst ys)):=by
 refine⟨x.pre,fun b zs h=>?_,fun b o h n=>?_,x.new,fun i a h=>(x.kd i a h).trans (QM hp)⟩
 ·rw[upd_ne (ne_of_none h h0)];exact x.tup b zs h
 ·rw[upd_ne (ne_of_none h h0)];exact x.keep b o h n
end
theorem V8{c:Str->NameKind->Bool}:∀ {l:Li (Str×NameKind)}{y:Str},(l.map fun(n,k)=>if c n k=true then (n,NameKind.cell) else (n,k)).lookup y=(l.lookup y).map fun k=>if c y k=true then NameKind.cell else k
 |[],_=>rfl
 | (n,k) :: r,y=>by
  have ih:=@V8 c r y;rw[List.map_cons];have e:(if c n k=true then (n,NameKind.cell) else (n,k))=(n,if c n k=true then NameKind.cell else k):=by split<;>rfl
  show List.lookup y ((if c n k=true then (n,NameKind.cell) else (n,k)) :: _)=_
  rw[e,List.lookup_cons,List.lookup_cons];cases q:y==n with
  |true=>rw[beq_iff_eq.mp q];rfl
  |false=>exact ih
theorem YR{sc:Scope}{env:PySem.Env}{y:Str}:(relabel sc env).names.lookup y=(sc.names.lookup y).map fun k=>if (k==NameKind.free&&env.scope.kind==.function&&env.kindOf y==some .cell)=true then NameKind.cell else k:=
 V8 (c:=fun n k=>k==NameKind.free&&env.scope.kind==.function&&env.kindOf n==some .cell)
theorem Y2{sc:Scope}{env:PySem.Env}{y:Str}{k:NameKind}(h:sc.names.lookup y=some k)(hk:k≠.free):(relabel sc env).names.lookup y=some k:=by
 rw[YR,h];have:(k==NameKind.free)=false:=by simpa using hk
 show some (if (k==NameKind.free&&_&&_)=true then NameKind.cell else k)=some k
 rw[this,Bool.false_and,Bool.false_and,if_neg Bf]
theorem Xg{sc:Scope}{env:PySem.Env}{y:Str}(h:sc.names.lookup y=some .free):(relabel sc env).names.lookup y=some .cell\/(relabel sc env).names.lookup y=some .free:=by
 rw[YR,h];show(some (if _ then NameKind.cell else NameKind.free))=_\/(some (if _ then NameKind.cell else NameKind.free))=_
 split
 ·exact .inl rfl
 ·exact .inr rfl
theorem Q0{sc:Scope}{env:PySem.Env}{y:Str}(hc:∀ p∈sc.names,p.2≠.cell)(h:(relabel sc env).names.lookup y=some .cell\/(relabel sc env).names.lookup y=some .free):sc.names.lookup y=some .free:=by
 rw[YR]at h;cases q:sc.names.lookup y with
 |none=>rw[q]at h;rcases h with h|h<;>cases h
 |some k=>
  rw[q]at h;cases k with
  |free=>rfl
  |cell=>
   have:∀ {l:Li (Str×NameKind)},l.lookup y=some .cell->∃ p∈l,p.2=.cell:=fun {l} e=>by
    induction l with
    |nil=>exact Zb e
    |cons a l ih=>
     obtain⟨n,k⟩:=a;rw[List.lookup_cons]at e;split at e
     ·cases e;exact⟨_,Ls,rfl⟩
     ·obtain⟨p,hp,e'⟩:=ih e;exact⟨p,Lm _ hp,e'⟩
   obtain⟨p,hp,e⟩:=this q;exact absurd e (hc p hp)
  |_=>rcases h with h|h<;>simp at h
theorem Wa{env:PySem.Env}:∀ (l:Li (Str×NameKind)) (acc:Li (Str×Ad)),(∀ p∈l,p.2=.free->∃ c,env.cells.lookup p.1=some c)->
  ∃ cl,(forIn l acc fun(x:Str×NameKind) (r:Li (Str×Ad))=>(do
   if (x.2==NameKind.free)=true then
    let a <-cellOf env x.1
    pure (ForInStep.yield ((x.1,a) :: r))
   else pure (ForInStep.yield r):Sem (ForInStep (Li (Str×Ad)))))=pure cl /\
   (∀ y c,cl.lookup y=some c->acc.lookup y=some c\/((y,NameKind.free)∈l/\env.cells.lookup y=some c))/\(∀ y,(y,NameKind.free)∈l\/(acc.lookup y).isSome->(cl.lookup y).isSome)
 |[],acc,_=>⟨acc,by simp only[List.forIn_nil],fun y c h=>.inl h,fun y h=>by simpa using h⟩
 | (n,k) :: l,acc,h=>by
  by_cases hk:k=.free
  ·subst hk
   obtain⟨c0,hc0⟩:=h (n,.free) Ls rfl;obtain⟨cl,e,h1,h2⟩:=Wa (env:=env) l ((n,c0) :: acc) fun p hp=>h p (Lm _ hp)
   refine⟨cl,?_,fun y c q=>?_,fun y q=>?_⟩
   ·rw[List.forIn_cons]
    simp only[beq_self_eq_true,if_true];have:cellOf env n=pure c0:=by unfold cellOf;rw[hc0]
    simp only[this,pure_bind];exact e
   ·rcases h1 y c q with z|⟨z1,z2⟩
    ·rw[List.lookup_cons]at z
     split at z
     ·rename_i hy
      cases z;rw[beq_iff_eq.mp hy];exact .inr ⟨Ls,hc0⟩
     ·exact .inl z
    ·exact .inr ⟨Lm _ z1,z2⟩
   ·refine h2 y ?_
    rcases q with q|q
    ·rcases List.mem_cons.mp q with z|z
     ·cases z
      exact .inr (by rw[List.lookup_cons];simp)
     ·exact .inl z
    ·refine .inr ?_
     rw[List.lookup_cons];split
     ·rfl
     ·exact q
  ·obtain⟨cl,e,h1,h2⟩:=Wa (env:=env) l acc fun p hp=>h p (Lm _ hp)
   refine⟨cl,?_,fun y c q=>?_,fun y q=>?_⟩
   ·rw[List.forIn_cons]
    have:(k==NameKind.free)=false:=by simpa using hk
    simp only[this,Bool.false_eq_true,if_false,pure_bind];exact e
   ·rcases h1 y c q with z|⟨z1,z2⟩
    ·exact .inl z
    ·exact .inr ⟨Lm _ z1,z2⟩
   ·refine h2 y ?_
    rcases q with q|q
    ·rcases List.mem_cons.mp q with z|z
     ·cases z;exact absurd rfl hk
     ·exact .inl z
    ·exact .inr q
theorem Jj{env:PySem.Env}{sc:Scope}(h:∀ p∈sc.names,p.2=.free->∃ c,env.cells.lookup p.1=some c):∃ cl,closureFor sc env=pure cl/\(∀ y c,cl.lookup y=some c->env.cells.lookup y=some c)/\∀ y,(y,NameKind.free)∈sc.names->(cl.lookup y).isSome:=by
 obtain⟨cl,e,h1,h2⟩:=Wa (env:=env) sc.names [] h;refine⟨cl,?_,fun y c q=>?_,fun y q=>h2 y (.inl q)⟩
 ·unfold closureFor
  rw[show(fun(x:Str×NameKind) (r:Li (Str×Ad))=>_)=_ from rfl]at e
  first|exact(by simp only[e,pure_bind]) | (simp only[bind_pure]at *;exact e)|exact e
 ·rcases h1 y c q with z|⟨_,z⟩
  ·exact Zb z
  ·exact z
end Dp



namespace Dp
open PySem PySem.Spec PyProof.Rows L2
variable [ClsTab]
theorem Jl{prog:Program}{w:World}{A:Around}{R:Result->Sd->Prop}{s:Sd}{elt target iter:Expr}{ifs:Li Expr}{scope:Scope}{pos:Pos}{it acc:vL}{env:PySem.Env}(I:Nat->Sd->Prop)(turn:∀ n s,I n s->wpAny (model prog w) A (pyNext it) (fun r s₁=>match r with
   |none=>R (.ok .next) s₁
   |some v=>wpAny (model prog w) A (letOwnedTupleGo target it v) (fun _ s₁'=>wpAny (model prog w) A (assign target env v) (fun _ s₂=>
     wpAny (model prog w) A (forIn ifs true fun c r=>if r=true then do let ok <-isTrue c env (eval c env);pure (ForInStep.yield ok) else pure (ForInStep.yield r)) (fun ok s₃=>
      if ok=true then wpAny (model prog w) A (eval elt env) (fun x s₄=>
       wpAny (model prog w) A (call (.builtin "list.append") [acc,x]) (fun _ s₅=>∃ m,m < n/\I m s₅) (notedBy (model prog w) A env fun e s'=>R (.error e) s') s₄) (notedBy (model prog w) A env fun e s'=>R (.error e) s') s₃
      else ∃ m,m < n/\I m s₃) (notedBy (model prog w) A env fun e s'=>R (.error e) s') s₂) (notedBy (model prog w) A env fun e s'=>R (.error e) s') s₁') (notedBy (model prog w) A env fun e s'=>R (.error e) s') s₁) (notedBy (model prog w) A env fun e s'=>R (.error e) s') s)(n:Nat)(h:I n s):codeAny (model prog w) A (.compLoop (.ListComp elt [⟨target,iter,ifs,0⟩] scope pos) 0 it acc env) R s:=by
 refine codeAny_loop rfl I (fun n s hI=>?_) n h
 show wpAny _ A ((compTurn (.ListComp elt [⟨target,iter,ifs,0⟩] scope pos) 0 it acc env).onRaise (fun x=>do noteFrame x env;theTreesLotGoes x)) _ _ s
 refine wpAny_noted ?_;rw[compTurn_list];refine wpAny_bind (wpAny_standAt (wpAny_bind (wpAny_mono (turn n s hI) (fun r s₁ h₁=>?_) fun _ _ h'=>h')))
 cases r with
 |none=>exact wpAny_pure h₁
 |some v=>
  refine wpAny_bind (wpAny_mono h₁ (fun _ s₁' h₁=>?_) fun _ _ h'=>h')
  refine wpAny_bind (wpAny_mono h₁ (fun _ s₂ h₂=>wpAny_bind (wpAny_mono h₂ (fun ok s₃ h₃=>?_) fun _ _ h'=>h')) fun _ _ h'=>h')
  cases ok with
  |false=>exact wpAny_pure ⟨rfl,h₃⟩
  |true=>
   exact wpAny_bind (wpAny_bind (wpAny_mono h₃ (fun x s₄ h₄=>wpAny_bind (wpAny_mono h₄ (fun _ s₅ h₅=>wpAny_pure (wpAny_pure ⟨rfl,h₅⟩)) fun _ _ h'=>h')) fun _ _ h'=>h'))
noncomputable def cxC(X:Cx)(N:Li Str)(env:PySem.Env)(s3:Sd)(H3:Hp)(fp:Li Ad)(pQ:Li (Ad×Obj)):Cx:=
 { X with N:=N,s₀:=s3,H₀:=H3,env:=env,outer:=X.stack,ex:=fp,fn:=fun _=>false,pn:=X.pn++pQ,xe:=fun _ _=>False }
section
variable {X:Cx}{pQ:Li (Ad×Obj)}{σ:L2.St}{H H3:Hp}{s3:Sd}{sc2:Scope}{cl:Li (Str×Ad)}{fp:Li Ad}{N:Li Str}
theorem Zeg(I3:L2.Inv X pQ σ H3 s3){m0:Str->Ot vL}{h4:Heap}{tk:Nat}{σ':L2.St}(hk:sc2.kind=.function)(hcell:∀ p∈sc2.names,p.2≠.cell)(hns:h4.Ns s3.heap.objs.size m0)(up:∀ b u,s3.heap.get? b=some u->h4.get? b=some u)(c1:∀ y c,cl.lookup y=some c->X.env.cells.lookup y=some c)(c2:∀ y,sc2.names.lookup y=some .free->(cl.lookup y).isSome)(f3:∀ b∈fp,FpOk X pQ H3 b)(fb:∀ b∈fp,b < s3.heap.objs.size)(hσ:∀ (i:Nat) (y:Str) (v:V),N[i]?=some y->σ'[i]?=some (some v)->∃ j:Nat,X.N[j]?=some y/\σ[j]?=some (some v)/\sc2.names.lookup y=some .free/\(X.env.scope.names.lookup y=some .cell\/X.env.scope.names.lookup y=some .free))(hl:σ'.length=N.length) :
  L2.Inv (cxC X N (compEnvC sc2 cl s3.heap.objs.size X.env) s3 H3 fp pQ) [] σ' H3 { s3 with heap:=h4,toks:=tk } where
 ok:={
  mod:=I3.ok.mod
  kind:=hk
  glob:=I3.ok.glob
  blt:=I3.ok.blt
  above:=Nat.le_refl _
  inj:=fun x y c e e'=>I3.ok.inj x y c (c1 _ _ e) (c1 _ _ e')
  has:=fun x h=>by
   have e:=Q0 (env:=X.env) hcell h;have:=c2 x e;cases q:cl.lookup x with
   |none=>rw[q]at this;cases this
   |some c=>exact⟨c,q⟩
  cab:=fun x c h=>nomatch h
  hd:=I3.ok.hd
  frames:=I3.ok.frames
  stk:=.inl rfl
  exf:=fun b hb=>⟨Nat.ne_of_lt (fb b hb),fun x c e=>(f3 b hb).2.2.2.2.1 x c (c1 _ _ e)⟩
  bs:=I3.bs
  bsz:=Nat.le_trans I3.ok.bsz I3.sz
  noex:=fun b o e hb=>by
   rcases (f3 b hb).2.2.2.1 with z|z
   ·exact I3.ok.noex b o e z
   ·exact absurd (Nat.lt_of_lt_of_le (Heap.lt_size e) (Nat.le_trans I3.ok.bsz z)) (Nat.lt_irrefl _)
  exfs:=fun b hb hs=>by
   rcases List.mem_cons.mp (I3.stkSub b hs) with z|z
   ·exact(f3 b hb).2.1 z
   ·exact(f3 b hb).2.2.1 z
  funs:=I3.stack
  frf:=I3.stkFree }
 os:=rfl
 bare:=I3.bare
 base:=Un.kept up
 loc:=⟨m0,hns,fun i y v e1 e2 e3=>by
  obtain⟨j,g1,g2,g3,g4⟩:=hσ i y v e1 e2;obtain⟨m,hn,hl'⟩:=I3.loc;obtain⟨u,r,l⟩:=hl' j y v g1 g2 (.inr g4);refine⟨u,r,.inr ⟨Xg g3,?_⟩⟩;rcases l with⟨z,_⟩|⟨_,c,e,z⟩
  ·have z':X.env.scope.names.lookup y=some .local:=z
   rcases g4 with w|w<;>(rw[z']at w;cases w)
  ·have q:=c2 y g3
   cases q':cl.lookup y with
   |none=>rw[q']at q;cases q
   |some c'=>
    have:=c1 _ _ q';rw[e]at this;cases this
    obtain⟨o,ho,hd⟩:=z;exact⟨c,q',o,up c o ho,hd⟩⟩
 cell:=fun y c e=>by
  obtain⟨v,o,ho,hd⟩:=I3.cell y c (c1 _ _ e);exact⟨v,o,up c o ho,hd⟩
 free:=I3.hok.fresh (Nat.le_refl _)
 freeC:=fun y c e=>I3.freeC y c (c1 _ _ e)
 pin:=fun p hp=>by
  have hp':p∈X.pn++pQ:=by simpa[cxC] using hp
  obtain⟨e,n,ne,nf,d⟩:=I3.pin p hp';refine⟨up _ _ e,n,Nat.ne_of_lt (Heap.lt_size e),fun hs=>?_,d⟩
  rcases List.mem_cons.mp (I3.stkSub _ hs) with z|z
  ·exact ne z
  ·exact nf z
 hok:=I3.hok.kept up
 len:=hl
theorem Zef(I3:L2.Inv X pQ σ H3 s3){env:PySem.Env}{pins':Li (Ad×Obj)}{σ':L2.St}{H':Hp}{s':Sd}{h':Heap}(hC:env.locals=s3.heap.objs.size)(I':L2.Inv (cxC X N env s3 H3 fp pQ) pins' σ' H' s')(sb:Heap.SameBut s3.heap.objs.size s'.heap h')(f3:∀ b∈fp,FpOk X pQ H3 b):L2.Inv X pQ σ H' { s' with heap:=h' }:=by
 have u:Un (frs X.stack) fp H3 H' s3.heap s'.heap:=I'.base;have ne:∀ b o,s3.heap.get? b=some o->b≠s3.heap.objs.size:=fun b o e=>Nat.ne_of_lt (Heap.lt_size e)
 have fr:H' s3.heap.objs.size=none:=by have:=I'.free;rw[show(cxC X N env s3 H3 fp pQ).env.locals=s3.heap.objs.size from hC]at this;exact this
 refine I3.call' (s':={ s' with heap:=h' }) (ch:=fp) I'.os ⟨fun b o e n hb hx=>?_,fun b o e n hb hx=>?_,u.free,fun b o e hx=>?_,u.tups,u.frzs,u.tbls⟩ (fun b ob e=>?_) I'.bare (fun b hb=>?_)
 ·exact(sb.2 b (ne b o e)).trans (u.keep b o e n hb hx)
 ·obtain⟨sl,e1⟩:=u.slot b o e n hb hx
  exact⟨sl,(sb.2 b (ne b o e)).trans e1⟩
 ·obtain⟨o',e1⟩:=u.there b o e hx
  exact⟨o',(sb.2 b (ne b o e)).trans e1⟩
 ·refine(I'.hok b ob e).stay (fun c w' hc q=>(sb.2 c ?_).trans q) (fun _ q=>q) fun _ _ q=>q
  rintro rfl
  rcases hc with rfl|hc
  ·rw[fr]at e;cases e
  ·rw[fr]at hc;cases hc
 ·exact⟨(f3 b hb).2.2.2.1,(f3 b hb).2.1,(f3 b hb).2.2.2.2.1,(f3 b hb).2.2.2.2.2⟩
end
end Dp



namespace Dp
open PySem PySem.Spec PyProof.Rows L2
variable [ClsTab]
theorem Uh{N:Li Str}:∀ {l:Li Str}{fr:Li Nat},XC N l=some fr->fr.length=l.length/\∀ (i:Nat) (k:Nat),fr[i]?=some k->∃ y,l[i]?=some y/\N[k]?=some y
 |[],fr,h=>by cases h;exact⟨rfl,fun i k e=>by simp at e⟩
 |x :: r,fr,h=>by
  unfold XC at h;split at h
  ·rename_i a as e1 e2
   cases h;obtain⟨h1,h2⟩:=Uh e2;refine⟨by simp[h1],fun i k e=>?_⟩
   cases i with
   |zero=>simp at e;subst e;exact⟨x,rfl,Wc e1⟩
   |succ i=>exact h2 i k (by simpa using e)
  ·exact Zb h
theorem StOk.lt{X:Cx}{pQ:Li (Ad×Obj)}{σ:L2.St}{H:Hp}{s:Sd}{ad:Li Ad}{st:Za}{a:Ad}(I:L2.Inv X pQ σ H s)(S:StOk X.K ad H st)(h:a∈ad):a < s.heap.objs.size:=by
 obtain⟨i,hi,e⟩:=List.getElem_of_mem h;rcases S.has (show ad[i]?=some a by rw[Lg hi,e]) with⟨o,q⟩|⟨o,q⟩
 ·exact I.hok.lt q
 ·exact Heap.lt_size (I.kIn a o q)
theorem ZdI{K:Fg}{ad:Li Ad}{H:Hp}{σ bs:L2.St}{ρ:Env}{fr:Li Nat}{b:D->Li (Ot D)}{d:D}(E:EnvOk K ad H σ ρ)(hd:EnvOk K ad H bs (b d)):EnvOk K ad H (bs++fr.map fun i=>(σ[i]?).join) (YZ b ρ fr d):=by
 refine⟨by simp[YZ,hd.len],fun i e h=>?_⟩
 unfold YZ at h;by_cases hi:i < (b d).length
 ·rw[List.getElem?_append_left hi]at h
  rw[List.getElem?_append_left (by rw[hd.len];exact hi)]
  exact hd.at_ i e h
 ·have hi:(b d).length<=i:=Nat.le_of_not_lt hi
  rw[List.getElem?_append_right hi,List.getElem?_map]at h;rw[List.getElem?_append_right (by rw[hd.len];exact hi),List.getElem?_map,hd.len]
  cases q:fr[i - (b d).length]? with
  |none=>rw[q]at h;cases h
  |some k=>
   rw[q]at h;have h:(ρ[k]?).join=some e:=by simpa using h
   have h2:ρ[k]?=some (some e):=by
    cases z:ρ[k]? with
    |none=>rw[z]at h;cases h
    |some o=>rw[z]at h;rw[show o=some e from h]
   obtain⟨w,e1,e2⟩:=E.at_ k e h2;exact⟨w,by simp[e1],e2⟩
def WA(K:Fg)(tg:Expr)(xs:Li Str)(b:D->Li (Ot D))(ds:Li D):Prop:=
 ∀ X:Cx,X.K=K->X.calm=true->X.N.Nodup->(∀ (i:Nat) x,xs[i]?=some x->X.N[i]?=some x)->(∀ y∈xs,X.env.scope.names.lookup y=some .local)->∀ (pQ:Li (Ad×Obj)) (s:Sd) (os fv:L2.St) (H:Hp) (ad:Li Ad) (v:V) (u:vL) (d:D),os.length=xs.length->L2.Inv X pQ (os++fv) H s->RelV v u->Den K ad H v d->d∈ds->
  wpAny (model X.prog X.w) X.A (assign tg X.env u) (fun _ s'=>∃ bs,bs.length=xs.length/\EnvOk K ad H bs (b d)/\L2.Inv X pQ (bs++fv) H s') X.xe s
theorem VB{K:Fg}{x:Str}{px:Pos}{ds:Li D}:WA K (.Name x px) [x] one ds:=by
 intro X hK hc hN hx hl pQ s os fv H ad v u d ho I r dv _;obtain⟨o,rfl⟩:∃ o,os=[o]:=by match os,ho with|[o],_=>exact⟨o,rfl⟩
 have lx:=hl x Ls;have pg:PG X (.Name x px) (gName 0):=pg_name hN (hx 0 x rfl) (.inl lx) (.inr lx);refine thn (pg pQ s _ H v u (fun σ' H'=>σ'=[some v]++fv/\H'=H) I r ⟨rfl,rfl⟩) fun _ s' ⟨σ',H',I',e,e'⟩=>?_
 subst e;subst e'
 exact⟨[some v],rfl,⟨rfl,fun i e h=>by
  cases i with
  |zero=>cases h;exact⟨v,rfl,dv⟩
  |succ i=>exact nomatch (show(none:Ot (Ot D))=some (some e) from h)⟩,I'⟩
theorem Zde{K:Fg}{x y:Str}{px py tp:Pos}{k:Nat}{ds:Li D}(hds:∀ d∈ds,∃ a b,d=.tup [a,b]):WA K (.Tuple [.Name x px,.Name y py] k tp) [x,y] two ds:=by
 intro X hK hc hN hx hl pQ s os fv H ad v u d ho I r dv hd;obtain⟨o,o',rfl⟩:∃ o o',os=[o,o']:=by match os,ho with|[o,o'],_=>exact⟨o,o',rfl⟩
 obtain⟨a,b,rfl⟩:=hds d hd;have lx:=hl x Ls;have ly:=hl y (Lm _ Ls);have g1:PG X (.Name x px) (gName 0):=pg_name hN (hx 0 x rfl) (.inl lx) (.inr lx);have g2:PG X (.Name y py) (gName 1):=pg_name hN (hx 1 y rfl) (.inl ly) (.inr ly);have pg:PG X (.Tuple [.Name x px,.Name y py] k tp) _:=pg_tup hc (pgs_cons g1 (pgs_cons g2 pgs_nil))
 obtain⟨p,vs,rfl,ha,rv⟩:=dv.ofTup;cases rv with
 |cons da rv=>cases rv with
  |cons db rv=>
   cases rv;rename_i va vb;refine thn (pg pQ s _ H _ u (fun σ' H'=>σ'=[some va,some vb]++fv/\H'=H) I r ⟨p,[va,vb],rfl,by rw[hK];exact ha.sq,rfl,va,[vb],rfl,vb,[],rfl,rfl,rfl,rfl⟩) fun _ s' ⟨σ',H',I',e,e'⟩=>?_
   subst e;subst e'
   exact⟨[some va,some vb],rfl,⟨rfl,fun i e h=>by
    cases i with
    |zero=>cases h;exact⟨va,rfl,da⟩
    |succ i=>cases i with
     |zero=>cases h;exact⟨vb,rfl,db⟩
     |succ i=>exact nomatch (show(none:Ot (Ot D))=some (some e) from h)⟩,I'⟩
section
variable {X:Cx}{G:Gs}{F:Nat->Fn}{sc sc2:Scope}{N xs:Li Str}
theorem YG(h:Xu sc sc2 xs=true):sc2.kind=.function/\(∀ p∈sc2.names,p.2≠.cell)/\(∀ x∈xs,sc2.names.lookup x=some .local)/\(∀ p∈sc2.names,p.2=.local->sc2.names.lookup p.1=some .local)/\(xs++ZW sc2).Nodup/\∀ y∈ZW sc2,VZ sc y=true/\sc2.names.lookup y=some .free:=by
 unfold Xu at h;simp only[Ba,decide_eq_true_eq,List.all_eq_true,Bool.or_eq_true,Bool.not_eq_true',decide_eq_false_iff_not]at h;obtain⟨⟨⟨⟨⟨h1,h2⟩,h3⟩,h4⟩,h5⟩,h6⟩:=h;exact⟨h1,h2,h3,fun p hp e=>(h4 p hp).elim (fun z=>absurd e z) id,h5,h6⟩
theorem mem_frees{y:Str}:y∈ZW sc2↔(y,NameKind.free)∈sc2.names:=by
 unfold ZW;rw[List.mem_map];constructor
 ·rintro⟨⟨n,k⟩,h,rfl⟩
  rw[List.mem_filter]at h;have:k=.free:=of_decide_eq_true h.2;rw[<-this];exact h.1
 ·intro h
  exact⟨(y,.free),List.mem_filter.mpr ⟨h,by simp⟩,rfl⟩
theorem mem_of_lookup{y:Str}{k:NameKind}:∀ {l:Li (Str×NameKind)},l.lookup y=some k->(y,k)∈l
 |[],h=>by cases h
 | (n,q) :: l,h=>by
  rw[List.lookup_cons]at h;split at h
  ·rename_i e
   cases h;rw[beq_iff_eq.mp e];exact Ls
  ·exact Lm _ (mem_of_lookup h)
theorem ZdD(Kx:Cxt X G F sc N)(hsc:Xu sc sc2 xs=true){cl:Li (Str×Ad)}{C:Ad}{s3:Sd}{H3:Hp}{fp:Li Ad}{pQ:Li (Ad×Obj)}:Cxt (cxC X (xs++ZW sc2) (compEnvC sc2 cl C X.env) s3 H3 fp pQ) G F sc2 (xs++ZW sc2):=by
 obtain⟨h1,h2,h3,h4,h5,h6⟩:=YG hsc;exact {
  hN:=rfl
  vis:=fun y hy=>by
   rcases Zfn hy with z|z|z
   ·exact .inl (Y2 z (by intro q;cases q))
   ·exact absurd rfl (h2 _ (mem_of_lookup z))
   ·rcases Xg (env:=X.env) z with w|w
    ·exact .inr (.inl w)
    ·exact .inr (.inr w)
  glb:=fun y hy=>Y2 (Zbq hy) (by intro q;cases q)
  calm:=Kx.calm
  hu:=Kx.hu
  gl:=Kx.gl
  cel:=fun y hy=>by
   rcases Zbf hy with z|z
   ·exact absurd rfl (h2 _ (mem_of_lookup z))
   ·exact Xg z
  nx:=rfl }
theorem Zdx{ok:Za->Prop}{f c:D->Za->Res}{xs:Li D}{st:Za}{r:Li D×Za}(h:Yv ok f c xs st=some r):ok st:=by
 unfold Yv at h;split at h
 ·split at h
  ·assumption
  ·exact Zb h
 ·split at h
  ·assumption
  ·exact Zb h
noncomputable def evB(F:Nat->Fn)(c:CE)(b:D->Li (Ot D))(ρ:Env)(fr:Li Nat):D->Za->Res:=fun d s=>ev F c (YZ b ρ fr d) s
inductive CI(X:Cx)(tn:Nat->Heap->Prop)(fp:List Addr)(fv σ:L2.St)(ρ:Env)(w:Nat)(ds:List D)(go:List D->Za->Option (List D×Za))(Good:List Addr->Hp->Prop)(dd:Addr)(ad2:List Addr)(H2:Hp)(st':Za)(ys:List D)(m:Nat)(s:Shared):Prop
 |mk (i:Nat) (o0:L2.St) (H:Hp) (ad:List Addr) (st:Za) (vs:List V) (es zs:List D) (him:i+m=ds.length) (hol:o0.length=w) (I:L2.Inv X [] (o0++fv) H s) (ti:tn i s.heap) (fi:∀ b∈fp,H b=none) (En:EnvOk X.K ad H σ ρ) (S:StOk X.K ad H st) (Gd:Good ad H) (nd:dd∉ad) (hv:H dd=some (.lst vs)) (rv:Dens X.K ad H vs es) (hel:es.length<=i)
  (hcp:go (ds.drop i) st=some (zs,st')) (hys:es++zs=ys) (ex:Ext ad2 H2 ad H):CI X tn fp fv σ ρ w ds go Good dd ad2 H2 st' ys m s
theorem Zcl(Kx:Cxt X G F sc2 N){n:Nat}(ihE:ZC G F n){elt iter tg:Expr}{pos:Pos}{ifs:Li Expr}{fr:Li Nat}{ce cc:CE}{bd:D->Li (Ot D)}(hce:cE G n sc2 N elt=some ce)(hcc:(ifs=[]/\cc=.cst (.bl true))\/∃ e,ifs=[e]/\cE G n sc2 N e=some cc){J:It}{fp:Li Ad}{it:Ad}{tn:Nat->Heap->Prop}{ds:Li D}{ok:Za->Prop}{Good:Li Ad->Hp->Prop}(gm:∀ ad H ad' H',Ext ad H ad' H'->Good ad H->Good ad' H')(gw:∀ ad H p xs ys,H p=some (.lst xs)->Good ad H->Good ad (upd H p (.lst ys)))(go:∀ i ad H st,Good ad H->StOk X.K ad H st->ok st->i < ds.length->J.go i H)(stop:∀ i ad H st,Good ad H->StOk X.K ad H st->ok st->ds.length=i->J.stop i H)(yl:∀ i ad H st v H',Good ad H->StOk X.K ad H st->ok st->J.yld i H v H'->i < ds.length->Ext ad H ad H'/\StOk X.K ad H' st/\∃ d,ds[i]?=some d/\Den X.K ad H' v d)(T:Turn X.prog X.w X.K tg J fp it tn)(B:WA X.K tg xs bd ds)(hN:X.N.Nodup)(hx:∀ (i:Nat) x,xs[i]?=some x->X.N[i]?=some x)(hl:∀ y∈xs,X.env.scope.names.lookup y=some .local)(exx:X.xe=fun _ _=>False)(fpk:∀ {H:Hp},(∀ b∈fp,H b=none)->∀ b∈fp,FpOk X [] H b){fv σ:L2.St}{ρ:Env}(ec:∀ {ad H bs d},EnvOk X.K ad H σ ρ->EnvOk X.K ad H bs (bd d)->EnvOk X.K ad H (bs++fv) (YZ bd ρ fr d)){dd:Ad}{ad2:Li Ad}{H2:Hp}{st':Za}{ys:Li D}(D0:H2 dd=none)(hz:ds.length<=1000){R:Result->Sd->Prop}(done:∀ s5 σ5 H ad vs,L2.Inv X [] σ5 H s5->StOk X.K ad H st'->dd∉ad->H dd=some (.lst vs)->Dens X.K ad H vs ys->Ext ad2 H2 ad H->R (.ok .next) s5){s:Sd}{m:Nat}(h0:CI X tn fp fv σ ρ xs.length ds (Yv ok (evB F ce bd ρ fr) (evB F cc bd ρ fr)) Good dd ad2 H2 st' ys m s) :
  codeAny (model X.prog X.w) X.A (.compLoop (.ListComp elt [⟨tg,iter,ifs,0⟩] sc2 pos) 0 (.ref it) (.ref dd) X.env) R s:=by
 refine Jl _ (fun m s h=>?_) m h0
 cases h with
 |mk i o0 H ad st vs es zs him hol I ti fi En S Gd nd hv rv hel hcp hys ex=>
 have oks:=Zdx hcp;have none_of:∀ {E:vL->Sd->Prop}{α:Type}{t:Sem α}{R:α->Sd->Prop}{s0:Sd},wpAny (model X.prog X.w) X.A t R X.xe s0->wpAny (model X.prog X.w) X.A t R E s0:=fun h=>by
  rw[exx]at h;exact wpAny_mono h (fun _ _ q=>q) fun _ _ q=>q.elim
 by_cases hi:i < ds.length
 ·refine thn (T.item X rfl rfl rfl Kx.calm i [] s _ H _ I (fpk fi) ti (go i ad H st Gd S oks hi)) fun r s5 ⟨u,hr,h5'⟩=>?_
  subst hr;refine thn h5' fun _ s6 ⟨v,H',I6,r6,y6,t6,f6⟩=>?_
  obtain⟨x6,S6,d,ed,dv⟩:=yl i ad H st v H' Gd S oks y6 hi;have hd:ds.drop i=d :: ds.drop (i+1):=by
   rw[List.drop_eq_getElem_cons hi];rw[Lg hi]at ed;cases ed;rfl
  refine thn (none_of (B X rfl Kx.calm hN hx hl _ s6 o0 _ H' ad v u _ hol (I6.pinned (fpk f6) (T.obj _ _ t6)) r6 dv (List.mem_of_getElem? ed))) fun _ s7 ⟨bs,lb,Eb,I7⟩=>?_
  have En6:=En.mono x6;have En7:=ec En6 Eb
  -- behind the item's turn
  have again:∀ {H9:Hp}{s9:Sd}{ad9:Li Ad}{st9:Za}{vs9:Li V}{es9 zs9:Li D},L2.Inv X ([]++pinsAt fp s6.heap) (bs++fv) H9 s9->StOk X.K ad9 H9 st9->Good ad9 H9->dd∉ad9->H9 dd=some (.lst vs9)->Dens X.K ad9 H9 vs9 es9->es9.length<=i+1->
    Yv ok (evB F ce bd ρ fr) (evB F cc bd ρ fr) (ds.drop (i+1)) st9=some (zs9,st')->es9++zs9=ys->Ext ad2 H2 ad9 H9->EnvOk X.K ad9 H9 σ ρ->
    ∃ m',m' < m/\CI X tn fp fv σ ρ xs.length ds (Yv ok (evB F ce bd ρ fr) (evB F cc bd ρ fr)) Good dd ad2 H2 st' ys m' s9:=
   fun I9 S9 G9 n9 v9 r9 l9 c9 y9 x9 e9=>
    have pk:=fun b hb o e=>I9.pin (b,o) (List.mem_append_right _ (List.mem_append_right _ (mem_pinsAt hb e)))
    ⟨m - 1,by omega,.mk (i+1) bs _ _ _ _ _ _ (by omega) lb I9.unpinned (T.keep _ _ _ t6 fun b hb o e=>(pk b hb o e).1) (fun b hb=>let ⟨o,e,_⟩:=T.obj _ _ t6 b hb;(pk b hb o e).2.1) e9 S9 G9 n9 v9 r9 l9 c9 y9 x9⟩
  -- the tests
  have tests:∀ {k:Bool}{st2:Za},evB F cc bd ρ fr d st=some (.bl k,st2)->∀ {R:Bool->Sd->Prop}{E:vL->Sd->Prop},(∀ s8 H8 ad8,L2.Inv X ([]++pinsAt fp s6.heap) (bs++fv) H8 s8->Ext ad H' ad8 H8->StOk X.K ad8 H8 st2->R k s8)->
    wpAny (model X.prog X.w) X.A (forIn ifs true fun c r=>if r=true then do let ok <-isTrue c X.env (eval c X.env);pure (ForInStep.yield ok) else pure (ForInStep.yield r)) R E s7:=fun {k st2} q {R E} hR=>by
   rcases hcc with⟨rfl,rfl⟩|⟨e,rfl,he⟩
   ·cases q
    exact wpAny_tests_nil (hR s7 H' ad I7 (Ext.refl _ _) S6)
   ·refine wpAny_tests_one (thn (none_of ((ihE X sc2 _ Kx e cc he).pt _ s7 _ H' (fun k' H8=>k'=k/\∃ ad8,Ext ad H' ad8 H8/\StOk X.K ad8 H8 st2) I7 ⟨ad,YZ bd ρ fr d,st,k,st2,En7,S6,q,fun ad' H' x S'=>⟨rfl,ad',x,S'⟩⟩)) fun k' s8 ⟨H8,I8,e8,ad8,x8,S8⟩=>?_)
    subst e8;exact hR s8 H8 ad8 I8 x8 S8
  have n8:∀ {ad8 H8},Ext ad H' ad8 H8->dd∉ad8:=fun x8 z=>((x6.trans x8).new dd z).elim nd fun w=>by rw[hv]at w;cases w
  have v8:∀ {ad8 H8},Ext ad H' ad8 H8->H8 dd=some (.lst vs):=fun x8=>(x6.trans x8).keep dd _ hv nd
  have rv6:=rv.mono x6;have ex6:=ex.trans x6;have G6:=gm _ _ _ _ x6 Gd;clear x6 En Eb ex Gd S I hv rv;rw[hd]at hcp;unfold Yv at hcp;rw[if_pos oks]at hcp;split at hcp
  ·rename_i st2 q1
   split at hcp
   ·rename_i y st3 q2
    split at hcp
    ·rename_i zs' st4 q3
     cases hcp;refine tests q1 fun s8 H8 ad8 I8 x8 S8=>?_
     rw[if_pos rfl];refine thn (none_of ((ihE X sc2 _ Kx elt ce hce).pe _ s8 _ H8 (fun v8 H9=>∃ ad9,Ext ad8 H8 ad9 H9/\StOk X.K ad9 H9 st3/\Den X.K ad9 H9 v8 y) I8 ⟨ad8,YZ bd ρ fr d,st2,y,st3,En7.mono x8,S8,q2,fun v8 ad' H' x S' dn=>⟨ad',x,S',dn⟩⟩)) fun u9 s9 ⟨v9,H9,I9,r9,ad9,x9,S9,d9⟩=>?_
     have x89:=x8.trans x9;have hv9:=v8 x89;have hlen:vs.length=es.length:=rv6.length;refine thn (none_of (mt_append (X:=X) _ s9 _ H9 (.ref dd) [v9] (.ref dd) [u9] (fun _ H10=>H10=upd H9 dd (.lst (vs++[v9]))) I9 rfl (.cons r9 .nil) ⟨dd,vs,v9,rfl,rfl,hv9,Nat.lt_of_le_of_lt (show vs.length<=1000 by omega) (by decide),rfl⟩)) fun u10 s10 ⟨v10,H10,I10,r10,e10⟩=>?_
     subst e10;have nd9:=n8 x89;exact again (vs9:=vs++[v9]) (es9:=es++[y]) (zs9:=zs') I10 (S9.wr hv9 nd9) (gw _ _ _ _ _ hv9 (gm _ _ _ _ x89 G6)) nd9 upd_same (((rv6.mono x89).append (.cons d9 .nil)).wr hv9) (by rw[List.length_append,List.length_singleton];omega) q3 (by rw[<-hys,List.append_assoc];rfl) ((ex6.trans x89).wr hv9 D0) ((En6.mono x89).wr hv9)
    ·exact Zb hcp
   ·exact Zb hcp
  ·rename_i st2 q1
   refine tests q1 fun s8 H8 ad8 I8 x8 S8=>?_
   rw[if_neg Bf];exact again I8 S8 (gm _ _ _ _ x8 G6) (n8 x8) (v8 x8) (rv6.mono x8) (by omega) hcp hys (ex6.trans x8) (En6.mono x8)
  ·exact Zb hcp
 ·refine thn (T.done X rfl rfl rfl Kx.calm i [] s _ H _ I (fpk fi) ti (stop i ad H st Gd S oks (by omega))) fun r s5 ⟨hr,I5⟩=>?_
  subst hr;rw[List.drop_eq_nil_of_le (Nat.le_of_not_lt hi)]at hcp;unfold Yv at hcp;rw[if_pos oks]at hcp;cases hcp;rw[List.append_nil]at hys;subst hys;exact done s5 _ H ad vs I5 S nd hv rv ex
theorem Zam(Kx:Cxt X G F sc N){n:Nat}(ihE:ZC G F n){elt iter tg:Expr}{pos:Pos}{ifs:Li Expr}{fr:Li Nat}{ce cc:CE}(hsc:Xu sc sc2 xs=true)(hfr:XC N (ZW sc2)=some fr){bd:D->Li (Ot D)}(hce:cE G n sc2 (xs++ZW sc2) elt=some ce)(hcc:(ifs=[]/\cc=.cst (.bl true))\/∃ e,ifs=[e]/\cE G n sc2 (xs++ZW sc2) e=some cc){cl:Li (Str×Ad)}(c1:∀ y c,cl.lookup y=some c->X.env.cells.lookup y=some c)(c2:∀ y,(y,NameKind.free)∈sc2.names->(cl.lookup y).isSome){J:It}{fp:Li Ad}{it:Ad}{tn:Nat->Heap->Prop}{ds:Li D}{ok:Za->Prop}{use:Ot (vL->Sem Unit)}{R0:vL->Sd->Prop}{Good:Li Ad->Hp->Prop}(gm:∀ ad H ad' H',Ext ad H ad' H'->Good ad H->Good ad' H')(gw:∀ ad H p xs ys,H p=some (.lst xs)->Good ad H->Good ad (upd H p (.lst ys)))(go:∀ i ad H st,Good ad H->StOk X.K ad H st->ok st->i < ds.length->J.go i H)(stop:∀ i ad H st,Good ad H->StOk X.K ad H st->ok st->ds.length=i->J.stop i H)(yl:∀ i ad H st v H',Good ad H->StOk X.K ad H st->ok st->J.yld i H v H'->i < ds.length->Ext ad H ad H'/\StOk X.K ad H' st/\∃ d,ds[i]?=some d/\Den X.K ad H' v d){pQ:Li (Ad×Obj)}{σ:L2.St}{H2:Hp}{s2 s3:Sd}{dd:Ad}{h₁:Heap}{m0:Str->Ot vL}{tk:Nat}{Q:VK}{ad2:Li Ad}{ρ:Env}{st1 st':Za}{ys:Li D}(B:WA X.K tg xs bd ds)(T:Turn X.prog X.w X.K tg J fp it tn)(t2:tn 0 s2.heap)(f2:∀ b∈fp,FpOk X pQ H2 b)(fb:∀ b∈fp,b < dd)(E2:EnvOk X.K ad2 H2 σ ρ)(S2:StOk X.K ad2 H2 st1)(g2:Good ad2 H2)(hcomp:Yv ok (fun d s=>ev F ce (YZ bd ρ fr d) s) (fun d s=>ev F cc (YZ bd ρ fr d) s) ds st1=some (ys,st'))(hz:ds.length<=1000)(hp:Post X.K ad2 H2 (.lst st'.length) (st'++[(true,ys)]) Q)(hend:∀ C dd s5 H5 m',s5.heap.Ns C m'->(∀ h',Heap.SameBut C s5.heap h'->L2.Inv X pQ σ H5 { s5 with heap:=h' })->FpOk X pQ H5 C->Q (.ref dd) H5->compPost (model X.prog X.w) X.A X.xe use R0 (.ref dd) C (.ok .next) s5)  (D0:H2 dd=none) (I3:L2.Inv X pQ σ (upd H2 dd (.lst [])) s3) (z3:s3.heap.objs.size=dd+1) (nad:dd∉ad2) (hns₁:h₁.Ns s3.heap.objs.size m0) (up:∀ b u,s3.heap.get? b=some u->h₁.get? b=some u) (up0:∀ b u,s2.heap.get? b=some u->s3.heap.get? b=some u) :
  codeAny (model X.prog X.w) X.A (.compStart (.ListComp elt [⟨tg,iter,ifs,0⟩] sc2 pos) 0 (.ref it) (.ref dd) (compEnvC sc2 cl s3.heap.objs.size X.env)) (compPost (model X.prog X.w) X.A X.xe use R0 (.ref dd) s3.heap.objs.size) { s3 with heap:=h₁,toks:=tk }:=by
 obtain⟨h1,h2,h3,h4,h5,h6⟩:=YG hsc;have f3:∀ b∈fp,FpOk X pQ (upd H2 dd (.lst [])) b:=fun b hb=>⟨by rw[upd_ne (Nat.ne_of_lt (fb b hb))];exact(f2 b hb).1,(f2 b hb).2⟩
 obtain⟨fl,fg⟩:=Uh hfr;have I4:=Zeg (N:=xs++ZW sc2) (cl:=cl) (fp:=fp) (tk:=tk) (σ':=List.replicate xs.length none++fr.map fun i=>(σ[i]?).join) I3 h1 h2 hns₁ up c1 (fun y e=>c2 y (mem_of_lookup e)) f3 (fun b hb=>by rw[z3];exact Nat.lt_succ_of_lt (fb b hb)) (fun i y v e1 e2=>by
  by_cases hi:i < xs.length
  ·rw[List.getElem?_append_left (by simpa using hi),List.getElem?_replicate,if_pos hi]at e2;cases e2
  ·have hi:xs.length<=i:=Nat.le_of_not_lt hi
   rw[List.getElem?_append_right (by simpa using hi),List.getElem?_map,List.length_replicate]at e2
   rw[List.getElem?_append_right hi]at e1;cases q:fr[i - xs.length]? with
   |none=>rw[q]at e2;cases e2
   |some k=>
    rw[q]at e2;have e2:(σ[k]?).join=some v:=by simpa using e2
    have e3:σ[k]?=some (some v):=by
     cases w:σ[k]? with
     |none=>rw[w]at e2;cases e2
     |some o=>rw[w]at e2;rw[show o=some v from e2]
    obtain⟨y',g1,g2⟩:=fg _ k q;rw[e1]at g1;cases g1
    obtain⟨k1,k2⟩:=h6 y (List.mem_of_getElem? e1);exact⟨k,by rw[Kx.hN];exact g2,e3,k2,Kx.cel y k1⟩) (by simp[fl])
 have K':=ZdD (cl:=cl) (C:=s3.heap.objs.size) (s3:=s3) (H3:=upd H2 dd (.lst [])) (fp:=fp) (pQ:=pQ) Kx hsc;have loop:=Zcl (R:=compPost (model X.prog X.w) X.A X.xe use R0 (.ref dd) s3.heap.objs.size) (pos:=pos) (iter:=iter) K' ihE hce hcc gm gw go stop yl T B h5 (fun i x e=>by show(xs++ZW sc2)[i]?=some x;rw[List.getElem?_append_left (List.getElem?_eq_some_iff.mp e).1];exact e) (fun y hy=>Y2 (h3 y hy) (by intro q;cases q)) rfl (fun {H} hn b hb=>⟨hn b hb,by
  show b≠s3.heap.objs.size;rw[z3];exact Nat.ne_of_lt (Nat.lt_succ_of_lt (fb b hb)),fun hs=>(List.mem_cons.mp (I3.stkSub b hs)).elim (f2 b hb).2.1 (f2 b hb).2.2.1,.inl hb,fun y c e=>(f2 b hb).2.2.2.2.1 y c (c1 _ _ e),fun p hp=>(f2 b hb).2.2.2.2.2 p (by simpa[cxC] using hp)⟩) (σ:=σ) (ρ:=ρ) (fr:=fr) (fun a b=>ZdI a b) (dd:=dd) (ad2:=ad2) (H2:=H2) (st':=st') (ys:=ys) D0 hz (fun s5 σ5 H ad vs I5 S nd hv rv ex=>by
   obtain⟨m',hn,_⟩:=I5.loc;refine hend s3.heap.objs.size dd s5 H m' hn (fun h' sb=>Zef I3 rfl I5 sb f3) (I3.fpOk (Nat.le_refl _) I5.free) (hp (.ref dd) (ad++[dd]) H ⟨fun j a e=>XI (ex.pre j a e),ex.tup,ex.keep,fun b hb=>?_,ex.kd⟩ (S.adopt hv nd rv) (.lst ⟨by rw[<-S.len];exact Z3,QR hv rfl⟩))
   rcases List.mem_append.mp hb with z|z
   ·exact ex.new b z
   ·rw[List.mem_singleton.mp z];exact .inr D0)
  (.mk 0 (List.replicate xs.length none) (upd H2 dd (.lst [])) ad2 st1 [] [] ys (Nat.zero_add _) (List.length_replicate ..) I4 (T.keep _ _ _ t2 fun b _ o e=>up b o (up0 b o e)) (fun b hb=>(f3 b hb).1) (E2.mono (Ext.laid D0)) (S2.laid D0) (gm _ _ _ _ (Ext.laid D0) g2) nad upd_same .nil (Nat.le_refl _) hcomp rfl (Ext.laid D0))
 exact codeAny_compStart_list loop (T.self X.A 0 _ _ _ (T.keep _ _ _ t2 fun b _ o e=>up b o (up0 b o e)) loop)
theorem Zck(Kx:Cxt X G F sc N){n:Nat}(ihE:ZC G F n){elt iter tg:Expr}{pos:Pos}{ifs:Li Expr}{fr:Li Nat}{ce cc:CE}(hsc:Xu sc sc2 xs=true)(hfr:XC N (ZW sc2)=some fr){bd:D->Li (Ot D)}(hce:cE G n sc2 (xs++ZW sc2) elt=some ce)(hcc:(ifs=[]/\cc=.cst (.bl true))\/∃ e,ifs=[e]/\cE G n sc2 (xs++ZW sc2) e=some cc){cl:Li (Str×Ad)}(c1:∀ y c,cl.lookup y=some c->X.env.cells.lookup y=some c)(c2:∀ y,(y,NameKind.free)∈sc2.names->(cl.lookup y).isSome){J:It}{fp:Li Ad}{it:Ad}{tn:Nat->Heap->Prop}{ds:Li D}{ok:Za->Prop}{use:Ot (vL->Sem Unit)}{R0:vL->Sd->Prop}(Good:Li Ad->Hp->Prop)(gm:∀ ad H ad' H',Ext ad H ad' H'->Good ad H->Good ad' H')(gw:∀ ad H p xs ys,H p=some (.lst xs)->Good ad H->Good ad (upd H p (.lst ys)))(go:∀ i ad H st,Good ad H->StOk X.K ad H st->ok st->i < ds.length->J.go i H)(stop:∀ i ad H st,Good ad H->StOk X.K ad H st->ok st->ds.length=i->J.stop i H)(yl:∀ i ad H st v H',Good ad H->StOk X.K ad H st->ok st->J.yld i H v H'->i < ds.length->Ext ad H ad H'/\StOk X.K ad H' st/\∃ d,ds[i]?=some d/\Den X.K ad H' v d){pQ:Li (Ad×Obj)}{σ:L2.St}{H2:Hp}{s2:Sd}{Q:VK}{ad2:Li Ad}{ρ:Env}{st1 st':Za}{ys:Li D}(I2:L2.Inv X pQ σ H2 s2)(B:WA X.K tg xs bd ds)(T:Turn X.prog X.w X.K tg J fp it tn)(t2:tn 0 s2.heap)(f2:∀ b∈fp,FpOk X pQ H2 b)(E2:EnvOk X.K ad2 H2 σ ρ)(S2:StOk X.K ad2 H2 st1)(g2:Good ad2 H2)(hcomp:Yv ok (fun d s=>ev F ce (YZ bd ρ fr d) s) (fun d s=>ev F cc (YZ bd ρ fr d) s) ds st1=some (ys,st'))(hz:ds.length<=1000)(hp:Post X.K ad2 H2 (.lst st'.length) (st'++[(true,ys)]) Q)(hend:∀ C dd s5 H5 m',s5.heap.Ns C m'->(∀ h',Heap.SameBut C s5.heap h'->L2.Inv X pQ σ H5 { s5 with heap:=h' })->FpOk X pQ H5 C->Q (.ref dd) H5->compPost (model X.prog X.w) X.A X.xe use R0 (.ref dd) C (.ok .next) s5) :
  wpAny (model X.prog X.w) X.A (newList []) (fun acc s₃=>wpAny (model X.prog X.w) X.A (newFunctionEnv sc2 X.env.globals cl [] X.env.qual none .none (some X.env)) (fun cenv s₄=>
   codeAny (model X.prog X.w) X.A (.compStart (.ListComp elt [⟨tg,iter,ifs,0⟩] sc2 pos) 0 (.ref it) acc { cenv with scope:=relabel sc2 X.env }) (compPost (model X.prog X.w) X.A X.xe use R0 acc cenv.locals) s₄) X.xe s₃) X.xe s2:=by
 obtain⟨h1,h2,h3,h4,h5,h6⟩:=YG hsc;have fb:∀ b∈fp,b < s2.heap.objs.size:=fun b hb=>let ⟨o,e,_⟩:=T.obj 0 _ t2 b hb;Heap.lt_size e
 refine wpAny_newObj_type (wpAny_newFunctionEnv h2 (by intro y hy;simp at hy) (fun h₁ hns₁ hsb₁=>?_) h1)
 dsimp only at hns₁ hsb₁ ⊢;have I3:L2.Inv X pQ σ (upd H2 s2.heap.objs.size (.lst [])) { s2 with heap:=s2.heap.push { cls:=.type "list",dict:=none,data:=.seq ([]:Li vL).toArray } }:=I2.lnew (its:=[]) (t':=s2.toks) .nil (Nat.zero_le _)
 have e3:s2.heap.push { cls:=.type "list",dict:=none,data:=.seq ([]:Li vL).toArray }=({ s2 with heap:=s2.heap.push { cls:=.type "list",dict:=none,data:=.seq ([]:Li vL).toArray } }:Sd).heap:=rfl
 exact Zam Kx ihE hsc hfr hce hcc c1 c2 gm gw go stop yl B T t2 f2 fb E2 S2 g2 hcomp hz hp hend (I2.hok.fresh (Nat.le_refl _)) I3 (Heap.size_push ..) (fun z=>absurd (S2.lt I2 z) (Nat.lt_irrefl _)) hns₁ (fun b u e=>hsb₁.extBut b u (Nat.ne_of_lt (Heap.lt_size e)) (Heap.get?_push_of_some _ e)) (fun b u e=>Heap.get?_push_of_some _ e)
end
end Dp



namespace Dp
open PySem PySem.Spec PyProof.Rows L2
variable [ClsTab]
def Zac(X:Cx)(σ:L2.St)(ρ:Env)(ds:Li D)(ok:Za->Prop)(st1 st2:Za)(ys:Li D)(Q:VK)(J:It)(H1:Hp):Prop:=
 ∃ (ad1:Li Ad) (Good:Li Ad->Hp->Prop),(∀ ad H ad' H',Ext ad H ad' H'->Good ad H->Good ad' H')/\(∀ ad H p xs ys,H p=some (.lst xs)->Good ad H->Good ad (upd H p (.lst ys))) /\
  (∀ i ad H st,Good ad H->StOk X.K ad H st->ok st->i < ds.length->J.go i H)/\(∀ i ad H st,Good ad H->StOk X.K ad H st->ok st->ds.length=i->J.stop i H)/\(∀ i ad H st v H',Good ad H->StOk X.K ad H st->ok st->J.yld i H v H'->i < ds.length->Ext ad H ad H'/\StOk X.K ad H' st/\∃ d,ds[i]?=some d/\Den X.K ad H' v d) /\
  EnvOk X.K ad1 H1 σ ρ/\StOk X.K ad1 H1 st1/\Good ad1 H1/\Post X.K ad1 H1 (.lst st2.length) (st2++[(true,ys)]) Q
theorem Zdu{X:Cx}{σ:L2.St}{ρ:Env}{ds:Li D}{st st1 st2:Za}{ys:Li D}{Q:VK}{H:Hp}{ad:Li Ad}{f:Ev}(E:EnvOk X.K ad H σ ρ)(S:StOk X.K ad H st)(q:f ρ st=some (.tup ds,st1))(p:Post X.K ad H (.lst st2.length) (st2++[(true,ys)]) Q) :
  iTup X.K (tE X.K f) σ H (Zac X σ ρ ds (fun _=>True) st1 st2 ys Q):=by
 refine⟨ad,ρ,st,.tup ds,st1,E,S,q,fun v ad1 H1 x1 S1 d1=>?_⟩
 obtain⟨a,vs,rfl,ha,rv⟩:=d1.ofTup;refine⟨a,rfl,⟨vs,(ha).sq⟩,ad1,fun ad H=>TupAt X.K H a vs/\Dens X.K ad H vs ds,fun _ _ _ _ x g=>⟨g.1.mono x,g.2.mono x⟩,fun _ H p xs ys hp g=>⟨g.1.upd hp (by intro xs z;cases z),g.2.wr hp⟩,fun i ad H st g _ _ hi=>?_,fun i ad H st g _ _ hi=>⟨vs,(g.1).sq,by rw[g.2.length];exact Nat.le_of_eq hi⟩,
  fun i ad H st v H' g S _ y hi=>?_,E.mono x1,S1,⟨ha,rv⟩,p.later x1⟩
 ·obtain⟨v,e,_⟩:=g.2.get (Lg hi)
  exact⟨vs,v,(g.1).sq,e⟩
 ·obtain⟨w,e,dw⟩:=g.2.get (Lg hi)
  have:=y.2 vs ((g.1).sq);rw[e]at this;cases this
  cases y.1;exact⟨Ext.refl _ _,S,_,Lg hi,dw⟩
theorem Zds{X:Cx}{σ:L2.St}{ρ:Env}{n:Int}{st st1 st2:Za}{ys:Li D}{Q:VK}{H:Hp}{ad:Li Ad}{f:Ev}(hn:n < 2 ^ 62/\-(2 ^ 62)<=n)(E:EnvOk X.K ad H σ ρ)(S:StOk X.K ad H st)(q:f ρ st=some (.int n,st1))(p:Post X.K ad H (.lst st2.length) (st2++[(true,ys)]) Q) :
  iRng1 (tCons (tE X.K f) tNil) σ H (Zac X σ ρ ((List.range n.toNat).map fun(k:Nat)=>D.int (k:Int)) (fun _=>True) st1 st2 ys Q):=by
 refine⟨ad,ρ,st,.int n,st1,E,S,q,fun v ad1 H1 x1 S1 d1=>?_⟩
 cases d1.ofInt;refine⟨n,rfl,hn.2,hn.1,ad1,fun _ _=>True,fun _ _ _ _ _ _=>trivial,fun _ _ _ _ _ _ _=>trivial,fun i ad H st _ _ _ hi=>(show i < n.toNat by simpa using hi),fun i ad H st _ _ _ hi=>(show n.toNat<=i by simpa using Nat.le_of_eq hi),fun i ad H st v H' _ S _ y hi=>?_,E.mono x1,S1,trivial,p.later x1⟩
 cases y.1;have hi':i < n.toNat:=by simpa using hi
 refine⟨Ext.refl _ _,S,.int (i:Int),?_,?_⟩
 ·rw[List.getElem?_map,List.getElem?_range hi'];rfl
 ·rw[y.2,Int.zero_add];exact .int _
theorem Zdr{X:Cx}{σ:L2.St}{ρ:Env}{l:Nat}{c:Yp}{st st1 st2:Za}{ys:Li D}{Q:VK}{H:Hp}{ad:Li Ad}{f:Ev}(E:EnvOk X.K ad H σ ρ)(S:StOk X.K ad H st)(q:f ρ st=some (.lst l,st1))(hc:st1[l]?=some c)(p:Post X.K ad H (.lst st2.length) (st2++[(true,ys)]) Q) :
  iList X.K (tE X.K f) σ H (Zac X σ ρ c.2 (fun s=>s[l]?=some c) st1 st2 ys Q):=by
 refine⟨ad,ρ,st,.lst l,st1,E,S,q,fun v ad1 H1 x1 S1 d1=>?_⟩
 obtain⟨a,rfl,ha⟩:=d1.ofLst;obtain⟨vs,rv,sq⟩:=S1.list ha (show st1[l]?=some (c.1,c.2) from hc);refine⟨a,rfl,⟨vs,sq⟩,ad1,fun ad H=>LA ad H l a,fun _ _ _ _ x g=>g.mono x,fun _ _ _ _ _ e g=>⟨g.1,fun z=>g.2 ((QM e).mpr z)⟩,fun i ad H st g S e hi=>?_,fun i ad H st g S e hi=>?_,fun i ad H st v H' g S e y hi=>?_,E.mono x1,S1,ha,p.later x1⟩
 ·obtain⟨vs,rv,sq⟩:=S.list g (show st[l]?=some (c.1,c.2) from e)
  obtain⟨v,e,_⟩:=rv.get (Lg hi);exact⟨vs,v,sq,e⟩
 ·obtain⟨vs,rv,sq⟩:=S.list g (show st[l]?=some (c.1,c.2) from e)
  exact⟨vs,sq,by rw[rv.length];exact Nat.le_of_eq hi⟩
 ·obtain⟨vs,rv,sq⟩:=S.list g (show st[l]?=some (c.1,c.2) from e)
  obtain⟨w,e,dw⟩:=rv.get (Lg hi);have:=y.2 vs sq;rw[e]at this;cases this
  cases y.1;exact⟨Ext.refl _ _,S,_,Lg hi,dw⟩
theorem Zci{X:Cx}{σ:L2.St}{ρ:Env}{x0:D}{ds:Li D}{ok:Za->Prop}{st st1 st2:Za}{ys:Li D}{Q:VK}{H:Hp}{ad:Li Ad}{fa fb:Ev}(E:EnvOk X.K ad H σ ρ)(S:StOk X.K ad H st)(q:ZS fa fb JS ρ st=some (x0,st1))(hw:Qe false x0 st1=some (ds,ok))(p:Post X.K ad H (.lst st2.length) (st2++[(true,ys)]) Q) :
  iRng2 (tCons (tE X.K fa) (tCons (tE X.K fb) tNil)) σ H (Zac X σ ρ ds ok st1 st2 ys Q):=by
 unfold ZS at q;split at q
 ·rename_i da s1 qa
  split at q
  ·rename_i db s2 qb
   unfold JS at q;split at q
   ·rename_i a b
    split at q
    ·rename_i hr
     cases q;cases hw;unfold Xe at hr;simp only[decide_eq_true_eq]at hr;have hN:WT a b 1=(b - a).toNat:=by
      unfold WT;rw[if_pos (by decide)]
      split
      ·rw[Int.ediv_one];omega
      ·omega
     have hl:((XH a b 1).map D.int).length=(b - a).toNat:=by unfold XH;rw[List.length_map,List.length_map,List.length_range,hN]
     refine⟨ad,ρ,st,.int a,s1,E,S,qa,fun v ad1 H1 x1 S1 d1=>?_⟩
     cases d1.ofInt;refine⟨ad1,ρ,s1,.int b,_,E.mono x1,S1,qb,fun w ad2 H2 x2 S2 d2=>?_⟩
     cases d2.ofInt;refine⟨a,b,rfl,⟨by omega,by omega,by omega,by omega⟩,ad2,fun _ _=>True,fun _ _ _ _ _ _=>trivial,fun _ _ _ _ _ _ _=>trivial,fun i ad H st _ _ _ hi=>(show i < (b - a).toNat by omega),fun i ad H st _ _ _ hi=>(show(b - a).toNat<=i by omega),fun i ad H st v H' _ S _ y hi=>?_,E.mono (x1.trans x2),S2,trivial,p.later (x1.trans x2)⟩
     cases y.1;have hi':i < WT a b 1:=by omega
     refine⟨Ext.refl _ _,S,.int (a+(i:Int)),?_,?_⟩
     ·unfold XH
      rw[List.getElem?_map,List.getElem?_map,List.getElem?_range hi'];show some (D.int (a+(i:Int) * 1))=_;rw[Int.mul_one]
     ·rw[y.2];exact .int _
    ·exact Zb q
   ·exact Zb q
  ·exact Zb q
 ·exact Zb q
theorem Zdt{X:Cx}{σ:L2.St}{ρ:Env}{z:Str}{st st1 st2:Za}{ys:Li D}{Q:VK}{H:Hp}{ad:Li Ad}{f:Ev}(ha:z.cps.all (fun c=>decide (c < 128))=true)(E:EnvOk X.K ad H σ ρ)(S:StOk X.K ad H st)(q:f ρ st=some (.str z,st1))(p:Post X.K ad H (.lst st2.length) (st2++[(true,ys)]) Q) :
  ZkJ (tE X.K f) σ H (Zac X σ ρ ((chS z).map D.str) (fun _=>True) st1 st2 ys Q):=by
 refine⟨ad,ρ,st,.str z,st1,E,S,q,fun v ad1 H1 x1 S1 d1=>?_⟩
 cases d1;have hl:((chS z).map D.str).length=z.cps.size:=by simp[chS]
 refine⟨z,rfl,ha,ad1,fun _ _=>True,fun _ _ _ _ _ _=>trivial,fun _ _ _ _ _ _ _=>trivial,fun i ad H st _ _ _ hi=>(show i < z.cps.size by omega),fun i ad H st _ _ _ hi=>(show z.cps.size<=i by omega),fun i ad H st v H' _ S _ y hi=>?_,E.mono x1,S1,trivial,p.later x1⟩
 obtain⟨rfl,c,hc,rfl⟩:=y;refine⟨Ext.refl _ _,S,.str ⟨#[c]⟩,?_,.str _⟩;unfold chS;rw[List.getElem?_map,List.getElem?_map,Array.getElem?_toList,hc];rfl
theorem J8{xs ys:Li D}{i:Nat}(h:i < (J7 xs ys).length):∃ a b,xs[i]?=some a/\ys[i]?=some b/\(J7 xs ys)[i]?=some (.tup [a,b]):=by
 unfold J7 at h ⊢
 rw[List.length_map,List.length_zip]at h;have h1:i < xs.length:=by omega
 have h2:i < ys.length:=by omega
 refine⟨xs[i],ys[i],Lg h1,Lg h2,?_⟩;rw[List.getElem?_map,Lg (by rw[List.length_zip];omega),List.getElem_zip]
 rfl
theorem Zfr{xs ys:Li D}:∀ d∈J7 xs ys,∃ a b,d=.tup [a,b]:=fun d h=>by
 obtain⟨p,_,rfl⟩:=List.mem_map.mp h;exact⟨_,_,rfl⟩
theorem Zdv{X:Cx}{σ:L2.St}{ρ:Env}{x:D}{ds:Li D}{ok:Za->Prop}{st st1 st2:Za}{ys:Li D}{Q:VK}{H:Hp}{ad:Li Ad}{f:Ev}(E:EnvOk X.K ad H σ ρ)(S:StOk X.K ad H st)(q:f ρ st=some (x,st1))(hw:Uv x st1=some (ds,ok))(p:Post X.K ad H (.lst st2.length) (st2++[(true,ys)]) Q) :
  ZiZ X.K (tA X.K f) σ H (Zac X σ ρ ds ok st1 st2 ys Q):=by
 unfold Uv at hw;split at hw
 ·rename_i l zs
  split at hw
  ·rename_i c hc
   cases hw;refine⟨ad,ρ,st,_,st1,E,S,q,fun vs ad1 H1 x1 S1 d1=>?_⟩
   obtain⟨v1,v2,rfl,dv1,dv2⟩:∃ v1 v2,vs=[v1,v2]/\Den X.K ad1 H1 v1 (.lst l)/\Den X.K ad1 H1 v2 (.tup zs):=by
    cases d1 with
    |cons h1 d1=>
     cases d1 with
     |cons h2 d1=>cases d1;exact⟨_,_,rfl,h1,h2⟩
   obtain⟨a,rfl,ha⟩:=dv1.ofLst;obtain⟨b,ws,rfl,hb,rw0⟩:=dv2.ofTup;obtain⟨us,ru,squ⟩:=S1.list ha (show st1[l]?=some (c.1,c.2) from hc);refine⟨a,b,rfl,⟨us,squ⟩,⟨ws,hb.sq⟩,ad1,fun ad H=>LA ad H l a/\TupAt X.K H b ws/\Dens X.K ad H ws zs,fun _ _ _ _ x g=>⟨g.1.mono x,g.2.1.mono x,g.2.2.mono x⟩,fun _ _ _ _ _ e g=>⟨⟨g.1.1,fun z=>g.1.2 ((QM e).mpr z)⟩,g.2.1.upd e (by intro xs z;cases z),g.2.2.wr e⟩,fun i ad H st g S e hi=>?_,fun i ad H st g S e hi=>?_,fun i ad H st v H' g S e y hi=>?_,E.mono x1,S1,⟨ha,hb,rw0⟩,p.later x1⟩
   ·obtain⟨us,ru,squ⟩:=S.list g.1 (show st[l]?=some (c.1,c.2) from e)
    obtain⟨p1,p2,e1,e2,_⟩:=J8 hi;obtain⟨w1,f1,_⟩:=ru.get e1;obtain⟨w2,f2,_⟩:=g.2.2.get e2;exact⟨us,ws,w1,w2,squ,g.2.1.sq,f1,f2⟩
   ·obtain⟨us,ru,squ⟩:=S.list g.1 (show st[l]?=some (c.1,c.2) from e)
    refine⟨us,ws,squ,g.2.1.sq,?_⟩;rw[ru.length,g.2.2.length,<-hi];unfold J7;rw[List.length_map,List.length_zip];exact Nat.le_refl _
   ·obtain⟨us,ru,squ⟩:=S.list g.1 (show st[l]?=some (c.1,c.2) from e)
    obtain⟨p1,p2,e1,e2,e3⟩:=J8 hi;obtain⟨w1,f1,g1⟩:=ru.get e1;obtain⟨w2,f2,g2⟩:=g.2.2.get e2;obtain⟨T,y1,y2,rfl,hT,rfl,h1,h2⟩:=y;have z:=h1 us squ;rw[f1]at z;cases z
    have z:=h2 ws g.2.1.sq;rw[f2]at z;cases z
    exact⟨Ext.laid hT,S.laid hT,_,e3,.tup (.inl upd_same) (.cons (g1.mono (Ext.laid hT)) (.cons (g2.mono (Ext.laid hT)) .nil))⟩
  ·exact Zb hw
 ·exact Zb hw
theorem Zc2{x:D}{st:Za}{ds:Li D}{ok:Za->Prop}(h:Uv x st=some (ds,ok)):∀ d∈ds,∃ a b,d=.tup [a,b]:=by
 unfold Uv at h;split at h
 ·split at h
  ·cases h;exact Zfr
  ·exact Zb h
 ·exact Zb h
theorem ZcZ{tg:Expr}{xs:Li Str}(h:tgN tg=some xs):(∃ x px,tg=.Name x px/\xs=[x])\/∃ x y px py k tp,tg=.Tuple [.Name x px,.Name y py] k tp/\xs=[x,y]:=by
 unfold tgN at h;split at h
 ·cases h;exact .inl ⟨_,_,rfl,rfl⟩
 ·rename_i es k tp
  have nm:∀ {e:Expr}{x:Str},nmE e=some x->∃ p,e=.Name x p:=fun {e x} h=>by
   unfold nmE at h;split at h
   ·cases h;exact⟨_,rfl⟩
   ·exact Zb h
  cases es with
  |nil=>exact Zb h
  |cons a es=>cases es with
   |nil=>exact Zb h
   |cons b es=>cases es with
    |cons _ _=>exact Zb h
    |nil=>
     refine Z6 (P:=fun xs=>_\/∃ x y px py k' tp',Expr.Tuple [a,b] k tp=.Tuple [.Name x px,.Name y py] k' tp'/\xs=[x,y]) h fun x y hx hy=>?_
     obtain⟨px,rfl⟩:=nm hx;obtain⟨py,rfl⟩:=nm hy;exact .inr ⟨x,y,px,py,k,tp,rfl,rfl⟩
 ·exact Zb h
inductive CSh(G:Gs)(n:Nat)(sc:Scope)(N:List Str)(elt:Expr)(sc2:Scope):List Comprehension->CE->Prop
 |mk {tg it:Expr}{ifs:List Expr}{xs:List Str}{fr:List Nat}{r:Option (Option Bool)}{ci ce cc:CE} (htg:tgN tg=some xs) (hsc:Xu sc sc2 xs=true) (hfr:XC N (ZW sc2)=some fr) (hi:itC G sc it (cE G n sc N) xs=some (r,ci)) (hce:cE G n sc2 (xs++ZW sc2) elt=some ce) (hcc:(ifs=[]/\cc=.cst (.bl true))\/∃ e,ifs=[e]/\cE G n sc2 (xs++ZW sc2) e=some cc):CSh G n sc N elt sc2 [⟨tg,it,ifs,0⟩] (mkC r fr ci ce cc)
theorem Zf4{G:Gs}{n:Nat}{sc:Scope}{N:Li Str}{elt:Expr}{gens:Li Comprehension}{sc2:Scope}{pos:Pos}{c:CE}(h:cE G (n+1) sc N (.ListComp elt gens sc2 pos)=some c):CSh G n sc N elt sc2 gens c:=by
 replace h:ZhT G sc sc2 N (cE G n sc N) (cE G n sc2) elt gens=some c:=h;have no:∀ {P:Prop},(none:Ot CE)=some c->P:=fun z=>nomatch z
 cases gens with
 |nil=>exact no h
 |cons g gs=>
  obtain⟨tg,it,ifs,k⟩:=g;cases k with
  |negSucc _=>cases gs<;>exact no h
  |ofNat m=>cases m with
   |succ _=>cases gs<;>exact no h
   |zero=>cases gs with
    |cons _ _=>exact no h
    |nil=>
     replace h:(match tgN tg with
      |none=>none
      |some xs=>og (Xu sc sc2 xs=true) (o3 (fun fr p (q:CE×CE)=>mkC p.1 fr p.2 q.1 q.2) (XC N (ZW sc2)) (itC G sc it (cE G n sc N) xs) (o2 Prod.mk (cE G n sc2 (xs++ZW sc2) elt) (ifC (cE G n sc2 (xs++ZW sc2)) ifs))))=some c:=h
     cases htg:tgN tg with
     |none=>rw[htg]at h;cases h
     |some xs=>
      rw[htg]at h;refine XA h fun hsc h=>QU (P:=CSh G n sc N elt sc2 _) h fun fr p q hfr hi hq=>Z6 (P:=fun q:CE×CE=>CSh G n sc N elt sc2 _ (mkC p.1 fr p.2 q.1 q.2)) hq fun ce cc hce hcc=>.mk htg hsc hfr hi hce ?_
      cases ifs with
      |nil=>cases hcc;exact .inl ⟨rfl,rfl⟩
      |cons a l=>cases l with
       |nil=>exact .inr ⟨a,rfl,hcc⟩
       |cons _ _=>exact Zb hcc
inductive CR(b:D->List (Option D))(w:D->Za->Option (List D×(Za->Prop)))(fr:List Nat)(fi fe fc:Ev)(ρ:Env)(st:Za):D->Za->Prop
 |mk {x:D}{st1 st2:Za}{ds ys:List D}{ok:Za->Prop} (q1:fi ρ st=some (x,st1)) (q2:w x st1=some (ds,ok)) (hz:ds.length<=1000) (q3:Yv ok (fun d s=>fe (YZ b ρ fr d) s) (fun d s=>fc (YZ b ρ fr d) s) ds st1=some (ys,st2)):CR b w fr fi fe fc ρ st (.lst st2.length) (st2++[(true,ys)])
theorem XQ{b:D->Li (Ot D)}{w:D->Za->Ot (Li D×(Za->Prop))}{fr:Li Nat}{fi fe fc:Ev}{ρ:Env}{st:Za}{d:D}{st':Za}(e:W3 b w fr fi fe fc ρ st=some (d,st')):CR b w fr fi fe fc ρ st d st':=by
 unfold W3 at e;split at e
 ·split at e
  ·split at e
   ·split at e
    ·cases e;exact .mk ‹_› ‹_› ‹_› ‹_›
    ·exact Zb e
   ·exact Zb e
  ·exact Zb e
 ·exact Zb e
inductive CIt(X:Cx)(pQ:List (Addr×Obj))(s:Shared)(σ:L2.St)(ρ:Env)(tg it:Expr)(xs:List Str)(F:Nat->Fn)(fr:List Nat)(ce cc:CE)(Q:VK):Prop
 |mk {bd:D->List (Option D)}{ds:List D}{ok:Za->Prop}{st1 st2:Za}{ys:List D} (B:WA X.K tg xs bd ds) (hz:ds.length<=1000) (q3:Yv ok (fun d s=>ev F ce (YZ bd ρ fr d) s) (fun d s=>ev F cc (YZ bd ρ fr d) s) ds st1=some (ys,st2)) (hp:Zm it=true) (pi:wpAny (model X.prog X.w) X.A (eval it X.env) (fun v s1=>wpAny (model X.prog X.w) X.A (pyIter v) (PIE X pQ σ tg (Zac X σ ρ ds ok st1 st2 ys Q)) X.xe s1) X.xe s):CIt X pQ s σ ρ tg it xs F fr ce cc Q
theorem QO{α β:Type}{f:α->β}{o:Ot α}{b:β}(h:o.map f=some b):∃ a,o=some a/\f a=b:=by
 cases o with
 |none=>exact Zb h
 |some a=>exact⟨a,rfl,by cases h;rfl⟩
theorem Zf2{G:Gs}{F:Nat->Fn}{n:Nat}(ihE:ZC G F n){X:Cx}{sc:Scope}{N:Li Str}(Kx:Cxt X G F sc N){tg it:Expr}{xs:Li Str}{fr:Li Nat}{r:Ot (Ot Bool)}{ci ce cc:CE}(htg:tgN tg=some xs)(hi:itC G sc it (cE G n sc N) xs=some (r,ci)){pQ:Li (Ad×Obj)}{s:Sd}{σ:L2.St}{H:Hp}{Q:VK}(I:L2.Inv X pQ σ H s){ad:Li Ad}{ρ:Env}{st:Za}{d:D}{st':Za}(E:EnvOk X.K ad H σ ρ)(S:StOk X.K ad H st)(e:ev F (mkC r fr ci ce cc) ρ st=some (d,st'))(p:Post X.K ad H d st' Q):CIt X pQ s σ ρ tg it xs F fr ce cc Q:=by
 rcases ZcZ htg with⟨x,px,rfl,rfl⟩|⟨x,y,px,py,k,tp,rfl,rfl⟩
 ·replace hi:(match YQ G sc it with
   |some a=>(cE G n sc N a).map fun c=>(some (some true),c)
   |none=>match (fnA G sc "range" it).bind Zfl with
    |some p=>o2 (fun x y=>(some (some false),.rng2 x y)) (cE G n sc N p.1) (cE G n sc N p.2)
    |none=>(cE G n sc N it).map fun c=>(some (some false),c))=some (r,ci):=hi
  split at hi
  ·rename_i a ha
   obtain⟨ca,q,hi⟩:=QO hi;cases hi;obtain⟨hp,pi⟩:=Vb (tg:=.Name x px) Kx ha (Zh q) (ihE X sc N Kx a _ q).pe;cases XQ e with
   |@mk x0 st1 st2 ds ys ok q1 q2 hz q3=>
    refine .mk VB hz q3 hp (pi pQ s σ H _ I ?_);cases x0 with
    |int k=>
     have q2:(match (if k < 2 ^ 62/\-(2 ^ 62)<=k then some ((List.range k.toNat).map fun(k:Nat)=>D.int (k:Int)) else none) with
      |some xs=>some (xs,fun _=>True)
      |none=>none)=some (ds,ok):=q2
     by_cases hk:k < 2 ^ 62/\-(2 ^ 62)<=k
     ·rw[if_pos hk]at q2
      cases q2;exact Zds hk E S q1 p
     ·rw[if_neg hk]at q2
      cases q2
    |_=>exact Zb q2
  ·split at hi
   ·rename_i p hp2
    refine Z6 (P:=fun u:Ot (Ot Bool)×CE=>u=(r,ci)->CIt X pQ s σ ρ (.Name x px) it [x] F fr ce cc Q) hi (fun ca cb qa qb hu=>?_) rfl
    cases hu;obtain⟨as,h1,h2⟩:=Option.bind_eq_some_iff.mp hp2;obtain⟨pp,pos,rfl,hg,hm⟩:=Qy Kx h1;obtain⟨a,b⟩:=p;obtain rfl:as=[a,b]:=by
     cases as with
     |nil=>exact Zb h2
     |cons a0 as=>cases as with
      |nil=>exact Zb h2
      |cons b0 as=>cases as with
       |nil=>cases h2;rfl
       |cons _ _=>exact Zb h2
    cases XQ e with
    |@mk x0 st1 st2 ds ys ok q1 q2 hz q3=>
     refine .mk VB hz q3 rfl (pi_range2 hg hm (pa2 (Zh qa) (Zh qb) (ihE X sc N Kx a _ qa).pe (ihE X sc N Kx b _ qb).pe) (by rw[Zf (Zh qa),Zf (Zh qb)];rfl) (Zf (Zh qb)) pQ s σ H _ I (Zci E S q1 q2 p))
   ·obtain⟨ca,q,hi⟩:=QO hi
    cases hi;cases XQ e with
    |@mk x0 st1 st2 ds ys ok q1 q2 hz q3=>
     refine .mk VB hz q3 (Zh q) ?_;cases x0 with
     |tup xs=>cases q2;exact pi_tup (ihE X sc N Kx it _ q).pe pQ s σ H _ I (Zdu E S q1 p)
     |lst l=>
      have q2:(match st1[l]? with
       |some c=>some (c.2,fun s=>s[l]?=some c)
       |none=>none)=some (ds,ok):=q2
      cases q4:st1[l]? with
      |none=>rw[q4]at q2;cases q2
      |some c0=>
       rw[q4]at q2;cases q2;exact pi_list (ihE X sc N Kx it _ q).pe pQ s σ H _ I (Zdr E S q1 q4 p)
     |str z=>
      have q2:(if z.cps.all (fun c=>decide (c < 128))=true then some ((chS z).map D.str,fun _=>True) else none)=some (ds,ok):=q2
      by_cases ha:z.cps.all (fun c=>decide (c < 128))=true
      ·rw[if_pos ha]at q2
       cases q2;exact Zjq (ihE X sc N Kx it _ q).pe pQ s σ H _ I (Zdt ha E S q1 p)
      ·rw[if_neg ha]at q2
       cases q2
     |dct ks vs=>
      have no:∀ {v:V}{ad1:Li Ad}{H1:Hp},Den X.K ad1 H1 v (.dct ks vs)->False:=fun {v ad1 H1} d1=>by cases d1
      exact thn ((ihE X sc N Kx it _ q).pe pQ s σ H (fun _ _=>False) I ⟨ad,ρ,st,_,st1,E,S,q1,fun v ad1 H1 x1 S1 d1=>no d1⟩) fun v s1 ⟨x,H1,I1,r1,z⟩=>z.elim
     |_=>exact Zb q2
 ·replace hi:(match (fnA G sc "zip" it).bind Zfl with
   |some p=>o2 (fun x y=>(some none,CE.aC x (.aC y .aN))) (cE G n sc N p.1) (cE G n sc N p.2)
   |none=>(cE G n sc N it).map fun c=>(none,c))=some (r,ci):=hi
  split at hi
  ·rename_i pr hp2
   refine Z6 (P:=fun u:Ot (Ot Bool)×CE=>u=(r,ci)->CIt X pQ s σ ρ (.Tuple [.Name x px,.Name y py] k tp) it [x,y] F fr ce cc Q) hi (fun ca cb qa qb hu=>?_) rfl
   cases hu;obtain⟨as,h1,h2⟩:=Option.bind_eq_some_iff.mp hp2;obtain⟨pp,pos,rfl,hg,hm⟩:=Qy Kx h1;rw[ZhG h2];cases XQ e with
   |mk q1 q2 hz q3=>
    have PA0:PA X [pr.1,pr.2] (tA X.K (ev F (.aC ca (.aC cb .aN)))):=Ui (pa_cons (ihE X sc N Kx _ _ qa).pe (Ui (pa_cons (ihE X sc N Kx _ _ qb).pe (Ui pa_nil VW) (Zf (Zh qb))) WL) (Zf (Zh qa))) WL;exact .mk (Zde (Zc2 q2)) hz q3 rfl (ZeN hg hm PA0 (by rw[List.all_cons,List.all_cons,Zh qa,Zh qb];rfl) pQ s σ H _ I (Zdv E S q1 q2 p))
  ·obtain⟨ca,q,hi⟩:=QO hi
   cases hi;cases e
theorem Zbh{G:Gs}{F:Nat->Fn}{n:Nat}(ihE:ZC G F n){X:Cx}{sc:Scope}{N:Li Str}(Kx:Cxt X G F sc N){elt:Expr}{gens:Li Comprehension}{sc2:Scope}{pos:Pos}{c:CE}(h:cE G (n+1) sc N (.ListComp elt gens sc2 pos)=some c){pQ:Li (Ad×Obj)}{s:Sd}{σ:L2.St}{H:Hp}{Q:VK}(I:L2.Inv X pQ σ H s)(hq:tE X.K (ev F c) σ H Q){use:Ot (vL->Sem Unit)}{R0:vL->Sd->Prop}(hend:∀ C dd s5 H5 m',s5.heap.Ns C m'->(∀ h',Heap.SameBut C s5.heap h'->L2.Inv X pQ σ H5 { s5 with heap:=h' })->FpOk X pQ H5 C->Q (.ref dd) H5->compPost (model X.prog X.w) X.A X.xe use R0 (.ref dd) C (.ok .next) s5) :
  ∃ tg it ifs,gens=[⟨tg,it,ifs,0⟩]/\∀ pos',wpAny (model X.prog X.w) X.A (comprehension (.ListComp elt [⟨tg,it,ifs,0⟩] sc2 pos) sc2 X.env pos' (newList []) false (eval it X.env) use) R0 X.xe s:=by
 cases Zf4 h with
 |@mk tg it ifs xs fr r ci ce cc htg hsc hfr hi hce hcc=>
  obtain⟨h1,h2,h3,h4,h5,h6⟩:=YG hsc;obtain⟨ad,ρ,st,d,st',E,S,e,p⟩:=hq;obtain⟨cl,ec,c1,c2⟩:=Jj (env:=X.env) (sc:=sc2) (fun y hy hf=>by
   have hm:(y.1,NameKind.free)∈sc2.names:=by rw[<-hf];exact hy
   exact I.ok.has y.1 (Kx.cel y.1 (h6 y.1 (mem_frees.mpr hm)).1))
  refine⟨tg,it,ifs,rfl,fun pos'=>?_⟩
  cases Zf2 ihE Kx htg hi I E S e p with
  |mk B hz q3 hp pi=>
   refine wpAny_comprehension_free (use:=use) rfl (Z2 hp) ec h1 h4 (thn pi fun v s1 h1'=>thn h1' fun itv s2 h2'=>?_)
   obtain⟨ita,fp,tn,J,H2,rfl,I2,T,t2,f2,ad1,Good,gm,gw,go,stop,yl,E2,S2,g2,p2⟩:=h2';exact Zck Kx ihE hsc hfr hce hcc c1 c2 Good gm gw go stop yl I2 B T t2 f2 E2 S2 g2 q3 hz p2 hend
theorem Zf3{G:Gs}{F:Nat->Fn}:Xm G F:=by
 intro n ihE;refine⟨fun X sc N Kx elt gens sc2 pos c h=>SE.of ?_,fun X sc N K y i p elt gens sc2 epos pos c hi h hsw=>?_⟩
 ·intro pQ s σ H Q I hq
  obtain⟨tg,it,ifs,rfl,go⟩:=Zbh ihE Kx h I hq (use:=none) (R0:=EP X pQ σ Q) fun C dd s5 H5 m' hn hI _ q=>⟨m',hn,fun h' sb=>⟨.ref dd,H5,hI h' sb,rfl,q⟩⟩
  rw[eval_ListComp];exact go _
 ·intro pQ s σ H D I hq
  obtain⟨tg,it,ifs,rfl,go⟩:=Zbh ihE K.toCxt h I hq (use:=some (assign (.Name y p) X.env)) (R0:=fun _ s'=>SP X pQ D .next s') fun C dd s5 H5 m' hn hI fo q=>by
   have I5:=hI s5.heap (Heap.SameBut.refl _ _);show wpAny _ X.A (assign (.Name y p) X.env (.ref dd)) _ _ s5;refine wpAny_assign_Name (store_ok2 (v:=.ref dd) I5 (by rw[K.hN];exact K.nd) (by rw[K.hN];exact Wc hi) (K.loc _ (Qz hi)) rfl (fun s6 I6 ⟨a,sb,ha⟩=>?_) (.inl (K.fn _)))
   have ne:C≠a:=by
    rcases ha with z|z
    ·rw[z];exact fo.2.1
    ·exact fun w=>fo.2.2.2.2.1 _ _ z w.symm
   exact⟨m',hn.sameBut sb ne,fun h3 sb3=>⟨_,H5,I6.turned (t':=s6.toks) (fun b o hb e=>sb3.extBut b o hb e) fo.1 fo.2.1 fo.2.2.2.1 fo.2.2.2.2.1 fo.2.2.2.2.2,q⟩⟩
  rw[exec_Assign_Name_used _ _ _ _ hsw];refine wpAny_bind (wpAny_standAt (wpAny_bind ?_));show wpAny _ X.A (do let _ <-comprehension (.ListComp elt [⟨tg,it,ifs,0⟩] sc2 epos) sc2 X.env _ (newList []) false (eval it X.env) (some (assign (.Name y p) X.env))) _ _ s
  exact wpAny_bind (wpAny_mono (go _) (fun _ s' hq=>wpAny_pure (wpAny_pure hq)) fun _ _ e=>e)
end Dp


namespace Dp
open PySem

inductive P where
 |non|bl (b:Bool)|int (i:Int)|str (x:Str)|tup (xs:List P)|lst (m:Bool) (xs:List P)|dct (ks:List Str) (vs:List P)|obj (i:Nat)|kt (ks:List Str)|dic (m:Bool) (xs:List P)

mutual
noncomputable def noL:P->Bool
 |.tup xs=>JL xs
 |.lst _ _=>false
 |.dic _ _=>false
 |.dct _ vs=>JL vs
 |_=>true
noncomputable def JL:Li P->Bool
 |[]=>true
 |x :: xs=>noL x&&JL xs
end
mutual
noncomputable def ofD:D->Ot P
 |.non=>some .non
 |.bl b=>some (.bl b)
 |.int i=>some (.int i)
 |.str x=>some (.str x)
 |.tup xs=>(WQ xs).map .tup
 |.kt ks=>some (.kt ks)
 |_=>none
noncomputable def WQ:Li D->Ot (Li P)
 |[]=>some []
 |x :: xs=>match ofD x,WQ xs with
  |some y,some ys=>some (y :: ys)
  |_,_=>none
end
mutual
noncomputable def Jd:P->P->Bool
 |.non,.non=>true
 |.bl a,.bl b=>a==b
 |.int a,.int b=>decide (a=b)
 |.str a,.str b=>decide (a=b)
 |.tup a,.tup b=>Xq a b
 |_,_=>false
noncomputable def Xq:Li P->Li P->Bool
 |[],[]=>true
 |x :: xs,y :: ys=>Jd x y&&Xq xs ys
 |_,_=>false
end
mutual
noncomputable def okP:Nat->P->Bool
 |_,.non=>true
 |_,.int _=>true
 |_,.str _=>true
 |n+1,.tup xs=>UF n xs
 |_,_=>false
noncomputable def UF:Nat->Li P->Bool
 |_,[]=>true
 |n,x :: xs=>okP n x&&UF n xs
end
noncomputable def ZbF(_ _:Li P):Ot Bool:=none
noncomputable def scP:P->Ot Sc
 |.non=>some .non
 |.bl b=>some (.bl b)
 |.int i=>some (.int i)
 |.str x=>some (.str x)
 |_=>none
noncomputable def ZiR(xs ys:Li P):Ot Bool:=if (xs.isEmpty||ys.isEmpty)=true then some (xs.isEmpty&&ys.isEmpty) else if UF 7 xs&&UF 7 ys then some (Xq xs ys) else none
noncomputable def ZlX(xs:Li P):P->Ot Bool
 |.tup ys=>if okP 8 (.tup xs)&&okP 8 (.tup ys) then some (Xq xs ys) else ZbF xs ys
 |_=>none
noncomputable def ZlW(xs:Li P):P->Ot Bool
 |.lst _ ys=>ZiR xs ys
 |_=>none
noncomputable def eqP(x y:P):Ot Bool:=match x with
 |.tup xs=>ZlX xs y
 |.lst _ xs=>ZlW xs y
 |x=>(o2 ZdJ (scP x) (scP y)).join
noncomputable def Ve(op:Operator)(x y:P):Ot P:=
 match x,y with
 |.int i,.int j=>match Zaj op i j with
  |some k=>some (.int k)
  |none=>none
 |.tup xs,.tup ys=>if VY op=true/\xs.length+ys.length<=Zd then some (.tup (xs++ys)) else none
 |.str x,.str y=>if VY op=true/\x.length+y.length<=Zd then some (.str (x++y)) else none
 |_,_=>none
noncomputable def inP:Int->Li P->Ot Bool
 |_,[]=>some false
 |k,.int i :: r=>(inP k r).map fun b=>decide (i=k)||b
 |_,_=>none
noncomputable def ZcB:Str->Li P->Ot Bool
 |_,[]=>some false
 |k,.str i :: r=>(ZcB k r).map fun b=>decide (i=k)||b
 |_,_=>none
noncomputable def Zi6(k:Str):P->Bool
 |.tup [.str x,_]=>decide (x=k)
 |_=>false
noncomputable def Zlo:P->Ot P
 |.tup [_,v]=>some v
 |_=>none
noncomputable def Qu(xs:Li P)(k:Str):Ot P:=(xs.find? (Zi6 k)).bind Zlo
noncomputable def Zh0:Li P->Bool
 |.int _ :: _=>true
 |_=>false
noncomputable def Zf5(k:Str)(xs:Li P):Ot (Ot P):=if Zh0 xs=true then none else some (Qu xs k)
noncomputable def Xj:Li Str->Li P->Str->Ot P
 |k :: ks,v :: vs,x=>if k=x then some v else Xj ks vs x
 |_,_,_=>none
noncomputable def ZeF(f:Int->Int->Bool):P->P->Ot Bool
 |.int i,.int j=>some (f i j)
 |_,_=>none
noncomputable def ltP(x y:P):Ot Bool:=ZeF (fun i j=>decide (i < j)) x y
noncomputable def ZkS(x y:P):Ot Bool:=ltP x y
noncomputable def Zi3(x y:P):Ot Bool:=match x,y with
 |.int k,.lst _ xs=>inP k xs
 |.str k,.lst _ xs=>ZcB k xs
 |.int k,.tup xs=>inP k xs
 |.str k,.tup xs=>ZcB k xs
 |.str k,.dct ks vs=>some (Xj ks vs k).isSome
 |.str k,.kt ks=>some (ks.contains k)
 |.str k,.str x=>some (JM x k)
 |_,_=>none
noncomputable def niP(x y:P):Ot Bool:=match y with
 |.dct _ _=>none
 |y=>(Zi3 x y).map not
noncomputable def Zl3:P->Ot Bool
 |.non=>some true
 |.int _=>some false
 |.str _=>some false
 |.bl _=>some false
 |.tup _=>some false
 |.lst _ _=>some false
 |.dct _ _=>none
 |.obj _=>none
 |.kt _=>none
 |.dic _ _=>none
noncomputable def Zl1(b:Bool):P->Ot Bool
 |.bl a=>some (a==b)
 |_=>none
noncomputable def Zi7(x:P):P->Ot Bool
 |.non=>Zl3 x
 |.bl b=>Zl1 b x
 |_=>none
noncomputable def ZiJ(op:CmpOp)(x y:P):Ot Bool:=
 match op with
 |.Lt=>ZkS x y
 |.LtE=>ZeF (fun i j=>decide (i<=j)) x y
 |.Gt=>ZeF (fun i j=>decide (j < i)) x y
 |.GtE=>ZeF (fun i j=>decide (j<=i)) x y
 |.Eq=>eqP x y
 |.NotEq=>(eqP x y).map not
 |.In=>Zi3 x y
 |.NotIn=>niP x y
 |.Is=>Zi7 x y
 |.IsNot=>(Zi7 x y).map not
noncomputable def atP(xs:Li P)(i:Int):Ot P:=(ixN xs.length i).bind fun j=>xs[j]?
noncomputable def ixP:P->P->Ot P
 |.tup xs,.int i=>atP xs i
 |.lst _ xs,.int i=>atP xs i
 |.dct ks vs,.str k=>Xj ks vs k
 |.kt ks,.int i=>atP (ks.map .str) i
 |.dic _ xs,.str k=>(Zf5 k xs).join
 |.str x,.int i=>if x.length<=Zd then atP ((chS x).map .str) i else none
 |_,_=>none
noncomputable def UB(xs:Li P)(lo hi:Ot Int):Li P:=(xs.drop (sIx xs.length 0 lo)).take (sIx xs.length xs.length hi - sIx xs.length 0 lo)
noncomputable def Yh(x:P)(lo hi:Ot Int):Ot P:=
 match x with
 |.tup xs=>if sIx xs.length 0 lo=0/\sIx xs.length xs.length hi=xs.length then some (.tup xs) else some (.tup (UB xs lo hi))
 |.lst _ xs=>some (.lst true (UB xs lo hi))
 |.str x=>if x.length<=Zd then some (.str (Qr x lo hi)) else none
 |_=>none
noncomputable def WU:P->P->P->Ot P
 |x,.non,.non=>Yh x none none
 |x,.int i,.non=>Yh x (some i) none
 |x,.non,.int j=>Yh x none (some j)
 |x,.int i,.int j=>Yh x (some i) (some j)
 |_,_,_=>none
noncomputable def QJ:P->Ot P
 |.tup xs=>some (.int xs.length)
 |.lst _ xs=>some (.int xs.length)
 |.kt ks=>some (.int ks.length)
 |.str x=>if x.length<=Zd then some (.int x.length) else none
 |_=>none
noncomputable def Zi8(T:Ty):P->Ot Bool
 |.int _=>some (decide (T=.int))
 |.bl _=>some (decide (T=.int)||decide (T=.bool))
 |.str _=>some (decide (T=.str))
 |.tup _=>some (decide (T=.tuple))
 |.non=>some false
 |_=>none
noncomputable def Zau(T:Ty)(p:P):Ot P:=(Zi8 T p).map .bl
noncomputable def ZcQ:P->Ot P
 |.int i=>some (.int (-i))
 |_=>none
noncomputable def ZcR:P->Ot P
 |.bl k=>some (.bl (!k))
 |_=>none
noncomputable def Yu(op:CmpOp)(x y:P):Ot P:=(ZiJ op x y).map .bl
noncomputable def ZaC:P->Ot P
 |.tup xs=>some (.lst true xs)
 |_=>none
noncomputable def UO:P->P->Ot P
 |x,.tup xs=>if xs.length < 1000 then some (.tup (x :: xs)) else none
 |_,_=>none
noncomputable def ZbI:P->Ot P
 |.int i=>some (.int i)
 |_=>none

noncomputable def ZhF:P->P->Ot P
 |.str x,.tup [.str y]=>if y.length=1/\x.length<=Zd then some (.lst true ((WW x y).map .str)) else none
 |_,_=>none

noncomputable def VI(g:Li P->Ot P)(ds:Li D):P->Ot P
 |.tup xs=>match WQ ds with
  |some es=>g (xs++es)
  |none=>none
 |_=>none
noncomputable def WZ:P->Ot P
 |.tup xs=>some (.tup xs)
 |.lst _ xs=>some (.tup xs)
 |_=>none
noncomputable def QE:P->Ot P
 |.int i=>some (.int i)
 |.bl true=>some (.int 1)
 |.bl false=>some (.int 0)
 |.str x=>(match Wp x with
  |some i=>some (.int i)
  |none=>none)
 |_=>none
noncomputable def XJ:P->Ot P
 |.int i=>if ZE i=true then some (.str (Str.ofString (toString i))) else none
 |_=>none
noncomputable def Up:Li P->Ot (Li Str)
 |[]=>some []
 |.str x :: r=>(Up r).map (x :: ·)
 |_=>none
noncomputable def QF(ps:Li P):Ot P:=match Up ps with
 |some xs=>if (Qp xs).length<=Zd then some (.str ⟨(Qp xs).toArray⟩) else none
 |none=>none
noncomputable def V3(s:Str)(ps:Li P):Ot P:=match Up ps with
 |some xs=>if (Yx s xs).length<=Zd then some (.str ⟨(X2 s xs).toArray⟩) else none
 |none=>none
noncomputable def W7:P->P->Ot P
 |.str s,.lst _ ps=>if s.length=0 then QF ps else V3 s ps
 |_,_=>none
noncomputable def U8:P->P->Ot P
 |.int a,.int b=>if Xe a b 1=true then some (.dct [] [.int a,.int b]) else none
 |_,_=>none
noncomputable def XY:P->P->Ot P
 |.str x,.tup [.str y]=>some (.bl (stW x y))
 |_,_=>none
noncomputable def ZcO:P->P->Ot P
 |.int i,.int j=>some (.int (if j < i then j else i))
 |_,_=>none
noncomputable def ZcN:P->P->Ot P
 |.int i,.int j=>some (.int (if j > i then j else i))
 |_,_=>none
noncomputable def V6(ks:Li Str)(ds:Li D):P->Ot P
 |.str k=>(ZT ks ds k).bind ofD
 |_=>none
noncomputable def Xs:Li P->Ot (Li Bool)
 |[]=>some []
 |.bl b :: r=>(Xs r).map (b :: ·)
 |_=>none
noncomputable def XG(f:Li Bool->Bool):P->Ot P
 |.lst _ xs=>match Xs xs with
  |some bs=>some (.bl (f bs))
  |none=>none
 |_=>none

noncomputable def Ym(n:Int):Li P:=(List.range n.toNat).map fun(k:Nat)=>P.int (k:Int)
noncomputable def V2(rng:Bool)(x:P):Ot (Li P):=
 match rng,x with
 |true,.int n=>if n < 2 ^ 62/\-(2 ^ 62)<=n then some (Ym n) else none
 |false,.tup xs=>some xs
 |_,_=>none
noncomputable def YK(f c:P->Ot P):Li P->Ot (Li P)
 |[]=>some []
 |x :: xs=>match c x with
  |some (.bl true)=>match f x with
   |some y=>match YK f c xs with
    |some ys=>some (y :: ys)
    |none=>none
   |none=>none
  |some (.bl false)=>YK f c xs
  |_=>none
noncomputable def Yl(rng:Bool)(x:P):Ot (Li P):=match V2 rng x with
 |some xs=>some xs
 |none=>match rng,x with
  |false,.lst _ xs=>some xs
  |false,.str x=>if x.cps.all (fun c=>decide (c < 128))=true then some ((chS x).map .str) else none
  |false,.dct [] [.int a,.int b]=>some ((XH a b 1).map .int)
  |_,_=>none
noncomputable abbrev Zp:=Li (Ot P)
noncomputable abbrev PEv:=Zp->Ot P
noncomputable def pq1(fa:PEv)(g:P->Ot P):PEv:=fun π=>match fa π with
 |some x=>g x
 |none=>none
noncomputable def pq2(fa fb:PEv)(g:P->P->Ot P):PEv:=fun π=>match fa π with
 |some x=>match fb π with
  |some y=>g x y
  |none=>none
 |none=>none
noncomputable def pq3(fa fb fc:PEv)(g:P->P->P->Ot P):PEv:=fun π=>match fa π with
 |some x=>match fb π with
  |some y=>match fc π with
   |some z=>g x y z
   |none=>none
  |none=>none
 |none=>none
noncomputable def YD(fc ft ff:PEv):PEv:=fun π=>match fc π with
 |some (.bl true)=>ft π
 |some (.bl false)=>ff π
 |_=>none
noncomputable def Vj(i:Nat):PEv:=fun π=>match π[i]? with
 |some (some p)=>some p
 |_=>none
noncomputable def Wu(π:Zp)(fr:Li Nat)(p:P):Zp:=some p :: fr.map fun i=>(π[i]?).join
noncomputable def ZeQ(p:P):Li (Ot P):=[some p]
noncomputable def QZ:P->Li (Ot P)
 |.tup [a,b]=>[some a,some b]
 |_=>[]

noncomputable def ZbX(xs ys:Li P):Li P:=(xs.zip ys).map fun p=>.tup [p.1,p.2]
noncomputable def XO:P->Ot (Li P)
 |.tup [.lst _ xs,.tup ys]=>some (ZbX xs ys)
 |_=>none
noncomputable def YE(b:P->Li (Ot P))(π:Zp)(fr:Li Nat)(p:P):Zp:=b p++fr.map fun i=>(π[i]?).join
noncomputable def Z7(b:P->Li (Ot P))(w:P->Ot (Li P))(fr:Li Nat)(fi fe fc:PEv):PEv:=fun π=>match fi π with
 |some x=>match w x with
  |some xs=>if xs.length<=1000 then
    match YK (fun p=>fe (YE b π fr p)) (fun p=>fc (YE b π fr p)) xs with
    |some ys=>some (.lst true ys)
    |none=>none
   else none
  |none=>none
 |none=>none
noncomputable def pe(F:Nat->Li P->Ot P):CE->PEv
 |.var i=>Vj i
 |.cst d=>fun _=>ofD d
 |.bin op a b=>pq2 (pe F a) (pe F b) (Ve op)
 |.neg a=>pq1 (pe F a) ZcQ
 |.cmp op a b=>pq2 (pe F a) (pe F b) (Yu op)
 |.not a=>pq1 (pe F a) ZcR
 |.and a b=>YD (pe F a) (pe F b) (fun _=>some (.bl false))
 |.or a b=>YD (pe F a) (fun _=>some (.bl true)) (pe F b)
 |.ife c a b=>YD (pe F c) (pe F a) (pe F b)
 |.tupE a=>pe F a
 |.lstE a=>pq1 (pe F a) ZaC
 |.aN=>fun _=>some (.tup [])
 |.aC a r=>pq2 (pe F a) (pe F r) UO
 |.ix a b=>pq2 (pe F a) (pe F b) ixP
 |.slice a lo hi=>pq3 (pe F a) (pe F lo) (pe F hi) WU
 |.nop=>fun _=>some .non
 |.part a=>pq1 (pe F a) ZbI
 |.call f a ds=>pq1 (pe F a) (VI (F f) ds)
 |.len a=>pq1 (pe F a) QJ
 |.tOf a=>pq1 (pe F a) WZ
 |.listOf _=>fun _=>none
 |.intOf a=>pq1 (pe F a) QE
 |.min a b=>pq2 (pe F a) (pe F b) ZcO
 |.max a b=>pq2 (pe F a) (pe F b) ZcN
 |.isi T a=>pq1 (pe F a) (Zau T)
 |.rs _ _=>fun _=>none
 |.inv _=>fun _=>none
 |.tupR _=>fun _=>none
 |.look ks ds a=>pq1 (pe F a) (V6 ks ds)
 |.dget _ _ _=>fun _=>none
 |.inR _ _ _=>fun _=>none
 |.all a=>pq1 (pe F a) (XG fun l=>l.all id)
 |.any _=>fun _=>none
 |.comp rng fr it elt cnd=>Z7 ZeQ (Yl rng) fr (pe F it) (pe F elt) (pe F cnd)
 |.comp2 fr it elt cnd=>Z7 QZ XO fr (pe F it) (pe F elt) (pe F cnd)
 |.compT _ _ _ _=>fun _=>none
 |.lstR _ _=>fun _=>none
 |.new _=>fun _=>none
 |.meth _ _ _=>fun _=>none
 |.isc _ _=>fun _=>none
 |.tix o a=>pq2 (pe F o) (pe F a) ZhF
 |.dict _ _=>fun _=>none
 |.dnew=>fun _=>none
 |.strOf a=>pq1 (pe F a) XJ
 |.joinE a b=>pq2 (pe F a) (pe F b) W7
 |.starts a b=>pq2 (pe F a) (pe F b) XY
 |.rng2 a b=>pq2 (pe F a) (pe F b) U8
 |.srt _=>fun _=>none

noncomputable def noM(M:Li Nat):CE->Bool
 |.var i=>!M.contains i
 |.cst _=>true
 |.bin _ a b=>noM M a&&noM M b
 |.neg a=>noM M a
 |.cmp _ a b=>noM M a&&noM M b
 |.not a=>noM M a
 |.and a b=>noM M a&&noM M b
 |.or a b=>noM M a&&noM M b
 |.ife c a b=>noM M c&&(noM M a&&noM M b)
 |.tupE a=>noM M a
 |.lstE a=>noM M a
 |.aN=>true
 |.aC a r=>noM M a&&noM M r
 |.ix a b=>noM M a&&noM M b
 |.slice a lo hi=>noM M a&&(noM M lo&&noM M hi)
 |.nop=>true
 |.part a=>noM M a
 |.call _ a _=>noM M a
 |.len a=>noM M a
 |.tOf a=>noM M a
 |.listOf a=>noM M a
 |.intOf a=>noM M a
 |.min a b=>noM M a&&noM M b
 |.max a b=>noM M a&&noM M b
 |.isi _ a=>noM M a
 |.rs _ a=>noM M a
 |.inv a=>noM M a
 |.tupR a=>noM M a
 |.look _ _ a=>noM M a
 |.dget a k d=>noM M a&&(noM M k&&noM M d)
 |.inR _ a b=>noM M a&&noM M b
 |.all a=>noM M a
 |.any a=>noM M a
 |.comp _ fr it _ _=>noM M it&&fr.all fun i=>!M.contains i
 |.comp2 fr it _ _=>noM M it&&fr.all fun i=>!M.contains i
 |.compT fr it _ _=>noM M it&&fr.all fun i=>!M.contains i
 |.lstR a b=>noM M a&&noM M b
 |.new _=>true
 |.meth _ o a=>noM M o&&noM M a
 |.isc _ a=>noM M a
 |.tix o a=>noM M o&&noM M a
 |.dict _ a=>noM M a
 |.dnew=>true
 |.strOf a=>noM M a
 |.joinE a b=>noM M a&&noM M b
 |.starts a b=>noM M a&&noM M b
 |.rng2 a b=>noM M a&&noM M b
 |.srt a=>noM M a
noncomputable def V1(_:Nat):Bool:=false
noncomputable def Vl:CE->Bool
 |.call f _ _=>V1 f
 |.bin _ _ _=>true
 |.lstE _=>true
 |.slice _ _ _=>true
 |.comp ..=>true
 |.comp2 ..=>true
 |_=>false
noncomputable def ZN:CS->Li Nat
 |.seq a b=>ZN a++ZN b
 |.app i _=>[i]
 |.ext i _=>[i]
 |.put i _ _=>[i]
 |.dput i _ _ _=>[i]
 |.ite _ a b=>ZN a++ZN b
 |.for1 _ _ _ b=>ZN b
 |.for3 _ _ b=>ZN b
 |.forP _ _ _ b=>ZN b
 |.forE _ _ _ b=>ZN b
 |.for4 _ _ _ _ b=>ZN b
 |.for2 _ _ _ b=>ZN b
 |.whl _ b=>ZN b
 |_=>[]
noncomputable def mvT:CE->Li Nat
 |.var j=>[j]
 |_=>[]
noncomputable def Z4:CS->Li Nat
 |.seq a b=>Z4 a++Z4 b
 |.app i _=>[i]
 |.ext i _=>[i]
 |.put i _ _=>[i]
 |.dput i _ _ _=>[i]
 |.set i e=>i :: mvT e
 |.set2 i j _=>[i,j]
 |.set3 i j l _=>[i,j,l]
 |.ite _ a b=>Z4 a++Z4 b
 |.for1 i _ _ b=>i :: Z4 b
 |.for3 i _ b=>i :: Z4 b
 |.forP i j _ b=>i :: j :: Z4 b
 |.forE i j _ b=>i :: j :: Z4 b
 |.for4 i j l _ b=>i :: j :: l :: Z4 b
 |.for2 i j _ b=>i :: j :: Z4 b
 |.whl _ b=>Z4 b
 |_=>[]
inductive PFl where
 |nx (π:Zp)|rt (p:P)|bk (π:Zp)|ct (π:Zp)
noncomputable abbrev PEx:=Zp->Ot PFl
noncomputable def ZM(π:Zp)(i:Nat)(p:P):Zp:=π.set i (some p)
noncomputable def Z5(body:P->Zp->Ot PFl):Li P->Zp->Ot PFl
 |[],π=>some (.nx π)
 |d :: ds,π=>match body d π with
  |some (.nx π')=>Z5 body ds π'
  |some (.ct π')=>Z5 body ds π'
  |some (.bk π')=>some (.nx π')
  |some (.rt v)=>some (.rt v)
  |none=>none
noncomputable def ZeS(f g:PEx):PEx:=fun π=>match f π with
 |some (.nx π')=>g π'
 |r=>r
noncomputable def ZeR(f:PEv):PEx:=fun π=>match f π with
 |some d=>some (.rt d)
 |none=>none
noncomputable def ZP(M:Li Nat)(e:CE)(p:P):Bool:=noM M e||noL p

noncomputable def YV(M:Li Nat)(e:CE)(p:P):Bool:=match p with
 |.lst true xs=>Vl e&&(noM M e||JL xs)
 |_=>false
noncomputable def ZaL(M:Li Nat)(i:Nat)(e:CE)(f:PEv):PEx:=fun π=>match f π with
 |some p=>if (if M.contains i then YV M e p else ZP M e p||YV M e p) then some (.nx (ZM π i p)) else none
 |none=>none
noncomputable def ZeH(M:Li Nat)(i:Nat)(e:CE)(f:PEv):PEx:=fun π=>match π[i]? with
 |some (some (.lst true xs))=>match f π with
  |some p=>if M.contains i&&ZP M e p&&decide (xs.length < Zd) then some (.nx (ZM π i (.lst true (xs++[p])))) else none
  |none=>none
 |_=>none
noncomputable def ZeM(M:Li Nat)(i:Nat)(e:CE)(f:PEv):PEx:=fun π=>match π[i]? with
 |some (some (.lst true xs))=>match f π with
  |some (.lst true ys)=>if M.contains i&&noM M e&&decide (xs.length+ys.length<=Zd) then some (.nx (ZM π i (.lst true (xs++ys)))) else none
  |_=>none
 |_=>none


noncomputable def ZeO(c:PEv)(f g:PEx):PEx:=fun π=>match c π with
 |some (.bl true)=>f π
 |some (.bl false)=>g π
 |_=>none
noncomputable def Za3(M T:Li Nat)(e:CE)(xs:Li P):Bool:=noM M e||(Vl e&&JL xs)||(match e with
 |.var j=>!T.contains j
 |_=>false)
noncomputable def ZaK(M T:Li Nat)(i:Nat)(rng:Bool)(e:CE)(it:PEv)(b:PEx):PEx:=fun π=>match it π with
 |some x=>match V2 rng x with
  |some xs=>if !M.contains i&&(rng||ZP M e x) then Z5 (fun d π=>b (ZM π i d)) xs π else none
  |none=>match rng,x with
   |false,.lst _ xs=>if !M.contains i&&Za3 M T e xs then Z5 (fun d π=>b (ZM π i d)) xs π else none
   |_,_=>none
 |none=>none
noncomputable def Xk(body:P->P->Zp->Ot PFl):Li (P×P)->Zp->Ot PFl
 |[],π=>some (.nx π)
 |p :: ps,π=>match body p.1 p.2 π with
  |some (.nx π')=>Xk body ps π'
  |some (.ct π')=>Xk body ps π'
  |some (.bk π')=>some (.nx π')
  |some (.rt v)=>some (.rt v)
  |none=>none
noncomputable def JO(M:Li Nat)(i j:Nat)(e:CE)(it:PEv)(b:PEx):PEx:=fun π=>match it π with
 |some (.tup [.lst _ xs,.tup ys])=>if !M.contains i&&!M.contains j&&noM M e then Xk (fun x y π=>b (ZM (ZM π i x) j y)) (xs.zip ys) π else none
 |_=>none


noncomputable def px(F:Nat->Li P->Ot P)(M:Li Nat):CS->PEx
 |.skip=>fun π=>some (.nx π)
 |.seq a b=>ZeS (px F M a) (px F M b)
 |.ret e=>ZeR (pe F e)
 |.set i e=>ZaL M i e (pe F e)
 |.set2 _ _ _=>fun _=>none
 |.app i e=>ZeH M i e (pe F e)
 |.ext i e=>ZeM M i e (pe F e)
 |.put _ _ _=>fun _=>none
 |.ite c a b=>ZeO (pe F c) (px F M a) (px F M b)
 |.for1 i rng it b=>ZaK M (Z4 b) i rng it (pe F it) (px F M b)
 |.forP i j it b=>JO M i j it (pe F it) (px F M b)
 |.forE _ _ _ _=>fun _=>none
 |.for3 _ _ _=>fun _=>none
 |.for4 _ _ _ _ _=>fun _=>none
 |.for2 _ _ _ _=>fun _=>none
 |.whl _ _=>fun _=>none
 |.brk=>fun π=>some (.bk π)
 |.cont=>fun π=>some (.ct π)
 |.stop=>fun _=>none
 |.app2 _ _=>fun _=>none
 |.set3 _ _ _ _=>fun _=>none
 |.act _=>fun _=>none
 |.dput _ _ _ _=>fun _=>none
noncomputable def fnP(F:Nat->Li P->Ot P)(f:FD):Li P->Ot P:=fun ds=>
 if ds.length=f.ps/\(ZN f.body).all (fun i=>decide (f.ps<=i))=true then
  match px F (ZN f.body) f.body (ds.map some++List.replicate (f.ns - ds.length) none) with
  |some (.rt d)=>some d
  |some (.nx _)=>some .non
  |_=>none
 else none
noncomputable def Xl:CS->Bool
 |.seq a b=>Xl a&&Xl b
 |.ret _=>false
 |.ite _ a b=>Xl a&&Xl b
 |.for1 _ _ _ b=>Xl b
 |.for3 _ _ b=>Xl b
 |.forP _ _ _ b=>Xl b
 |.forE _ _ _ b=>Xl b
 |.for4 _ _ _ _ b=>Xl b
 |.for2 _ _ _ b=>Xl b
 |.whl _ b=>Xl b
 |_=>true
noncomputable def ZbU(M:Li Nat):CS->Bool
 |.seq (.ret (.var j)) .skip=>M.contains j
 |.seq a b=>Xl a&&ZbU M b
 |_=>false
noncomputable def Ub(f:FD):Bool:=ZbU (ZN f.body) f.body
noncomputable def Zj(T:Nat->Ot FD):Nat->Nat->Li P->Ot P
 |0,_=>fun _=>none
 |n+1,i=>match T i with
  |some f=>if (V1 i&&!Ub f)=true then fun _=>none else fnP (Zj T n) f
  |none=>fun _=>none
end Dp


namespace Dp
open PySem
abbrev Fz:=Nat->Prop
mutual
inductive Rel(fz:Fz)(st:Za):P->D->Prop where
 |non:Rel fz st .non .non
 |bl (b:Bool):Rel fz st (.bl b) (.bl b)
 |int (i:Int):Rel fz st (.int i) (.int i)
 |str (x:Str):Rel fz st (.str x) (.str x)
 |tup {ps:List P}{ds:List D} (r:Rels fz st ps ds):Rel fz st (.tup ps) (.tup ds)
 |lst {j:Nat}{m:Bool}{ps:List P}{ds:List D} (hz:fz j) (h:st[j]?=some (m,ds)) (r:Rels fz st ps ds):Rel fz st (.lst m ps) (.lst j)
 |dct {ks:List Str}{ps:List P}{ds:List D} (r:Rels fz st ps ds):Rel fz st (.dct ks ps) (.dct ks ds)
 |obj (i:Nat):Rel fz st (.obj i) (.obj i)
 |kt (ks:List Str):Rel fz st (.kt ks) (.kt ks)
 |dic {j:Nat}{m:Bool}{ps:List P}{ds:List D} (hz:fz j) (h:st[j]?=some (m,ds)) (r:Rels fz st ps ds):Rel fz st (.dic m ps) (.dic j)
inductive Rels(fz:Fz)(st:Za):List P->List D->Prop where
 |nil:Rels fz st [] []
 |cons {p:P}{d:D}{ps:List P}{ds:List D} (h:Rel fz st p d) (r:Rels fz st ps ds):Rels fz st (p :: ps) (d :: ds)
end
section
variable {fz fz':Fz}{st st':Za}
theorem Rel.mono(h1:∀ i,fz i->fz' i)(h2:∀ i,fz i->st'[i]?=st[i]?){p:P}{d:D}(h:Rel fz st p d):Rel fz' st' p d:=
 Rel.rec (motive_1:=fun p d _=>Rel fz' st' p d) (motive_2:=fun ps ds _=>Rels fz' st' ps ds) .non .bl .int .str (fun _ r=>.tup r) (fun hz h _ r=>.lst (h1 _ hz) (by rw[h2 _ hz];exact h) r) (fun _ r=>.dct r) .obj .kt (fun hz h _ r=>.dic (h1 _ hz) (by rw[h2 _ hz];exact h) r) .nil (fun _ _ a b=>.cons a b) h
theorem Rels.mono(h1:∀ i,fz i->fz' i)(h2:∀ i,fz i->st'[i]?=st[i]?){ps:Li P}{ds:Li D}(h:Rels fz st ps ds):Rels fz' st' ps ds:=
 Rels.rec (motive_1:=fun _ _ _=>True) (motive_2:=fun ps ds _=>Rels fz' st' ps ds) trivial (fun _=>trivial) (fun _=>trivial) (fun _=>trivial) (fun _ _=>trivial) (fun _ _ _ _=>trivial) (fun _ _=>trivial) (fun _=>trivial) (fun _=>trivial) (fun _ _ _ _=>trivial) .nil (fun a _ _ b=>.cons (a.mono h1 h2) b) h
theorem Rel.ofNoL{p:P}{d:D}(hn:noL p=true)(h:Rel fz st p d):Rel fz' st' p d:=
 Rel.rec (motive_1:=fun p d _=>noL p=true->Rel fz' st' p d) (motive_2:=fun ps ds _=>JL ps=true->Rels fz' st' ps ds) (fun _=>.non) (fun _ _=>.bl _) (fun _ _=>.int _) (fun _ _=>.str _) (fun _ r h=>.tup (r h)) (fun _ _ _ _ h=>by cases h) (fun _ r h=>.dct (r h)) (fun _ _=>.obj _) (fun _ _=>.kt _) (fun _ _ _ _ h=>by cases h) (fun _=>.nil) (fun _ _ a b h=>.cons (a (Bool.and_eq_true_iff.mp h).1) (b (Bool.and_eq_true_iff.mp h).2)) h hn
theorem Rels.ofNoL{ps:Li P}{ds:Li D}(hn:JL ps=true)(h:Rels fz st ps ds):Rels fz' st' ps ds:=by
 induction ps generalizing ds with
 |nil=>cases h;exact .nil
 |cons p ps ih=>cases h with
  |cons a r=>exact .cons (a.ofNoL (Bool.and_eq_true_iff.mp hn).1) (ih (Bool.and_eq_true_iff.mp hn).2 r)
theorem Rels.length:∀ {ps:Li P}{ds:Li D},Rels fz st ps ds->ps.length=ds.length
 |_,_,.nil=>rfl
 |_,_,.cons _ r=>congrArg (·+1) (Rels.length r)
theorem Rels.get:∀ {ps:Li P}{ds:Li D}{i:Nat}{p:P},Rels fz st ps ds->ps[i]?=some p->∃ d,ds[i]?=some d/\Rel fz st p d
 |_,_,_,_,.nil,e=>by simp at e
 |_,_,0,_,.cons h _,e=>by simp at e;subst e;exact⟨_,rfl,h⟩
 |_,_,i+1,p,.cons _ r,e=>by
  obtain⟨v,h1,h2⟩:=Rels.get (i:=i) (p:=p) r (by simpa using e)
  exact⟨v,by simpa using h1,h2⟩
theorem Rels.append:∀ {ps qs:Li P}{ds es:Li D},Rels fz st ps ds->Rels fz st qs es->Rels fz st (ps++qs) (ds++es)
 |_,_,_,_,.nil,s=>s
 |_,_,_,_,.cons h r,s=>.cons h (Rels.append r s)
theorem Rels.take:∀ {ps:Li P}{ds:Li D} (n:Nat),Rels fz st ps ds->Rels fz st (ps.take n) (ds.take n)
 |_,_,0,_=>.nil
 |_,_,_+1,.nil=>.nil
 |_,_,n+1,.cons h r=>.cons h (Rels.take n r)
theorem Rels.drop:∀ {ps:Li P}{ds:Li D} (n:Nat),Rels fz st ps ds->Rels fz st (ps.drop n) (ds.drop n)
 |_,_,0,r=>r
 |_,_,_+1,.nil=>.nil
 |_,_,n+1,.cons _ r=>Rels.drop n r
mutual
theorem Rel.ofConst:∀ {d:D}{p:P},ofD d=some p->Rel fz st p d
 |.non,p,h=>by cases h;exact .non
 |.bl b,p,h=>by cases h;exact .bl b
 |.int i,p,h=>by cases h;exact .int i
 |.str x,p,h=>by cases h;exact .str x
 |.tup xs,p,h=>by
  have h:(WQ xs).map P.tup=some p:=h;cases q:WQ xs with
  |none=>rw[q]at h;cases h
  |some ys=>rw[q]at h;cases h;exact .tup (Rels.ofConst q)
 |.lst _,p,h=>by cases h
 |.dct _ _,p,h=>by cases h
 |.obj _,p,h=>by cases h
 |.kt ks,p,h=>by cases h;exact .kt ks
theorem Rels.ofConst:∀ {ds:Li D}{ps:Li P},WQ ds=some ps->Rels fz st ps ds
 |[],ps,h=>by cases h;exact .nil
 |d :: ds,ps,h=>by
  have h:(match ofD d,WQ ds with
   |some y,some ys=>some (y :: ys)
   |_,_=>none)=some ps:=h
  split at h
  ·rename_i y ys h1 h2
   cases h;exact .cons (Rel.ofConst h1) (Rels.ofConst h2)
  ·exact Zb h
end
end
def Bd(fz:Fz)(st:Za):Prop:=∀ i,fz i->i < st.length
structure Next(fz:Fz)(st:Za)(fz':Fz)(st':Za):Prop where
 old:∀ i,i < st.length->st'[i]?=st[i]?
 len:st.length<=st'.length
 sub:∀ i,fz i->fz' i
 new:∀ i,fz' i->fz i\/st.length<=i
 bd:Bd fz' st'
section
variable {fz fz' fz1 fz2:Fz}{st st' st1 st2:Za}
theorem Next.refl(b:Bd fz st):Next fz st fz st:=⟨fun _ _=>rfl,Nat.le_refl _,fun _ h=>h,fun _ h=>.inl h,b⟩
theorem Next.trans(x:Next fz st fz1 st1)(y:Next fz1 st1 fz2 st2):Next fz st fz2 st2:=
 ⟨fun i h=>(y.old i (Nat.lt_of_lt_of_le h x.len)).trans (x.old i h),Nat.le_trans x.len y.len,fun i h=>y.sub i (x.sub i h),fun i h=>(y.new i h).elim (x.new i) fun z=>.inr (Nat.le_trans x.len z),y.bd⟩
theorem Next.small(b:Bd fz st)(x:Next fz1 st fz' st'):Next fz st fz st':=⟨x.old,x.len,fun _ h=>h,fun _ h=>.inl h,fun i h=>Nat.lt_of_lt_of_le (b i h) x.len⟩
theorem Rel.next{p:P}{d:D}(b:Bd fz st)(x:Next fz st fz' st')(r:Rel fz st p d):Rel fz' st' p d:=r.mono x.sub fun i h=>x.old i (b i h)
theorem Rels.next{p:Li P}{d:Li D}(b:Bd fz st)(x:Next fz st fz' st')(r:Rels fz st p d):Rels fz' st' p d:=r.mono x.sub fun i h=>x.old i (b i h)
theorem Zid{α:Type}{l:Li α}{x:α}:(l++[x])[l.length]?=some x:=by simp
theorem ZeT{m:Bool}{ds:Li D}(b:Bd fz st):Next fz st fz (st++[(m,ds)]):=
 ⟨fun i h=>by rw[List.getElem?_append_left h],by simp,fun _ h=>h,fun _ h=>.inl h,fun i h=>by have:=b i h;simp;omega⟩
theorem ZaM{m:Bool}{ds:Li D}(b:Bd fz st):Next fz st (fun i=>fz i\/i=st.length) (st++[(m,ds)]):=
 ⟨fun i h=>by rw[List.getElem?_append_left h],by simp,fun _ h=>.inl h,fun i h=>h.elim .inl fun z=>.inr (by omega),fun i h=>by
  rcases h with h|h
  ·have:=b i h;simp;omega
  ·simp;omega⟩
theorem JQ{m:Bool}{ps:Li P}{ds:Li D}(b:Bd fz st)(r:Rels fz st ps ds):Rel (fun i=>fz i\/i=st.length) (st++[(m,ds)]) (.lst m ps) (.lst st.length):=
 .lst (.inr rfl) Zid (r.next b (ZaM b))
end
abbrev Gives(fz:Fz)(st:Za)(r:Res)(p:P):Prop:=∃ d st' fz',r=some (d,st')/\Next fz st fz' st'/\Rel fz' st' p d
def Op1(o:D->Za->Res)(O:P->Ot P):Prop:=∀ fz st x dx p,Bd fz st->Rel fz st x dx->O x=some p->Gives fz st (o dx st) p
def Op2(o:D->D->Za->Res)(O:P->P->Ot P):Prop:=∀ fz st x y dx dy p,Bd fz st->Rel fz st x dx->Rel fz st y dy->O x y=some p->Gives fz st (o dx dy st) p
def Op3(o:D->D->D->Za->Res)(O:P->P->P->Ot P):Prop:=∀ fz st x y z dx dy dz p,Bd fz st->Rel fz st x dx->Rel fz st y dy->Rel fz st z dz->O x y z=some p->Gives fz st (o dx dy dz st) p
abbrev Makes(fz:Fz)(st:Za)(r:Res)(m:Bool)(ps:Li P):Prop:=∃ ds,r=some (.lst st.length,st++[(m,ds)])/\Rels fz st ps ds
def Zkh(o:D->Za->Res)(O:P->Ot P):Prop:=∀ fz st x dx m ps,Bd fz st->Rel fz st x dx->O x=some (.lst m ps)->Makes fz st (o dx st) m ps
def Zki(o:D->D->Za->Res)(O:P->P->Ot P):Prop:=∀ fz st x y dx dy m ps,Bd fz st->Rel fz st x dx->Rel fz st y dy->O x y=some (.lst m ps)->Makes fz st (o dx dy st) m ps
def Zkj(o:D->D->D->Za->Res)(O:P->P->P->Ot P):Prop:=∀ fz st x y z dx dy dz m ps,Bd fz st->Rel fz st x dx->Rel fz st y dy->Rel fz st z dz->O x y z=some (.lst m ps)->Makes fz st (o dx dy dz st) m ps
theorem Gives.same{fz:Fz}{st:Za}{p:P}{d:D}(b:Bd fz st)(r:Rel fz st p d):Gives fz st (some (d,st)) p:=⟨d,st,fz,rfl,Next.refl b,r⟩
theorem Makes.gives{fz:Fz}{st:Za}{r:Res}{m:Bool}{ps:Li P}(b:Bd fz st)(h:Makes fz st r m ps):Gives fz st r (.lst m ps):=by
 obtain⟨ds,e,rr⟩:=h;exact⟨_,_,_,e,ZaM b,JQ b rr⟩
section
mutual
theorem ZaI{fz:Fz}{st:Za}:∀ {n:Nat}{p:P}{d:D},Rel fz st p d->okP n p=okD n d
 |n,_,_,.non=>by cases n<;>rfl
 |n,_,_,.bl b=>by cases n<;>rfl
 |n,_,_,.int i=>by cases n<;>rfl
 |n,_,_,.str x=>by cases n<;>rfl
 |0,_,_,.tup r=>rfl
 |n+1,_,_,.tup r=>Vo r
 |n,_,_,.lst _ _ _=>by cases n<;>rfl
 |n,_,_,.dct _=>by cases n<;>rfl
 |n,_,_,.obj _=>by cases n<;>rfl
 |n,_,_,.kt _=>by cases n<;>rfl
 |n,_,_,.dic _ _ _=>by cases n<;>rfl
theorem Vo{fz:Fz}{st:Za}:∀ {n:Nat}{p:Li P}{d:Li D},Rels fz st p d->UF n p=Y0 n d
 |_,_,_,.nil=>rfl
 |n,p :: ps,d :: ds,.cons h r=>by
  show(okP n p&&UF n ps)=(okD n d&&Y0 n ds);rw[ZaI h,Vo r]
end
mutual
theorem ZfM{fz:Fz}{st:Za}:∀ {p q:P}{d e:D},Rel fz st p d->Rel fz st q e->Jd p q=ZV d e
 |_,_,_,_,.non,h=>by cases h<;>rfl
 |_,_,_,_,.bl b,h=>by cases h<;>rfl
 |_,_,_,_,.int i,h=>by cases h<;>rfl
 |_,_,_,_,.str x,h=>by cases h<;>rfl
 |_,_,_,_,.tup r,h=>by
  cases h with
  |tup r'=>exact Wj r r'
  |_=>rfl
 |_,_,_,_,.lst _ _ _,h=>by cases h<;>rfl
 |_,_,_,_,.dct _,h=>by cases h<;>rfl
 |_,_,_,_,.obj _,h=>by cases h<;>rfl
 |_,_,_,_,.kt _,h=>by cases h<;>rfl
 |_,_,_,_,.dic _ _ _,h=>by cases h<;>rfl
theorem Wj{fz:Fz}{st:Za}:∀ {p q:Li P}{d e:Li D},Rels fz st p d->Rels fz st q e->Xq p q=ZY d e
 |_,_,_,_,.nil,h=>by cases h<;>rfl
 |p :: ps,_,d :: ds,_,.cons a r,h=>by
  cases h with
  |nil=>rfl
  |@cons q e qs es a' r'=>
   show(Jd p q&&Xq ps qs)=(ZV d e&&ZY ds es);rw[ZfM a a',Wj r r']
end
theorem ZbB{fz:Fz}{st:Za}{ps:Li P}{ds:Li D}(r:Rels fz st ps ds):ps.isEmpty=ds.isEmpty:=by cases r<;>rfl
theorem ZeG{fz:Fz}{st:Za}{ps qs:Li P}{ds es:Li D}{k:Bool}(r:Rels fz st ps ds)(s:Rels fz st qs es)(h:ZbF ps qs=some k):ZbG st ds es=some k:=by cases h
theorem Ze8{fz:Fz}{st:Za}{p:P}{d:D}(r:Rel fz st p d):scP p=scD d:=by cases r<;>rfl
theorem Zgb{fz:Fz}{st:Za}{ps qs:Li P}{ds es:Li D}(r:Rels fz st ps ds)(s:Rels fz st qs es):ZiR ps qs=Qv ds es:=by
 unfold ZiR Qv;rw[ZbB r,ZbB s,Vo r,Vo s,Wj r s]
theorem ZdK{fz:Fz}{st:Za}{p q:P}{d e:D}{k:Bool}(r:Rel fz st p d)(s:Rel fz st q e)(h:eqP p q=some k):eqS st d e=some k:=by
 have tail:(o2 ZdJ (scP p) (scP q)).join=some k->(o2 ZdJ (scD d) (scD e)).join=some k:=by
  rw[Ze8 r,Ze8 s];exact id
 cases r with
 |@tup ps ds r=>
  cases s with
  |@tup qs es r'=>
   have h:(if okP 8 (.tup ps)&&okP 8 (.tup qs) then some (Xq ps qs) else ZbF ps qs)=some k:=h
   show(match (if okD 8 (.tup ds)&&okD 8 (.tup es) then some (ZY ds es) else none) with
    |some k=>some k
    |none=>ZbG st ds es)=some k
   rw[ZaI (.tup r),ZaI (.tup r'),Wj r r']at h;by_cases c:(okD 8 (.tup ds)&&okD 8 (.tup es))=true
   ·rw[if_pos c]at h ⊢
    exact h
   ·rw[if_neg c]at h ⊢
    exact ZeG r r' h
  |_=>exact Zb h
 |@lst j m ps ds hz hs r=>
  cases s with
  |@lst j' m' qs es hz' hs' r'=>
   have g:(o2 (fun(c d:Yp)=>Qv c.2 d.2) st[j]? st[j']?).join=some k:=by
    rw[hs,hs'];show Qv ds es=some k;rw[<-Zgb r r'];exact h
   show Zct st j (.lst j')=some k;unfold Zct;simp only[g]
  |_=>exact Zb h
 |_=>exact tail h
theorem Zas{fz:Fz}{st:Za}{i:Int}:∀ {ps:Li P}{ds:Li D}{k:Bool},Rels fz st ps ds->inP i ps=some k->Xb i ds=some k
 |_,_,_,.nil,h=>h
 |p :: ps,d :: ds,k,.cons a r,h=>by
  cases a with
  |int j=>
   have h:(inP i ps).map (fun b=>decide (j=i)||b)=some k:=h
   show(Xb i ds).map (fun b=>decide (j=i)||b)=some k
   cases q:inP i ps with
   |none=>rw[q]at h;cases h
   |some k'=>rw[q]at h;rw[Zas r q];exact h
  |_=>exact Zb h
theorem QD{fz:Fz}{st:Za}{i:Str}:∀ {ps:Li P}{ds:Li D}{k:Bool},Rels fz st ps ds->ZcB i ps=some k->YM i ds=some k
 |_,_,_,.nil,h=>h
 |p :: ps,d :: ds,k,.cons a r,h=>by
  cases a with
  |str j=>
   have h:(ZcB i ps).map (fun b=>decide (j=i)||b)=some k:=h
   show(YM i ds).map (fun b=>decide (j=i)||b)=some k
   cases q:ZcB i ps with
   |none=>rw[q]at h;cases h
   |some k'=>rw[q]at h;rw[QD r q];exact h
  |_=>exact Zb h
theorem Qm{fz:Fz}{st:Za}{i:Int}{ps:Li P}{ds:Li D}{p:P}(r:Rels fz st ps ds)(h:atP ps i=some p):∃ d,atD ds i=some d/\Rel fz st p d:=by
 unfold atP at h;unfold atD;rw[<-r.length];cases q:ixN ps.length i with
 |none=>rw[q]at h;cases h
 |some j=>
  rw[q]at h;exact r.get h
theorem Zbi{fz:Fz}{st:Za}{lo hi:Ot Int}{ps:Li P}{ds:Li D}(r:Rels fz st ps ds):Rels fz st (UB ps lo hi) (Zcm ds lo hi):=by
 unfold UB Zcm;rw[<-r.length];exact(r.drop _).take _
end
section
theorem Zk2:Op1 ZgN ZcQ:=by
 intro fz st x dx p b r h;cases r<;>first | (cases h;exact .same b (.int _))|cases h
theorem Zk3:Op1 ZaE ZcR:=by
 intro fz st x dx p b r h;cases r<;>first | (cases h;exact .same b (.bl _))|cases h
theorem Zjk:Op1 ZbH ZbI:=by
 intro fz st x dx p b r h;cases r<;>first | (cases h;exact .same b (.int _))|cases h
theorem ZkX:Op1 Zec QE:=by
 intro fz st x dx p b r h;cases r with
 |bl k=>cases k<;>(cases h;exact .same b (.int _))
 |int i=>cases h;exact .same b (.int _)
 |str x=>
  have h:(match Wp x with
   |some i=>some (P.int i)
   |none=>none)=some p:=h
  have z:Zec (.str x) st=(match Wp x with
   |some i=>some (D.int i,st)
   |none=>none):=rfl
  rw[z];cases q:Wp x with
  |none=>rw[q]at h;cases h
  |some i=>rw[q]at h;cases h;exact .same b (.int _)
 |_=>exact Zb h
theorem Zjm:Op1 J3 XJ:=by
 intro fz st x dx p b r h;cases r with
 |int i=>
  have h:(if ZE i=true then some (P.str (Str.ofString (toString i))) else none)=some p:=h
  split at h
  ·rename_i c
   cases h;rw[show J3 (.int i) st=some (.str (Str.ofString (toString i)),st) from if_pos c];exact .same b (.str _)
  ·exact Zb h
 |_=>exact Zb h
theorem WY{fz:Fz}{st:Za}:∀ {ps:Li P}{ds:Li D},Rels fz st ps ds->∀ {xs:Li Str},Up ps=some xs->Vc ds=some xs
 |_,_,.nil,xs,h=>h
 |_,_,.cons a r,xs,h=>by
  cases a with
  |str x=>
   obtain⟨zs,h1,h2⟩:=Option.map_eq_some_iff.mp (show(Up _).map (x :: ·)=some xs from h);show(Vc _).map (x :: ·)=some xs;rw[WY r h1,<-h2];rfl
  |_=>exact Zb h
theorem Zjh:Op2 UX W7:=by
 intro fz st x y dx dy p b r s h;cases r with
 |str x=>
  cases s with
  |@lst k m ps ds hz hs r=>
   have h:(if x.length=0 then QF ps else V3 x ps)=some p:=h
   have z:UX (.str x) (.lst k) st=(if x.length=0 then Zbw ds st else Zbv x ds st):=by unfold UX;simp only[hs]
   rw[z];split at h
   ·rename_i c
    rw[if_pos c];unfold QF at h;split at h
    ·rename_i xs q
     split at h
     ·rename_i c2
      cases h;unfold Zbw;rw[WY r q];simp only;rw[if_pos c2];exact .same b (.str _)
     ·exact Zb h
    ·exact Zb h
   ·rename_i c
    rw[if_neg c];unfold V3 at h;split at h
    ·rename_i xs q
     split at h
     ·rename_i c2
      cases h;unfold Zbv;rw[WY r q];simp only;rw[if_pos c2];exact .same b (.str _)
     ·exact Zb h
    ·exact Zb h
  |_=>exact Zb h
 |_=>exact Zb h
theorem Zjl:Op2 JS U8:=by
 intro fz st x y dx dy p b r s h;cases r with
 |int i=>
  cases s with
  |int j=>
   have h:(if Xe i j 1=true then some (P.dct [] [.int i,.int j]) else none)=some p:=h
   split at h
   ·rename_i c
    cases h;rw[show JS (.int i) (.int j) st=some (.dct [] [.int i,.int j],st) from if_pos c];exact .same b (.dct (.cons (.int _) (.cons (.int _) .nil)))
   ·exact Zb h
  |_=>exact Zb h
 |_=>exact Zb h
theorem Zez:Op2 Vs XY:=by
 intro fz st x y dx dy p b r s h;cases r with
 |str x=>
  cases s with
  |tup r=>cases r with
   |nil=>exact Zb h
   |cons a r=>cases r with
    |cons _ _=>cases a<;>cases h
    |nil=>cases a with
     |str y=>cases h;exact .same b (.bl _)
     |_=>exact Zb h
  |_=>exact Zb h
 |_=>exact Zb h
theorem Zji:Op1 X3 QJ:=by
 intro fz st x dx p b r h;cases r with
 |@tup ps ds r=>
  cases h;rw[r.length];exact .same b (.int _)
 |@lst j m ps ds hz hs r=>
  cases h;have e:X3 (.lst j) st=some (.int ds.length,st):=by unfold X3 ZcF;simp only[hs]
  rw[e,r.length];exact .same b (.int _)
 |kt ks=>
  cases h;exact .same b (.int _)
 |str x=>
  have h:(if x.length<=Zd then some (P.int x.length) else none)=some p:=h
  split at h
  ·rename_i c
   cases h;have e:X3 (.str x) st=some (.int x.length,st):=by
    unfold X3 ZcF;simp only;rw[if_pos c]
   rw[e];exact .same b (.int _)
  ·exact Zb h
 |_=>exact Zb h
theorem ZkY(T:Ty):Op1 (Zav T) (Zau T):=by
 intro fz st x dx p b r h;obtain⟨k,e,rfl⟩:=Option.map_eq_some_iff.mp (show(Zi8 T x).map P.bl=some p from h);have z:Zi8 T x=ZgB T dx:=by cases r<;>rfl
 rw[z]at e;unfold Zav;rw[e];exact .same b (.bl k)
theorem ZhW:Zkh ZcK ZaC:=by
 intro fz st x dx m ps b r h;cases r with
 |@tup ps ds r=>cases h;exact⟨ds,rfl,r⟩
 |_=>exact Zb h
theorem ZkZ:Op1 ZcK ZaC:=by
 intro fz st x dx p b r h;cases r with
 |@tup ps ds r=>cases h;exact(ZhW fz st _ _ true ps b (.tup r) rfl).gives b
 |_=>exact Zb h
theorem ZgV:Op1 XN WZ:=by
 intro fz st x dx p b r h;cases r with
 |@tup ps ds r=>cases h;exact .same b (.tup r)
 |@lst j m ps ds hz hs r=>
  cases h;have e:XN (.lst j) st=some (.tup ds,st):=by unfold XN;simp only[hs]
  rw[e];exact .same b (.tup r)
 |_=>exact Zb h

theorem Zjg:Op2 Wl UO:=by
 intro fz st x y dx dy p b r s h;cases s with
 |@tup ps ds s=>
  have h:(if ps.length < 1000 then some (P.tup (x :: ps)) else none)=some p:=h
  split at h
  ·rename_i c
   cases h;have e:Wl dx (.tup ds) st=some (.tup (dx :: ds),st):=by unfold Wl;simp only;rw[s.length]at c;rw[if_pos c]
   rw[e];exact .same b (.tup (.cons r s))
  ·exact Zb h
 |_=>exact Zb h
theorem Zk1:Op2 ZgJ ZcO:=by
 intro fz st x y dx dy p b r s h;cases r with
 |int i=>
  cases s with
  |int j=>cases h;exact .same b (.int _)
  |_=>exact Zb h
 |_=>exact Zb h
theorem Zk0:Op2 ZgH ZcN:=by
 intro fz st x y dx dy p b r s h;cases r with
 |int i=>
  cases s with
  |int j=>cases h;exact .same b (.int _)
  |_=>exact Zb h
 |_=>exact Zb h
theorem WM{fz:Fz}{st:Za}{k:Str}:∀ {ks:Li Str}{ps:Li P}{ds:Li D},Rels fz st ps ds->(∃ p d,Xj ks ps k=some p/\ZT ks ds k=some d/\Rel fz st p d)\/(Xj ks ps k=none/\ZT ks ds k=none)
 |[],_,_,_=>.inr ⟨by simp[Xj],by simp[ZT]⟩
 |_ :: _,_,_,.nil=>.inr ⟨by simp[Xj],by simp[ZT]⟩
 |x :: ks,_,_,.cons h r=>by
  by_cases e:x=k
  ·exact .inl ⟨_,_,by simp[Xj,e],by simp[ZT,e],h⟩
  ·have ih:=WM (k:=k) (ks:=ks) r
   simp only[Xj,ZT,if_neg e];exact ih
theorem XL{fz:Fz}{st:Za}:∀ l:Li Str,Rels fz st (l.map P.str) (l.map D.str)
 |[]=>.nil
 |k :: l=>.cons (.str _) (XL l)
theorem Zgz{fz:Fz}{st:Za}{k:Str}{p:P}{d:D}(r:Rel fz st p d):Zi6 k p=isK k d:=by
 cases r with
 |tup r=>cases r with
  |nil=>rfl
  |cons h1 r=>cases r with
   |nil=>cases h1<;>rfl
   |cons h2 r=>cases r with
    |nil=>cases h1<;>rfl
    |cons _ _=>cases h1<;>rfl
 |_=>rfl
theorem Zcn{fz:Fz}{st:Za}{k:Str}{ps:Li P}{ds:Li D}(r:Rels fz st ps ds):(∃ p d,Qu ps k=some p/\Yk ds k=some d/\Rel fz st p d)\/(Qu ps k=none/\Yk ds k=none):=by
 induction ps generalizing ds with
 |nil=>cases r;exact .inr ⟨rfl,rfl⟩
 |cons p ps ih=>cases r with
  |@cons _ d _ ds h r=>
   have e:=Zgz (k:=k) h;unfold Qu Yk at ih ⊢
   cases q:Zi6 k p with
   |true=>
    rw[List.find?_cons_of_pos q,List.find?_cons_of_pos (e.symm.trans q)];cases h with
    |tup r=>cases r with
     |nil=>cases q
     |cons h1 r=>cases r with
      |nil=>cases h1<;>cases q
      |cons h2 r=>cases r with
       |nil=>exact .inl ⟨_,_,rfl,rfl,h2⟩
       |cons _ _=>cases h1<;>cases q
    |_=>cases q
   |false=>
    rw[List.find?_cons_of_neg (by rw[q];exact Bf),List.find?_cons_of_neg (by rw[<-e,q];exact Bf)]
    exact ih r
theorem Zeh{fz:Fz}{st:Za}{ps:Li P}{ds:Li D}(r:Rels fz st ps ds):Zh0 ps=Wf ds:=by
 cases r with
 |nil=>rfl
 |cons h _=>cases h<;>rfl
theorem Zf6{fz:Fz}{st:Za}{a:Nat}{m:Bool}{k:Str}{xs:Li P}{es:Li D}{o:Ot P}(s:Rels fz st xs es)(e:st[a]?=some (m,es))(h:Zf5 k xs=some o):(∃ p d,o=some p/\dAt k a st=some (some d)/\Rel fz st p d)\/(o=none/\dAt k a st=some none):=by
 unfold Zf5 at h;rw[Zeh s]at h;unfold dAt;simp only[e];split at h
 ·exact Zb h
 ·rename_i c
  cases h;rw[if_neg c];rcases Zcn (k:=k) s with⟨p,d,e1,e2,q⟩|⟨e1,e2⟩
  ·exact .inl ⟨p,d,e1,congrArg some e2,q⟩
  ·exact .inr ⟨e1,congrArg some e2⟩
theorem Zmh:Op2 ixR ixP:=by
 intro fz st x y dx dy p b r s h;cases r with
 |@tup ps ds r=>
  cases s with
  |int j=>
   obtain⟨d,e,q⟩:=Qm r h;have e:ixR (.tup ds) (.int j) st=some (d,st):=by unfold ixR ixD;simp only[e]
   rw[e];exact .same b q
  |_=>exact Zb h
 |@lst k m ps ds hz hs r=>
  cases s with
  |int j=>
   obtain⟨d,e,q⟩:=Qm r h;have e:ixR (.lst k) (.int j) st=some (d,st):=by unfold ixR ixD;simp only[hs,e]
   rw[e];exact .same b q
  |_=>exact Zb h
 |@dct ks ps ds r=>
  cases s with
  |str z=>
   rcases WM (k:=z) (ks:=ks) r with⟨p',d,e1,e2,q⟩|⟨e1,_⟩
   ·have h:Xj ks ps z=some p:=h
    rw[e1]at h;cases h
    have e:ixR (.dct ks ds) (.str z) st=some (d,st):=by unfold ixR ixD;simp only[e2]
    rw[e];exact .same b q
   ·have h:Xj ks ps z=some p:=h
    rw[e1]at h;cases h
  |_=>exact Zb h
 |kt ks=>
  cases s with
  |int j=>
   obtain⟨d,e,q⟩:=Qm (XL (fz:=fz) (st:=st) ks) h;have e:ixR (.kt ks) (.int j) st=some (d,st):=by unfold ixR ixD;simp only[e]
   rw[e];exact .same b q
  |_=>exact Zb h
 |@dic k m ps ds hz hs rd=>
  cases s with
  |str z=>
   refine j_e (show(Zf5 z ps).join=some p from h) fun h=>?_
   rcases Zf6 rd hs h with⟨p',d,e1,e2,q⟩|⟨e1,_⟩
   ·cases e1
    have e:ixR (.dic k) (.str z) st=some (d,st):=by unfold ixR ixD;simp only[e2];rfl
    rw[e];exact .same b q
   ·cases e1
  |_=>exact Zb h
 |str x=>
  cases s with
  |int j=>
   have h:(if x.length<=Zd then atP ((chS x).map .str) j else none)=some p:=h
   split at h
   ·rename_i c
    obtain⟨d,e,q⟩:=Qm (XL (fz:=fz) (st:=st) (chS x)) h;have e:ixR (.str x) (.int j) st=some (d,st):=by
     unfold ixR ixD;simp only;rw[if_pos c,e]
    rw[e];exact .same b q
   ·exact Zb h
  |_=>exact Zb h
 |_=>exact Zb h
theorem Vq{f:Int->Int->Bool}{fz:Fz}{st:Za}{x y:P}{dx dy:D}{k:Bool}(r:Rel fz st x dx)(s:Rel fz st y dy)(h:ZeF f x y=some k):ZaJ f dx dy=some k:=by
 cases r with
 |int i=>
  cases s with
  |int j=>exact h
  |_=>exact Zb h
 |_=>exact Zb h
theorem Zjb{fz:Fz}{st:Za}{x y:P}{dx dy:D}{k:Bool}(r:Rel fz st x dx)(s:Rel fz st y dy)(h:ltP x y=some k):ltD dx dy=some k:=by exact Vq r s h
theorem ZgG{fz:Fz}{st:Za}{x y:P}{dx dy:D}{k:Bool}(r:Rel fz st x dx)(s:Rel fz st y dy)(h:ZkS x y=some k):ltS st dx dy=some k:=by exact Zjb r s h
theorem QQ{a b:Ot Bool}{f:Bool->Bool}{k:Bool}(h:∀ k,a=some k->b=some k)(e:a.map f=some k):b.map f=some k:=by
 cases q:a with
 |none=>rw[q]at e;cases e
 |some k'=>rw[h k' q];rw[q]at e;exact e
theorem Zbt{fz:Fz}{st:Za}{x y:P}{dx dy:D}{k:Bool}(r:Rel fz st x dx)(s:Rel fz st y dy)(h:Zi3 x y=some k):inS st dx dy=some k:=by
 cases r with
 |int i=>
  cases s with
  |tup rr=>exact Zas rr h
  |lst hz hs rr=>
   unfold inS;simp only[hs];exact Zas rr h
  |_=>exact Zb h
 |str z=>
  cases s with
  |tup rr=>exact QD rr h
  |lst hz hs rr=>
   unfold inS;simp only[hs];exact QD rr h
  |@dct ks _ _ rr=>
   have h:some (Xj ks _ z).isSome=some k:=h;show some (ZT ks _ z).isSome=some k;rcases WM (k:=z) (ks:=ks) rr with⟨p',d,e1,e2,_⟩|⟨e1,e2⟩
   ·rw[e1]at h;rw[e2];exact h
   ·rw[e1]at h;rw[e2];exact h
  |str w=>exact h
  |kt ks=>exact h
  |_=>exact Zb h
 |_=>exact Zb h
theorem Zbu{fz:Fz}{st:Za}{x y:P}{dx dy:D}{k:Bool}(r:Rel fz st x dx)(s:Rel fz st y dy)(h:Zi7 x y=some k):isD dx dy=some k:=by
 cases s with
 |non=>cases r<;>first|exact h|cases h
 |bl b=>cases r<;>first|exact h|cases h
 |_=>exact Zb h
theorem Zk4:Op2 Zc0 ZhF:=by
 intro fz st x y dx dy p b r s h;cases r with
 |str z=>
  cases s with
  |@tup ps ds s=>
   cases s with
   |nil=>exact Zb h
   |cons a s=>
    cases s with
    |cons _ _=>cases a<;>cases h
    |nil=>
     cases a with
     |str k=>
      have h:(if k.length=1/\z.length<=Zd then some (P.lst true ((WW z k).map .str)) else none)=some p:=h
      split at h
      ·rename_i c
       cases h;have e:Zc0 (.str z) (.tup [.str k]) st=some (.lst st.length,st++[(true,(WW z k).map .str)]):=if_pos c;exact Makes.gives b ⟨_,e,XL _⟩
      ·exact Zb h
     |_=>exact Zb h
  |_=>exact Zb h
 |_=>exact Zb h
theorem Zjj(ks:Li Str)(ds:Li D):Op1 (UY ks ds) (V6 ks ds):=by
 intro fz st x dx p b r h;cases r with
 |str k=>
  have h:(ZT ks ds k).bind ofD=some p:=h;cases q:ZT ks ds k with
  |none=>rw[q]at h;cases h
  |some d=>
   rw[q]at h;have e:UY ks ds (.str k) st=some (d,st):=by unfold UY;simp only[q]
   rw[e];exact .same b (Rel.ofConst h)
 |_=>exact Zb h
theorem UM{fz:Fz}{st:Za}:∀ {ps:Li P}{ds:Li D}{bs:Li Bool},Rels fz st ps ds->Xs ps=some bs->Xr ds=some bs
 |_,_,_,.nil,h=>h
 |p :: ps,d :: ds,bs,.cons a r,h=>by
  cases a with
  |bl b=>
   have h:(Xs ps).map (b :: ·)=some bs:=h;show(Xr ds).map (b :: ·)=some bs;cases q:Xs ps with
   |none=>rw[q]at h;cases h
   |some l=>rw[q]at h;rw[UM r q];exact h
  |_=>exact Zb h
theorem ZgT(f:Li Bool->Bool):Op1 (WR f) (XG f):=by
 intro fz st x dx p b r h;cases r with
 |@lst j m ps ds hz hs r=>
  unfold XG at h;simp only at h;split at h
  ·rename_i bs q
   cases h;have e:WR f (.lst j) st=some (.bl (f bs),st):=by unfold WR;simp only[hs,UM r q]
   rw[e];exact .same b (.bl _)
  ·exact Zb h
 |_=>exact Zb h
theorem ZkW(op:CmpOp):Op2 (Xt op) (Yu op):=by
 intro fz st x y dx dy p b r s h;have h:(ZiJ op x y).map P.bl=some p:=h;cases q:ZiJ op x y with
 |none=>rw[q]at h;cases h
 |some k=>
  rw[q]at h;cases h
  have e:WD op dx dy st=some k:=by
   cases op with
   |Lt=>exact ZgG r s q
   |LtE=>exact Vq r s q
   |Gt=>exact Vq r s q
   |GtE=>exact Vq r s q
   |Eq=>exact ZdK r s q
   |NotEq=>exact QQ (fun k=>ZdK r s) q
   |In=>exact Zbt r s q
   |NotIn=>
    replace q:niP x y=some k:=q;show niS st dx dy=some k;cases s with
    |dct _=>exact Zb q
    |_=>exact QQ (fun k=>Zbt r (by constructor<;>assumption)) q
   |Is=>exact Zbu r s q
   |IsNot=>exact QQ (fun k=>Zbu r s) q
  have e2:Xt op dx dy st=some (.bl k,st):=by unfold Xt;rw[e]
  rw[e2];exact .same b (.bl k)
theorem Zbc{op:Operator}{fz:Fz}{st:Za}{x y p:P}{dx dy:D}(b:Bd fz st)(r:Rel fz st x dx)(s:Rel fz st y dy)(h:Ve op x y=some p):(∃ d,Je op dx dy st=some (d,st)/\Rel fz st p d/\∀ m ps,p≠.lst m ps)\/∃ ps,p=.lst true ps/\Makes fz st (Je op dx dy st) true ps:=by
 cases r with
 |@lst ja ma pa da hz hs rr=>
  cases s with
  |_=>exact Zb h
 |@tup pa da r1=>cases s with
  |@tup pb db s1=>
   have h:(if VY op=true/\pa.length+pb.length<=Zd then some (P.tup (pa++pb)) else none)=some p:=h
   split at h
   ·rename_i c
    cases h;exact .inl ⟨_,if_pos ⟨c.1,by rw[<-r1.length,<-s1.length];exact c.2⟩,.tup (r1.append s1),fun _ _ z=>nomatch z⟩
   ·exact Zb h
  |_=>exact Zb h
 |int i=>cases s with
  |int j=>
   have h:(match Zaj op i j with
    |some k=>some (P.int k)
    |none=>none)=some p:=h
   have z:Je op (.int i) (.int j) st=(match Zaj op i j with
    |some k=>some (D.int k,st)
    |none=>none):=rfl
   rw[z];cases q:Zaj op i j with
   |none=>rw[q]at h;cases h
   |some k=>rw[q]at h;cases h;exact .inl ⟨_,rfl,.int _,fun _ _ z=>nomatch z⟩
  |_=>exact Zb h
 |str x=>cases s with
  |str y=>
   have h:(if VY op=true/\x.length+y.length<=Zd then some (P.str (x++y)) else none)=some p:=h
   split at h
   ·rename_i c
    cases h;exact .inl ⟨_,if_pos c,.str _,fun _ _ z=>nomatch z⟩
   ·exact Zb h
  |_=>exact Zb h
 |_=>exact Zb h
theorem ZkE(op:Operator):Zki (Je op) (Ve op):=by
 intro fz st x y dx dy m ps b r s h;rcases Zbc b r s h with⟨_,_,_,n⟩|⟨qs,e,mk⟩
 ·exact absurd rfl (n _ _)
 ·cases e;exact mk
theorem ZkV(op:Operator):Op2 (Je op) (Ve op):=by
 intro fz st x y dx dy p b r s h;rcases Zbc b r s h with⟨d,e,rp,_⟩|⟨qs,e,mk⟩
 ·rw[e];exact .same b rp
 ·cases e;exact mk.gives b
theorem ZbP{fz:Fz}{st:Za}{x:P}{dx:D}{lo hi:Ot Int}{p:P}(b:Bd fz st)(r:Rel fz st x dx)(h:Yh x lo hi=some p):(∃ d,Yn dx lo hi st=some (d,st)/\Rel fz st p d/\∀ m ps,p≠.lst m ps)\/∃ ps,p=.lst true ps/\Makes fz st (Yn dx lo hi st) true ps:=by
 cases r with
 |@tup ps ds r=>
  have h:(if sIx ps.length 0 lo=0/\sIx ps.length ps.length hi=ps.length then some (P.tup ps) else some (P.tup (UB ps lo hi)))=some p:=h
  split at h
  ·rename_i c
   cases h;refine .inl ⟨_,?_,.tup r,fun _ _ z=>nomatch z⟩
   unfold Yn;simp only;rw[if_pos (by rw[<-r.length];exact c)]
  ·rename_i c
   cases h;refine .inl ⟨_,?_,.tup (Zbi r),fun _ _ z=>nomatch z⟩
   unfold Yn;simp only;rw[if_neg (by rw[<-r.length];exact c)]
 |@lst j m ps ds hz hs r=>
  cases h;refine .inr ⟨_,rfl,_,?_,Zbi r⟩;unfold Yn;simp only[hs]
 |str x=>
  have h:(if x.length<=Zd then some (P.str (Qr x lo hi)) else none)=some p:=h
  split at h
  ·rename_i c
   cases h;exact .inl ⟨_,if_pos c,.str _,fun _ _ z=>nomatch z⟩
  ·exact Zb h
 |_=>exact Zb h
theorem Zfb{fz:Fz}{st:Za}{x y z:P}{dx dy dz:D}{p:P}(s1:Rel fz st y dy)(s2:Rel fz st z dz)(h:WU x y z=some p):∃ lo hi,Yh x lo hi=some p/\∀ dx,Wi dx dy dz st=Yn dx lo hi st:=by
 unfold WU at h;split at h
 ·cases s1;cases s2;exact⟨_,_,h,fun _=>rfl⟩
 ·cases s1;cases s2;exact⟨_,_,h,fun _=>rfl⟩
 ·cases s1;cases s2;exact⟨_,_,h,fun _=>rfl⟩
 ·cases s1;cases s2;exact⟨_,_,h,fun _=>rfl⟩
 ·exact Zb h
theorem ZgU:Op3 Wi WU:=by
 intro fz st x y z dx dy dz p b r s1 s2 h;obtain⟨lo,hi,h0,e⟩:=Zfb (dx:=dx) s1 s2 h;rw[e];rcases ZbP b r h0 with⟨d,e1,rr,_⟩|⟨ps,rfl,mk⟩
 ·rw[e1];exact .same b rr
 ·exact mk.gives b
theorem Zge:Zkj Wi WU:=by
 intro fz st x y z dx dy dz m ps b r s1 s2 h;obtain⟨lo,hi,h0,e⟩:=Zfb (dx:=dx) s1 s2 h;rw[e];rcases ZbP b r h0 with⟨_,_,_,z⟩|⟨ps,z,mk⟩
 ·exact absurd rfl (z _ _)
 ·cases z;exact mk
end
end Dp


namespace Dp
open PySem
noncomputable abbrev PFn:=Nat->Li P->Ot P
def ZhK(F:Fn)(G:Li P->Ot P):Prop:=∀ ps m xs,G ps=some (.lst m xs)->∀ fz st ds,Bd fz st->Rels fz st ps ds->∃ j es st' fz1,F ds st=some (.lst j,st')/\st'[j]?=some (m,es)/\Next fz st fz1 st'/\¬fz1 j/\st.length<=j/\Rels fz1 st' xs es
def Yq(F:Nat->Fn)(G:PFn):Prop:=(∀ i ps p,G i ps=some p->∀ fz st ds,Bd fz st->Rels fz st ps ds->Gives fz st (F i ds st) p)/\∀ i,V1 i=true->ZhK (F i) (G i)
def EnvAll(fz:Fz)(st:Za)(π:Zp)(ρ:Env):Prop:=∀ (i:Nat) (p:P),π[i]?=some (some p)->∃ d,ρ[i]?=some (some d)/\Rel fz st p d
theorem EnvAll.next{fz fz':Fz}{st st':Za}{π:Zp}{ρ:Env}(b:Bd fz st)(x:Next fz st fz' st')(h:EnvAll fz st π ρ):EnvAll fz' st' π ρ:=fun i p e=>
 let ⟨d,e1,r⟩:=h i p e;⟨d,e1,r.next b x⟩
def SEP(f:Ev)(g:PEv):Prop:=∀ π p,g π=some p->∀ fz st ρ,Bd fz st->EnvAll fz st π ρ->Gives fz st (f ρ st) p
def SFP(f:Ev)(g:PEv):Prop:=∀ π m ps,g π=some (.lst m ps)->∀ fz st ρ,Bd fz st->EnvAll fz st π ρ->∃ j ds st' fz1,f ρ st=some (.lst j,st')/\st'[j]?=some (m,ds)/\Next fz st fz1 st'/\¬fz1 j/\st.length<=j/\Rels fz1 st' ps ds
section
variable {f fa fb fc:Ev}{g ga gb gc:PEv}
theorem Makes.fresh{fz fz1:Fz}{st st1:Za}{r:Res}{m:Bool}{ps:Li P}(x:Next fz st fz1 st1)(h:Makes fz1 st1 r m ps) :
  ∃ j ds st' fz2,r=some (.lst j,st')/\st'[j]?=some (m,ds)/\Next fz st fz2 st'/\¬fz2 j/\st.length<=j/\Rels fz2 st' ps ds:=by
 obtain⟨ds,e,rr⟩:=h;refine⟨_,ds,_,fz1,e,Zid,x.trans (ZeT x.bd),fun z=>?_,x.len,rr.next x.bd (ZeT x.bd)⟩
 exact absurd (x.bd _ z) (by omega)
theorem s1{o:D->Za->Res}{O:P->Ot P}(h:SEP f g)(k:Op1 o O):SEP (ZF f o) (pq1 g O):=by
 intro π p e fz st ρ b E;unfold pq1 at e;split at e
 ·rename_i x q
  obtain⟨d,st1,fz1,e1,n1,r1⟩:=h π x q fz st ρ b E;obtain⟨d2,st2,fz2,e2,n2,r2⟩:=k fz1 st1 x d p n1.bd r1 e;exact⟨d2,st2,fz2,by unfold ZF;rw[e1];exact e2,n1.trans n2,r2⟩
 ·exact Zb e
theorem s1F{o:D->Za->Res}{O:P->Ot P}(h:SEP f g)(k:Zkh o O):SFP (ZF f o) (pq1 g O):=by
 intro π m ps e fz st ρ b E;unfold pq1 at e;split at e
 ·rename_i x q
  obtain⟨d,st1,fz1,e1,n1,r1⟩:=h π x q fz st ρ b E;have mk:=k fz1 st1 x d m ps n1.bd r1 e;have e3:ZF f o ρ st=o d st1:=by unfold ZF;rw[e1]
  rw[e3];exact mk.fresh n1
 ·exact Zb e
theorem s2{o:D->D->Za->Res}{O:P->P->Ot P}(ha:SEP fa ga)(hb:SEP fb gb)(k:Op2 o O):SEP (ZS fa fb o) (pq2 ga gb O):=by
 intro π p e fz st ρ b E;unfold pq2 at e;split at e
 ·rename_i x q
  split at e
  ·rename_i y q'
   obtain⟨d,st1,fz1,e1,n1,r1⟩:=ha π x q fz st ρ b E;obtain⟨d2,st2,fz2,e2,n2,r2⟩:=hb π y q' fz1 st1 ρ n1.bd (E.next b n1);obtain⟨d3,st3,fz3,e3,n3,r3⟩:=k fz2 st2 x y d d2 p n2.bd (r1.next n1.bd n2) r2 e;exact⟨d3,st3,fz3,by unfold ZS;rw[e1];simp only[e2];exact e3,(n1.trans n2).trans n3,r3⟩
  ·exact Zb e
 ·exact Zb e
theorem s2F{o:D->D->Za->Res}{O:P->P->Ot P}(ha:SEP fa ga)(hb:SEP fb gb)(k:Zki o O):SFP (ZS fa fb o) (pq2 ga gb O):=by
 intro π m ps e fz st ρ b E;unfold pq2 at e;split at e
 ·rename_i x q
  split at e
  ·rename_i y q'
   obtain⟨d,st1,fz1,e1,n1,r1⟩:=ha π x q fz st ρ b E;obtain⟨d2,st2,fz2,e2,n2,r2⟩:=hb π y q' fz1 st1 ρ n1.bd (E.next b n1);have mk:=k fz2 st2 x y d d2 m ps n2.bd (r1.next n1.bd n2) r2 e;have e3:ZS fa fb o ρ st=o d d2 st2:=by unfold ZS;rw[e1];simp only[e2]
   rw[e3];exact mk.fresh (n1.trans n2)
  ·exact Zb e
 ·exact Zb e
theorem s3{o:D->D->D->Za->Res}{O:P->P->P->Ot P}(ha:SEP fa ga)(hb:SEP fb gb)(hc:SEP fc gc)(k:Op3 o O):SEP (JV fa fb fc o) (pq3 ga gb gc O):=by
 intro π p e fz st ρ b E;unfold pq3 at e;split at e
 ·rename_i x q
  split at e
  ·rename_i y q'
   split at e
   ·rename_i z q''
    obtain⟨d,st1,fz1,e1,n1,r1⟩:=ha π x q fz st ρ b E;obtain⟨d2,st2,fz2,e2,n2,r2⟩:=hb π y q' fz1 st1 ρ n1.bd (E.next b n1);obtain⟨d3,st3,fz3,e3,n3,r3⟩:=hc π z q'' fz2 st2 ρ n2.bd (E.next b (n1.trans n2));obtain⟨d4,st4,fz4,e4,n4,r4⟩:=k fz3 st3 x y z d d2 d3 p n3.bd (r1.next n1.bd (n2.trans n3)) (r2.next n2.bd n3) r3 e;exact⟨d4,st4,fz4,by unfold JV;rw[e1];simp only[e2,e3];exact e4,((n1.trans n2).trans n3).trans n4,r4⟩
   ·exact Zb e
  ·exact Zb e
 ·exact Zb e
theorem s3F{o:D->D->D->Za->Res}{O:P->P->P->Ot P}(ha:SEP fa ga)(hb:SEP fb gb)(hc:SEP fc gc)(k:Zkj o O):SFP (JV fa fb fc o) (pq3 ga gb gc O):=by
 intro π m ps e fz st ρ b E;unfold pq3 at e;split at e
 ·rename_i x q
  split at e
  ·rename_i y q'
   split at e
   ·rename_i z q''
    obtain⟨d,st1,fz1,e1,n1,r1⟩:=ha π x q fz st ρ b E;obtain⟨d2,st2,fz2,e2,n2,r2⟩:=hb π y q' fz1 st1 ρ n1.bd (E.next b n1);obtain⟨d3,st3,fz3,e3,n3,r3⟩:=hc π z q'' fz2 st2 ρ n2.bd (E.next b (n1.trans n2));have mk:=k fz3 st3 x y z d d2 d3 m ps n3.bd (r1.next n1.bd (n2.trans n3)) (r2.next n2.bd n3) r3 e;have e4:JV fa fb fc o ρ st=o d d2 d3 st3:=by unfold JV;rw[e1];simp only[e2,e3]
    rw[e4];exact mk.fresh ((n1.trans n2).trans n3)
   ·exact Zb e
  ·exact Zb e
 ·exact Zb e
theorem sC{p:P}{d:D}(h:∀ fz st,Rel fz st p d):SEP (evC d) (fun _=>some p):=by
 intro π q e fz st ρ b E;cases e;exact .same b (h fz st)
theorem Ze3(hc:SEP fc gc)(ha:SEP fa ga)(hb:SEP fb gb):SEP (Yw fc fa fb) (YD gc ga gb):=by
 intro π p e fz st ρ b E;unfold YD at e;split at e
 ·rename_i q
  obtain⟨d,st1,fz1,e1,n1,r1⟩:=hc π _ q fz st ρ b E;cases r1;obtain⟨d2,st2,fz2,e2,n2,r2⟩:=ha π p e fz1 st1 ρ n1.bd (E.next b n1);exact⟨d2,st2,fz2,by unfold Yw;rw[e1];exact e2,n1.trans n2,r2⟩
 ·rename_i q
  obtain⟨d,st1,fz1,e1,n1,r1⟩:=hc π _ q fz st ρ b E;cases r1;obtain⟨d2,st2,fz2,e2,n2,r2⟩:=hb π p e fz1 st1 ρ n1.bd (E.next b n1);exact⟨d2,st2,fz2,by unfold Yw;rw[e1];exact e2,n1.trans n2,r2⟩
 ·exact Zb e
theorem ZmO(i:Nat):SEP (YL i) (Vj i):=by
 intro π p e fz st ρ b E;unfold Vj at e;split at e
 ·rename_i q
  cases e;obtain⟨d,e1,r⟩:=E i _ q;exact⟨d,st,fz,by unfold YL;rw[e1],Next.refl b,r⟩
 ·exact Zb e
theorem Zlc{F:Fn}{G:Li P->Ot P}{ds:Li D}(hF:∀ ps p,G ps=some p->∀ fz st es,Bd fz st->Rels fz st ps es->Gives fz st (F es st) p):Op1 (UN F ds) (VI G ds):=by
 intro fz st x dx p b r h;cases r with
 |@tup ps es r=>
  have h:(match WQ ds with
   |some es=>G (ps++es)
   |none=>none)=some p:=h
  split at h
  ·rename_i qs q
   exact hF _ p h fz st (es++ds) b (r.append (Rels.ofConst q))
  ·exact Zb h
 |_=>exact Zb h
theorem ZjG{F:Fn}{G:Li P->Ot P}{ds:Li D}{fa:Ev}{ga:PEv}(ha:SEP fa ga)(hF:ZhK F G):SFP (ZF fa (UN F ds)) (pq1 ga (VI G ds)):=by
 intro π m ps h fz st ρ b E;unfold pq1 at h;split at h
 ·rename_i x q
  obtain⟨d,st1,fz1,e1,n1,r1⟩:=ha π x q fz st ρ b E;cases r1 with
  |@tup qs es r=>
   have h:(match WQ ds with
    |some es=>G (qs++es)
    |none=>none)=some (.lst m ps):=h
   split at h
   ·rename_i ws qq
    obtain⟨j,us,st2,fz2,e2,f1,n2,f2,f3,f4⟩:=hF _ m ps h fz1 st1 (es++ds) n1.bd (r.append (Rels.ofConst qq));refine⟨j,us,st2,fz2,?_,f1,n1.trans n2,f2,Nat.le_trans n1.len f3,f4⟩;unfold ZF;rw[e1];exact e2
   ·exact Zb h
  |_=>exact Zb h
 ·exact Zb h
theorem ZcV{fz:Fz}{st:Za}(n:Nat):Rels fz st ((List.range n).map fun(k:Nat)=>P.int (k:Int)) ((List.range n).map fun(k:Nat)=>D.int (k:Int)):=by
 generalize List.range n=l
 induction l with
 |nil=>exact .nil
 |cons a l ih=>exact .cons (.int _) ih
theorem UW{fz:Fz}{st:Za}{rng:Bool}{x:P}{dx:D}{xs:Li P}(r:Rel fz st x dx)(h:V2 rng x=some xs):∃ ds,Xc rng dx=some ds/\Rels fz st xs ds:=by
 cases rng with
 |true=>
  cases r with
  |int n=>
   have h:(if n < 2 ^ 62/\-(2 ^ 62)<=n then some (Ym n) else none)=some xs:=h
   split at h
   ·rename_i c
    cases h;refine⟨_,by unfold Xc;simp only;rw[if_pos c],ZcV _⟩
   ·exact Zb h
  |_=>exact Zb h
 |false=>
  cases r with
  |tup r=>cases h;exact⟨_,rfl,r⟩
  |_=>exact Zb h
theorem UU{fz:Fz}{st:Za}:∀ (l:Li Int),Rels fz st (l.map P.int) (l.map D.int)
 |[]=>.nil
 |i :: l=>.cons (.int i) (UU l)
theorem Qg{fz:Fz}{st:Za}{rng:Bool}{x:P}{dx:D}{xs:Li P}(b:Bd fz st)(r:Rel fz st x dx)(h:Yl rng x=some xs):∃ ds ok,Qe rng dx st=some (ds,ok)/\Rels fz st xs ds/\∀ fz' st',Next fz st fz' st'->ok st':=by
 unfold Yl at h;split at h
 ·rename_i ys q
  cases h;obtain⟨ds,e,rr⟩:=UW r q;exact⟨ds,_,by unfold Qe;rw[e],rr,fun _ _ _=>trivial⟩
 ·split at h
  ·cases h
   cases r with
   |@lst j m ps ds hz hs r=>
    rename_i m _;refine⟨ds,fun s=>s[j]?=some (m,ds),?_,r,fun fz' st' n=>?_⟩
    ·unfold Qe Xc
     simp only[hs]
    ·exact(n.old j (b j hz)).trans hs
  ·rename_i x _
   split at h
   ·rename_i c
    cases h;cases r;refine⟨(chS x).map D.str,fun _=>True,?_,XL _,fun _ _ _=>trivial⟩
    unfold Qe Xc;simp only;rw[if_pos c]
   ·cases h
  ·cases h
   cases r with
   |dct r=>cases r with
    |cons r1 r=>cases r with
     |cons r2 r=>
      cases r;cases r1;cases r2
      exact⟨_,fun _=>True,rfl,UU _,fun _ _ _=>trivial⟩
  ·cases h
theorem J9{fz:Fz}{st:Za}:∀ {xs ys:Li P}{ds es:Li D},Rels fz st xs ds->Rels fz st ys es->Rels fz st (ZbX xs ys) (J7 ds es)
 |_,_,_,_,.nil,_=>.nil
 |_,_,_,_,.cons _ _,.nil=>.nil
 |_,_,_,_,.cons a r,.cons b s=>.cons (.tup (.cons a (.cons b .nil))) (J9 r s)
theorem Qh{fz:Fz}{st:Za}{x:P}{dx:D}{xs:Li P}(b:Bd fz st)(r:Rel fz st x dx)(h:XO x=some xs):∃ ds ok,Uv dx st=some (ds,ok)/\Rels fz st xs ds/\∀ fz' st',Next fz st fz' st'->ok st':=by
 unfold XO at h;split at h
 ·cases h
  cases r with
  |tup r=>cases r with
   |cons a r=>cases r with
    |cons c r=>
     cases r;cases a with
     |@lst j m _ ds hz hs ra=>cases c with
      |@tup _ es rc=>exact⟨J7 ds es,fun s=>s[j]?=some (_,ds),by unfold Uv;simp only[hs],J9 ra rc,fun fz' st' n=>(n.old j (b j hz)).trans hs⟩
 ·cases h
def UJ(gb:P->Li (Ot P))(bd:D->Li (Ot D)):Prop:=∀ fz st x d,Rel fz st x d->(gb x).length=(bd d).length/\EnvAll fz st (gb x) (bd d)
theorem ZbE:UJ ZeQ one:=fun fz st x d r=>⟨rfl,fun i p e=>by
 cases i with
 |zero=>cases e;exact⟨d,rfl,r⟩
 |succ i=>exact nomatch (show(none:Ot (Ot P))=some (some p) from e)⟩
theorem ZbV:UJ QZ two:=fun fz st x d r=>by
 have no:∀ {l:Li (Ot D)},EnvAll fz st [] l:=fun i p e=>nomatch (show(none:Ot (Ot P))=some (some p) from e)
 cases r with
 |tup r=>cases r with
  |nil=>exact⟨rfl,no⟩
  |cons a r=>cases r with
   |nil=>exact⟨rfl,no⟩
   |cons b r=>cases r with
    |cons c r=>exact⟨rfl,no⟩
    |nil=>exact⟨rfl,fun i p e=>by
     cases i with
     |zero=>cases e;exact⟨_,rfl,a⟩
     |succ i=>cases i with
      |zero=>cases e;exact⟨_,rfl,b⟩
      |succ i=>exact nomatch (show(none:Ot (Ot P))=some (some p) from e)⟩
 |_=>exact⟨rfl,no⟩
theorem VL{gb:P->Li (Ot P)}{bd:D->Li (Ot D)}(hb:UJ gb bd){ok:Za->Prop}{fe fc:Ev}{ge gc:PEv}(he:SEP fe ge)(hc:SEP fc gc){fr:Li Nat}{π:Zp}{ρ:Env}:∀ {xs:Li P}{ds:Li D}{ys:Li P}{fz:Fz}{st:Za},Bd fz st->EnvAll fz st π ρ->Rels fz st xs ds->(∀ fz' st',Next fz st fz' st'->ok st')->
   YK (fun p=>ge (YE gb π fr p)) (fun p=>gc (YE gb π fr p)) xs=some ys->∃ es st' fz',Yv ok (fun d s=>fe (YZ bd ρ fr d) s) (fun d s=>fc (YZ bd ρ fr d) s) ds st=some (es,st')/\Next fz st fz' st'/\Rels fz' st' ys es
 |_,_,ys,fz,st,b,E,.nil,hok,h=>by cases h;exact⟨[],st,fz,if_pos (hok _ _ (Next.refl b)),Next.refl b,.nil⟩
 |x :: xs,d :: ds,ys,fz,st,b,E,.cons a r,hok,h=>by
  have ok0:=hok _ _ (Next.refl b);obtain⟨hl,hbe⟩:=hb fz st x d a;have E1:EnvAll fz st (YE gb π fr x) (YZ bd ρ fr d):=by
   intro i p e;unfold YE at e;unfold YZ;by_cases hi:i < (gb x).length
   ·rw[List.getElem?_append_left hi]at e
    rw[List.getElem?_append_left (by rw[<-hl];exact hi)]
    exact hbe i p e
   ·have hi:(gb x).length<=i:=Nat.le_of_not_lt hi
    rw[List.getElem?_append_right hi,List.getElem?_map]at e;rw[List.getElem?_append_right (by rw[<-hl];exact hi),List.getElem?_map,<-hl]
    cases q:fr[i - (gb x).length]? with
    |none=>rw[q]at e;cases e
    |some k=>
     rw[q]at e;have e:(π[k]?).join=some p:=by simpa using e
     have e2:π[k]?=some (some p):=by
      cases q2:π[k]? with
      |none=>rw[q2]at e;cases e
      |some o=>rw[q2]at e;rw[show o=some p from e]
     obtain⟨d',e3,r3⟩:=E k p e2;exact⟨d',by simp[e3],r3⟩
  unfold YK at h;split at h
  ·rename_i q
   split at h
   ·rename_i y q1
    split at h
    ·rename_i zs q2
     cases h;obtain⟨dc,st1,fz1,e1,n1,r1⟩:=hc _ _ q fz st _ b E1;cases r1;obtain⟨dy,st2,fz2,e2,n2,r2⟩:=he _ _ q1 fz1 st1 _ n1.bd (E1.next b n1);obtain⟨es,st3,fz3,e3,n3,r3⟩:=VL hb he hc n2.bd (E.next b (n1.trans n2)) (r.next b (n1.trans n2)) (fun _ _ n=>hok _ _ ((n1.trans n2).trans n)) q2
     refine⟨dy :: es,st3,fz3,?_,(n1.trans n2).trans n3,.cons (r2.next n2.bd n3) r3⟩;unfold Yv;rw[if_pos ok0];simp only[e1,e2,e3]
    ·exact Zb h
   ·exact Zb h
  ·rename_i q
   obtain⟨dc,st1,fz1,e1,n1,r1⟩:=hc _ _ q fz st _ b E1;cases r1;obtain⟨es,st3,fz3,e3,n3,r3⟩:=VL hb he hc n1.bd (E.next b n1) (r.next b n1) (fun _ _ n=>hok _ _ (n1.trans n)) h
   refine⟨es,st3,fz3,?_,n1.trans n3,r3⟩;unfold Yv;rw[if_pos ok0];simp only[e1];exact e3
  ·exact Zb h
theorem Ze1{gb:P->Li (Ot P)}{bd:D->Li (Ot D)}(hb:UJ gb bd){gw:P->Ot (Li P)}{dw:D->Za->Ot (Li D×(Za->Prop))}(hw:∀ {fz:Fz}{st:Za}{x:P}{dx:D}{xs:Li P},Bd fz st->Rel fz st x dx->gw x=some xs->∃ ds ok,dw dx st=some (ds,ok)/\Rels fz st xs ds/\∀ fz' st',Next fz st fz' st'->ok st'){fr:Li Nat}{fi fe fc:Ev}{gi ge gc:PEv}(hi:SEP fi gi)(he:SEP fe ge)(hc:SEP fc gc){π:Zp}{p:P}(e:Z7 gb gw fr gi ge gc π=some p){fz:Fz}{st:Za}{ρ:Env}(b:Bd fz st)(E:EnvAll fz st π ρ) :
  ∃ ps ds st1 fz1,p=.lst true ps/\W3 bd dw fr fi fe fc ρ st=some (.lst st1.length,st1++[(true,ds)])/\Next fz st fz1 st1/\Rels fz1 st1 ps ds:=by
 unfold Z7 at e;split at e
 ·rename_i x q
  split at e
  ·rename_i xs q1
   split at e
   ·rename_i c
    split at e
    ·rename_i ys q2
     cases e;obtain⟨d,st1,fz1,e1,n1,r1⟩:=hi π x q fz st ρ b E;obtain⟨ds,ok,e2,r2,hok⟩:=hw n1.bd r1 q1;obtain⟨es,st3,fz3,e3,n3,r3⟩:=VL hb he hc (fr:=fr) n1.bd (E.next b n1) r2 hok q2;refine⟨ys,es,st3,fz3,rfl,?_,n1.trans n3,r3⟩;unfold W3;simp only[e1,e2];rw[if_pos (by rw[<-r2.length];exact c)]
     simp only[e3]
    ·exact Zb e
   ·exact Zb e
  ·exact Zb e
 ·exact Zb e
theorem Zic{gb:P->Li (Ot P)}{bd:D->Li (Ot D)}(hb:UJ gb bd){gw:P->Ot (Li P)}{dw:D->Za->Ot (Li D×(Za->Prop))}(hw:∀ {fz:Fz}{st:Za}{x:P}{dx:D}{xs:Li P},Bd fz st->Rel fz st x dx->gw x=some xs->∃ ds ok,dw dx st=some (ds,ok)/\Rels fz st xs ds/\∀ fz' st',Next fz st fz' st'->ok st'){fr:Li Nat}{fi fe fc:Ev}{gi ge gc:PEv}(hi:SEP fi gi)(he:SEP fe ge)(hc:SEP fc gc):SEP (W3 bd dw fr fi fe fc) (Z7 gb gw fr gi ge gc):=by
 intro π p e fz st ρ b E;obtain⟨ps,ds,st1,fz1,rfl,e1,n1,r1⟩:=Ze1 hb hw hi he hc e b E;exact⟨_,_,_,e1,n1.trans (ZaM n1.bd),JQ n1.bd r1⟩
theorem Ze2{gb:P->Li (Ot P)}{bd:D->Li (Ot D)}(hb:UJ gb bd){gw:P->Ot (Li P)}{dw:D->Za->Ot (Li D×(Za->Prop))}(hw:∀ {fz:Fz}{st:Za}{x:P}{dx:D}{xs:Li P},Bd fz st->Rel fz st x dx->gw x=some xs->∃ ds ok,dw dx st=some (ds,ok)/\Rels fz st xs ds/\∀ fz' st',Next fz st fz' st'->ok st'){fr:Li Nat}{fi fe fc:Ev}{gi ge gc:PEv}(hi:SEP fi gi)(he:SEP fe ge)(hc:SEP fc gc):SFP (W3 bd dw fr fi fe fc) (Z7 gb gw fr gi ge gc):=by
 intro π m qs e fz st ρ b E;obtain⟨ps,ds,st1,fz1,h,e1,n1,r1⟩:=Ze1 hb hw hi he hc e b E;cases h;exact Makes.fresh n1 ⟨ds,e1,r1⟩
end
theorem Zc{F:Nat->Fn}{G:PFn}(hF:Yq F G):∀ e:CE,SEP (ev F e) (pe G e)
 |.var i=>ZmO i
 |.cst d=>by
  intro π p e fz st ρ b E;exact .same b (Rel.ofConst e)
 |.bin op a b=>s2 (Zc hF a) (Zc hF b) (ZkV op)
 |.neg a=>s1 (Zc hF a) Zk2
 |.cmp op a b=>s2 (Zc hF a) (Zc hF b) (ZkW op)
 |.not a=>s1 (Zc hF a) Zk3
 |.and a b=>Ze3 (Zc hF a) (Zc hF b) (sC fun _ _=>.bl false)
 |.or a b=>Ze3 (Zc hF a) (sC fun _ _=>.bl true) (Zc hF b)
 |.ife c a b=>Ze3 (Zc hF c) (Zc hF a) (Zc hF b)
 |.tupE a=>Zc hF a
 |.lstE a=>s1 (Zc hF a) ZkZ
 |.aN=>sC fun _ _=>.tup .nil
 |.aC a r=>s2 (Zc hF a) (Zc hF r) Zjg
 |.ix a b=>s2 (Zc hF a) (Zc hF b) Zmh
 |.slice a lo hi=>s3 (Zc hF a) (Zc hF lo) (Zc hF hi) ZgU
 |.nop=>sC fun _ _=>.non
 |.part a=>s1 (Zc hF a) Zjk
 |.call f a ds=>s1 (Zc hF a) (Zlc (hF.1 f))
 |.len a=>s1 (Zc hF a) Zji
 |.tOf a=>s1 (Zc hF a) ZgV
 |.listOf _=>fun _ r e=>nomatch (show(none:Ot P)=some r from e)
 |.intOf a=>s1 (Zc hF a) ZkX
 |.min a b=>s2 (Zc hF a) (Zc hF b) Zk1
 |.max a b=>s2 (Zc hF a) (Zc hF b) Zk0
 |.isi T a=>s1 (Zc hF a) (ZkY T)
 |.rs _ _=>fun _ r e=>nomatch (show(none:Ot P)=some r from e)
 |.inv _=>fun _ r e=>nomatch (show(none:Ot P)=some r from e)
 |.tupR _=>fun _ r e=>nomatch (show(none:Ot P)=some r from e)
 |.look ks ds a=>s1 (Zc hF a) (Zjj ks ds)
 |.dget _ _ _=>fun _ r e=>nomatch (show(none:Ot P)=some r from e)
 |.inR _ _ _=>fun _ r e=>nomatch (show(none:Ot P)=some r from e)
 |.all a=>s1 (Zc hF a) (ZgT _)
 |.any _=>fun _ r e=>nomatch (show(none:Ot P)=some r from e)
 |.comp rng fr it elt cnd=>Zic ZbE Qg (Zc hF it) (Zc hF elt) (Zc hF cnd)
 |.comp2 fr it elt cnd=>Zic ZbV Qh (Zc hF it) (Zc hF elt) (Zc hF cnd)
 |.compT _ _ _ _=>fun _ r e=>nomatch (show(none:Ot P)=some r from e)
 |.lstR _ _=>fun _ r e=>nomatch (show(none:Ot P)=some r from e)
 |.new _=>fun _ r e=>nomatch (show(none:Ot P)=some r from e)
 |.meth _ _ _=>fun _ r e=>nomatch (show(none:Ot P)=some r from e)
 |.isc _ _=>fun _ r e=>nomatch (show(none:Ot P)=some r from e)
 |.tix o a=>s2 (Zc hF o) (Zc hF a) Zk4
 |.dict _ _=>fun _ r e=>nomatch (show(none:Ot P)=some r from e)
 |.dnew=>fun _ r e=>nomatch (show(none:Ot P)=some r from e)
 |.strOf a=>s1 (Zc hF a) Zjm
 |.joinE a b=>s2 (Zc hF a) (Zc hF b) Zjh
 |.starts a b=>s2 (Zc hF a) (Zc hF b) Zez
 |.rng2 a b=>s2 (Zc hF a) (Zc hF b) Zjl
 |.srt _=>fun _ r e=>nomatch (show(none:Ot P)=some r from e)
theorem J1{F:Nat->Fn}{G:PFn}(hF:Yq F G):∀ e:CE,Vl e=true->SFP (ev F e) (pe G e)
 |.bin op a b,_=>s2F (Zc hF a) (Zc hF b) (ZkE op)
 |.lstE a,_=>s1F (Zc hF a) ZhW
 |.call f a ds,h=>ZjG (Zc hF a) (hF.2 f h)
 |.slice a lo hi,_=>s3F (Zc hF a) (Zc hF lo) (Zc hF hi) Zge
 |.comp rng fr it elt cnd,_=>Ze2 ZbE Qg (Zc hF it) (Zc hF elt) (Zc hF cnd)
 |.comp2 fr it elt cnd,_=>Ze2 ZbV Qh (Zc hF it) (Zc hF elt) (Zc hF cnd)
noncomputable def Xy(M:Li Nat)(π:Zp):Zp:=π.mapIdx fun i x=>if M.contains i then none else x
theorem VR{M:Li Nat}{π:Zp}{i:Nat}(h:M.contains i=false):(Xy M π)[i]?=π[i]?:=by
 unfold Xy;rw[List.getElem?_mapIdx];cases q:π[i]? with
 |none=>rfl
 |some x=>
  show some (if M.contains i then none else x)=some x
  rw[h];rfl
theorem ZdL{M:Li Nat}{π:Zp}{i:Nat}{p:P}(h:(Xy M π)[i]?=some (some p)):M.contains i=false/\π[i]?=some (some p):=by
 unfold Xy at h;rw[List.getElem?_mapIdx]at h;cases q:π[i]? with
 |none=>rw[q]at h;cases h
 |some x=>
  rw[q]at h;have h:(if M.contains i then none else x)=some p:=by simpa using h
  split at h
  ·exact Zb h
  ·rename_i c
   exact⟨by simpa using c,by rw[h]⟩
theorem Ze{G:PFn}{M:Li Nat}{π:Zp}:∀ e:CE,noM M e=true->pe G e (Xy M π)=pe G e π
 |.var i,h=>by
  have h:(!M.contains i)=true:=h;show Vj i _=Vj i _;unfold Vj;rw[VR (by simpa using h)]
 |.cst d,_=>rfl
 |.bin op a b,h=>by
  have h:=(Ba _ _).mp h;show pq2 (pe G a) (pe G b) (Ve op) _=pq2 (pe G a) (pe G b) (Ve op) _;unfold pq2;rw[Ze a h.1,Ze b h.2]
 |.neg a,h=>by
  show pq1 (pe G a) ZcQ _=pq1 (pe G a) ZcQ _;unfold pq1;rw[Ze a h]
 |.cmp op a b,h=>by
  have h:=(Ba _ _).mp h;show pq2 (pe G a) (pe G b) (Yu op) _=pq2 (pe G a) (pe G b) (Yu op) _;unfold pq2;rw[Ze a h.1,Ze b h.2]
 |.not a,h=>by
  show pq1 (pe G a) ZcR _=pq1 (pe G a) ZcR _;unfold pq1;rw[Ze a h]
 |.and a b,h=>by
  have h:=(Ba _ _).mp h;show YD (pe G a) (pe G b) _ _=YD (pe G a) (pe G b) _ _;unfold YD;rw[Ze a h.1,Ze b h.2]
 |.or a b,h=>by
  have h:=(Ba _ _).mp h;show YD (pe G a) _ (pe G b) _=YD (pe G a) _ (pe G b) _;unfold YD;rw[Ze a h.1,Ze b h.2]
 |.ife c a b,h=>by
  have h:=(Ba _ _).mp h;have h2:=(Ba _ _).mp h.2;show YD (pe G c) (pe G a) (pe G b) _=YD (pe G c) (pe G a) (pe G b) _;unfold YD;rw[Ze c h.1,Ze a h2.1,Ze b h2.2]
 |.tupE a,h=>Ze a h
 |.srt _,_=>rfl
 |.lstE a,h=>by
  show pq1 (pe G a) ZaC _=pq1 (pe G a) ZaC _;unfold pq1;rw[Ze a h]
 |.aN,_=>rfl
 |.aC a b,h=>by
  have h:=(Ba _ _).mp h;show pq2 (pe G a) (pe G b) UO _=pq2 (pe G a) (pe G b) UO _;unfold pq2;rw[Ze a h.1,Ze b h.2]
 |.ix a b,h=>by
  have h:=(Ba _ _).mp h;show pq2 (pe G a) (pe G b) ixP _=pq2 (pe G a) (pe G b) ixP _;unfold pq2;rw[Ze a h.1,Ze b h.2]
 |.slice c a b,h=>by
  have h:=(Ba _ _).mp h;have h2:=(Ba _ _).mp h.2;show pq3 (pe G c) (pe G a) (pe G b) _ _=pq3 (pe G c) (pe G a) (pe G b) _ _;unfold pq3;rw[Ze c h.1,Ze a h2.1,Ze b h2.2]
 |.nop,_=>rfl
 |.part a,h=>by
  show pq1 (pe G a) ZbI _=pq1 (pe G a) ZbI _;unfold pq1;rw[Ze a h]
 |.call f a ds,h=>by
  show pq1 (pe G a) (VI (G f) ds) _=pq1 (pe G a) (VI (G f) ds) _;unfold pq1;rw[Ze a h]
 |.len a,h=>by
  show pq1 (pe G a) QJ _=pq1 (pe G a) QJ _;unfold pq1;rw[Ze a h]
 |.tOf a,h=>by
  show pq1 (pe G a) WZ _=pq1 (pe G a) WZ _;unfold pq1;rw[Ze a h]
 |.listOf _,_=>rfl
 |.intOf a,h=>by
  show pq1 (pe G a) QE _=pq1 (pe G a) QE _;unfold pq1;rw[Ze a h]
 |.min a b,h=>by
  have h:=(Ba _ _).mp h;show pq2 (pe G a) (pe G b) ZcO _=pq2 (pe G a) (pe G b) ZcO _;unfold pq2;rw[Ze a h.1,Ze b h.2]
 |.max a b,h=>by
  have h:=(Ba _ _).mp h;show pq2 (pe G a) (pe G b) ZcN _=pq2 (pe G a) (pe G b) ZcN _;unfold pq2;rw[Ze a h.1,Ze b h.2]
 |.isi T a,h=>by
  show pq1 (pe G a) (Zau T) _=pq1 (pe G a) (Zau T) _;unfold pq1;rw[Ze a h]
 |.rs _ _,_=>rfl
 |.inv _,_=>rfl
 |.tupR _,_=>rfl
 |.look ks ds a,h=>by
  show pq1 (pe G a) (V6 ks ds) _=pq1 (pe G a) (V6 ks ds) _;unfold pq1;rw[Ze a h]
 |.dget _ _ _,_=>rfl
 |.inR _ _ _,_=>rfl
 |.all a,h=>by
  show pq1 (pe G a) (XG _) _=pq1 (pe G a) (XG _) _;unfold pq1;rw[Ze a h]
 |.any _,_=>rfl
 |.comp rng fr it elt cnd,h=>by
  have h:=(Ba _ _).mp h;have e:∀ b p,YE b (Xy M π) fr p=YE b π fr p:=fun b p=>by
   unfold YE
   congr 1
   refine List.map_congr_left fun i hi=>?_
   have:=List.all_eq_true.mp h.2 i hi;rw[VR (by simpa using this)]
  show Z7 ZeQ (Yl rng) fr (pe G it) (pe G elt) (pe G cnd) _=Z7 ZeQ (Yl rng) fr (pe G it) (pe G elt) (pe G cnd) _;unfold Z7;rw[Ze it h.1];simp only[e]
 |.comp2 fr it elt cnd,h=>by
  have h:=(Ba _ _).mp h;have e:∀ b p,YE b (Xy M π) fr p=YE b π fr p:=fun b p=>by
   unfold YE
   congr 1
   refine List.map_congr_left fun i hi=>?_
   have:=List.all_eq_true.mp h.2 i hi;rw[VR (by simpa using this)]
  show Z7 QZ XO fr (pe G it) (pe G elt) (pe G cnd) _=Z7 QZ XO fr (pe G it) (pe G elt) (pe G cnd) _;unfold Z7;rw[Ze it h.1];simp only[e]
 |.compT _ _ _ _,_=>rfl
 |.new _,_=>rfl
 |.meth _ _ _,_=>rfl
 |.tix o a,h=>by
  have h:=(Ba _ _).mp h;show pq2 (pe G o) (pe G a) ZhF _=pq2 (pe G o) (pe G a) ZhF _;unfold pq2;rw[Ze o h.1,Ze a h.2]
 |.isc _ _,_=>rfl
 |.lstR _ _,_=>rfl
 |.dict _ _,_=>rfl
 |.dnew,_=>rfl
 |.strOf a,h=>by
  show pq1 (pe G a) XJ _=pq1 (pe G a) XJ _;unfold pq1;rw[Ze a h]
 |.joinE a b,h=>by
  have h:=(Ba _ _).mp h;show pq2 (pe G a) (pe G b) W7 _=pq2 (pe G a) (pe G b) W7 _;unfold pq2;rw[Ze a h.1,Ze b h.2]
 |.starts a b,h=>by
  have h:=(Ba _ _).mp h;show pq2 (pe G a) (pe G b) XY _=pq2 (pe G a) (pe G b) XY _;unfold pq2;rw[Ze a h.1,Ze b h.2]
 |.rng2 a b,h=>by
  have h:=(Ba _ _).mp h;show pq2 (pe G a) (pe G b) U8 _=pq2 (pe G a) (pe G b) U8 _;unfold pq2;rw[Ze a h.1,Ze b h.2]
end Dp


namespace Dp
open PySem
inductive Own(p:P)(o:Option (Option D))(ps:List P)(j:Nat):Prop where
 |l (a:p=.lst true ps) (b:o=some (some (.lst j)))
 |d (a:p=.dic true ps) (b:o=some (some (.dic j)))
def Rf(o:Ot (Ot D))(j:Nat):Prop:=o=some (some (.lst j))\/o=some (some (.dic j))
theorem Own.rf{p:P}{o:Ot (Ot D)}{ps:Li P}{j:Nat}:Own p o ps j->Rf o j
 |.l _ b=>.inl b
 |.d _ b=>.inr b
theorem Rf.inj{o:Ot (Ot D)}{i j:Nat}(h:Rf o i)(h':Rf o j):i=j:=by
 rcases h with h|h<;>rcases h' with h'|h'<;>(rw[h]at h';cases h';try rfl)
theorem Own.lst{m:Bool}{xs:Li P}{o:Ot (Ot D)}{ps:Li P}{j:Nat}:Own (.lst m xs) o ps j->(m=true/\xs=ps)/\o=some (some (.lst j))
 |.l a b=>by cases a;exact⟨⟨rfl,rfl⟩,b⟩
 |.d a b=>nomatch a
theorem Own.rel{fz:Fz}{st:Za}{p:P}{o:Ot (Ot D)}{ps:Li P}{ds:Li D}{j:Nat}(h:Own p o ps j)(hz:fz j)(e:st[j]?=some (true,ds))(r:Rels fz st ps ds):∃ d,o=some (some d)/\Rel fz st p d:=by
 cases h with
 |l a b=>rw[a];exact⟨_,b,.lst hz e r⟩
 |d a b=>rw[a];exact⟨_,b,.dic hz e r⟩
structure Inv(n0:Nat)(M:List Nat)(fz:Fz)(st:Za)(π:Zp)(ρ:Env):Prop where
 bd:Bd fz st
 lo:n0<=st.length
 len:π.length=ρ.length
 fr:∀ (i:Nat) (p:P),M.contains i=false->π[i]?=some (some p)->∃ d,ρ[i]?=some (some d)/\Rel fz st p d
 mt:∀ (i:Nat) (p:P),M.contains i=true->π[i]?=some (some p)->∃ (j:Nat) (ps:List P) (ds:List D),Own p ρ[i]? ps j/\Rf ρ[i]? j/\st[j]?=some (true,ds)/\¬fz j/\n0<=j/\Rels fz st ps ds
 ne:∀ (i i':Nat) (p p':P) (j:Nat),M.contains i=true->M.contains i'=true->π[i]?=some (some p)->π[i']?=some (some p')->Rf ρ[i]? j->Rf ρ[i']? j->i=i'
structure Later(n0:Nat)(fz:Fz)(st:Za)(fz':Fz)(st':Za):Prop where
 low:∀ i,i < n0->st'[i]?=st[i]?
 frz:∀ i,fz i->st'[i]?=st[i]?
 sub:∀ i,fz i->fz' i
 new:∀ i,fz' i->fz i\/n0<=i
 len:st.length<=st'.length
section
variable {n0:Nat}{M:Li Nat}{fz fz' fz1 fz2:Fz}{st st' st1 st2:Za}{π:Zp}{ρ:Env}
theorem Later.refl:Later n0 fz st fz st:=⟨fun _ _=>rfl,fun _ _=>rfl,fun _ h=>h,fun _ h=>.inl h,Nat.le_refl _⟩
theorem Later.trans(x:Later n0 fz st fz1 st1)(y:Later n0 fz1 st1 fz2 st2):Later n0 fz st fz2 st2:=
 ⟨fun i h=>(y.low i h).trans (x.low i h),fun i h=>(y.frz i (x.sub i h)).trans (x.frz i h),fun i h=>y.sub i (x.sub i h),fun i h=>(y.new i h).elim (x.new i) .inr,Nat.le_trans x.len y.len⟩
theorem Next.later(h:n0<=st.length)(b:Bd fz st)(x:Next fz st fz' st'):Later n0 fz st fz' st':=
 ⟨fun i hi=>x.old i (Nat.lt_of_lt_of_le hi h),fun i hi=>x.old i (b i hi),x.sub,fun i hi=>(x.new i hi).elim .inl fun z=>.inr (Nat.le_trans h z),x.len⟩
theorem Zl{α:Type}{l:Li α}{i:Nat}{x:α}(h:l[i]?=some x):i < l.length:=(List.getElem?_eq_some_iff.mp h).1
theorem Inv.next(I:Inv n0 M fz st π ρ)(x:Next fz st fz' st'):Inv n0 M fz' st' π ρ:=
 ⟨x.bd,Nat.le_trans I.lo x.len,I.len,fun i p h e=>let ⟨d,e1,r⟩:=I.fr i p h e;⟨d,e1,r.next I.bd x⟩,fun i p h e=>by
  obtain⟨j,ps,ds,e1,e2,e3,e4,e5,r⟩:=I.mt i p h e;have hj:=Zl e3;exact⟨j,ps,ds,e1,e2,(x.old j hj).trans e3,fun z=>(x.new j z).elim e4 fun z=>absurd hj (by omega),e5,r.next I.bd x⟩,I.ne⟩
theorem Inv.erase(I:Inv n0 M fz st π ρ):EnvAll fz st (Xy M π) ρ:=fun i p e=>let ⟨h1,h2⟩:=ZdL e;I.fr i p h1 h2
noncomputable def fzM(M:Li Nat)(fz:Fz)(π:Zp)(ρ:Env):Fz:=fun i=>fz i\/∃ (k:Nat) (p:P),M.contains k=true/\π[k]?=some (some p)/\Rf ρ[k]? i
theorem Inv.bdM(I:Inv n0 M fz st π ρ):Bd (fzM M fz π ρ) st:=by
 rintro i (h|⟨k,p,hk,e,e'⟩)
 ·exact I.bd i h
 ·obtain⟨j,ps,ds,e1,e2,e3,e4,e5,r⟩:=I.mt k p hk e
  cases e'.inj e2
  exact Zl e3
theorem Inv.all(I:Inv n0 M fz st π ρ):EnvAll (fzM M fz π ρ) st π ρ:=by
 intro i p e;cases h:M.contains i with
 |false=>
  obtain⟨d,e1,r⟩:=I.fr i p h e;exact⟨d,e1,r.mono (fun _ z=>.inl z) fun _ _=>rfl⟩
 |true=>
  obtain⟨j,ps,ds,e1,e2,e3,e4,e5,r⟩:=I.mt i p h e;exact e1.rel (.inr ⟨i,_,h,e,e2⟩) e3 (r.mono (fun _ z=>.inl z) fun _ _=>rfl)
theorem YH{F:Nat->Fn}{G:PFn}(hF:Yq F G){e:CE}{p:P}(I:Inv n0 M fz st π ρ)(h:pe G e π=some p)(k:ZP M e p=true):Gives fz st (ev F e ρ st) p:=by
 unfold ZP at k;rw[Bool.or_eq_true]at k;rcases k with k|k
 ·rw[<-Ze e k]at h
  exact Zc hF e _ p h fz st ρ I.bd I.erase
 ·obtain⟨d,st',fz',e1,n1,r1⟩:=Zc hF e _ p h _ st ρ I.bdM I.all
  exact⟨d,st',fz,e1,n1.small I.bd,r1.ofNoL k⟩
theorem Js{F:Nat->Fn}{G:PFn}(hF:Yq F G){e:CE}{m:Bool}{xs:Li P}(I:Inv n0 M fz st π ρ)(h:pe G e π=some (.lst m xs))(hf:Vl e=true)(k:(noM M e||JL xs)=true) :
  ∃ j ds st' fz1,ev F e ρ st=some (.lst j,st')/\st'[j]?=some (m,ds)/\Next fz st fz1 st'/\¬fz1 j/\st.length<=j/\Rels fz1 st' xs ds:=by
 rw[Bool.or_eq_true]at k;rcases k with k|k
 ·rw[<-Ze e k]at h
  exact J1 hF e hf _ m xs h fz st ρ I.bd I.erase
 ·obtain⟨j,ds,st',fz1,e1,e2,n1,hn,hl,r⟩:=J1 hF e hf _ m xs h _ st ρ I.bdM I.all
  exact⟨j,ds,st',fz,e1,e2,n1.small I.bd,fun z=>absurd (I.bd j z) (by omega),hl,r.ofNoL k⟩

theorem UR{F:Nat->Fn}{G:PFn}(hF:Yq F G){e:CE}{p:P}(I:Inv n0 M fz st π ρ)(h:pe G e π=some p)(k:YV M e p=true) :
  ∃ d j ps ds st' fz1,(ev F e ρ st=some (d,st')/\Own p (some (some d)) ps j)/\st'[j]?=some (true,ds)/\Next fz st fz1 st'/\¬fz1 j/\st.length<=j/\Rels fz1 st' ps ds:=by
 unfold YV at k;split at k
 ·rw[Ba]at k
  obtain⟨j,ds,st',fz1,e1,r⟩:=Js hF I h k.1 k.2;exact⟨_,j,_,ds,st',fz1,⟨e1,.l rfl rfl⟩,r⟩
 ·cases k
theorem Zcu{F:Nat->Fn}{G:PFn}(hF:Yq F G){e:CE}{p:P}(I:Inv n0 M fz st π ρ)(h:pe G e π=some p)(k:YV M e p=true):Gives fz st (ev F e ρ st) p:=by
 obtain⟨d,j,ps,ds,st',fz1,⟨e1,ow⟩,e2,n1,hn,hl,r⟩:=UR hF I h k;obtain⟨d',e3,r'⟩:=ow.rel (fz:=fun i=>fz1 i\/i=j) (.inr rfl) e2 (r.mono (fun _ z=>.inl z) fun _ _=>rfl)
 cases e3;exact⟨d,st',fun i=>fz1 i\/i=j,e1,⟨n1.old,n1.len,fun i z=>.inl (n1.sub i z),fun i z=>z.elim (n1.new i) fun z=>by rw[z];exact .inr hl,fun i z=>z.elim (n1.bd i) fun z=>by rw[z];exact Zl e2⟩,r'⟩
theorem Z8{α:Type}{l:Li (Ot α)}{i k:Nat}{x y:α}(h:(l.set i (some x))[k]?=some (some y)):(k=i/\y=x/\i < l.length)\/(k≠i/\l[k]?=some (some y)):=by
 rw[List.getElem?_set]at h;split at h
 ·rename_i e
  subst e;split at h
  ·rename_i hl
   cases h;exact .inl ⟨rfl,rfl,hl⟩
  ·exact Zb h
 ·rename_i e
  exact .inr ⟨fun z=>e z.symm,h⟩
theorem Q3{α:Type}{l:Li (Ot α)}{i:Nat}{x:α}(h:i < l.length):(l.set i (some x))[i]?=some (some x):=by rw[List.getElem?_set,if_pos rfl,if_pos h]
theorem Zw{α:Type}{l:Li (Ot α)}{i k:Nat}{x:α}(h:k≠i):(l.set i (some x))[k]?=l[k]?:=by rw[List.getElem?_set,if_neg (fun z=>h z.symm)]
theorem Inv.set{i:Nat}{p:P}{d:D}(I:Inv n0 M fz st π ρ)(h:M.contains i=false)(r:Rel fz st p d):Inv n0 M fz st (ZM π i p) (Zy ρ i d):=by
 unfold ZM Zy;refine⟨I.bd,I.lo,by rw[List.length_set,List.length_set];exact I.len,fun k q hk e=>?_,fun k q hk e=>?_,fun k k' q q' j hk hk' e e' e1 e1'=>?_⟩
 ·rcases Z8 e with⟨rfl,rfl,hl⟩|⟨hn,e⟩
  ·exact⟨d,Q3 (by rw[<-I.len];exact hl),r⟩
  ·rw[Zw hn]
   exact I.fr k q hk e
 ·rcases Z8 e with⟨rfl,rfl,hl⟩|⟨hn,e⟩
  ·rw[h]at hk;cases hk
  ·rw[Zw hn]
   exact I.mt k q hk e
 ·rcases Z8 e with⟨rfl,rfl,hl⟩|⟨hn,e⟩
  ·rw[h]at hk;cases hk
  ·rcases Z8 e' with⟨rfl,rfl,hl⟩|⟨hn',e'⟩
   ·rw[h]at hk';cases hk'
   ·rw[Zw hn]at e1
    rw[Zw hn']at e1';exact I.ne k k' q q' j hk hk' e e' e1 e1'
theorem Inv.setM{i j:Nat}{p:P}{d:D}{ps:Li P}{ds:Li D}(I:Inv n0 M fz st π ρ)(h:M.contains i=true)(ow:Own p (some (some d)) ps j)(hs:st[j]?=some (true,ds))(hz:¬fz j)(hl:n0<=j)(r:Rels fz st ps ds)(hn:∀ (k:Nat) (p:P),M.contains k=true->π[k]?=some (some p)->¬Rf ρ[k]? j):Inv n0 M fz st (ZM π i p) (Zy ρ i d):=by
 unfold ZM Zy;refine⟨I.bd,I.lo,by rw[List.length_set,List.length_set];exact I.len,fun k q hk e=>?_,fun k q hk e=>?_,fun k k' q q' j' hk hk' e e' e1 e1'=>?_⟩
 ·rcases Z8 e with⟨rfl,rfl,hl⟩|⟨hn,e⟩
  ·rw[h]at hk;cases hk
  ·rw[Zw hn]
   exact I.fr k q hk e
 ·rcases Z8 e with⟨rfl,rfl,hl'⟩|⟨hn,e⟩
  ·have z:=Q3 (x:=d) (show k < ρ.length by rw[<-I.len];exact hl')
   exact⟨j,ps,ds,by rw[z];exact ow,by rw[z];exact ow.rf,hs,hz,hl,r⟩
  ·rw[Zw hn]
   exact I.mt k q hk e
 ·rcases Z8 e with⟨a1,a2,a3⟩|⟨a1,a2⟩
  ·rcases Z8 e' with⟨b1,b2,b3⟩|⟨b1,b2⟩
   ·rw[a1,b1]
   ·rw[a1,Q3 (by rw[<-I.len];exact a3)]at e1
    cases ow.rf.inj e1
    rw[Zw b1]at e1';exact absurd e1' (hn k' q' hk' b2)
  ·rcases Z8 e' with⟨b1,b2,b3⟩|⟨b1,b2⟩
   ·rw[b1,Q3 (by rw[<-I.len];exact b3)]at e1'
    cases ow.rf.inj e1'
    rw[Zw a1]at e1;exact absurd e1 (hn k q hk a2)
   ·rw[Zw a1]at e1
    rw[Zw b1]at e1';exact I.ne k k' q q' j' hk hk' a2 b2 e1 e1'
theorem Inv.write{i j:Nat}{p0 p1:P}{ps:Li P}{ds:Li D}(I:Inv n0 M fz st π ρ)(h:M.contains i=true)(e0:π[i]?=some (some p0))(ow:Own p1 ρ[i]? ps j)(hz:¬fz j)(hl:n0<=j)(hj:j < st.length)(r:Rels fz st ps ds) :
  Inv n0 M fz (st.set j (true,ds)) (ZM π i p1) ρ/\Later n0 fz st fz (st.set j (true,ds)):=by
 have same:∀ k,fz k->(st.set j (true,ds))[k]?=st[k]?:=fun k hk=>by
  rw[List.getElem?_set,if_neg (fun z=>hz (by rw[z];exact hk))]
 have mono:∀ {q:P}{d:D},Rel fz st q d->Rel fz (st.set j (true,ds)) q d:=fun r=>r.mono (fun _ z=>z) same
 have monos:∀ {q:Li P}{d:Li D},Rels fz st q d->Rels fz (st.set j (true,ds)) q d:=fun r=>r.mono (fun _ z=>z) same
 refine⟨⟨fun k hk=>by rw[List.length_set];exact I.bd k hk,by rw[List.length_set];exact I.lo,by unfold ZM;rw[List.length_set];exact I.len,fun k q hk e=>?_,fun k q hk e=>?_,fun k k' q q' j' hk hk' e e' e1 e1'=>?_⟩,
  ⟨fun k hk=>by rw[List.getElem?_set,if_neg (by omega)],same,fun _ z=>z,fun _ z=>.inl z,by rw[List.length_set];exact Nat.le_refl _⟩⟩
 ·unfold ZM at e
  rcases Z8 e with⟨rfl,rfl,_⟩|⟨hn,e⟩
  ·rw[h]at hk;cases hk
  ·obtain⟨d,e1,r1⟩:=I.fr k q hk e
   exact⟨d,e1,mono r1⟩
 ·unfold ZM at e
  rcases Z8 e with⟨rfl,rfl,_⟩|⟨hn,e⟩
  ·exact⟨j,ps,ds,ow,ow.rf,by rw[List.getElem?_set,if_pos rfl,if_pos hj],hz,hl,monos r⟩
  ·obtain⟨j',qs,es,f1,f2,f3,f4,f5,f6⟩:=I.mt k q hk e
   refine⟨j',qs,es,f1,f2,?_,f4,f5,monos f6⟩;rw[List.getElem?_set,if_neg (fun z=>hn (I.ne k i q p0 j hk h e e0 (by rw[z];exact f2) ow.rf))]
   exact f3
 ·unfold ZM at e e'
  have f:∀ {k:Nat}{q:P},(π.set i (some p1))[k]?=some (some q)->∃ q',π[k]?=some (some q'):=fun {k q} e=>by
   rcases Z8 e with⟨rfl,_,_⟩|⟨_,e⟩
   ·exact⟨_,e0⟩
   ·exact⟨_,e⟩
  obtain⟨_,g⟩:=f e;obtain⟨_,g'⟩:=f e';exact I.ne k k' _ _ j' hk hk' g g' e1 e1'
end
def ZlM(n0:Nat)(M:Li Nat)(fz:Fz)(st:Za):PFl->Fl->Prop
 |.nx π,.nx ρ=>Inv n0 M fz st π ρ
 |.bk π,.bk ρ=>Inv n0 M fz st π ρ
 |.ct π,.ct ρ=>Inv n0 M fz st π ρ
 |.rt p,.rt d=>Rel fz st p d/\Bd fz st
 |_,_=>False
def Kept(M T:Li Nat)(π:Zp)(ρ:Env)(st:Za)(π':Zp)(ρ':Env)(st':Za):Prop:=
 ∀ (i:Nat),i∉T->M.contains i=true->π'[i]?=π[i]?/\ρ'[i]?=ρ[i]?/\∀ (j:Nat) (p:P),π[i]?=some (some p)->Rf ρ[i]? j->st'[j]?=st[j]?
def KeptF(M T:Li Nat)(π:Zp)(ρ:Env)(st:Za)(r:PFl)(r':Fl)(st':Za):Prop:=match r,r' with
 |.nx π',.nx ρ'=>Kept M T π ρ st π' ρ' st'
 |.bk π',.bk ρ'=>Kept M T π ρ st π' ρ' st'
 |.ct π',.ct ρ'=>Kept M T π ρ st π' ρ' st'
 |_,_=>True
theorem Kept.refl{M T:Li Nat}{π:Zp}{ρ:Env}{st:Za}:Kept M T π ρ st π ρ st:=fun _ _ _=>⟨rfl,rfl,fun _ _ _ _=>rfl⟩
theorem Kept.trans{M T T1 T2:Li Nat}{π π1 π2:Zp}{ρ ρ1 ρ2:Env}{st st1 st2:Za}(s1:∀ i,i∈T1->i∈T)(s2:∀ i,i∈T2->i∈T)(x:Kept M T1 π ρ st π1 ρ1 st1)(y:Kept M T2 π1 ρ1 st1 π2 ρ2 st2):Kept M T π ρ st π2 ρ2 st2:=fun i h hm=>by
 obtain⟨a1,a2,a3⟩:=x i (fun z=>h (s1 i z)) hm
 obtain⟨b1,b2,b3⟩:=y i (fun z=>h (s2 i z)) hm
 exact⟨b1.trans a1,b2.trans a2,fun j p e e'=>(b3 j p (a1.trans e) (by rw[a2];exact e')).trans (a3 j p e e')⟩
theorem Kept.more{M T T1:Li Nat}{π π1:Zp}{ρ ρ1:Env}{st st1:Za}(s1:∀ i,i∈T1->i∈T)(x:Kept M T1 π ρ st π1 ρ1 st1):Kept M T π ρ st π1 ρ1 st1:=fun i h hm=>x i (fun z=>h (s1 i z)) hm
theorem KeptF.trans{M T T1 T2:Li Nat}{π π1:Zp}{ρ ρ1:Env}{st st1 st2:Za}{r:PFl}{r':Fl}(s1:∀ i,i∈T1->i∈T)(s2:∀ i,i∈T2->i∈T)(x:Kept M T1 π ρ st π1 ρ1 st1)(y:KeptF M T2 π1 ρ1 st1 r r' st2):KeptF M T π ρ st r r' st2:=by
 cases r<;>cases r'<;>first|trivial|exact Kept.trans s1 s2 x y
theorem KeptF.more{M T T1:Li Nat}{π:Zp}{ρ:Env}{st st2:Za}{r:PFl}{r':Fl}(s1:∀ i,i∈T1->i∈T)(y:KeptF M T1 π ρ st r r' st2):KeptF M T π ρ st r r' st2:=by
 cases r<;>cases r'<;>first|trivial|exact Kept.more s1 y
theorem Next.kept{n0:Nat}{M T:Li Nat}{fz fz':Fz}{st st':Za}{π:Zp}{ρ:Env}(I:Inv n0 M fz st π ρ)(x:Next fz st fz' st'):Kept M T π ρ st π ρ st':=fun i _ hm=>⟨rfl,rfl,fun j p e e'=>by
 obtain⟨j',ps,ds,e1,e2,e3,e4,e5,r⟩:=I.mt i p hm e;cases e'.inj e2
 exact x.old j (Zl e3)⟩
abbrev Xn(n0:Nat)(M T:Li Nat)(fz:Fz)(st:Za)(π:Zp)(ρ:Env)(x:Ot (Fl×Za))(r:PFl):Prop:=∃ r' st' fz',x=some (r',st')/\Later n0 fz st fz' st'/\ZlM n0 M fz' st' r r'/\KeptF M T π ρ st r r' st'
def SX(n0:Nat)(M T:Li Nat)(f:Ex)(g:PEx):Prop:=∀ π r,g π=some r->∀ fz st ρ,Inv n0 M fz st π ρ->Xn n0 M T fz st π ρ (f ρ st) r
section
variable {n0:Nat}{M T T1 T2:Li Nat}{f f1 f2:Ex}{g g1 g2:PEx}{F:Nat->Fn}{G:PFn}
theorem Zlw(h1:SX n0 M T1 f1 g1)(h2:SX n0 M T2 f2 g2):SX n0 M (T1++T2) (UH f1 f2) (ZeS g1 g2):=by
 intro π r e fz st ρ I;have s1:∀ i,i∈T1->i∈T1++T2:=fun i h=>List.mem_append.mpr (.inl h)
 have s2:∀ i,i∈T2->i∈T1++T2:=fun i h=>List.mem_append.mpr (.inr h)
 unfold ZeS at e;split at e
 ·rename_i π1 q
  obtain⟨r1,st1,fz1,e1,l1,R1,k1⟩:=h1 π _ q fz st ρ I;cases r1 with
  |nx ρ1=>
   obtain⟨r2,st2,fz2,e2,l2,R2,k2⟩:=h2 π1 r e fz1 st1 ρ1 R1;exact⟨r2,st2,fz2,by unfold UH;rw[e1];exact e2,l1.trans l2,R2,KeptF.trans s1 s2 k1 k2⟩
  |_=>exact R1.elim
 ·rename_i hn
  obtain⟨r1,st1,fz1,e1,l1,R1,k1⟩:=h1 π _ e fz st ρ I;refine⟨r1,st1,fz1,?_,l1,R1,KeptF.more s1 k1⟩;unfold UH;rw[e1];cases r with
  |nx π1=>exact absurd e (hn π1)
  |rt p=>cases r1<;>first|rfl|exact R1.elim
  |bk π1=>cases r1<;>first|rfl|exact R1.elim
  |ct π1=>cases r1<;>first|rfl|exact R1.elim
theorem Zlv(hF:Yq F G)(e:CE):SX n0 M T (ZaQ (ev F e)) (ZeR (pe G e)):=by
 intro π r h fz st ρ I;unfold ZeR at h;split at h
 ·rename_i p q
  cases h;obtain⟨d,st',fz',e1,n1,r1⟩:=Zc hF e _ p q _ st ρ I.bdM I.all;refine⟨.rt d,st',fz',by unfold ZaQ;rw[e1],⟨fun i hi=>n1.old i (Nat.lt_of_lt_of_le hi I.lo),fun i hi=>n1.old i (I.bd i hi),fun i hi=>n1.sub i (.inl hi),fun i hi=>?_,n1.len⟩,⟨r1,n1.bd⟩,trivial⟩
  rcases n1.new i hi with(z|⟨k,p,hk,e,e'⟩)|z
  ·exact .inl z
  ·obtain⟨j,ps,ds,f1,f2,f3,f4,f5,r⟩:=I.mt k p hk e
   cases e'.inj f2
   exact .inr f5
  ·exact .inr (Nat.le_trans I.lo z)
 ·exact Zb h
theorem Zlx(hF:Yq F G)(i:Nat)(e:CE):SX n0 M (i :: mvT e) (JW i (ev F e)) (ZaL M i e (pe G e)):=by
 intro π r h fz st ρ I;have kp:∀ {fz':Fz}{st':Za}{d:D}{p:P},Next fz st fz' st'->Kept M (i :: mvT e) π ρ st (ZM π i p) (Zy ρ i d) st':=fun {fz' st' d p} x k hk hm=>by
  have hki:k≠i:=fun z=>hk (by rw[z];exact Ls)
  have:=Next.kept (T:=i :: mvT e) I x k hk hm;exact⟨Zw hki,Zw hki,this.2.2⟩
 unfold ZaL at h;split at h
 ·rename_i p q
  cases hm:M.contains i with
  |true=>
   rw[hm]at h;simp only[if_true]at h;split at h
   ·rename_i c
    cases h;obtain⟨d,j,ps,ds,st',fz1,⟨e1,ow⟩,e2,n1,hn,hl,r⟩:=UR hF I q c;refine⟨.nx (Zy ρ i d),st',fz1,by unfold JW;rw[e1],n1.later I.lo I.bd,(I.next n1).setM hm ow e2 hn (Nat.le_trans I.lo hl) r fun k p hk e e'=>?_,kp n1⟩
    obtain⟨j',ps,es,f1,f2,f3,f4,f5,_⟩:=I.mt k p hk e;cases e'.inj f2
    exact absurd (Zl f3) (by omega)
   ·exact Zb h
  |false=>
   rw[hm]at h;simp only[Bool.false_eq_true,if_false]at h;split at h
   ·rename_i c
    cases h;obtain⟨d,st',fz',e1,n1,r1⟩:Gives fz st (ev F e ρ st) p:=((Bool.or_eq_true _ _).mp c).elim (YH hF I q) (Zcu hF I q);exact⟨.nx (Zy ρ i d),st',fz',by unfold JW;rw[e1],n1.later I.lo I.bd,(I.next n1).set hm r1,kp n1⟩
   ·exact Zb h
 ·exact Zb h
theorem Zlr(hF:Yq F G)(i:Nat)(e:CE):SX n0 M [i] (Zdc i (ev F e)) (ZeH M i e (pe G e)):=by
 intro π r h fz st ρ I;unfold ZeH at h;split at h
 ·rename_i xs q0
  split at h
  ·rename_i p q
   split at h
   ·rename_i c
    cases h;rw[Ba,Ba]at c;obtain⟨⟨hm,hk⟩,hz⟩:=c;have hz:=of_decide_eq_true hz;obtain⟨d,st',fz',e1,n1,r1⟩:=YH hF I q hk;have I1:=I.next n1;obtain⟨j,ps,ds,f1,f2,f3,f4,f5,f6⟩:=I1.mt i _ hm q0;obtain⟨⟨_,rfl⟩,f0⟩:=f1.lst;obtain⟨I2,l2⟩:=I1.write hm q0 (.l rfl f0) f4 f5 (Zl f3) (f6.append (.cons r1 .nil));refine⟨.nx ρ,_,fz',?_,(n1.later I.lo I.bd).trans l2,I2,fun k hk2 hm2=>?_⟩
    ·unfold Zdc
     rw[f0];simp only[e1];unfold Zb2;simp only[f3];rw[if_pos (by rw[<-f6.length];exact hz)]
    ·have hki:k≠i:=fun z=>hk2 (by rw[z];exact List.mem_singleton.mpr rfl)
     have kk:=Next.kept (T:=[i]) I n1 k hk2 hm2;refine⟨Zw hki,rfl,fun j' p' e e'=>?_⟩
     rw[<-kk.2.2 j' p' e e',List.getElem?_set,if_neg (fun z=>hki (I.ne k i p' _ j hm2 hm e q0 (by rw[z];exact e') f2))]
   ·exact Zb h
  ·exact Zb h
 ·exact Zb h
theorem Zls(hF:Yq F G)(i:Nat)(e:CE):SX n0 M [i] (ZdM i (ev F e)) (ZeM M i e (pe G e)):=by
 intro π r h fz st ρ I;unfold ZeM at h;split at h
 ·rename_i xs q0
  split at h
  ·rename_i ys q
   split at h
   ·rename_i c
    cases h;rw[Ba,Ba]at c;obtain⟨⟨hm,hk⟩,hz⟩:=c;have hz:=of_decide_eq_true hz;obtain⟨d,st',fz',e1,n1,r1⟩:=YH hF I q (show ZP M e _=true by unfold ZP;rw[hk,Bool.true_or])
    have I1:=I.next n1;obtain⟨j,ps,ds,f1,f2,f3,f4,f5,f6⟩:=I1.mt i _ hm q0;obtain⟨⟨_,rfl⟩,f0⟩:=f1.lst;cases r1 with
    |@lst jb _ _ db zb sb rb=>
     obtain⟨I2,l2⟩:=I1.write hm q0 (.l rfl f0) f4 f5 (Zl f3) (f6.append rb);refine⟨.nx ρ,_,fz',?_,(n1.later I.lo I.bd).trans l2,I2,fun k hk2 hm2=>?_⟩
     ·unfold ZdM
      rw[f0];simp only[e1];unfold ZiS;simp only[f3,sb];rw[if_pos (by rw[<-f6.length,<-rb.length];exact hz)]
     ·have hki:k≠i:=fun z=>hk2 (by rw[z];exact List.mem_singleton.mpr rfl)
      have kk:=Next.kept (T:=[i]) I n1 k hk2 hm2;refine⟨Zw hki,rfl,fun j' p' e e'=>?_⟩
      rw[<-kk.2.2 j' p' e e',List.getElem?_set,if_neg (fun z=>hki (I.ne k i p' _ j hm2 hm e q0 (by rw[z];exact e') f2))]
   ·exact Zb h
  ·exact Zb h
 ·exact Zb h
theorem Zlu(hF:Yq F G)(c:CE)(h1:SX n0 M T1 f1 g1)(h2:SX n0 M T2 f2 g2):SX n0 M (T1++T2) (UE (ev F c) f1 f2) (ZeO (pe G c) g1 g2):=by
 intro π r e fz st ρ I;have s1:∀ i,i∈T1->i∈T1++T2:=fun i h=>List.mem_append.mpr (.inl h)
 have s2:∀ i,i∈T2->i∈T1++T2:=fun i h=>List.mem_append.mpr (.inr h)
 unfold ZeO at e;split at e
 ·rename_i q
  obtain⟨d,st',fz',e1,n1,r1⟩:=YH hF I q (by unfold ZP;rw[show noL (.bl true)=true from rfl,Bool.or_true])
  cases r1;obtain⟨r2,st2,fz2,e2,l2,R2,k2⟩:=h1 π r e fz' st' ρ (I.next n1);exact⟨r2,st2,fz2,by unfold UE;rw[e1];exact e2,(n1.later I.lo I.bd).trans l2,R2,KeptF.trans (T1:=T1) s1 s1 (Next.kept I n1) k2⟩
 ·rename_i q
  obtain⟨d,st',fz',e1,n1,r1⟩:=YH hF I q (by unfold ZP;rw[show noL (.bl false)=true from rfl,Bool.or_true])
  cases r1;obtain⟨r2,st2,fz2,e2,l2,R2,k2⟩:=h2 π r e fz' st' ρ (I.next n1);exact⟨r2,st2,fz2,by unfold UE;rw[e1];exact e2,(n1.later I.lo I.bd).trans l2,R2,KeptF.trans (T1:=T2) s2 s2 (Next.kept I n1) k2⟩
 ·exact Zb e
abbrev Za8(n0:Nat)(M T:Li Nat)(B:P->Zp->Ot PFl)(B':D->Env->Za->Ot (Fl×Za)):Prop:=∀ x d π r,B x π=some r->∀ fz st ρ,Inv n0 M fz st π ρ->Rel fz st x d->Xn n0 M T fz st π ρ (B' d ρ st) r
theorem Later.rels{fz fz':Fz}{st st':Za}{ps:Li P}{ds:Li D}(l:Later n0 fz st fz' st')(r:Rels fz st ps ds):Rels fz' st' ps ds:=r.mono l.sub l.frz
theorem WN{B:P->Zp->Ot PFl}{B':D->Env->Za->Ot (Fl×Za)}(h:Za8 n0 M T B B'):∀ {xs:Li P}{ds:Li D}{π:Zp}{r:PFl}{fz:Fz}{st:Za}{ρ:Env},Inv n0 M fz st π ρ->Rels fz st xs ds->Z5 B xs π=some r->Xn n0 M T fz st π ρ (Yg B' ds ρ st) r
 |_,_,π,r,fz,st,ρ,I,.nil,e=>by cases e;exact⟨.nx ρ,st,fz,rfl,Later.refl,I,Kept.refl⟩
 |x :: xs,d :: ds,π,r,fz,st,ρ,I,.cons a rs,e=>by
  unfold Z5 at e;split at e
  ·rename_i π1 q
   obtain⟨r1,st1,fz1,e1,l1,R1,k1⟩:=h x d π _ q fz st ρ I a;cases r1 with
   |nx ρ1=>
    obtain⟨r2,st2,fz2,e2,l2,R2,k2⟩:=WN h (ρ:=ρ1) R1 (l1.rels rs) e;exact⟨r2,st2,fz2,by unfold Yg;rw[e1];exact e2,l1.trans l2,R2,KeptF.trans (fun _ z=>z) (fun _ z=>z) k1 k2⟩
   |_=>exact R1.elim
  ·rename_i π1 q
   obtain⟨r1,st1,fz1,e1,l1,R1,k1⟩:=h x d π _ q fz st ρ I a;cases r1 with
   |ct ρ1=>
    obtain⟨r2,st2,fz2,e2,l2,R2,k2⟩:=WN h (ρ:=ρ1) R1 (l1.rels rs) e;exact⟨r2,st2,fz2,by unfold Yg;rw[e1];exact e2,l1.trans l2,R2,KeptF.trans (fun _ z=>z) (fun _ z=>z) k1 k2⟩
   |_=>exact R1.elim
  ·rename_i π1 q
   cases e;obtain⟨r1,st1,fz1,e1,l1,R1,k1⟩:=h x d π _ q fz st ρ I a;cases r1 with
   |bk ρ1=>exact⟨.nx ρ1,st1,fz1,by unfold Yg;rw[e1],l1,R1,k1⟩
   |_=>exact R1.elim
  ·rename_i v q
   cases e;obtain⟨r1,st1,fz1,e1,l1,R1,k1⟩:=h x d π _ q fz st ρ I a;cases r1 with
   |rt d'=>exact⟨.rt d',st1,fz1,by unfold Yg;rw[e1],l1,R1,trivial⟩
   |_=>exact R1.elim
  ·exact Zb e
theorem ZaA{B':D->Env->Za->Ot (Fl×Za)}{a n k:Nat}{ρ:Env}{st:Za}{m:Bool}{all:Li D}{d:D}(h:st[a]?=some (m,all))(hk:all[k]?=some d):ZH B' a (n+1) k ρ st=(match B' d ρ st with
  |some (.nx ρ',st')=>ZH B' a n (k+1) ρ' st'
  |some (.ct ρ',st')=>ZH B' a n (k+1) ρ' st'
  |some (.bk ρ',st')=>some (.nx ρ',st')
  |some (.rt v,st')=>some (.rt v,st')
  |none=>none):=by
 rw[ZH];simp only[h,hk]<;>rfl
abbrev Zkk(n0:Nat)(M T:Li Nat)(a:Nat)(m:Bool)(all:Li D)(J:Fz->Za->Zp->Env->Prop):Prop:=
 (∀ fz st π ρ,J fz st π ρ->st[a]?=some (m,all))/\∀ fz st π ρ fz' st' π' ρ',Later n0 fz st fz' st'->Kept M T π ρ st π' ρ' st'->J fz st π ρ->J fz' st' π' ρ'
theorem XS{B:P->Zp->Ot PFl}{B':D->Env->Za->Ot (Fl×Za)}(h:Za8 n0 M T B B'){a:Nat}{m:Bool}{all:Li D}{J:Fz->Za->Zp->Env->Prop}(hJ:Zkk n0 M T a m all J):∀ {xs:Li P}{ds:Li D}{k:Nat}{π:Zp}{r:PFl}{fz:Fz}{st:Za}{ρ:Env},
   Inv n0 M fz st π ρ->J fz st π ρ->all.drop k=ds->Rels fz st xs ds->Z5 B xs π=some r->Xn n0 M T fz st π ρ (ZH B' a ds.length k ρ st) r
 |_,_,k,π,r,fz,st,ρ,I,j,hd,.nil,e=>by
  cases e;refine⟨.nx ρ,st,fz,?_,Later.refl,I,Kept.refl⟩;show ZH B' a 0 k ρ st=_;unfold ZH;simp only[hJ.1 _ _ _ _ j];rw[if_pos (List.drop_eq_nil_iff.mp hd)]
 |x :: xs,d :: ds,k,π,r,fz,st,ρ,I,j,hd,.cons b rs,e=>by
  have hk:all[k]?=some d:=by
   have:=congrArg (fun l=>l[0]?) hd
   simpa using this
  have hd2:all.drop (k+1)=ds:=by
   have:=congrArg (fun l=>l.drop 1) hd
   simpa using this
  have start:∀ {y},B' d ρ st=some y->ZH B' a (d :: ds).length k ρ st=(match y with
    | (.nx ρ',st')=>ZH B' a ds.length (k+1) ρ' st'
    | (.ct ρ',st')=>ZH B' a ds.length (k+1) ρ' st'
    | (.bk ρ',st')=>some (.nx ρ',st')
    | (.rt v,st')=>some (.rt v,st')):=fun {y} ey=>by
   show ZH B' a (ds.length+1) k ρ st=_;rw[ZaA (hJ.1 _ _ _ _ j) hk,ey];obtain⟨f,s⟩:=y;cases f<;>rfl
  unfold Z5 at e;split at e
  ·rename_i π1 q
   obtain⟨r1,st1,fz1,e1,l1,R1,k1⟩:=h x d π _ q fz st ρ I b;cases r1 with
   |nx ρ1=>
    obtain⟨r2,st2,fz2,e2,l2,R2,k2⟩:=XS h hJ (ρ:=ρ1) R1 (hJ.2 _ _ _ _ _ _ _ _ l1 k1 j) hd2 (l1.rels rs) e;exact⟨r2,st2,fz2,by rw[start e1];exact e2,l1.trans l2,R2,KeptF.trans (fun _ z=>z) (fun _ z=>z) k1 k2⟩
   |_=>exact R1.elim
  ·rename_i π1 q
   obtain⟨r1,st1,fz1,e1,l1,R1,k1⟩:=h x d π _ q fz st ρ I b;cases r1 with
   |ct ρ1=>
    obtain⟨r2,st2,fz2,e2,l2,R2,k2⟩:=XS h hJ (ρ:=ρ1) R1 (hJ.2 _ _ _ _ _ _ _ _ l1 k1 j) hd2 (l1.rels rs) e;exact⟨r2,st2,fz2,by rw[start e1];exact e2,l1.trans l2,R2,KeptF.trans (fun _ z=>z) (fun _ z=>z) k1 k2⟩
   |_=>exact R1.elim
  ·rename_i π1 q
   cases e;obtain⟨r1,st1,fz1,e1,l1,R1,k1⟩:=h x d π _ q fz st ρ I b;cases r1 with
   |bk ρ1=>exact⟨.nx ρ1,st1,fz1,by rw[start e1],l1,R1,k1⟩
   |_=>exact R1.elim
  ·rename_i v q
   cases e;obtain⟨r1,st1,fz1,e1,l1,R1,k1⟩:=h x d π _ q fz st ρ I b;cases r1 with
   |rt d'=>exact⟨.rt d',st1,fz1,by rw[start e1],l1,R1,trivial⟩
   |_=>exact R1.elim
  ·exact Zb e
theorem Zif{i:Nat}(hi:M.contains i=false)(h:SX n0 M T f g):Za8 n0 M (i :: T) (fun d π=>g (ZM π i d)) (fun d ρ s=>f (Zy ρ i d) s):=by
 intro x d π r e fz st ρ I a;obtain⟨r1,st1,fz1,e1,l1,R1,k1⟩:=h _ r e fz st _ (I.set hi a);refine⟨r1,st1,fz1,e1,l1,R1,?_⟩;refine KeptF.trans (T1:=i :: T) (T2:=T) (fun _ z=>z) (fun _ z=>Lm _ z) (fun k hk hm=>?_) k1
 have hki:k≠i:=fun z=>hk (by rw[z];exact Ls)
 exact⟨Zw hki,Zw hki,fun _ _ _ _=>rfl⟩
theorem Zfo(hF:Yq F G){B:P->Zp->Ot PFl}{B':D->Env->Za->Ot (Fl×Za)}{e:CE}{m:Bool}{xs:Li P}{T0:Li Nat}(h:Za8 n0 M T B B')(hT:∀ i,M.contains i=true->i∈T->i∈T0){fz:Fz}{st:Za}{π:Zp}{ρ:Env}{r:PFl}(I:Inv n0 M fz st π ρ)(q:pe G e π=some (.lst m xs))(c:Za3 M T0 e xs=true)(el:Z5 B xs π=some r):∃ a st1 mm ds,ev F e ρ st=some (.lst a,st1)/\st1[a]?=some (mm,ds)/\Xn n0 M T fz st π ρ (ZH B' a ds.length 0 ρ st1) r:=by
 have frozen:∀ {a:Nat}{st1:Za}{fz1:Fz}{ds:Li D},ev F e ρ st=some (.lst a,st1)->Next fz st fz1 st1->fz1 a->st1[a]?=some (m,ds)->Rels fz1 st1 xs ds->∃ a st1 mm ds,ev F e ρ st=some (.lst a,st1)/\st1[a]?=some (mm,ds)/\Xn n0 M T fz st π ρ (ZH B' a ds.length 0 ρ st1) r:=fun {a st1 fz1 ds} e1 n1 hz hs rr=>by
  refine⟨a,st1,m,ds,e1,hs,?_⟩;obtain⟨r1,st2,fz2,e2,l2,R2,k2⟩:=XS h (a:=a) (m:=m) (all:=ds) (J:=fun fz st _ _=>fz a/\st[a]?=some (m,ds)) ⟨fun _ _ _ _ j=>j.2,fun _ _ _ _ _ _ _ _ l _ j=>⟨l.sub _ j.1,(l.frz _ j.1).trans j.2⟩⟩ (k:=0) (I.next n1) ⟨hz,hs⟩ rfl rr el
  exact⟨r1,st2,fz2,e2,(n1.later I.lo I.bd).trans l2,R2,KeptF.trans (T1:=T) (fun _ z=>z) (fun _ z=>z) (Next.kept I n1) k2⟩
 unfold Za3 at c;rw[Bool.or_eq_true,Bool.or_eq_true]at c;rcases c with(c|c)|c
 ·obtain⟨d,st',fz',e1,n1,r1⟩:=YH hF I q (by unfold ZP;rw[c];rfl)
  cases r1 with
  |lst hz hs rr=>exact frozen e1 n1 hz hs rr
 ·rw[Ba]at c
  obtain⟨j,ds,st',fz1,e1,e2,n1,hn,hl,rr⟩:=Js hF I q c.1 (by rw[c.2,Bool.or_true])
  have n2:Next fz st (fun i=>fz1 i\/i=j) st':=⟨n1.old,n1.len,fun i z=>.inl (n1.sub i z),fun i z=>z.elim (n1.new i) fun z=>.inr (by rw[z];exact hl),fun i z=>z.elim (n1.bd i) fun z=>by rw[z];exact Zl e2⟩
  exact frozen e1 n2 (.inr rfl) e2 (rr.mono (fun _ z=>.inl z) fun _ _=>rfl)
 ·split at c
  ·rename_i i
   have c:i∉T0:=by
    intro z;have:T0.contains i=true:=by simpa using z
    rw[this]at c;cases c
   have q:Vj i π=some (.lst m xs):=q;unfold Vj at q;split at q
   ·rename_i q0
    cases q;cases hm:M.contains i with
    |false=>
     obtain⟨d,st',fz',e1,n1,r1⟩:=YH hF I (e:=.var i) (p:=.lst m xs) (by show Vj i π=_;unfold Vj;rw[q0]) (by show((!M.contains i)||_)=true;rw[hm];rfl)
     cases r1 with
     |lst hz hs rr=>exact frozen e1 n1 hz hs rr
    |true=>
     obtain⟨j,ps,ds,f1,f2,f3,f4,f5,f6⟩:=I.mt i _ hm q0;obtain⟨⟨rfl,rfl⟩,f0⟩:=f1.lst;refine⟨j,st,true,ds,by show YL i ρ st=_;unfold YL;rw[f0],f3,?_⟩
     obtain⟨r1,st2,fz2,e2,l2,R2,k2⟩:=XS h (a:=j) (m:=true) (all:=ds) (J:=fun fz st π ρ=>(∃ p,π[i]?=some (some p))/\Rf ρ[i]? j/\st[j]?=some (true,ds)) ⟨fun _ _ _ _ j=>j.2.2,fun _ _ _ _ _ _ _ _ l k jj=>by
      obtain⟨⟨p,jp⟩,j2,j3⟩:=jj;obtain⟨k1,k2,k3⟩:=k i (fun z=>c (hT i hm z)) hm
      exact⟨⟨p,k1.trans jp⟩,by rw[k2];exact j2,(k3 j p jp j2).trans j3⟩⟩ (k:=0) I ⟨⟨_,q0⟩,f2,f3⟩ rfl f6 el
     exact⟨r1,st2,fz2,e2,l2,R2,k2⟩
   ·exact Zb q
  ·cases c
theorem Zlt(hF:Yq F G){i:Nat}{rng:Bool}{e:CE}(h:SX n0 M T f g):SX n0 M (i :: T) (Vh i rng (ev F e) f) (ZaK M T i rng e (pe G e) g):=by
 intro π r hp fz st ρ I;unfold ZaK at hp;split at hp
 ·rename_i x q
  split at hp
  ·rename_i xs qi
   split at hp
   ·rename_i c
    rw[Ba]at c;have hi:M.contains i=false:=by simpa using c.1
    have kp:ZP M e x=true:=by
     cases rng with
     |false=>simpa using c.2
     |true=>
      cases x with
      |int n=>unfold ZP;rw[show noL (.int n)=true from rfl,Bool.or_true]
      |_=>exact Zb qi
    obtain⟨d,st',fz',e1,n1,r1⟩:=YH hF I q kp;obtain⟨ds,e2,r2⟩:=UW r1 qi;obtain⟨r3,st3,fz3,e3,l3,R3,k3⟩:=WN (Zif hi h) (I.next n1) r2 hp;exact⟨r3,st3,fz3,by unfold Vh;rw[e1];simp only[e2];exact e3,(n1.later I.lo I.bd).trans l3,R3,KeptF.trans (T1:=i :: T) (fun _ z=>z) (fun _ z=>z) (Next.kept I n1) k3⟩
   ·exact Zb hp
  ·split at hp
   ·rename_i m xs _
    split at hp
    ·rename_i c
     rw[Ba]at c;have hi:M.contains i=false:=by simpa using c.1
     obtain⟨a,st1,mm,ds,e1,e2,r3,st3,fz3,e3,l3,R3,k3⟩:=Zfo hF (Zif hi h) (T0:=T) (fun k hk hm=>by
      rcases List.mem_cons.mp hm with z|z
      ·rw[z]at hk;rw[hi]at hk;cases hk
      ·exact z) I q c.2 hp
     refine⟨r3,st3,fz3,?_,l3,R3,k3⟩;unfold Vh;rw[e1];simp only[Xc,e2];exact e3
    ·exact Zb hp
   ·exact Zb hp
 ·exact Zb hp
inductive RelsQ(fz:Fz)(st:Za):List (P×P)->List (D×D)->Prop where
 |nil:RelsQ fz st [] []
 |cons {p:P×P}{d:D×D}{ps:List (P×P)}{ds:List (D×D)} (h1:Rel fz st p.1 d.1) (h2:Rel fz st p.2 d.2) (r:RelsQ fz st ps ds):RelsQ fz st (p :: ps) (d :: ds)
theorem RelsQ.zip{fz:Fz}{st:Za}:∀ {xs ys:Li P}{ds es:Li D},Rels fz st xs ds->Rels fz st ys es->RelsQ fz st (xs.zip ys) (ds.zip es)
 |_,_,_,_,.nil,_=>.nil
 |_,_,_,_,.cons _ _,.nil=>.nil
 |_,_,_,_,.cons a r,.cons b s=>.cons a b (RelsQ.zip r s)
theorem RelsQ.mono{fz fz':Fz}{st st':Za}(l:Later n0 fz st fz' st'):∀ {ps:Li (P×P)}{ds:Li (D×D)},RelsQ fz st ps ds->RelsQ fz' st' ps ds
 |_,_,.nil=>.nil
 |_,_,.cons a b r=>.cons (a.mono l.sub l.frz) (b.mono l.sub l.frz) (RelsQ.mono l r)
theorem WO{i j:Nat}(hi:M.contains i=false)(hj:M.contains j=false)(h:SX n0 M T f g){ok:Za->Prop}:∀ {xs:Li (P×P)}{ds:Li (D×D)}{π:Zp}{r:PFl}{fz:Fz}{st:Za}{ρ:Env},Inv n0 M fz st π ρ->RelsQ fz st xs ds->(∀ fz' st',Later n0 fz st fz' st'->ok st')->
  Xk (fun x y π=>g (ZM (ZM π i x) j y)) xs π=some r->Xn n0 M (i :: j :: T) fz st π ρ (ZX ok (fun x y ρ s=>f (Zy (Zy ρ i x) j y) s) ds ρ st) r
 |_,_,π,r,fz,st,ρ,I,.nil,hok,e=>by cases e;exact⟨.nx ρ,st,fz,if_pos (hok _ _ Later.refl),Later.refl,I,Kept.refl⟩
 |x :: xs,d :: ds,π,r,fz,st,ρ,I,.cons a b rs,hok,e=>by
  have ok0:=hok _ _ Later.refl;have tr:∀ {r1:PFl},g (ZM (ZM π i x.1) j x.2)=some r1->Xn n0 M (i :: j :: T) fz st π ρ (f (Zy (Zy ρ i d.1) j d.2) st) r1:=fun {r1} q=>by
   obtain⟨r2,st2,fz2,e2,l2,R2,k2⟩:=h _ _ q fz st _ ((I.set hi a).set hj b);refine⟨r2,st2,fz2,e2,l2,R2,?_⟩;have kp:Kept M (i :: j :: T) π ρ st (ZM (ZM π i x.1) j x.2) (Zy (Zy ρ i d.1) j d.2) st:=fun k hk hm=>by
    have hki:k≠i:=fun z=>hk (by rw[z];exact Ls)
    have hkj:k≠j:=fun z=>hk (by rw[z];exact Lm _ Ls)
    exact⟨(Zw hkj).trans (Zw hki),(Zw hkj).trans (Zw hki),fun _ _ _ _=>rfl⟩
   exact KeptF.trans (T1:=i :: j :: T) (T2:=T) (fun _ z=>z) (fun _ z=>Lm _ (Lm _ z)) kp k2
  unfold Xk at e;split at e
  ·rename_i π1 q
   obtain⟨r1,st1,fz1,e1,l1,R1,k1⟩:=tr q;cases r1 with
   |nx ρ1=>
    obtain⟨r2,st2,fz2,e2,l2,R2,k2⟩:=WO hi hj h (ρ:=ρ1) R1 (rs.mono l1) (fun _ _ l=>hok _ _ (l1.trans l)) e
    exact⟨r2,st2,fz2,by unfold ZX;rw[if_pos ok0];simp only[e1];exact e2,l1.trans l2,R2,KeptF.trans (fun _ z=>z) (fun _ z=>z) k1 k2⟩
   |_=>exact R1.elim
  ·rename_i π1 q
   obtain⟨r1,st1,fz1,e1,l1,R1,k1⟩:=tr q;cases r1 with
   |ct ρ1=>
    obtain⟨r2,st2,fz2,e2,l2,R2,k2⟩:=WO hi hj h (ρ:=ρ1) R1 (rs.mono l1) (fun _ _ l=>hok _ _ (l1.trans l)) e
    exact⟨r2,st2,fz2,by unfold ZX;rw[if_pos ok0];simp only[e1];exact e2,l1.trans l2,R2,KeptF.trans (fun _ z=>z) (fun _ z=>z) k1 k2⟩
   |_=>exact R1.elim
  ·rename_i π1 q
   cases e;obtain⟨r1,st1,fz1,e1,l1,R1,k1⟩:=tr q;cases r1 with
   |bk ρ1=>exact⟨.nx ρ1,st1,fz1,by unfold ZX;rw[if_pos ok0];simp only[e1],l1,R1,k1⟩
   |_=>exact R1.elim
  ·rename_i v q
   cases e;obtain⟨r1,st1,fz1,e1,l1,R1,k1⟩:=tr q;cases r1 with
   |rt d'=>exact⟨.rt d',st1,fz1,by unfold ZX;rw[if_pos ok0];simp only[e1],l1,R1,trivial⟩
   |_=>exact R1.elim
  ·exact Zb e
theorem Zj9(hF:Yq F G){i j:Nat}{e:CE}(h:SX n0 M T f g):SX n0 M (i :: j :: T) (Jv i j (ev F e) f) (JO M i j e (pe G e) g):=by
 intro π r hp fz st ρ I;unfold JO at hp;split at hp
 ·rename_i m1 xs ys q
  split at hp
  ·rename_i c
   rw[Ba,Ba]at c;have hi:M.contains i=false:=by simpa using c.1.1
   have hj:M.contains j=false:=by simpa using c.1.2
   obtain⟨d,st',fz',e1,n1,r1⟩:=YH hF I q (show ZP M e _=true by unfold ZP;rw[c.2,Bool.true_or])
   cases r1 with
   |tup rr=>
    cases rr with
    |cons a rr=>
     cases rr with
     |cons b rr=>
      cases rr;cases a with
      |@lst ja _ _ da za sa ra=>
       cases b with
       |tup rb=>
        obtain⟨r3,st3,fz3,e3,l3,R3,k3⟩:=WO (ok:=fun s=>s[ja]?=some (m1,da)) hi hj h (I.next n1) (RelsQ.zip ra rb) (fun fz2 st2 l=>(l.frz ja za).trans sa) hp
        exact⟨r3,st3,fz3,by unfold Jv;rw[e1];simp only[sa];exact e3,(n1.later I.lo I.bd).trans l3,R3,KeptF.trans (T1:=i :: j :: T) (fun _ z=>z) (fun _ z=>z) (Next.kept I n1) k3⟩
  ·exact Zb hp
 ·exact Zb hp

theorem Yz(hF:Yq F G):∀ s:CS,SX n0 M (Z4 s) (ex F s) (px G M s)
 |.skip=>fun π r e fz st ρ I=>by cases e;exact⟨.nx ρ,st,fz,rfl,Later.refl,I,Kept.refl⟩
 |.brk=>fun π r e fz st ρ I=>by cases e;exact⟨.bk ρ,st,fz,rfl,Later.refl,I,Kept.refl⟩
 |.cont=>fun π r e fz st ρ I=>by cases e;exact⟨.ct ρ,st,fz,rfl,Later.refl,I,Kept.refl⟩
 |.stop=>fun π r e=>nomatch (show(none:Ot PFl)=some r from e)
 |.app2 _ _=>fun π r e=>nomatch (show(none:Ot PFl)=some r from e)
 |.set3 _ _ _ _=>fun _ r e=>nomatch (show(none:Ot PFl)=some r from e)
 |.act _=>fun _ r e=>nomatch (show(none:Ot PFl)=some r from e)
 |.seq a b=>Zlw (Yz hF a) (Yz hF b)
 |.ret e=>Zlv hF e
 |.set i e=>Zlx hF i e
 |.set2 _ _ _=>fun _ r e=>nomatch (show(none:Ot PFl)=some r from e)
 |.app i e=>Zlr hF i e
 |.ext i e=>Zls hF i e
 |.put _ _ _=>fun π r e=>nomatch (show(none:Ot PFl)=some r from e)
 |.dput _ _ _ _=>fun π r e=>nomatch (show(none:Ot PFl)=some r from e)
 |.ite c a b=>Zlu hF c (Yz hF a) (Yz hF b)
 |.for1 i rng it b=>Zlt hF (Yz hF b)
 |.forP i j it b=>Zj9 hF (Yz hF b)
 |.forE _ _ _ _=>fun π r e=>nomatch (show(none:Ot PFl)=some r from e)
 |.for3 _ _ _=>fun _ r e=>nomatch (show(none:Ot PFl)=some r from e)
 |.for4 _ _ _ _ _=>fun _ r e=>nomatch (show(none:Ot PFl)=some r from e)
 |.for2 _ _ _ _=>fun _ r e=>nomatch (show(none:Ot PFl)=some r from e)
 |.whl _ _=>fun _ r e=>nomatch (show(none:Ot PFl)=some r from e)
end
theorem inv_start{f:FD}{ps:Li P}{fz:Fz}{st:Za}{ds:Li D}(c:(ZN f.body).all (fun i=>decide (ps.length<=i))=true)(b:Bd fz st)(r:Rels fz st ps ds) :
  Inv st.length (ZN f.body) fz st (ps.map some++List.replicate (f.ns - ps.length) none) (ds.map some++List.replicate (f.ns - ds.length) none):=by
 have slot:∀ (i:Nat) (q:P),(ps.map some++List.replicate (f.ns - ps.length) none:Zp)[i]?=some (some q)->i < ps.length/\ps[i]?=some q:=fun i q h=>by
  by_cases hi:i < ps.length
  ·rw[List.getElem?_append_left (by simpa using hi),List.getElem?_map]at h
   refine⟨hi,?_⟩;cases z:ps[i]? with
   |none=>rw[z]at h;cases h
   |some y=>rw[z]at h;cases h;rfl
  ·rw[List.getElem?_append_right (by simpa using hi),List.getElem?_replicate]at h
   split at h<;>cases h
 have noM:∀ (i:Nat),i < ps.length->(ZN f.body).contains i=false:=fun i hi=>by
  cases z:(ZN f.body).contains i with
  |false=>rfl
  |true=>
   have:=List.all_eq_true.mp c i (by simpa using z)
   have:=of_decide_eq_true this;omega
 refine⟨b,Nat.le_refl _,by simp[r.length],fun i q hi h=>?_,fun i q hi h=>?_,fun i i' q q' j hi hi' h h' _ _=>?_⟩
 ·obtain⟨h1,h2⟩:=slot i q h
  obtain⟨d,e1,r1⟩:=r.get h2;refine⟨d,?_,r1⟩;rw[List.getElem?_append_left (by simpa[<-r.length] using h1),List.getElem?_map,e1]
  rfl
 ·rw[noM i (slot i q h).1]at hi;cases hi
 ·rw[noM i (slot i q h).1]at hi;cases hi
theorem ZiX{F:Nat->Fn}{G:PFn}(hF:Yq F G)(f:FD){ps:Li P}{p:P}(e:fnP G f ps=some p){fz:Fz}{st:Za}{ds:Li D}(b:Bd fz st)(r:Rels fz st ps ds):Gives fz st (fnD F f ds st) p:=by
 unfold fnP at e;split at e
 ·rename_i c
  have I:Inv st.length (ZN f.body) fz st (ps.map some++List.replicate (f.ns - ps.length) none) (ds.map some++List.replicate (f.ns - ds.length) none):=inv_start (by rw[c.1];exact c.2) b r
  have hd:ds.length=f.ps:=by rw[<-r.length];exact c.1
  split at e
  ·rename_i d q
   cases e;obtain⟨r1,st1,fz1,e1,l1,R1,k1⟩:=Yz (n0:=st.length) hF f.body _ _ q fz st _ I;cases r1 with
   |rt d'=>exact⟨d',st1,fz1,by unfold fnD;rw[if_pos hd,e1],⟨l1.low,l1.len,l1.sub,l1.new,R1.2⟩,R1.1⟩
   |_=>exact R1.elim
  ·rename_i π' q
   cases e;obtain⟨r1,st1,fz1,e1,l1,R1,k1⟩:=Yz (n0:=st.length) hF f.body _ _ q fz st _ I;cases r1 with
   |nx ρ'=>exact⟨.non,st1,fz1,by unfold fnD;rw[if_pos hd,e1],⟨l1.low,l1.len,l1.sub,l1.new,R1.bd⟩,.non⟩
   |_=>exact R1.elim
  ·exact Zb e
 ·exact Zb e
theorem U4{T:Nat->Ot FD}{n i:Nat}{f:FD}(q:T i=some f):Zj T (n+1) i=if (V1 i&&!Ub f)=true then fun _=>none else fnP (Zj T n) f:=by
 show(match T i with|some f=>if (V1 i&&!Ub f)=true then (fun _=>none) else fnP (Zj T n) f|none=>fun _=>none)=_
 rw[q]
theorem ZcT{T:Nat->Ot FD}{n i:Nat}(q:T i=none):Zj T (n+1) i=fun _=>none:=by
 show(match T i with|some f=>if (V1 i&&!Ub f)=true then (fun _=>none) else fnP (Zj T n) f|none=>fun _=>none)=_
 rw[q]
theorem JU{T:Nat->Ot FD}{n i:Nat}{f:FD}(q:T i=some f):run T (n+1) i=fnD (run T n) f:=by
 show(match T i with|some f=>fnD (run T n) f|none=>fun _ _=>none)=_
 rw[q]
theorem Q2(T:Nat->Ot FD):∀ n,Yq (run T n) (Zj T n)
 |0=>⟨(fun i ps p e=>nomatch (show(none:Ot P)=some p from e)),(fun i _ ps m xs e=>nomatch (show(none:Ot P)=some (.lst m xs) from e))⟩
 |n+1=>by
  refine⟨fun i ps p e fz st ds b r=>?_,fun i hi ps m xs e fz st ds b r=>?_⟩
  ·cases q:T i with
   |none=>rw[ZcT q]at e;cases e
   |some f=>
    rw[U4 q]at e;rw[JU q];split at e
    ·exact Zb e
    ·exact ZiX (Q2 T n) f e b r
  ·cases hi
end Dp



namespace Dp
open PySem PySem.Spec PyProof.Rows L2
variable [ClsTab]
theorem Zl9{α:Type}:∀ {us:Li α},us.length=0->us=[]
 |[],_=>rfl
theorem ZkP{α:Type}:∀ {us:Li α},us.length=1->∃ a,us=[a]
 |[a],_=>⟨a,rfl⟩
theorem Zma{α:Type}:∀ {us:Li α},us.length=2->∃ a b,us=[a,b]
 |[a,b],_=>⟨a,b,rfl⟩
theorem Zmb{α:Type}:∀ {us:Li α},us.length=3->∃ a b c,us=[a,b,c]
 |[a,b,c],_=>⟨a,b,c,rfl⟩
theorem Zmc{α:Type}:∀ {us:Li α},us.length=4->∃ a b c d,us=[a,b,c,d]
 |[a,b,c,d],_=>⟨a,b,c,d,rfl⟩
theorem Zmd{α:Type}:∀ {us:Li α},us.length=5->∃ a b c d e,us=[a,b,c,d,e]
 |[a,b,c,d,e],_=>⟨a,b,c,d,e,rfl⟩
theorem Zme{α:Type}:∀ {us:Li α},us.length=6->∃ a b c d e f,us=[a,b,c,d,e,f]
 |[a,b,c,d,e,f],_=>⟨a,b,c,d,e,f,rfl⟩
def X8(K:Fg)(G:Gs)(T:Nat->Ot FD)(C:Ad):Li (Str×Nat×Nat)->Prop
 |[]=>True
 | (m,j,_) :: r=>(∃ y f fd pn N,MethOk K G T C m y j f fd pn N)/\X8 K G T C r
def X0(Pm:Params)(K:Fg)(mg:Str->Ot vL)(G:Gs)(T:Nat->Ot FD):Gs->Prop
 |[]=>True
 | (x,.cst d) :: r=>(∃ v u,mg x=some u/\RelV v u/\∀ ad H,Den K ad H v d)/\X0 Pm K mg G T r
 | (x,.blt) :: r=>mg x=none/\X0 Pm K mg G T r
 | (x,.dct ks ds) :: r=>Za4 Pm K mg x ks ds/\X0 Pm K mg G T r
 | (x,.fn i _ ds) :: r=>(∃ f fd pn N,DefOk K mg G T x i ds f fd pn N)/\X0 Pm K mg G T r
 | (x,.cls i ms _) :: r=>((mg x=some (.ref (ClsTab.ca i))/\NewOk K (ClsTab.ca i))/\X8 K G T (ClsTab.ca i) ms)/\X0 Pm K mg G T r
section
variable {P:Program}{w:World}{K:Fg}{mg:Str->Ot vL}{base:Heap}{G:Gs}{T:Nat->Ot FD}
def Zih(Pm:Params)(K:Fg)(mg:Str->Ot vL)(G:Gs)(T:Nat->Ot FD)(x:Str):GV->Prop
 |.cst d=>∃ v u,mg x=some u/\RelV v u/\∀ ad H,Den K ad H v d
 |.blt=>mg x=none
 |.dct ks ds=>Za4 Pm K mg x ks ds
 |.fn i _ ds=>∃ f fd pn N,DefOk K mg G T x i ds f fd pn N
 |.cls i ms _=>(mg x=some (.ref (ClsTab.ca i))/\NewOk K (ClsTab.ca i))/\X8 K G T (ClsTab.ca i) ms
theorem Y5{Pm:Params}:∀ {l:Gs}{x:Str}{g:GV},X0 Pm K mg G T l->l.lookup x=some g->Zih Pm K mg G T x g
 |[],_,_,_,h=>by cases h
 | (y,v) :: r,x,g,a,h=>by
  have tl:X0 Pm K mg G T r/\Zih Pm K mg G T y v:=by
   cases v with
   |cst d=>exact⟨a.2,a.1⟩
   |blt=>exact⟨a.2,a.1⟩
   |dct ks ds=>exact⟨a.2,a.1⟩
   |fn i ps ds=>exact⟨a.2,a.1⟩
   |cls i ms subs=>exact⟨a.2,a.1⟩
  rw[List.lookup_cons]at h;cases e:x==y with
  |true=>
   rw[e]at h;cases h;rw[beq_iff_eq.mp e];exact tl.2
  |false=>
   rw[e]at h;exact Y5 tl.1 h
theorem JI{C:Ad}:∀ {l:Li (Str×Nat×Nat)},X8 K G T C l->∀ m j ps,l.lookup m=some (j,ps)->∃ y f fd pn N,MethOk K G T C m y j f fd pn N
 |[],_,_,_,_,h=>by cases h
 | (m',j',ps') :: r,a,m,j,ps,h=>by
  rw[List.lookup_cons]at h;cases e:m==m' with
  |true=>
   rw[e]at h;cases h;rw[beq_iff_eq.mp e];exact a.1
  |false=>
   rw[e]at h;exact JI a.2 m j ps h
theorem ZhE{Pm:Params}(h:X0 Pm K mg G T G):Text Pm K mg G T:=
 ⟨fun _ _ e=>Y5 h e,fun _ e=>Y5 h e,fun _ _ _ e=>Y5 h e,fun _ _ _ _ e=>Y5 h e,fun x i ms subs e=>by
  have g:Zih Pm K mg G T x (.cls i ms subs):=Y5 h e;exact⟨g.1,JI g.2⟩⟩
theorem ZiN(hc:∀ n,Xm G (run T n))(X:Text w.params K mg G T)(n:Nat){x:Str}{i:Nat}{ds:Li D}{f:Ad}{fd:FuncData}{pn N:Li Str}(Dk:DefOk K mg G T x i ds f fd pn N):FnOk P w K mg base CX0 (2 * n) f fd pn (spD K (run T n i)):=Ziu hc X n Dk.ob
theorem ZjZ{H:Hp}{a:Ad}{ns:Li Int}{n i:Nat}(hO:Only H)(hS:SqL K H a (ns.map V.int))(h:∃ st',run T n i [.lst 0] [(false,ns.map .int)]=some (.bl true,st')):spD K (run T n i) [.ref a] H (fun v _=>v=.bl true) fun _ _ _=>False:=by
 obtain⟨st',e⟩:=h;have ds:∀ ns:Li Int,Dens K [a] H (ns.map V.int) (ns.map D.int):=fun ns=>by
  induction ns with
  |nil=>exact .nil
  |cons n l ih=>exact .cons (.int n) ih
 have nT:¬Yr H a:=fun⟨o',q,m⟩=>by
  rcases hO a with z|⟨o,xs,z⟩<;>(rw[q]at z;cases z)
  cases m
 refine⟨[a],[.lst 0],[(false,ns.map .int)],.bl true,st',⟨rfl,fun i j b c d _ _ h3 _=>?_,fun i c hc=>?_⟩,.cons (.lst ⟨rfl,nT⟩) .nil,e,fun v ad' H' x S h=>h.ofBl⟩
 ·cases i with
  |zero=>simp at h3
  |succ i=>simp at h3
 ·cases i with
  |succ i=>simp at hc
  |zero=>
   have hc:(false,ns.map D.int)=c:=by simpa using hc
   subst hc;refine⟨a,rfl,.l nT (ds ns) (.inr ⟨rfl,?_⟩)⟩;rcases hS with(h|⟨o,h⟩)|⟨o,its,n,h1,h2,h3,h4,h5,h6⟩
   ·rcases hO a with z|⟨o,xs,z⟩
    ·rw[h]at z;cases z
    ·rw[h]at z;cases z
   ·exact .inl ⟨o,h⟩
   ·exact .inr ⟨o,its,n,⟨h1,h2⟩,⟨h3,h4⟩,h5,h6⟩
end
noncomputable abbrev fnS(x y:Str)(s:Stmt)(dV kV dc pm:vL)(an:Ot Ad)(cd ct:vL):FuncData:=PySem.W.fnOf x y (defArgs s) (defBody s) (defScope s) dV kV dc pm an cd ct
inductive FnAt(K:Fg)(x:Str)(s:Stmt):Prop
 |mk {f:Addr}{oc kV dc pm cd ct:Value}{od an:Option Addr}{sl:Array (Option Value)} (a:PySem.W.nsIn K mainGlobals x=some (some (.ref f))) (l:K.lookup f=some ⟨oc,od,.func (PySem.W.fnOf x x (defArgs s) (defBody s) (defScope s) .none kV dc pm an cd ct),sl⟩) (e:PySem.W.codeIn K cd x=true) (k:PySem.W.keepIn K (.ref f)=true):FnAt K x s
inductive FnAtE(K:Fg)(x:Str)(s:Stmt)(v:Int):Prop
 |mk {f E:Addr}{eo:Obj}{en:Nat}{et:Tok}{oc kV dc pm cd ct:Value}{od an:Option Addr}{sl:Array (Option Value)} (a:PySem.W.nsIn K mainGlobals x=some (some (.ref f))) (l:K.lookup f=some ⟨oc,od,.func (PySem.W.fnOf x x (defArgs s) (defBody s) (defScope s) (.ref E) kV dc pm an cd ct),sl⟩) (e:PySem.W.codeIn K cd x=true) (k:PySem.W.keepIn K (.ref f)=true) (d:K.lookup E=some eo) (g:eo.data=.seq #[.int v et] en):FnAtE K x s v
inductive MtAt(K:Fg)(C:Addr)(x y:Str)(s:Stmt):Prop
 |mk {f:Addr}{oc kV dc pm cd ct:Value}{od an:Option Addr}{sl:Array (Option Value)} (m:PySem.W.findIn K (.ref C) x=some (some (.ref f))) (l:K.lookup f=some ⟨oc,od,.func (PySem.W.fnOf x y (defArgs s) (defBody s) (defScope s) .none kV dc pm an cd ct),sl⟩) (e:PySem.W.codeIn K cd y=true) (k:PySem.W.keepIn K (.ref f)=true) (i:PySem.W.isFn K (.ref f)=true):MtAt K C x y s
structure ClsAt(K:Fg)(x:Str)(C:Addr):Prop where
 ya:PySem.W.nsIn K mainGlobals x=some (some (.ref C))
 yb:PySem.W.makesIn K C=true
 yd:PySem.W.keepIn K (.ref C)=true
 ye:PySem.W.plainGet K C Str.empty=true
 yf:PySem.W.hasDictIn K C=true
 yg:PySem.W.plainOver K C=true
 yh:PySem.W.findIn K (.ref C) "__setattr__"=some (some (.builtin "object.__setattr__"))
 n1:PySem.W.findIn K (.ref C) "takes"=some none
 n2:PySem.W.findIn K (.ref C) "names"=some none
 n3:PySem.W.findIn K (.ref C) "rows"=some none
 n4:PySem.W.findIn K (.ref C) "aims"=some none
theorem ClsAt.new{K:Fg}{x:Str}{C:Ad}(F:ClsAt K x C):NewOk K C:=⟨F.yb,F.yd,⟨F.ye,F.yf,F.yg,F.yh⟩,fun f hf=>by
 have hf:((f == "takes")||((f == "names")||((f == "rows")||((f == "aims")||false))))=true:=hf;rw[Bool.or_false,Bool.or_eq_true,Bool.or_eq_true,Bool.or_eq_true,beq_iff_eq,beq_iff_eq,beq_iff_eq,beq_iff_eq]at hf;rcases hf with rfl|rfl|rfl|rfl
 ·exact F.n1
 ·exact F.n2
 ·exact F.n3
 ·exact F.n4⟩
abbrev Vv(G:Gs)(s:Stmt)(N ps:Li Str)(c:CS):Prop:=FnScope N ps (defScope s)/\(∀ y∈N,L2.Loc (defScope s) y)/\cSs G 60 (defScope s) N (defBody s)=some c
section
variable {K:Fg}{fd:FuncData}{ps:Li Str}
theorem bd1(hl:ps.length=1)(h:∀ a,bindArgs fd ⟨[a],[]⟩=pure (ps.zip [a])):Binds K fd ps []:=.all fun us e=>by obtain⟨_,rfl⟩:=ZkP (e.trans hl);exact h _
theorem bd2(hl:ps.length=2)(h:∀ a b,bindArgs fd ⟨[a,b],[]⟩=pure (ps.zip [a,b])):Binds K fd ps []:=.all fun us e=>by obtain⟨_,_,rfl⟩:=Zma (e.trans hl);exact h _ _
theorem bd3(hl:ps.length=3)(h:∀ a b c,bindArgs fd ⟨[a,b,c],[]⟩=pure (ps.zip [a,b,c])):Binds K fd ps []:=.all fun us e=>by obtain⟨_,_,_,rfl⟩:=Zmb (e.trans hl);exact h _ _ _
theorem bd4(hl:ps.length=4)(h:∀ a b c d,bindArgs fd ⟨[a,b,c,d],[]⟩=pure (ps.zip [a,b,c,d])):Binds K fd ps []:=.all fun us e=>by obtain⟨_,_,_,_,rfl⟩:=Zmc (e.trans hl);exact h _ _ _ _
theorem bd5(hl:ps.length=5)(h:∀ a b c d k,bindArgs fd ⟨[a,b,c,d,k],[]⟩=pure (ps.zip [a,b,c,d,k])):Binds K fd ps []:=.all fun us e=>by obtain⟨_,_,_,_,_,rfl⟩:=Zmd (e.trans hl);exact h _ _ _ _ _
theorem bd6(hl:ps.length=6)(h:∀ a b c d k l,bindArgs fd ⟨[a,b,c,d,k,l],[]⟩=pure (ps.zip [a,b,c,d,k,l])):Binds K fd ps []:=.all fun us e=>by obtain⟨_,_,_,_,_,_,rfl⟩:=Zme (e.trans hl);exact h _ _ _ _ _ _
theorem bd0(hl:ps.length=0)(h:bindArgs fd ⟨[],[]⟩=pure []):Binds K fd ps []:=.all fun us e=>by rw[Zl9 (e.trans hl),List.zip_nil_right];exact h
end
section
variable {Pm:Params}{K:Fg}{mg:Str->Ot vL}{G:Gs}{T:Nat->Ot FD}{h:Heap}{x y:Str}{i p:Nat}{s:Stmt}{N ps:Li Str}{c:CS}{r:Gs}
theorem gD(X:K.In h)(G0:h.Ns mainGlobals mg)(F:FnAt K x s)(q:Vv G s N ps c)(hT:T i=some ⟨ps.length,N.length,c⟩)(t:X0 Pm K mg G T r)(hb:∀ kV dc pm an cd ct,Binds K (fnS x x s .none kV dc pm an cd ct) ps []:=by first|exact fun _ _ _ _ _ _=>bd1 rfl fun _=>rfl|exact fun _ _ _ _ _ _=>bd2 rfl fun _ _=>rfl|exact fun _ _ _ _ _ _=>bd3 rfl fun _ _ _=>rfl|exact fun _ _ _ _ _ _=>bd4 rfl fun _ _ _ _=>rfl|exact fun _ _ _ _ _ _=>bd5 rfl fun _ _ _ _ _=>rfl|exact fun _ _ _ _ _ _=>bd6 rfl fun _ _ _ _ _ _=>rfl|exact fun _ _ _ _ _ _=>bd0 rfl rfl):X0 Pm K mg G T ((x,.fn i p []) :: r):=by
 cases F with
 |mk a l e k=>exact⟨⟨_,_,ps,N,.inl ⟨s,_,_,_,_,_,_,_,_,_,_,c,rfl,l,e,q.1,q.2.1,q.2.2,hT⟩,k,PySem.W.mg_of X G0 a,fun m hm=>⟨[],[],fun _ _=>by rw[List.drop_nil];exact .nil,.nil,hb _ _ _ _ _ _⟩⟩,t⟩
theorem gM{C:Ad}{r:Li (Str×Nat×Nat)}(F:MtAt K C x y s)(q:Vv G s N ps c)(hT:T i=some ⟨ps.length,N.length,c⟩)(t:X8 K G T C r)(hb:∀ kV dc pm an cd ct,Binds K (fnS x y s .none kV dc pm an cd ct) ps []:=by first|exact fun _ _ _ _ _ _=>bd1 rfl fun _=>rfl|exact fun _ _ _ _ _ _=>bd2 rfl fun _ _=>rfl|exact fun _ _ _ _ _ _=>bd3 rfl fun _ _ _=>rfl|exact fun _ _ _ _ _ _=>bd4 rfl fun _ _ _ _=>rfl|exact fun _ _ _ _ _ _=>bd5 rfl fun _ _ _ _ _=>rfl|exact fun _ _ _ _ _ _=>bd6 rfl fun _ _ _ _ _ _=>rfl|exact fun _ _ _ _ _ _=>bd0 rfl rfl):X8 K G T C ((x,i,p) :: r):=by
 cases F with
 |mk m l e k j=>exact⟨⟨y,_,_,ps,N,⟨s,_,_,_,_,_,_,_,_,_,_,c,rfl,l,e,q.1,q.2.1,q.2.2,hT⟩,⟨m,j,k⟩,hb _ _ _ _ _ _⟩,t⟩
theorem gC{C:Ad}{subs:Li Nat}{ms:Li (Str×Nat×Nat)}(X:K.In h)(G0:h.Ns mainGlobals mg)(hC:ClsTab.ca i=C)(F:ClsAt K x C)(hm:X8 K G T C ms)(t:X0 Pm K mg G T r):X0 Pm K mg G T ((x,.cls i ms subs) :: r):=by
 subst hC;exact⟨⟨⟨PySem.W.mg_of X G0 F.ya,F.new⟩,hm⟩,t⟩
theorem gB(X:K.In h)(G0:h.Ns mainGlobals mg)(z:PySem.W.nsIn K mainGlobals x=some none)(t:X0 Pm K mg G T r):X0 Pm K mg G T ((x,.blt) :: r):=⟨PySem.W.mg_none_of X G0 z,t⟩
theorem gI{v:Int}{k:Tok}(X:K.In h)(G0:h.Ns mainGlobals mg)(g:PySem.W.nsIn K mainGlobals x=some (some (.int v k)))(t:X0 Pm K mg G T r):X0 Pm K mg G T ((x,.cst (.int v)) :: r):=⟨⟨.int v,_,PySem.W.mg_of X G0 g,⟨_,rfl⟩,fun _ _=>.int _⟩,t⟩
theorem gL{fa:Ad}{z:Str}(X:K.In h)(G0:h.Ns mainGlobals mg)(hfa:mg x=some (.ref fa))(F:FnAt K x s)(q:Vv G s N [z] c)(hT:T i=some ⟨1,N.length,c⟩)(hb:∀ kV dc pm an cd ct u,bindArgs (fnS x x s .none kV dc pm an cd ct) ⟨[u],[]⟩=pure [(z,u)]):∃ (fd:FuncData) (N:Li Str),(∀ (s:Sd) (u:vL),BindsTo s fd ⟨[u],[]⟩ [(z,u)])/\DefOk K mg G T x i [] fa fd [z] N:=by
 cases F with
 |@mk f _ _ _ _ _ _ _ _ _ a l e k=>
  have e':=hfa.symm.trans (PySem.W.mg_of X G0 a);have e':fa=f:=by cases e';rfl
  rw[e'];exact⟨_,N,fun _ u=>.of_eq (hb _ _ _ _ _ _ u),.inl ⟨s,_,_,_,_,_,_,_,_,_,_,c,rfl,l,e,q.1,q.2.1,q.2.2,hT⟩,k,PySem.W.mg_of X G0 a,fun m hm=>⟨[],[],fun _ _=>by rw[List.drop_nil];exact .nil,.nil,.all fun us hl=>by obtain⟨u,rfl⟩:=ZkP hl;exact hb _ _ _ _ _ _ u⟩⟩
end
omit [ClsTab] in
theorem ZcE{l:PySem.W.OpenLaw}{q:Program}{loose:Li Str}{XP:(Str->Ot vL)->Heap->Prop}{YP:World->Heap->Prop}{d:DefRec}{K:Params->Fg}{G:Gs}{T:Nat->Ot FD}{n i:Nat}{x:Str}(hn:l.most=some 63)(hdf:d.params.defaults=[])(hr:Room (2 * n) callerA)(hY:∀ (w:World) (h:Heap),YP w h->(K w.params).In h)(hc:∀ [ClsTab] n,Xm G (run T n))(F:∀ (w:World) (mg:Str->Ot vL) (fa:Ad) (h:Heap),(K w.params).In h->h.Ns mainGlobals mg->mg d.name=some (.ref fa)->
   ∃ _:ClsTab,Text w.params (K w.params) mg G T/\∃ (fd:FuncData) (N:Li Str),(∀ (s:Sd) (u:vL),BindsTo s fd ⟨[u],[]⟩ [(x,u)])/\DefOk (K w.params) mg G T d.name i [] fa fd [x] N)(L:∀ ns:Li Int,ns.length<=63->∃ st',run T n i [.lst 0] [(false,ns.map .int)]=some (.bl true,st')) :
  PySem.W.WalkO q loose XP YP l.row.toRowW d [] (fun f vs=>PySem.call f vs):=
 L2.walk_of (n:=63) (k:=2 * n) (x:=x) (CX:=fun _=>CX0) (sp:=fun w vs H Q E=>∀ c:ClsTab,@spD c (K w.params) (run T n i) vs H Q E) hn (by decide) hdf hr hY
  (fun w mg fa h KX G0 hmg=>by
   obtain⟨c,X,fd,N,hb,Dk⟩:=F w mg fa h KX G0 hmg;refine⟨fd,hb,fun base _ _=>?_⟩
   have fo:=ZiN (P:=l.prog) (w:=w) (base:=base) (fun n=>hc n) X n Dk
   exact⟨fun vs H Q E z=>fo.len vs H Q E (z c),fun A outer s H args us vs Q E a1 a2 a3 a4 z=>fo.run A outer s H args us vs Q E a1 a2 a3 a4 (z c)⟩)
  (fun w H a ns hl hO hS c=>ZjZ hO hS (L ns hl)) fun _ _ _ _ _ z=>z

end Dp


namespace Dp
open PySem
theorem Wq:∀ {l m:Li Char},l.map Char.toNat=m.map Char.toNat->l=m
 |[],[],_=>rfl
 |[],_ :: _,h=>by cases h
 |_ :: _,[],h=>by cases h
 |a :: l,b :: m,h=>by
  rw[List.map_cons,List.map_cons]at h
  injection h with h1 h2
  have:a=b:=by
   apply Char.ext
   apply UInt32.toNat_inj.mp
   exact h1
  rw[this,Wq h2]
@[simp] theorem ZmS{a b:String}:(Str.ofString a=Str.ofString b)=(a=b):=by
 apply propext
 constructor
 ·intro h
  rw[Str.ofString_eq_toList,Str.ofString_eq_toList]at h
  injection h with h
  have h2:=congrArg Array.toList h;simp only[List.toList_toArray]at h2;exact String.toList_inj.mp (Wq h2)
 ·intro h;rw[h]
section
variable {F:PFn}{π:Zp}{a b c lo hi it elt cnd:CE}{M:Li Nat}
noncomputable def VM(c:Ot P)(x y:Ot P):Ot P:=match c with
 |some (.bl true)=>x
 |some (.bl false)=>y
 |_=>none
@[simp] theorem Zdz{k:Bool}{x y:Ot P}:VM (some (.bl k)) x y=if k=true then x else y:=by cases k<;>rfl
@[simp] theorem Zkq{α β:Type}{p:Prop}[Decidable p]{u v:Ot α}{f:α->Ot β}:(if p then u else v).bind f=if p then u.bind f else v.bind f:=by split<;>rfl
@[simp] theorem pe_var{i:Nat}:pe F (.var i) π=(π[i]?).join:=by
 show Vj i π=_;unfold Vj;cases π[i]? with
 |none=>rfl
 |some o=>cases o<;>rfl
@[simp] theorem Zmk{d:D}:pe F (.cst d) π=ofD d:=Eq.trans rfl rfl
@[simp] theorem ZlG{i:Int}:ofD (.int i)=some (.int i):=Eq.trans rfl rfl
@[simp] theorem ZlH{i:Str}:ofD (.str i)=some (.str i):=Eq.trans rfl rfl
@[simp] theorem Zk5:WQ []=some []:=Eq.trans rfl rfl
theorem YN{f:PEv}{g:P->Ot P}:pq1 f g π=(f π).bind g:=by unfold pq1;cases f π<;>rfl
theorem Xd{f f':PEv}{g:P->P->Ot P}:pq2 f f' g π=(f π).bind fun x=>(f' π).bind fun y=>g x y:=by unfold pq2;cases f π<;>cases f' π<;>rfl
theorem Zjr{f f' f'':PEv}{g:P->P->P->Ot P}:pq3 f f' f'' g π=(f π).bind fun x=>(f' π).bind fun y=>(f'' π).bind fun z=>g x y z:=by unfold pq3;cases f π<;>cases f' π<;>cases f'' π<;>rfl
theorem Uj{f g h:PEv}:YD f g h π=VM (f π) (g π) (h π):=by
 unfold YD VM;rfl
@[simp] theorem Zjo{op:Operator}:pe F (.bin op a b) π=(pe F a π).bind fun x=>(pe F b π).bind fun y=>Ve op x y:=Xd
@[simp] theorem Y1{op:CmpOp}:pe F (.cmp op a b) π=(pe F a π).bind fun x=>(pe F b π).bind fun y=>Yu op x y:=Xd
@[simp] theorem Zmo:pe F (.neg a) π=(pe F a π).bind ZcQ:=YN
@[simp] theorem pe_not:pe F (.not a) π=(pe F a π).bind ZcR:=YN
@[simp] theorem pe_and:pe F (.and a b) π=VM (pe F a π) (pe F b π) (some (.bl false)):=Uj
@[simp] theorem pe_or:pe F (.or a b) π=VM (pe F a π) (some (.bl true)) (pe F b π):=Uj
@[simp] theorem QV:pe F (.ife c a b) π=VM (pe F c π) (pe F a π) (pe F b π):=Uj
@[simp] theorem QY:pe F (.tupE a) π=pe F a π:=Eq.trans rfl rfl
@[simp] theorem QX:pe F (.lstE a) π=(pe F a π).bind ZaC:=YN
@[simp] theorem ZlI:pe F .aN π=some (.tup []):=Eq.trans rfl rfl
@[simp] theorem ZB:pe F (.aC a b) π=(pe F a π).bind fun x=>(pe F b π).bind fun y=>UO x y:=Xd
@[simp] theorem pe_ix:pe F (.ix a b) π=(pe F a π).bind fun x=>(pe F b π).bind fun y=>ixP x y:=Xd
@[simp] theorem pe_slice:pe F (.slice a lo hi) π=(pe F a π).bind fun x=>(pe F lo π).bind fun y=>(pe F hi π).bind fun z=>WU x y z:=Zjr
@[simp] theorem pe_call{f:Nat}{ds:Li D}:pe F (.call f a ds) π=(pe F a π).bind (VI (F f) ds):=YN
@[simp] theorem QW:pe F (.len a) π=(pe F a π).bind QJ:=YN
@[simp] theorem Zjp:pe F (.tOf a) π=(pe F a π).bind WZ:=YN
@[simp] theorem ZeL:pe F (.intOf a) π=(pe F a π).bind QE:=YN
@[simp] theorem Zmn:pe F (.min a b) π=(pe F a π).bind fun x=>(pe F b π).bind fun y=>ZcO x y:=Xd
@[simp] theorem Zmm:pe F (.max a b) π=(pe F a π).bind fun x=>(pe F b π).bind fun y=>ZcN x y:=Xd
@[simp] theorem Zml{T:Ty}:pe F (.isi T a) π=(pe F a π).bind (Zau T):=YN

@[simp] theorem ZgZ{ks:Li Str}{ds:Li D}:pe F (.look ks ds a) π=(pe F a π).bind (V6 ks ds):=YN
@[simp] theorem ZeI:pe F (.all a) π=(pe F a π).bind (XG fun l=>l.all id):=YN
theorem ZbJ{rng:Bool}{fr:Li Nat}:pe F (.comp rng fr it elt cnd) π=(pe F it π).bind fun x=>(Yl rng x).bind fun xs=>if xs.length<=1000 then (YK (fun p=>pe F elt (Wu π fr p)) (fun p=>pe F cnd (Wu π fr p)) xs).bind (fun ys=>some (.lst true ys)) else none:=by
 show Z7 ZeQ (Yl rng) fr (pe F it) (pe F elt) (pe F cnd) π=_;unfold Z7;cases pe F it π with
 |none=>rfl
 |some x=>
  simp only[Ob];cases Yl rng x with
  |none=>rfl
  |some xs=>
   simp only[Ob];split
   ·show(match YK (fun p=>pe F elt (Wu π fr p)) (fun p=>pe F cnd (Wu π fr p)) xs with
     |some ys=>some (P.lst true ys)
     |none=>none)=_
    cases YK (fun p=>pe F elt (Wu π fr p)) (fun p=>pe F cnd (Wu π fr p)) xs<;>rfl
   ·rfl




theorem ZeK{fr:Li Nat}{x:P}{xs:Li P}(h:pe F it π=some x)(hw:XO x=some xs)(hl:xs.length<=1000):pe F (.comp2 fr it elt cnd) π=(YK (fun p=>pe F elt (YE QZ π fr p)) (fun p=>pe F cnd (YE QZ π fr p)) xs).bind (fun ys=>some (.lst true ys)):=by
 show Z7 QZ XO fr (pe F it) (pe F elt) (pe F cnd) π=_;unfold Z7;simp only[h,hw,hl,if_true];cases YK (fun p=>pe F elt (YE QZ π fr p)) (fun p=>pe F cnd (YE QZ π fr p)) xs<;>rfl
variable {i j:Int}{xs ys:Li P}{x y:P}{m:Bool}
@[simp] theorem Zlz:Ve .Add (.int i) (.int j)=some (.int (i+j)):=Eq.trans rfl rfl
@[simp] theorem ZlB:Ve .Sub (.int i) (.int j)=some (.int (i - j)):=Eq.trans rfl rfl
@[simp] theorem ZlA:Ve .Mult (.int i) (.int j)=if ZE i||ZE j then some (.int (i * j)) else none:=by
 show(match (if ZE i||ZE j then some ((i * j)) else none:Ot Int) with
  |some k=>some (P.int k)
  |none=>none)=_
 by_cases h:(ZE i||ZE j)=true
 ·rw[if_pos h,if_pos h]
 ·rw[if_neg h,if_neg h]
@[simp] theorem Zkp:Ve .FloorDiv (.int i) (.int j)=if 0 < j/\j < 1073741824 then some (.int (i / j)) else if j < 0/\-1073741824 < j then some (.int (i.fdiv j)) else none:=by
 show(match (if 0 < j/\j < 1073741824 then some (i / j) else if j < 0/\-1073741824 < j then some (i.fdiv j) else none:Ot Int) with
  |some k=>some (P.int k)
  |none=>none)=_
 by_cases h:0 < j/\j < 1073741824
 ·rw[if_pos h,if_pos h]
 ·rw[if_neg h,if_neg h]
  by_cases h':j < 0/\-1073741824 < j
  ·rw[if_pos h',if_pos h']
  ·rw[if_neg h',if_neg h']
@[simp] theorem ZfN:Ve .Mod (.int i) (.int j)=if 0 < j then some (.int (i % j)) else if j < 0 then some (.int (i.fmod j)) else none:=by
 show(match (if 0 < j then some (i % j) else if j < 0 then some (i.fmod j) else none:Ot Int) with
  |some k=>some (P.int k)
  |none=>none)=_
 by_cases h:0 < j
 ·rw[if_pos h,if_pos h]
 ·rw[if_neg h,if_neg h]
  by_cases h':j < 0
  ·rw[if_pos h',if_pos h']
  ·rw[if_neg h',if_neg h']
theorem lim_iff:ZE i=true↔-(2 ^ 64) < i/\i < 2 ^ 64:=by unfold ZE;rw[Ba,decide_eq_true_iff,decide_eq_true_iff]
theorem Vn(h:-(2 ^ 64) < i)(h':i < 2 ^ 64):ZE i=true:=lim_iff.mpr ⟨h,h'⟩
@[simp] theorem ZlT:Yu .Lt (.int i) (.int j)=some (.bl (decide (i < j))):=Eq.trans rfl rfl
@[simp] theorem ZlS:Yu .Gt (.int i) (.int j)=some (.bl (decide (j < i))):=Eq.trans rfl rfl
@[simp] theorem ZfZ:Yu .Eq (.int i) (.int j)=some (.bl (decide (i=j))):=Eq.trans rfl rfl
@[simp] theorem Zbg{s t:Str}:Yu .Eq (.str s) (.str t)=some (.bl (decide (s=t))):=Eq.trans rfl rfl
@[simp] theorem Zf0{s t:Str}:Yu .NotEq (.str s) (.str t)=some (.bl (!decide (s=t))):=Eq.trans rfl rfl
theorem Zf1(h:okP 8 (.tup xs)=true)(h':okP 8 (.tup ys)=true):Yu .NotEq (.tup xs) (.tup ys)=some (.bl (!Xq xs ys)):=by
 show((eqP (.tup xs) (.tup ys)).map not).map P.bl=_;show((if okP 8 (.tup xs)&&okP 8 (.tup ys) then some (Xq xs ys) else ZbF xs ys).map not).map P.bl=_
 rw[h,h'];rfl
@[simp] theorem neg_int:ZcQ (.int i)=some (.int (-i)):=Eq.trans rfl rfl
@[simp] theorem Zmg:ZcR (.bl m)=some (.bl (!m)):=Eq.trans rfl rfl
@[simp] theorem ZlD:ZaC (.tup xs)=some (.lst true xs):=Eq.trans rfl rfl
@[simp] theorem Zkx:UO x (.tup xs)=if xs.length < 1000 then some (.tup (x :: xs)) else none:=Eq.trans rfl rfl
@[simp] theorem ZlC:QJ (.lst m xs)=some (.int xs.length):=Eq.trans rfl rfl
@[simp] theorem Zkc:WZ (.lst m xs)=some (.tup xs):=Eq.trans rfl rfl
@[simp] theorem int_int:QE (.int i)=some (.int i):=Eq.trans rfl rfl
@[simp] theorem ZlF:ZcO (.int i) (.int j)=some (.int (if j < i then j else i)):=Eq.trans rfl rfl
@[simp] theorem ZlE:ZcN (.int i) (.int j)=some (.int (if j > i then j else i)):=Eq.trans rfl rfl
@[simp] theorem ix_tup:ixP (.tup xs) (.int i)=atP xs i:=Eq.trans rfl rfl
@[simp] theorem Zl8:ixP (.lst m xs) (.int i)=atP xs i:=Eq.trans rfl rfl
@[simp] theorem Zl6:Zau .int (.int i)=some (.bl true):=Eq.trans rfl rfl
@[simp] theorem Zl5:Zau .bool (.int i)=some (.bl false):=Eq.trans rfl rfl
@[simp] theorem Zkt{g:Li P->Ot P}{ds:Li D}:VI g ds (.tup xs)=(WQ ds).bind fun es=>g (xs++es):=by
 show(match WQ ds with|some es=>g (xs++es)|none=>none)=_
 cases WQ ds<;>rfl
theorem YA{n:Nat}(h:i=(n:Int)):atP xs i=xs[n]?:=by
 subst h;unfold atP ixN;rw[if_pos (by omega)]
 by_cases hn:(n:Int) < xs.length
 ·rw[if_pos hn];rfl
 ·rw[if_neg hn]
  rw[List.getElem?_eq_none (by omega)]
  rfl
@[simp] theorem Zly{n:Nat}:atP xs ((n:Nat):Int)=xs[n]?:=YA rfl
@[simp] theorem ZmV:atP xs 2=xs[2]?:=YA rfl
@[simp] theorem ZmW:atP xs 3=xs[3]?:=YA rfl
@[simp] theorem ZmX:atP xs 4=xs[4]?:=YA rfl
@[simp] theorem ZmY:atP xs 5=xs[5]?:=YA rfl
@[simp] theorem ZmZ:atP xs 6=xs[6]?:=YA rfl
@[simp] theorem Zm0:atP xs 7=xs[7]?:=YA rfl
@[simp] theorem ZmT:atP xs 0=xs[0]?:=YA rfl
@[simp] theorem ZmU:atP xs 1=xs[1]?:=YA rfl
variable {s t:CS}
noncomputable def Vd(x:Ot PFl)(g:Zp->Ot PFl):Ot PFl:=match x with
 |some (.nx π')=>g π'
 |r=>r
@[simp] theorem Zg{g:PEx}:Vd (some (.nx π)) g=g π:=Eq.trans rfl rfl
@[simp] theorem ZlK{g:PEx}:Vd (some (.rt x)) g=some (.rt x):=Eq.trans rfl rfl
@[simp] theorem Zkb{g:PEx}:Vd none g=none:=Eq.trans rfl rfl
@[simp] theorem Zli{p:Prop}[Decidable p]{u v:Ot PFl}{g:PEx}:Vd (if p then u else v) g=if p then Vd u g else Vd v g:=by split<;>rfl
noncomputable def Zfg(c:Ot P)(x y:Ot PFl):Ot PFl:=match c with
 |some (.bl true)=>x
 |some (.bl false)=>y
 |_=>none
@[simp] theorem Zu{k:Bool}{x y:Ot PFl}:Zfg (some (.bl k)) x y=if k=true then x else y:=by cases k<;>rfl
@[simp] theorem Zo:px F M .skip π=some (.nx π):=Eq.trans rfl rfl
@[simp] theorem Zi:px F M (.seq s t) π=Vd (px F M s π) (px F M t):=by
 show ZeS _ _ π=_;unfold ZeS Vd;rfl
@[simp] theorem ZeW:px F M (.ret a) π=(pe F a π).bind fun d=>some (.rt d):=by
 show ZeR _ π=_;unfold ZeR;cases pe F a π<;>rfl
@[simp] theorem ZI:px F M (.ite c s t) π=Zfg (pe F c π) (px F M s π) (px F M t π):=by
 show ZeO _ _ _ π=_;unfold ZeO Zfg;rfl
@[simp] theorem Zs{o:Ot P}:ZM (o :: π) 0 x=some x :: π:=rfl
@[simp] theorem Zr{o:Ot P}{k:Nat}:ZM (o :: π) (k+1) x=o :: ZM π k x:=rfl
theorem ZfK{a b:Bool}(ha:a=true)(hb:b=true):(a&&b)=true:=by rw[ha,hb];rfl
theorem ZfI{l:Li Nat}:(l.all fun i=>!([]:Li Nat).contains i)=true:=by
 induction l with
 |nil=>rfl
 |cons a l ih=>exact ih
theorem ZgP:∀ e:CE,noM [] e=true:=by
 intro e
 induction e<;>first|rfl|assumption | (show(_&&_)=true;exact ZfK (by assumption) (by assumption)) | (show(_&&(_&&_))=true;exact ZfK (by assumption) (ZfK (by assumption) (by assumption))) | (show(_&&_)=true;exact ZfK (by assumption) ZfI)
theorem Zej{e:CE}:ZP [] e x=true:=by unfold ZP;rw[ZgP];rfl
@[simp] theorem Zg5{k:Nat}:px F [] (.set k a) π=(pe F a π).bind fun p=>some (.nx (ZM π k p)):=by
 show ZaL _ _ _ _ π=_;unfold ZaL;cases pe F a π with
 |none=>rfl
 |some p=>simp[Zej]
theorem ZeX{k:Nat}:px F M (.set k a) π=(pe F a π).bind fun p=>if (if M.contains k then YV M a p else ZP M a p||YV M a p) then some (.nx (ZM π k p)) else none:=by
 show ZaL _ _ _ _ π=_;unfold ZaL;cases pe F a π<;>rfl
theorem Yo{k:Nat}{p:P}(h:pe F a π=some p)(hm:M.contains k=false)(hk:ZP M a p=true):px F M (.set k a) π=some (.nx (ZM π k p)):=by
 rw[ZeX,h,Ob,hm,if_neg Bf,hk,Bool.true_or,if_pos rfl]
theorem XW{k:Nat}{p:P}(h:pe F a π=some p)(hm:M.contains k=true)(hk:YV M a p=true):px F M (.set k a) π=some (.nx (ZM π k p)):=by
 rw[ZeX,h,Ob,hm,if_pos rfl,if_pos hk]
theorem Ul{k:Nat}(h:π[k]?=some (some (.lst true xs))):px F M (.app k a) π=(pe F a π).bind fun p=>if M.contains k&&ZP M a p&&decide (xs.length < Zd) then some (.nx (ZM π k (.lst true (xs++[p])))) else none:=by
 show ZeH _ _ _ _ π=_;unfold ZeH;rw[h];cases pe F a π<;>rfl
theorem ZeV{k:Nat}(h:π[k]?=some (some (.lst true xs)))(he:pe F a π=some (.lst true ys))(hw:(M.contains k&&noM M a)=true)(hz:xs.length+ys.length<=Zd):px F M (.ext k a) π=some (.nx (ZM π k (.lst true (xs++ys)))):=by
 show ZeM _ _ _ _ π=_;unfold ZeM;simp only[h,he];rw[if_pos (by rw[Ba];exact⟨hw,decide_eq_true hz⟩)]

theorem Zg4{k:Nat}(h:pe F it π=some (.tup xs))(hw:!M.contains k&&ZP M it (.tup xs)=true):px F M (.for1 k false it s) π=Z5 (fun d π=>px F M s (ZM π k d)) xs π:=by
 show ZaK _ _ _ _ _ _ _ π=_;unfold ZaK;rw[h];show(if !M.contains k&&(false||ZP M it (.tup xs)) then Z5 (fun d π=>px F M s (ZM π k d)) xs π else none)=_
 rw[if_pos (by simpa using hw)]
theorem Zg3{k:Nat}{n:Int}(h:pe F it π=some (.int n))(h1:n < 2 ^ 62)(h2:-(2 ^ 62)<=n)(hw:M.contains k=false):px F M (.for1 k true it s) π=Z5 (fun d π=>px F M s (ZM π k d)) (Ym n) π:=by
 show ZaK _ _ _ _ _ _ _ π=_;unfold ZaK;rw[h];have e:V2 true (.int n)=some (Ym n):=by
  show(if n < 2 ^ 62/\-(2 ^ 62)<=n then some (Ym n) else none)=_
  rw[if_pos ⟨h1,h2⟩]
 simp only[e];rw[if_pos (by simpa using hw)]
theorem ZbM{k l:Nat}(h:pe F it π=some (.tup [.lst m xs,.tup ys]))(hw:(!M.contains k&&!M.contains l&&noM M it)=true):px F M (.forP k l it s) π=Xk (fun x y π=>px F M s (ZM (ZM π k x) l y)) (xs.zip ys) π:=by
 show JO _ _ _ _ _ _ π=_;unfold JO;rw[h];show(if (!M.contains k&&!M.contains l&&noM M it)=true then _ else _)=_
 rw[if_pos hw]

noncomputable def Zig(x:Ot PFl)(g:Zp->Ot PFl):Ot PFl:=match x with
 |some (.nx π')=>g π'
 |some (.ct π')=>g π'
 |some (.bk π')=>some (.nx π')
 |some (.rt v)=>some (.rt v)
 |none=>none
theorem ZcJ{B:P->Zp->Ot PFl}:Z5 B (x :: xs) π=Zig (B x π) (Z5 B xs):=by
 show(match B x π with
  |some (.nx π')=>Z5 B xs π'
  |some (.ct π')=>Z5 B xs π'
  |some (.bk π')=>some (.nx π')
  |some (.rt v)=>some (.rt v)
  |none=>none)=_
 unfold Zig;rfl
noncomputable def Yd(x:Ot PFl):Ot P:=match x with
 |some (.rt d)=>some d
 |some (.nx _)=>some .non
 |_=>none
@[simp] theorem ZmN:Yd (some (.rt x))=some x:=Eq.trans rfl rfl
@[simp] theorem ZlJ{p:Prop}[Decidable p]{u v:Ot PFl}:Yd (if p then u else v)=if p then Yd u else Yd v:=by split<;>rfl
theorem ZiW{f:FD}{ds:Li P}(hl:ds.length=f.ps)(hM:(ZN f.body).all (fun i=>decide (f.ps<=i))=true):fnP F f ds=Yd (px F (ZN f.body) f.body (ds.map some++List.replicate (f.ns - ds.length) none)):=by
 unfold fnP;rw[if_pos ⟨hl,hM⟩];rfl
theorem Zt{T:Nat->Ot FD}{n k:Nat}{f:FD}{ds:Li P}(h:T k=some f)(hl:ds.length=f.ps)(hM:(ZN f.body).all (fun i=>decide (f.ps<=i))=true)(hN:(V1 k&&!Ub f)=false:=by rfl)(hW:(k==16&&(T 999).isSome)=false:=by rfl) :
  Zj T (n+1) k ds=Yd (px (Zj T n) (ZN f.body) f.body (ds.map some++List.replicate (f.ns - ds.length) none)):=by
 have:Zj T (n+1) k=fnP (Zj T n) f:=by rw[U4 h,if_neg (by rw[hN];exact Bf)]
 rw[this];exact ZiW hl hM
section
variable {F:PFn}{M:Li Nat}{π π':Zp}{a b:CS}{c:CE}{v:P}
end
theorem W4{f c:P->Ot P}{p:P->Bool}{g:P->P}:∀ {xs:Li P},(∀ x∈xs,c x=some (.bl (p x)))->(∀ x∈xs,p x=true->f x=some (g x))->YK f c xs=some ((xs.filter p).map g)
 |[],_,_=>rfl
 |x :: xs,hc,hf=>by
  have h1:=hc x Ls;have ih:=W4 (fun y hy=>hc y (Lm _ hy)) (fun y hy=>hf y (Lm _ hy))
  unfold YK;rw[h1];cases q:p x with
  |true=>
   have h2:=hf x Ls q;simp only[h2,ih,List.filter_cons,q,if_true,List.map_cons]
  |false=>
   simp only[ih,List.filter_cons,q,Bool.false_eq_true,if_false]
theorem Zdy{f c:P->Ot P}{g:P->P}{xs:Li P}(hc:∀ x∈xs,c x=some (.bl true))(hf:∀ x∈xs,f x=some (g x)):YK f c xs=some (xs.map g):=by
 rw[W4 (p:=fun _=>true) hc (fun x hx _=>hf x hx)]
 rw[List.filter_eq_self.mpr (fun _ _=>rfl)]
theorem ZcC{n:Int}(h1:n < 2 ^ 62)(h2:-(2 ^ 62)<=n):Yl true (.int n)=some (Ym n):=by
 have e:V2 true (.int n)=some (Ym n):=by
  show(if n < 2 ^ 62/\-(2 ^ 62)<=n then some (Ym n) else none)=_
  rw[if_pos ⟨h1,h2⟩]
 unfold Yl;rw[e]
theorem Zax{n:Nat}(h:n<=100000):Yl true (.int (n:Int))=some (Ym (n:Int)):=
 ZcC (Int.lt_of_le_of_lt (Int.ofNat_le.mpr h) (by decide)) (Int.le_trans (by decide) (Int.natCast_nonneg n))
theorem UL:∀ {bs:Li Bool},Xs (bs.map P.bl)=some bs
 |[]=>rfl
 |b :: bs=>by show(Xs (bs.map P.bl)).map (b :: ·)=_;rw[UL];rfl
@[simp] theorem U5{f:Li Bool->Bool}{m:Bool}{bs:Li Bool}:XG f (.lst m (bs.map P.bl))=some (.bl (f bs)):=by
 show(match Xs (bs.map P.bl) with
  |some bs=>some (P.bl (f bs))
  |none=>none)=_
 rw[UL]
theorem U0{B:P->Zp->Ot PFl}{I:Nat->Zp->Prop}:∀ (j k:Nat),(∀ i,k<=i->i < k+j->∀ π,I i π->∃ π',B (.int (i:Int)) π=some (.nx π')/\I (i+1) π')->∀ π,I k π->∃ π',Z5 B ((List.range' k j).map fun(i:Nat)=>P.int (i:Int)) π=some (.nx π')/\I (k+j) π'
 |0,k,_,π,h=>⟨π,rfl,h⟩
 |j+1,k,hb,π,h=>by
  obtain⟨π1,e1,i1⟩:=hb k (Nat.le_refl _) (by omega) π h
  obtain⟨π2,e2,i2⟩:=U0 j (k+1) (fun i h1 h2=>hb i (by omega) (by omega)) π1 i1
  refine⟨π2,?_,by rw[show k+(j+1)=k+1+j by omega];exact i2⟩
  rw[List.range'_succ,List.map_cons,ZcJ,e1];exact e2
theorem Ua{B:P->Zp->Ot PFl}(I:Nat->Zp->Prop){m:Nat}(hb:∀ i,i < m->∀ π,I i π->∃ π',B (.int (i:Int)) π=some (.nx π')/\I (i+1) π'){π:Zp}(h:I 0 π):∃ π',Z5 B (Ym (m:Int)) π=some (.nx π')/\I m π':=by
 have:=U0 (B:=B) (I:=I) m 0 (fun i _ h2=>hb i (by omega)) π h
 rw[Nat.zero_add]at this;have e:Ym (m:Int)=(List.range' 0 m).map fun(i:Nat)=>P.int (i:Int):=by
  unfold Ym;rw[show((m:Int)).toNat=m by omega,List.range_eq_range']
 rw[e];exact this
theorem ZbN{k:Nat}{n:Nat}(h:pe F it π=some (.int (n:Int)))(h1:n<=100000)(hw:M.contains k=false):px F M (.for1 k true it s) π=Z5 (fun d π=>px F M s (ZM π k d)) (Ym (n:Int)) π:=
 Zg3 h (Int.lt_of_le_of_lt (Int.ofNat_le.mpr h1) (by decide)) (Int.le_trans (by decide) (Int.natCast_nonneg n)) hw
mutual
theorem Zb4:∀ {n:Nat}{x:P},okP n x=true->Jd x x=true
 |_,.non,_=>rfl
 |_,.bl a,_=>by simp[Jd]
 |_,.int a,_=>by simp[Jd]
 |_,.str a,_=>by simp[Jd]
 |0,.tup a,h=>by simp[okP]at h
 |n+1,.tup a,h=>X9 (n:=n) (x:=a) h
 |_,.lst a b,h=>by simp[okP]at h
 |_,.dct a b,h=>by simp[okP]at h
 |_,.obj a,h=>by simp[okP]at h
 |_,.kt a,h=>by simp[okP]at h
theorem X9:∀ {n:Nat}{x:Li P},UF n x=true->Xq x x=true
 |_,[],_=>rfl
 |n,a :: x,h=>by
  have h:(okP n a&&UF n x)=true:=h;rw[Ba]at h;show(Jd a a&&Xq x x)=true;rw[Zb4 h.1,X9 h.2];rfl
end
theorem Jk{xs:Li P}(h:okP 8 (.tup xs)=true):Yu .NotEq (.tup xs) (.tup xs)=some (.bl false):=by
 rw[Zf1 h h,X9 (n:=7) h];rfl
@[simp] theorem Zkw{m m':Bool}{xs:Li P}:Yu .Eq (.lst m xs) (.lst m' [])=some (.bl xs.isEmpty):=by
 cases xs<;>rfl
end
end Dp


namespace Dp
open PySem
noncomputable def c_around:FD:=⟨1,1,(.seq (.ret (.bin .Sub (.bin .Mod (.bin .Add (.var 0) (.cst (.int 1000000000))) (.cst (.int 2000000000))) (.cst (.int 1000000000))))
 .skip)⟩
noncomputable def c__law_whole:FD:=⟨1,1,(.seq (.ret (.and (.isi .int (.var 0)) (.not (.isi .bool (.var 0)))))
 .skip)⟩
noncomputable def Zb5:FD:=⟨2,2,(.seq (.ite (.cmp .Eq (.var 1) (.cst (.int 0))) (.seq (.ret (.cst (.int 0)))
 .skip) .skip)
 (.seq (.ret (.call 0 (.aC (.bin .FloorDiv (.var 0) (.var 1)) .aN) []))
 .skip))⟩
noncomputable def Jh:FD:=⟨2,2,(.seq (.ite (.cmp .Eq (.var 1) (.cst (.int 0))) (.seq (.ret (.var 0))
 .skip) .skip)
 (.seq (.ret (.bin .Sub (.var 0) (.bin .Mult (.var 1) (.bin .FloorDiv (.var 0) (.var 1)))))
 .skip))⟩
noncomputable def Zdo:FD:=⟨3,3,(.seq (.ite (.cmp .Eq (.var 1) (.cst (.str (S "+")))) (.seq (.ret (.call 0 (.aC (.bin .Add (.var 0) (.var 2)) .aN) []))
 .skip) .skip)
 (.seq (.ite (.cmp .Eq (.var 1) (.cst (.str (S "-")))) (.seq (.ret (.call 0 (.aC (.bin .Sub (.var 0) (.var 2)) .aN) []))
 .skip) .skip)
 (.seq (.ite (.cmp .Eq (.var 1) (.cst (.str (S "*")))) (.seq (.ret (.call 0 (.aC (.bin .Mult (.var 0) (.var 2)) .aN) []))
 .skip) .skip)
 (.seq (.ite (.cmp .Eq (.var 1) (.cst (.str (S "/")))) (.seq (.ret (.call 1 (.aC (.var 0) (.aC (.var 2) .aN)) []))
 .skip) .skip)
 (.seq (.ret (.call 2 (.aC (.var 0) (.aC (.var 2) .aN)) []))
 .skip)))))⟩
noncomputable def c__law_small_by:FD:=⟨1,2,(.seq (.set 1 (.lstE (.aC (.neg (.cst (.int 1000000000))) (.aC (.neg (.cst (.int 999999999))) (.aC (.neg (.cst (.int 2))) (.aC (.neg (.cst (.int 1))) (.aC (.cst (.int 0)) (.aC (.cst (.int 1)) (.aC (.cst (.int 2)) (.aC (.cst (.int 999999999)) .aN))))))))))
 (.seq (.ite (.cmp .Eq (.bin .Mod (.var 0) (.cst (.int 3))) (.cst (.int 0))) (.seq (.ret (.ix (.var 1) (.bin .Mod (.bin .FloorDiv (.var 0) (.cst (.int 3))) (.cst (.int 8)))))
 .skip) .skip)
 (.seq (.ite (.cmp .Eq (.bin .Mod (.var 0) (.cst (.int 3))) (.cst (.int 1))) (.seq (.ret (.bin .Sub (.bin .Mod (.bin .FloorDiv (.var 0) (.cst (.int 3))) (.cst (.int 13))) (.cst (.int 6))))
 .skip) .skip)
 (.seq (.ret (.bin .Sub (.bin .Mod (.bin .Mult (.bin .FloorDiv (.var 0) (.cst (.int 3))) (.cst (.int 48271))) (.cst (.int 2000000000))) (.cst (.int 1000000000))))
 .skip))))⟩
noncomputable def VH:FD:=⟨3,3,(.seq (.ret (.bin .Add (.bin .Add (.slice (.var 0) .nop (.part (.var 1))) (.tupE (.aC (.var 2) .aN))) (.slice (.var 0) (.part (.bin .Add (.var 1) (.cst (.int 1)))) .nop)))
 .skip)⟩
noncomputable def Zbe:FD:=⟨3,3,(.seq (.ite (.cmp .Eq (.var 1) (.cst (.str (S "<")))) (.seq (.ret (.cmp .Lt (.var 0) (.var 2)))
 .skip) .skip)
 (.seq (.ite (.cmp .Eq (.var 1) (.cst (.str (S "<=")))) (.seq (.ret (.cmp .LtE (.var 0) (.var 2)))
 .skip) .skip)
 (.seq (.ite (.cmp .Eq (.var 1) (.cst (.str (S "=")))) (.seq (.ret (.cmp .Eq (.var 0) (.var 2)))
 .skip) .skip)
 (.seq (.ite (.cmp .Eq (.var 1) (.cst (.str (S ">=")))) (.seq (.ret (.cmp .GtE (.var 0) (.var 2)))
 .skip) .skip)
 (.seq (.ite (.cmp .Eq (.var 1) (.cst (.str (S ">")))) (.seq (.ret (.cmp .Gt (.var 0) (.var 2)))
 .skip) .skip)
 (.seq (.ret (.cmp .NotEq (.var 0) (.var 2)))
 .skip))))))⟩
noncomputable def ZfV:FD:=⟨2,2,(.seq (.ite (.cmp .Eq (.ix (.var 0) (.cst (.int 0))) (.cst (.str (S "name")))) (.seq (.ret (.ix (.var 1) (.ix (.var 0) (.cst (.int 1)))))
 .skip) .skip)
 (.seq (.ret (.ix (.var 0) (.cst (.int 1))))
 .skip))⟩
noncomputable def Zdk:FD:=⟨2,2,(.seq (.ret (.cmp .GtE (.ix (.var 1) (.cst (.int 0))) (.len (.ix (.var 0) (.cst (.int 2))))))
 .skip)⟩
noncomputable def Vf:FD:=⟨2,3,(.seq (.ite (.cmp .NotEq (.ix (.var 0) (.cst (.int 0))) (.cst (.str (S "put")))) (.seq (.ret (.var 1))
 .skip) .skip)
 (.seq (.set 2 (.call 3 (.aC (.call 5 (.aC (.ix (.var 0) (.cst (.int 2))) (.aC (.var 1) .aN)) []) (.aC (.ix (.var 0) (.cst (.int 3))) (.aC (.call 5 (.aC (.ix (.var 0) (.cst (.int 4))) (.aC (.var 1) .aN)) []) .aN))) []))
 (.seq (.ret (.call 42 (.aC (.var 1) (.aC (.ix (.var 0) (.cst (.int 1))) (.aC (.var 2) .aN))) []))
 .skip)))⟩
noncomputable def VG:FD:=⟨3,3,(.seq (.ite (.cmp .Eq (.ix (.var 0) (.cst (.int 0))) (.cst (.str (S "go")))) (.seq (.ret (.ix (.var 0) (.cst (.int 1))))
 .skip) .skip)
 (.seq (.ite (.and (.cmp .Eq (.ix (.var 0) (.cst (.int 0))) (.cst (.str (S "if")))) (.call 4 (.aC (.call 5 (.aC (.ix (.var 0) (.cst (.int 1))) (.aC (.var 2) .aN)) []) (.aC (.ix (.var 0) (.cst (.int 2))) (.aC (.call 5 (.aC (.ix (.var 0) (.cst (.int 3))) (.aC (.var 2) .aN)) []) .aN))) [])) (.seq (.ret (.ix (.var 0) (.cst (.int 4))))
 .skip) .skip)
 (.seq (.ret (.bin .Add (.var 1) (.cst (.int 1))))
 .skip)))⟩
noncomputable def ZfT:FD:=⟨2,5,(.seq (.ite (.call 7 (.aC (.var 0) (.aC (.var 1) .aN)) []) (.seq (.ret (.tupE (.aC (.cst (.str (S "none"))) .aN)))
 .skip) .skip)
 (.seq (.set 2 (.ix (.var 1) (.cst (.int 0))))
 (.seq (.set 3 (.ix (.var 1) (.cst (.int 1))))
 (.seq (.set 4 (.ix (.ix (.var 0) (.cst (.int 2))) (.var 2)))
 (.seq (.ite (.cmp .Eq (.ix (.var 4) (.cst (.int 0))) (.cst (.str (S "tell")))) (.seq (.ret (.tupE (.aC (.cst (.str (S "told"))) (.aC (.call 5 (.aC (.ix (.var 4) (.cst (.int 1))) (.aC (.var 3) .aN)) []) .aN))))
 .skip) .skip)
 (.seq (.ret (.tupE (.aC (.call 9 (.aC (.var 4) (.aC (.var 2) (.aC (.var 3) .aN))) []) (.aC (.call 8 (.aC (.var 4) (.aC (.var 3) .aN)) []) .aN))))
 .skip))))))⟩
noncomputable def c__law_cell_at:FD:=⟨2,2,(.seq (.ite (.cmp .Lt (.var 1) (.len (.var 0))) (.seq (.ret (.ix (.var 0) (.var 1)))
 .skip) .skip)
 (.seq (.ite (.cmp .Eq (.var 0) (.lstE .aN)) (.seq (.ret (.bin .Mod (.bin .Mult (.bin .Add (.bin .Mult (.var 1) (.var 1)) (.cst (.int 7))) (.cst (.int 48271))) (.cst (.int 2147483629))))
 .skip) .skip)
 (.seq (.ret (.bin .Mod (.bin .Mult (.bin .Add (.bin .Mod (.ix (.var 0) (.cst (.int 0))) (.cst (.int 2147483647))) (.cst (.int 7))) (.bin .Add (.bin .Mult (.var 1) (.var 1)) (.cst (.int 48271)))) (.cst (.int 2147483629))))
 .skip)))⟩
noncomputable def c__law_operand:FD:=⟨2,2,(.seq (.ite (.and (.cmp .Gt (.var 1) (.cst (.int 0))) (.cmp .Gt (.bin .Mod (.var 0) (.cst (.int 3))) (.cst (.int 0)))) (.seq (.ret (.tupE (.aC (.cst (.str (S "name"))) (.aC (.bin .Mod (.bin .FloorDiv (.var 0) (.cst (.int 3))) (.var 1)) .aN))))
 .skip) .skip)
 (.seq (.ret (.tupE (.aC (.cst (.str (S "number"))) (.aC (.call 19 (.aC (.bin .FloorDiv (.var 0) (.cst (.int 3))) .aN) []) .aN))))
 .skip))⟩
noncomputable def c__law_row:FD:=⟨4,9,(.seq (.set 4 (.call 28 (.aC (.bin .Mod (.bin .Mult (.var 1) (.cst (.int 48271))) (.cst (.int 2147483647))) (.aC (.var 2) .aN)) []))
 (.seq (.set 5 (.call 28 (.aC (.bin .Mod (.bin .Mult (.bin .Add (.var 1) (.cst (.int 5))) (.cst (.int 1226874159))) (.cst (.int 2147483647))) (.aC (.var 2) .aN)) []))
 (.seq (.set 6 (.bin .Mod (.bin .Mult (.var 0) (.cst (.int 48271))) (.cst (.int 2147483647))))
 (.seq (.set 7 (.bin .Mod (.bin .Mod (.bin .Mult (.bin .Add (.var 0) (.cst (.int 1))) (.cst (.int 742938285))) (.cst (.int 2147483647))) (.bin .Add (.var 3) (.cst (.int 1)))))
 (.seq (.ite (.and (.cmp .Lt (.bin .Mod (.var 0) (.cst (.int 8))) (.cst (.int 3))) (.cmp .Gt (.var 2) (.cst (.int 0)))) (.seq (.set 8 (.bin .Mod (.bin .Mod (.bin .Mult (.bin .Add (.var 1) (.cst (.int 3))) (.cst (.int 950706376))) (.cst (.int 2147483647))) (.var 2)))
 (.seq (.ret (.tupE (.aC (.cst (.str (S "put"))) (.aC (.var 8) (.aC (.var 4) (.aC (.ix (.lstE (.aC (.cst (.str (S "+"))) (.aC (.cst (.str (S "-"))) (.aC (.cst (.str (S "*"))) (.aC (.cst (.str (S "/"))) (.aC (.cst (.str (S "mod"))) .aN)))))) (.bin .Mod (.var 6) (.cst (.int 5)))) (.aC (.var 5) .aN)))))))
 .skip)) .skip)
 (.seq (.ite (.cmp .Lt (.bin .Mod (.var 0) (.cst (.int 8))) (.cst (.int 6))) (.seq (.ret (.tupE (.aC (.cst (.str (S "if"))) (.aC (.var 4) (.aC (.ix (.lstE (.aC (.cst (.str (S "<"))) (.aC (.cst (.str (S "<="))) (.aC (.cst (.str (S "="))) (.aC (.cst (.str (S ">="))) (.aC (.cst (.str (S ">"))) (.aC (.cst (.str (S "!="))) .aN))))))) (.bin .Mod (.var 6) (.cst (.int 6)))) (.aC (.var 5) (.aC (.var 7) .aN)))))))
 .skip) .skip)
 (.seq (.ite (.cmp .Eq (.bin .Mod (.var 0) (.cst (.int 8))) (.cst (.int 6))) (.seq (.ret (.ix (.lstE (.aC (.tupE (.aC (.cst (.str (S "go"))) (.aC (.var 7) .aN))) (.aC (.tupE (.aC (.cst (.str (S "skip"))) .aN)) .aN))) (.bin .Mod (.var 6) (.cst (.int 2)))))
 .skip) .skip)
 (.seq (.ret (.tupE (.aC (.cst (.str (S "tell"))) (.aC (.var 4) .aN))))
 .skip))))))))⟩
noncomputable def WB:CS:=(.seq (.set 10 (.call 19 (.aC (.bin .Add (.bin .FloorDiv (.var 2) (.cst (.int 4))) (.var 7)) .aN) []))
 (.seq (.app 9 (.tupE (.aC (.min (.var 10) (.cst (.int 5))) (.aC (.max (.var 10) (.cst (.int 5))) .aN))))
 .skip))
noncomputable def WC:CS:=(.seq (.set 8 (.call 27 (.aC (.var 0) (.aC (.bin .Add (.cst (.int 2)) (.bin .Mult (.cst (.int 2)) (.var 7))) .aN)) []))
 (.seq (.app 6 (.call 29 (.aC (.var 8) (.aC (.call 27 (.aC (.var 0) (.aC (.bin .Add (.cst (.int 3)) (.bin .Mult (.cst (.int 2)) (.var 7))) .aN)) []) (.aC (.var 4) (.aC (.var 5) .aN)))) []))
 .skip))
noncomputable def VC:FD:=⟨2,11,(.seq (.set 2 (.bin .Mod (.call 27 (.aC (.var 0) (.aC (.cst (.int 0)) .aN)) []) (.cst (.int 2147483647))))
 (.seq (.set 3 (.bin .Mod (.var 2) (.cst (.int 4))))
 (.seq (.set 4 (.bin .Add (.var 3) (.bin .Mod (.bin .Mod (.bin .Mult (.var 2) (.cst (.int 48271))) (.cst (.int 2147483647))) (.bin .Sub (.cst (.int 6)) (.var 3)))))
 (.seq (.set 5 (.bin .Mod (.call 27 (.aC (.var 0) (.aC (.cst (.int 1)) .aN)) []) (.bin .Add (.var 1) (.cst (.int 1)))))
 (.seq (.set 6 (.lstE .aN))
 (.seq (.for1 7 true (.var 5) WC)
 (.seq (.set 9 (.lstE .aN))
 (.seq (.for1 7 true (.var 3) WB)
 (.seq (.ret (.tupE (.aC (.tOf (.var 9)) (.aC (.var 4) (.aC (.tOf (.var 6)) .aN)))))
 .skip)))))))))⟩
noncomputable def Zai:CS:=(.seq (.set 1 (.bin .Mult (.var 1) (.cst (.int 2))))
 .skip)
noncomputable def Zdl:FD:=⟨1,3,(.seq (.set 1 (.cst (.int 1)))
 (.seq (.for1 2 true (.var 0) Zai)
 (.seq (.ret (.var 1))
 .skip)))⟩
noncomputable def ZfS:FD:=⟨2,2,(.seq (.ret (.tupE (.aC (.cst (.int 0)) (.aC (.bin .Add (.var 1) (.bin .Mult (.tupE (.aC (.cst (.int 0)) .aN)) (.bin .Sub (.ix (.var 0) (.cst (.int 1))) (.len (.var 1))))) .aN))))
 .skip)⟩
noncomputable def Qn:FD:=⟨1,1,(.seq (.ret (.isi .str (.ix (.var 0) (.cst (.int 0)))))
 .skip)⟩
noncomputable def Zb3:CS:=(.seq (.set 6 (.call 10 (.aC (.var 0) (.aC (.var 3) .aN)) []))
 (.seq (.app 4 (.var 6))
 (.seq (.ite (.call 11 (.aC (.var 6) .aN) []) (.seq (.ret (.tOf (.var 4)))
 .skip) .skip)
 (.seq (.set 3 (.var 6))
 .skip))))
noncomputable def ZfU:FD:=⟨3,7,(.seq (.set 3 (.call 6 (.aC (.var 0) (.aC (.var 1) .aN)) []))
 (.seq (.set 4 (.lstE (.aC (.var 3) .aN)))
 (.seq (.for1 5 true (.var 2) Zb3)
 (.seq (.app 4 (.ife (.call 7 (.aC (.var 0) (.aC (.var 3) .aN)) []) (.tupE (.aC (.cst (.str (S "none"))) .aN)) (.tupE (.aC (.cst (.str (S "late"))) .aN))))
 (.seq (.ret (.tOf (.var 4)))
 .skip)))))⟩
noncomputable def Zb7:FD:=⟨3,3,(.seq (.ret (.ix (.call 12 (.aC (.var 0) (.aC (.var 1) (.aC (.var 2) .aN))) []) (.neg (.cst (.int 1)))))
 .skip)⟩
noncomputable def Vg:CE:=(.comp false [] (.var 1) (.ix (.var 0) (.cst (.int 0))) (.cst (.bl true)))
noncomputable def Uz:FD:=⟨1,2,(.seq (.set 1 (.slice (.var 0) .nop (.part (.neg (.cst (.int 1))))))
 (.seq (.ite (.cmp .NotEq (.ix (.ix (.var 0) (.neg (.cst (.int 1)))) (.cst (.int 0))) (.cst (.str (S "told")))) (.seq (.set 1 (.slice (.var 1) .nop (.part (.neg (.cst (.int 1))))))
 .skip) .skip)
 (.seq (.ret Vg)
 .skip)))⟩
noncomputable def Jb:CS:=(.seq (.set 1 (.bin .BitOr (.var 1) (.call 43 (.aC (.var 2) .aN) [])))
 .skip)
noncomputable def Zb8:FD:=⟨1,3,(.seq (.set 1 (.cst (.int 0)))
 (.seq (.for1 2 false (.call 14 (.aC (.var 0) .aN) []) Jb)
 (.seq (.ret (.var 1))
 .skip)))⟩
noncomputable def ZiE:FD:=⟨3,3,(.seq (.ret (.call 44 (.aC (.call 12 (.aC (.var 0) (.aC (.var 1) (.aC (.var 2) .aN))) []) .aN) []))
 .skip)⟩
noncomputable def Uy:FD:=⟨2,2,(.seq (.ret (.and (.cmp .Eq (.ix (.var 0) (.cst (.int 0))) (.cst (.str (S "number")))) (.cmp .Eq (.ix (.var 1) (.cst (.int 0))) (.cst (.str (S "number"))))))
 .skip)⟩
noncomputable def VE:FD:=⟨3,3,(.seq (.ite (.cmp .Lt (.ix (.var 0) (.var 2)) (.ix (.var 0) (.var 1))) (.seq (.ret (.call 42 (.aC (.call 42 (.aC (.var 0) (.aC (.var 1) (.aC (.ix (.var 0) (.var 2)) .aN))) []) (.aC (.var 2) (.aC (.ix (.var 0) (.var 1)) .aN))) []))
 .skip) .skip)
 (.seq (.ret (.var 0))
 .skip))⟩
noncomputable def VD:FD:=⟨1,1,(.seq (.ite (.and (.cmp .Eq (.ix (.var 0) (.cst (.int 3))) (.cst (.str (S "-")))) (.cmp .Eq (.ix (.ix (.var 0) (.cst (.int 4))) (.cst (.int 0))) (.cst (.str (S "number"))))) (.seq (.ret (.bin .Add (.slice (.var 0) .nop (.part (.cst (.int 3)))) (.tupE (.aC (.cst (.str (S "+"))) (.aC (.tupE (.aC (.cst (.str (S "number"))) (.aC (.call 0 (.aC (.neg (.ix (.ix (.var 0) (.cst (.int 4))) (.cst (.int 1)))) .aN) []) .aN))) .aN)))))
 .skip) .skip)
 (.seq (.ret (.var 0))
 .skip))⟩
noncomputable def X1:FD:=⟨1,4,(.seq (.set 1 (.ix (.var 0) (.cst (.int 2))))
 (.seq (.set 2 (.ix (.var 0) (.cst (.int 3))))
 (.seq (.set 3 (.ix (.var 0) (.cst (.int 4))))
 (.seq (.ite (.or (.and (.cmp .Eq (.var 2) (.cst (.str (S "*")))) (.cmp .Eq (.var 3) (.cst (.tup [(.str (S "number")),(.int 0)])))) (.or (.and (.cmp .Eq (.var 2) (.cst (.str (S "mod")))) (.cmp .Eq (.var 3) (.cst (.tup [(.str (S "number")),(.int 1)])))) (.and (.cmp .Eq (.var 2) (.cst (.str (S "-")))) (.cmp .Eq (.var 1) (.var 3))))) (.seq (.ret (.tupE (.aC (.cst (.str (S "put"))) (.aC (.ix (.var 0) (.cst (.int 1))) (.aC (.cst (.tup [(.str (S "number")),(.int 0)])) (.aC (.cst (.str (S "+"))) (.aC (.cst (.tup [(.str (S "number")),(.int 0)])) .aN)))))))
 .skip) .skip)
 (.seq (.ite (.and (.cmp .In (.var 2) (.tupE (.aC (.cst (.str (S "*"))) (.aC (.cst (.str (S "/"))) .aN)))) (.cmp .Eq (.var 3) (.cst (.tup [(.str (S "number")),(.int 1)])))) (.seq (.ret (.tupE (.aC (.cst (.str (S "put"))) (.aC (.ix (.var 0) (.cst (.int 1))) (.aC (.var 1) (.aC (.cst (.str (S "+"))) (.aC (.cst (.tup [(.str (S "number")),(.int 0)])) .aN)))))))
 .skip) .skip)
 (.seq (.ret (.var 0))
 .skip))))))⟩
noncomputable def Zak:FD:=⟨1,1,(.seq (.ite (.call 73 (.aC (.ix (.var 0) (.cst (.int 2))) (.aC (.ix (.var 0) (.cst (.int 4))) .aN)) []) (.seq (.ret (.tupE (.aC (.cst (.str (S "put"))) (.aC (.ix (.var 0) (.cst (.int 1))) (.aC (.tupE (.aC (.cst (.str (S "number"))) (.aC (.call 3 (.aC (.ix (.ix (.var 0) (.cst (.int 2))) (.cst (.int 1))) (.aC (.ix (.var 0) (.cst (.int 3))) (.aC (.ix (.ix (.var 0) (.cst (.int 4))) (.cst (.int 1))) .aN))) []) .aN))) (.aC (.cst (.str (S "+"))) (.aC (.cst (.tup [(.str (S "number")),(.int 0)])) .aN)))))))
 .skip) .skip)
 (.seq (.set 0 (.call 75 (.aC (.var 0) .aN) []))
 (.seq (.ite (.cmp .In (.ix (.var 0) (.cst (.int 3))) (.tupE (.aC (.cst (.str (S "+"))) (.aC (.cst (.str (S "*"))) .aN)))) (.seq (.set 0 (.call 74 (.aC (.var 0) (.aC (.cst (.int 2)) (.aC (.cst (.int 4)) .aN))) []))
 .skip) .skip)
 (.seq (.set 0 (.call 76 (.aC (.var 0) .aN) []))
 (.seq (.ite (.cmp .Eq (.var 0) (.tupE (.aC (.cst (.str (S "put"))) (.aC (.ix (.var 0) (.cst (.int 1))) (.aC (.tupE (.aC (.cst (.str (S "name"))) (.aC (.ix (.var 0) (.cst (.int 1))) .aN))) (.aC (.cst (.str (S "+"))) (.aC (.cst (.tup [(.str (S "number")),(.int 0)])) .aN))))))) (.seq (.ret (.cst (.tup [(.str (S "skip"))])))
 .skip) .skip)
 (.seq (.ret (.var 0))
 .skip))))))⟩
noncomputable def Wk:FD:=⟨1,1,(.seq (.ite (.cmp .Eq (.ix (.var 0) (.cst (.int 2))) (.cst (.str (S ">")))) (.seq (.ret (.tupE (.aC (.cst (.str (S "if"))) (.aC (.ix (.var 0) (.cst (.int 3))) (.aC (.cst (.str (S "<"))) (.aC (.ix (.var 0) (.cst (.int 1))) (.aC (.ix (.var 0) (.cst (.int 4))) .aN)))))))
 .skip) .skip)
 (.seq (.ite (.cmp .Eq (.ix (.var 0) (.cst (.int 2))) (.cst (.str (S ">=")))) (.seq (.ret (.tupE (.aC (.cst (.str (S "if"))) (.aC (.ix (.var 0) (.cst (.int 3))) (.aC (.cst (.str (S "<="))) (.aC (.ix (.var 0) (.cst (.int 1))) (.aC (.ix (.var 0) (.cst (.int 4))) .aN)))))))
 .skip) .skip)
 (.seq (.ret (.var 0))
 .skip)))⟩
noncomputable def Qo:FD:=⟨1,1,(.seq (.ret (.or (.call 73 (.aC (.ix (.var 0) (.cst (.int 1))) (.aC (.ix (.var 0) (.cst (.int 3))) .aN)) []) (.cmp .Eq (.ix (.var 0) (.cst (.int 1))) (.ix (.var 0) (.cst (.int 3))))))
 .skip)⟩
noncomputable def Zb9:FD:=⟨1,2,(.seq (.set 1 (.call 4 (.aC (.ix (.ix (.var 0) (.cst (.int 1))) (.cst (.int 1))) (.aC (.ix (.var 0) (.cst (.int 2))) (.aC (.ix (.ix (.var 0) (.cst (.int 3))) (.cst (.int 1))) .aN))) []))
 (.seq (.ret (.ife (.var 1) (.tupE (.aC (.cst (.str (S "go"))) (.aC (.ix (.var 0) (.cst (.int 4))) .aN))) (.cst (.tup [(.str (S "skip"))]))))
 .skip))⟩
noncomputable def VF:FD:=⟨1,3,(.seq (.set 1 (.ix (.var 0) (.cst (.int 1))))
 (.seq (.set 2 (.ix (.var 0) (.cst (.int 3))))
 (.seq (.ite (.cmp .NotEq (.ix (.var 0) (.cst (.int 2))) (.cst (.str (S "<=")))) (.seq (.ret (.var 0))
 .skip) .skip)
 (.seq (.ite (.and (.cmp .Eq (.ix (.var 2) (.cst (.int 0))) (.cst (.str (S "number")))) (.cmp .Lt (.ix (.var 2) (.cst (.int 1))) (.cst (.int 999999999)))) (.seq (.ret (.tupE (.aC (.cst (.str (S "if"))) (.aC (.var 1) (.aC (.cst (.str (S "<"))) (.aC (.tupE (.aC (.cst (.str (S "number"))) (.aC (.bin .Add (.ix (.var 2) (.cst (.int 1))) (.cst (.int 1))) .aN))) (.aC (.ix (.var 0) (.cst (.int 4))) .aN)))))))
 .skip) .skip)
 (.seq (.ite (.and (.cmp .Eq (.ix (.var 1) (.cst (.int 0))) (.cst (.str (S "number")))) (.cmp .Gt (.ix (.var 1) (.cst (.int 1))) (.cst (.int (-1000000000))))) (.seq (.ret (.tupE (.aC (.cst (.str (S "if"))) (.aC (.tupE (.aC (.cst (.str (S "number"))) (.aC (.bin .Sub (.ix (.var 1) (.cst (.int 1))) (.cst (.int 1))) .aN))) (.aC (.cst (.str (S "<"))) (.aC (.var 2) (.aC (.ix (.var 0) (.cst (.int 4))) .aN)))))))
 .skip) .skip)
 (.seq (.ret (.var 0))
 .skip))))))⟩
noncomputable def Zb6:FD:=⟨2,2,(.seq (.ite (.cmp .Eq (.ix (.var 0) (.cst (.int 4))) (.bin .Add (.var 1) (.cst (.int 1)))) (.seq (.ret (.cst (.tup [(.str (S "skip"))])))
 .skip) .skip)
 (.seq (.set 0 (.call 78 (.aC (.var 0) .aN) []))
 (.seq (.ite (.call 79 (.aC (.var 0) .aN) []) (.seq (.ret (.call 80 (.aC (.var 0) .aN) []))
 .skip) .skip)
 (.seq (.ite (.cmp .In (.ix (.var 0) (.cst (.int 2))) (.tupE (.aC (.cst (.str (S "="))) (.aC (.cst (.str (S "!="))) .aN)))) (.seq (.set 0 (.call 74 (.aC (.var 0) (.aC (.cst (.int 1)) (.aC (.cst (.int 3)) .aN))) []))
 .skip) .skip)
 (.seq (.ret (.call 81 (.aC (.var 0) .aN) []))
 .skip)))))⟩
noncomputable def Zal:FD:=⟨2,2,(.seq (.ite (.cmp .Eq (.ix (.var 0) (.cst (.int 0))) (.cst (.str (S "put")))) (.seq (.ret (.call 77 (.aC (.var 0) .aN) []))
 .skip) .skip)
 (.seq (.ite (.cmp .Eq (.ix (.var 0) (.cst (.int 0))) (.cst (.str (S "if")))) (.seq (.ret (.call 82 (.aC (.var 0) (.aC (.var 1) .aN)) []))
 .skip) .skip)
 (.seq (.ite (.cmp .Eq (.var 0) (.tupE (.aC (.cst (.str (S "go"))) (.aC (.bin .Add (.var 1) (.cst (.int 1))) .aN)))) (.seq (.ret (.cst (.tup [(.str (S "skip"))])))
 .skip) .skip)
 (.seq (.ret (.var 0))
 .skip))))⟩
noncomputable def ZZ:CE:=(.comp false [1] (.var 0) (.cmp .In (.var 0) (.var 1)) (.cst (.bl true)))
noncomputable def c_is_made_of:FD:=⟨3,3,(.seq (.ret (.and (.and (.cmp .LtE (.cst (.int 1)) (.len (.var 0))) (.cmp .LtE (.len (.var 0)) (.var 2))) (.all ZZ)))
 .skip)⟩
noncomputable def c_is_name:FD:=⟨1,1,(.seq (.ret (.call 209 (.aC (.var 0) (.aC (.cst (.str (S "abcdefghijklmnopqrstuvwxyz"))) (.aC (.cst (.int 8)) .aN))) []))
 .skip)⟩
noncomputable def c_are_figures:FD:=⟨2,2,(.seq (.ret (.and (.call 209 (.aC (.var 0) (.aC (.cst (.str (S "0123456789"))) (.aC (.var 1) .aN))) []) (.or (.cmp .Eq (.var 0) (.cst (.str (S "0")))) (.cmp .NotEq (.ix (.var 0) (.cst (.int 0))) (.cst (.str (S "0")))))))
 .skip)⟩
noncomputable def c_number_in:FD:=⟨1,3,(.seq (.set 1 (.ife (.starts (.var 0) (.aC (.cst (.str (S "-"))) .aN)) (.slice (.var 0) (.part (.cst (.int 1))) .nop) (.var 0)))
 (.seq (.ite (.or (.cmp .Eq (.var 0) (.cst (.str (S "-0")))) (.not (.call 211 (.aC (.var 1) (.aC (.cst (.int 10)) .aN)) []))) (.seq (.ret (.cst .non))
 .skip) .skip)
 (.seq (.set 2 (.intOf (.var 0)))
 (.seq (.ret (.ife (.cmp .Eq (.call 0 (.aC (.var 2) .aN) []) (.var 2)) (.var 2) (.cst .non)))
 .skip))))⟩
noncomputable def c_place_in:FD:=⟨1,1,(.seq (.ret (.ife (.call 211 (.aC (.var 0) (.aC (.cst (.int 2)) .aN)) []) (.intOf (.var 0)) (.cst .non)))
 .skip)⟩
noncomputable def c_operand_shown:FD:=⟨1,1,(.seq (.ite (.cmp .Eq (.ix (.var 0) (.cst (.int 0))) (.cst (.str (S "name")))) (.seq (.ret (.ix (.cst (.str (S "abcdefghijklmnopqrstuvwxyz"))) (.ix (.var 0) (.cst (.int 1)))))
 .skip) .skip)
 (.seq (.ret (.strOf (.ix (.var 0) (.cst (.int 1)))))
 .skip))⟩
noncomputable def c_words_of:FD:=⟨1,1,(.seq (.ite (.cmp .Eq (.ix (.var 0) (.cst (.int 0))) (.cst (.str (S "put")))) (.seq (.ret (.lstE (.aC (.cst (.str (S "put"))) (.aC (.ix (.cst (.str (S "abcdefghijklmnopqrstuvwxyz"))) (.ix (.var 0) (.cst (.int 1)))) (.aC (.call 218 (.aC (.ix (.var 0) (.cst (.int 2))) .aN) []) (.aC (.ix (.var 0) (.cst (.int 3))) (.aC (.call 218 (.aC (.ix (.var 0) (.cst (.int 4))) .aN) []) .aN)))))))
 .skip) .skip)
 (.seq (.ite (.cmp .Eq (.ix (.var 0) (.cst (.int 0))) (.cst (.str (S "if")))) (.seq (.ret (.lstE (.aC (.cst (.str (S "if"))) (.aC (.call 218 (.aC (.ix (.var 0) (.cst (.int 1))) .aN) []) (.aC (.ix (.var 0) (.cst (.int 2))) (.aC (.call 218 (.aC (.ix (.var 0) (.cst (.int 3))) .aN) []) (.aC (.cst (.str (S "go"))) (.aC (.strOf (.ix (.var 0) (.cst (.int 4)))) .aN))))))))
 .skip) .skip)
 (.seq (.ite (.cmp .Eq (.ix (.var 0) (.cst (.int 0))) (.cst (.str (S "go")))) (.seq (.ret (.lstE (.aC (.cst (.str (S "go"))) (.aC (.strOf (.ix (.var 0) (.cst (.int 1)))) .aN))))
 .skip) .skip)
 (.seq (.ite (.cmp .Eq (.ix (.var 0) (.cst (.int 0))) (.cst (.str (S "tell")))) (.seq (.ret (.lstE (.aC (.cst (.str (S "tell"))) (.aC (.call 218 (.aC (.ix (.var 0) (.cst (.int 1))) .aN) []) .aN))))
 .skip) .skip)
 (.seq (.ret (.lstE (.aC (.cst (.str (S "skip"))) .aN)))
 .skip)))))⟩
noncomputable def WE:CE:=(.comp true [1] (.len (.var 1)) (.lstE (.aC (.cst (.str (S "take"))) (.aC (.ix (.cst (.str (S "abcdefghijklmnopqrstuvwxyz"))) (.var 0)) (.aC (.strOf (.ix (.ix (.var 1) (.var 0)) (.cst (.int 0)))) (.aC (.strOf (.ix (.ix (.var 1) (.var 0)) (.cst (.int 1)))) .aN))))) (.cst (.bl true)))
noncomputable def WF:CE:=(.comp false [] (.rng2 (.len (.var 1)) (.ix (.var 0) (.cst (.int 1)))) (.lstE (.aC (.cst (.str (S "name"))) (.aC (.ix (.cst (.str (S "abcdefghijklmnopqrstuvwxyz"))) (.var 0)) .aN))) (.cst (.bl true)))
noncomputable def WG:CE:=(.comp false [] (.ix (.var 0) (.cst (.int 2))) (.call 219 (.aC (.var 0) .aN) []) (.cst (.bl true)))
noncomputable def WH:CE:=(.comp false [] (.var 2) (.joinE (.cst (.str (S " "))) (.var 0)) (.cst (.bl true)))
noncomputable def c_shown:FD:=⟨1,3,(.seq (.set 1 (.ix (.var 0) (.cst (.int 0))))
 (.seq (.set 2 WE)
 (.seq (.ext 2 WF)
 (.seq (.ext 2 WG)
 (.seq (.ret (.joinE (.cst (.str (S "\n"))) WH))
 .skip)))))⟩
noncomputable def ZQ:CS:=(.seq (.set 10 (.call 19 (.aC (.call 27 (.aC (.var 0) (.aC (.bin .Add (.cst (.int 2)) (.bin .Mult (.cst (.int 2)) (.var 7))) .aN)) []) .aN) []))
 (.seq (.set 11 (.call 19 (.aC (.call 27 (.aC (.var 0) (.aC (.bin .Add (.cst (.int 3)) (.bin .Mult (.cst (.int 2)) (.var 7))) .aN)) []) .aN) []))
 (.seq (.app 9 (.tupE (.aC (.min (.var 10) (.var 11)) (.aC (.max (.var 10) (.var 11)) .aN))))
 .skip)))
noncomputable def ZR:CS:=(.seq (.set 8 (.call 27 (.aC (.var 0) (.aC (.bin .Add (.cst (.int 8)) (.bin .Mult (.cst (.int 2)) (.var 7))) .aN)) []))
 (.seq (.app 6 (.call 29 (.aC (.var 8) (.aC (.call 27 (.aC (.var 0) (.aC (.bin .Add (.cst (.int 9)) (.bin .Mult (.cst (.int 2)) (.var 7))) .aN)) []) (.aC (.var 4) (.aC (.var 5) .aN)))) []))
 .skip))
noncomputable def c__law_program_k11:FD:=⟨2,12,(.seq (.set 2 (.bin .Mod (.call 27 (.aC (.var 0) (.aC (.cst (.int 0)) .aN)) []) (.cst (.int 2147483647))))
 (.seq (.set 3 (.bin .Mod (.var 2) (.cst (.int 4))))
 (.seq (.set 4 (.bin .Add (.var 3) (.bin .Mod (.bin .Mod (.bin .Mult (.var 2) (.cst (.int 48271))) (.cst (.int 2147483647))) (.bin .Sub (.cst (.int 6)) (.var 3)))))
 (.seq (.set 5 (.bin .Mod (.call 27 (.aC (.var 0) (.aC (.cst (.int 1)) .aN)) []) (.bin .Add (.var 1) (.cst (.int 1)))))
 (.seq (.set 6 (.lstE .aN))
 (.seq (.for1 7 true (.var 5) ZR)
 (.seq (.set 9 (.lstE .aN))
 (.seq (.for1 7 true (.var 3) ZQ)
 (.seq (.ret (.tupE (.aC (.tOf (.var 9)) (.aC (.var 4) (.aC (.tOf (.var 6)) .aN)))))
 .skip)))))))))⟩
noncomputable def c_fits:FD:=⟨2,2,(.seq (.ite (.cmp .Eq (.var 1) (.cst (.str (S "name")))) (.seq (.ret (.call 210 (.aC (.var 0) .aN) []))
 .skip) .skip)
 (.seq (.ite (.cmp .Eq (.var 1) (.cst (.str (S "number")))) (.seq (.ret (.cmp .IsNot (.call 212 (.aC (.var 0) .aN) []) (.cst .non)))
 .skip) .skip)
 (.seq (.ite (.cmp .Eq (.var 1) (.cst (.str (S "operand")))) (.seq (.ret (.or (.call 210 (.aC (.var 0) .aN) []) (.cmp .IsNot (.call 212 (.aC (.var 0) .aN) []) (.cst .non))))
 .skip) .skip)
 (.seq (.ite (.cmp .Eq (.var 1) (.cst (.str (S "put sign")))) (.seq (.ret (.cmp .In (.var 0) (.cst (.kt [(S "+"),(S "-"),(S "*"),(S "/"),(S "mod")]))))
 .skip) .skip)
 (.seq (.ite (.cmp .Eq (.var 1) (.cst (.str (S "if sign")))) (.seq (.ret (.cmp .In (.var 0) (.cst (.kt [(S "<"),(S "<="),(S "="),(S ">="),(S ">"),(S "!=")]))))
 .skip) .skip)
 (.seq (.ite (.cmp .Eq (.var 1) (.cst (.str (S "place")))) (.seq (.ret (.cmp .IsNot (.call 213 (.aC (.var 0) .aN) []) (.cst .non)))
 .skip) .skip)
 (.seq (.ret (.cmp .Eq (.var 0) (.var 1)))
 .skip)))))))⟩
noncomputable def Xw:CE:=(.comp2 [] (.aC (.slice (.var 0) (.part (.cst (.int 1))) .nop) (.aC (.var 1) .aN)) (.call 232 (.aC (.var 0) (.aC (.var 1) .aN)) []) (.cst (.bl true)))
noncomputable def c_is_line:FD:=⟨1,2,(.seq (.ite (.cmp .NotIn (.ix (.var 0) (.cst (.int 0))) (.cst (.kt [(S "take"),(S "name"),(S "put"),(S "if"),(S "go"),(S "tell"),(S "skip")]))) (.seq (.ret (.cst (.bl false)))
 .skip) .skip)
 (.seq (.set 1 (.look [(S "take"),(S "name"),(S "put"),(S "if"),(S "go"),(S "tell"),(S "skip")] [(.tup [(.str (S "name")),(.str (S "number")),(.str (S "number"))]),(.tup [(.str (S "name"))]),(.tup [(.str (S "name")),(.str (S "operand")),(.str (S "put sign")),(.str (S "operand"))]),(.tup [(.str (S "operand")),(.str (S "if sign")),(.str (S "operand")),(.str (S "go")),(.str (S "place"))]),(.tup [(.str (S "place"))]),(.tup [(.str (S "operand"))]),(.tup [])] (.ix (.var 0) (.cst (.int 0)))))
 (.seq (.ite (.or (.cmp .NotEq (.len (.var 0)) (.bin .Add (.cst (.int 1)) (.len (.var 1)))) (.not (.all Xw))) (.seq (.ret (.cst (.bl false)))
 .skip) .skip)
 (.seq (.ret (.or (.cmp .NotEq (.ix (.var 0) (.cst (.int 0))) (.cst (.str (S "take")))) (.cmp .LtE (.call 212 (.aC (.ix (.var 0) (.cst (.int 2))) .aN) []) (.call 212 (.aC (.ix (.var 0) (.cst (.int 3))) .aN) []))))
 .skip))))⟩
noncomputable def ZG:CS:=(.seq (.ite (.and (.cmp .In (.var 3) (.tupE (.aC (.cst (.str (S "name"))) (.aC (.cst (.str (S "operand"))) .aN)))) (.call 210 (.aC (.var 2) .aN) [])) (.seq (.app 1 (.var 2))
 .skip) .skip)
 .skip)
noncomputable def c_names_read:FD:=⟨1,4,(.seq (.set 1 (.lstE .aN))
 (.seq (.forP 2 3 (.aC (.slice (.var 0) (.part (.cst (.int 1))) .nop) (.aC (.look [(S "take"),(S "name"),(S "put"),(S "if"),(S "go"),(S "tell"),(S "skip")] [(.tup [(.str (S "name")),(.str (S "number")),(.str (S "number"))]),(.tup [(.str (S "name"))]),(.tup [(.str (S "name")),(.str (S "operand")),(.str (S "put sign")),(.str (S "operand"))]),(.tup [(.str (S "operand")),(.str (S "if sign")),(.str (S "operand")),(.str (S "go")),(.str (S "place"))]),(.tup [(.str (S "place"))]),(.tup [(.str (S "operand"))]),(.tup [])] (.ix (.var 0) (.cst (.int 0)))) .aN)) ZG)
 (.seq (.ret (.var 1))
 .skip)))⟩
noncomputable def c_operand_in:FD:=⟨2,2,(.seq (.ite (.call 210 (.aC (.var 0) .aN) []) (.seq (.ret (.tupE (.aC (.cst (.str (S "name"))) (.aC (.ix (.var 1) (.var 0)) .aN))))
 .skip) .skip)
 (.seq (.ret (.tupE (.aC (.cst (.str (S "number"))) (.aC (.call 212 (.aC (.var 0) .aN) []) .aN))))
 .skip))⟩
noncomputable def YJ:CS:=(.seq (.ite (.cmp .Eq (.var 4) (.cst (.str (S "name")))) (.seq (.app 2 (.ix (.var 1) (.var 3)))
 .skip) (.seq (.ite (.cmp .Eq (.var 4) (.cst (.str (S "operand")))) (.seq (.app 2 (.call 235 (.aC (.var 3) (.aC (.var 1) .aN)) []))
 .skip) (.seq (.ite (.cmp .Eq (.var 4) (.cst (.str (S "place")))) (.seq (.app 2 (.call 213 (.aC (.var 3) .aN) []))
 .skip) (.seq (.ite (.cmp .NotEq (.var 4) (.cst (.str (S "go")))) (.seq (.app 2 (.var 3))
 .skip) .skip)
 .skip))
 .skip))
 .skip))
 .skip)
noncomputable def c_row_of:FD:=⟨2,5,(.seq (.set 2 (.lstE (.aC (.ix (.var 0) (.cst (.int 0))) .aN)))
 (.seq (.forP 3 4 (.aC (.slice (.var 0) (.part (.cst (.int 1))) .nop) (.aC (.look [(S "take"),(S "name"),(S "put"),(S "if"),(S "go"),(S "tell"),(S "skip")] [(.tup [(.str (S "name")),(.str (S "number")),(.str (S "number"))]),(.tup [(.str (S "name"))]),(.tup [(.str (S "name")),(.str (S "operand")),(.str (S "put sign")),(.str (S "operand"))]),(.tup [(.str (S "operand")),(.str (S "if sign")),(.str (S "operand")),(.str (S "go")),(.str (S "place"))]),(.tup [(.str (S "place"))]),(.tup [(.str (S "operand"))]),(.tup [])] (.ix (.var 0) (.cst (.int 0)))) .aN)) YJ)
 (.seq (.ret (.tOf (.var 2)))
 .skip)))⟩
noncomputable def c_Draft___init__:FD:=⟨1,1,(.seq (.put 0 (.cst (.str (S "takes"))) (.lstE .aN))
 (.seq (.put 0 (.cst (.str (S "names"))) .dnew)
 (.seq (.put 0 (.cst (.str (S "rows"))) (.lstE .aN))
 (.seq (.put 0 (.cst (.str (S "aims"))) (.lstE .aN))
 .skip))))⟩
noncomputable def c_Draft_has_room:FD:=⟨2,3,(.seq (.ite (.cmp .Eq (.var 1) (.cst (.str (S "take")))) (.seq (.set 2 (.and (.cmp .Eq (.len (.dict [(S "names")] (.var 0))) (.len (.dict [(S "takes")] (.var 0)))) (.cmp .Eq (.len (.dict [(S "rows")] (.var 0))) (.cst (.int 0)))))
 (.seq (.ret (.and (.var 2) (.cmp .Lt (.len (.dict [(S "takes")] (.var 0))) (.cst (.int 3)))))
 .skip)) .skip)
 (.seq (.ite (.cmp .Eq (.var 1) (.cst (.str (S "name")))) (.seq (.ret (.and (.cmp .Eq (.len (.dict [(S "rows")] (.var 0))) (.cst (.int 0))) (.cmp .Lt (.len (.dict [(S "names")] (.var 0))) (.cst (.int 5)))))
 .skip) .skip)
 (.seq (.ret (.cmp .Lt (.len (.dict [(S "rows")] (.var 0))) (.cst (.int 12))))
 .skip)))⟩
noncomputable def c_Draft_read_line:FD:=⟨3,3,(.seq (.ite (.or (.not (.call 233 (.aC (.var 1) .aN) [])) (.not (.meth [(237,239)] (.var 0) (.aC (.ix (.var 1) (.cst (.int 0))) .aN)))) (.seq .stop
 .skip) .skip)
 (.seq (.ite (.cmp .In (.ix (.var 1) (.cst (.int 0))) (.tupE (.aC (.cst (.str (S "take"))) (.aC (.cst (.str (S "name"))) .aN)))) (.seq (.act (.meth [(237,241)] (.var 0) (.aC (.var 1) (.aC (.var 2) .aN))))
 .skip) (.seq (.act (.meth [(237,242)] (.var 0) (.aC (.var 1) (.aC (.var 2) .aN))))
 .skip))
 .skip))⟩
noncomputable def c_Draft_read_name:FD:=⟨3,3,(.seq (.ite (.cmp .In (.ix (.var 1) (.cst (.int 1))) (.dict [(S "names")] (.var 0))) (.seq .stop
 .skip) .skip)
 (.seq (.dput 0 (.dict [(S "names")] (.var 0)) (.ix (.var 1) (.cst (.int 1))) (.len (.dict [(S "names")] (.var 0))))
 (.seq (.ite (.cmp .Eq (.ix (.var 1) (.cst (.int 0))) (.cst (.str (S "take")))) (.seq (.app2 (.dict [(S "takes")] (.var 0)) (.tupE (.aC (.call 212 (.aC (.ix (.var 1) (.cst (.int 2))) .aN) []) (.aC (.call 212 (.aC (.ix (.var 1) (.cst (.int 3))) .aN) []) .aN))))
 .skip) .skip)
 .skip)))⟩
noncomputable def ZL:CS:=(.seq (.ite (.cmp .NotIn (.var 3) (.dict [(S "names")] (.var 0))) (.seq .stop
 .skip) .skip)
 .skip)
noncomputable def c_Draft_read_row:FD:=⟨3,5,(.seq (.for1 3 false (.call 234 (.aC (.var 1) .aN) []) ZL)
 (.seq (.set 4 (.call 236 (.aC (.var 1) (.aC (.dict [(S "names")] (.var 0)) .aN)) []))
 (.seq (.app2 (.dict [(S "rows")] (.var 0)) (.var 4))
 (.seq (.ite (.cmp .In (.ix (.var 4) (.cst (.int 0))) (.tupE (.aC (.cst (.str (S "if"))) (.aC (.cst (.str (S "go"))) .aN)))) (.seq (.app2 (.dict [(S "aims")] (.var 0)) (.tupE (.aC (.var 2) (.aC (.ix (.var 4) (.neg (.cst (.int 1)))) .aN))))
 .skip) .skip)
 .skip))))⟩
noncomputable def Zx:CS:=(.seq (.ite (.cmp .Gt (.var 2) (.len (.dict [(S "rows")] (.var 0)))) (.seq .stop
 .skip) .skip)
 .skip)
noncomputable def c_Draft_check_places:FD:=⟨1,3,(.seq (.for2 1 2 (.dict [(S "aims")] (.var 0)) Zx)
 .skip)⟩
noncomputable def c_Draft_told:FD:=⟨1,1,(.seq (.ret (.tupE (.aC (.tOf (.dict [(S "takes")] (.var 0))) (.aC (.len (.dict [(S "names")] (.var 0))) (.aC (.tOf (.dict [(S "rows")] (.var 0))) .aN)))))
 .skip)⟩
noncomputable def Ys:CS:=(.seq (.ite (.and (.cmp .NotEq (.var 3) (.cst (.str (S "")))) (.not (.starts (.var 3) (.aC (.cst (.str (S "#"))) .aN)))) (.seq (.act (.meth [(237,240)] (.var 1) (.aC (.tix (.var 3) (.aC (.cst (.str (S " "))) .aN)) (.aC (.var 2) .aN))))
 .skip) .skip)
 .skip)
noncomputable def c_read:FD:=⟨1,4,(.seq (.set 1 (.isc [237,238] .aN))
 (.seq (.forE 2 3 (.tix (.var 0) (.aC (.cst (.str (S "\n"))) .aN)) Ys)
 (.seq (.act (.meth [(237,243)] (.var 1) .aN))
 (.seq (.ret (.meth [(237,244)] (.var 1) .aN))
 .skip))))⟩
noncomputable def Xv:CE:=(.comp false [] (.var 0) (.call 246 (.aC (.var 0) .aN) []) (.cst (.bl true)))
noncomputable def c__law_kinds:FD:=⟨1,1,(.seq (.ite (.isi .tuple (.var 0)) (.seq (.ret Xv)
 .skip) .skip)
 (.seq (.ite (.isi .str (.var 0)) (.seq (.ret (.cst (.str (S "text"))))
 .skip) .skip)
 (.seq (.ret (.ix (.lstE (.aC (.cst (.str (S "other"))) (.aC (.cst (.str (S "whole"))) .aN))) (.intOf (.call 17 (.aC (.var 0) .aN) []))))
 .skip)))⟩
noncomputable def Ye:CS:=(.seq (.ite (.cmp .Eq (.ix (.var 3) (.cst (.int 0))) (.cst (.str (S "if")))) (.seq (.set 3 (.bin .Add (.slice (.var 3) .nop (.part (.cst (.int 4)))) (.tupE (.aC (.min (.ix (.var 3) (.cst (.int 4))) (.var 1)) .aN))))
 .skip) .skip)
 (.seq (.ite (.cmp .Eq (.ix (.var 3) (.cst (.int 0))) (.cst (.str (S "go")))) (.seq (.set 3 (.tupE (.aC (.cst (.str (S "go"))) (.aC (.min (.ix (.var 3) (.cst (.int 1))) (.var 1)) .aN))))
 .skip) .skip)
 (.seq (.app 2 (.var 3))
 .skip)))
noncomputable def c__law_cut:FD:=⟨2,4,(.seq (.set 2 (.lstE .aN))
 (.seq (.for1 3 false (.slice (.ix (.var 0) (.cst (.int 2))) .nop (.part (.var 1))) Ye)
 (.seq (.ret (.bin .Add (.slice (.var 0) .nop (.part (.cst (.int 2)))) (.tupE (.aC (.tOf (.var 2)) .aN))))
 .skip)))⟩
noncomputable def c__law_read:FD:=⟨1,2,(.seq (.set 1 (.cst .non))
 (.seq (.seq (.set 1 (.call 245 (.aC (.var 0) .aN) []))
 .skip)
 (.seq (.ret (.var 1))
 .skip)))⟩
noncomputable def Yb:CS:=(.seq (.set 4 (.call 220 (.aC (.var 3) .aN) []))
 (.seq (.ite (.not (.isi .str (.var 4))) (.seq (.ret (.cst (.bl false)))
 .skip) .skip)
 (.seq (.set 5 (.call 248 (.aC (.var 4) .aN) []))
 (.seq (.ite (.or (.cmp .NotEq (.var 5) (.var 3)) (.cmp .NotEq (.call 246 (.aC (.var 5) .aN) []) (.call 246 (.aC (.var 3) .aN) []))) (.seq (.ret (.cst (.bl false)))
 .skip) .skip)
 .skip))))
noncomputable def c_law_k12:FD:=⟨1,6,(.seq (.set 1 (.call 30 (.aC (.var 0) (.aC (.cst (.int 12)) .aN)) []))
 (.seq (.set 2 (.bin .Mod (.call 27 (.aC (.var 0) (.aC (.cst (.int 32)) .aN)) []) (.bin .Add (.len (.ix (.var 1) (.cst (.int 2)))) (.cst (.int 1)))))
 (.seq (.for1 3 false (.lstE (.aC (.var 1) (.aC (.call 247 (.aC (.var 1) (.aC (.var 2) .aN)) []) (.aC (.var 1) .aN)))) Yb)
 (.seq (.ret (.cst (.bl true)))
 .skip))))⟩
end Dp

noncomputable section
namespace Dp
open PySem
def YF(x:Int):Int:=(x+1000000000) % 2000000000 - 1000000000
def Sm(a:Int):Prop:=-1000000000<=a/\a<=999999999
instance {a:Int}:Decidable (Sm a):=inferInstanceAs (Decidable (_/\_))
theorem Sm.lim{a:Int}(h:Sm a):ZE a=true:=Vn (by have:=h.1;omega) (by have:=h.2;omega)
structure NumT(T:Nat->Option FD):Prop where
 t0:T 0=some c_around
 t1:T 1=some Zb5
 t2:T 2=some Jh
 t3:T 3=some Zdo
section
variable {T:Nat->Ot FD}{n:Nat}{a b x:Int}{s:Str}
theorem Zc4(h:T 0=some c_around):Zj T (n+1) 0 [.int x]=some (.int (YF x)):=by
 rw[Zt (f:=c_around) h rfl rfl]
 (rw[show ZN c_around.body=[] from rfl];simp[c_around,YF])
end
end Dp


namespace Dp
open PySem
def WV(c:Int):Int:=if c % 3=0 then ([-1000000000,-999999999,-2,-1,0,1,2,999999999]:Li Int).getD (c / 3 % 8).toNat 0 else if c % 3=1 then c / 3 % 13 - 6 else c / 3 * 48271 % 2000000000 - 1000000000
theorem r8(c:Int):c % 8=0\/c % 8=1\/c % 8=2\/c % 8=3\/c % 8=4\/c % 8=5\/c % 8=6\/c % 8=7:=by omega
theorem JX(c:Int):Sm (WV c):=by
 unfold WV;split
 ·rcases r8 (c / 3) with h|h|h|h|h|h|h|h<;>rw[h]<;>exact⟨by decide,by decide⟩
 ·split
  ·exact⟨by omega,by omega⟩
  ·exact⟨by omega,by omega⟩
section
variable {T:Nat->Ot FD}{n:Nat}{a b c x:Int}{s:Str}
theorem Za6(h:T 17=some c__law_whole):Zj T (n+1) 17 [.int x]=some (.bl true):=by
 rw[Zt (f:=c__law_whole) h rfl rfl]
 (rw[show ZN c__law_whole.body=[] from rfl];simp[c__law_whole])
theorem Za5(h:T 19=some c__law_small_by):Zj T (n+1) 19 [.int c]=some (.int (WV c)):=by
 rw[Zt (f:=c__law_small_by) h rfl rfl];unfold WV
 (rw[show ZN c__law_small_by.body=[] from rfl];simp[c__law_small_by,ZE])
 split
 ·rcases r8 (c / 3) with h|h|h|h|h|h|h|h<;>rw[h]<;>simp
 ·split<;>rfl
end
end Dp


namespace Dp
open PySem
inductive Opd where
 |name (i:Nat)|num (c:Int)
inductive Row where
 |put (x:Nat) (y:Opd) (s:Str) (z:Opd)|ifr (y:Opd) (s:Str) (z:Opd) (t:Nat)|go (t:Nat)|tell (y:Opd)|skip
def Ya:Opd->P
 |.name i=>.tup [.str (S "name"),.int (i:Int)]
 |.num c=>.tup [.str (S "number"),.int c]
def Zk:Row->P
 |.put x y s z=>.tup [.str (S "put"),.int (x:Int),Ya y,.str s,Ya z]
 |.ifr y s z t=>.tup [.str (S "if"),Ya y,.str s,Ya z,.int (t:Int)]
 |.go t=>.tup [.str (S "go"),.int (t:Int)]
 |.tell y=>.tup [.str (S "tell"),Ya y]
 |.skip=>.tup [.str (S "skip")]
structure Prog where
 takes:P
 many:Nat
 rows:List Row
def Zn(p:Prog):P:=.tup [p.takes,.int (p.many:Int),.tup (p.rows.map Zk)]
abbrev StM:=Nat×Li Int
inductive Out where
 |none|told (v:Int)|late
def Xi(m:Nat):Opd->Prop
 |.name i=>i < m
 |.num c=>Sm c
def YU(m n:Nat):Row->Prop
 |.put x y _ z=>x < m/\Xi m y/\Xi m z
 |.ifr y _ z t=>Xi m y/\Xi m z/\t<=n
 |.go t=>t<=n
 |.tell y=>Xi m y
 |.skip=>True
structure ProgOk(p:Prog):Prop where
 rows:∀ r∈p.rows,YU p.many p.rows.length r
 many:p.many<=100
 size:p.rows.length<=100
structure VsOk(m:Nat)(vs:List Int):Prop where
 len:vs.length=m
 sm:∀ v∈vs,Sm v
inductive Thing where
 |st (s:StM)|out (o:Out)
structure StOkM(p:Prog)(s:StM):Prop where
 k:s.1<=p.rows.length
 vs:VsOk p.many s.2
structure MoveT(T:Nat->Option FD):Prop where
 num:NumT T
 t4:T 4=some Zbe
 t5:T 5=some ZfV
 t7:T 7=some Zdk
 t8:T 8=some Vf
 t9:T 9=some VG
 t10:T 10=some ZfT
 t42:T 42=some VH
structure MachT(T:Nat->Option FD):Prop extends MoveT T where
 t6:T 6=some ZfS
section
variable {T:Nat->Ot FD}{n:Nat}{p:Prog}{s:StM}{vs:Li Int}{o:Opd}{r:Row}{k m:Nat}{ins:Li Int}
theorem ZiK{xs:Li P}{x:Nat}(h:x<=xs.length):UB xs Option.none (some (x:Int))=xs.take x:=by
 unfold UB;have e:sIx xs.length xs.length (some (x:Int))=x:=by
  show(if (x:Int) < 0 then ((x:Int)+(xs.length:Int)).toNat else Nat.min ((x:Int)).toNat xs.length)=_
  rw[if_neg (by omega)]
  exact Nat.min_eq_left h
 rw[e];rfl
theorem Yt{F:PFn}{M:Li Nat}{c e:CE}{r:CS}{π:Zp}{v:P}(h:pe F c π=some (.bl true))(he:pe F e π=some v):px F M (.seq (.ite c (.seq (.ret e) .skip) .skip) r) π=some (.rt v):=by
 rw[Zi,ZI,h,Zu,if_pos rfl,Zi,ZeW,he];rfl
theorem ZK{F:PFn}{M:Li Nat}{c:CE}{a r:CS}{π:Zp}(h:pe F c π=some (.bl false)):px F M (.seq (.ite c a .skip) r) π=px F M r π:=by
 rw[Zi,ZI,h,Zu,if_neg Bf,Zo,Zg]
theorem Zdd{F:PFn}{k:Nat}{e:CE}{r:CS}{π:Zp}{v:P}(h:pe F e π=some v):px F [] (.seq (.set k e) r) π=px F [] r (ZM π k v):=by
 rw[Zi,Zg5,h,Ob,Zg]
theorem Yj{F:PFn}{M:Li Nat}{e:CE}{r:CS}{π:Zp}{v:P}(h:pe F e π=some v):px F M (.seq (.ret e) r) π=some (.rt v):=by
 rw[Zi,ZeW,h];rfl
structure TrailT(T:Nat->Option FD):Prop extends MachT T where
 t11:T 11=some Qn
 t12:T 12=some ZfU
structure SeenT(T:Nat->Option FD):Prop extends TrailT T where
 t13:T 13=some Zb7
 t14:T 14=some Uz
 t15:T 15=some ZiE
 t43:T 43=some Zdl
 t44:T 44=some Zb8
end
end Dp


namespace Dp
open PySem
def Zdw(ns:Li Int)(k:Nat):Int:=if k < ns.length then ns.getD k 0 else if ns=[] then ((k:Int) * k+7) * 48271 % 2147483629 else (ns.getD 0 0 % 2147483647+7) * ((k:Int) * k+48271) % 2147483629
def Uf(x:Int)(m:Nat):Opd:=if 0 < m/\0 < x % 3 then .name (x / 3 % (m:Int)).toNat else .num (WV (x / 3))
theorem Ug(x:Int)(m:Nat):Xi m (Uf x m):=by
 unfold Uf;split
 ·rename_i h
  show(x / 3 % (m:Int)).toNat < m;have:=Int.emod_lt_of_pos (x / 3) (show 0 < (m:Int) by omega)
  omega
 ·exact JX _
def ZhA(i:Int):Str:=([S "+",S "-",S "*",S "/",S "mod"]:Li Str).getD i.toNat (S "+")
def Zhy(i:Int):Str:=([S "<",S "<=",S "=",S ">=",S ">",S "!="]:Li Str).getD i.toNat (S "<")
def U9(c:Int)(size:Nat):Nat:=((c+1) * 742938285 % 2147483647 % ((size:Int)+1)).toNat
def ZaR(c d:Int)(m size:Nat):Row:=
 if c % 8 < 3/\0 < m then .put ((d+3) * 950706376 % 2147483647 % (m:Int)).toNat (Uf (d * 48271 % 2147483647) m) (ZhA (c * 48271 % 2147483647 % 5)) (Uf ((d+5) * 1226874159 % 2147483647) m)
 else if c % 8 < 6 then .ifr (Uf (d * 48271 % 2147483647) m) (Zhy (c * 48271 % 2147483647 % 6)) (Uf ((d+5) * 1226874159 % 2147483647) m) (U9 c size)
 else if c % 8=6 then (if c * 48271 % 2147483647 % 2=0 then .go (U9 c size) else .skip)
 else .tell (Uf (d * 48271 % 2147483647) m)
theorem JT(c:Int)(size:Nat):U9 c size<=size:=by
 unfold U9;have:=Int.emod_lt_of_pos ((c+1) * 742938285 % 2147483647) (show 0 < (size:Int)+1 by omega)
 omega
theorem ZjE(c d:Int)(m size:Nat):YU m size (ZaR c d m size):=by
 unfold ZaR;split
 ·rename_i h
  refine⟨?_,Ug _ _,Ug _ _⟩;have:=Int.emod_lt_of_pos ((d+3) * 950706376 % 2147483647) (show 0 < (m:Int) by omega)
  omega
 ·split
  ·exact⟨Ug _ _,Ug _ _,JT _ _⟩
  ·split
   ·split
    ·exact JT _ _
    ·trivial
   ·exact Ug _ _
structure ProgT(T:Nat->Option FD):Prop where
 t19:T 19=some c__law_small_by
 t27:T 27=some c__law_cell_at
 t28:T 28=some c__law_operand
 t29:T 29=some c__law_row
 t30:T 30=some VC
section
variable {T:Nat->Ot FD}{n:Nat}{ns:Li Int}{k m size:Nat}{x c d:Int}
theorem ZiG{F:PFn}(h:k < ns.length):px F [] c__law_cell_at.body [some (.lst false (ns.map .int)),some (.int (k:Int))]=some (.rt (.int (ns.getD k 0))):=by
 have e:(ns.map P.int)[k]?=some (.int (ns.getD k 0)):=by
  rw[List.getElem?_map,List.getD_eq_getElem?_getD,Lg h];rfl
 have h':(k:Int) < (ns.length:Int):=by omega
 simp[c__law_cell_at,h',h,e]
theorem ZiH{F:PFn}{j:Int}(hj:¬j < 0)(lk:ZE j=true):px F [] c__law_cell_at.body [some (.lst false []),some (.int j)]=some (.rt (.int ((j * j+7) * 48271 % 2147483629))):=by
 have l2:ZE 48271=true:=by decide
 simp[c__law_cell_at,lk,l2,hj]
theorem ZiI{F:PFn}{j a:Int}{xs:Li P}(hj:¬j < (xs.length:Int)+1)(lk:ZE j=true)(la:ZE (a % 2147483647+7)=true):px F [] c__law_cell_at.body [some (.lst false (.int a :: xs)),some (.int j)]=some (.rt (.int ((a % 2147483647+7) * (j * j+48271) % 2147483629))):=by
 simp[c__law_cell_at,lk,la,hj]
theorem ZbA(hk:k<=100000):ZE (k:Int)=true:=Vn (by omega) (by omega)
theorem Zcj{F:PFn}(hk:k<=100000):px F [] c__law_cell_at.body [some (.lst false (ns.map .int)),some (.int (k:Int))]=some (.rt (.int (Zdw ns k))):=by
 unfold Zdw;by_cases h:k < ns.length
 ·rw[if_pos h];exact ZiG h
 ·rw[if_neg h]
  cases ns with
  |nil=>exact ZiH (by omega) (ZbA hk)
  |cons a ns=>
   rw[if_neg (by intro z;cases z)]
   have q0:=Int.emod_nonneg a (show(2147483647:Int)≠0 by omega)
   have q1:=Int.emod_lt_of_pos a (show(0:Int) < 2147483647 by omega)
   exact ZiI (xs:=ns.map P.int) (by simp at h ⊢;omega) (ZbA hk) (Vn (by omega) (by omega))
theorem Zc5(h:T 27=some c__law_cell_at)(hk:k<=100000):Zj T (n+1) 27 [.lst false (ns.map .int),.int (k:Int)]=some (.int (Zdw ns k)):=by
 rw[Zt (f:=c__law_cell_at) h rfl rfl];show Yd (px (Zj T n) [] c__law_cell_at.body [some (.lst false (ns.map .int)),some (.int (k:Int))])=_;rw[Zcj hk];rfl
theorem ZeE{F:PFn}(hF:∀ c,F 19 [.int c]=some (.int (WV c)))(hm:m<=100):px F [] c__law_operand.body [some (.int x),some (.int (m:Int))]=some (.rt (Ya (Uf x m))):=by
 unfold Uf;by_cases h1:0 < m
 ·have h1':(0:Int) < (m:Int):=by omega
  by_cases h2:0 < x % 3
  ·have q:=Int.emod_nonneg (x / 3) (show(m:Int)≠0 by omega)
   have e:((x / 3 % (m:Int)).toNat:Int)=x / 3 % (m:Int):=by omega
   rw[if_pos ⟨h1,h2⟩];simp[c__law_operand,h1,h2,Ya,e]
  ·rw[if_neg (fun z=>h2 z.2)]
   simp[c__law_operand,h1,h2,Ya,hF]
 ·rw[if_neg (fun z=>h1 z.1)]
  simp[c__law_operand,h1,Ya,hF]
theorem ZhB(i:Int):atP [.str (S "+"),.str (S "-"),.str (S "*"),.str (S "/"),.str (S "mod")] (i % 5)=some (.str (ZhA (i % 5))):=by
 have h:i % 5=0\/i % 5=1\/i % 5=2\/i % 5=3\/i % 5=4:=by omega
 rcases h with h|h|h|h|h<;>rw[h]<;>rfl
theorem Zhz(i:Int):atP [.str (S "<"),.str (S "<="),.str (S "="),.str (S ">="),.str (S ">"),.str (S "!=")] (i % 6)=some (.str (Zhy (i % 6))):=by
 have h:i % 6=0\/i % 6=1\/i % 6=2\/i % 6=3\/i % 6=4\/i % 6=5:=by omega
 rcases h with h|h|h|h|h|h<;>rw[h]<;>rfl
theorem Ze0{F:PFn}(hF:∀ x,F 28 [.int x,.int (m:Int)]=some (Ya (Uf x m)))(hs:size<=100):px F [] c__law_row.body [some (.int c),some (.int d),some (.int (m:Int)),some (.int (size:Int)),none,none,none,none,none]=some (.rt (Zk (ZaR c d m size))):=by
 have hs0:(0:Int) < (size:Int)+1:=by omega
 have q:=Int.emod_nonneg ((c+1) * 742938285 % 2147483647) (show(size:Int)+1≠0 by omega)
 have e7:(c+1) * 742938285 % 2147483647 % ((size:Int)+1)=((U9 c size:Nat):Int):=by unfold U9;omega
 have sp:=ZhB (c * 48271 % 2147483647);have si:=Zhz (c * 48271 % 2147483647);simp only[S]at sp si;unfold ZaR;by_cases h1:c % 8 < 3
 ·by_cases h2:0 < m
  ·have h2':(0:Int) < (m:Int):=by omega
   have q2:=Int.emod_nonneg ((d+3) * 950706376 % 2147483647) (show(m:Int)≠0 by omega)
   have e8:(((d+3) * 950706376 % 2147483647 % (m:Int)).toNat:Int)=(d+3) * 950706376 % 2147483647 % (m:Int):=by omega
   rw[if_pos ⟨h1,h2⟩];simp[c__law_row,ZE,hF,hs0,e7,h1,h2,sp,Zk,e8]
  ·rw[if_neg (fun z=>h2 z.2),if_pos (by omega)]
   have h6:c % 8 < 6:=by omega
   simp[c__law_row,ZE,hF,hs0,e7,h1,h2,h6,si,Zk]
 ·rw[if_neg (fun z=>h1 z.1)]
  by_cases h6:c % 8 < 6
  ·rw[if_pos h6]
   simp[c__law_row,ZE,hF,hs0,e7,h1,h6,si,Zk]
  ·rw[if_neg h6]
   by_cases h7:c % 8=6
   ·rw[if_pos h7]
    have r2:c * 48271 % 2147483647 % 2=0\/c * 48271 % 2147483647 % 2=1:=by omega
    rcases r2 with h|h
    ·simp[c__law_row,ZE,hF,hs0,e7,h7,h,Zk]
    ·simp[c__law_row,ZE,hF,hs0,e7,h7,h,Zk]
   ·rw[if_neg h7]
    simp[c__law_row,ZE,hF,hs0,e7,h1,h6,h7,Zk]
end
end Dp


namespace Dp
open PySem
structure MadeT(T:Nat->Option FD):Prop where
 num:NumT T
 t4:T 4=some Zbe
 t42:T 42=some VH
 t73:T 73=some Uy
 t74:T 74=some VE
 t75:T 75=some VD
 t76:T 76=some X1
 t77:T 77=some Zak
 t78:T 78=some Wk
 t79:T 79=some Qo
 t80:T 80=some Zb9
 t81:T 81=some VF
 t82:T 82=some Zb6
 t83:T 83=some Zal
section
variable {T:Nat->Ot FD}{n:Nat}{y z:Opd}{s:Str}{x t k:Nat}
theorem ZiO:Zk (.put x y s z)=.tup [.str (S "put"),.int (x:Int),Ya y,.str s,Ya z]:=rfl
def PSg(s:Str):Prop:=s=S "+"\/s=S "-"\/s=S "*"\/s=S "/"\/s=S "mod"
def ISg(s:Str):Prop:=s=S "<"\/s=S "<="\/s=S "="\/s=S ">="\/s=S ">"\/s=S "!="
end
end Dp


namespace Dp
open PySem
section
variable {n:Nat}{F:PFn}{π:Zp}{x y:Str}{a b:CE}{j k:Nat}
theorem XE:pe F (.strOf a) π=(pe F a π).bind XJ:=YN
theorem JN:pe F (.joinE a b) π=(pe F a π).bind fun x=>(pe F b π).bind fun y=>W7 x y:=Xd
theorem XZ(h:x.cps.toList=y.cps.toList):x=y:=by
 cases x;cases y
 congr 1
 exact Array.ext' h
theorem Z0:x.cps.toList.length=x.length:=Array.length_toList
theorem Ws{m:Nat}:(toString m).toList=Nat.toDigits 10 m:=by
 show(Nat.repr m).toList=_;rw[Nat.toList_repr]
theorem Zbz{i:Int}(h1:-1000000000000 < i)(h2:i < 1000000000000):(Str.ofString (toString i)).length<=13:=by
 rw[Str.ofString_eq_toList];show Array.size _<=13;rw[List.size_toArray,List.length_map];cases i with
 |ofNat m=>
  rw[show toString (Int.ofNat m)=toString m from rfl,Ws];have hm:m < 10 ^ 12:=by have:(Int.ofNat m:Int)=(m:Int):=rfl;omega
  have:=PyProof.Rows.digits10_le (by decide) hm
  omega
 |negSucc m=>
  have hm:m+1 < 10 ^ 12:=by have:Int.negSucc m=-((m:Int)+1):=rfl;omega
  have:=PyProof.Rows.digits10_le (by decide) hm
  have e:(toString (Int.negSucc m)).toList='-' :: Nat.toDigits 10 (m+1):=by
   show("-"++toString (m+1)).toList=_;rw[String.toList_append,Ws];rfl
  rw[e,List.length_cons];omega
theorem J4:∀ {ys:Li Str},Up (ys.map P.str)=some ys
 |[]=>rfl
 |y :: ys=>by
  show(Up (ys.map P.str)).map (y :: ·)=_;rw[J4];rfl
structure Tx(F:PFn)(π:Zp)(j:Nat)(a:CE)(x:Str):Prop where
 e:pe F a π=some (.str x)
 l:x.length<=j
def gl(s:Str)(ws:Li Str):Str:=⟨(X2 s ws).toArray⟩
theorem Vk{s:Str}{ws:Li Str}:(gl s ws).cps.toList=X2 s ws:=List.toList_toArray
theorem WK{s:Str}(hs:s.length=1):∀ {ws:Li Str},(∀ w∈ws,w.length<=j)->(Yx s ws).length<=ws.length * (j+1)
 |[],_=>by show 0<=_;omega
 |w :: ws,h=>by
  have h1:=h w Ls;have h2:=WK hs (ws:=ws) fun z hz=>h z (Lm _ hz)
  show((s.cps.toList++w.cps.toList)++Yx s ws).length<=(ws.length+1) * (j+1);rw[List.length_append,List.length_append,Z0,Z0,hs,Nat.add_mul];omega
theorem ZdT{s:Str}(hs:s.length=1){ws:Li Str}(h:∀ w∈ws,w.length<=j):(X2 s ws).length<=ws.length * (j+1):=by
 cases ws with
 |nil=>show 0<=_;omega
 |cons w ws=>
  have h1:=h w Ls;have h2:=WK hs (ws:=ws) fun z hz=>h z (Lm _ hz)
  show(w.cps.toList++Yx s ws).length<=(ws.length+1) * (j+1);rw[List.length_append,Z0,Nat.add_mul];omega
theorem ZdS{s:Str}(hs:s.length=1){ws:Li Str}(h:∀ w∈ws,w.length<=j):(gl s ws).length<=ws.length * (j+1):=by
 rw[<-Z0,Vk];exact ZdT hs h
theorem Zbx{s:Str}(hs:s.length=1){ws:Li Str}{m:Bool}(h:∀ w∈ws,w.length<=j)(hl:ws.length * (j+1)<=100000):W7 (.str s) (.lst m (ws.map P.str))=some (.str (gl s ws)):=by
 have h2:=WK hs h;show(if s.length=0 then QF (ws.map P.str) else V3 s (ws.map P.str))=_
 rw[if_neg (by omega)]
 unfold V3;rw[J4];simp only;rw[if_pos (by unfold Zd;omega)]
 rfl
theorem Qq{α:Type}{f c:P->Ot P}{enc g:α->P}:∀ {l:Li α},(∀ a∈l,c (enc a)=some (.bl true))->(∀ a∈l,f (enc a)=some (g a))->YK f c (l.map enc)=some (l.map g)
 |[],_,_=>rfl
 |a :: l,hc,hf=>by
  have e:=Qq (l:=l) (fun z hz=>hc z (Lm _ hz)) (fun z hz=>hf z (Lm _ hz))
  rw[List.map_cons,List.map_cons];unfold YK;rw[hc a Ls,hf a Ls];simp only;rw[e]
theorem XD{α:Type}{it elt:CE}{rng:Bool}{fr:Li Nat}{x:P}{enc g:α->P}{l:Li α}(hi:pe F it π=some x)(hw:Yl rng x=some (l.map enc))(hl:l.length<=1000)(hf:∀ a∈l,pe F elt (Wu π fr (enc a))=some (g a)):pe F (.comp rng fr it elt (.cst (.bl true))) π=some (.lst true (l.map g)):=by
 rw[ZbJ,hi,Ob,hw,Ob,if_pos (by rw[List.length_map];exact hl),Qq (enc:=enc) (g:=g) (c:=fun p=>pe F (.cst (.bl true)) (Wu π fr p)) (fun _ _=>rfl) hf]
 rfl
end
end Dp


namespace Dp
open PySem
noncomputable def num:Li (Str×Nat):=[(S "HuntError",177),(S "TextError",222),(S "TextError.__init__",223),(S "NoLine",224),(S "Twice",225),(S "NoName",226),(S "NoPlace",227),(S "around",0),(S "is_made_of",209),(S "is_name",210),(S "are_figures",211),(S "number_in",212),(S "place_in",213),(S "fits",232),(S "is_line",233),(S "names_read",234),(S "operand_in",235),(S "row_of",236),(S "Draft",237),(S "Draft.__init__",238),(S "Draft.has_room",239),(S "Draft.read_line",240),(S "Draft.read_name",241),(S "Draft.read_row",242),(S "Draft.check_places",243),(S "Draft.told",244),(S "read",245),(S "operand_shown",218),(S "words_of",219),(S "shown",220),(S "_law_whole",17),(S "_law_cell_at",27),(S "_law_small_by",19),(S "_law_operand",28),(S "_law_row",29),(S "_law_program",30),(S "_law_kinds",246),(S "_law_cut",247),(S "_law_read",248),(S "law",16)]
noncomputable def T:Nat->Ot FD
 |0=>some c_around
 |209=>some c_is_made_of
 |210=>some c_is_name
 |211=>some c_are_figures
 |212=>some c_number_in
 |213=>some c_place_in
 |232=>some c_fits
 |233=>some c_is_line
 |234=>some c_names_read
 |235=>some c_operand_in
 |236=>some c_row_of
 |238=>some c_Draft___init__
 |239=>some c_Draft_has_room
 |240=>some c_Draft_read_line
 |241=>some c_Draft_read_name
 |242=>some c_Draft_read_row
 |243=>some c_Draft_check_places
 |244=>some c_Draft_told
 |245=>some c_read
 |218=>some c_operand_shown
 |219=>some c_words_of
 |220=>some c_shown
 |17=>some c__law_whole
 |27=>some c__law_cell_at
 |19=>some c__law_small_by
 |28=>some c__law_operand
 |29=>some c__law_row
 |30=>some c__law_program_k11
 |246=>some c__law_kinds
 |247=>some c__law_cut
 |248=>some c__law_read
 |16=>some c_law_k12
 |_=>none
end Dp


namespace Dp
open PySem
section
variable {n:Nat}{F:PFn}{π:Zp}{a b:CE}{x y:Str}{r:Row}{m:Nat}{o:Opd}
def leS(i:Nat):Str:=⟨#[97+i]⟩
def nuS(c:Int):Str:=Str.ofString (toString c)
def opS:Opd->Str
 |.name i=>leS i
 |.num c=>nuS c
theorem QK:∀ i:Nat,i < 5->ixP (.str (S "abcdefghijklmnopqrstuvwxyz")) (.int (i:Int))=some (.str (leS i)):=by
 intro i hi;have:i=0\/i=1\/i=2\/i=3\/i=4:=by omega
 rcases this with rfl|rfl|rfl|rfl|rfl<;>rfl
theorem ZaX{c:Int}(h:Sm c):XJ (.int c)=some (.str (nuS c)):=by
 show(if ZE c=true then some (P.str (Str.ofString (toString c))) else none)=_
 rw[if_pos h.lim];rfl
theorem ZbR{t:Nat}(h:t<=1000):XJ (.int (t:Int))=some (.str (nuS (t:Int))):=by
 show(if ZE (t:Int)=true then some (P.str (Str.ofString (toString (t:Int)))) else none)=_
 rw[if_pos (Vn (by omega) (by omega))];rfl
theorem Q9(hm:m<=5)(h:Xi m o):Zj T (n+1) 218 [Ya o]=some (.str (opS o)):=by
 rw[Zt (f:=c_operand_shown) rfl rfl rfl,show ZN c_operand_shown.body=[] from rfl];show Yd (px (Zj T n) [] c_operand_shown.body [some (Ya o)])=_;unfold c_operand_shown;cases o with
 |name i=>
  have hi:i < m:=h;rw[Yt (v:=.str (leS i)) (by rfl) (by exact QK i (by omega))]
  rfl
 |num c=>
  rw[ZK (by rfl),Yj (v:=.str (nuS c)) (by rw[XE];exact ZaX h)]
  rfl
def woS:Row->Li Str
 |.put x y s z=>[S "put",leS x,opS y,s,opS z]
 |.ifr y s z t=>[S "if",opS y,s,opS z,S "go",nuS (t:Int)]
 |.go t=>[S "go",nuS (t:Int)]
 |.tell y=>[S "tell",opS y]
 |.skip=>[S "skip"]
theorem Zkl{many x:Nat}{y z:Opd}{s:Str}(hm:m<=5)(h:YU m many (.put x y s z)):Zj T (n+2) 219 [Zk (.put x y s z)]=some (.lst true ((woS (.put x y s z)).map P.str)):=by
 rw[Zt (f:=c_words_of) rfl rfl rfl,show ZN c_words_of.body=[] from rfl];show Yd (px (Zj T (n+1)) [] c_words_of.body [some (Zk (.put x y s z))])=_;unfold c_words_of;obtain⟨h1,h2,h3⟩:=h;have e1:=Q9 (n:=n) hm h2;have e2:=Q9 (n:=n) hm h3;have e3:=QK x (by omega)
 rw[ZiO,Yt (v:=.lst true ((woS (.put x y s z)).map P.str)) (by simp) (by simp[e1,e2,e3,woS])]
 rfl
theorem Zis{many:Nat}{y:Opd}(hm:m<=5)(h:YU m many (.tell y)):Zj T (n+2) 219 [Zk (.tell y)]=some (.lst true ((woS (.tell y)).map P.str)):=by
 rw[Zt (f:=c_words_of) rfl rfl rfl,show ZN c_words_of.body=[] from rfl];show Yd (px (Zj T (n+1)) [] c_words_of.body [some (Zk (.tell y))])=_;unfold c_words_of;have e1:=Q9 (n:=n) hm (show Xi m y from h);rw[show Zk (.tell y)=.tup [.str (S "tell"),Ya y] from rfl,ZK (by simp),ZK (by simp),ZK (by simp),Yt (v:=.lst true ((woS (.tell y)).map P.str)) (by simp) (by simp[e1,woS])]
 rfl
theorem Zir:Zj T (n+2) 219 [Zk .skip]=some (.lst true ((woS .skip).map P.str)):=by
 rw[Zt (f:=c_words_of) rfl rfl rfl,show ZN c_words_of.body=[] from rfl];show Yd (px (Zj T (n+1)) [] c_words_of.body [some (Zk .skip)])=_;unfold c_words_of;rw[show Zk .skip=.tup [.str (S "skip")] from rfl,ZK (by simp),ZK (by simp),ZK (by simp),ZK (by simp),Yj (v:=.lst true [.str (S "skip")]) (by simp)]
 rfl
end
end Dp


namespace Dp
open PySem
section
variable {n m:Nat}{F:PFn}{r:Row}
theorem ZlZ{v:Int}{w:Str}(e3:XJ (.int v)=some (.str w)):px F [] c_words_of.body [some (.tup [.str (S "go"),.int v])]=some (.rt (.lst true [.str (S "go"),.str w])):=by
 unfold c_words_of;rw[ZK (by simp),ZK (by simp),Yt (v:=.lst true [.str (S "go"),.str w]) (by simp) (by simp[e3,XE])]
theorem Zl0{v:Int}{w s a b:Str}{y z:P}(e1:F 218 [y]=some (.str a))(e2:F 218 [z]=some (.str b))(e3:XJ (.int v)=some (.str w)):px F [] c_words_of.body [some (.tup [.str (S "if"),y,.str s,z,.int v])]=some (.rt (.lst true [.str (S "if"),.str a,.str s,.str b,.str (S "go"),.str w])):=by
 unfold c_words_of;rw[ZK (by simp),Yt (v:=.lst true [.str (S "if"),.str a,.str s,.str b,.str (S "go"),.str w]) (by simp) (by simp[e1,e2,e3,XE])]
theorem ZlP{many t:Nat}(hn:many<=100)(h:YU m many (.go t)):Zj T (n+2) 219 [Zk (.go t)]=some (.lst true ((woS (.go t)).map P.str)):=by
 have ht:t<=1000:=by have:t<=many:=h;omega
 rw[Zt (f:=c_words_of) rfl rfl rfl,show ZN c_words_of.body=[] from rfl];show Yd (px (Zj T (n+1)) [] c_words_of.body [some (.tup [.str (S "go"),.int (t:Int)])])=_;rw[ZlZ (ZbR ht)];rfl
theorem ZlQ{many t:Nat}{y z:Opd}{s:Str}(hm:m<=5)(hn:many<=100)(h:YU m many (.ifr y s z t)):Zj T (n+2) 219 [Zk (.ifr y s z t)]=some (.lst true ((woS (.ifr y s z t)).map P.str)):=by
 obtain⟨h1,h2,h3⟩:=h;have ht:t<=1000:=by omega
 rw[Zt (f:=c_words_of) rfl rfl rfl,show ZN c_words_of.body=[] from rfl];show Yd (px (Zj T (n+1)) [] c_words_of.body [some (.tup [.str (S "if"),Ya y,.str s,Ya z,.int (t:Int)])])=_
 rw[Zl0 (Q9 (n:=n) hm h1) (Q9 (n:=n) hm h2) (ZbR ht)];rfl
theorem ZfB{many:Nat}(hm:m<=5)(hn:many<=100)(h:YU m many r):Zj T (n+2) 219 [Zk r]=some (.lst true ((woS r).map P.str)):=by
 cases r with
 |put x y s z=>exact Zkl hm h
 |ifr y s z t=>exact ZlQ hm hn h
 |go t=>exact ZlP hn h
 |tell y=>exact Zis hm h
 |skip=>exact Zir
end
end Dp


namespace Dp
open PySem
section
variable {n m:Nat}{F:PFn}{π:Zp}{r:Row}{o:Opd}
def SgL(s:Str):Prop:=s.length<=3
def Xp:Row->Prop
 |.put _ _ s _=>PSg s
 |.ifr _ s _ _=>ISg s
 |_=>True
theorem PSg.len{s:Str}(h:PSg s):SgL s:=by rcases h with h|h|h|h|h<;>subst h<;>unfold SgL<;>decide +kernel
theorem ISg.len{s:Str}(h:ISg s):SgL s:=by rcases h with h|h|h|h|h|h<;>subst h<;>unfold SgL<;>decide +kernel
theorem Zfa(i:Int):PSg (ZhA i):=by
 unfold ZhA PSg;generalize i.toNat=k
 match k with
 |0=>exact .inl rfl
 |1=>exact .inr (.inl rfl)
 |2=>exact .inr (.inr (.inl rfl))
 |3=>exact .inr (.inr (.inr (.inl rfl)))
 |4=>exact .inr (.inr (.inr (.inr rfl)))
 |k+5=>exact .inl rfl
theorem Ze9(i:Int):ISg (Zhy i):=by
 unfold Zhy ISg;generalize i.toNat=k
 match k with
 |0=>exact .inl rfl
 |1=>exact .inr (.inl rfl)
 |2=>exact .inr (.inr (.inl rfl))
 |3=>exact .inr (.inr (.inr (.inl rfl)))
 |4=>exact .inr (.inr (.inr (.inr (.inl rfl))))
 |5=>exact .inr (.inr (.inr (.inr (.inr rfl))))
 |k+6=>exact .inl rfl
theorem Zhb(c d:Int)(m size:Nat):Xp (ZaR c d m size):=by
 unfold ZaR;split
 ·exact Zfa _
 ·split
  ·exact Ze9 _
  ·split
   ·split<;>trivial
   ·trivial
theorem QI{i:Nat}:(leS i).length<=13:=show 1<=13 by decide
theorem Ud{c:Int}(h:Sm c):(nuS c).length<=13:=Zbz (by have:=h.1;omega) (by have:=h.2;omega)
theorem ZaF{t:Nat}(h:t<=1000):(nuS (t:Int)).length<=13:=Zbz (by omega) (by omega)
theorem Ue(h:Xi m o):(opS o).length<=13:=by
 cases o with
 |name i=>exact QI
 |num c=>exact Ud h
theorem Zj8{many:Nat}(hn:many<=100)(h:YU m many r)(hl:Xp r):(woS r).length<=6/\∀ w∈woS r,w.length<=13:=by
 have s1:(S "put").length<=13/\(S "if").length<=13/\(S "go").length<=13/\(S "tell").length<=13/\(S "skip").length<=13:=by decide +kernel
 obtain⟨q1,q2,q3,q4,q5⟩:=s1;cases r with
 |put x y s z=>
  have hs:s.length<=13:=Nat.le_trans (PSg.len hl) (by decide)
  refine⟨(show 5<=6 by omega),fun w hw=>?_⟩
  simp only[woS,List.mem_cons,List.not_mem_nil,or_false]at hw;rcases hw with rfl|rfl|rfl|rfl|rfl
  ·exact q1
  ·exact QI
  ·exact Ue h.2.1
  ·exact hs
  ·exact Ue h.2.2
 |ifr y s z t=>
  have hs:s.length<=13:=Nat.le_trans (ISg.len hl) (by decide)
  refine⟨(show 6<=6 by omega),fun w hw=>?_⟩
  simp only[woS,List.mem_cons,List.not_mem_nil,or_false]at hw;rcases hw with rfl|rfl|rfl|rfl|rfl|rfl
  ·exact q2
  ·exact Ue h.1
  ·exact hs
  ·exact Ue h.2.1
  ·exact q3
  ·exact ZaF (by have:=h.2.2;omega)
 |go t=>
  refine⟨(show 2<=6 by omega),fun w hw=>?_⟩
  simp only[woS,List.mem_cons,List.not_mem_nil,or_false]at hw;rcases hw with rfl|rfl
  ·exact q3
  ·exact ZaF (by have:t<=many:=h;omega)
 |tell y=>
  refine⟨(show 2<=6 by omega),fun w hw=>?_⟩
  simp only[woS,List.mem_cons,List.not_mem_nil,or_false]at hw;rcases hw with rfl|rfl
  ·exact q4
  ·exact Ue h
 |skip=>
  refine⟨(show 1<=6 by omega),fun w hw=>?_⟩
  simp only[woS,List.mem_cons,List.not_mem_nil,or_false]at hw;subst hw;exact q5
def ln(ws:Li Str):Str:=gl (S " ") ws
theorem ZhO:(S " ").length=1:=by decide +kernel
end
end Dp


namespace Dp
open PySem
section
variable {n m size:Nat}{F:PFn}{π:Zp}{ns:Li Int}
def YB(p:Int×Int):P:=.tup [.int p.1,.int p.2]
def KSm(p:Int×Int):Prop:=Sm p.1/\Sm p.2/\p.1<=p.2
theorem ZjF{sc:P}{x1 x2 x3 x8 x9 x10 x11:Ot P}{rs:Li P}{j:Nat}{a b:Int}{r:P}(h1:F 27 [sc,.int (8+2 * (j:Int))]=some (.int a))(h2:F 27 [sc,.int (9+2 * (j:Int))]=some (.int b))(h3:F 29 [.int a,.int b,.int (m:Int),.int (size:Int)]=some r)(hl:rs.length < Zd) :
  px F [6,9] ZR [some sc,x1,x2,x3,some (.int (m:Int)),some (.int (size:Int)),some (.lst true rs),some (.int (j:Int)),x8,x9,x10,x11]=some (.nx [some sc,x1,x2,x3,some (.int (m:Int)),some (.int (size:Int)),some (.lst true (rs++[r])),some (.int (j:Int)),some (.int a),x9,x10,x11]):=by
 have l2:ZE 2=true:=by decide
 unfold ZR;rw[Zi,Yo (p:=.int a) (by simp[l2,h1]) rfl rfl,Zg,Zi]
 simp only[Zs,Zr];rw[Ul (xs:=rs) rfl];have e:pe F (.call 29 (.aC (.var 8) (.aC (.call 27 (.aC (.var 0) (.aC (.bin .Add (.cst (.int 9)) (.bin .Mult (.cst (.int 2)) (.var 7))) .aN)) []) (.aC (.var 4) (.aC (.var 5) .aN)))) []) [some sc,x1,x2,x3,some (.int (m:Int)),some (.int (size:Int)),some (.lst true rs),some (.int (j:Int)),some (.int a),x9,x10,x11]=some r:=by
  simp[l2,h2,h3]
 rw[e,Ob,if_pos (by rw[decide_eq_true hl];rfl),Zg]
 rfl
theorem ZhC{sc:P}{x1 x2 x3 x4 x5 x6 x8 x10 x11:Ot P}{ts:Li P}{j:Nat}{a b v w:Int}(h1:F 27 [sc,.int (2+2 * (j:Int))]=some (.int a))(h2:F 27 [sc,.int (3+2 * (j:Int))]=some (.int b))(h3:F 19 [.int a]=some (.int v))(h4:F 19 [.int b]=some (.int w))(hl:ts.length < Zd) :
  px F [6,9] ZQ [some sc,x1,x2,x3,x4,x5,x6,some (.int (j:Int)),x8,some (.lst true ts),x10,x11]=some (.nx [some sc,x1,x2,x3,x4,x5,x6,some (.int (j:Int)),x8,some (.lst true (ts++[YB (if w < v then w else v,if w > v then w else v)])),some (.int v),some (.int w)]):=by
 have l2:ZE 2=true:=by decide
 unfold ZQ;rw[Zi,Yo (p:=.int v) (by simp[l2,h1,h3]) rfl rfl,Zg,Zi]
 simp only[Zs,Zr];rw[Yo (p:=.int w) (by simp[l2,h2,h4]) rfl rfl,Zg,Zi]
 simp only[Zs,Zr];rw[Ul (xs:=ts) rfl];have e:pe F (.tupE (.aC (.min (.var 10) (.var 11)) (.aC (.max (.var 10) (.var 11)) .aN))) [some sc,x1,x2,x3,x4,x5,x6,some (.int (j:Int)),x8,some (.lst true ts),some (.int v),some (.int w)]=some (YB (if w < v then w else v,if w > v then w else v)):=by
  simp[YB]
 rw[e,Ob,if_pos (by rw[decide_eq_true hl];rfl),Zg]
 rfl
structure Sh(p:Prog)(tk:List (Int×Int)):Prop where
 rows:∀ r∈p.rows,YU p.many p.rows.length r/\Xp r
 takes:p.takes=.tup (tk.map YB)
 sm:∀ q∈tk,KSm q
 tkl:tk.length<=p.many
 tk3:tk.length<=3
 many:p.many<=5
 size:p.rows.length<=12
theorem Zjs(h27:∀ k:Nat,k<=1000->∃ c,F 27 [.lst false (ns.map .int),.int (k:Int)]=some (.int c))(h29:∀ c d,∀ m size:Nat,m<=100->size<=100->∃ r,YU m size r/\Xp r/\F 29 [.int c,.int d,.int (m:Int),.int (size:Int)]=some (Zk r))(h19:∀ c,∃ v,Sm v/\F 19 [.int c]=some (.int v)) :
  ∃ p tk,Sh p tk/\px F [6,9] c__law_program_k11.body [some (.lst false (ns.map .int)),some (.int 12),none,none,none,none,none,none,none,none,none,none]=some (.rt (Zn p)):=by
 obtain⟨c0,ec0⟩:=h27 0 (by omega)
 obtain⟨c1,ec1⟩:=h27 1 (by omega)
 have ec0:F 27 [.lst false (ns.map .int),.int 0]=some (.int c0):=ec0;have ec1:F 27 [.lst false (ns.map .int),.int 1]=some (.int c1):=ec1;have l2:ZE 48271=true:=by decide
 obtain⟨hd,ehd⟩:∃ hd,hd=c0 % 2147483647:=⟨_,rfl⟩;obtain⟨tk,etk,htk⟩:∃ tk:Nat,hd % 4=(tk:Int)/\tk<=3:=⟨(hd % 4).toNat,by omega,by omega⟩
 have p6:(0:Int) < 6 - (tk:Int):=by omega
 have p7:(tk:Int) < 6:=by omega
 obtain⟨w,ew,hw⟩:∃ w:Nat,hd * 48271 % 2147483647 % (6 - (tk:Int))=(w:Int)/\w+tk<=5:=⟨(hd * 48271 % 2147483647 % (6 - (tk:Int))).toNat,(Int.toNat_of_nonneg (Int.emod_nonneg _ (by omega))).symm,by have:=Int.emod_lt_of_pos (hd * 48271 % 2147483647) p6;have:=Int.emod_nonneg (hd * 48271 % 2147483647) (show(6 - (tk:Int))≠0 by omega);omega⟩
 obtain⟨m,hm⟩:∃ m,m=tk+w:=⟨_,rfl⟩;obtain⟨size,es,hs⟩:∃ size:Nat,c1 % 13=(size:Int)/\size<=12:=⟨(c1 % 13).toNat,by omega,by omega⟩
 obtain⟨π1,l1,rs,y7,y8,hl,hr,rfl⟩:=Ua (B:=fun d π=>px F [6,9] ZR (ZM π 7 d)) (fun i π=>∃ (rs:Li Row) (y7 y8:Ot P),rs.length=i/\(∀ r∈rs,YU m size r/\Xp r)/\π=[some (.lst false (ns.map .int)),some (.int 12),some (.int hd),some (.int (tk:Int)),some (.int (m:Int)),some (.int (size:Int)),some (.lst true (rs.map Zk)),y7,y8,none,none,none]) (m:=size) (fun i hi π hπ=>by
  obtain⟨rs,y7,y8,hl,hr,rfl⟩:=hπ;obtain⟨a,ea⟩:=h27 (8+2 * i) (by omega)
  obtain⟨b,eb⟩:=h27 (9+2 * i) (by omega)
  rw[show((8+2 * i:Nat):Int)=8+2 * (i:Int) by omega]at ea
  rw[show((9+2 * i:Nat):Int)=9+2 * (i:Int) by omega]at eb
  obtain⟨r,ok,len,er⟩:=h29 a b m size (by omega) (by omega)
  have tn:=ZjF (x1:=some (.int 12)) (x2:=some (.int hd)) (x3:=some (.int (tk:Int))) (x8:=y8) (x9:=none) (x10:=none) (x11:=none) (rs:=rs.map Zk) ea eb er (by rw[List.length_map];unfold Zd;omega)
  refine⟨_,tn,rs++[r],some (.int (i:Int)),some (.int a),by simp[hl],fun q hq=>?_,by rw[List.map_append];rfl⟩
  rcases List.mem_append.mp hq with z|z
  ·exact hr q z
  ·rw[List.mem_singleton.mp z];exact⟨ok,len⟩) (π:=[some (.lst false (ns.map .int)),some (.int 12),some (.int hd),some (.int (tk:Int)),some (.int (m:Int)),some (.int (size:Int)),some (.lst true []),none,none,none,none,none]) ⟨[],none,none,rfl,(fun _ z=>nomatch z),rfl⟩
 obtain⟨π2,l2',ts,z7,z10,z11,hl2,hk,rfl⟩:=Ua (B:=fun d π=>px F [6,9] ZQ (ZM π 7 d)) (fun i π=>∃ (ts:Li (Int×Int)) (z7 z10 z11:Ot P),ts.length=i/\(∀ q∈ts,KSm q)/\π=[some (.lst false (ns.map .int)),some (.int 12),some (.int hd),some (.int (tk:Int)),some (.int (m:Int)),some (.int (size:Int)),some (.lst true (rs.map Zk)),z7,y8,some (.lst true (ts.map YB)),z10,z11]) (m:=tk) (fun i hi π hπ=>by
  obtain⟨ts,z7,z10,z11,hl,hk,rfl⟩:=hπ;obtain⟨a,ea⟩:=h27 (2+2 * i) (by omega)
  obtain⟨b,eb⟩:=h27 (3+2 * i) (by omega)
  rw[show((2+2 * i:Nat):Int)=2+2 * (i:Int) by omega]at ea
  rw[show((3+2 * i:Nat):Int)=3+2 * (i:Int) by omega]at eb
  obtain⟨v,sv,ev⟩:=h19 a;obtain⟨u,su,eu⟩:=h19 b;have tn:=ZhC (x1:=some (.int 12)) (x2:=some (.int hd)) (x3:=some (.int (tk:Int))) (x4:=some (.int (m:Int))) (x5:=some (.int (size:Int))) (x6:=some (.lst true (rs.map Zk))) (x8:=y8) (x10:=z10) (x11:=z11) (ts:=ts.map YB) ea eb ev eu (by rw[List.length_map];unfold Zd;omega)
  refine⟨_,tn,ts++[(if u < v then u else v,if u > v then u else v)],some (.int (i:Int)),some (.int v),some (.int u),by simp[hl],fun q hq=>?_,by rw[List.map_append];rfl⟩
  rcases List.mem_append.mp hq with z|z
  ·exact hk q z
  ·rw[List.mem_singleton.mp z]
   refine⟨?_,?_,?_⟩
   ·show Sm (if u < v then u else v)
    split
    ·exact su
    ·exact sv
   ·show Sm (if u > v then u else v)
    split
    ·exact su
    ·exact sv
   ·show(if u < v then u else v)<=(if u > v then u else v)
    split<;>split<;>omega) (π:=[some (.lst false (ns.map .int)),some (.int 12),some (.int hd),some (.int (tk:Int)),some (.int (m:Int)),some (.int (size:Int)),some (.lst true (rs.map Zk)),y7,y8,some (.lst true []),none,none]) ⟨[],y7,none,none,rfl,(fun _ z=>nomatch z),rfl⟩
 refine⟨⟨.tup (ts.map YB),m,rs⟩,ts,⟨fun r hr'=>?_,rfl,hk,?_,?_,?_,?_⟩,?_⟩
 ·show YU m rs.length r/\Xp r
  rw[hl];exact hr r hr'
 ·show ts.length<=m;omega
 ·show ts.length<=3;omega
 ·show m<=5;omega
 ·show rs.length<=12;omega
 unfold c__law_program_k11;rw[Zi,Yo (p:=.int hd) (by simp[ec0,ehd]) rfl rfl,Zg]
 simp only[Zs,Zr];rw[Zi,Yo (p:=.int (tk:Int)) (by simp[etk]) rfl rfl,Zg]
 simp only[Zs,Zr];rw[Zi,Yo (p:=.int (m:Int)) (by simp[l2,p7,ew,hm]) rfl rfl,Zg]
 simp only[Zs,Zr];rw[Zi,Yo (p:=.int (size:Int)) (by simp[ec1,es]) rfl rfl,Zg]
 simp only[Zs,Zr];rw[Zi,XW (p:=.lst true []) (by simp) rfl rfl,Zg]
 simp only[Zs,Zr];rw[Zi,ZbN (n:=size) (by simp) (by omega) rfl,l1,Zg]
 rw[Zi,XW (p:=.lst true []) (by simp) rfl rfl,Zg]
 simp only[Zs,Zr];rw[Zi,ZbN (n:=tk) (by simp) (by omega) rfl,l2',Zg]
 rw[Yj (v:=Zn ⟨.tup (ts.map YB),m,rs⟩) (by simp[Zn])]
theorem Zij:∃ p tk,Sh p tk/\Zj T (n+4) 30 [.lst false (ns.map .int),.int 12]=some (Zn p):=by
 rw[Zt (f:=c__law_program_k11) rfl rfl rfl,show ZN c__law_program_k11.body=[6,9] from rfl];show ∃ p tk,Sh p tk/\Yd (px (Zj T (n+3)) [6,9] c__law_program_k11.body [some (.lst false (ns.map .int)),some (.int 12),none,none,none,none,none,none,none,none,none,none])=_;have o28:∀ m:Nat,m<=100->∀ x,Zj T (n+2) 28 [.int x,.int (m:Int)]=some (Ya (Uf x m)):=fun m hm x=>by
  rw[Zt (f:=c__law_operand) rfl rfl rfl];show Yd (px (Zj T (n+1)) [] c__law_operand.body [some (.int x),some (.int (m:Int))])=_;rw[ZeE (fun c=>Za5 rfl) hm]
  rfl
 obtain⟨p,tk,sh,e⟩:=Zjs (F:=Zj T (n+3)) (ns:=ns) (fun k hk=>⟨_,Zc5 rfl (by omega)⟩) (fun c d m size hm hs=>⟨ZaR c d m size,ZjE c d m size,Zhb c d m size,by
  rw[Zt (f:=c__law_row) rfl rfl rfl];show Yd (px (Zj T (n+2)) [] c__law_row.body [some (.int c),some (.int d),some (.int (m:Int)),some (.int (size:Int)),none,none,none,none,none])=_;rw[Ze0 (o28 m hm) hs];rfl⟩) (fun c=>⟨_,JX c,Za5 rfl⟩)
 refine⟨p,tk,sh,?_⟩;rw[e];rfl
end
end Dp


namespace Dp
open PySem
section
variable {n m:Nat}{F:PFn}{π:Zp}{p:Prog}{tk:Li (Int×Int)}
def YT(ws:Li Str):P:=.lst true (ws.map P.str)
def twS(tk:Li (Int×Int))(i:Nat):Li Str:=[S "take",leS i,nuS (tk.getD i (0,0)).1,nuS (tk.getD i (0,0)).2]
def nmS(i:Nat):Li Str:=[S "name",leS i]
def W0(tk:Li (Int×Int)):Li (Li Str):=(List.range tk.length).map (twS tk)
def W1(t m:Nat):Li (Li Str):=(List.range (m - t)).map fun k=>nmS (t+k)
theorem Zff{k:Nat}{a b:Int}{ts:Li P}{wa wb:Str}(h:ts[k]?=some (.tup [.int a,.int b]))(hk:k < 5)(ea:XJ (.int a)=some (.str wa))(eb:XJ (.int b)=some (.str wb)):pe F (.lstE (.aC (.cst (.str (S "take"))) (.aC (.ix (.cst (.str (S "abcdefghijklmnopqrstuvwxyz"))) (.var 0)) (.aC (.strOf (.ix (.ix (.var 1) (.var 0)) (.cst (.int 0)))) (.aC (.strOf (.ix (.ix (.var 1) (.var 0)) (.cst (.int 1)))) .aN))))) [some (.int (k:Int)),some (.tup ts)]=some (YT [S "take",leS k,wa,wb]):=by
 have i1:pe F (.ix (.cst (.str (S "abcdefghijklmnopqrstuvwxyz"))) (.var 0)) [some (.int (k:Int)),some (.tup ts)]=some (.str (leS k)):=QK k hk;have i2:pe F (.ix (.var 1) (.var 0)) [some (.int (k:Int)),some (.tup ts)]=some (.tup [.int a,.int b]):=by
  rw[pe_ix];show atP ts (k:Int)=_;rw[YA rfl,h]
 have i3:pe F (.strOf (.ix (.ix (.var 1) (.var 0)) (.cst (.int 0)))) [some (.int (k:Int)),some (.tup ts)]=some (.str wa):=by
  rw[XE,pe_ix,i2];exact ea
 have i4:pe F (.strOf (.ix (.ix (.var 1) (.var 0)) (.cst (.int 1)))) [some (.int (k:Int)),some (.tup ts)]=some (.str wb):=by
  rw[XE,pe_ix,i2];exact eb
 rw[QX,ZB,ZB,ZB,ZB,i1,i3,i4];rfl
theorem Zes{k:Nat}(hk:k < 5):pe F (.lstE (.aC (.cst (.str (S "name"))) (.aC (.ix (.cst (.str (S "abcdefghijklmnopqrstuvwxyz"))) (.var 0)) .aN))) [some (.int (k:Int))]=some (YT (nmS k)):=by
 have i1:pe F (.ix (.cst (.str (S "abcdefghijklmnopqrstuvwxyz"))) (.var 0)) [some (.int (k:Int))]=some (.str (leS k)):=QK k hk;rw[QX,ZB,ZB,i1];rfl
theorem Zj3{k:Nat}(hk:k < tk.length):(tk.map YB)[k]?=some (.tup [.int (tk.getD k (0,0)).1,.int (tk.getD k (0,0)).2]):=by
 rw[List.getElem?_map,Lg hk,List.getD_eq_getElem?_getD,Lg hk];rfl
theorem Zfi{k:Nat}(hs:∀ q∈tk,KSm q)(hk:k < tk.length):KSm (tk.getD k (0,0)):=by
 rw[List.getD_eq_getElem?_getD,Lg hk];exact hs _ (List.getElem_mem hk)
theorem ZjT{x0 x2:Ot P}(hs:∀ q∈tk,KSm q)(ht:tk.length<=5):pe F WE [x0,some (.tup (tk.map YB)),x2]=some (.lst true ((W0 tk).map YT)):=by
 unfold WE;have el:pe F (.len (.var 1)) [x0,some (.tup (tk.map YB)),x2]=some (.int (tk.length:Int)):=by
  rw[QW];show some (P.int ((tk.map YB).length:Int))=_;rw[List.length_map]
 have e:=XD (F:=F) (fr:=[1]) (elt:=.lstE (.aC (.cst (.str (S "take"))) (.aC (.ix (.cst (.str (S "abcdefghijklmnopqrstuvwxyz"))) (.var 0)) (.aC (.strOf (.ix (.ix (.var 1) (.var 0)) (.cst (.int 0)))) (.aC (.strOf (.ix (.ix (.var 1) (.var 0)) (.cst (.int 1)))) .aN))))) (enc:=fun(k:Nat)=>P.int (k:Int)) (g:=fun k=>YT (twS tk k)) (l:=List.range tk.length) el (Zax (by omega)) (by rw[List.length_range];omega) (fun k hk=>by
  have hk:=List.mem_range.mp hk;have q:=Zfi hs hk;exact Zff (Zj3 hk) (by omega) (ZaX q.1) (ZaX q.2.1))
 rw[e];unfold W0;rw[List.map_map];rfl
theorem Zg0{a b:CE}:pe F (.rng2 a b) π=(pe F a π).bind fun x=>(pe F b π).bind fun y=>U8 x y:=Xd
theorem Zg9{a b:Int}(h:Xe a b 1=true):U8 (.int a) (.int b)=some (.dct [] [.int a,.int b]):=if_pos h
theorem ZeZ{t m:Nat}(h:t<=m):(XH (t:Int) (m:Int) 1).map P.int=(List.range (m - t)).map fun(k:Nat)=>P.int ((t+k:Nat):Int):=by
 have e:WT (t:Int) (m:Int) 1=m - t:=by
  unfold WT;rw[if_pos (by decide)]
  split
  ·omega
  ·omega
 unfold XH;rw[e,List.map_map];apply List.map_congr_left
 intro k _;show P.int ((t:Int)+(k:Int) * 1)=_
 congr 1
 omega
theorem ZjU{z y:P}{x2:Ot P}(ht:tk.length<=m)(hm:m<=5):pe F WF [some (.tup [z,.int (m:Int),y]),some (.tup (tk.map YB)),x2]=some (.lst true ((W1 tk.length m).map YT)):=by
 unfold WF;have el:pe F (.len (.var 1)) [some (.tup [z,.int (m:Int),y]),some (.tup (tk.map YB)),x2]=some (.int (tk.length:Int)):=by
  rw[QW];show some (P.int ((tk.map YB).length:Int))=_;rw[List.length_map]
 have er:pe F (.rng2 (.len (.var 1)) (.ix (.var 0) (.cst (.int 1)))) [some (.tup [z,.int (m:Int),y]),some (.tup (tk.map YB)),x2]=some (.dct [] [.int (tk.length:Int),.int (m:Int)]):=by
  have ro:Xe (tk.length:Int) (m:Int) 1=true:=by
   unfold Xe;apply decide_eq_true
   refine⟨⟨?_,?_⟩,⟨?_,?_⟩,.inl rfl⟩<;>omega
  rw[Zg0,el,show pe F (.ix (.var 0) (.cst (.int 1))) [some (.tup [z,.int (m:Int),y]),some (.tup (tk.map YB)),x2]=some (.int (m:Int)) from rfl,Ob,Ob];exact Zg9 ro
 have ew:Yl false (.dct [] [.int (tk.length:Int),.int (m:Int)])=some ((XH (tk.length:Int) (m:Int) 1).map P.int):=rfl;rw[ZeZ ht]at ew;have e:=XD (F:=F) (fr:=[]) (elt:=.lstE (.aC (.cst (.str (S "name"))) (.aC (.ix (.cst (.str (S "abcdefghijklmnopqrstuvwxyz"))) (.var 0)) .aN))) (enc:=fun(k:Nat)=>P.int ((tk.length+k:Nat):Int)) (g:=fun k=>YT (nmS (tk.length+k))) (l:=List.range (m - tk.length)) er ew (by rw[List.length_range];omega) (fun k hk=>by
  have hk:=List.mem_range.mp hk;exact Zes (by omega))
 rw[e];unfold W1;rw[List.map_map];rfl
theorem ZjV{z y:P}{x1 x2:Ot P}{rs:Li Row}(h:∀ r∈rs,F 219 [Zk r]=some (YT (woS r)))(hl:rs.length<=1000):pe F WG [some (.tup [z,y,.tup (rs.map Zk)]),x1,x2]=some (.lst true ((rs.map woS).map YT)):=by
 unfold WG;have ei:pe F (.ix (.var 0) (.cst (.int 2))) [some (.tup [z,y,.tup (rs.map Zk)]),x1,x2]=some (.tup (rs.map Zk)):=by rfl
 have ew:Yl false (.tup (rs.map Zk))=some (rs.map Zk):=rfl;rw[XD (elt:=.call 219 (.aC (.var 0) .aN) []) (fr:=[]) (enc:=Zk) (g:=fun r=>YT (woS r)) ei ew hl (fun r hr=>h r hr),List.map_map]
 rfl
def WOk(W:Li (Li Str)):Prop:=∀ ws∈W,ws.length<=6/\∀ w∈ws,w.length<=13
theorem Zaz{ws:Li Str}(h:ws.length<=6/\∀ w∈ws,w.length<=13):(ln ws).length<=84:=by
 have:=ZdS ZhO h.2;have h1:=h.1;unfold ln;omega
theorem ZgF{ws:Li Str}(h:ws.length<=6/\∀ w∈ws,w.length<=13):W7 (.str (S " ")) (YT ws)=some (.str (ln ws)):=Zbx ZhO h.2 (by have:=h.1;omega)
theorem ZjW{x0 x1:Ot P}{W:Li (Li Str)}(hw:WOk W)(hl:W.length<=100):pe F WH [x0,x1,some (.lst true (W.map YT))]=some (.lst true ((W.map ln).map P.str)):=by
 unfold WH;have ew:Yl false (.lst true (W.map YT))=some (W.map YT):=rfl;rw[XD (enc:=YT) (g:=fun ws=>P.str (ln ws)) (show pe F (.var 2) [x0,x1,some (.lst true (W.map YT))]=some (.lst true (W.map YT)) from rfl) ew (by omega) (fun ws hs=>by
  rw[JN];exact ZgF (hw ws hs)),List.map_map]
 rfl
def NL:Str:=S "\n"
theorem nl1:NL.length=1:=by decide +kernel
theorem ZgO{W:Li (Li Str)}{b:Bool}(hw:WOk W)(hl:W.length<=100):W7 (.str NL) (.lst b ((W.map ln).map P.str))=some (.str (gl NL (W.map ln))):=Zbx (j:=84) nl1 (fun w h=>by
 obtain⟨ws,hs,rfl⟩:=List.mem_map.mp h;exact Zaz (hw ws hs)) (by rw[List.length_map];omega)
def ZJ(p:Prog)(tk:Li (Int×Int)):Li (Li Str):=W0 tk++W1 tk.length p.many++p.rows.map woS
theorem Qk(h:Sh p tk):WOk (ZJ p tk)/\(ZJ p tk).length<=17:=by
 have hm:=h.many;have ht:=h.tkl;have hz:=h.size;refine⟨fun ws hs=>?_,?_⟩
 ·have q1:(S "take").length<=13/\(S "name").length<=13:=by decide +kernel
  rcases List.mem_append.mp hs with hs|hs
  ·rcases List.mem_append.mp hs with hs|hs
   ·obtain⟨i,hi,rfl⟩:=List.mem_map.mp hs
    have q:=Zfi h.sm (List.mem_range.mp hi);refine⟨(show 4<=6 by omega),fun w hw=>?_⟩
    simp only[twS,List.mem_cons,List.not_mem_nil,or_false]at hw;rcases hw with rfl|rfl|rfl|rfl
    ·exact q1.1
    ·exact QI
    ·exact Ud q.1
    ·exact Ud q.2.1
   ·obtain⟨i,_,rfl⟩:=List.mem_map.mp hs
    refine⟨(show 2<=6 by omega),fun w hw=>?_⟩
    simp only[nmS,List.mem_cons,List.not_mem_nil,or_false]at hw;rcases hw with rfl|rfl
    ·exact q1.2
    ·exact QI
  ·obtain⟨r,hr,rfl⟩:=List.mem_map.mp hs
   exact Zj8 (by omega) (h.rows r hr).1 (h.rows r hr).2
 ·unfold ZJ W0 W1
  rw[List.length_append,List.length_append,List.length_map,List.length_map,List.length_map,List.length_range,List.length_range];omega
theorem ZfA(h:Sh p tk):Zj T (n+3) 220 [Zn p]=some (.str (gl NL ((ZJ p tk).map ln))):=by
 have hm:=h.many;have ht:=h.tkl;have hz:=h.size;rw[Zt (f:=c_shown) rfl rfl rfl,show ZN c_shown.body=[2,2] from rfl];show Yd (px (Zj T (n+2)) [2,2] c_shown.body [some (Zn p),none,none])=_;unfold c_shown Zn;rw[h.takes];rw[Zi,Yo (p:=.tup (tk.map YB)) (by rfl) rfl rfl,Zg]
 simp only[Zs,Zr];rw[Zi,XW (p:=.lst true ((W0 tk).map YT)) (ZjT h.sm (by omega)) rfl rfl,Zg]
 simp only[Zs,Zr];have l0:(W0 tk).length=tk.length:=by unfold W0;rw[List.length_map,List.length_range]
 have l1:(W1 tk.length p.many).length=p.many - tk.length:=by unfold W1;rw[List.length_map,List.length_range]
 rw[Zi,ZeV (xs:=(W0 tk).map YT) (ys:=(W1 tk.length p.many).map YT) rfl (ZjU ht hm) rfl (by rw[List.length_map,List.length_map,l0,l1];unfold Zd;omega),Zg]
 simp only[Zs,Zr];rw[Zi,ZeV (xs:=(W0 tk).map YT++(W1 tk.length p.many).map YT) (ys:=(p.rows.map woS).map YT) rfl (ZjV (fun r hr=>ZfB hm (by omega) (h.rows r hr).1) (by omega)) rfl (by rw[List.length_append,List.length_map,List.length_map,List.length_map,List.length_map,l0,l1];unfold Zd;omega),Zg]
 simp only[Zs,Zr];rw[<-List.map_append,<-List.map_append,show W0 tk++W1 tk.length p.many++p.rows.map woS=ZJ p tk from rfl];obtain⟨ok,len⟩:=Qk h;rw[Yj (v:=.str (gl NL ((ZJ p tk).map ln))) (by
  rw[JN,ZjW (W:=ZJ p tk) ok (by omega)]
  exact ZgO (b:=true) ok (by omega))]
 rfl
end
end Dp


namespace Dp
open PySem
section
variable {n:Nat}{F:PFn}{π:Zp}{a b:CE}{x sg:Str}{m:Int}
theorem ZcS:pe F (.starts a b) π=(pe F a π).bind fun x=>(pe F b π).bind fun y=>XY x y:=Xd
structure Wd(x:Str):Prop where
 len:x.length<=60
 asc:∀ c∈x.cps.toList,c < 128
theorem Wd.le(h:Wd x):x.length<=Zd:=Nat.le_trans h.len (by decide)
theorem Wd.all(h:Wd x):x.cps.all (fun c=>decide (c < 128))=true:=by
 rw[<-Array.all_toList,List.all_eq_true];exact fun c hc=>decide_eq_true (h.asc c hc)
theorem Wd.walk(h:Wd x):Yl false (.str x)=some ((chS x).map .str):=by
 show(if x.cps.all (fun c=>decide (c < 128))=true then some ((chS x).map P.str) else none)=_
 rw[if_pos h.all]
theorem ZfY:(chS x).length=x.length:=by
 unfold chS;rw[List.length_map];exact Array.length_toList
theorem len_str(h:Wd x):QJ (.str x)=some (.int (x.length:Int)):=by
 show(if x.length<=Zd then some (P.int x.length) else none)=_
 rw[if_pos h.le]
def mkd(x sg:Str):Bool:=(chS x).all fun c=>JM sg c
theorem ZcM(h:Wd x):pe F ZZ [some (.str x),some (.str sg),some (.int m)]=some (.lst true (((chS x).map fun c=>JM sg c).map P.bl)):=by
 unfold ZZ;rw[ZbJ];show(Yl false (.str x)).bind _=_;rw[h.walk,Ob,if_pos (by rw[List.length_map,ZfY];have:=h.len;omega)]
 rw[Zdy (c:=fun p=>pe F (.cst (.bl true)) (Wu [some (.str x),some (.str sg),some (.int m)] [1] p)) (g:=fun p=>match p with
  |.str c=>.bl (JM sg c)
  |p=>p) (fun _ _=>rfl) (fun p hp=>by
  obtain⟨c,_,rfl⟩:=List.mem_map.mp hp;rfl)]
 rw[Ob,List.map_map,List.map_map];rfl
def mdB(x sg:Str)(m:Int):Bool:=decide ((1:Int)<=x.length)&&decide ((x.length:Int)<=m)&&mkd x sg
theorem Zc6(h:Wd x):Zj T (n+1) 209 [.str x,.str sg,.int m]=some (.bl (mdB x sg m)):=by
 rw[Zt (f:=c_is_made_of) rfl rfl rfl,show ZN c_is_made_of.body=[] from rfl];have e:=ZcM (F:=Zj T n) (sg:=sg) (m:=m) h;have l:=len_str h;have q:XG (fun l=>l.all id) (.lst true (((chS x).map fun c=>JM sg c).map P.bl))=some (.bl (mkd x sg)):=by
  rw[U5];unfold mkd;rw[List.all_map];rfl
 show Yd (px (Zj T n) [] (.seq (.ret (.and (.and (.cmp .LtE (.cst (.int 1)) (.len (.var 0))) (.cmp .LtE (.len (.var 0)) (.var 2))) (.all ZZ))) .skip) [some (.str x),some (.str sg),some (.int m)])=_;rw[Yj (v:=.bl (mdB x sg m)) (by
  have c1:pe (Zj T n) (.cmp .LtE (.cst (.int 1)) (.len (.var 0))) [some (.str x),some (.str sg),some (.int m)]=some (.bl (decide ((1:Int)<=x.length))):=by
   rw[Y1,QW];show((QJ (.str x)).bind fun y=>Yu .LtE (.int 1) y)=_
   rw[l];rfl
  have c2:pe (Zj T n) (.cmp .LtE (.len (.var 0)) (.var 2)) [some (.str x),some (.str sg),some (.int m)]=some (.bl (decide ((x.length:Int)<=m))):=by
   rw[Y1,QW];show((QJ (.str x)).bind fun y=>Yu .LtE y (.int m))=_
   rw[l];rfl
  have c3:pe (Zj T n) (.all ZZ) [some (.str x),some (.str sg),some (.int m)]=some (.bl (mkd x sg)):=by
   rw[ZeI,e];exact q
  rw[pe_and,pe_and,c1,c2,c3];unfold mdB;cases decide ((1:Int)<=x.length)<;>cases decide ((x.length:Int)<=m)<;>rfl)]
 rfl
theorem Zii(h:Wd x):Zj T (n+2) 210 [.str x]=some (.bl (mdB x (S "abcdefghijklmnopqrstuvwxyz") 8)):=by
 rw[Zt (f:=c_is_name) rfl rfl rfl,show ZN c_is_name.body=[] from rfl];have e:=Zc6 (n:=n) (sg:=S "abcdefghijklmnopqrstuvwxyz") (m:=8) h;show Yd (px (Zj T (n+1)) [] (.seq (.ret (.call 209 (.aC (.var 0) (.aC (.cst (.str (S "abcdefghijklmnopqrstuvwxyz"))) (.aC (.cst (.int 8)) .aN))) [])) .skip) [some (.str x)])=_;rw[Yj (v:=.bl (mdB x (S "abcdefghijklmnopqrstuvwxyz") 8)) (by exact e)]
 rfl
end
end Dp


namespace Dp
open PySem
section
variable {n:Nat}{F:PFn}{π:Zp}{x y:Str}{m:Int}{c:Nat}{l r:Li Nat}
def FG:Str:=S "0123456789"
def fz(x:Str):Bool:=match x.cps.toList with
 |[]=>false
 |c :: r=>!(c==48)||r.isEmpty
def Wb(x:Str)(m:Int):Bool:=mdB x FG m&&fz x
theorem eq0:(x=S "0")↔x.cps.toList=[48]:=⟨fun h=>by rw[h];rfl,fun h=>XZ (h.trans rfl)⟩
theorem ch0:((⟨#[c]⟩:Str)=S "0")↔c=48:=by rw[eq0];simp
theorem ix0(h:Wd x)(e:x.cps.toList=c :: r):ixP (.str x) (.int 0)=some (.str ⟨#[c]⟩):=by
 show(if x.length<=Zd then atP ((chS x).map .str) 0 else none)=_
 rw[if_pos h.le];show atP ((chS x).map P.str) ((0:Nat):Int)=_;rw[YA rfl];unfold chS;rw[e];rfl
theorem ZhM(h:Wd x):Zj T (n+2) 211 [.str x,.int m]=some (.bl (Wb x m)):=by
 rw[Zt (f:=c_are_figures) rfl rfl rfl,show ZN c_are_figures.body=[] from rfl];have e:=Zc6 (n:=n) (sg:=FG) (m:=m) h;show Yd (px (Zj T (n+1)) [] c_are_figures.body [some (.str x),some (.int m)])=_;unfold c_are_figures;have e1:pe (Zj T (n+1)) (.call 209 (.aC (.var 0) (.aC (.cst (.str (S "0123456789"))) (.aC (.var 1) .aN))) []) [some (.str x),some (.int m)]=some (.bl (mdB x FG m)):=e
 rw[Yj (v:=.bl (Wb x m)) (by
  rw[pe_and,e1];unfold Wb;cases q:mdB x FG m with
  |false=>rfl
  |true=>
   have hl:1<=x.length:=by
    unfold mdB at q;simp only[Ba,decide_eq_true_eq]at q;omega
   cases e:x.cps.toList with
   |nil=>rw[<-Z0,e]at hl;exact absurd hl (by decide)
   |cons c r=>
    have i0:=ix0 h e;have k1:pe (Zj T (n+1)) (.cmp .Eq (.var 0) (.cst (.str (S "0")))) [some (.str x),some (.int m)]=some (.bl (decide (x=S "0"))):=Zbg;have k2:pe (Zj T (n+1)) (.cmp .NotEq (.ix (.var 0) (.cst (.int 0))) (.cst (.str (S "0")))) [some (.str x),some (.int m)]=some (.bl (!decide ((⟨#[c]⟩:Str)=S "0"))):=by
     rw[Y1,pe_ix];show((ixP (.str x) (.int 0)).bind fun x=>Yu .NotEq x (.str (S "0")))=_
     rw[i0];exact Zf0
    show VM (some (P.bl true)) (pe (Zj T (n+1)) (.or _ _) _) _=_;rw[pe_or,k1,k2];have ef:fz x=(decide (x=S "0")||!decide ((⟨#[c]⟩:Str)=S "0")):=by
     unfold fz;rw[e];by_cases h1:c=48
     ·subst h1
      by_cases h2:r=[]
      ·subst h2
       have:x=S "0":=eq0.mpr e;simp[this]
      ·have:¬x=S "0":=fun z=>by rw[eq0.mp z]at e;cases e;exact h2 rfl
       have h3:(⟨#[48]⟩:Str)=S "0":=ch0.mpr rfl;simp[this,h3,h2]
     ·have h3:¬(⟨#[c]⟩:Str)=S "0":=fun z=>h1 (ch0.mp z)
      simp[h1,h3]
    rw[ef];cases decide (x=S "0")<;>cases decide ((⟨#[c]⟩:Str)=S "0")<;>rfl)]
 rfl
theorem ZdF:∀ c,c < 128->JM FG ⟨#[c]⟩=UD c:=by decide +kernel
theorem ZdQ(h:Wd x)(f:Wb x m=true):V0 x.cps.toList=true:=by
 have hl:=h.len;unfold Wb mdB mkd at f;simp only[Ba,decide_eq_true_eq,List.all_eq_true]at f;obtain⟨⟨⟨f1,_⟩,f3⟩,_⟩:=f;unfold V0;simp only[Ba,decide_eq_true_eq,Bool.not_eq_true',List.isEmpty_eq_false_iff,List.all_eq_true];refine⟨⟨fun z=>?_,fun c hc=>?_⟩,by rw[Z0];omega⟩
 ·rw[<-Z0,z]at f1;exact absurd f1 (by decide)
 ·rw[<-ZdF c (h.asc c hc)]
  exact f3 _ (List.mem_map.mpr ⟨c,hc,rfl⟩)
theorem Zgi(h:V0 (c :: r)=true):c≠45:=by
 unfold V0 at h;simp only[Ba,List.all_cons]at h;have:=h.1.2.1;unfold UD at this;simp only[Ba,decide_eq_true_eq]at this;omega
theorem Zed(f:V0 x.cps.toList=true):QE (.str x)=some (.int (dgV x.cps.toList:Int)):=by
 have e:Wp x=some (dgV x.cps.toList:Int):=by
  unfold Wp;split
  ·rename_i r e
   rw[e]at f;exact absurd rfl (Zgi f)
  ·rw[if_pos f]
 show(match Wp x with
  |some i=>some (P.int i)
  |none=>none)=_
 rw[e]
theorem Zi5(e:x.cps.toList=45 :: r)(f:V0 r=true):QE (.str x)=some (.int (-(dgV r:Int))):=by
 have e:Wp x=some (-(dgV r:Int)):=by
  unfold Wp;rw[e];show(if V0 r=true then some (-(dgV r:Int)) else none)=_
  rw[if_pos f]
 show(match Wp x with
  |some i=>some (P.int i)
  |none=>none)=_
 rw[e]
def tlS(x:Str):Str:=Qr x (some 1) none
theorem Vt:(tlS x).cps.toList=x.cps.toList.drop 1:=by
 show((x.cps.toList.drop (Nat.min 1 x.length)).take (x.length - Nat.min 1 x.length))=_;rw[<-Z0];cases x.cps.toList with
 |nil=>rfl
 |cons c r=>
  have:Nat.min 1 (c :: r).length=1:=by rw[List.length_cons];exact Nat.min_eq_left (by omega)
  rw[this];show r.take (r.length+1 - 1)=r;rw[Nat.add_sub_cancel,List.take_length]
theorem Zlj(h:Wd x):Wd (tlS x):=⟨by
 have:=h.len;rw[<-Z0,Vt,List.length_drop,Z0];omega,fun c hc=>h.asc c (List.mem_of_mem_drop (by rw[<-Vt];exact hc))⟩
theorem Zlg(h:Wd x):Yh (.str x) (some 1) none=some (.str (tlS x)):=by
 show(if x.length<=Zd then some (P.str (Qr x (some 1) none)) else none)=_
 rw[if_pos h.le];rfl
def ngB(x:Str):Bool:=x.cps.toList.head?==some 45
theorem Zlh:stW x (S "-")=ngB x:=by
 unfold stW ngB;show(x.cps.toList.take 1==[45])=_;cases x.cps.toList with
 |nil=>rfl
 |cons c r=>simp
theorem neg0:(x=S "-0")↔x.cps.toList=[45,48]:=⟨fun h=>by rw[h];rfl,fun h=>XZ (h.trans rfl)⟩
def ZaH(x:Str):P:=
 if x=S "-0" then .non
 else if ngB x=true then (if Wb (tlS x) 10=true/\(dgV (x.cps.toList.drop 1):Int)<=1000000000 then .int (-(dgV (x.cps.toList.drop 1):Int)) else .non)
 else if Wb x 10=true/\(dgV x.cps.toList:Int) < 1000000000 then .int (dgV x.cps.toList:Int) else .non
theorem Zkg(h:Wd x):Zj T (n+3) 212 [.str x]=some (ZaH x):=by
 rw[Zt (f:=c_number_in) rfl rfl rfl,show ZN c_number_in.body=[] from rfl];show Yd (px (Zj T (n+2)) [] c_number_in.body [some (.str x),none,none])=_;unfold c_number_in;have k0:pe (Zj T (n+2)) (.starts (.var 0) (.aC (.cst (.str (S "-"))) .aN)) [some (.str x),none,none]=some (.bl (ngB x)):=by
  rw[ZcS];show XY (.str x) (.tup [.str (S "-")])=_;show some (P.bl (stW x (S "-")))=_;rw[Zlh]
 have k1:pe (Zj T (n+2)) (.ife (.starts (.var 0) (.aC (.cst (.str (S "-"))) .aN)) (.slice (.var 0) (.part (.cst (.int 1))) .nop) (.var 0)) [some (.str x),none,none]=some (.str (if ngB x=true then tlS x else x)):=by
  rw[QV,k0];cases ngB x with
  |true=>exact Zlg h
  |false=>rfl
 rw[Zdd k1];simp only[Zs,Zr];generalize hy:(if ngB x=true then tlS x else x)=y
 have wy:Wd y:=by rw[<-hy];split<;>first|exact Zlj h|exact h
 have k2:∀ {z:Ot P},pe (Zj T (n+2)) (.cmp .Eq (.var 0) (.cst (.str (S "-0")))) [some (.str x),some (.str y),z]=some (.bl (decide (x=S "-0"))):=Zbg;have k3:pe (Zj T (n+2)) (.call 211 (.aC (.var 1) (.aC (.cst (.int 10)) .aN)) []) [some (.str x),some (.str y),none]=some (.bl (Wb y 10)):=ZhM (n:=n) wy;by_cases h0:x=S "-0"
 ·rw[Yt (v:=.non) (by rw[pe_or,k2,decide_eq_true h0];rfl) rfl]
  unfold ZaH;rw[if_pos h0];rfl
 ·unfold ZaH
  rw[if_neg h0];cases f:Wb y 10 with
  |false=>
   rw[f]at k3;rw[Yt (v:=.non) (by rw[pe_or,k2,decide_eq_false h0,pe_not,k3];rfl) rfl]
   cases g:ngB x with
   |true=>
    rw[g,if_pos rfl]at hy;rw[if_pos rfl,hy,if_neg (fun z=>by rw[f]at z;exact Bf z.1)];rfl
   |false=>
    rw[g,if_neg Bf]at hy;rw[if_neg Bf,hy,if_neg (fun z=>by rw[f]at z;exact Bf z.1)];rfl
  |true=>
   rw[f]at k3;rw[ZK (by rw[pe_or,k2,decide_eq_false h0,pe_not,k3];rfl)]
   have fy:=ZdQ wy f;have ar:∀ v:Int,Zj T (n+2) 0 [.int v]=some (.int (YF v)):=fun v=>Zc4 (n:=n+1) rfl
   have last:∀ v:Int,QE (.str x)=some (.int v)->Yd (px (Zj T (n+2)) [] (.seq (.set 2 (.intOf (.var 0))) (.seq (.ret (.ife (.cmp .Eq (.call 0 (.aC (.var 2) .aN) []) (.var 2)) (.var 2) (.cst .non))) .skip)) [some (.str x),some (.str y),none])=some (if YF v=v then .int v else .non):=fun v hv=>by
    rw[Zdd (v:=.int v) (by exact hv)]
    simp only[Zs,Zr];rw[Yj (v:=if YF v=v then .int v else .non) (by
     have kk:pe (Zj T (n+2)) (.cmp .Eq (.call 0 (.aC (.var 2) .aN) []) (.var 2)) [some (.str x),some (.str y),some (.int v)]=some (.bl (decide (YF v=v))):=by
      rw[Y1];show((Zj T (n+2) 0 [.int v]).bind fun z=>Yu .Eq z (.int v))=_
      rw[ar];exact ZfZ
     rw[QV,kk];by_cases q:YF v=v
     ·rw[decide_eq_true q,if_pos q];rfl
     ·rw[decide_eq_false q,if_neg q];rfl)]
    rfl
   have rng:∀ v:Int,YF v=v↔-1000000000<=v/\v<=999999999:=fun v=>by unfold YF;omega
   cases g:ngB x with
   |true=>
    rw[g,if_pos rfl]at hy;have e:x.cps.toList=45 :: x.cps.toList.drop 1:=by
     unfold ngB at g;cases e:x.cps.toList with
     |nil=>rw[e]at g;cases g
     |cons c r=>
      rw[e]at g;have g45:c=45:=by simpa using g
      rw[g45];rfl
    rw[<-hy,Vt]at fy;rw[last _ (Zi5 e fy),if_pos rfl,hy,f];by_cases q:(dgV (x.cps.toList.drop 1):Int)<=1000000000
    ·rw[if_pos ((rng _).mpr (by omega)),if_pos ⟨rfl,q⟩]
    ·rw[if_neg (fun z=>q (by have:=(rng _).mp z;omega)),if_neg (fun z=>q z.2)]
   |false=>
    rw[g,if_neg Bf]at hy;rw[if_neg Bf];subst hy;rw[last _ (Zed fy),f];by_cases q:(dgV x.cps.toList:Int) < 1000000000
    ·rw[if_pos ((rng _).mpr (by omega)),if_pos ⟨rfl,q⟩]
    ·rw[if_neg (fun z=>q (by have:=(rng _).mp z;omega)),if_neg (fun z=>q z.2)]
def plP(x:Str):P:=if Wb x 2=true then .int (dgV x.cps.toList:Int) else .non
theorem Zfy(h:Wd x):Zj T (n+3) 213 [.str x]=some (plP x):=by
 rw[Zt (f:=c_place_in) rfl rfl rfl,show ZN c_place_in.body=[] from rfl];show Yd (px (Zj T (n+2)) [] c_place_in.body [some (.str x)])=_;unfold c_place_in plP;have k1:pe (Zj T (n+2)) (.call 211 (.aC (.var 0) (.aC (.cst (.int 2)) .aN)) []) [some (.str x)]=some (.bl (Wb x 2)):=ZhM (n:=n) h;cases f:Wb x 2 with
 |false=>
  rw[f]at k1;rw[Yj (v:=.non) (by rw[QV,k1];rfl)];rfl
 |true=>
  rw[f]at k1;rw[Yj (v:=.int (dgV x.cps.toList:Int)) (by rw[QV,k1];exact Zed (ZdQ h f))];rfl
end
end Dp


namespace Dp
open PySem
section
variable {n:Nat}{x:Str}{m:Int}{c:Int}{i t:Nat}
def dgl(n:Nat):Li Nat:=(Nat.toDigits 10 n).map Char.toNat
theorem VN:∀ c∈dgl n,UD c=true:=by
 intro c hc;obtain⟨ch,hch,rfl⟩:=List.mem_map.mp hc;have h:=Nat.isDigit_of_mem_toDigits (by decide) (by decide) hch
 unfold Char.isDigit at h;simp only[Ba,decide_eq_true_eq]at h;have h1:48<=ch.val.toNat:=h.1;have h2:ch.val.toNat<=57:=h.2;unfold UD;rw[Ba,decide_eq_true_eq,decide_eq_true_eq];exact⟨h1,h2⟩
theorem Qs:0 < (dgl n).length:=by unfold dgl;rw[List.length_map];exact Nat.length_toDigits_pos
theorem Zf8{k:Nat}(hk:1<=k)(h:n < 10 ^ k):(dgl n).length<=k:=by
 unfold dgl;rw[List.length_map];exact PyProof.Rows.digits10_le hk h
theorem Qt:dgV (dgl n)=n:=by
 have h:=Nat.ofDigitChars_ten_toDigits (n:=n);rw[Nat.ofDigitChars_eq_foldl]at h;unfold dgV dgl;rw[List.foldl_map];refine Eq.trans ?_ h
 congr 1
 funext a ch
 show a * 10+(ch.toNat - 48)=10 * a+(ch.toNat - '0'.toNat);rw[Nat.mul_comm];rfl
theorem ZlV:∀ n,n < 10->0 < n->¬(Nat.digitChar n).toNat=48:=by decide
theorem VO:∀ (k n:Nat),n<=k->0 < n->(dgl n).head?≠some 48
 |0,n,h,h0=>by omega
 |k+1,n,h,h0=>by
  unfold dgl;by_cases c:n < 10
  ·rw[Nat.toDigits_of_lt_base c]
   intro e;exact ZlV n c h0 (Option.some.inj e)
  ·rw[Nat.toDigits_of_base_le (by decide) (by omega),List.map_append,List.head?_append]
   have h2:=VO k (n / 10) (by omega) (by omega)
   unfold dgl at h2;have h3:0 < ((Nat.toDigits 10 (n / 10)).map Char.toNat).length:=Qs;cases e:(Nat.toDigits 10 (n / 10)).map Char.toNat with
   |nil=>rw[e]at h3;exact absurd h3 (by decide)
   |cons a l=>rw[e]at h2;exact h2
theorem QS:(nuS (n:Int)).cps.toList=dgl n:=by
 unfold nuS dgl;rw[Str.ofString_eq_toList];show(((toString n).toList.map Char.toNat).toArray).toList=_;rw[List.toList_toArray,Ws]
theorem ZaG:(nuS (Int.negSucc n)).cps.toList=45 :: dgl (n+1):=by
 unfold nuS dgl;rw[Str.ofString_eq_toList];show(((toString (Int.negSucc n)).toList.map Char.toNat).toArray).toList=_;have e:(toString (Int.negSucc n)).toList='-' :: Nat.toDigits 10 (n+1):=by
  show("-"++toString (n+1)).toList=_;rw[String.toList_append,Ws];rfl
 rw[List.toList_toArray,e,List.map_cons];rfl
theorem Qx{k:Nat}(e:x.cps.toList=dgl n)(hk:1<=k)(h:n < 10 ^ k):Wb x (k:Int)=true:=by
 have l1:x.length=(dgl n).length:=by rw[<-Z0,e]
 have l2:=Zf8 hk h;have l3:=Qs (n:=n);unfold Wb mdB mkd;rw[Ba,Ba,Ba,decide_eq_true_eq,decide_eq_true_eq,List.all_eq_true];refine⟨⟨⟨by omega,by omega⟩,fun w hw=>?_⟩,?_⟩
 ·unfold chS at hw
  rw[e]at hw;obtain⟨c,hc,rfl⟩:=List.mem_map.mp hw;have d:=VN c hc;have d2:=d;unfold UD at d2;rw[Ba,decide_eq_true_eq,decide_eq_true_eq]at d2;rw[ZdF c (by omega)]
  exact d
 ·unfold fz
  rw[e];by_cases h0:n=0
  ·subst h0;rfl
  ·have h2:=VO n n (Nat.le_refl _) (by omega)
   cases q:dgl n with
   |nil=>rw[q]at l3;exact absurd l3 (by decide)
   |cons a l=>
    rw[q]at h2;have:a≠48:=fun z=>h2 (by rw[z];rfl)
    show(!(a==48)||l.isEmpty)=true;rw[beq_eq_false_iff_ne.mpr this];rfl
theorem Jo{r:Li Nat}:dgl n≠45 :: r:=by
 intro e;have:=VN (n:=n) 45 (by rw[e];exact Ls)
 exact absurd this (by decide)
theorem Zjf(h:Sm c):ZaH (nuS c)=.int c:=by
 obtain⟨h1,h2⟩:=h;cases c with
 |ofNat k=>
  have h2:(k:Int)<=999999999:=h2;show ZaH (nuS (k:Int))=.int (k:Int);have e:=QS (n:=k);have g:ngB (nuS (k:Int))=false:=by
   unfold ngB;rw[e];cases q:dgl k with
   |nil=>rfl
   |cons a l=>
    have:a≠45:=fun z=>Jo (n:=k) (r:=l) (by rw[q,z])
    show(some a==some 45)=false;simp[this]
  unfold ZaH;rw[if_neg (fun z=>Jo (n:=k) (r:=[48]) (by rw[<-e,neg0.mp z])),g,if_neg Bf,e,Qt,if_pos ⟨Qx (k:=10) e (by decide) (by omega),by omega⟩]
 |negSucc k=>
  have h1:(-1000000000:Int)<=-((k:Int)+1):=h1;have e:=ZaG (n:=k);have g:ngB (nuS (Int.negSucc k))=true:=by
   unfold ngB;rw[e];rfl
  have e2:(tlS (nuS (Int.negSucc k))).cps.toList=dgl (k+1):=by rw[Vt,e];rfl
  have n0:¬nuS (Int.negSucc k)=S "-0":=fun z=>by
   have:=neg0.mp z;rw[e]at this;have h3:=VO (k+1) (k+1) (Nat.le_refl _) (by omega)
   rw[List.cons.injEq]at this;rw[this.2]at h3;exact h3 rfl
  unfold ZaH;rw[if_neg n0,g,if_pos rfl,e,List.drop_one,List.tail_cons,Qt,if_pos ⟨Qx (k:=10) e2 (by decide) (by omega),by omega⟩]
  show P.int (-((k+1:Nat):Int))=_;rw[Int.negSucc_eq]
  congr 1
theorem Zk8(h:t < 100):plP (nuS (t:Int))=.int (t:Int):=by
 have e:=QS (n:=t);unfold plP;rw[if_pos (show Wb (nuS (t:Int)) 2=true from Qx (k:=2) e (by decide) (by omega)),e,Qt]
def AZ:Str:=S "abcdefghijklmnopqrstuvwxyz"
def nmB(x:Str):Bool:=mdB x AZ 8
theorem ZgE:∀ i,i < 5->nmB (leS i)=true:=by decide +kernel
theorem ZlR:∀ c,c < 58->JM AZ ⟨#[c]⟩=false:=by decide +kernel
theorem Zey:∃ a l,(nuS c).cps.toList=a :: l/\a < 58:=by
 cases c with
 |ofNat k=>
  have e:=QS (n:=k);have l3:=Qs (n:=k);cases q:dgl k with
  |nil=>rw[q]at l3;exact absurd l3 (by decide)
  |cons a l=>
   have:=VN (n:=k) a (by rw[q];exact Ls)
   unfold UD at this;rw[Ba,decide_eq_true_eq,decide_eq_true_eq]at this;exact⟨a,l,e.trans q,by omega⟩
 |negSucc k=>exact⟨45,_,ZaG,by decide⟩
theorem ZgS:nmB (nuS c)=false:=by
 obtain⟨a,l,e,h⟩:=Zey (c:=c);unfold nmB mdB mkd chS;rw[e,List.map_cons,List.all_cons,ZlR a h,Bool.false_and,Bool.and_false]
theorem Zlq:∀ i,i < 5->Wd (leS i):=fun i h=>⟨show 1<=60 by decide,fun c hc=>by
 have:c=97+i:=by simpa[leS] using hc
 omega⟩
theorem Zex:∀ a∈(nuS c).cps.toList,a < 58/\45<=a:=by
 intro a ha;cases c with
 |ofNat k=>
  rw[show nuS (Int.ofNat k)=nuS (k:Int) from rfl,QS]at ha;have:=VN a ha;unfold UD at this;rw[Ba,decide_eq_true_eq,decide_eq_true_eq]at this;omega
 |negSucc k=>
  rw[ZaG]at ha;rcases List.mem_cons.mp ha with rfl|ha
  ·omega
  ·have:=VN a ha
   unfold UD at this;rw[Ba,decide_eq_true_eq,decide_eq_true_eq]at this;omega
theorem Zfp(h:(nuS c).length<=13):Wd (nuS c):=⟨by omega,fun a ha=>by have:=Zex a ha;omega⟩
theorem Q8(h:Wd x):Zj T (n+2) 210 [.str x]=some (.bl (nmB x)):=Zii h
end
end Dp


namespace Dp
open PySem
section
variable {n m:Nat}{F:PFn}{π:Zp}{x s:Str}{c:Int}{i t:Nat}{o:Opd}
theorem Zgf{b:Bool}(h:F 210 [.str x]=some (.bl b)):px F [] c_fits.body [some (.str x),some (.str (S "name"))]=some (.rt (.bl b)):=by
 unfold c_fits;rw[Yt (by rfl) (by exact h)]
theorem Zcv{v:Int}(h:F 212 [.str x]=some (.int v)):px F [] c_fits.body [some (.str x),some (.str (S "number"))]=some (.rt (.bl true)):=by
 unfold c_fits;rw[ZK (by rfl),Yt (v:=.bl true) (by rfl) (by
  rw[Y1,show pe F (.call 212 (.aC (.var 0) .aN) []) [some (.str x),some (.str (S "number"))]=some (.int v) from h];rfl)]
theorem Zgg(h:F 210 [.str x]=some (.bl true)):px F [] c_fits.body [some (.str x),some (.str (S "operand"))]=some (.rt (.bl true)):=by
 unfold c_fits;rw[ZK (by rfl),ZK (by rfl),Yt (v:=.bl true) (by rfl) (by
  rw[pe_or,show pe F (.call 210 (.aC (.var 0) .aN) []) [some (.str x),some (.str (S "operand"))]=some (.bl true) from h];rfl)]
theorem Zgh{v:Int}(h:F 210 [.str x]=some (.bl false))(h2:F 212 [.str x]=some (.int v)):px F [] c_fits.body [some (.str x),some (.str (S "operand"))]=some (.rt (.bl true)):=by
 unfold c_fits;rw[ZK (by rfl),ZK (by rfl),Yt (v:=.bl true) (by rfl) (by
  rw[pe_or,show pe F (.call 210 (.aC (.var 0) .aN) []) [some (.str x),some (.str (S "operand"))]=some (.bl false) from h,Y1,show pe F (.call 212 (.aC (.var 0) .aN) []) [some (.str x),some (.str (S "operand"))]=some (.int v) from h2];rfl)]
theorem ZkH(h:PSg s):px F [] c_fits.body [some (.str s),some (.str (S "put sign"))]=some (.rt (.bl true)):=by
 unfold c_fits;rw[ZK (by rfl),ZK (by rfl),ZK (by rfl),Yt (v:=.bl true) (by rfl) (by
  rcases h with h|h|h|h|h<;>subst h<;>rfl)]
theorem ZkG(h:ISg s):px F [] c_fits.body [some (.str s),some (.str (S "if sign"))]=some (.rt (.bl true)):=by
 unfold c_fits;rw[ZK (by rfl),ZK (by rfl),ZK (by rfl),ZK (by rfl),Yt (v:=.bl true) (by rfl) (by
  rcases h with h|h|h|h|h|h<;>subst h<;>rfl)]
theorem ZdO{v:Int}(h:F 213 [.str x]=some (.int v)):px F [] c_fits.body [some (.str x),some (.str (S "place"))]=some (.rt (.bl true)):=by
 unfold c_fits;rw[ZK (by rfl),ZK (by rfl),ZK (by rfl),ZK (by rfl),ZK (by rfl),Yt (v:=.bl true) (by rfl) (by
  rw[Y1,show pe F (.call 213 (.aC (.var 0) .aN) []) [some (.str x),some (.str (S "place"))]=some (.int v) from h];rfl)]
theorem ZkF:px F [] c_fits.body [some (.str (S "go")),some (.str (S "go"))]=some (.rt (.bl true)):=by
 unfold c_fits;rw[ZK (by rfl),ZK (by rfl),ZK (by rfl),ZK (by rfl),ZK (by rfl),ZK (by rfl),Yj (v:=.bl true) (by rfl)]
theorem Xo{k:Str}{b:Bool}(h:px (Zj T n) [] c_fits.body [some (.str x),some (.str k)]=some (.rt (.bl b))):Zj T (n+1) 232 [.str x,.str k]=some (.bl b):=by
 rw[Zt (f:=c_fits) rfl rfl rfl,show ZN c_fits.body=[] from rfl];show Yd (px (Zj T n) [] c_fits.body [some (.str x),some (.str k)])=_;rw[h];rfl
def Fit(n:Nat)(x k:Str):Prop:=Zj T n 232 [.str x,.str k]=some (.bl true)
theorem ZgL(h:i < 5):Zj T (n+2) 210 [.str (leS i)]=some (.bl true):=by rw[Q8 (Zlq i h),ZgE i h]
theorem Zjc(h:Sm c):Zj T (n+2) 210 [.str (nuS c)]=some (.bl false):=by rw[Q8 (Zfp (Ud h)),ZgS]
theorem Za2(h:Sm c):Zj T (n+3) 212 [.str (nuS c)]=some (.int c):=by rw[Zkg (Zfp (Ud h)),Zjf h]
theorem Zk7(h:t < 100):Zj T (n+3) 213 [.str (nuS (t:Int))]=some (.int (t:Int)):=by rw[Zfy (Zfp (ZaF (by omega))),Zk8 h]
theorem VS(h:i < 5):Fit (n+4) (leS i) (S "name"):=Xo (Zgf (ZgL (n:=n+1) h))
theorem VT(h:Sm c):Fit (n+4) (nuS c) (S "number"):=Xo (Zcv (Za2 (n:=n) h))
theorem Zbo(hm:m<=5)(h:Xi m o):Fit (n+4) (opS o) (S "operand"):=by
 cases o with
 |name i=>exact Xo (Zgg (ZgL (n:=n+1) (by have:i < m:=h;omega)))
 |num c=>exact Xo (Zgh (Zjc (n:=n+1) h) (Za2 (n:=n) h))
theorem ZiV(h:PSg s):Fit (n+4) s (S "put sign"):=Xo (ZkH h)
theorem ZiU(h:ISg s):Fit (n+4) s (S "if sign"):=Xo (ZkG h)
theorem Zcx(h:t < 100):Fit (n+4) (nuS (t:Int)) (S "place"):=Xo (ZdO (Zk7 (n:=n) h))
theorem ZiT:Fit (n+4) (S "go") (S "go"):=Xo ZkF
def kinds(k:Str):Li Str:=if k=S "take" then [S "name",S "number",S "number"] else if k=S "name" then [S "name"] else if k=S "put" then [S "name",S "operand",S "put sign",S "operand"] else if k=S "if" then [S "operand",S "if sign",S "operand",S "go",S "place"] else if k=S "go" then [S "place"] else if k=S "tell" then [S "operand"] else []
def Vy(k:Str):Prop:=k=S "take"\/k=S "name"\/k=S "put"\/k=S "if"\/k=S "go"\/k=S "tell"\/k=S "skip"
def LKf:CE:=(.look [(S "take"),(S "name"),(S "put"),(S "if"),(S "go"),(S "tell"),(S "skip")] [(.tup [(.str (S "name")),(.str (S "number")),(.str (S "number"))]),(.tup [(.str (S "name"))]),(.tup [(.str (S "name")),(.str (S "operand")),(.str (S "put sign")),(.str (S "operand"))]),(.tup [(.str (S "operand")),(.str (S "if sign")),(.str (S "operand")),(.str (S "go")),(.str (S "place"))]),(.tup [(.str (S "place"))]),(.tup [(.str (S "operand"))]),(.tup [])] (.ix (.var 0) (.cst (.int 0))))
theorem ZgC{k:P}{b:Bool}{ws:Li P}:pe F (.ix (.var 0) (.cst (.int 0))) (some (.lst b (k :: ws)) :: π)=some k:=by
 show atP (k :: ws) ((0:Nat):Int)=_;rw[YA rfl];rfl
theorem Zeo{k:Str}{b:Bool}{ws:Li P}(h:Vy k):pe F LKf (some (.lst b (.str k :: ws)) :: π)=some (.tup ((kinds k).map P.str)):=by
 have e:pe F (.ix (.var 0) (.cst (.int 0))) (some (.lst b (.str k :: ws)) :: π)=some (.str k):=ZgC;unfold LKf;rw[ZgZ,e];rcases h with h|h|h|h|h|h|h<;>subst h<;>rfl
theorem sl1{b:Bool}{k:P}{ws:Li P}:pe F (.slice (.var 0) (.part (.cst (.int 1))) .nop) (some (.lst b (k :: ws)) :: π)=some (.lst true ws):=by
 show some (P.lst true (UB (k :: ws) (some 1) none))=_
 congr 2
 show((k :: ws).drop (Nat.min 1 (k :: ws).length)).take ((k :: ws).length - Nat.min 1 (k :: ws).length)=ws;have:Nat.min 1 (k :: ws).length=1:=by rw[List.length_cons];exact Nat.min_eq_left (by omega)
 rw[this,List.length_cons,Nat.add_sub_cancel];exact List.take_length
theorem Vu{α β:Type}{f:α->β}:∀ {xs ys:Li α},(xs.map f).zip (ys.map f)=(xs.zip ys).map fun p=>(f p.1,f p.2)
 |[],_=>rfl
 |_ :: _,[]=>rfl
 |x :: xs,y :: ys=>by
  show(f x,f y) :: (xs.map f).zip (ys.map f)=_;rw[Vu];rfl
theorem ZfH{k:Str}{b:Bool}{ws:Li Str}(hn:ws.length<=900)(h:∀ p∈ws.zip (kinds k),F 232 [.str p.1,.str p.2]=some (.bl true)):pe F (.all Xw) [some (.lst b ((k :: ws).map P.str)),some (.tup ((kinds k).map P.str))]=some (.bl true):=by
 have e0:pe F (.aC (.slice (.var 0) (.part (.cst (.int 1))) .nop) (.aC (.var 1) .aN)) [some (.lst b ((k :: ws).map P.str)),some (.tup ((kinds k).map P.str))]=some (.tup [.lst true (ws.map P.str),.tup ((kinds k).map P.str)]):=by
  rw[ZB,List.map_cons,sl1];rfl
 have ez:ZbX (ws.map P.str) ((kinds k).map P.str)=(ws.zip (kinds k)).map fun p=>P.tup [.str p.1,.str p.2]:=by
  unfold ZbX;rw[Vu,List.map_map];rfl
 have hl:(ws.zip (kinds k)).length<=900:=by rw[List.length_zip];omega
 unfold Xw;rw[ZeI,ZeK e0 (show XO _=some _ from rfl) (by rw[ez,List.length_map];omega),ez]
 rw[Qq (enc:=fun p:Str×Str=>P.tup [.str p.1,.str p.2]) (g:=fun _=>P.bl true) (fun _ _=>rfl) (fun p hp=>h p hp),Ob,Ob]
 have:(ws.zip (kinds k)).map (fun _=>P.bl true)=((ws.zip (kinds k)).map fun _=>true).map P.bl:=by rw[List.map_map];rfl
 rw[this,U5]
 congr 2
 rw[List.all_map,List.all_eq_true];exact fun _ _=>rfl
theorem ZcG{k:Str}{b:Bool}{ws:Li Str}(hk:Vy k)(hl:ws.length=(kinds k).length)(h:∀ p∈ws.zip (kinds k),F 232 [.str p.1,.str p.2]=some (.bl true))(ht:k=S "take"->∃ x y z a b,ws=[x,y,z]/\F 212 [.str y]=some (.int a)/\F 212 [.str z]=some (.int b)/\a<=b):px F [] c_is_line.body [some (.lst b ((k :: ws).map P.str)),none]=some (.rt (.bl true)):=by
 have l5:(kinds k).length<=5:=by rcases hk with h|h|h|h|h|h|h<;>subst h<;>exact(by decide)
 unfold c_is_line;have e0:pe F (.cmp .NotIn (.ix (.var 0) (.cst (.int 0))) (.cst (.kt [(S "take"),(S "name"),(S "put"),(S "if"),(S "go"),(S "tell"),(S "skip")]))) [some (.lst b ((k :: ws).map P.str)),none]=some (.bl false):=by
  rw[Y1,List.map_cons,ZgC];rcases hk with h|h|h|h|h|h|h<;>subst h<;>rfl
 rw[ZK e0,Zdd (v:=.tup ((kinds k).map P.str)) (by exact Zeo hk)]
 simp only[Zs,Zr];have e1:pe F (.cmp .NotEq (.len (.var 0)) (.bin .Add (.cst (.int 1)) (.len (.var 1)))) [some (.lst b ((k :: ws).map P.str)),some (.tup ((kinds k).map P.str))]=some (.bl false):=by
  show some (P.bl (!decide ((((k :: ws).map P.str).length:Int)=1+(((kinds k).map P.str).length:Int))))=_;rw[List.length_map,List.length_map,List.length_cons,hl,decide_eq_true (by omega)]
  rfl
 rw[ZK (by rw[pe_or,e1,pe_not,ZfH (by omega) h];rfl)]
 by_cases c:k=S "take"
 ·obtain⟨x,y,z,a,a',rfl,hy,hz,hle⟩:=ht c
  subst c;rw[Yj (v:=.bl true) (by
   have z1:pe F (.call 212 (.aC (.ix (.var 0) (.cst (.int 2))) .aN) []) [some (.lst b ((S "take" :: [x,y,z]).map P.str)),some (.tup ((kinds (S "take")).map P.str))]=some (.int a):=hy;have z2:pe F (.call 212 (.aC (.ix (.var 0) (.cst (.int 3))) .aN) []) [some (.lst b ((S "take" :: [x,y,z]).map P.str)),some (.tup ((kinds (S "take")).map P.str))]=some (.int a'):=hz;rw[pe_or,show pe F (.cmp .NotEq (.ix (.var 0) (.cst (.int 0))) (.cst (.str (S "take")))) [some (.lst b ((S "take" :: [x,y,z]).map P.str)),some (.tup ((kinds (S "take")).map P.str))]=some (.bl false) from rfl,Y1,z1,z2]
   show some (P.bl (decide (a<=a')))=_;rw[decide_eq_true hle])]
 ·rw[Yj (v:=.bl true) (by
   rw[pe_or,show pe F (.cmp .NotEq (.ix (.var 0) (.cst (.int 0))) (.cst (.str (S "take")))) [some (.lst b ((k :: ws).map P.str)),some (.tup ((kinds k).map P.str))]=some (.bl (!decide (k=S "take"))) from(by rw[Y1,List.map_cons,ZgC];rfl),decide_eq_false c]
   rfl)]
theorem Vx{k:Str}{b:Bool}{ws:Li Str}(hk:Vy k)(hl:ws.length=(kinds k).length)(h:∀ p∈ws.zip (kinds k),Fit n p.1 p.2)(ht:k=S "take"->∃ x y z a b,ws=[x,y,z]/\Zj T n 212 [.str y]=some (.int a)/\Zj T n 212 [.str z]=some (.int b)/\a<=b):Zj T (n+1) 233 [.lst b ((k :: ws).map P.str)]=some (.bl true):=by
 rw[Zt (f:=c_is_line) rfl rfl rfl,show ZN c_is_line.body=[] from rfl];show Yd (px (Zj T n) [] c_is_line.body [some (.lst b ((k :: ws).map P.str)),none])=_;rw[ZcG hk hl h ht];rfl
end
end Dp


namespace Dp
open PySem
section
variable {n m:Nat}{F:PFn}{π:Zp}{x s:Str}{c:Int}{i t:Nat}{o:Opd}{b:Bool}
def nmP(m:Nat):Li P:=(List.range m).map fun i=>.tup [.str (leS i),.int (i:Int)]
theorem ZkU(hm:m<=5)(h:i < m):ixP (.dic b (nmP m)) (.str (leS i))=some (.int (i:Int)):=by
 have:(m=1\/m=2\/m=3\/m=4\/m=5)/\(i=0\/i=1\/i=2\/i=3\/i=4):=by omega
 obtain⟨h1,h2⟩:=this;rcases h1 with rfl|rfl|rfl|rfl|rfl<;>rcases h2 with rfl|rfl|rfl|rfl|rfl<;>first|rfl | (exfalso;omega)
theorem Zmi{d:P}(h:F 210 [.str x]=some (.bl true)){v:P}(e:ixP d (.str x)=some v):px F [] c_operand_in.body [some (.str x),some d]=some (.rt (.tup [.str (S "name"),v])):=by
 unfold c_operand_in;rw[Yt (v:=.tup [.str (S "name"),v]) (by exact h) (by
  rw[QY,ZB,ZB,show pe F (.ix (.var 1) (.var 0)) [some (.str x),some d]=some v from e];rfl)]
theorem Zmj{d:P}{v:P}(h:F 210 [.str x]=some (.bl false))(e:F 212 [.str x]=some v):px F [] c_operand_in.body [some (.str x),some d]=some (.rt (.tup [.str (S "number"),v])):=by
 unfold c_operand_in;rw[ZK (by exact h),Yj (v:=.tup [.str (S "number"),v]) (by
  rw[QY,ZB,ZB,show pe F (.call 212 (.aC (.var 0) .aN) []) [some (.str x),some d]=some v from e];rfl)]
theorem Zc7{d:P}{v:P}(h:px (Zj T n) [] c_operand_in.body [some (.str x),some d]=some (.rt v)):Zj T (n+1) 235 [.str x,d]=some v:=by
 rw[Zt (f:=c_operand_in) rfl rfl rfl,show ZN c_operand_in.body=[] from rfl];show Yd (px (Zj T n) [] c_operand_in.body [some (.str x),some d])=_;rw[h];rfl
inductive Pr(m:Nat):Str×Str->List P->List Str->Prop
 |name (i:Nat) (h:i < m):Pr m (leS i,S "name") [.int (i:Int)] [leS i]
 |opn (i:Nat) (h:i < m):Pr m (leS i,S "operand") [Ya (.name i)] [leS i]
 |opc (c:Int) (h:Sm c):Pr m (nuS c,S "operand") [Ya (.num c)] []
 |ps (s:Str) (h:PSg s):Pr m (s,S "put sign") [.str s] []
 |is (s:Str) (h:ISg s):Pr m (s,S "if sign") [.str s] []
 |go:Pr m (S "go",S "go") [] []
 |pl (t:Nat) (h:t < 100):Pr m (nuS (t:Int),S "place") [.int (t:Int)] []
inductive Prs(m:Nat):List (Str×Str)->List P->List Str->Prop
 |nil:Prs m [] [] []
 |cons {p:Str×Str}{l:List (Str×Str)}{ts us:List P}{ns ms:List Str} (h:Pr m p ts ns) (r:Prs m l us ms):Prs m (p :: l) (ts++us) (ns++ms)
theorem Pr.fit{p:Str×Str}{ts:Li P}{ns:Li Str}(hm:m<=5)(h:Pr m p ts ns):Fit (n+4) p.1 p.2:=by
 cases h with
 |name i h=>exact VS (by omega)
 |opn i h=>exact Zbo hm (o:=.name i) h
 |opc c h=>exact Zbo hm (o:=.num c) h
 |ps s h=>exact ZiV h
 |is s h=>exact ZiU h
 |go=>exact ZiT
 |pl t h=>exact Zcx h
theorem Prs.fit{l:Li (Str×Str)}{ts:Li P}{ns:Li Str}(hm:m<=5)(h:Prs m l ts ns):∀ p∈l,Fit (n+4) p.1 p.2:=by
 induction h with
 |nil=>exact fun p hp=>absurd hp (List.not_mem_nil)
 |cons h r ih=>
  intro p hp;rcases List.mem_cons.mp hp with rfl|hp
  ·exact h.fit hm
  ·exact ih p hp
theorem Prs.names{l:Li (Str×Str)}{ts:Li P}{ns:Li Str}(h:Prs m l ts ns):∀ w∈ns,∃ i,i < m/\w=leS i:=by
 induction h with
 |nil=>exact fun p hp=>absurd hp (List.not_mem_nil)
 |cons h r ih=>
  intro w hw;rcases List.mem_append.mp hw with hw|hw
  ·cases h with
   |name i h=>exact⟨i,h,List.mem_singleton.mp hw⟩
   |opn i h=>exact⟨i,h,List.mem_singleton.mp hw⟩
   |_=>exact absurd hw (List.not_mem_nil)
  ·exact ih w hw
theorem Prs.len{l:Li (Str×Str)}{ts:Li P}{ns:Li Str}(h:Prs m l ts ns):ts.length<=l.length/\ns.length<=l.length:=by
 induction h with
 |nil=>exact⟨Nat.le_refl _,Nat.le_refl _⟩
 |cons h r ih=>
  rw[List.length_append,List.length_append,List.length_cons];cases h<;>simp only[List.length_cons,List.length_nil]<;>omega
theorem ZgR{p:Str×Str}{ts acc:Li P}{ns:Li Str}{x0:Ot P}(h:Pr m p ts ns)(hm:m<=5)(hl:acc.length < 1000)(e1:∀ i,i < 5->F 210 [.str (leS i)]=some (.bl true))(e2:∀ c,Sm c->F 210 [.str (nuS c)]=some (.bl false)) :
  px F [1] ZG [x0,some (.lst true acc),some (.str p.1),some (.str p.2)]=some (.nx [x0,some (.lst true (acc++ns.map P.str)),some (.str p.1),some (.str p.2)]):=by
 have yes:∀ {w k:Str} (h1:F 210 [.str w]=some (.bl true)) (hk:pe F (.cmp .In (.var 3) (.tupE (.aC (.cst (.str (S "name"))) (.aC (.cst (.str (S "operand"))) .aN)))) [x0,some (.lst true acc),some (.str w),some (.str k)]=some (.bl true)),px F [1] ZG [x0,some (.lst true acc),some (.str w),some (.str k)]=some (.nx [x0,some (.lst true (acc++[.str w])),some (.str w),some (.str k)]):=by
  intro w k h1 hk;unfold ZG;have z:pe F (.call 210 (.aC (.var 2) .aN) []) [x0,some (.lst true acc),some (.str w),some (.str k)]=some (.bl true):=h1;rw[Zi,ZI,pe_and,hk,Zdz,if_pos rfl,z,Zu,if_pos rfl,Zi,Ul (xs:=acc) rfl,show pe F (.var 2) [x0,some (.lst true acc),some (.str w),some (.str k)]=some (.str w) from rfl,Ob,if_pos (by rw[decide_eq_true (show acc.length < Zd by unfold Zd;omega)];rfl),Zg,Zo,Zg,Zo]
  rfl
 have no:∀ {w k:Str} (hk:pe F (.and (.cmp .In (.var 3) (.tupE (.aC (.cst (.str (S "name"))) (.aC (.cst (.str (S "operand"))) .aN)))) (.call 210 (.aC (.var 2) .aN) [])) [x0,some (.lst true acc),some (.str w),some (.str k)]=some (.bl false)),px F [1] ZG [x0,some (.lst true acc),some (.str w),some (.str k)]=some (.nx [x0,some (.lst true (acc++[])),some (.str w),some (.str k)]):=by
  intro w k hk;unfold ZG;rw[Zi,ZI,hk,Zu,if_neg Bf,Zo,Zg,Zo,List.append_nil]
 cases h with
 |name i h=>exact yes (e1 i (by omega)) rfl
 |opn i h=>exact yes (e1 i (by omega)) rfl
 |opc c h=>exact no (by
   rw[pe_and,show pe F (.call 210 (.aC (.var 2) .aN) []) [x0,some (.lst true acc),some (.str (nuS c)),some (.str (S "operand"))]=some (.bl false) from e2 c h];rfl)
 |ps s h=>exact no rfl
 |is s h=>exact no rfl
 |go=>exact no rfl
 |pl t h=>exact no rfl
theorem ZbD{x0:Ot P}(hm:m<=5)(e1:∀ i,i < 5->F 210 [.str (leS i)]=some (.bl true))(e2:∀ c,Sm c->F 210 [.str (nuS c)]=some (.bl false)):∀ {l:Li (Str×Str)}{ts:Li P}{ns:Li Str},Prs m l ts ns->∀ {acc:Li P}{x2 x3:Ot P},acc.length+ns.length < 900->
  ∃ y2 y3,Xk (fun x y π=>px F [1] ZG (ZM (ZM π 2 x) 3 y)) (l.map fun p=>(P.str p.1,P.str p.2)) [x0,some (.lst true acc),x2,x3]=some (.nx [x0,some (.lst true (acc++ns.map P.str)),y2,y3])
 |_,_,_,.nil,acc,x2,x3,_=>⟨x2,x3,by rw[show List.map P.str []=[] from rfl,List.append_nil];rfl⟩
 |_,_,_,.cons (p:=p) (l:=l) (ns:=ns) (ms:=ms) h r,acc,x2,x3,hl=>by
  rw[List.length_append]at hl;have e:=ZgR (x0:=x0) (acc:=acc) h hm (by omega) e1 e2
  obtain⟨y2,y3,e3⟩:=ZbD (x0:=x0) hm e1 e2 r (acc:=acc++ns.map P.str) (x2:=some (.str p.1)) (x3:=some (.str p.2)) (by rw[List.length_append,List.length_map];omega)
  refine⟨y2,y3,?_⟩;rw[List.map_append,<-List.append_assoc,<-e3];show(match px F [1] ZG [x0,some (.lst true acc),some (.str p.1),some (.str p.2)] with
   |some (.nx π')=>Xk _ (l.map fun p:Str×Str=>(P.str p.1,P.str p.2)) π'
   |some (.ct π')=>Xk _ (l.map fun p:Str×Str=>(P.str p.1,P.str p.2)) π'
   |some (.bk π')=>some (.nx π')
   |some (.rt v)=>some (.rt v)
   |none=>none)=_
  rw[e]
theorem Zfx{k:Str}{ws ns:Li Str}{ts:Li P}(hm:m<=5)(hk:Vy k)(h:Prs m (ws.zip (kinds k)) ts ns)(hn:ns.length<=5):Zj T (n+3) 234 [.lst b ((k :: ws).map P.str)]=some (.lst true (ns.map P.str)):=by
 rw[Zt (f:=c_names_read) rfl rfl rfl,show ZN c_names_read.body=[1] from rfl];show Yd (px (Zj T (n+2)) [1] c_names_read.body [some (.lst b ((k :: ws).map P.str)),none,none,none])=_;unfold c_names_read;rw[Zi,XW (p:=.lst true []) (by rfl) rfl rfl,Zg]
 simp only[Zs,Zr];obtain⟨y2,y3,e⟩:=ZbD (x0:=some (.lst b ((k :: ws).map P.str))) (F:=Zj T (n+2)) hm (fun i h=>ZgL h) (fun c h=>Zjc h) h (acc:=[]) (x2:=none) (x3:=none) (by rw[List.length_nil];omega)
 rw[Zi,ZbM (m:=true) (xs:=ws.map P.str) (ys:=(kinds k).map P.str) (by
  rw[ZB,List.map_cons,sl1,ZB,show pe (Zj T (n+2)) (.look _ _ _) [some (.lst b (.str k :: ws.map P.str)),some (.lst true []),none,none]=some (.tup ((kinds k).map P.str)) from Zeo hk];rfl) rfl,Vu,e,Zg,Yj (v:=.lst true (ns.map P.str)) (by rfl)]
 rfl
theorem Zha{p:Str×Str}{ts acc:Li P}{ns:Li Str}{x0:Ot P}{d:P}(h:Pr m p ts ns)(hl:acc.length < 1000)(e1:∀ i,i < m->ixP d (.str (leS i))=some (.int (i:Int)))(e2:∀ i,i < m->F 235 [.str (leS i),d]=some (Ya (.name i)))(e3:∀ c,Sm c->F 235 [.str (nuS c),d]=some (Ya (.num c)))(e4:∀ t:Nat,t < 100->F 213 [.str (nuS (t:Int))]=some (.int (t:Int))) :
  px F [2,2,2,2] YJ [x0,some d,some (.lst true acc),some (.str p.1),some (.str p.2)]=some (.nx [x0,some d,some (.lst true (acc++ts)),some (.str p.1),some (.str p.2)]):=by
 have hs:decide (acc.length < Zd)=true:=decide_eq_true (by unfold Zd;omega)
 have ap:∀ {w k:Str}{a:CE}{v:P},pe F a [x0,some d,some (.lst true acc),some (.str w),some (.str k)]=some v->noM [2,2,2,2] a=true->px F [2,2,2,2] (.seq (.app 2 a) .skip) [x0,some d,some (.lst true acc),some (.str w),some (.str k)]=some (.nx [x0,some d,some (.lst true (acc++[v])),some (.str w),some (.str k)]):=by
  intro w k a v e hn;rw[Zi,Ul (xs:=acc) rfl,e,Ob,if_pos (by unfold ZP;rw[hs,hn];rfl),Zg,Zo]
  rfl
 have c1:∀ {w k:Str}{l:Str},pe F (.cmp .Eq (.var 4) (.cst (.str l))) [x0,some d,some (.lst true acc),some (.str w),some (.str k)]=some (.bl (decide (k=l))):=rfl;have c2:∀ {w k:Str}{l:Str},pe F (.cmp .NotEq (.var 4) (.cst (.str l))) [x0,some d,some (.lst true acc),some (.str w),some (.str k)]=some (.bl (!decide (k=l))):=rfl;have q:(S "operand"=S "name")=False/\(S "put sign"=S "name")=False/\(S "put sign"=S "operand")=False/\(S "put sign"=S "place")=False/\(S "put sign"=S "go")=False/\(S "if sign"=S "name")=False/\(S "if sign"=S "operand")=False/\(S "if sign"=S "place")=False/\(S "if sign"=S "go")=False/\(S "go"=S "name")=False/\(S "go"=S "operand")=False/\(S "go"=S "place")=False/\(S "place"=S "name")=False/\(S "place"=S "operand")=False:=by simp
 obtain⟨q1,q2,q3,q4,q5,q6,q7,q8,q9,q10,q11,q12,q13,q14⟩:=q;unfold YJ;cases h with
 |name i h=>
  rw[Zi,ZI,c1,Zu,if_pos (by rfl),ap (v:=.int (i:Int)) (by exact e1 i h) rfl,Zg,Zo]
 |opn i h=>
  rw[Zi,ZI,c1,Zu,if_neg (by simp),Zi,ZI,c1,Zu,if_pos (by rfl),ap (v:=Ya (.name i)) (by exact e2 i h) rfl,Zg,Zo,Zg,Zo]
 |opc c h=>
  rw[Zi,ZI,c1,Zu,if_neg (by simp),Zi,ZI,c1,Zu,if_pos (by rfl),ap (v:=Ya (.num c)) (by exact e3 c h) rfl,Zg,Zo,Zg,Zo]
 |ps s h=>
  rw[Zi,ZI,c1,Zu,if_neg (by simp),Zi,ZI,c1,Zu,if_neg (by simp),Zi,ZI,c1,Zu,if_neg (by simp),Zi,ZI,c2,Zu,if_pos (by simp),ap (v:=.str s) rfl rfl,Zg,Zo,Zg,Zo,Zg,Zo,Zg,Zo]
 |is s h=>
  rw[Zi,ZI,c1,Zu,if_neg (by simp),Zi,ZI,c1,Zu,if_neg (by simp),Zi,ZI,c1,Zu,if_neg (by simp),Zi,ZI,c2,Zu,if_pos (by simp),ap (v:=.str s) rfl rfl,Zg,Zo,Zg,Zo,Zg,Zo,Zg,Zo]
 |go=>
  rw[Zi,ZI,c1,Zu,if_neg (by simp),Zi,ZI,c1,Zu,if_neg (by simp),Zi,ZI,c1,Zu,if_neg (by simp),Zi,ZI,c2,Zu,if_neg (by simp),Zo,Zg,Zo,Zg,Zo,Zg,Zo,Zg,Zo,List.append_nil]
 |pl t h=>
  rw[Zi,ZI,c1,Zu,if_neg (by simp),Zi,ZI,c1,Zu,if_neg (by simp),Zi,ZI,c1,Zu,if_pos (by rfl),ap (v:=.int (t:Int)) (by exact e4 t h) rfl,Zg,Zo,Zg,Zo,Zg,Zo]
theorem ZbO{x0:Ot P}{d:P}(e1:∀ i,i < m->ixP d (.str (leS i))=some (.int (i:Int)))(e2:∀ i,i < m->F 235 [.str (leS i),d]=some (Ya (.name i)))(e3:∀ c,Sm c->F 235 [.str (nuS c),d]=some (Ya (.num c)))(e4:∀ t:Nat,t < 100->F 213 [.str (nuS (t:Int))]=some (.int (t:Int))):∀ {l:Li (Str×Str)}{ts:Li P}{ns:Li Str},Prs m l ts ns->∀ {acc:Li P}{x2 x3:Ot P},acc.length+ts.length < 900->
  ∃ y2 y3,Xk (fun x y π=>px F [2,2,2,2] YJ (ZM (ZM π 3 x) 4 y)) (l.map fun p=>(P.str p.1,P.str p.2)) [x0,some d,some (.lst true acc),x2,x3]=some (.nx [x0,some d,some (.lst true (acc++ts)),y2,y3])
 |_,_,_,.nil,acc,x2,x3,_=>⟨x2,x3,by rw[List.append_nil];rfl⟩
 |_,_,_,.cons (p:=p) (l:=l) (ts:=ts) h r,acc,x2,x3,hl=>by
  rw[List.length_append]at hl;have e:=Zha (x0:=x0) (acc:=acc) h (by omega) e1 e2 e3 e4
  obtain⟨y2,y3,e5⟩:=ZbO (x0:=x0) e1 e2 e3 e4 r (acc:=acc++ts) (x2:=some (.str p.1)) (x3:=some (.str p.2)) (by rw[List.length_append];omega)
  refine⟨y2,y3,?_⟩;rw[<-List.append_assoc,<-e5];show(match px F [2,2,2,2] YJ [x0,some d,some (.lst true acc),some (.str p.1),some (.str p.2)] with
   |some (.nx π')=>Xk _ (l.map fun p:Str×Str=>(P.str p.1,P.str p.2)) π'
   |some (.ct π')=>Xk _ (l.map fun p:Str×Str=>(P.str p.1,P.str p.2)) π'
   |some (.bk π')=>some (.nx π')
   |some (.rt v)=>some (.rt v)
   |none=>none)=_
  rw[e]
theorem Zfz{k:Str}{ws ns:Li Str}{ts:Li P}{b':Bool}(hm:m<=5)(hk:Vy k)(h:Prs m (ws.zip (kinds k)) ts ns)(hn:ts.length<=5):Zj T (n+5) 236 [.lst b ((k :: ws).map P.str),.dic b' (nmP m)]=some (.tup (.str k :: ts)):=by
 rw[Zt (f:=c_row_of) rfl rfl rfl,show ZN c_row_of.body=[2,2,2,2] from rfl];show Yd (px (Zj T (n+4)) [2,2,2,2] c_row_of.body [some (.lst b ((k :: ws).map P.str)),some (.dic b' (nmP m)),none,none,none])=_;unfold c_row_of;rw[Zi,XW (p:=.lst true [.str k]) (by
  rw[QX,ZB,List.map_cons,ZgC];rfl) rfl rfl,Zg]
 simp only[Zs,Zr];have a1:∀ i,i < m->ixP (.dic b' (nmP m)) (.str (leS i))=some (.int (i:Int)):=fun i h=>ZkU hm h
 obtain⟨y2,y3,e⟩:=ZbO (x0:=some (.lst b ((k :: ws).map P.str))) (F:=Zj T (n+4)) a1 (fun i h=>Zc7 (Zmi (ZgL (n:=n+1) (by omega)) (a1 i h))) (fun c h=>Zc7 (Zmj (Zjc (n:=n+1) h) (Za2 (n:=n) h))) (fun t h=>Zk7 (n:=n+1) h) h (acc:=[.str k]) (x2:=none) (x3:=none) (by rw[List.length_singleton];omega)
 rw[Zi,ZbM (m:=true) (xs:=ws.map P.str) (ys:=(kinds k).map P.str) (by
  rw[ZB,List.map_cons,sl1,ZB,show pe (Zj T (n+4)) (.look _ _ _) [some (.lst b (.str k :: ws.map P.str)),some (.dic b' (nmP m)),some (.lst true [.str k]),none,none]=some (.tup ((kinds k).map P.str)) from Zeo hk];rfl) rfl,Vu,e,Zg,Yj (v:=.tup (.str k :: ts)) (by rfl)]
 rfl
end
end Dp


namespace Dp
open PySem
section
variable {n m:Nat}{F:PFn}{π:Zp}{x s:Str}{c:Int}{i t:Nat}{o:Opd}{b:Bool}{r:Row}{p:Prog}{tk:Li (Int×Int)}
structure Lr(m:Nat)(r:Row)(k:Str)(ws:List Str)(ts:List P)(ns:List Str):Prop where
 wo:woS r=k :: ws
 wd:Vy k
 nt:k≠S "take"/\k≠S "name"
 ln:ws.length=(kinds k).length
 pr:Prs m (ws.zip (kinds k)) ts ns
 en:Zk r=.tup (.str k :: ts)
 l5:ws.length<=5
theorem Uk(h:Xi m o):∃ ns,Pr m (opS o,S "operand") [Ya o] ns:=by
 cases o with
 |name i=>exact⟨_,.opn i h⟩
 |num c=>exact⟨_,.opc c h⟩
theorem ZjD{q:Nat}(hq:q < 100)(h:YU m q r)(hs:Xp r):∃ k ws ts ns,Lr m r k ws ts ns:=by
 have e:kinds (S "put")=[S "name",S "operand",S "put sign",S "operand"]/\kinds (S "if")=[S "operand",S "if sign",S "operand",S "go",S "place"]/\kinds (S "go")=[S "place"]/\kinds (S "tell")=[S "operand"]/\kinds (S "skip")=[]:=⟨rfl,rfl,rfl,rfl,rfl⟩
 have d:(S "put"≠S "take"/\S "put"≠S "name")/\(S "if"≠S "take"/\S "if"≠S "name")/\(S "go"≠S "take"/\S "go"≠S "name")/\(S "tell"≠S "take"/\S "tell"≠S "name")/\(S "skip"≠S "take"/\S "skip"≠S "name"):=by simp
 obtain⟨e1,e2,e3,e4,e5⟩:=e;obtain⟨d1,d2,d3,d4,d5⟩:=d;cases r with
 |put x y s z=>
  obtain⟨h1,h2,h3⟩:=h;obtain⟨n1,q1⟩:=Uk h2;obtain⟨n2,q2⟩:=Uk h3;exact⟨S "put",[leS x,opS y,s,opS z],_,_,rfl,.inr (.inr (.inl rfl)),d1,by rw[e1];rfl,by rw[e1];exact .cons (.name x h1) (.cons q1 (.cons (.ps s hs) (.cons q2 .nil))),rfl,(show 4<=5 by decide)⟩
 |ifr y s z t=>
  obtain⟨h1,h2,h3⟩:=h;obtain⟨n1,q1⟩:=Uk h1;obtain⟨n2,q2⟩:=Uk h2;exact⟨S "if",[opS y,s,opS z,S "go",nuS (t:Int)],_,_,rfl,.inr (.inr (.inr (.inl rfl))),d2,by rw[e2];rfl,by rw[e2];exact .cons q1 (.cons (.is s hs) (.cons q2 (.cons .go (.cons (.pl t (by omega)) .nil)))),rfl,(show 5<=5 by decide)⟩
 |go t=>exact⟨S "go",[nuS (t:Int)],_,_,rfl,.inr (.inr (.inr (.inr (.inl rfl)))),d3,by rw[e3];rfl,by rw[e3];exact .cons (.pl t (by have:t<=q:=h;omega)) .nil,rfl,(show 1<=5 by decide)⟩
 |tell y=>
  obtain⟨n1,q1⟩:=Uk (show Xi m y from h);exact⟨S "tell",[opS y],_,_,rfl,.inr (.inr (.inr (.inr (.inr (.inl rfl))))),d4,by rw[e4];rfl,by rw[e4];exact .cons q1 .nil,rfl,(show 1<=5 by decide)⟩
 |skip=>exact⟨S "skip",[],_,_,rfl,.inr (.inr (.inr (.inr (.inr (.inr rfl))))),d5,rfl,by rw[e5];exact .nil,rfl,(show 0<=5 by decide)⟩
def aim:Row->Ot Nat
 |.ifr _ _ _ t=>some t
 |.go t=>some t
 |_=>none
def Xa(m:Nat):Row->Row
 |.ifr y s z t=>.ifr y s z (if m < t then m else t)
 |.go t=>.go (if m < t then m else t)
 |r=>r
theorem ZdC{x0:Ot P}{acc:Li P}{q:Nat}(hl:acc.length < 1000):px F [2] Ye [x0,some (.int (q:Int)),some (.lst true acc),some (Zk r)]=some (.nx [x0,some (.int (q:Int)),some (.lst true (acc++[Zk (Xa q r)])),some (Zk (Xa q r))]):=by
 have hs:decide (acc.length < Zd)=true:=decide_eq_true (by unfold Zd;omega)
 have ap:∀ {w:P},px F [2] (.seq (.app 2 (.var 3)) .skip) [x0,some (.int (q:Int)),some (.lst true acc),some w]=some (.nx [x0,some (.int (q:Int)),some (.lst true (acc++[w])),some w]):=by
  intro w;rw[Zi,Ul (xs:=acc) rfl,show pe F (.var 3) [x0,some (.int (q:Int)),some (.lst true acc),some w]=some w from rfl,Ob,if_pos (by rw[hs];rfl),Zg,Zo]
  rfl
 unfold Ye;cases r with
 |put x y s z=>rw[ZK (by rfl),ZK (by rfl)];exact ap
 |tell y=>rw[ZK (by rfl),ZK (by rfl)];exact ap
 |skip=>rw[ZK (by rfl),ZK (by rfl)];exact ap
 |go t=>
  rw[ZK (by rfl),Zi,ZI,show pe F (.cmp .Eq (.ix (.var 3) (.cst (.int 0))) (.cst (.str (S "go")))) [x0,some (.int (q:Int)),some (.lst true acc),some (Zk (.go t))]=some (.bl true) from rfl,Zu,if_pos rfl,Zi,Yo (p:=Zk (Xa q (.go t))) (by
   show some (P.tup [.str (S "go"),.int (if (q:Int) < (t:Int) then (q:Int) else (t:Int))])=some (P.tup [.str (S "go"),.int ((if q < t then q else t:Nat):Int)])
   by_cases h:q < t
   ·rw[if_pos h,if_pos (by omega)]
   ·rw[if_neg h,if_neg (by omega)]) rfl rfl,Zg,Zo,Zg]
  exact ap
 |ifr y s z t=>
  rw[Zi,ZI,show pe F (.cmp .Eq (.ix (.var 3) (.cst (.int 0))) (.cst (.str (S "if")))) [x0,some (.int (q:Int)),some (.lst true acc),some (Zk (.ifr y s z t))]=some (.bl true) from rfl,Zu,if_pos rfl,Zi,Yo (p:=Zk (Xa q (.ifr y s z t))) (by
   show some (P.tup [.str (S "if"),Ya y,.str s,Ya z,.int (if (q:Int) < (t:Int) then (q:Int) else (t:Int))])=some (P.tup [.str (S "if"),Ya y,.str s,Ya z,.int ((if q < t then q else t:Nat):Int)])
   by_cases h:q < t
   ·rw[if_pos h,if_pos (by omega)]
   ·rw[if_neg h,if_neg (by omega)]) rfl rfl,Zg,Zo,Zg]
  show px F [2] _ [x0,some (.int (q:Int)),some (.lst true acc),some (Zk (Xa q (.ifr y s z t)))]=_;rw[ZK (by rfl)]
  exact ap
theorem Jm{x0:Ot P}{q:Nat}:∀ {rs:Li Row}{acc:Li P}{x3:Ot P},acc.length+rs.length < 900->
  ∃ y3,Z5 (fun d π=>px F [2] Ye (ZM π 3 d)) (rs.map Zk) [x0,some (.int (q:Int)),some (.lst true acc),x3]=some (.nx [x0,some (.int (q:Int)),some (.lst true (acc++rs.map fun r=>Zk (Xa q r))),y3])
 |[],acc,x3,_=>⟨x3,by rw[List.map_nil,List.map_nil,List.append_nil];rfl⟩
 |r :: rs,acc,x3,hl=>by
  rw[List.length_cons]at hl;have e:=ZdC (F:=F) (x0:=x0) (acc:=acc) (q:=q) (r:=r) (by omega)
  obtain⟨y3,e2⟩:=Jm (x0:=x0) (q:=q) (rs:=rs) (acc:=acc++[Zk (Xa q r)]) (x3:=some (Zk (Xa q r))) (by rw[List.length_append,List.length_singleton];omega)
  refine⟨y3,?_⟩;rw[List.map_cons,List.map_cons,show acc++(Zk (Xa q r) :: rs.map fun r=>Zk (Xa q r))=acc++[Zk (Xa q r)]++rs.map fun r=>Zk (Xa q r) by simp,<-e2]
  show(match px F [2] Ye [x0,some (.int (q:Int)),some (.lst true acc),some (Zk r)] with
   |some (.nx π')=>Z5 _ (rs.map Zk) π'
   |some (.ct π')=>Z5 _ (rs.map Zk) π'
   |some (.bk π')=>some (.nx π')
   |some (.rt v)=>some (.rt v)
   |none=>none)=_
  rw[e]
def UA(q:Nat)(p:Prog):Prog:=⟨p.takes,p.many,(p.rows.take q).map (Xa q)⟩
theorem ZiL{q:Nat}(h:Sh p tk)(hq:q<=p.rows.length):Sh (UA q p) tk:=by
 have hz:=h.size;have l:((p.rows.take q).map (Xa q)).length=q:=by rw[List.length_map,List.length_take];omega
 refine⟨fun r hr=>?_,h.takes,h.sm,h.tkl,h.tk3,h.many,by show((p.rows.take q).map (Xa q)).length<=12;omega⟩
 obtain⟨r0,h0,rfl⟩:=List.mem_map.mp hr;obtain⟨a,b⟩:=h.rows r0 (List.mem_of_mem_take h0);show YU p.many ((p.rows.take q).map (Xa q)).length (Xa q r0)/\Xp (Xa q r0);rw[l];cases r0 with
 |put x y s z=>exact⟨a,b⟩
 |tell y=>exact⟨a,b⟩
 |skip=>exact⟨a,b⟩
 |go t=>
  refine⟨?_,b⟩;show(if q < t then q else t)<=q
  split<;>omega
 |ifr y s z t=>
  refine⟨⟨a.1,a.2.1,?_⟩,b⟩;show(if q < t then q else t)<=q
  split<;>omega
theorem Zkf{q:Nat}(h:Sh p tk)(hq:q<=p.rows.length):Zj T (n+1) 247 [Zn p,.int (q:Int)]=some (Zn (UA q p)):=by
 have hz:=h.size;rw[Zt (f:=c__law_cut) rfl rfl rfl,show ZN c__law_cut.body=[2] from rfl];show Yd (px (Zj T n) [2] c__law_cut.body [some (Zn p),some (.int (q:Int)),none,none])=_;unfold c__law_cut;rw[Zi,XW (p:=.lst true []) (by rfl) rfl rfl,Zg]
 simp only[Zs,Zr];obtain⟨y3,e⟩:=Jm (F:=Zj T n) (x0:=some (Zn p)) (q:=q) (rs:=p.rows.take q) (acc:=[]) (x3:=none) (by rw[List.length_nil,List.length_take];omega)
 have es:pe (Zj T n) (.slice (.ix (.var 0) (.cst (.int 2))) .nop (.part (.var 1))) [some (Zn p),some (.int (q:Int)),some (.lst true []),none]=some (.tup ((p.rows.take q).map Zk)):=by
  show Yh (.tup (p.rows.map Zk)) none (some (q:Int))=_;have hq':q<=(p.rows.map Zk).length:=by rw[List.length_map];exact hq
  have c:Yh (.tup (p.rows.map Zk)) none (some (q:Int))=some (.tup (UB (p.rows.map Zk) none (some (q:Int))))\/(Yh (.tup (p.rows.map Zk)) none (some (q:Int))=some (.tup (p.rows.map Zk))/\q=p.rows.length):=by
   have e:Yh (.tup (p.rows.map Zk)) none (some (q:Int))=(if sIx (p.rows.map Zk).length 0 none=0/\sIx (p.rows.map Zk).length (p.rows.map Zk).length (some (q:Int))=(p.rows.map Zk).length then some (P.tup (p.rows.map Zk)) else some (P.tup (UB (p.rows.map Zk) none (some (q:Int))))):=rfl
   rw[e];by_cases z:sIx (p.rows.map Zk).length 0 none=0/\sIx (p.rows.map Zk).length (p.rows.map Zk).length (some (q:Int))=(p.rows.map Zk).length
   ·right
    refine⟨if_pos z,?_⟩;have z:(if (q:Int) < 0 then ((q:Int)+((p.rows.map Zk).length:Int)).toNat else Nat.min (q:Int).toNat (p.rows.map Zk).length)=(p.rows.map Zk).length:=z.2
    rw[if_neg (by omega),Int.toNat_natCast,List.length_map]at z
    have:=Nat.min_eq_left hq;rw[show Nat.min q p.rows.length=q from this]at z;exact z
   ·exact .inl (if_neg z)
  rcases c with c|⟨c,rfl⟩
  ·rw[c,ZiK hq',List.map_take]
  ·rw[c,List.take_length]
 rw[Zi,Zg4 es rfl,e,Zg,Yj (v:=Zn (UA q p)) (by
  show some (P.tup [p.takes,.int (p.many:Int),.tup ([]++(p.rows.take q).map fun r=>Zk (Xa q r))])=_
  unfold Zn UA;rw[List.map_map,List.nil_append];rfl)]
 rfl
end
end Dp


namespace Dp
open PySem
mutual
def toD:P->D
 |.bl b=>.bl b
 |.int i=>.int i
 |.str x=>.str x
 |.tup ps=>.tup (Uq ps)
 |_=>.non
def Uq:Li P->Li D
 |[]=>[]
 |p :: ps=>toD p :: Uq ps
end
mutual
def pln:P->Bool
 |.non=>true
 |.bl _=>true
 |.int _=>true
 |.str _=>true
 |.tup ps=>Vi ps
 |_=>false
def Vi:Li P->Bool
 |[]=>true
 |p :: ps=>pln p&&Vi ps
end
section
variable {fz:Fz}{st st' st1 st2:Za}
mutual
theorem Xf:∀ {p:P},pln p=true->Rel fz st p (toD p)
 |.non,_=>.non
 |.bl b,_=>.bl b
 |.int i,_=>.int i
 |.str x,_=>.str x
 |.tup ps,h=>.tup (Wx (show Vi ps=true from h))
 |.lst _ _,h=>nomatch h
 |.dct _ _,h=>nomatch h
 |.obj _,h=>nomatch h
 |.kt _,h=>nomatch h
 |.dic _ _,h=>nomatch h
theorem Wx:∀ {ps:Li P},Vi ps=true->Rels fz st ps (Uq ps)
 |[],_=>.nil
 |p :: ps,h=>.cons (Xf (Bool.and_eq_true_iff.mp h).1) (Wx (Bool.and_eq_true_iff.mp h).2)
end
mutual
theorem Um:∀ {p:P}{d:D},pln p=true->Rel fz st p d->d=toD p
 |.non,_,_,.non=>rfl
 |.bl b,_,_,.bl _=>rfl
 |.int i,_,_,.int _=>rfl
 |.str x,_,_,.str _=>rfl
 |.tup ps,_,h,.tup r=>congrArg D.tup (Q1 (show Vi ps=true from h) r)
 |.lst _ _,_,h,_=>nomatch h
 |.dct _ _,_,h,_=>nomatch h
 |.obj _,_,h,_=>nomatch h
 |.kt _,_,h,_=>nomatch h
 |.dic _ _,_,h,_=>nomatch h
theorem Q1:∀ {ps:Li P}{ds:Li D},Vi ps=true->Rels fz st ps ds->ds=Uq ps
 |[],_,_,.nil=>rfl
 |p :: ps,_,h,.cons a r=>by rw[Um (Bool.and_eq_true_iff.mp h).1 a,Q1 (Bool.and_eq_true_iff.mp h).2 r];rfl
end
theorem Y9:∀ {ps:Li P},Uq ps=ps.map toD
 |[]=>rfl
 |p :: ps=>by
  show toD p :: Uq ps=_;rw[Y9];rfl
theorem Y7:∀ {ps:Li P},(∀ p∈ps,pln p=true)->Vi ps=true
 |[],_=>rfl
 |p :: ps,h=>by
  show(pln p&&Vi ps)=true;rw[h p Ls,Y7 fun q hq=>h q (Lm _ hq)];rfl
theorem ZbK{r:Row}:pln (Zk r)=true:=by
 cases r with
 |put x y s z=>cases y<;>cases z<;>rfl
 |ifr y s z t=>cases y<;>cases z<;>rfl
 |tell y=>cases y<;>rfl
 |_=>rfl
theorem Va{p:Prog}{tk:Li (Int×Int)}(h:Sh p tk):pln (Zn p)=true:=by
 unfold Zn;rw[h.takes];show(Vi (tk.map YB)&&(true&&(Vi (p.rows.map Zk)&&true)))=true;rw[Y7 fun q hq=>by obtain⟨a,_,rfl⟩:=List.mem_map.mp hq;rfl,Y7 fun q hq=>by obtain⟨a,_,rfl⟩:=List.mem_map.mp hq;exact ZbK]
 rfl
theorem J6{ws:Li Str}:Uq (ws.map P.str)=ws.map D.str:=by rw[Y9,List.map_map];rfl
theorem JP{ws:Li Str}:Vi (ws.map P.str)=true:=Y7 fun q hq=>by obtain⟨a,_,rfl⟩:=List.mem_map.mp hq;rfl
structure Grw(st st':Za):Prop where
 old:∀ i,i < st.length->st'[i]?=st[i]?
 len:st.length<=st'.length
theorem Grw.refl:Grw st st:=⟨fun _ _=>rfl,Nat.le_refl _⟩
theorem Grw.trans(a:Grw st st1)(b:Grw st1 st2):Grw st st2:=⟨fun i h=>(b.old i (Nat.lt_of_lt_of_le h a.len)).trans (a.old i h),Nat.le_trans a.len b.len⟩
theorem Grw.get{i:Nat}{c:Yp}(a:Grw st st')(h:st[i]?=some c):st'[i]?=some c:=(a.old i (Zl h)).trans h
theorem Grw.push{c:Yp}:Grw st (st++[c]):=⟨fun i h=>List.getElem?_append_left h,by rw[List.length_append];omega⟩
def Al(st:Za):Fz:=fun i=>i < st.length
theorem Za9{fz':Fz}{p:P}{d:D}(n:Next (Al st) st fz' st')(r:Rel fz' st' p d):Grw st st'/\Rel (Al st') st' p d:=⟨⟨n.old,n.len⟩,r.mono (fun i h=>n.bd i h) fun _ _=>rfl⟩
theorem XV{n f:Nat}{ps:Li P}{p:P}{ds:Li D}(h:Zj T n f ps=some p)(r:Rels (Al st) st ps ds):∃ d st',run T n f ds st=some (d,st')/\Grw st st'/\Rel (Al st') st' p d:=by
 obtain⟨d,st',fz',e,n1,r1⟩:=(Q2 T n).1 f ps p h (Al st) st ds (fun _ h=>h) r
 exact⟨d,st',e,Za9 n1 r1⟩
theorem Wv{n:Nat}{e:CE}{π:Zp}{ρ:Env}{p:P}(h:pe (Zj T n) e π=some p)(E:EnvAll (Al st) st π ρ):∃ d st',ev (run T n) e ρ st=some (d,st')/\Grw st st'/\Rel (Al st') st' p d:=by
 obtain⟨d,st',fz',e,n1,r1⟩:=Zc (Q2 T n) e π p h (Al st) st ρ (fun _ h=>h) E
 exact⟨d,st',e,Za9 n1 r1⟩
theorem YO{n f:Nat}{ps:Li P}{p:P}{ds:Li D}(h:Zj T n f ps=some p)(hp:pln p=true)(r:Rels (Al st) st ps ds):∃ st',run T n f ds st=some (toD p,st')/\Grw st st':=by
 obtain⟨d,st',e,x,r1⟩:=XV h r;rw[Um hp r1]at e;exact⟨st',e,x⟩
theorem XX{w:Nat}{b:Bool}{ws:Li Str}(h:st[w]?=some (b,ws.map D.str)):Rel (Al st) st (.lst b (ws.map P.str)) (.lst w):=.lst (Zl h) h (by rw[<-J6];exact Wx JP)
def obC(s:Nat):Yp:=(true,[.int 237,.tup [.str (S "takes"),.lst (s+1)],.tup [.str (S "names"),.dic (s+2)],.tup [.str (S "rows"),.lst (s+3)],.tup [.str (S "aims"),.lst (s+4)]])
structure Dr(st:Za)(s:Nat)(tk nm rw am:List D):Prop where
 o:st[s]?=some (obC s)
 t:st[s+1]?=some (true,tk)
 n:st[s+2]?=some (true,nm)
 r:st[s+3]?=some (true,rw)
 a:st[s+4]?=some (true,am)
variable {s:Nat}{tk nm rw am:Li D}
theorem Dr.ext(d:Dr st s tk nm rw am)(x:Grw st st'):Dr st' s tk nm rw am:=⟨x.get d.o,x.get d.t,x.get d.n,x.get d.r,x.get d.a⟩
structure Kp(s:Nat)(st st':Za):Prop where
 old:∀ i,i < st.length->(i < s\/s+5<=i)->st'[i]?=st[i]?
 len:st.length<=st'.length
theorem Grw.kp(x:Grw st st'):Kp s st st':=⟨fun i h _=>x.old i h,x.len⟩
theorem Kp.trans(a:Kp s st st1)(b:Kp s st1 st2):Kp s st st2:=⟨fun i h h'=>(b.old i (Nat.lt_of_lt_of_le h a.len) h').trans (a.old i h h'),Nat.le_trans a.len b.len⟩
theorem Kp.set{c:Yp}{j:Nat}(h:s<=j)(h':j < s+5):Kp s st (st.set j c):=⟨fun i _ hi=>by rw[List.getElem?_set,if_neg (by omega)],by rw[List.length_set];exact Nat.le_refl _⟩
theorem ZA{c:Yp}{i j:Nat}(h:i < st.length):(st.set i c)[j]?=if i=j then some c else st[j]?:=by
 rw[List.getElem?_set];split
 ·rename_i e
  subst e
  first|rfl|rw[if_pos h]
 ·rfl
theorem Dr.setT{l:Li D}(d:Dr st s tk nm rw am):Dr (st.set (s+1) (true,l)) s l nm rw am:=by
 have h:=Zl d.t;exact⟨by rw[ZA h,if_neg (by omega)];exact d.o,by rw[ZA h,if_pos rfl],by rw[ZA h,if_neg (by omega)];exact d.n,by rw[ZA h,if_neg (by omega)];exact d.r,by rw[ZA h,if_neg (by omega)];exact d.a⟩
theorem Dr.setN{l:Li D}(d:Dr st s tk nm rw am):Dr (st.set (s+2) (true,l)) s tk l rw am:=by
 have h:=Zl d.n;exact⟨by rw[ZA h,if_neg (by omega)];exact d.o,by rw[ZA h,if_neg (by omega)];exact d.t,by rw[ZA h,if_pos rfl],by rw[ZA h,if_neg (by omega)];exact d.r,by rw[ZA h,if_neg (by omega)];exact d.a⟩
theorem Dr.setR{l:Li D}(d:Dr st s tk nm rw am):Dr (st.set (s+3) (true,l)) s tk nm l am:=by
 have h:=Zl d.r;exact⟨by rw[ZA h,if_neg (by omega)];exact d.o,by rw[ZA h,if_neg (by omega)];exact d.t,by rw[ZA h,if_neg (by omega)];exact d.n,by rw[ZA h,if_pos rfl],by rw[ZA h,if_neg (by omega)];exact d.a⟩
theorem Dr.setA{l:Li D}(d:Dr st s tk nm rw am):Dr (st.set (s+4) (true,l)) s tk nm rw l:=by
 have h:=Zl d.a;exact⟨by rw[ZA h,if_neg (by omega)];exact d.o,by rw[ZA h,if_neg (by omega)];exact d.t,by rw[ZA h,if_neg (by omega)];exact d.n,by rw[ZA h,if_neg (by omega)];exact d.r,by rw[ZA h,if_pos rfl]⟩
variable {F:Nat->Fn}{ρ:Env}
theorem Zbn{f:Str}{v:D}(d:Dr st s tk nm rw am)(h:Yk [.tup [.str (S "takes"),.lst (s+1)],.tup [.str (S "names"),.dic (s+2)],.tup [.str (S "rows"),.lst (s+3)],.tup [.str (S "aims"),.lst (s+4)]] f=some v):ev F (.dict [f] (.var 0)) (some (.dic s) :: ρ) st=some (v,st):=by
 show ZdR [f] (.dic s) st=_;unfold ZdR;simp only[d.o,obC,h]
theorem Qw(d:Dr st s tk nm rw am):ev F (.dict [(S "takes")] (.var 0)) (some (.dic s) :: ρ) st=some (.lst (s+1),st):=Zbn d rfl
theorem Wn(d:Dr st s tk nm rw am):ev F (.dict [(S "names")] (.var 0)) (some (.dic s) :: ρ) st=some (.dic (s+2),st):=Zbn d rfl
theorem Zap(d:Dr st s tk nm rw am):ev F (.dict [(S "rows")] (.var 0)) (some (.dic s) :: ρ) st=some (.lst (s+3),st):=Zbn d rfl
theorem ZdN(d:Dr st s tk nm rw am):ev F (.dict [(S "aims")] (.var 0)) (some (.dic s) :: ρ) st=some (.lst (s+4),st):=Zbn d rfl
theorem Zh6{e:CE}{j:Nat}{c:Yp}(h:ev F e ρ st=some (.lst j,st))(h2:st[j]?=some c):ev F (.len e) ρ st=some (.int c.2.length,st):=by
 show ZF (ev F e) X3 ρ st=_;unfold ZF;rw[h];show X3 (.lst j) st=_;unfold X3 ZcF;simp only[h2]
theorem Zby(d:Dr st s tk nm rw am):ev F (.len (.dict [(S "takes")] (.var 0))) (some (.dic s) :: ρ) st=some (.int tk.length,st):=Zh6 (Qw d) d.t
theorem QH(d:Dr st s tk nm rw am):ev F (.len (.dict [(S "rows")] (.var 0))) (some (.dic s) :: ρ) st=some (.int rw.length,st):=Zh6 (Zap d) d.r
theorem Vm(d:Dr st s tk nm rw am)(h:Wf nm=false):ev F (.len (.dict [(S "names")] (.var 0))) (some (.dic s) :: ρ) st=some (.int nm.length,st):=by
 show ZF (ev F (.dict [(S "names")] (.var 0))) X3 _ st=_;unfold ZF;rw[Wn d];show X3 (.dic (s+2)) st=_;unfold X3 ZcF;simp only[d.n,h];rfl
variable {q a b:CS}{e:CE}{v:D}
theorem Qi(h:ev F e ρ st=some (.bl true,st')):ex F (.ite e a b) ρ st=ex F a ρ st':=by
 show UE (ev F e) (ex F a) (ex F b) ρ st=_;unfold UE;rw[h]
theorem W2(h:ev F e ρ st=some (.bl false,st')):ex F (.ite e a b) ρ st=ex F b ρ st':=by
 show UE (ev F e) (ex F a) (ex F b) ρ st=_;unfold UE;rw[h]
theorem Uw(h:ev F e ρ st=some (v,st')):ex F (.ret e) ρ st=some (.rt v,st'):=by
 show ZaQ (ev F e) ρ st=_;unfold ZaQ;rw[h]
theorem Wy{i:Nat}(h:ev F e ρ st=some (v,st')):ex F (.set i e) ρ st=some (.nx (Zy ρ i v),st'):=by
 show JW i (ev F e) ρ st=_;unfold JW;rw[h]
theorem Zfq(h:ev F e ρ st=some (v,st')):ex F (.act e) ρ st=some (.nx ρ,st'):=by
 show Zc8 (ev F e) ρ st=_;unfold Zc8;rw[h]
theorem Zz:ex F .skip ρ st=some (.nx ρ,st):=rfl
theorem Zv{ρ':Env}(h:ex F a ρ st=some (.nx ρ',st')):ex F (.seq a q) ρ st=ex F q ρ' st':=by
 show UH (ex F a) (ex F q) ρ st=_;unfold UH;rw[h]
theorem Xh{d:D}(h:ex F a ρ st=some (.rt d,st')):ex F (.seq a q) ρ st=some (.rt d,st'):=by
 show UH (ex F a) (ex F q) ρ st=_;unfold UH;rw[h]
theorem Zbk{x y:CE}(h:ev F x ρ st=some (.bl true,st')):ev F (.and x y) ρ st=ev F y ρ st':=by
 show Yw (ev F x) (ev F y) (evC (.bl false)) ρ st=_;unfold Yw;rw[h]
theorem ZiP{x y:CE}(h:ev F x ρ st=some (.bl false,st')):ev F (.and x y) ρ st=some (.bl false,st'):=by
 show Yw (ev F x) (ev F y) (evC (.bl false)) ρ st=_;unfold Yw;rw[h];rfl
theorem ZkA{x y:CE}(h:ev F x ρ st=some (.bl false,st')):ev F (.or x y) ρ st=ev F y ρ st':=by
 show Yw (ev F x) (evC (.bl true)) (ev F y) ρ st=_;unfold Yw;rw[h]
theorem Zbl{x:CE}{k:Bool}(h:ev F x ρ st=some (.bl k,st')):ev F (.not x) ρ st=some (.bl (!k),st'):=by
 show ZF (ev F x) ZaE ρ st=_;unfold ZF;rw[h];rfl
theorem YC{x y:CE}{op:CmpOp}{u w:D}{k:Bool}(h:ev F x ρ st=some (u,st1))(h2:ev F y ρ st1=some (w,st2))(h3:WD op u w st2=some k):ev F (.cmp op x y) ρ st=some (.bl k,st2):=by
 show ZS (ev F x) (ev F y) (Xt op) ρ st=_;unfold ZS;rw[h];simp only[h2];unfold Xt;rw[h3]
theorem Zlb{n f:Nat}{d:FD}{ds:Li D}(h:T f=some d)(hl:ds.length=d.ps):run T (n+1) f ds st=match ex (run T n) d.body (ds.map some++List.replicate (d.ns - ds.length) none) st with
  |some (.rt v,st')=>some (v,st')
  |some (.nx _,st')=>some (.non,st')
  |_=>none:=by
 rw[JU h];unfold fnD;exact if_pos hl
theorem ZaO{n f:Nat}{d:FD}{ds:Li D}(h:T f=some d)(hl:ds.length=d.ps)(hx:ex (run T n) d.body (ds.map some++List.replicate (d.ns - ds.length) none) st=some (.rt v,st')):run T (n+1) f ds st=some (v,st'):=by
 rw[Zlb h hl,hx]
theorem ZaN{n f:Nat}{d:FD}{ds:Li D}{ρ':Env}(h:T f=some d)(hl:ds.length=d.ps)(hx:ex (run T n) d.body (ds.map some++List.replicate (d.ns - ds.length) none) st=some (.nx ρ',st')):run T (n+1) f ds st=some (.non,st'):=by
 rw[Zlb h hl,hx]
end
end Dp


namespace Dp
open PySem
section
variable {n m s w:Nat}{st st':Za}{tk nm rw am:Li D}{F:Nat->Fn}{ρ:Env}{b:Bool}{ws:Li Str}
def nmD(m:Nat):Li D:=(List.range m).map fun i=>.tup [.str (leS i),.int (i:Int)]
theorem Zet:nmD (m+1)=nmD m++[.tup [.str (leS m),.int (m:Int)]]:=by
 unfold nmD;rw[List.range_succ,List.map_append];rfl
theorem Wt:(nmD m).length=m:=by unfold nmD;rw[List.length_map,List.length_range]
theorem Uc(h:m<=5):Wf (nmD m)=false:=by
 have:m=0\/m=1\/m=2\/m=3\/m=4\/m=5:=by omega
 rcases this with rfl|rfl|rfl|rfl|rfl|rfl<;>rfl
theorem Zeu(h:m<=4):Yk (nmD m) (leS m)=none/\(nmD m).any (isK (leS m))=false:=by
 have:m=0\/m=1\/m=2\/m=3\/m=4:=by omega
 rcases this with rfl|rfl|rfl|rfl|rfl<;>exact⟨rfl,rfl⟩
theorem Zje{i:Nat}(hm:m<=5)(h:i < m):Yk (nmD m) (leS i)=some (.int (i:Int)):=by
 have:(m=1\/m=2\/m=3\/m=4\/m=5)/\(i=0\/i=1\/i=2\/i=3\/i=4):=by omega
 obtain⟨h1,h2⟩:=this;rcases h1 with rfl|rfl|rfl|rfl|rfl<;>rcases h2 with rfl|rfl|rfl|rfl|rfl<;>first|rfl | (exfalso;omega)
theorem Ww{es:Li D}{rest:Za}{x:Str}{e:CE}{d:D}(hs:s=st.length)(he:ev F e [some (.dic s)] (st++(true,.int 237 :: es) :: rest)=some (d,(st++(true,.int 237 :: es) :: rest)++[(true,[])]))(hl:es.length < 900)(hn:es.any (isK x)=false) :
  ex F (.put 0 (.cst (.str x)) e) [some (.dic s)] (st++(true,.int 237 :: es) :: rest)=some (.nx [some (.dic s)],st++(true,.int 237 :: (es++[.tup [.str x,d]])) :: (rest++[(true,[])])):=by
 subst hs;show ZeU 0 (.cst (.str x)) (ev F e) [some (.dic st.length)] (st++(true,.int 237 :: es) :: rest)=_;unfold ZeU;simp only[he];show(match ((st++(true,D.int 237 :: es) :: rest)++[((true,[]):Yp)])[st.length]? with
  |some (true,D.int c :: es')=>if es'.length < 900/\es'.any (isK x)=false then some (Fl.nx [some (D.dic st.length)],List.set ((st++(true,D.int 237 :: es) :: rest)++[((true,[]):Yp)]) st.length (true,D.int c :: (es'++[D.tup [D.str x,d]]))) else none
  |_=>none)=_
 have e1:((st++(true,.int 237 :: es) :: rest)++[((true,[]):Yp)])[st.length]?=some (true,.int 237 :: es):=by
  rw[List.append_assoc,List.getElem?_append_right (Nat.le_refl _),Nat.sub_self];rfl
 rw[e1];simp only[hl,hn,and_self,if_true]
 congr 2
 rw[List.append_assoc,List.set_append_right _ _ (Nat.le_refl _),Nat.sub_self];rfl
theorem QN:ev F (.lstE .aN) ρ st=some (.lst st.length,st++[(true,[])]):=rfl
theorem Zf9:ev F .dnew ρ st=some (.dic st.length,st++[(true,[])]):=rfl
theorem Zik:run T (n+1) 238 [.dic st.length] (st++[(true,[.int 237])])=some (.non,st++[obC st.length,(true,[]),(true,[]),(true,[]),(true,[])]):=by
 have l:∀ c:Yp,∀ r:Za,(st++c :: r).length=st.length+1+r.length:=fun c r=>by rw[List.length_append,List.length_cons];omega
 refine ZaN (d:=c_Draft___init__) rfl rfl (ρ':=[some (.dic st.length)]) ?_;show ex (run T n) (.seq _ (.seq _ (.seq _ (.seq _ .skip)))) [some (.dic st.length)] (st++(true,.int 237 :: []) :: [])=_;rw[Zv (Ww (x:=S "takes") (d:=.lst (st.length+1)) rfl (by rw[QN,l];rfl) (by simp) rfl),Zv (Ww (x:=S "names") (d:=.dic (st.length+2)) rfl (by rw[Zf9,l];rfl) (by simp) rfl),Zv (Ww (x:=S "rows") (d:=.lst (st.length+3)) rfl (by rw[QN,l];rfl) (by simp) rfl),Zv (Ww (x:=S "aims") (d:=.lst (st.length+4)) rfl (by rw[QN,l];rfl) (by simp) rfl)]
 rfl
theorem Zjd:Dr (st++[obC st.length,(true,[]),(true,[]),(true,[]),(true,[])]) st.length [] [] [] []:=by
 have g:∀ (j:Nat) (c:Yp),[obC st.length,(true,[]),(true,[]),(true,[]),(true,[])][j]?=some c->(st++[obC st.length,(true,[]),(true,[]),(true,[]),(true,[])])[st.length+j]?=some c:=fun j c h=>by
  rw[List.getElem?_append_right (by omega),Nat.add_sub_cancel_left];exact h
 exact⟨g 0 _ rfl,g 1 _ rfl,g 2 _ rfl,g 3 _ rfl,g 4 _ rfl⟩
theorem Zkd:ev (run T (n+1)) (.isc [237,238] .aN) ρ st=some (.dic st.length,st++[obC st.length,(true,[]),(true,[]),(true,[]),(true,[])]):=by
 show(match run T (n+1) 238 [.dic st.length] (st++[(true,[.int 237])]) with
  |some (.non,st')=>some (D.dic st.length,st')
  |_=>none)=_
 rw[Zik]
theorem Zdm{i j:Int}:WD .Eq (.int i) (.int j) st=some (decide (i=j)):=rfl
theorem Zdn{i j:Int}:WD .Lt (.int i) (.int j) st=some (decide (i < j)):=rfl
theorem Zbd{x y:Str}:WD .Eq (.str x) (.str y) st=some (decide (x=y)):=rfl
theorem X5{d:D}:ev F (.cst d) ρ st=some (d,st):=rfl
theorem Zip(d:Dr st s tk nm [] am)(ho:Wf nm=false)(h1:nm.length=tk.length)(h2:tk.length < 3):run T (n+1) 239 [.dic s,.str (S "take")] st=some (.bl true,st):=by
 refine ZaO (d:=c_Draft_has_room) rfl rfl ?_;refine Xh ((Qi (st':=st) (by rfl)).trans ((Zv (Wy (v:=.bl true) (st':=st) ?_)).trans (Xh (Uw ?_))))
 ·exact(Zbk (st':=st) ((YC (Vm d ho) (Zby d) Zdm).trans (by rw[decide_eq_true (by omega)]))).trans (YC (QH d) X5 Zdm)
 ·exact(Zbk (st':=st) (by rfl)).trans ((YC (Zby d) X5 Zdn).trans (by rw[decide_eq_true (by omega)]))
theorem Zil(d:Dr st s tk nm [] am)(ho:Wf nm=false)(h1:nm.length < 5):run T (n+1) 239 [.dic s,.str (S "name")] st=some (.bl true,st):=by
 refine ZaO (d:=c_Draft_has_room) rfl rfl ?_;refine(Zv ((W2 (st':=st) (by rfl)).trans Zz)).trans (Xh ((Qi (st':=st) (by rfl)).trans (Xh (Uw ?_))))
 exact(Zbk (st':=st) (YC (QH d) X5 Zdm)).trans ((YC (Vm d ho) X5 Zdn).trans (by rw[decide_eq_true (by omega)]))
theorem Zin{k:Str}(d:Dr st s tk nm rw am)(h1:k≠S "take")(h2:k≠S "name")(h:rw.length < 12):run T (n+1) 239 [.dic s,.str k] st=some (.bl true,st):=by
 refine ZaO (d:=c_Draft_has_room) rfl rfl ?_;refine(Zv ((W2 (st':=st) ?_).trans Zz)).trans ((Zv ((W2 (st':=st) ?_).trans Zz)).trans (Xh (Uw ?_)))
 ·exact(YC (st1:=st) (st2:=st) (u:=.str k) (w:=.str (S "take")) (by rfl) X5 Zbd).trans (by rw[decide_eq_false h1])
 ·exact(YC (st1:=st) (st2:=st) (u:=.str k) (w:=.str (S "name")) (by rfl) X5 Zbd).trans (by rw[decide_eq_false h2])
 ·exact(YC (QH d) X5 Zdn).trans (by rw[decide_eq_true (by omega)])
theorem Zkz{x:Ot D}{ds:Li D}{j:Nat}{d:D}(h:st[w]?=some (b,ds))(hj:ds[j]?=some d):ev F (.ix (.var 1) (.cst (.int (j:Int)))) (x :: some (.lst w) :: ρ) st=some (d,st):=by
 show ixR (.lst w) (.int (j:Int)) st=_;have e:ixD (.lst w) (.int (j:Int)) st=some d:=by
  show(match st[w]? with
   |some (_,xs)=>atD xs (j:Int)
   |none=>none)=_
  rw[h];show atD ds (j:Int)=_;have:=Zl hj;unfold atD ixN;rw[if_pos (by omega),if_pos (by omega),Ob,Int.toNat_natCast,hj]
 unfold ixR;rw[e]
theorem ZdG{x:Ot D}{ds:Li D}{d:D}(h:st[w]?=some (b,d :: ds)):ev F (.ix (.var 1) (.cst (.int 0))) (x :: some (.lst w) :: ρ) st=some (d,st):=Zkz (j:=0) h rfl
theorem EA.nil{fz:Fz}:EnvAll fz st [] ρ:=fun i p e=>by simp at e
theorem EA.no{fz:Fz}{π:Zp}{x:Ot D}(r:EnvAll fz st π ρ):EnvAll fz st (none :: π) (x :: ρ):=fun i p e=>by
 cases i with
 |zero=>cases e
 |succ i=>exact r i p e
theorem EA.yes{fz:Fz}{π:Zp}{q:P}{x:D}(h:Rel fz st q x)(r:EnvAll fz st π ρ):EnvAll fz st (some q :: π) (some x :: ρ):=fun i p e=>by
 cases i with
 |zero=>cases e;exact⟨_,rfl,h⟩
 |succ i=>exact r i p e
theorem ZhQ{k:Str}(d:Dr st s tk nm rw am)(h:Wf nm=false):WD .In (.str k) (.dic (s+2)) st=some (Yk nm k).isSome:=by
 show(dAt k (s+2) st).map Option.isSome=_;unfold dAt;rw[d.n];simp only[h];rfl
theorem Zkr{k:Str}(d:Dr st s tk nm rw am)(h:Wf nm=false):WD .NotIn (.str k) (.dic (s+2)) st=some (!(Yk nm k).isSome):=by
 show(WD .In (.str k) (.dic (s+2)) st).map not=_;rw[ZhQ d h];rfl
theorem Zco{x:Str}{e k:CE}{v:D}(d:Dr st s tk nm rw am)(he:ev F e (some (.dic s) :: ρ) st=some (v,st))(hk:ev F k (some (.dic s) :: ρ) st=some (.str x,st))(ho:Wf nm=false)(hl:nm.length < 900)(hn:nm.any (isK x)=false) :
  ex F (.dput 0 (.dict [(S "names")] (.var 0)) k e) (some (.dic s) :: ρ) st=some (.nx (some (.dic s) :: ρ),st.set (s+2) (true,nm++[.tup [.str x,v]])):=by
 show Jp (ev F (.dict [(S "names")] (.var 0))) (ev F k) (ev F e) _ st=_;unfold Jp;simp only[he,Wn d,hk,d.n,ho,hn,and_true,true_and];rw[if_pos (by unfold Zd;omega)]
theorem Vz{o e:CE}{ds:Li D}{j:Nat}{v:D}{st1:Za}(ho:ev F o ρ st=some (.lst j,st))(he:ev F e ρ st=some (v,st1))(h:st1[j]?=some (true,ds))(hl:ds.length < 900):ex F (.app2 o e) ρ st=some (.nx ρ,st1.set j (true,ds++[v])):=by
 show Ja (ev F o) (ev F e) ρ st=_;unfold Ja;simp only[ho,he];unfold Zb2;rw[h];simp only;rw[if_pos (by unfold Zd;omega)]
theorem U1{q:CS}{line:Int}{k:Str}(d:Dr st s tk (nmD m) rw am)(hw:st[w]?=some (b,.str k :: .str (leS m) :: ws.map D.str))(hm:m<=4) :
  ex F (.seq (.ite (.cmp .In (.ix (.var 1) (.cst (.int 1))) (.dict [(S "names")] (.var 0))) (.seq .stop .skip) .skip) (.seq (.dput 0 (.dict [(S "names")] (.var 0)) (.ix (.var 1) (.cst (.int 1))) (.len (.dict [(S "names")] (.var 0)))) q)) [some (.dic s),some (.lst w),some (.int line)] st=ex F q [some (.dic s),some (.lst w),some (.int line)] (st.set (s+2) (true,nmD (m+1))):=by
 have i1:ev F (.ix (.var 1) (.cst (.int 1))) [some (.dic s),some (.lst w),some (.int line)] st=some (.str (leS m),st):=Zkz (j:=1) hw rfl;rw[Zv (W2 (st':=st) ((YC i1 (Wn d) (ZhQ d (Uc (by omega)))).trans (by rw[(Zeu hm).1];rfl)) |>.trans Zz),Zv (Zco d (Vm d (Uc (by omega))) i1 (Uc (by omega)) (by rw[Wt];omega) (Zeu hm).2),Wt,<-Zet]
theorem ZfE{line:Int}(d:Dr st s tk (nmD m) rw am)(hw:st[w]?=some (b,(nmS m).map D.str))(hm:m<=4)(hne:w < s\/s+5<=w):∃ st',run T (n+1) 241 [.dic s,.lst w,.int line] st=some (.non,st')/\Dr st' s tk (nmD (m+1)) rw am/\Kp s st st':=by
 refine⟨_,ZaN (d:=c_Draft_read_name) rfl rfl (ρ':=[some (.dic s),some (.lst w),some (.int line)]) ?_,d.setN (l:=nmD (m+1)),Kp.set (by omega) (by omega)⟩
 show ex (run T n) (.seq _ (.seq _ (.seq _ .skip))) [some (.dic s),some (.lst w),some (.int line)] st=_;have k:(st.set (s+2) (true,nmD (m+1)))[w]?=some (b,(nmS m).map D.str):=by
  rw[ZA (Zl d.n),if_neg (by omega)];exact hw
 rw[U1 (ws:=[]) d hw hm,Zv ((W2 (YC (ZdG k) X5 Zbd)).trans Zz),Zz]
theorem ZfF{line x y:Int}(d:Dr st s tk (nmD m) rw am)(hw:st[w]?=some (b,([S "take",leS m,nuS x,nuS y]).map D.str))(hm:m<=4)(hne:w < s\/s+5<=w)(hx:Sm x)(hy:Sm y)(ht:tk.length < 900):∃ st',run T (n+4) 241 [.dic s,.lst w,.int line] st=some (.non,st')/\Dr st' s (tk++[.tup [.int x,.int y]]) (nmD (m+1)) rw am/\Kp s st st':=by
 have d1:=d.setN (l:=nmD (m+1));have k:(st.set (s+2) (true,nmD (m+1)))[w]?=some (b,([S "take",leS m,nuS x,nuS y]).map D.str):=by
  rw[ZA (Zl d.n),if_neg (by omega)];exact hw
 obtain⟨v,st2,e2,x2,r2⟩:=Wv (n:=n+3) (e:=.tupE (.aC (.call 212 (.aC (.ix (.var 1) (.cst (.int 2))) .aN) []) (.aC (.call 212 (.aC (.ix (.var 1) (.cst (.int 3))) .aN) []) .aN))) (π:=[none,some (.lst b (([S "take",leS m,nuS x,nuS y]).map P.str)),none]) (ρ:=[some (.dic s),some (.lst w),some (.int line)]) (p:=.tup [.int x,.int y]) (st:=st.set (s+2) (true,nmD (m+1))) (by
  have z1:pe (Zj T (n+3)) (.call 212 (.aC (.ix (.var 1) (.cst (.int 2))) .aN) []) [none,some (.lst b (([S "take",leS m,nuS x,nuS y]).map P.str)),none]=some (.int x):=Za2 (n:=n) hx;have z2:pe (Zj T (n+3)) (.call 212 (.aC (.ix (.var 1) (.cst (.int 3))) .aN) []) [none,some (.lst b (([S "take",leS m,nuS x,nuS y]).map P.str)),none]=some (.int y):=Za2 (n:=n) hy;rw[QY,ZB,ZB,z1,z2]
  rfl) (EA.no (EA.yes (XX k) (EA.no EA.nil)))
 cases Um (p:=.tup [.int x,.int y]) rfl r2
 have d2:=d1.ext x2;refine⟨_,ZaN (d:=c_Draft_read_name) rfl rfl (ρ':=[some (.dic s),some (.lst w),some (.int line)]) ?_,d2.setT (l:=tk++[.tup [.int x,.int y]]),((Kp.set (by omega) (by omega)).trans x2.kp).trans (Kp.set (by omega) (by omega))⟩
 show ex (run T (n+3)) (.seq _ (.seq _ (.seq _ .skip))) [some (.dic s),some (.lst w),some (.int line)] st=_;rw[U1 (ws:=[nuS x,nuS y]) d hw hm,Zv ((Qi (YC (ZdG k) X5 Zbd)).trans ((Zv (Vz (Qw d1) e2 d2.t ht)).trans Zz)),Zz];rfl
end
end Dp


namespace Dp
open PySem
section
variable {n m s w:Nat}{st st':Za}{tk nm rw am:Li D}{F:Nat->Fn}{ρ:Env}{b:Bool}{k:Str}{ws ns:Li Str}{r:Row}{ts:Li P}
theorem WP{body:D->Env->Za->Ot (Fl×Za)}{I:Env->Prop}{a:Nat}{xs:Li D}(h:st[a]?=some (b,xs))(hb:∀ d∈xs,∀ ρ,I ρ->∃ ρ',body d ρ st=some (.nx ρ',st)/\I ρ'):∀ (k i:Nat) (ρ:Env),i+k=xs.length->I ρ->∃ ρ',ZH body a k i ρ st=some (.nx ρ',st)/\I ρ'
 |0,i,ρ,hi,hI=>by
  refine⟨ρ,?_,hI⟩;show(match st[a]? with
   |some (_,xs)=>if xs.length<=i then some (Fl.nx ρ,st) else none
   |none=>none)=_
  rw[h];exact if_pos (by omega)
 |k+1,i,ρ,hi,hI=>by
  have hx:xs[i]?=some (xs[i]'(by omega)):=Lg (by omega)
  obtain⟨ρ1,e1,I1⟩:=hb _ (List.getElem_mem (h:=(by omega:i < xs.length))) ρ hI
  obtain⟨ρ2,e2,I2⟩:=WP h hb k (i+1) ρ1 (by omega) I1
  refine⟨ρ2,?_,I2⟩;show(match st[a]? with
   |some (_,xs)=>match xs[i]? with
    |none=>some (Fl.nx ρ,st)
    |some d=>match body d ρ st with
     |some (.nx ρ',st')=>ZH body a k (i+1) ρ' st'
     |some (.ct ρ',st')=>ZH body a k (i+1) ρ' st'
     |some (.bk ρ',st')=>some (.nx ρ',st')
     |some (.rt v,st')=>some (.rt v,st')
     |none=>none
   |none=>none)=_
  rw[h];simp only[hx,e1];exact e2
theorem Zg2:Vi (nmP m)=true:=Y7 fun q hq=>by obtain⟨a,_,rfl⟩:=List.mem_map.mp hq;rfl
theorem Zj4:Uq (nmP m)=nmD m:=by
 rw[Y9];unfold nmP nmD;rw[List.map_map];rfl
theorem ZjC(d:Dr st s tk (nmD m) rw am):Rel (Al st) st (.dic true (nmP m)) (.dic (s+2)):=.dic (Zl d.n) d.n (by rw[<-Zj4];exact Wx Zg2)
theorem YY{f:Nat}{a:CE}{xs:Li D}(h:ev F a ρ st=some (.tup xs,st')):ev F (.call f a []) ρ st=F f xs st':=by
 show ZF (ev F a) (UN (F f) []) ρ st=_;unfold ZF;rw[h];show F f (xs++[]) st'=_;rw[List.append_nil]
theorem Yf{a r:CE}{x:D}{xs:Li D}{st1 st2:Za}(h:ev F a ρ st=some (x,st1))(h2:ev F r ρ st1=some (.tup xs,st2))(hl:xs.length < 1000):ev F (.aC a r) ρ st=some (.tup (x :: xs),st2):=by
 show ZS (ev F a) (ev F r) Wl ρ st=_;unfold ZS;rw[h];simp only[h2];exact if_pos hl
theorem VP:ev F .aN ρ st=some (.tup [],st):=rfl
theorem JJ{line:Int}{x4:Ot D}{q:CS}(d:Dr st s tk (nmD m) rw am)(hm:m<=5)(hw:st[w]?=some (b,(k :: ws).map D.str))(l:Lr m r k ws ts ns):∃ st' y3,ex (run T (n+3)) (.seq (.for1 3 false (.call 234 (.aC (.var 1) .aN) []) ZL) q) [some (.dic s),some (.lst w),some (.int line),none,x4] st=ex (run T (n+3)) q [some (.dic s),some (.lst w),some (.int line),y3,x4] st'/\Grw st st':=by
 have l5:=l.l5;have hn:ns.length<=5:=by
  have:=l.pr.len.2;rw[List.length_zip]at this;omega
 obtain⟨v,st1,e1,x1,r1⟩:=XV (n:=n+3) (Zfx (n:=n) (b:=b) hm l.wd l.pr hn) (.cons (XX hw) .nil);cases r1 with
 |lst hz hj rs=>
  rename_i j ds;have ed:=Q1 JP rs;rw[J6]at ed;subst ed;have d1:=d.ext x1;obtain⟨ρ',e2,y3,rfl⟩:=WP (body:=fun d ρ s=>ex (run T (n+3)) ZL (Zy ρ 3 d) s) (I:=fun ρ=>∃ y3,ρ=[some (.dic s),some (.lst w),some (.int line),y3,x4]) hj (fun v hv ρ hρ=>by
   obtain⟨y3,rfl⟩:=hρ;obtain⟨x,hx,rfl⟩:=List.mem_map.mp hv;obtain⟨i,hi,rfl⟩:=l.pr.names x hx;refine⟨_,(Zv ((W2 (st':=st1) ((YC (st1:=st1) (u:=.str (leS i)) (by rfl) (Wn d1) (Zkr d1 (Uc hm))).trans (by rw[Zje hm hi];rfl))).trans Zz)).trans Zz,_,rfl⟩) (ns.map D.str).length 0 [some (.dic s),some (.lst w),some (.int line),none,x4] (by omega) ⟨none,rfl⟩
  refine⟨st1,y3,Zv ?_,x1⟩;show Vh 3 false (ev (run T (n+3)) (.call 234 (.aC (.var 1) .aN) [])) (ex (run T (n+3)) ZL) [some (.dic s),some (.lst w),some (.int line),none,x4] st=_;unfold Vh;rw[YY (xs:=[.lst w]) (st':=st) (by rfl),e1]
  show(match st1[j]? with
   |some (_,xs)=>ZH (fun d ρ s=>ex (run T (n+3)) ZL (Zy ρ 3 d) s) j xs.length 0 [some (.dic s),some (.lst w),some (.int line),none,x4] st1
   |none=>none)=_
  rw[hj];exact e2
def Zb1(line:Int)(r:Row):Li D:=match aim r with
 |some t=>[.tup [.int line,.int (t:Int)]]
 |none=>[]
theorem Zio{line:Int}(d:Dr st s tk (nmD m) rw am)(hm:m<=5)(hw:st[w]?=some (b,(k :: ws).map D.str))(l:Lr m r k ws ts ns)(hr:rw.length < 800)(ha:am.length < 800):∃ st',run T (n+6) 242 [.dic s,.lst w,.int line] st=some (.non,st')/\Dr st' s tk (nmD m) (rw++[toD (Zk r)]) (am++Zb1 line r)/\Kp s st st':=by
 have l5:=l.l5;have ht:ts.length<=5:=by
  have:=l.pr.len.1;rw[List.length_zip]at this;omega
 obtain⟨st1,y3,e1,x1⟩:=JJ (n:=n+2) (line:=line) (x4:=none) (q:=(.seq (.set 4 (.call 236 (.aC (.var 1) (.aC (.dict [(S "names")] (.var 0)) .aN)) [])) (.seq (.app2 (.dict [(S "rows")] (.var 0)) (.var 4)) (.seq (.ite (.cmp .In (.ix (.var 4) (.cst (.int 0))) (.tupE (.aC (.cst (.str (S "if"))) (.aC (.cst (.str (S "go"))) .aN)))) (.seq (.app2 (.dict [(S "aims")] (.var 0)) (.tupE (.aC (.var 2) (.aC (.ix (.var 4) (.neg (.cst (.int 1)))) .aN)))) .skip) .skip) .skip)))) d hm hw l
 have d1:=d.ext x1;have m236:=Zfz (n:=n) (b:=b) (b':=true) hm l.wd l.pr ht;rw[<-l.en]at m236;obtain⟨st2,e2,x2⟩:=YO (n:=n+5) m236 ZbK (.cons (XX (x1.get hw)) (.cons (ZjC d1) .nil));have d2:=d1.ext x2;have d3:=d2.setR (l:=rw++[toD (Zk r)]);have k3:Kp s st (st2.set (s+3) (true,rw++[toD (Zk r)])):=((x1.kp).trans x2.kp).trans (Kp.set (by omega) (by omega))
 have E:EnvAll (Al (st2.set (s+3) (true,rw++[toD (Zk r)]))) (st2.set (s+3) (true,rw++[toD (Zk r)])) [none,none,some (.int line),none,some (Zk r)] [some (.dic s),some (.lst w),some (.int line),y3,some (toD (Zk r))]:=EA.no (EA.no (EA.yes (.int line) (EA.no (EA.yes (Xf ZbK) EA.nil))));have Yw:∃ c:Bool,pe (Zj T (n+5)) (.cmp .In (.ix (.var 4) (.cst (.int 0))) (.tupE (.aC (.cst (.str (S "if"))) (.aC (.cst (.str (S "go"))) .aN)))) [none,none,some (.int line),none,some (Zk r)]=some (.bl c)/\(c=true->∃ t,Zb1 line r=[.tup [.int line,.int (t:Int)]]/\pe (Zj T (n+5)) (.tupE (.aC (.var 2) (.aC (.ix (.var 4) (.neg (.cst (.int 1)))) .aN))) [none,none,some (.int line),none,some (Zk r)]=some (.tup [.int line,.int (t:Int)]))/\(c=false->Zb1 line r=[]):=by
  cases r with
  |put x y s z=>exact⟨false,rfl,(fun z=>nomatch z),fun _=>rfl⟩
  |tell y=>exact⟨false,rfl,(fun z=>nomatch z),fun _=>rfl⟩
  |skip=>exact⟨false,rfl,(fun z=>nomatch z),fun _=>rfl⟩
  |go t=>exact⟨true,rfl,(fun _=>⟨(t:Int),rfl,rfl⟩),fun z=>nomatch z⟩
  |ifr y s z t=>exact⟨true,rfl,(fun _=>⟨(t:Int),rfl,rfl⟩),fun z=>nomatch z⟩
 have head:∀ {o:Ot (Fl×Za)},ex (run T (n+5)) (.seq (.ite (.cmp .In (.ix (.var 4) (.cst (.int 0))) (.tupE (.aC (.cst (.str (S "if"))) (.aC (.cst (.str (S "go"))) .aN)))) (.seq (.app2 (.dict [(S "aims")] (.var 0)) (.tupE (.aC (.var 2) (.aC (.ix (.var 4) (.neg (.cst (.int 1)))) .aN)))) .skip) .skip) .skip) [some (.dic s),some (.lst w),some (.int line),y3,some (toD (Zk r))] (st2.set (s+3) (true,rw++[toD (Zk r)]))=o->ex (run T (n+5)) c_Draft_read_row.body [some (.dic s),some (.lst w),some (.int line),none,none] st=o:=by
  intro o h;refine e1.trans ?_;rw[Zv (Wy (v:=toD (Zk r)) (st':=st2) (by
   rw[YY (xs:=[.lst w,.dic (s+2)]) (st':=st1) (by
    exact Yf (st1:=st1) (by rfl) (Yf (Wn d1) VP (by decide)) (show 1 < 1000 by decide))]
   exact e2))]
  show ex (run T (n+5)) _ [some (.dic s),some (.lst w),some (.int line),y3,some (toD (Zk r))] st2=o;rw[Zv (Vz (Zap d2) (v:=toD (Zk r)) (st1:=st2) (by rfl) d2.r (by omega))]
  exact h
 obtain⟨c,ec,cy,cn⟩:=Yw;obtain⟨v3,st3,e3,x3,r3⟩:=Wv ec E;cases r3;have d4:=d3.ext x3;cases c with
 |false=>
  refine⟨st3,ZaN (d:=c_Draft_read_row) rfl rfl (ρ':=[some (.dic s),some (.lst w),some (.int line),y3,some (toD (Zk r))]) (head ((Zv ((W2 e3).trans Zz)).trans Zz)),?_,k3.trans x3.kp⟩;rw[cn rfl,List.append_nil];exact d4
 |true=>
  obtain⟨t,et,ep⟩:=cy rfl;have E3:EnvAll (Al st3) st3 [none,none,some (.int line),none,some (Zk r)] [some (.dic s),some (.lst w),some (.int line),y3,some (toD (Zk r))]:=EA.no (EA.no (EA.yes (.int line) (EA.no (EA.yes (Xf ZbK) EA.nil))));obtain⟨v4,st4,e4,x4,r4⟩:=Wv ep E3;cases Um (p:=.tup [.int line,.int (t:Int)]) rfl r4
  have d5:=d4.ext x4;refine⟨_,ZaN (d:=c_Draft_read_row) rfl rfl (ρ':=[some (.dic s),some (.lst w),some (.int line),y3,some (toD (Zk r))]) (head ((Zv ((Qi e3).trans ((Zv (Vz (ZdN d4) e4 d5.a (by omega))).trans Zz))).trans Zz)),?_,((k3.trans x3.kp).trans x4.kp).trans (Kp.set (by omega) (by omega))⟩
  rw[et];exact d5.setA
end
end Dp


namespace Dp
open PySem
section
variable {n m s w:Nat}{st st':Za}{tkd nm rw am:Li D}{F:Nat->Fn}{ρ:Env}{b:Bool}{k:Str}{ws ns:Li Str}{r:Row}{ts:Li P}{p:Prog}{tk:Li (Int×Int)}
theorem VQ{i j:Nat}{a:CE}{xs:Li D}{st1:Za}(hi:ρ[i]?=some (some (.dic s)))(ho:st[s]?=some (obC s))(h:ev F a ρ st=some (.tup xs,st1)):ev F (.meth [(237,j)] (.var i) a) ρ st=F j (.dic s :: xs) st1:=by
 show JH F [(237,j)] (YL i) (ev F a) ρ st=_;unfold JH YL;simp only[hi,ho,obC,h];rfl
theorem Zad{line:Int}{N j:Nat}{c:Bool}{Q:Za->Prop}(d:Dr st s tkd nm rw am)(hw:st[w]?=some (b,(k :: ws).map D.str))(h233:Zj T N 233 [.lst b ((k :: ws).map P.str)]=some (.bl true))(h239:∀ st',Grw st st'->run T N 239 [.dic s,.str k] st'=some (.bl true,st'))(hc:YM k [.str (S "take"),.str (S "name")]=some c)(hj:j=if c=true then 241 else 242)(hm:∀ st',Grw st st'->∃ st'',run T N j [.dic s,.lst w,.int line] st'=some (.non,st'')/\Q st''):∃ st'',run T (N+1) 240 [.dic s,.lst w,.int line] st=some (.non,st'')/\Q st'':=by
 obtain⟨st1,e1,x1⟩:=YO h233 rfl (.cons (XX hw) .nil);have d1:=d.ext x1;obtain⟨st2,e2,q⟩:=hm st1 x1;refine⟨st2,ZaN (d:=c_Draft_read_line) rfl rfl (ρ':=[some (.dic s),some (.lst w),some (.int line)]) ?_,q⟩;show ex (run T N) (.seq _ (.seq _ .skip)) [some (.dic s),some (.lst w),some (.int line)] st=_;have a0:ev (run T N) (.ix (.var 1) (.cst (.int 0))) [some (.dic s),some (.lst w),some (.int line)] st1=some (.str k,st1):=ZdG (x1.get hw)
 have c1:ev (run T N) (.or (.not (.call 233 (.aC (.var 1) .aN) [])) (.not (.meth [(237,239)] (.var 0) (.aC (.ix (.var 1) (.cst (.int 0))) .aN)))) [some (.dic s),some (.lst w),some (.int line)] st=some (.bl false,st1):=by
  refine(ZkA (Zbl (k:=true) ((YY (xs:=[.lst w]) (st':=st) (by rfl)).trans e1))).trans (Zbl (k:=true) ?_)
  refine(VQ (s:=s) (xs:=[.str k]) (st1:=st1) rfl d1.o (Yf a0 VP (by decide))).trans (h239 st1 x1)
 have c2:ev (run T N) (.cmp .In (.ix (.var 1) (.cst (.int 0))) (.tupE (.aC (.cst (.str (S "take"))) (.aC (.cst (.str (S "name"))) .aN)))) [some (.dic s),some (.lst w),some (.int line)] st1=some (.bl c,st1):=YC a0 (w:=.tup [.str (S "take"),.str (S "name")]) (st2:=st1) (by rfl) hc
 have go:∀ i,run T N i [.dic s,.lst w,.int line] st1=some (.non,st2)->ex (run T N) (.seq (.act (.meth [(237,i)] (.var 0) (.aC (.var 1) (.aC (.var 2) .aN)))) .skip) [some (.dic s),some (.lst w),some (.int line)] st1=some (.nx [some (.dic s),some (.lst w),some (.int line)],st2):=fun i h=>(Zv (Zfq ((VQ (s:=s) (xs:=[.lst w,.int line]) (st1:=st1) rfl d1.o (by rfl)).trans h))).trans Zz
 rw[Zv ((W2 c1).trans Zz)];subst hj;cases c with
 |true=>exact(Zv ((Qi c2).trans (go 241 e2))).trans Zz
 |false=>exact(Zv ((W2 c2).trans (go 242 e2))).trans Zz
def tkD(tk:Li (Int×Int)):Li D:=tk.map fun q=>.tup [.int q.1,.int q.2]
def rwD(rs:Li Row):Li D:=rs.map fun r=>toD (Zk r)
def ZlL(p:Prog)(d:D):Prop:=∃ (l:Int) (t:Nat),d=.tup [.int l,.int (t:Int)]/\t<=p.rows.length
def LI(p:Prog)(tk:Li (Int×Int))(s j:Nat)(st:Za):Prop:=∃ am,am.length<=j/\(∀ d∈am,ZlL p d)/\Dr st s (tkD (tk.take j)) (nmD (Nat.min j p.many)) (rwD (p.rows.take (j - p.many))) am
theorem LI.ext{j:Nat}(h:LI p tk s j st)(x:Grw st st'):LI p tk s j st':=let ⟨am,a,b,d⟩:=h;⟨am,a,b,d.ext x⟩
theorem Zba(h:Sh p tk):(ZJ p tk).length=p.many+p.rows.length:=by
 have:=h.tkl;unfold ZJ W0 W1;rw[List.length_append,List.length_append,List.length_map,List.length_map,List.length_map,List.length_range,List.length_range];omega
theorem Zdb{j:Nat}(hj:j < tk.length):(ZJ p tk)[j]?=some (twS tk j):=by
 unfold ZJ W0;rw[List.append_assoc,List.getElem?_append_left (by rw[List.length_map,List.length_range];exact hj),List.getElem?_map,List.getElem?_range hj]
 rfl
theorem Zda{j:Nat}(h0:tk.length<=j)(hj:j < p.many):(ZJ p tk)[j]?=some (nmS j):=by
 unfold ZJ W0 W1;rw[List.append_assoc,List.getElem?_append_right (by rw[List.length_map,List.length_range];exact h0),List.length_map,List.length_range,List.getElem?_append_left (by rw[List.length_map,List.length_range];omega),List.getElem?_map,List.getElem?_range (by omega)]
 show some (nmS (tk.length+(j - tk.length)))=_;rw[show tk.length+(j - tk.length)=j by omega]
theorem ZfJ{j:Nat}{r:Row}(h:Sh p tk)(h0:p.many<=j)(hr:p.rows[j - p.many]?=some r):(ZJ p tk)[j]?=some (woS r):=by
 have ht:=h.tkl;unfold ZJ W0 W1;rw[List.getElem?_append_right (by rw[List.length_append,List.length_map,List.length_range,List.length_map,List.length_range];omega),List.length_append,List.length_map,List.length_range,List.length_map,List.length_range,show j - (tk.length+(p.many - tk.length))=j - p.many by omega,List.getElem?_map,hr]
 rfl
theorem Zfh{j:Nat}(hj:j < tk.length):tkD (tk.take (j+1))=tkD (tk.take j)++[.tup [.int (tk.getD j (0,0)).1,.int (tk.getD j (0,0)).2]]:=by
 unfold tkD;rw[List.take_succ,List.map_append,Lg hj];have:tk.getD j (0,0)=tk[j]:=by rw[List.getD_eq_getElem?_getD,Lg hj];rfl
 rw[this];rfl
theorem ZcH{j:Nat}{line:Int}{wl:Li Str}(h:Sh p tk)(hj:(ZJ p tk)[j]?=some wl)(hw:st[w]?=some (true,wl.map D.str))(hne:w < s\/s+5<=w)(I:LI p tk s j st) :
  ∃ st',run T (n+7) 240 [.dic s,.lst w,.int line] st=some (.non,st')/\LI p tk s (j+1) st'/\Kp s st st':=by
 have hm:=h.many;have ht:=h.tkl;have h3:=h.tk3;have hz:=h.size;obtain⟨am,ha,hA,d⟩:=I;by_cases c1:j < tk.length
 ·rw[Zdb c1]at hj
  cases hj;have q:=Zfi h.sm c1;have e0:Nat.min j p.many=j:=Nat.min_eq_left (by omega)
  have e1:Nat.min (j+1) p.many=j+1:=Nat.min_eq_left (by omega)
  have e2:j - p.many=0:=by omega
  have e3:j+1 - p.many=0:=by omega
  rw[e0,e2]at d;have lt:(tkD (tk.take j)).length=j:=by unfold tkD;rw[List.length_map,List.length_take];omega
  have d:Dr st s (tkD (tk.take j)) (nmD j) [] am:=d;refine Zad (N:=n+6) (c:=true) d hw (Vx (n:=n+5) (.inl rfl) rfl (fun a ha=>?_) (fun _=>⟨_,_,_,_,_,rfl,Za2 (n:=n+2) q.1,Za2 (n:=n+2) q.2.1,q.2.2⟩)) (fun st' x=>Zip (d.ext x) (Uc (by omega)) (by rw[Wt,lt]) (by omega)) rfl rfl (fun st' x=>?_)
  ·have e:kinds (S "take")=[S "name",S "number",S "number"]:=rfl
   rw[e]at ha;simp only[List.zip_cons_cons,List.zip_nil_left,List.mem_cons,List.not_mem_nil,or_false]at ha;rcases ha with rfl|rfl|rfl
   ·exact VS (n:=n+1) (by omega)
   ·exact VT (n:=n+1) q.1
   ·exact VT (n:=n+1) q.2.1
  ·obtain⟨st2,r1,r2,r3⟩:=ZfF (n:=n+2) (line:=line) (d.ext x) (x.get hw) (by omega) hne q.1 q.2.1 (by omega)
   refine⟨st2,r1,⟨am,by omega,hA,?_⟩,x.kp.trans r3⟩
   rw[e1,e3,Zfh c1];exact r2
 ·by_cases c2:j < p.many
  ·rw[Zda (by omega) c2]at hj
   cases hj;have e0:Nat.min j p.many=j:=Nat.min_eq_left (by omega)
   have e1:Nat.min (j+1) p.many=j+1:=Nat.min_eq_left (by omega)
   have e2:j - p.many=0:=by omega
   have e3:j+1 - p.many=0:=by omega
   have e4:tk.take j=tk:=List.take_of_length_le (by omega)
   have e5:tk.take (j+1)=tk:=List.take_of_length_le (by omega)
   rw[e0,e2,e4]at d;have d:Dr st s (tkD tk) (nmD j) [] am:=d;refine Zad (N:=n+6) (c:=true) d hw (Vx (n:=n+5) (.inr (.inl rfl)) rfl (fun a ha=>?_) (fun z=>absurd z (by simp))) (fun st' x=>Zil (d.ext x) (Uc (by omega)) (by rw[Wt];omega)) rfl rfl (fun st' x=>?_)
   ·have e:kinds (S "name")=[S "name"]:=rfl
    rw[e]at ha;simp only[List.zip_cons_cons,List.zip_nil_left,List.mem_cons,List.not_mem_nil,or_false]at ha;rcases ha with rfl
    exact VS (n:=n+1) (by omega)
   ·obtain⟨st2,r1,r2,r3⟩:=ZfE (n:=n+5) (line:=line) (d.ext x) (x.get hw) (by omega) hne
    refine⟨st2,r1,⟨am,by omega,hA,?_⟩,x.kp.trans r3⟩
    rw[e1,e3,e5];exact r2
  ·have hl:=Zl hj
   rw[Zba h]at hl;have hr:j - p.many < p.rows.length:=by omega
   have er:=Lg hr;rw[ZfJ h (by omega) er]at hj
   obtain⟨ok,sg⟩:=h.rows _ (List.getElem_mem hr);obtain⟨k,ws,ts,ns,l⟩:=ZjD (by omega) ok sg
   rw[l.wo]at hj;cases hj;have e0:Nat.min j p.many=p.many:=Nat.min_eq_right (by omega)
   have e1:Nat.min (j+1) p.many=p.many:=Nat.min_eq_right (by omega)
   have e4:tk.take j=tk:=List.take_of_length_le (by omega)
   have e5:tk.take (j+1)=tk:=List.take_of_length_le (by omega)
   have lr:(rwD (p.rows.take (j - p.many))).length=j - p.many:=by unfold rwD;rw[List.length_map,List.length_take];omega
   have e6:rwD (p.rows.take (j+1 - p.many))=rwD (p.rows.take (j - p.many))++[toD (Zk p.rows[j - p.many])]:=by
    rw[show j+1 - p.many=j - p.many+1 by omega]
    unfold rwD;rw[List.take_succ,List.map_append,er];rfl
   have hc:YM k [.str (S "take"),.str (S "name")]=some false:=by
    show some (decide (S "take"=k)||(decide (S "name"=k)||false))=_;rw[decide_eq_false (fun z=>l.nt.1 z.symm),decide_eq_false (fun z=>l.nt.2 z.symm)]
    rfl
   rw[e0,e4]at d;refine Zad (N:=n+6) (c:=false) d hw (Vx (n:=n+5) l.wd l.ln (fun a ha=>l.pr.fit (n:=n+1) hm a ha) (fun z=>absurd z l.nt.1)) (fun st' x=>Zin (d.ext x) l.nt.1 l.nt.2 (by omega)) hc rfl (fun st' x=>?_)
   obtain⟨st2,r1,r2,r3⟩:=Zio (n:=n) (line:=line) (d.ext x) hm (x.get hw) l (by omega) (by omega)
   refine⟨st2,r1,⟨am++Zb1 line p.rows[j - p.many],?_,?_,?_⟩,x.kp.trans r3⟩
   ·rw[List.length_append]
    have:(Zb1 line p.rows[j - p.many]).length<=1:=by
     unfold Zb1;cases aim p.rows[j - p.many]<;>simp
    omega
   ·intro v hv
    rcases List.mem_append.mp hv with hv|hv
    ·exact hA v hv
    ·revert hv ok
     generalize p.rows[j - p.many]=r;intro ok hv;cases r with
     |go t=>exact⟨line,t,List.mem_singleton.mp hv,ok⟩
     |ifr y s z t=>exact⟨line,t,List.mem_singleton.mp hv,ok.2.2⟩
     |_=>exact absurd hv (List.not_mem_nil)
   ·rw[e1,e5,e6]
    exact r2
end
end Dp


namespace Dp
open PySem
section
variable {n m s w a:Nat}{st st':Za}{tkd nm rw am:Li D}{F:Nat->Fn}{ρ:Env}{b:Bool}{k:Str}{ws ns:Li Str}{r:Row}{ts:Li P}{p:Prog}{tk:Li (Int×Int)}{c:Yp}
def Vis(x:Str):Prop:=∀ c∈x.cps.toList,33<=c
theorem Q7{i:Nat}:Vis (leS i):=fun c hc=>by
 have:c=97+i:=by simpa[leS] using hc
 omega
theorem Us{c:Int}:Vis (nuS c):=fun a ha=>by have:=Zex a ha;omega
theorem Ut{o:Opd}:Vis (opS o):=by
 cases o with
 |name i=>exact Q7
 |num c=>exact Us
theorem Uu(h:Vy k):Vis k:=by
 unfold Vis;rcases h with h|h|h|h|h|h|h<;>subst h<;>decide +kernel
theorem Zj7(h:PSg k):Vis k:=by
 unfold Vis;rcases h with h|h|h|h|h<;>subst h<;>decide +kernel
theorem Zj6(h:ISg k):Vis k:=by
 unfold Vis;rcases h with h|h|h|h|h|h<;>subst h<;>decide +kernel
theorem JE(h:Sh p tk){wl:Li Str}(hw:wl∈ZJ p tk):∃ k ws,wl=k :: ws/\Vy k/\∀ x∈ws,Vis x:=by
 have hz:=h.size;rcases List.mem_append.mp hw with hs|hs
 ·rcases List.mem_append.mp hs with hs|hs
  ·obtain⟨i,_,rfl⟩:=List.mem_map.mp hs
   refine⟨_,_,rfl,.inl rfl,fun x hx=>?_⟩
   simp only[List.mem_cons,List.not_mem_nil,or_false]at hx;rcases hx with rfl|rfl|rfl
   ·exact Q7
   ·exact Us
   ·exact Us
  ·obtain⟨i,_,rfl⟩:=List.mem_map.mp hs
   refine⟨_,_,rfl,.inr (.inl rfl),fun x hx=>?_⟩
   simp only[List.mem_cons,List.not_mem_nil,or_false]at hx;subst hx;exact Q7
 ·obtain⟨r,hr,rfl⟩:=List.mem_map.mp hs
  obtain⟨ok,sg⟩:=h.rows r hr;cases r with
  |put x y s z=>
   refine⟨_,_,rfl,.inr (.inr (.inl rfl)),fun x hx=>?_⟩
   simp only[List.mem_cons,List.not_mem_nil,or_false]at hx;rcases hx with rfl|rfl|rfl|rfl
   ·exact Q7
   ·exact Ut
   ·exact Zj7 sg
   ·exact Ut
  |ifr y s z t=>
   refine⟨_,_,rfl,.inr (.inr (.inr (.inl rfl))),fun x hx=>?_⟩
   simp only[List.mem_cons,List.not_mem_nil,or_false]at hx;rcases hx with rfl|rfl|rfl|rfl|rfl
   ·exact Ut
   ·exact Zj6 sg
   ·exact Ut
   ·exact Uu (.inr (.inr (.inr (.inr (.inl rfl)))))
   ·exact Us
  |go t=>
   refine⟨_,_,rfl,.inr (.inr (.inr (.inr (.inl rfl)))),fun x hx=>?_⟩
   simp only[List.mem_cons,List.not_mem_nil,or_false]at hx;subst hx;exact Us
  |tell y=>
   refine⟨_,_,rfl,.inr (.inr (.inr (.inr (.inr (.inl rfl))))),fun x hx=>?_⟩
   simp only[List.mem_cons,List.not_mem_nil,or_false]at hx;subst hx;exact Ut
  |skip=>exact⟨_,_,rfl,.inr (.inr (.inr (.inr (.inr (.inr rfl))))),fun x hx=>absurd hx (List.not_mem_nil)⟩
theorem Zc3(h:Vy k):∃ c l,k.cps.toList=c :: l/\c≠35:=by
 rcases h with h|h|h|h|h|h|h<;>subst h<;>exact⟨_,_,rfl,by decide⟩
theorem Zfd{x:Nat}{xs:Li Str}(h0:xs≠[])(h:∀ q∈xs,x∉q.cps.toList):WW (gl ⟨#[x]⟩ xs) ⟨#[x]⟩=xs:=by
 unfold WW;rw[Vk];show(X4 x (X2 ⟨#[x]⟩ xs)).map (fun l=>(⟨l.toArray⟩:Str))=xs
 rw[Uo h0 h,List.map_map];have:((fun l:Li Nat=>(⟨l.toArray⟩:Str)) ∘ fun q:Str=>q.cps.toList)=id:=by
  funext q
  exact XZ rfl
 rw[this,List.map_id]
theorem ZlN:S " "=⟨#[32]⟩:=XZ rfl
theorem ZlO:S "\n"=⟨#[10]⟩:=XZ rfl
theorem Zbr{x:Nat}{sg:Str}:∀ {xs:Li Str},x∈Yx sg xs->x∈sg.cps.toList\/∃ q∈xs,x∈q.cps.toList
 |[],h=>nomatch h
 |q :: xs,h=>by
  rcases List.mem_append.mp (show x∈(sg.cps.toList++q.cps.toList)++Yx sg xs from h) with h|h
  ·rcases List.mem_append.mp h with h|h
   ·exact .inl h
   ·exact .inr ⟨q,Ls,h⟩
  ·rcases Zbr h with h|⟨q',h1,h2⟩
   ·exact .inl h
   ·exact .inr ⟨q',Lm _ h1,h2⟩
theorem ZkQ(hk:Vis k)(h:∀ x∈ws,Vis x):10∉(ln (k :: ws)).cps.toList:=by
 unfold ln;rw[Vk];intro z;rcases List.mem_append.mp (show 10∈k.cps.toList++Yx (S " ") ws from z) with z|z
 ·exact absurd (hk _ z) (by omega)
 ·rcases Zbr z with z|⟨q,h1,h2⟩
  ·exact absurd z (by decide +kernel)
  ·exact absurd (h q h1 _ h2) (by omega)
theorem ZkR(h:Vy k):¬ln (k :: ws)=S ""/\stW (ln (k :: ws)) (S "#")=false:=by
 obtain⟨c,l,e,hc⟩:=Zc3 h;have el:(ln (k :: ws)).cps.toList=c :: (l++Yx (S " ") ws):=by
  unfold ln;rw[Vk];show k.cps.toList++Yx (S " ") ws=_;rw[e];rfl
 refine⟨fun z=>?_,?_⟩
 ·rw[z]at el;cases el
 ·unfold stW
  rw[el];show([c]==[35])=false;simp[hc]
theorem Zja(h:Vy k)(hv:∀ x∈ws,Vis x):WW (ln (k :: ws)) (S " ")=k :: ws:=by
 unfold ln;rw[ZlN];refine Zfd (List.cons_ne_nil _ _) fun q hq z=>?_
 rcases List.mem_cons.mp hq with rfl|hq
 ·exact absurd (Uu h _ z) (by omega)
 ·exact absurd (hv q hq _ z) (by omega)
theorem ZcW{x0:Ot D}{j:Nat}{line:Int}{wl:Li Str}(h:Sh p tk)(hj:(ZJ p tk)[j]?=some wl)(I:LI p tk s j st) :
  ∃ st',ex (run T (n+7)) Ys [x0,some (.dic s),some (.int line),some (.str (ln wl))] st=some (.nx [x0,some (.dic s),some (.int line),some (.str (ln wl))],st')/\LI p tk s (j+1) st'/\Kp s st st':=by
 have hmem:=List.mem_of_getElem? hj;obtain⟨k,ws,rfl,hk,hv⟩:=JE h hmem;obtain⟨g1,g2⟩:=ZkR (ws:=ws) hk;have hl:(ln (k :: ws)).length<=Zd:=by
  have:=Zaz ((Qk h).1 _ hmem);unfold Zd;omega
 obtain⟨am,ha,hA,d⟩:=I;have ho:=d.o;have I:LI p tk s j st:=⟨am,ha,hA,d⟩;have et:ev (run T (n+7)) (.tix (.var 3) (.aC (.cst (.str (S " "))) .aN)) [x0,some (.dic s),some (.int line),some (.str (ln (k :: ws)))] st=some (.lst st.length,st++[(true,(k :: ws).map D.str)]):=by
  show Zc0 (.str (ln (k :: ws))) (.tup [.str (S " ")]) st=_;show(if (S " ").length=1/\(ln (k :: ws)).length<=Zd then some (D.lst st.length,st++[(true,(WW (ln (k :: ws)) (S " ")).map D.str)]) else none)=_
  rw[if_pos ⟨by decide +kernel,hl⟩,Zja hk hv]
 have hw:(st++[(true,(k :: ws).map D.str)])[st.length]?=some (true,(k :: ws).map D.str):=by
  rw[List.getElem?_append_right (Nat.le_refl _),Nat.sub_self];rfl
 have hs:=Zl d.a;obtain⟨st2,e2,I2,k2⟩:=ZcH (n:=n) (line:=line) h hj hw (.inr (by omega)) (I.ext Grw.push)
 refine⟨st2,?_,I2,(Grw.push.kp).trans k2⟩;unfold Ys;have c1:ev (run T (n+7)) (.and (.cmp .NotEq (.var 3) (.cst (.str (S "")))) (.not (.starts (.var 3) (.aC (.cst (.str (S "#"))) .aN)))) [x0,some (.dic s),some (.int line),some (.str (ln (k :: ws)))] st=some (.bl true,st):=by
  refine(Zbk (st':=st) (YC (st1:=st) (st2:=st) (u:=.str (ln (k :: ws))) (w:=.str (S "")) (by rfl) X5 (k:=true) ?_)).trans (Zbl (k:=false) ?_)
  ·show some (!decide (ln (k :: ws)=S ""))=_
   rw[decide_eq_false g1];rfl
  ·show some (D.bl (stW (ln (k :: ws)) (S "#")),st)=_
   rw[g2]
 refine(Zv ((Qi c1).trans ((Zv (Zfq ((VQ (s:=s) (xs:=[.lst st.length,.int line]) rfl ho (Yf et (Yf (st1:=st++[(true,(k :: ws).map D.str)]) (by rfl) VP (by decide)) (show 1 < 1000 by decide))).trans e2))).trans Zz))).trans Zz
theorem Zei{ok:Za->Prop}{body:D->D->Env->Za->Ot (Fl×Za)}{q:D×D}{ps:Li (D×D)}{ρ':Env}(h:ok st)(e:body q.1 q.2 ρ st=some (.nx ρ',st')):ZX ok body (q :: ps) ρ st=ZX ok body ps ρ' st':=by
 conv=>lhs;unfold ZX
 rw[if_pos h,e]
theorem Zh2{ok:Za->Prop}{body:D->D->Env->Za->Ot (Fl×Za)}(h:ok st):ZX ok body [] ρ st=some (.nx ρ,st):=if_pos h
theorem U6{x0:Ot D}(h:Sh p tk)(ha:s+5<=a):∀ {rest:Li (Li Str)}{j:Nat}{x2 x3:Ot D}{st:Za},(ZJ p tk).drop j=rest->j<=(ZJ p tk).length->LI p tk s j st->st[a]?=some c->
  ∃ y2 y3 st',ZX (fun S=>S[a]?=some c) (fun x y ρ S=>ex (run T (n+7)) Ys (Zy (Zy ρ 2 x) 3 y) S) (Wm (1+j) (rest.map fun ws=>.str (ln ws))) [x0,some (.dic s),x2,x3] st=some (.nx [x0,some (.dic s),y2,y3],st')/\LI p tk s (ZJ p tk).length st'/\Kp s st st'
 |[],j,x2,x3,st,hd,hj,I,hc=>by
  refine⟨x2,x3,st,Zh2 hc,?_,Grw.refl.kp⟩;have hl:(ZJ p tk).length<=j:=List.drop_eq_nil_iff.mp hd;rw[show(ZJ p tk).length=j by omega]
  exact I
 |wl :: rest,j,x2,x3,st,hd,hjl,I,hc=>by
  have hj:(ZJ p tk)[j]?=some wl:=by
   have:=congrArg (fun l=>l[0]?) hd
   simp only[List.getElem?_drop,Nat.add_zero]at this;exact this
  obtain⟨st1,e1,I1,k1⟩:=ZcW (n:=n) (x0:=x0) (line:=((1+j:Nat):Int)) h hj I;have hc1:st1[a]?=some c:=(k1.old a (Zl hc) (.inr ha)).trans hc;obtain⟨y2,y3,st2,e2,I2,k2⟩:=U6 (x0:=x0) h ha (rest:=rest) (j:=j+1) (x2:=some (.int ((1+j:Nat):Int))) (x3:=some (.str (ln wl))) (by rw[<-List.drop_drop,hd];rfl) (Zl hj) I1 hc1
  refine⟨y2,y3,st2,?_,I2,k1.trans k2⟩;rw[List.map_cons];show ZX _ _ ((.int ((1+j:Nat):Int),.str (ln wl)) :: Wm (1+j+1) (rest.map fun ws=>.str (ln ws))) [x0,some (.dic s),x2,x3] st=_
  rw[Zei hc e1];exact e2
theorem ZfC(d:Dr st s tkd nm rw am)(h:∀ v∈am,∃ (l:Int) (t:Nat),v=.tup [.int l,.int (t:Int)]/\t<=rw.length):run T (n+1) 243 [.dic s] st=some (.non,st):=by
 obtain⟨ρ',e,x1,x2,rfl⟩:=WP (body:=U3 1 2 (ex (run T n) Zx)) (I:=fun ρ=>∃ x1 x2,ρ=[some (.dic s),x1,x2]) d.a (fun v hv ρ hρ=>by
  obtain⟨x1,x2,rfl⟩:=hρ;obtain⟨l,t,rfl,ht⟩:=h v hv;refine⟨[some (.dic s),some (.int l),some (.int (t:Int))],?_,_,_,rfl⟩;show ex (run T n) Zx [some (.dic s),some (.int l),some (.int (t:Int))] st=_;refine(Zv ((W2 (st':=st) ((YC (st1:=st) (u:=.int (t:Int)) (by rfl) (QH d) (k:=decide ((rw.length:Int) < (t:Int))) rfl).trans (by rw[decide_eq_false (by omega)]))).trans Zz)).trans Zz) am.length 0 [some (.dic s),none,none] (by omega) ⟨none,none,rfl⟩
 refine ZaN (d:=c_Draft_check_places) rfl rfl (ρ':=[some (.dic s),x1,x2]) (Zv ?_ |>.trans Zz);show Jt 1 2 (ev (run T n) (.dict [(S "aims")] (.var 0))) (ex (run T n) Zx) [some (.dic s),none,none] st=_;unfold Jt;rw[ZdN d];show(match st[s+4]? with
  |some (_,xs)=>ZH (U3 1 2 (ex (run T n) Zx)) (s+4) xs.length 0 [some (.dic s),none,none] st
  |none=>none)=_
 rw[d.a];exact e
theorem Zbm{e:CE}{j:Nat}{ds:Li D}(h:ev F e ρ st=some (.lst j,st))(h2:st[j]?=some (b,ds)):ev F (.tOf e) ρ st=some (.tup ds,st):=by
 show ZF (ev F e) XN ρ st=_;unfold ZF;rw[h];show XN (.lst j) st=_;show(match st[j]? with
  |some (_,xs)=>some (D.tup xs,st)
  |none=>none)=_
 rw[h2]
theorem Ziq(d:Dr st s tkd nm rw am)(ho:Wf nm=false):run T (n+1) 244 [.dic s] st=some (.tup [.tup tkd,.int nm.length,.tup rw],st):=by
 refine ZaO (d:=c_Draft_told) rfl rfl (Xh (Uw ?_));exact Yf (Zbm (Qw d) d.t) (Yf (Vm d ho) (Yf (Zbm (Zap d) d.r) VP (by decide)) (show 1 < 1000 by decide)) (show 2 < 1000 by decide)
theorem Zlk(h:Sh p tk):toD (Zn p)=.tup [.tup (tkD tk),.int (p.many:Int),.tup (rwD p.rows)]:=by
 unfold Zn;rw[h.takes];show D.tup [.tup (Uq (tk.map YB)),.int (p.many:Int),.tup (Uq (p.rows.map Zk))]=_;rw[Y9,Y9,List.map_map,List.map_map];rfl
theorem Zim(h:Sh p tk):∃ st',run T (n+8) 245 [.str (gl NL ((ZJ p tk).map ln))] st=some (toD (Zn p),st')/\Grw st st':=by
 have al:=Zba h;have ht:=h.tkl;have hz:=h.size;have hm:=h.many;obtain⟨ok,len⟩:=Qk h;obtain⟨st1,hst1⟩:∃ st1,st1=st++[obC st.length,(true,[]),(true,[]),(true,[]),(true,[])]:=⟨_,rfl⟩;have l1:st1.length=st.length+5:=by rw[hst1,List.length_append];rfl
 have x1:Grw st st1:=⟨fun i hi=>by rw[hst1,List.getElem?_append_left hi],by omega⟩
 have d1:Dr st1 st.length [] [] [] []:=by rw[hst1];exact Zjd
 have e1:ev (run T (n+7)) (.isc [237,238] .aN) [some (.str (gl NL ((ZJ p tk).map ln))),none,none,none] st=some (.dic st.length,st1):=by rw[Zkd (n:=n+6),hst1]
 have tl:(gl NL ((ZJ p tk).map ln)).length<=Zd:=by
  have:=ZdS (j:=84) nl1 (ws:=(ZJ p tk).map ln) (fun w h=>by
   obtain⟨ws,hs,rfl⟩:=List.mem_map.mp h;exact Zaz (ok ws hs))
  rw[List.length_map]at this;unfold Zd;have h2:(ZJ p tk).length * (84+1)<=17 * 85:=Nat.mul_le_mul_right _ len;omega
 obtain⟨ls,hls⟩:∃ ls,ls=WW (gl NL ((ZJ p tk).map ln)) (S "\n"):=⟨_,rfl⟩;have e2:ev (run T (n+7)) (.tix (.var 0) (.aC (.cst (.str (S "\n"))) .aN)) [some (.str (gl NL ((ZJ p tk).map ln))),some (.dic st.length),none,none] st1=some (.lst st1.length,st1++[(true,ls.map D.str)]):=by
  show(if (S "\n").length=1/\(gl NL ((ZJ p tk).map ln)).length<=Zd then some (D.lst st1.length,st1++[(true,(WW (gl NL ((ZJ p tk).map ln)) (S "\n")).map D.str)]) else none)=_
  rw[if_pos ⟨by decide +kernel,tl⟩,hls]
 have hw:(st1++[(true,ls.map D.str)])[st1.length]?=some (true,ls.map D.str):=by
  rw[List.getElem?_append_right (Nat.le_refl _),Nat.sub_self];rfl
 have I0:LI p tk st.length 0 (st1++[(true,ls.map D.str)]):=⟨[],Nat.le_refl _,(fun _ z=>nomatch z),(by
  have z:=d1.ext (Grw.push (c:=(true,ls.map D.str)));rw[show Nat.min 0 p.many=0 from Nat.min_eq_left (by omega),show 0 - p.many=0 by omega]
  exact z)⟩
 have main:∃ y2 y3 st',ZX (fun S=>S[st1.length]?=some (true,ls.map D.str)) (fun x y ρ S=>ex (run T (n+7)) Ys (Zy (Zy ρ 2 x) 3 y) S) (Wm 1 (ls.map D.str)) [some (.str (gl NL ((ZJ p tk).map ln))),some (.dic st.length),none,none] (st1++[(true,ls.map D.str)])=some (.nx [some (.str (gl NL ((ZJ p tk).map ln))),some (.dic st.length),y2,y3],st')/\LI p tk st.length (ZJ p tk).length st'/\Kp st.length (st1++[(true,ls.map D.str)]) st':=by
  by_cases c:ZJ p tk=[]
  ·have es:ls=[S ""]:=by rw[hls,c];exact congrArg (· :: []) (XZ rfl)
   subst es;rw[c];refine⟨some (.int 1),some (.str (S "")),_,?_,I0,Grw.refl.kp⟩;have t:ex (run T (n+7)) Ys [some (.str (gl NL [])),some (.dic st.length),some (.int 1),some (.str (S ""))] (st1++[(true,[S ""].map D.str)])=some (.nx [some (.str (gl NL [])),some (.dic st.length),some (.int 1),some (.str (S ""))],(st1++[(true,[S ""].map D.str)])):=(Zv ((W2 (ZiP (by rfl))).trans Zz)).trans Zz
   show ZX _ _ ((.int ((1:Nat):Int),.str (S "")) :: []) [some (.str (gl NL [])),some (.dic st.length),none,none] (st1++[(true,[S ""].map D.str)])=_;rw[Zei hw t];exact Zh2 hw
  ·have es:ls=(ZJ p tk).map ln:=by
    rw[hls];unfold NL;rw[ZlO];refine Zfd (fun z=>c (List.map_eq_nil_iff.mp z)) fun q hq=>?_
    obtain⟨wl,hwl,rfl⟩:=List.mem_map.mp hq;obtain⟨k,ws,rfl,hk,hv⟩:=JE h hwl;exact ZkQ (Uu hk) hv
   subst es;have:=U6 (n:=n) (x0:=some (.str (gl NL ((ZJ p tk).map ln)))) (a:=st1.length) (s:=st.length) (c:=(true,((ZJ p tk).map ln).map D.str)) h (by omega) (rest:=ZJ p tk) (j:=0) (x2:=none) (x3:=none) rfl (Nat.zero_le _) I0 hw
   rw[List.map_map]at this ⊢;exact this
 obtain⟨y2,y3,st2,e3,I3,k3⟩:=main;obtain⟨am,q1,q2,d3⟩:=I3;rw[al,show Nat.min (p.many+p.rows.length) p.many=p.many from Nat.min_eq_right (by omega),show p.many+p.rows.length - p.many=p.rows.length by omega,List.take_of_length_le (show tk.length<=p.many+p.rows.length by omega),List.take_of_length_le (Nat.le_refl p.rows.length)]at d3
 refine⟨st2,?_,⟨fun i hi=>?_,?_⟩⟩
 ·rw[Zlk h]
  refine ZaO (d:=c_read) rfl rfl ?_;show ex (run T (n+7)) (.seq _ (.seq _ (.seq _ (.seq _ .skip)))) [some (.str (gl NL ((ZJ p tk).map ln))),none,none,none] st=_;rw[Zv (Wy e1)];show ex (run T (n+7)) _ [some (.str (gl NL ((ZJ p tk).map ln))),some (.dic st.length),none,none] st1=_;rw[Zv (ρ':=[some (.str (gl NL ((ZJ p tk).map ln))),some (.dic st.length),y2,y3]) (st':=st2) (by
   show Ju 2 3 (ev (run T (n+7)) (.tix (.var 0) (.aC (.cst (.str (S "\n"))) .aN))) (ex (run T (n+7)) Ys) [some (.str (gl NL ((ZJ p tk).map ln))),some (.dic st.length),none,none] st1=_;unfold Ju;rw[e2];show(match (match (st1++[(true,ls.map D.str)])[st1.length]? with
    |some c=>some (c.2,fun(s:Za)=>s[st1.length]?=some c)
    |none=>none) with
    |some (xs,ok)=>ZX ok (fun x y ρ s=>ex (run T (n+7)) Ys (Zy (Zy ρ 2 x) 3 y) s) (Wm 1 xs) [some (.str (gl NL ((ZJ p tk).map ln))),some (.dic st.length),none,none] (st1++[(true,ls.map D.str)])
    |none=>none)=_
   rw[hw];exact e3)]
  rw[Zv (Zfq ((VQ (s:=st.length) (xs:=[]) (st1:=st2) rfl d3.o (by rfl)).trans (ZfC (n:=n+6) d3 (fun v hv=>by
   obtain⟨l,t,e,ht⟩:=q2 v hv;exact⟨l,t,e,by unfold rwD;rw[List.length_map];exact ht⟩))))]
  refine Xh (Uw ((VQ (s:=st.length) (xs:=[]) (st1:=st2) rfl d3.o (by rfl)).trans ((Ziq (n:=n+6) d3 (Uc hm)).trans ?_)))
  rw[Wt]
 ·have a1:i < (st1++[((true,ls.map D.str):Yp)]).length:=by rw[List.length_append];omega
  rw[k3.old i a1 (.inl hi),List.getElem?_append_left (by omega),x1.old i hi]
 ·have:=k3.len
  rw[List.length_append]at this;omega
theorem ZfD(h:Sh p tk):∃ st',run T (n+9) 248 [.str (gl NL ((ZJ p tk).map ln))] st=some (toD (Zn p),st')/\Grw st st':=by
 obtain⟨st',e,x⟩:=Zim (n:=n) (st:=st) h;refine⟨st',ZaO (d:=c__law_read) rfl rfl ?_,x⟩;show ex (run T (n+8)) (.seq (.set 1 (.cst .non)) (.seq (.seq (.set 1 (.call 245 (.aC (.var 0) .aN) [])) .skip) (.seq (.ret (.var 1)) .skip))) [some (.str (gl NL ((ZJ p tk).map ln))),none] st=_;rw[Zv (Wy (v:=.non) (st':=st) rfl)];rw[Zv ((Zv (Wy ((YY (xs:=[.str (gl NL ((ZJ p tk).map ln))]) (st':=st) (by rfl)).trans e))).trans Zz)]
 exact Xh (Uw (by rfl))
end
end Dp


namespace Dp
open PySem
mutual
def kP:P->P
 |.tup ps=>.lst true (kPs ps)
 |.str _=>.str (S "text")
 |_=>.str (S "whole")
def kPs:Li P->Li P
 |[]=>[]
 |p :: ps=>kP p :: kPs ps
end
theorem QG:∀ {ps:Li P},kPs ps=ps.map kP
 |[]=>rfl
 |p :: ps=>by
  show kP p :: kPs ps=_;rw[QG];rfl
def cdP:Nat->P->Bool
 |_,.int _=>true
 |_,.str _=>true
 |n+1,.tup ps=>decide (ps.length<=900)&&ps.all (cdP n)
 |_,_=>false
section
variable {n m s w a:Nat}{st st':Za}{F:PFn}{p:Prog}{tk:Li (Int×Int)}{fz:Fz}
theorem Zh1{i:Int}(h:F 17 [.int i]=some (.bl true)):px F [] c__law_kinds.body [some (.int i)]=some (.rt (.str (S "whole"))):=by
 unfold c__law_kinds;rw[ZK (by rfl),ZK (by rfl),Yj (v:=.str (S "whole")) (by
  rw[pe_ix,ZeL,show pe F (.call 17 (.aC (.var 0) .aN) []) [some (.int i)]=some (.bl true) from h];rfl)]
theorem Zh3{x:Str}:px F [] c__law_kinds.body [some (.str x)]=some (.rt (.str (S "text"))):=by
 unfold c__law_kinds;rw[ZK (by rfl),Yt (v:=.str (S "text")) (by rfl) (by rfl)]
theorem ZkO{ps:Li P}(hl:ps.length<=900)(h:∀ q∈ps,F 246 [q]=some (kP q)):px F [] c__law_kinds.body [some (.tup ps)]=some (.rt (.lst true (ps.map kP))):=by
 unfold c__law_kinds;rw[Yt (v:=.lst true (ps.map kP)) (by rfl) (by
  unfold Xv;exact XD (enc:=id) (g:=kP) (x:=.tup ps) (l:=ps) rfl (by rw[List.map_id];rfl) (by omega) (fun q hq=>h q hq))]
theorem Za7:∀ {k:Nat}{q:P},cdP k q=true->Zj T (n+k+2) 246 [q]=some (kP q):=by
 have one:∀ {N:Nat}{q v:P},px (Zj T N) [] c__law_kinds.body [some q]=some (.rt v)->Zj T (N+1) 246 [q]=some v:=by
  intro N q v h;rw[Zt (f:=c__law_kinds) rfl rfl rfl,show ZN c__law_kinds.body=[] from rfl];show Yd (px (Zj T N) [] c__law_kinds.body [some q])=_;rw[h];rfl
 intro k
 induction k with
 |zero=>
  intro q h;cases q with
  |int i=>exact one (Zh1 (Za6 (n:=n) rfl))
  |str x=>exact one Zh3
  |_=>exact nomatch h
 |succ k ih=>
  intro q h;cases q with
  |int i=>exact one (Zh1 (Za6 (n:=n+k+1) rfl))
  |str x=>exact one Zh3
  |tup ps=>
   have h:(decide (ps.length<=900)&&ps.all (cdP k))=true:=h;rw[Ba,decide_eq_true_eq,List.all_eq_true]at h;show _=some (P.lst true (kPs ps));rw[QG];exact one (ZkO h.1 fun q hq=>ih (h.2 q hq))
  |_=>exact nomatch h
theorem ZiF{r:Row}:cdP 6 (Zk r)=true:=by
 cases r with
 |put x y s z=>cases y<;>cases z<;>rfl
 |ifr y s z t=>cases y<;>cases z<;>rfl
 |tell y=>cases y<;>rfl
 |_=>rfl
theorem ZfX(h:Sh p tk):cdP 8 (Zn p)=true:=by
 have hz:=h.size;have ht:=h.tk3;have a:cdP 7 (.tup (tk.map YB))=true:=by
  show(decide ((tk.map YB).length<=900)&&(tk.map YB).all (cdP 6))=true;rw[decide_eq_true (by rw[List.length_map];omega),List.all_eq_true.mpr fun q hq'=>by obtain⟨a,_,rfl⟩:=List.mem_map.mp hq';rfl]
  rfl
 have b:cdP 7 (.tup (p.rows.map Zk))=true:=by
  show(decide ((p.rows.map Zk).length<=900)&&(p.rows.map Zk).all (cdP 6))=true;rw[decide_eq_true (by rw[List.length_map];omega),List.all_eq_true.mpr fun q hq'=>by obtain⟨a,_,rfl⟩:=List.mem_map.mp hq';exact ZiF]
  rfl
 unfold Zn;rw[h.takes];show(true&&(cdP 7 (.tup (tk.map YB))&&(true&&(cdP 7 (.tup (p.rows.map Zk))&&true))))=true;rw[a,b];rfl
theorem ZhS:∀ {n:Nat}{q:P},cdP n q=true->okP n q=true
 |0,.int _,_=>rfl
 |0,.str _,_=>rfl
 |n+1,.int _,_=>rfl
 |n+1,.str _,_=>rfl
 |n+1,.tup ps,h=>by
  have h:(decide (ps.length<=900)&&ps.all (cdP n))=true:=h;rw[Ba,List.all_eq_true]at h;have z:∀ {qs:Li P},(∀ q∈qs,cdP n q=true)->UF n qs=true:=by
   intro qs
   induction qs with
   |nil=>exact fun _=>rfl
   |cons q qs ih=>
    intro h;show(okP n q&&UF n qs)=true;rw[ZhS (h q Ls),ih fun r hr=>h r (Lm _ hr)];rfl
  exact z h.2
def kd:Nat->P->Bool
 |_,.str _=>true
 |n+1,.lst _ ps=>ps.all (kd n)
 |_,_=>false
theorem Zh4:∀ {n:Nat}{q:P},cdP n q=true->kd n (kP q)=true
 |0,.int _,_=>rfl
 |0,.str _,_=>rfl
 |n+1,.int _,_=>rfl
 |n+1,.str _,_=>rfl
 |n+1,.tup ps,h=>by
  have h:(decide (ps.length<=900)&&ps.all (cdP n))=true:=h;rw[Ba,List.all_eq_true]at h;show(kPs ps).all (kd n)=true;rw[QG,List.all_eq_true];intro q hq;obtain⟨r,hr,rfl⟩:=List.mem_map.mp hq;exact Zh4 (h.2 r hr)
theorem Zf7:∀ {n:Nat}{q:P}{x y:D},kd n q=true->Rel fz st q x->Rel fz st q y->dEq st n x y=true:=by
 intro n
 induction n with
 |zero=>
  intro q x y h hx hy;cases q with
  |str z=>
   cases hx;cases hy;show decide (z=z)=true;exact decide_eq_true rfl
  |_=>exact nomatch h
 |succ n ih=>
  intro q x y h hx hy;cases q with
  |str z=>
   cases hx;cases hy;show decide (z=z)=true;exact decide_eq_true rfl
  |lst m ps=>
   cases hx with
   |lst h1 h2 h3=>
    cases hy with
    |lst g1 g2 g3=>
     have h:ps.all (kd n)=true:=h;rw[List.all_eq_true]at h;have z:∀ {qs:Li P}{ds es:Li D},(∀ q∈qs,kd n q=true)->Rels fz st qs ds->Rels fz st qs es->Zan (dEq st n) ds es=true:=by
      intro qs
      induction qs with
      |nil=>intro ds es _ a b;cases a;cases b;rfl
      |cons q qs ih2=>
       intro ds es h a b;cases a with
       |cons a1 a2=>
        cases b with
        |cons b1 b2=>
         show(dEq st n _ _&&Zan (dEq st n) _ _)=true;rw[ih (h q Ls) a1 b1,ih2 (fun r hr=>h r (Lm _ hr)) a2 b2];rfl
     unfold dEq;rw[h2,g2];exact z h h3 g3
  |_=>exact nomatch h
theorem Zel{x y:D}(h:Sh p tk)(hx:Rel fz st (kP (Zn p)) x)(hy:Rel fz st (kP (Zn p)) y):WD .NotEq x y st=some false:=by
 have hd:=Zf7 (Zh4 (ZfX h)) hx hy;have e:kP (Zn p)=.lst true [.lst true (kPs (tk.map YB)),.str (S "whole"),.lst true (kPs (p.rows.map Zk))]:=by
  unfold Zn;rw[h.takes];rfl
 rw[e]at hx hy;cases hx with
 |lst a1 a2 a3=>
  rename_i i ds;cases hy with
  |lst b1 b2 b3=>
   rename_i j es;show(Zct st i (.lst j)).map not=_;have:Zct st i (.lst j)=some true:=by
    show(match (o2 (fun(c d:Yp)=>Qv c.2 d.2) st[i]? st[j]?).join with
     |some k=>some k
     |none=>if dEq st 8 (.lst i) (.lst j)=true then some true else none)=_
    rw[a2,b2];have:Qv ds es=none:=by
     cases a3 with
     |cons a3 a4=>
      cases a3;cases b3 with
      |cons b3 b4=>
       cases b3;rfl
    show(match Qv ds es with
     |some k=>some k
     |none=>if dEq st 8 (.lst i) (.lst j)=true then some true else none)=_
    rw[this];exact if_pos hd
   rw[this];rfl
theorem V5{x0 x1 x2 x4 x5:Ot D}(h:Sh p tk):∃ ρ' st',ex (run T (n+11)) Yb [x0,x1,x2,some (toD (Zn p)),x4,x5] st=some (.nx ρ',st')/\(∃ y3 y4 y5,ρ'=[x0,x1,x2,y3,y4,y5])/\Grw st st':=by
 obtain⟨tx,htx⟩:∃ tx,tx=gl NL ((ZJ p tk).map ln):=⟨_,rfl⟩;obtain⟨st1,e1,q1⟩:=YO (n:=n+11) (ZfA (n:=n+8) h) rfl (.cons (Xf (Va h)) .nil) (st:=st);obtain⟨st2,e2,q2⟩:=ZfD (n:=n+2) (st:=st1) h;rw[<-htx]at e1 e2;have E:EnvAll (Al st2) st2 [none,none,none,some (Zn p),none,some (Zn p)] [x0,x1,x2,some (toD (Zn p)),some (.str tx),some (toD (Zn p))]:=EA.no (EA.no (EA.no (EA.yes (Xf (Va h)) (EA.no (EA.yes (Xf (Va h)) EA.nil)))))
 have ok:=ZhS (ZfX h);have ce:pe (Zj T (n+11)) (.cmp .NotEq (.var 5) (.var 3)) [none,none,none,some (Zn p),none,some (Zn p)]=some (.bl false):=by
  exact Jk ok
 obtain⟨v3,st3,e3,q3,r3⟩:=Wv ce E;cases r3;have R3:∀ {S:Za},Rels (Al S) S [Zn p] [toD (Zn p)]:=fun {S}=>.cons (Xf (Va h)) .nil
 obtain⟨v4,st4,e4,q4,r4⟩:=XV (n:=n+11) (st:=st3) (Za7 (n:=n+1) (ZfX h)) R3;obtain⟨v5,st5,e5,q5,r5⟩:=XV (n:=n+11) (st:=st4) (Za7 (n:=n+1) (ZfX h)) R3;have r4':Rel (Al st5) st5 (kP (Zn p)) v4:=r4.mono (fun i hi=>Nat.lt_of_lt_of_le hi q5.len) fun i hi=>q5.old i hi
 refine⟨[x0,x1,x2,some (toD (Zn p)),some (.str tx),some (toD (Zn p))],st5,?_,⟨_,_,_,rfl⟩,((q1.trans q2).trans q3).trans (q4.trans q5)⟩;unfold Yb;rw[Zv (Wy ((YY (xs:=[toD (Zn p)]) (st':=st) (by rfl)).trans e1))]
 show ex (run T (n+11)) _ [x0,x1,x2,some (toD (Zn p)),some (.str tx),x5] st1=_;rw[Zv ((W2 (st':=st1) (Zbl (k:=true) (by rfl))).trans Zz)]
 rw[Zv (Wy ((YY (xs:=[.str tx]) (st':=st1) (by rfl)).trans e2))]
 show ex (run T (n+11)) _ [x0,x1,x2,some (toD (Zn p)),some (.str tx),some (toD (Zn p))] st2=_;exact(Zv ((W2 ((ZkA e3).trans (YC ((YY (xs:=[toD (Zn p)]) (st':=st3) (by rfl)).trans e4) ((YY (xs:=[toD (Zn p)]) (st':=st4) (by rfl)).trans e5) (Zel h r4' r5)))).trans Zz)).trans Zz
theorem JF{body:D->Env->Za->Ot (Fl×Za)}{I:Env->Prop}{b:Bool}{xs:Li D}(hb:∀ d∈xs,∀ ρ st,I ρ->∃ ρ' st',body d ρ st=some (.nx ρ',st')/\I ρ'/\Grw st st'):∀ (k i:Nat) (ρ:Env) (st:Za),st[a]?=some (b,xs)->i+k=xs.length->I ρ->∃ ρ' st',ZH body a k i ρ st=some (.nx ρ',st')/\I ρ'
 |0,i,ρ,st,h,hi,hI=>by
  refine⟨ρ,st,?_,hI⟩;show(match st[a]? with
   |some (_,xs)=>if xs.length<=i then some (Fl.nx ρ,st) else none
   |none=>none)=_
  rw[h];exact if_pos (by omega)
 |k+1,i,ρ,st,h,hi,hI=>by
  have hx:xs[i]?=some (xs[i]'(by omega)):=Lg (by omega)
  obtain⟨ρ1,st1,e1,I1,x1⟩:=hb _ (List.getElem_mem (h:=(by omega:i < xs.length))) ρ st hI
  obtain⟨ρ2,st2,e2,I2⟩:=JF hb k (i+1) ρ1 st1 (x1.get h) (by omega) I1
  refine⟨ρ2,st2,?_,I2⟩;show(match st[a]? with
   |some (_,xs)=>match xs[i]? with
    |none=>some (Fl.nx ρ,st)
    |some d=>match body d ρ st with
     |some (.nx ρ',st')=>ZH body a k (i+1) ρ' st'
     |some (.ct ρ',st')=>ZH body a k (i+1) ρ' st'
     |some (.bk ρ',st')=>some (.nx ρ',st')
     |some (.rt v,st')=>some (.rt v,st')
     |none=>none
   |none=>none)=_
  rw[h];simp only[hx,e1];exact e2
end
theorem ZcD{n:Nat}{ns:Li Int}(hn:ns.length<=63):∃ st',run T (n+12) 16 [.lst 0] [(false,ns.map .int)]=some (.bl true,st'):=by
 obtain⟨p,tk,sh,ep⟩:=Zij (n:=n+7) (ns:=ns);have hz:=sh.size;have rs:∀ {st:Za},st[0]?=some (false,ns.map D.int)->Rel (Al st) st (.lst false (ns.map P.int)) (.lst 0):=fun {st} h=>.lst (Zl h) h (by
  have:ns.map D.int=Uq (ns.map P.int):=by rw[Y9,List.map_map];rfl
  rw[this];exact Wx (Y7 fun q hq=>by obtain⟨a,_,rfl⟩:=List.mem_map.mp hq;rfl))
 have h0:([(false,ns.map D.int)]:Za)[0]?=some (false,ns.map D.int):=rfl;obtain⟨st1,e1,x1⟩:=YO (n:=n+11) (st:=[(false,ns.map D.int)]) ep (Va sh) (ds:=[.lst 0,.int 12]) (.cons (rs h0) (.cons (.int 12) .nil));have h1:=x1.get h0
 -- the cut
 obtain⟨c,ec⟩:∃ c,Zj T (n+11) 27 [.lst false (ns.map .int),.int 32]=some (.int c):=⟨_,Zc5 (n:=n+10) (k:=32) rfl (by decide)⟩
 obtain⟨q,hq,hql⟩:∃ q:Nat,c % ((p.rows.length:Int)+1)=(q:Int)/\q<=p.rows.length:=by
  have a:=Int.emod_nonneg c (show(p.rows.length:Int)+1≠0 by omega)
  have b:=Int.emod_lt_of_pos c (show 0 < (p.rows.length:Int)+1 by omega)
  exact⟨(c % ((p.rows.length:Int)+1)).toNat,by omega,by omega⟩
 obtain⟨v2,st2,e2,x2,r2⟩:=Wv (n:=n+11) (st:=st1) (e:=(.bin .Mod (.call 27 (.aC (.var 0) (.aC (.cst (.int 32)) .aN)) []) (.bin .Add (.len (.ix (.var 1) (.cst (.int 2)))) (.cst (.int 1))))) (π:=[some (.lst false (ns.map .int)),some (Zn p),none,none,none,none]) (ρ:=[some (.lst 0),some (toD (Zn p)),none,none,none,none]) (p:=.int (q:Int)) (by
  rw[Zjo,show pe (Zj T (n+11)) (.call 27 (.aC (.var 0) (.aC (.cst (.int 32)) .aN)) []) [some (.lst false (ns.map .int)),some (Zn p),none,none,none,none]=some (.int c) from ec,Ob,show pe (Zj T (n+11)) (.bin .Add (.len (.ix (.var 1) (.cst (.int 2)))) (.cst (.int 1))) [some (.lst false (ns.map .int)),some (Zn p),none,none,none,none]=some (.int (((p.rows.map Zk).length:Int)+1)) from rfl,Ob,ZfN,List.length_map,if_pos (by omega),hq]) (EA.yes (rs h1) (EA.yes (Xf (Va sh)) (EA.no (EA.no (EA.no (EA.no EA.nil))))))
 cases Um (p:=.int (q:Int)) rfl r2
 have sc:=ZiL sh hql;obtain⟨st3,e3,x3⟩:=YO (n:=n+11) (st:=st2) (Zkf (n:=n+10) sh hql) (Va sc) (ds:=[toD (Zn p),.int (q:Int)]) (.cons (Xf (Va sh)) (.cons (.int _) .nil));have e4:ev (run T (n+11)) (.lstE (.aC (.var 1) (.aC (.call 247 (.aC (.var 1) (.aC (.var 2) .aN)) []) (.aC (.var 1) .aN)))) [some (.lst 0),some (toD (Zn p)),some (.int (q:Int)),none,none,none] st2=some (.lst st3.length,st3++[(true,[toD (Zn p),toD (Zn (UA q p)),toD (Zn p)])]):=by
  show ZF (ev (run T (n+11)) (.aC (.var 1) (.aC (.call 247 (.aC (.var 1) (.aC (.var 2) .aN)) []) (.aC (.var 1) .aN)))) ZcK _ st2=_;unfold ZF;rw[Yf (st1:=st2) (x:=toD (Zn p)) (by rfl) (Yf ((YY (xs:=[toD (Zn p),.int (q:Int)]) (st':=st2) (by rfl)).trans e3) (Yf (st1:=st3) (x:=toD (Zn p)) (by rfl) VP (by decide)) (show 1 < 1000 by decide)) (show 2 < 1000 by decide)]
  rfl
 have hl:(st3++[((true,[toD (Zn p),toD (Zn (UA q p)),toD (Zn p)]):Yp)])[st3.length]?=some (true,[toD (Zn p),toD (Zn (UA q p)),toD (Zn p)]):=by
  rw[List.getElem?_append_right (Nat.le_refl _),Nat.sub_self];rfl
 obtain⟨ρ5,st5,e5,I5⟩:=JF (a:=st3.length) (body:=fun d ρ s=>ex (run T (n+11)) Yb (Zy ρ 3 d) s) (I:=fun ρ=>∃ y3 y4 y5,ρ=[some (.lst 0),some (toD (Zn p)),some (.int (q:Int)),y3,y4,y5]) (b:=true) (xs:=[toD (Zn p),toD (Zn (UA q p)),toD (Zn p)]) (fun d hd ρ st hρ=>by
  obtain⟨y3,y4,y5,rfl⟩:=hρ;simp only[List.mem_cons,List.not_mem_nil,or_false]at hd;rcases hd with rfl|rfl|rfl
  ·exact V5 sh
  ·exact V5 sc
  ·exact V5 sh) 3 0 [some (.lst 0),some (toD (Zn p)),some (.int (q:Int)),none,none,none] _ hl rfl ⟨_,_,_,rfl⟩
 refine⟨st5,ZaO (d:=c_law_k12) rfl rfl ?_⟩;show ex (run T (n+11)) (.seq _ (.seq _ (.seq _ (.seq _ .skip)))) [some (.lst 0),none,none,none,none,none] [(false,ns.map D.int)]=_;rw[Zv (Wy ((YY (xs:=[.lst 0,.int 12]) (st':=[(false,ns.map D.int)]) (by rfl)).trans e1))]
 show ex (run T (n+11)) _ [some (.lst 0),some (toD (Zn p)),none,none,none,none] st1=_;rw[Zv (Wy e2)];show ex (run T (n+11)) _ [some (.lst 0),some (toD (Zn p)),some (.int (q:Int)),none,none,none] st2=_;rw[Zv (ρ':=ρ5) (st':=st5) (by
  show Vh 3 false (ev (run T (n+11)) (.lstE (.aC (.var 1) (.aC (.call 247 (.aC (.var 1) (.aC (.var 2) .aN)) []) (.aC (.var 1) .aN))))) (ex (run T (n+11)) Yb) [some (.lst 0),some (toD (Zn p)),some (.int (q:Int)),none,none,none] st2=_;unfold Vh;rw[e4];show(match (st3++[((true,[toD (Zn p),toD (Zn (UA q p)),toD (Zn p)]):Yp)])[st3.length]? with
   |some (_,xs)=>ZH (fun d ρ s=>ex (run T (n+11)) Yb (Zy ρ 3 d) s) st3.length xs.length 0 [some (.lst 0),some (toD (Zn p)),some (.int (q:Int)),none,none,none] (st3++[((true,[toD (Zn p),toD (Zn (UA q p)),toD (Zn p)]):Yp)])
   |none=>none)=_
  rw[hl];exact e5)]
 exact Xh (Uw (by rfl))
end Dp


namespace PySem.W.Fast
def tw9287830445678419523:=0
def tw3069574930603624965:=0
def tw16674380983867736925:=0
def tw15404584827215516239:=0
def tw14057184539663485675:=0
def tw5323124840628618267:=0
def tw7744789829301592849:=0
def tw15968079542939921989:=0
def tw4205023509987327933:=0
def tw17744392583741482085:=0
def tw17070184645752774418:=0
def tw4600823166374906525:=0
def tw15925350644331248740:=0
def tw1737662039486491022:=0
def tw9483168162132348610:=0
def tw2664280764072619555:=0
def tw16956274130102170528:=0
def tw1409301015844037602:=0
def tw18258531809954546335:=0
def tw18254489451239165026:=0
def tw1217450388771129916:=0
def tw12974211411667144878:=0
def tw11899911234069056922:=0
def tw18189064477730149234:=0
def tw12322493582634982530:=0
def tw16606913844021664902:=0
def tw4724418401584477611:=0
def tw2780394787641184685:=0
def tw3216495019124532284:=0
def tw4628311491581137975:=0
def tw6991281528805729487:=0
def tw2124542279010666508:=0
def tw5024246258008604540:=0
def tw6227774702100372487:=0
def tw16150105451386974859:=0
def tw12028103174558771700:=0
def tw2289980382546306550:=0
def tw4096274969198700303:=0
def tw18342650758484043546:=0
def tw8717512947076555346:=0
def tw7291681467103015580:=0
def tw7644800491081654757:=0
def tw11249851123251682178:=0
def tw1975996574555769331:=0
def tw6868894757362627568:=0
def tw520773424361929137:=0
def tw10608138851477937438:=0
def tw16783963422749777235:=0
def tw2296076328908591002:=0
def tw6494407818782706484:=0
def tw10599499323229290937:=0
def tw12685776162233244744:=0
def tw10136455106333090465:=0
def tw17123678506866245365:=0
def tw2385992811747297917:=0
def tw6113367582671525554:=0
def tw18320409101863340854:=0
def tw3650518735261899485:=0
def tw5831264697732072646:=0
def tw18142197159631787423:=0
def tw598273910197731208:=0
def tw6316749420558782317:=0
def tw2540852327911165210:=0
def tw2760254509310438041:=0
def tw1110144323839759087:=0
def tw2613063210005021500:=0
def tw17722786700046572258:=0
def tw4600035984718038961:=0
def tw9875807373017150560:=0
def tw7222080462652133877:=0
def tw18059206169990597729:=0
def tw17422262251080051293:=0
def tw7580220284778516732:=0
def tw2992340701231262418:=0
def tw17461124911111595211:=0
def tw17525674652598355969:=0
def tw12277898344413015988:=0
def tw6770361566461687785:=0
def tw11688997465612725168:=0
def tw2565158893402903818:=0
def tw17317524463027817948:=0
def tw5456336112463306300:=0
def tw3094427431757972733:=0
def tw8335483537823280174:=0
def tw17502175723403490697:=0
def tw11087149508997928311:=0
def tw6392375345342170719:=0
def tw2632326108751809225:=0
def tw12419934499910271724:=0
def tw2725443447220086148:=0
def tw16408852537240203402:=0
def tw13586424263924339843:=0
def tw13953002376413179606:=0
def tw5004164310045634101:=0
def tw1934469663145336432:=0
def tw18351408815353709228:=0
def tw4314842547679707953:=0
def tw6876652253930177309:=0
def tw17794783249754466253:=0
def tw10857345872195980108:=0
def tw6417657111541908030:=0
def tw1138800750941564203:=0
def tw2555196148189818216:=0
def tw108768708180322545:=0
def tw13033903990754760047:=0
def tw2511954064612741481:=0
def tw4157298776170943132:=0
def tw3852469890261544395:=0
def tw4262122925373102303:=0
def tw7336789459480044634:=0
def tw13773184564799955137:=0
def tw9700552675064244656:=0
def tw4799548765242970202:=0
def tw3968229913634677302:=0
def tw8949231048470891400:=0
def tw11919006787733653092:=0
def tw16410384080820117002:=0
def tw1619137094597357869:=0
def tw265388618813676716:=0
def tw15821066073099078379:=0
def tw4060954954716757889:=0
def tw5732720696192673635:=0
def tw18374409458198919078:=0
def tw4057355965507922114:=0
def tw16955537679498324414:=0
def tw15692790026101760255:=0
def tw12079258573034104326:=0
def tw224312010138818058:=0
def tw12532366599465912237:=0
def tw11841303291537662728:=0
def tw7330513862856133209:=0
def tw10123735961263782792:=0
def tw315167062218760712:=0
def tw18253792887027003304:=0
def tw942288036327377204:=0
def tw5125631317544743164:=0
def tw5116183526706076903:=0
def tw12091784179540333502:=0
def tw8143421520885185197:=0
def tw2685874732197270630:=0
def tw18281836430490535682:=0
def tw10715163357541791774:=0
def tw11337133559231198824:=0
end PySem.W.Fast
namespace Dp
open PySem L2
noncomputable def top(i:Nat):Stmt:=PySem.Challenge.pw_fakehunt_k12_whole_shown_and_read.main.body.getD i (.Pass ⟨0,0,0,0⟩)
noncomputable def G:Gs:=[(S "Draft",GV.cls 237 [(S "__init__",238,1),(S "has_room",239,2),(S "read_line",240,3),(S "read_name",241,3),(S "read_row",242,3),(S "check_places",243,1),(S "told",244,1)] [237]),(S "HALF",GV.cst (.int 1000000000)),(S "RING",GV.cst (.int 2000000000)),(S "PUT_SIGNS",GV.cst (.kt [(S "+"),(S "-"),(S "*"),(S "/"),(S "mod")])),(S "IF_SIGNS",GV.cst (.kt [(S "<"),(S "<="),(S "="),(S ">="),(S ">"),(S "!=")])),(S "around",GV.fn 0 1 []),(S "LETTERS",GV.cst (.str (S "abcdefghijklmnopqrstuvwxyz"))),(S "FIGURES",GV.cst (.str (S "0123456789"))),(S "is_made_of",GV.fn 209 3 []),(S "is_name",GV.fn 210 1 []),(S "are_figures",GV.fn 211 2 []),(S "number_in",GV.fn 212 1 []),(S "place_in",GV.fn 213 1 []),(S "FORMS",GV.dct [(S "take"),(S "name"),(S "put"),(S "if"),(S "go"),(S "tell"),(S "skip")] [(.tup [(.str (S "name")),(.str (S "number")),(.str (S "number"))]),(.tup [(.str (S "name"))]),(.tup [(.str (S "name")),(.str (S "operand")),(.str (S "put sign")),(.str (S "operand"))]),(.tup [(.str (S "operand")),(.str (S "if sign")),(.str (S "operand")),(.str (S "go")),(.str (S "place"))]),(.tup [(.str (S "place"))]),(.tup [(.str (S "operand"))]),(.tup [])]),(S "MOST_TAKES",GV.cst (.int 3)),(S "MOST_NAMES",GV.cst (.int 5)),(S "MOST_ROWS",GV.cst (.int 12)),(S "fits",GV.fn 232 2 []),(S "is_line",GV.fn 233 1 []),(S "names_read",GV.fn 234 1 []),(S "operand_in",GV.fn 235 2 []),(S "row_of",GV.fn 236 2 []),(S "read",GV.fn 245 1 []),(S "operand_shown",GV.fn 218 1 []),(S "words_of",GV.fn 219 1 []),(S "shown",GV.fn 220 1 []),(S "_law_whole",GV.fn 17 1 []),(S "_law_cell_at",GV.fn 27 2 []),(S "_law_small_by",GV.fn 19 1 []),(S "_law_operand",GV.fn 28 2 []),(S "_law_row",GV.fn 29 4 []),(S "_law_program",GV.fn 30 2 []),(S "_law_kinds",GV.fn 246 1 []),(S "_law_cut",GV.fn 247 2 []),(S "_law_read",GV.fn 248 1 []),(S "law",GV.fn 16 1 []),(S "len",GV.blt),(S "range",GV.blt),(S "tuple",GV.blt),(S "list",GV.blt),(S "int",GV.blt),(S "bool",GV.blt),(S "str",GV.blt),(S "min",GV.blt),(S "max",GV.blt),(S "isinstance",GV.blt),(S "all",GV.blt),(S "any",GV.blt),(S "zip",GV.blt),(S "sorted",GV.blt),(S "enumerate",GV.blt),(S "set",GV.blt)]
noncomputable def Wr(i k:Nat):Stmt:=match top i with
 |.ClassDef _ _ _ b _ _ _ _ _ _ _=>b.getD k (.Pass ⟨0,0,0,0⟩)
 |s=>s
abbrev Cmp(i:Nat)(N ps:Li Str)(c:CS):Prop:=Vv G (top i) N ps c
local macro_rules
 |`(tactic| trivial)=>`(tactic| exact⟨⟨rfl,rfl,rfl,by decide +kernel,rfl,by decide +kernel,by decide +kernel⟩,by unfold L2.Loc;decide +kernel,by kernel_rfl⟩)
theorem Zmp:Cmp 12 [S "number"] [S "number"] c_around.body:=by trivial
theorem Zmq:Cmp 16 [S "word",S "signs",S "most"] [S "word",S "signs",S "most"] c_is_made_of.body:=by trivial
theorem Zmr:Cmp 17 [S "word"] [S "word"] c_is_name.body:=by trivial
theorem Zms:Cmp 18 [S "word",S "most"] [S "word",S "most"] c_are_figures.body:=by trivial
theorem Zmt:Cmp 19 [S "word",S "figures",S "number"] [S "word"] c_number_in.body:=by trivial
theorem Zmu:Cmp 20 [S "word"] [S "word"] c_place_in.body:=by trivial
theorem Zmv:Cmp 26 [S "word",S "kind"] [S "word",S "kind"] c_fits.body:=by trivial
theorem Zmw:Cmp 27 [S "words",S "kinds"] [S "words"] c_is_line.body:=by trivial
theorem Zmx:Cmp 28 [S "words",S "names",S "word",S "kind"] [S "words"] c_names_read.body:=by trivial
theorem Zmy:Cmp 29 [S "word",S "names"] [S "word",S "names"] c_operand_in.body:=by trivial
theorem Zmz:Cmp 30 [S "words",S "names",S "things",S "word",S "kind"] [S "words",S "names"] c_row_of.body:=by trivial
theorem ZmA:Cmp 32 [S "text",S "draft",S "line",S "signs"] [S "text"] c_read.body:=by trivial
theorem ZmB:Cmp 34 [S "operand"] [S "operand"] c_operand_shown.body:=by trivial
theorem ZmC:Cmp 35 [S "row"] [S "row"] c_words_of.body:=by trivial
theorem ZmD:Cmp 36 [S "program",S "takes",S "lines"] [S "program"] c_shown.body:=by trivial
theorem ZmE:Cmp 38 [S "_law_found"] [S "_law_found"] c__law_whole.body:=by trivial
theorem ZmF:Cmp 39 [S "_law_script",S "_law_k"] [S "_law_script",S "_law_k"] c__law_cell_at.body:=by trivial
theorem ZmG:Cmp 40 [S "_law_cell",S "_law_some"] [S "_law_cell"] c__law_small_by.body:=by trivial
theorem ZmH:Cmp 41 [S "_law_number",S "_law_many"] [S "_law_number",S "_law_many"] c__law_operand.body:=by trivial
theorem ZmI:Cmp 42 [S "_law_cell",S "_law_more",S "_law_many",S "_law_size",S "_law_one",S "_law_other",S "_law_sign",S "_law_at",S "_law_x"] [S "_law_cell",S "_law_more",S "_law_many",S "_law_size"] c__law_row.body:=by trivial
theorem ZmJ:Cmp 43 [S "_law_script",S "_law_most",S "_law_head",S "_law_taken",S "_law_many",S "_law_size",S "_law_rows",S "_law_k",S "_law_cell",S "_law_takes",S "_law_low",S "_law_high"] [S "_law_script",S "_law_most"] c__law_program_k11.body:=by trivial
theorem ZmK:Cmp 44 [S "_law_thing"] [S "_law_thing"] c__law_kinds.body:=by trivial
theorem ZmL:Cmp 45 [S "_law_program_here",S "_law_many",S "_law_rows",S "_law_row_here"] [S "_law_program_here",S "_law_many"] c__law_cut.body:=by trivial
theorem ZmM:Cmp 46 [S "_law_some",S "_law_found"] [S "_law_some"] c__law_read.body:=by trivial
theorem Zla:Cmp 47 [S "_law_script",S "_law_program_here",S "_law_many",S "_law_one",S "_law_some",S "_law_found"] [S "_law_script"] c_law_k12.body:=by trivial
theorem Zju:Vv G (Wr 31 0) [S "self"] [S "self"] c_Draft___init__.body:=by trivial
theorem Zjv:Vv G (Wr 31 1) [S "self",S "word",S "ahead"] [S "self",S "word"] c_Draft_has_room.body:=by trivial
theorem Zjw:Vv G (Wr 31 2) [S "self",S "words",S "line"] [S "self",S "words",S "line"] c_Draft_read_line.body:=by trivial
theorem Zjx:Vv G (Wr 31 3) [S "self",S "words",S "line"] [S "self",S "words",S "line"] c_Draft_read_name.body:=by trivial
theorem Zjy:Vv G (Wr 31 4) [S "self",S "words",S "line",S "name",S "row"] [S "self",S "words",S "line"] c_Draft_read_row.body:=by trivial
theorem Zjz:Vv G (Wr 31 5) [S "self",S "line",S "place"] [S "self"] c_Draft_check_places.body:=by trivial
theorem ZjA:Vv G (Wr 31 6) [S "self"] [S "self"] c_Draft_told.body:=by trivial
@[reducible] noncomputable def tab (l:Li (Nat×Ad)):ClsTab:=⟨fun i=>(l.lookup i).getD 0⟩
section
variable [ct:ClsTab]
theorem Zit{Pm:Params}{K:Fg}{h:Heap}{mg:Str->Ot vL}{fa:Ad}(X:K.In h)(G0:h.Ns mainGlobals mg)(hfa:mg "law"=some (.ref fa)){C0:Ad}{t1:Tok}{t2:Tok}{A3:Ad}{ob3:Obj}{on3:Nat}{t3_0:Tok}{t3_1:Tok}{t3_2:Tok}{t3_3:Tok}{t3_4:Tok}{A4:Ad}{ob4:Obj}{on4:Nat}{t4_0:Tok}{t4_1:Tok}{t4_2:Tok}{t4_3:Tok}{t4_4:Tok}{t4_5:Tok}{t6:Tok}{t7:Tok}{A13:Ad}{ob13:Obj}{ep13:Nat}{t13_0:Tok}{B13_0:Ad}{bo13_0:Obj}{bn13_0:Nat}{u13_0_0:Tok}{u13_0_1:Tok}{u13_0_2:Tok}{t13_1:Tok}{B13_1:Ad}{bo13_1:Obj}{bn13_1:Nat}{u13_1_0:Tok}{t13_2:Tok}{B13_2:Ad}{bo13_2:Obj}{bn13_2:Nat}{u13_2_0:Tok}{u13_2_1:Tok}{u13_2_2:Tok}{u13_2_3:Tok}{t13_3:Tok}{B13_3:Ad}{bo13_3:Obj}{bn13_3:Nat}{u13_3_0:Tok}{u13_3_1:Tok}{u13_3_2:Tok}{u13_3_3:Tok}{u13_3_4:Tok}{t13_4:Tok}{B13_4:Ad}{bo13_4:Obj}{bn13_4:Nat}{u13_4_0:Tok}{t13_5:Tok}{B13_5:Ad}{bo13_5:Obj}{bn13_5:Nat}{u13_5_0:Tok}{t13_6:Tok}{B13_6:Ad}{bo13_6:Obj}{bn13_6:Nat}{t14:Tok}{t15:Tok}{t16:Tok}
(yz0:ClsTab.ca 237=C0)
  (y0:ClsAt K "Draft" C0) (w0_238:MtAt K C0 "__init__" "Draft.__init__" (Wr 31 0)) (w0_239:MtAt K C0 "has_room" "Draft.has_room" (Wr 31 1)) (w0_240:MtAt K C0 "read_line" "Draft.read_line" (Wr 31 2)) (w0_241:MtAt K C0 "read_name" "Draft.read_name" (Wr 31 3)) (w0_242:MtAt K C0 "read_row" "Draft.read_row" (Wr 31 4)) (w0_243:MtAt K C0 "check_places" "Draft.check_places" (Wr 31 5)) (w0_244:MtAt K C0 "told" "Draft.told" (Wr 31 6))
  (g1:PySem.W.nsIn K mainGlobals "HALF"=some (some (.int (1000000000) t1)))
  (g2:PySem.W.nsIn K mainGlobals "RING"=some (some (.int (2000000000) t2)))
  (g3:PySem.W.nsIn K mainGlobals "PUT_SIGNS"=some (some (.ref A3))) (d3:K.lookup A3=some ob3) (f3c:ob3.cls=.type "tuple") (f3d:ob3.dict=none) (e3:ob3.data=.seq #[.str "+" t3_0,.str "-" t3_1,.str "*" t3_2,.str "/" t3_3,.str "mod" t3_4] on3)
  (g4:PySem.W.nsIn K mainGlobals "IF_SIGNS"=some (some (.ref A4))) (d4:K.lookup A4=some ob4) (f4c:ob4.cls=.type "tuple") (f4d:ob4.dict=none) (e4:ob4.data=.seq #[.str "<" t4_0,.str "<=" t4_1,.str "=" t4_2,.str ">=" t4_3,.str ">" t4_4,.str "!=" t4_5] on4)
  (a5:FnAt K "around" (top 12))
  (g6:PySem.W.nsIn K mainGlobals "LETTERS"=some (some (.str (S "abcdefghijklmnopqrstuvwxyz") t6)))
  (g7:PySem.W.nsIn K mainGlobals "FIGURES"=some (some (.str (S "0123456789") t7)))
  (a8:FnAt K "is_made_of" (top 16))
  (a9:FnAt K "is_name" (top 17))
  (a10:FnAt K "are_figures" (top 18))
  (a11:FnAt K "number_in" (top 19))
  (a12:FnAt K "place_in" (top 20))
  (g13:PySem.W.nsIn K mainGlobals "FORMS"=some (some (.ref A13))) (d13:K.lookup A13=some ob13) (f13c:ob13.cls=.type "dict") (f13d:ob13.dict=none) (f13s:ob13.slots=#[]) (e13:ob13.data=.dict #[⟨PyData.keyHash Pm "take",.str "take" t13_0,.ref B13_0⟩,⟨PyData.keyHash Pm "name",.str "name" t13_1,.ref B13_1⟩,⟨PyData.keyHash Pm "put",.str "put" t13_2,.ref B13_2⟩,⟨PyData.keyHash Pm "if",.str "if" t13_3,.ref B13_3⟩,⟨PyData.keyHash Pm "go",.str "go" t13_4,.ref B13_4⟩,⟨PyData.keyHash Pm "tell",.str "tell" t13_5,.ref B13_5⟩,⟨PyData.keyHash Pm "skip",.str "skip" t13_6,.ref B13_6⟩] ep13) (s13:(A13==sysModules)=false)
  (h13_0:K.lookup B13_0=some bo13_0) (i13_0:bo13_0.cls=.type "tuple") (j13_0:bo13_0.data=.seq #[.str ("name") u13_0_0,.str ("number") u13_0_1,.str ("number") u13_0_2] bn13_0)
  (h13_1:K.lookup B13_1=some bo13_1) (i13_1:bo13_1.cls=.type "tuple") (j13_1:bo13_1.data=.seq #[.str ("name") u13_1_0] bn13_1)
  (h13_2:K.lookup B13_2=some bo13_2) (i13_2:bo13_2.cls=.type "tuple") (j13_2:bo13_2.data=.seq #[.str ("name") u13_2_0,.str ("operand") u13_2_1,.str ("put sign") u13_2_2,.str ("operand") u13_2_3] bn13_2)
  (h13_3:K.lookup B13_3=some bo13_3) (i13_3:bo13_3.cls=.type "tuple") (j13_3:bo13_3.data=.seq #[.str ("operand") u13_3_0,.str ("if sign") u13_3_1,.str ("operand") u13_3_2,.str ("go") u13_3_3,.str ("place") u13_3_4] bn13_3)
  (h13_4:K.lookup B13_4=some bo13_4) (i13_4:bo13_4.cls=.type "tuple") (j13_4:bo13_4.data=.seq #[.str ("place") u13_4_0] bn13_4)
  (h13_5:K.lookup B13_5=some bo13_5) (i13_5:bo13_5.cls=.type "tuple") (j13_5:bo13_5.data=.seq #[.str ("operand") u13_5_0] bn13_5)
  (h13_6:K.lookup B13_6=some bo13_6) (i13_6:bo13_6.cls=.type "tuple") (j13_6:bo13_6.data=.seq #[] bn13_6)
  (g14:PySem.W.nsIn K mainGlobals "MOST_TAKES"=some (some (.int (3) t14)))
  (g15:PySem.W.nsIn K mainGlobals "MOST_NAMES"=some (some (.int (5) t15)))
  (g16:PySem.W.nsIn K mainGlobals "MOST_ROWS"=some (some (.int (12) t16)))
  (a17:FnAt K "fits" (top 26))
  (a18:FnAt K "is_line" (top 27))
  (a19:FnAt K "names_read" (top 28))
  (a20:FnAt K "operand_in" (top 29))
  (a21:FnAt K "row_of" (top 30))
  (a22:FnAt K "read" (top 32))
  (a23:FnAt K "operand_shown" (top 34))
  (a24:FnAt K "words_of" (top 35))
  (a25:FnAt K "shown" (top 36))
  (a26:FnAt K "_law_whole" (top 38))
  (a27:FnAt K "_law_cell_at" (top 39))
  (a28:FnAt K "_law_small_by" (top 40))
  (a29:FnAt K "_law_operand" (top 41))
  (a30:FnAt K "_law_row" (top 42))
  (a31:FnAt K "_law_program" (top 43))
  (a32:FnAt K "_law_kinds" (top 44))
  (a33:FnAt K "_law_cut" (top 45))
  (a34:FnAt K "_law_read" (top 46))
  (a35:FnAt K "law" (top 47))
  (z36:PySem.W.nsIn K mainGlobals "len"=some none)
  (z37:PySem.W.nsIn K mainGlobals "range"=some none)
  (z38:PySem.W.nsIn K mainGlobals "tuple"=some none)
  (z39:PySem.W.nsIn K mainGlobals "list"=some none)
  (z40:PySem.W.nsIn K mainGlobals "int"=some none)
  (z41:PySem.W.nsIn K mainGlobals "bool"=some none)
  (z42:PySem.W.nsIn K mainGlobals "str"=some none)
  (z43:PySem.W.nsIn K mainGlobals "min"=some none)
  (z44:PySem.W.nsIn K mainGlobals "max"=some none)
  (z45:PySem.W.nsIn K mainGlobals "isinstance"=some none)
  (z46:PySem.W.nsIn K mainGlobals "all"=some none)
  (z47:PySem.W.nsIn K mainGlobals "any"=some none)
  (z48:PySem.W.nsIn K mainGlobals "zip"=some none)
  (z49:PySem.W.nsIn K mainGlobals "sorted"=some none)
  (z50:PySem.W.nsIn K mainGlobals "enumerate"=some none)
  (z51:PySem.W.nsIn K mainGlobals "set"=some none) :
  Text Pm K mg G T/\∃ (fd:FuncData) (N:Li Str),(∀ (s:Sd) (u:vL),BindsTo s fd ⟨[u],[]⟩ [(S "_law_script",u)])/\DefOk K mg G T "law" 16 [] fa fd [S "_law_script"] N:=by
 exact⟨ZhE (gC X G0 yz0 y0 (gM w0_238 Zju rfl (gM w0_239 Zjv rfl (gM w0_240 Zjw rfl (gM w0_241 Zjx rfl (gM w0_242 Zjy rfl (gM w0_243 Zjz rfl (gM w0_244 ZjA rfl trivial))))))) (gI X G0 g1 (gI X G0 g2 (⟨⟨.ref A3,.ref A3,PySem.W.mg_of X G0 g3,rfl,fun _ _=>.kt (its:=#[.str "+" t3_0,.str "-" t3_1,.str "*" t3_2,.str "/" t3_3,.str "mod" t3_4]) d3 f3c f3d e3 (show(5:Nat)<=sizeLine by decide) (.cons ⟨_,rfl⟩ (.cons ⟨_,rfl⟩ (.cons ⟨_,rfl⟩ (.cons ⟨_,rfl⟩ (.cons ⟨_,rfl⟩ (.nil))))))⟩,⟨⟨.ref A4,.ref A4,PySem.W.mg_of X G0 g4,rfl,fun _ _=>.kt (its:=#[.str "<" t4_0,.str "<=" t4_1,.str "=" t4_2,.str ">=" t4_3,.str ">" t4_4,.str "!=" t4_5]) d4 f4c f4d e4 (show(6:Nat)<=sizeLine by decide) (.cons ⟨_,rfl⟩ (.cons ⟨_,rfl⟩ (.cons ⟨_,rfl⟩ (.cons ⟨_,rfl⟩ (.cons ⟨_,rfl⟩ (.cons ⟨_,rfl⟩ (.nil)))))))⟩,gD X G0 a5 Zmp rfl (⟨⟨_,_,PySem.W.mg_of X G0 g6,(show RelV (.str _) _ from⟨_,rfl⟩),fun _ _=>.str _⟩,⟨⟨_,_,PySem.W.mg_of X G0 g7,(show RelV (.str _) _ from⟨_,rfl⟩),fun _ _=>.str _⟩,gD X G0 a8 Zmq rfl (gD X G0 a9 Zmr rfl (gD X G0 a10 Zms rfl (gD X G0 a11 Zmt rfl (gD X G0 a12 Zmu rfl (⟨⟨A13,ob13,#[⟨PyData.keyHash Pm "take",.str "take" t13_0,.ref B13_0⟩,⟨PyData.keyHash Pm "name",.str "name" t13_1,.ref B13_1⟩,⟨PyData.keyHash Pm "put",.str "put" t13_2,.ref B13_2⟩,⟨PyData.keyHash Pm "if",.str "if" t13_3,.ref B13_3⟩,⟨PyData.keyHash Pm "go",.str "go" t13_4,.ref B13_4⟩,⟨PyData.keyHash Pm "tell",.str "tell" t13_5,.ref B13_5⟩,⟨PyData.keyHash Pm "skip",.str "skip" t13_6,.ref B13_6⟩],ep13,PySem.W.mg_of X G0 g13,d13,⟨f13c,f13d,f13s⟩,e13,s13,(by simp),(show EsOk Pm K [⟨PyData.keyHash Pm "take",.str "take" t13_0,.ref B13_0⟩,⟨PyData.keyHash Pm "name",.str "name" t13_1,.ref B13_1⟩,⟨PyData.keyHash Pm "put",.str "put" t13_2,.ref B13_2⟩,⟨PyData.keyHash Pm "if",.str "if" t13_3,.ref B13_3⟩,⟨PyData.keyHash Pm "go",.str "go" t13_4,.ref B13_4⟩,⟨PyData.keyHash Pm "tell",.str "tell" t13_5,.ref B13_5⟩,⟨PyData.keyHash Pm "skip",.str "skip" t13_6,.ref B13_6⟩] _ _ from .cons (v:=.ref B13_0) (t:=t13_0) rfl rfl (show RelV (.ref B13_0) (.ref B13_0) from rfl) (fun _ _=>.tup (xs:=[.str ("name"),.str ("number"),.str ("number")]) (.inr ⟨bo13_0,#[.str ("name") u13_0_0,.str ("number") u13_0_1,.str ("number") u13_0_2],bn13_0,h13_0,i13_0,j13_0,(show(3:Nat)<=sizeLine by decide),.cons ⟨_,rfl⟩ (.cons ⟨_,rfl⟩ (.cons ⟨_,rfl⟩ (.nil)))⟩) (.cons (.str _) (.cons (.str _) (.cons (.str _) (.nil))))) (.cons (v:=.ref B13_1) (t:=t13_1) rfl rfl (show RelV (.ref B13_1) (.ref B13_1) from rfl) (fun _ _=>.tup (xs:=[.str ("name")]) (.inr ⟨bo13_1,#[.str ("name") u13_1_0],bn13_1,h13_1,i13_1,j13_1,(show(1:Nat)<=sizeLine by decide),.cons ⟨_,rfl⟩ (.nil)⟩) (.cons (.str _) (.nil))) (.cons (v:=.ref B13_2) (t:=t13_2) rfl rfl (show RelV (.ref B13_2) (.ref B13_2) from rfl) (fun _ _=>.tup (xs:=[.str ("name"),.str ("operand"),.str ("put sign"),.str ("operand")]) (.inr ⟨bo13_2,#[.str ("name") u13_2_0,.str ("operand") u13_2_1,.str ("put sign") u13_2_2,.str ("operand") u13_2_3],bn13_2,h13_2,i13_2,j13_2,(show(4:Nat)<=sizeLine by decide),.cons ⟨_,rfl⟩ (.cons ⟨_,rfl⟩ (.cons ⟨_,rfl⟩ (.cons ⟨_,rfl⟩ (.nil))))⟩) (.cons (.str _) (.cons (.str _) (.cons (.str _) (.cons (.str _) (.nil)))))) (.cons (v:=.ref B13_3) (t:=t13_3) rfl rfl (show RelV (.ref B13_3) (.ref B13_3) from rfl) (fun _ _=>.tup (xs:=[.str ("operand"),.str ("if sign"),.str ("operand"),.str ("go"),.str ("place")]) (.inr ⟨bo13_3,#[.str ("operand") u13_3_0,.str ("if sign") u13_3_1,.str ("operand") u13_3_2,.str ("go") u13_3_3,.str ("place") u13_3_4],bn13_3,h13_3,i13_3,j13_3,(show(5:Nat)<=sizeLine by decide),.cons ⟨_,rfl⟩ (.cons ⟨_,rfl⟩ (.cons ⟨_,rfl⟩ (.cons ⟨_,rfl⟩ (.cons ⟨_,rfl⟩ (.nil)))))⟩) (.cons (.str _) (.cons (.str _) (.cons (.str _) (.cons (.str _) (.cons (.str _) (.nil))))))) (.cons (v:=.ref B13_4) (t:=t13_4) rfl rfl (show RelV (.ref B13_4) (.ref B13_4) from rfl) (fun _ _=>.tup (xs:=[.str ("place")]) (.inr ⟨bo13_4,#[.str ("place") u13_4_0],bn13_4,h13_4,i13_4,j13_4,(show(1:Nat)<=sizeLine by decide),.cons ⟨_,rfl⟩ (.nil)⟩) (.cons (.str _) (.nil))) (.cons (v:=.ref B13_5) (t:=t13_5) rfl rfl (show RelV (.ref B13_5) (.ref B13_5) from rfl) (fun _ _=>.tup (xs:=[.str ("operand")]) (.inr ⟨bo13_5,#[.str ("operand") u13_5_0],bn13_5,h13_5,i13_5,j13_5,(show(1:Nat)<=sizeLine by decide),.cons ⟨_,rfl⟩ (.nil)⟩) (.cons (.str _) (.nil))) (.cons (v:=.ref B13_6) (t:=t13_6) rfl rfl (show RelV (.ref B13_6) (.ref B13_6) from rfl) (fun _ _=>.tup (xs:=[]) (.inr ⟨bo13_6,#[],bn13_6,h13_6,i13_6,j13_6,(show(0:Nat)<=sizeLine by decide),.nil⟩) (.nil)) (.nil))))))))⟩,gI X G0 g14 (gI X G0 g15 (gI X G0 g16 (gD X G0 a17 Zmv rfl (gD X G0 a18 Zmw rfl (gD X G0 a19 Zmx rfl (gD X G0 a20 Zmy rfl (gD X G0 a21 Zmz rfl (gD X G0 a22 ZmA rfl (gD X G0 a23 ZmB rfl (gD X G0 a24 ZmC rfl (gD X G0 a25 ZmD rfl (gD X G0 a26 ZmE rfl (gD X G0 a27 ZmF rfl (gD X G0 a28 ZmG rfl (gD X G0 a29 ZmH rfl (gD X G0 a30 ZmI rfl (gD X G0 a31 ZmJ rfl (gD X G0 a32 ZmK rfl (gD X G0 a33 ZmL rfl (gD X G0 a34 ZmM rfl (gD X G0 a35 Zla rfl (gB X G0 z36 (gB X G0 z37 (gB X G0 z38 (gB X G0 z39 (gB X G0 z40 (gB X G0 z41 (gB X G0 z42 (gB X G0 z43 (gB X G0 z44 (gB X G0 z45 (gB X G0 z46 (gB X G0 z47 (gB X G0 z48 (gB X G0 z49 (gB X G0 z50 (gB X G0 z51 (trivial))))))))))))))))))))))))))))))))))))))⟩)))))⟩⟩)⟩⟩)))),gL X G0 hfa a35 Zla rfl fun _ _ _ _ _ _ _=>rfl⟩
theorem ZgQ:∀ n,Xm G (run T n):=fun _=>Zf3
end
end Dp
open PySem PySem.W PyProof.Rows
set_option maxRecDepth 100000 in
set_option maxHeartbeats 0 in
theorem PySem.Challenge.cw_fakehunt_k12_whole_shown_and_read_holds : PySem.Challenge.rw_fakehunt_k12_whole_shown_and_read.Holds := by
 w_on;o_law;k_head;(case hw=>w_witness2)
 k_fill
 refine Dp.ZcE (l:=PySem.Challenge.rw_fakehunt_k12_whole_shown_and_read) (G:=Dp.G) (T:=Dp.T) (n:=12) (i:=16) (x := "_law_script") rfl rfl ⟨rfl,by decide,by decide⟩ (fun w h Y=>PySem.W.kIn_of Y) Dp.ZgQ ?F (fun ns hn=>Dp.ZcD hn)
 case F=>
  intro w mg fa h KX G0 hmg;refine' ⟨Dp.tab [(237,?C0)],Dp.Zit (ct:=Dp.tab [(237,?C0)]) (Pm:=w.params) (C0:=?C0) KX G0 hmg ?z0 ⟨?_,?_,?_,?_,?_,?_,?_,?_,?_,?_,?_⟩ (.mk ?_ ?_ ?_ ?_ ?_) (.mk ?_ ?_ ?_ ?_ ?_) (.mk ?_ ?_ ?_ ?_ ?_) (.mk ?_ ?_ ?_ ?_ ?_) (.mk ?_ ?_ ?_ ?_ ?_) (.mk ?_ ?_ ?_ ?_ ?_) (.mk ?_ ?_ ?_ ?_ ?_) ?_ ?_ ?_ ?_ ?_ ?_ ?_ ?_ ?_ ?_ ?_ ?_ (.mk ?_ ?_ ?_ ?_) ?_ ?_ (.mk ?_ ?_ ?_ ?_) (.mk ?_ ?_ ?_ ?_) (.mk ?_ ?_ ?_ ?_) (.mk ?_ ?_ ?_ ?_) (.mk ?_ ?_ ?_ ?_) ?_ ?_ ?_ ?_ ?_ ?_ ?_ ?_ ?_ ?_ ?_ ?_ ?_ ?_ ?_ ?_ ?_ ?_ ?_ ?_ ?_ ?_ ?_ ?_ ?_ ?_ ?_ ?_ ?_ ?_ ?_ (.mk ?_ ?_ ?_ ?_) (.mk ?_ ?_ ?_ ?_) (.mk ?_ ?_ ?_ ?_) (.mk ?_ ?_ ?_ ?_) (.mk ?_ ?_ ?_ ?_) (.mk ?_ ?_ ?_ ?_) (.mk ?_ ?_ ?_ ?_) (.mk ?_ ?_ ?_ ?_) (.mk ?_ ?_ ?_ ?_) (.mk ?_ ?_ ?_ ?_) (.mk ?_ ?_ ?_ ?_) (.mk ?_ ?_ ?_ ?_) (.mk ?_ ?_ ?_ ?_) (.mk ?_ ?_ ?_ ?_) (.mk ?_ ?_ ?_ ?_) (.mk ?_ ?_ ?_ ?_) (.mk ?_ ?_ ?_ ?_) (.mk ?_ ?_ ?_ ?_) (.mk ?_ ?_ ?_ ?_) ?_ ?_ ?_ ?_ ?_ ?_ ?_ ?_ ?_ ?_ ?_ ?_ ?_ ?_ ?_ ?_⟩
  all_goals (first|k_is|exact rfl|skip)
  all_goals (first|k_is|exact rfl|skip)

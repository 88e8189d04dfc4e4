import PyProof.Rows.All
import Wide.All
import OpenK.AllK
import Wide.FinOn
import Lean
import PyProof.EqAt
import PyProof.EqKinds
import PyProof.TupleCall
import PyProof.TupleKey
import PyProof.DictWalks
import PySem.Challenge.RW_fakehunt_k29_twins_in_groups
set_option Elab.async false
set_option linter.all false
set_option maxRecDepth 100000
set_option maxHeartbeats 4000000
set_option genSizeOf false
abbrev Li.{u}(α:Type u):Type u:=List α
abbrev Ot.{u}(α:Type u):Type u:=Option α
abbrev vL:=PySem.Value
abbrev Ad:=PySem.Addr
abbrev Sd:=PySem.Shared
theorem Ob{α β:Type}{a:α}{f:α->Ot β}:(some a).bind f=f a:=rfl
abbrev Fg:=PySem.W.Frag
theorem Ba(a b:Bool):((a&&b)=true)=(a=true/\b=true):=Bool.and_eq_true a b
theorem Lg{α:Type _}{l:Li α}{i:Nat}(h:i<l.length):l[i]?=some l[i]:=List.getElem?_eq_getElem h
theorem Lm{α:Type _}(y:α){a:α}{l:Li α}(h:a∈l):a∈y::l:=List.mem_cons_of_mem y h
theorem Ls{α:Type _}{a:α}{l:Li α}:a∈a::l:=List.mem_cons_self
theorem Bf:¬false=true:=Bool.false_ne_true
namespace L2
open PySem PySem.Spec PyProof.Rows

noncomputable abbrev Key:=Sum Int Str
noncomputable def keyIs:Key->vL->Bool
  |.inl k,v=>Value.isInt k v
  |.inr x,v=>Value.isStrOf x v
noncomputable def keyH(w:World):Key->Int
  |.inl k=>hashInt k
  |.inr x=>hashStr w x
theorem keyIs_shape:∀ {k:Key}{v:vL},keyIs k v=true->(∃ i t,k=Sum.inl i/\v=Value.int i t)\/(∃ x t,k=Sum.inr x/\v=Value.str x t)
  |.inl i,v,h=>by
    obtain⟨t,e⟩:=Value.isInt_shape (k:=i) (v:=v) h;exact .inl ⟨i,t,rfl,e⟩
  |.inr x,v,h=>by
    obtain⟨t,e⟩:=Value.isStrOf_shape (x:=x) (v:=v) h;exact .inr ⟨x,t,rfl,e⟩
theorem keyIs_int(i:Int)(t:Tok):keyIs (.inl i) (.int i t)=true:=by simp[keyIs,Value.isInt]
theorem keyIs_str(x:Str)(t:Tok):keyIs (.inr x) (.str x t)=true:=by simp[keyIs,Value.isStrOf]
theorem key_ll(a b:Int):decide ((Sum.inl a:Key)=Sum.inl b)=(a==b):=by
  by_cases e:a=b
  · subst e;simp
  · have h:¬(Sum.inl a:Key)=Sum.inl b:=fun q=>e (Sum.inl.inj q)
    rw[decide_eq_false h];exact(beq_eq_false_iff_ne.mpr e).symm
theorem key_rr(a b:Str):decide ((Sum.inr a:Key)=Sum.inr b)=decide (a=b):=by
  by_cases e:a=b
  · subst e;simp
  · have h:¬(Sum.inr a:Key)=Sum.inr b:=fun q=>e (Sum.inr.inj q)
    rw[decide_eq_false h,decide_eq_false e]
theorem key_lr(a:Int)(b:Str):decide ((Sum.inl a:Key)=Sum.inr b)=false:=decide_eq_false (fun q=>nomatch q)
theorem key_rl(a:Str)(b:Int):decide ((Sum.inr a:Key)=Sum.inl b)=false:=decide_eq_false (fun q=>nomatch q)

noncomputable def mixKind(prog:Program)(w:World):PySem.KeyKind prog w Key where
  is:=keyIs
  hash:=keyH w
  inj:=fun v a b ha hb=>by
    rcases keyIs_shape ha with⟨i,t,rfl,rfl⟩|⟨x,t,rfl,rfl⟩
    · rcases keyIs_shape hb with⟨j,u,rfl,e⟩|⟨y,u,rfl,e⟩
      · injection e with e1 _;rw[e1]
      · exact nomatch e
    · rcases keyIs_shape hb with⟨j,u,rfl,e⟩|⟨y,u,rfl,e⟩
      · exact nomatch e
      · injection e with e1 _;rw[e1]
  byValue:=fun k v h=>by
    rcases keyIs_shape h with⟨i,t,rfl,rfl⟩|⟨x,t,rfl,rfl⟩<;>rfl
  pyHash:=fun hv h=>by
    rcases keyIs_shape hv with⟨i,t,rfl,rfl⟩|⟨x,t,rfl,rfl⟩
    · exact wpAny_pyHash_int h
    · exact wpAny_pyHash_str h
  eqBool:=fun hu hv h=>by
    rcases keyIs_shape hu with⟨i,t,rfl,rfl⟩|⟨x,t,rfl,rfl⟩
    · rcases keyIs_shape hv with⟨j,u,rfl,rfl⟩|⟨y,u,rfl,rfl⟩
      · rw[key_ll]at h;exact wpAny_eqBool_int h
      · rw[key_lr]at h;exact SeqAt.EqAt.int_str i t y u _ _ _ _ h
    · rcases keyIs_shape hv with⟨j,u,rfl,rfl⟩|⟨y,u,rfl,rfl⟩
      · rw[key_rl]at h;exact SeqAt.EqAt.str_int x t j u _ _ _ _ h
      · rw[key_rr]at h;exact wpAny_eqBool_str h
  «strs»:=fun k x t v h=>by
    rcases keyIs_shape h with⟨i,u,rfl,e⟩|⟨y,u,rfl,e⟩
    · exact nomatch e
    · injection e with e1 _
      subst e1;cases v<;>rfl

theorem mixKind_int(prog:Program)(w:World)(i:Int)(t:Tok):(mixKind prog w).is (.inl i) (.int i t)=true:=keyIs_int i t
theorem mixKind_str(prog:Program)(w:World)(x:Str)(t:Tok):(mixKind prog w).is (.inr x) (.str x t)=true:=keyIs_str x t
end L2

namespace L2
open PySem PySem.Spec PyProof.Rows

inductive V where
  |non|bl (b:Bool)|int (i:Int)|str (x:Str)|byt (b:Array UInt8)|flt (b:UInt64)|ref (a:Addr)|ty (n:String)
  deriving DecidableEq

def RelV:V->vL->Prop
  |.non,u=>u=Value.none
  |.bl b,u=>u=Value.bool b
  |.int i,u=>∃ t,u=Value.int i t
  |.str x,u=>∃ t,u=Value.str x t
  |.byt b,u=>∃ t,u=Value.bytes b t
  |.flt b,u=>∃ t,u=Value.float b t
  |.ref a,u=>u=Value.ref a
  |.ty n,u=>u=Value.type n

abbrev Vals:Li V->Li vL->Prop:=Paired RelV
theorem Vals.length{xs:Li V}{us:Li vL}(r:Vals xs us):xs.length=us.length:=Paired.length r
theorem Vals.get:∀ {xs:Li V}{us:Li vL}{i:Nat}{x:V},Vals xs us->xs[i]?=some x->∃ u,us[i]?=some u/\RelV x u
  |_,_,_,_,.nil,e=>by simp at e
  |_,_,0,_,.cons r _,e=>by simp at e;subst e;exact⟨_,rfl,r⟩
  |_,_,i+1,x,.cons _ t,e=>by
    obtain⟨u,h1,h2⟩:=Vals.get (i:=i) (x:=x) t (by simpa using e)
    exact⟨u,by simpa using h1,h2⟩
theorem Vals.set{x:V}{u:vL}(r:RelV x u):∀ {xs:Li V}{us:Li vL} (i:Nat),Vals xs us->Vals (xs.set i x) (us.set i u)
  |_,_,_,.nil=>.nil
  |_,_,0,.cons _ t=>.cons r t
  |_,_,i+1,.cons q t=>.cons q (Vals.set r i t)
theorem Vals.append:∀ {xs ys:Li V}{us ws:Li vL},Vals xs us->Vals ys ws->Vals (xs++ys) (us++ws)
  |_,_,_,_,.nil,s=>s
  |_,_,_,_,.cons r t,s=>.cons r (Vals.append t s)
theorem Vals.take:∀ {xs:Li V}{us:Li vL} (n:Nat),Vals xs us->Vals (xs.take n) (us.take n)
  |_,_,0,_=>.nil
  |_,_,_+1,.nil=>.nil
  |_,_,n+1,.cons r t=>.cons r (Vals.take n t)
theorem Vals.drop:∀ {xs:Li V}{us:Li vL} (n:Nat),Vals xs us->Vals (xs.drop n) (us.drop n)
  |_,_,0,r=>r
  |_,_,_+1,.nil=>.nil
  |_,_,n+1,.cons _ t=>Vals.drop n t

def RelO:Ot V->Ot vL->Prop
  |some v,some u=>RelV v u
  |none,none=>True
  |_,_=>False
def KV{κ:Type}:Li (κ×V)->Li (κ×vL)->Prop:=Paired fun(p:κ×V) (q:κ×vL)=>p.1=q.1/\RelV p.2 q.2

noncomputable def kV:Key->V
  |.inl i=>.int i
  |.inr x=>.str x

inductive HO where
    |lst (xs:List V)
    |tup (xs:List V)
    |dK (kvs:List (Key×V))|dT (kvs:List (List Key×V))|dN (f:World->List DictEntry)
    |set (S:Int->Bool) (n:Nat)
    |ins (C dx:Addr) (fs:List (Str×V))
    |own (x:Addr)
    |xd (fs:List (Str×V))
    |met (f x:Addr)
    |rng (lo hi:Int)
    |frz (o:Obj) (u:HO)
    |tbl (ps:Array Value)
    |ext (φ:Heap->Prop)

noncomputable abbrev Hp:=Ad->Ot HO
noncomputable def upd(H:Hp)(a:Ad)(o:HO):Hp:=fun b=>if b=a then some o else H b
theorem upd_same{H:Hp}{a:Ad}{o:HO}:upd H a o a=some o:=by unfold upd;rw[if_pos rfl]
theorem upd_ne{H:Hp}{a b:Ad}{o:HO}(h:b≠a):upd H a o b=H b:=by unfold upd;rw[if_neg h]
theorem ne_of{H:Hp}{a b:Ad}{o u:HO}(h:H a=some o)(h':H b=some u)(d:o≠u):a≠b:=by
  intro e;subst e;rw[h]at h';exact d (Option.some.inj h')
theorem ne_of_none{H:Hp}{a b:Ad}{o:HO}(h:H a=some o)(h':H b=none):a≠b:=by
  intro e;subst e;rw[h]at h';cases h'

section
variable (P:Program) (w:World)
def ObjOk(H:Hp)(h:Heap)(a:Ad):HO->Prop
  |.lst xs=>xs.length<=sizeLine/\∃ (its:Li vL) (n:Nat),Vals xs its/\h.get? a=some { cls:=.type "list",data:=.seq its.toArray n }
  |.tup xs=>xs.length<=sizeLine/\∃ its:Li vL,Vals xs its/\IsTup h a its.toArray
  |.dK kvs=>kvs.length<=sizeLine/\(a==sysModules)=false/\∃ vs,KV kvs vs/\h.DictOf (mixKind P w) a vs
  |.dT kvs=>kvs.length<=sizeLine/\(a==sysModules)=false/\∃ xs:Li (Li Key×Ad×vL),
      Paired (fun(p:Li Key×V) (q:Li Key×Ad×vL)=>p.1=q.1/\H q.2.1=some (.tup (p.1.map kV))/\RelV p.2 q.2.2) kvs xs /\
      ∃ o es ep,h.get? a=some o/\o.ExactDict/\o.data=.dict es ep/\es.toList=xs.map (entryOfKey (tupleKind (mixKind P w)))/\(xs.map (·.1)).Nodup
  |.dN f=>(a==sysModules)=false/\∃ o es,h.get? a=some o/\o.ExactDict/\o.data=.dict es es.size/\es.toList=f w
  |.set S n=>h.SetOf (intKind P w) a S n
  |.ins C dx fs=>H dx=some (.own a)/\fs.length<=1000/\dx≠a/\h.get? a=some (PySem.W.instObj C dx) /\
      ∃ mA,h.Ns1 dx mA/\(∀ f,RelO (fs.lookup f) (mA f))/\PySem.Within mA (fs.map (·.1))
  |.own _=>∃ o,h.get? a=some o
  |.xd fs=>∃ mA,h.Ns1 a mA/\∀ f,RelO (fs.lookup f) (mA f)
  |.rng lo hi=>∃ t u v,h.get? a=some { cls:=.type "range",data:=.fields #[.int lo t,.int hi u,.int 1 v] }
  |.frz o u=>h.get? a=some o/\ObjOk H h a u
  |.tbl ps=>h.get? a=some { cls:=.none,data:=.fields ps }
  |.met f x=>h.get? a=some (PySem.W.methodObj (.ref f) (.ref x))
  |.ext φ=>φ h/\(∃ o,h.get? a=some o)/\∀ h1 h2:Heap,φ h1->(∀ o,h1.get? a=some o->h2.get? a=some o)->φ h2
def HOk(H:Hp)(h:Heap):Prop:=∀ a o,H a=some o->ObjOk P w H h a o
end

section
variable {P:Program}{w:World}{H H':Hp}{h h':Heap}{a:Ad}{o:HO}
theorem ObjOk.lt(x:ObjOk P w H h a o):a < h.objs.size:=by
  cases o with
  |lst xs=>obtain⟨_,_,_,_,e⟩:=x;exact Heap.lt_size e
  |tup xs=>obtain⟨_,_,_,p⟩:=x;exact p.lt
  |dK kvs=>obtain⟨_,_,_,_,o,_,_,e,_⟩:=x;exact Heap.lt_size e
  |dT kvs=>obtain⟨_,_,_,_,o,_,_,e,_⟩:=x;exact Heap.lt_size e
  |dN f=>obtain⟨_,o,_,e,_⟩:=x;exact Heap.lt_size e
  |set S n=>obtain⟨o,_,_,_,e,_⟩:=x;exact Heap.lt_size e
  |ins C dx fs=>obtain⟨_,_,_,e,_⟩:=x;exact Heap.lt_size e
  |own y=>obtain⟨_,e⟩:=x;exact Heap.lt_size e
  |xd fs=>obtain⟨_,⟨_,_,_,e,_⟩,_⟩:=x;exact Heap.lt_size e
  |rng lo hi=>obtain⟨_,_,_,e⟩:=x;exact Heap.lt_size e
  |frz ob u=>obtain⟨e,_⟩:=x;exact Heap.lt_size e
  |tbl ps=>exact Heap.lt_size (show h.get? a=some _ from x)
  |met f y=>exact Heap.lt_size (show h.get? a=some _ from x)
  |ext φ=>obtain⟨_,⟨_,e⟩,_⟩:=x;exact Heap.lt_size e
theorem Paired.mapP{α β:Type}{F G:α->β->Prop}:∀ {l₁:Li α}{l₂:Li β},Paired F l₁ l₂->(∀ a b,F a b->G a b)->Paired G l₁ l₂
  |_,_,.nil,_=>.nil
  |_,_,.cons r t,f=>.cons (f _ _ r) (Paired.mapP t f)
theorem ObjOk.stay(x:ObjOk P w H h a o)(k:∀ b u,(b=a\/H b=some (.own a))->h.get? b=some u->h'.get? b=some u)(ho:∀ b,H b=some (.own a)->H' b=some (.own a))(ht:∀ b xs,H b=some (.tup xs)->H' b=some (.tup xs)):ObjOk P w H' h' a o:=by
  induction o with
  |lst xs=>obtain⟨z,its,n,r,e⟩:=x;exact⟨z,its,n,r,k _ _ (.inl rfl) e⟩
  |tup xs=>obtain⟨z,its,r,ob,e,c⟩:=x;exact⟨z,its,r,ob,k _ _ (.inl rfl) e,c⟩
  |dK kvs=>obtain⟨z,y,vs,r,ob,es,ep,e,c⟩:=x;exact⟨z,y,vs,r,ob,es,ep,k _ _ (.inl rfl) e,c⟩
  |dT kvs=>
    obtain⟨z,y,xs,r,ob,es,ep,e,c⟩:=x;exact⟨z,y,xs,Paired.mapP r fun p q z=>⟨z.1,ht _ _ z.2.1,z.2.2⟩,ob,es,ep,k _ _ (.inl rfl) e,c⟩
  |dN f=>obtain⟨z,ob,es,e,c⟩:=x;exact⟨z,ob,es,k _ _ (.inl rfl) e,c⟩
  |set S n=>obtain⟨ob,es,ep,t,e,c⟩:=x;exact⟨ob,es,ep,t,k _ _ (.inl rfl) e,c⟩
  |ins C dx fs=>
    obtain⟨d,z,ne,e,mA,⟨od,es,ep,e2,c⟩,r⟩:=x;exact⟨ho _ d,z,ne,k _ _ (.inl rfl) e,mA,⟨od,es,ep,k _ _ (.inr d) e2,c⟩,r⟩
  |own y=>obtain⟨ob,e⟩:=x;exact⟨ob,k _ _ (.inl rfl) e⟩
  |xd fs=>obtain⟨mA,⟨od,es,ep,e,c⟩,r⟩:=x;exact⟨mA,⟨od,es,ep,k _ _ (.inl rfl) e,c⟩,r⟩
  |rng lo hi=>obtain⟨t,u,v,e⟩:=x;exact⟨t,u,v,k _ _ (.inl rfl) e⟩
  |frz ob u ih=>obtain⟨e,q⟩:=x;exact⟨k _ _ (.inl rfl) e,ih q⟩
  |tbl ps=>
    have e:h.get? a=some { cls:=.none,data:=.fields ps }:=x;show h'.get? a=some { cls:=.none,data:=.fields ps };exact k a _ (.inl rfl) e
  |met f y=>
    have e:h.get? a=some (PySem.W.methodObj (.ref f) (.ref y)):=x;show h'.get? a=some (PySem.W.methodObj (.ref f) (.ref y));exact k a _ (.inl rfl) e
  |ext φ=>obtain⟨p,⟨o,e⟩,st⟩:=x;exact⟨st _ _ p fun o q=>k _ _ (.inl rfl) q,⟨o,k _ _ (.inl rfl) e⟩,st⟩
theorem HOk.lt(x:HOk P w H h)(e:H a=some o):a < h.objs.size:=(x a o e).lt
theorem HOk.fresh(x:HOk P w H h)(e:h.objs.size<=a):H a=none:=by
  cases q:H a with
  |none=>rfl
  |some u=>exact absurd (Nat.lt_of_lt_of_le (x.lt q) e) (Nat.lt_irrefl _)
theorem HOk.kept(x:HOk P w H h)(k:∀ b u,h.get? b=some u->h'.get? b=some u):HOk P w H h':=fun a o e=>
  (x a o e).stay (fun b u _ q=>k b u q) (fun _ q=>q) fun _ _ q=>q
theorem HOk.laid(x:HOk P w H h)(k:∀ b u,h.get? b=some u->h'.get? b=some u)(hp:h.objs.size<=a)(new:ObjOk P w (upd H a o) h' a o):HOk P w (upd H a o) h':=fun b u e=>by
  have hn:=x.fresh hp;by_cases hb:b=a
  · subst hb;rw[upd_same]at e;cases e;exact new
  · rw[upd_ne hb]at e
    exact(x b u e).stay (fun c v _ q=>k c v q) (fun c q=>by rw[upd_ne (ne_of_none q hn)];exact q) fun c xs q=>by rw[upd_ne (ne_of_none q hn)];exact q
end

def Rd(H:Hp)(a:Ad)(u:HO):Prop:=H a=some u\/∃ o,H a=some (.frz o u)
theorem Rd.ok{P:Program}{w:World}{H:Hp}{h:Heap}{a:Ad}{u:HO}(r:Rd H a u)(x:HOk P w H h):ObjOk P w H h a u:=by
  rcases r with r|⟨o,r⟩
  · exact x a u r
  · obtain⟨_,q⟩:=x a _ r
    exact q
def Mut:Ot HO->Prop
  |some (.lst _)=>True
  |some (.dK _)=>True
  |some (.dT _)=>True
  |some (.dN _)=>True
  |some (.set _ _)=>True
  |some (.ins _ _ _)=>True
  |some (.ext _)=>True
  |_=>False
section
variable {P:Program}{w:World}{H:Hp}{h h':Heap}{x e:Ad}{o':HO}
theorem HOk.write(ok:HOk P w H h)(mu:Mut (H x))(he:e=x\/H e=some (.own x))(k:∀ b u,b≠e->h.get? b=some u->h'.get? b=some u)(heo:∃ u,h'.get? e=some u)(new:ObjOk P w (upd H x o') h' x o'):HOk P w (upd H x o') h':=fun b u q=>by
  have nown:∀ c y,H c=some (.own y)->c≠x:=fun c y r z=>by subst z;rw[r]at mu;exact mu
  have ntup:∀ c xs,H c=some (.tup xs)->c≠x:=fun c xs r z=>by subst z;rw[r]at mu;exact mu
  by_cases hb:b=x
  · subst hb;rw[upd_same]at q;cases q;exact new
  · rw[upd_ne hb]at q
    by_cases hbe:b=e
    · have q':H b=some (.own x):=by
        rcases he with z|z
        · exact absurd (hbe.trans z) hb
        · rw[hbe];exact z
      rw[q]at q';cases q'
      obtain⟨v,hv⟩:=heo;exact⟨v,by rw[hbe];exact hv⟩
    · refine(ok b u q).stay (fun c v hc r=>k c v ?_ r) (fun c r=>by rw[upd_ne (nown c b r)];exact r) fun c xs r=>by rw[upd_ne (ntup c xs r)];exact r
      rcases hc with rfl|hc
      · exact hbe
      · rintro rfl
        rcases he with z|z
        · exact nown c b hc z
        · rw[hc]at z;cases z;exact hb rfl
end

structure Un(fs ex:List Addr)(H H':Hp)(h h':Heap):Prop where
  keep:∀ b o,h.get? b=some o->H b=none->b∉fs->b∉ex->h'.get? b=some o
  slot:∀ b o,h.get? b=some o->H b=none->b∈fs->b∉ex->∃ sl,h'.get? b=some { o with slots:=sl }
  free:∀ b o,h.get? b=some o->H b=none->b∉ex->H' b=none
  there:∀ b o,h.get? b=some o->b∉ex->∃ o',h'.get? b=some o'
  tups:∀ b xs,H b=some (.tup xs)->H' b=some (.tup xs)
  frzs:∀ b o u,H b=some (.frz o u)->H' b=some (.frz o u)
  tbls:∀ b ps,H b=some (.tbl ps)->∃ more,H' b=some (.tbl (ps++more))
section
variable {fs fs' ex ex':Li Ad}{H H1 H2:Hp}{h h1 h2 h':Heap}{a x e:Ad}{o:HO}
theorem Un.any(u:Un fs ex H H1 h h1){b:Ad}{ob:Obj}(q:h.get? b=some ob)(n:H b=none)(hx:b∉ex):∃ sl,h1.get? b=some { ob with slots:=sl }:=by
  by_cases hb:b∈fs
  · exact u.slot b ob q n hb hx
  · exact⟨ob.slots,u.keep b ob q n hb hx⟩
theorem Un.kept(k:∀ b u,h.get? b=some u->h'.get? b=some u):Un fs ex H H h h':=
  ⟨fun b ob q _ _ _=>k b ob q,fun b ob q _ _ _=>⟨ob.slots,k b ob q⟩,fun _ _ _ n _=>n,fun b ob q _=>⟨ob,k b ob q⟩,fun _ _ q=>q,fun _ _ _ q=>q,fun _ ps q=>⟨#[],by rw[q];simp⟩⟩
theorem Un.refl:Un fs ex H H h h:=Un.kept fun _ _ q=>q
theorem Un.laid(k:∀ b u,h.get? b=some u->h'.get? b=some u)(hp:h.objs.size<=a)(hn:H a=none):Un fs ex H (upd H a o) h h' where
  keep:=fun b u q _ _ _=>k b u q
  slot:=fun b u q _ _ _=>⟨u.slots,k b u q⟩
  free:=fun b u q n _=>by rw[upd_ne (Nat.ne_of_lt (Nat.lt_of_lt_of_le (Heap.lt_size q) hp))];exact n
  there:=fun b u q _=>⟨u,k b u q⟩
  tups:=fun b xs q=>by rw[upd_ne (ne_of_none q hn)];exact q
  frzs:=fun b u xs q=>by rw[upd_ne (ne_of_none q hn)];exact q
  tbls:=fun b ps q=>⟨#[],by rw[upd_ne (ne_of_none q hn),q];simp⟩
theorem Un.write(mu:Mut (H x))(he:e=x\/H e=some (.own x))(k:∀ b u,b≠e->h.get? b=some u->h'.get? b=some u)(heo:∃ u,h'.get? e=some u):Un fs ex H (upd H x o) h h':=by
  have hx:∀ b,H b=none->b≠x:=fun b n z=>by subst z;rw[n]at mu;exact mu
  have hb:∀ b,H b=none->b≠e:=fun b n z=>by
    subst z;rcases he with r|r
    · exact hx b n r
    · rw[n]at r;cases r
  have hm:∀ b u,H b=some u->¬Mut (some u)->b≠x:=fun b u q nm z=>by subst z;rw[q]at mu;exact nm mu
  refine⟨fun b u q n _ _=>k b u (hb b n) q,fun b u q n _ _=>⟨u.slots,k b u (hb b n) q⟩,fun b u q n _=>by rw[upd_ne (hx b n)];exact n,fun b u q _=>?_,
    fun b xs q=>by rw[upd_ne (hm b _ q fun z=>z)];exact q,fun b u xs q=>by rw[upd_ne (hm b _ q fun z=>z)];exact q,fun b ps q=>⟨#[],by rw[upd_ne (hm b _ q fun z=>z),q];simp⟩⟩
  by_cases hbe:b=e
  · subst hbe;exact heo
  · exact⟨u,k b u hbe q⟩
end

noncomputable def trk(h:Heap)(H:Hp):Li Ad:=(List.range h.objs.size).filter fun a=>(H a).isSome
noncomputable def hidT(h:Heap)(H:Hp):Heap:=PySem.W.hideAll h (trk h H)
theorem hidT_size(h:Heap)(H:Hp):(hidT h H).objs.size=h.objs.size:=PySem.W.hideAll_size _ _
theorem hidT_get{h:Heap}{H:Hp}{b:Ad}{o:Obj}(e:h.get? b=some o)(n:H b=none):(hidT h H).get? b=some o:=
  PySem.W.hideAll_get _ e fun hm=>by
    have q:(H b).isSome=true:=(List.mem_filter.mp hm).2;rw[n]at q;simp at q
theorem of_hidT{h:Heap}{H:Hp}{b:Ad}{o:Obj}(e:(hidT h H).get? b=some o):h.get? b=some o/\H b=none:=by
  have e':h.get? b=some o:=PySem.W.of_hideAll (trk h H) e;refine⟨e',?_⟩;cases q:H b with
  |none=>rfl
  |some x=>
    have hm:b∈trk h H:=List.mem_filter.mpr ⟨List.mem_range.mpr (Heap.lt_size e'),by simp[q]⟩
    have z:(hidT h H).get? b=none:=PySem.W.hideAll_none (trk h H) hm;rw[z]at e;cases e

end L2

namespace L2
open PySem PySem.Spec PyProof.Rows

structure Mod(K:Fg)(mg:Str->Option Value)(base:Heap):Prop where
  kin:K.In base
  glob:base.Ns mainGlobals mg
  blt:∃ mb,base.Ns builtinsNs mb/\∀ x:Str,x ≠ "__name__"->mb x=bootBuiltins x
  nolimit:base.NoLimit

structure Cx where
  prog:Program
  w:World
  K:Fg
  mg:Str->Option Value
  base:Heap
  A:Around
  N:List Str
  s₀:Shared
  H₀:Hp
  env:Env
  outer:List Env
  stack:List Env
  ex:List Addr
  fn:Str->Bool
  calm:Bool
  pn:List (Addr×Obj)
  xe:Value->Shared->Prop
noncomputable def frs(l:Li Env):Li Ad:=l.filterMap (·.frame)
noncomputable abbrev Cx.fs(X:Cx):Li Ad:=frs X.outer

def Vis(sc:Scope)(x:Str):Prop:=sc.names.lookup x=some .local\/sc.names.lookup x=some .cell\/sc.names.lookup x=some .free
def Loc(sc:Scope)(x:Str):Prop:=sc.names.lookup x=some .local\/sc.names.lookup x=some .cell
def Look(env:Env)(h:Heap)(m:Str->Ot vL)(x:Str)(u:vL):Prop:=
  (env.kindOf x=some .local/\m x=some u)\/((env.kindOf x=some .cell\/env.kindOf x=some .free)/\∃ c,env.cells.lookup x=some c/\h.IsCell c (some u))

structure Cx.Ok(X:Cx):Prop where
  mod:Mod X.K X.mg X.base
  kind:X.env.scope.kind=.function
  glob:X.env.globals=mainGlobals
  blt:X.env.builtins=builtinsNs
  above:X.s₀.heap.objs.size<=X.env.locals
  inj:∀ x y c,X.env.cells.lookup x=some c->X.env.cells.lookup y=some c->x=y
  has:∀ x,(X.env.kindOf x=some .cell\/X.env.kindOf x=some .free)->∃ c,X.env.cells.lookup x=some c
  cab:∀ x c,X.fn x=true->X.env.cells.lookup x=some c->X.s₀.heap.objs.size<=c
  hd:X.calm=true->X.A.handled=none
  frames:X.A.frames=some X.stack
  stk:X.stack=X.outer\/(X.stack=X.env :: X.outer/\X.env.frame=some X.env.locals)
  exf:∀ b∈X.ex,b≠X.env.locals/\∀ x c,X.env.cells.lookup x=some c->c≠b
  bs:∀ b o,X.base.get? b=some o->X.s₀.heap.get? b=some o/\X.H₀ b=none
  bsz:X.base.objs.size<=X.s₀.heap.objs.size
  noex:∀ b o,X.base.get? b=some o->b∉X.ex
  exfs:∀ b∈X.ex,b∉X.fs
  funs:X.s₀.heap.FunFrames X.base X.outer
  frf:∀ b∈X.fs,X.H₀ b=none

structure Inv(X:Cx)(pQ:List (Addr×Obj))(σ:List (Option V))(H:Hp)(s:Shared):Prop where
  ok:X.Ok
  os:s.os=X.s₀.os
  bare:AllBare s.gens
  base:Un X.fs X.ex X.H₀ H X.s₀.heap s.heap
  loc:∃ m,s.heap.Ns X.env.locals m/\∀ (i:Nat) (x:Str) (v:V),X.N[i]?=some x->σ[i]?=some (some v)->Vis X.env.scope x->∃ u,RelV v u/\Look X.env s.heap m x u
  cell:∀ x c,X.env.cells.lookup x=some c->∃ v,s.heap.IsCell c v
  free:H X.env.locals=none
  freeC:∀ x c,X.env.cells.lookup x=some c->H c=none
  pin:∀ p∈X.pn++pQ,s.heap.get? p.1=some p.2/\H p.1=none/\p.1≠X.env.locals/\p.1∉X.fs/\∀ v,p.2.data≠.cell v
  hok:HOk X.prog X.w H s.heap
  len:σ.length=X.N.length

section
variable {X:Cx}{pQ:Li (Ad×Obj)}{σ:Li (Ot V)}{H H':Hp}{s:Sd}{h':Heap}

theorem Cx.Ok.nofr(ok:X.Ok){b:Ad}{o:Obj}(e:X.base.get? b=some o):b∉X.fs:=fun hb=>by
  have:=(ok.funs.mem hb).1;rw[e]at this;cases this
theorem Inv.bs(I:Inv X pQ σ H s):∀ b o,X.base.get? b=some o->s.heap.get? b=some o/\H b=none:=fun b o e=>
  ⟨I.base.keep b o (I.ok.bs b o e).1 (I.ok.bs b o e).2 (I.ok.nofr e) (I.ok.noex b o e),I.base.free b o (I.ok.bs b o e).1 (I.ok.bs b o e).2 (I.ok.noex b o e)⟩
theorem Inv.bk(I:Inv X pQ σ H s):∀ b o,X.base.get? b=some o->s.heap.get? b=some o:=fun b o e=>(I.bs b o e).1
theorem Inv.mod(I:Inv X pQ σ H s):Mod X.K X.mg X.base:=I.ok.mod
theorem Inv.kIn(I:Inv X pQ σ H s):X.K.In s.heap:=I.ok.mod.kin.keeps I.bk
theorem Inv.lt(I:Inv X pQ σ H s):X.env.locals < s.heap.objs.size:=let ⟨_,hn,_⟩:=I.loc;hn.lt
theorem Inv.sz(I:Inv X pQ σ H s):X.s₀.heap.objs.size<=s.heap.objs.size:=Nat.le_trans I.ok.above (Nat.le_of_lt I.lt)
theorem Inv.nofs(I:Inv X pQ σ H s){a:Ad}(h:s.heap.objs.size<=a):a∉X.fs:=fun hb=>by
  obtain⟨_,o,ho,_⟩:=I.ok.funs.mem hb;exact absurd (Nat.lt_of_lt_of_le (Heap.lt_size ho) (Nat.le_trans I.sz h)) (Nat.lt_irrefl _)
theorem Inv.cne(I:Inv X pQ σ H s):∀ x c,X.env.cells.lookup x=some c->c≠X.env.locals:=fun x c e z=>by
  obtain⟨v,o,ho,hd⟩:=I.cell x c e;obtain⟨m,⟨o',es,ep,ho',hd',_⟩,_⟩:=I.loc;rw[z,ho']at ho;cases ho;rw[hd']at hd;cases hd
theorem Inv.funs(I:Inv X pQ σ H s):s.heap.FunFrames X.base X.outer:=by
  have all:∀ (l:Li Env),(∀ b∈frs l,b∈X.fs)->X.s₀.heap.FunFrames X.base l->s.heap.FunFrames X.base l:=by
    intro l
    induction l with
    |nil=>intro _ _;trivial
    |cons env r ih=>
      intro hs hl;obtain⟨hk,⟨L,o,hf,hn,ho,hd⟩,hr⟩:=hl;have hL:L∈X.fs:=hs L (by unfold frs;rw[List.filterMap_cons,hf];exact Ls)
      obtain⟨sl,e⟩:=I.base.slot L o ho (I.ok.frf L hL) hL fun z=>I.ok.exfs L z hL
      exact⟨hk,⟨L,_,hf,hn,e,hd⟩,ih (fun b hb=>hs b (by unfold frs;rw[List.filterMap_cons,hf];exact Lm _ hb)) hr⟩
  exact all X.outer (fun _ hb=>hb) I.ok.funs

theorem Inv.stack(I:Inv X pQ σ H s):s.heap.FunFrames X.base X.stack:=by
  rcases I.ok.stk with e|⟨e,hf⟩
  · rw[e];exact I.funs
  · rw[e]
    obtain⟨m,hn,_⟩:=I.loc;refine .cons (by rw[I.ok.kind];decide) hf hn ?_ I.funs
    exact Heap.get?_none_of_le (Nat.le_trans I.ok.bsz I.ok.above)
theorem Inv.stkSub(I:Inv X pQ σ H s):∀ b∈frs X.stack,b∈X.env.locals :: X.fs:=fun b hb=>by
  rcases I.ok.stk with e|⟨e,hf⟩
  · rw[e]at hb;exact Lm _ hb
  · rw[e]at hb
    unfold frs at hb;rw[List.filterMap_cons,hf]at hb;exact hb
theorem Inv.stkFree(I:Inv X pQ σ H s):∀ b∈frs X.stack,H b=none:=fun b hb=>by
  rcases List.mem_cons.mp (I.stkSub b hb) with e|hb
  · rw[e];exact I.free
  · obtain⟨_,o,ho,_⟩:=I.ok.funs.mem hb
    exact I.base.free b o ho (I.ok.frf b hb) fun z=>I.ok.exfs b z hb

theorem Inv.step{g':Array GenState}{t':Nat}{d':Drawn}{ch:Li Ad}(I:Inv X pQ σ H s)(hch:∀ b∈ch,(b∈X.ex\/X.s₀.heap.objs.size<=b)/\b≠X.env.locals/\(∀ x c,X.env.cells.lookup x=some c->c≠b)/\∀ p∈X.pn++pQ,p.1≠b)(keep:∀ b o,b≠X.env.locals->b∉X.fs->b∉ch->s.heap.get? b=some o->H b=none->h'.get? b=some o)(slot:∀ b o,b≠X.env.locals->b∈X.fs->b∉ch->s.heap.get? b=some o->H b=none->∃ sl,h'.get? b=some { o with slots:=sl })(free:∀ b o,b∉ch->s.heap.get? b=some o->H b=none->H' b=none)(there:∀ b o,b∉ch->s.heap.get? b=some o->∃ o',h'.get? b=some o')(tups:∀ b xs,H b=some (.tup xs)->H' b=some (.tup xs))(frzs:∀ b o u,H b=some (.frz o u)->H' b=some (.frz o u))(tbls:∀ b ps,H b=some (.tbl ps)->∃ more,H' b=some (.tbl (ps++more)))(ns:∀ m,s.heap.Ns X.env.locals m->h'.Ns X.env.locals m)(hok:HOk X.prog X.w H' h')(hg:AllBare g') :
    Inv X pQ σ H' { s with heap:=h',gens:=g',drawn:=d',toks:=t' }:=by
  have neL:∀ b o,X.s₀.heap.get? b=some o->b≠X.env.locals:=fun b o e=>Nat.ne_of_lt (Nat.lt_of_lt_of_le (Heap.lt_size e) I.ok.above)
  have neC:∀ b o,X.s₀.heap.get? b=some o->b∉X.ex->b∉ch:=fun b o e hx hb=>by
    rcases (hch b hb).1 with z|z
    · exact hx z
    · exact absurd (Nat.lt_of_lt_of_le (Heap.lt_size e) z) (Nat.lt_irrefl _)
  have cellK:∀ x c,X.env.cells.lookup x=some c->∀ v,s.heap.IsCell c v->h'.IsCell c v:=fun x c e v ⟨o,ho,hd⟩=>by
    have nch:c∉ch:=fun z=>(hch c z).2.2.1 x c e rfl
    by_cases hc:c∈X.fs
    · obtain⟨sl,q⟩:=slot c o (I.cne x c e) hc nch ho (I.freeC x c e)
      exact⟨_,q,hd⟩
    · exact⟨o,keep c o (I.cne x c e) hc nch ho (I.freeC x c e),hd⟩
  refine⟨I.ok,I.os,hg,⟨fun b o e n hb hx=>?_,fun b o e n hb hx=>?_,fun b o e n hx=>?_,fun b o e hx=>?_,fun b xs e=>tups b xs (I.base.tups b xs e),fun b o xs e=>frzs b o xs (I.base.frzs b o xs e),fun b ps e=>?_⟩,?_,fun x c e=>?_,?_,fun x c e=>?_,fun p hp=>?_,hok,I.len⟩
  · exact keep b o (neL b o e) hb (neC b o e hx) (I.base.keep b o e n hb hx) (I.base.free b o e n hx)
  · obtain⟨sl,e1⟩:=I.base.slot b o e n hb hx
    obtain⟨sl',e2⟩:=slot b _ (neL b o e) hb (neC b o e hx) e1 (I.base.free b o e n hx);exact⟨sl',e2⟩
  · obtain⟨o',e1⟩:=I.base.there b o e hx
    exact free b o' (neC b o e hx) e1 (I.base.free b o e n hx)
  · obtain⟨o',e1⟩:=I.base.there b o e hx
    exact there b o' (neC b o e hx) e1
  · obtain⟨m1,e1⟩:=I.base.tbls b ps e
    obtain⟨m2,e2⟩:=tbls b _ e1;exact⟨m1++m2,by rw[e2,Array.append_assoc]⟩
  · obtain⟨m,hn,hl⟩:=I.loc
    refine⟨m,ns m hn,fun i x v e1 e2 e3=>?_⟩
    obtain⟨u,r,l⟩:=hl i x v e1 e2 e3;refine⟨u,r,?_⟩;rcases l with l|⟨k,c,e,z⟩
    · exact .inl l
    · exact .inr ⟨k,c,e,cellK x c e _ z⟩
  · obtain⟨v,z⟩:=I.cell x c e
    exact⟨v,cellK x c e v z⟩
  · obtain⟨m,⟨o,_,_,ho,_⟩,_⟩:=I.loc
    exact free _ o (fun z=>(hch _ z).2.1 rfl) ho I.free
  · obtain⟨v,o,ho,hd⟩:=I.cell x c e
    exact free c o (fun z=>(hch c z).2.2.1 x c e rfl) ho (I.freeC x c e)
  · obtain⟨e,n,ne,nf,d⟩:=I.pin p hp
    have nch:p.1∉ch:=fun z=>(hch p.1 z).2.2.2 p hp rfl
    exact⟨keep p.1 p.2 ne nf nch e n,free p.1 p.2 nch e n,ne,nf,d⟩
theorem Inv.un{t':Nat}(I:Inv X pQ σ H s)(u:Un X.fs [] H H' s.heap h')(hok:HOk X.prog X.w H' h'):Inv X pQ σ H' { s with heap:=h',toks:=t' }:=by
  obtain⟨m,⟨o,es,ep,ho,r⟩,_⟩:=id I.loc;obtain⟨sl,hL⟩:=u.any ho I.free (by simp)
  exact I.step (g':=s.gens) (d':=s.drawn) (ch:=[]) (fun _ z=>nomatch z) (fun b o _ hb _ e n=>u.keep b o e n hb (by simp)) (fun b o _ hb _ e n=>u.slot b o e n hb (by simp)) (fun b o _ e n=>u.free b o e n (by simp)) (fun b o _ e=>u.there b o e (by simp)) u.tups u.frzs u.tbls (fun m' hm=>by
    obtain⟨o',es',ep',ho',r'⟩:=hm;rw[ho]at ho';cases ho'
    exact⟨_,es',ep',hL,r'⟩) hok I.bare
theorem Inv.call{g':Array GenState}{t':Nat}{d':Drawn}{ch:Li Ad}(I:Inv X pQ σ H s)(u:Un (frs X.stack) ch H H' s.heap h')(hok:HOk X.prog X.w H' h')(hg:AllBare g')(hch:∀ b∈ch,(b∈X.ex\/X.s₀.heap.objs.size<=b)/\b≠X.env.locals/\(∀ x c,X.env.cells.lookup x=some c->c≠b)/\∀ p∈X.pn++pQ,p.1≠b) :
    Inv X pQ σ H' { s with heap:=h',gens:=g',drawn:=d',toks:=t' }:=by
  obtain⟨m,⟨o,es,ep,ho,r⟩,_⟩:=id I.loc;obtain⟨sl,hL⟩:=u.any ho I.free fun z=>(hch _ z).2.1 rfl
  exact I.step (ch:=ch) hch (fun b o hL hb hc e n=>u.keep b o e n (fun z=>(List.mem_cons.mp (I.stkSub b z)).elim hL hb) hc) (fun b o _ _ hc e n=>u.any e n hc) (fun b o hc e n=>u.free b o e n hc) (fun b o hc e=>u.there b o e hc) u.tups u.frzs u.tbls (fun m' hm=>by
    obtain⟨o',es',ep',ho',r'⟩:=hm;rw[ho]at ho';cases ho'
    exact⟨_,es',ep',hL,r'⟩) hok hg
theorem Inv.turned{t':Nat}{it:Ad}(I:Inv X pQ σ H s)(k:∀ b o,b≠it->s.heap.get? b=some o->h'.get? b=some o)(hn:H it=none)(hL:it≠X.env.locals)(h1:it∈X.ex\/X.s₀.heap.objs.size<=it)(h2:∀ x c,X.env.cells.lookup x=some c->c≠it)(h3:∀ p∈X.pn++pQ,p.1≠it):Inv X pQ σ H { s with heap:=h',toks:=t' }:=by
  have nit:∀ b u,H b=some u->b≠it:=fun b u e z=>by rw[z,hn]at e;cases e
  refine I.step (g':=s.gens) (d':=s.drawn) (ch:=[it]) (fun b hb=>?_) (fun b o _ _ hc e _=>k b o (fun z=>hc (by simp[z])) e) (fun b o _ _ hc e _=>⟨o.slots,k b o (fun z=>hc (by simp[z])) e⟩) (fun _ _ _ _ n=>n)
    (fun b o hc e=>⟨o,k b o (fun z=>hc (by simp[z])) e⟩) (fun _ _ e=>e) (fun _ _ _ e=>e) (fun b ps e=>⟨#[],by rw[e];simp⟩) (fun m hm=>?_) (fun b u e=>?_) I.bare
  · have e:b=it:=by simpa using hb
    subst e;exact⟨h1,hL,h2,h3⟩
  · obtain⟨o,es,ep,ho,r⟩:=hm
    exact⟨o,es,ep,k _ o (Ne.symm hL) ho,r⟩
  · refine(I.hok b u e).stay (fun c v hc q=>k c v ?_ q) (fun _ q=>q) fun _ _ q=>q
    rcases hc with z|z
    · rw[z];exact nit b u e
    · exact nit c _ z
theorem Inv.tok(I:Inv X pQ σ H s)(t:Nat):Inv X pQ σ H { s with toks:=t }:=I.un (h':=s.heap) (t':=t) Un.refl I.hok
theorem Inv.kept{t':Nat}(I:Inv X pQ σ H s)(k:∀ b u,s.heap.get? b=some u->h'.get? b=some u):Inv X pQ σ H { s with heap:=h',toks:=t' }:=I.un (Un.kept k) (I.hok.kept k)
theorem Inv.laid{a:Ad}{o:HO}{t':Nat}(I:Inv X pQ σ H s)(k:∀ b u,s.heap.get? b=some u->h'.get? b=some u)(hp:s.heap.objs.size<=a)(new:ObjOk X.prog X.w (upd H a o) h' a o) :
    Inv X pQ σ (upd H a o) { s with heap:=h',toks:=t' }:=I.un (Un.laid k hp (I.hok.fresh hp)) (I.hok.laid k hp new)
theorem Inv.write{x e:Ad}{o:HO}{t':Nat}(I:Inv X pQ σ H s)(mu:Mut (H x))(he:e=x\/H e=some (.own x))(k:∀ b u,b≠e->s.heap.get? b=some u->h'.get? b=some u)(heo:∃ u,h'.get? e=some u)(new:ObjOk X.prog X.w (upd H x o) h' x o):Inv X pQ σ (upd H x o) { s with heap:=h',toks:=t' }:=I.un (Un.write mu he k heo) (I.hok.write mu he k heo new)
theorem Inv.pins_of{pins':Li (Ad×Obj)}(I:Inv X pQ σ H s)(h:∀ p∈pins',s.heap.get? p.1=some p.2/\H p.1=none/\p.1≠X.env.locals/\p.1∉X.fs/\∀ v,p.2.data≠.cell v):Inv X pins' σ H s:=
  ⟨I.ok,I.os,I.bare,I.base,I.loc,I.cell,I.free,I.freeC,fun p hp=>(List.mem_append.mp hp).elim (fun z=>I.pin p (List.mem_append_left _ z)) (h p),I.hok,I.len⟩

theorem nodup_ix{N:Li Str}(hN:N.Nodup){i j:Nat}{x:Str}(a:N[i]?=some x)(b:N[j]?=some x):i=j:=by
  obtain⟨h1,e1⟩:=List.getElem?_eq_some_iff.mp a;obtain⟨h2,e2⟩:=List.getElem?_eq_some_iff.mp b;exact(List.getElem_inj hN).mp (e1.trans e2.symm)

theorem store_ok2{M:Model}{A:Around}{E:vL->Sd->Prop}{i:Nat}{x:Str}{v:V}{u:vL}{Q:Unit->Sd->Prop}(I:Inv X pQ σ H s)(hN:X.N.Nodup)(hi:X.N[i]?=some x)(hx:Loc X.env.scope x)(r:RelV v u)(h:∀ s',Inv X pQ (σ.set i (some v)) H s'->(∃ a,Heap.SameBut a s.heap s'.heap/\(a=X.env.locals\/X.env.cells.lookup x=some a))->Q () s')(hf:X.fn x=true\/X.env.scope.names.lookup x=some .local:=by first|exact .inl rfl|exact .inr rfl|assumption):wpAny M A (storeName X.env x u) Q E s:=by
  obtain⟨m,hn,hl⟩:=id I.loc;have hcls:(X.env.scope.kind==.class||(X.env.scope.kind==.module&&X.env.locals != X.env.globals))=false:=by rw[I.ok.kind];rfl
  have hiσ:i < σ.length:=by rw[I.len];exact(List.getElem?_eq_some_iff.mp hi).1
  have cne:=I.cne;have tracked:∀ {a:Ad}{h':Heap},(∃ o,s.heap.get? a=some o/\H a=none)->Heap.SameBut a s.heap h'->HOk X.prog X.w H h':=fun {a h'} ha hs b ob e=>by
    obtain⟨_,_,hfree⟩:=ha;refine(I.hok b ob e).stay (fun c w' hc q=>(hs.2 c ?_).trans q) (fun _ q=>q) fun _ _ q=>q
    rintro rfl
    rcases hc with rfl|hc
    · rw[hfree]at e;cases e
    · rw[hfree]at hc;cases hc
  rcases hx with hk|hk
  · refine wpAny_storeName_local hk hn (fun h' hn' hs=>?_) hcls
    obtain⟨oL,_,_,hoL,_⟩:=id hn;refine h _ ⟨I.ok,I.os,I.bare,⟨fun b o e n hb hx=>?_,fun b o e n hb hx=>?_,I.base.free,fun b o e hx=>?_,I.base.tups,I.base.frzs,I.base.tbls⟩,⟨_,hn',fun j y v' e1 e2 e3=>?_⟩,fun y c e=>?_,I.free,I.freeC,fun p hp=>?_,tracked ⟨oL,hoL,I.free⟩ hs,by simpa using I.len⟩ ⟨_,hs,.inl rfl⟩
    · exact(hs.2 b (Nat.ne_of_lt (Nat.lt_of_lt_of_le (Heap.lt_size e) I.ok.above))).trans (I.base.keep b o e n hb hx)
    · obtain⟨sl,e1⟩:=I.base.slot b o e n hb hx
      exact⟨sl,(hs.2 b (Nat.ne_of_lt (Nat.lt_of_lt_of_le (Heap.lt_size e) I.ok.above))).trans e1⟩
    · obtain⟨o',e1⟩:=I.base.there b o e hx
      exact⟨o',(hs.2 b (Nat.ne_of_lt (Nat.lt_of_lt_of_le (Heap.lt_size e) I.ok.above))).trans e1⟩
    · by_cases hj:j=i
      · subst hj
        rw[hi]at e1;cases e1
        rw[List.getElem?_set_self hiσ]at e2;cases e2;exact⟨u,r,.inl ⟨hk,by simp⟩⟩
      · rw[List.getElem?_set_ne (Ne.symm hj)]at e2
        obtain⟨u',r',q⟩:=hl j y v' e1 e2 e3;refine⟨u',r',?_⟩;rcases q with⟨k,e⟩|⟨k,c,e,z⟩
        · refine .inl ⟨k,?_⟩
          have:y≠x:=fun e=>hj (nodup_ix hN e1 (e ▸ hi))
          simp[this,e]
        · exact .inr ⟨k,c,e,z.sameBut hs (cne y c e)⟩
    · obtain⟨w',z⟩:=I.cell y c e
      exact⟨w',z.sameBut hs (cne y c e)⟩
    · obtain⟨e,n,ne,nf,d⟩:=I.pin p hp
      exact⟨(hs.2 p.1 ne).trans e,n,ne,nf,d⟩
  · have hfn:X.fn x=true:=by
      rcases hf with z|z
      · exact z
      · rw[z]at hk;cases hk
    obtain⟨c,hc⟩:=I.ok.has x (.inl hk);obtain⟨w',z⟩:=I.cell x c hc;refine wpAny_storeName_cell I.ok.kind hk hc z (fun h' hc' hs=>?_)
    obtain⟨oc,hoc,hocd⟩:=id z;refine h { s with heap:=h' } ⟨I.ok,I.os,I.bare,⟨fun b o e n hb hx=>?_,fun b o e n hb hx=>?_,I.base.free,fun b o e hx=>?_,I.base.tups,I.base.frzs,I.base.tbls⟩,⟨m,hn.sameBut hs (Ne.symm (cne x c hc)),fun j y v' e1 e2 e3=>?_⟩,fun y c' e=>?_,I.free,I.freeC,fun p hp=>?_,tracked ⟨oc,hoc,I.freeC x c hc⟩ hs,by simpa using I.len⟩ ⟨c,hs,.inr hc⟩
    · exact(hs.2 b (Nat.ne_of_lt (Nat.lt_of_lt_of_le (Heap.lt_size e) (I.ok.cab x c hfn hc)))).trans (I.base.keep b o e n hb hx)
    · obtain⟨sl,e1⟩:=I.base.slot b o e n hb hx
      exact⟨sl,(hs.2 b (Nat.ne_of_lt (Nat.lt_of_lt_of_le (Heap.lt_size e) (I.ok.cab x c hfn hc)))).trans e1⟩
    · obtain⟨o',e1⟩:=I.base.there b o e hx
      exact⟨o',(hs.2 b (Nat.ne_of_lt (Nat.lt_of_lt_of_le (Heap.lt_size e) (I.ok.cab x c hfn hc)))).trans e1⟩
    · by_cases hj:j=i
      · subst hj
        rw[hi]at e1;cases e1
        rw[List.getElem?_set_self hiσ]at e2;cases e2;exact⟨u,r,.inr ⟨.inl hk,c,hc,hc'⟩⟩
      · rw[List.getElem?_set_ne (Ne.symm hj)]at e2
        obtain⟨u',r',q⟩:=hl j y v' e1 e2 e3;refine⟨u',r',?_⟩;rcases q with q|⟨k,c',e,z'⟩
        · exact .inl q
        · refine .inr ⟨k,c',e,z'.sameBut hs ?_⟩
          rintro rfl
          exact hj (nodup_ix hN e1 (I.ok.inj _ _ _ e hc ▸ hi))
    · by_cases hcc:c'=c
      · subst hcc;exact⟨_,hc'⟩
      · obtain⟨w2,z2⟩:=I.cell y c' e
        exact⟨w2,z2.sameBut hs hcc⟩
    · obtain⟨e,n,ne,nf,d⟩:=I.pin p hp
      refine⟨(hs.2 p.1 ?_).trans e,n,ne,nf,d⟩;intro q;rw[q,hoc]at e;have q':oc=p.2:=Option.some.inj e;exact d w' (by rw[<-q'];exact hocd)
theorem store_ok{M:Model}{A:Around}{E:vL->Sd->Prop}{i:Nat}{x:Str}{v:V}{u:vL}{Q:Unit->Sd->Prop}(I:Inv X pQ σ H s)(hN:X.N.Nodup)(hi:X.N[i]?=some x)(hx:Loc X.env.scope x)(r:RelV v u)(h:∀ s',Inv X pQ (σ.set i (some v)) H s'->Q () s')(hf:X.fn x=true\/X.env.scope.names.lookup x=some .local:=by first|exact .inl rfl|exact .inr rfl|assumption):wpAny M A (storeName X.env x u) Q E s:=
  store_ok2 I hN hi hx r (fun s' I' _=>h s' I') hf
theorem Inv.call'{s':Sd}{ch:Li Ad}(I:Inv X pQ σ H s)(ho:s'.os=s.os)(u:Un (frs X.stack) ch H H' s.heap s'.heap)(hok:HOk X.prog X.w H' s'.heap)(hg:AllBare s'.gens)(hch:∀ b∈ch,(b∈X.ex\/X.s₀.heap.objs.size<=b)/\b≠X.env.locals/\(∀ x c,X.env.cells.lookup x=some c->c≠b)/\∀ p∈X.pn++pQ,p.1≠b):Inv X pQ σ H' s':=by
  obtain⟨h',g',d',t',o'⟩:=s';have e:o'=s.os:=ho;subst e;exact I.call (g':=g') (t':=t') (d':=d') u hok hg hch
end

abbrev XK:=vL->Ot Ad->Hp->Prop
noncomputable abbrev St:=Li (Ot V)
abbrev VK:=V->Hp->Prop
abbrev TE:=St->Hp->VK->Prop
abbrev TT:=St->Hp->(Bool->Hp->Prop)->Prop
abbrev TA:=St->Hp->(Li V->Hp->Prop)->Prop
structure Ends where
  nx:St->Hp->Prop
  rt:VK
  bk:St->Hp->Prop:=fun _ _=>False
  ct:St->Hp->Prop:=fun _ _=>False
abbrev TS:=Ends->St->Hp->Prop

def EP(X:Cx)(pQ:Li (Ad×Obj))(σ:St)(Q:VK)(u:vL)(s':Sd):Prop:=∃ v H',Inv X pQ σ H' s'/\RelV v u/\Q v H'
def TP(X:Cx)(pQ:Li (Ad×Obj))(σ:St)(Q:Bool->Hp->Prop)(b:Bool)(s':Sd):Prop:=∃ H',Inv X pQ σ H' s'/\Q b H'
def AP(X:Cx)(pQ:Li (Ad×Obj))(σ:St)(Q:Li V->Hp->Prop)(us:Li vL)(s':Sd):Prop:=∃ vs H',Inv X pQ σ H' s'/\Vals vs us/\Q vs H'
def SP(X:Cx)(pQ:Li (Ad×Obj))(D:Ends)(f:Flow)(s':Sd):Prop:=
  match f with
  |.next=>∃ σ' H',Inv X pQ σ' H' s'/\D.nx σ' H'
  |.brk=>∃ σ' H',Inv X pQ σ' H' s'/\D.bk σ' H'
  |.cont=>∃ σ' H',Inv X pQ σ' H' s'/\D.ct σ' H'
  |.ret u=>∃ v σ' H',Inv X pQ σ' H' s'/\RelV v u/\D.rt v H'

def PE(X:Cx)(e:Expr)(t:TE):Prop:=
  ∀ (pQ:Li (Ad×Obj)) (s:Sd) (σ:St) (H:Hp) (Q:VK),Inv X pQ σ H s->t σ H Q->wpAny (model X.prog X.w) X.A (eval e X.env) (EP X pQ σ Q) X.xe s
def PT(X:Cx)(e:Expr)(t:TT):Prop:=
  ∀ (pQ:Li (Ad×Obj)) (s:Sd) (σ:St) (H:Hp) (Q:Bool->Hp->Prop),Inv X pQ σ H s->t σ H Q->wpAny (model X.prog X.w) X.A (isTrue e X.env (eval e X.env)) (TP X pQ σ Q) X.xe s
def PW(X:Cx)(e:Expr)(t:TT):Prop:=
  ∀ (whole:Sem vL) (pQ:Li (Ad×Obj)) (s:Sd) (σ:St) (H:Hp) (Q:Bool->Hp->Prop),Inv X pQ σ H s->t σ H Q->wpAny (model X.prog X.w) X.A (isTrue e X.env whole) (TP X pQ σ Q) X.xe s
theorem PW.pt{X:Cx}{e:Expr}{t:TT}(h:PW X e t):PT X e t:=h _
def PA(X:Cx)(es:Li Expr)(t:TA):Prop:=
  ∀ (pos:Pos) (pQ:Li (Ad×Obj)) (s:Sd) (σ:St) (H:Hp) (Q:Li V->Hp->Prop),Inv X pQ σ H s->t σ H Q->wpAny (model X.prog X.w) X.A (spliced (backTo pos (starEach es X.env))) (AP X pQ σ Q) X.xe s
def PS(X:Cx)(st:Stmt)(t:TS):Prop:=
  ∀ (pQ:Li (Ad×Obj)) (s:Sd) (σ:St) (H:Hp) (D:Ends),Inv X pQ σ H s->t D σ H->wpAny (model X.prog X.w) X.A (exec st X.env) (SP X pQ D) X.xe s
def PSs(X:Cx)(st:Li Stmt)(t:TS):Prop:=
  ∀ (pQ:Li (Ad×Obj)) (s:Sd) (σ:St) (H:Hp) (D:Ends),Inv X pQ σ H s->t D σ H->wpAny (model X.prog X.w) X.A (execs st X.env) (SP X pQ D) X.xe s
theorem thn{α:Type}{t:Sem α}{Q Q':α->Sd->Prop}{M:Model}{A:Around}{E:vL->Sd->Prop}{s:Sd}(h:wpAny M A t Q E s)(hQ:∀ a s,Q a s->Q' a s):wpAny M A t Q' E s:=wpAny_mono h hQ fun _ _ x=>x
end L2

namespace L2
open PySem PySem.Spec PyProof.Rows
section
variable {X:Cx}


noncomputable def tVar(i:Nat):TE:=fun σ H Q=>∃ v,σ[i]?=some (some v)/\Q v H
noncomputable def tC(v:V):TE:=fun _ H Q=>Q v H
theorem pe_var{i:Nat}{x:Str}{pos:Pos}(hN:X.N[i]?=some x)(hv:Vis X.env.scope x)(hd:(x==("__debug__":Str))=false:=by decide)(hcd:(x==("__classdict__":Str))=false:=by decide):PE X (.Name x pos) (tVar i):=by
  intro pQ s σ H Q I h;obtain⟨v,e,h⟩:=h;obtain⟨m,hn,hl⟩:=I.loc;obtain⟨u,r,l⟩:=hl i x v hN e hv;have fin:EP X pQ σ Q u s:=⟨v,H,I,r,h⟩;rcases l with⟨hk,hm⟩|⟨hk,c,hc,hcell⟩
  · exact wpAny_Name (wpAny_loadName_local I.ok.kind hk hn hm fin) hd
  · rcases hk with hk|hk
    · exact wpAny_Name (wpAny_loadName_cell I.ok.kind hk hc hcell fin) hd
    · exact wpAny_Name (wpAny_loadName_free I.ok.kind hk hc hcell fin hcd) hd
theorem pe_int{i j pos}:PE X (.Constant (.int i) j pos) (tC (.int i)):=fun _ _ _ H _ I h=>wpAny_Constant_int ⟨.int i,H,I.tok _,⟨_,rfl⟩,h⟩
theorem pe_bl{b j pos}:PE X (.Constant (.bool b) j pos) (tC (.bl b)):=fun _ _ _ H _ I h=>Constant_bool ⟨.bl b,H,I,rfl,h⟩
theorem pe_non{j pos}:PE X (.Constant .none j pos) (tC .non):=fun _ _ _ H _ I h=>Constant_none ⟨.non,H,I,rfl,h⟩
theorem pe_str{x j pos}:PE X (.Constant (.str x) j pos) (tC (.str x)):=fun _ _ _ H _ I h=>Calls.Constant_str ⟨.str x,H,I.tok _,⟨_,rfl⟩,h⟩

def Gl(X:Cx)(x:Str):Prop:=X.env.kindOf x=some .globalImplicit
theorem ld_glob{E:vL->Sd->Prop}{pQ:Li (Ad×Obj)}{s:Sd}{σ:St}{H:Hp}{x:Str}{u:vL}{pos:Pos}{Q:vL->Sd->Prop}(I:Inv X pQ σ H s)(hg:Gl X x)(hm:X.mg x=some u)(h:Q u s)(hd:(x==("__debug__":Str))=false:=by decide):wpAny (model X.prog X.w) X.A (eval (.Name x pos) X.env) Q E s:=
  Calls.Name_function_global I.ok.kind hg (Calls.loadGlobal_global (by rw[I.ok.glob];exact I.mod.glob.keeps I.bk) hm h) hd
theorem ld_blt{E:vL->Sd->Prop}{pQ:Li (Ad×Obj)}{s:Sd}{σ:St}{H:Hp}{x:Str}{u:vL}{pos:Pos}{Q:vL->Sd->Prop}(I:Inv X pQ σ H s)(hg:Gl X x)(hm:X.mg x=none)(hv:bootBuiltins x=some u)(h:Q u s)(hn:x ≠ "__name__":=by decide)(hd:(x==("__debug__":Str))=false:=by decide):wpAny (model X.prog X.w) X.A (eval (.Name x pos) X.env) Q E s:=by
  obtain⟨mb,h1,h2⟩:=I.mod.blt;exact Calls.Name_function_global I.ok.kind hg (Calls.loadGlobal_builtin (by rw[I.ok.glob];exact I.mod.glob.keeps I.bk) hm (by rw[I.ok.blt];exact h1.keeps I.bk) ((h2 x hn).trans hv) h) hd
theorem pe_glob{x:Str}{v:V}{u:vL}{pos:Pos}(hg:Gl X x)(hm:X.mg x=some u)(r:RelV v u)(hd:(x==("__debug__":Str))=false:=by decide):PE X (.Name x pos) (tC v):=
  fun _ _ _ H _ I h=>ld_glob I hg hm ⟨v,H,I,r,h⟩ hd
theorem pe_bltn{x:Str}{v:V}{u:vL}{pos:Pos}(hg:Gl X x)(hm:X.mg x=none)(hv:bootBuiltins x=some u)(r:RelV v u)(hn:x ≠ "__name__":=by decide)(hd:(x==("__debug__":Str))=false:=by decide):PE X (.Name x pos) (tC v):=
  fun _ _ _ H _ I h=>ld_blt I hg hm hv ⟨v,H,I,r,h⟩ hn hd

variable {a b:Expr}{ta tb:TE}{pos:Pos}

def PC(X:Cx)(op:CmpOp)(a b:Expr)(t:TE):Prop:=
  ∀ (pQ:Li (Ad×Obj)) (s:Sd) (σ:St) (H:Hp) (Q:VK),Inv X pQ σ H s->t σ H Q->
    wpAny (model X.prog X.w) X.A (eval a X.env) (fun v s₁=>wpAny (model X.prog X.w) X.A (eval b X.env) (fun u s₂=>wpAny (model X.prog X.w) X.A (compareOp op v u) (EP X pQ σ Q) X.xe s₂) X.xe s₁) X.xe s
noncomputable def tB(t:TE):TT:=fun σ H Q=>t σ H fun x H1=>∃ c,x=.bl c/\Q c H1
theorem pt_val{e:Expr}{t:TE}(h:PE X e t)(he:∀ whole,isTrue e X.env whole=(do let v <-whole;standAt e.pos;holding [v] (truthy v)):=by intro _;rfl):PT X e (tB t):=by
  intro pQ s σ H Q I hw;refine isTrue_plain (thn (h pQ s σ H _ I hw) fun v s1 ⟨x,H1,I1,r1,q1⟩=>?_) (he _)
  obtain⟨d,rfl,q⟩:=q1;cases r1;exact wpAny_truthy_bool ⟨H1,I1,q⟩

variable {tA tB':TT}{rest:Li Expr}
noncomputable def tAnd(t u:TT):TT:=fun σ H Q=>t σ H fun c H1=>if c=true then u σ H1 Q else Q false H1
noncomputable def tOr(t u:TT):TT:=fun σ H Q=>t σ H fun c H1=>if c=true then Q true H1 else u σ H1 Q
noncomputable def tNot(t:TT):TT:=fun σ H Q=>t σ H fun c H1=>Q (!c) H1
theorem pw_and1(ha:PT X a tA):PW X (.BoolOp .And [a] pos) tA:=by
  intro wh pQ s σ H Q I h;refine isTrue_and (thn (ha pQ s σ H Q I h) fun c s1 e=>?_)
  cases c with
  |true=>exact isTrue_and_nil e
  |false=>exact e
theorem pw_or1(ha:PT X a tA):PW X (.BoolOp .Or [a] pos) tA:=by
  intro wh pQ s σ H Q I h;refine isTrue_or (thn (ha pQ s σ H Q I h) fun c s1 e=>?_)
  cases c with
  |false=>exact isTrue_or_nil e
  |true=>exact e
theorem pw_and(ha:PT X a tA)(hb:PW X (.BoolOp .And (b :: rest) pos) tB'):PW X (.BoolOp .And (a :: b :: rest) pos) (tAnd tA tB'):=by
  intro wh pQ s σ H Q I h;refine isTrue_and (thn (ha pQ s σ H _ I h) fun c s1 ⟨H1,I1,q1⟩=>?_)
  cases c with
  |true=>exact hb wh pQ s1 σ H1 Q I1 q1
  |false=>exact⟨H1,I1,q1⟩
theorem pw_or(ha:PT X a tA)(hb:PW X (.BoolOp .Or (b :: rest) pos) tB'):PW X (.BoolOp .Or (a :: b :: rest) pos) (tOr tA tB'):=by
  intro wh pQ s σ H Q I h;refine isTrue_or (thn (ha pQ s σ H _ I h) fun c s1 ⟨H1,I1,q1⟩=>?_)
  cases c with
  |true=>exact⟨H1,I1,q1⟩
  |false=>exact hb wh pQ s1 σ H1 Q I1 q1
theorem pt_not(ha:PT X a tA):PT X (.UnaryOp .Not a pos) (tNot tA):=by
  intro pQ s σ H Q I h;exact isTrue_not (ha pQ s σ H (fun c H1=>Q (!c) H1) I h)
noncomputable def tAndV(ta tb:TE):TE:=fun σ H Q=>ta σ H fun x H1=>∃ c,x=.bl c/\if c=true then tb σ H1 Q else Q (.bl false) H1
noncomputable def tOrV(ta tb:TE):TE:=fun σ H Q=>ta σ H fun x H1=>∃ c,x=.bl c/\if c=true then Q (.bl true) H1 else tb σ H1 Q
noncomputable def tNotV(ta:TE):TE:=fun σ H Q=>ta σ H fun x H1=>∃ c,x=.bl c/\Q (.bl (!c)) H1
theorem pe_one{op}{t:TE}(h:PE X a t):PE X (.BoolOp op [a] pos) t:=fun pQ s σ H Q I hw=>BoolOp_one (h pQ s σ H Q I hw)
theorem pe_and(ha:PE X a ta)(hb:PE X (.BoolOp .And (b :: rest) pos) tb):PE X (.BoolOp .And (a :: b :: rest) pos) (tAndV ta tb):=by
  intro pQ s σ H Q I h;refine BoolOp_and (thn (ha pQ s σ H _ I h) fun v s1 ⟨x,H1,I1,r1,q1⟩=>?_)
  obtain⟨c,rfl,q1⟩:=q1;cases r1;refine wpAny_truthy_bool ?_;cases c with
  |true=>exact hb pQ s1 σ H1 Q I1 q1
  |false=>exact⟨.bl false,H1,I1,rfl,q1⟩
theorem pe_or(ha:PE X a ta)(hb:PE X (.BoolOp .Or (b :: rest) pos) tb):PE X (.BoolOp .Or (a :: b :: rest) pos) (tOrV ta tb):=by
  intro pQ s σ H Q I h;refine BoolOp_or (thn (ha pQ s σ H _ I h) fun v s1 ⟨x,H1,I1,r1,q1⟩=>?_)
  obtain⟨c,rfl,q1⟩:=q1;cases r1;refine wpAny_truthy_bool ?_;cases c with
  |false=>exact hb pQ s1 σ H1 Q I1 q1
  |true=>exact⟨.bl true,H1,I1,rfl,q1⟩
theorem pe_not(ha:PE X a ta):PE X (.UnaryOp .Not a pos) (tNotV ta):=by
  intro pQ s σ H Q I h;refine UnaryOp_ (thn (ha pQ s σ H _ I h) fun v s1 ⟨x,H1,I1,r1,q1⟩=>?_)
  obtain⟨c,rfl,q1⟩:=q1;cases r1;exact not_of (wpAny_truthy_bool ⟨.bl (!c),H1,I1,rfl,q1⟩)
noncomputable def tIf(t:TT)(ta tb:TE):TE:=fun σ H Q=>t σ H fun c H1=>if c=true then ta σ H1 Q else tb σ H1 Q
theorem pe_ifExp{c:Expr}(hc:PT X c tA)(ha:PE X a ta)(hb:PE X b tb):PE X (.IfExp c a b pos) (tIf tA ta tb):=by
  intro pQ s σ H Q I h;refine wpAny_IfExp (thn (hc pQ s σ H _ I h) fun d s1 ⟨H1,I1,q1⟩=>?_)
  cases d with
  |true=>exact ha pQ s1 σ H1 Q I1 q1
  |false=>exact hb pQ s1 σ H1 Q I1 q1
end
end L2

namespace L2
open PySem PySem.Spec PyProof.Rows

def SqL(K:Fg)(H:Hp)(a:Ad)(xs:Li V):Prop:=
  Rd H a (.lst xs) \/
    ∃ (o:Obj) (its:Array vL) (n:Nat),K.lookup a=some o/\o.cls=.type "list"/\o.dict=none/\o.data=.seq its n/\its.size<=sizeLine/\Vals xs its.toList
def SqT(K:Fg)(H:Hp)(a:Ad)(xs:Li V):Prop:=
  Rd H a (.tup xs) \/
    ∃ (o:Obj) (its:Array vL) (n:Nat),K.lookup a=some o/\o.cls=.type "tuple"/\o.data=.seq its n/\its.size<=sizeLine/\Vals xs its.toList
noncomputable def absV:vL->Ot V
  |.none=>some .non
  |.bool b=>some (.bl b)
  |.int i _=>some (.int i)
  |.str x _=>some (.str x)
  |.bytes b _=>some (.byt b)
  |.float b _=>some (.flt b)
  |.ref a=>some (.ref a)
  |.type n=>some (.ty n)
  |_=>none
theorem RelV.abs{x:V}{u:vL}(r:RelV x u):absV u=some x:=by
  cases x with
  |non=>cases r;rfl
  |bl _=>cases r;rfl
  |int _=>obtain⟨t,rfl⟩:=r;rfl
  |str _=>obtain⟨t,rfl⟩:=r;rfl
  |byt _=>obtain⟨t,rfl⟩:=r;rfl
  |flt _=>obtain⟨t,rfl⟩:=r;rfl
  |ref _=>cases r;rfl
  |ty _=>cases r;rfl
theorem RelV.inj{x y:V}{u:vL}(r:RelV x u)(q:RelV y u):x=y:=Option.some.inj (r.abs.symm.trans q.abs)
theorem Vals.inj:∀ {xs ys:Li V}{us:Li vL},Vals xs us->Vals ys us->xs=ys
  |_,_,_,.nil,.nil=>rfl
  |_,_,_,.cons r t,.cons r' t'=>by rw[r.inj r',Vals.inj t t']
section
variable {X:Cx}{pQ:Li (Ad×Obj)}{σ:St}{H:Hp}{s:Sd}{a:Ad}{xs ys:Li V}
theorem SqT.of{K:Fg}(h:H a=some (.tup xs)):SqT K H a xs:=.inl (.inl h)
theorem Inv.list(I:Inv X pQ σ H s)(h:SqL X.K H a xs):∃ its:Li vL,Vals xs its/\PlainL s.heap a its.toArray/\xs.length<=sizeLine:=by
  rcases h with h|⟨o,its,n,hk,hc,hd,hs,hz,r⟩
  · obtain⟨z,its,n,r,e⟩:=h.ok I.hok
    exact⟨its,r,⟨_,n,e,rfl,rfl,rfl⟩,z⟩
  · refine⟨its.toList,r,⟨o,n,I.kIn a o hk,hc,hd,by simpa using hs⟩,?_⟩
    have e:=r.length;simp only[Array.length_toList]at e;omega
theorem Inv.tuple(I:Inv X pQ σ H s)(h:SqT X.K H a xs):∃ its:Li vL,Vals xs its/\IsTup s.heap a its.toArray/\xs.length<=sizeLine:=by
  rcases h with h|⟨o,its,n,hk,hc,hs,hz,r⟩
  · obtain⟨z,its,r,p⟩:=h.ok I.hok
    exact⟨its,r,p,z⟩
  · refine⟨its.toList,r,⟨o,I.kIn a o hk,hc,n,by simpa using hs⟩,?_⟩
    have e:=r.length;simp only[Array.length_toList]at e;omega
theorem Inv.list_inj(I:Inv X pQ σ H s)(h:SqL X.K H a xs)(h':SqL X.K H a ys):xs=ys:=by
  obtain⟨its,r,⟨o,n,e,_,_,d⟩,_⟩:=I.list h;obtain⟨its',r',⟨o',n',e',_,_,d'⟩,_⟩:=I.list h';rw[e]at e';cases e'
  rw[d]at d'
  injection d' with d1 _
  have:its=its':=by simpa using congrArg Array.toList d1
  subst this;exact r.inj r'
theorem Inv.tuple_inj(I:Inv X pQ σ H s)(h:SqT X.K H a xs)(h':SqT X.K H a ys):xs=ys:=by
  obtain⟨its,r,⟨o,e,_,n,d⟩,_⟩:=I.tuple h;obtain⟨its',r',⟨o',e',_,n',d'⟩,_⟩:=I.tuple h';rw[e]at e';cases e'
  rw[d]at d'
  injection d' with d1 _
  have:its=its':=by simpa using congrArg Array.toList d1
  subst this;exact r.inj r'
end

noncomputable abbrev Cx.wish(X:Cx)(E:vL->Sd->Prop):Cx:={ X with xe:=E }
noncomputable abbrev Cx.nox(X:Cx):Cx:=X.wish fun _ _=>False
theorem Cx.Ok.wish{X:Cx}(ok:X.Ok)(E:vL->Sd->Prop):(X.wish E).Ok:=
  ⟨ok.mod,ok.kind,ok.glob,ok.blt,ok.above,ok.inj,ok.has,ok.cab,ok.hd,ok.frames,ok.stk,ok.exf,ok.bs,ok.bsz,ok.noex,ok.exfs,ok.funs,ok.frf⟩
theorem Cx.Ok.unwish{X:Cx}{E:vL->Sd->Prop}(ok:(X.wish E).Ok):X.Ok:=
  ⟨ok.mod,ok.kind,ok.glob,ok.blt,ok.above,ok.inj,ok.has,ok.cab,ok.hd,ok.frames,ok.stk,ok.exf,ok.bs,ok.bsz,ok.noex,ok.exfs,ok.funs,ok.frf⟩
section
variable {X:Cx}{pQ:Li (Ad×Obj)}{σ:St}{H:Hp}{s:Sd}{E:vL->Sd->Prop}
theorem Inv.wish(I:Inv X pQ σ H s)(E:vL->Sd->Prop):Inv (X.wish E) pQ σ H s:=⟨I.ok.wish E,I.os,I.bare,I.base,I.loc,I.cell,I.free,I.freeC,I.pin,I.hok,I.len⟩
theorem Inv.unwish(I:Inv (X.wish E) pQ σ H s):Inv X pQ σ H s:=⟨I.ok.unwish,I.os,I.bare,I.base,I.loc,I.cell,I.free,I.freeC,I.pin,I.hok,I.len⟩
theorem SP.unwish{D:Ends}{f:Flow}{s':Sd}(h:SP (X.wish E) pQ D f s'):SP X pQ D f s':=by
  cases f with
  |next=>obtain⟨σ',H',I,q⟩:=h;exact⟨σ',H',I.unwish,q⟩
  |brk=>obtain⟨σ',H',I,q⟩:=h;exact⟨σ',H',I.unwish,q⟩
  |cont=>obtain⟨σ',H',I,q⟩:=h;exact⟨σ',H',I.unwish,q⟩
  |ret u=>obtain⟨v,σ',H',I,r,q⟩:=h;exact⟨v,σ',H',I.unwish,r,q⟩
theorem PSs.nox{st:Li Stmt}{t:TS}(h:PSs X.nox st t):PSs X st t:=fun pQ s σ H D I hw=>
  wpAny_mono (h pQ s σ H D (I.wish _) hw) (fun _ _ q=>q.unwish) fun _ _ z=>False.elim z
end

section
variable {X:Cx}{st:Stmt}{rest:Li Stmt}{t u:TS}{e:Expr}{te:TE}{pos:Pos}
noncomputable def tNext:TS:=fun D σ H=>D.nx σ H
noncomputable def tSeq(t u:TS):TS:=fun D σ H=>t { D with nx:=u D } σ H
theorem pss_nil:PSs X [] tNext:=fun _ _ σ H _ I h=>wpAny_execs_nil ⟨σ,H,I,h⟩
theorem pss_cons(h1:PS X st t)(h2:PSs X rest u):PSs X (st :: rest) (tSeq t u):=by
  intro pQ s σ H D I h;refine wpAny_execs_cons (thn (h1 pQ s σ H { D with nx:=u D } I h) fun f s1 q=>?_)
  cases f with
  |next=>
    obtain⟨σ',H',I',q⟩:=q;exact h2 pQ s1 σ' H' D I' q
  |ret v=>exact q
  |brk=>exact q
  |cont=>exact q
noncomputable def tBreak:TS:=fun D σ H=>D.bk σ H
noncomputable def tCont:TS:=fun D σ H=>D.ct σ H
theorem ps_pass:PS X (.Pass pos) tNext:=fun _ _ σ H _ I h=>wpAny_Pass ⟨σ,H,I,h⟩
theorem ps_break:PS X (.Break pos) tBreak:=fun _ _ σ H _ I h=>wpAny_Break ⟨σ,H,I,h⟩
theorem ps_continue:PS X (.Continue pos) tCont:=fun _ _ σ H _ I h=>wpAny_Continue ⟨σ,H,I,h⟩
theorem Inv.quiet{pQ:Li (Ad×Obj)}{σ:St}{H:Hp}{s:Sd}(I:Inv X pQ σ H s):interactive X.env=false:=by simp[interactive,I.ok.kind]
noncomputable def tDrop(te:TE):TS:=fun D σ H=>te σ H fun _ H1=>D.nx σ H1
theorem ps_expr(he:PE X e te)(hs:swapsWith e none pos.line X.env=pure false:=by rfl):PS X (.Expr e pos) (tDrop te):=by
  intro pQ s σ H D I h;exact wpAny_Expr_any (thn (he pQ s σ H _ I h) fun v s1 ⟨x,H1,I1,r1,q1⟩=>⟨σ,H1,I1,q1⟩) I.quiet hs
noncomputable def tRet(te:TE):TS:=fun D σ H=>te σ H D.rt
theorem ps_ret(he:PE X e te):PS X (.Return (some e) pos) (tRet te):=by
  intro pQ s σ H D I h;exact wpAny_Return_some (thn (he pQ s σ H _ I h) fun v s1 ⟨x,H1,I1,r1,q1⟩=>⟨x,σ,H1,I1,r1,q1⟩)
noncomputable def tIfS(c:TT)(t u:TS):TS:=fun D σ H=>c σ H fun b H1=>if b=true then t D σ H1 else u D σ H1
theorem ps_if{c:Expr}{a b:Li Stmt}{tc:TT}(hc:PT X c tc)(ha:PSs X a t)(hb:PSs X b u):PS X (.If c a b pos) (tIfS tc t u):=by
  intro pQ s σ H D I h;refine wpAny_If (thn (hc pQ s σ H _ I h) fun d s1 ⟨H1,I1,q1⟩=>?_)
  cases d with
  |true=>exact ha pQ s1 σ H1 D I1 q1
  |false=>exact hb pQ s1 σ H1 D I1 q1
end

abbrev TG:=V->St->Hp->(St->Hp->Prop)->Prop
abbrev TGs:=Li V->St->Hp->(St->Hp->Prop)->Prop
def PG(X:Cx)(target:Expr)(t:TG):Prop:=
  ∀ (pQ:Li (Ad×Obj)) (s:Sd) (σ:St) (H:Hp) (v:V) (u:vL) (Q:St->Hp->Prop),Inv X pQ σ H s->RelV v u->t v σ H Q->
    wpAny (model X.prog X.w) X.A (assign target X.env u) (fun _ s'=>∃ σ' H',Inv X pQ σ' H' s'/\Q σ' H') X.xe s
def PGs(X:Cx)(ts:Li Expr)(t:TGs):Prop:=
  ∀ (pQ:Li (Ad×Obj)) (s:Sd) (σ:St) (H:Hp) (vs:Li V) (us:Li vL) (Q:St->Hp->Prop),Inv X pQ σ H s->Vals vs us->t vs σ H Q->
    wpAny (model X.prog X.w) X.A (assignInOrder ((assignEach ts X.env).map (·.2)) us) (fun _ s'=>∃ σ' H',Inv X pQ σ' H' s'/\Q σ' H') X.xe s
abbrev TSet:=V->V->V->Hp->(Hp->Prop)->Prop
def PSet(X:Cx)(t:TSet):Prop:=
  ∀ (pQ:Li (Ad×Obj)) (s:Sd) (σ:St) (H:Hp) (o i v:V) (ov iv u:vL) (Q:Hp->Prop),Inv X pQ σ H s->RelV o ov->RelV i iv->RelV v u->t o i v H Q->
    wpAny (model X.prog X.w) X.A (setItem ov iv u) (fun _ s'=>∃ H',Inv X pQ σ H' s'/\Q H') X.xe s
section
variable {X:Cx}{pos:Pos}
noncomputable def gName(i:Nat):TG:=fun v σ H Q=>Q (σ.set i (some v)) H
theorem pg_name{i:Nat}{x:Str}(hN:X.N.Nodup)(hi:X.N[i]?=some x)(hx:Loc X.env.scope x)(hf:X.fn x=true\/X.env.scope.names.lookup x=some .local:=by first|exact .inl rfl|exact .inr rfl|assumption):PG X (.Name x pos) (gName i):=by
  intro pQ s σ H v u Q I r h;exact wpAny_assign_Name (store_ok I hN hi hx r (fun s' I'=>⟨_,H,I',h⟩) hf)
noncomputable def gNil:TGs:=fun vs σ H Q=>vs=[]/\Q σ H
noncomputable def gCons(t:TG)(u:TGs):TGs:=fun vs σ H Q=>∃ v r,vs=v :: r/\t v σ H fun σ' H'=>u r σ' H' Q
theorem pgs_nil:PGs X [] gNil:=by
  intro pQ s σ H vs us Q I r h;obtain⟨e,h⟩:=h;subst e;cases r;exact assignInOrder_nil ⟨σ,H,I,h⟩
theorem pgs_cons{e:Expr}{es:Li Expr}{t:TG}{u:TGs}(h1:PG X e t)(h2:PGs X es u)(hs:(assignEach (e :: es) X.env).map (·.2)=assign e X.env :: (assignEach es X.env).map (·.2):=by rfl):PGs X (e :: es) (gCons t u):=by
  intro pQ s σ H vs us Q I r h;obtain⟨v,vr,e1,h⟩:=h;subst e1;cases r with
  |cons r rr=>
    rw[hs];refine assignInOrder_cons (thn (h1 pQ s σ H _ _ _ I r h) fun _ s1 ⟨σ1,H1,I1,q1⟩=>?_)
    exact h2 pQ s1 σ1 H1 _ _ Q I1 rr q1
noncomputable def gTup(K:Fg)(n:Nat)(t:TGs):TG:=fun v σ H Q=>∃ a xs,v=.ref a/\SqT K H a xs/\xs.length=n/\t xs σ H Q
theorem pg_tup{es:Li Expr}{k:Nat}{t:TGs}{n:Nat}(hc:X.calm=true)(h:PGs X es t)(hn:(assignEach es X.env).length=n:=by rfl)(hst:(assignEach es X.env).findIdx? (·.1)=none:=by rfl):PG X (.Tuple es k pos) (gTup X.K n t):=by
  intro pQ s σ H v u Q I r hw;obtain⟨a,xs,e1,hq,hl,hw⟩:=hw;subst e1;cases r;obtain⟨its,rv,ht,hz⟩:=I.tuple hq;refine assign_Tuple_tuple (I.ok.hd hc) ht (by simp[hn,<-hl,rv.length]) hst fun h' hx=>?_
  have I1:Inv X pQ σ H { s with heap:=h' }:=I.kept (t':=s.toks) fun b o e=>hx b o (Nat.ne_of_lt (Heap.lt_size e)) e
  exact h pQ _ σ H xs _ Q I1 (by simpa using rv) hw
noncomputable def gSub(to ti:TE)(t:TSet):TG:=fun v σ H Q=>to σ H fun o H1=>ti σ H1 fun i H2=>t o i v H2 fun H3=>Q σ H3
theorem pg_sub{o i:Expr}{to ti:TE}{t:TSet}(ho:PE X o to)(hi:PE X i ti)(hs:PSet X t)(ha:∀ v,assign (.Subscript o i pos) X.env v=(do
      let ov <-holding [v] (eval o X.env)
      let iv <-holding [v,ov] (eval i X.env)
      standAt pos
      holding [v,ov,iv] (setItem ov iv v)
      release [v,ov,iv] []):=by intro _;rfl):PG X (.Subscript o i pos) (gSub to ti t):=by
  intro pQ s σ H v u Q I r h;rw[ha];refine wpAny_bind (wpAny_holding (thn (ho pQ s σ H _ I h) fun ov s1 ⟨x,H1,I1,r1,q1⟩=>?_))
  refine wpAny_bind (wpAny_holding (thn (hi pQ s1 σ H1 _ I1 q1) fun iv s2 ⟨y,H2,I2,r2,q2⟩=>?_))
  refine wpAny_bind (wpAny_standAt (wpAny_bind (wpAny_holding (thn (hs pQ s2 σ H2 x y v ov iv u _ I2 r1 r2 r q2) fun _ s3 ⟨H3,I3,q3⟩=>?_))))
  exact wpAny_release ⟨σ,H3,I3,q3⟩
noncomputable def tAsg(te:TE)(g:TG):TS:=fun D σ H=>te σ H fun x H1=>g x σ H1 D.nx
theorem ps_asg{tg e:Expr}{te:TE}{g:TG}(he:PE X e te)(hg:PG X tg g)(hs:swapsWithSole [tg] e pos.line X.env=pure false:=by rfl)(hw:swappedStores [tg] e X.env=pure none:=by rfl)(h1:(assignEach [tg] X.env).map (·.2)=[assign tg X.env]:=by rfl):PS X (.Assign [tg] e pos) (tAsg te g):=by
  intro pQ s σ H D I h;refine wpAny_Assign_stores (thn (he pQ s σ H _ I h) fun v s1 ⟨x,H1,I1,r1,q1⟩=>?_) hs hw
  rw[h1];exact thn (hg pQ s1 σ H1 x v _ I1 r1 q1) fun _ s2 q=>q
theorem ps_set{i:Nat}{x:Str}{e:Expr}{te:TE}{pos':Pos}(hN:X.N.Nodup)(hi:X.N[i]?=some x)(hx:Loc X.env.scope x)(he:PE X e te)(hs:swapsWith e (some (.Name x pos')) pos.line X.env=pure false:=by rfl)(hf:X.fn x=true\/X.env.scope.names.lookup x=some .local:=by first|exact .inl rfl|exact .inr rfl|assumption) :
    PS X (.Assign [.Name x pos'] e pos) (tAsg te (gName i)):=by
  intro pQ s σ H D I h;refine wpAny_Assign_Name (thn (he pQ s σ H _ I h) fun v s1 ⟨y,H1,I1,r1,q1⟩=>?_) hs
  exact store_ok I1 hN hi hx r1 (fun s2 I2=>⟨_,H1,I2,q1⟩) hf
end

section
variable {X:Cx}{pos:Pos}
end

structure It where
  go:Nat->Hp->Prop
  yld:Nat->Hp->V->Hp->Prop
  stop:Nat->Hp->Prop
def FpOk(X:Cx)(pQ:Li (Ad×Obj))(H:Hp)(b:Ad):Prop:=
  H b=none/\b≠X.env.locals/\b∉X.fs/\(b∈X.ex\/X.s₀.heap.objs.size<=b)/\(∀ x c,X.env.cells.lookup x=some c->c≠b)/\∀ p∈X.pn++pQ,p.1≠b
theorem Inv.fpOk{X:Cx}{pQ:Li (Ad×Obj)}{σ:St}{H H':Hp}{s:Sd}{b:Ad}(I:Inv X pQ σ H s)(hb:s.heap.objs.size<=b)(hn:H' b=none):FpOk X pQ H' b:=by
  refine⟨hn,Nat.ne_of_gt (Nat.lt_of_lt_of_le I.lt hb),I.nofs hb,.inr (Nat.le_trans I.sz hb),fun x c e z=>?_,fun p hp z=>?_⟩
  · obtain⟨v,q⟩:=I.cell x c e
    exact absurd (Nat.lt_of_lt_of_le q.lt (by rw[z];exact hb)) (Nat.lt_irrefl _)
  · exact absurd (Nat.lt_of_lt_of_le (Heap.lt_size (I.pin p hp).1) (by rw[z];exact hb)) (Nat.lt_irrefl _)
structure Turn(P:Program)(w:World)(K:Fg)(tg:Expr)(J:It)(fp:List Addr)(it:Addr)(tn:Nat->Heap->Prop):Prop where
  mem:it∈fp
  obj:∀ i h,tn i h->∀ b∈fp,∃ o,h.get? b=some o/\∀ v,o.data≠.cell v
  keep:∀ i h h',tn i h->(∀ b∈fp,∀ o,h.get? b=some o->h'.get? b=some o)->tn i h'
  item:∀ (X:Cx),X.prog=P->X.w=w->X.K=K->X.calm=true->∀ (i:Nat) (pQ:List (Addr×Obj)) (s:Shared) (σ:St) (H:Hp) (E:Value->Shared->Prop),Inv X pQ σ H s->(∀ b∈fp,FpOk X pQ H b)->tn i s.heap->J.go i H->
    wpAny (model P w) X.A (pyNext (.ref it)) (fun r s1=>∃ u,r=some u /\
      wpAny (model P w) X.A (letOwnedTupleGo tg (.ref it) u) (fun _ s2=>∃ x H',Inv X pQ σ H' s2/\RelV x u/\J.yld i H x H'/\tn (i+1) s2.heap/\∀ b∈fp,H' b=none) E s1) E s
  done:∀ (X:Cx),X.prog=P->X.w=w->X.K=K->X.calm=true->∀ (i:Nat) (pQ:List (Addr×Obj)) (s:Shared) (σ:St) (H:Hp) (E:Value->Shared->Prop),Inv X pQ σ H s->(∀ b∈fp,FpOk X pQ H b)->tn i s.heap->J.stop i H->
    wpAny (model P w) X.A (pyNext (.ref it)) (fun r s1=>r=none/\Inv X pQ σ H s1) E s
  self:∀ (A:Around) (i:Nat) (s:Shared) (Q:Value->Shared->Prop) (E:Value->Shared->Prop),tn i s.heap->Q (.ref it) s->wpAny (model P w) A (pyIter (.ref it)) Q E s
abbrev TI:=St->Hp->(It->Hp->Prop)->Prop
def PIE(X:Cx)(pQ:Li (Ad×Obj))(σ:St)(tg:Expr)(R:It->Hp->Prop)(itv:vL)(s2:Sd):Prop:=
  ∃ (it:Ad) (fp:Li Ad) (tn:Nat->Heap->Prop) (J:It) (H':Hp),itv=.ref it/\Inv X pQ σ H' s2/\Turn X.prog X.w X.K tg J fp it tn/\tn 0 s2.heap/\(∀ b∈fp,FpOk X pQ H' b)/\R J H'
def PI(X:Cx)(tg iter:Expr)(wi:TI):Prop:=
  ∀ (pQ:Li (Ad×Obj)) (s:Sd) (σ:St) (H:Hp) (R:It->Hp->Prop),Inv X pQ σ H s->wi σ H R->
    wpAny (model X.prog X.w) X.A (eval iter X.env) (fun v s1=>wpAny (model X.prog X.w) X.A (pyIter v) (PIE X pQ σ tg R) X.xe s1) X.xe s

theorem go_of{M:Model}{A:Around}{E:vL->Sd->Prop}{s:Sd}{tg:Expr}{it:Ad}{u:vL}{o:Obj}{n:String}{vs:Array vL}{Q:Unit->Sd->Prop}(ho:s.heap.get? it=some o)(hc:o.cls=.type n)(hd:o.data=.fields vs)(hn:["enumerate", "zip", "dict_itemiterator", "dict_reverseitemiterator", "odict_iterator", "itertools.zip_longest", "itertools.pairwise"].contains n=false)(hQ:Q () s):wpAny M A (letOwnedTupleGo tg (.ref it) u) Q E s:=by
  unfold letOwnedTupleGo;cases tg<;>first
    |exact wpAny_pure hQ
    | (cases u<;>first
        |exact wpAny_pure hQ
        | (refine wpAny_bind (wpAny_load ho ?_)
           rw[hc,hd];show wpAny M A (if (["enumerate", "zip", "dict_itemiterator", "dict_reverseitemiterator", "odict_iterator", "itertools.zip_longest", "itertools.pairwise"].contains n&&vs[0]?==some (rawInt _))=true then _ else _) Q E s
           rw[if_neg (by intro h;rw[hn,Bool.false_and]at h;cases h)]
           exact wpAny_pure hQ))

noncomputable def Itl(K:Fg)(a:Ad):It:=
  ⟨fun i H=>∃ xs x,SqL K H a xs/\xs[i]?=some x,fun i H x H'=>H'=H/\∀ xs,SqL K H a xs->xs[i]?=some x,fun i H=>∃ xs,SqL K H a xs/\xs.length<=i⟩
noncomputable def Itt(K:Fg)(a:Ad):It:=
  ⟨fun i H=>∃ xs x,SqT K H a xs/\xs[i]?=some x,fun i H x H'=>H'=H/\∀ xs,SqT K H a xs->xs[i]?=some x,fun i H=>∃ xs,SqT K H a xs/\xs.length<=i⟩
noncomputable def Itr(lo:Int)(n:Nat):It:=⟨fun i _=>i < n,fun i H x H'=>H'=H/\x=.int (lo+i),fun i _=>n<=i⟩
theorem turn_list{P:Program}{w:World}{K:Fg}{tg:Expr}(a it:Ad):Turn P w K tg (Itl K a) [it] it (fun i h=>h.IsListIter it a i) where
  mem:=by simp
  obj:=fun i h st b hb=>by
    have e:b=it:=by simpa using hb
    subst e;obtain⟨o,e,c,d⟩:=st;exact⟨o,e,fun v z=>by rw[d]at z;cases z⟩
  keep:=fun i h h' st k=>st.at fun o e=>k it (by simp) o e
  item:=by
    intro X hP hw hK hc i pQ s σ H E I hf st hg;subst hP hw hK;obtain⟨xs,x,hq,hx⟩:=hg;obtain⟨its,rv,p,hz⟩:=I.list hq;obtain⟨u,hu,ru⟩:=rv.get hx;obtain⟨f0,f1,f2,f3,f4,f5⟩:=hf it (by simp)
    refine wpAny_pyNext_list_item st p.isList (x:=u) (by simpa using hu) fun h' st' sb=>?_
    have I1:Inv X pQ σ H { s with heap:=h' }:=I.turned (t':=s.toks) (fun b o hb e=>(sb.2 b hb).trans e) f0 f1 f3 f4 f5
    obtain⟨o,e,c,d⟩:=id st';exact⟨u,rfl,go_of (s:={ s with heap:=h' }) e c d (by decide) ⟨x,H,I1,ru,⟨rfl,fun ys hy=>by rw[I.list_inj hy hq];exact hx⟩,st',fun b hb=>(hf b hb).1⟩⟩
  done:=by
    intro X hP hw hK hc i pQ s σ H E I hf st hg;subst hP hw hK;obtain⟨xs,hq,hx⟩:=hg;obtain⟨its,rv,p,hz⟩:=I.list hq;obtain⟨f0,f1,f2,f3,f4,f5⟩:=hf it (by simp)
    have hl:=rv.length;exact wpAny_pyNext_list_end (I.ok.hd hc) st p.isList (by simp;omega) fun h' eb=>⟨rfl,I.turned (t':=s.toks) (fun b o hb e=>eb b o hb e) f0 f1 f3 f4 f5⟩
  self:=fun _ _ _ _ _ st h=>wpAny_pyIter_listiter st h
theorem turn_tuple{P:Program}{w:World}{K:Fg}{tg:Expr}(a it:Ad):Turn P w K tg (Itt K a) [it] it (fun i h=>h.IsTupleIter it a i) where
  mem:=by simp
  obj:=fun i h st b hb=>by
    have e:b=it:=by simpa using hb
    subst e;obtain⟨o,e,c,d⟩:=st;exact⟨o,e,fun v z=>by rw[d]at z;cases z⟩
  keep:=fun i h h' st k=>st.at fun o e=>k it (by simp) o e
  item:=by
    intro X hP hw hK hc i pQ s σ H E I hf st hg;subst hP hw hK;obtain⟨xs,x,hq,hx⟩:=hg;obtain⟨its,rv,p,hz⟩:=I.tuple hq;obtain⟨u,hu,ru⟩:=rv.get hx;obtain⟨f0,f1,f2,f3,f4,f5⟩:=hf it (by simp)
    refine wpAny_pyNext_tuple_item st (show s.heap.IsTuple a its.toArray from p) (x:=u) (by simpa using hu) fun h' st' sb=>?_
    have I1:Inv X pQ σ H { s with heap:=h' }:=I.turned (t':=s.toks) (fun b o hb e=>(sb.2 b hb).trans e) f0 f1 f3 f4 f5
    obtain⟨o,e,c,d⟩:=id st';exact⟨u,rfl,go_of (s:={ s with heap:=h' }) e c d (by decide) ⟨x,H,I1,ru,⟨rfl,fun ys hy=>by rw[I.tuple_inj hy hq];exact hx⟩,st',fun b hb=>(hf b hb).1⟩⟩
  done:=by
    intro X hP hw hK hc i pQ s σ H E I hf st hg;subst hP hw hK;obtain⟨xs,hq,hx⟩:=hg;obtain⟨its,rv,p,hz⟩:=I.tuple hq;obtain⟨f0,f1,f2,f3,f4,f5⟩:=hf it (by simp)
    have hl:=rv.length;exact wpAny_pyNext_tuple_end (I.ok.hd hc) st (show s.heap.IsTuple a its.toArray from p) (by simp;omega) fun h' eb=>⟨rfl,I.turned (t':=s.toks) (fun b o hb e=>eb b o hb e) f0 f1 f3 f4 f5⟩
  self:=fun _ _ _ _ _ st h=>wpAny_pyIter_tupleiter st h
theorem turn_range{P:Program}{w:World}{K:Fg}{tg:Expr}(it:Ad)(lo:Int)(n:Nat):Turn P w K tg (Itr lo n) [it] it (fun i h=>IsRangeIter h it (lo+(i:Nat) * 1) ((n:Int) - (i:Nat)) 1) where
  mem:=by simp
  obj:=fun i h st b hb=>by
    have e:b=it:=by simpa using hb
    subst e;exact⟨_,st,fun v z=>by
      have z':Data.fields _=Data.cell v:=z;cases z'⟩
  keep:=fun i h h' st k=>k it (by simp) _ st
  item:=by
    intro X hP hw hK hc i pQ s σ H E I hf st hg;subst hP hw hK;obtain⟨f0,f1,f2,f3,f4,f5⟩:=hf it (by simp)
    have W:=Walks.range (prog:=X.prog) (w:=X.w) (I.ok.hd hc) it lo 1 n;refine W.item i s _ _ hg st fun v h' tk hv st' kk=>?_
    obtain⟨t,rfl⟩:=hv;have I1:Inv X pQ σ H { s with heap:=h',toks:=tk }:=I.turned (fun b o hb e=>kk b o (by simpa using hb) e) f0 f1 f3 f4 f5
    refine⟨_,rfl,go_of (s:={ s with heap:=h',toks:=tk }) (n := "range_iterator") st' rfl rfl (by decide) ⟨.int (lo+i),H,I1,⟨t,?_⟩,⟨rfl,rfl⟩,st',fun b hb=>(hf b hb).1⟩⟩
    rw[Int.mul_one]
  done:=by
    intro X hP hw hK hc i pQ s σ H E I hf st hg;subst hP hw hK;obtain⟨f0,f1,f2,f3,f4,f5⟩:=hf it (by simp)
    exact wpAny_pyNext_range_end (I.ok.hd hc) st (by have:n<=i:=hg;omega) fun h' eb=>⟨rfl,I.turned (t':=s.toks) (fun b o hb e=>eb b o hb e) f0 f1 f3 f4 f5⟩
  self:=fun _ _ _ _ _ st h=>wpAny_pyIter_rangeiter st h
end L2

namespace L2
open PySem PySem.Spec PyProof.Rows
section
variable {X:Cx}{tg:Expr}
noncomputable def iList(K:Fg)(tl:TE):TI:=fun σ H R=>tl σ H fun x H1=>∃ a,x=.ref a/\(∃ xs,SqL K H1 a xs)/\R (Itl K a) H1
noncomputable def iTup(K:Fg)(tl:TE):TI:=fun σ H R=>tl σ H fun x H1=>∃ a,x=.ref a/\(∃ xs,SqT K H1 a xs)/\R (Itt K a) H1
theorem pi_list{l:Expr}{tl:TE}(hl:PE X l tl):PI X tg l (iList X.K tl):=by
  intro pQ s σ H R I h;refine thn (hl pQ s σ H _ I h) fun v s1 ⟨x,H1,I1,r1,q1⟩=>?_
  obtain⟨a,e,⟨xs,hq⟩,q⟩:=q1;subst e;cases r1;obtain⟨its,rv,p,hz⟩:=I1.list hq;refine wpAny_pyIter_list p.isList ?_;refine⟨s1.heap.objs.size,[s1.heap.objs.size],_,_,H1,rfl,I1.kept (t':=s1.toks) fun b o e=>Heap.get?_push_of_some _ e,turn_list a _,⟨_,Heap.get?_push_size _ rfl,rfl,rfl⟩,fun b hb=>?_,q⟩
  have e:b=s1.heap.objs.size:=by simpa using hb
  subst e;exact I1.fpOk (Nat.le_refl _) (I1.hok.fresh (Nat.le_refl _))
theorem pi_tup{l:Expr}{tl:TE}(hl:PE X l tl):PI X tg l (iTup X.K tl):=by
  intro pQ s σ H R I h;refine thn (hl pQ s σ H _ I h) fun v s1 ⟨x,H1,I1,r1,q1⟩=>?_
  obtain⟨a,e,⟨xs,hq⟩,q⟩:=q1;subst e;cases r1;obtain⟨its,rv,p,hz⟩:=I1.tuple hq;refine wpAny_pyIter_tuple (show s1.heap.IsTuple a its.toArray from p) ?_;refine⟨s1.heap.objs.size,[s1.heap.objs.size],_,_,H1,rfl,I1.kept (t':=s1.toks) fun b o e=>Heap.get?_push_of_some _ e,turn_tuple a _,⟨_,Heap.get?_push_size _ rfl,rfl,rfl⟩,fun b hb=>?_,q⟩
  have e:b=s1.heap.objs.size:=by simpa using hb
  subst e;exact I1.fpOk (Nat.le_refl _) (I1.hok.fresh (Nat.le_refl _))
theorem range_it{pQ:Li (Ad×Obj)}{σ:St}{H:Hp}{s:Sd}{R:It->Hp->Prop}{E:vL->Sd->Prop}{lo hi:Int}{t u v:Tok}{tk:Nat}(I:Inv X pQ σ H s)(h1:-(2 ^ 62)<=lo)(h2:lo < 2 ^ 62)(h3:-(2 ^ 62)<=hi)(h4:hi < 2 ^ 62)(q:R (Itr lo (hi - lo).toNat) H):wpAny (model X.prog X.w) X.A (pyIter (.ref s.heap.objs.size)) (PIE X pQ σ tg R) E { s with heap:=s.heap.push { cls:=.type "range",data:=.fields #[.int lo t,.int hi u,.int 1 v] },toks:=tk }:=by
  refine wpAny_pyIter_range (IsRange.new ..) (small_one h1 h2 h3 h4) ?_;have I1:Inv X pQ σ H { s with heap:=s.heap.push { cls:=.type "range",data:=.fields #[.int lo t,.int hi u,.int 1 v] },toks:=tk }:=I.kept fun b o e=>Heap.get?_push_of_some _ e
  refine⟨(s.heap.push { cls:=.type "range",data:=.fields #[.int lo t,.int hi u,.int 1 v] }).objs.size,[(s.heap.push { cls:=.type "range",data:=.fields #[.int lo t,.int hi u,.int 1 v] }).objs.size],_,_,H,rfl,
    I1.kept (t':=tk) fun b o e=>Heap.get?_push_of_some _ e,turn_range _ lo (hi - lo).toNat,?_,fun b hb=>?_,q⟩
  · have e1:lo+((0:Nat):Int) * 1=lo:=by simp
    have e2:(((hi - lo).toNat:Nat):Int) - ((0:Nat):Int)=Builtin.Range.rangeSize lo hi 1:=by rw[rangeSize_one];split<;>omega
    show IsRangeIter _ _ (lo+((0:Nat):Int) * 1) ((((hi - lo).toNat:Nat):Int) - ((0:Nat):Int)) 1;rw[e1,e2];exact Heap.get?_push_size _ rfl
  · have e:b=(s.heap.push { cls:=.type "range",data:=.fields #[.int lo t,.int hi u,.int 1 v] }).objs.size:=by simpa using hb
    subst e;exact I1.fpOk (Nat.le_refl _) (I1.hok.fresh (Nat.le_refl _))
noncomputable def iRng1(ta:TA):TI:=fun σ H R=>ta σ H fun vs H1=>∃ j:Int,vs=[.int j]/\-(2 ^ 62)<=j/\j < 2 ^ 62/\R (Itr 0 j.toNat) H1
theorem pi_range1{a:Expr}{ta:TA}{p pos:Pos}(hg:Gl X "range")(hm:X.mg "range"=none)(ha:PA X [a] ta)(hs:starEach [a] X.env=[(false,eval a X.env)]:=by rfl):PI X tg (.Call (.Name "range" p) [a] [] pos) (iRng1 ta):=by
  intro pQ s σ H R I h;refine Call_ (ld_blt I hg hm boot_range (PyProof.Rows.callWith_type1 (thn (ha pos pQ s σ H _ I h) fun us s1 ⟨vs,H1,I1,r1,q1⟩=>?_) hs rfl))
  obtain⟨j,e,q1,q2,q⟩:=q1;subst e;cases r1 with
  |cons r rr=>
    cases rr;obtain⟨t,rfl⟩:=r;exact call_range_1 (range_it I1 (by omega) (by omega) q1 q2 (by simpa using q))

noncomputable def tFor(wi:TI)(g:TG)(tb:TS):TS:=fun D σ H=>wi σ H fun J H1=>∃ W:Nat->Nat->St->Hp->Prop,(∃ m,W 0 m σ H1)/\∀ i m σ H,W i m σ H->
  (J.stop i H/\D.nx σ H)\/(J.go i H/\∃ N:St->Hp->Prop,(∀ σ' H',N σ' H'->∃ m',m' < m/\W (i+1) m' σ' H')/\∀ x H',J.yld i H x H'->g x σ H' fun σ2 H2=>tb { D with nx:=N,ct:=N,bk:=D.nx } σ2 H2)
noncomputable def pinsAt(fp:Li Ad)(h:Heap):Li (Ad×Obj):=fp.filterMap fun b=>(h.get? b).map fun o=>(b,o)
theorem mem_pinsAt{fp:Li Ad}{h:Heap}{b:Ad}{o:Obj}(hb:b∈fp)(e:h.get? b=some o):(b,o)∈pinsAt fp h:=List.mem_filterMap.mpr ⟨b,hb,by rw[e];rfl⟩
theorem of_pinsAt{fp:Li Ad}{h:Heap}{p:Ad×Obj}(hp:p∈pinsAt fp h):p.1∈fp/\h.get? p.1=some p.2:=by
  obtain⟨b,hb,e⟩:=List.mem_filterMap.mp hp;cases q:h.get? b with
  |none=>rw[q]at e;cases e
  |some o=>
    rw[q]at e;have e':(b,o)=p:=Option.some.inj e;subst e';exact⟨hb,q⟩
theorem Inv.pinned{pQ:Li (Ad×Obj)}{σ:St}{H:Hp}{s:Sd}{fp:Li Ad}(I:Inv X pQ σ H s)(hf:∀ b∈fp,FpOk X pQ H b)(ho:∀ b∈fp,∃ o,s.heap.get? b=some o/\∀ v,o.data≠.cell v):Inv X (pQ++pinsAt fp s.heap) σ H s:=
  I.pins_of fun p hp=>(List.mem_append.mp hp).elim (fun z=>I.pin p (List.mem_append_right _ z)) fun z=>by
    obtain⟨hb,e⟩:=of_pinsAt z;obtain⟨f0,f1,f2,_⟩:=hf p.1 hb;obtain⟨o,e',d⟩:=ho p.1 hb;rw[e]at e';cases e'
    exact⟨e,f0,f1,f2,d⟩
theorem Inv.unpinned{pQ pl:Li (Ad×Obj)}{σ:St}{H:Hp}{s:Sd}(I:Inv X (pQ++pl) σ H s):Inv X pQ σ H s:=I.pins_of fun p hp=>I.pin p (List.mem_append_right _ (List.mem_append_left _ hp))
theorem ps_for{iter:Expr}{body:Li Stmt}{wi:TI}{g:TG}{tb:TS}{pos:Pos}(hp:PassesOwn (model X.prog X.w) X.A X.env X.xe)(hc:X.calm=true)(hi:PI X tg iter wi)(hg:PG X tg g)(hb:PSs X body tb)(hs:∀ x,foldedSetIterable iter X.env x=pure x:=by intro _;rfl):PS X (.For tg iter body [] pos) (tFor wi g tb):=by
  intro pQ s σ H D I h;refine wpAny_For (thn (hi pQ s σ H _ I h) fun v s1 h1=>thn h1 fun itv s2 h2=>?_) hs
  obtain⟨it,fp,tn,J,H2,e,I2,T,st2,f2,W,⟨m0,w0⟩,turn⟩:=h2;subst e
  -- what stays true of the iterator's objects through the loop
  have stat:∀ {H':Hp},(∀ b∈fp,H' b=none)->∀ b∈fp,FpOk X pQ H' b:=fun hn b hb=>⟨hn b hb,(f2 b hb).2⟩
  refine codeAny_forLoop_any (fun n s'=>∃ i σ' H',Inv X pQ σ' H' s'/\tn i s'.heap/\(∀ b∈fp,H' b=none)/\W i n σ' H') ?_ m0 ⟨0,σ,H2,I2,st2,fun b hb=>(f2 b hb).1,w0⟩
  rintro n s3 ⟨i,σ3,H3,I3,st3,fr3,w3⟩
  rcases turn i n σ3 H3 w3 with⟨stop,qn⟩|⟨go,N,hN,step⟩
  · refine wpAny_passesOwn hp (thn (T.done X rfl rfl rfl hc i pQ s3 σ3 H3 X.xe I3 (stat fr3) st3 stop) fun r s4 ⟨hr,I4⟩=>?_)
    subst hr;exact wpAny_execs_nil ⟨σ3,H3,I4,qn⟩
  · refine wpAny_passesOwn hp (thn (T.item X rfl rfl rfl hc i pQ s3 σ3 H3 X.xe I3 (stat fr3) st3 go) fun r s4 ⟨u,hr,h4⟩=>?_)
    subst hr;refine wpAny_passesOwn hp (thn h4 fun _ s5 ⟨x,H5,I5,r5,y5,st5,fr5⟩=>?_)
    have I5':=I5.pinned (stat fr5) (T.obj _ _ st5);refine wpAny_passesOwn hp (thn (hg _ s5 σ3 H5 x u _ I5' r5 (step x H5 y5)) fun _ s6 ⟨σ6,H6,I6,q6⟩=>?_)
    refine wpAny_passesOwn hp (thn (hb _ s6 σ6 H6 _ I6 q6) fun f s7 q7=>?_)
    have again:∀ {σ7:St}{H7:Hp},Inv X (pQ++pinsAt fp s5.heap) σ7 H7 s7->N σ7 H7->∃ m,m < n/\∃ i σ' H',Inv X pQ σ' H' s7/\tn i s7.heap/\(∀ b∈fp,H' b=none)/\W i m σ' H':=fun {σ7 H7} I7 n7=>by
      obtain⟨m',hm,w7⟩:=hN σ7 H7 n7;refine⟨m',hm,i+1,σ7,H7,I7.unpinned,T.keep _ _ _ st5 fun b hb o e=>(I7.pin (b,o) (List.mem_append_right _ (List.mem_append_right _ (mem_pinsAt hb e)))).1,fun b hb=>?_,w7⟩
      obtain⟨o,e,d⟩:=T.obj _ _ st5 b hb;exact(I7.pin (b,o) (List.mem_append_right _ (List.mem_append_right _ (mem_pinsAt hb e)))).2.1
    cases f with
    |next=>obtain⟨σ7,H7,I7,n7⟩:=q7;exact again I7 n7
    |cont=>obtain⟨σ7,H7,I7,n7⟩:=q7;exact again I7 n7
    |brk=>obtain⟨σ7,H7,I7,q7⟩:=q7;exact⟨σ7,H7,I7.unpinned,q7⟩
    |ret v=>obtain⟨x7,σ7,H7,I7,r7,q7⟩:=q7;exact⟨x7,σ7,H7,I7.unpinned,r7,q7⟩
end

theorem for_tup{K:Fg}{a:Ad}{xs:Li V}{g:TG}{tb:TS}{D:Ends}{σ:St}{H:Hp}(Pv:Nat->St->Hp->Prop)(h0:Pv 0 σ H)(hl:∀ i σ H,i<=xs.length->Pv i σ H->SqT K H a xs)(hs:∀ i x σ H,xs[i]?=some x->Pv i σ H->g x σ H fun σ2 H2=>tb { D with nx:=Pv (i+1),ct:=Pv (i+1),bk:=D.nx } σ2 H2)(hd:∀ σ H,Pv xs.length σ H->D.nx σ H) :
    ∃ W:Nat->Nat->St->Hp->Prop,(∃ m,W 0 m σ H)/\∀ i m σ H,W i m σ H->
      ((Itt K a).stop i H/\D.nx σ H)\/((Itt K a).go i H/\∃ N:St->Hp->Prop,(∀ σ' H',N σ' H'->∃ m',m' < m/\W (i+1) m' σ' H')/\∀ x H',(Itt K a).yld i H x H'->g x σ H' fun σ2 H2=>tb { D with nx:=N,ct:=N,bk:=D.nx } σ2 H2):=by
  refine⟨fun i m σ H=>m=xs.length - i/\i<=xs.length/\Pv i σ H,⟨xs.length,by simp,Nat.zero_le _,h0⟩,?_⟩
  rintro i m σ H ⟨rfl,hi,p⟩
  have q:=hl i σ H hi p;by_cases hlt:i < xs.length
  · refine .inr ⟨⟨xs,xs[i],q,by simp[hlt]⟩,Pv (i+1),fun σ' H' p'=>⟨xs.length - (i+1),by omega,rfl,hlt,p'⟩,fun x H' y=>?_⟩
    obtain⟨e,y⟩:=y;subst e;exact hs i x σ _ (y xs q) p
  · have e:i=xs.length:=by omega
    subst e;exact .inl ⟨⟨xs,q,Nat.le_refl _⟩,hd σ H p⟩
theorem for_range{lo:Int}{n:Nat}{g:TG}{tb:TS}{D:Ends}{σ:St}{H:Hp}(Pv:Nat->St->Hp->Prop)(h0:Pv 0 σ H)(hs:∀ i σ H,i < n->Pv i σ H->g (.int (lo+i)) σ H fun σ2 H2=>tb { D with nx:=Pv (i+1),ct:=Pv (i+1),bk:=D.nx } σ2 H2)(hd:∀ σ H,Pv n σ H->D.nx σ H) :
    ∃ W:Nat->Nat->St->Hp->Prop,(∃ m,W 0 m σ H)/\∀ i m σ H,W i m σ H->
      ((Itr lo n).stop i H/\D.nx σ H)\/((Itr lo n).go i H/\∃ N:St->Hp->Prop,(∀ σ' H',N σ' H'->∃ m',m' < m/\W (i+1) m' σ' H')/\∀ x H',(Itr lo n).yld i H x H'->g x σ H' fun σ2 H2=>tb { D with nx:=N,ct:=N,bk:=D.nx } σ2 H2):=by
  refine⟨fun i m σ H=>m=n - i/\i<=n/\Pv i σ H,⟨n,by simp,Nat.zero_le _,h0⟩,?_⟩
  rintro i m σ H ⟨rfl,hi,p⟩
  by_cases hlt:i < n
  · refine .inr ⟨hlt,Pv (i+1),fun σ' H' p'=>⟨n - (i+1),by omega,rfl,hlt,p'⟩,fun x H' y=>?_⟩
    obtain⟨e,y⟩:=y;subst e y;exact hs i σ _ hlt p
  · have e:i=n:=by omega
    subst e;exact .inl ⟨Nat.le_refl _,hd σ H p⟩
end L2

namespace L2
open PySem PySem.Spec PyProof.Rows

abbrev R2:=V->V->Hp->VK->Prop
def OpR(X:Cx)(f:vL->vL->Sem vL)(r:R2):Prop:=
  ∀ (pQ:Li (Ad×Obj)) (s:Sd) (σ:St) (H:Hp) (x y:V) (v u:vL) (Q:VK),Inv X pQ σ H s->RelV x v->RelV y u->r x y H Q->
    wpAny (model X.prog X.w) X.A (f v u) (EP X pQ σ Q) X.xe s
def UnR(X:Cx)(f:vL->Sem vL)(r:V->Hp->VK->Prop):Prop:=
  ∀ (pQ:Li (Ad×Obj)) (s:Sd) (σ:St) (H:Hp) (x:V) (v:vL) (Q:VK),Inv X pQ σ H s->RelV x v->r x H Q->
    wpAny (model X.prog X.w) X.A (f v) (EP X pQ σ Q) X.xe s
def CallR(X:Cx)(f:vL)(r:Li V->Hp->VK->Prop):Prop:=
  ∀ (pQ:Li (Ad×Obj)) (s:Sd) (σ:St) (H:Hp) (xs:Li V) (us:Li vL) (Q:VK),Inv X pQ σ H s->Vals xs us->r xs H Q->
    wpAny (model X.prog X.w) X.A (call f us) (EP X pQ σ Q) X.xe s

noncomputable def tOp(r:R2)(ta tb:TE):TE:=fun σ H Q=>ta σ H fun x H1=>tb σ H1 fun y H2=>r x y H2 Q
noncomputable def tUn(r:V->Hp->VK->Prop)(ta:TE):TE:=fun σ H Q=>ta σ H fun x H1=>r x H1 Q
noncomputable def rI(C:Int->Int->Prop)(g:Int->Int->V):R2:=fun x y H Q=>∃ i j,x=.int i/\y=.int j/\C i j/\Q (g i j) H
noncomputable def rI0(g:Int->Int->V):R2:=fun x y H Q=>∃ i j,x=.int i/\y=.int j/\Q (g i j) H
def rU(g:Int->V):V->Hp->VK->Prop:=fun x H Q=>∃ i,x=.int i/\Q (g i) H

section
variable {X:Cx}{a b c:Expr}{ta tb tc:TE}{pos:Pos}

theorem binT(ha:PE X a ta)(hb:PE X b tb){pQ:Li (Ad×Obj)}{s:Sd}{σ:St}{H:Hp}{R:V->V->Hp->Prop}(I:Inv X pQ σ H s)(h:ta σ H fun x H1=>tb σ H1 fun y H2=>R x y H2){Q:vL->Sd->Prop}{f:vL->vL->Sem vL}(hf:∀ v u s2 x y H2,Inv X pQ σ H2 s2->RelV x v->RelV y u->R x y H2->wpAny (model X.prog X.w) X.A (f v u) Q X.xe s2) :
    wpAny (model X.prog X.w) X.A (eval a X.env) (fun v s₁=>wpAny (model X.prog X.w) X.A (eval b X.env) (fun u s₂=>wpAny (model X.prog X.w) X.A (f v u) Q X.xe s₂) X.xe s₁) X.xe s:=by
  refine thn (ha pQ s σ H _ I h) fun v s1 ⟨x,H1,I1,r1,q1⟩=>?_
  refine thn (hb pQ s1 σ H1 _ I1 q1) fun u s2 ⟨y,H2,I2,r2,q2⟩=>?_
  exact hf v u s2 x y H2 I2 r1 r2 q2

theorem pe_op{op:Operator}{r:R2}(ho:OpR X (binaryOp op) r)(ha:PE X a ta)(hb:PE X b tb):PE X (.BinOp a op b pos) (tOp r ta tb):=by
  intro pQ s σ H Q I h;exact wpAny_BinOp (binT ha hb I h fun v u s2 x y H2 I2 rx ry q=>ho pQ s2 σ H2 x y v u Q I2 rx ry q)
theorem pe_un{op:UnaryOp}{r:V->Hp->VK->Prop}(ho:UnR X (unaryOp op) r)(ha:PE X a ta):PE X (.UnaryOp op a pos) (tUn r ta):=by
  intro pQ s σ H Q I h;exact UnaryOp_ (thn (ha pQ s σ H _ I h) fun v s1 ⟨x,H1,I1,r1,q1⟩=>ho pQ s1 σ H1 x v Q I1 r1 q1)

theorem opI{f:vL->vL->Sem vL}{C:Int->Int->Prop}{g:Int->Int->Int}(rule:∀ (i j:Int) (t u:Tok) (s:Sd) (Q:vL->Sd->Prop) (E:vL->Sd->Prop),C i j->Q (.int (g i j) s.toks) { s with toks:=s.toks+1 }->wpAny (model X.prog X.w) X.A (f (.int i t) (.int j u)) Q E s) :
    OpR X f (rI C fun i j=>.int (g i j)):=by
  intro pQ s σ H x y v u Q I rx ry h;obtain⟨i,j,rfl,rfl,hc,q⟩:=h;obtain⟨t,rfl⟩:=rx;obtain⟨t',rfl⟩:=ry;exact rule i j t t' s _ _ hc ⟨.int (g i j),H,I.tok _,⟨_,rfl⟩,q⟩
theorem opI0{f:vL->vL->Sem vL}{g:Int->Int->Int}(rule:∀ (i j:Int) (t u:Tok) (s:Sd) (Q:vL->Sd->Prop) (E:vL->Sd->Prop),Q (.int (g i j) s.toks) { s with toks:=s.toks+1 }->wpAny (model X.prog X.w) X.A (f (.int i t) (.int j u)) Q E s) :
    OpR X f (rI0 fun i j=>.int (g i j)):=by
  intro pQ s σ H x y v u Q I rx ry h;obtain⟨i,j,rfl,rfl,q⟩:=h;obtain⟨t,rfl⟩:=rx;obtain⟨t',rfl⟩:=ry;exact rule i j t t' s _ _ ⟨.int (g i j),H,I.tok _,⟨_,rfl⟩,q⟩
theorem opB0{f:vL->vL->Sem vL}{g:Int->Int->Bool}(rule:∀ (i j:Int) (t u:Tok) (s:Sd) (Q:vL->Sd->Prop) (E:vL->Sd->Prop),Q (.bool (g i j)) s->wpAny (model X.prog X.w) X.A (f (.int i t) (.int j u)) Q E s) :
    OpR X f (rI0 fun i j=>.bl (g i j)):=by
  intro pQ s σ H x y v u Q I rx ry h;obtain⟨i,j,rfl,rfl,q⟩:=h;obtain⟨t,rfl⟩:=rx;obtain⟨t',rfl⟩:=ry;exact rule i j t t' s _ _ ⟨.bl (g i j),H,I,rfl,q⟩

def CDiv(i j:Int):Prop:=0 < j/\j < 1073741824
def CDivN(i j:Int):Prop:=j≠0/\j.natAbs < 1073741824
def CMul(i j:Int):Prop:=(-(2 ^ 64) < i/\i < 2 ^ 64)\/(-(2 ^ 64) < j/\j < 2 ^ 64)
theorem CMul.ok{i j:Int}(h:CMul i j):IntMulOk i j:=by
  rcases h with⟨h1,h2⟩|⟨h1,h2⟩
  · exact .of_left (intBits_le_64 h1 h2)
  · exact .of_right (intBits_le_64 h1 h2)

theorem op_add:OpR X (binaryOp .Add) (rI0 fun i j=>.int (i+j)):=opI0 fun _ _ _ _ _ _ _ q=>add_int q
theorem op_sub:OpR X (binaryOp .Sub) (rI0 fun i j=>.int (i - j)):=opI0 fun _ _ _ _ _ _ _ q=>sub_int q
theorem op_mul:OpR X (binaryOp .Mult) (rI CMul fun i j=>.int (i * j)):=opI fun _ _ _ _ _ _ _ hc q=>mul_int q hc.ok
theorem op_fdiv:OpR X (binaryOp .FloorDiv) (rI CDiv fun i j=>.int (i / j)):=opI fun i j _ _ _ _ _ hc q=>by
  have h1:(0:Int) < j:=hc.1;have h2:j < 1073741824:=hc.2;exact floordiv_int (by omega) (by rw[Int.fdiv_eq_ediv_of_nonneg i (by omega)];exact q) (.inl (PyProof.noPylong_small (by omega)))
theorem op_fdivN:OpR X (binaryOp .FloorDiv) (rI CDivN fun i j=>.int (i.fdiv j)):=opI fun _ _ _ _ _ _ _ hc q=>floordiv_int hc.1 q (.inl (PyProof.noPylong_small hc.2))
theorem op_mod:OpR X (binaryOp .Mod) (rI (fun _ j=>0 < j) fun i j=>.int (i % j)):=opI fun i j _ _ _ _ _ hc q=>by
  have h1:(0:Int) < j:=hc;exact mod_int' (by omega) (by rw[Int.fmod_eq_emod_of_nonneg i (by omega)];exact q)
theorem op_modN:OpR X (binaryOp .Mod) (rI (fun _ j=>j≠0) fun i j=>.int (i.fmod j)):=opI fun _ _ _ _ _ _ _ hc q=>mod_int' hc q


theorem unI{f:vL->Sem vL}{g:Int->Int}(rule:∀ (i:Int) (t:Tok) (s:Sd) (Q:vL->Sd->Prop) (E:vL->Sd->Prop),Q (.int (g i) s.toks) { s with toks:=s.toks+1 }->wpAny (model X.prog X.w) X.A (f (.int i t)) Q E s) :
    UnR X f (rU fun i=>.int (g i)):=by
  intro pQ s σ H x v Q I rx h;obtain⟨i,rfl,q⟩:=h;obtain⟨t,rfl⟩:=rx;exact rule i t s _ _ ⟨.int (g i),H,I.tok _,⟨_,rfl⟩,q⟩
theorem un_neg:UnR X (unaryOp .USub) (rU fun i=>.int (-i)):=unI fun _ _ _ _ _ q=>neg_int q

end

noncomputable def scal:V->V->Bool
  |.non,.non=>true|.non,.int _=>true|.int _,.non=>true|.non,.bl _=>true|.bl _,.non=>true|.non,.str _=>true|.str _,.non=>true
  |.int _,.int _=>true|.bl _,.bl _=>true|.str _,.str _=>true|.byt _,.byt _=>true
  |.int _,.str _=>true|.str _,.int _=>true|.bl _,.str _=>true|.str _,.bl _=>true
  |_,_=>false
noncomputable def rEq:R2:=fun x y H Q=>scal x y=true/\Q (.bl (decide (x=y))) H
noncomputable def rNe:R2:=fun x y H Q=>scal x y=true/\Q (.bl (!decide (x=y))) H

theorem dec_int{i j:Int}:decide (V.int i=V.int j)=(i==j):=by
  rw[Bool.eq_iff_iff];simp
theorem dec_bl{i j:Bool}:decide (V.bl i=V.bl j)=(i==j):=by
  rw[Bool.eq_iff_iff];simp
theorem dec_str{i j:Str}:decide (V.str i=V.str j)=(i==j):=by
  rw[Bool.eq_iff_iff];simp
theorem dec_byt{i j:Array UInt8}:decide (V.byt i=V.byt j)=(i.toList==j.toList):=by
  rw[Bool.eq_iff_iff];cases i;cases j;simp

section
variable {X:Cx}{a b c:Expr}{ta tb tc:TE}{pos:Pos}
theorem fin_bl{pQ:Li (Ad×Obj)}{σ:St}{H:Hp}{s:Sd}{Q:VK}{k k':Bool}(I:Inv X pQ σ H s)(q:Q (.bl k) H)(e:k=k'):EP X pQ σ Q (.bool k') s:=by
  subst e;exact⟨.bl k,H,I,rfl,q⟩
theorem op_eq:OpR X (compareOp .Eq) rEq:=by
  intro pQ s σ H x y v u Q I rx ry h;obtain⟨hs,q⟩:=h;cases x with
  |non=>
    cases rx;cases y with
    |non=>cases ry;exact PySem.EqNone.eq_none_none (fin_bl I q (by simp))
    |bl j=>cases ry;exact PySem.EqNone.eq_none_bool (fin_bl I q (by simp))
    |int j=>obtain⟨t',rfl⟩:=ry;exact PySem.EqNone.eq_none_int (fin_bl I q (by simp))
    |str j=>obtain⟨t',rfl⟩:=ry;exact PySem.EqNone.eq_none_str (fin_bl I q (by simp))
    |_=>exact absurd (show false=true from hs) Bf
  |bl i=>
    cases rx;cases y with
    |non=>cases ry;exact PySem.EqNone.eq_bool_none (fin_bl I q (by simp))
    |bl j=>cases ry;exact eq_bool (fin_bl I q dec_bl)
    |str j=>obtain⟨t',rfl⟩:=ry;exact PySem.EqMixed.eq_bool_str (fin_bl I q (by simp))
    |_=>exact absurd (show false=true from hs) Bf
  |int i=>
    obtain⟨t,rfl⟩:=rx;cases y with
    |non=>cases ry;exact PySem.EqNone.eq_int_none (fin_bl I q (by simp))
    |int j=>obtain⟨t',rfl⟩:=ry;exact eq_int (fin_bl I q dec_int)
    |str j=>obtain⟨t',rfl⟩:=ry;exact PySem.EqMixed.eq_int_str (fin_bl I q (by simp))
    |_=>exact absurd (show false=true from hs) Bf
  |str i=>
    obtain⟨t,rfl⟩:=rx;cases y with
    |non=>cases ry;exact PySem.EqNone.eq_str_none (fin_bl I q (by simp))
    |bl j=>cases ry;exact PySem.EqMixed.eq_str_bool (fin_bl I q (by simp))
    |int j=>obtain⟨t',rfl⟩:=ry;exact PySem.EqMixed.eq_str_int (fin_bl I q (by simp))
    |str j=>obtain⟨t',rfl⟩:=ry;exact eq_str (fin_bl I q dec_str)
    |_=>exact absurd (show false=true from hs) Bf
  |byt i=>
    obtain⟨t,rfl⟩:=rx;cases y with
    |byt j=>obtain⟨t',rfl⟩:=ry;exact PySem.W.eq_bytes (fin_bl I q dec_byt)
    |_=>exact absurd (show false=true from hs) Bf
  |_=>cases y<;>exact absurd (show false=true from hs) Bf
theorem op_ne:OpR X (compareOp .NotEq) rNe:=by
  intro pQ s σ H x y v u Q I rx ry h;obtain⟨hs,q⟩:=h;cases x with
  |non=>
    cases rx;cases y with
    |non=>cases ry;exact PySem.EqNone.ne_none_none (fin_bl I q (by simp))
    |bl j=>cases ry;exact PySem.EqNone.ne_none_bool (fin_bl I q (by simp))
    |int j=>obtain⟨t',rfl⟩:=ry;exact PySem.EqNone.ne_none_int (fin_bl I q (by simp))
    |str j=>obtain⟨t',rfl⟩:=ry;exact PySem.EqNone.ne_none_str (fin_bl I q (by simp))
    |_=>exact absurd (show false=true from hs) Bf
  |bl i=>
    cases rx;cases y with
    |non=>cases ry;exact PySem.EqNone.ne_bool_none (fin_bl I q (by simp))
    |bl j=>cases ry;exact ne_bool (fin_bl I q (congrArg not dec_bl))
    |str j=>obtain⟨t',rfl⟩:=ry;exact PySem.EqMixed.ne_bool_str (fin_bl I q (by simp))
    |_=>exact absurd (show false=true from hs) Bf
  |int i=>
    obtain⟨t,rfl⟩:=rx;cases y with
    |non=>cases ry;exact PySem.EqNone.ne_int_none (fin_bl I q (by simp))
    |int j=>obtain⟨t',rfl⟩:=ry;exact ne_int (fin_bl I q (congrArg not dec_int))
    |str j=>obtain⟨t',rfl⟩:=ry;exact PySem.EqMixed.ne_int_str (fin_bl I q (by simp))
    |_=>exact absurd (show false=true from hs) Bf
  |str i=>
    obtain⟨t,rfl⟩:=rx;cases y with
    |non=>cases ry;exact PySem.EqNone.ne_str_none (fin_bl I q (by simp))
    |bl j=>cases ry;exact PySem.EqMixed.ne_str_bool (fin_bl I q (by simp))
    |int j=>obtain⟨t',rfl⟩:=ry;exact PySem.EqMixed.ne_str_int (fin_bl I q (by simp))
    |str j=>obtain⟨t',rfl⟩:=ry;exact ne_str (fin_bl I q (congrArg not dec_str))
    |_=>exact absurd (show false=true from hs) Bf
  |byt i=>
    obtain⟨t,rfl⟩:=rx;cases y with
    |byt j=>obtain⟨t',rfl⟩:=ry;exact PySem.W.ne_bytes (fin_bl I q (congrArg not dec_byt))
    |_=>exact absurd (show false=true from hs) Bf
  |_=>cases y<;>exact absurd (show false=true from hs) Bf

theorem op_lt:OpR X (compareOp .Lt) (rI0 fun i j=>.bl (decide (i < j))):=opB0 fun _ _ _ _ _ _ _ q=>lt_int q
theorem op_le:OpR X (compareOp .LtE) (rI0 fun i j=>.bl (decide (i<=j))):=opB0 fun _ _ _ _ _ _ _ q=>le_int q
theorem op_gt:OpR X (compareOp .Gt) (rI0 fun i j=>.bl (decide (j < i))):=opB0 fun _ _ _ _ _ _ _ q=>gt_int q
theorem op_ge:OpR X (compareOp .GtE) (rI0 fun i j=>.bl (decide (j<=i))):=opB0 fun _ _ _ _ _ _ _ q=>ge_int q
theorem op_in_str:OpR X (compareOp .In) (fun x y H Q=>∃ i j,x=.str i/\y=.str j/\Q (.bl (!(Builtin.Str.occurrences j i 0 j.length 1).isEmpty)) H):=by
  intro pQ s σ H x y v u Q I rx ry h;obtain⟨i,j,rfl,rfl,q⟩:=h;obtain⟨t,rfl⟩:=rx;obtain⟨t',rfl⟩:=ry;exact in_str (fin_bl I q rfl)

theorem op_isN:OpR X (compareOp .Is) (fun x y H Q=>y=.non/\Q (.bl (decide (x=.non))) H):=by
  intro pQ s σ H x y v u Q I rx ry h;obtain⟨rfl,q⟩:=h;cases ry;refine is_none_gen (fin_bl I q ?_);cases x<;>first
    | (cases rx;rfl)
    | (obtain⟨t,rfl⟩:=rx;rfl)
theorem op_notN:OpR X (compareOp .IsNot) (fun x y H Q=>y=.non/\Q (.bl (!decide (x=.non))) H):=by
  intro pQ s σ H x y v u Q I rx ry h;obtain⟨rfl,q⟩:=h;cases ry;refine isnot_none_gen (fin_bl I q ?_);cases x<;>first
    | (cases rx;rfl)
    | (obtain⟨t,rfl⟩:=rx;rfl)



theorem pe_cmpR{op:CmpOp}{r:R2}(ho:OpR X (compareOp op) r)(ha:PE X a ta)(hb:PE X b tb)(hm:behindInMarks op b=false):PE X (.Compare a [op] [b] pos) (tOp r ta tb):=by
  intro pQ s σ H Q I h;exact wpAny_Compare1 (binT ha hb I h fun v u s2 x y H2 I2 rx ry q=>ho pQ s2 σ H2 x y v u Q I2 rx ry q) hm
noncomputable def tTest(t:TE):TT:=fun σ H Q=>t σ H fun x H'=>∃ k,x=.bl k/\Q k H'
theorem pt_cmpR{op:CmpOp}{r:R2}(ho:OpR X (compareOp op) r)(ha:PE X a ta)(hb:PE X b tb)(hm:behindInMarks op b=false):PT X (.Compare a [op] [b] pos) (tTest (tOp r ta tb)):=by
  intro pQ s σ H Q I h;refine wpAny_isTrue_Compare1 (thn (ha pQ s σ H _ I h) fun v s1 ⟨x,H1,I1,r1,q1⟩=>thn (hb pQ s1 σ H1 _ I1 q1) fun u s2 ⟨y,H2,I2,r2,q2⟩=>
    thn (ho pQ s2 σ H2 x y v u _ I2 r1 r2 q2) fun c s3 ⟨z,H3,I3,r3,k,e,q3⟩=>?_) hm
  subst e;cases r3;exact wpAny_truthy_bool ⟨H3,I3,q3⟩

theorem line63:(sizeLine:Nat) < 2 ^ 63:=by rw[sizeLine_eq];decide

theorem op_add_str:OpR X (binaryOp .Add) (fun x y H Q=>∃ i j,x=.str i/\y=.str j/\i.length+j.length<=sizeLine/\Q (.str (i++j)) H):=by
  intro pQ s σ H x y v u Q I rx ry h;obtain⟨i,j,rfl,rfl,hz,q⟩:=h;obtain⟨t,rfl⟩:=rx;obtain⟨t',rfl⟩:=ry;exact add_str (fun t' tk=>⟨.str (i++j),H,I.tok _,⟨_,rfl⟩,q⟩) hz


theorem vals1{x:V}{us:Li vL}(r:Vals [x] us):∃ u,us=[u]/\RelV x u:=by
  cases r with
  |cons r1 r2=>cases r2;exact⟨_,rfl,r1⟩
theorem vals2{x y:V}{us:Li vL}(r:Vals [x,y] us):∃ u w',us=[u,w']/\RelV x u/\RelV y w':=by
  cases r with
  |cons r1 r2=>
    cases r2 with
    |cons r3 r4=>cases r4;exact⟨_,_,rfl,r1,r3⟩
theorem call_max2(hc:X.calm=true):CallR X (.builtin "max") (fun xs H Q=>∃ i j,xs=[.int i,.int j]/\Q (.int (if j > i then j else i)) H):=by
  intro pQ s σ H xs us Q I r h;obtain⟨i,j,rfl,q⟩:=h;obtain⟨u,w',rfl,⟨t,rfl⟩,⟨t',rfl⟩⟩:=vals2 r;refine max_two_ints (I.ok.hd hc) fun h' tk k=>⟨_,H,I.kept k,?_,q⟩
  by_cases hj:j > i
  · rw[if_pos hj,if_pos hj];exact⟨_,rfl⟩
  · rw[if_neg hj,if_neg hj];exact⟨_,rfl⟩
theorem call_min2(hc:X.calm=true):CallR X (.builtin "min") (fun xs H Q=>∃ i j,xs=[.int i,.int j]/\Q (.int (if j < i then j else i)) H):=by
  intro pQ s σ H xs us Q I r h;obtain⟨i,j,rfl,q⟩:=h;obtain⟨u,w',rfl,⟨t,rfl⟩,⟨t',rfl⟩⟩:=vals2 r;refine min_two_ints (I.ok.hd hc) fun h' tk k=>⟨_,H,I.kept k,?_,q⟩
  by_cases hj:j < i
  · rw[if_pos hj,if_pos hj];exact⟨_,rfl⟩
  · rw[if_neg hj,if_neg hj];exact⟨_,rfl⟩
theorem call_int1:CallR X (.type "int") (fun xs H Q=>(∃ i,xs=[.int i]/\Q (.int i) H)\/∃ k,xs=[.bl k]/\Q (.int (if k then 1 else 0)) H):=by
  intro pQ s σ H xs us Q I r h;rcases h with⟨i,rfl,q⟩|⟨k,rfl,q⟩
  · obtain⟨u,rfl,t,rfl⟩:=vals1 r
    exact call_int_int ⟨.int i,H,I,⟨_,rfl⟩,q⟩
  · obtain⟨u,rfl,r1⟩:=vals1 r
    cases r1;exact call_int_bool ⟨.int (if k then 1 else 0),H,I.tok _,⟨_,rfl⟩,q⟩
def LenV(K:Fg)(x:V)(H:Hp)(n:Nat):Prop:=
  match x with
  |.str y=>y.length<=sizeLine/\n=y.length
  |.byt y=>y.size<=sizeLine/\n=y.size
  |.ref p=>(∃ xs,SqL K H p xs/\n=xs.length)\/∃ xs,SqT K H p xs/\n=xs.length
  |_=>False
theorem call_len:CallR X (.builtin "len") (fun xs H Q=>∃ x n,xs=[x]/\LenV X.K x H n/\Q (.int n) H):=by
  intro pQ s σ H xs us Q I r h;obtain⟨x,n,rfl,e,q⟩:=h;obtain⟨u,rfl,rx⟩:=vals1 r;have hl:=line63;have hs:sizeLine=16777216:=sizeLine_eq;cases x with
  |str y=>
    obtain⟨t,rfl⟩:=rx;obtain⟨hy,e'⟩:y.length<=sizeLine/\n=y.length:=e;subst e';exact len_str (by omega) ⟨.int _,H,I.tok _,⟨_,rfl⟩,q⟩
  |byt y=>
    obtain⟨t,rfl⟩:=rx;obtain⟨hy,e'⟩:y.size<=sizeLine/\n=y.size:=e;subst e';exact PySem.W.len_bytes (by omega) ⟨.int _,H,I.tok _,⟨_,rfl⟩,q⟩
  |ref p=>
    cases rx;have e':(∃ xs,SqL X.K H p xs/\n=xs.length)\/∃ xs,SqT X.K H p xs/\n=xs.length:=e;rcases e' with⟨xs,hx,e'⟩|⟨xs,hx,e'⟩
    · subst e'
      obtain⟨its,r',pl,hz⟩:=I.list hx;have hlen:=r'.length;exact Calls.call_len_list pl.isList (by simp only[List.size_toArray];omega) ⟨.int xs.length,H,I.tok _,⟨_,by simp only[List.size_toArray];rw[hlen]⟩,q⟩
    · subst e'
      obtain⟨its,r',pl,hz⟩:=I.tuple hx;have hlen:=r'.length;exact len_tuple pl (by simp only[List.size_toArray];omega) ⟨.int xs.length,H,I.tok _,⟨_,by simp only[List.size_toArray];rw[hlen]⟩,q⟩
  |_=>exact(show False from e).elim
end
end L2

namespace L2
open PySem PySem.Spec PyProof.Rows

structure ObjM(h:Heap)(x dx C:Addr)(mA:Str->Option Value):Prop where
  obj:h.get? x=some (PySem.W.instObj C dx)
  ns:h.Ns1 dx mA
  ne:dx≠x

theorem lookIn_ns{h:Heap}{dx:Ad}{mA:Str->Ot vL}(n:h.Ns1 dx mA):∃ od,h.get? dx=some od/\∀ name,PySem.W.lookIn name od=some (mA name):=by
  obtain⟨o,es,ep,ho,hd,hk,_,hm⟩:=n;refine⟨o,ho,fun name=>?_⟩
  have e:=hm name;unfold nsFind findBy at e;rw[<-Array.find?_toList]at e;unfold PySem.W.lookIn;rw[hd];dsimp only;split
  · rename_i y q
    rw[q]at e;exact congrArg some e
  · rename_i q
    rw[q]at e;have a:es.toList.any (·.refKey)=false:=by
      rw[List.any_eq_false];intro y hy;obtain⟨z,t,hkey⟩:=hk y (Array.mem_toList_iff.mp hy);simp[DictEntry.refKey,hkey]
    have a':¬es.toList.any (·.refKey)=true:=by rw[a];exact Bf
    rw[if_neg a'];exact congrArg some e

theorem ObjM.look{h:Heap}{x dx C:Ad}{mA:Str->Ot vL}(I:ObjM h x dx C mA):∃ od,PySem.W.InstAt h x (PySem.W.instObj C dx) C (some od)/\∀ name,PySem.W.lookIn name od=some (mA name):=
  let ⟨od,ho,hl⟩:=lookIn_ns I.ns
  ⟨od,⟨I.obj,rfl,rfl,ho⟩,hl⟩

section
variable {prog:Program}{w:World}{A:Around}{E:vL->Sd->Prop}{s:Sd}{K:Fg}{x dx C f:Ad}{mA:Str->Ot vL}{name:Str}{v:vL}



theorem get_meth{pl:Sem Bool}{Q:vL×Li vL->Sd->Prop}(X:K.In s.heap)(I:ObjM s.heap x dx C mA)(hg:PySem.W.plainGet K C name=true)(hf:PySem.W.findIn K (.ref C) name=some (some (.ref f)))(ht:PySem.W.isFn K (.ref f)=true)(hv:mA name=none)(h:Q (.ref f,[.ref x]) s) :
    wpAny (model prog w) A (getMethod (.ref x) name pl) Q E s:=by
  obtain⟨od,J,hl⟩:=I.look;exact PySem.W.method_fn X J (PySem.W.plainGet_of hg).1 (PySem.W.plainGet_of hg).2 hf (beq_iff_eq.mp ht) (by show(PySem.W.lookIn name od).map (·.isSome)=some false;rw[hl,hv];rfl) h


end


theorem RelO.some_of{v:V}{o:Ot vL}(r:RelO (some v) o):∃ u,o=some u/\RelV v u:=by
  cases o with
  |none=>exact(show False from r).elim
  |some u=>exact⟨u,rfl,r⟩
theorem RelO.none_of{o:Ot vL}(r:RelO none o):o=none:=by
  cases o with
  |none=>rfl
  |some u=>exact(show False from r).elim

section
variable {P:Program}{w:World}{H H':Hp}{h h':Heap}{a C dx:Ad}{fs fs':Li (Str×V)}
theorem ins_get(hok:HOk P w H h)(e:H a=some (.ins C dx fs)):∃ mA,ObjM h a dx C mA/\(∀ f,RelO (fs.lookup f) (mA f))/\PySem.Within mA (fs.map (·.1))/\fs.length<=1000/\H dx=some (.own a):=by
  obtain⟨d,z,ne,ob,mA,n,r,q⟩:=(show ObjOk P w H h a (.ins C dx fs) from hok a _ e);exact⟨mA,⟨ob,n,ne⟩,r,q,z,d⟩
end

structure Cls(K:Fg)(C:Addr):Prop where
  pg:PySem.W.plainGet K C Str.empty=true
  hd:PySem.W.hasDictIn K C=true
  po:PySem.W.plainOver K C=true
  sa:PySem.W.findIn K (.ref C) "__setattr__"=some (some (.builtin "object.__setattr__"))
theorem Cls.get{K:Fg}{C:Ad}(c:Cls K C)(f:Str):PySem.W.plainGet K C f=true:=c.pg
structure Con(K:Fg)(C:Addr)(f:Str)(v:V)(u:Value):Prop where
  at_:PySem.W.findIn K (.ref C) f=some (some u)
  rel:RelV v u
  get:PySem.W.specialIn K u "__get__"=some none
  cp:PySem.W.copiedNames.contains f=false
structure Meth(K:Fg)(C:Addr)(m:Str)(f:Addr):Prop where
  at_:PySem.W.findIn K (.ref C) m=some (some (.ref f))
  fn:PySem.W.isFn K (.ref f)=true
  kp:PySem.W.keepIn K (.ref f)=true

section
variable {X:Cx}{pQ:Li (Ad×Obj)}{σ:St}{H:Hp}{s:Sd}{a C dx:Ad}{fs:Li (Str×V)}{f:Str}{v:V}{A:Around}{E:vL->Sd->Prop}



theorem getmeth_ok{m:Str}{g:Ad}{pl:Sem Bool}{Q:vL×Li vL->Sd->Prop}(I:Inv X pQ σ H s)(e:H a=some (.ins C dx fs))(c:Cls X.K C)(k:Meth X.K C m g)(l:fs.lookup m=none)(h:Q (.ref g,[.ref a]) s):wpAny (model X.prog X.w) A (getMethod (.ref a) m pl) Q E s:=by
  obtain⟨mA,O,r,_,_,_⟩:=ins_get I.hok e;have hn:mA m=none:=RelO.none_of (by rw[<-l];exact r m)
  exact get_meth I.kIn O (c.get m) k.at_ k.fn hn h


theorem Inv.made(I:Inv X pQ σ H s):Inv X pQ σ (upd (upd H s.heap.objs.size (.own (s.heap.objs.size+1))) (s.heap.objs.size+1) (.ins C s.heap.objs.size []))
    { s with heap:=(s.heap.push PySem.W.emptyDict).push (PySem.W.instObj C s.heap.objs.size) }:=by
  have e1:(s.heap.push PySem.W.emptyDict).get? s.heap.objs.size=some PySem.W.emptyDict:=Heap.get?_push_size s.heap rfl;have e2:((s.heap.push PySem.W.emptyDict).push (PySem.W.instObj C s.heap.objs.size)).get? (s.heap.objs.size+1)=some (PySem.W.instObj C s.heap.objs.size):=by
    have:=Heap.get?_push_size (s.heap.push PySem.W.emptyDict) (o:=PySem.W.instObj C s.heap.objs.size) rfl
    rwa [Heap.size_push]at this
  have e3:(s.heap.push PySem.W.emptyDict).Ns s.heap.objs.size (fun _=>none):=⟨PySem.W.emptyDict,#[],_,e1,rfl,(fun e he=>absurd he (by simp)),fun _=>rfl⟩
  have I1:=I.laid (a:=s.heap.objs.size) (o:=.own (s.heap.objs.size+1)) (h':=s.heap.push PySem.W.emptyDict) (t':=s.toks) (fun b u q=>Heap.get?_push_of_some _ q) (Nat.le_refl _) ⟨_,e1⟩
  refine I1.laid (a:=s.heap.objs.size+1) (o:=.ins C s.heap.objs.size []) (t':=s.toks) (fun b u q=>Heap.get?_push_of_some _ q) (Nat.le_of_eq (Heap.size_push _ _)) ?_
  have ne:s.heap.objs.size≠s.heap.objs.size+1:=Nat.ne_of_lt (Nat.lt_succ_self _);refine⟨by rw[upd_ne ne,upd_same],Nat.zero_le _,ne,e2,fun _=>none,(Heap.Ns1.of_empty e3).at fun o q=>Heap.get?_push_of_some _ q,fun _=>True.intro,fun y hy=>absurd rfl hy⟩

end


section
variable {X:Cx}{o e value:Expr}{f:Str}{pos pos' tpos:Pos}{ta tv:TE}

end

section
variable {X:Cx}{pQ:Li (Ad×Obj)}{σ:St}{H:Hp}{s:Sd}{A:Around}{E:vL->Sd->Prop}{Q:vL->Sd->Prop}{c:vL}{b:Bool}
inductive TyOf(K:Fg)(H:Hp):V->Value->Prop where
  |non:TyOf K H .non (.type "NoneType")
  |bl (x:Bool):TyOf K H (.bl x) (.type "bool")
  |int (i:Int):TyOf K H (.int i) (.type "int")
  |str (x:Str):TyOf K H (.str x) (.type "str")
  |flt (x:UInt64):TyOf K H (.flt x) (.type "float")
  |lst {a:Addr}{xs:List V} (e:H a=some (.lst xs)):TyOf K H (.ref a) (.type "list")
  |frz {a:Addr}{o:Obj}{xs:List V} (e:H a=some (.frz o (.lst xs))):TyOf K H (.ref a) (.type "list")
  |tup {a:Addr}{xs:List V} (e:H a=some (.tup xs)):TyOf K H (.ref a) (.type "tuple")
  |dK {a:Addr}{kvs:List (Key×V)} (e:H a=some (.dK kvs)):TyOf K H (.ref a) (.type "dict")
  |dT {a:Addr}{kvs:List (List Key×V)} (e:H a=some (.dT kvs)):TyOf K H (.ref a) (.type "dict")
  |ins {a C dx:Addr}{fs:List (Str×V)} (e:H a=some (.ins C dx fs)) (cl:Cls K C) (ha:PySem.W.findIn K (.ref C) "__class__"=some (some (.builtin "object.__class__")))
      (hn:PySem.W.specialIn K (.builtin "object.__class__") "__get__"=some (some (.builtin "getset_descriptor.__get__"))) (htk:PySem.W.takesIn K (.builtin "object.__class__")=some true)
      (hm:PySem.W.mroIn K C (.type "object")=some true):TyOf K H (.ref a) (.ref C)
theorem isinst_ok{x:V}{u t:vL}(I:Inv X pQ σ H s)(rx:RelV x u)(ty:TyOf X.K H x t)(e:PySem.W.kitOne X.K t c=some b)(h:∀ tk,Q (.bool b) { s with toks:=tk }) :
    wpAny (model X.prog X.w) A (call (.builtin "isinstance") [u,c]) Q E s:=by
  cases ty with
  |non=>cases (show u=Value.none from rx);exact PySem.W.kia_one PySem.W.kitx_none I.kIn True.intro e (fun z=>nomatch z) h
  |bl y=>cases (show u=Value.bool y from rx);exact PySem.W.kia_one PySem.W.kitx_bool I.kIn True.intro e (fun z=>nomatch z) h
  |int i=>obtain⟨t,q⟩:=(show ∃ t,u=Value.int i t from rx);cases q;exact PySem.W.kia_one PySem.W.kitx_int I.kIn True.intro e (fun z=>nomatch z) h
  |str y=>obtain⟨t,q⟩:=(show ∃ t,u=Value.str y t from rx);cases q;exact PySem.W.kia_one PySem.W.kitx_str I.kIn True.intro e (fun z=>nomatch z) h
  |flt y=>obtain⟨t,q⟩:=(show ∃ t,u=Value.float y t from rx);cases q;exact PySem.W.kia_one PySem.W.kitx_float I.kIn True.intro e (fun z=>nomatch z) h
  |@lst a xs ea=>
    cases (show u=Value.ref a from rx)
    obtain⟨_,_,n,_,h1⟩:=(show ObjOk X.prog X.w H s.heap a (.lst xs) from I.hok a _ ea);exact PySem.W.kia_one PySem.W.kitx_list I.kIn ⟨_,h1,rfl⟩ e (fun z=>nomatch z) h
  |@frz a ob xs ea=>
    cases (show u=Value.ref a from rx)
    obtain⟨_,_,_,n,_,h1⟩:=(show ObjOk X.prog X.w H s.heap a (.frz ob (.lst xs)) from I.hok a _ ea);exact PySem.W.kia_one PySem.W.kitx_list I.kIn ⟨_,h1,rfl⟩ e (fun z=>nomatch z) h
  |@tup a xs ea=>
    cases (show u=Value.ref a from rx)
    obtain⟨_,_,_,p⟩:=(show ObjOk X.prog X.w H s.heap a (.tup xs) from I.hok a _ ea);obtain⟨o,h1,h2,_⟩:=p;exact PySem.W.kia_one PySem.W.kitx_tuple I.kIn ⟨o,h1,h2⟩ e (fun z=>nomatch z) h
  |@dK a kvs ea=>
    cases (show u=Value.ref a from rx)
    obtain⟨_,_,vs,_,p⟩:=(show ObjOk X.prog X.w H s.heap a (.dK kvs) from I.hok a _ ea);obtain⟨o,es,ep,h1,h2,_⟩:=p;exact PySem.W.kia_one PySem.W.kitx_dict I.kIn ⟨o,h1,h2.1⟩ e (fun z=>nomatch z) h
  |@dT a kvs ea=>
    cases (show u=Value.ref a from rx)
    obtain⟨_,_,xs,_,o,es,ep,h1,h2,_⟩:=(show ObjOk X.prog X.w H s.heap a (.dT kvs) from I.hok a _ ea);exact PySem.W.kia_one PySem.W.kitx_dict I.kIn ⟨o,h1,h2.1⟩ e (fun z=>nomatch z) h
  |@ins a C dx fs ea cl ha hn htk hm=>
    cases (show u=Value.ref a from rx)
    obtain⟨mA,O,_⟩:=ins_get I.hok ea;obtain⟨od,J,_⟩:=O.look;exact PySem.W.kia_one (PySem.W.kitx_own (cl.get _) cl.hd ha hn htk hm) I.kIn J e (fun z=>nomatch z) h
end
end L2

namespace L2
open PySem PySem.Spec PyProof.Rows

structure Room(k:Nat)(A:Around):Prop where
  hd:A.handled=none
  dp:A.depth+3 * k+5 < recursionLimit
  un:A.units+16 * k+200 < cLine
theorem Room.deeper{k:Nat}{A:Around}(r:Room (k+1) A)(env:Env):Room k (A.deeper env):=
  ⟨r.hd,by have:=r.dp;show A.depth+1+3 * k+5 < _;omega,by have:=r.un;show A.units+3+16 * k+200 < _;omega⟩
theorem Room.depth{k:Nat}{A:Around}(r:Room k A):A.depth < recursionLimit:=by have:=r.dp;omega
theorem Room.units{k:Nat}{A:Around}(r:Room k A):A.units+64 < cLine:=by have:=r.un;omega

noncomputable def tNil:TA:=fun _ H Q=>Q [] H
noncomputable def tCons(ta:TE)(tr:TA):TA:=fun σ H Q=>ta σ H fun x H1=>tr σ H1 fun xs H2=>Q (x :: xs) H2
section
variable {X:Cx}{e:Expr}{es:Li Expr}{te:TE}{t:TA}{pos:Pos}
theorem pa_nil:PA X [] tNil:=fun _ _ _ _ H Q I h=>Calls.spliced_nil ⟨[],H,I,.nil,h⟩
theorem pa_cons(ha:PE X e te)(hr:PA X es t)(hs:starEach (e :: es) X.env=(false,eval e X.env) :: starEach es X.env:=by rfl):PA X (e :: es) (tCons te t):=by
  intro pos pQ s σ H Q I h;rw[hs];show wpAny _ _ (spliced ((false,eval e X.env) :: backTo pos (starEach es X.env))) _ _ s;refine Calls.spliced_cons (thn (ha pQ s σ H _ I h) fun u s1 ⟨x,H1,I1,r1,q1⟩=>?_)
  exact thn (hr pos pQ s1 σ H1 _ I1 q1) fun us s2 ⟨xs,H2,I2,r2,q2⟩=>⟨x :: xs,H2,I2,.cons r1 r2,q2⟩

noncomputable def tTup(t:TA):TE:=fun σ H Q=>t σ H fun xs H1=>xs.length<=sizeLine/\∀ p,H1 p=none->Q (.ref p) (upd H1 p (.tup xs))
noncomputable def tLst(t:TA):TE:=fun σ H Q=>t σ H fun xs H1=>xs.length<=sizeLine/\∀ p,H1 p=none->Q (.ref p) (upd H1 p (.lst xs))
theorem pe_tup{x1}(h:PA X es t):PE X (.Tuple es x1 pos) (tTup t):=by
  intro pQ s σ H Q I hq;refine wpAny_Tuple_spliced (thn (h pos pQ s σ H _ I hq) fun us s1 ⟨xs,H1,I1,r,z,q⟩=>⟨by rw[<-r.length];exact z,?_⟩)
  have hf:H1 s1.heap.objs.size=none:=I1.hok.fresh (Nat.le_refl _);refine⟨.ref s1.heap.objs.size,upd H1 s1.heap.objs.size (.tup xs),I1.laid (t':=s1.toks) (fun b u e=>Heap.get?_push_of_some _ e) (Nat.le_refl _) ?_,rfl,q _ hf⟩
  exact⟨z,us,r,⟨_,Heap.get?_push_size _ rfl,rfl,_,rfl⟩⟩
theorem pe_lst(h:PA X es t):PE X (.List es pos) (tLst t):=by
  intro pQ s σ H Q I hq;refine wpAny_List_spliced (thn (h pos pQ s σ H _ I hq) fun us s1 ⟨xs,H1,I1,r,z,q⟩=>⟨by rw[<-r.length];exact z,?_⟩)
  have hf:H1 s1.heap.objs.size=none:=I1.hok.fresh (Nat.le_refl _);refine⟨.ref s1.heap.objs.size,upd H1 s1.heap.objs.size (.lst xs),I1.laid (t':=s1.toks) (fun b u e=>Heap.get?_push_of_some _ e) (Nat.le_refl _) ?_,rfl,q _ hf⟩
  exact⟨z,us,0,r,Heap.get?_push_size _ rfl⟩
end

abbrev Sp:=Li V->Hp->VK->XK->Prop
abbrev CXT:=Li Env->Hp->Sd->XK->vL->Sd->Prop

structure Env0(P:Program)(w:World)(K:Fg)(mg:Str->Option Value)(base:Heap)(A:Around)(outer:List Env)(s:Shared)(H:Hp):Prop where
  frames:A.frames=some outer
  mod:Mod K mg base
  bs:∀ b o,base.get? b=some o->s.heap.get? b=some o/\H b=none
  bsz:base.objs.size<=s.heap.objs.size
  funs:s.heap.FunFrames base outer
  frf:∀ b∈frs outer,H b=none
  hok:HOk P w H s.heap
  bare:AllBare s.gens
def CE(outer:Li Env)(P:Program)(w:World)(H:Hp)(s:Sd)(Q:VK)(u:vL)(s':Sd):Prop:=
  ∃ v H',s'.os=s.os/\AllBare s'.gens/\Un (frs outer) [] H H' s.heap s'.heap/\HOk P w H' s'.heap/\RelV v u/\Q v H'
def CR(CX:CXT)(outer:Li Env)(P:Program)(w:World)(H:Hp)(s:Sd)(Q:VK)(E:XK)(r:Result)(s':Sd):Prop:=
  match r with
  |.ok (.ret u)=>CE outer P w H s Q u s'
  |.ok _=>False
  |.error e=>CX outer H s E e s'
structure FnOk(P:Program)(w:World)(K:Fg)(mg:Str->Option Value)(base:Heap)(CX:CXT)(k:Nat)(f:Addr)(fd:FuncData)(ps:List Str)(sp:Sp):Prop where
  len:∀ vs H Q E,sp vs H Q E->vs.length=ps.length
  run:∀ (A:Around) (outer:List Env) (s:Shared) (H:Hp) (args:Args) (us:List Value) (vs:List V) (Q:VK) (E:XK),Room k A->Env0 P w K mg base A outer s H->BindsTo s fd args (ps.zip us)->Vals vs us->sp vs H Q E->
    codeAny (model P w) A (.call (.ref f) args) (CR CX outer P w H s Q E) s


section
variable {X:Cx}{pQ:Li (Ad×Obj)}{σ:St}{H:Hp}{s s':Sd}
theorem Inv.env0(I:Inv X pQ σ H s):Env0 X.prog X.w X.K X.mg X.base X.A X.stack s H:=
  ⟨I.ok.frames,I.ok.mod,I.bs,Nat.le_trans I.ok.bsz I.sz,I.stack,I.stkFree,I.hok,I.bare⟩
theorem Inv.after{Q:VK}{u:vL}(I:Inv X pQ σ H s)(h:CE X.stack X.prog X.w H s Q u s'):EP X pQ σ Q u s':=by
  obtain⟨v,H',os,bare,un,hok,r,q⟩:=h;obtain⟨hh,g,d,t,os'⟩:=s';obtain rfl:os'=s.os:=os;exact⟨v,H',I.call (h':=hh) (g':=g) (d':=d) (t':=t) (ch:=[]) un hok bare (fun b z=>absurd z (by simp)),r,q⟩
end

noncomputable def tCall(sp:Sp)(dvs:Li V)(E:XK)(t:TA):TE:=fun σ H Q=>t σ H fun vs H1=>sp (vs++dvs) H1 Q E

def Binds(K:Fg)(fd:FuncData)(ps:Li Str)(ds:Li vL):Prop:=
  ∀ (s:Sd) (us:Li vL),K.In s.heap->(us++ds).length=ps.length->BindsTo s fd ⟨us,[]⟩ (ps.zip (us++ds))
theorem Binds.all{K:Fg}{fd:FuncData}{ps:Li Str}(h:∀ us:Li vL,us.length=ps.length->bindArgs fd ⟨us,[]⟩=pure (ps.zip us)):Binds K fd ps []:=fun s us _ hl=>by
  rw[List.append_nil]at hl ⊢;exact .of_eq (h us hl)

def Passes(CX:CXT)(X:Cx)(E:XK):Prop:=∀ (pQ:Li (Ad×Obj)) (σ:St) (H:Hp) (s:Sd) (e:vL) (s':Sd),Inv X pQ σ H s->CX X.stack H s E e s'->X.xe e s'

section
variable {X:Cx}{CX:CXT}{k:Nat}{f C:Ad}{fd:FuncData}{ps:Li Str}{sp:Sp}{dvs:Li V}{ds:Li vL}{E:XK}{x m:Str}{p pos apos:Pos}{e o:Expr}{es:Li Expr}{ta:TE}{t:TA}

theorem run_fn{pQ:Li (Ad×Obj)}{σ:St}{H:Hp}{s:Sd}{Q:VK}{us:Li vL}{vs:Li V}(F:FnOk X.prog X.w X.K X.mg X.base CX k f fd ps sp)(hr:Room k X.A)(hb:Binds X.K fd ps ds)(hd:Vals dvs ds)(hx:Passes CX X E)(I:Inv X pQ σ H s)(r:Vals vs us)(h:sp (vs++dvs) H Q E):wpAny (model X.prog X.w) X.A (call (.ref f) us) (EP X pQ σ Q) X.xe s:=by
  have r2:Vals (vs++dvs) (us++ds):=r.append hd;have hl:(us++ds).length=ps.length:=by rw[<-r2.length];exact F.len _ _ _ _ h
  refine wpAny_call (codeAny_mono (F.run X.A X.stack s H ⟨us,[]⟩ (us++ds) (vs++dvs) Q E hr I.env0 (hb s us I.kIn hl) r2 h) fun r s' hq=>?_)
  cases r with
  |error e=>exact hx pQ σ H s e s' I hq
  |ok fl=>
    cases fl with
    |ret u=>exact I.after hq
    |next=>exact False.elim hq
    |brk=>exact False.elim hq
    |cont=>exact False.elim hq

theorem pe_call(F:FnOk X.prog X.w X.K X.mg X.base CX k f fd ps sp)(hr:Room k X.A)(hg:Gl X x)(hm:X.mg x=some (.ref f))(hk:PySem.W.keepIn X.K (.ref f)=true)(hb:Binds X.K fd ps ds)(hd:Vals dvs ds)(hx:Passes CX X E)(ha:PA X (e :: es) t)(hdb:(x==("__debug__":Str))=false:=by decide)(he:starEach (e :: es) X.env=(false,eval e X.env) :: starEach es X.env:=by rfl)(hpl:(backTo pos (starEach es X.env)).any (·.1)=false:=by rfl) :
    PE X (.Call (.Name x p) (e :: es) [] pos) (tCall sp dvs E t):=by
  intro pQ s σ H Q I h;refine wpAny_Call_Name_kw (ld_glob I hg hm ?_ hdb);refine PySem.W.callWith_K (h₀:=X.base) I.ok.mod.kin hk (thn (ha pos pQ s σ H _ I h) fun us s1 ⟨vs,H1,I1,r,q⟩=>⟨I1.kIn,?_⟩) he hpl
  exact run_fn F hr hb hd hx I1 r q
theorem pe_call0(F:FnOk X.prog X.w X.K X.mg X.base CX k f fd ps sp)(hr:Room k X.A)(hg:Gl X x)(hm:X.mg x=some (.ref f))(hk:PySem.W.keepIn X.K (.ref f)=true)(hb:Binds X.K fd ps ds)(hd:Vals dvs ds)(hx:Passes CX X E)(hdb:(x==("__debug__":Str))=false:=by decide):PE X (.Call (.Name x p) [] [] pos) (tCall sp dvs E tNil):=by
  intro pQ s σ H Q I h;refine wpAny_Call_Name_kw (ld_glob I hg hm ?_ hdb);exact PySem.W.callWith_K0 I.kIn hk (run_fn (us:=[]) F hr hb hd hx I .nil h)


structure Mk(K:Fg)(C f:Addr):Prop where
  makes:PySem.W.makesIn K C=true
  init:PySem.W.findIn K (.ref C) "__init__"=some (some (.ref f))
  fn:PySem.W.isFn K (.ref f)=true
  kp:PySem.W.keepIn K (.ref C)=true

end

section
variable {X:Cx}{CX:CXT}{k:Nat}{f C:Ad}{fd:FuncData}{ps ks:Li Str}{sp:Sp}{E:XK}{x m:Str}{p pos apos kpos:Pos}{e o:Expr}{es:Li Expr}{kws:Li Keyword}{te ta:TE}{t tk:TA}{nm:Ot Str}

structure KBinds(K:Fg)(fd:FuncData)(ps ks:List Str)(g:List Value->List Value->List Value)(gV:List V->List V->List V):Prop where
  to:∀ (s:Shared) (us ws:List Value),K.In s.heap->(g us ws).length=ps.length->BindsTo s fd ⟨us,ks.zip ws⟩ (ps.zip (g us ws))
  rel:∀ {vs:List V}{us:List Value}{zs:List V}{ws:List Value},Vals vs us->Vals zs ws->Vals (gV vs zs) (g us ws)
variable {g:Li vL->Li vL->Li vL}{gV:Li V->Li V->Li V}
end

structure FnScope(N P:List Str)(sc:Scope):Prop where
  kind:sc.kind=.function
  co:sc.isCoroutine=false
  gen:sc.isGenerator=false
  nd:N.Nodup
  pre:N.take P.length=P
  par:∀ x∈P,sc.names.lookup x=some .local\/sc.names.lookup x=some .cell
  nofree:∀ y∈sc.names,y.2≠.free

theorem bindL_out{kindOf:Str->Ot NameKind}{x:Str}:∀ {binds:Li (Str×vL)}{m:Str->Ot vL},(∀ v,(x,v)∉binds)->bindL kindOf binds m x=m x
  |[],_,_=>rfl
  | (n,v) :: r,m,h=>by
    unfold bindL;rw[bindL_out fun w hw=>h w (Lm _ hw)]
    split
    · have:x≠n:=by rintro rfl;exact h v Ls
      simp[this]
    · rfl
theorem bindC_out{kindOf:Str->Ot NameKind}{x:Str}:∀ {binds:Li (Str×vL)}{m:Str->Ot vL},(∀ v,(x,v)∉binds)->bindC kindOf binds m x=m x
  |[],_,_=>rfl
  | (n,v) :: r,m,h=>by
    unfold bindC;rw[bindC_out fun w hw=>h w (Lm _ hw)]
    split
    · rfl
    · have:x≠n:=by rintro rfl;exact h v Ls
      simp[this]
theorem bindL_get{kindOf:Str->Ot NameKind}{x:Str}{v:vL}:∀ {P:Li Str}{vs:Li vL}{i:Nat}{m:Str->Ot vL},P.Nodup->P[i]?=some x->vs[i]?=some v->kindOf x=some .local->
    bindL kindOf (P.zip vs) m x=some v
  |[],_,_,_,_,h,_,_=>by simp at h
  |_ :: _,[],_,_,_,_,h,_=>by simp at h
  |p :: P,w :: vs,0,m,nd,h1,h2,hk=>by
    simp at h1 h2;subst h1;subst h2;show bindL kindOf ((p,w) :: P.zip vs) m p=_;unfold bindL;rw[bindL_out fun v hv=>(List.nodup_cons.mp nd).1 (List.of_mem_zip hv).1,if_pos hk]
    simp
  |p :: P,w :: vs,i+1,m,nd,h1,h2,hk=>by
    show bindL kindOf ((p,w) :: P.zip vs) m x=_;unfold bindL;exact bindL_get (i:=i) (List.nodup_cons.mp nd).2 (by simpa using h1) (by simpa using h2) hk
theorem bindC_get{kindOf:Str->Ot NameKind}{x:Str}{v:vL}:∀ {P:Li Str}{vs:Li vL}{i:Nat}{m:Str->Ot vL},P.Nodup->P[i]?=some x->vs[i]?=some v->kindOf x≠some .local->
    bindC kindOf (P.zip vs) m x=some v
  |[],_,_,_,_,h,_,_=>by simp at h
  |_ :: _,[],_,_,_,_,h,_=>by simp at h
  |p :: P,w :: vs,0,m,nd,h1,h2,hk=>by
    simp at h1 h2;subst h1;subst h2;show bindC kindOf ((p,w) :: P.zip vs) m p=_;unfold bindC;rw[bindC_out fun v hv=>(List.nodup_cons.mp nd).1 (List.of_mem_zip hv).1,if_neg hk]
    simp
  |p :: P,w :: vs,i+1,m,nd,h1,h2,hk=>by
    show bindC kindOf ((p,w) :: P.zip vs) m x=_;unfold bindC;exact bindC_get (i:=i) (List.nodup_cons.mp nd).2 (by simpa using h1) (by simpa using h2) hk

noncomputable def start(N:Li Str)(vs:Li V):St:=vs.map some++List.replicate (N.length - vs.length) none

noncomputable def cxOf(CX:CXT)(P:Program)(w:World)(K:Fg)(mg:Str->Ot vL)(base:Heap)(N:Li Str)(qual:Str)(scope:Scope)(f:Ad)(cd:vL)(A:Around)(outer:Li Env)(s:Sd)(H:Hp)(E:XK):Cx where
  prog:=P
  w:=w
  K:=K
  mg:=mg
  base:=base
  A:=A.deeper (envOfC qual scope s.heap.objs.size f cd)
  N:=N
  s₀:=s
  H₀:=H
  env:=envOfC qual scope s.heap.objs.size f cd
  outer:=outer
  stack:=envOfC qual scope s.heap.objs.size f cd :: outer
  ex:=[]
  calm:=true
  fn:=fun _=>true
  pn:=[]
  xe:=fun e s'=>wpAny (model P w) (A.deeper (envOfC qual scope s.heap.objs.size f cd)) (leaving (envOfC qual scope s.heap.objs.size f cd) e) (fun _ s''=>CX outer H s E e s'') (fun e' s''=>CX outer H s E e' s'') s'

theorem cell_has{sc:Scope}{n:Nat}{x:Str}(h:sc.names.lookup x=some .cell):∃ c,(cellsFrom n sc.names []).lookup x=some c:=by
  have q:=PySem.W.cellsFrom_some sc.names n [] (.inl h);exact Option.isSome_iff_exists.mp q

theorem inv_start{CX:CXT}{P:Program}{w:World}{K:Fg}{mg:Str->Ot vL}{base:Heap}{N ps:Li Str}{qual:Str}{scope:Scope}{f:Ad}{cd:vL}{A:Around}{outer:Li Env}{s s1:Sd}{H:Hp}{E:XK}{us:Li vL}{vs:Li V}(S:FnScope N ps scope)(hd:A.handled=none)(e0:Env0 P w K mg base A outer s H)(hl:vs.length=ps.length)(r:Vals vs us)(x:InCallC s s.heap.objs.size (bindL (envOfC qual scope s.heap.objs.size f cd).kindOf (ps.zip us) fun _=>none) (cellsFrom (s.heap.objs.size+1) scope.names []) (bindC (envOfC qual scope s.heap.objs.size f cd).kindOf (ps.zip us) fun _=>none) s1) :
    Inv (cxOf CX P w K mg base N qual scope f cd A outer s H E) [] (start N vs) H s1:=by
  have hpl:ps.length<=N.length:=by have:=congrArg List.length S.pre;rw[List.length_take]at this;omega
  obtain⟨h1,tk,rfl,hk⟩:=x.done;have noA:∀ b:Ad,b∉(cxOf CX P w K mg base N qual scope f cd A outer s H E).ex:=fun b z=>absurd (show b∈([]:Li Ad) from z) (by simp)
  refine⟨⟨e0.mod,S.kind,rfl,rfl,Nat.le_refl _,fun y z c h1 h2=>?_,fun y hy=>?_,fun y c _ h=>?_,fun _=>hd,Around.frames_deeper e0.frames,.inr ⟨rfl,rfl⟩,fun b z=>absurd z (noA b),e0.bs,e0.bsz,fun b _ _=>noA b,fun b z=>absurd z (noA b),e0.funs,e0.frf⟩,
    rfl,e0.bare,Un.kept hk,⟨_,x.toInCall.ns,fun i y v h1 h2 h3=>?_⟩,fun y c h=>⟨_,x.cell y c h⟩,e0.hok.fresh (Nat.le_refl _),fun y c h=>?_,fun p hp=>absurd (show p∈([]:Li (Ad×Obj)) from hp) (by simp),e0.hok.kept hk,?_⟩
  · exact name_of_addr x.apart (PySem.mem_of_lookup h1) (PySem.mem_of_lookup h2)
  · have hy:scope.names.lookup y=some .cell\/scope.names.lookup y=some .free:=hy
    rcases hy with hy|hy
    · exact cell_has hy
    · exact absurd rfl (S.nofree _ (PySem.mem_of_lookup hy))
  · exact Nat.le_of_lt (x.above y c (PySem.mem_of_lookup h))
  · have hi:i < vs.length:=by
      unfold start at h2;by_cases hi:i < vs.length
      · exact hi
      · rw[List.getElem?_append_right (by simpa using hi)]at h2
        rw[List.getElem?_replicate]at h2;split at h2<;>cases h2
    have ha:vs[i]?=some v:=by
      unfold start at h2;rw[List.getElem?_append_left (by simpa using hi),List.getElem?_map]at h2
      cases e:vs[i]? with
      |none=>rw[e]at h2;cases h2
      |some a=>rw[e]at h2;cases h2;rfl
    obtain⟨u,hu,rv⟩:=r.get ha;have hp:ps[i]?=some y:=by
      rw[<-S.pre,List.getElem?_take_of_lt (by omega)];exact h1
    have ndP:ps.Nodup:=by rw[<-S.pre];exact S.nd.sublist (List.take_sublist _ _)
    refine⟨u,rv,?_⟩;rcases S.par y (List.mem_of_getElem? hp) with k|k
    · exact .inl ⟨k,bindL_get ndP hp hu k⟩
    · obtain⟨c,e⟩:=cell_has (n:=s.heap.objs.size+1) k
      refine .inr ⟨.inl k,c,e,?_⟩;have q:=x.cell y c e;rw[bindC_get ndP hp hu (by show scope.names.lookup y≠_;rw[k];decide)]at q
      exact q
  · exact e0.hok.fresh (Nat.le_of_lt (x.above y c (PySem.mem_of_lookup h)))
  · unfold start
    show _=N.length;rw[List.length_append,List.length_map,List.length_replicate];omega

theorem fn_of{CX:CXT}{P:Program}{w:World}{K:Fg}{mg:Str->Ot vL}{base:Heap}{k:Nat}{f:Ad}{name qual:Str}{params:Arguments}{body:Li Stmt}{scope:Scope}{dV kV doc pm cdv ct oc:vL}{an od:Ot Ad}{osl:Array (Ot vL)}{N ps:Li Str}{sp:Sp}(lk:K.lookup f=some ⟨oc,od,.func (PySem.W.fnOf name qual params body scope dV kV doc pm an cdv ct),osl⟩)(hcd:PySem.W.codeIn K cdv qual=true)(S:FnScope N ps scope)(len:∀ vs H Q E,sp vs H Q E->vs.length=ps.length)(hbody:∀ (A:Around) (outer:Li Env) (s:Sd) (H:Hp) (vs:Li V) (Q:VK) (E:XK),Room k (A.deeper (envOfC qual scope s.heap.objs.size f cdv))->sp vs H Q E->
      ∃ t,PSs (cxOf CX P w K mg base N qual scope f cdv A outer s H E) body t/\t { nx:=fun _ H'=>Q .non H',rt:=Q } (start N vs) H) :
    FnOk P w K mg base CX (k+1) f (PySem.W.fnOf name qual params body scope dV kV doc pm an cdv ct) ps sp:=by
  refine⟨len,fun A outer s H args us vs Q E hr e0 hb r hsp=>?_⟩
  have hl:=len _ _ _ _ hsp;have KX:K.In s.heap:=e0.mod.kin.keeps fun b o e=>(e0.bs b o e).1
  have lim:s.heap.NoLimit:=e0.mod.nolimit.keeps fun b o e=>(e0.bs b o e).1
  have hkind:∀ y∈ps.zip us,scope.names.lookup y.1=some .local\/(scope.names.lookup y.1=some .cell/\((cellsFrom (s.heap.objs.size+1) scope.names []).lookup y.1).isSome=true):=fun⟨n,v⟩ hy=>by
    rcases S.par n (List.of_mem_zip hy).1 with q|q
    · exact .inl q
    · exact .inr ⟨q,PySem.W.cellsFrom_some _ _ _ (.inl q)⟩
  refine codeAny_call_function hr.depth (KX _ _ lk) rfl S.co S.gen rfl (PySem.W.codeRec_of KX hcd) (hb _ _ _ _ ?_);refine wpAny_newFunctionEnv_cells S.kind hkind fun env he s1 x=>?_
  subst he;refine⟨lim.keeps x.toInCall.keep,codeAny_func ?_⟩;obtain⟨t,ht,hq⟩:=hbody A outer s H vs Q E (hr.deeper _) hsp;have I:Inv (cxOf CX P w K mg base N qual scope f cdv A outer s H E) [] (start N vs) H s1:=inv_start S hr.hd e0 hl r x;refine wpAny_mono (ht [] s1 (start N vs) H _ I hq) (fun fl s' hs=>?_) fun e s' hs=>hs
  have fin:∀ {σ':St}{H':Hp}{v:V}{u:vL},Inv (cxOf CX P w K mg base N qual scope f cdv A outer s H E) [] σ' H' s'->RelV v u->Q v H'->CE outer P w H s Q u s':=
    fun {σ' H' v u} J rv q=>⟨v,H',J.os,J.bare,J.base,J.hok,rv,q⟩
  cases fl with
  |ret u=>
    obtain⟨v,σ',H',J,rv,q⟩:=hs;exact fin J rv q
  |next=>
    obtain⟨σ',H',J,q⟩:=hs;exact fin (v:=V.non) (u:=Value.none) J rfl q
  |brk=>
    obtain⟨_,_,_,q⟩:=hs;exact False.elim q
  |cont=>
    obtain⟨_,_,_,q⟩:=hs;exact False.elim q
end L2

namespace L2
open PySem PySem.Spec PyProof.Rows
section
variable {X:Cx}{x:Str}{p pos:Pos}{e:Expr}{es:Li Expr}{t:TA}{id T:String}{r:Li V->Hp->VK->Prop}

noncomputable def tCB(r:Li V->Hp->VK->Prop)(t:TA):TE:=fun σ H Q=>t σ H fun vs H1=>r vs H1 Q
theorem pe_callB(hc:CallR X (.builtin id) r)(hg:Gl X x)(hm:X.mg x=none)(hv:bootBuiltins x=some (.builtin id))(ha:PA X (e :: es) t)(hn:x ≠ "__name__":=by decide)(hdb:(x==("__debug__":Str))=false:=by decide)(he:starEach (e :: es) X.env=(false,eval e X.env) :: starEach es X.env:=by rfl)(hpl:(backTo pos (starEach es X.env)).any (·.1)=false:=by rfl):PE X (.Call (.Name x p) (e :: es) [] pos) (tCB r t):=by
  intro pQ s σ H Q I h;refine wpAny_Call_Name_kw (ld_blt I hg hm hv ?_ hn hdb);exact PyProof.Rows.callWith_builtin1 (thn (ha pos pQ s σ H _ I h) fun us s1 ⟨vs,H1,I1,r1,q1⟩=>hc pQ s1 σ H1 vs us Q I1 r1 q1) he hpl
theorem pe_callTy(hc:CallR X (.type T) r)(hg:Gl X x)(hm:X.mg x=none)(hv:bootBuiltins x=some (.type T))(ha:PA X (e :: es) t)(hn:x ≠ "__name__":=by decide)(hdb:(x==("__debug__":Str))=false:=by decide)(he:starEach (e :: es) X.env=(false,eval e X.env) :: starEach es X.env:=by rfl)(hpl:(backTo pos (starEach es X.env)).any (·.1)=false:=by rfl):PE X (.Call (.Name x p) (e :: es) [] pos) (tCB r t):=by
  intro pQ s σ H Q I h;refine wpAny_Call_Name_kw (ld_blt I hg hm hv ?_ hn hdb);exact PyProof.Rows.callWith_type1 (thn (ha pos pQ s σ H _ I h) fun us s1 ⟨vs,H1,I1,r1,q1⟩=>hc pQ s1 σ H1 vs us Q I1 r1 q1) he hpl
end
end L2

namespace HT
open PySem PyProof.Rows



section
open PySem.SeqAt
open PySem.AutoSeq1 (wpAny_loadPart')
open PySem.MeetsSeq PySem.MeetsSeq2 PySem.MeetsSeq3

end

section
variable {prog:Program}{w:World}{A:Around}{E:vL->Sd->Prop}{s:Sd}


theorem cat_tup{t b:Ad}{vs ws:Li vL}{Q:vL->Sd->Prop}(ht:IsTup s.heap t vs.toArray)(hb:IsTup s.heap b ws.toArray)(hv:vs≠[])(h1:ws=[]->Q (.ref t) s)(h2:ws≠[]->Q (.ref s.heap.objs.size) { s with heap:=s.heap.push { cls:=.type "tuple",data:=.seq (vs++ws).toArray } })(hsz:vs.length+ws.length<=sizeLine):wpAny (model prog w) A (binaryOp .Add (.ref t) (.ref b)) Q E s:=by
  obtain⟨⟨cls,dd,data,sl⟩,ho,hc,n,hd⟩:=id ht;obtain⟨⟨cls2,dd2,data2,sl2⟩,ho2,hc2,n2,hd2⟩:=id hb;simp only at hc hd hc2 hd2;subst hc hd hc2 hd2;have e:vs.toArray++ws.toArray=(vs++ws).toArray:=by simp
  by_cases hw:ws=[]
  · exact concat_meets ⟨_,ho,rfl⟩ ⟨_,ho2,rfl⟩ noFill_tuple_add seq_tuple_add PySem.F.slot_tuple_add PySem.F.entry_tuple_add (PySem.F.args_tuple_add_2 _ _)
      (tuple_addW1 t b vs.toArray ws.toArray n n2 dd dd2 sl sl2 (by simpa using hv) (by simp[hw])) ⟨ho,ho2,h1 hw⟩
  · refine concat_meets ⟨_,ho,rfl⟩ ⟨_,ho2,rfl⟩ noFill_tuple_add seq_tuple_add PySem.F.slot_tuple_add PySem.F.entry_tuple_add (PySem.F.args_tuple_add_2 _ _)
      (tuple_addW2 t b vs.toArray ws.toArray n n2 dd dd2 sl sl2 (by simpa using hv) (by simpa using hw) (by rw[List.size_toArray,List.size_toArray];exact hsz)) ⟨ho,ho2,?_⟩
    rw[e];exact h2 hw

noncomputable def sIx(n d:Nat):Ot Int->Nat
  |none=>d
  |some v=>if v < 0 then (v+(n:Int)).toNat else min v.toNat n
theorem sIx_le(n d:Nat)(hd:d<=n)(o:Ot Int):sIx n d o<=n:=by
  cases o with
  |none=>exact hd
  |some v=>
    show(if v < 0 then (v+(n:Int)).toNat else min v.toNat n)<=n
    by_cases hv:v < 0
    · rw[if_pos hv];omega
    · rw[if_neg hv];exact Nat.min_le_right _ _
theorem clip_eq(v:Int)(n d:Nat):(if v < 0 then max (v+(n:Int)) 0 else min v (n:Int))=((sIx n d (some v):Nat):Int):=by
  show(if v < 0 then max (v+(n:Int)) 0 else min v (n:Int))=(((if v < 0 then (v+(n:Int)).toNat else min v.toNat n):Nat):Int)
  by_cases hv:v < 0
  · simp only[if_pos hv];omega
  · simp only[if_neg hv];omega
theorem adjust_gen(lo hi:Ot Int)(n:Nat):Builtin.Slice.sliceAdjust lo hi 1 (n:Int)=(((sIx n 0 lo:Nat):Int),((sIx n n hi:Nat):Int)):=by
  have h1:¬((1:Int) < 0):=by omega
  unfold Builtin.Slice.sliceAdjust;simp only[h1,if_false];refine Prod.ext ?_ ?_
  · cases lo with
    |none=>rfl
    |some v=>exact clip_eq v n 0
  · cases hi with
    |none=>rfl
    |some v=>exact clip_eq v n n
theorem places_gen(i j:Nat):Builtin.Slice.slicePlaces (i:Int) (j:Int) 1=j - i:=by
  unfold Builtin.Slice.slicePlaces;have h1:(1:Int) > 0:=by omega
  simp only[h1,if_true,Int.ediv_one];split<;>omega
theorem slicePart_{v:vL}{o:Ot Int}{Q:Ot Int->Sd->Prop}(p:IsPart v o)(h:Q o s):wpAny (model prog w) A (Builtin.Slice.slicePartIndex v) Q E s:=by
  cases p with
  |none=>exact slicePart_none h
  |int i t=>exact slicePart_int h
theorem sliceApplied_gen{sl:Ad}{vl vu:vL}{lo hi:Ot Int}{n:Nat}{Q:Int×Int×Nat->Sd->Prop}(hs:s.heap.IsSliceOf sl vl vu .none)(pl:IsPart vl lo)(pu:IsPart vu hi)(h:Q (((sIx n 0 lo:Nat):Int),1,sIx n n hi - sIx n 0 lo) s):wpAny (model prog w) A (Builtin.Slice.sliceApplied (.ref sl) (pure (n:Int))) Q E s:=by
  obtain⟨os,hos,hcs,hds⟩:=id hs;unfold Builtin.Slice.sliceApplied Builtin.Slice.sliceFields;refine wpAny_bind (wpAny_bind (wpAny_field hos hds (x:=vl) rfl (wpAny_bind (wpAny_field hos hds (x:=vu) rfl (wpAny_bind (wpAny_field hos hds (x:=.none) rfl (wpAny_pure ?_)))))));refine wpAny_bind (slicePart_none ?_);show wpAny _ _ (if ((1:Int)==0)=true then _ else _) _ _ s
  rw[if_neg (by decide)]
  refine wpAny_bind (slicePart_ pl (wpAny_bind (slicePart_ pu (wpAny_bind (wpAny_pure ?_)))));show wpAny _ _ (match Builtin.Slice.sliceAdjust lo hi 1 (n:Int) with | (lo,hi)=>pure (lo,(1:Int),Builtin.Slice.slicePlaces lo hi 1)) _ _ s
  rw[adjust_gen lo hi n];show wpAny _ _ (pure (((sIx n 0 lo:Nat):Int),(1:Int),Builtin.Slice.slicePlaces ((sIx n 0 lo:Nat):Int) ((sIx n n hi:Nat):Int) 1)) _ _ s;rw[places_gen];exact wpAny_pure h
theorem pick_gen(xs:Array vL)(i k:Nat):((List.range k).filterMap fun(m:Nat)=>xs[((i:Int)+(m:Int) * 1).toNat]?).toArray=((xs.toList.drop i).take k).toArray:=by
  have e:(fun(m:Nat)=>xs[((i:Int)+(m:Int) * 1).toNat]?)=fun m=>xs[i+m]?:=by
    funext m
    have:((i:Int)+(m:Int) * 1).toNat=i+m:=by omega
    rw[this]
  rw[e];have:=pick_run xs i k;rw[List.filterMap_map]at this;have e2:((fun x=>xs[x]?) ∘ fun x=>i+x)=fun m=>xs[i+m]?:=rfl
  rw[e2]at this;rw[this]

theorem getItem_tuple_cut{t sl:Ad}{items:Array vL}{vl vu:vL}{lo hi:Ot Int}{Q:vL->Sd->Prop}(ht:IsTup s.heap t items)(hs:s.heap.IsSliceOf sl vl vu .none)(pl:IsPart vl lo)(pu:IsPart vu hi)(hw:¬(sIx items.size 0 lo=0/\sIx items.size items.size hi=items.size))(h:Q (.ref s.heap.objs.size) { s with heap:=s.heap.push { cls:=.type "tuple",data:=.seq ((items.toList.drop (sIx items.size 0 lo)).take (sIx items.size items.size hi - sIx items.size 0 lo)).toArray } })(hsz:items.size<=sizeLine):wpAny (model prog w) A (getItem (.ref t) (.ref sl)) Q E s:=by
  have htake:sizeOk (.seq ((items.toList.drop (sIx items.size 0 lo)).take (sIx items.size items.size hi - sIx items.size 0 lo)).toArray):=by
    show((items.toList.drop (sIx items.size 0 lo)).take (sIx items.size items.size hi - sIx items.size 0 lo)).toArray.size<=sizeLine;rw[List.size_toArray,List.length_take,List.length_drop,Array.length_toList];omega
  have hj:sIx items.size items.size hi<=items.size:=sIx_le _ _ (Nat.le_refl _) hi;obtain⟨os,hos,hcs,hds⟩:=id hs;have hTs:s.TypeIs (.ref sl) "slice":=⟨os,hos,hcs⟩;unfold getItem
  try with_reducible refine wpAny_holding ?_
  first|refine wpAny_bind (wpAny_pure ?_)|skip
  refine wpAny_bind (wpAny_sequenceKey ht.typeIs (by decide) ?_)
  refine wpAny_bind (wpAny_callSpecial?_slot (name:=Str.ofString "__getitem__") ht.typeIs PyProof.Rows.slot_tuple_getitem
    (wpAny_call_entry PyProof.Rows.slot_tuple_getitem ht.typeIs entry_tuple_getitem ?_ (args_tuple_getitem _ _)))
  show wpAny _ _ (Builtin.Tuple.tupleItemsOf (.ref t) >>= _) _ _ s;refine wpAny_bind (tupleItemsOf_ ht ?_);refine wpAny_bind (wpAny_typeOf hTs ?_);rw[if_pos (by decide)]
  refine wpAny_bind (sliceApplied_gen hs pl pu ?_);have hno:¬((((sIx items.size 0 lo:Nat):Int)==0&&(1:Int)==1&&(sIx items.size items.size hi - sIx items.size 0 lo)==items.size)=true):=by
    intro q;rw[Ba,Ba]at q;have q1:((sIx items.size 0 lo:Nat):Int)=0:=eq_of_beq q.1.1;have q2:sIx items.size items.size hi - sIx items.size 0 lo=items.size:=eq_of_beq q.2;exact hw ⟨by omega,by omega⟩
  show wpAny _ _ (if (((sIx items.size 0 lo:Nat):Int)==0&&(1:Int)==1&&(sIx items.size items.size hi - sIx items.size 0 lo)==items.size)=true then _ else _) _ _ s
  rw[if_neg hno,pick_gen]
  first
    |exact wpAny_bind (m:=Builtin.Tuple.tupleExact _) (wpAny_newObj_type (wpAny_pure ⟨_,rfl,wpAny_pure h⟩) htake)
    |exact wpAny_bind (m:=Builtin.Tuple.tupleExact _) (wpAny_newObj_type (wpAny_bind (wpAny_pure (wpAny_pure ⟨_,rfl,wpAny_pure h⟩))) htake)
    |exact wpAny_bind (wpAny_bind (m:=Builtin.Tuple.tupleExact _) (wpAny_newObj_type (wpAny_pure (wpAny_pure ⟨_,rfl,wpAny_pure h⟩)) htake))
    |exact wpAny_bind (wpAny_bind (m:=Builtin.Tuple.tupleExact _) (wpAny_newObj_type (wpAny_pure ⟨_,rfl,wpAny_pure h⟩) htake))
end
end HT

namespace L2
open PySem PySem.Spec PyProof.Rows

abbrev TO:=St->Hp->(Ot Int->Hp->Prop)->Prop
def PO(X:Cx)(e:Ot Expr)(t:TO):Prop:=
  ∀ (pQ:Li (Ad×Obj)) (s:Sd) (σ:St) (H:Hp) (Q:Ot Int->Hp->Prop),Inv X pQ σ H s->t σ H Q->
    wpAny (model X.prog X.w) X.A (evalPart e X.env) (fun u s'=>∃ o H',Inv X pQ σ H' s'/\IsPart u o/\Q o H') X.xe s
noncomputable def tNoPart:TO:=fun _ H Q=>Q none H
noncomputable def tPart(t:TE):TO:=fun σ H Q=>t σ H fun x H1=>∃ i,x=.int i/\Q (some i) H1


section
variable {X:Cx}{e:Expr}{te:TE}{lo hi:Ot Expr}{tl th:TO}{pos p2:Pos}

theorem po_none:PO X none tNoPart:=by
  intro pQ s σ H Q I h;rw[evalPart_none];exact wpAny_pure ⟨none,H,I,.none,h⟩
theorem po_some(h:PE X e te):PO X (some e) (tPart te):=by
  intro pQ s σ H Q I hw;rw[evalPart_some];refine thn (h pQ s σ H _ I hw) fun u s1 ⟨x,H1,I1,r1,q1⟩=>?_
  obtain⟨i,rfl,q⟩:=q1;obtain⟨t,rfl⟩:=r1;exact⟨some i,H1,I1,.int i t,q⟩

def SlR(X:Cx)(r:V->Ot Int->Ot Int->Hp->VK->Prop):Prop:=
  ∀ (pQ:Li (Ad×Obj)) (s:Sd) (σ:St) (H:Hp) (x:V) (v vl vu:vL) (lo hi:Ot Int) (sl:Ad) (Q:VK),Inv X pQ σ H s->RelV x v->s.heap.IsSliceOf sl vl vu .none->IsPart vl lo->IsPart vu hi->r x lo hi H Q->
    ∃ T id,typeLookup (.type T) "__getitem__"=pure (some (.builtin id))/\s.TypeIs v T/\wpAny (model X.prog X.w) X.A (getItem v (.ref sl)) (EP X pQ σ Q) X.xe s
noncomputable def tSl(r:V->Ot Int->Ot Int->Hp->VK->Prop)(te:TE)(tl th:TO):TE:=fun σ H Q=>te σ H fun x H1=>tl σ H1 fun l H2=>th σ H2 fun u H3=>r x l u H3 Q
theorem pe_slice{r:V->Ot Int->Ot Int->Hp->VK->Prop}(hr:SlR X r)(he:PE X e te)(hl:PO X lo tl)(hu:PO X hi th):PE X (.Subscript e (.Slice lo hi none p2) pos) (tSl r te tl th):=by
  intro pQ s σ H Q I h;refine Subscript_ (thn (he pQ s σ H _ I h) fun v s1 ⟨x,H1,I1,r1,q1⟩=>?_)
  refine wpAny_Slice (thn (hl pQ s1 σ H1 _ I1 q1) fun vl s2 ⟨l,H2,I2,pl,q2⟩=>thn (hu pQ s2 σ H2 _ I2 q2) fun vu s3 ⟨u,H3,I3,pu,q3⟩=>?_)
  rw[evalPart_none];refine wpAny_pure ?_;have I4:Inv X pQ σ H3 { s3 with heap:=s3.heap.push { cls:=.type "slice",data:=.fields #[vl,vu,.none] } }:=I3.kept (t':=s3.toks) fun b ob q=>Heap.get?_push_of_some _ q
  obtain⟨T,id,hT,ht,hg⟩:=hr pQ { s3 with heap:=s3.heap.push { cls:=.type "slice",data:=.fields #[vl,vu,.none] } } σ H3 x v vl vu l u s3.heap.objs.size Q I4 r1 (Heap.IsSliceOf.new ..) pl pu q3
  show wpAny (model X.prog X.w) X.A (subscriptTail e (.Slice lo hi none p2) v (.ref s3.heap.objs.size)) (EP X pQ σ Q) X.xe { s3 with heap:=s3.heap.push { cls:=.type "slice",data:=.fields #[vl,vu,.none] } }
  exact tail_any (ops:=[.ref s3.heap.objs.size,v]) ht hT hg (by with_unfolding_all rfl)

noncomputable def cutV(xs:Li V)(lo hi:Ot Int):Li V:=(xs.drop (HT.sIx xs.length 0 lo)).take (HT.sIx xs.length xs.length hi - HT.sIx xs.length 0 lo)
theorem cutV_length(xs:Li V)(lo hi:Ot Int):(cutV xs lo hi).length<=xs.length:=by
  unfold cutV;rw[List.length_take,List.length_drop];omega
def rSlT(K:Fg):V->Ot Int->Ot Int->Hp->VK->Prop:=fun x lo hi H Q=>∃ a xs,x=.ref a/\SqT K H a xs /\
  ¬(HT.sIx xs.length 0 lo=0/\HT.sIx xs.length xs.length hi=xs.length)/\∀ p,H p=none->Q (.ref p) (upd H p (.tup (cutV xs lo hi)))
theorem sl_tup:SlR X (rSlT X.K):=by
  intro pQ s σ H x v vl vu lo hi sl Q I rx hs pl pu h;obtain⟨a,xs,rfl,hx,hw,q⟩:=h;cases rx;obtain⟨its,r,ht,hz⟩:=I.tuple hx;have hlen:its.toArray.size=xs.length:=by rw[List.size_toArray];exact r.length.symm
  refine⟨"tuple",_,PyProof.Rows.slot_tuple_getitem.lookup,ht.typeIs,?_⟩;refine HT.getItem_tuple_cut ht hs pl pu (by rw[hlen];exact hw) ?_ (by rw[hlen];exact hz)
  rw[hlen];refine⟨.ref s.heap.objs.size,_,I.laid (t':=s.toks) (o:=.tup (cutV xs lo hi)) (fun b ob q=>Heap.get?_push_of_some _ q) (Nat.le_refl _) ?_,rfl,q _ (I.hok.fresh (Nat.le_refl _))⟩
  exact⟨Nat.le_trans (cutV_length xs lo hi) hz,_,(r.drop (HT.sIx xs.length 0 lo)).take (HT.sIx xs.length xs.length hi - HT.sIx xs.length 0 lo),IsTup.new _ _⟩

noncomputable def rCatT(K:Fg):R2:=fun x y H Q=>∃ a b xs ys,x=.ref a/\y=.ref b/\SqT K H a xs/\SqT K H b ys/\xs≠[]/\xs.length+ys.length<=sizeLine /\
  (ys=[]->Q (.ref a) H)/\(ys≠[]->∀ p,H p=none->Q (.ref p) (upd H p (.tup (xs++ys))))
theorem Vals.nil_iff{xs:Li V}{us:Li vL}(r:Vals xs us):us=[]↔xs=[]:=by
  cases r with
  |nil=>simp
  |cons _ _=>simp
theorem op_catT:OpR X (binaryOp .Add) (rCatT X.K):=by
  intro pQ s σ H x y v u Q I rx ry h;obtain⟨a,b,xs,ys,rfl,rfl,ha,hb,hx,hz,q1,q2⟩:=h;cases rx;cases ry;obtain⟨its,r1,p1,_⟩:=I.tuple ha;obtain⟨its2,r2,p2,_⟩:=I.tuple hb;refine HT.cat_tup p1 p2 (fun z=>hx (r1.nil_iff.mp z)) (fun z=>⟨.ref a,H,I,rfl,q1 (r2.nil_iff.mp z)⟩) (fun z=>?_) (by rw[<-r1.length,<-r2.length];exact hz)
  refine⟨.ref s.heap.objs.size,_,I.laid (t':=s.toks) (o:=.tup (xs++ys)) (fun b ob q=>Heap.get?_push_of_some _ q) (Nat.le_refl _) ?_,rfl,q2 (fun w=>z (r2.nil_iff.mpr w)) _ (I.hok.fresh (Nat.le_refl _))⟩
  exact⟨by rw[List.length_append];exact hz,_,r1.append r2,IsTup.new _ _⟩
end
end L2

namespace L2
open PySem PySem.Spec PyProof.Rows

noncomputable def ixN(n:Nat)(i:Int):Ot Nat:=if 0<=i then (if i < n then some i.toNat else none) else if -(n:Int)<=i then some (i+n).toNat else none
noncomputable def atI{α:Type}(xs:Li α)(i:Int):Ot α:=(ixN xs.length i).bind fun j=>xs[j]?
theorem ixN_seq{n:Nat}{i:Int}{j:Nat}(h:ixN n i=some j):seqIndex? i n=some j/\j < n/\-(n:Int)<=i/\i < n:=by
  unfold ixN at h;by_cases h0:0<=i
  · rw[if_pos h0]at h
    by_cases h1:i < n
    · rw[if_pos h1]at h
      have e:i.toNat=j:=Option.some.inj h;exact⟨by rw[seqIndex_of h0 h1,e],by omega,by omega,h1⟩
    · rw[if_neg h1]at h;cases h
  · rw[if_neg h0]at h
    by_cases h1:-(n:Int)<=i
    · rw[if_pos h1]at h
      have e:(i+n).toNat=j:=Option.some.inj h;exact⟨by rw[seqIndex_neg (by omega) h1,e],by omega,h1,by omega⟩
    · rw[if_neg h1]at h;cases h
theorem atI_get{α:Type}{xs:Li α}{i:Int}{v:α}(h:atI xs i=some v):∃ j,seqIndex? i xs.length=some j/\xs[j]?=some v/\j < xs.length/\-(xs.length:Int)<=i/\i < xs.length:=by
  unfold atI at h;cases e:ixN xs.length i with
  |none=>rw[e]at h;cases h
  |some j=>
    rw[e]at h;obtain⟨h1,h2,h3,h4⟩:=ixN_seq e;exact⟨j,h1,h,h2,h3,h4⟩

def PlainIx(b:Expr):Prop:=∀ o i,subscripted b false o i=operate [o,i] (getItem o i)
def IxR(X:Cx)(r:R2):Prop:=
  ∀ (value slice:Expr) (pQ:Li (Ad×Obj)) (s:Sd) (σ:St) (H:Hp) (x y:V) (v u:vL) (Q:VK),Inv X pQ σ H s->RelV x v->RelV y u->r x y H Q->
    subscripted slice false v u=operate [v,u] (getItem v u)->wpAny (model X.prog X.w) X.A (subscriptTail value slice v u) (EP X pQ σ Q) X.xe s
def MtR(X:Cx)(id:String)(r:V->Li V->Hp->VK->Prop):Prop:=
  ∀ (pQ:Li (Ad×Obj)) (s:Sd) (σ:St) (H:Hp) (x:V) (xs:Li V) (v:vL) (us:Li vL) (Q:VK),Inv X pQ σ H s->RelV x v->Vals xs us->r x xs H Q->
    wpAny (model X.prog X.w) X.A (call (.builtin id) (v :: us)) (EP X pQ σ Q) X.xe s
section
variable {X:Cx}{a b:Expr}{ta tb:TE}{pos:Pos}
theorem pe_ix{r:R2}(hr:IxR X r)(ha:PE X a ta)(hb:PE X b tb)(hs:PlainIx b):PE X (.Subscript a b pos) (tOp r ta tb):=by
  intro pQ s σ H Q I h;exact Subscript_ (binT ha hb I h fun v u s2 x y H2 I2 rx ry q=>hr a b pQ s2 σ H2 x y v u Q I2 rx ry q (hs _ _))

noncomputable def rIxL(K:Fg):R2:=fun x y H Q=>∃ p xs i v,x=.ref p/\y=.int i/\SqL K H p xs/\atI xs i=some v/\Q v H
noncomputable def rIxT(K:Fg):R2:=fun x y H Q=>∃ p xs i v,x=.ref p/\y=.int i/\SqT K H p xs/\atI xs i=some v/\Q v H
noncomputable def rIxS:R2:=fun x y H Q=>∃ z i c,x=.str z/\y=.int i/\z.length<=sizeLine/\atI z.cps.toList i=some c/\Q (.str ⟨#[c]⟩) H
theorem ix_list:IxR X (rIxL X.K):=by
  intro value slice pQ s σ H x y v u Q I rx ry h hs;obtain⟨p,xs,i,z,rfl,rfl,hq,he,q⟩:=h;cases rx;obtain⟨t,rfl⟩:=ry;obtain⟨its,r,pl,hz⟩:=I.list hq;obtain⟨j,h1,h2,h3,h4,h5⟩:=atI_get he;obtain⟨w,ew,rw'⟩:=r.get h2;have hl:=r.length;have hn:=line63;have fin:EP X pQ σ Q w s:=⟨z,H,I,rw',q⟩;by_cases h0:0<=i
  · have hj:i.toNat=j:=by
      rw[seqIndex_of h0 h5]at h1;exact Option.some.inj h1
    exact item_listR pl.isList h0 (by omega) (by rw[hj];simpa using ew) fin hs
  · have hj:(i+(its.toArray.size:Int)).toNat=j:=by
      rw[seqIndex_neg (by omega) h4]at h1
      rw[List.size_toArray,<-hl];exact Option.some.inj h1
    exact subscriptTail_builtinR (x:=w) pl.isList.typeIs slot_list_getitem.lookup
      (wpAny_getItem_list_neg (Q:=fun r s'=>r=w/\EP X pQ σ Q r s') pl.isList (by omega) (by rw[List.size_toArray]<;>omega) (by omega) (by rw[hj];simpa using ew) ⟨rfl,fin⟩) hs
theorem ix_tup:IxR X (rIxT X.K):=by
  intro value slice pQ s σ H x y v u Q I rx ry h hs;obtain⟨p,xs,i,z,rfl,rfl,hq,he,q⟩:=h;cases rx;obtain⟨t,rfl⟩:=ry;obtain⟨its,r,pl,hz⟩:=I.tuple hq;obtain⟨j,h1,h2,h3,h4,h5⟩:=atI_get he;obtain⟨w,ew,rw'⟩:=r.get h2;have hl:=r.length;have hn:=line63;have fin:EP X pQ σ Q w s:=⟨z,H,I,rw',q⟩;exact subscriptTail_builtinR (x:=w) pl.typeIs slot_tuple_getitem.lookup
    (getItem_tuple (j:=j) (Q:=fun r s'=>r=w/\EP X pQ σ Q r s') pl (by omega) (by omega) (by rw[List.size_toArray,<-hl];exact h1) (by simpa using ew) ⟨rfl,fin⟩) hs
theorem ix_str:IxR X rIxS:=by
  intro value slice pQ s σ H x y v u Q I rx ry h hs;obtain⟨z,i,c,rfl,rfl,hz,he,q⟩:=h;obtain⟨t,rfl⟩:=rx;obtain⟨t',rfl⟩:=ry;obtain⟨j,h1,h2,h3,h4,h5⟩:=atI_get he;have hl:z.cps.toList.length=z.length:=by simp[Str.length]
  rw[hl]at h1 h4 h5;have hn:=line63;exact tail_any (typeIs_str s z t) slot_str_getitem.lookup (getItem_str (c:=c) (by
    have e1:decide (i < -(2 ^ 63:Int))=false:=decide_eq_false (by omega)
    have e2:decide (i>=2 ^ 63)=false:=decide_eq_false (by omega)
    rw[e1,e2,Bool.or_false]) (by rw[h1];simpa using h2) ⟨.str ⟨#[c]⟩,H,I.tok _,⟨_,rfl⟩,q⟩) hs

theorem mapSeq_set(its:Li vL)(n j:Nat)(u:vL):Obj.mapSeq (·.setIfInBounds j u) { cls:=.type "list",data:=.seq its.toArray n }={ cls:=.type "list",data:=.seq (its.set j u).toArray n }:=by
  simp[Obj.mapSeq]
theorem Inv.lst{pQ:Li (Ad×Obj)}{σ:St}{H:Hp}{s:Sd}{p:Ad}{xs:Li V}(I:Inv X pQ σ H s)(h:H p=some (.lst xs)) :
    ∃ (its:Li vL) (n:Nat),Vals xs its/\s.heap.get? p=some { cls:=.type "list",data:=.seq its.toArray n }/\xs.length<=sizeLine:=by
  obtain⟨z,its,n,r,e⟩:=I.hok p _ h;exact⟨its,n,r,e,z⟩
theorem Inv.lstUpd{pQ:Li (Ad×Obj)}{σ:St}{H:Hp}{s:Sd}{p:Ad}{xs ys:Li V}{its its':Li vL}{n n':Nat}{f:Obj->Obj}(I:Inv X pQ σ H s)(h:H p=some (.lst xs))(ho:s.heap.get? p=some { cls:=.type "list",data:=.seq its.toArray n })(hf:f { cls:=.type "list",data:=.seq its.toArray n }={ cls:=.type "list",data:=.seq its'.toArray n' })(r:Vals ys its')(hz:ys.length<=sizeLine)(t:Nat) :
    Inv X pQ σ (upd H p (.lst ys)) { s with heap:=s.heap.update p f,toks:=t }:=by
  have e:(s.heap.update p f).get? p=some { cls:=.type "list",data:=.seq its'.toArray n' }:=by
    rw[Heap.get?_update_self f ho (by rw[hf]<;>rfl),hf]
  refine I.write (x:=p) (e:=p) (by rw[h];trivial) (.inl rfl) (fun b u hb q=>(Heap.get?_update_other _ _ (Ne.symm hb)).trans q) ⟨_,e⟩ ?_
  exact⟨hz,its',n',r,e⟩
def rSetL:V->V->V->Hp->(Hp->Prop)->Prop:=fun o i v H Q=>∃ p xs k j,o=.ref p/\i=.int k/\H p=some (.lst xs)/\ixN xs.length k=some j/\Q (upd H p (.lst (xs.set j v)))
theorem set_list:PSet X rSetL:=by
  intro pQ s σ H o i v ov iv u Q I ro ri rv h;obtain⟨p,xs,k,j,rfl,rfl,hp,hj,q⟩:=h;cases ro;obtain⟨t,rfl⟩:=ri;obtain⟨its,n,r,ho,hz⟩:=I.lst hp;obtain⟨h1,h2,h3,h4⟩:=ixN_seq hj;have hl:=r.length;have hn:=line63;have I':Inv X pQ σ (upd H p (.lst (xs.set j v))) { s with heap:=s.heap.update p (Obj.mapSeq (·.setIfInBounds j u)) }:=
    I.lstUpd hp ho (mapSeq_set its n j u) (r.set rv j) (by rw[List.length_set];exact hz) s.toks
  by_cases h0:0<=k
  · have hk:k.toNat=j:=by
      rw[seqIndex_of h0 h4]at h1;exact Option.some.inj h1
    exact PySem.W.ki_setAt ho h0 (by omega) (by rw[List.size_toArray,<-hl];exact h4) (by rw[hk];exact⟨_,I',q⟩)
  · have hk:(k+(its.toArray.size:Int)).toNat=j:=by
      rw[seqIndex_neg (by omega) h3]at h1
      rw[List.size_toArray,<-hl];exact Option.some.inj h1
    exact PySem.W.ki_setBack ho (by omega) (by rw[List.size_toArray,<-hl];exact h3) (by omega) (by rw[hk];exact⟨_,I',q⟩)

theorem slice_bounds(lo hi:Ot Int)(n:Nat):(sliceBounds lo hi none n).1=((HT.sIx n 0 lo:Nat):Int)/\(sliceBounds lo hi none n).2.1=((HT.sIx n n hi:Nat):Int)/\(sliceBounds lo hi none n).2.2=1:=by
  refine⟨?_,?_,rfl⟩
  · cases lo with
    |none=>simp[sliceBounds,HT.sIx]
    |some i=>
      simp only[sliceBounds,HT.sIx,Option.getD_none,show(1:Int) > 0 by decide,if_true]
      by_cases h:i < 0
      · simp only[h,if_true]<;>omega
      · simp only[h,if_false]<;>omega
  · cases hi with
    |none=>simp[sliceBounds,HT.sIx]
    |some i=>
      simp only[sliceBounds,HT.sIx,Option.getD_none,show(1:Int) > 0 by decide,if_true]
      by_cases h:i < 0
      · simp only[h,if_true]<;>omega
      · simp only[h,if_false]<;>omega
theorem slicePick_cut(its:Li vL)(lo hi:Ot Int):slicePick its.toArray lo hi none=((its.drop (HT.sIx its.length 0 lo)).take (HT.sIx its.length its.length hi - HT.sIx its.length 0 lo)).toArray:=by
  obtain⟨h1,h2,h3⟩:=slice_bounds lo hi its.toArray.size;unfold slicePick;rw[h1,h2,h3];simp only[sliceRange_one,pick_run,List.size_toArray]<;>rfl
def rSlL(K:Fg):V->Ot Int->Ot Int->Hp->VK->Prop:=fun x lo hi H Q=>∃ a xs,x=.ref a/\SqL K H a xs/\∀ p,H p=none->Q (.ref p) (upd H p (.lst (cutV xs lo hi)))
theorem sl_list:SlR X (rSlL X.K):=by
  intro pQ s σ H x v vl vu lo hi sl Q I rx hs pl pu h;obtain⟨a,xs,rfl,hx,q⟩:=h;cases rx;obtain⟨its,r,ht,hz⟩:=I.list hx;have hlen:=r.length;refine⟨"list",_,slot_list_getitem.lookup,ht.isList.typeIs,?_⟩;refine wpAny_getItem_list_slice ht.isList hs pl pu .none (by simp) ?_ (by rw[List.size_toArray]<;>omega)
  rw[slicePick_cut,<-hlen];refine⟨.ref s.heap.objs.size,_,I.laid (t':=s.toks) (o:=.lst (cutV xs lo hi)) (fun b ob q=>Heap.get?_push_of_some _ q) (Nat.le_refl _) ?_,rfl,q _ (I.hok.fresh (Nat.le_refl _))⟩
  exact⟨Nat.le_trans (cutV_length xs lo hi) hz,_,0,(r.drop (HT.sIx xs.length 0 lo)).take (HT.sIx xs.length xs.length hi - HT.sIx xs.length 0 lo),Heap.get?_push_size _ rfl⟩

noncomputable def flatV:V->Bool
  |.non=>true
  |.bl _=>true
  |.int _=>true
  |.str _=>true
  |_=>false
noncomputable def eqV:V->V->Bool
  |.non,.non=>true
  |.bl a,.bl b=>a==b
  |.bl a,.int b=>(if a then 1 else 0)==b
  |.int a,.bl b=>a==(if b then 1 else 0)
  |.int a,.int b=>a==b
  |.str a,.str b=>a==b
  |_,_=>false
theorem eqAt_V{A:Around}{s:Sd}{y x:V}{u v:vL}(ry:RelV y u)(rx:RelV x v)(fy:flatV y=true)(fx:flatV x=true):SeqAt.EqAt A s u v (eqV y x):=by
  cases y with
  |non=>
    cases ry;cases x with
    |non=>cases rx;exact SeqAt.EqAt.same _
    |bl b=>cases rx;exact SeqAt.EqAt.none_bool b
    |int b=>obtain⟨t,rfl⟩:=rx;exact SeqAt.EqAt.none_int b t
    |str b=>obtain⟨t,rfl⟩:=rx;exact SeqAt.EqAt.none_str b t
    |_=>exact absurd (show false=true from fx) Bf
  |bl a=>
    cases ry;cases x with
    |non=>cases rx;exact SeqAt.EqAt.bool_none a
    |bl b=>cases rx;exact SeqAt.EqAt.bool_bool a b
    |int b=>obtain⟨t,rfl⟩:=rx;exact SeqAt.EqAt.bool_int a b t
    |str b=>obtain⟨t,rfl⟩:=rx;exact SeqAt.EqAt.bool_str a b t
    |_=>exact absurd (show false=true from fx) Bf
  |int a=>
    obtain⟨t',rfl⟩:=ry;cases x with
    |non=>cases rx;exact SeqAt.EqAt.int_none a t'
    |bl b=>cases rx;exact SeqAt.EqAt.int_bool a t' b
    |int b=>obtain⟨t,rfl⟩:=rx;exact SeqAt.EqAt.int_int a t' b t
    |str b=>obtain⟨t,rfl⟩:=rx;exact SeqAt.EqAt.int_str a t' b t
    |_=>exact absurd (show false=true from fx) Bf
  |str a=>
    obtain⟨t',rfl⟩:=ry;cases x with
    |non=>cases rx;exact SeqAt.EqAt.str_none a t'
    |bl b=>cases rx;exact SeqAt.EqAt.str_bool a t' b
    |int b=>obtain⟨t,rfl⟩:=rx;exact SeqAt.EqAt.str_int a t' b t
    |str b=>obtain⟨t,rfl⟩:=rx;exact SeqAt.EqAt.str_str a t' b t
    |_=>exact absurd (show false=true from fx) Bf
  |_=>exact absurd (show false=true from fy) Bf
noncomputable def eqU(x:V)(u:vL):Bool:=match u with
  |.none=>eqV .non x
  |.bool b=>eqV (.bl b) x
  |.int i _=>eqV (.int i) x
  |.str z _=>eqV (.str z) x
  |_=>false
theorem eqU_of{x y:V}{u:vL}(r:RelV y u)(f:flatV y=true):eqU x u=eqV y x:=by
  cases y with
  |non=>cases r;rfl
  |bl b=>cases r;rfl
  |int i=>obtain⟨t,rfl⟩:=r;rfl
  |str z=>obtain⟨t,rfl⟩:=r;rfl
  |_=>exact absurd (show false=true from f) Bf
theorem any_eqU{x:V}:∀ {xs:Li V}{us:Li vL},Vals xs us->xs.all flatV=true->us.any (eqU x)=xs.any fun y=>eqV y x
  |_,_,.nil,_=>rfl
  |y :: xs,u :: us,.cons r t,f=>by
    rw[List.all_cons,Ba]at f;rw[List.any_cons,List.any_cons,eqU_of r f.1,any_eqU t f.2]
theorem mem_eqAt{A:Around}{s:Sd}{x:V}{v:vL}(rx:RelV x v)(fx:flatV x=true):∀ {xs:Li V}{us:Li vL},Vals xs us->xs.all flatV=true->∀ u∈us,SeqAt.EqAt A s u v (eqU x u)
  |_,_,.nil,_=>fun u hu=>by cases hu
  |y :: xs,u :: us,.cons r t,f=>fun u' hu=>by
    rw[List.all_cons,Ba]at f;rcases List.mem_cons.mp hu with rfl|hu
    · rw[eqU_of r f.1];exact eqAt_V r rx f.1 fx
    · exact mem_eqAt rx fx t f.2 u' hu
noncomputable def inV(x:V)(xs:Li V):Bool:=xs.any fun y=>eqV y x
noncomputable def rIn(K:Fg)(neg:Bool):R2:=fun x y H Q=>∃ p xs,y=.ref p/\(SqL K H p xs\/SqT K H p xs)/\flatV x=true/\xs.all flatV=true/\Q (.bl (if neg then !inV x xs else inV x xs)) H
theorem op_in_seq:OpR X (compareOp .In) (rIn X.K false):=by
  intro pQ s σ H x y v u Q I rx ry h;obtain⟨p,xs,rfl,hq,fx,fs,q⟩:=h;cases ry;rcases hq with hq|hq
  · obtain⟨its,r,pl,hz⟩:=I.list hq
    refine SeqAt.in_listAt (eqU x) pl.isList (fun w hw=>mem_eqAt rx fx r fs w (by simpa using hw)) ⟨.bl _,H,I,rfl,?_⟩
    rw[show its.toArray.any (eqU x)=its.any (eqU x) by simp,any_eqU r fs]
    exact q
  · obtain⟨its,r,pl,hz⟩:=I.tuple hq
    refine SeqAt.in_tupleAt (eqU x) pl (fun w hw=>mem_eqAt rx fx r fs w (by simpa using hw)) ⟨.bl _,H,I,rfl,?_⟩
    rw[show its.toArray.any (eqU x)=its.any (eqU x) by simp,any_eqU r fs]
    exact q
theorem op_notIn_seq:OpR X (compareOp .NotIn) (rIn X.K true):=by
  intro pQ s σ H x y v u Q I rx ry h;obtain⟨p,xs,rfl,hq,fx,fs,q⟩:=h;cases ry;rcases hq with hq|hq
  · obtain⟨its,r,pl,hz⟩:=I.list hq
    refine SeqAt.notIn_listAt (eqU x) pl.isList (fun w hw=>mem_eqAt rx fx r fs w (by simpa using hw)) ⟨.bl _,H,I,rfl,?_⟩
    rw[show its.toArray.any (eqU x)=its.any (eqU x) by simp,any_eqU r fs]
    exact q
  · obtain⟨its,r,pl,hz⟩:=I.tuple hq
    refine SeqAt.notIn_tupleAt (eqU x) pl (fun w hw=>mem_eqAt rx fx r fs w (by simpa using hw)) ⟨.bl _,H,I,rfl,?_⟩
    rw[show its.toArray.any (eqU x)=its.any (eqU x) by simp,any_eqU r fs]
    exact q
theorem op_notIn_str:OpR X (compareOp .NotIn) (fun x y H Q=>∃ i j,x=.str i/\y=.str j/\Q (.bl (!(!(Builtin.Str.occurrences j i 0 j.length 1).isEmpty))) H):=by
  intro pQ s σ H x y v u Q I rx ry h;obtain⟨i,j,rfl,rfl,q⟩:=h;obtain⟨t,rfl⟩:=rx;obtain⟨t',rfl⟩:=ry;exact notIn_str ⟨.bl _,H,I,rfl,q⟩

theorem call_len_seq:CallR X (.builtin "len") (fun xs H Q=>∃ p ys,xs=[.ref p]/\(SqL X.K H p ys\/SqT X.K H p ys)/\Q (.int ys.length) H):=by
  intro pQ s σ H xs us Q I r h;obtain⟨p,ys,rfl,hq,q⟩:=h;obtain⟨u,rfl,rx⟩:=vals1 r;cases rx;have hn:=line63;rcases hq with hq|hq
  · obtain⟨its,r',pl,hz⟩:=I.list hq
    have hlen:=r'.length;exact Calls.call_len_list pl.isList (by simp only[List.size_toArray]<;>omega) ⟨.int ys.length,H,I.tok _,⟨s.toks+1,by rw[List.size_toArray,hlen]⟩,q⟩
  · obtain⟨its,r',pl,hz⟩:=I.tuple hq
    have hlen:=r'.length;exact len_tuple pl (by simp only[List.size_toArray]<;>omega) ⟨.int ys.length,H,I.tok _,⟨s.toks+1,by rw[List.size_toArray,hlen]⟩,q⟩
theorem call_list_of:CallR X (.type "list") (fun xs H Q=>∃ p ys,xs=[.ref p]/\(SqL X.K H p ys\/SqT X.K H p ys)/\∀ l,H l=none->Q (.ref l) (upd H l (.lst ys))):=by
  intro pQ s σ H xs us Q I r h;obtain⟨p,ys,rfl,hq,q⟩:=h;obtain⟨u,rfl,rx⟩:=vals1 r;cases rx;have fin:∀ (its:Li vL),Vals ys its->ys.length<=sizeLine->∀ (h':Heap) (c':Nat),(∀ b o',s.heap.get? b=some o'->h'.get? b=some o')->
      h'.get? s.heap.objs.size=some { cls:=.type "list",dict:=none,data:=.seq its.toArray c',slots:=#[] }->EP X pQ σ Q (.ref s.heap.objs.size) { s with heap:=h' }:=fun its r' hz h' c' kp e=>
    ⟨.ref s.heap.objs.size,_,I.laid (t':=s.toks) kp (Nat.le_refl _) (show ObjOk X.prog X.w _ h' _ (.lst ys) from⟨hz,its,c',r',e⟩),rfl,q _ (I.hok.fresh (Nat.le_refl _))⟩
  rcases hq with hq|hq
  · obtain⟨its,r',pl,hz⟩:=I.list hq
    have hlen:=r'.length;obtain⟨o,ho,hc,n,hd⟩:=pl.isList;exact call_list_seq p (.inl rfl) ho hc hd (fun h' c' kp e=>fin its r' hz h' c' kp e) (by simp only[List.size_toArray]<;>omega)
  · obtain⟨its,r',pl,hz⟩:=I.tuple hq
    have hlen:=r'.length;obtain⟨o,ho,hc,n,hd⟩:=pl;exact call_list_seq p (.inr rfl) ho hc hd (fun h' c' kp e=>fin its r' hz h' c' kp e) (by simp only[List.size_toArray]<;>omega)
theorem call_tuple_of:CallR X (.type "tuple") (fun xs H Q=>∃ p ys,xs=[.ref p]/\((SqL X.K H p ys/\∀ l,H l=none->Q (.ref l) (upd H l (.tup ys)))\/(SqT X.K H p ys/\Q (.ref p) H))):=by
  intro pQ s σ H xs us Q I r h;obtain⟨p,ys,rfl,h⟩:=h;obtain⟨u,rfl,rx⟩:=vals1 r;cases rx;rcases h with⟨hq,q⟩|⟨hq,q⟩
  · obtain⟨its,r',pl,hz⟩:=I.list hq
    have hlen:=r'.length;refine call_tuple_list pl.isList (fun h' kp=>?_) (by simp only[List.size_toArray]<;>omega)
    have I1:Inv X pQ σ H { s with heap:=h' }:=I.kept (t':=s.toks) kp
    have I2:Inv X pQ σ (upd H h'.objs.size (.tup ys)) { s with heap:=h'.push { cls:=.type "tuple",data:=.seq its.toArray } }:=
      I1.laid (t':=s.toks) (fun b o e=>Heap.get?_push_of_some _ e) (Nat.le_refl _) (show ObjOk X.prog X.w _ _ _ (.tup ys) from⟨hz,its,r',IsTup.new _ _⟩)
    exact⟨.ref h'.objs.size,_,I2,rfl,q _ (I1.hok.fresh (Nat.le_refl _))⟩
  · obtain⟨its,r',pl,hz⟩:=I.tuple hq
    exact call_tuple_same pl ⟨.ref p,H,I,rfl,q⟩

def tyV(K:Fg)(T:String)(x:V)(H:Hp):Prop:=match x with
  |.str _=>T = "str"
  |.int _=>T = "int"
  |.ref p=>(T = "list"/\∃ xs,SqL K H p xs)\/(T = "tuple"/\∃ o,K.lookup p=some o/\o.cls=.type "tuple"/\o.dict=none) \/
      (T = "dict"/\((∃ kvs,H p=some (.dK kvs))\/∃ kvs,H p=some (.dN kvs)))\/(T = "set"/\∃ S n,H p=some (.set S n))
  |_=>False
theorem tyV_is{pQ:Li (Ad×Obj)}{σ:St}{H:Hp}{s:Sd}{T:String}{x:V}{v:vL}(I:Inv X pQ σ H s)(r:RelV x v)(ty:tyV X.K T x H) :
    s.TypeIs v T/\∀ a,v=.ref a->∃ ob,s.heap.get? a=some ob/\ob.dict=none:=by
  cases x with
  |str z=>
    obtain⟨t,rfl⟩:=r;cases (show T = "str" from ty)
    exact⟨typeIs_str s z t,fun _ e=>nomatch e⟩
  |int i=>
    obtain⟨t,rfl⟩:=r;cases (show T = "int" from ty)
    exact⟨typeIs_int s i t,fun _ e=>nomatch e⟩
  |ref p=>
    cases r;rcases ty with⟨rfl,xs,hq⟩|⟨rfl,o,hk,hc,hd⟩|⟨rfl,hk⟩|⟨rfl,S,n,hk⟩
    · obtain⟨its,_,pl,_⟩:=I.list hq
      refine⟨pl.isList.typeIs,fun a e=>?_⟩
      cases e;obtain⟨o,n,e,c,hd,_⟩:=pl;exact⟨o,e,hd⟩
    · refine⟨⟨o,I.kIn p o hk,hc⟩,fun a e=>?_⟩
      cases e;exact⟨o,I.kIn _ o hk,hd⟩
    · have z:∃ o,s.heap.get? p=some o/\o.ExactDict:=by
        rcases hk with⟨kvs,hk⟩|⟨kvs,hk⟩
        · obtain⟨_,_,_,_,o,_,_,e,ex,_⟩:=I.hok p _ hk
          exact⟨o,e,ex⟩
        · obtain⟨_,o,_,e,ex,_⟩:=I.hok p _ hk
          exact⟨o,e,ex⟩
      obtain⟨o,e,ex⟩:=z;refine⟨⟨o,e,ex.1⟩,fun a e2=>?_⟩
      cases e2;exact⟨o,e,ex.2.1⟩
    · obtain⟨o,_,_,_,e,ex,_⟩:=I.hok p _ hk
      refine⟨⟨o,e,ex.1⟩,fun a e2=>?_⟩
      cases e2;exact⟨o,e,ex.2.1⟩
  |_=>exact False.elim ty
noncomputable def tBM(K:Fg)(T:String)(r:V->Li V->Hp->VK->Prop)(to:TE)(t:TA):TE:=fun σ H Q=>to σ H fun x H1=>tyV K T x H1/\t σ H1 fun xs H2=>r x xs H2 Q
variable {o e:Expr}{es:Li Expr}{to:TE}{t:TA}{name:Str}{apos cpos:Pos}{T id:String}{r:V->Li V->Hp->VK->Prop}
theorem pe_bm(pa:PlainAttrs T)(slot:Slot T name id)(hty:typeOf (.builtin id)=pure (.type "method_descriptor"))(hm:MtR X id r)(ho:PE X o to)(ha:PA X (e :: es) t)(hbase:attributeBase o name X.env (eval o X.env)=eval o X.env:=by rfl)(hfew:((backTo cpos (starEach (e :: es) X.env)).all (fun x=>!x.1)&&(backToKw cpos (keywordEach [] X.env)).all (fun x=>x.1.isSome)
     &&decide ((e :: es).length+([]:Li Keyword).length+(if ([]:Li Keyword).isEmpty then 0 else 1) < 30))=true:=by rfl)(hline:(apos.endLine==cpos.line)=true:=by rfl)(hs:starEach (e :: es) X.env=(false,eval e X.env) :: starEach es X.env:=by rfl)(hplain:(backTo cpos (starEach es X.env)).any (·.1)=false:=by rfl) :
    PE X (.Call (.Attribute o name apos) (e :: es) [] cpos) (tBM X.K T r to t):=by
  intro pQ s σ H Q I h;refine wpAny_Call_method_late hbase hfew hline rfl (thn (ho pQ s σ H _ I h) fun v s1 ⟨x,H1,I1,r1,ty,q1⟩=>?_)
  obtain⟨h1,h2⟩:=tyV_is I1 r1 ty;refine⟨T,id,pa,slot,hty,h1,h2,?_⟩;have hA:=ha cpos pQ s1 σ H1 _ I1 q1;rw[hs]at hA ⊢;refine Calls.callWith_builtin (by show(false||(backTo cpos (starEach es X.env)).any (·.1))=false;rw[hplain]<;>rfl) (Calls.evalArgs_plain ?_)
  exact thn hA fun us s2 ⟨vs,H2,I2,r2,q2⟩=>hm pQ s2 σ H2 x vs v us Q I2 r1 r2 q2
end
end L2

namespace L2
open PySem PySem.Spec PyProof.Rows

def MtM(X:Cx)(id:String)(r:V->Li V->Hp->VK->Prop):Prop:=
  ∀ (pQ:Li (Ad×Obj)) (s:Sd) (σ:St) (H:Hp) (x:V) (xs:Li V) (v:vL) (us:Li vL) (Q:VK),Inv X pQ σ H s->RelV x v->Vals xs us->r x xs H Q->
    wpAny (model X.prog X.w) X.A (call (.builtin id) (v :: us)) (EP X pQ σ Q) X.xe s

theorem Vals.one{x:V}{us:Li vL}(h:Vals [x] us):∃ u,us=[u]/\RelV x u:=by
  cases h with
  |cons r h=>cases h;exact⟨_,rfl,r⟩
theorem Vals.two{x y:V}{us:Li vL}(h:Vals [x,y] us):∃ u v,us=[u,v]/\RelV x u/\RelV y v:=by
  cases h with
  |cons r h=>cases h with
    |cons q h=>cases h;exact⟨_,_,rfl,r,q⟩
theorem Vals.rep{xs:Li V}{us:Li vL}(h:Vals xs us):∀ k:Nat,Vals (List.replicate k xs).flatten (List.replicate k us).flatten
  |0=>.nil
  |k+1=>by
    rw[List.replicate_succ,List.replicate_succ,List.flatten_cons,List.flatten_cons];exact Vals.append h (Vals.rep h k)
theorem foldl_rep(its:Li vL):∀ (k:Nat) (acc:Li vL),
    List.foldl (fun x1 x2=>x1++x2) acc.toArray (List.replicate k its.toArray)=(acc++(List.replicate k its).flatten).toArray
  |0,acc=>by simp
  |k+1,acc=>by
    have e:acc.toArray++its.toArray=(acc++its).toArray:=by simp
    have e2:(acc++its)++(List.replicate k its).flatten=acc++(List.replicate (k+1) its).flatten:=by
      rw[List.replicate_succ,List.flatten_cons,List.append_assoc]
    rw[<-e2,<-foldl_rep its k (acc++its),<-e,List.replicate_succ,List.foldl_cons]

section
variable {X:Cx}{pQ:Li (Ad×Obj)}{σ:St}{H:Hp}{s:Sd}{l b:Ad}{xs ys zs:Li V}

theorem Inv.lset{its its':Li vL}{n:Nat}{f:Array vL->Array vL}{t':Nat}(I:Inv X pQ σ H s)(hH:H l=some (.lst xs))(e:s.heap.get? l=some { cls:=.type "list",data:=.seq its.toArray n })(hf:f its.toArray=its'.toArray)(hv:Vals ys its')(hz:ys.length<=sizeLine) :
    Inv X pQ σ (upd H l (.lst ys)) { s with heap:=s.heap.update l (Obj.mapSeq f),toks:=t' }:=by
  have q:=PySem.IsL.update e f;rw[hf]at q;refine I.write (x:=l) (e:=l) (by rw[hH];exact trivial) (.inl rfl) (fun b' u hb hu=>(Heap.get?_update_other s.heap (Obj.mapSeq f) (Ne.symm hb)).trans hu) ⟨_,q⟩ ?_
  exact⟨hz,its',_,hv,q⟩
theorem Inv.lnew{its:Li vL}{t':Nat}(I:Inv X pQ σ H s)(hv:Vals ys its)(hz:ys.length<=sizeLine) :
    Inv X pQ σ (upd H s.heap.objs.size (.lst ys)) { s with heap:=s.heap.push { cls:=.type "list",data:=.seq its.toArray },toks:=t' }:=
  I.laid (fun _ _ q=>Heap.get?_push_of_some _ q) (Nat.le_refl _) ⟨hz,its,0,hv,Heap.get?_push_size _ rfl⟩
theorem Inv.fresh(I:Inv X pQ σ H s):H s.heap.objs.size=none:=I.hok.fresh (Nat.le_refl _)
theorem Inv.lstM(I:Inv X pQ σ H s)(hH:H l=some (.lst xs)):xs.length<=sizeLine/\∃ (its:Li vL) (n:Nat),Vals xs its/\xs.length=its.length/\s.heap.get? l=some { cls:=.type "list",data:=.seq its.toArray n }:=by
  obtain⟨z,its,n,r,e⟩:=I.hok l _ hH;exact⟨z,its,n,r,r.length,e⟩

theorem notLongL{n:Nat}(h:n<=sizeLine):Builtin.List.listTooLong n=false:=by
  unfold Builtin.List.listTooLong;exact decide_eq_false (by omega)
end

section
variable {X:Cx}

def rAppend:V->Li V->Hp->VK->Prop:=fun x vs H Q=>∃ l xs y,x=.ref l/\vs=[y]/\H l=some (.lst xs)/\xs.length < sizeLine/\Q .non (upd H l (.lst (xs++[y])))
theorem mt_append:MtM X "list.append" rAppend:=by
  intro pQ s σ H x vs v us Q I rx rv h;obtain⟨l,xs,y,rfl,rfl,hH,hz,q⟩:=h;cases rx;obtain⟨u,rfl,ru⟩:=rv.one;obtain⟨z,its,n,r,hl,e⟩:=I.lstM hH;refine call_meets F.slot_list_append ⟨_,e,rfl⟩ F.entry_list_append (F.args_list_append_2 _ _) (PySem.list_append l its.toArray n u (by rw[List.size_toArray];omega)) ⟨e,?_⟩
  refine⟨.non,_,I.lset (its':=its++[u]) hH e (by simp) (r.append (.cons ru .nil)) ?_,rfl,q⟩
  rw[List.length_append,List.length_singleton];omega

def rExtend:V->Li V->Hp->VK->Prop:=fun x vs H Q=>∃ l b xs zs,x=.ref l/\vs=[.ref b]/\H l=some (.lst xs)/\H b=some (.lst zs)/\xs.length+zs.length<=sizeLine/\Q .non (upd H l (.lst (xs++zs)))
theorem mt_extend:MtM X "list.extend" rExtend:=by
  intro pQ s σ H x vs v us Q I rx rv h;obtain⟨l,b,xs,zs,rfl,rfl,hH,hB,hz,q⟩:=h;cases rx;obtain⟨u,rfl,ru⟩:=rv.one;cases ru;obtain⟨z,its,n,r,hl,e⟩:=I.lstM hH;obtain⟨z2,its2,n2,r2,hl2,e2⟩:=I.lstM hB;have hsz:its.toArray.size+its2.toArray.size<=sizeLine:=by rw[List.size_toArray,List.size_toArray];omega
  have hlong:¬(!its.toArray.isEmpty&&Builtin.List.listTooLong (its.toArray.size+its2.toArray.size))=true:=by
    rw[notLongL hsz,Bool.and_false];exact Bf
  refine call_meets F.slot_list_extend ⟨_,e,rfl⟩ F.entry_list_extend (F.args_list_extend_2 _ _)
    (AutoSeq1.list_extend_list_list_0 l its.toArray n b its2.toArray n2 hlong (by rw[List.size_toArray];omega) (by omega)) ⟨e,e2,?_⟩
  refine⟨.non,_,I.lset (its':=its++its2) hH e (by simp) (r.append r2) ?_,rfl,q⟩
  rw[List.length_append];omega





noncomputable def rRep:R2:=fun x y H Q=>∃ l k xs,x=.ref l/\y=.int k/\H l=some (.lst xs)/\-(2 ^ 63)<=k/\k < 2 ^ 63/\xs.length * k.toNat<=sizeLine /\
  ∀ p,H p=none->Q (.ref p) (upd H p (.lst (List.replicate k.toNat xs).flatten))
theorem len_rep{α:Type}(xs:Li α)(k:Nat):(List.replicate k xs).flatten.length=k * xs.length:=by
  induction k with
  |zero=>simp
  |succ k ih=>rw[List.replicate_succ,List.flatten_cons,List.length_append,ih,Nat.succ_mul,Nat.add_comm]
theorem op_rep:OpR X (binaryOp .Mult) rRep:=by
  intro pQ s σ H x y v u Q I rx ry h;obtain⟨l,k,xs,rfl,rfl,hH,h1,h2,hz,q⟩:=h;cases rx;obtain⟨t,rfl⟩:=ry;obtain⟨z,its,n,r,hl,e⟩:=I.lstM hH;have hlen:its.toArray.size * k.toNat<=sizeLine:=by rw[List.size_toArray,<-hl];exact hz
  have hcap:¬its.toArray.size * k.toNat > (2 ^ 63 - 1) / 8:=by
    have:(sizeLine:Nat)<=(2 ^ 63 - 1) / 8:=by decide
    omega
  have hfit:¬(!Builtin.List.listFitsIndex k)=true:=by
    rw[fitsIndex_both h1 h2];exact Bf
  have hlong:¬Builtin.List.listTooLong (its.toArray.size * k.toNat)=true:=by
    rw[notLongL hlen];exact Bf
  have hnew:List.foldl (fun x1 x2=>x1++x2) #[] (List.replicate (if its.toArray.isEmpty=true then 0 else k.toNat) its.toArray)=(List.replicate k.toNat its).flatten.toArray:=by
    have f0:∀ m:Nat,List.foldl (fun x1 x2=>x1++x2) #[] (List.replicate m its.toArray)=(List.replicate m its).flatten.toArray:=fun m=>by
      have:=foldl_rep its m [];rw[List.nil_append]at this;exact this
    rw[f0];cases its with
    |nil=>simp
    |cons a r'=>rw[if_neg (by simp)]
  refine wpAny_binaryOp_repeat_ref (T := "list") (U := "int") (by decide) ⟨_,e,rfl⟩ (fun s'=>typeIs_int s' k t) noFill_list_mul F.fills_int_mul F.slot_int_rmul repeat_list F.slot_int_index.lookup
    (call_meets F.slot_int_rmul (typeIs_int s k t) F.entry_int_rmul (F.args_int_rmul_2 _ _) (int___rmul___int_list k t l its.toArray n)
      ⟨e,rfl,⟨_,e,rfl⟩,call_meets F.slot_list_mul ⟨_,e,rfl⟩ F.entry_list_mul (F.args_list_mul_2 _ _) (AutoListH.list___mul___list_int_3 l its.toArray n k t hfit hcap hlong) ⟨e,?_⟩⟩)
  rw[hnew];exact⟨.ref _,_,I.lnew (t':=s.toks) (r.rep k.toNat) (by rw[len_rep,Nat.mul_comm];exact hz),rfl,q _ I.fresh⟩

end

section
variable {prog:Program}{w:World}{A:Around}{E:vL->Sd->Prop}{s:Sd}
end

section
variable {X:Cx}
end
end L2

namespace Att
open PySem PySem.W PySem.Calls PyProof.Rows

theorem ints_of_wellAll{P:Params}{h:Heap}:∀ (ns:Li Int) (vs:Li vL),WellAll P h vs (ns.map WData.int)->IntsAre vs ns:=by
  intro ns
  induction ns with
  |nil=>
    intro vs w;rw[List.map_nil]at w;cases w;exact .nil
  |cons n ns ih=>
    intro vs w;rw[List.map_cons]at w;cases w with
    |cons a b=>
      cases a;exact .cons _ _ (ih _ b)

theorem script_of{l:OpenLaw}{n:Nat}(hn:l.most=some n){P:Params}{h:Heap}{args:Li WData}{vals:Li vL}(hpre:l.row.toRowW.claim.pre args=true)(hwl:WellAll P h vals args) :
    ∃ a vs ns,vals=[Value.ref a]/\args=[WData.list (ns.map WData.int)]/\h.get? a=some { cls:=.type "list",data:=.seq vs.toArray }/\IntsAre vs ns/\ns.length<=n:=by
  have hsh:WShape.hasAll [] args [.list .int]=true:=(pre_splitW hpre).1;have hc:l.pre.holds [] { args:=args }=true:=(pre_splitW hpre).2;obtain⟨d,r,rfl,h1,h2⟩:=hasAllW_cons hsh;obtain rfl:=hasAllW_nil h2;obtain⟨xs,rfl,h3⟩:=hasW_list h1;obtain⟨ns,rfl⟩:=items_int h3;have hlen:ns.length<=n:=by
    unfold OpenLaw.pre at hc;have h4:(WTm.not (.lt (.lit (.int (n:Int))) (.len (.arg 0)))).holds [] { args:=[.list (ns.map .int)] }=true:=by
      have h4:=(holds_andW hc).1;rw[hn]at h4;exact h4
    have h5:=condW_of h4 (w_not (w_lt w_lit (w_len_list (w_arg rfl))));rw[List.length_map]at h5;refine Nat.le_of_not_lt fun q=>?_
    have q':(n:Int) < ((ns.length:Nat):Int):=by omega
    first
      | (rw[decide_eq_true q']at h5;exact absurd h5 (by decide))
      | (simp at h5;omega)
  cases hwl with
  |cons w1 w2=>
    cases w2;cases w1 with
    |list ho hall=>exact⟨_,_,ns,rfl,rfl,ho,ints_of_wellAll ns _ hall,hlen⟩

theorem post_true(l:OpenLaw)(args:Li WData):l.row.toRowW.claim.post args (.bool true) args=true:=
  postW_of (r:=l.row.toRowW) (X:=(true==true))
    (show WShape.has [] (.bool true) .bool=true by first|rfl|decide|simp[WShape.has,WShape.arms,WShape.armsAll])
    (show(WTm.eq .res (.lit (.bool true))).value [] { args:=args,res:=some (.bool true),after:=args }=some (.bool (true==true)) from w_eq_bool (w_res rfl) w_lit) rfl


theorem attach_call{l:OpenLaw}{n:Nat}{q:Program}{loose:Li Str}{XP:(Str->Ot vL)->Heap->Prop}{YP:World->Heap->Prop}{d:DefRec}(hn:l.most=some n)(hdf:d.params.defaults=[])(call:∀ (w:World) (s₀ s₁:Sd) (mg mb:Str->Ot vL) (fa:Ad) (o:Obj) (pm cd doc:vL) (a:Ad) (vs:Li vL) (ns:Li Int),
      Ground q loose [] XP w s₀ mg mb s₁.heap->YP w s₁.heap->
      s₁.heap.get? fa=some o->o.data=.func (docDef d.name d.params d.body d.scope pm cd doc)->s₁.heap.CodeRec cd d.name->mg d.name=some (.ref fa)->
      s₁.heap.get? a=some { cls:=.type "list",data:=.seq vs.toArray }->IntsAre vs ns->ns.length<=n->s₁.gens=#[]->
      codeAny (model l.prog w) callerA (.call (.ref fa) ⟨[.ref a],[]⟩) (fun r s'=>r=.ok (.ret (.bool true))/\OldK s₁.heap s'.heap/\s'.os=s₁.os/\AllBare s'.gens) s₁) :
    WalkO q loose XP YP l.row.toRowW d [] (fun f vs=>PySem.call f vs):=by
  intro w s₀ s₁ mg mb G Y fa o pm cd doc dV kV ho hd hcd hD hmg hg args vals as hpre hlay hrd hwl hlo;obtain rfl:dV=.none:=Dflts.none hD hdf;obtain rfl:kV=.none:=Dflts.noKw hD;obtain⟨a,vs,ns,rfl,rfl,hobj,hints,hlen⟩:=script_of hn hpre hwl;refine enter_call (codeAny_mono (call w s₀ s₁ mg mb fa o pm cd doc a vs ns G Y ho (fd_plain hd) hcd hmg hobj hints hlen hg) fun r s' hq=>?_)
  obtain⟨rfl,h2,h3,h4⟩:=hq;exact⟨.inl ⟨.bool true,.bool true,[],rfl,fun _=>rfl,.bool true,post_true l _,fun _=>⟨List.Pairwise.nil,fun _ hm=>(nomatch hm)⟩⟩,h2,h3,h4⟩


section
variable {prog:Program}{w:World}{A:Around}{E:vL->Sd->Prop}{s:Sd}{K:Frag}






end
end Att

namespace L2
open PySem PySem.Spec PyProof.Rows

theorem vals_ints:∀ {vs:Li vL}{ns:Li Int},IntsAre vs ns->Vals (ns.map V.int) vs
  |_,_,.nil=>.nil
  |_,_,.cons n t h=>.cons ⟨t,rfl⟩ (vals_ints h)

def Only(H:Hp):Prop:=∀ b,H b=none\/∃ o xs,H b=some (.frz o (.lst xs))

theorem law_call{P:Program}{w:World}{K:Fg}{mg mb:Str->Ot vL}{CX:CXT}{k:Nat}{fa a:Ad}{fd:FuncData}{x:Str}{sp:Sp}{s₁:Sd}{vs:Li vL}{ns:Li Int}(KX:K.In s₁.heap)(hns:s₁.heap.Ns mainGlobals mg)(hb:s₁.heap.Ns builtinsNs mb)(hbb:∀ x:Str,x ≠ "__name__"->mb x=bootBuiltins x)(hlim:s₁.heap.NoLimit)(hg:s₁.gens=#[])(ha:s₁.heap.get? a=some { cls:=.type "list",data:=.seq vs.toArray })(hi:IntsAre vs ns)(hl:ns.length<=sizeLine)(hr:Room k callerA)(F:∀ base:Heap,K.In base->base.Ns mainGlobals mg->FnOk P w K mg base CX k fa fd [x] sp)(hbind:∀ (s:Sd) (u:vL),BindsTo s fd ⟨[u],[]⟩ [(x,u)])(hsp:∀ H:Hp,Only H->SqL K H a (ns.map V.int)->sp [.ref a] H (fun v _=>v=.bl true) fun _ _ _=>False)(hCX:∀ H e s',CX [] H s₁ (fun _ _ _=>False) e s'->False) :
    codeAny (model P w) callerA (.call (.ref fa) ⟨[.ref a],[]⟩) (fun r s'=>r=.ok (.ret (.bool true))/\OldK s₁.heap s'.heap/\s'.os=s₁.os/\AllBare s'.gens) s₁:=by
  have rv:=vals_ints hi;have lenV:=hi.length
  -- from an abstract heap in which nothing but the script may be tracked
  have core:∀ H:Hp,Only H->SqL K H a (ns.map V.int)->HOk P w H s₁.heap->(∀ b,H b≠none->b=a)->(H a≠none->K.lookup a=none)->
      codeAny (model P w) callerA (.call (.ref fa) ⟨[.ref a],[]⟩) (fun r s'=>r=.ok (.ret (.bool true))/\OldK s₁.heap s'.heap/\s'.os=s₁.os/\AllBare s'.gens) s₁:=by
    intro H hO hS hok hA hK;have base_of:∀ {b:Ad}{o:Obj},s₁.heap.get? b=some o->H b=none->(hidT s₁.heap H).get? b=some o:=fun e n=>hidT_get e n
    have noA:∀ {b:Ad}{o:Obj}{es:Array DictEntry}{ep:Nat},s₁.heap.get? b=some o->o.data=.dict es ep->H b=none:=fun {b o es ep} e d=>by
      cases q:H b with
      |none=>rfl
      |some u=>
        have e':b=a:=hA b (by rw[q];simp)
        subst e';rw[ha]at e;cases e
        have d':Data.seq vs.toArray _=Data.dict es ep:=d;cases d'
    have nsK:∀ {b:Ad}{m:Str->Ot vL},s₁.heap.Ns b m->(hidT s₁.heap H).Ns b m:=fun {b m} ⟨o,es,ep,e,d,r⟩=>⟨o,es,ep,base_of e (noA e d),d,r⟩
    have hKb:K.In (hidT s₁.heap H):=fun b o e=>base_of (KX b o e) (by
      cases q:H b with
      |none=>rfl
      |some u=>
        have e':b=a:=hA b (by rw[q];simp)
        subst e';rw[hK (by rw[q];simp)]at e;cases e)
    have hM:Mod K mg (hidT s₁.heap H):=⟨hKb,nsK hns,⟨mb,nsK hb,hbb⟩,let ⟨mc,h1,h2⟩:=hlim;⟨mc,nsK h1,h2⟩⟩
    have e0:Env0 P w K mg (hidT s₁.heap H) callerA [] s₁ H:=⟨rfl,hM,fun b o e=>of_hidT e,Nat.le_of_eq (hidT_size _ _),trivial,fun b hb=>absurd (show b∈([]:Li Ad) from hb) (by simp),hok,.of_eq hg⟩
    refine codeAny_mono ((F _ hKb (nsK hns)).run callerA [] s₁ H ⟨[.ref a],[]⟩ [.ref a] [.ref a] _ _ hr e0 (hbind s₁ (.ref a)) (.cons rfl .nil) (hsp H hO hS)) fun r s' h=>?_
    cases r with
    |error e=>exact(hCX H e s' h).elim
    |ok fl=>
      cases fl with
      |next=>exact False.elim h
      |brk=>exact False.elim h
      |cont=>exact False.elim h
      |ret u=>
        obtain⟨v,H',os,bare,un,hok',r',q⟩:=h;have q':v=.bl true:=q;subst q';obtain rfl:u=Value.bool true:=r';refine⟨rfl,OldK.of_keep fun b o e=>?_,os,bare⟩
        cases q:H b with
        |none=>exact un.keep b o e q (by intro z;exact absurd (show b∈([]:Li Ad) from z) (by simp)) (by simp)
        |some u=>
          rcases hO b with z|⟨ob,xs,z⟩
          · rw[q]at z;cases z
          · have z2:=un.frzs b ob _ z
            obtain⟨e1,_⟩:=hok b _ z;obtain⟨e2,_⟩:=hok' b _ z2;rw[e]at e1;cases e1
            exact e2
  cases hk:K.lookup a with
  |some o=>
    -- the script is one of the module's own objects
    have e:=KX a o hk;rw[ha]at e;cases e;refine core (fun _=>none) (fun _=>.inl rfl) (.inr ⟨_,vs.toArray,_,hk,rfl,rfl,rfl,by rw[List.size_toArray,lenV];exact hl,by simpa using rv⟩) (fun b u z=>by have z':(none:Ot HO)=some u:=z;cases z') (fun b z=>absurd rfl z) fun z=>absurd rfl z
  |none=>
    refine core (fun b=>if b=a then some (.frz { cls:=.type "list",data:=.seq vs.toArray } (.lst (ns.map V.int))) else none) (fun b=>?_) (.inl (.inr ⟨{ cls:=.type "list",data:=.seq vs.toArray },if_pos rfl⟩)) (fun b u z=>?_) (fun b z=>?_) fun _=>hk
    · by_cases hb:b=a
      · exact .inr ⟨_,_,if_pos hb⟩
      · exact .inl (if_neg hb)
    · by_cases hb:b=a
      · have z':=(if_pos hb).symm.trans z
        cases z';subst hb;exact⟨ha,by rw[List.length_map];exact hl,vs,_,rv,ha⟩
      · have z':=(if_neg hb).symm.trans z
        cases z'
    · by_cases hb:b=a
      · exact hb
      · exact absurd (if_neg hb) z
end L2

namespace L2
open PySem PySem.Spec PyProof.Rows


theorem walk_of{l:PySem.W.OpenLaw}{n k:Nat}{q:Program}{loose:Li Str}{XP:(Str->Ot vL)->Heap->Prop}{YP:World->Heap->Prop}{d:DefRec}{K:Params->Fg}{CX:World->CXT}{sp:World->Sp}{x:Str}(hn:l.most=some n)(hn2:n<=sizeLine)(hdf:d.params.defaults=[])(hr:Room k callerA)(hY:∀ (w:World) (h:Heap),YP w h->(K w.params).In h)(F:∀ (w:World) (mg:Str->Ot vL) (fa:Ad) (h:Heap),(K w.params).In h->h.Ns mainGlobals mg->mg d.name=some (.ref fa)->
      ∃ fd:FuncData,(∀ (s:Sd) (u:vL),BindsTo s fd ⟨[u],[]⟩ [(x,u)]) /\
        ∀ base:Heap,(K w.params).In base->base.Ns mainGlobals mg->FnOk l.prog w (K w.params) mg base (CX w) k fa fd [x] (sp w))(hsp:∀ (w:World) (H:Hp) (a:Ad) (ns:Li Int),ns.length<=n->Only H->SqL (K w.params) H a (ns.map V.int)->sp w [.ref a] H (fun v _=>v=.bl true) fun _ _ _=>False)(hCX:∀ (w:World) (H:Hp) (s:Sd) (e:vL) (s':Sd),CX w [] H s (fun _ _ _=>False) e s'->False) :
    PySem.W.WalkO q loose XP YP l.row.toRowW d [] (fun f vs=>PySem.call f vs):=by
  refine Att.attach_call hn hdf fun w s₀ s₁ mg mb fa o pm cd doc a vs ns G Y ho hd hcd hmg hobj hints hlen hg=>?_
  have KX:=hY w _ Y;obtain⟨fd,hb,hF⟩:=F w mg fa _ KX G.T.g hmg;exact law_call KX G.T.g G.T.b G.T.builtins G.T.nolimit hg hobj hints (Nat.le_trans hlen hn2) hr hF hb (fun H hO hS=>hsp w H a ns hlen hO hS) fun H e s'=>hCX w H s₁ e s'
end L2


namespace L2
open PySem PySem.Spec PyProof.Rows

noncomputable def defArgs(s:Stmt):Arguments:=match s with
  |.FunctionDef _ a _ _ _ _ _ _ _ _=>a
  |_=>{ posonlyargs:=[],args:=[],vararg:=none,kwonlyargs:=[],kw_defaults:=[],kwarg:=none,defaults:=[] }
noncomputable def defBody(s:Stmt):Li Stmt:=match s with
  |.FunctionDef _ _ b _ _ _ _ _ _ _=>b
  |_=>[]
noncomputable def defScope(s:Stmt):Scope:=match s with
  |.FunctionDef _ _ _ _ _ _ sc _ _ _=>sc
  |_=>{ kind:=.function,names:=[],isGenerator:=false,isCoroutine:=false }

noncomputable abbrev CX0:CXT:=fun _ _ _ _ _ _=>False
noncomputable abbrev E0:XK:=fun _ _ _=>False
theorem pass0{X:Cx}:Passes CX0 X E0:=fun _ _ _ _ _ _ _ h=>h.elim

structure Fun(K:Fg)(x qual:Str)(st:Stmt)(f:Addr)(fd:FuncData):Prop where
  ex:∃ (oc:Value) (od:Option Addr) (kV doc pm:Value) (an:Option Addr) (cdv ct:Value) (osl:Array (Option Value)),
    fd=PySem.W.fnOf x qual (defArgs st) (defBody st) (defScope st) .none kV doc pm an cdv ct/\K.lookup f=some ⟨oc,od,.func fd,osl⟩/\PySem.W.codeIn K cdv qual=true
  kp:PySem.W.keepIn K (.ref f)=true
section
variable {P:Program}{w:World}{K:Fg}{mg:Str->Ot vL}{base:Heap}
end

section
variable {X:Cx}
end



end L2



namespace L2
open PySem PySem.Spec PyProof.Rows
section
variable {κ:Type} [DecidableEq κ]
noncomputable def valV(kvs:Li (κ×V))(k:κ):Ot V:=(kvs.find? fun kv=>decide (kv.1=k)).map (·.2)
noncomputable def putK(kvs:Li (κ×V))(k:κ)(v:V):Li (κ×V):=
 if (kvs.any fun kv=>decide (kv.1=k))=true then kvs.map (fun kv=>if kv.1=k then (kv.1,v) else kv) else kvs++[(k,v)]
theorem valV_pos{p:κ×V}{r:Li (κ×V)}{k:κ}(e:p.1=k):valV (p :: r) k=some p.2:=by simp[valV,List.find?_cons,e]
theorem valV_neg{p:κ×V}{r:Li (κ×V)}{k:κ}(e:¬p.1=k):valV (p :: r) k=valV r k:=by simp[valV,List.find?_cons,e]
theorem length_putK(kvs:Li (κ×V))(k:κ)(v:V):(putK kvs k v).length<=kvs.length+1:=by
 unfold putK;split
 ·rw[List.length_map];omega
 ·rw[List.length_append,List.length_cons,List.length_nil];omega
theorem RelO.isSome_eq{o:Ot V}{u:Ot vL}(r:RelO o u):o.isSome=u.isSome:=by
 cases o with
 |none=>cases u with
  |none=>rfl
  |some _=>exact(show False from r).elim
 |some _=>cases u with
  |none=>exact(show False from r).elim
  |some _=>rfl
theorem KV.val{kvs:Li (κ×V)}{vs:Li (κ×vL)}(r:KV kvs vs)(k:κ):RelO (valV kvs k) (valueAt vs k):=by
 unfold KV at r
 induction r with
 |nil=>exact True.intro
 |@cons p q ps qs h t ih=>
  obtain⟨h1,h2⟩:=h;by_cases e:p.1=k
  ·have e':q.1=k:=h1.symm.trans e
   have b:valueAt (q :: qs) k=some q.2:=by simp[valueAt,List.find?_cons,e']
   rw[valV_pos e,b];exact h2
  ·have e':¬q.1=k:=fun z=>e (h1.trans z)
   have b:valueAt (q :: qs) k=valueAt qs k:=by simp[valueAt,List.find?_cons,e']
   rw[valV_neg e,b];exact ih
theorem KV.any{kvs:Li (κ×V)}{vs:Li (κ×vL)}(r:KV kvs vs)(k:κ):(kvs.any fun kv=>decide (kv.1=k))=vs.any fun kv=>decide (kv.1=k):=by
 unfold KV at r
 induction r with
 |nil=>rfl
 |cons h t ih=>rw[List.any_cons,List.any_cons,ih,h.1]
theorem KV.repl{kvs:Li (κ×V)}{vs:Li (κ×vL)}(r:KV kvs vs)(k:κ){y:V}{u:vL}(ry:RelV y u) :
  KV (kvs.map fun kv=>if kv.1=k then (kv.1,y) else kv) (vs.map fun kv=>if kv.1=k then (kv.1,u) else kv):=by
 unfold KV at r ⊢
 induction r with
 |nil=>exact .nil
 |@cons p q ps qs h t ih=>
  rw[List.map_cons,List.map_cons];refine .cons ?_ ih;obtain⟨h1,h2⟩:=h;by_cases e:p.1=k
  ·rw[if_pos e,if_pos (h1.symm.trans e)];exact⟨h1,ry⟩
  ·rw[if_neg e,if_neg (fun z=>e (h1.trans z))];exact⟨h1,h2⟩
theorem KV.put{kvs:Li (κ×V)}{vs:Li (κ×vL)}(r:KV kvs vs)(k:κ){y:V}{u:vL}(ry:RelV y u):KV (putK kvs k y) (stored vs k u):=by
 unfold putK stored;rw[r.any k];by_cases e:(vs.any fun kv=>decide (kv.1=k))=true
 ·rw[if_pos e,if_pos e];exact r.repl k ry
 ·rw[if_neg e,if_neg e];exact Paired.snoc r ⟨rfl,ry⟩
end
theorem kV_is{P:Program}{w:World}{k:Key}{u:vL}(r:RelV (kV k) u):(mixKind P w).is k u=true:=by
 cases k with
 |inl i=>obtain⟨t,e⟩:=(show ∃ t,u=Value.int i t from r);subst e;exact mixKind_int P w i t
 |inr x=>obtain⟨t,e⟩:=(show ∃ t,u=Value.str x t from r);subst e;exact mixKind_str P w x t
section
variable {P:Program}{w:World}{H:Hp}{h:Heap}{a:Ad}
theorem rd_of{u:HO}(ok:HOk P w H h)(e:Rd H a u):ObjOk P w H h a u:=e.ok ok
theorem dk_rd{kvs:Li (Key×V)}(ok:HOk P w H h)(e:Rd H a (.dK kvs)):kvs.length<=sizeLine/\(a==sysModules)=false/\∃ vs,KV kvs vs/\h.DictOf (mixKind P w) a vs:=
 show ObjOk P w H h a (.dK kvs) from rd_of ok e
theorem dk_of{kvs:Li (Key×V)}(ok:HOk P w H h)(e:H a=some (.dK kvs)):kvs.length<=sizeLine/\(a==sysModules)=false/\∃ vs,KV kvs vs/\h.DictOf (mixKind P w) a vs:=dk_rd ok (.inl e)
end
section
variable {X:Cx}{pQ:Li (Ad×Obj)}{σ:St}{H:Hp}{s:Sd}{a:Ad}{y v:V}{u r:vL}{o:Ot V}{A:Around}{E:vL->Sd->Prop}
theorem Inv.big(I:Inv X pQ σ H s):sysModules < s.heap.objs.size:=by
 have h:mainGlobals < s.heap.objs.size:=(I.mod.glob.keeps I.bk).lt;exact Nat.lt_trans (by decide) h
theorem d_write{h':Heap}{t':Nat}{ob:HO}(I:Inv X pQ σ H s)(mu:Mut (H a))(hs:Heap.SameBut a s.heap h')(he:∃ q,h'.get? a=some q)(new:ObjOk X.prog X.w (upd H a ob) h' a ob) :
  Inv X pQ σ (upd H a ob) { s with heap:=h',toks:=t' }:=
 I.write (x:=a) (e:=a) mu (.inl rfl) (fun b q hb z=>(hs.2 b hb).trans z) he new
theorem dk_new{P:Program}{w:World}{H':Hp}{h':Heap}{kvs:Li (Key×V)}{vs:Li (Key×vL)}(z:kvs.length<=sizeLine)(hd:(a==sysModules)=false)(rel:KV kvs vs)(dd:h'.DictOf (mixKind P w) a vs) :
  ObjOk P w H' h' a (.dK kvs):=⟨z,hd,vs,rel,dd⟩
end
theorem dk_empty{P:Program}{w:World}{H:Hp}(h:Heap)(hb:sysModules < h.objs.size):ObjOk P w H (h.push { cls:=.type "dict",data:=.dict #[] }) h.objs.size (.dK []):=
 ⟨Nat.zero_le _,beq_eq_false_iff_ne.mpr (Ne.symm (Nat.ne_of_lt hb)),[],.nil,Heap.DictOf.new h⟩
def tPairs:Li (TE×TE)->St->Hp->(Li (V×V)->Hp->Prop)->Prop
 |[],_,H,Q=>Q [] H
 | (tk,tv) :: r,σ,H,Q=>tk σ H fun x H1=>tv σ H1 fun y H2=>tPairs r σ H2 fun ps H3=>Q ((x,y) :: ps) H3
abbrev VV:Li (V×V)->Li (vL×vL)->Prop:=Paired fun p q=>RelV p.1 q.1/\RelV p.2 q.2
def PPs(X:Cx)(pos:Pos)(keys:Li (Ot Expr))(values:Li Expr)(trs:Li (TE×TE)):Prop:=
 ∀ (pQ:Li (Ad×Obj)) (s:Sd) (σ:St) (H:Hp) (Q:Li (V×V)->Hp->Prop),Inv X pQ σ H s->tPairs trs σ H Q->
  wpAny (model X.prog X.w) X.A (evalPairs (pairTrees keys values X.env pos)) (fun vs s'=>∃ ps H',Inv X pQ σ H' s'/\VV ps vs/\Q ps H') X.xe s
theorem pps_nil{X:Cx}{pos:Pos}:PPs X pos [] [] []:=fun pQ s σ H Q I h=>pairTrees_nil_walk ⟨[],H,I,.nil,h⟩
theorem pps_cons{X:Cx}{pos:Pos}{k v:Expr}{ks:Li (Ot Expr)}{vs:Li Expr}{tk tv:TE}{trs:Li (TE×TE)}(hk:PE X k tk)(hv:PE X v tv)(hr:PPs X pos ks vs trs) :
  PPs X pos (some k :: ks) (v :: vs) ((tk,tv) :: trs):=fun pQ s σ H Q I h=>
 pairTrees_cons_walk (thn (hk pQ s σ H _ I h) fun u s1 ⟨x,H1,I1,rx,q1⟩=>thn (hv pQ s1 σ H1 _ I1 q1) fun w2 s2 ⟨y,H2,I2,ry,q2⟩=>
  thn (hr pQ s2 σ H2 _ I2 q2) fun ws s3 ⟨ps,H3,I3,rel,q3⟩=>⟨(x,y) :: ps,H3,I3,.cons ⟨rx,ry⟩ rel,q3⟩)
noncomputable def mergeK(kvs more:Li (Key×V)):Li (Key×V):=more.foldl (fun acc kv=>putK acc kv.1 kv.2) kvs
theorem KV.merge:∀ {more:Li (Key×V)}{rs:Li (Key×vL)}{kvs:Li (Key×V)}{vs:Li (Key×vL)},KV more rs->KV kvs vs->KV (mergeK kvs more) (merged vs rs):=by
 intro more rs kvs vs r;unfold KV at r
 induction r generalizing kvs vs with
 |nil=>intro q;exact q
 |@cons p q ps qs h t ih=>
  intro r0;have e:KV (putK kvs p.1 p.2) (stored vs q.1 q.2):=by
   have:=r0.put p.1 h.2;rw[<-h.1];exact this
  exact ih e
theorem length_mergeK:∀ (more kvs:Li (Key×V)),(mergeK kvs more).length<=kvs.length+more.length
 |[],kvs=>by show kvs.length<=kvs.length+0;omega
 |p :: r,kvs=>by
  have h1:=length_mergeK r (putK kvs p.1 p.2);have h2:=length_putK kvs p.1 p.2;show(mergeK (putK kvs p.1 p.2) r).length<=_;rw[List.length_cons];omega
theorem carries_of{P:Program}{w:World}:∀ {kvs:Li (Key×V)}{ws:Li (vL×vL)},VV (kvs.map fun kv=>(kV kv.1,kv.2)) ws->∃ rs,Carries (mixKind P w) ws rs/\KV kvs rs
 |[],_,r=>by rw[List.map_nil]at r;cases r;exact⟨[],True.intro,.nil⟩
 |p :: kvs,_,r=>by
  rw[List.map_cons]at r;cases r with
  |@cons a b as bs h t=>
   obtain⟨rs,c,q⟩:=carries_of (P:=P) (w:=w) t;obtain⟨b1,b2⟩:=b;exact⟨(p.1,b2) :: rs,⟨kV_is h.1,rfl,c⟩,.cons ⟨rfl,h.2⟩ q⟩
noncomputable def tDisp(K:Fg)(trs:Li (TE×TE)):TE:=fun σ H Q=>∀ p,H p=none->(∀ o,K.lookup p≠some o)->tPairs trs σ (upd H p (.dK [])) fun ps H2=>H2 p=some (.dK [])/\∃ kvs:Li (Key×V),ps=kvs.map (fun kv=>(kV kv.1,kv.2))/\kvs.length<=15/\Q (.ref p) (upd H2 p (.dK (mergeK [] kvs)))
theorem pe_disp{X:Cx}{pos:Pos}{keys:Li (Ot Expr)}{values:Li Expr}{trs:Li (TE×TE)}(h:PPs X pos keys values trs)(hall:keys.all (·.isSome)=true)(hl:keys.length=values.length)(h0:keys≠[])(h15:keys.length<=15):PE X (.Dict keys values pos) (tDisp X.K trs):=by
 intro pQ s σ H Q I q;have hn:=I.hok.fresh (Nat.le_refl s.heap.objs.size);have I1:=I.laid (a:=s.heap.objs.size) (o:=.dK []) (h':=s.heap.push { cls:=.type "dict",data:=.dict #[] }) (t':=s.toks) (fun _ _ q=>Heap.get?_push_of_some _ q) (Nat.le_refl _) (dk_empty s.heap I.big)
 refine wpAny_Dict_walk (knd:=mixKind X.prog X.w) hall hl h0 h15 (thn (h pQ _ σ _ _ I1 (q _ hn fun o z=>absurd (Heap.lt_size (I.kIn _ o z)) (Nat.lt_irrefl _))) fun ws s2 ⟨ps,H2,I2,rel,e,kvs,ep,lk,q2⟩=>?_)
 subst ep;obtain⟨rs,c,rk⟩:=carries_of (P:=X.prog) (w:=X.w) rel;obtain⟨z,hd,vs0,r0,dd⟩:=dk_of I2.hok e;cases r0;refine⟨rs,c,dd,fun h' dd' hs=>⟨.ref s.heap.objs.size,_,?_,rfl,q2⟩⟩
 have hz:(mergeK [] kvs).length<=sizeLine:=by
  have h1:=length_mergeK kvs [];rw[List.length_nil]at h1;rw[sizeLine_eq];omega
 have he:∃ q,h'.get? s.heap.objs.size=some q:=let ⟨q,_,_,hq,_⟩:=dd';⟨q,hq⟩
 exact d_write I2 (by rw[e];exact True.intro) hs he (dk_new hz hd (rk.merge .nil) dd')
section
variable {X:Cx}
noncomputable def rIxD:R2:=fun x y H Q=>∃ p kvs k v,x=.ref p/\y=kV k/\H p=some (.dK kvs)/\valV kvs k=some v/\Q v H
theorem ix_dct:IxR X rIxD:=by
 intro value slice pQ s σ H x y v u Q I rx ry h hs;obtain⟨p,kvs,k,z,rfl,rfl,hq,he,q⟩:=h;cases rx;obtain⟨zz,hd,vs,rel,dd⟩:=dk_of I.hok hq;obtain⟨w',hw,rw'⟩:=RelO.some_of (v:=z) (o:=valueAt vs k) (by rw[<-he];exact rel.val k)
 exact tail_any dd.typeIs PySem.F.slot_dict_getitem.lookup (wpAny_getItem_of (kV_is ry) dd.mapOf hw ⟨z,H,I.tok _,rw',q⟩) hs
noncomputable def rInD:R2:=fun x y H Q=>∃ p kvs k,y=.ref p/\x=kV k/\H p=some (.dK kvs)/\Q (.bl (valV kvs k).isSome) H
theorem op_in_dct:OpR X (compareOp .In) rInD:=by
 intro pQ s σ H x y v u Q I rx ry h;obtain⟨p,kvs,k,rfl,rfl,hq,q⟩:=h;cases ry;obtain⟨zz,hd,vs,rel,dd⟩:=dk_of I.hok hq;refine wpAny_in_of (kV_is rx) hd dd.mapOf ?_;rw[<-(rel.val k).isSome_eq];exact⟨.bl (valV kvs k).isSome,H,I.tok _,rfl,q⟩
end
section
variable {κ:Type} [DecidableEq κ]
end
abbrev KTp(H:Hp):Li (Li Key×V)->Li (Li Key×Ad×vL)->Prop:=Paired fun p q=>p.1=q.1/\H q.2.1=some (.tup (p.1.map kV))/\RelV p.2 q.2.2
section
variable {P:Program}{w:World}{H:Hp}{h:Heap}{a:Ad}
end
section
variable {X:Cx}
end
end L2


namespace Dp
open PySem
theorem Zb{α:Type}{x:α}{C:Prop}(h:(none:Ot α)=some x):C:=nomatch h
noncomputable abbrev S(x:String):Str:=Str.ofString x

inductive D where
 |non|bl (b:Bool)|int (i:Int)|str (x:Str)|tup (xs:List D)|lst (id:Nat)|dct (ks:List Str) (vs:List D)|obj (i:Nat)|kt (ks:List Str)|dic (id:Nat)

noncomputable abbrev Env:=Li (Ot D)
noncomputable abbrev Yi:=Bool×Li D
noncomputable abbrev Za:=Li Yi
noncomputable abbrev Res:=Ot (D×Za)
noncomputable abbrev Fn:=Li D->Za->Res

noncomputable def o2{α β γ:Type}(f:α->β->γ):Ot α->Ot β->Ot γ
 |some x,some y=>some (f x y)
 |_,_=>none
noncomputable def og{α:Type}(p:Prop)[Decidable p](o:Ot α):Ot α:=if p then o else none
mutual
noncomputable def Zv:D->D->Bool
 |.non,.non=>true
 |.bl a,.bl b=>a==b
 |.int a,.int b=>decide (a=b)
 |.str a,.str b=>decide (a=b)
 |.tup a,.tup b=>Z2 a b
 |_,_=>false
noncomputable def Z2:Li D->Li D->Bool
 |[],[]=>true
 |x :: xs,y :: ys=>Zv x y&&Z2 xs ys
 |_,_=>false
end
mutual
noncomputable def okD:Nat->D->Bool
 |_,.non=>true
 |_,.int _=>true
 |_,.str _=>true
 |n+1,.tup xs=>Yd n xs
 |_,_=>false
noncomputable def Yd:Nat->Li D->Bool
 |_,[]=>true
 |n,x :: xs=>okD n x&&Yd n xs
end
inductive Sc where
 |non|bl (b:Bool)|int (i:Int)|str (x:Str)
noncomputable def scD:D->Ot Sc
 |.non=>some .non
 |.bl b=>some (.bl b)
 |.int i=>some (.int i)
 |.str x=>some (.str x)
 |_=>none
noncomputable def Zca:Sc->Sc->Ot Bool
 |.non,.non=>some true
 |.non,.bl _=>some false
 |.non,.int _=>some false
 |.non,.str _=>some false
 |.bl _,.non=>some false
 |.bl a,.bl b=>some (a==b)
 |.bl _,.int _=>none
 |.bl _,.str _=>some false
 |.int _,.non=>some false
 |.int _,.bl _=>none
 |.int a,.int b=>some (decide (a=b))
 |.int _,.str _=>some false
 |.str _,.non=>some false
 |.str _,.bl _=>some false
 |.str _,.int _=>some false
 |.str a,.str b=>some (decide (a=b))
noncomputable def eqT(xs:Li D):D->Ot Bool
 |.tup ys=>if okD 8 (.tup xs)&&okD 8 (.tup ys) then some (Z2 xs ys) else none
 |_=>none
noncomputable def eqD(x y:D):Ot Bool:=match x with
 |.tup xs=>eqT xs y
 |x=>(o2 Zca (scD x) (scD y)).join

inductive Ty where
 |int|bool|str|tuple
 deriving DecidableEq

set_option genInjectivity false in
inductive CE where
 |var (i:Nat)|cst (d:D)
 |bin (op:Operator) (a b:CE)|neg (a:CE)
 |cmp (op:CmpOp) (a b:CE)
 |not (a:CE)|and (a b:CE)|or (a b:CE)|ife (c a b:CE)
 |tupE (a:CE)|lstE (a:CE)|aN|aC (a r:CE)
 |ix (a b:CE)|slice (a lo hi:CE)|nop|part (a:CE)
 |call (f:Nat) (args:CE) (ds:List D)
 |len (a:CE)|tOf (a:CE)|listOf (a:CE)|intOf (a:CE)|min (a b:CE)|max (a b:CE)|isi (T:Ty) (a:CE)
 |comp (rng:Bool) (fr:List Nat) (it elt Xs:CE)|comp2 (fr:List Nat) (it elt Xs:CE)|compT (fr:List Nat) (it elt Xs:CE)|lstR (a b:CE)|new (i:Nat)|meth (tab:List (Nat×Nat)) (o a:CE)|isc (l:List Nat) (a:CE)|tix (o a:CE)
 |rs (k:Bool) (a:CE)
 |inv (a:CE)|tupR (a:CE)|look (ks:List Str) (ds:List D) (a:CE)|dget (a k d:CE)|all (a:CE)|any (a:CE)|inR (ng:Bool) (a b:CE)
 |dict (ks:List Str) (a:CE)|dnew|strOf (a:CE)|joinE (a b:CE)|starts (a b:CE)|rng2 (a b:CE)|srt (a:CE)

set_option genInjectivity false in
inductive CS where
 |skip|seq (a b:CS)|ret (e:CE)|set (i:Nat) (e:CE)|app (i:Nat) (e:CE)|ext (i:Nat) (e:CE)|put (i:Nat) (k e:CE)
 |ite (c:CE) (a b:CS)|for1 (i:Nat) (rng:Bool) (it:CE) (b:CS)|for3 (i:Nat) (it:CE) (b:CS)|forP (i j:Nat) (it:CE) (b:CS)|forE (i j:Nat) (it:CE) (b:CS)|set2 (i j:Nat) (e:CE)|for4 (i j l:Nat) (it:CE) (b:CS)|for2 (i j:Nat) (it:CE) (b:CS)|whl (c:CE) (b:CS)|brk|cont|stop|set3 (i j l:Nat) (e:CE)|act (e:CE)|dput (i:Nat) (a b e:CE)|app2 (o e:CE)

noncomputable def YD(i:Int):Bool:=decide (-(2 ^ 64) < i)&&decide (i < 2 ^ 64)
noncomputable def Zs:Nat:=1000000

noncomputable def UH(op:Operator)(i j:Int):Ot Int:=
 match op with
 |.Add=>some (i+j)
 |.Sub=>some (i - j)
 |.Mult=>if YD i||YD j then some (i * j) else none
 |.FloorDiv=>if 0 < j/\j < 1073741824 then some (i / j) else if j < 0/\-1073741824 < j then some (i.fdiv j) else none
 |.Mod=>if 0 < j then some (i % j) else if j < 0 then some (i.fmod j) else none
 |_=>none
noncomputable def Xi:Operator->Bool
 |.Add=>true
 |_=>false
noncomputable def WQ:Operator->Bool
 |.Mult=>true
 |_=>false
noncomputable def Zeb(a b:Nat)(st:Za):Res:=match st[a]?,st[b]? with
 |some (_,xs),some (_,ys)=>if xs.length+ys.length<=Zs then some (.lst st.length,st++[(true,xs++ys)]) else none
 |_,_=>none
noncomputable def Zfl(a:Nat)(j:Int)(st:Za):Res:=match st[a]? with
 |some (true,[x])=>if j<=1000/\-1000<=j then some (.lst st.length,st++[(true,List.replicate j.toNat x)]) else none
 |_=>none
noncomputable def Zlc(xs:Li D)(j:Int)(st:Za):Res:=match xs with
 |[x]=>if j<=1000/\-1000<=j then some (.tup (List.replicate j.toNat x),st) else none
 |_=>none
noncomputable def Ql(op:Operator)(x y:D)(st:Za):Res:=
 match x,y with
 |.int i,.int j=>match UH op i j with
  |some k=>some (.int k,st)
  |none=>none
 |.tup xs,.tup ys=>if Xi op=true/\xs.length+ys.length<=Zs then some (.tup (xs++ys),st) else none
 |.tup xs,.int j=>if WQ op=true then Zlc xs j st else none
 |.lst a,.lst b=>if Xi op=true then Zeb a b st else none
 |.lst a,.int j=>if WQ op=true then Zfl a j st else none
 |.str x,.str y=>if Xi op=true/\x.length+y.length<=Zs then some (.str (x++y),st) else none
 |_,_=>none

noncomputable def Zi6(x k:Str):Bool:=!(PySem.Builtin.Str.occurrences x k 0 x.length 1).isEmpty
noncomputable def chS(x:Str):Li Str:=x.cps.toList.map fun c=>⟨#[c]⟩
noncomputable def ZaB(_:Za)(_ _:Li D):Ot Bool:=none
noncomputable def Zbj(xs ys:Li D):Ot Bool:=if (xs.isEmpty||ys.isEmpty)=true then some (xs.isEmpty&&ys.isEmpty) else if Yd 7 xs&&Yd 7 ys then some (Z2 xs ys) else none
noncomputable def ZiH(st:Za)(xs:Li D):D->Ot Bool
 |.tup ys=>(match eqT xs (.tup ys) with
  |some k=>some k
  |none=>ZaB st xs ys)
 |_=>none
noncomputable def ZiG(st:Za)(a:Nat):D->Ot Bool
 |.lst b=>(o2 (fun(c d:Yi)=>Zbj c.2 d.2) st[a]? st[b]?).join
 |_=>none
noncomputable def eqS(st:Za)(x y:D):Ot Bool:=match x with
 |.lst a=>ZiG st a y
 |.tup xs=>ZiH st xs y
 |x=>eqD x y

noncomputable def Xb:Int->Li D->Ot Bool
 |_,[]=>some false
 |k,.int i :: r=>(Xb k r).map fun b=>decide (i=k)||b
 |_,_=>none
noncomputable def Xc:Str->Li D->Ot Bool
 |_,[]=>some false
 |k,.str i :: r=>(Xc k r).map fun b=>decide (i=k)||b
 |_,_=>none

noncomputable def ZK:Li Str->Li D->Str->Ot D
 |k :: ks,v :: vs,x=>if k=x then some v else ZK ks vs x
 |_,_,_=>none
noncomputable def JG(f:Int->Int->Bool):D->D->Ot Bool
 |.int i,.int j=>some (f i j)
 |_,_=>none
noncomputable def WZ:Li D->Li D->Ot Bool
 |x :: xs,y :: ys=>if Zv x y=true then WZ xs ys else match x,y with
  |.int i,.int j=>some (decide (i < j))
  |.str a,.str b=>some (decide (a.cps.toList < b.cps.toList))
  |_,_=>none
 |[],ys=>some (decide (0 < ys.length))
 |_ :: _,[]=>some false
noncomputable def ltD(x y:D):Ot Bool:=match x,y with
 |.tup xs,.tup ys=>if okD 8 (.tup xs)&&okD 8 (.tup ys) then WZ xs ys else none
 |x,y=>JG (fun i j=>decide (i < j)) x y
noncomputable def ltS(_:Za)(x y:D):Ot Bool:=ltD x y
noncomputable def inS(st:Za)(x y:D):Ot Bool:=match x,y with
 |.int k,.lst a=>match st[a]? with
  |some (_,xs)=>Xb k xs
  |none=>none
 |.str k,.lst a=>match st[a]? with
  |some (_,xs)=>Xc k xs
  |none=>none
 |.tup ks,.lst a=>match st[a]? with
  |some (_,xs)=>if okD 8 (.tup ks)&&Yd 8 xs then some (xs.any fun d=>Zv d (.tup ks)) else none
  |none=>none
 |.int k,.tup xs=>Xb k xs
 |.str k,.tup xs=>Xc k xs
 |.str k,.dct ks vs=>some (ZK ks vs k).isSome
 |.str k,.str x=>some (Zi6 x k)
 |_,_=>none
noncomputable def niS(st:Za)(x y:D):Ot Bool:=match y with
 |.dct _ _=>none
 |y=>(inS st x y).map not
noncomputable def isN:D->Ot Bool
 |.non=>some true
 |.int _=>some false
 |.str _=>some false
 |.bl _=>some false
 |.tup _=>some false
 |.lst _=>some false
 |.dct _ _=>none
 |.obj _=>none
 |.kt _=>none
 |.dic _=>none
noncomputable def isB(b:Bool):D->Ot Bool
 |.bl a=>some (a==b)
 |_=>none
noncomputable def isD(x:D):D->Ot Bool
 |.non=>isN x
 |.bl b=>isB b x
 |_=>none
noncomputable def ZgF(op:CmpOp)(x y:D)(st:Za):Ot Bool:=
 match op with
 |.Lt=>ltS st x y
 |.LtE=>JG (fun i j=>decide (i<=j)) x y
 |.Gt=>JG (fun i j=>decide (j < i)) x y
 |.GtE=>JG (fun i j=>decide (j<=i)) x y
 |.Eq=>eqS st x y
 |.NotEq=>(eqS st x y).map not
 |.In=>inS st x y
 |.NotIn=>niS st x y
 |.Is=>isD x y
 |.IsNot=>(isD x y).map not

noncomputable def ixN(n:Nat)(i:Int):Ot Nat:=if 0<=i then (if i < n then some i.toNat else none) else if -(n:Int)<=i then some (i+n).toNat else none
noncomputable def atD(xs:Li D)(i:Int):Ot D:=(ixN xs.length i).bind fun j=>xs[j]?
noncomputable def ixD(x y:D)(st:Za):Ot D:=
 match x,y with
 |.tup xs,.int i=>atD xs i
 |.lst a,.int i=>match st[a]? with
  |some (_,xs)=>atD xs i
  |none=>none
 |.dct ks vs,.str k=>ZK ks vs k
 |.kt ks,.int i=>atD (ks.map .str) i
 |.str x,.int i=>if x.length<=Zs then atD ((chS x).map .str) i else none
 |_,_=>none

noncomputable def sIx(n d:Nat):Ot Int->Nat
 |none=>d
 |some i=>if i < 0 then (i+n).toNat else Nat.min i.toNat n
noncomputable def Zbc(xs:Li D)(lo hi:Ot Int):Li D:=(xs.drop (sIx xs.length 0 lo)).take (sIx xs.length xs.length hi - sIx xs.length 0 lo)
noncomputable def Yx(x:D)(lo hi:Ot Int)(st:Za):Res:=
 match x with
 |.tup xs=>if sIx xs.length 0 lo=0/\sIx xs.length xs.length hi=xs.length then some (.tup xs,st) else some (.tup (Zbc xs lo hi),st)
 |.lst a=>match st[a]? with
  |some (_,xs)=>some (.lst st.length,st++[(true,Zbc xs lo hi)])
  |none=>none
 |_=>none

noncomputable def ZeQ(x:D)(st:Za):Ot Int:=
 match x with
 |.tup xs=>some xs.length
 |.lst a=>match st[a]? with
  |some (_,xs)=>some xs.length
  |none=>none
 |.kt ks=>some ks.length
 |.str x=>if x.length<=Zs then some x.length else none
 |_=>none

noncomputable def ZeP(T:Ty):D->Ot Bool
 |.int _=>some (decide (T=.int))
 |.bl _=>some (decide (T=.int)||decide (T=.bool))
 |.str _=>some (decide (T=.str))
 |.tup _=>some (decide (T=.tuple))
 |.non=>some false
 |_=>none

noncomputable def XA(rng:Bool)(x:D):Ot (Li D):=
 match rng,x with
 |true,.int n=>if n < 2 ^ 62/\-(2 ^ 62)<=n then some ((List.range n.toNat).map fun(k:Nat)=>D.int (k:Int)) else none
 |false,.tup xs=>some xs
 |_,_=>none

noncomputable def Z8(ok:Za->Prop)(f:D->Za->Res)(c:D->Za->Res):Li D->Za->Ot (Li D×Za)
 |[],st=>open Classical in if ok st then some ([],st) else none
 |x :: xs,st=>open Classical in if ok st then (match c x st with
  |some (.bl true,st1)=>match f x st1 with
   |some (y,st2)=>match Z8 ok f c xs st2 with
    |some (ys,st3)=>some (y :: ys,st3)
    |none=>none
   |none=>none
  |some (.bl false,st1)=>Z8 ok f c xs st1
  |_=>none) else none
noncomputable def WV(rng:Bool)(x:D)(st:Za):Ot (Li D×(Za->Prop)):=match XA rng x with
 |some xs=>some (xs,fun _=>True)
 |none=>match rng,x with
  |false,.lst a=>match st[a]? with
   |some c=>some (c.2,fun s=>s[a]?=some c)
   |none=>none
  |false,.dct [] (.dic a :: vs)=>match st[a]? with
   |some c=>some (vs,fun s=>s[a]?=some c)
   |none=>none
  |_,_=>none

noncomputable def Xt:Nat->Li D->Li D
 |_,[]=>[]
 |k,x :: xs=>.tup [.int (k:Int),x] :: Xt (k+1) xs
noncomputable def UA(x:D)(st:Za):Ot (Li D×(Za->Prop)):=match x with
 |.tup xs=>some (Xt 0 xs,fun _=>True)
 |.lst a=>match st[a]? with
  |some c=>some (Xt 0 c.2,fun s=>s[a]?=some c)
  |none=>none
 |_=>none

noncomputable def Zbq:D->Bool
 |.tup [_,_]=>true
 |_=>false
noncomputable def Q8(x:D)(st:Za):Ot (Li D×(Za->Prop)):=match x with
 |.tup xs=>if xs.all Zbq=true then some (xs,fun _=>True) else none
 |.lst a=>match st[a]? with
  |some c=>if c.2.all Zbq=true then some (c.2,fun s=>s[a]?=some c) else none
  |none=>none
 |_=>none

noncomputable abbrev Ev:=Env->Za->Res
noncomputable def ZC(fa:Ev)(g:D->Za->Res):Ev:=fun ρ st=>match fa ρ st with
 |some (x,st1)=>g x st1
 |none=>none
noncomputable def ZQ(fa fb:Ev)(g:D->D->Za->Res):Ev:=fun ρ st=>match fa ρ st with
 |some (x,st1)=>match fb ρ st1 with
  |some (y,st2)=>g x y st2
  |none=>none
 |none=>none
noncomputable def VP(fa fb fc:Ev)(g:D->D->D->Za->Res):Ev:=fun ρ st=>match fa ρ st with
 |some (x,st1)=>match fb ρ st1 with
  |some (y,st2)=>match fc ρ st2 with
   |some (z,st3)=>g x y z st3
   |none=>none
  |none=>none
 |none=>none
noncomputable def Xs(fc ft ff:Ev):Ev:=fun ρ st=>match fc ρ st with
 |some (.bl true,st1)=>ft ρ st1
 |some (.bl false,st1)=>ff ρ st1
 |_=>none
noncomputable def Yj(i:Nat):Ev:=fun ρ st=>match ρ[i]? with
 |some (some d)=>some (d,st)
 |_=>none
noncomputable def evC(d:D):Ev:=fun _ st=>some (d,st)
noncomputable def ZeZ:D->Za->Res
 |.int i,st=>some (.int (-i),st)
 |_,_=>none
noncomputable def ZbB:D->Za->Res
 |.bl k,st=>some (.bl (!k),st)
 |_,_=>none
noncomputable def Za7(op:CmpOp)(x y:D)(st:Za):Res:=match ZgF op x y st with
 |some k=>some (.bl k,st)
 |none=>none
noncomputable def Zbw:D->Za->Res
 |.tup xs,st=>some (.lst st.length,st++[(true,xs)])
 |_,_=>none
noncomputable def Ys:D->D->Za->Res
 |x,.tup xs,st=>if xs.length < 1000 then some (.tup (x :: xs),st) else none
 |_,_,_=>none
noncomputable def ixR(x y:D)(st:Za):Res:=match ixD x y st with
 |some d=>some (d,st)
 |none=>none
noncomputable def Wa:D->D->D->Za->Res
 |x,.non,.non,st=>Yx x none none st
 |x,.int i,.non,st=>Yx x (some i) none st
 |x,.non,.int j,st=>Yx x none (some j) st
 |x,.int i,.int j,st=>Yx x (some i) (some j) st
 |_,_,_,_=>none
noncomputable def ZaC:D->Za->Res
 |.int i,st=>some (.int i,st)
 |_,_=>none
noncomputable def Vm(g:Fn)(ds:Li D):D->Za->Res
 |.tup xs,st=>g (xs++ds) st
 |_,_=>none
noncomputable def Zat(F:Nat->Fn)(tab:Li (Nat×Nat)):D->D->Za->Res
 |.obj i,.tup xs,st=>match tab.lookup i with
  |some j=>F j (.obj i :: xs) st
  |none=>none
 |_,_,_=>none
noncomputable def UL(k:Str):Li Str->Ot Nat
 |[]=>none
 |a :: r=>if a=k then some 0 else (UL k r).map (·+1)
noncomputable def UK(k:D):Li D->Ot Nat
 |[]=>none
 |a :: r=>if Zv a k=true then some 0 else (UK k r).map (·+1)
noncomputable def ZdK:D->D->Za->Res
 |.lst a,.tup [.tup ks],st=>(match st[a]? with
  |some (_,xs)=>if (okD 8 (.tup ks)&&Yd 8 xs)=true then (match UK (.tup ks) xs with
   |some i=>some (.int (i:Int),st)
   |none=>none) else none
  |none=>none)
 |.kt ks,.tup [.str k],st=>match UL k ks with
  |some i=>some (.int (i:Int),st)
  |none=>none
 |_,_,_=>none
noncomputable def QK(x:D)(st:Za):Res:=match ZeQ x st with
 |some n=>some (.int n,st)
 |none=>none
noncomputable def XH:D->Za->Res
 |.tup xs,st=>some (.tup xs,st)
 |.lst l,st=>match st[l]? with
  |some (_,xs)=>some (.tup xs,st)
  |none=>none
 |_,_=>none
noncomputable def Ul:D->Za->Res
 |.tup xs,st=>some (.lst st.length,st++[(true,xs)])
 |.lst l,st=>match st[l]? with
  |some (_,xs)=>some (.lst st.length,st++[(true,xs)])
  |none=>none
 |_,_=>none
noncomputable def ZeJ:D->Za->Res
 |.int i,st=>some (.int i,st)
 |.bl true,st=>some (.int 1,st)
 |.bl false,st=>some (.int 0,st)
 |_,_=>none
noncomputable def XI:Li D->Ot (Li D)
 |[]=>some []
 |.tup [_,.lst j] :: r=>(XI r).map (.lst j :: ·)
 |_=>none
noncomputable def ZaH:D->D->Za->Res
 |.dic a,.tup [],st=>(match st[a]? with
  |some (true,es)=>(XI es).map fun vs=>(.dct [] (.dic a :: vs),st)
  |_=>none)
 |_,_,_=>none
noncomputable def ZeY:D->D->Za->Res
 |.int i,.int j,st=>some (.int (if j < i then j else i),st)
 |_,_,_=>none
noncomputable def ZeV:D->D->Za->Res
 |.int i,.int j,st=>some (.int (if j > i then j else i),st)
 |_,_,_=>none
noncomputable def Jv(T:Ty)(x:D)(st:Za):Res:=match ZeP T x with
 |some k=>some (.bl k,st)
 |none=>none
noncomputable def JS:Li D->Ot (Li D)
 |[.int i,.int j]=>some (if j < i then [.int j,.int i] else [.int i,.int j])
 |_=>none
noncomputable def rsL(k:Bool)(xs:Li D):Ot (Li D):=if k then JS xs else some xs.reverse
noncomputable def rsD(k:Bool):D->Za->Res
 |.lst a,st=>match st[a]? with
  |some (_,xs)=>(match rsL k xs with
   |some ys=>some (.lst st.length,st++[(true,ys)])
   |none=>none)
  |none=>none
 |_,_=>none
noncomputable def Um(ks:Li Str)(ds:Li D):D->Za->Res
 |.str k,st=>match ZK ks ds k with
  |some d=>some (d,st)
  |none=>none
 |_,_=>none
noncomputable def getD:D->D->D->Za->Res
 |.dct ks vs,.str k,d,st=>some ((ZK ks vs k).getD d,st)
 |_,_,_,_=>none
noncomputable def ZgU(ng:Bool):D->D->Za->Res
 |.int x,.int n,st=>if -(2 ^ 62)<=n/\n < 2 ^ 62 then some (.bl (ng != decide (0<=x/\x < n)),st) else none
 |_,_,_=>none
noncomputable def Qu(ks:Li Str):D->Za->Res
 |.tup vs,st=>if ks.length=vs.length/\(ks.Nodup/\ks≠[])/\ks.length<=15 then some (.dct ks vs,st) else none
 |_,_=>none
noncomputable def one(d:D):Li (Ot D):=[some d]
noncomputable def two:D->Li (Ot D)
 |.tup [a,b]=>[some a,some b]
 |_=>[]
noncomputable def Yh(b:D->Li (Ot D))(ρ:Env)(fr:Li Nat)(d:D):Env:=b d++fr.map fun i=>(ρ[i]?).join
noncomputable def Xq(b:D->Li (Ot D))(w:D->Za->Ot (Li D×(Za->Prop)))(fr:Li Nat)(fi fe fc:Ev):Ev:=fun ρ st=>match fi ρ st with
 |some (x,st1)=>match w x st1 with
  |some (xs,ok)=>if xs.length<=1000 then
    match Z8 ok (fun d s=>fe (Yh b ρ fr d) s) (fun d s=>fc (Yh b ρ fr d) s) xs st1 with
    |some (ys,st2)=>some (.lst st2.length,st2++[(true,ys)])
    |none=>none
   else none
  |none=>none
 |none=>none

noncomputable def Zf0:Ev:=fun _ st=>some (.dic st.length,st++[(true,[])])
noncomputable def ev(F:Nat->Fn):CE->Ev
 |.var i=>Yj i
 |.cst d=>evC d
 |.bin op a b=>ZQ (ev F a) (ev F b) (Ql op)
 |.neg a=>ZC (ev F a) ZeZ
 |.cmp op a b=>ZQ (ev F a) (ev F b) (Za7 op)
 |.not a=>ZC (ev F a) ZbB
 |.and a b=>Xs (ev F a) (ev F b) (evC (.bl false))
 |.or a b=>Xs (ev F a) (evC (.bl true)) (ev F b)
 |.ife c a b=>Xs (ev F c) (ev F a) (ev F b)
 |.tupE a=>ev F a
 |.lstE a=>ZC (ev F a) Zbw
 |.aN=>evC (.tup [])
 |.aC a r=>ZQ (ev F a) (ev F r) Ys
 |.ix a b=>ZQ (ev F a) (ev F b) ixR
 |.slice a lo hi=>VP (ev F a) (ev F lo) (ev F hi) Wa
 |.nop=>evC .non
 |.part a=>ZC (ev F a) ZaC
 |.call f a ds=>ZC (ev F a) (Vm (F f) ds)
 |.len a=>ZC (ev F a) QK
 |.tOf a=>ZC (ev F a) XH
 |.listOf a=>ZC (ev F a) Ul
 |.intOf a=>ZC (ev F a) ZeJ
 |.min a b=>ZQ (ev F a) (ev F b) ZeY
 |.max a b=>ZQ (ev F a) (ev F b) ZeV
 |.isi T a=>ZC (ev F a) (Jv T)
 |.rs k a=>ZC (ev F a) (rsD k)
 |.inv _=>fun _ _=>none
 |.tupR _=>fun _ _=>none
 |.look ks ds a=>ZC (ev F a) (Um ks ds)
 |.dget a k d=>VP (ev F a) (ev F k) (ev F d) getD
 |.inR ng a b=>ZQ (ev F a) (ev F b) (ZgU ng)
 |.all _=>fun _ _=>none
 |.any _=>fun _ _=>none
 |.comp rng fr it elt cnd=>Xq one (WV rng) fr (ev F it) (ev F elt) (ev F cnd)
 |.comp2 fr it elt cnd=>Xq two UA fr (ev F it) (ev F elt) (ev F cnd)
 |.compT fr it elt cnd=>Xq two Q8 fr (ev F it) (ev F elt) (ev F cnd)
 |.lstR _ _=>fun _ _=>none
 |.new i=>evC (.obj i)
 |.meth tab o a=>ZQ (ev F o) (ev F a) (Zat F tab)
 |.isc _ _=>fun _ _=>none
 |.tix o a=>ZQ (ev F o) (ev F a) ZdK
 |.dict ks a=>ZC (ev F a) (Qu ks)
 |.dnew=>Zf0
 |.strOf _=>fun _ _=>none
 |.joinE _ _=>fun _ _=>none
 |.starts _ _=>fun _ _=>none
 |.rng2 a b=>ZQ (ev F a) (ev F b) ZaH
 |.srt _=>fun _ _=>none

inductive Fl where
 |nx (ρ:Env)|rt (d:D)|bk (ρ:Env)|ct (ρ:Env)

noncomputable def Zr(ρ:Env)(i:Nat)(d:D):Env:=ρ.set i (some d)

noncomputable def ZZ(body:D->Env->Za->Ot (Fl×Za)):Li D->Env->Za->Ot (Fl×Za)
 |[],ρ,st=>some (.nx ρ,st)
 |d :: ds,ρ,st=>match body d ρ st with
  |some (.nx ρ',st')=>ZZ body ds ρ' st'
  |some (.ct ρ',st')=>ZZ body ds ρ' st'
  |some (.bk ρ',st')=>some (.nx ρ',st')
  |some (.rt v,st')=>some (.rt v,st')
  |none=>none
noncomputable def ZW(body:D->Env->Za->Ot (Fl×Za))(a:Nat):Nat->Nat->Env->Za->Ot (Fl×Za)
 |0,i,ρ,st=>match st[a]? with
  |some (_,xs)=>if xs.length<=i then some (.nx ρ,st) else none
  |none=>none
 |n+1,i,ρ,st=>match st[a]? with
  |some (_,xs)=>match xs[i]? with
   |none=>some (.nx ρ,st)
   |some d=>match body d ρ st with
    |some (.nx ρ',st')=>ZW body a n (i+1) ρ' st'
    |some (.ct ρ',st')=>ZW body a n (i+1) ρ' st'
    |some (.bk ρ',st')=>some (.nx ρ',st')
    |some (.rt v,st')=>some (.rt v,st')
    |none=>none
  |none=>none

noncomputable abbrev Ex:=Env->Za->Ot (Fl×Za)
noncomputable def Xm(f g:Ex):Ex:=fun ρ st=>match f ρ st with
 |some (.nx ρ',st')=>g ρ' st'
 |r=>r
noncomputable def Zds(f:Ev):Ex:=fun ρ st=>match f ρ st with
 |some (d,st')=>some (.rt d,st')
 |none=>none
noncomputable def Xn(i:Nat)(f:Ev):Ex:=fun ρ st=>match f ρ st with
 |some (d,st')=>some (.nx (Zr ρ i d),st')
 |none=>none
noncomputable def QY(i j:Nat)(f:Ev):Ex:=fun ρ st=>match f ρ st with
 |some (.tup [x,y],st')=>some (.nx (Zr (Zr ρ i x) j y),st')
 |_=>none
noncomputable def QZ(i j l:Nat)(f:Ev):Ex:=fun ρ st=>match f ρ st with
 |some (.tup [x,y,z],st')=>some (.nx (Zr (Zr (Zr ρ i x) j y) l z),st')
 |_=>none
noncomputable def ZbP(f:Ev):Ex:=fun ρ st=>match f ρ st with
 |some (_,st')=>some (.nx ρ,st')
 |none=>none
noncomputable def X3(a:Nat)(d:D)(st:Za):Ot Za:=match st[a]? with
 |some (true,xs)=>if xs.length < Zs then some (st.set a (true,xs++[d])) else none
 |_=>none
noncomputable def Qe(a:Nat)(j:Int)(d:D)(st:Za):Ot Za:=match st[a]? with
 |some (true,xs)=>match ixN xs.length j with
  |some p=>some (st.set a (true,xs.set p d))
  |none=>none
 |_=>none
noncomputable def okN:Nat->D->Bool
 |_,.int _=>true
 |_,.str _=>true
 |n+1,.tup ds=>ds.all (okN n)
 |_,_=>false
noncomputable def VA:D->Bool
 |.tup _=>true
 |_=>false
noncomputable def YQ(k:D):Li D->Ot Nat
 |[]=>none
 |.tup [x,.lst j] :: r=>if Zv x k=true then some j else YQ k r
 |_=>none
noncomputable def ZdC(i:Nat)(fk fe:Ev):Ex:=fun ρ st=>match ρ[i]? with
 |some (some (.dic a))=>match fk ρ st with
  |some (k,st1)=>if (okN 8 k&&VA k)=true then (match st1[a]? with
   |some (true,es)=>if es.length < 1000 then (match YQ k es with
    |some j=>(match fe ρ st1 with
     |some (v,st2)=>(match X3 j v st2 with
      |some st3=>some (.nx ρ,st3)
      |none=>none)
     |none=>none)
    |none=>(match fe ρ (st1.set a (true,es++[.tup [k,.lst st1.length]])++[(true,[])]) with
     |some (v,st2)=>(match X3 st1.length v st2 with
      |some st3=>some (.nx ρ,st3)
      |none=>none)
     |none=>none)) else none
   |_=>none) else none
  |none=>none
 |_=>none
noncomputable def Jg(i:Nat)(f:Ev):Ex:=fun ρ st=>match ρ[i]? with
 |some (some (.lst a))=>match f ρ st with
  |some (d,st')=>match X3 a d st' with
   |some st2=>some (.nx ρ,st2)
   |none=>none
  |none=>none
 |_=>none
noncomputable def Qh(o f:Ev):Ex:=fun ρ st=>match o ρ st with
 |some (.lst a,st1)=>match f ρ st1 with
  |some (d,st2)=>match X3 a d st2 with
   |some st3=>some (.nx ρ,st3)
   |none=>none
  |none=>none
 |_=>none
noncomputable def ZgL(a b:Nat)(st:Za):Ot Za:=match st[a]?,st[b]? with
 |some (true,xs),some (true,ys)=>if xs.length+ys.length<=Zs then some (st.set a (true,xs++ys)) else none
 |_,_=>none
noncomputable def Zcd(i:Nat)(f:Ev):Ex:=fun ρ st=>match ρ[i]? with
 |some (some (.lst a))=>match f ρ st with
  |some (.lst b,st')=>match ZgL a b st' with
   |some st2=>some (.nx ρ,st2)
   |none=>none
  |_=>none
 |_=>none
noncomputable def Zdn(i:Nat)(k f:Ev):Ex:=fun ρ st=>match f ρ st with
 |some (d,st1)=>match ρ[i]? with
  |some (some (.lst a))=>match k ρ st1 with
   |some (.int j,st2)=>match Qe a j d st2 with
    |some st3=>some (.nx ρ,st3)
    |none=>none
   |_=>none
  |_=>none
 |none=>none
noncomputable def QG(c:Ev)(f g:Ex):Ex:=fun ρ st=>match c ρ st with
 |some (.bl true,st1)=>f ρ st1
 |some (.bl false,st1)=>g ρ st1
 |_=>none
noncomputable def Qw(i:Nat)(rng:Bool)(it:Ev)(b:Ex):Ex:=fun ρ st=>match it ρ st with
 |some (x,st1)=>match XA rng x with
  |some xs=>ZZ (fun d ρ s=>b (Zr ρ i d) s) xs ρ st1
  |none=>match rng,x with
   |false,.lst a=>match st1[a]? with
    |some (_,xs)=>ZW (fun d ρ s=>b (Zr ρ i d) s) a xs.length 0 ρ st1
    |none=>none
   |_,_=>none
 |none=>none
noncomputable def Z0(ok:Za->Prop)(body:D->D->Env->Za->Ot (Fl×Za)):Li (D×D)->Env->Za->Ot (Fl×Za)
 |[],ρ,st=>open Classical in if ok st then some (.nx ρ,st) else none
 |p :: ps,ρ,st=>open Classical in if ok st then (match body p.1 p.2 ρ st with
  |some (.nx ρ',st')=>Z0 ok body ps ρ' st'
  |some (.ct ρ',st')=>Z0 ok body ps ρ' st'
  |some (.bk ρ',st')=>some (.nx ρ',st')
  |some (.rt v,st')=>some (.rt v,st')
  |none=>none) else none
noncomputable def Zlj(i j:Nat)(it:Ev)(b:Ex):Ex:=fun ρ st=>match it ρ st with
 |some (.tup [.lst la,.lst lb],st1)=>match st1[la]?,st1[lb]? with
  |some ca,some cb=>Z0 (fun s=>s[la]?=some ca/\s[lb]?=some cb) (fun x y ρ s=>b (Zr (Zr ρ i x) j y) s) (ca.2.zip cb.2) ρ st1
  |_,_=>none
 |_=>none
noncomputable def Xu:Nat->Li D->Li (D×D)
 |_,[]=>[]
 |k,x :: xs=>(.int (k:Int),x) :: Xu (k+1) xs
noncomputable def Zgi(x:D)(st:Za):Ot (Li D×(Za->Prop)):=match x with
 |.tup xs=>some (xs,fun _=>True)
 |.lst a=>match st[a]? with
  |some c=>some (c.2,fun s=>s[a]?=some c)
  |none=>none
 |_=>none
noncomputable def WP(i j:Nat)(it:Ev)(b:Ex):Ex:=fun ρ st=>match it ρ st with
 |some (x,st1)=>match Zgi x st1 with
  |some (xs,ok)=>Z0 ok (fun x y ρ s=>b (Zr (Zr ρ i x) j y) s) (Xu 0 xs) ρ st1
  |none=>none
 |none=>none
noncomputable def Q5(i j l:Nat)(b:Ex)(d:D)(ρ:Env)(s:Za):Ot (Fl×Za):=match d with
 |.tup [x,y,z]=>b (Zr (Zr (Zr ρ i x) j y) l z) s
 |_=>none
noncomputable def Vv(i j l:Nat)(it:Ev)(b:Ex):Ex:=fun ρ st=>match it ρ st with
 |some (.tup xs,st1)=>ZZ (Q5 i j l b) xs ρ st1
 |_=>none


noncomputable def ex(F:Nat->Fn):CS->Ex
 |.skip=>fun ρ st=>some (.nx ρ,st)
 |.seq a b=>Xm (ex F a) (ex F b)
 |.ret e=>Zds (ev F e)
 |.set i e=>Xn i (ev F e)
 |.app i e=>Jg i (ev F e)
 |.ext i e=>Zcd i (ev F e)
 |.put i k e=>Zdn i (ev F k) (ev F e)
 |.ite c a b=>QG (ev F c) (ex F a) (ex F b)
 |.for1 i rng it b=>Qw i rng (ev F it) (ex F b)
 |.forP _ _ _ _=>fun _ _=>none
 |.forE i j it b=>WP i j (ev F it) (ex F b)
 |.for3 _ _ _=>fun _ _=>none
 |.set2 i j e=>QY i j (ev F e)
 |.for4 i j l it b=>Vv i j l (ev F it) (ex F b)
 |.for2 _ _ _ _=>fun _ _=>none
 |.whl _ _=>fun _ _=>none
 |.brk=>fun ρ st=>some (.bk ρ,st)
 |.cont=>fun ρ st=>some (.ct ρ,st)
 |.stop=>fun _ _=>none
 |.set3 i j l e=>QZ i j l (ev F e)
 |.act e=>ZbP (ev F e)
 |.dput i a b _=>ZdC i (ev F a) (ev F b)
 |.app2 o e=>Qh (ev F o) (ev F e)

structure FD where
 ps:Nat
 ns:Nat
 body:CS
noncomputable def fnD(F:Nat->Fn)(f:FD):Fn:=fun ds st=>
 if ds.length=f.ps then
  match ex F f.body (ds.map some++List.replicate (f.ns - ds.length) none) st with
  |some (.rt d,st')=>some (d,st')
  |some (.nx _,st')=>some (.non,st')
  |_=>none
 else none
noncomputable def run(T:Nat->Ot FD):Nat->Nat->Fn
 |0,_=>fun _ _=>none
 |n+1,i=>match T i with
  |some f=>fnD (run T n) f
  |none=>fun _ _=>none

inductive GV where
 |fn (i:Nat) (ps:Nat) (ds:List D)|cst (d:D)|blt|dct (ks:List Str) (ds:List D)|cls (i:Nat) (ms:List (Str×Nat×Nat)) (subs:List Nat)
noncomputable abbrev Gs:=Li (Str×GV)

noncomputable def CE.ofConst:Const->Ot CE
 |.none=>some (.cst .non)
 |.bool b=>some (.cst (.bl b))
 |.int i=>some (.cst (.int i))
 |.str x=>some (.cst (.str x))
 |_=>none
noncomputable def Xz(sc:Scope)(x:Str):Bool:=!(x==("__debug__":Str))&&!(x==("__classdict__":Str))&&match sc.names.lookup x with
 |some .local=>true
 |some .cell=>true
 |some .free=>true
 |_=>false
noncomputable def ZL(sc:Scope)(x:Str):Bool:=!(x==("__debug__":Str))&&match sc.names.lookup x with
 |some .globalImplicit=>true
 |_=>false
noncomputable def Zjr(x:Str):Ot Ty:=
 if x = "int" then some .int else if x = "bool" then some .bool else if x = "str" then some .str else if x = "tuple" then some .tuple else none
noncomputable def ZV(sc:Scope):Li Str:=(sc.names.filter fun p=>decide (p.2=.free)).map (·.1)

noncomputable def Zgy(f:Str)(x:CE):Ot CE:=
 if f = "len" then some (.len x) else if f = "tuple" then some (.tOf x) else if f = "list" then some (.listOf x) else if f = "int" then some (.intOf x) else if f = "sorted" then some (.rs true x) else none
noncomputable def Zgz(f:Str)(x y:CE):Ot CE:=if f = "min" then some (.min x y) else if f = "max" then some (.max x y) else none
noncomputable def Zam(G:Gs)(x:Str):Bool:=match G.lookup x with
 |some .blt=>true
 |_=>false
noncomputable def Zh6(G:Gs)(sc:Scope)(t:Str):Ot Ty:=if ZL sc t&&Zam G t then Zjr t else none
noncomputable def ZaN(G:Gs)(sc:Scope):Expr->Ot Ty
 |.Name t _=>Zh6 G sc t
 |_=>none
noncomputable def Jo(_:Gs)(_:Scope)(_:Expr):Ot (Li Nat):=none
noncomputable def Zf7(m:Str)(k:Nat)(G:Gs)(x:Str):Ot (Nat×Nat):=match G.lookup x with
 |some (.cls i ms _)=>(match ms.lookup m with
  |some (j,ps)=>if ps=k+1 then some (i,j) else none
  |none=>none)
 |_=>none
noncomputable def XR(m:Str)(k:Nat)(G:Gs):Li (Nat×Nat):=(G.map Prod.fst).filterMap (Zf7 m k G)
noncomputable def ZY:Li (Ot Expr)->Ot (Li Str)
 |[]=>some []
 |some (.Constant (.str k) _ _) :: r=>(ZY r).map (k :: ·)
 |_=>none
noncomputable def ZfW:Expr->Ot (Str×Li Expr)
 |.Call (.Name f _) as [] _=>some (f,as)
 |_=>none
noncomputable def fnA(G:Gs)(sc:Scope)(nm:Str)(e:Expr):Ot (Li Expr):=(ZfW e).bind fun p=>og (p.1=nm/\ZL sc p.1=true/\Zam G p.1=true) (some p.2)
noncomputable def Zhd:Li Expr->Ot Expr
 |[a]=>some a
 |_=>none
noncomputable def Z6(G:Gs)(sc:Scope)(e:Expr):Ot Expr:=(fnA G sc "range" e).bind Zhd
noncomputable def JZ(_:Gs)(_:Scope)(_:Str)(_:Expr):Ot Expr:=none
noncomputable def JC(_:Gs)(_:Scope)(_:Str)(_:Expr):Ot (Expr×Expr):=none
noncomputable def o3{α β γ δ:Type}(f:α->β->γ->δ):Ot α->Ot β->Ot γ->Ot δ
 |some x,b,c=>o2 (f x) b c
 |none,_,_=>none
theorem UZ{α γ:Type}{P:γ->Prop}{f:α->γ}{a:Ot α}{c:γ}(h:a.map f=some c)(k:∀ x,a=some x->P (f x)):P c:=by
 cases a with
 |none=>exact Zb h
 |some x=>cases h;exact k x rfl
theorem Yl{α β γ:Type}{P:γ->Prop}{f:α->β->γ}{a:Ot α}{b:Ot β}{c:γ}(h:o2 f a b=some c)(k:∀ x y,a=some x->b=some y->P (f x y)):P c:=by
 cases a with
 |none=>exact Zb h
 |some x=>cases b with
  |none=>exact Zb h
  |some y=>cases h;exact k x y rfl rfl
theorem WE{α β γ δ:Type}{P:δ->Prop}{f:α->β->γ->δ}{a:Ot α}{b:Ot β}{d:Ot γ}{c:δ}(h:o3 f a b d=some c)(k:∀ x y z,a=some x->b=some y->d=some z->P (f x y z)):P c:=by
 cases a with
 |none=>exact Zb h
 |some x=>exact Yl (P:=P) h fun y z e e'=>k x y z rfl e e'
theorem XC{α:Type}{P:Prop}{p:Prop}[Decidable p]{o:Ot α}{c:α}(h:og p o=some c)(k:p->o=some c->P):P:=by
 unfold og at h;by_cases hp:p
 ·rw[if_pos hp]at h;exact k hp h
 ·rw[if_neg hp]at h;cases h
theorem j_e{α:Type}{P:Prop}{o:Ot (Ot α)}{c:α}(h:o.join=some c)(k:o=some (some c)->P):P:=by
 cases o with
 |none=>exact Zb h
 |some x=>cases h;exact k rfl
noncomputable def ZbT(G:Gs)(sc:Scope)(f:Str)(a:Expr)(r:Expr->Ot CE):Ot CE:=match JZ G sc f a with
 |some e=>(r e).map .tupR
 |none=>match JC G sc f a with
  |some (u,v)=>o2 .lstR (r u) (r v)
  |none=>((r a).map (Zgy f)).join
noncomputable def ZbU(G:Gs)(sc:Scope)(f:Str)(a b:Expr)(r:Expr->Ot CE):Ot CE:=if f = "isinstance" then (match Jo G sc b with
  |some l=>(r a).map (.isc l)
  |none=>o2 (fun x T=>.isi T x) (r a) (ZaN G sc b)) else (o2 (Zgz f) (r a) (r b)).join
noncomputable def ZbZ(G:Gs)(sc:Scope)(f:Str)(as:Li Expr)(cs:Ot CE)(r:Expr->Ot CE):Ot CE:=
 if ZL sc f then (match G.lookup f with
   |some (.fn i ps ds)=>og (as.length<=ps/\ps<=as.length+ds.length) (cs.map fun c=>.call i c (ds.drop (as.length+ds.length - ps)))
   |some .blt=>match as with
    |[a]=>ZbT G sc f a r
    |[a,b]=>ZbU G sc f a b r
    |_=>none
   |some (.cls i _ _)=>match as with
    |[]=>some (.new i)
    |_=>none
   |_=>none) else none
noncomputable def ZfT(G:Gs)(ob:Expr)(m:Str)(ap:Pos)(as:Li Expr)(cp:Pos)(cs:Ot CE)(r:Expr->Ot CE):Ot CE:=match ob with
 |.Dict _ _ _=>(match as with
  |[a,b]=>og (m = "get"/\(ap.endLine==cp.line)=true) (o3 .dget (r ob) (r a) (r b))
  |_=>none)
 |.Name _ _=>og ((ap.endLine==cp.line)=true/\as.length < 20) (if m = "index" then og (as.length=1) (o2 .tix (r ob) cs) else o2 (.meth (XR m as.length G)) (r ob) cs)
 |_=>none
noncomputable def Zix(G:Gs)(sc:Scope)(f:Expr)(as:Li Expr)(cp:Pos)(cs:Ot CE)(r:Expr->Ot CE):Ot CE:=match f with
 |.Name f _=>ZbZ G sc f as cs r
 |.Attribute ob m ap=>ZfT G ob m ap as cp cs r
 |_=>none
noncomputable def Zkk:Expr->Bool
 |.Slice ..=>true
 |_=>false
noncomputable def cVs(f:Expr->Ot CE):Li Expr->Ot CE
 |[]=>some .aN
 |e :: es=>match f e,cVs f es with
  |some x,some r=>some (.aC x r)
  |_,_=>none
noncomputable def Zkc(f:Expr->Ot CE)(keys:Li (Ot Expr))(vals:Li Expr):Ot CE:=match keys with
 |[]=>og (vals.length=0) (some .dnew)
 |_=>og (keys.length=vals.length/\keys≠[]/\keys.length<=15) (o2 .dict (ZY keys) (cVs f vals))
noncomputable def WJ(_:Gs)(_:Scope)(_:Expr):Ot (Li Expr):=none
noncomputable def Ve(_:Gs)(_:Scope)(_:Expr):Ot (Li Expr):=none
noncomputable def W5(G:Gs)(sc:Scope)(e:Expr):Ot Expr:=(fnA G sc "enumerate" e).bind Zhd
noncomputable def W6(G:Gs)(sc:Scope)(e:Expr):Ot Expr:=W5 G sc e
noncomputable def nmE:Expr->Ot Str
 |.Name x _=>some x
 |_=>none
noncomputable def nmL:Li Expr->Ot (Li Str)
 |[a,b]=>o2 (fun x y=>[x,y]) (nmE a) (nmE b)
 |_=>none
noncomputable def tgN:Expr->Ot (Li Str)
 |.Name x _=>some [x]
 |.Tuple es _ _=>nmL es
 |_=>none
noncomputable def mkC(r:Ot (Ot Bool))(fr:Li Nat)(ci ce cc:CE):CE:=match r with
 |some (some b)=>.comp b fr ci ce cc
 |some none=>.comp2 fr ci ce cc
 |none=>.compT fr ci ce cc
noncomputable def XD(N:Li Str):Li Str->Ot (Li Nat)
 |[]=>some []
 |x :: r=>match N.idxOf? x,XD N r with
  |some i,some is=>some (i :: is)
  |_,_=>none

noncomputable def ZcS(G:Gs)(sc:Scope)(N:Li Str)(x:Str):Ot CE:=
 if Xz sc x then (N.idxOf? x).map .var else if ZL sc x then (match G.lookup x with
  |some (.cst d)=>some (.cst d)
  |_=>none) else none
noncomputable def Zap(G:Gs)(sc:Scope):Expr->Ot (Li Str×Li D)
 |.Name x _=>if ZL sc x then (match G.lookup x with
  |some (.dct ks ds)=>some (ks,ds)
  |_=>none) else none
 |_=>none
noncomputable def Va:Expr->Ot (Ot Expr×Ot Expr)
 |.Slice lo hi none _=>some (lo,hi)
 |_=>none
noncomputable def ZaG:Expr->Ot Expr
 |.Slice none none (some s) _=>some s
 |_=>none
noncomputable def ZgW:CE->Bool
 |.neg (.cst (.int 1))=>true
 |_=>false
noncomputable def Vx(sc:Scope)(x:Str):Bool:=match sc.names.lookup x with
 |some .cell=>true
 |some .free=>true
 |_=>false
noncomputable def Xr(sc sc2:Scope)(xs:Li Str):Bool:=
 decide (sc2.kind=.function)&&(sc2.names.all fun p=>decide (p.2≠.cell))&&(xs.all fun x=>decide (sc2.names.lookup x=some .local))&&(sc2.names.all fun p=>!decide (p.2=.local)||decide (sc2.names.lookup p.1=some .local)) &&
 decide (xs++ZV sc2).Nodup&&(ZV sc2).all (fun y=>Vx sc y&&decide (sc2.names.lookup y=some .free))
noncomputable def ZgT(_:CmpOp):Ot Bool:=none
noncomputable def unC(op:UnaryOp)(a:Ot CE):Ot CE:=match op with
 |.Not=>a.map .not
 |.USub=>a.map .neg
 |_=>none
noncomputable def ZiB(G:Gs)(sc:Scope)(f:Expr->Ot CE)(a:Ot CE):Li CmpOp->Li Expr->Ot CE
 |[op],[b]=>(match Z6 G sc b with
  |some e=>o3 .inR (ZgT op) a (f e)
  |none=>o2 (.cmp op) a (f b))
 |_,_=>none
noncomputable def ZfV(f:Expr->Ot CE)(op:BoolOp)(pos:Pos):Li Expr->Ot CE
 |[]=>none
 |[a]=>f a
 |a :: b :: r=>match op with
  |.And=>o2 .and (f a) (f (.BoolOp .And (b :: r) pos))
  |.Or=>o2 .or (f a) (f (.BoolOp .Or (b :: r) pos))
noncomputable def Zh1(G:Gs)(sc:Scope)(f:Expr->Ot CE)(fo:Ot Expr->Ot CE)(a b:Expr):Ot CE:=match Va b with
 |some (lo,hi)=>o3 .slice (f a) (fo lo) (fo hi)
 |none=>match ZaG b with
  |some s=>(o2 (fun x y=>og (ZgW y=true) (some (.rs false x))) (f a) (f s)).join
  |none=>match Zap G sc a with
   |some (ks,ds)=>(f b).map (.look ks ds)
   |none=>o2 .ix (f a) (f b)
noncomputable def Vd:Expr->Ot Expr
 |.Call (.Attribute (.Name x p) m ap) [] [] cp=>og (m = "values"/\(ap.endLine==cp.line)=true) (some (.Name x p))
 |_=>none
noncomputable def itC(G:Gs)(sc:Scope)(it:Expr)(f:Expr->Ot CE):Li Str->Ot (Ot (Ot Bool)×CE)
 |[_]=>(match Z6 G sc it with
  |some a=>(f a).map fun c=>(some (some true),c)
  |none=>match Vd it with
   |some x=>(f x).map fun c=>(some (some false),.rng2 c .aN)
   |none=>(f it).map fun c=>(some (some false),c))
 |_=>(match W5 G sc it with
  |some a=>(f a).map fun c=>(some none,c)
  |none=>(f it).map fun c=>(none,c))
noncomputable def ifC(f:Expr->Ot CE):Li Expr->Ot CE
 |[]=>some (CE.cst (.bl true))
 |[c]=>f c
 |_=>none
noncomputable def ZfY(G:Gs)(sc sc2:Scope)(N:Li Str)(f:Expr->Ot CE)(g:Li Str->Expr->Ot CE)(elt:Expr):Li Comprehension->Ot CE
 |[⟨tg,it,ifs,0⟩]=>(match tgN tg with
  |none=>none
  |some xs=>og (Xr sc sc2 xs=true) (o3 (fun fr p (q:CE×CE)=>mkC p.1 fr p.2 q.1 q.2) (XD N (ZV sc2)) (itC G sc it f xs) (o2 Prod.mk (g (xs++ZV sc2) elt) (ifC (g (xs++ZV sc2)) ifs))))
 |_=>none
mutual
noncomputable def cE(G:Gs):Nat->Scope->Li Str->Expr->Ot CE
 |0,_,_,_=>none
 |n+1,sc,N,e=>match e with
  |.Constant c _ _=>CE.ofConst c
  |.Name x _=>ZcS G sc N x
  |.BinOp a op b _=>o2 (.bin op) (cE G n sc N a) (cE G n sc N b)
  |.UnaryOp op a _=>unC op (cE G n sc N a)
  |.Compare a ops bs _=>ZiB G sc (cE G n sc N) (cE G n sc N a) ops bs
  |.BoolOp op vs pos=>ZfV (cE G n sc N) op pos vs
  |.IfExp c a b _=>o3 .ife (cE G n sc N c) (cE G n sc N a) (cE G n sc N b)
  |.Tuple es _ _=>(cEs G n sc N es).map .tupE
  |.List es _=>(cEs G n sc N es).map .lstE
  |.Dict keys vals _=>Zkc (cE G n sc N) keys vals
  |.Subscript a b _=>Zh1 G sc (cE G n sc N) (cO G n sc N) a b
  |.Call f as [] cp=>Zix G sc f as cp (cEs G n sc N as) (cE G n sc N)
  |.ListComp elt gens sc2 _=>ZfY G sc sc2 N (cE G n sc N) (cE G n sc2) elt gens
  |_=>none
noncomputable def cEs(G:Gs):Nat->Scope->Li Str->Li Expr->Ot CE
 |0,_,_,_=>none
 |_+1,_,_,[]=>some .aN
 |n+1,sc,N,e :: es=>o2 .aC (cE G n sc N e) (cEs G n sc N es)
noncomputable def cO(G:Gs):Nat->Scope->Li Str->Ot Expr->Ot CE
 |0,_,_,_=>none
 |_+1,_,_,none=>some .nop
 |n+1,sc,N,some e=>(cE G n sc N e).map .part
end

noncomputable def Xy:Expr->Bool
 |.ListComp ..=>true
 |.SetComp ..=>true
 |.DictComp ..=>true
 |_=>false
noncomputable def QF:Expr->Bool
 |.Tuple ..=>true
 |_=>false
noncomputable def Zit(N:Li Str)(tg e:Expr)(c:Ot CE):Ot CS:=match tg with
 |.Name x _=>o2 .set (N.idxOf? x) c
 |.Tuple [.Name x _,.Name y _] _ _=>og ((Xy e||QF e)=false) (o3 (fun i j c=>og (i≠j) (some (.set2 i j c))) (N.idxOf? x) (N.idxOf? y) c).join
 |.Tuple [.Name x _,.Name y _,.Name z _] _ _=>og ((Xy e||QF e)=false) (o3 (fun i j (p:Nat×CE)=>.set3 i j p.1 p.2) (N.idxOf? x) (N.idxOf? y) (o2 Prod.mk (N.idxOf? z) c))
 |_=>none
noncomputable def Zga(_:Expr):Ot (Expr×Expr):=none
noncomputable def Zje(sc:Scope)(N:Li Str)(x:Str)(k e:Expr)(f:Expr->Ot CE):Ot CS:=og (Xy e=false/\Zkk k=false/\Xz sc x=true) (match Zga k with
 |some (a,b)=>o3 (fun i (p:CE×CE) c=>.dput i p.1 p.2 c) (N.idxOf? x) (o2 Prod.mk (f a) (f b)) (f e)
 |none=>o3 .put (N.idxOf? x) (f k) (f e))
noncomputable def ZgQ(G:Gs)(sc:Scope)(N:Li Str)(f:Expr->Ot CE)(fs:Li Expr->Ot CE)(tg it:Expr)(b:Ot CS):Ot CS:=match tg with
 |.Name x _=>(match WJ G sc it with
  |some as=>o3 .for3 (N.idxOf? x) (fs as) b
  |none=>match Z6 G sc it with
   |some a=>o3 (fun i c b=>.for1 i true c b) (N.idxOf? x) (f a) b
   |none=>o3 (fun i c b=>.for1 i false c b) (N.idxOf? x) (f it) b)
 |.Tuple [.Name x _,.Name y _] _ _=>(o2 (fun i j=>og (i≠j) (some (i,j))) (N.idxOf? x) (N.idxOf? y)).join.bind fun p=>(match Ve G sc it with
  |some as=>o2 (.forP p.1 p.2) (fs as) b
  |none=>match W6 G sc it with
   |some e=>o2 (.forE p.1 p.2) (f e) b
   |none=>o2 (.for2 p.1 p.2) (f it) b)
 |.Tuple [.Name x _,.Name y _,.Name z _] _ _=>o3 (fun(p:Nat×Nat) (q:Nat×CE) b=>.for4 p.1 p.2 q.1 q.2 b) (o2 Prod.mk (N.idxOf? x) (N.idxOf? y)) (o2 Prod.mk (N.idxOf? z) (f it)) b
 |_=>none
noncomputable def Zis(sc:Scope)(N:Li Str)(x m:Str)(ap cp:Pos)(c:Ot CE):Ot CS:=og (Xz sc x=true/\(ap.endLine==cp.line)=true) (if m = "append" then o2 .app (N.idxOf? x) c else if m = "extend" then o2 .ext (N.idxOf? x) c else none)
noncomputable def Zir(sc:Scope)(N:Li Str)(f:Expr->Ot CE):Expr->Ot CS
 |.Call (.Name g fp) as kw cp=>(f (.Call (.Name g fp) as kw cp)).map .act
 |.Call (.Attribute (.Name x _) m ap) [e] [] cp=>Zis sc N x m ap cp (f e)
 |.Call (.Attribute (.Call (.Attribute (.Name x _) m2 ap2) [k,.List [] _] [] cp2) m ap) [e] [] cp=>og (Xz sc x=true/\m2 = "setdefault"/\(ap2.endLine==cp2.line)=true/\m = "append"/\(ap.endLine==cp.line)=true) (o3 (fun i k e=>.dput i k e .aN) (N.idxOf? x) (f k) (f e))
 |.Call (.Attribute (.Subscript o k p) m ap) [e] [] cp=>og (m = "append"/\(ap.endLine==cp.line)=true) (o2 .app2 (f (.Subscript o k p)) (f e))
 |_=>none
mutual
noncomputable def cS(G:Gs):Nat->Scope->Li Str->Stmt->Ot CS
 |0,_,_,_=>none
 |n+1,sc,N,s=>match s with
  |.Assign [.Subscript (.Name x _) k _] e _=>Zje sc N x k e (cE G n sc N)
  |.Assign [tg] e _=>Zit N tg e (cE G n sc N e)
  |.Expr e _=>Zir sc N (cE G n sc N) e
  |.Return (some e) _=>(cE G n sc N e).map .ret
  |.If c a b _=>o3 .ite (cE G n sc N c) (cSs G n sc N a) (cSs G n sc N b)
  |.For tg it b [] _=>ZgQ G sc N (cE G n sc N) (cEs G n sc N) tg it (cSs G n sc N b)
  |.Pass _=>some .skip
  |.Break _=>some .brk
  |.Continue _=>some .cont
  |.Raise _ _ _=>some .stop
  |_=>none
noncomputable def cSs(G:Gs):Nat->Scope->Li Str->Li Stmt->Ot CS
 |0,_,_,_=>none
 |_+1,_,_,[]=>some .skip
 |n+1,sc,N,s :: r=>o2 .seq (cS G n sc N s) (cSs G n sc N r)
end
end Dp


namespace Dp
open PySem PySem.Spec PyProof.Rows L2 PySem.SeqAt
noncomputable instance decD:DecidableEq D:=fun a b=>Classical.propDecidable (a=b)
def IsV(h:Heap):Nat->D->vL->Prop
 |_,.int i,u=>∃ t,u=.int i t
 |_,.str x,u=>∃ t,u=.str x t
 |n+1,.tup ds,u=>∃ a its,u=.ref a/\h.IsTuple a its/\Paired (IsV h n) ds its.toList
 |_,_,_=>False
noncomputable def Xh(w:World):Nat->D->Int
 |_,.int i=>keyH w (.inl i)
 |_,.str x=>keyH w (.inr x)
 |n+1,.tup ds=>reduceHash (Builtin.Tuple.tupleHashOf (ds.map (Xh w n)))
 |_,_=>0
noncomputable def Vr:Nat->D->Nat
 |n+1,.tup ds=>(ds.map (Vr n)).sum+1
 |_,_=>1
variable {prog:Program}{w:World}{A:Around}{E:vL->Sd->Prop}{s:Sd}{h h':Heap}
inductive IsW(h:Heap):Nat->D->Value->Prop where
 |int (n:Nat) (i:Int) (t:Tok):IsW h n (.int i) (.int i t)
 |str (n:Nat) (i:Str) (t:Tok):IsW h n (.str i) (.str i t)
 |tup {m:Nat}{ds:List D}{a:Addr}{its:Array Value} (p:h.IsTuple a its) (r:Paired (IsV h m) ds its.toList):IsW h (m+1) (.tup ds) (.ref a)
theorem IsV.view{n:Nat}{d:D}{u:vL}(x:IsV h n d u):IsW h n d u:=by
 cases d with
 |int i=>
  obtain⟨t,rfl⟩:∃ t,u=.int i t:=by cases n<;>exact x
  exact .int n i t
 |str i=>
  obtain⟨t,rfl⟩:∃ t,u=.str i t:=by cases n<;>exact x
  exact .str n i t
 |tup ds=>cases n with
  |zero=>exact False.elim x
  |succ m=>obtain⟨a,its,rfl,p,r⟩:=x;exact .tup p r
 |_=>exact False.elim (by cases n<;>exact x)
theorem ZeN{n:Nat}{i:Int}{t:Tok}:IsV h n (.int i) (.int i t):=by cases n<;>exact⟨t,rfl⟩
theorem ZeO{n:Nat}{i:Str}{t:Tok}:IsV h n (.str i) (.str i t):=by cases n<;>exact⟨t,rfl⟩
theorem IsV.inj:∀ {n:Nat}{x y:D}{u:vL},IsV h n x u->IsV h n y u->x=y:=by
 intro n
 induction n using Nat.strongRecOn with
 |_ n ih=>
  intro x y u hx hy;cases hx.view with
  |int=>cases hy.view;rfl
  |str=>cases hy.view;rfl
  |@tup m ds a its p r=>
   cases hy.view with
   |tup p' r'=>
    obtain⟨o,ho,hc,k,hd⟩:=p;obtain⟨o',ho',hc',k',hd'⟩:=p';rw[ho]at ho';cases ho'
    rw[hd]at hd';injection hd' with h1 _;subst h1
    have go:∀ {ds es:Li D}{vs:Li vL},Paired (IsV h m) ds vs->Paired (IsV h m) es vs->ds=es:=fun {ds es vs} p=>by
     induction p generalizing es with
     |nil=>intro q;cases q;rfl
     |cons r p ih'=>intro q;cases q with
      |cons r' q=>rw[ih m (Nat.lt_succ_self m) r r',ih' q]
    rw[go r r']
theorem IsV.map(k:∀ a its,h.IsTuple a its->h'.IsTuple a its):∀ {n:Nat}{x:D}{u:vL},IsV h n x u->IsV h' n x u:=by
 intro n
 induction n using Nat.strongRecOn with
 |_ n ih=>
  intro x u hx;cases hx.view with
  |int=>exact ZeN
  |str=>exact ZeO
  |@tup m ds a its p r=>exact⟨a,its,rfl,k _ _ p,Paired.mapP r fun x y q=>ih m (Nat.lt_succ_self m) q⟩
theorem Zgv{ds es:Li D}:((List.range (min ds.length es.length)).all (fun i=>decide ((ds[i]?).getD .non=(es[i]?).getD .non))&&ds.length==es.length)=decide (ds=es):=by
 rw[Bool.eq_iff_iff,Ba,List.all_eq_true,decide_eq_true_iff,beq_iff_eq];constructor
 ·rintro⟨h1,h2⟩
  refine List.ext_getElem h2 fun i a b=>?_
  have:=h1 i (List.mem_range.mpr (by omega))
  rw[decide_eq_true_iff,Lg a,Lg b]at this;exact this
 ·rintro rfl
  exact⟨fun i _=>decide_eq_true rfl,rfl⟩
theorem X9{m:Nat}:∀ {ds:Li D}{vs:Li vL},Paired (IsV h m) ds vs->ds.length=vs.length/\∀ i (a:i < ds.length) (b:i < vs.length),IsV h m ds[i] vs[i]
 |_,_,.nil=>⟨rfl,fun i a=>nomatch a⟩
 |_,_,.cons r p=>by
  obtain⟨l,g⟩:=X9 p;refine⟨congrArg (·+1) l,fun i a b=>?_⟩
  cases i with
  |zero=>exact r
  |succ i=>exact g i _ _
theorem dec_int{i j:Int}:decide (D.int i=D.int j)=(i==j):=by rw[Bool.eq_iff_iff,decide_eq_true_iff,beq_iff_eq];exact⟨D.int.inj,congrArg _⟩
theorem dec_str{i j:Str}:decide (D.str i=D.str j)=(i==j):=by rw[Bool.eq_iff_iff,decide_eq_true_iff,beq_iff_eq];exact⟨D.str.inj,congrArg _⟩
theorem Zei{i j:Li D}:decide (D.tup i=D.tup j)=decide (i=j):=by rw[Bool.eq_iff_iff,decide_eq_true_iff,decide_eq_true_iff];exact⟨D.tup.inj,congrArg _⟩
theorem eqV:∀ {n:Nat}{x y:D}{A:Around}{u v:vL},A.units+n < cLine->IsV s.heap n x u->IsV s.heap n y v->EqAt A s u v (decide (x=y)):=by
 intro n
 induction n using Nat.strongRecOn with
 |_ n ih=>
  intro x y A u v hu hx hy;cases hx.view with
  |int _ i t=>
   cases hy.view with
   |int _ j t'=>exact dec_int ▸ EqAt.int_int i t j t'
   |str _ j t'=>rw[decide_eq_false (fun e=>nomatch e)];exact EqAt.int_str i t j t'
   |tup p r=>rw[decide_eq_false (fun e=>nomatch e)];exact EqAt.int_tuple i t p (by omega)
  |str _ i t=>
   cases hy.view with
   |int _ j t'=>rw[decide_eq_false (fun e=>nomatch e)];exact EqAt.str_int i t j t'
   |str _ j t'=>exact dec_str ▸ EqAt.str_str i t j t'
   |tup p r=>rw[decide_eq_false (fun e=>nomatch e)];exact EqAt.str_tuple i t p (by omega)
  |@tup m ds a its p r=>
   cases hy.view with
   |int _ j t'=>rw[decide_eq_false (fun e=>nomatch e)];exact EqAt.tuple_int j t' p (by omega)
   |str _ j t'=>rw[decide_eq_false (fun e=>nomatch e)];exact EqAt.tuple_str j t' p (by omega)
   |@tup _ es b its' p' r'=>
    by_cases hab:a=b
    ·subst hab
     rw[decide_eq_true (hx.inj hy)];exact EqAt.same _
    ·obtain⟨l1,g1⟩:=X9 r
     obtain⟨l2,g2⟩:=X9 r';refine EqAt.of_refs hab ?_;have q:=RcAt.tuples (A:=A) (s:=s) (e:=fun i=>decide ((ds[i]?).getD .non=(es[i]?).getD .non)) p p' (by omega) fun j h1 h2=>?_
     ·rw[show its.size=ds.length from l1.symm,show its'.size=es.length from l2.symm,Zgv]at q
      rw[Zei];exact q
     ·have a1:j < ds.length:=l1 ▸ h1
      have a2:j < es.length:=l2 ▸ h2;rw[Lg a1,Lg a2];exact ih m (Nat.lt_succ_self m) (A:=A.in1) (by show A.units+1+m < cLine;omega) (g1 j a1 h1) (g2 j a2 h2)
end Dp


namespace Dp
open PySem PySem.Spec PyProof.Rows L2 PySem.SeqAt
variable {prog:Program}{w:World}{A:Around}{E:vL->Sd->Prop}{s:Sd}{h h':Heap}
theorem Zbl{n:Nat}{i:Int}:Xh w n (.int i)=keyH w (.inl i):=by cases n<;>rfl
theorem Zbm{n:Nat}{i:Str}:Xh w n (.str i)=keyH w (.inr i):=by cases n<;>rfl
theorem Zbd{n:Nat}{i:Int}:Vr n (.int i)=1:=by cases n<;>rfl
theorem Zbe{n:Nat}{i:Str}:Vr n (.str i)=1:=by cases n<;>rfl
theorem Zfi:∀ {n:Nat}{d:D}{A:Around}{u:vL}{s:Sd}{Q:Int->Sd->Prop},A.units+n < cLine->IsV s.heap n d u->Q (Xh w n d) { s with toks:=s.toks+Vr n d }->wpAny (model prog w) A (pyHash u) Q E s:=by
 intro n
 induction n using Nat.strongRecOn with
 |_ n ih=>
  intro d A u s Q hu hx h;cases hx.view with
  |int _ i t=>
   rw[Zbl,Zbd]at h;exact(mixKind prog w).pyHash (mixKind_int prog w i t) h
  |str _ i t=>
   rw[Zbm,Zbe]at h;exact(mixKind prog w).pyHash (mixKind_str prog w i t) h
  |@tup m ds a its p r=>
   obtain⟨o,ho,hc,k,hd⟩:=p;have hT:s.TypeIs (.ref a) "tuple":=⟨o,ho,hc⟩;unfold pyHash
   first|unfold pyHashByItsType|skip
   first|refine wpAny_bind (wpAny_cRoomFor_or (.inr (by omega)) ?_)|skip
   refine wpAny_bind (wpAny_specialOf hT F.slot_tuple_hash.lookup ?_);show wpAny _ _ (if (some (Value.builtin "tuple.__hash__")==some Value.none)=true then _ else _) Q E s
   rw[if_neg (by rw[beq_builtin_none];exact Bf)]
   refine wpAny_bind (wpAny_specialOf hT F.slot_tuple_hash.lookup ?_);show wpAny _ _ (callSpecialIfBoundUnlessNone? (.ref a) "__hash__" _ >>= _) Q E s;refine wpAny_bind (wpAny_callSpecialIfBoundUnlessNone?_slot hT F.slot_tuple_hash (wpAny_call_entry F.slot_tuple_hash hT F.entry_tuple_hash ?_ (F.args_tuple_hash_1 _)));show wpAny _ _ (Builtin.Tuple.tupleItemsOf (.ref a) >>= _) _ _ s;refine wpAny_bind (wpAny_tupleItemsOf ho hd ?_)
   refine wpAny_bind ?_;rw[<-Array.forIn_toList];refine wpAny_forIn_list _
    (fun rest (b:Array Int) s'=>∃ done left,ds=done++left/\Paired (IsV s.heap m) left rest/\b.toList=done.map (Xh w m)/\s'={ s with toks:=s.toks+(done.map (Vr m)).sum })
    _ ?_ ?_ _ _ ⟨[],ds,rfl,r,rfl,rfl⟩
   ·rintro x rest b s' ⟨done,left,rfl,hl,hb,rfl⟩
    cases hl with
    |@cons k1 _ ks' _ h1 hl'=>
     refine wpAny_bind (ih m (Nat.lt_succ_self m) (by show A.units+1+m < cLine;omega) h1 ?_)
     first
      |exact wpAny_pure ⟨done++[k1],ks',by simp,hl',by simp[hb],by simp[Nat.add_assoc]⟩
      |exact wpAny_bind (wpAny_pure (wpAny_pure ⟨done++[k1],ks',by simp,hl',by simp[hb],by simp[Nat.add_assoc]⟩))
   ·rintro b s' ⟨done,left,rfl,hl,hb,rfl⟩
    cases hl;rw[List.append_nil]at h;show wpAny _ _ (retInt (Builtin.Tuple.tupleHashOf b.toList)) _ _ _;rw[hb];refine wpAny_ret_mkInt ?_;show wpAny _ _ (if (decide (-(2:Int) ^ 63<=Builtin.Tuple.tupleHashOf (done.map (Xh w m)))&&decide (Builtin.Tuple.tupleHashOf (done.map (Xh w m)) < 2 ^ 63))=true then _ else _) Q E _
    have h:Q (reduceHash (Builtin.Tuple.tupleHashOf (done.map (Xh w m)))) { s with toks:=s.toks+((done.map (Vr m)).sum+1) }:=h
    unfold reduceHash at h;by_cases hr:(decide (-(2:Int) ^ 63<=Builtin.Tuple.tupleHashOf (done.map (Xh w m)))&&decide (Builtin.Tuple.tupleHashOf (done.map (Xh w m)) < 2 ^ 63))=true
    ·rw[if_pos hr]
     rw[if_pos hr]at h;exact wpAny_pure (by simpa[Nat.add_assoc] using h)
    ·rw[if_neg hr]
     rw[if_neg hr]at h;exact wpAny_bind (wpAny_rule (wpAny_pure (by simpa[Nat.add_assoc] using h)))
theorem ZhF{M:Model}:∀ {n:Nat}{d:D}{u:vL}{s:Sd}{Q:Bool->Sd->Prop},IsV s.heap n d u->Q true s->wpAny M A (eqIsQuiet n u) Q E s:=by
 intro n
 induction n using Nat.strongRecOn with
 |_ n ih=>
  intro d u s Q hx h;cases hx.view with
  |int _ i t=>
   rw[eqIsQuiet_byValue _ rfl];exact wpAny_pure h
  |str _ i t=>
   rw[eqIsQuiet_byValue _ rfl];exact wpAny_pure h
  |@tup m ds a its p r=>
   obtain⟨o,ho,hc,k,hd⟩:=p;have hT:s.TypeIs (.ref a) "tuple":=⟨o,ho,hc⟩;unfold eqIsQuiet;refine wpAny_bind (wpAny_specialOf hT F.slot_tuple_eq.lookup ?_);show wpAny _ _ (isInstance (.ref a) (.type "tuple") >>= _) _ _ s;refine wpAny_bind (wpAny_isInstance hT isSubtype_tuple_tuple ?_);simp only[Bool.not_true,Bool.false_eq_true,if_false];refine wpAny_bind (wpAny_seqItems ho hd ?_);refine wpAny_bind ?_
   show wpAny _ _ (forIn its _ _) _ _ s;rw[<-Array.forIn_toList];refine wpAny_forIn_list _ (fun rest r s'=>r.1=none/\s'=s/\∃ left,Paired (IsV s.heap m) left rest) _ ?_ ?_ _ _ ⟨rfl,rfl,ds,r⟩
   ·rintro v rest r s' ⟨hr,rfl,left,hl⟩
    cases hl with
    |@cons k1 _ ks' _ h1 hl'=>
     refine wpAny_bind (ih m (Nat.lt_succ_self m) h1 ?_);simp only[Bool.not_true,Bool.false_eq_true,if_false];exact wpAny_pure ⟨rfl,rfl,ks',hl'⟩
   ·rintro⟨r1,r2⟩ s' ⟨hr,rfl,_⟩
    simp only at hr;subst hr;exact wpAny_pure h
noncomputable def Zf8(prog:Program)(w:World):HeapKind prog w D where
 is:=fun h d a=>IsV h 8 d (.ref a)
 hash:=Xh w 8
 draws:=Vr 8
 room:=fun A=>A.units+8 < cLine
 inj:=fun hx hy=>hx.inj hy
 keeps:=fun x ho hd hs=>x.map fun a its ⟨o,h1,h2,k,h3⟩=>⟨o,(hs.2 a fun e=>by subst e;rw[ho]at h1;cases h1;rw[hd]at h3;exact nomatch h3).trans h1,h2,k,h3⟩
 pyHash:=fun hu hk h=>Zfi hu hk h
 eqBool:=fun hu hx hy h=>eqV hu hx hy _ _ _ _ h
 quiet:=fun hk h=>ZhF hk h
end Dp


namespace Dp
open PySem PySem.Spec PyProof.Rows L2 PySem.SeqAt
section
variable {prog:Program}{w:World}{K:Type} [DecidableEq K] {knd:HeapKind prog w K}{A:Around}{E:vL->Sd->Prop}{s:Sd}
def DictE(knd:HeapKind prog w K)(h:Heap)(d:Ad)(xs:Li (K×Ad×vL)):Prop:=∃ o es,h.get? d=some o/\o.ExactDict/\o.data=.dict es es.size/\es.toList=xs.map (entryOfKey knd)/\(∀ x∈xs,knd.is h x.1 x.2.1)/\(xs.map (·.1)).Nodup
theorem DictE.typeIs{d:Ad}{xs:Li (K×Ad×vL)}(hm:DictE knd s.heap d xs):s.TypeIs (.ref d) "dict":=let ⟨o,_,ho,hc,_⟩:=hm;⟨o,ho,hc.1⟩
theorem ZhX{d a:Ad}{xs:Li (K×Ad×vL)}{k:K}{v:vL}{Q:vL->Sd->Prop}(hu:knd.room A)(hkey:knd.is s.heap k a)(hm:DictE knd s.heap d xs)(hz:xs.length<=sizeLine)(h1:∀ p,atKey xs k=some p->Q p.2 { s with toks:=s.toks+knd.draws k })(h2:atKey xs k=none->∀ h',DictE knd h' d (xs++[(k,a,v)])->Heap.SameBut d s.heap h'->Q v { s with heap:=h',toks:=s.toks+knd.draws k }) :
  wpAny (model prog w) A (dictSetDefault d (.ref a) v) Q E s:=by
 obtain⟨o,es,ho,hc,hd,he,his,hn⟩:=hm;have e0:=size_of_entries he;unfold dictSetDefault
 try with_reducible refine wpAny_holding ?_
 refine wpAny_bind (knd.pyHash hu hkey (wpAny_bind (wpAny_dictFind_heap (s:={ s with toks:=s.toks+knd.draws k }) hu hkey ho hd he his hn (fun hno=>?_) (fun j p hj=>?_))))
 ·have hnot:k∉xs.map (·.1):=not_mem_keys_of_get hno
  have hsz:es.size+1=(es.push ⟨knd.hash k,.ref a,v⟩).size:=(Array.size_push _).symm;refine wpAny_bind (wpAny_rule (wpAny_bind (wpAny_updateDictKeys (hz:=by omega) (s:={ s with toks:=s.toks+knd.draws k }) ho hd (wpAny_pure (h2 (atKey_none_of_get hno) _ ⟨_,_,Heap.get?_update_self _ ho (Obj.isFreed_of_dict (Obj.data_mapDictKeys hd _)),hc.mapDictKeys _,(Obj.data_mapDictKeys hd _).trans (by rw[hsz]),by simp[he,entryOfKey],fun x hx=>?_,?_⟩ (Heap.SameBut.update ..))))))
  ·rcases List.mem_append.mp hx with z|z
   ·exact knd.keeps (his x z) ho hd (Heap.SameBut.update ..)
   ·rw[List.mem_singleton.mp z]
    exact knd.keeps hkey ho hd (Heap.SameBut.update ..)
  ·rw[List.map_append,List.nodup_append]
   refine⟨hn,by simp,fun x hx y hy e=>?_⟩
   rw[List.map_cons,List.map_nil]at hy;rw[List.mem_singleton.mp hy]at e;exact hnot ((show x=k from e) ▸ hx)
 ·refine wpAny_bind (wpAny_dictEntries (s:={ s with toks:=s.toks+knd.draws k }) ho hd ?_)
  rw[entry_at he j,hj];exact wpAny_bind (wpAny_rule (wpAny_pure (h1 p (atKey_of_get hn hj))))
theorem UX(knd:HeapKind prog w K){k:K}{a:Ad}(d:Ad)(hd:(d==sysModules)=false)(v:vL) :
  MeetsIn prog w (Builtin.«dict.setdefault» ⟨[.ref d,.ref a,v],[]⟩) (fun A R s=>∃ xs,DictE knd s.heap d xs/\xs.length<=sizeLine/\knd.room A.in1/\knd.is s.heap k a /\
   (∀ p,atKey xs k=some p->R (.ok (.ret p.2)) { s with toks:=s.toks+knd.draws k }) /\
   (atKey xs k=none->∀ h',DictE knd h' d (xs++[(k,a,v)])->Heap.SameBut d s.heap h'->R (.ok (.ret v)) { s with heap:=h',toks:=s.toks+knd.draws k })):=
 .of_wp fun A R s ⟨xs,hm,hz,hu,hk,h1,h2⟩=>by
  unfold Builtin.«dict.setdefault»
  refine wpAny_bind ?_;unfold Builtin.Dict.keyAndDefault;refine wpAny_bind (wpAny_notOrdered_dict hm.typeIs (wpAny_pure ?_));show wpAny _ _ (if (d==sysModules)=true then _ else (dictSetDefault d (.ref a) v >>= _)) _ _ s
  rw[if_neg (by rw[hd];exact Bf)]
  exact wpAny_bind (ZhX hu hk hm hz (fun p hp=>wpAny_pure ⟨_,rfl,h1 p hp⟩) fun hn h' hm' hs'=>wpAny_pure ⟨_,rfl,h2 hn h' hm' hs'⟩)
end
section
variable {prog:Program}{w:World}{A:Around}{E:vL->Sd->Prop}{s:Sd}
def Raw(h:Heap)(d:Ad)(es:Array DictEntry)(ep:Nat):Prop:=∃ o,h.get? d=some o/\o.ExactDict/\o.data=.dict es ep
theorem Raw.typeIs{d:Ad}{es:Array DictEntry}{ep:Nat}(x:Raw s.heap d es ep):s.TypeIs (.ref d) "dict":=let ⟨o,ho,hc,_⟩:=x;⟨o,ho,hc.1⟩
theorem JH:Builtin.Dict_items.ownsTuple "dict_valueiterator"=false:=by decide
theorem JF(d:Ad)(hd:(d==sysModules)=false) :
  MeetsIn prog w (Builtin.«dict.values» ⟨[.ref d],[]⟩) (fun _ R s=>(∃ es ep,Raw s.heap d es ep) /\
   R (.ok (.ret (.ref s.heap.objs.size))) { s with heap:=s.heap.push { cls:=.type "dict_values",data:=.fields #[.ref d] } }):=
 .of_wp fun A R s ⟨⟨es,ep,hm⟩,h⟩=>by
  refine wpAny_bind ?_;unfold Builtin.Dict.noArgs;refine wpAny_bind (wpAny_notOrdered_dict hm.typeIs (wpAny_pure ?_));show wpAny _ _ (Builtin.Dict.showsAll d >>= _) _ _ s;unfold Builtin.Dict.showsAll;rw[if_neg (by rw[hd];exact Bf)]
  exact wpAny_bind (wpAny_pure (wpAny_bind (wpAny_newObj_type (wpAny_pure ⟨_,rfl,h⟩))))
theorem Zbs{v d:Ad}{es:Array DictEntry}{ep:Nat}{Q:vL->Sd->Prop}(hv:s.heap.IsValuesView v d)(hm:Raw s.heap d es ep)(hQ:Q (.ref s.heap.objs.size) { s with heap:=s.heap.push { cls:=.type "dict_valueiterator",data:=.fields #[.ref d,.int 0 0,.int es.size 0,.int ep 0] } }) :
  wpAny (model prog w) A (pyIter (.ref v)) Q E s:=by
 obtain⟨ov,hov,hcv,hdv⟩:=id hv;obtain⟨o,ho,hc,hdat⟩:=id hm;refine wpAny_pyIter_slot hv.typeIs F.slot_dict_values_iter (wpAny_call_entry F.slot_dict_values_iter hv.typeIs F.entry_dict_values_iter ?_ (F.args_dict_values_iter_1 _));unfold Builtin.«dict_values.__iter__»
 refine wpAny_bind (wpAny_pure (wpAny_bind ?_));unfold Builtin.Dict_items.dictOf;refine wpAny_bind (wpAny_field hov hdv (x:=.ref d) rfl (wpAny_pure (wpAny_bind ?_)));unfold Builtin.Dict_items.newIterator;refine wpAny_bind (wpAny_dictEntries ho hdat (wpAny_bind (wpAny_dictEpoch ho hdat ?_)));simp only[JH,Bool.false_eq_true,if_false];refine wpAny_newObj_type (wpAny_pure ⟨_,rfl, "dict_valueiterator",_,⟨_,Heap.get?_push_size _ rfl,rfl⟩,F.slot_dict_valueiterator_next.lookup,?_⟩)
 exact hQ
theorem ZbA{it d:Ad}{i ep:Nat}{es:Array DictEntry}{Q:Ot vL->Sd->Prop}(hit:s.heap.IsValIter it d i es.size ep)(hm:Raw s.heap d es ep)(hlt:i < es.size)(hQ:∀ h',h'.IsValIter it d (i+1) es.size ep->Heap.SameBut it s.heap h'->Q (some es[i].val) { s with heap:=h' }) :
  wpAny (model prog w) A (pyNext (.ref it)) Q E s:=by
 obtain⟨o,ho,hc,hd⟩:=id hit;obtain⟨od,hod,hcd,hdd⟩:=id hm;unfold pyNext;refine wpAny_bind (wpAny_attempt (wpAny_callSpecial?_slot (name:=Str.ofString "__next__") hit.typeIs F.slot_dict_valueiterator_next (wpAny_call_entry F.slot_dict_valueiterator_next hit.typeIs F.entry_dict_valueiterator_next ?_ (F.args_dict_valueiterator_next_1 _))));refine wpAny_bind (wpAny_pure (wpAny_bind (wpAny_bind ?_)))
 first|refine wpAny_bind (wpAny_typeNameOfWhole_valiter hit.typeIs (wpAny_pure ?_))|refine wpAny_bind (wpAny_typeNameOf_valiter hit.typeIs (wpAny_pure ?_))
 refine wpAny_bind (wpAny_fieldsOf ho hd ?_);simp only[JH,Bool.false_eq_true,if_false];show wpAny _ _ (if (Value.ref d==Value.none)=true then _ else _) _ _ s
 rw[if_neg (show ¬((Value.ref d==Value.none)=true) from Bf)];refine wpAny_bind (wpAny_pure (wpAny_bind (wpAny_dictEntries hod hdd ?_)));rw[if_neg (by simp)]
 refine wpAny_bind (wpAny_pure (wpAny_bind (wpAny_dictEpoch hod hdd ?_)));rw[if_neg (by simp)]
 refine wpAny_pure ?_;simp only[show ¬((i:Int) < 0) from by omega,if_false,Int.toNat_natCast,Array.getElem?_eq_getElem hlt]
 refine wpAny_bind ?_
 first|refine wpAny_bind (wpAny_typeNameOfWhole_valiter hit.typeIs (wpAny_pure ?_))|refine wpAny_bind (wpAny_typeNameOf_valiter hit.typeIs (wpAny_pure ?_))
 refine wpAny_bind (wpAny_isOneOf_valiter hit.typeIs ?_);show wpAny _ _ (setField (.ref it) 1 (rawInt ((i:Int)+1)) >>= _) _ _ s;refine wpAny_bind (wpAny_setField ho hd (by simp) ?_)
 have hit':(s.heap.update it (Obj.mapFields (·.setIfInBounds 1 (rawInt ((i:Int)+1))))).IsValIter it d (i+1) es.size ep:=
  ⟨_,Heap.get?_update_self _ ho (Obj.isFreed_of_fields (Obj.data_mapFields hd _)),(Obj.cls_mapFields ..).trans hc,by rw[Obj.data_mapFields hd];simp[rawInt]⟩
 refine wpAny_bind (wpAny_holding (wpAny_bind (wpAny_isOneOf_valiter (s:={ s with heap:=s.heap.update it (Obj.mapFields (·.setIfInBounds 1 (rawInt ((i:Int)+1)))) }) hit'.typeIs ?_)))
 refine wpAny_bind (wpAny_isOneOf_valiter (s:={ s with heap:=s.heap.update it (Obj.mapFields (·.setIfInBounds 1 (rawInt ((i:Int)+1)))) }) hit'.typeIs ?_)
 show wpAny _ _ (pure es[i].val) _ _ _;exact wpAny_pure (wpAny_pure ⟨_,rfl,wpAny_pure (hQ _ hit' (Heap.SameBut.update ..))⟩)
theorem ZcT{it d:Ad}{ep:Nat}{es:Array DictEntry}{Q:Ot vL->Sd->Prop}(hh:A.handled=none)(hit:s.heap.IsValIter it d es.size es.size ep)(hm:Raw s.heap d es ep)(hQ:∀ h',Heap.ExtBut it s.heap h'->Q none { s with heap:=h' }):wpAny (model prog w) A (pyNext (.ref it)) Q E s:=by
 obtain⟨o,ho,hc,hd⟩:=id hit;obtain⟨od,hod,hcd,hdd⟩:=id hm;unfold pyNext;refine wpAny_bind (wpAny_attempt (wpAny_callSpecial?_slot (name:=Str.ofString "__next__") hit.typeIs F.slot_dict_valueiterator_next (wpAny_call_entry F.slot_dict_valueiterator_next hit.typeIs F.entry_dict_valueiterator_next ?_ (F.args_dict_valueiterator_next_1 _))));refine wpAny_bind (wpAny_pure (wpAny_bind (wpAny_bind ?_)))
 first|refine wpAny_bind (wpAny_typeNameOfWhole_valiter hit.typeIs (wpAny_pure ?_))|refine wpAny_bind (wpAny_typeNameOf_valiter hit.typeIs (wpAny_pure ?_))
 refine wpAny_bind (wpAny_fieldsOf ho hd ?_);simp only[JH,Bool.false_eq_true,if_false];show wpAny _ _ (if (Value.ref d==Value.none)=true then _ else _) _ _ s
 rw[if_neg (show ¬((Value.ref d==Value.none)=true) from Bf)];refine wpAny_bind (wpAny_pure (wpAny_bind (wpAny_dictEntries hod hdd ?_)));rw[if_neg (by simp)]
 refine wpAny_bind (wpAny_pure (wpAny_bind (wpAny_dictEpoch hod hdd ?_)));rw[if_neg (by simp)]
 refine wpAny_pure ?_;simp only[show ¬((es.size:Int) < 0) from by omega,if_false,Int.toNat_natCast,Array.getElem?_eq_none (Nat.le_refl es.size)]
 refine wpAny_bind ?_
 first|refine wpAny_bind (wpAny_typeNameOfWhole_valiter hit.typeIs (wpAny_pure ?_))|refine wpAny_bind (wpAny_typeNameOf_valiter hit.typeIs (wpAny_pure ?_))
 show wpAny _ _ (setField (.ref it) 0 .none >>= _) _ _ s;refine wpAny_bind (wpAny_setField ho hd (by simp) ?_)
 show wpAny _ _ (newExc (.type "StopIteration") [] >>= _) _ _ _;refine wpAny_bind ?_;simp only[newExc,newTuple];refine wpAny_bind (wpAny_newObj_type ?_ (by size_fits))
 refine wpAny_bind (m:=firstArgMember _ _) (wpAny_of_eq (a:=Value.none) (by first|rfl | (simp only[firstArgMember];rfl)) ?_)
 refine wpAny_newObj_type ?_ (by size_fits)
 simp only[raiseNew];refine wpAny_bind (wpAny_handled ?_);rw[show A.in1.handled=none from hh];refine wpAny_bind (wpAny_pure (wpAny_throw ?_));refine wpAny_bind (wpAny_isInstance (T := "StopIteration") (b:=true) ⟨_,Heap.get?_push_size _ rfl,rfl⟩ isSubtype_stop ?_);exact wpAny_pure (hQ _ (((Heap.SameBut.update ..).extBut.push _).push _))
end
noncomputable def ZdI(K:Fg):TE:=fun _ H Q=>∀ p,H p=none->(∀ o,K.lookup p≠some o)->Q (.ref p) (upd H p (.dN fun _=>[]))
theorem Zda{X:Cx}{pos:Pos}:PE X (.Dict [] [] pos) (ZdI X.K):=fun pQ s σ H Q I h=>
 wpAny_Dict_empty ⟨.ref s.heap.objs.size,_,I.laid (a:=s.heap.objs.size) (o:=.dN fun _=>[]) (t':=s.toks) (fun _ _ q=>Heap.get?_push_of_some _ q) (Nat.le_refl _) ⟨beq_eq_false_iff_ne.mpr (Ne.symm (Nat.ne_of_lt I.big)),_,#[],Heap.get?_push_size _ rfl,⟨rfl,rfl,rfl⟩,rfl,rfl⟩,rfl,h _ (I.hok.fresh (Nat.le_refl _)) fun o z=>absurd (Heap.lt_size (I.kIn _ o z)) (Nat.lt_irrefl _)⟩
end Dp


namespace Dp
open PySem PySem.Spec PyProof.Rows L2
class ClsTab where
 ca:Nat->Addr
variable [ClsTab]

theorem Zu{X:Cx}{e:Expr}{t t':TE}(h:PE X e t)(i:∀ σ H Q,t' σ H Q->t σ H Q):PE X e t':=fun pQ s σ H Q I q=>h pQ s σ H Q I (i σ H Q q)
theorem VN{X:Cx}{e:Expr}{t t':TT}(h:PT X e t)(i:∀ σ H Q,t' σ H Q->t σ H Q):PT X e t':=fun pQ s σ H Q I q=>h pQ s σ H Q I (i σ H Q q)
theorem Zc4{X:Cx}{e:Li Expr}{t t':TA}(h:PA X e t)(i:∀ σ H Q,t' σ H Q->t σ H Q):PA X e t':=fun pos pQ s σ H Q I q=>h pos pQ s σ H Q I (i σ H Q q)
theorem Zdf{X:Cx}{e:Ot Expr}{t t':TO}(h:PO X e t)(i:∀ σ H Q,t' σ H Q->t σ H Q):PO X e t':=fun pQ s σ H Q I q=>h pQ s σ H Q I (i σ H Q q)
theorem ZP{X:Cx}{e:Stmt}{t t':TS}(h:PS X e t)(i:∀ D σ H,t' D σ H->t D σ H):PS X e t':=fun pQ s σ H D I q=>h pQ s σ H D I (i D σ H q)
theorem ZaE{X:Cx}{e:Li Stmt}{t t':TS}(h:PSs X e t)(i:∀ D σ H,t' D σ H->t D σ H):PSs X e t':=fun pQ s σ H D I q=>h pQ s σ H D I (i D σ H q)

def KT(K:Fg)(a:Ad)(xs:Li V):Prop:=
 ∃ (o:Obj) (its:Array vL) (n:Nat),K.lookup a=some o/\o.cls=.type "tuple"/\o.data=.seq its n/\its.size<=sizeLine/\Vals xs its.toList
def TupAt(K:Fg)(H:Hp)(a:Ad)(xs:Li V):Prop:=H a=some (.tup xs)\/KT K a xs
theorem TupAt.sq{K:Fg}{H:Hp}{a:Ad}{xs:Li V}(h:TupAt K H a xs):SqT K H a xs:=by
 rcases h with h|h
 ·exact .inl (.inl h)
 ·exact .inr h
def Yu(H:Hp)(a:Ad):Prop:=∃ f,H a=some (.dN f)
def LA(ad:Li Ad)(H:Hp)(i:Nat)(a:Ad):Prop:=ad[i]?=some a/\¬Yu H a
theorem W0{H:Hp}{a:Ad}{o:HO}(h:H a=some o)(n:∀ f,o≠.dN f):¬Yu H a:=fun⟨kvs,z⟩=>n kvs (Option.some.inj (h.symm.trans z))
mutual
inductive Den(K:Fg)(ad:List Addr)(H:Hp):V->D->Prop where
 |non:Den K ad H .non .non
 |bl (b:Bool):Den K ad H (.bl b) (.bl b)
 |int (i:Int):Den K ad H (.int i) (.int i)
 |str (x:Str):Den K ad H (.str x) (.str x)
 |tup {a:Addr}{xs:List V}{ds:List D} (h:TupAt K H a xs) (r:Dens K ad H xs ds):Den K ad H (.ref a) (.tup ds)
 |lst {a:Addr}{i:Nat} (h:LA ad H i a):Den K ad H (.ref a) (.lst i)
 |dic {a:Addr}{i:Nat} (h:ad[i]?=some a) (n:Yu H a):Den K ad H (.ref a) (.dic i)
 |dct {a:Addr}{kvs:List (Key×V)}{ks:List Str}{vs:List V}{ds:List D} (h:H a=some (.dK kvs)) (hk:kvs=(ks.zip vs).map fun p=>(Sum.inr p.1,p.2)) (nd:ks.Nodup/\ks≠[]) (hl:ks.length=vs.length) (r:Dens K ad H vs ds):Den K ad H (.ref a) (.dct ks ds)
 |obj {a dx:Addr}{i:Nat} (h:H a=some (.ins (ClsTab.ca i) dx [])) (n:a∉ad):Den K ad H (.ref a) (.obj i)
 |kt {a:Addr}{ks:List Str}{o:Obj}{its:Array Value}{n:Nat} (l:K.lookup a=some o) (c:o.cls=.type "tuple") (g:o.dict=none) (e:o.data=.seq its n) (z:its.size<=sizeLine) (r:Vals (ks.map V.str) its.toList):Den K ad H (.ref a) (.kt ks)
inductive Dens(K:Fg)(ad:List Addr)(H:Hp):List V->List D->Prop where
 |nil:Dens K ad H [] []
 |cons {v:V}{d:D}{vs:List V}{ds:List D} (h:Den K ad H v d) (r:Dens K ad H vs ds):Dens K ad H (v :: vs) (d :: ds)
end

structure Ext(ad:List Addr)(H:Hp)(ad':List Addr)(H':Hp):Prop where
 pre:∀ (i:Nat) (a:Addr),ad[i]?=some a->ad'[i]?=some a
 tup:∀ b xs,H b=some (.tup xs)->H' b=some (.tup xs)
 dk:∀ b kvs,H b=some (.dK kvs)->H' b=some (.dK kvs)
 keep:∀ b o,H b=some o->b∉ad->H' b=some o
 new:∀ b,b∈ad'->b∈ad\/H b=none
 kd:∀ (i:Nat) (a:Addr),ad[i]?=some a->(Yu H a↔Yu H' a)
theorem Ext.refl(ad:Li Ad)(H:Hp):Ext ad H ad H:=⟨fun _ _ h=>h,fun _ _ h=>h,fun _ _ h=>h,fun _ _ h _=>h,fun _ h=>.inl h,fun _ _ _=>Iff.rfl⟩
theorem Ext.trans{a1 a2 a3:Li Ad}{H1 H2 H3:Hp}(x:Ext a1 H1 a2 H2)(y:Ext a2 H2 a3 H3):Ext a1 H1 a3 H3:=by
 refine⟨fun i a h=>y.pre i a (x.pre i a h),fun b xs h=>y.tup b xs (x.tup b xs h),fun b xs h=>y.dk b xs (x.dk b xs h),fun b o h n=>?_,fun b h=>?_,fun i a h=>(x.kd i a h).trans (y.kd i a (x.pre i a h))⟩
 ·refine y.keep b o (x.keep b o h n) fun z=>?_
  rcases x.new b z with z|z
  ·exact n z
  ·rw[h]at z;cases z
 ·rcases y.new b h with z|z
  ·exact x.new b z
  ·cases e:H1 b with
   |none=>exact .inr rfl
   |some o=>
    by_cases q:b∈a1
    ·exact .inl q
    ·rw[x.keep b o e q]at z;cases z

theorem TupAt.mono{K:Fg}{ad ad':Li Ad}{H H':Hp}{a:Ad}{xs:Li V}(x:Ext ad H ad' H')(h:TupAt K H a xs):TupAt K H' a xs:=h.imp (x.tup _ _) id
theorem TupAt.upd{K:Fg}{H:Hp}{a p:Ad}{xs:Li V}{o o':HO}(hp:H p=some o)(ho:∀ xs,o≠.tup xs)(h:TupAt K H a xs):TupAt K (upd H p o') a xs:=by
 rcases h with h|h
 ·refine .inl ?_
  have n:a≠p:=fun z=>by subst z;rw[h]at hp;cases hp;exact ho _ rfl
  rw[upd_ne n];exact h
 ·exact .inr h
section
variable {K:Fg}{ad ad':Li Ad}{H H':Hp}
theorem Zic{ks:Li Str}{vs:Li V}(h:ks≠[])(hl:ks.length=vs.length):(ks.zip vs).map (fun p=>((Sum.inr p.1:Key),p.2))≠[]:=by
 cases ks with
 |nil=>exact absurd rfl h
 |cons k ks=>cases vs with
  |nil=>cases hl
  |cons v vs=>exact List.cons_ne_nil _ _
structure Keeps(K:Fg)(ad ad':List Addr)(H H':Hp):Prop where
 t:∀ {a xs},TupAt K H a xs->TupAt K H' a xs
 l:∀ {i:Nat}{a:Addr},ad[i]?=some a->ad'[i]?=some a/\(Yu H a↔Yu H' a)
 k:∀ {a kvs},kvs≠[]->H a=some (.dK kvs)->H' a=some (.dK kvs)
 o:∀ {a C dx},H a=some (.ins C dx [])->a∉ad->H' a=some (.ins C dx [])/\a∉ad'
theorem Den.map(x:Keeps K ad ad' H H'){v:V}{d:D}(h:Den K ad H v d):Den K ad' H' v d:=
 Den.rec (motive_1:=fun v d _=>Den K ad' H' v d) (motive_2:=fun vs ds _=>Dens K ad' H' vs ds) .non .bl .int .str (fun h _ r=>.tup (x.t h) r) (fun h=>.lst ⟨(x.l h.1).1,fun z=>h.2 ((x.l h.1).2.mpr z)⟩) (fun h n=>.dic (x.l h).1 ((x.l h).2.mp n)) (fun h hk nd hl _ r=>.dct (x.k (fun z=>Zic nd.2 hl (hk.symm.trans z)) h) hk nd hl r) (fun h n=>.obj (x.o h n).1 (x.o h n).2) .kt .nil (fun _ _ a b=>.cons a b) h
theorem Dens.map(x:Keeps K ad ad' H H'){vs:Li V}{ds:Li D}(h:Dens K ad H vs ds):Dens K ad' H' vs ds:=
 Dens.rec (motive_1:=fun _ _ _=>True) (motive_2:=fun vs ds _=>Dens K ad' H' vs ds) trivial (fun _=>trivial) (fun _=>trivial) (fun _=>trivial) (fun _ _ _=>trivial) (fun _=>trivial) (fun _ _=>trivial) (fun _ _ _ _ _ _=>trivial) (fun _ _=>trivial) (fun _ _ _ _ _ _=>trivial) .nil (fun a _ _ b=>.cons (a.map x) b) h
theorem Ext.keeps(x:Ext ad H ad' H'):Keeps K ad ad' H H':=⟨fun h=>h.mono x,fun h=>⟨x.pre _ _ h,x.kd _ _ h⟩,fun _ h=>x.dk _ _ h,fun h n=>⟨x.keep _ _ h n,fun z=>(x.new _ z).elim n fun q=>by rw[h]at q;cases q⟩⟩
theorem Den.mono(x:Ext ad H ad' H'){v:V}{d:D}(h:Den K ad H v d):Den K ad' H' v d:=h.map x.keeps
theorem Dens.mono(x:Ext ad H ad' H'){vs:Li V}{ds:Li D}(h:Dens K ad H vs ds):Dens K ad' H' vs ds:=h.map x.keeps
theorem ZgZ(x:∀ (i:Nat) (a:Ad),ad[i]?=some a->ad'[i]?=some a)(y:∀ b,b∈ad'->b∈ad\/∃ xs,H b=some (.lst xs)):Keeps K ad ad' H H:=⟨id,fun h=>⟨x _ _ h,Iff.rfl⟩,fun _ h=>h,fun h n=>⟨h,fun z=>(y _ z).elim n fun⟨xs,q⟩=>by rw[h]at q;cases q⟩⟩
theorem Dens.length:∀ {vs:Li V}{ds:Li D},Dens K ad H vs ds->vs.length=ds.length
 |_,_,.nil=>rfl
 |_,_,.cons _ r=>congrArg (·+1) (Dens.length r)
theorem Dens.get:∀ {vs:Li V}{ds:Li D}{i:Nat}{d:D},Dens K ad H vs ds->ds[i]?=some d->∃ v,vs[i]?=some v/\Den K ad H v d
 |_,_,_,_,.nil,e=>by simp at e
 |_,_,0,_,.cons h _,e=>by simp at e;subst e;exact⟨_,rfl,h⟩
 |_,_,i+1,d,.cons _ r,e=>by
  obtain⟨v,h1,h2⟩:=Dens.get (i:=i) (d:=d) r (by simpa using e)
  exact⟨v,by simpa using h1,h2⟩
theorem Dens.append:∀ {vs ws:Li V}{ds es:Li D},Dens K ad H vs ds->Dens K ad H ws es->Dens K ad H (vs++ws) (ds++es)
 |_,_,_,_,.nil,s=>s
 |_,_,_,_,.cons h r,s=>.cons h (Dens.append r s)
theorem Dens.take:∀ {vs:Li V}{ds:Li D} (n:Nat),Dens K ad H vs ds->Dens K ad H (vs.take n) (ds.take n)
 |_,_,0,_=>.nil
 |_,_,_+1,.nil=>.nil
 |_,_,n+1,.cons h r=>.cons h (Dens.take n r)
theorem Dens.drop:∀ {vs:Li V}{ds:Li D} (n:Nat),Dens K ad H vs ds->Dens K ad H (vs.drop n) (ds.drop n)
 |_,_,0,r=>r
 |_,_,_+1,.nil=>.nil
 |_,_,n+1,.cons _ r=>Dens.drop n r
theorem Dens.set{v:V}{d:D}(h:Den K ad H v d):∀ {vs:Li V}{ds:Li D} (n:Nat),Dens K ad H vs ds->Dens K ad H (vs.set n v) (ds.set n d)
 |_,_,_,.nil=>.nil
 |_,_,0,.cons _ r=>.cons h r
 |_,_,n+1,.cons q r=>.cons q (Dens.set h n r)
theorem Dens.rep{v:V}{d:D}(h:Den K ad H v d):∀ n:Nat,Dens K ad H (List.replicate n v) (List.replicate n d)
 |0=>.nil
 |n+1=>.cons h (Dens.rep h n)
theorem Den.ofInt{v:V}{i:Int}(h:Den K ad H v (.int i)):v=.int i:=by cases h;rfl
theorem Den.ofStr{v:V}{x:Str}(h:Den K ad H v (.str x)):v=.str x:=by cases h;rfl
theorem Den.ofBl{v:V}{b:Bool}(h:Den K ad H v (.bl b)):v=.bl b:=by cases h;rfl
theorem Den.ofDct{v:V}{ks:Li Str}{ds:Li D}(h:Den K ad H v (.dct ks ds)):∃ a vs,v=.ref a/\H a=some (.dK ((ks.zip vs).map fun p=>(Sum.inr p.1,p.2)))/\ks.length=vs.length/\Dens K ad H vs ds:=by
 cases h with
 |dct h hk nd hl r=>subst hk;exact⟨_,_,rfl,h,hl,r⟩
theorem Den.ofTup{v:V}{ds:Li D}(h:Den K ad H v (.tup ds)):∃ a xs,v=.ref a/\TupAt K H a xs/\Dens K ad H xs ds:=by
 cases h with
 |tup h r=>exact⟨_,_,rfl,h,r⟩
theorem Den.ofLst{v:V}{i:Nat}(h:Den K ad H v (.lst i)):∃ a,v=.ref a/\LA ad H i a:=by
 cases h with
 |lst h=>exact⟨_,rfl,h⟩
theorem Den.ofDic{v:V}{i:Nat}(h:Den K ad H v (.dic i)):∃ a,v=.ref a/\ad[i]?=some a/\Yu H a:=by
 cases h with
 |dic h n=>exact⟨_,rfl,h,n⟩
theorem Den.newL{a:Ad}{i:Nat}{xs:Li V}(h:ad[i]?=some a):Den K ad (upd H a (.lst xs)) (.ref a) (.lst i):=.lst ⟨h,W0 upd_same fun _ z=>nomatch z⟩
theorem LA.mono{i:Nat}{a:Ad}(x:Ext ad H ad' H')(h:LA ad H i a):LA ad' H' i a:=⟨x.pre _ _ h.1,fun z=>h.2 ((x.kd _ _ h.1).mpr z)⟩

theorem Den.ofKt{v:V}{ks:Li Str}(h:Den K ad H v (.kt ks)):∃ a o its n,v=.ref a/\K.lookup a=some o/\(o.cls=.type "tuple"/\o.dict=none)/\o.data=.seq its n/\its.size<=sizeLine/\Vals (ks.map V.str) its.toList:=by
 cases h with
 |kt l c g e z r=>exact⟨_,_,_,_,rfl,l,⟨c,g⟩,e,z,r⟩
theorem Uw:∀ ks:Li Str,Dens K ad H (ks.map V.str) (ks.map D.str)
 |[]=>.nil
 |k :: ks=>.cons (.str k) (Uw ks)
theorem Den.ofObj{v:V}{i:Nat}(h:Den K ad H v (.obj i)):∃ a dx,v=.ref a/\H a=some (.ins (ClsTab.ca i) dx []):=by
 cases h with
 |obj h n=>exact⟨_,_,rfl,h⟩

def KL(K:Fg)(a:Ad)(xs:Li V):Prop:=
 ∃ (o:Obj) (its:Array vL) (n:Nat),(K.lookup a=some o/\o.cls=.type "list")/\(o.dict=none/\o.data=.seq its n)/\its.size<=sizeLine/\Vals xs its.toList
inductive Ents(K:Fg)(ad:List Addr)(H:Hp):List (D×Addr×Addr)->List D->Prop where
 |nil:Ents K ad H [] []
 |cons {k:D}{ka la:Addr}{j:Nat}{xs:List (D×Addr×Addr)}{ds:List D} (h:Den K ad H (.ref ka) k) (ok:(okN 8 k&&VA k)=true) (l:LA ad H j la) (r:Ents K ad H xs ds):Ents K ad H ((k,ka,la) :: xs) (.tup [k,.lst j] :: ds)
noncomputable def YG(xs:Li (D×Ad×Ad)):World->Li DictEntry:=fun w=>xs.map fun x=>⟨Xh w 8 x.1,.ref x.2.1,.ref x.2.2⟩
theorem LA.map{i:Nat}{a:Ad}(x:Keeps K ad ad' H H')(h:LA ad H i a):LA ad' H' i a:=⟨(x.l h.1).1,fun z=>h.2 ((x.l h.1).2.mpr z)⟩
theorem Ents.map(x:Keeps K ad ad' H H'){xs:Li (D×Ad×Ad)}{ds:Li D}(h:Ents K ad H xs ds):Ents K ad' H' xs ds:=by
 induction h with
 |nil=>exact .nil
 |cons h ok l _ ih=>exact .cons (h.map x) ok (l.map x) ih
theorem Ents.mono(x:Ext ad H ad' H'){xs:Li (D×Ad×Ad)}{ds:Li D}(h:Ents K ad H xs ds):Ents K ad' H' xs ds:=by
 induction h with
 |nil=>exact .nil
 |cons h ok l _ ih=>exact .cons (h.mono x) ok (l.mono x) ih
inductive CellOk(K:Fg)(ad:List Addr)(H:Hp)(a:Addr)(c:Yi):Prop where
 |l {xs:List V} (n:¬Yu H a) (r:Dens K ad H xs c.2) (h:(c.1=true/\H a=some (.lst xs))\/(c.1=false/\((∃ o,H a=some (.frz o (.lst xs)))\/KL K a xs)))
 |d {xs:List (D×Addr×Addr)} (r:Ents K ad H xs c.2) (e:c.1=true) (h:H a=some (.dN (YG xs))) (n:(xs.map (·.1)).Nodup)
structure StOk(K:Fg)(ad:List Addr)(H:Hp)(st:Za):Prop where
 len:ad.length=st.length
 nd:∀ (i j:Nat) (a:Addr) (c d:List D),ad[i]?=some a->ad[j]?=some a->st[i]?=some (true,c)->st[j]?=some (true,d)->i=j
 cell:∀ (i:Nat) (c:Yi),st[i]?=some c->∃ a,ad[i]?=some a/\CellOk K ad H a c

theorem CellOk.sq{a:Ad}{c:Yi}(h:CellOk K ad H a c)(n:¬Yu H a):∃ xs,Dens K ad H xs c.2/\SqL K H a xs:=by
 cases h with
 |l _ r h=>
  obtain⟨_,e⟩|⟨_,⟨o,e⟩|⟨o,its,n,⟨h1,h2⟩,⟨h3,h4⟩,h5,h6⟩⟩:=h
  ·exact⟨_,r,.inl (.inl e)⟩
  ·exact⟨_,r,.inl (.inr ⟨o,e⟩)⟩
  ·exact⟨_,r,.inr ⟨o,its,n,h1,h2,h3,h4,h5,h6⟩⟩
 |d r e h=>exact absurd ⟨_,h⟩ n
theorem StOk.list{st:Za}{a:Ad}{i:Nat}{b:Bool}{ds:Li D}(S:StOk K ad H st)(h:LA ad H i a)(e:st[i]?=some (b,ds)):∃ xs,Dens K ad H xs ds/\SqL K H a xs:=by
 obtain⟨a',e',c⟩:=S.cell i _ e;rw[h.1]at e';cases e'
 exact c.sq h.2
theorem StOk.listM{st:Za}{a:Ad}{i:Nat}{ds:Li D}(S:StOk K ad H st)(h:LA ad H i a)(e:st[i]?=some (true,ds)):∃ xs,Dens K ad H xs ds/\H a=some (.lst xs):=by
 obtain⟨a',e',c⟩:=S.cell i _ e;rw[h.1]at e';cases e'
 cases c with
 |l _ r q=>
  obtain⟨_,q⟩|⟨q,_⟩:=q
  ·exact⟨_,r,q⟩
  ·cases q
 |d r _ q=>exact absurd ⟨_,q⟩ h.2
theorem StOk.dict{st:Za}{a:Ad}{i:Nat}{b:Bool}{ds:Li D}(S:StOk K ad H st)(h:ad[i]?=some a)(n:Yu H a)(e:st[i]?=some (b,ds)):∃ xs,(Ents K ad H xs ds/\(xs.map (·.1)).Nodup)/\H a=some (.dN (YG xs))/\b=true:=by
 obtain⟨a',e',c⟩:=S.cell i _ e;rw[h]at e';cases e'
 cases c with
 |l z=>exact absurd n z
 |d r e q n=>exact⟨_,⟨r,n⟩,q,e⟩
theorem VX{p a:Ad}{o:HO}(hp:¬Yu H p)(ho:∀ f,o≠.dN f):Yu H a↔Yu (upd H p o) a:=by
 by_cases z:a=p
 ·subst z
  exact⟨fun q=>absurd q hp,fun q=>absurd q (W0 upd_same ho)⟩
 ·unfold Yu
  rw[upd_ne z]
theorem Zaw{p:Ad}(hp:H p=none):¬Yu H p:=fun⟨_,z⟩=>by rw[hp]at z;cases z
theorem Ext.laid{p:Ad}{o:HO}(hp:H p=none)(ho:∀ f,o≠.dN f:=by intro _ z;cases z):Ext ad H ad (upd H p o):=
 ⟨fun _ _ h=>h,fun b xs h=>by rw[upd_ne (ne_of_none h hp)];exact h,fun b xs h=>by rw[upd_ne (ne_of_none h hp)];exact h,fun b o h _=>by rw[upd_ne (ne_of_none h hp)];exact h,fun _ h=>.inl h,fun _ _ _=>VX (Zaw hp) ho⟩
theorem CellOk.laid{i:Nat}{p a:Ad}{o:HO}{c:Yi}{ad':Li Ad}(ha:ad[i]?=some a)(hp:H p=none)(x:Ext ad H ad' (upd H p o))(h:CellOk K ad H a c):CellOk K ad' (upd H p o) a c:=by
 cases h with
 |l n r h=>
  refine .l (fun z=>n ((x.kd i a ha).mpr z)) (r.mono x) ?_
  rcases h with⟨b,e⟩|⟨b,⟨o,e⟩|e⟩
  ·exact .inl ⟨b,by rw[upd_ne (ne_of_none e hp)];exact e⟩
  ·exact .inr ⟨b,.inl ⟨o,by rw[upd_ne (ne_of_none e hp)];exact e⟩⟩
  ·exact .inr ⟨b,.inr e⟩
 |d r e h n=>exact .d (r.mono x) e (by rw[upd_ne (ne_of_none h hp)];exact h) n
theorem StOk.laid{st:Za}{p:Ad}{o:HO}(S:StOk K ad H st)(hp:H p=none)(ho:∀ f,o≠.dN f:=by intro _ z;cases z):StOk K ad (upd H p o) st:=
 ⟨S.len,S.nd,fun i c e=>let ⟨a,h,q⟩:=S.cell i c e;⟨a,h,q.laid h hp (Ext.laid hp ho)⟩⟩
theorem Wl{α:Type}{l:Li α}{x y:α}{i:Nat}(h:(l++[x])[i]?=some y):l[i]?=some y\/(i=l.length/\y=x):=by
 by_cases hi:i < l.length
 ·rw[List.getElem?_append_left hi]at h
  exact .inl h
 ·rw[List.getElem?_append_right (by omega)]at h
  have:i - l.length=0:=by
   cases e:i - l.length with
   |zero=>rfl
   |succ k=>rw[e]at h;simp at h
  rw[this]at h;simp at h;exact .inr ⟨by omega,h.symm⟩
theorem YN{α:Type}{l:Li α}{x y:α}{i:Nat}(h:l[i]?=some y):(l++[x])[i]?=some y:=by
 rw[List.getElem?_append_left (List.getElem?_eq_some_iff.mp h).1];exact h
theorem ZE{α:Type}{l:Li α}{x:α}:(l++[x])[l.length]?=some x:=by simp
theorem Ext.pushG{p:Ad}{o:HO}(hp:H p=none)(hk:∀ (i:Nat) (a:Ad),ad[i]?=some a->(Yu H a↔Yu (upd H p o) a)):Ext ad H (ad++[p]) (upd H p o):=
 ⟨fun _ _ h=>YN h,fun b xs h=>by rw[upd_ne (ne_of_none h hp)];exact h,fun b xs h=>by rw[upd_ne (ne_of_none h hp)];exact h,fun b o h _=>by rw[upd_ne (ne_of_none h hp)];exact h,fun b h=>(List.mem_append.mp h).elim .inl fun z=>.inr (by rw[List.mem_singleton.mp z];exact hp),hk⟩
theorem Ext.push{p:Ad}{xs:Li V}(hp:H p=none):Ext ad H (ad++[p]) (upd H p (.lst xs)):=Ext.pushG hp fun _ _ _=>VX (Zaw hp) fun _ z=>nomatch z
theorem StOk.more{st:Za}{p:Ad}{H':Hp}{ds:Li D}(S:StOk K ad H st)(hn:∀ (i:Nat) (c:Li D),ad[i]?=some p->st[i]?=some (true,c)->False)(hc:∀ (i:Nat) (c:Yi) (a:Ad),ad[i]?=some a->CellOk K ad H a c->CellOk K (ad++[p]) H' a c)(hp:CellOk K (ad++[p]) H' p (true,ds)):StOk K (ad++[p]) H' (st++[(true,ds)]):=by
 have old:∀ (i:Nat) (c:Li D) (a:Ad),(ad++[p])[i]?=some a->st[i]?=some (true,c)->ad[i]?=some a:=fun i c a h e=>by
  obtain⟨a1,q1,_⟩:=S.cell i _ e;have z1:=YN (x:=p) q1;rw[h]at z1;cases z1;exact q1
 refine⟨by rw[List.length_append,List.length_append,S.len];rfl,fun i j a c d h1 h2 h3 h4=>?_,fun i c e=>?_⟩
 ·rcases Wl h3 with h3|⟨e3,_⟩
  ·rcases Wl h4 with h4|⟨e4,_⟩
   ·exact S.nd i j a c d (old i c a h1 h3) (old j d a h2 h4) h3 h4
   ·have q1:=old i c a h1 h3
    rw[e4,<-S.len,ZE]at h2;cases h2;exact(hn i c q1 h3).elim
  ·rcases Wl h4 with h4|⟨e4,_⟩
   ·have q2:=old j d a h2 h4
    rw[e3,<-S.len,ZE]at h1;cases h1;exact(hn j d q2 h4).elim
   ·omega
 ·rcases Wl e with e|⟨e1,e2⟩
  ·obtain⟨a,h,q⟩:=S.cell i c e
   exact⟨a,YN h,hc i c a h q⟩
  ·subst e2
   exact⟨p,by rw[e1,<-S.len];exact ZE,hp⟩
theorem StOk.noNew{st:Za}{p:Ad}(S:StOk K ad H st)(hp:H p=none)(i:Nat)(c:Li D)(h:ad[i]?=some p)(e:st[i]?=some (true,c)):False:=by
 obtain⟨a',e',q⟩:=S.cell i _ e;rw[h]at e';cases e'
 cases q with
 |l _ _ q=>
  obtain⟨_,q⟩|⟨q,_⟩:=q
  ·rw[hp]at q;cases q
  ·cases q
 |d _ _ q=>rw[hp]at q;cases q
theorem StOk.push{st:Za}{p:Ad}{xs:Li V}{ds:Li D}(S:StOk K ad H st)(hp:H p=none)(r:Dens K ad H xs ds):StOk K (ad++[p]) (upd H p (.lst xs)) (st++[(true,ds)]):=
 S.more (S.noNew hp) (fun _ _ _ h q=>q.laid h hp (Ext.push hp)) (.l (W0 upd_same fun _ z=>nomatch z) (r.mono (Ext.push hp)) (.inl ⟨rfl,upd_same⟩))
theorem StOk.wrG{st:Za}{p:Ad}{o:HO}(S:StOk K ad H st)(kp:Keeps K ad ad H (upd H p o))(hn:p∉ad):StOk K ad (upd H p o) st:=
 ⟨S.len,S.nd,fun i c e=>by
  obtain⟨a,h,q⟩:=S.cell i c e;have ne:a≠p:=fun z=>hn (by rw[<-z];exact List.mem_of_getElem? h)
  refine⟨a,h,?_⟩;cases q with
  |l n r q=>
   refine .l (fun z=>n ((kp.l h).2.mpr z)) (r.map kp) ?_
   rcases q with⟨b,q⟩|⟨b,⟨o,q⟩|q⟩
   ·exact .inl ⟨b,by rw[upd_ne ne];exact q⟩
   ·exact .inr ⟨b,.inl ⟨o,by rw[upd_ne ne];exact q⟩⟩
   ·exact .inr ⟨b,.inr q⟩
  |d r t q n=>exact .d (r.map kp) t (by rw[upd_ne ne];exact q) n⟩
theorem StOk.has{st:Za}{i:Nat}{a:Ad}(S:StOk K ad H st)(hi:ad[i]?=some a):(∃ o,H a=some o)\/∃ o,K.lookup a=some o:=by
 obtain⟨a',e',q⟩:=S.cell i _ (Lg (show i < st.length by rw[<-S.len];exact(List.getElem?_eq_some_iff.mp hi).1))
 rw[hi]at e';cases e'
 cases q with
 |l _ _ q=>
  obtain⟨_,q⟩|⟨_,⟨o,q⟩|⟨o,its,m,⟨h1,h2⟩,_⟩⟩:=q
  ·exact .inl ⟨_,q⟩
  ·exact .inl ⟨_,q⟩
  ·exact .inr ⟨_,h1⟩
 |d _ _ q=>exact .inl ⟨_,q⟩
theorem StOk.extD{st:Za}{p:Ad}{f:World->Li DictEntry}(S:StOk K ad H st)(hp:H p=none)(hk:∀ o,K.lookup p≠some o):Ext ad H (ad++[p]) (upd H p (.dN f)):=
 Ext.pushG hp fun i a h=>by
  have n:a≠p:=fun z=>(S.has h).elim (fun⟨o,q⟩=>by rw[z,hp]at q;cases q) fun⟨o,q⟩=>hk o (z ▸ q)
  unfold Yu;rw[upd_ne n]
theorem StOk.pushD{st:Za}{p:Ad}(S:StOk K ad H st)(hp:H p=none)(hk:∀ o,K.lookup p≠some o):StOk K (ad++[p]) (upd H p (.dN (YG []))) (st++[(true,[])]):=
 S.more (S.noNew hp) (fun _ _ _ h q=>q.laid h hp (S.extD hp hk)) (.d .nil rfl upd_same List.nodup_nil)
theorem StOk.adopt{st:Za}{p:Ad}{xs:Li V}{ds:Li D}(S:StOk K ad H st)(hp:H p=some (.lst xs))(hn:p∉ad)(r:Dens K ad H xs ds):StOk K (ad++[p]) H (st++[(true,ds)]):=by
 have kp:Keeps K ad (ad++[p]) H H:=ZgZ (fun _ _ h=>YN h) (fun b hb=>(List.mem_append.mp hb).imp id fun z=>⟨xs,by rw[List.mem_singleton.mp z];exact hp⟩)
 exact S.more (fun i _ h _=>hn (List.mem_of_getElem? h)) (fun _ _ _ _ q=>by
  cases q with
  |l n r h=>exact .l n (r.map kp) h
  |d r e h n=>exact .d (r.map kp) e h n) (.l (W0 hp fun _ z=>nomatch z) (r.map kp) (.inl ⟨rfl,hp⟩))
theorem Ext.writeG{a:Ad}{o o':HO}(h:H a=some o)(ha:a∈ad)(h1:∀ xs,o≠.tup xs)(h2:∀ xs,o≠.dK xs)(hk:Yu H a↔Yu (upd H a o') a):Ext ad H ad (upd H a o'):=
 ⟨fun _ _ h=>h,fun b zs e=>by rw[upd_ne (ne_of e h (fun z=>h1 _ z.symm))];exact e,fun b zs e=>by rw[upd_ne (ne_of e h (fun z=>h2 _ z.symm))];exact e,fun b o e n=>by rw[upd_ne (show b≠a from fun z=>n (by rw[z];exact ha))];exact e,fun _ h=>.inl h,fun _ b _=>by
  by_cases z:b=a
  ·rw[z];exact hk
  ·unfold Yu;rw[upd_ne z]⟩
theorem Ext.write{a:Ad}{xs ys:Li V}(h:H a=some (.lst xs))(ha:a∈ad):Ext ad H ad (upd H a (.lst ys)):=
 Ext.writeG h ha (fun _ z=>nomatch z) (fun _ z=>nomatch z) ⟨fun z=>absurd z (W0 h fun _ z=>nomatch z),fun z=>absurd z (W0 upd_same fun _ z=>nomatch z)⟩
theorem StOk.writeG{st:Za}{a:Ad}{i:Nat}{ds es:Li D}{o o':HO}(S:StOk K ad H st)(h:ad[i]?=some a)(e:st[i]?=some (true,ds))(hx:H a=some o)(hf:∀ q u,o≠.frz q u)(x:Ext ad H ad (upd H a o'))(r:CellOk K ad (upd H a o') a (true,es)) :
  StOk K ad (upd H a o') (st.set i (true,es)):=by
 have hi:i < st.length:=(List.getElem?_eq_some_iff.mp e).1;refine⟨by rw[List.length_set];exact S.len,fun j k b c d h1 h2 h3 h4=>?_,fun j c q=>?_⟩
 ·have up:∀ (j:Nat) (c:Li D),(st.set i (true,es))[j]?=some (true,c)->∃ c',st[j]?=some (true,c'):=fun j c q=>by
   by_cases z:i=j
   ·subst z;exact⟨_,e⟩
   ·rw[List.getElem?_set_ne z]at q;exact⟨_,q⟩
  obtain⟨c',h3⟩:=up j c h3;obtain⟨d',h4⟩:=up k d h4;exact S.nd j k b c' d' h1 h2 h3 h4
 ·by_cases z:i=j
  ·subst z
   rw[List.getElem?_set_self hi]at q;cases q;exact⟨a,h,r⟩
  ·rw[List.getElem?_set_ne z]at q
   obtain⟨b,hb,hz⟩:=S.cell j c q;refine⟨b,hb,?_⟩;have ne:c.1=true->b≠a:=fun t w=>by
    obtain⟨cb,cl⟩:=c;cases (show cb=true from t)
    exact z (S.nd i j a ds cl h (w ▸ hb) e q)
   cases hz with
   |l n rz hz=>
    refine .l (fun z=>n ((x.kd j b hb).mpr z)) (rz.mono x) ?_
    rcases hz with⟨t,hz⟩|⟨t,⟨o,hz⟩|hz⟩
    ·exact .inl ⟨t,by rw[upd_ne (ne t)];exact hz⟩
    ·exact .inr ⟨t,.inl ⟨o,by rw[upd_ne (ne_of hz hx (fun z=>hf _ _ z.symm))];exact hz⟩⟩
    ·exact .inr ⟨t,.inr hz⟩
   |d rz t hz n=>exact .d (rz.mono x) t (by rw[upd_ne (ne t)];exact hz) n
theorem StOk.write{st:Za}{a:Ad}{i:Nat}{ds es:Li D}{xs ys:Li V}(S:StOk K ad H st)(h:LA ad H i a)(e:st[i]?=some (true,ds))(hx:H a=some (.lst xs))(r:Dens K ad H ys es) :
  StOk K ad (upd H a (.lst ys)) (st.set i (true,es)):=
 S.writeG h.1 e hx (fun _ _ z=>nomatch z) (Ext.write hx (List.mem_of_getElem? h.1)) (.l (W0 upd_same fun _ z=>nomatch z) (r.mono (Ext.write hx (List.mem_of_getElem? h.1))) (.inl ⟨rfl,upd_same⟩))
theorem Ext.writeD{a:Ad}{f f':World->Li DictEntry}(h:H a=some (.dN f))(ha:a∈ad):Ext ad H ad (upd H a (.dN f')):=
 Ext.writeG h ha (fun _ z=>nomatch z) (fun _ z=>nomatch z) ⟨fun _=>⟨_,upd_same⟩,fun _=>⟨_,h⟩⟩
theorem StOk.writeD{st:Za}{a:Ad}{i:Nat}{ds es:Li D}{xs ys:Li (D×Ad×Ad)}(S:StOk K ad H st)(h:ad[i]?=some a)(e:st[i]?=some (true,ds))(hx:H a=some (.dN (YG xs)))(r:Ents K ad H ys es)(n:(ys.map (·.1)).Nodup) :
  StOk K ad (upd H a (.dN (YG ys))) (st.set i (true,es)):=
 S.writeG h e hx (fun _ _ z=>nomatch z) (Ext.writeD hx (List.mem_of_getElem? h)) (.d (r.mono (Ext.writeD hx (List.mem_of_getElem? h))) rfl upd_same n)

structure EnvOk(K:Fg)(ad:List Addr)(H:Hp)(σ:L2.St)(ρ:Env):Prop where
 len:σ.length=ρ.length
 at_:∀ (i:Nat) (d:D),ρ[i]?=some (some d)->∃ v,σ[i]?=some (some v)/\Den K ad H v d
theorem EnvOk.mono{σ:L2.St}{ρ:Env}(x:Ext ad H ad' H')(h:EnvOk K ad H σ ρ):EnvOk K ad' H' σ ρ:=⟨h.len,fun i d e=>let ⟨v,e1,e2⟩:=h.at_ i d e;⟨v,e1,e2.mono x⟩⟩
theorem EnvOk.set{σ:L2.St}{ρ:Env}{v:V}{d:D}(h:EnvOk K ad H σ ρ)(i:Nat)(r:Den K ad H v d):EnvOk K ad H (σ.set i (some v)) (Zr ρ i d):=by
 refine⟨by unfold Zr;rw[List.length_set,List.length_set];exact h.len,fun j e q=>?_⟩
 unfold Zr at q;by_cases z:i=j
 ·subst z
  by_cases hi:i < ρ.length
  ·rw[List.getElem?_set_self hi]at q
   cases q;exact⟨v,by rw[List.getElem?_set_self (by rw[h.len];exact hi)],r⟩
  ·rw[List.getElem?_eq_none (by rw[List.length_set];omega)]at q
   cases q
 ·rw[List.getElem?_set_ne z]at q
  obtain⟨w,e1,e2⟩:=h.at_ j e q;exact⟨w,by rw[List.getElem?_set_ne z];exact e1,e2⟩
end

def Post(K:Fg)(ad:Li Ad)(H:Hp)(d:D)(st':Za)(Q:VK):Prop:=∀ v ad' H',Ext ad H ad' H'->StOk K ad' H' st'->Den K ad' H' v d->Q v H'
noncomputable def tE(K:Fg)(f:Env->Za->Res):TE:=fun σ H Q=>∃ ad ρ st d st',EnvOk K ad H σ ρ/\StOk K ad H st/\f ρ st=some (d,st')/\Post K ad H d st' Q
noncomputable def tT(K:Fg)(f:Env->Za->Res):TT:=fun σ H Q=>∃ ad ρ st k st',EnvOk K ad H σ ρ/\StOk K ad H st/\f ρ st=some (.bl k,st')/\∀ ad' H',Ext ad H ad' H'->StOk K ad' H' st'->Q k H'
noncomputable def tA(K:Fg)(f:Env->Za->Res):TA:=fun σ H Q=>∃ ad ρ st ds st',EnvOk K ad H σ ρ/\StOk K ad H st/\f ρ st=some (.tup ds,st')/\∀ vs ad' H',Ext ad H ad' H'->StOk K ad' H' st'->Dens K ad' H' vs ds->Q vs H'
noncomputable def rD(K:Fg)(f:D->D->Za->Res):R2:=fun x y H Q=>∃ ad st dx dy d st',StOk K ad H st/\Den K ad H x dx/\Den K ad H y dy/\f dx dy st=some (d,st')/\Post K ad H d st' Q
noncomputable def spD(K:Fg)(g:Fn):Sp:=fun vs H Q _=>∃ ad ds st d st',StOk K ad H st/\Dens K ad H vs ds/\g ds st=some (d,st')/\Post K ad H d st' Q
noncomputable def tS(K:Fg)(f:Env->Za->Ot (Fl×Za)):TS:=fun D σ H=>∃ ad ρ st r st',EnvOk K ad H σ ρ/\StOk K ad H st/\f ρ st=some (r,st') /\
 match r with
 |.nx ρ'=>∀ σ' ad' H',Ext ad H ad' H'->StOk K ad' H' st'->EnvOk K ad' H' σ' ρ'->D.nx σ' H'
 |.bk ρ'=>∀ σ' ad' H',Ext ad H ad' H'->StOk K ad' H' st'->EnvOk K ad' H' σ' ρ'->D.bk σ' H'
 |.ct ρ'=>∀ σ' ad' H',Ext ad H ad' H'->StOk K ad' H' st'->EnvOk K ad' H' σ' ρ'->D.ct σ' H'
 |.rt d=>Post K ad H d st' D.rt
theorem Post.at{K:Fg}{ad:Li Ad}{H:Hp}{d:D}{st:Za}{Q:VK}(p:Post K ad H d st Q)(S:StOk K ad H st){v:V}(h:Den K ad H v d):Q v H:=p v ad H (Ext.refl _ _) S h
theorem Post.later{K:Fg}{ad ad':Li Ad}{H H':Hp}{d:D}{st:Za}{Q:VK}(p:Post K ad H d st Q)(x:Ext ad H ad' H'):Post K ad' H' d st Q:=fun v a2 H2 y S h=>p v a2 H2 (x.trans y) S h
end Dp



namespace Dp
open PySem PySem.Spec PyProof.Rows L2
variable [ClsTab]
section
variable {X:Cx}{a b c:Expr}{fa fb fc:Ev}{pos:Pos}

theorem ZeH{K:Fg}{i:Nat}(σ:L2.St)(H:Hp)(Q:VK)(h:tE K (Yj i) σ H Q):tVar i σ H Q:=by
 obtain⟨ad,ρ,st,d,st',E,S,e,p⟩:=h;unfold Yj at e;split at e
 ·rename_i q
  obtain⟨v,e1,e2⟩:=E.at_ i _ q;cases e;exact⟨v,e1,p.at S e2⟩
 ·exact Zb e
theorem QA{K:Fg}{v:V}{d:D}(hd:∀ ad H,Den K ad H v d)(σ:L2.St)(H:Hp)(Q:VK)(h:tE K (evC d) σ H Q):tC v σ H Q:=by
 obtain⟨ad,ρ,st,d',st',E,S,e,p⟩:=h;cases e;exact p.at S (hd _ _)
theorem UN{K:Fg}{g:D->D->Za->Res}(σ:L2.St)(H:Hp)(Q:VK)(h:tE K (ZQ fa fb g) σ H Q):tOp (rD K g) (tE K fa) (tE K fb) σ H Q:=by
 obtain⟨ad,ρ,st,d,st',E,S,e,p⟩:=h;unfold ZQ at e;split at e
 ·rename_i x st1 q1
  split at e
  ·rename_i y st2 q2
   refine⟨ad,ρ,st,x,st1,E,S,q1,fun v1 ad1 H1 x1 S1 d1=>⟨ad1,ρ,st1,y,st2,E.mono x1,S1,q2,fun v2 ad2 H2 x2 S2 d2=>?_⟩⟩
   exact⟨ad2,st2,x,y,d,st',S2,d1.mono x2,d2,e,p.later (x1.trans x2)⟩
  ·exact Zb e
 ·exact Zb e
def rU1(K:Fg)(g:D->Za->Res):V->Hp->VK->Prop:=fun x H Q=>∃ ad st dx d st',StOk K ad H st/\Den K ad H x dx/\g dx st=some (d,st')/\Post K ad H d st' Q
theorem ZgS{K:Fg}{g:D->Za->Res}(σ:L2.St)(H:Hp)(Q:VK)(h:tE K (ZC fa g) σ H Q):tUn (rU1 K g) (tE K fa) σ H Q:=by
 obtain⟨ad,ρ,st,d,st',E,S,e,p⟩:=h;unfold ZC at e;split at e
 ·rename_i x st1 q1
  exact⟨ad,ρ,st,x,st1,E,S,q1,fun v1 ad1 H1 x1 S1 d1=>⟨ad1,st1,x,d,st',S1,d1,e,p.later x1⟩⟩
 ·exact Zb e
theorem ZcA{K:Fg}(σ:L2.St)(H:Hp)(Q:Bool->Hp->Prop)(h:tT K fa σ H Q):tE K fa σ H fun x H1=>∃ c,x=.bl c/\Q c H1:=by
 obtain⟨ad,ρ,st,k,st',E,S,e,p⟩:=h;exact⟨ad,ρ,st,.bl k,st',E,S,e,fun v ad' H' x S' d'=>⟨k,d'.ofBl,p ad' H' x S'⟩⟩
theorem Yv{fc ft ff:Ev}{ρ:Env}{st:Za}{r:D×Za}(h:Xs fc ft ff ρ st=some r):∃ k st1,fc ρ st=some (.bl k,st1)/\(if k=true then ft ρ st1 else ff ρ st1)=some r:=by
 unfold Xs at h;split at h
 ·rename_i st1 q
  exact⟨true,st1,q,by rw[if_pos rfl];exact h⟩
 ·rename_i st1 q
  exact⟨false,st1,q,by rw[if_neg Bf];exact h⟩
 ·exact Zb h
theorem ZgR{K:Fg}(σ:L2.St)(H:Hp)(Q:VK)(h:tE K (Xs fc fa fb) σ H Q):tIf (tT K fc) (tE K fa) (tE K fb) σ H Q:=by
 obtain⟨ad,ρ,st,d,st',E,S,e,p⟩:=h;obtain⟨k,st1,q,e⟩:=Yv e;refine⟨ad,ρ,st,k,st1,E,S,q,fun ad1 H1 x1 S1=>?_⟩
 cases k with
 |true=>
  rw[if_pos rfl]at e ⊢;exact⟨ad1,ρ,st1,d,st',E.mono x1,S1,e,p.later x1⟩
 |false=>
  rw[if_neg Bf]at e ⊢;exact⟨ad1,ρ,st1,d,st',E.mono x1,S1,e,p.later x1⟩
theorem Zck{K:Fg}(σ:L2.St)(H:Hp)(Q:VK)(h:tE K (Xs fa fb (evC (.bl false))) σ H Q):tAndV (tE K fa) (tE K fb) σ H Q:=by
 obtain⟨ad,ρ,st,d,st',E,S,e,p⟩:=h;obtain⟨k,st1,q,e⟩:=Yv e;refine⟨ad,ρ,st,.bl k,st1,E,S,q,fun v1 ad1 H1 x1 S1 d1=>⟨k,d1.ofBl,?_⟩⟩
 cases k with
 |true=>
  rw[if_pos rfl]at e ⊢;exact⟨ad1,ρ,st1,d,st',E.mono x1,S1,e,p.later x1⟩
 |false=>
  rw[if_neg Bf]at e ⊢;cases e;exact(p.later x1).at S1 (.bl false)
theorem ZeA{K:Fg}(σ:L2.St)(H:Hp)(Q:VK)(h:tE K (Xs fa (evC (.bl true)) fb) σ H Q):tOrV (tE K fa) (tE K fb) σ H Q:=by
 obtain⟨ad,ρ,st,d,st',E,S,e,p⟩:=h;obtain⟨k,st1,q,e⟩:=Yv e;refine⟨ad,ρ,st,.bl k,st1,E,S,q,fun v1 ad1 H1 x1 S1 d1=>⟨k,d1.ofBl,?_⟩⟩
 cases k with
 |true=>
  rw[if_pos rfl]at e ⊢;cases e;exact(p.later x1).at S1 (.bl true)
 |false=>
  rw[if_neg Bf]at e ⊢;exact⟨ad1,ρ,st1,d,st',E.mono x1,S1,e,p.later x1⟩
theorem Zcj{K:Fg}(σ:L2.St)(H:Hp)(Q:Bool->Hp->Prop)(h:tT K (Xs fa fb (evC (.bl false))) σ H Q):tAnd (tT K fa) (tT K fb) σ H Q:=by
 obtain⟨ad,ρ,st,d,st',E,S,e,p⟩:=h;obtain⟨k,st1,q,e⟩:=Yv e;refine⟨ad,ρ,st,k,st1,E,S,q,fun ad1 H1 x1 S1=>?_⟩
 cases k with
 |true=>
  rw[if_pos rfl]at e ⊢;exact⟨ad1,ρ,st1,d,st',E.mono x1,S1,e,fun ad2 H2 x2 S2=>p ad2 H2 (x1.trans x2) S2⟩
 |false=>
  rw[if_neg Bf]at e ⊢;cases e;exact p ad1 H1 x1 S1
theorem Zez{K:Fg}(σ:L2.St)(H:Hp)(Q:Bool->Hp->Prop)(h:tT K (Xs fa (evC (.bl true)) fb) σ H Q):tOr (tT K fa) (tT K fb) σ H Q:=by
 obtain⟨ad,ρ,st,d,st',E,S,e,p⟩:=h;obtain⟨k,st1,q,e⟩:=Yv e;refine⟨ad,ρ,st,k,st1,E,S,q,fun ad1 H1 x1 S1=>?_⟩
 cases k with
 |true=>
  rw[if_pos rfl]at e ⊢;cases e;exact p ad1 H1 x1 S1
 |false=>
  rw[if_neg Bf]at e ⊢;exact⟨ad1,ρ,st1,d,st',E.mono x1,S1,e,fun ad2 H2 x2 S2=>p ad2 H2 (x1.trans x2) S2⟩
theorem Zcw{K:Fg}(σ:L2.St)(H:Hp)(Q:Bool->Hp->Prop)(h:tT K (ZC fa ZbB) σ H Q):tNot (tT K fa) σ H Q:=by
 obtain⟨ad,ρ,st,d,st',E,S,e,p⟩:=h;unfold ZC at e;split at e
 ·rename_i x st1 q1
  cases x with
  |bl k=>
   cases (show some (D.bl (!k),st1)=_ from e)
   exact⟨ad,ρ,st,k,_,E,S,q1,fun ad1 H1 x1 S1=>p ad1 H1 x1 S1⟩
  |_=>simp[ZbB]at e
 ·exact Zb e
theorem Zcx{K:Fg}(σ:L2.St)(H:Hp)(Q:VK)(h:tE K (ZC fa ZbB) σ H Q):tNotV (tE K fa) σ H Q:=by
 obtain⟨ad,ρ,st,d,st',E,S,e,p⟩:=h;unfold ZC at e;split at e
 ·rename_i x st1 q1
  cases x with
  |bl k=>
   cases (show some (D.bl (!k),st1)=_ from e)
   exact⟨ad,ρ,st,.bl k,_,E,S,q1,fun v1 ad1 H1 x1 S1 d1=>⟨k,d1.ofBl,(p.later x1).at S1 (.bl _)⟩⟩
  |_=>simp[ZbB]at e
 ·exact Zb e
theorem Vw{K:Fg}(σ:L2.St)(H:Hp)(Q:Li V->Hp->Prop)(h:tA K (evC (.tup [])) σ H Q):tNil σ H Q:=by
 obtain⟨ad,ρ,st,d,st',E,S,e,p⟩:=h;cases e;exact p [] ad H (Ext.refl _ _) S .nil
theorem Ui{K:Fg}(σ:L2.St)(H:Hp)(Q:Li V->Hp->Prop)(h:tA K (ZQ fa fb Ys) σ H Q):tCons (tE K fa) (tA K fb) σ H Q:=by
 obtain⟨ad,ρ,st,d,st',E,S,e,p⟩:=h;unfold ZQ at e;split at e
 ·rename_i x st1 q1
  split at e
  ·rename_i y st2 q2
   cases y with
   |tup zs=>
    have e:(if zs.length < 1000 then some (D.tup (x :: zs),st2) else none)=some (D.tup d,st'):=e
    split at e
    ·cases e
     refine⟨ad,ρ,st,_,st1,E,S,q1,fun v1 ad1 H1 x1 S1 d1=>⟨ad1,ρ,st1,zs,_,E.mono x1,S1,q2,fun v2 ad2 H2 x2 S2 d2=>?_⟩⟩
     exact p _ ad2 H2 (x1.trans x2) S2 (.cons (d1.mono x2) d2)
    ·cases e
   |_=>simp[Ys]at e
  ·cases e
 ·cases e
theorem ZeG{K:Fg}(hb:∀ ρ st ds st',fa ρ st=some (.tup ds,st')->ds.length<=1000)(ht:∀ ρ st d st',fa ρ st=some (d,st')->∃ ds,d=.tup ds)(σ:L2.St)(H:Hp)(Q:VK)(h:tE K fa σ H Q):tTup (tA K fa) σ H Q:=by
 obtain⟨ad,ρ,st,d,st',E,S,e,p⟩:=h;obtain⟨ds,rfl⟩:=ht _ _ _ _ e;refine⟨ad,ρ,st,ds,st',E,S,e,fun vs ad1 H1 x1 S1 d1=>⟨?_,fun q hq=>?_⟩⟩
 ·rw[d1.length]
  exact Nat.le_trans (hb _ _ _ _ e) (by decide)
 ·exact p _ ad1 _ (x1.trans (Ext.laid hq)) (S1.laid hq) (.tup (.inl upd_same) (d1.mono (Ext.laid hq)))
theorem Zex{K:Fg}(hb:∀ ρ st ds st',fa ρ st=some (.tup ds,st')->ds.length<=1000)(σ:L2.St)(H:Hp)(Q:VK)(h:tE K (ZC fa Zbw) σ H Q):tLst (tA K fa) σ H Q:=by
 obtain⟨ad,ρ,st,d,st',E,S,e,p⟩:=h;unfold ZC at e;split at e
 ·rename_i x st1 q1
  cases x with
  |tup ds=>
   cases (show some (D.lst st1.length,st1++[(true,ds)])=_ from e)
   refine⟨ad,ρ,st,ds,_,E,S,q1,fun vs ad1 H1 x1 S1 d1=>⟨?_,fun q hq=>?_⟩⟩
   ·rw[d1.length]
    exact Nat.le_trans (hb _ _ _ _ q1) (by decide)
   ·refine p _ (ad1++[q]) _ (x1.trans (Ext.push hq)) (S1.push hq d1) (.newL ?_)
    rw[<-S1.len];exact ZE
  |_=>simp[Zbw]at e
 ·exact Zb e
theorem QB{K:Fg}{g:Fn}{ds:Li D}{dvs:Li V}{E:XK}(hd:∀ ad H,Dens K ad H dvs ds)(σ:L2.St)(H:Hp)(Q:VK)(h:tE K (ZC fa (Vm g ds)) σ H Q):tCall (spD K g) dvs E (tA K fa) σ H Q:=by
 obtain⟨ad,ρ,st,d,st',E,S,e,p⟩:=h;unfold ZC at e;split at e
 ·rename_i x st1 q1
  cases x with
  |tup xs=>exact⟨ad,ρ,st,xs,_,E,S,q1,fun vs ad1 H1 x1 S1 d1=>⟨ad1,xs++ds,_,d,st',S1,d1.append (hd _ _),e,p.later x1⟩⟩
  |_=>simp[Vm]at e
 ·exact Zb e
def rC(K:Fg)(g:Li D->Za->Res):Li V->Hp->VK->Prop:=fun vs H Q=>∃ ad st ds d st',StOk K ad H st/\Dens K ad H vs ds/\g ds st=some (d,st')/\Post K ad H d st' Q
noncomputable def on1(g:D->Za->Res):Li D->Za->Res
 |[x],st=>g x st
 |_,_=>none
noncomputable def on2(g:D->D->Za->Res):Li D->Za->Res
 |[x,y],st=>g x y st
 |_,_=>none
theorem Xx{K:Fg}{g:D->Za->Res}(σ:L2.St)(H:Hp)(Q:VK)(h:tE K (ZC fa g) σ H Q):tCB (rC K (on1 g)) (tCons (tE K fa) tNil) σ H Q:=by
 obtain⟨ad,ρ,st,d,st',E,S,e,p⟩:=h;unfold ZC at e;split at e
 ·rename_i x st1 q1
  exact⟨ad,ρ,st,x,st1,E,S,q1,fun v1 ad1 H1 x1 S1 d1=>⟨ad1,st1,[x],d,st',S1,.cons d1 .nil,e,p.later x1⟩⟩
 ·exact Zb e
theorem Qz{K:Fg}{g:D->D->Za->Res}(σ:L2.St)(H:Hp)(Q:VK)(h:tE K (ZQ fa fb g) σ H Q):tCB (rC K (on2 g)) (tCons (tE K fa) (tCons (tE K fb) tNil)) σ H Q:=by
 obtain⟨ad,ρ,st,d,st',E,S,e,p⟩:=h;unfold ZQ at e;split at e
 ·rename_i x st1 q1
  split at e
  ·rename_i y st2 q2
   refine⟨ad,ρ,st,x,st1,E,S,q1,fun v1 ad1 H1 x1 S1 d1=>⟨ad1,ρ,st1,y,st2,E.mono x1,S1,q2,fun v2 ad2 H2 x2 S2 d2=>?_⟩⟩
   exact⟨ad2,st2,[x,y],d,st',S2,.cons (d1.mono x2) (.cons d2 .nil),e,p.later (x1.trans x2)⟩
  ·exact Zb e
 ·exact Zb e
noncomputable def tO(K:Fg)(f:Ev):TO:=fun σ H Q=>∃ ad ρ st d st',EnvOk K ad H σ ρ/\StOk K ad H st/\f ρ st=some (d,st') /\
 ((d=.non/\∀ ad' H',Ext ad H ad' H'->StOk K ad' H' st'->Q none H')\/∃ i,d=.int i/\∀ ad' H',Ext ad H ad' H'->StOk K ad' H' st'->Q (some i) H')
def rSl(K:Fg):V->Ot Int->Ot Int->Hp->VK->Prop:=fun x lo hi H Q=>∃ ad st dx d st',StOk K ad H st/\Den K ad H x dx/\Yx dx lo hi st=some (d,st')/\Post K ad H d st' Q
noncomputable def part:D->Ot (Ot Int)
 |.non=>some none
 |.int i=>some (some i)
 |_=>none
theorem Qc{x l h:D}{st:Za}{r:D×Za}(e:Wa x l h st=some r):∃ lo hi,part l=some lo/\part h=some hi/\Yx x lo hi st=some r:=by
 unfold Wa at e;split at e
 ·exact⟨_,_,rfl,rfl,e⟩
 ·exact⟨_,_,rfl,rfl,e⟩
 ·exact⟨_,_,rfl,rfl,e⟩
 ·exact⟨_,_,rfl,rfl,e⟩
 ·exact Zb e
theorem Zgg{K:Fg}{f:Ev}{σ:L2.St}{H:Hp}{Q:Ot Int->Hp->Prop}{ad:Li Ad}{ρ:Env}{st st':Za}{d:D}{o:Ot Int}(E:EnvOk K ad H σ ρ)(S:StOk K ad H st)(e:f ρ st=some (d,st'))(po:part d=some o)(q:∀ ad' H',Ext ad H ad' H'->StOk K ad' H' st'->Q o H'):tO K f σ H Q:=by
 refine⟨ad,ρ,st,d,st',E,S,e,?_⟩;cases d with
 |non=>cases po;exact .inl ⟨rfl,q⟩
 |int i=>cases po;exact .inr ⟨i,rfl,q⟩
 |_=>exact Zb po
theorem Zbo{K:Fg}(σ:L2.St)(H:Hp)(Q:VK)(h:tE K (VP fa fb fc Wa) σ H Q):tSl (rSl K) (tE K fa) (tO K fb) (tO K fc) σ H Q:=by
 obtain⟨ad,ρ,st,d,st',E,S,e,p⟩:=h;unfold VP at e;split at e
 ·rename_i x st1 q1
  split at e
  ·rename_i y st2 q2
   split at e
   ·rename_i z st3 q3
    obtain⟨lo,hi,pl,ph,e⟩:=Qc e;refine⟨ad,ρ,st,x,st1,E,S,q1,fun v1 ad1 H1 x1 S1 d1=>Zgg (E.mono x1) S1 q2 pl fun ad2 H2 x2 S2=>Zgg (E.mono (x1.trans x2)) S2 q3 ph fun ad3 H3 x3 S3=>?_⟩
    exact⟨ad3,st3,x,d,st',S3,d1.mono (x2.trans x3),e,p.later (x1.trans (x2.trans x3))⟩
   ·exact Zb e
  ·exact Zb e
 ·exact Zb e
theorem Zey{K:Fg}(σ:L2.St)(H:Hp)(Q:Ot Int->Hp->Prop)(h:tO K (evC .non) σ H Q):tNoPart σ H Q:=by
 obtain⟨ad,ρ,st,d,st',E,S,e,p⟩:=h;cases e;rcases p with⟨_,p⟩|⟨i,z,_⟩
 ·exact p ad H (Ext.refl _ _) S
 ·cases z
end
end Dp



namespace Dp
open PySem PySem.Spec PyProof.Rows L2
variable [ClsTab]
def PostS(K:Fg)(ad:Li Ad)(H:Hp)(r:Fl)(st':Za)(D:Ends):Prop:=match r with
 |.nx ρ'=>∀ σ' ad' H',Ext ad H ad' H'->StOk K ad' H' st'->EnvOk K ad' H' σ' ρ'->D.nx σ' H'
 |.bk ρ'=>∀ σ' ad' H',Ext ad H ad' H'->StOk K ad' H' st'->EnvOk K ad' H' σ' ρ'->D.bk σ' H'
 |.ct ρ'=>∀ σ' ad' H',Ext ad H ad' H'->StOk K ad' H' st'->EnvOk K ad' H' σ' ρ'->D.ct σ' H'
 |.rt d=>Post K ad H d st' D.rt
theorem PostS.later{K:Fg}{ad ad':Li Ad}{H H':Hp}{r:Fl}{st:Za}{D:Ends}(x:Ext ad H ad' H')(p:PostS K ad H r st D):PostS K ad' H' r st D:=by
 cases r with
 |nx ρ=>exact fun σ2 a2 H2 y S E=>p σ2 a2 H2 (x.trans y) S E
 |bk ρ=>exact fun σ2 a2 H2 y S E=>p σ2 a2 H2 (x.trans y) S E
 |ct ρ=>exact fun σ2 a2 H2 y S E=>p σ2 a2 H2 (x.trans y) S E
 |rt d=>exact Post.later p x
theorem Yt{K:Fg}{f:Ex}{D:Ends}{σ:L2.St}{H:Hp}{ad:Li Ad}{ρ:Env}{st st':Za}{r:Fl}(E:EnvOk K ad H σ ρ)(S:StOk K ad H st)(e:f ρ st=some (r,st'))(p:PostS K ad H r st' D):tS K f D σ H:=by
 refine⟨ad,ρ,st,r,st',E,S,e,?_⟩;cases r<;>exact p
theorem Yc{K:Fg}{f:Ex}{D:Ends}{σ:L2.St}{H:Hp}(h:tS K f D σ H):∃ ad ρ st r st',EnvOk K ad H σ ρ/\StOk K ad H st/\f ρ st=some (r,st')/\PostS K ad H r st' D:=by
 obtain⟨ad,ρ,st,r,st',E,S,e,p⟩:=h;refine⟨ad,ρ,st,r,st',E,S,e,?_⟩;cases r<;>exact p
section
variable {K:Fg}{f g:Ex}{fe fi fk:Ev}
theorem QC(D:Ends)(σ:L2.St)(H:Hp)(h:tS K (fun ρ st=>some (.nx ρ,st)) D σ H):tNext D σ H:=by
 obtain⟨ad,ρ,st,r,st',E,S,e,p⟩:=Yc h;cases e;exact p σ ad H (Ext.refl _ _) S E
theorem Zet(D:Ends)(σ:L2.St)(H:Hp)(h:tS K (fun ρ st=>some (.bk ρ,st)) D σ H):tBreak D σ H:=by
 obtain⟨ad,ρ,st,r,st',E,S,e,p⟩:=Yc h;cases e;exact p σ ad H (Ext.refl _ _) S E
theorem Zcm(D:Ends)(σ:L2.St)(H:Hp)(h:tS K (fun ρ st=>some (.ct ρ,st)) D σ H):tCont D σ H:=by
 obtain⟨ad,ρ,st,r,st',E,S,e,p⟩:=Yc h;cases e;exact p σ ad H (Ext.refl _ _) S E
theorem ZeF(D:Ends)(σ:L2.St)(H:Hp)(h:tS K (Xm f g) D σ H):tSeq (tS K f) (tS K g) D σ H:=by
 obtain⟨ad,ρ,st,r,st',E,S,e,p⟩:=Yc h;unfold Xm at e;split at e
 ·rename_i ρ1 st1 q
  exact Yt E S q fun σ1 ad1 H1 x1 S1 E1=>Yt E1 S1 e (p.later x1)
 ·rename_i q
  refine Yt E S e ?_;cases r with
  |nx ρ1=>exact absurd e (q ρ1 st')
  |bk ρ1=>exact p
  |ct ρ1=>exact p
  |rt d=>exact p
theorem ZeC(D:Ends)(σ:L2.St)(H:Hp)(h:tS K (Zds fe) D σ H):tRet (tE K fe) D σ H:=by
 obtain⟨ad,ρ,st,r,st',E,S,e,p⟩:=Yc h;unfold Zds at e;split at e
 ·rename_i d st1 q
  cases e;exact⟨ad,ρ,st,d,_,E,S,q,p⟩
 ·exact Zb e
theorem UO{i:Nat}(D:Ends)(σ:L2.St)(H:Hp)(h:tS K (Xn i fe) D σ H):tAsg (tE K fe) (gName i) D σ H:=by
 obtain⟨ad,ρ,st,r,st',E,S,e,p⟩:=Yc h;unfold Xn at e;split at e
 ·rename_i d st1 q
  cases e;exact⟨ad,ρ,st,d,_,E,S,q,fun v ad1 H1 x1 S1 d1=>p _ ad1 H1 x1 S1 ((E.mono x1).set i d1)⟩
 ·exact Zb e
theorem Zcy{i j:Nat}(D:Ends)(σ:L2.St)(H:Hp)(h:tS K (QY i j fe) D σ H):tAsg (tE K fe) (gTup K 2 (gCons (gName i) (gCons (gName j) gNil))) D σ H:=by
 obtain⟨ad,ρ,st,r,st',E,S,e,p⟩:=Yc h;unfold QY at e;split at e
 ·rename_i x y st1 q
  cases e;refine⟨ad,ρ,st,_,_,E,S,q,fun v ad1 H1 x1 S1 d1=>?_⟩
  obtain⟨a,vs,rfl,ha,rv⟩:=d1.ofTup;cases rv with
  |cons d1 rv=>
   cases rv with
   |cons d2 rv=>
    cases rv;exact⟨a,_,rfl,(ha).sq,rfl,_,_,rfl,_,_,rfl,rfl,p _ ad1 H1 x1 S1 (((E.mono x1).set i d1).set j d2)⟩
 ·exact Zb e
theorem Zcz{i j l:Nat}(D:Ends)(σ:L2.St)(H:Hp)(h:tS K (QZ i j l fe) D σ H):tAsg (tE K fe) (gTup K 3 (gCons (gName i) (gCons (gName j) (gCons (gName l) gNil)))) D σ H:=by
 obtain⟨ad,ρ,st,r,st',E,S,e,p⟩:=Yc h;unfold QZ at e;split at e
 ·rename_i x y z st1 q
  cases e;refine⟨ad,ρ,st,_,_,E,S,q,fun v ad1 H1 x1 S1 d1=>?_⟩
  obtain⟨a,vs,rfl,ha,rv⟩:=d1.ofTup;cases rv with
  |cons d1 rv=>
   cases rv with
   |cons d2 rv=>
    cases rv with
    |cons d3 rv=>
     cases rv;exact⟨a,_,rfl,(ha).sq,rfl,_,_,rfl,_,_,rfl,_,_,rfl,rfl,p _ ad1 H1 x1 S1 ((((E.mono x1).set i d1).set j d2).set l d3)⟩
 ·exact Zb e
theorem Zer(D:Ends)(σ:L2.St)(H:Hp)(h:tS K (ZbP fe) D σ H):tDrop (tE K fe) D σ H:=by
 obtain⟨ad,ρ,st,r,st',E,S,e,p⟩:=Yc h;unfold ZbP at e;split at e
 ·rename_i d st1 q
  cases e;exact⟨ad,ρ,st,d,_,E,S,q,fun v ad1 H1 x1 S1 d1=>p _ ad1 H1 x1 S1 (E.mono x1)⟩
 ·exact Zb e
theorem Zew(D:Ends)(σ:L2.St)(H:Hp)(h:tS K (QG fe f g) D σ H):tIfS (tT K fe) (tS K f) (tS K g) D σ H:=by
 obtain⟨ad,ρ,st,r,st',E,S,e,p⟩:=Yc h;unfold QG at e;split at e
 ·rename_i st1 q
  refine⟨ad,ρ,st,true,st1,E,S,q,fun ad1 H1 x1 S1=>?_⟩
  dsimp only;rw[if_pos rfl];exact Yt (E.mono x1) S1 e (p.later x1)
 ·rename_i st1 q
  refine⟨ad,ρ,st,false,st1,E,S,q,fun ad1 H1 x1 S1=>?_⟩
  dsimp only;rw[if_neg Bf];exact Yt (E.mono x1) S1 e (p.later x1)
 ·exact Zb e
theorem Wc{ad:Li Ad}{H:Hp}{st:Za}{i:Nat}{a:Ad}(S:StOk K ad H st)(h:LA ad H i a):∃ b ds,st[i]?=some (b,ds):=by
 have hi:i < st.length:=by rw[<-S.len];exact(List.getElem?_eq_some_iff.mp h.1).1
 exact⟨st[i].1,st[i].2,by rw[Lg hi]⟩
theorem W1{ad:Li Ad}{H:Hp}{st st2:Za}{i:Nat}{a:Ad}{v:V}{d:D}(S:StOk K ad H st)(h:LA ad H i a)(hd:Den K ad H v d)(e:X3 i d st=some st2) :
  ∃ xs,H a=some (.lst xs)/\xs.length < sizeLine/\Ext ad H ad (upd H a (.lst (xs++[v])))/\StOk K ad (upd H a (.lst (xs++[v]))) st2:=by
 unfold X3 at e;split at e
 ·rename_i ds q
  split at e
  ·rename_i hz
   cases e;obtain⟨xs,r,hx⟩:=S.listM h q;refine⟨xs,hx,?_,Ext.write hx (List.mem_of_getElem? h.1),S.write h q hx (r.append (.cons hd .nil))⟩;rw[r.length];exact Nat.lt_of_lt_of_le hz (by decide)
  ·exact Zb e
 ·exact Zb e
theorem Zes{i:Nat}(D:Ends)(σ:L2.St)(H:Hp)(h:tS K (Jg i fe) D σ H):tDrop (tBM K "list" rAppend (tVar i) (tCons (tE K fe) tNil)) D σ H:=by
 obtain⟨ad,ρ,st,r,st',E,S,e,p⟩:=Yc h;unfold Jg at e;split at e
 ·rename_i a q0
  split at e
  ·rename_i d st1 q1
   split at e
   ·rename_i st2 q2
    cases e;obtain⟨v,e1,e2⟩:=E.at_ i _ q0;obtain⟨l,rfl,hl⟩:=e2.ofLst;obtain⟨b,ds,hc⟩:=Wc S hl;obtain⟨xs,_,sq⟩:=S.list hl hc;refine⟨_,e1,.inl ⟨rfl,xs,sq⟩,ad,ρ,st,d,st1,E,S,q1,fun w ad1 H1 x1 S1 d1=>?_⟩
    obtain⟨ys,hy,hz,x2,S2⟩:=W1 S1 (hl.mono x1) d1 q2;exact⟨l,ys,w,rfl,rfl,hy,hz,p _ ad1 _ (x1.trans x2) S2 (E.mono (x1.trans x2))⟩
   ·exact Zb e
  ·exact Zb e
 ·exact Zb e
theorem Zcl{fo:Ev}(D:Ends)(σ:L2.St)(H:Hp)(h:tS K (Qh fo fe) D σ H):tDrop (tBM K "list" rAppend (tE K fo) (tCons (tE K fe) tNil)) D σ H:=by
 obtain⟨ad,ρ,st,r,st',E,S,e,p⟩:=Yc h;unfold Qh at e;split at e
 ·rename_i a st0 q0
  split at e
  ·rename_i d st1 q1
   split at e
   ·rename_i st2 q2
    cases e;refine⟨ad,ρ,st,.lst a,st0,E,S,q0,fun v ad0 H0 x0 S0 d0=>?_⟩
    obtain⟨l,rfl,hl⟩:=d0.ofLst;obtain⟨b,ds,hc⟩:=Wc S0 hl;obtain⟨xs,_,sq⟩:=S0.list hl hc;refine⟨.inl ⟨rfl,xs,sq⟩,ad0,ρ,st0,d,st1,E.mono x0,S0,q1,fun w ad1 H1 x1 S1 d1=>?_⟩
    obtain⟨ys,hy,hz,x2,S2⟩:=W1 S1 (hl.mono x1) d1 q2;exact⟨l,ys,w,rfl,rfl,hy,hz,p _ ad1 _ ((x0.trans x1).trans x2) S2 (E.mono ((x0.trans x1).trans x2))⟩
   ·exact Zb e
  ·exact Zb e
 ·exact Zb e
theorem Zeu{i:Nat}(D:Ends)(σ:L2.St)(H:Hp)(h:tS K (Zcd i fe) D σ H):tDrop (tBM K "list" rExtend (tVar i) (tCons (tE K fe) tNil)) D σ H:=by
 obtain⟨ad,ρ,st,r,st',E,S,e,p⟩:=Yc h;unfold Zcd at e;split at e
 ·rename_i a q0
  split at e
  ·rename_i b st1 q1
   split at e
   ·rename_i st2 q2
    cases e;obtain⟨v,e1,e2⟩:=E.at_ i _ q0;obtain⟨l,rfl,hl⟩:=e2.ofLst;obtain⟨bb,ds,hc⟩:=Wc S hl;obtain⟨xs,_,sq⟩:=S.list hl hc;refine⟨_,e1,.inl ⟨rfl,xs,sq⟩,ad,ρ,st,.lst b,st1,E,S,q1,fun w ad1 H1 x1 S1 d1=>?_⟩
    obtain⟨m,rfl,hm⟩:=d1.ofLst;unfold ZgL at q2;split at q2
    ·rename_i cs es f1 f2
     split at q2
     ·rename_i hz
      cases q2;have hl1:=hl.mono x1;obtain⟨ys,ry,hy⟩:=S1.listM hl1 f1;obtain⟨zs,rz,hzz⟩:=S1.listM hm f2;have x2:=Ext.write (ys:=ys++zs) hy (List.mem_of_getElem? hl1.1);refine⟨l,m,ys,zs,rfl,rfl,hy,hzz,?_,p _ ad1 _ (x1.trans x2) (S1.write hl1 f1 hy (ry.append rz)) (E.mono (x1.trans x2))⟩;rw[ry.length,rz.length];exact Nat.le_trans hz (by decide)
     ·exact Zb q2
    ·exact Zb q2
   ·exact Zb e
  ·exact Zb e
 ·exact Zb e
theorem ZeB{i:Nat}(D:Ends)(σ:L2.St)(H:Hp)(h:tS K (Zdn i fk fe) D σ H):tAsg (tE K fe) (gSub (tVar i) (tE K fk) rSetL) D σ H:=by
 obtain⟨ad,ρ,st,r,st',E,S,e,p⟩:=Yc h;unfold Zdn at e;split at e
 ·rename_i d st1 q1
  split at e
  ·rename_i a q0
   split at e
   ·rename_i j st2 q2
    split at e
    ·rename_i st3 q3
     cases e;obtain⟨v,e1,e2⟩:=E.at_ i _ q0;obtain⟨l,rfl,hl⟩:=e2.ofLst;refine⟨ad,ρ,st,d,st1,E,S,q1,fun w ad1 H1 x1 S1 d1=>⟨_,e1,ad1,ρ,st1,.int j,st2,E.mono x1,S1,q2,fun w2 ad2 H2 x2 S2 d2=>?_⟩⟩
     cases d2.ofInt;unfold Qe at q3;split at q3
     ·rename_i ds q4
      split at q3
      ·rename_i k q5
       cases q3;have hl2:=hl.mono (x1.trans x2);obtain⟨xs,r,hx⟩:=S2.listM hl2 q4;have x3:Ext ad2 H2 ad2 (upd H2 l (.lst (xs.set k w))):=Ext.write hx (List.mem_of_getElem? hl2.1);refine⟨l,xs,j,k,rfl,rfl,hx,?_,p _ ad2 _ (x1.trans (x2.trans x3)) (S2.write hl2 q4 hx (r.set (d1.mono x2) k)) (E.mono (x1.trans (x2.trans x3)))⟩;rw[r.length];exact q5
      ·exact Zb q3
     ·exact Zb q3
    ·exact Zb e
   ·exact Zb e
  ·exact Zb e
 ·exact Zb e
theorem Zco(σ:L2.St)(H:Hp)(Q:VK)(h:tE K Zf0 σ H Q):ZdI K σ H Q:=by
 obtain⟨ad,ρ,st,d,st',E,S,e,p⟩:=h;cases e;intro q hq hk;exact p _ (ad++[q]) _ (S.extD hq hk) (S.pushD hq hk) (.dic (by rw[<-S.len];exact ZE) ⟨_,upd_same⟩)
def Left(K:Fg)(b:D->Env->Za->Ot (Fl×Za))(E:Ends)(xs:Li D)(σ:L2.St)(H:Hp):Prop:=∃ ad ρ st r st',EnvOk K ad H σ ρ/\StOk K ad H st/\ZZ b xs ρ st=some (r,st')/\PostS K ad H r st' E
theorem Left.turn{i:Nat}{b:Ex}{E:Ends}{x:D}{xs:Li D}{σ:L2.St}{H:Hp}{v:V}(hv:∀ ad H,Den K ad H v x)(h:Left K (fun d ρ s=>b (Zr ρ i d) s) E (x :: xs) σ H) :
  tS K b { E with nx:=Left K (fun d ρ s=>b (Zr ρ i d) s) E xs,ct:=Left K (fun d ρ s=>b (Zr ρ i d) s) E xs,bk:=E.nx } (σ.set i (some v)) H:=by
 obtain⟨ad,ρ,st,r,st',En,S,e,p⟩:=h;unfold ZZ at e;have En2:=En.set i (hv ad H);split at e
 ·rename_i ρ1 st1 q
  exact Yt En2 S q fun σ1 ad1 H1 x1 S1 E1=>⟨ad1,ρ1,st1,r,st',E1,S1,e,p.later x1⟩
 ·rename_i ρ1 st1 q
  exact Yt En2 S q fun σ1 ad1 H1 x1 S1 E1=>⟨ad1,ρ1,st1,r,st',E1,S1,e,p.later x1⟩
 ·rename_i ρ1 st1 q
  cases e;exact Yt En2 S q fun σ1 ad1 H1 x1 S1 E1=>p σ1 ad1 H1 x1 S1 E1
 ·rename_i d st1 q
  cases e;exact Yt En2 S q p
 ·exact Zb e
theorem Left.turnD{i:Nat}{b:Ex}{E:Ends}{x:D}{xs:Li D}{σ:L2.St}{H:Hp}{ad:Li Ad}{ρ:Env}{st st':Za}{r:Fl}{v:V}(En:EnvOk K ad H σ ρ)(S:StOk K ad H st)(hv:Den K ad H v x)(e:ZZ (fun d ρ s=>b (Zr ρ i d) s) (x :: xs) ρ st=some (r,st'))(p:PostS K ad H r st' E)(L:L2.St->Hp->Prop)(hL:∀ σ1 ad1 H1 ρ1 st1,Ext ad H ad1 H1->StOk K ad1 H1 st1->EnvOk K ad1 H1 σ1 ρ1->ZZ (fun d ρ s=>b (Zr ρ i d) s) xs ρ1 st1=some (r,st')->L σ1 H1) :
  tS K b { E with nx:=L,ct:=L,bk:=E.nx } (σ.set i (some v)) H:=by
 unfold ZZ at e;have En2:=En.set i hv;split at e
 ·rename_i ρ1 st1 q
  exact Yt En2 S q fun σ1 ad1 H1 x1 S1 E1=>hL σ1 ad1 H1 ρ1 st1 x1 S1 E1 e
 ·rename_i ρ1 st1 q
  exact Yt En2 S q fun σ1 ad1 H1 x1 S1 E1=>hL σ1 ad1 H1 ρ1 st1 x1 S1 E1 e
 ·rename_i ρ1 st1 q
  cases e;exact Yt En2 S q fun σ1 ad1 H1 x1 S1 E1=>p σ1 ad1 H1 x1 S1 E1
 ·rename_i d st1 q
  cases e;exact Yt En2 S q p
 ·exact Zb e
theorem Left.done{b:D->Env->Za->Ot (Fl×Za)}{E:Ends}{σ:L2.St}{H:Hp}(h:Left K b E [] σ H):E.nx σ H:=by
 obtain⟨ad,ρ,st,r,st',En,S,e,p⟩:=h;cases e;exact p σ ad H (Ext.refl _ _) S En
theorem JN(n k:Nat)(h:k < n):((List.range n).map fun(j:Nat)=>D.int (j:Int)).drop k=D.int (k:Int) :: ((List.range n).map fun(j:Nat)=>D.int (j:Int)).drop (k+1):=by
 rw[List.drop_eq_getElem_cons (by simpa using h)]
 simp
theorem Zct{i:Nat}(E:Ends)(σ:L2.St)(H:Hp)(h:tS K (Qw i true fi f) E σ H):tFor (iRng1 (tCons (tE K fi) tNil)) (gName i) (tS K f) E σ H:=by
 obtain⟨ad,ρ,st,r,st',En,S,e,p⟩:=Yc h;unfold Qw at e;split at e
 ·rename_i x st1 q1
  cases x with
  |int n=>
   have e:(match (if n < 2 ^ 62/\-(2 ^ 62)<=n then some ((List.range n.toNat).map fun(k:Nat)=>D.int (k:Int)) else none) with
    |some xs=>ZZ (fun d ρ s=>f (Zr ρ i d) s) xs ρ st1
    |none=>none)=some (r,st'):=e
   by_cases hn:n < 2 ^ 62/\-(2 ^ 62)<=n
   ·rw[if_pos hn]at e
    refine⟨ad,ρ,st,.int n,st1,En,S,q1,fun v ad1 H1 x1 S1 d1=>⟨n,by rw[d1.ofInt],hn.2,hn.1,?_⟩⟩
    refine for_range (fun k σ' H'=>Left K (fun d ρ s=>f (Zr ρ i d) s) E (((List.range n.toNat).map fun(k:Nat)=>D.int (k:Int)).drop k) σ' H') ⟨ad1,ρ,st1,r,st',En.mono x1,S1,e,p.later x1⟩ (fun k σ' H' hk L=>?_) fun σ' H' L=>?_
    ·rw[JN _ _ hk]at L
     have z:(0:Int)+(k:Int)=(k:Int):=Int.zero_add _;rw[z];exact L.turn fun _ _=>.int _
    ·rw[List.drop_eq_nil_of_le (by simp)]at L
     exact L.done
   ·rw[if_neg hn]at e
    cases e
  |_=>simp[XA]at e
 ·exact Zb e
def ZfR(K:Fg)(b:D->Env->Za->Ot (Fl×Za))(E:Ends)(a:Ad)(vs:Li V)(xs:Li D)(k:Nat)(σ:L2.St)(H:Hp):Prop:=
 ∃ ad ρ st r st',EnvOk K ad H σ ρ/\StOk K ad H st/\(TupAt K H a vs/\Dens K ad H vs xs)/\ZZ b (xs.drop k) ρ st=some (r,st')/\PostS K ad H r st' E
theorem Zcu{i:Nat}(E:Ends)(σ:L2.St)(H:Hp){ad:Li Ad}{ρ:Env}{st st1 st':Za}{r:Fl}{xs:Li D}(En:EnvOk K ad H σ ρ)(S:StOk K ad H st)(q1:fi ρ st=some (.tup xs,st1))(e:ZZ (fun d ρ s=>f (Zr ρ i d) s) xs ρ st1=some (r,st'))(p:PostS K ad H r st' E):tFor (iTup K (tE K fi)) (gName i) (tS K f) E σ H:=by
 refine⟨ad,ρ,st,.tup xs,st1,En,S,q1,fun v ad1 H1 x1 S1 d1=>?_⟩
 obtain⟨a,vs,rfl,ha,rv⟩:=d1.ofTup;refine⟨a,rfl,⟨vs,(ha).sq⟩,?_⟩;refine for_tup (xs:=vs) (fun k σ' H'=>ZfR K (fun d ρ s=>f (Zr ρ i d) s) E a vs xs k σ' H') ⟨ad1,ρ,st1,r,st',En.mono x1,S1,⟨ha,rv⟩,by rw[List.drop_zero];exact e,p.later x1⟩ (fun k σ' H' _ L=>?_) (fun k y σ' H' hk L=>?_) fun σ' H' L=>?_
 ·obtain⟨_,_,_,_,_,_,_,⟨h,_⟩,_⟩:=L
  exact(h).sq
 ·obtain⟨ad2,ρ2,st2,r2,st2',En2,S2,⟨h2,rv2⟩,e2,p2⟩:=L
  have hk':k < xs.length:=by rw[<-rv2.length];exact(List.getElem?_eq_some_iff.mp hk).1
  have hx:xs[k]?=some xs[k]:=Lg hk';obtain⟨w,ew,dw⟩:=rv2.get hx;rw[hk]at ew;cases ew
  rw[List.drop_eq_getElem_cons hk']at e2;exact Left.turnD En2 S2 dw e2 p2 _ fun σ3 ad3 H3 ρ3 st3 x3 S3 E3 e3=>⟨ad3,ρ3,st3,r2,st2',E3,S3,⟨h2.mono x3,rv2.mono x3⟩,e3,p2.later x3⟩
 ·obtain⟨ad2,ρ2,st2,r2,st2',En2,S2,⟨h2,rv2⟩,e2,p2⟩:=L
  rw[rv2.length,List.drop_length]at e2;exact Left.done ⟨ad2,ρ2,st2,r2,st2',En2,S2,e2,p2⟩
theorem Zcr{G:TG}{B:D->Env->Za->Ot (Fl×Za)}(E:Ends)(σ:L2.St)(H:Hp){ad:Li Ad}{ρ:Env}{st st1 st':Za}{r:Fl}{l:Nat}{bb:Bool}{xs:Li D}(En:EnvOk K ad H σ ρ)(S:StOk K ad H st)(q1:fi ρ st=some (.lst l,st1))(q2:st1[l]?=some (bb,xs))(e:ZW B l xs.length 0 ρ st1=some (r,st'))(p:PostS K ad H r st' E)(hG:∀ (x:D) (v:V) (σ:L2.St) (H:Hp) (ad:Li Ad) (ρ:Env) (st st1:Za) (r1:Fl) (E':Ends),EnvOk K ad H σ ρ->StOk K ad H st->Den K ad H v x->B x ρ st=some (r1,st1)->PostS K ad H r1 st1 E'->G v σ H fun σ2 H2=>tS K f E' σ2 H2) :
  tFor (iList K (tE K fi)) G (tS K f) E σ H:=by
 refine⟨ad,ρ,st,.lst l,st1,En,S,q1,fun v ad1 H1 x1 S1 d1=>?_⟩
 obtain⟨a,rfl,ha⟩:=d1.ofLst;obtain⟨vs,rv,sq⟩:=S1.list ha q2;refine⟨a,rfl,⟨vs,sq⟩,?_⟩;refine⟨fun k m σ' H'=>∃ ad2 ρ2 st2,(EnvOk K ad2 H' σ' ρ2/\StOk K ad2 H' st2/\LA ad2 H' l a)/\ZW B l m k ρ2 st2=some (r,st')/\PostS K ad2 H' r st' E,⟨xs.length,ad1,ρ,st1,⟨En.mono x1,S1,ha⟩,e,p.later x1⟩,?_⟩
 rintro k m σ' H' ⟨ad2,ρ2,st2,⟨En2,S2,ha2⟩,e2,p2⟩
 obtain⟨b2,ys,hc⟩:=Wc S2 ha2;obtain⟨ws,rw',sq2⟩:=S2.list ha2 hc;have stop:ys.length<=k->ZW B l m k ρ2 st2=some (.nx ρ2,st2):=fun hk=>by
  cases m with
  |zero=>unfold ZW;simp only[hc];rw[if_pos hk]
  |succ m=>unfold ZW;simp only[hc,List.getElem?_eq_none hk]
 by_cases hk:ys.length<=k
 ·refine .inl ⟨⟨ws,sq2,by rw[rw'.length];exact hk⟩,?_⟩
  rw[stop hk]at e2;cases e2;exact p2 σ' ad2 H' (Ext.refl _ _) S2 En2
 ·have hk':k < ys.length:=by omega
  have hy:ys[k]?=some ys[k]:=Lg hk';obtain⟨w,ew,dw⟩:=rw'.get hy;cases m with
  |zero=>
   unfold ZW at e2;simp only[hc]at e2;rw[if_neg hk]at e2;cases e2
  |succ m=>
   unfold ZW at e2;simp only[hc,hy]at e2;refine .inr ⟨⟨ws,w,sq2,ew⟩,fun σ3 H3=>∃ ad3 ρ3 st3,(EnvOk K ad3 H3 σ3 ρ3/\StOk K ad3 H3 st3/\LA ad3 H3 l a)/\ZW B l m (k+1) ρ3 st3=some (r,st')/\PostS K ad3 H3 r st' E,fun σ3 H3 h3=>⟨m,Nat.lt_succ_self m,h3⟩,fun x H3 hx=>?_⟩
   obtain⟨rfl,hx⟩:=hx;have ex:=hx ws sq2;rw[ew]at ex;cases ex
   split at e2
   ·rename_i ρ3 st3 q
    exact hG _ _ _ _ ad2 ρ2 st2 _ _ _ En2 S2 dw q fun σ4 ad4 H4 x4 S4 E4=>⟨ad4,ρ3,st3,⟨E4,S4,ha2.mono x4⟩,e2,p2.later x4⟩
   ·rename_i ρ3 st3 q
    exact hG _ _ _ _ ad2 ρ2 st2 _ _ _ En2 S2 dw q fun σ4 ad4 H4 x4 S4 E4=>⟨ad4,ρ3,st3,⟨E4,S4,ha2.mono x4⟩,e2,p2.later x4⟩
   ·rename_i ρ3 st3 q
    cases e2;exact hG _ _ _ _ ad2 ρ2 st2 _ _ _ En2 S2 dw q fun σ4 ad4 H4 x4 S4 E4=>p2 σ4 ad4 H4 x4 S4 E4
   ·rename_i d st3 q
    cases e2;exact hG _ _ _ _ ad2 ρ2 st2 _ _ _ En2 S2 dw q p2
   ·exact Zb e2
theorem Zcs{i:Nat}(E:Ends)(σ:L2.St)(H:Hp)(h:tS K (Qw i false fi f) E σ H):tFor (iTup K (tE K fi)) (gName i) (tS K f) E σ H\/tFor (iList K (tE K fi)) (gName i) (tS K f) E σ H:=by
 obtain⟨ad,ρ,st,r,st',En,S,e,p⟩:=Yc h;unfold Qw at e;split at e
 ·rename_i x st1 q1
  cases x with
  |tup xs=>exact .inl (Zcu E σ H En S q1 e p)
  |lst l=>
   have e:(match st1[l]? with
    |some (_,xs)=>ZW (fun d ρ s=>f (Zr ρ i d) s) l xs.length 0 ρ st1
    |none=>none)=some (r,st'):=e
   split at e
   ·rename_i bb xs q2
    refine .inr (Zcr E σ H En S q1 q2 e p fun x v σ H ad ρ st st1 r1 E' En S dv e1 p1=>?_)
    exact Yt (En.set i dv) S e1 p1
   ·exact Zb e
  |_=>simp[XA]at e
 ·exact Zb e
theorem Zbn{G:TG}{B:D->Env->Za->Ot (Fl×Za)}(E:Ends)(σ:L2.St)(H:Hp){ad:Li Ad}{ρ:Env}{st st1 st':Za}{r:Fl}{xs:Li D}(En:EnvOk K ad H σ ρ)(S:StOk K ad H st)(q1:fi ρ st=some (.tup xs,st1))(e:ZZ B xs ρ st1=some (r,st'))(p:PostS K ad H r st' E)(hG:∀ (x:D) (v:V) (σ:L2.St) (H:Hp) (ad:Li Ad) (ρ:Env) (st st1:Za) (r1:Fl) (E':Ends),EnvOk K ad H σ ρ->StOk K ad H st->Den K ad H v x->B x ρ st=some (r1,st1)->PostS K ad H r1 st1 E'->G v σ H fun σ2 H2=>tS K f E' σ2 H2) :
  tFor (iTup K (tE K fi)) G (tS K f) E σ H:=by
 refine⟨ad,ρ,st,.tup xs,st1,En,S,q1,fun v ad1 H1 x1 S1 d1=>?_⟩
 obtain⟨a,vs,rfl,ha,rv⟩:=d1.ofTup;refine⟨a,rfl,⟨vs,(ha).sq⟩,?_⟩;refine for_tup (xs:=vs) (fun k σ' H'=>ZfR K B E a vs xs k σ' H') ⟨ad1,ρ,st1,r,st',En.mono x1,S1,⟨ha,rv⟩,by rw[List.drop_zero];exact e,p.later x1⟩ (fun k σ' H' _ L=>?_) (fun k y σ' H' hk L=>?_) fun σ' H' L=>?_
 ·obtain⟨_,_,_,_,_,_,_,⟨h,_⟩,_⟩:=L
  exact(h).sq
 ·obtain⟨ad2,ρ2,st2,r2,st2',En2,S2,⟨h2,rv2⟩,e2,p2⟩:=L
  have hk':k < xs.length:=by rw[<-rv2.length];exact(List.getElem?_eq_some_iff.mp hk).1
  have hx:xs[k]?=some xs[k]:=Lg hk';obtain⟨w,ew,dw⟩:=rv2.get hx;rw[hk]at ew;cases ew
  rw[List.drop_eq_getElem_cons hk']at e2;unfold ZZ at e2;split at e2
  ·rename_i ρ3 st3 q
   exact hG _ _ _ _ ad2 ρ2 st2 _ _ _ En2 S2 dw q fun σ4 ad4 H4 x4 S4 E4=>⟨ad4,ρ3,st3,r2,st2',E4,S4,⟨h2.mono x4,rv2.mono x4⟩,e2,p2.later x4⟩
  ·rename_i ρ3 st3 q
   exact hG _ _ _ _ ad2 ρ2 st2 _ _ _ En2 S2 dw q fun σ4 ad4 H4 x4 S4 E4=>⟨ad4,ρ3,st3,r2,st2',E4,S4,⟨h2.mono x4,rv2.mono x4⟩,e2,p2.later x4⟩
  ·rename_i ρ3 st3 q
   cases e2;exact hG _ _ _ _ ad2 ρ2 st2 _ _ _ En2 S2 dw q fun σ4 ad4 H4 x4 S4 E4=>p2 σ4 ad4 H4 x4 S4 E4
  ·rename_i d st3 q
   cases e2;exact hG _ _ _ _ ad2 ρ2 st2 _ _ _ En2 S2 dw q p2
  ·exact Zb e2
 ·obtain⟨ad2,ρ2,st2,r2,st2',En2,S2,⟨h2,rv2⟩,e2,p2⟩:=L
  rw[rv2.length,List.drop_length]at e2;exact Left.done ⟨ad2,ρ2,st2,r2,st2',En2,S2,e2,p2⟩
theorem Zcp{i j l:Nat}(E:Ends)(σ:L2.St)(H:Hp)(h:tS K (Vv i j l fi f) E σ H):tFor (iTup K (tE K fi)) (gTup K 3 (gCons (gName i) (gCons (gName j) (gCons (gName l) gNil)))) (tS K f) E σ H:=by
 obtain⟨ad,ρ,st,r,st',En,S,e,p⟩:=Yc h;unfold Vv at e;split at e
 ·rename_i xs st1 q1
  refine Zbn E σ H En S q1 e p fun x v σ H ad ρ st st1 r1 E' En S dv e1 p1=>?_
  unfold Q5 at e1;split at e1
  ·rename_i y z u
   obtain⟨a,vs,rfl,ha,rv⟩:=dv.ofTup;cases rv with
   |cons d1 rv=>
    cases rv with
    |cons d2 rv=>
     cases rv with
     |cons d3 rv=>
      cases rv;exact⟨a,_,rfl,(ha).sq,rfl,_,_,rfl,_,_,rfl,_,_,rfl,rfl,Yt (((En.set i d1).set j d2).set l d3) S e1 p1⟩
  ·exact Zb e1
 ·exact Zb e
theorem ZcM{ok:Za->Prop}{B:D->D->Env->Za->Ot (Fl×Za)}{l:Li (D×D)}{ρ:Env}{st:Za}{z:Fl×Za}(e:Z0 ok B l ρ st=some z):ok st:=by
 cases l with
 |nil=>
  unfold Z0 at e;by_cases h:ok st
  ·exact h
  ·rw[if_neg h]at e;cases e
 |cons _ _=>
  unfold Z0 at e;by_cases h:ok st
  ·exact h
  ·rw[if_neg h]at e;cases e
inductive LK(K:Fg)(ok:Za->Prop)(B:D->D->Env->Za->Option (Fl×Za))(qs:List (D×D))(Good:List Addr->Hp->Prop)(r:Fl)(st':Za)(E:Ends)(k m:Nat)(σ:L2.St)(H:Hp):Prop
 |mk {ad:List Addr}{ρ:Env}{st:Za} (hk:k+m=qs.length) (En:EnvOk K ad H σ ρ) (S:StOk K ad H st) (g:Good ad H) (e:Z0 ok B (qs.drop k) ρ st=some (r,st')) (p:PostS K ad H r st' E):LK K ok B qs Good r st' E k m σ H
def Zik(K:Fg)(f:Ex)(i j:Nat)(J:It)(E:Ends)(σ:L2.St)(H1:Hp):Prop:=∃ W:Nat->Nat->L2.St->Hp->Prop,(∃ m,W 0 m σ H1)/\∀ i' m σ H,W i' m σ H->(J.stop i' H/\E.nx σ H)\/(J.go i' H/\∃ N:L2.St->Hp->Prop,(∀ σ' H',N σ' H'->∃ m',m' < m/\W (i'+1) m' σ' H')/\∀ x H',J.yld i' H x H'->gTup K 2 (gCons (gName i) (gCons (gName j) gNil)) x σ H' fun σ2 H2=>tS K f { E with nx:=N,ct:=N,bk:=E.nx } σ2 H2)
theorem Jz{i j:Nat}{ok:Za->Prop}{qs:Li (D×D)}{Good:Li Ad->Hp->Prop}{r:Fl}{st':Za}{E:Ends}{J:It}(gm:∀ ad H ad' H',Ext ad H ad' H'->Good ad H->Good ad' H')(stop:∀ ad H st,Good ad H->StOk K ad H st->ok st->J.stop qs.length H)(go:∀ k ad H st q,Good ad H->StOk K ad H st->ok st->qs[k]?=some q->∃ w1 w2,J.go k H/\Den K ad H w1 q.1/\Den K ad H w2 q.2/\∀ x H',J.yld k H x H'->∃ pt,x=.ref pt/\H pt=none/\H'=upd H pt (.tup [w1,w2]))(k m:Nat)(σ:L2.St)(H:Hp)(h:LK K ok (fun x y ρ s=>f (Zr (Zr ρ i x) j y) s) qs Good r st' E k m σ H) :
  (J.stop k H/\E.nx σ H)\/(J.go k H/\∃ N:L2.St->Hp->Prop,(∀ σ' H',N σ' H'->∃ m',m' < m/\LK K ok (fun x y ρ s=>f (Zr (Zr ρ i x) j y) s) qs Good r st' E (k+1) m' σ' H')/\∀ x H',J.yld k H x H'->gTup K 2 (gCons (gName i) (gCons (gName j) gNil)) x σ H' fun σ2 H2=>tS K f { E with nx:=N,ct:=N,bk:=E.nx } σ2 H2):=by
 cases h with
 |@mk ad ρ st hkm En S g e p=>
  have ok2:=ZcM e;by_cases hk:qs.length<=k
  ·have hk':k=qs.length:=by omega
   subst hk';rw[List.drop_length]at e;unfold Z0 at e;rw[if_pos ok2]at e;cases e;exact .inl ⟨stop _ _ _ g S ok2,p σ _ H (Ext.refl _ _) S En⟩
  ·have hk':k < qs.length:=Nat.lt_of_not_le hk
   obtain⟨w1,w2,hgo,dw1,dw2,hy⟩:=go k _ _ _ qs[k] g S ok2 (Lg hk');rw[List.drop_eq_getElem_cons hk']at e;unfold Z0 at e;rw[if_pos ok2]at e;generalize qs[k]=q at e dw1 dw2;refine .inr ⟨hgo,LK K ok (fun x y ρ s=>f (Zr (Zr ρ i x) j y) s) qs Good r st' E (k+1) (m - 1),fun σ3 H3 h3=>⟨m - 1,by omega,h3⟩,fun x H3 hx=>?_⟩
   obtain⟨pt,rfl,hpt,rfl⟩:=hy x H3 hx;have xt:Ext ad H ad (upd H pt (.tup [w1,w2])):=Ext.laid hpt;have fin:∀ {rr:Fl}{s3:Za}{E':Ends},f (Zr (Zr ρ i q.1) j q.2) st=some (rr,s3)->PostS K ad (upd H pt (.tup [w1,w2])) rr s3 E'->gTup K 2 (gCons (gName i) (gCons (gName j) gNil)) (.ref pt) σ (upd H pt (.tup [w1,w2])) fun σ2 H2=>tS K f E' σ2 H2:=fun q pp=>
    ⟨pt,_,rfl,SqT.of upd_same,rfl,_,_,rfl,_,_,rfl,rfl,Yt (((En.mono xt).set i (dw1.mono xt)).set j (dw2.mono xt)) (S.laid hpt) q pp⟩
   have nxt:∀ {ρ3:Env}{st3:Za},Z0 ok (fun x y ρ s=>f (Zr (Zr ρ i x) j y) s) (qs.drop (k+1)) ρ3 st3=some (r,st')->∀ (σ4:L2.St) (ad4:Li Ad) (H4:Hp),Ext ad (upd H pt (.tup [w1,w2])) ad4 H4->StOk K ad4 H4 st3->EnvOk K ad4 H4 σ4 ρ3->LK K ok (fun x y ρ s=>f (Zr (Zr ρ i x) j y) s) qs Good r st' E (k+1) (m - 1) σ4 H4:=fun e3 σ4 ad4 H4 x4 S4 E4=>
    .mk (by omega) E4 S4 (gm _ _ _ _ (xt.trans x4) g) e3 (p.later (xt.trans x4))
   clear hy go stop hkm hk hk' hgo;split at e
   ·rename_i q0
    exact fin q0 (nxt e)
   ·rename_i q0
    exact fin q0 (nxt e)
   ·rename_i q0
    cases e;exact fin q0 fun σ4 ad4 H4 x4 S4 E4=>p σ4 ad4 H4 (xt.trans x4) S4 E4
   ·rename_i q0
    cases e;exact fin q0 (p.later xt)
   ·exact Zb e
end
end Dp



namespace Dp
open PySem PySem.Spec PyProof.Rows L2
variable [ClsTab]
mutual
theorem J7:∀ {x y:D},Zv x y=true->x=y
 |.non,y,h=>by cases y<;>simp[Zv]at h ⊢
 |.bl a,y,h=>by cases y<;>simp[Zv]at h ⊢;exact h
 |.int a,y,h=>by cases y<;>simp[Zv]at h ⊢;exact h
 |.str a,y,h=>by cases y<;>simp[Zv]at h ⊢;exact h
 |.tup a,y,h=>by
  cases y with
  |tup b=>rw[Qk (x:=a) (y:=b) (by simpa[Zv] using h)]
  |_=>simp[Zv]at h
 |.lst a,y,h=>by cases y<;>simp[Zv]at h
 |.dct a b,y,h=>by cases y<;>simp[Zv]at h
 |.obj a,y,h=>by cases y<;>simp[Zv]at h
 |.kt a,y,h=>by cases y<;>simp[Zv]at h
 |.dic a,y,h=>by cases y<;>simp[Zv]at h
theorem Qk:∀ {x y:Li D},Z2 x y=true->x=y
 |[],y,h=>by cases y<;>simp[Z2]at h ⊢
 |a :: x,y,h=>by
  cases y with
  |nil=>simp[Z2]at h
  |cons b y=>
   have h:(Zv a b&&Z2 x y)=true:=h;rw[Ba]at h;rw[J7 h.1,Qk h.2]
end
mutual
theorem Wx:∀ {n:Nat}{x:D},okD n x=true->Zv x x=true
 |_,.non,_=>rfl
 |_,.bl a,_=>by simp[Zv]
 |_,.int a,_=>by simp[Zv]
 |_,.str a,_=>by simp[Zv]
 |0,.tup a,h=>by simp[okD]at h
 |n+1,.tup a,h=>Vg (n:=n) (x:=a) h
 |_,.lst a,h=>by simp[okD]at h
 |_,.dct a b,h=>by simp[okD]at h
 |_,.obj a,h=>by simp[okD]at h
 |_,.kt a,h=>by simp[okD]at h
 |_,.dic a,h=>by simp[okD]at h
theorem Vg:∀ {n:Nat}{x:Li D},Yd n x=true->Z2 x x=true
 |_,[],_=>rfl
 |n,a :: x,h=>by
  have h:(okD n a&&Yd n x)=true:=h;rw[Ba]at h;show(Zv a a&&Z2 x x)=true;rw[Wx h.1,Vg h.2];rfl
end
theorem Y4:∀ {n:Nat}{xs:Li D}{i:Nat}{d:D},Yd n xs=true->xs[i]?=some d->okD n d=true
 |_,[],_,_,_,e=>by simp at e
 |n,x :: xs,i,d,h,e=>by
  have h:(okD n x&&Yd n xs)=true:=h;rw[Ba]at h;cases i with
  |zero=>simp at e;subst e;exact h.1
  |succ i=>exact Y4 (i:=i) h.2 (by simpa using e)
theorem YY:∀ {xs ys:Li D},Z2 xs ys=((List.range (min xs.length ys.length)).all (fun i=>Zv ((xs[i]?).getD .non) ((ys[i]?).getD .non))&&xs.length==ys.length)
 |[],[]=>rfl
 |[],_ :: _=>by simp[Z2]
 |_ :: _,[]=>by simp[Z2]
 |x :: xs,y :: ys=>by
  have ih:=@YY xs ys;show(Zv x y&&Z2 xs ys)=_;rw[ih];have e:min (x :: xs).length (y :: ys).length=min xs.length ys.length+1:=by simp only[List.length_cons];omega
  rw[e,List.range_succ_eq_map,List.all_cons,List.all_map];simp only[List.length_cons];have z:(xs.length+1==ys.length+1)=(xs.length==ys.length):=by
   rw[Bool.eq_iff_iff];simp
  rw[z,Bool.and_assoc];rfl
section
variable {X:Cx}{ad:Li Ad}{H:Hp}
def Zif(X:Cx)(ad:Li Ad)(H:Hp)(v:V)(x:D):Prop:=∀ n m y,okD n x=true->okD m y=true->Den X.K ad H v y->x=y
theorem X0{n:Nat}{x:D}{P:Prop}(h:okD n x=true)(h0:∀ n,okD n x=false):P:=by rw[h0]at h;cases h
theorem ZcZ(i n:Nat):okD n (.lst i)=false:=by cases n<;>rfl
theorem ZcX(ks:Li Str)(vs:Li D)(n:Nat):okD n (.dct ks vs)=false:=by cases n<;>rfl
theorem ZcY(i n:Nat):okD n (.dic i)=false:=by cases n<;>rfl
theorem Zc0(i n:Nat):okD n (.obj i)=false:=by cases n<;>rfl
theorem Zf9(ks:Li Str)(n:Nat):okD n (.kt ks)=false:=by cases n<;>rfl
theorem Zc1{n:Nat}{xs:Li D}(h:okD n (.tup xs)=true):∃ m,Yd m xs=true:=by
 cases n with
 |zero=>cases h
 |succ n=>exact⟨n,h⟩
theorem Den.injP(J:∀ (a:Ad) (xs ys:Li V),TupAt X.K H a xs->TupAt X.K H a ys->xs=ys){v:V}{x:D}(h:Den X.K ad H v x):Zif X ad H v x:=
 Den.rec (motive_1:=fun v x _=>Zif X ad H v x) (motive_2:=fun vs xs _=>∀ n m ys,Yd n xs=true->Yd m ys=true->Dens X.K ad H vs ys->xs=ys)
  (fun _ _ _ _ _ h=>by cases h;rfl) (fun _ _ _ _ _ _ h=>by cases h;rfl) (fun _ _ _ _ _ _ h=>by cases h;rfl) (fun _ _ _ _ _ _ h=>by cases h;rfl)
  (fun e _ ih n m y hx hy h=>by
   obtain⟨n',hx⟩:=Zc1 hx;cases h with
   |tup e' r'=>
    cases J _ _ _ e e'
    obtain⟨m',hy⟩:=Zc1 hy;rw[ih n' m' _ hx hy r']
   |lst _=>exact X0 hy (ZcZ _)
   |dic _ _=>exact X0 hy (ZcY _)
   |dct _ _ _ _ _=>exact X0 hy (ZcX _ _)
   |obj _ _=>exact X0 hy (Zc0 _)
   |kt _ _ _ _ _ _=>exact X0 hy (Zf9 _))
  (fun _ _ _ _ hx _ _=>X0 hx (ZcZ _)) (fun _ _ _ _ _ hx _ _=>X0 hx (ZcY _)) (fun _ _ _ _ _ _ _ _ _ hx _ _=>X0 hx (ZcX _ _)) (fun _ _ _ _ _ hx _ _=>X0 hx (Zc0 _)) (fun _ _ _ _ _ _ _ _ _ hx _ _=>X0 hx (Zf9 _))
  (fun _ _ _ _ _ h=>by cases h;rfl)
  (fun _ _ i1 i2 n m ys hx hy h=>by
   cases h with
   |cons a' r'=>
    have hx:=Bool.and_eq_true_iff.mp hx;have hy:=Bool.and_eq_true_iff.mp hy;rw[i1 n m _ hx.1 hy.1 a',i2 n m _ hx.2 hy.2 r']) h
theorem Den.inj(J:∀ (a:Ad) (xs ys:Li V),TupAt X.K H a xs->TupAt X.K H a ys->xs=ys){n m:Nat}{v:V}{x y:D}(hx:okD n x=true)(hy:okD m y=true)(h:Den X.K ad H v x)(h':Den X.K ad H v y):x=y:=h.injP J n m y hx hy h'
theorem Dens.inj(J:∀ (a:Ad) (xs ys:Li V),TupAt X.K H a xs->TupAt X.K H a ys->xs=ys){n m:Nat}{vs:Li V}{xs ys:Li D}(hx:Yd n xs=true)(hy:Yd m ys=true)(h:Dens X.K ad H vs xs)(h':Dens X.K ad H vs ys):xs=ys:=by
 induction vs generalizing xs ys with
 |nil=>cases h;cases h';rfl
 |cons v vs ih=>
  cases h with
  |cons a r=>cases h' with
   |cons a' r'=>
    have hx:=Bool.and_eq_true_iff.mp hx;have hy:=Bool.and_eq_true_iff.mp hy;rw[a.inj J hx.1 hy.1 a',ih hx.2 hy.2 r r']
open PySem.SeqAt in
theorem Zb9{pQ:Li (Ad×Obj)}{σ:L2.St}{s:Sd}(I:Inv X pQ σ H s):∀ (n:Nat) (x y:D) (A:Around) (vx vy:V) (ux uy:vL),okD n x=true->okD n y=true->A.units+n < cLine->Den X.K ad H vx x->Den X.K ad H vy y->RelV vx ux->RelV vy uy->EqAt A s ux uy (Zv x y):=by
 intro n
 induction n with
 |zero=>
  intro x y A vx vy ux uy hx hy hu dx dy rx ry;cases dx with
  |non=>
   cases rx;cases dy with
   |non=>cases ry;exact EqAt.same _
   |int j=>obtain⟨t',rfl⟩:=ry;exact EqAt.none_int j t'
   |str j=>obtain⟨t',rfl⟩:=ry;exact EqAt.none_str j t'
   |_=>simp[okD]at hy
  |int i=>
   obtain⟨t,rfl⟩:=rx;cases dy with
   |non=>cases ry;exact EqAt.int_none i t
   |int j=>obtain⟨t',rfl⟩:=ry;exact(show Zv (.int i) (.int j)=(i==j) from by rw[Bool.eq_iff_iff];simp[Zv]) ▸ EqAt.int_int i t j t'
   |str j=>obtain⟨t',rfl⟩:=ry;exact EqAt.int_str i t j t'
   |_=>simp[okD]at hy
  |str i=>
   obtain⟨t,rfl⟩:=rx;cases dy with
   |non=>cases ry;exact EqAt.str_none i t
   |int j=>obtain⟨t',rfl⟩:=ry;exact EqAt.str_int i t j t'
   |str j=>obtain⟨t',rfl⟩:=ry;exact(show Zv (.str i) (.str j)=(i==j) from by rw[Bool.eq_iff_iff];simp[Zv]) ▸ EqAt.str_str i t j t'
   |_=>simp[okD]at hy
  |_=>simp[okD]at hx
 |succ n ih=>
  intro x y A vx vy ux uy hx hy hu dx dy rx ry;cases dx with
  |non=>
   cases rx;cases dy with
   |non=>cases ry;exact EqAt.same _
   |int j=>obtain⟨t',rfl⟩:=ry;exact EqAt.none_int j t'
   |str j=>obtain⟨t',rfl⟩:=ry;exact EqAt.none_str j t'
   |tup e r=>
    cases ry;obtain⟨its,_,p,_⟩:=I.tuple ((e).sq);exact EqAt.none_tuple p (by omega)
   |_=>simp[okD]at hy
  |int i=>
   obtain⟨t,rfl⟩:=rx;cases dy with
   |non=>cases ry;exact EqAt.int_none i t
   |int j=>obtain⟨t',rfl⟩:=ry;exact(show Zv (.int i) (.int j)=(i==j) from by rw[Bool.eq_iff_iff];simp[Zv]) ▸ EqAt.int_int i t j t'
   |str j=>obtain⟨t',rfl⟩:=ry;exact EqAt.int_str i t j t'
   |tup e r=>
    cases ry;obtain⟨its,_,p,_⟩:=I.tuple ((e).sq);exact EqAt.int_tuple i t p (by omega)
   |_=>simp[okD]at hy
  |str i=>
   obtain⟨t,rfl⟩:=rx;cases dy with
   |non=>cases ry;exact EqAt.str_none i t
   |int j=>obtain⟨t',rfl⟩:=ry;exact EqAt.str_int i t j t'
   |str j=>obtain⟨t',rfl⟩:=ry;exact(show Zv (.str i) (.str j)=(i==j) from by rw[Bool.eq_iff_iff];simp[Zv]) ▸ EqAt.str_str i t j t'
   |tup e r=>
    cases ry;obtain⟨its,_,p,_⟩:=I.tuple ((e).sq);exact EqAt.str_tuple i t p (by omega)
   |_=>simp[okD]at hy
  |@tup a xs ds e r=>
   cases rx;obtain⟨its,rv,p,_⟩:=I.tuple ((e).sq);cases dy with
   |non=>cases ry;exact EqAt.tuple_none p (by omega)
   |int j=>obtain⟨t',rfl⟩:=ry;exact EqAt.tuple_int j t' p (by omega)
   |str j=>obtain⟨t',rfl⟩:=ry;exact EqAt.tuple_str j t' p (by omega)
   |@tup b ys es e' r'=>
    cases ry;by_cases hab:a=b
    ·subst hab
     have z:=Den.inj (fun _ _ _ e e2=>I.tuple_inj e.sq e2.sq) (n:=n+1) (m:=n+1) hx hy (Den.tup e r) (Den.tup e' r')
     cases z;rw[Wx hx];exact EqAt.same _
    ·obtain⟨its',rv',p',_⟩:=I.tuple ((e').sq)
     refine EqAt.of_refs hab ?_;have q:=RcAt.tuples (A:=A) (s:=s) (e:=fun i=>Zv ((ds[i]?).getD .non) ((es[i]?).getD .non)) p p' (by omega) fun j h1 h2=>?_
     ·have e1:its.toArray.size=ds.length:=by rw[List.size_toArray,<-rv.length,r.length]
      have e2:its'.toArray.size=es.length:=by rw[List.size_toArray,<-rv'.length,r'.length]
      rw[e1,e2]at q;show RcAt A s (.ref a) (.ref b) (Z2 ds es);rw[YY];exact q
     ·have l1:j < ds.length:=by rw[<-r.length,rv.length];simpa using h1
      have l2:j < es.length:=by rw[<-r'.length,rv'.length];simpa using h2
      have g1:ds[j]?=some ds[j]:=Lg l1;have g2:es[j]?=some es[j]:=Lg l2;obtain⟨v1,q1,d1⟩:=r.get g1;obtain⟨v2,q2,d2⟩:=r'.get g2;obtain⟨u1,w1,r1⟩:=rv.get q1;obtain⟨u2,w2,r2⟩:=rv'.get q2;have f1:its.toArray[j]=u1:=by
       have:its[j]?=some (its[j]'(by simpa using h1)):=Lg _
       rw[w1]at this;simpa using(Option.some.inj this).symm
      have f2:its'.toArray[j]=u2:=by
       have:its'[j]?=some (its'[j]'(by simpa using h2)):=Lg _
       rw[w2]at this;simpa using(Option.some.inj this).symm
      rw[f1,f2,g1,g2];exact ih ds[j] es[j] A.in1 v1 v2 u1 u2 (Y4 hx g1) (Y4 hy g2) (by show A.units+1+n < cLine;omega) d1 d2 r1 r2
   |_=>simp[okD]at hy
  |_=>simp[okD]at hx
open PySem.SeqAt in
theorem US{pQ:Li (Ad×Obj)}{σ:L2.St}{s:Sd}(I:Inv X pQ σ H s){n:Nat}{A:Around}{a b:Ad}{xs ys:Li V}{ds es:Li D}{its its':Li vL}(hx:Yd n ds=true)(hy:Yd n es=true)(hu:A.units+n+1 < cLine)(r:Dens X.K ad H xs ds)(r':Dens X.K ad H ys es)(rv:Vals xs its)(rv':Vals ys its')(j:Nat)(h1:j < its.toArray.size)(h2:j < its'.toArray.size):EqAt A.in1 s its.toArray[j] its'.toArray[j] (Zv ((ds[j]?).getD .non) ((es[j]?).getD .non)):=by
 have l1:j < ds.length:=by rw[<-r.length,rv.length];simpa using h1
 have l2:j < es.length:=by rw[<-r'.length,rv'.length];simpa using h2
 have g1:ds[j]?=some ds[j]:=Lg l1;have g2:es[j]?=some es[j]:=Lg l2;obtain⟨v1,q1,d1⟩:=r.get g1;obtain⟨v2,q2,d2⟩:=r'.get g2;obtain⟨u1,w1,r1⟩:=rv.get q1;obtain⟨u2,w2,r2⟩:=rv'.get q2;have f1:its.toArray[j]=u1:=by
  have:its[j]?=some (its[j]'(by simpa using h1)):=Lg _
  rw[w1]at this;simpa using(Option.some.inj this).symm
 have f2:its'.toArray[j]=u2:=by
  have:its'[j]?=some (its'[j]'(by simpa using h2)):=Lg _
  rw[w2]at this;simpa using(Option.some.inj this).symm
 rw[f1,f2,g1,g2];exact Zb9 I n ds[j] es[j] A.in1 v1 v2 u1 u2 (Y4 hx g1) (Y4 hy g2) (by show A.units+1+n < cLine;omega) d1 d2 r1 r2
open PySem.SeqAt in
theorem Zfk{pQ:Li (Ad×Obj)}{σ:L2.St}{s:Sd}(I:Inv X pQ σ H s){n:Nat}{A:Around}{a b:Ad}{xs ys:Li V}{ds es:Li D}(hx:Yd n ds=true)(hy:Yd n es=true)(hu:A.units+n+1 < cLine)(e:TupAt X.K H a xs)(r:Dens X.K ad H xs ds)(e':TupAt X.K H b ys)(r':Dens X.K ad H ys es):RcAt A s (.ref a) (.ref b) (Z2 ds es)/\RcNeAt A s (.ref a) (.ref b) (!Z2 ds es):=by
 obtain⟨its,rv,p,_⟩:=I.tuple (e.sq);obtain⟨its',rv',p',_⟩:=I.tuple (e'.sq);have e1:its.toArray.size=ds.length:=by rw[List.size_toArray,<-rv.length,r.length]
 have e2:its'.toArray.size=es.length:=by rw[List.size_toArray,<-rv'.length,r'.length]
 have q:=RcAt.tuples (A:=A) (s:=s) (e:=fun i=>Zv ((ds[i]?).getD .non) ((es[i]?).getD .non)) p p' (by omega) fun j h1 h2=>US (a:=a) (b:=b) I hx hy hu r r' rv rv' j h1 h2
 have q':=RcNeAt.tuples (A:=A) (s:=s) (e:=fun i=>Zv ((ds[i]?).getD .non) ((es[i]?).getD .non)) p p' (by omega) fun j h1 h2=>US (a:=a) (b:=b) I hx hy hu r r' rv rv' j h1 h2
 rw[e1,e2]at q q';rw[YY];exact⟨q,q'⟩
end
end Dp



namespace Dp
open PySem PySem.Spec PyProof.Rows L2 Builtin Builtin.Str
variable [ClsTab]
section
variable {X:Cx}{tg:Expr}
end
end Dp


namespace Dp
open PySem PySem.Spec PyProof.Rows L2
variable [ClsTab]
section
variable {X:Cx}{pQ:Li (Ad×Obj)}{σ:L2.St}{H:Hp}{s:Sd}{ad:Li Ad}
inductive OkW:Nat->D->Prop where
 |int (n:Nat) (i:Int):OkW n (.int i)
 |str (n:Nat) (x:Str):OkW n (.str x)
 |tup {n:Nat}{ds:List D} (h:ds.all (okN n)=true):OkW (n+1) (.tup ds)
theorem okW{n:Nat}{d:D}(h:okN n d=true):OkW n d:=by
 cases d with
 |int i=>exact .int n i
 |str i=>exact .str n i
 |tup ds=>cases n with
  |zero=>exact nomatch h
  |succ n=>exact .tup h
 |_=>cases n<;>exact nomatch h
theorem Zad(I:L2.Inv X pQ σ H s):∀ {n:Nat}{d:D}{v:V}{u:vL},okN n d=true->Den X.K ad H v d->RelV v u->IsV s.heap n d u:=by
 intro n
 induction n using Nat.strongRecOn with
 |_ n ih=>
  intro d v u ok h r;cases okW ok with
  |int _ i=>cases h;cases n<;>exact r
  |str _ i=>cases h;cases n<;>exact r
  |@tup n ds ok=>
   obtain⟨a,xs,rfl,e,rr⟩:=h.ofTup;cases r;obtain⟨its,rv,p,_⟩:=I.tuple e.sq;refine⟨a,_,rfl,p,?_⟩;have go:∀ {ds:Li D}{xs:Li V}{us:Li vL},ds.all (okN n)=true->Dens X.K ad H xs ds->Vals xs us->Paired (IsV s.heap n) ds us:=by
    intro ds
    induction ds with
    |nil=>intro xs us _ a b;cases a;cases b;exact .nil
    |cons d ds ihd=>
     intro xs us o a b;rw[List.all_cons,Ba]at o;cases a with
     |cons a1 a2=>cases b with
      |cons b1 b2=>exact .cons (ih n (Nat.lt_succ_self n) o.1 a1 b1) (ihd o.2 a2 b2)
   exact go ok rr rv
def rSd(K:Fg):V->Li V->Hp->VK->Prop:=fun x vs H Q=>∃ a ka l xs k ad,(x=.ref a/\vs=[.ref ka,.ref l]/\H a=some (.dN (YG xs))/\xs.length < 2000/\(xs.map (·.1)).Nodup)/\(Den K ad H (.ref ka) k/\okN 8 k=true)/\(∀ x∈xs,Den K ad H (.ref x.2.1) x.1/\okN 8 x.1=true) /\
 (∀ x∈xs,x.1=k->Q (.ref x.2.2) H)/\((∀ x∈xs,x.1≠k)->Q (.ref l) (upd H a (.dN (YG (xs++[(k,ka,l)])))))
noncomputable def toE(x:D×Ad×Ad):D×Ad×vL:=(x.1,x.2.1,.ref x.2.2)
theorem ZbR{xs:Li (D×Ad×Ad)}{k:D}:(∀ p,atKey (xs.map toE) k=some p->∃ x∈xs,x.1=k/\p.2=.ref x.2.2)/\(atKey (xs.map toE) k=none->∀ x∈xs,x.1≠k):=by
 induction xs with
 |nil=>exact⟨fun p h=>(nomatch h),fun _ x hx=>(nomatch hx)⟩
 |cons y xs ih=>
  have e:atKey ((y :: xs).map toE) k=if y.1=k then some (y.2.1,.ref y.2.2) else atKey (xs.map toE) k:=by
   rw[List.map_cons];unfold atKey;rw[List.find?_cons];by_cases h:y.1=k
   ·rw[if_pos h,show decide ((toE y).1=k)=true from decide_eq_true h];rfl
   ·rw[if_neg h,show decide ((toE y).1=k)=false from decide_eq_false h]
  rw[e];by_cases h:y.1=k
  ·rw[if_pos h]
   exact⟨fun p q=>⟨y,Ls,h,by cases q;rfl⟩,fun q=>nomatch q⟩
  ·rw[if_neg h]
   refine⟨fun p q=>let ⟨x,a,b⟩:=ih.1 p q;⟨x,Lm _ a,b⟩,fun q x hx=>?_⟩
   rcases List.mem_cons.mp hx with rfl|hx
   ·exact h
   ·exact ih.2 q x hx
theorem ZiS(hu:X.A.units+16 < cLine):MtM X "dict.setdefault" (rSd X.K):=by
 intro pQ s σ H x vs v us Q I rx rv h;obtain⟨a,ka,l,xs,k,ad,⟨rfl,rfl,hH,hz,nd⟩,⟨dk,ok⟩,hx,h1,h2⟩:=h;cases rx;obtain⟨u1,u2,rfl,r1,r2⟩:=rv.two;cases r1;cases r2
 obtain⟨hd,o,es,ho,hc,hdat,he⟩:=(show ObjOk X.prog X.w H s.heap a (.dN (YG xs)) from I.hok a _ hH);have hm:DictE (Zf8 X.prog X.w) s.heap a (xs.map toE):=⟨o,es,ho,hc,hdat,by rw[he,List.map_map];rfl,fun x hx'=>by
  obtain⟨y,hy,rfl⟩:=List.mem_map.mp hx';exact Zad I (hx y hy).2 (hx y hy).1 rfl,by rw[List.map_map];exact nd⟩
 have hl:sizeLine=16777216:=sizeLine_eq;refine call_meetsIn PySem.F.slot_dict_setdefault hm.typeIs PySem.F.entry_dict_setdefault (PySem.F.args_dict_setdefault_3 _ _ _) (UX (Zf8 X.prog X.w) (k:=k) a hd (.ref l)) ⟨_,hm,by rw[List.length_map];omega,(show X.A.units+1+8 < cLine by omega),Zad I ok dk rfl,fun p hp=>?_,fun hp h' hm' hs=>?_⟩
 ·obtain⟨y,hy,ey,e2⟩:=ZbR.1 p hp
  rw[e2];exact⟨.ref y.2.2,H,I.tok _,rfl,h1 y hy ey⟩
 ·obtain⟨o',es',ho',hc',hd',he',_,_⟩:=hm'
  refine⟨.ref l,_,I.write (x:=a) (e:=a) (o:=.dN (YG (xs++[(k,ka,l)]))) (by rw[hH];exact True.intro) (.inl rfl) (fun b q hb z=>(hs.2 b hb).trans z) ⟨o',ho'⟩ ⟨hd,o',es',ho',hc',hd',?_⟩,rfl,h2 (ZbR.2 hp)⟩
  rw[he'];unfold YG;rw[List.map_append,List.map_append,List.map_map];rfl
end
section
variable {K:Fg}{fk fe:Ev}
theorem Ents.length{ad:Li Ad}{H:Hp}{xs:Li (D×Ad×Ad)}{ds:Li D}(r:Ents K ad H xs ds):xs.length=ds.length:=by
 induction r with
 |nil=>rfl
 |cons _ _ _ _ ih=>rw[List.length_cons,List.length_cons,ih]
theorem Ents.keys{ad:Li Ad}{H:Hp}{xs:Li (D×Ad×Ad)}{ds:Li D}(r:Ents K ad H xs ds):∀ x∈xs,Den K ad H (.ref x.2.1) x.1/\okN 8 x.1=true:=by
 induction r with
 |nil=>exact fun x hx=>(nomatch hx)
 |cons h ok _ _ ih=>
  intro x hx;rcases List.mem_cons.mp hx with rfl|hx
  ·exact⟨h,(Bool.and_eq_true_iff.mp ok).1⟩
  ·exact ih x hx
theorem Ents.snoc{ad:Li Ad}{H:Hp}{xs:Li (D×Ad×Ad)}{ds:Li D}{k:D}{ka la:Ad}{j:Nat}(r:Ents K ad H xs ds)(h:Den K ad H (.ref ka) k)(ok:(okN 8 k&&VA k)=true)(l:LA ad H j la):Ents K ad H (xs++[(k,ka,la)]) (ds++[.tup [k,.lst j]]):=by
 induction r with
 |nil=>exact .cons h ok l .nil
 |cons a b c _ ih=>exact .cons a b c ih
theorem Ze5:∀ {n:Nat}{d:D},okN n d=true->okD n d=true:=by
 intro n
 induction n using Nat.strongRecOn with
 |_ n ih=>
  intro d h;cases okW h with
  |int _ i=>cases n<;>rfl
  |str _ i=>cases n<;>rfl
  |@tup n ds ok=>
   show Yd n ds=true;clear h
   induction ds with
   |nil=>rfl
   |cons d ds ihd=>
    rw[List.all_cons,Ba]at ok;show(okD n d&&Yd n ds)=true;rw[ih n (Nat.lt_succ_self n) ok.1,ihd ok.2];rfl
theorem Ents.find{ad:Li Ad}{H:Hp}{k:D}{xs:Li (D×Ad×Ad)}{ds:Li D}(ok:okN 8 k=true)(r:Ents K ad H xs ds):(∀ j,YQ k ds=some j->∀ x∈xs,x.1=k->(xs.map (·.1)).Nodup->LA ad H j x.2.2)/\(∀ j,YQ k ds=some j->∃ x∈xs,x.1=k)/\(YQ k ds=none->∀ x∈xs,x.1≠k):=by
 induction r with
 |nil=>exact⟨fun j h=>(nomatch h),fun j h=>(nomatch h),fun _ x hx=>(nomatch hx)⟩
 |@cons k1 ka la j1 xs ds h ok1 l r ih=>
  have e:YQ k (.tup [k1,.lst j1] :: ds)=if Zv k1 k=true then some j1 else YQ k ds:=rfl
  rw[e];by_cases q:Zv k1 k=true
  ·rw[if_pos q]
   have q':=J7 q;refine⟨fun j z x hx ex nd=>?_,fun j z=>⟨_,Ls,q'⟩,fun z=>(nomatch z)⟩
   cases z;rcases List.mem_cons.mp hx with rfl|hx
   ·exact l
   ·rw[List.map_cons,List.nodup_cons]at nd
    exact absurd (List.mem_map.mpr ⟨x,hx,ex.trans q'.symm⟩) nd.1
  ·rw[if_neg q]
   have ne:k1≠k:=fun z=>q (by rw[z];exact Wx (Ze5 ok))
   refine⟨fun j z x hx ex nd=>?_,fun j z=>?_,fun z x hx=>?_⟩
   ·rcases List.mem_cons.mp hx with rfl|hx
    ·exact absurd ex ne
    ·rw[List.map_cons,List.nodup_cons]at nd
     exact ih.1 j z x hx ex nd.2
   ·obtain⟨x,hx,ex⟩:=ih.2.1 j z
    exact⟨x,Lm _ hx,ex⟩
   ·rcases List.mem_cons.mp hx with rfl|hx
    ·exact ne
    ·exact ih.2.2 z x hx
theorem ZeE{i:Nat}(D:Ends)(σ:L2.St)(H:Hp)(h:tS K (ZdC i fk fe) D σ H):tDrop (tBM K "list" rAppend (tBM K "dict" (rSd K) (tVar i) (tCons (tE K fk) (tCons (tLst tNil) tNil))) (tCons (tE K fe) tNil)) D σ H:=by
 obtain⟨ad,ρ,st,r,st',E,S,e,p⟩:=Yc h;unfold ZdC at e;split at e
 ·rename_i a q0
  split at e
  ·rename_i k st1 q1
   split at e
   ·rename_i ok
    have ok8:=(Bool.and_eq_true_iff.mp ok).1;obtain⟨v,e1,e2⟩:=E.at_ i _ q0;obtain⟨g,rfl,hg,ng⟩:=e2.ofDic;refine⟨_,e1,.inr (.inr (.inl ⟨rfl,.inr ng⟩)),ad,ρ,st,k,st1,E,S,q1,fun w ad1 H1 x1 S1 d1=>?_⟩
    refine⟨Nat.zero_le _,fun l hl=>?_⟩
    split at e
    ·rename_i es q2
     split at e
     rotate_left
     ·exact Zb e
     rename_i hz1;obtain⟨ds,hk⟩:∃ ds,k=.tup ds:=by
      have z:=(Bool.and_eq_true_iff.mp ok).2;cases k<;>first|exact⟨_,rfl⟩|cases z
     obtain⟨ka,rfl⟩:∃ ka,w=.ref ka:=by
      rw[hk]at d1;cases d1 with
      |tup _ _=>exact⟨_,rfl⟩
     obtain⟨xs,⟨rE,nd⟩,hG,_⟩:=S1.dict (x1.pre _ _ hg) ((x1.kd _ _ hg).mp ng) q2;have xl:Ext ad1 H1 ad1 (upd H1 l (.lst [])):=Ext.laid hl;have ngl:g≠l:=ne_of_none hG hl;have hG':upd H1 l (.lst []) g=some (.dN (YG xs)):=by rw[upd_ne ngl];exact hG
     have rE':=rE.mono xl;have fd:=rE'.find ok8;refine⟨g,ka,l,xs,k,ad1,⟨rfl,rfl,hG',?_,nd⟩,⟨d1.mono xl,ok8⟩,rE'.keys,fun x hx ex=>?_,fun hne=>?_⟩
     ·rw[rE.length];omega
     ·split at e
      ·rename_i j q3
       have la:=fd.1 j q3 x hx ex nd;have Sl:StOk K ad1 (upd H1 l (.lst [])) st1:=S1.laid hl;split at e
       ·rename_i v st2 q4
        split at e
        ·rename_i st3 q5
         cases e;obtain⟨bb,ds',hc⟩:=Wc Sl la;obtain⟨zs,_,sq⟩:=Sl.list la hc;refine⟨.inl ⟨rfl,zs,sq⟩,ad1,ρ,st1,v,st2,E.mono (x1.trans xl),Sl,q4,fun w2 ad2 H2 x2 S2 d2=>?_⟩
         obtain⟨ys,hy,hz,x3,S3⟩:=W1 S2 (la.mono x2) d2 q5;exact⟨_,ys,w2,rfl,rfl,hy,hz,p _ ad2 _ (((x1.trans xl).trans x2).trans x3) S3 (E.mono (((x1.trans xl).trans x2).trans x3))⟩
        ·exact Zb e
       ·exact Zb e
      ·rename_i q3
       exact absurd ex (fd.2.2 q3 x hx)
     ·split at e
      ·rename_i j q3
       obtain⟨x,hx,ex⟩:=fd.2.1 j q3;exact absurd ex (hne x hx)
      ·rename_i q3
       have xp:Ext ad1 H1 (ad1++[l]) (upd H1 l (.lst [])):=Ext.push hl;have Sp:StOk K (ad1++[l]) (upd H1 l (.lst [])) (st1++[(true,[])]):=S1.push hl .nil;have lan:LA (ad1++[l]) (upd H1 l (.lst [])) st1.length l:=⟨by rw[<-S1.len];exact ZE,W0 upd_same fun _ z=>nomatch z⟩
       have ha:(ad1++[l])[a]?=some g:=YN (x1.pre _ _ hg);have hlt:a < st1.length:=(List.getElem?_eq_some_iff.mp q2).1;have rN:=(rE.mono xp).snoc (d1.mono xp) ok lan;have ndN:((xs++[(k,ka,l)]).map (·.1)).Nodup:=by
        rw[List.map_append,List.nodup_append];refine⟨nd,by simp,fun u hu v hv z=>?_⟩
        obtain⟨y,hy,rfl⟩:=List.mem_map.mp hu;rw[List.map_cons,List.map_nil]at hv;rw[List.mem_singleton.mp hv]at z;exact hne y hy z
       have xw:=Ext.writeD (f':=YG (xs++[(k,ka,l)])) hG' (List.mem_of_getElem? ha);have Sw:=Sp.writeD ha (YN q2) hG' rN ndN;rw[List.set_append_left _ _ hlt]at Sw;split at e
       ·rename_i v st2 q4
        split at e
        ·rename_i st3 q5
         cases e;have la:=lan.mono xw;obtain⟨bb,ds',hc⟩:=Wc Sw la;obtain⟨zs,_,sq⟩:=Sw.list la hc;have xx:=(x1.trans xp).trans xw;refine⟨.inl ⟨rfl,zs,sq⟩,ad1++[l],ρ,_,v,st2,E.mono xx,Sw,q4,fun w2 ad2 H2 x2 S2 d2=>?_⟩
         obtain⟨ys,hy,hz,x3,S3⟩:=W1 S2 (la.mono x2) d2 q5;exact⟨_,ys,w2,rfl,rfl,hy,hz,p _ ad2 _ ((xx.trans x2).trans x3) S3 (E.mono ((xx.trans x2).trans x3))⟩
        ·exact Zb e
       ·exact Zb e
    ·exact Zb e
   ·exact Zb e
  ·exact Zb e
 ·exact Zb e
end
section
noncomputable def Itv(a:Ad)(n:Nat):It:=
 ⟨fun i H=>i < n/\∃ xs,H a=some (.dN (YG xs))/\xs.length=n,fun i H x H'=>H'=H/\∀ xs,H a=some (.dN (YG xs))->xs.length=n->∃ e,xs[i]?=some e/\x=.ref e.2.2,fun i H=>i=n/\∃ xs,H a=some (.dN (YG xs))/\xs.length=n⟩
theorem JO{X:Cx}{pQ:Li (Ad×Obj)}{σ:L2.St}{H:Hp}{s:Sd}{a:Ad}{xs:Li (D×Ad×Ad)}(I:L2.Inv X pQ σ H s)(e:H a=some (.dN (YG xs))):(a==sysModules)=false/\∃ es:Array DictEntry,Raw s.heap a es es.size/\es.toList=YG xs X.w:=by
 obtain⟨hd,o,es,ho,hc,hdat,he⟩:=(show ObjOk X.prog X.w H s.heap a (.dN (YG xs)) from I.hok a _ e);exact⟨hd,es,⟨o,ho,hc,hdat⟩,he⟩
theorem Wy{xs:Li (D×Ad×Ad)}{w:World}{es:Array DictEntry}(h:es.toList=YG xs w):es.size=xs.length:=by
 rw[<-Array.length_toList,h];unfold YG;rw[List.length_map]
theorem ZbI{P:Program}{w:World}{K:Fg}{tg:Expr}(a it:Ad)(n:Nat):Turn P w K tg (Itv a n) [it] it (fun i h=>h.IsValIter it a i n n) where
 mem:=by simp
 obj:=fun i h st b hb=>by
  have e:b=it:=by simpa using hb
  subst e;obtain⟨o,e,c,d⟩:=st;exact⟨o,e,fun v z=>by rw[d]at z;cases z⟩
 keep:=fun i h h' st k=>let ⟨o,e,r⟩:=st;⟨o,k it (by simp) o e,r⟩
 item:=by
  intro X hP hw hK hc i pQ s σ H E I hf st hg;subst hP hw hK;obtain⟨hi,xs,hq,hl⟩:=hg;obtain⟨hd,es,raw,he⟩:=JO I hq;have hs:=Wy he;have hs':es.size=n:=hs.trans hl;have hi':i < es.size:=by omega
  obtain⟨f0,f1,f2,f3,f4,f5⟩:=hf it (by simp)
  have st':s.heap.IsValIter it a i es.size es.size:=by rw[hs'];exact st
  refine ZbA st' raw hi' fun h' st' sb=>?_
  have I1:L2.Inv X pQ σ H { s with heap:=h' }:=I.turned (t':=s.toks) (fun b o hb e=>(sb.2 b hb).trans e) f0 f1 f3 f4 f5
  obtain⟨o,e,c,d⟩:=id st';have hx:i < xs.length:=by omega
  have ev:es[i].val=.ref xs[i].2.2:=by
   have z:es.toList[i]?=some es[i]:=by rw[Array.getElem?_toList,Array.getElem?_eq_getElem hi']
   rw[he]at z;unfold YG at z;rw[List.getElem?_map,Lg hx]at z;have z:=Option.some.inj z;rw[<-z]
  rw[ev];refine⟨_,rfl,go_of (s:={ s with heap:=h' }) e c d (by decide) ⟨.ref xs[i].2.2,H,I1,rfl,⟨rfl,fun ys hy hly=>?_⟩,by rw[hs']at st';exact st',fun b hb=>(hf b hb).1⟩⟩
  rw[hq]at hy;have z:=congrFun (HO.dN.inj (Option.some.inj hy)) X.w;unfold YG at z;have hy':i < ys.length:=by omega
  have z2:=congrArg (fun l=>l[i]?) z
  simp only[List.getElem?_map,Lg hx,Lg hy',Option.map_some]at z2
  injection Option.some.inj z2 with z3 z4 z5
  exact⟨ys[i],Lg hy',by rw[V.ref.injEq];injection z5⟩
 done:=by
  intro X hP hw hK hc i pQ s σ H E I hf st hg;subst hP hw hK;obtain⟨hi,xs,hq,hl⟩:=hg;obtain⟨hd,es,raw,he⟩:=JO I hq;have hs:=Wy he;have hs':es.size=n:=hs.trans hl;obtain⟨f0,f1,f2,f3,f4,f5⟩:=hf it (by simp)
  have st':s.heap.IsValIter it a es.size es.size es.size:=by rw[hs',<-hi];rw[hi];rw[hi]at st;exact st
  exact ZcT (I.ok.hd hc) st' raw fun h' eb=>⟨rfl,I.turned (t':=s.toks) (fun b o hb e=>eb b o hb e) f0 f1 f3 f4 f5⟩
 self:=fun _ _ _ _ _ st h=>wpAny_pyIter_valiter st h
noncomputable def Zf3(td:TE):TI:=fun σ H R=>td σ H fun x H1=>∃ a xs,x=.ref a/\H1 a=some (.dN (YG xs))/\R (Itv a xs.length) H1
theorem Zfb{X:Cx}{tg o:Expr}{tl:TE}{ap cp:Pos}(ho:PE X o tl)(hbase:attributeBase o "values" X.env (eval o X.env)=eval o X.env)(hline:(ap.endLine==cp.line)=true):PI X tg (.Call (.Attribute o "values" ap) [] [] cp) (Zf3 tl):=by
 intro pQ s σ H R I h;refine wpAny_Call_method0_late hbase hline (thn (ho pQ s σ H _ I h) fun v s1 ⟨x,H1,I1,r1,q1⟩=>?_)
 obtain⟨a,xs,rfl,e,q⟩:=q1;cases r1;obtain⟨hd,es,raw,he⟩:=JO I1 e;have hs:=Wy he;obtain⟨o',h1,h2,h3⟩:=id raw;refine⟨"dict", "dict.values",PySem.F.plainAttrs_dict,PySem.F.slot_dict_values,PySem.F.type_dict_values,raw.typeIs,fun b z=>by cases z;exact⟨o',h1,h2.2.1⟩,Calls.callWith_builtin rfl (PySem.evalArgs_none ?_)⟩
 refine call_meetsIn PySem.F.slot_dict_values raw.typeIs PySem.F.entry_dict_values (PySem.F.args_dict_values_1 _) (JF a hd) ⟨⟨es,es.size,raw⟩,?_⟩;have I2:L2.Inv X pQ σ H1 { s1 with heap:=s1.heap.push { cls:=.type "dict_values",data:=.fields #[.ref a] } }:=I1.kept (t':=s1.toks) fun b o e=>Heap.get?_push_of_some _ e
 refine Zbs (s:={ s1 with heap:=s1.heap.push { cls:=.type "dict_values",data:=.fields #[.ref a] } }) (es:=es) (ep:=es.size) ⟨_,Heap.get?_push_size _ rfl,rfl,rfl⟩ ⟨o',Heap.get?_push_of_some _ h1,h2,h3⟩ ?_
 refine⟨_,[_],_,_,H1,rfl,I2.kept (t':=s1.toks) fun b o e=>Heap.get?_push_of_some _ e,ZbI a _ _,⟨_,Heap.get?_push_size _ rfl,rfl,by rw[hs];rfl⟩,fun b hb=>?_,q⟩
 rw[List.mem_singleton.mp hb];exact I2.fpOk (Nat.le_refl _) (I2.hok.fresh (Nat.le_refl _))
end
end Dp



namespace Dp
open PySem PySem.Spec PyProof.Rows L2
variable [ClsTab]
section
open Builtin
open AutoSeq1 (wpAny_loadPart')
theorem WD:fillsNumberSlot (.type "tuple") "mul"=pure false:=
 PySem.fillsNumberSlot_seq (id := "tuple.__mul__") (r:=some (.builtin "tuple.__rmul__")) F.slot_tuple_mul.lookup (by decide +kernel) F.slot_tuple_rmul.lookup (by decide +kernel)
theorem Qa:seqRepeat? (.type "tuple")=pure (some (.builtin "tuple.__mul__")):=by
 unfold seqRepeat?
 rw[PySem.seqSlot_of (T := "tuple") (name := "__mul__") (id := "tuple.__mul__") F.slot_tuple_mul.lookup (by decide +kernel),PySem.seqSlot_of (T := "tuple") (name := "__rmul__") (id := "tuple.__rmul__") F.slot_tuple_rmul.lookup (by decide +kernel)]
 rfl
theorem JP(a:Int)(t:Tok)(l:Ad)(items:Array vL)(n:Nat)(dd:Ot Ad)(sl:Array (Ot vL)):Meets (Builtin.«int.__rmul__» ⟨[.int a t,.ref l],[]⟩) (fun _ R s=>s.heap.get? l=some { cls:=.type "tuple",dict:=dd,data:=.seq items n,slots:=sl }/\R (.ok (.ret Value.notImplemented)) s):=
 .of_wp fun prog w A R s h=>by obtain⟨hp,g,d,tk,os⟩:=s;obtain⟨hl,h⟩:=h;wp_walk;exact⟨_,rfl,h⟩
theorem ZdN(l:Ad)(items:Array vL)(n:Nat)(dd:Ot Ad)(sl:Array (Ot vL))(u:Tok) :
  Meets (Builtin.«tuple.__mul__» ⟨[.ref l,.int 1 u],[]⟩) (fun _ R s=>s.heap.get? l=some { cls:=.type "tuple",dict:=dd,data:=.seq items n,slots:=sl }/\R (.ok (.ret (Value.ref l))) s):=
 .of_wp fun prog w A R s h=>by
  obtain⟨hp,g,d,tk,os⟩:=s;obtain⟨hl,h⟩:=h;have f1:=AutoSeq1.idx_int;wp_walk using wpAny_loadPart' hl;exact⟨_,rfl,h⟩
theorem ZdM(l:Ad)(items:Array vL)(n:Nat)(dd:Ot Ad)(sl:Array (Ot vL))(k:Int)(u:Tok)(h0:¬items.isEmpty=true)(h1:k<=0)(h2:-1000<=k) :
  Meets (Builtin.«tuple.__mul__» ⟨[.ref l,.int k u],[]⟩) (fun _ R s=>s.heap.get? l=some { cls:=.type "tuple",dict:=dd,data:=.seq items n,slots:=sl }/\R (.ok (.ret (Value.ref s.heap.objs.size))) { s with heap:=s.heap.push { cls:=.type "tuple",data:=.seq #[] } }):=
 .of_wp fun prog w A R s h=>by
  obtain⟨hp,g,d,tk,os⟩:=s;obtain⟨hl,h⟩:=h;have f1:=AutoSeq1.idx_int;have a1:(decide (k < -(2 ^ 63))||decide (k>=2 ^ 63))=false:=by rw[decide_eq_false (by omega),decide_eq_false (by omega)];rfl
  have a2:(items.isEmpty||k==1)=false:=by
   have:(k==1)=false:=by rw[beq_eq_false_iff_ne];omega
   rw[this,Bool.or_false];simpa using h0
  have a3:(decide (k<=0)||items.isEmpty)=true:=by rw[decide_eq_true h1];rfl
  wp_walk using wpAny_loadPart' hl
  refine wpAny_ite_false (by rw[a1];rfl) ?_
  wp_walk using wpAny_loadPart' hl
  refine wpAny_ite_false (by rw[a2];rfl) ?_
  wp_walk using wpAny_loadPart' hl
  exact⟨_,rfl,h⟩
theorem ZdO(l:Ad)(items:Array vL)(n:Nat)(dd:Ot Ad)(sl:Array (Ot vL))(k:Int)(u:Tok)(h0:items.size=1)(h1:2<=k)(h2:k<=1000) :
  Meets (Builtin.«tuple.__mul__» ⟨[.ref l,.int k u],[]⟩) (fun _ R s=>s.heap.get? l=some { cls:=.type "tuple",dict:=dd,data:=.seq items n,slots:=sl }/\R (.ok (.ret (Value.ref s.heap.objs.size))) { s with heap:=s.heap.push { cls:=.type "tuple",data:=.seq ((List.replicate k.toNat items).foldl (fun x1 x2=>x1++x2) #[]) } }):=
 .of_wp fun prog w A R s h=>by
  obtain⟨hp,g,d,tk,os⟩:=s;obtain⟨hl,h⟩:=h;have f1:=AutoSeq1.idx_int;have a1:(decide (k < -(2 ^ 63))||decide (k>=2 ^ 63))=false:=by rw[decide_eq_false (by omega),decide_eq_false (by omega)];rfl
  have ae:items.isEmpty=false:=by
   rw[Array.isEmpty_eq_false_iff];intro z;rw[z]at h0;simp at h0
  have a2:(items.isEmpty||k==1)=false:=by
   have:(k==1)=false:=by rw[beq_eq_false_iff_ne];omega
   rw[this,Bool.or_false];exact ae
  have a3:(decide (k<=0)||items.isEmpty)=false:=by rw[decide_eq_false (by omega),ae];rfl
  have a4:decide ((items.size:Int) * k > (2 ^ 63 - 1) / 8)=false:=by rw[h0];exact decide_eq_false (by omega)
  have a5:Tuple.tupleTooMany ((items.size:Int) * k)=false:=by
   unfold Tuple.tupleTooMany;rw[h0];exact decide_eq_false (by have:(sizeLine:Int)>=1000:=(by decide);omega)
  have a6:decide (((List.replicate k.toNat items).foldl (fun x1 x2=>x1++x2) #[]).size > sizeLine)=false:=by
   rw[AutoListH.size_joined];refine decide_eq_false ?_;have:sizeLine>=1000:=by decide
   simp only[h0,Array.size_empty];omega
  wp_walk using wpAny_loadPart' hl
  refine wpAny_ite_false (by rw[a1];rfl) ?_
  wp_walk using wpAny_loadPart' hl
  refine wpAny_ite_false (by rw[a2];rfl) ?_
  wp_walk using wpAny_loadPart' hl
  refine wpAny_ite_false (by rw[a3];rfl) ?_
  wp_walk using wpAny_loadPart' hl
  refine wpAny_ite_false a4 ?_
  wp_walk using wpAny_loadPart' hl
  refine wpAny_ite_false (by rw[a5];rfl) ?_
  wp_walk using wpAny_loadPart' hl
  exact⟨_,rfl,h⟩
theorem Zfm{X:Cx}{pQ:Li (Ad×Obj)}{s:Sd}{σ:L2.St}{H:Hp}{a:Ad}{v:V}{k:Int}{t:Tok}{Q:VK}(I:L2.Inv X pQ σ H s)(ha:TupAt X.K H a [v])(h1:k<=1000)(h2:-1000<=k)(q1:k=1->Q (.ref a) H)(q2:∀ p,H p=none->Q (.ref p) (upd H p (.tup (List.replicate k.toNat v)))):wpAny (model X.prog X.w) X.A (binaryOp .Mult (.ref a) (.int k t)) (EP X pQ σ Q) X.xe s:=by
 obtain⟨its,r,p1,_⟩:=I.tuple (ha.sq);obtain⟨u,rfl,ru⟩:=r.one;obtain⟨⟨c1,dd,dt,sl⟩,ho,hc,n,hd⟩:=id p1;simp only at hc hd;subst hc hd;have fin:∀ its':Li vL,Vals (List.replicate k.toNat v) its'->EP X pQ σ Q (.ref s.heap.objs.size) { s with heap:=s.heap.push { cls:=.type "tuple",data:=.seq its'.toArray } }:=fun its' r'=>
  ⟨.ref s.heap.objs.size,_,I.laid (t':=s.toks) (o:=.tup (List.replicate k.toNat v)) (fun b ob q=>Heap.get?_push_of_some _ q) (Nat.le_refl _) ⟨by rw[List.length_replicate];exact Nat.le_trans (show k.toNat<=1000 by omega) (by decide),its',r',IsTup.new _ _⟩,rfl,q2 _ (I.hok.fresh (Nat.le_refl _))⟩
 refine wpAny_binaryOp_repeat_ref (T := "tuple") (U := "int") (by decide) ⟨_,ho,rfl⟩ (fun s'=>typeIs_int s' k t) WD F.fills_int_mul F.slot_int_rmul Qa F.slot_int_index.lookup
  (call_meets F.slot_int_rmul (typeIs_int s k t) F.entry_int_rmul (F.args_int_rmul_2 _ _) (JP k t a _ n dd sl) ⟨ho,rfl,⟨_,ho,rfl⟩,?_⟩)
 by_cases e1:k=1
 ·subst e1
  exact call_meets F.slot_tuple_mul ⟨_,ho,rfl⟩ F.entry_tuple_mul (F.args_tuple_mul_2 _ _) (ZdN a _ n dd sl t) ⟨ho,⟨.ref a,H,I,rfl,q1 rfl⟩⟩
 ·by_cases e0:k<=0
  ·refine call_meets F.slot_tuple_mul ⟨_,ho,rfl⟩ F.entry_tuple_mul (F.args_tuple_mul_2 _ _) (ZdM a _ n dd sl k t (by simp) e0 h2) ⟨ho,?_⟩
   have z:k.toNat=0:=by omega
   exact fin [] (by rw[z];exact .nil)
  ·refine call_meets F.slot_tuple_mul ⟨_,ho,rfl⟩ F.entry_tuple_mul (F.args_tuple_mul_2 _ _) (ZdO a _ n dd sl k t (by simp) (by omega) h1) ⟨ho,?_⟩
   have e:List.foldl (fun x1 x2=>x1++x2) #[] (List.replicate k.toNat [u].toArray)=(List.replicate k.toNat u).toArray:=by
    have e2:=foldl_rep [u] k.toNat [];rw[List.nil_append]at e2;rw[show([]:Li vL).toArray=#[] from rfl]at e2;rw[e2]
    congr 1
    generalize k.toNat=j
    induction j with
    |zero=>rfl
    |succ j ih=>rw[List.replicate_succ,List.flatten_cons,ih,List.replicate_succ];rfl
   rw[e];refine fin _ ?_;generalize k.toNat=j
   induction j with
   |zero=>exact .nil
   |succ j ih=>exact .cons ru ih
end
theorem YM:Zs<=sizeLine:=by decide
section
variable {X:Cx}
theorem ZcL{i:Int}(h:YD i=true):-(2 ^ 64) < i/\i < 2 ^ 64:=by
 unfold YD at h;rw[Ba]at h;exact⟨of_decide_eq_true h.1,of_decide_eq_true h.2⟩
theorem Zec{pQ:Li (Ad×Obj)}{s:Sd}{σ:L2.St}{H:Hp}{a b:Ad}{xs ys:Li V}{Q:VK}(I:Inv X pQ σ H s)(ha:TupAt X.K H a xs)(hb:TupAt X.K H b ys)(hz:xs.length+ys.length<=sizeLine)(q0:xs=[]->Q (.ref b) H)(q1:ys=[]->Q (.ref a) H)(q2:∀ p,H p=none->Q (.ref p) (upd H p (.tup (xs++ys)))):wpAny (model X.prog X.w) X.A (binaryOp .Add (.ref a) (.ref b)) (EP X pQ σ Q) X.xe s:=by
 by_cases hx:xs=[]
 ·obtain⟨its,r1,p1,_⟩:=I.tuple (ha.sq)
  obtain⟨its2,r2,p2,_⟩:=I.tuple (hb.sq);have e1:its=[]:=r1.nil_iff.mpr hx;subst e1;obtain⟨⟨c1,dd,dt,sl⟩,ho,hc,n,hd⟩:=id p1;obtain⟨⟨c2,dd2,dt2,sl2⟩,ho2,hc2,n2,hd2⟩:=id p2;simp only at hc hd hc2 hd2;subst hc hd hc2 hd2;exact concat_meets ⟨_,ho,rfl⟩ ⟨_,ho2,rfl⟩ noFill_tuple_add seq_tuple_add PySem.F.slot_tuple_add PySem.F.entry_tuple_add (PySem.F.args_tuple_add_2 _ _)
   (tuple_addW0 a b #[] its2.toArray n n2 dd dd2 sl sl2 rfl) ⟨ho,ho2,⟨.ref b,H,I,rfl,q0 hx⟩⟩
 ·exact op_catT pQ s σ H (.ref a) (.ref b) _ _ Q I rfl rfl ⟨a,b,xs,ys,rfl,rfl,(ha).sq,(hb).sq,hx,hz,q1,fun _=>q2⟩
theorem Ze7{op:Operator}{i j k:Int}{pQ:Li (Ad×Obj)}{s:Sd}{σ:L2.St}{H:Hp}{v u:vL}{Q:VK}(I:L2.Inv X pQ σ H s)(rx:RelV (.int i) v)(ry:RelV (.int j) u)(e:UH op i j=some k)(p:Q (.int k) H) :
  wpAny (model X.prog X.w) X.A (binaryOp op v u) (EP X pQ σ Q) X.xe s:=by
 unfold UH at e;split at e
 ·cases e
  exact op_add pQ s σ H _ _ v u Q I rx ry ⟨_,_,rfl,rfl,p⟩
 ·cases e
  exact op_sub pQ s σ H _ _ v u Q I rx ry ⟨_,_,rfl,rfl,p⟩
 ·split at e
  ·rename_i hl
   cases e;refine op_mul pQ s σ H _ _ v u Q I rx ry ⟨_,_,rfl,rfl,?_,p⟩;rw[Bool.or_eq_true]at hl;exact hl.elim (fun z=>.inl (ZcL z)) fun z=>.inr (ZcL z)
  ·cases e
 ·split at e
  ·rename_i hl
   cases e;exact op_fdiv pQ s σ H _ _ v u Q I rx ry ⟨_,_,rfl,rfl,hl,p⟩
  ·split at e
   ·rename_i hl
    cases e;exact op_fdivN pQ s σ H _ _ v u Q I rx ry ⟨_,_,rfl,rfl,⟨by omega,by omega⟩,p⟩
   ·cases e
 ·split at e
  ·rename_i hl
   cases e;exact op_mod pQ s σ H _ _ v u Q I rx ry ⟨_,_,rfl,rfl,hl,p⟩
  ·split at e
   ·rename_i hl
    cases e;exact op_modN pQ s σ H _ _ v u Q I rx ry ⟨_,_,rfl,rfl,(by omega),p⟩
   ·cases e
 ·cases e
theorem Za6{pQ:Li (Ad×Obj)}{s:Sd}{σ:L2.St}{H:Hp}{a b:Ad}{xs ys:Li V}{Q:VK}(I:L2.Inv X pQ σ H s)(ha:SqL X.K H a xs)(hb:SqL X.K H b ys)(hz:xs.length+ys.length<=sizeLine)(q:∀ p,H p=none->Q (.ref p) (upd H p (.lst (xs++ys)))):wpAny (model X.prog X.w) X.A (binaryOp .Add (.ref a) (.ref b)) (EP X pQ σ Q) X.xe s:=by
 obtain⟨its,r,p1,_⟩:=I.list ha;obtain⟨its2,r2,p2,_⟩:=I.list hb;obtain⟨⟨cls,dd,data,sl⟩,ho,hc,n,hd⟩:=id p1.isList;obtain⟨⟨cls2,dd2,data2,sl2⟩,ho2,hc2,n2,hd2⟩:=id p2.isList;simp only at hc hd hc2 hd2;subst hc hd hc2 hd2;have e:its.toArray++its2.toArray=(its++its2).toArray:=by simp
 have l1:=r.length;have l2:=r2.length;refine concat_meets ⟨_,ho,rfl⟩ ⟨_,ho2,rfl⟩ noFill_list_add seq_list_add PySem.F.slot_list_add PySem.F.entry_list_add (PySem.F.args_list_add_2 _ _) (list_addW a b its.toArray its2.toArray n n2 dd dd2 sl sl2 (by simp;omega)) ⟨ho,ho2,?_⟩
 rw[e];exact⟨.ref _,_,I.lnew (t':=s.toks) (r.append r2) (by rw[List.length_append];omega),rfl,q _ I.fresh⟩
theorem Jd{op:Operator}(h:Xi op=true):op=.Add:=by cases op<;>first|rfl|cases h
theorem ZcR{op:Operator}(h:WQ op=true):op=.Mult:=by cases op<;>first|rfl|cases h
theorem Ze6{op:Operator}:OpR X (binaryOp op) (rD X.K (Ql op)):=by
 intro pQ s σ H x y v u Q I rx ry h;obtain⟨ad,st,dx,dy,d,st',S,hx,hy,e,p⟩:=h;unfold Ql at e;split at e
 ·split at e
  ·rename_i k q
   cases e;cases hx;cases hy
   exact Ze7 I rx ry q (p.at S (.int _))
  ·exact Zb e
 ·split at e
  ·rename_i hz0
   cases Jd hz0.1
   have hz:=hz0.2;cases e;obtain⟨a,xs,rfl,ha,r1⟩:=hx.ofTup;obtain⟨b,ys,rfl,hb,r2⟩:=hy.ofTup;cases rx;cases ry
   refine Zec I ha hb (by rw[r1.length,r2.length];exact Nat.le_trans hz YM) (fun z=>?_) (fun z=>?_) fun q hq=>?_
   ·subst z;cases r1
    exact p.at S hy
   ·subst z;cases r2
    rw[List.append_nil]at p;exact p.at S hx
   ·exact p _ ad _ (Ext.laid hq) (S.laid hq) (.tup (.inl upd_same) ((r1.append r2).mono (Ext.laid hq)))
  ·exact Zb e
 ·split at e
  ·rename_i hz0
   cases ZcR hz0
   obtain⟨a,xs,rfl,ha,r1⟩:=hx.ofTup;cases hy;cases rx;obtain⟨t,rfl⟩:=ry;cases r1 with
   |nil=>exact Zb e
   |cons d1 r1=>cases r1 with
    |cons _ _=>exact Zb e
    |nil=>
     have e:(if _/\_ then some (D.tup (List.replicate _ _),st) else none)=some (d,st'):=e
     split at e
     ·rename_i hz
      cases e;refine Zfm I ha hz.1 hz.2 (fun z=>?_) fun q hq=>p _ ad _ (Ext.laid hq) (S.laid hq) (.tup (.inl upd_same) ((Dens.rep d1 _).mono (Ext.laid hq)))
      subst z;exact p.at S (.tup ha (.cons d1 .nil))
     ·exact Zb e
  ·exact Zb e
 ·split at e
  ·rename_i hop
   cases Jd hop
   unfold Zeb at e;split at e
   ·rename_i xs ys q1 q2
    split at e
    ·rename_i hz
     cases e;obtain⟨a,rfl,ha⟩:=hx.ofLst;obtain⟨b,rfl,hb⟩:=hy.ofLst;obtain⟨vs,r1,h1⟩:=S.list ha q1;obtain⟨ws,r2,h2⟩:=S.list hb q2;cases rx;cases ry
     refine Za6 I h1 h2 (by rw[r1.length,r2.length];exact Nat.le_trans hz YM) fun q hq=>?_
     refine p _ (ad++[q]) _ (Ext.push hq) (S.push hq (r1.append r2)) (.newL ?_);rw[<-S.len];exact ZE
    ·exact Zb e
   ·exact Zb e
  ·exact Zb e
 ·split at e
  ·rename_i hop
   cases ZcR hop
   unfold Zfl at e;split at e
   ·rename_i z q1
    split at e
    ·rename_i hz
     cases e;obtain⟨a,rfl,ha⟩:=hx.ofLst;obtain⟨vs,r1,h1⟩:=S.listM ha q1;cases hy;cases r1 with
     |cons d1 r1=>
      cases r1;rename_i w;refine op_rep pQ s σ H _ _ v u Q I rx ry ⟨a,_,[w],rfl,rfl,h1,by omega,by omega,?_,fun q hq=>?_⟩
      ·rw[List.length_singleton,Nat.one_mul]
       exact Nat.le_trans (show _<=1000 by omega) (by decide)
      ·have e1:∀ k:Nat,(List.replicate k [w]).flatten=List.replicate k w:=fun k=>by
        induction k with
        |zero=>rfl
        |succ k ih=>rw[List.replicate_succ,List.flatten_cons,ih,List.replicate_succ];rfl
       rw[e1];refine p _ (ad++[q]) _ (Ext.push hq) (S.push hq (Dens.rep d1 _)) (.newL ?_);rw[<-S.len];exact ZE
    ·exact Zb e
   ·exact Zb e
  ·exact Zb e
 ·split at e
  ·rename_i hz
   cases Jd hz.1
   cases e;cases hx;cases hy
   exact op_add_str pQ s σ H _ _ v u Q I rx ry ⟨_,_,rfl,rfl,Nat.le_trans hz.2 YM,p.at S (.str _)⟩
  ·exact Zb e
 ·exact Zb e
theorem ZfN:UnR X (unaryOp .USub) (rU1 X.K ZeZ):=by
 intro pQ s σ H x v Q I rx h;obtain⟨ad,st,dx,d,st',S,hx,e,p⟩:=h;unfold ZeZ at e;split at e
 ·cases e;cases hx
  exact un_neg pQ s σ H _ v Q I rx ⟨_,rfl,p.at S (.int _)⟩
 ·exact Zb e
theorem Ji{xs:Li V}{ds:Li D}{ad:Li Ad}{H:Hp}{i:Int}{d:D}(r:Dens X.K ad H xs ds)(e:atD ds i=some d):∃ v,atI xs i=some v/\Den X.K ad H v d:=by
 unfold atD at e;have hl:L2.ixN xs.length i=Dp.ixN ds.length i:=by rw[r.length];rfl
 cases q:Dp.ixN ds.length i with
 |none=>rw[q]at e;cases e
 |some j=>
  rw[q]at e;obtain⟨v,e1,e2⟩:=r.get (i:=j) e;refine⟨v,?_,e2⟩;unfold atI;rw[hl,q];exact e1
theorem Wn{ad:Li Ad}{H:Hp}{k:Str}:∀ {ks:Li Str}{vs:Li V}{ds:Li D},Dens X.K ad H vs ds->ks.length=vs.length->
  (∃ v d,valV ((ks.zip vs).map fun p=>((Sum.inr p.1:Key),p.2)) (Sum.inr k)=some v/\ZK ks ds k=some d/\Den X.K ad H v d)\/(valV ((ks.zip vs).map fun p=>((Sum.inr p.1:Key),p.2)) (Sum.inr k)=none/\ZK ks ds k=none)
 |[],_,_,.nil,_=>.inr ⟨rfl,rfl⟩
 |[],_,_,.cons _ _,h=>by simp at h
 |_ :: _,_,_,.nil,h=>by simp at h
 |x :: ks,v :: vs,d :: ds,.cons hd r,h=>by
  by_cases e:x=k
  ·subst e
   exact .inl ⟨v,d,valV_pos rfl,by simp[ZK],hd⟩
  ·have ih:=Wn (k:=k) r (by simpa using h)
   have e1:valV (((x :: ks).zip (v :: vs)).map fun p=>((Sum.inr p.1:Key),p.2)) (Sum.inr k)=valV ((ks.zip vs).map fun p=>((Sum.inr p.1:Key),p.2)) (Sum.inr k):=valV_neg (p:=(Sum.inr x,v)) (by intro z;exact e (Sum.inr.inj z))
   have e2:ZK (x :: ks) (d :: ds) k=ZK ks ds k:=by simp[ZK,e]
   rw[e1,e2];exact ih
theorem ZiA{x:Str}{i:Int}{d:D}(q:atD ((chS x).map D.str) i=some d):∃ c,atI x.cps.toList i=some c/\d=.str ⟨#[c]⟩:=by
 unfold atD at q;unfold atI;have hl:((chS x).map D.str).length=x.cps.toList.length:=by simp[chS]
 rw[hl]at q;show ∃ c,(Dp.ixN x.cps.toList.length i).bind (fun j=>x.cps.toList[j]?)=some c/\_
 cases e:Dp.ixN x.cps.toList.length i with
 |none=>rw[e]at q;cases q
 |some j=>
  rw[e]at q;have q:((chS x).map D.str)[j]?=some d:=q;unfold chS at q;rw[List.getElem?_map,List.getElem?_map]at q;show ∃ c,x.cps.toList[j]?=some c/\_;cases e2:x.cps.toList[j]? with
  |none=>rw[e2]at q;cases q
  |some c=>rw[e2]at q;cases q;exact⟨c,rfl,rfl⟩
theorem Zkr(hu:X.A.units+64 < cLine):IxR X (rD X.K ixR):=by
 intro value slice pQ s σ H x y v u Q I rx ry h hs;obtain⟨ad,st,dx,dy,d,st',S,hx,hy,e,p⟩:=h;unfold ixR at e;split at e
 ·rename_i d' q
  cases e;unfold ixD at q;split at q
  ·obtain⟨a,xs,rfl,ha,r⟩:=hx.ofTup
   cases hy;obtain⟨w,e1,e2⟩:=Ji r q;exact ix_tup value slice pQ s σ H _ _ v u Q I rx ry ⟨a,xs,_,w,rfl,rfl,(ha).sq,e1,p.at S e2⟩ hs
  ·split at q
   ·rename_i q0
    obtain⟨a,rfl,ha⟩:=hx.ofLst;cases hy;obtain⟨xs,r,sq⟩:=S.list ha q0;obtain⟨w,e1,e2⟩:=Ji r q;exact ix_list value slice pQ s σ H _ _ v u Q I rx ry ⟨a,xs,_,w,rfl,rfl,sq,e1,p.at S e2⟩ hs
   ·exact Zb q
  ·obtain⟨a,vs,rfl,ha,hl,r⟩:=hx.ofDct
   cases hy;rcases Wn r hl with⟨w,d0,e1,e2,e3⟩|⟨_,e2⟩
   ·rw[e2]at q
    cases q;exact ix_dct value slice pQ s σ H _ _ v u Q I rx ry ⟨a,_,Sum.inr _,w,rfl,rfl,ha,e1,p.at S e3⟩ hs
   ·rw[e2]at q;cases q
  ·obtain⟨a,o,its,n,rfl,h1,h2,h3,h4,h5⟩:=hx.ofKt
   cases hy;obtain⟨w,e1,e2⟩:=Ji (Uw _) q;exact ix_tup value slice pQ s σ H _ _ v u Q I rx ry ⟨a,_,_,w,rfl,rfl,.inr ⟨o,its,n,h1,h2.1,h3,h4,h5⟩,e1,p.at S e2⟩ hs
  ·split at q
   ·rename_i hz
    cases hx;cases hy
    obtain⟨c,e1,rfl⟩:=ZiA q;exact ix_str value slice pQ s σ H _ _ v u Q I rx ry ⟨_,_,c,rfl,rfl,Nat.le_trans hz YM,e1,p.at S (.str _)⟩ hs
   ·exact Zb q
  ·exact Zb q
 ·exact Zb e
theorem Y7(n d:Nat)(o:Ot Int):Dp.sIx n d o=HT.sIx n d o:=by cases o<;>rfl
theorem Zb4{xs:Li V}{ds:Li D}{ad:Li Ad}{H:Hp}{lo hi:Ot Int}(r:Dens X.K ad H xs ds):Dens X.K ad H (cutV xs lo hi) (Zbc ds lo hi):=by
 unfold cutV Zbc;rw[<-r.length,Y7,Y7];exact(r.drop _).take _
theorem V3{prog:Program}{w:World}{A:Around}{E:vL->Sd->Prop}{s:Sd}{t sl:Ad}{items:Array vL}{vl vu:vL}{lo hi:Ot Int}{Q:vL->Sd->Prop}(ht:IsTup s.heap t items)(hs:s.heap.IsSliceOf sl vl vu .none)(pl:IsPart vl lo)(pu:IsPart vu hi)(hw:HT.sIx items.size 0 lo=0/\HT.sIx items.size items.size hi=items.size)(h:Q (.ref t) s):wpAny (model prog w) A (getItem (.ref t) (.ref sl)) Q E s:=by
 obtain⟨os,hos,hcs,hds⟩:=id hs;have hTs:s.TypeIs (.ref sl) "slice":=⟨os,hos,hcs⟩;unfold getItem
 try with_reducible refine wpAny_holding ?_
 first|refine wpAny_bind (wpAny_pure ?_)|skip
 refine wpAny_bind (wpAny_sequenceKey ht.typeIs (by decide) ?_)
 refine wpAny_bind (wpAny_callSpecial?_slot (name:=Str.ofString "__getitem__") ht.typeIs PyProof.Rows.slot_tuple_getitem
  (wpAny_call_entry PyProof.Rows.slot_tuple_getitem ht.typeIs PyProof.Rows.entry_tuple_getitem ?_ (PyProof.Rows.args_tuple_getitem _ _)))
 show wpAny _ _ (Builtin.Tuple.tupleItemsOf (.ref t) >>= _) _ _ s;refine wpAny_bind (tupleItemsOf_ ht ?_);refine wpAny_bind (wpAny_typeOf hTs ?_);rw[if_pos (by decide)]
 refine wpAny_bind (HT.sliceApplied_gen hs pl pu ?_);rw[hw.1,hw.2];have hyes:(((0:Nat):Int)==0&&(1:Int)==1&&(items.size - 0)==items.size)=true:=by simp
 show wpAny _ _ (if (((0:Nat):Int)==0&&(1:Int)==1&&(items.size - 0)==items.size)=true then _ else _) _ _ s
 rw[if_pos hyes];unfold Builtin.Tuple.tupleIsExact
 wp_walk using wpAny_typeOf ht.typeIs

 exact⟨_,rfl,wpAny_pure h⟩
theorem ZdE:SlR X (fun x lo hi H Q=>∃ a xs,x=.ref a/\SqT X.K H a xs/\(HT.sIx xs.length 0 lo=0/\HT.sIx xs.length xs.length hi=xs.length)/\Q (.ref a) H):=by
 intro pQ s σ H x v vl vu lo hi sl Q I rx hs pl pu h;obtain⟨a,xs,rfl,hx,hw,q⟩:=h;cases rx;obtain⟨its,r,ht,hz⟩:=I.tuple hx;have hlen:its.toArray.size=xs.length:=by rw[List.size_toArray];exact r.length.symm
 refine⟨"tuple",_,PyProof.Rows.slot_tuple_getitem.lookup,ht.typeIs,?_⟩;exact V3 ht hs pl pu (by rw[hlen];exact hw) ⟨.ref a,H,I,rfl,q⟩
theorem Zlf:SlR X (rSl X.K):=by
 intro pQ s σ H x v vl vu lo hi sl Q I rx hs pl pu h;obtain⟨ad,st,dx,d,st',S,hx,e,p⟩:=h;unfold Yx at e;split at e
 ·rename_i ds
  split at e
  ·rename_i hw
   cases e;obtain⟨a,xs,rfl,ha,r⟩:=hx.ofTup;refine ZdE pQ s σ H _ v vl vu lo hi sl Q I rx hs pl pu ⟨a,xs,rfl,ha.sq,?_,p.at S hx⟩;rw[r.length,<-Y7,<-Y7];exact hw
  ·rename_i hw
   cases e;obtain⟨a,xs,rfl,ha,r⟩:=hx.ofTup;refine sl_tup pQ s σ H _ v vl vu lo hi sl Q I rx hs pl pu ⟨a,xs,rfl,(ha).sq,?_,fun q hq=>p _ ad _ (Ext.laid hq) (S.laid hq) (.tup (.inl upd_same) ((Zb4 r).mono (Ext.laid hq)))⟩
   rw[r.length,<-Y7,<-Y7];exact hw
 ·split at e
  ·rename_i q0
   cases e;obtain⟨a,rfl,ha⟩:=hx.ofLst;obtain⟨xs,r,sq⟩:=S.list ha q0;refine sl_list pQ s σ H _ v vl vu lo hi sl Q I rx hs pl pu ⟨a,xs,rfl,sq,fun q hq=>p _ (ad++[q]) _ (Ext.push hq) (S.push hq (Zb4 r)) (.newL ?_)⟩
   rw[<-S.len];exact ZE
  ·exact Zb e
 ·exact Zb e
theorem WO{ad:Li Ad}{H:Hp}{vs:Li V}{d:D}(h:Dens X.K ad H vs [d]):∃ v,vs=[v]/\Den X.K ad H v d:=by
 cases h with
 |cons h r=>cases r;exact⟨_,rfl,h⟩
theorem ZfZ{ad:Li Ad}{H:Hp}{vs:Li V}{d e:D}(h:Dens X.K ad H vs [d,e]):∃ v w,vs=[v,w]/\Den X.K ad H v d/\Den X.K ad H w e:=by
 cases h with
 |cons h r=>
  cases r with
  |cons h' r=>cases r;exact⟨_,_,rfl,h,h'⟩
theorem YH{g:D->Za->Res}{ds:Li D}{st:Za}{r:D×Za}(h:on1 g ds st=some r):∃ d,ds=[d]/\g d st=some r:=by
 unfold on1 at h;split at h
 ·exact⟨_,rfl,h⟩
 ·exact Zb h
theorem Ur{g:D->D->Za->Res}{ds:Li D}{st:Za}{r:D×Za}(h:on2 g ds st=some r):∃ d e,ds=[d,e]/\g d e st=some r:=by
 unfold on2 at h;split at h
 ·exact⟨_,_,rfl,h⟩
 ·exact Zb h
theorem Za1:CallR X (.builtin "len") (rC X.K (on1 QK)):=by
 intro pQ s σ H xs us Q I r h;obtain⟨ad,st,ds,d,st',S,hd,e,p⟩:=h;obtain⟨x,rfl,e1⟩:=YH e;have e:=e1;obtain⟨v,rfl,hv⟩:=WO hd;unfold QK at e;split at e
 ·rename_i n q
  cases e;unfold ZeQ at q;split at q
  ·cases q
   obtain⟨a,ys,rfl,ha,rr⟩:=hv.ofTup;refine call_len_seq pQ s σ H _ us Q I r ⟨a,ys,rfl,.inr ((ha).sq),?_⟩;rw[rr.length];exact p.at S (.int _)
  ·split at q
   ·rename_i q0
    cases q;obtain⟨a,rfl,ha⟩:=hv.ofLst;obtain⟨ys,rr,sq⟩:=S.list ha q0;refine call_len_seq pQ s σ H _ us Q I r ⟨a,ys,rfl,.inl sq,?_⟩;rw[rr.length];exact p.at S (.int _)
   ·cases q
  ·cases q
   obtain⟨a,o,its,n,rfl,h1,h2,h3,h4,h5⟩:=hv.ofKt;refine call_len_seq pQ s σ H _ us Q I r ⟨a,_,rfl,.inr (.inr ⟨o,its,n,h1,h2.1,h3,h4,h5⟩),?_⟩;rw[List.length_map];exact p.at S (.int _)
  ·split at q
   ·rename_i hz
    cases q;cases hv
    exact call_len pQ s σ H _ us Q I r ⟨_,_,rfl,⟨Nat.le_trans hz YM,rfl⟩,p.at S (.int _)⟩
   ·cases q
  ·cases q
 ·exact Zb e
theorem Qn:CallR X (.type "tuple") (rC X.K (on1 XH)):=by
 intro pQ s σ H xs us Q I r h;obtain⟨ad,st,ds,d,st',S,hd,e,p⟩:=h;obtain⟨x,rfl,e1⟩:=YH e;have e:=e1;obtain⟨v,rfl,hv⟩:=WO hd;unfold XH at e;split at e
 ·cases e
  obtain⟨a,ys,rfl,ha,rr⟩:=hv.ofTup;exact call_tuple_of pQ s σ H _ us Q I r ⟨a,ys,rfl,.inr ⟨(ha).sq,p.at S hv⟩⟩
 ·split at e
  ·rename_i q0
   cases e;obtain⟨a,rfl,ha⟩:=hv.ofLst;obtain⟨ys,rr,sq⟩:=S.list ha q0;exact call_tuple_of pQ s σ H _ us Q I r ⟨a,ys,rfl,.inl ⟨sq,fun l hl=>p _ ad _ (Ext.laid hl) (S.laid hl) (.tup (.inl upd_same) (rr.mono (Ext.laid hl)))⟩⟩
  ·cases e
 ·cases e
theorem Jl:CallR X (.type "list") (rC X.K (on1 Ul)):=by
 intro pQ s σ H xs us Q I r h;obtain⟨ad,st,ds,d,st',S,hd,e,p⟩:=h;obtain⟨x,rfl,e1⟩:=YH e;have e:=e1;obtain⟨v,rfl,hv⟩:=WO hd;unfold Ul at e;split at e
 ·cases e
  obtain⟨a,ys,rfl,ha,rr⟩:=hv.ofTup;refine call_list_of pQ s σ H _ us Q I r ⟨a,ys,rfl,.inr ((ha).sq),fun l hl=>p _ (ad++[l]) _ (Ext.push hl) (S.push hl rr) (.newL ?_)⟩
  rw[<-S.len];exact ZE
 ·split at e
  ·rename_i q0
   cases e;obtain⟨a,rfl,ha⟩:=hv.ofLst;obtain⟨ys,rr,sq⟩:=S.list ha q0;refine call_list_of pQ s σ H _ us Q I r ⟨a,ys,rfl,.inl sq,fun l hl=>p _ (ad++[l]) _ (Ext.push hl) (S.push hl rr) (.newL ?_)⟩
   rw[<-S.len];exact ZE
  ·cases e
 ·cases e
theorem Za0:CallR X (.type "int") (rC X.K (on1 ZeJ)):=by
 intro pQ s σ H xs us Q I r h;obtain⟨ad,st,ds,d,st',S,hd,e,p⟩:=h;obtain⟨x,rfl,e1⟩:=YH e;have e:=e1;obtain⟨v,rfl,hv⟩:=WO hd;unfold ZeJ at e;split at e
 ·cases e;cases hv
  exact call_int1 pQ s σ H _ us Q I r (.inl ⟨_,rfl,p.at S (.int _)⟩)
 ·cases e;cases hv
  exact call_int1 pQ s σ H _ us Q I r (.inr ⟨true,rfl,p.at S (.int _)⟩)
 ·cases e;cases hv
  exact call_int1 pQ s σ H _ us Q I r (.inr ⟨false,rfl,p.at S (.int _)⟩)
 ·exact Zb e
theorem Za3(hc:X.calm=true):CallR X (.builtin "min") (rC X.K (on2 ZeY)):=by
 intro pQ s σ H xs us Q I r h;obtain⟨ad,st,ds,d,st',S,hd,e,p⟩:=h;obtain⟨x,y,rfl,e1⟩:=Ur e;have e:=e1;obtain⟨v,w,rfl,hv,hw⟩:=ZfZ hd;unfold ZeY at e;split at e
 ·cases e;cases hv;cases hw
  exact call_min2 hc pQ s σ H _ us Q I r ⟨_,_,rfl,p.at S (.int _)⟩
 ·exact Zb e
theorem Za2(hc:X.calm=true):CallR X (.builtin "max") (rC X.K (on2 ZeV)):=by
 intro pQ s σ H xs us Q I r h;obtain⟨ad,st,ds,d,st',S,hd,e,p⟩:=h;obtain⟨x,y,rfl,e1⟩:=Ur e;have e:=e1;obtain⟨v,w,rfl,hv,hw⟩:=ZfZ hd;unfold ZeV at e;split at e
 ·cases e;cases hv;cases hw
  exact call_max2 hc pQ s σ H _ us Q I r ⟨_,_,rfl,p.at S (.int _)⟩
 ·exact Zb e
noncomputable def tyN:Ty->String
 |.int => "int"
 |.bool => "bool"
 |.str => "str"
 |.tuple => "tuple"
noncomputable def ZcF:D->String
 |.int _ => "int"
 |.bl _ => "bool"
 |.str _ => "str"
 |.tup _ => "tuple"
 |.non => "NoneType"
 |_ => "list"
theorem ZcG(K:Fg){T:Ty}{d:D}{k:Bool}(h:ZeP T d=some k):PySem.W.kitOne K (.type (ZcF d)) (.type (tyN T))=some k:=by
 cases d<;>first | (cases h;done) | (cases T<;>(cases h;rfl))
theorem Zjs{K:Fg}{ad:Li Ad}{H:Hp}{v:V}{d:D}{T:Ty}{k:Bool}(h:ZeP T d=some k)(hv:Den K ad H v d):TyOf K H v (.type (ZcF d))\/∃ a xs,v=.ref a/\SqT K H a xs/\ZcF d = "tuple":=by
 cases hv with
 |non=>exact .inl .non
 |bl b=>exact .inl (.bl b)
 |int i=>exact .inl (.int i)
 |str x=>exact .inl (.str x)
 |tup e r=>exact .inr ⟨_,_,rfl,e.sq,rfl⟩
 |lst e=>exact Zb h
 |dic _ _=>exact Zb h
 |dct _ _ _ _ _=>exact Zb h
 |obj _ _=>exact Zb h
 |kt _ _ _ _ _ _=>exact Zb h
theorem Zb0{T:Ty}:CallR X (.builtin "isinstance") (fun vs H Q=>∃ v,vs=[v,.ty (tyN T)]/\rC X.K (on1 (Jv T)) [v] H Q):=by
 intro pQ s σ H xs us Q I r h;obtain⟨v,rfl,ad,st,ds,d,st',S,hd,e,p⟩:=h;obtain⟨x,rfl,e1⟩:=YH e;have e:=e1;obtain⟨w,hw,hv⟩:=WO hd;cases hw;unfold Jv at e;split at e
 ·rename_i k q
  cases e;cases r with
  |cons r1 r2=>
   cases r2 with
   |cons r3 r4=>
    cases r4;cases r3;rcases Zjs q hv with ty|⟨a,zs,rfl,sq,kd⟩
    ·exact isinst_ok I r1 ty (ZcG X.K q) fun tk=>⟨.bl k,H,I.tok _,rfl,p.at S (.bl k)⟩
    ·have kt:=ZcG X.K q
     rw[kd]at kt;cases r1;obtain⟨its,_,pp,_⟩:=I.tuple sq;obtain⟨o,h1,h2,_⟩:=pp;exact PySem.W.kia_one PySem.W.kitx_tuple I.kIn ⟨o,h1,h2⟩ kt (fun z=>nomatch z) fun tk=>⟨.bl k,H,I.tok _,rfl,p.at S (.bl k)⟩
 ·exact Zb e
end
section
variable {X:Cx}
theorem ZdH{i j:Int}{ns:Li Int}(h1:ns.Perm [i,j])(h2:ns.Pairwise (·<=·)):ns=if j < i then [j,i] else [i,j]:=by
 have hl:=h1.length_eq
 match ns,hl with
 |[a,b],_=>
  have ha:a=i\/a=j:=by
   have:=h1.subset (Ls (a:=a) (l:=[b]));simpa using this
  have hle:a<=b:=by simpa using h2
  rcases ha with rfl|rfl
  ·have hb:b=j:=by
    have:=List.perm_singleton.mp (h1.cons_inv);simpa using this
   subst hb;split
   ·have:a=b:=by omega
    subst this;rfl
   ·rfl
  ·have hb:b=i:=by
    have:=List.perm_singleton.mp ((h1.trans (List.Perm.swap a i [])).cons_inv);simpa using this
   subst hb;split
   ·rfl
   ·have:a=b:=by omega
    subst this;rfl
theorem Uj:∀ {its:Li vL}{ns:Li Int},IntsAre its ns->Vals (ns.map V.int) its
 |_,_,.nil=>.nil
 |_,_,.cons n t r=>.cons ⟨t,rfl⟩ (Uj r)
theorem Jm:CallR X (.builtin "sorted") (rC X.K (on1 (rsD true))):=by
 intro pQ s σ H xs us Q I r h;obtain⟨ad,st,ds,d,st',S,hd,e,p⟩:=h;obtain⟨x,rfl,e1⟩:=YH e;obtain⟨v,rfl,hv⟩:=WO hd;unfold rsD at e1;split at e1
 ·split at e1
  ·rename_i c zs q0
   split at e1
   ·rename_i ys q1
    cases e1;obtain⟨a,rfl,ha⟩:=hv.ofLst;obtain⟨vs,rr,sq⟩:=S.list ha q0;have q1:JS zs=some ys:=q1;unfold JS at q1;split at q1
    ·rename_i i j hq
     cases q1;obtain⟨its,rv,pl,hz⟩:=I.list sq;cases rr with
     |cons d1 rr=>
     cases d1;cases rr with
     |cons d2 rr=>
     cases d2;cases rr;cases rv with
     |cons g1 rv=>
     obtain⟨t1,rfl⟩:=g1;cases rv with
     |cons g2 rv=>
     obtain⟨t2,rfl⟩:=g2;cases rv;obtain⟨u,rfl,ru⟩:=r.one;cases ru;refine sorted_ints (vs:=[.int i t1,.int j t2]) pl.isList (.cons i t1 (.cons j t2 .nil)) (by simp) fun out ns' a1 a2 a3=>?_
     obtain⟨en,he⟩:=sortedAll_at s.heap [.int i t1,.int j t2] out;have en2:=ZdH a2 a3;have fr:H (s.heap.objs.size+1)=none:=I.hok.fresh (Nat.le_succ _);have vv:=Uj a1;have ll:(ns'.map V.int).length<=sizeLine:=by
      rw[en2];split<;>(show(2:Nat)<=sizeLine;decide)
     have dd:Dens X.K ad H (ns'.map V.int) (if j < i then [.int j,.int i] else [.int i,.int j]):=by
      rw[en2];split
      ·exact .cons (.int _) (.cons (.int _) .nil)
      ·exact .cons (.int _) (.cons (.int _) .nil)
     refine⟨.ref (s.heap.objs.size+1),_,I.laid (t':=s.toks) (o:=.lst (ns'.map V.int)) (fun b u q=>sortedAll_old q) (Nat.le_succ _) ⟨ll,out.toList,en,vv,he⟩,rfl,?_⟩
     refine p _ (ad++[s.heap.objs.size+1]) _ (Ext.push fr) (S.push fr dd) (.newL ?_);rw[<-S.len];exact ZE
    ·exact Zb q1
   ·exact Zb e1
  ·exact Zb e1
 ·exact Zb e1
theorem QW(n:Nat):sliceRange ((n:Int) - 1) (-1) (-1)=(List.range n).map fun k=>n - 1 - k:=by
 unfold sliceRange;rw[if_neg (by omega)]
 have e:(if (n:Int) - 1 > -1 then ((n:Int) - 1 - -1 - -1 - 1) / (- -1) else 0).toNat=n:=by
  split
  ·have:((n:Int) - 1 - -1 - -1 - 1) / (- -1)=(n:Int):=by
    rw[show(- -1:Int)=1 by omega,Int.ediv_one];omega
   rw[this];simp
  ·have:n=0:=by omega
   subst this;rfl
 show List.map (fun(k:Nat)=>((n:Int) - 1+-1 * (k:Int)).toNat) (List.range (if (n:Int) - 1 > -1 then ((n:Int) - 1 - -1 - -1 - 1) / (- -1) else 0).toNat)=_
 rw[e];apply List.map_congr_left
 intro k hk;omega
theorem Zcf(its:Li vL):∀ (L:Li Nat),(∀ k∈L,k < its.length)->L.filterMap (its.toArray[·]?)=L.map fun k=>its.getD k .none
 |[],_=>rfl
 |k :: L,h=>by
  have hk:=h k (Ls ..);have e:its.toArray[k]?=some (its.getD k .none):=by
   rw[List.getElem?_toArray,List.getD_eq_getElem?_getD,Lg hk];rfl
  rw[List.filterMap_cons,e,List.map_cons,Zcf its L fun k' h'=>h k' (Lm _ h')]
theorem Zdd(its:Li vL):slicePick its.toArray none none (some (-1))=its.reverse.toArray:=by
 unfold slicePick;have b:sliceBounds none none (some (-1)) its.toArray.size=((its.length:Int) - 1,-1,-1):=by
  simp[sliceBounds]
 rw[b];show((sliceRange ((its.length:Int) - 1) (-1) (-1)).filterMap (its.toArray[·]?)).toArray=_;rw[QW,Zcf its _ (fun k hk=>by
  obtain⟨j,hj,rfl⟩:=List.mem_map.mp hk;have:=List.mem_range.mp hj;omega)]
 congr 1
 apply List.ext_getElem
 ·simp
 ·intro k h1 h2
  have hk:k < its.length:=by simpa using h1
  simp only[List.getElem_map,List.getElem_range,List.getElem_reverse];rw[List.getD_eq_getElem?_getD,Lg (by omega)]
  rfl
def Zlb(K:Fg):V->Hp->VK->Prop:=fun x H Q=>∃ a xs,x=.ref a/\SqL K H a xs/\∀ p,H p=none->Q (.ref p) (upd H p (.lst xs.reverse))
noncomputable def Zjo(K:Fg)(te ts:TE):TE:=fun σ H Q=>te σ H fun x H1=>ts σ H1 fun y H2=>y=.int (-1)/\Zlb K x H2 Q
theorem Q7:∀ {xs:Li V}{its:Li vL},Vals xs its->Vals xs.reverse its.reverse
 |_,_,.nil=>.nil
 |_,_,.cons a r=>by
  rw[List.reverse_cons,List.reverse_cons];exact(Q7 r).append (.cons a .nil)
theorem Qt{K:Fg}{ad:Li Ad}{H:Hp}:∀ {xs:Li V}{ds:Li D},Dens K ad H xs ds->Dens K ad H xs.reverse ds.reverse
 |_,_,.nil=>.nil
 |_,_,.cons a r=>by
  rw[List.reverse_cons,List.reverse_cons];exact(Qt r).append (.cons a .nil)
theorem Zhi{e es:Expr}{te ts:TE}{p2 pos:Pos}(he:PE X e te)(hs:PE X es ts):PE X (.Subscript e (.Slice none none (some es) p2) pos) (Zjo X.K te ts):=by
 intro pQ s σ H Q I h;refine Subscript_ (thn (he pQ s σ H _ I h) fun v s1 ⟨x,H1,I1,r1,q1⟩=>?_)
 refine wpAny_Slice ?_;rw[evalPart_none];refine wpAny_pure ?_;refine wpAny_pure ?_;rw[evalPart_some];refine thn (hs pQ s1 σ H1 _ I1 q1) fun vs s3 ⟨y,H3,I3,r3,q3⟩=>?_
 obtain⟨rfl,a,xs,rfl,sq,q⟩:=q3;obtain⟨t,rfl⟩:=r3;cases r1;have I4:Inv X pQ σ H3 { s3 with heap:=s3.heap.push { cls:=.type "slice",data:=.fields #[.none,.none,.int (-1) t] } }:=I3.kept (t':=s3.toks) fun b ob q=>Heap.get?_push_of_some _ q
 obtain⟨its,r,ht,hz⟩:=I4.list sq;have hlen:=r.length;show wpAny (model X.prog X.w) X.A (subscriptTail e (.Slice none none (some es) p2) (.ref a) (.ref s3.heap.objs.size)) (EP X pQ σ Q) X.xe { s3 with heap:=s3.heap.push { cls:=.type "slice",data:=.fields #[.none,.none,.int (-1) t] } }
 refine tail_any (ops:=[.ref a,.ref s3.heap.objs.size]) ht.isList.typeIs slot_list_getitem.lookup ?_ (by with_unfolding_all rfl)
 refine wpAny_getItem_list_slice ht.isList (Heap.IsSliceOf.new ..) .none .none (.int (-1) t) (by simp) ?_ (by rw[List.size_toArray]<;>omega)
 rw[Zdd];refine⟨.ref _,_,I4.laid (t':=s3.toks) (o:=.lst xs.reverse) (fun b ob q=>Heap.get?_push_of_some _ q) (Nat.le_refl _) ?_,rfl,q _ (I4.hok.fresh (Nat.le_refl _))⟩
 exact⟨by rw[List.length_reverse];exact hz,_,0,Q7 r,Heap.get?_push_size _ rfl⟩
end
end Dp



namespace Dp
open PySem PySem.Spec PyProof.Rows L2
variable [ClsTab]
section
open PySem.SeqAt PySem.MeetsSeq PySem.MeetsSeq2 PySem.MeetsSeq3 PySem.SeqRoads2
open AutoSeq1 (wpAny_loadPart')
def LtAt(A:Around)(s:Sd)(y x:vL)(b:Bool):Prop:=
 ∀ (prog:Program) (w:World) (E:vL->Sd->Prop) (Q:vL->Sd->Prop),Q (.bool b) s->wpAny (model prog w) A (richCompare .Lt y x) Q E s
noncomputable def ltR(e lt:Nat->Bool)(f:Bool):Li Nat->Bool
 |[]=>f
 |j :: r=>if e j=true then ltR e lt f r else lt j
theorem J0(l b:Ad)(items items2:Array vL)(n n2:Nat)(dd dd2:Ot Ad)(sl sl2:Array (Ot vL))(e lt:Nat->Bool) :
  Meets (Builtin.«tuple.__lt__» ⟨[.ref l,.ref b],[]⟩)
   (fun A R s=>s.heap.get? l=some { cls:=.type "tuple",dict:=dd,data:=.seq items n,slots:=sl }/\s.heap.get? b=some { cls:=.type "tuple",dict:=dd2,data:=.seq items2 n2,slots:=sl2 } /\
    (∀ j (h1:j < items.size) (h2:j < items2.size),EqAt A.in1 s items[j] items2[j] (e j))/\(∀ j (h1:j < items.size) (h2:j < items2.size),(∀ i,i < j->e i=true)->e j=false->LtAt A.in1 s items[j] items2[j] (lt j)) /\
    R (.ok (.ret (.bool (ltR e lt (decide (items.size < items2.size)) (List.range (min items.size items2.size)))))) s):=
 .of_wp fun prog w A R s h=>by
  obtain⟨hp,g,d,tk,os⟩:=s;obtain⟨hl,hb,he,hq,h⟩:=h;have f2:=AutoSeq1.sub_tuple_tuple;have hZ:(items.toList.zip items2.toList).length=min items.size items2.size:=by simp
  wp_walk using wpAny_loadPart' hl,wpAny_loadPart' hb,wpAny_forIn_list _ (fun rest b s'=>b.1=none/\s'=⟨hp,g,d,tk,os⟩/\∃ i,rest=(items.toList.zip items2.toList).drop i/\(∀ k,k < i->e k=true) /\
   R (.ok (.ret (.bool (ltR e lt (decide (items.size < items2.size)) ((List.range (min items.size items2.size)).drop i))))) ⟨hp,g,d,tk,os⟩) _
  case turn=>
   rintro⟨y,x⟩ rest b s' ⟨hb',rfl,i,hz,hk,hR⟩
   have hlt:i < (items.toList.zip items2.toList).length:=by
    rcases Nat.lt_or_ge i (items.toList.zip items2.toList).length with h'|h'
    ·exact h'
    ·rw[List.drop_of_length_le h']at hz;cases hz
   have hm:i < min items.size items2.size:=hZ ▸ hlt;have h1:i < items.size:=Nat.lt_of_lt_of_le hm (Nat.min_le_left _ _);have h2:i < items2.size:=Nat.lt_of_lt_of_le hm (Nat.min_le_right _ _);rw[List.drop_eq_getElem_cons hlt]at hz
   injection hz with hyx hrest
   have hy:y=items[i]:=by have:=congrArg Prod.fst hyx;simpa using this
   have hx:x=items2[i]:=by have:=congrArg Prod.snd hyx;simpa using this
   subst hy hx;have hd:(List.range (min items.size items2.size)).drop i=i :: (List.range (min items.size items2.size)).drop (i+1):=by simp[List.drop_eq_getElem_cons,hm]
   rw[hd]at hR;have hR:R (.ok (.ret (.bool (if e i=true then ltR e lt (decide (items.size < items2.size)) ((List.range (min items.size items2.size)).drop (i+1)) else lt i)))) ⟨hp,g,d,tk,os⟩:=hR
   refine wpAny_bind (he i h1 h2 prog w _ _ ?_);cases hy:e i with
   |true=>
    rw[hy]at hR
    wp_walk
    refine⟨rfl,rfl,i+1,hrest,fun k hk'=>?_,by simpa using hR⟩
    rcases Nat.lt_or_ge k i with h|h
    ·exact hk k h
    ·rw[show k=i by omega];exact hy
   |false=>
    rw[hy]at hR;have hz:∀ (E:vL->Sd->Prop) (Q:vL->Sd->Prop),Q (.bool (lt i)) ⟨hp,g,d,tk,os⟩->wpAny (model prog w) A.in1 (richCompare .Lt items[i] items2[i]) Q E ⟨hp,g,d,tk,os⟩:=fun E Q=>hq i h1 h2 hk hy prog w E Q
    generalize richCompare .Lt items[i] items2[i]=rc at hz ⊢
    wp_walk using hz _ _
    exact⟨_,rfl,by simpa using hR⟩
  case fin=>
   rintro⟨b1,b2⟩ s' ⟨hb',rfl,i,hz,_,hR⟩
   simp only at hb';subst hb';have hge:min items.size items2.size<=i:=by
    rcases Nat.lt_or_ge i (items.toList.zip items2.toList).length with h'|h'
    ·rw[List.drop_eq_getElem_cons h']at hz;cases hz
    ·exact hZ ▸ h'
   rw[List.drop_of_length_le (by simpa using hge)]at hR
   wp_walk
   exact⟨_,rfl,by simpa[Builtin.Tuple.tupleCompareSizes,ltR] using hR⟩
  case h=>
   exact⟨rfl,rfl,0,rfl,fun k hk=>absurd hk (by omega),by simpa using h⟩
theorem LtAt.tuples{A:Around}{s:Sd}{l b:Ad}{items items2:Array vL}{e lt:Nat->Bool}(hl:s.heap.IsTuple l items)(hb:s.heap.IsTuple b items2)(hu:A.units < cLine)(he:∀ j (h1:j < items.size) (h2:j < items2.size),EqAt A.in1 s items[j] items2[j] (e j))(hq:∀ j (h1:j < items.size) (h2:j < items2.size),(∀ i,i < j->e i=true)->e j=false->LtAt A.in1 s items[j] items2[j] (lt j)):LtAt A s (.ref l) (.ref b) (ltR e lt (decide (items.size < items2.size)) (List.range (min items.size items2.size))):=fun prog w E Q h=>by
 obtain⟨⟨cls,dd,data,sl⟩,ho,hc,n,hd⟩:=id hl;obtain⟨⟨cls2,dd2,data2,sl2⟩,ho2,hc2,n2,hd2⟩:=id hb;simp only at hc hd hc2 hd2;subst hc hd hc2 hd2;exact richCompare_meets_room (op:=.Lt) ⟨_,ho,rfl⟩ ⟨_,ho2,rfl⟩ F.slot_tuple_lt F.entry_tuple_lt (F.args_tuple_lt_2 _ _) (J0 l b items items2 n n2 dd dd2 sl sl2 e lt)
  ⟨ho,ho2,he,hq,show Value.bool (ltR e lt (decide (items.size < items2.size)) (List.range (min items.size items2.size)))≠Value.notImplemented/\Q (.bool (ltR e lt (decide (items.size < items2.size)) (List.range (min items.size items2.size)))) s from⟨(fun x=>nomatch x),h⟩⟩ hu
theorem Zbx(l b:Ad)(items items2:Array vL)(n n2:Nat)(dd dd2:Ot Ad)(sl sl2:Array (Ot vL))(e lt:Nat->Bool)(k:Nat) :
  ∀ i:Nat,min items.size items2.size - i=k->Meets (Builtin.«list.__eq__.loop» ⟨[.ref l,.ref b,rawInt i,rawInt 0],[]⟩)
   (fun A R s=>s.heap.get? l=some { cls:=.type "list",dict:=dd,data:=.seq items n,slots:=sl }/\s.heap.get? b=some { cls:=.type "list",dict:=dd2,data:=.seq items2 n2,slots:=sl2 } /\
    (∀ j (h1:j < items.size) (h2:j < items2.size),EqAt A.in1 s items[j] items2[j] (e j))/\(∀ j (h1:j < items.size) (h2:j < items2.size),(∀ i,i < j->e i=true)->e j=false->LtAt A.in1 s items[j] items2[j] (lt j))/\(∀ j,j < i->e j=true) /\
    R (.ok (.ret (.bool (ltR e lt (decide (items.size < items2.size)) ((List.range (min items.size items2.size)).drop i))))) s):=by
 induction k with
 |zero=>
  intro i hk prog w A R s h;obtain⟨hp,g,d,tk,os⟩:=s;obtain⟨hl,hb,he,hq,hi,h⟩:=h
  wp_walk using wpAny_loadPart' hl,wpAny_loadPart' hb
  have hd:(List.range (min items.size items2.size)).drop i=[]:=by simp;omega
  rw[hd]at h;have hz:items[((i:Nat):Int).toNat]?=none\/items2[((i:Nat):Int).toNat]?=none:=by
   by_cases c:items.size<=i
   ·left;simp;omega
   ·right;simp;omega
  rcases hz with hz|hz
  ·rw[hz]
   wp_walk using wpAny_loadPart' hl,wpAny_loadPart' hb
   exact h
  ·rw[hz]
   cases items[((i:Nat):Int).toNat]? with
   |none=>
    wp_walk using wpAny_loadPart' hl,wpAny_loadPart' hb
    exact h
   |some x=>
    wp_walk using wpAny_loadPart' hl,wpAny_loadPart' hb
    exact h
 |succ k ih=>
  intro i hk prog w A R s h;obtain⟨hp,g,d,tk,os⟩:=s;obtain⟨hl,hb,he,hq,hi,h⟩:=h
  wp_walk using wpAny_loadPart' hl,wpAny_loadPart' hb
  have hlt:i < items.size:=by omega
  have hlt2:i < items2.size:=by omega
  have hm:i < min items.size items2.size:=by omega
  have hi1:items[((i:Nat):Int).toNat]?=some items[i]:=by simp[hlt]
  have hi2:items2[((i:Nat):Int).toNat]?=some items2[i]:=by simp[hlt2]
  have hd:(List.range (min items.size items2.size)).drop i=i :: (List.range (min items.size items2.size)).drop (i+1):=by simp[List.drop_eq_getElem_cons,hm]
  have hc:((i:Int)+1)=((i+1:Nat):Int):=by push_cast;rfl
  rw[hd]at h;have h:R (.ok (.ret (.bool (if e i=true then ltR e lt (decide (items.size < items2.size)) ((List.range (min items.size items2.size)).drop (i+1)) else lt i)))) ⟨hp,g,d,tk,os⟩:=h
  rw[hi1,hi2];refine wpAny_bind (he i hlt hlt2 prog w _ _ ?_);cases hb':e i with
  |true=>
   rw[hb']at h
   wp_walk
   rw[hc];exact⟨plainId_quiet plain_eq_loop _,codeAny_builtin entry_eq_loop (by
    rw[Around.under_plainId plain_eq_loop _];refine ih (i+1) (by omega) prog w A R _ ⟨hl,hb,he,hq,fun j hj=>?_,by simpa using h⟩
    rcases Nat.lt_or_ge j i with z|z
    ·exact hi j z
    ·rw[show j=i by omega];exact hb')⟩
  |false=>
   rw[hb']at h;have hz:∀ (E:vL->Sd->Prop) (Q:vL->Sd->Prop),Q (.bool (lt i)) ⟨hp,g,d,tk,os⟩->wpAny (model prog w) A.in1 (richCompare .Lt items[i] items2[i]) Q E ⟨hp,g,d,tk,os⟩:=fun E Q=>hq i hlt hlt2 hi hb' prog w E Q
   wp_walk using wpAny_loadPart' hl,wpAny_loadPart' hb
   rw[hi1,hi2];refine wpAny_bind (hz _ _ ?_)
   wp_walk
   simpa using h
theorem Zbv(l b:Ad)(items items2:Array vL)(n n2:Nat)(dd dd2:Ot Ad)(sl sl2:Array (Ot vL))(e lt:Nat->Bool) :
  Meets (Builtin.«list.__lt__» ⟨[.ref l,.ref b],[]⟩)
   (fun A R s=>s.heap.get? l=some { cls:=.type "list",dict:=dd,data:=.seq items n,slots:=sl }/\s.heap.get? b=some { cls:=.type "list",dict:=dd2,data:=.seq items2 n2,slots:=sl2 } /\
    (∀ j (h1:j < items.size) (h2:j < items2.size),EqAt A.in1 s items[j] items2[j] (e j))/\(∀ j (h1:j < items.size) (h2:j < items2.size),(∀ i,i < j->e i=true)->e j=false->LtAt A.in1 s items[j] items2[j] (lt j)) /\
    R (.ok (.ret (.bool (ltR e lt (decide (items.size < items2.size)) (List.range (min items.size items2.size)))))) s):=by
 intro prog w A R s h;obtain⟨hp,g,d,tk,os⟩:=s;obtain⟨hl,hb,he,hq,h⟩:=h;have f3:=AutoSeq1.sub_list_list
 wp_walk using wpAny_loadPart' hl,wpAny_loadPart' hb
 exact⟨plainId_quiet plain_eq_loop _,codeAny_builtin entry_eq_loop (by
  rw[Around.under_plainId plain_eq_loop _];exact Zbx l b items items2 n n2 dd dd2 sl sl2 e lt _ 0 rfl prog w A R _ ⟨hl,hb,he,hq,fun j hj=>absurd hj (by omega),by simpa using h⟩)⟩
theorem LtAt.lists{A:Around}{s:Sd}{l b:Ad}{items items2:Array vL}{e lt:Nat->Bool}(hl:s.heap.IsList l items)(hb:s.heap.IsList b items2)(hu:A.units < cLine)(he:∀ j (h1:j < items.size) (h2:j < items2.size),EqAt A.in1 s items[j] items2[j] (e j))(hq:∀ j (h1:j < items.size) (h2:j < items2.size),(∀ i,i < j->e i=true)->e j=false->LtAt A.in1 s items[j] items2[j] (lt j)):LtAt A s (.ref l) (.ref b) (ltR e lt (decide (items.size < items2.size)) (List.range (min items.size items2.size))):=fun prog w E Q h=>by
 obtain⟨⟨cls,dd,data,sl⟩,ho,hc,n,hd⟩:=id hl;obtain⟨⟨cls2,dd2,data2,sl2⟩,ho2,hc2,n2,hd2⟩:=id hb;simp only at hc hd hc2 hd2;subst hc hd hc2 hd2;exact richCompare_meets_room (op:=.Lt) ⟨_,ho,rfl⟩ ⟨_,ho2,rfl⟩ F.slot_list_lt F.entry_list_lt (F.args_list_lt_2 _ _) (Zbv l b items items2 n n2 dd dd2 sl sl2 e lt)
  ⟨ho,ho2,he,hq,show Value.bool (ltR e lt (decide (items.size < items2.size)) (List.range (min items.size items2.size)))≠Value.notImplemented/\Q (.bool (ltR e lt (decide (items.size < items2.size)) (List.range (min items.size items2.size)))) s from⟨(fun x=>nomatch x),h⟩⟩ hu
end
noncomputable def eF(ds es:Li D)(i:Nat):Bool:=Zv ((ds[i]?).getD .non) ((es[i]?).getD .non)
noncomputable def lF(ds es:Li D)(i:Nat):Bool:=match ds[i]?,es[i]? with
 |some (.int a),some (.int b)=>decide (a < b)
 |some (.str a),some (.str b)=>decide (a.cps.toList < b.cps.toList)
 |_,_=>false
theorem Zaq{e lt:Nat->Bool}{f:Bool}:∀ {l:Li Nat},ltR e lt f (l.map Nat.succ)=ltR (fun i=>e (i+1)) (fun i=>lt (i+1)) f l
 |[]=>rfl
 |i :: l=>by
  show(if e (i+1)=true then ltR e lt f (l.map Nat.succ) else lt (i+1))=_
  rw[Zaq];rfl
theorem ZcO:∀ {ds es:Li D}{k:Bool},WZ ds es=some k->ltR (eF ds es) (lF ds es) (decide (ds.length < es.length)) (List.range (min ds.length es.length))=k
 |[],[],k,h=>by cases h;rfl
 |[],y :: ys,k,h=>by
  have h:some (decide (0 < ys.length+1))=some k:=h;cases h;simp[ltR]
 |x :: xs,[],k,h=>by cases h;simp[ltR]
 |x :: xs,y :: ys,k,h=>by
  have e:min (x :: xs).length (y :: ys).length=min xs.length ys.length+1:=by simp only[List.length_cons];omega
  rw[e,List.range_succ_eq_map];show(if Zv x y=true then ltR (eF (x :: xs) (y :: ys)) (lF (x :: xs) (y :: ys)) _ ((List.range (min xs.length ys.length)).map Nat.succ) else lF (x :: xs) (y :: ys) 0)=k
  unfold WZ at h;by_cases c:Zv x y=true
  ·rw[if_pos c]at h ⊢
   rw[Zaq,show decide ((x :: xs).length < (y :: ys).length)=decide (xs.length < ys.length) by simp]
   exact ZcO h
  ·rw[if_neg c]at h ⊢
   split at h
   ·cases h;rfl
   ·cases h;rfl
   ·exact Zb h
theorem Zar:∀ {ds es:Li D}{k:Bool}{j:Nat},WZ ds es=some k->j < ds.length->j < es.length->(∀ i,i < j->eF ds es i=true)->eF ds es j=false->(∃ a b,ds[j]?=some (.int a)/\es[j]?=some (.int b))\/(∃ a b,ds[j]?=some (.str a)/\es[j]?=some (.str b))
 |[],_,_,_,_,h1,_,_,_=>absurd h1 (by simp)
 |_ :: _,[],_,_,_,_,h2,_,_=>absurd h2 (by simp)
 |x :: xs,y :: ys,k,0,h,_,_,_,e=>by
  have e:Zv x y=false:=e;unfold WZ at h;rw[if_neg (by rw[e];simp)]at h
  split at h
  ·exact .inl ⟨_,_,rfl,rfl⟩
  ·exact .inr ⟨_,_,rfl,rfl⟩
  ·exact Zb h
 |x :: xs,y :: ys,k,j+1,h,h1,h2,hk,e=>by
  have c:Zv x y=true:=hk 0 (by omega)
  unfold WZ at h;rw[if_pos c]at h;exact Zar (j:=j) h (by simpa using h1) (by simpa using h2) (fun i hi=>hk (i+1) (by omega)) e
open PySem.SeqAt in
theorem ZeT{X:Cx}{H:Hp}{ad:Li Ad}{s:Sd}{A:Around}{xs ys:Li V}{ds es:Li D}{its its':Li vL}{k:Bool}(r:Dens X.K ad H xs ds)(r':Dens X.K ad H ys es)(rv:Vals xs its)(rv':Vals ys its')(h:WZ ds es=some k) :
  ∀ j (h1:j < its.toArray.size) (h2:j < its'.toArray.size),(∀ i,i < j->eF ds es i=true)->eF ds es j=false->LtAt A s its.toArray[j] its'.toArray[j] (lF ds es j):=fun j h1 h2 hk hj=>by
 have e1:its.toArray.size=ds.length:=by rw[List.size_toArray,<-rv.length,r.length]
 have e2:its'.toArray.size=es.length:=by rw[List.size_toArray,<-rv'.length,r'.length]
 have get:∀ {xs:Li V}{ds:Li D}{its:Li vL}{d:D} (h1:j < its.toArray.size),Dens X.K ad H xs ds->Vals xs its->ds[j]?=some d->∃ v,Den X.K ad H v d/\RelV v its.toArray[j]:=fun {xs ds its d} h1 r rv g=>by
  obtain⟨v,q1,d1⟩:=r.get g;obtain⟨u,w1,r1⟩:=rv.get q1;have f1:its.toArray[j]=u:=by
   have:its[j]?=some (its[j]'(by simpa using h1)):=Lg _
   rw[w1]at this;simpa using(Option.some.inj this).symm
  exact⟨v,d1,by rw[f1];exact r1⟩
 rcases Zar h (by omega) (by omega) hk hj with⟨i,i',g1,g2⟩|⟨i,i',g1,g2⟩
 ·obtain⟨v1,d1,r1⟩:=get h1 r rv g1
  obtain⟨v2,d2,r2⟩:=get h2 r' rv' g2;cases d1;cases d2
  obtain⟨t1,z1⟩:=r1;obtain⟨t2,z2⟩:=r2;rw[z1,z2];intro prog w E Q hq;have hq:Q (.bool (lF ds es j)) s:=hq;unfold lF at hq;rw[g1,g2]at hq;exact lt_int hq
 ·obtain⟨v1,d1,r1⟩:=get h1 r rv g1
  obtain⟨v2,d2,r2⟩:=get h2 r' rv' g2;cases d1;cases d2
  obtain⟨t1,z1⟩:=r1;obtain⟨t2,z2⟩:=r2;rw[z1,z2];intro prog w E Q hq;have hq:Q (.bool (lF ds es j)) s:=hq;unfold lF at hq;rw[g1,g2]at hq;exact lt_str hq
open PySem.SeqAt in
theorem ZeU{X:Cx}{H:Hp}{ad:Li Ad}{pQ:Li (Ad×Obj)}{σ:L2.St}{s:Sd}(I:Inv X pQ σ H s){n:Nat}{A:Around}{a b:Ad}{xs ys:Li V}{ds es:Li D}{k:Bool}(hx:Yd n ds=true)(hy:Yd n es=true)(hu:A.units+n+1 < cLine)(e:TupAt X.K H a xs)(r:Dens X.K ad H xs ds)(e':TupAt X.K H b ys)(r':Dens X.K ad H ys es)(h:WZ ds es=some k):LtAt A s (.ref a) (.ref b) k:=by
 obtain⟨its,rv,p,_⟩:=I.tuple (e.sq);obtain⟨its',rv',p',_⟩:=I.tuple (e'.sq);have e1:its.toArray.size=ds.length:=by rw[List.size_toArray,<-rv.length,r.length]
 have e2:its'.toArray.size=es.length:=by rw[List.size_toArray,<-rv'.length,r'.length]
 have q:=LtAt.tuples (A:=A) (s:=s) (e:=eF ds es) (lt:=lF ds es) p p' (by omega) (fun j h1 h2=>US (a:=a) (b:=b) I hx hy hu r r' rv rv' j h1 h2) (ZeT r r' rv rv' h)
 rw[e1,e2,ZcO h]at q;exact q
section
variable {X:Cx}
theorem ZcB{ad:Li Ad}{H:Hp}{k:Int}:∀ {xs:Li V}{ds:Li D}{b:Bool},Dens X.K ad H xs ds->Xb k ds=some b->xs.all flatV=true/\inV (.int k) xs=b
 |_,_,_,.nil,e=>by cases e;exact⟨rfl,rfl⟩
 |_,_,b,.cons (d:=d) h r,e=>by
  cases d with
  |int i=>
   cases h;unfold Xb at e;cases q:Xb k _ with
   |none=>rw[q]at e;cases e
   |some b'=>
    rw[q]at e;cases e;obtain⟨h1,h2⟩:=ZcB r q;refine⟨by rw[List.all_cons,h1];rfl,?_⟩
    show((i==k)||inV (.int k) _)=(decide (i=k)||b');rw[h2];rfl
  |_=>simp[Xb]at e
theorem Jr{ad:Li Ad}{H:Hp}{k:Str}:∀ {xs:Li V}{ds:Li D}{b:Bool},Dens X.K ad H xs ds->Xc k ds=some b->xs.all flatV=true/\inV (.str k) xs=b
 |_,_,_,.nil,e=>by cases e;exact⟨rfl,rfl⟩
 |_,_,b,.cons (d:=d) h r,e=>by
  cases d with
  |str i=>
   cases h;unfold Xc at e;cases q:Xc k _ with
   |none=>rw[q]at e;cases e
   |some b'=>
    rw[q]at e;cases e;obtain⟨h1,h2⟩:=Jr r q;refine⟨by rw[List.all_cons,h1];rfl,?_⟩
    show((i==k)||inV (.str k) _)=(decide (i=k)||b');rw[h2]
    congr 1
  |_=>simp[Xc]at e
def CW(X:Cx)(pQ:Li (Ad×Obj))(σ:L2.St)(Q:VK)(s:Sd)(op:CmpOp)(v u:vL):Prop:=wpAny (model X.prog X.w) X.A (compareOp op v u) (EP X pQ σ Q) X.xe s
def CW2(X:Cx)(pQ:Li (Ad×Obj))(σ:L2.St)(Q:VK)(s:Sd)(H:Hp)(op op':CmpOp)(v u:vL)(k:Bool):Prop:=(Q (.bl k) H->CW X pQ σ Q s op v u)/\(Q (.bl (!k)) H->CW X pQ σ Q s op' v u)
noncomputable def vSc:Sc->V
 |.non=>.non
 |.bl b=>.bl b
 |.int i=>.int i
 |.str x=>.str x
theorem Den.vSc{K:Fg}{ad:Li Ad}{H:Hp}{x:V}{d:D}{a:Sc}(h:Den K ad H x d)(e:scD d=some a):x=vSc a:=by
 cases h<;>cases e<;>rfl
theorem Zel{a b:Sc}{k:Bool}(h:Zca a b=some k):scal (vSc a) (vSc b)=true/\decide (vSc a=vSc b)=k:=by
 cases a<;>cases b<;>first
  | (cases h;done)
  | (cases h;exact⟨rfl,rfl⟩)
  | (cases h;exact⟨rfl,dec_bl⟩)
  | (cases h;exact⟨rfl,by simp[vSc]⟩)
inductive EqD(x y:V):D->D->Bool->Prop
 |sc {dx dy:D}{k:Bool} (h3:scal x y=true) (h4:decide (x=y)=k):EqD x y dx dy k
 |tup {xs ys:List D} (h:(okD 8 (.tup xs)&&okD 8 (.tup ys))=true):EqD x y (.tup xs) (.tup ys) (Z2 xs ys)
theorem Zej{K:Fg}{ad:Li Ad}{H:Hp}{x y:V}{dx dy:D}{k:Bool}(hx:Den K ad H x dx)(hy:Den K ad H y dy)(e:eqD dx dy=some k):EqD x y dx dy k:=by
 unfold eqD at e;split at e
 ·unfold eqT at e
  split at e
  ·split at e
   ·rename_i hok
    cases e;exact .tup hok
   ·exact Zb e
  ·exact Zb e
 ·refine j_e e fun e=>Yl (P:=fun o=>o=some k->EqD x y dx dy k) e (fun a b h1 h2 h=>?_) rfl
  obtain⟨h3,h4⟩:=Zel h;rw[<-hx.vSc h1,<-hy.vSc h2]at h3 h4;exact .sc h3 h4
theorem ZiI(hu:X.A.units+64 < cLine){pQ:Li (Ad×Obj)}{s:Sd}{σ:L2.St}{H:Hp}{x y:V}{v u:vL}{Q:VK}{ad:Li Ad}{st:Za}{dx dy:D}{k:Bool}(I:Inv X pQ σ H s)(rx:RelV x v)(ry:RelV y u)(S:StOk X.K ad H st)(hx:Den X.K ad H x dx)(hy:Den X.K ad H y dy)(e:eqD dx dy=some k):CW2 X pQ σ Q s H .Eq .NotEq v u k:=by
 cases Zej hx hy e with
 |sc h3 h4=>
  subst h4;exact⟨fun q=>op_eq pQ s σ H x y v u Q I rx ry ⟨h3,q⟩,fun q=>op_ne pQ s σ H x y v u Q I rx ry ⟨h3,q⟩⟩
 |tup hok=>
  rw[Ba]at hok;obtain⟨a,xs,rfl,ha,r1⟩:=hx.ofTup;obtain⟨b,ys,rfl,hb,r2⟩:=hy.ofTup;cases rx;cases ry
  obtain⟨g1,g2⟩:=Zfk (ad:=ad) (A:=X.A) I (n:=7) hok.1 hok.2 (by omega) ha r1 hb r2
  exact⟨fun q=>g1 X.prog X.w X.xe _ ⟨.bl _,H,I,rfl,q⟩,fun q=>g2 X.prog X.w X.xe _ ⟨.bl _,H,I,rfl,q⟩⟩
open PySem.SeqAt in
theorem Zfj{X:Cx}{H:Hp}{ad:Li Ad}{pQ:Li (Ad×Obj)}{σ:L2.St}{s:Sd}(I:Inv X pQ σ H s){n:Nat}{A:Around}{a b:Ad}{xs ys:Li V}{ds es:Li D}{its its':Li vL}(hx:Yd n ds=true)(hy:Yd n es=true)(hu:A.units+n+1 < cLine)(r:Dens X.K ad H xs ds)(r':Dens X.K ad H ys es)(rv:Vals xs its)(rv':Vals ys its')(p:s.heap.IsList a its.toArray)(p':s.heap.IsList b its'.toArray):RcAt A s (.ref a) (.ref b) (Z2 ds es)/\RcNeAt A s (.ref a) (.ref b) (!Z2 ds es):=by
 have e1:its.toArray.size=ds.length:=by rw[List.size_toArray,<-rv.length,r.length]
 have e2:its'.toArray.size=es.length:=by rw[List.size_toArray,<-rv'.length,r'.length]
 by_cases hl:ds.length=es.length
 ·have it:=fun j h1 h2=>US (a:=a) (b:=b) I hx hy hu r r' rv rv' j h1 h2
  have q:=RcAt.lists (A:=A) (s:=s) (e:=fun i=>Zv ((ds[i]?).getD .non) ((es[i]?).getD .non)) p p' (by omega) (by omega) it
  have q':=RcNeAt.lists (A:=A) (s:=s) (e:=fun i=>Zv ((ds[i]?).getD .non) ((es[i]?).getD .non)) p p' (by omega) (by omega) it
  rw[e1]at q q';rw[YY,show min ds.length es.length=ds.length by omega,show(ds.length==es.length)=true by simpa using hl,Bool.and_true]
  exact⟨q,q'⟩
 ·have q:=RcAt.lists_lengths (A:=A) (s:=s) p p' (by rw[e1,e2];simpa using hl) (by omega)
  have q':=RcNeAt.lists_lengths (A:=A) (s:=s) p p' (by rw[e1,e2];simpa using hl) (by omega)
  rw[YY,show(ds.length==es.length)=false by simpa using hl,Bool.and_false]
  exact⟨q,q'⟩
open PySem.SeqAt in
theorem Zkf(hu:X.A.units+64 < cLine){pQ:Li (Ad×Obj)}{s:Sd}{σ:L2.St}{H:Hp}{x y:V}{v u:vL}{Q:VK}{ad:Li Ad}{st:Za}{ds es:Li D}{k:Bool}(I:Inv X pQ σ H s)(rx:RelV x v)(ry:RelV y u)(S:StOk X.K ad H st)(hx:Den X.K ad H x (.tup ds))(hy:Den X.K ad H y (.tup es))(e:ZaB st ds es=some k):CW2 X pQ σ Q s H .Eq .NotEq v u k:=by cases e
theorem ZiJ(hu:X.A.units+64 < cLine){pQ:Li (Ad×Obj)}{s:Sd}{σ:L2.St}{H:Hp}{x y:V}{v u:vL}{Q:VK}{ad:Li Ad}{st:Za}{dx dy:D}{k:Bool}(I:Inv X pQ σ H s)(rx:RelV x v)(ry:RelV y u)(S:StOk X.K ad H st)(hx:Den X.K ad H x dx)(hy:Den X.K ad H y dy)(e:eqS st dx dy=some k):CW2 X pQ σ Q s H .Eq .NotEq v u k:=by
 have sc:scal x y=true->(decide (x=y))=k->CW2 X pQ σ Q s H .Eq .NotEq v u k:=fun h1 h2=>by
  subst h2;exact⟨fun q=>op_eq pQ s σ H x y v u Q I rx ry ⟨h1,q⟩,fun q=>op_ne pQ s σ H x y v u Q I rx ry ⟨h1,q⟩⟩
 unfold eqS at e;split at e
 ·unfold ZiG at e
  split at e
  case h_2=>exact Zb e
  obtain⟨a,rfl,ha⟩:=hx.ofLst;obtain⟨b,rfl,hb⟩:=hy.ofLst;cases rx;cases ry
  have two:∀ {ba bb:Bool}{xs ys:Li D},st[_]?=some (ba,xs)->st[_]?=some (bb,ys)->(xs=[]\/ys=[])->(xs.isEmpty&&ys.isEmpty)=k->CW2 X pQ σ Q s H .Eq .NotEq (.ref a) (.ref b) k:=fun {ba bb xs ys} q1 q2 hz hk=>by
   obtain⟨vs,r1,s1⟩:=S.list ha q1;obtain⟨ws,r2,s2⟩:=S.list hb q2;obtain⟨its,rv,p1,_⟩:=I.list s1;obtain⟨its',rv',p2,_⟩:=I.list s2;have l1:its.toArray.size=xs.length:=by rw[List.size_toArray,<-rv.length,r1.length]
   have l2:its'.toArray.size=ys.length:=by rw[List.size_toArray,<-rv'.length,r2.length]
   by_cases hl:xs.length=ys.length
   ·have z1:xs=[]:=by
     rcases hz with z|z
     ·exact z
     ·rw[z]at hl;exact List.length_eq_zero_iff.mp hl
    have z2:ys=[]:=by rw[z1]at hl;exact List.length_eq_zero_iff.mp hl.symm
    subst z1 z2;cases hk;have f:its=[]:=List.length_eq_zero_iff.mp (by simpa using l1)
    have f':its'=[]:=List.length_eq_zero_iff.mp (by simpa using l2)
    subst f f';refine⟨fun q=>SeqAt.RcAt.lists (e:=fun _=>true) p1.isList p2.isList rfl (by omega) (fun j h1 _=>absurd h1 (by simp)) X.prog X.w X.xe _ ⟨.bl true,H,I,rfl,q⟩,fun q=>SeqAt.RcNeAt.lists (e:=fun _=>true) p1.isList p2.isList rfl (by omega) (fun j h1 _=>absurd h1 (by simp)) X.prog X.w X.xe _ ⟨.bl false,H,I,rfl,q⟩⟩
   ·have hk':k=false:=by
     rw[<-hk];rcases hz with z|z
     ·subst z
      cases ys with
      |nil=>exact absurd rfl hl
      |cons _ _=>rfl
     ·subst z
      cases xs with
      |nil=>exact absurd rfl hl
      |cons _ _=>rfl
    subst hk';have hne:(its.toArray.size != its'.toArray.size)=true:=by rw[l1,l2];simpa using hl
    exact⟨fun q=>SeqAt.RcAt.lists_lengths p1.isList p2.isList hne (by omega) X.prog X.w X.xe _ ⟨.bl false,H,I,rfl,q⟩,fun q=>SeqAt.RcNeAt.lists_lengths p1.isList p2.isList hne (by omega) X.prog X.w X.xe _ ⟨.bl true,H,I,rfl,q⟩⟩
  refine j_e e fun e=>Yl (P:=fun o=>o=some k->CW2 X pQ σ Q s H .Eq .NotEq (.ref a) (.ref b) k) e (fun c d q1 q2 e=>?_) rfl
  obtain⟨c1,c2⟩:=c;obtain⟨d1,d2⟩:=d;unfold Zbj at e;split at e
  ·rename_i hz
   cases e;rw[Bool.or_eq_true]at hz;exact two q1 q2 (hz.imp List.isEmpty_iff.mp List.isEmpty_iff.mp) rfl
  ·split at e
   ·rename_i hok
    cases e;rw[Ba]at hok;obtain⟨vs,r1,s1⟩:=S.list ha q1;obtain⟨ws,r2,s2⟩:=S.list hb q2;obtain⟨its,rv,p1,_⟩:=I.list s1;obtain⟨its',rv',p2,_⟩:=I.list s2;obtain⟨g1,g2⟩:=Zfj (ad:=ad) (A:=X.A) I hok.1 hok.2 (by omega) r1 r2 rv rv' p1.isList p2.isList
    exact⟨fun q=>g1 X.prog X.w X.xe _ ⟨.bl _,H,I,rfl,q⟩,fun q=>g2 X.prog X.w X.xe _ ⟨.bl _,H,I,rfl,q⟩⟩
   ·exact Zb e
 ·unfold ZiH at e
  split at e
  ·split at e
   ·rename_i k' q
    cases e;exact ZiI hu I rx ry S hx hy (show eqD (.tup _) (.tup _)=some _ from q)
   ·exact Zkf hu I rx ry S hx hy e
  ·exact Zb e
 ·exact ZiI hu I rx ry S hx hy e
theorem Zdq{x y:V}{u:vL}(r:RelV x u)(r':RelV y u):x=y:=by
 cases x<;>cases y<;>simp only[L2.RelV]at r r'<;>first
  |rfl
  | (subst r;cases r';rfl)
  | (obtain⟨t,rfl⟩:=r;obtain⟨t',e⟩:=r';cases e;rfl)
  | (obtain⟨t,rfl⟩:=r;obtain⟨t',e⟩:=r';cases e)
  | (obtain⟨t,rfl⟩:=r;cases r')
  | (subst r;obtain⟨t',e⟩:=r';cases e)
  | (subst r;cases r')
open Classical in
noncomputable def VD(K:Fg)(ad:Li Ad)(H:Hp)(d:D)(u:vL):Bool:=decide (∃ y e,RelV y u/\Den K ad H y e/\okD 8 e=true/\Zv e d=true)
theorem Zao{pQ:Li (Ad×Obj)}{σ:L2.St}{H:Hp}{s:Sd}{ad:Li Ad}(I:Inv X pQ σ H s){d e:D}{y:V}{u:vL}(r:RelV y u)(h:Den X.K ad H y e)(ok:okD 8 e=true):VD X.K ad H d u=Zv e d:=by
 classical
 unfold VD;cases q:Zv e d with
 |true=>exact decide_eq_true ⟨y,e,r,h,ok,q⟩
 |false=>
  refine decide_eq_false fun⟨y',e',r',h',ok',q'⟩=>?_
  cases Zdq r r'
  have z:=Den.inj (fun _ _ _ a b=>I.tuple_inj a.sq b.sq) (n:=8) (m:=8) ok ok' h h'
  rw[z,q']at q;cases q
theorem VE{pQ:Li (Ad×Obj)}{σ:L2.St}{H:Hp}{s:Sd}{ad:Li Ad}(I:Inv X pQ σ H s){A:Around}(hu:A.units+8 < cLine){d:D}{x:V}{v:vL}(rx:RelV x v)(hx:Den X.K ad H x d)(ox:okD 8 d=true):∀ {xs:Li V}{ds:Li D}{us:Li vL},Dens X.K ad H xs ds->Vals xs us->Yd 8 ds=true->(∀ u∈us,SeqAt.EqAt A s u v (VD X.K ad H d u))/\us.any (VD X.K ad H d)=ds.any fun e=>Zv e d
 |_,_,_,.nil,.nil,_=>⟨fun u hu=>(nomatch hu),rfl⟩
 |_,e :: ds,u :: us,.cons h t,.cons r rt,ok=>by
  have ok:(okD 8 e&&Yd 8 ds)=true:=ok;rw[Ba]at ok;obtain⟨h1,h2⟩:=VE I hu rx hx ox t rt ok.2;have z:=Zao (ad:=ad) I (d:=d) r h ok.1;refine⟨fun u' hu'=>?_,by rw[List.any_cons,List.any_cons,z,h2]⟩
  rcases List.mem_cons.mp hu' with rfl|hu'
  ·rw[z]
   exact Zb9 I 8 e d A _ _ _ _ ok.1 ox hu h hx r rx
  ·exact h1 u' hu'
section
variable {pQ:Li (Ad×Obj)}{s:Sd}{σ:L2.St}{H:Hp}{x y:V}{v u:vL}{Q:VK}{ad:Li Ad}{st:Za}{dx dy:D}{k:Bool}
theorem UQ{a:Ad}{xs:Li V}(I:Inv X pQ σ H s)(rx:RelV x v)(ry:RelV y u)(ey:y=.ref a)(sq:SqL X.K H a xs\/SqT X.K H a xs)(fx:flatV x=true)(h:xs.all flatV=true/\inV x xs=k):CW2 X pQ σ Q s H .In .NotIn v u k:=by
 obtain⟨h1,h2⟩:=h;subst h2;exact⟨fun pk=>op_in_seq pQ s σ H _ _ v u Q I rx ry ⟨a,xs,ey,sq,fx,h1,pk⟩,fun pk=>op_notIn_seq pQ s σ H _ _ v u Q I rx ry ⟨a,xs,ey,sq,fx,h1,pk⟩⟩
def InW(X:Cx)(pQ:Li (Ad×Obj))(σ:L2.St)(Q:VK)(s:Sd)(H:Hp)(v u:vL)(dy:D)(k:Bool):Prop:=(Q (.bl k) H->CW X pQ σ Q s .In v u)/\((∀ ks vs,dy≠.dct ks vs)->Q (.bl (!k)) H->CW X pQ σ Q s .NotIn v u)
theorem CW2.inW(h:CW2 X pQ σ Q s H .In .NotIn v u k):InW X pQ σ Q s H v u dy k:=⟨h.1,fun _=>h.2⟩
theorem ZiM(hu:X.A.units+64 < cLine)(I:Inv X pQ σ H s)(rx:RelV x v)(ry:RelV y u)(S:StOk X.K ad H st)(hx:Den X.K ad H x dx)(hy:Den X.K ad H y dy)(q:inS st dx dy=some k):InW X pQ σ Q s H v u dy k:=by
 unfold inS at q;split at q
 ·split at q
  ·rename_i q0
   obtain⟨a,e,ha⟩:=hy.ofLst;obtain⟨xs,r,sq⟩:=S.list ha q0;cases hx;exact(UQ I rx ry e (.inl sq) rfl (ZcB r q)).inW
  ·exact Zb q
 ·split at q
  ·rename_i q0
   obtain⟨a,e,ha⟩:=hy.ofLst;obtain⟨xs,r,sq⟩:=S.list ha q0;cases hx;exact(UQ I rx ry e (.inl sq) rfl (Jr r q)).inW
  ·exact Zb q
 ·split at q
  ·rename_i q0
   split at q
   ·rename_i hok
    cases q;rw[Ba]at hok;obtain⟨a,rfl,ha⟩:=hy.ofLst;obtain⟨xs,r,sq⟩:=S.list ha q0;cases ry;obtain⟨its,ri,pl,hz⟩:=I.list sq;obtain⟨l1,l2⟩:=VE (A:=X.A.in1) I (by have:X.A.in1.units=X.A.units+1:=rfl;omega) rx hx hok.1 r ri hok.2
    generalize hf:VD X.K ad H _=f at l1 l2;have l3:its.toArray.any f=_:=(show its.toArray.any f=its.any f by simp).trans l2
    exact⟨fun pk=>SeqAt.in_listAt f pl.isList (fun w hw=>l1 w (by simpa using hw)) ⟨.bl _,H,I,rfl,by rw[l3];exact pk⟩,fun _ pk=>SeqAt.notIn_listAt f pl.isList (fun w hw=>l1 w (by simpa using hw)) ⟨.bl _,H,I,rfl,by rw[l3];exact pk⟩⟩
   ·exact Zb q
  ·exact Zb q
 ·obtain⟨a,xs,e,ha,r⟩:=hy.ofTup
  cases hx;exact(UQ I rx ry e (.inr ha.sq) rfl (ZcB r q)).inW
 ·obtain⟨a,xs,e,ha,r⟩:=hy.ofTup
  cases hx;exact(UQ I rx ry e (.inr ha.sq) rfl (Jr r q)).inW
 ·obtain⟨a,vs,rfl,ha,hl,r⟩:=hy.ofDct
  cases hx;cases q;refine⟨fun pk=>op_in_dct pQ s σ H _ _ v u Q I rx ry ⟨a,_,Sum.inr _,rfl,rfl,ha,?_⟩,fun z=>absurd rfl (z _ _)⟩
  rcases Wn r hl with⟨w,d0,e1,e2,e3⟩|⟨e1,e2⟩
  ·rw[e1];rw[e2]at pk;exact pk
  ·rw[e1];rw[e2]at pk;exact pk
 ·cases hx;cases hy;cases q
  exact⟨fun pk=>op_in_str pQ s σ H _ _ v u Q I rx ry ⟨_,_,rfl,rfl,pk⟩,fun _ pk=>op_notIn_str pQ s σ H _ _ v u Q I rx ry ⟨_,_,rfl,rfl,pk⟩⟩
 ·exact Zb q
theorem ZeM(hx:Den X.K ad H x dx)(q:isN dx=some k):decide (x=V.non)=k:=by
 cases hx<;>cases q<;>rfl
theorem ZiN(I:Inv X pQ σ H s)(rx:RelV x v)(ry:RelV y u)(hx:Den X.K ad H x dx)(hy:Den X.K ad H y dy)(q:isD dx dy=some k):CW2 X pQ σ Q s H .Is .IsNot v u k:=by
 unfold isD at q;split at q
 ·cases hy
  have z:=ZeM hx q;subst z;exact⟨fun pk=>op_isN pQ s σ H _ _ v u Q I rx ry ⟨rfl,pk⟩,fun pk=>op_notN pQ s σ H _ _ v u Q I rx ry ⟨rfl,pk⟩⟩
 ·unfold isB at q
  split at q
  ·cases q
   cases hx;cases hy
   cases rx;cases ry
   have e:∀ a b:Bool,(Value.bool a==Value.bool b)=(a==b):=fun a b=>by cases a<;>cases b<;>rfl
   exact⟨fun pk=>wpAny_is_plain rfl (by rw[e];exact⟨.bl _,H,I,rfl,pk⟩),fun pk=>wpAny_isNot_plain rfl (by rw[e];exact⟨.bl _,H,I,rfl,pk⟩)⟩
  ·cases q
 ·cases q
theorem W8{f:Int->Int->Bool}(hx:Den X.K ad H x dx)(hy:Den X.K ad H y dy)(q:JG f dx dy=some k):∃ i j,x=.int i/\y=.int j/\f i j=k:=by
 unfold JG at q;split at q
 ·cases q;cases hx;cases hy;exact⟨_,_,rfl,rfl,rfl⟩
 ·exact Zb q
theorem Zky(hu:X.A.units+64 < cLine)(I:Inv X pQ σ H s)(rx:RelV x v)(ry:RelV y u)(S:StOk X.K ad H st)(hx:Den X.K ad H x dx)(hy:Den X.K ad H y dy)(q:ltS st dx dy=some k)(pk:Q (.bl k) H):CW X pQ σ Q s .Lt v u:=by
   have q:ltD dx dy=some k:=q;unfold ltD at q;split at q
   ·split at q
    ·rename_i ds es hok
     rw[Ba]at hok;obtain⟨a,xs,rfl,ha,r1⟩:=hx.ofTup;obtain⟨b,ys,rfl,hb,r2⟩:=hy.ofTup;cases rx;cases ry
     exact ZeU (ad:=ad) (A:=X.A) I (n:=7) hok.1 hok.2 (by omega) ha r1 hb r2 q X.prog X.w X.xe _ ⟨.bl _,H,I,rfl,pk⟩
    ·exact Zb q
   obtain⟨i,j,rfl,rfl,z⟩:=W8 hx hy q;exact op_lt pQ s σ H _ _ v u Q I rx ry ⟨_,_,rfl,rfl,by cases z;exact pk⟩
theorem UV{o:Ot Bool}(q:o.map not=some k):o=some (!k):=by
 cases o with
 |none=>exact Zb q
 |some k'=>cases q;rw[Bool.not_not]
theorem ZcV{op op':CmpOp}(h:CW2 X pQ σ Q s H op op' v u (!k))(pk:Q (.bl k) H):CW X pQ σ Q s op' v u:=h.2 (by rw[Bool.not_not];exact pk)
end
theorem Zaz(hu:X.A.units+64 < cLine){op:CmpOp}:OpR X (compareOp op) (rD X.K (Za7 op)):=by
 intro pQ s σ H x y v u Q I rx ry h;obtain⟨ad,st,dx,dy,d,st',S,hx,hy,e,p⟩:=h
 change CW X pQ σ Q s op v u;unfold Za7 at e;cases q:ZgF op dx dy st with
 |none=>rw[q]at e;cases e
 |some k=>
  rw[q]at e;cases e;have pk:=p.at S (.bl k);clear p;cases op with
  |Lt=>exact Zky hu I rx ry S hx hy q pk
  |LtE=>
   obtain⟨i,j,rfl,rfl,z⟩:=W8 hx hy q;exact op_le pQ s σ H _ _ v u Q I rx ry ⟨_,_,rfl,rfl,by cases z;exact pk⟩
  |Gt=>
   obtain⟨i,j,rfl,rfl,z⟩:=W8 hx hy q;exact op_gt pQ s σ H _ _ v u Q I rx ry ⟨_,_,rfl,rfl,by cases z;exact pk⟩
  |GtE=>
   obtain⟨i,j,rfl,rfl,z⟩:=W8 hx hy q;exact op_ge pQ s σ H _ _ v u Q I rx ry ⟨_,_,rfl,rfl,by cases z;exact pk⟩
  |Eq=>exact(ZiJ hu I rx ry S hx hy q).1 pk
  |NotEq=>exact ZcV (ZiJ hu I rx ry S hx hy (UV q)) pk
  |In=>exact(ZiM hu I rx ry S hx hy q).1 pk
  |NotIn=>
   have q:niS st dx dy=some k:=q;unfold niS at q;split at q
   ·exact Zb q
   ·rename_i hn
    exact(ZiM hu I rx ry S hx hy (UV q)).2 hn (by rw[Bool.not_not];exact pk)
  |Is=>exact(ZiN I rx ry hx hy q).1 pk
  |IsNot=>exact ZcV (ZiN I rx ry hx hy (UV q)) pk
end
end Dp



namespace Dp
open PySem PySem.Spec PyProof.Rows L2
variable [ClsTab]
noncomputable def Zn:Expr->Bool
 |.Starred ..=>false
 |.Set ..=>false
 |.Slice ..=>false
 |_=>true
theorem Zh{G:Gs}{n:Nat}{sc:Scope}{N:Li Str}{e:Expr}{c:CE}(h:cE G n sc N e=some c):Zn e=true:=by
 cases n with
 |zero=>exact nomatch (show(none:Ot CE)=some c from h)
 |succ n=>cases e<;>first|rfl|exact nomatch (show(none:Ot CE)=some c from h)
theorem Zj{e:Expr}{es:Li Expr}{env:PySem.Env}(h:Zn e=true):starEach (e :: es) env=(false,eval e env) :: starEach es env:=by
 cases e<;>first|rfl|cases h
theorem WR{op:CmpOp}{b:Expr}(h:Zn b=true):behindInMarks op b=false:=by
 cases b<;>first|rfl|cases h
theorem QH{b:Expr}(h:Zn b=true):PlainIx b:=by
 cases b<;>first | (intro o i;rfl)|cases h
theorem YW{pos:Pos}{env:PySem.Env}:∀ {es:Li Expr},es.all Zn=true->(backTo pos (starEach es env)).any (·.1)=false
 |[],_=>rfl
 |e :: es,h=>by
  rw[List.all_cons,Ba]at h;rw[Zj h.1];show(false||(backTo pos (starEach es env)).any (·.1))=false;rw[YW h.2];rfl
inductive EsOk(Pm:Params)(K:Fg):List DictEntry->List Str->List D->Prop where
 |nil:EsOk Pm K [] [] []
 |cons {e:DictEntry}{es:List DictEntry}{k:Str}{ks:List Str}{d:D}{ds:List D}{v:V}{t:Tok} (h1:e.hash=PyData.keyHash Pm k) (h2:e.key=.str k t) (h3:RelV v e.val) (h4:∀ ad H,Den K ad H v d) (r:EsOk Pm K es ks ds):EsOk Pm K (e :: es) (k :: ks) (d :: ds)
def J3(Pm:Params)(K:Fg)(mg:Str->Ot vL)(x:Str)(ks:Li Str)(ds:Li D):Prop:=
 ∃ A o es ep,mg x=some (.ref A)/\K.lookup A=some o/\o.ExactDict/\o.data=.dict es ep/\(A==sysModules)=false/\ks.Nodup/\EsOk Pm K es.toList ks ds
theorem EsOk.open{w:World}{P:Program}{K:Fg}:∀ {es:Li DictEntry}{ks:Li Str}{ds:Li D},EsOk w.params K es ks ds->∃ kvs:Li (Key×vL),Pairs (mixKind P w) es kvs/\kvs.map (·.1)=ks.map Sum.inr/\(∀ e∈es,∃ k,(mixKind P w).is k e.key=true/\e.hash=(mixKind P w).hash k) /\
  ∀ k d,ZK ks ds k=some d->∃ u v,valueAt kvs (Sum.inr k)=some u/\RelV v u/\∀ ad H,Den K ad H v d
 |_,_,_,.nil=>⟨[],.nil,rfl,(fun _ h=>nomatch h),fun k d h=>by simp[ZK]at h⟩
 |e :: es,k0 :: ks,d0 :: ds,.cons (v:=v) (t:=t) h1 h2 h3 h4 r=>by
  obtain⟨kvs,a1,a2,a3,a4⟩:=EsOk.open (P:=P) r;have hk:(mixKind P w).is (Sum.inr k0) e.key=true:=by rw[h2];exact mixKind_str P w k0 t
  refine⟨(Sum.inr k0,e.val) :: kvs,.cons hk rfl a1,by rw[List.map_cons,List.map_cons,a2],fun x hx=>?_,fun k d h=>?_⟩
  ·rcases List.mem_cons.mp hx with rfl|hx
   ·exact⟨Sum.inr k0,hk,h1⟩
   ·exact a3 x hx
  ·unfold valueAt
   by_cases c:k0=k
   ·subst c
    have h:ZK (k0 :: ks) (d0 :: ds) k0=some d:=h;simp only[ZK,if_pos]at h;cases h;exact⟨e.val,v,by simp,h3,h4⟩
   ·have h:ZK ks ds k=some d:=by
     simp only[ZK,if_neg c]at h;exact h
    obtain⟨u,v',b1,b2,b3⟩:=a4 k d h;refine⟨u,v',?_,b2,b3⟩;have nk:¬(Sum.inr k0:Key)=Sum.inr k:=fun z=>c (Sum.inr.inj z)
    rw[List.find?_cons_of_neg (by simpa using nk)]
    exact b1
structure SubOk(K:Fg)(C B:Addr):Prop where
 cl:Cls K C
 ha:PySem.W.findIn K (.ref C) "__class__"=some (some (.builtin "object.__class__"))
 hn:PySem.W.specialIn K (.builtin "object.__class__") "__get__"=some (some (.builtin "getset_descriptor.__get__"))
 ht:PySem.W.takesIn K (.builtin "object.__class__")=some true
 hm:PySem.W.mroIn K C (.type "object")=some true
 kit:PySem.W.kitOne K (.ref C) (.ref B)=some true
structure NewOk(K:Fg)(C:Addr):Prop where
 makes:PySem.W.makesIn K C=true
 init:PySem.W.findIn K (.ref C) "__init__"=some (some (.builtin "object.__init__"))
 kp:PySem.W.keepIn K (.ref C)=true
 cl:Cls K C
def GOk(P:Program)(w:World)(K:Fg)(mg:Str->Ot vL)(base:Heap)(A:Around)(F:Nat->Fn)(x:Str):GV->Prop
 |.cst d=>∃ v u,mg x=some u/\RelV v u/\∀ ad H,Den K ad H v d
 |.blt=>mg x=none
 |.dct ks ds=>J3 w.params K mg x ks ds
 |.cls i ms subs=>mg x=some (.ref (ClsTab.ca i))/\NewOk K (ClsTab.ca i)/\(∀ i',subs.contains i'=true->SubOk K (ClsTab.ca i') (ClsTab.ca i)) /\
   ∀ m j ps,ms.lookup m=some (j,ps)->∃ (k:Nat) (f:Ad) (fd:FuncData) (pn:Li Str),FnOk P w K mg base CX0 k f fd pn (spD K (F j))/\Room k A/\Meth K (ClsTab.ca i) m f/\Binds K fd pn []
 |.fn i ps ds=>∃ (k:Nat) (f:Ad) (fd:FuncData) (pn:Li Str),FnOk P w K mg base CX0 k f fd pn (spD K (F i))/\Room k A/\mg x=some (.ref f)/\PySem.W.keepIn K (.ref f)=true /\
   ∀ m,m<=ds.length->∃ dvs us,(∀ ad H,Dens K ad H dvs (ds.drop m))/\Vals dvs us/\Binds K fd pn us
structure Cxt(X:Cx)(G:Gs)(F:Nat->Fn)(sc:Scope)(N:List Str):Prop where
 hN:X.N=N
 vis:∀ x,Xz sc x=true->Vis X.env.scope x
 glb:∀ x,ZL sc x=true->Gl X x
 calm:X.calm=true
 hu:X.A.units+64 < cLine
 gl:∀ x g,G.lookup x=some g->GOk X.prog X.w X.K X.mg X.base X.A F x g
 cel:∀ x,Vx sc x=true->X.env.scope.names.lookup x=some .cell\/X.env.scope.names.lookup x=some .free
 nx:X.xe=fun _ _=>False
theorem X6{N:Li Str}{x:Str}{i:Nat}(h:N.idxOf? x=some i):N[i]?=some x:=by
 unfold List.idxOf? at h
 rw[List.findIdx?_eq_some_iff_getElem]at h;obtain⟨hi,h1,_⟩:=h;rw[Lg hi];rw[beq_iff_eq.mp h1]
theorem UT{sc:Scope}{x:Str}(h:Xz sc x=true):(x==("__debug__":Str))=false/\(x==("__classdict__":Str))=false:=by
 unfold Xz at h;rw[Ba,Ba,Bool.not_eq_true',Bool.not_eq_true']at h;exact h.1
theorem Xv{sc:Scope}{x:Str}(h:ZL sc x=true):(x==("__debug__":Str))=false:=by
 unfold ZL at h;rw[Ba,Bool.not_eq_true']at h;exact h.1
section
variable {X:Cx}{F:Nat->Fn}
theorem Zjd{e:Expr}{f:Ev}(h:PE X e (tE X.K f))(he:∀ whole,isTrue e X.env whole=(do let v <-whole;standAt e.pos;holding [v] (truthy v)):=by intro _;rfl):PT X e (tT X.K f):=VN (pt_val h he) ZcA
theorem Zhn{c a b:Expr}{fc fa fb:Ev}{pos:Pos}(hc:PT X c (tT X.K fc))(ha:PT X a (tT X.K fa))(hb:PT X b (tT X.K fb)):PT X (.IfExp c a b pos) (tT X.K (Xs fc fa fb)):=by
 intro pQ s σ H Q I h;obtain⟨ad,ρ,st,d,st',E,S,e,p⟩:=h;obtain⟨k,st1,q,e⟩:=Yv e;show wpAny _ _ (isTrue c X.env (eval c X.env) >>= fun t=>if t then isTrue a X.env (eval a X.env) else isTrue b X.env (eval b X.env)) _ _ s
 refine wpAny_bind (thn (hc pQ s σ H (fun k' H1=>k'=k/\∃ ad1,Ext ad H ad1 H1/\StOk X.K ad1 H1 st1) I ⟨ad,ρ,st,k,st1,E,S,q,fun ad1 H1 x1 S1=>⟨rfl,ad1,x1,S1⟩⟩) fun t s1 ⟨H1,I1,et,ad1,x1,S1⟩=>?_)
 subst et;cases t with
 |true=>
  rw[if_pos rfl]at e ⊢;exact ha pQ s1 σ H1 Q I1 ⟨ad1,ρ,st1,d,st',E.mono x1,S1,e,fun ad2 H2 x2 S2=>p ad2 H2 (x1.trans x2) S2⟩
 |false=>
  rw[if_neg Bf]at e ⊢;exact hb pQ s1 σ H1 Q I1 ⟨ad1,ρ,st1,d,st',E.mono x1,S1,e,fun ad2 H2 x2 S2=>p ad2 H2 (x1.trans x2) S2⟩
def Ja:CE->Prop
 |.aN=>True
 |.aC _ _=>True
 |_=>False
theorem W2{c:CE}(h:Ja c){ρ:Env}{st st':Za}{d:D}(e:ev F c ρ st=some (d,st')):∃ ds,d=.tup ds/\ds.length<=1000:=by
 cases c with
 |aN=>cases e;exact⟨[],rfl,by decide⟩
 |aC a r=>
  have e:ZQ (ev F a) (ev F r) Ys ρ st=some (d,st'):=e;unfold ZQ at e;split at e
  ·split at e
   ·rename_i y st2 _
    cases y with
    |tup zs=>
     have e:(if zs.length < 1000 then some (D.tup (_ :: zs),st2) else none)=some (d,st'):=e
     split at e
     ·rename_i hz
      cases e;exact⟨_,rfl,hz⟩
     ·exact Zb e
    |_=>simp[Ys]at e
   ·exact Zb e
  ·exact Zb e
 |_=>exact False.elim h
structure SE(X:Cx)(F:Nat->Fn)(e:Expr)(c:CE):Prop where
 pe:PE X e (tE X.K (ev F c))
 pt:PT X e (tT X.K (ev F c))
theorem SE.of{e:Expr}{c:CE}(h:PE X e (tE X.K (ev F c)))(he:∀ whole,isTrue e X.env whole=(do let v <-whole;standAt e.pos;holding [v] (truthy v)):=by intro _;rfl):SE X F e c:=⟨h,Zjd h he⟩
theorem QV{op:BoolOp}{es:Li Expr}{pos:Pos}{t:TT}(h:PT X (.BoolOp op es pos) t):PW X (.BoolOp op es pos) t:=fun _ pQ s σ H Q I q=>h pQ s σ H Q I q
end
section
variable {ad:Li Ad}{H:Hp}{p:Ad}{o:HO}
variable (ho:∀ kvs,o≠.dN kvs)
include ho
theorem ZcE{K:Fg}(hp:H p=some (.dK [])):Keeps K ad ad H (upd H p o):=⟨fun h=>h.upd hp (by intro xs z;cases z),fun h=>⟨h,VX (W0 hp fun _ z=>nomatch z) ho⟩,fun n h=>by rw[upd_ne (ne_of h hp (by intro z;injection z with z;exact n z))];exact h,fun h n=>⟨by rw[upd_ne (ne_of h hp (by intro z;cases z))];exact h,n⟩⟩
theorem Dens.wrK{K:Fg}(hp:H p=some (.dK [])){vs:Li V}{ds:Li D}(h:Dens K ad H vs ds):Dens K ad (upd H p o) vs ds:=h.map (ZcE ho hp)
theorem StOk.wrK{K:Fg}{st:Za}(S:StOk K ad H st)(hp:H p=some (.dK []))(hn:p∉ad):StOk K ad (upd H p o) st:=
 S.wrG (ZcE ho hp) hn
theorem Ext.wrK{ad0:Li Ad}{H0:Hp}(x:Ext ad0 H0 ad H)(hp:H p=some (.dK []))(h0:H0 p=none):Ext ad0 H0 ad (upd H p o):=by
 refine⟨x.pre,fun b zs h=>?_,fun b zs h=>?_,fun b o h n=>?_,x.new,fun i a h=>(x.kd i a h).trans (VX (W0 hp fun _ z=>nomatch z) ho)⟩
 ·rw[upd_ne (ne_of_none h h0)];exact x.tup b zs h
 ·rw[upd_ne (ne_of_none h h0)];exact x.dk b zs h
 ·rw[upd_ne (ne_of_none h h0)];exact x.keep b o h n
end
theorem Up:∀ (kvs acc:Li (Key×V)),(∀ p∈kvs,∀ q∈acc,q.1≠p.1)->(kvs.map (·.1)).Nodup->mergeK acc kvs=acc++kvs
 |[],acc,_,_=>by show acc=acc++[];rw[List.append_nil]
 |p :: r,acc,h,n=>by
  rw[List.map_cons,List.nodup_cons]at n;have e:putK acc p.1 p.2=acc++[p]:=by
   unfold putK;rw[if_neg];intro z;rw[List.any_eq_true]at z;obtain⟨q,hq,z⟩:=z;exact h p (Ls ..) q hq (of_decide_eq_true z)
  show mergeK (putK acc p.1 p.2) r=_;rw[e,Up r (acc++[p]) (fun x hx q hq=>?_) n.2,List.append_assoc];rfl
  rcases List.mem_append.mp hq with hq|hq
  ·exact h x (Lm _ hx) q hq
  ·rw[List.mem_singleton]at hq
   subst hq;intro z;exact n.1 (by rw[z];exact List.mem_map_of_mem hx)
theorem VC:∀ {ks:Li Str}{vs:Li V},ks.Nodup->(((ks.zip vs).map fun p=>((Sum.inr p.1:Key),p.2)).map (·.1)).Nodup
 |[],_,_=>by simp
 |_ :: _,[],_=>by simp
 |k :: ks,v :: vs,h=>by
  rw[List.nodup_cons]at h;show((Sum.inr k:Key) :: ((ks.zip vs).map fun p=>((Sum.inr p.1:Key),p.2)).map (·.1)).Nodup
  rw[List.nodup_cons];refine⟨fun z=>h.1 ?_,VC h.2⟩
  rw[List.map_map,List.mem_map]at z;obtain⟨q,hq,e⟩:=z;have e:(Sum.inr q.1:Key)=Sum.inr k:=e;rw[<-Sum.inr.inj e];exact(List.of_mem_zip hq).1
theorem Wm:∀ {keys:Li (Ot Expr)}{ks:Li Str},ZY keys=some ks->keys.length=ks.length/\keys.all (·.isSome)=true
 |[],_,h=>by cases h;exact⟨rfl,rfl⟩
 |some (.Constant (.str k) a b) :: r,ks,h=>by
  have h:(ZY r).map (k :: ·)=some ks:=h;cases q:ZY r with
  |none=>rw[q]at h;cases h
  |some ks'=>
   rw[q]at h;cases h;obtain⟨h1,h2⟩:=Wm q;exact⟨by rw[List.length_cons,List.length_cons,h1],by rw[List.all_cons,h2];rfl⟩
 |none :: _,_,h=>by simp[ZY]at h
 |some e :: r,ks,h=>by
  cases e with
  |Constant v a b=>cases v with
   |str k=>
    have h:(ZY r).map (k :: ·)=some ks:=h;cases q:ZY r with
    |none=>rw[q]at h;cases h
    |some ks'=>
     rw[q]at h;cases h;obtain⟨h1,h2⟩:=Wm q;exact⟨by rw[List.length_cons,List.length_cons,h1],by rw[List.all_cons,h2];rfl⟩
   |_=>simp[ZY]at h
  |_=>simp[ZY]at h
section
variable {X:Cx}{F:Nat->Fn}{pos:Pos}{f:Expr->Ot CE}
theorem Zdh(hf:∀ e c,f e=some c->PE X e (tE X.K (ev F c))):∀ {vals:Li Expr}{keys:Li (Ot Expr)}{ks:Li Str}{c:CE},ZY keys=some ks->cVs f vals=some c->ks.length=vals.length->
  Ja c/\∃ trs,PPs X pos keys vals trs/\∀ σ H (Q:Li (V×V)->Hp->Prop),tA X.K (ev F c) σ H (fun vs H'=>Q ((ks.zip vs).map fun p=>(V.str p.1,p.2)) H')->tPairs trs σ H Q
 |[],keys,ks,c,hk,hc,hl=>by
  cases hc;cases ks with
  |cons _ _=>simp at hl
  |nil=>
   have h0:=(Wm hk).1;cases keys with
   |cons _ _=>simp at h0
   |nil=>exact⟨trivial,[],pps_nil,fun σ H Q h=>Vw σ H _ h⟩
 |v :: vals,keys,ks,c,hk,hc,hl=>by
  cases ks with
  |nil=>simp at hl
  |cons k ks=>
   have hc:(match f v,cVs f vals with
    |some x,some r=>some (CE.aC x r)
    |_,_=>none)=some c:=hc
   split at hc
   ·rename_i x r hx hr
    cases hc;cases keys with
    |nil=>cases hk
    |cons key keys=>
     cases key with
     |none=>simp[ZY]at hk
     |some e=>
      cases e with
      |Constant cv a b=>
       cases cv with
       |str k'=>
        have hk:(ZY keys).map (k' :: ·)=some (k :: ks):=hk;cases q:ZY keys with
        |none=>rw[q]at hk;cases hk
        |some ks'=>
         rw[q]at hk;cases hk;obtain⟨_,trs,h1,h2⟩:=Zdh hf q hr (by simpa using hl)
         refine⟨trivial,(tC (.str k),tE X.K (ev F x)) :: trs,pps_cons pe_str (hf v x hx) h1,fun σ H Q h=>?_⟩
         have h:=Ui σ H _ h;obtain⟨ad,ρ,st,d,st',E,S,e,p⟩:=h;exact⟨ad,ρ,st,d,st',E,S,e,fun v ad' H' x1 S1 d1=>h2 σ H' _ (p v ad' H' x1 S1 d1)⟩
       |_=>simp[ZY]at hk
      |_=>simp[ZY]at hk
   ·exact Zb hc
theorem Zc9(hf:∀ e c,f e=some c->PE X e (tE X.K (ev F c))){vals:Li Expr}{keys:Li (Ot Expr)}{ks:Li Str}{c:CE}(hk:ZY keys=some ks)(hc:cVs f vals=some c)(hl:keys.length=vals.length)(h0:keys≠[])(h15:keys.length<=15) :
  PE X (.Dict keys vals pos) (tE X.K (ev F (.dict ks c))):=by
 obtain⟨k1,k2⟩:=Wm hk;obtain⟨ha,trs,h1,h2⟩:=Zdh (pos:=pos) hf hk hc (by omega)
 refine Zu (pe_disp h1 k2 hl h0 h15) fun σ H Q h=>?_
 obtain⟨ad,ρ,st,d,st',E,S,e,p⟩:=h;have e:ZC (ev F c) (Qu ks) ρ st=some (d,st'):=e;unfold ZC at e;split at e
 ·rename_i y st1 q1
  obtain⟨ds,rfl,_⟩:=W2 ha q1;have e:(if ks.length=ds.length/\(ks.Nodup/\ks≠[])/\ks.length<=15 then some (D.dct ks ds,st1) else none)=some (d,st'):=e
  split at e
  ·rename_i cc
   cases e;intro a ha0 hK0;refine h2 σ _ _ ⟨ad,ρ,st,ds,_,E.mono (Ext.laid ha0),S.laid ha0,q1,fun vs ad1 H1 x1 S1 d1=>?_⟩
   have hH:H1 a=some (.dK []):=x1.dk a [] upd_same;have nT:∀ {l:Li (Key×V)} (kvs:World->Li DictEntry),HO.dK l≠.dN kvs:=fun _ z=>nomatch z
   have hlv:ks.length=vs.length:=by rw[d1.length];exact cc.1
   have hna:a∉ad1:=fun z=>by
    rcases x1.new a z with z|z
    ·obtain⟨i,hi⟩:=List.mem_iff_getElem?.mp z
     rcases S.has hi with⟨o,q⟩|⟨o,q⟩
     ·rw[ha0]at q;cases q
     ·exact hK0 o q
    ·rw[upd_same]at z;cases z
   refine⟨hH,(ks.zip vs).map fun p=>((Sum.inr p.1:Key),p.2),by rw[List.map_map];rfl,by rw[List.length_map,List.length_zip];omega,?_⟩
   rw[Up _ [] (fun _ _ q hq=>nomatch hq) (VC cc.2.1.1),List.nil_append]
   exact p _ ad1 _ ((((Ext.laid ha0).trans x1)).wrK nT hH ha0) (S1.wrK nT hH hna) (.dct upd_same rfl cc.2.1 hlv (d1.wrK nT hH))
  ·exact Zb e
 ·exact Zb e
end
end Dp



namespace Dp
open PySem PySem.Spec PyProof.Rows L2
variable [ClsTab]
theorem Qm:bootBuiltins "tuple"=some (.type "tuple"):=by decide +kernel
theorem Zd4:bootBuiltins "list"=some (.type "list"):=by decide +kernel
theorem ZbV:bootBuiltins "int"=some (.type "int"):=by decide +kernel
theorem Zd2:bootBuiltins "bool"=some (.type "bool"):=by decide +kernel
theorem ZgD:bootBuiltins "str"=some (.type "str"):=by decide +kernel
theorem ZgC:bootBuiltins "min"=some (.builtin "min"):=by decide +kernel
theorem ZgB:bootBuiltins "max"=some (.builtin "max"):=by decide +kernel
theorem V0:bootBuiltins "isinstance"=some (.builtin "isinstance"):=by decide +kernel
theorem ZaX:bootBuiltins "sorted"=some (.builtin "sorted"):=by decide +kernel
theorem ZgA:bootBuiltins "len"=some (.builtin "len"):=by decide +kernel
section
variable {G:Gs}{F:Nat->Fn}
def Zw(G:Gs)(F:Nat->Fn)(n:Nat):Prop:=∀ X sc N,Cxt X G F sc N->∀ e c,cE G n sc N e=some c->SE X F e c
def YU(G:Gs)(F:Nat->Fn)(n:Nat):Prop:=∀ X sc N,Cxt X G F sc N->∀ es c,cEs G n sc N es=some c->PA X es (tA X.K (ev F c))/\Ja c/\es.all Zn=true/\(es=[]->c=.aN)
def UD(G:Gs)(F:Nat->Fn)(n:Nat):Prop:=∀ X sc N,Cxt X G F sc N->∀ e c,cO G n sc N e=some c->PO X e (tO X.K (ev F c))

theorem ZdA{X:Cx}{v:Const}{k:Nat}{pos:Pos}{c:CE}(h:CE.ofConst v=some c):SE X F (.Constant v k pos) c:=by
 cases v with
 |none=>cases h;exact .of (Zu pe_non (QA fun _ _=>.non))
 |bool b=>cases h;exact .of (Zu pe_bl (QA fun _ _=>.bl b))
 |int i=>cases h;exact .of (Zu pe_int (QA fun _ _=>.int i))
 |str x=>cases h;exact .of (Zu pe_str (QA fun _ _=>.str x))
 |_=>exact Zb h
theorem Zfy{X:Cx}{sc:Scope}{N:Li Str}{x:Str}{pos:Pos}{c:CE}(K:Cxt X G F sc N)(h:ZcS G sc N x=some c):SE X F (.Name x pos) c:=by
 unfold ZcS at h;split at h
 ·rename_i hl
  cases q:N.idxOf? x with
  |none=>rw[q]at h;cases h
  |some i=>
   rw[q]at h;cases h;obtain⟨h1,h2⟩:=UT hl;exact .of (Zu (pe_var (i:=i) (by rw[K.hN];exact X6 q) (K.vis x hl) h1 h2) ZeH)
 ·split at h
  ·rename_i hg
   split at h
   ·rename_i d q
    cases h;obtain⟨v,u,hm,r,hd⟩:=K.gl x _ q;exact .of (Zu (pe_glob (K.glb x hg) hm r (Xv hg)) (QA hd))
   ·exact Zb h
  ·exact Zb h
theorem pa1{X:Cx}{a:Expr}{t:TE}(hp:Zn a=true)(ha:PE X a t):PA X [a] (tCons t tNil):=pa_cons ha pa_nil (Zj hp)
theorem pa2{X:Cx}{a b:Expr}{t u:TE}(hp:Zn a=true)(hq:Zn b=true)(ha:PE X a t)(hb:PE X b u):PA X [a,b] (tCons t (tCons u tNil)):=pa_cons ha (pa1 hq hb) (Zj hp)
theorem Zfq{X:Cx}{sc:Scope}{N:Li Str}{f:Str}{a:Expr}{x c:CE}{p pos:Pos}(K:Cxt X G F sc N)(hg:ZL sc f=true)(hm:X.mg f=none)(hp:Zn a=true)(A:PE X a (tE X.K (ev F x)))(h:Zgy f x=some c) :
  PE X (.Call (.Name f p) [a] [] pos) (tE X.K (ev F c)):=by 
 have hG:=K.glb f hg;unfold Zgy at h;split at h
 ·rename_i e;subst e;cases h
  exact Zu (pe_callB Za1 hG hm ZgA (pa1 hp A) (by decide) (by decide) (Zj hp) rfl) Xx
 ·split at h
  ·rename_i e;subst e;cases h
   exact Zu (pe_callTy Qn hG hm Qm (pa1 hp A) (by decide) (by decide) (Zj hp) rfl) Xx
  ·split at h
   ·rename_i e;subst e;cases h
    exact Zu (pe_callTy Jl hG hm Zd4 (pa1 hp A) (by decide) (by decide) (Zj hp) rfl) Xx
   ·split at h
    ·rename_i e;subst e;cases h
     exact Zu (pe_callTy Za0 hG hm ZbV (pa1 hp A) (by decide) (by decide) (Zj hp) rfl) Xx
    ·split at h
     ·rename_i e;subst e;cases h
      exact Zu (pe_callB Jm hG hm ZaX (pa1 hp A) (by decide) (by decide) (Zj hp) rfl) Xx
     ·exact Zb h
theorem ZeD{K:Fg}{F:Nat->Fn}{fa:Ev}(σ:L2.St)(H:Hp)(Q:VK)(h:tE K (ZC fa (rsD false)) σ H Q):Zjo K (tE K fa) (tE K (ev F (.neg (.cst (.int 1))))) σ H Q:=by
 obtain⟨ad,ρ,st,d,st',E,S,e,p⟩:=h;unfold ZC at e;split at e
 ·rename_i x st1 q1
  refine⟨ad,ρ,st,x,st1,E,S,q1,fun v1 ad1 H1 x1 S1 d1=>⟨ad1,ρ,st1,.int (-1),st1,E.mono x1,S1,rfl,fun v2 ad2 H2 x2 S2 d2=>⟨d2.ofInt,?_⟩⟩⟩
  unfold rsD at e;split at e
  ·split at e
   ·rename_i c zs q0
    cases e;obtain⟨a,rfl,ha⟩:=(d1.mono x2).ofLst;obtain⟨ys,rr,sq⟩:=S2.list ha q0;refine⟨a,ys,rfl,sq,fun l hl=>p.later (x1.trans x2) _ (ad2++[l]) _ (Ext.push hl) (S2.push hl (Qt rr)) (.newL ?_)⟩
    rw[<-S2.len];exact ZE
   ·exact Zb e
  ·exact Zb e
 ·exact Zb e
theorem Zd1{X:Cx}{b:Expr}{pos:Pos}(hq:Zn b=true):(backTo pos (starEach [b] X.env)).any (·.1)=false:=YW (by rw[List.all_cons,hq];rfl)
theorem Zfr{X:Cx}{sc:Scope}{N:Li Str}{f:Str}{a b:Expr}{x y c:CE}{p pos:Pos}(K:Cxt X G F sc N)(hg:ZL sc f=true)(hm:X.mg f=none)(hp:Zn a=true)(hq:Zn b=true)(A:PE X a (tE X.K (ev F x)))(B:PE X b (tE X.K (ev F y)))(h:Zgz f x y=some c):PE X (.Call (.Name f p) [a,b] [] pos) (tE X.K (ev F c)):=by
 have hG:=K.glb f hg;unfold Zgz at h;split at h
 ·rename_i e;subst e;cases h
  exact Zu (pe_callB (Za3 K.calm) hG hm ZgC (pa2 hp hq A B) (by decide) (by decide) (Zj hp) (Zd1 hq)) Qz
 ·split at h
  ·rename_i e;subst e;cases h
   exact Zu (pe_callB (Za2 K.calm) hG hm ZgB (pa2 hp hq A B) (by decide) (by decide) (Zj hp) (Zd1 hq)) Qz
  ·exact Zb h
theorem Zev{K:Fg}{T:Ty}{fa:Ev}(σ:L2.St)(H:Hp)(Q:VK)(h:tE K (ZC fa (Jv T)) σ H Q) :
  tCB (fun vs H Q=>∃ v,vs=[v,.ty (tyN T)]/\rC K (on1 (Jv T)) [v] H Q) (tCons (tE K fa) (tCons (tC (.ty (tyN T))) tNil)) σ H Q:=by
 obtain⟨ad,ρ,st,d,st',E,S,e,p⟩:=h;unfold ZC at e;split at e
 ·rename_i x st1 q1
  exact⟨ad,ρ,st,x,st1,E,S,q1,fun v1 ad1 H1 x1 S1 d1=>⟨v1,rfl,ad1,st1,[x],d,st',S1,.cons d1 .nil,e,p.later x1⟩⟩
 ·exact Zb e
theorem ZdP{X:Cx}{sc:Scope}{N:Li Str}{b:Expr}{T:Ty}(K:Cxt X G F sc N)(h:ZaN G sc b=some T):Zn b=true/\PE X b (tC (.ty (tyN T))):=by
 cases b with
 |Name t p=>
  have h2:Zh6 G sc t=some T:=h;clear h;unfold Zh6 at h2;split at h2
  ·rename_i hg
   rw[Ba]at hg;have hm:X.mg t=none:=by
    have z:=hg.2;unfold Zam at z;split at z
    ·rename_i q;exact K.gl t _ q
    ·cases z
   have hG:=K.glb t hg.1;refine⟨rfl,?_⟩;unfold Zjr at h2;split at h2
   ·rename_i e;subst e;cases h2
    exact pe_bltn hG hm ZbV rfl
   ·split at h2
    ·rename_i e;subst e;cases h2
     exact pe_bltn hG hm Zd2 rfl
    ·split at h2
     ·rename_i e;subst e;cases h2
      exact pe_bltn hG hm ZgD rfl
     ·split at h2
      ·rename_i e;subst e;cases h2
       exact pe_bltn hG hm Qm rfl
      ·exact Zb h2
  ·exact Zb h2
 |_=>simp[ZaN]at h
theorem ZhL{X:Cx}{sc:Scope}{N:Li Str}{a b:Expr}{x:CE}{T:Ty}{p pos:Pos}(K:Cxt X G F sc N)(hg:ZL sc "isinstance"=true)(hm:X.mg "isinstance"=none)(hp:Zn a=true)(A:PE X a (tE X.K (ev F x)))(hT:ZaN G sc b=some T) :
  PE X (.Call (.Name "isinstance" p) [a,b] [] pos) (tE X.K (ev F (.isi T x))):=by
 obtain⟨hq,B⟩:=ZdP K hT;exact Zu (pe_callB (Zb0 (T:=T)) (K.glb _ hg) hm V0 (pa2 hp hq A B) (by decide) (by decide) (Zj hp) (Zd1 hq)) Zev
theorem Zft{X:Cx}{sc:Scope}{N:Li Str}{f:Str}{as:Li Expr}{cs:CE}{i ps:Nat}{ds:Li D}{p pos:Pos}(K:Cxt X G F sc N)(hg:ZL sc f=true)(hG:G.lookup f=some (.fn i ps ds))(hl:as.length<=ps/\ps<=as.length+ds.length)(A:PA X as (tA X.K (ev F cs))/\Ja cs/\as.all Zn=true/\(as=[]->cs=.aN)):PE X (.Call (.Name f p) as [] pos) (tE X.K (ev F (.call i cs (ds.drop (as.length+ds.length - ps))))):=by
 obtain⟨k,fa,fd,pn,Fk,hr,hm,hk,hb⟩:=K.gl f _ hG;obtain⟨dvs,us,hd,hv,hbn⟩:=hb (as.length+ds.length - ps) (by omega)
 obtain⟨PAs,_,hp,hn⟩:=A;cases as with
 |nil=>
  refine Zu (pe_call0 (E:=E0) Fk hr (K.glb f hg) hm hk hbn hv pass0 (Xv hg)) fun σ H Q h=>?_
  rw[hn rfl]at h;exact Vw σ H _ (QB (E:=E0) hd σ H Q h)
 |cons e es=>
  rw[List.all_cons,Ba]at hp;exact Zu (pe_call (E:=E0) Fk hr (K.glb f hg) hm hk hbn hv pass0 PAs (Xv hg) (Zj hp.1) (YW hp.2)) (QB hd)
theorem Zcg{X:Cx}{sc:Scope}{N:Li Str}{nm:Str}{b:Expr}{as:Li Expr}(K:Cxt X G F sc N)(h:fnA G sc nm b=some as):∃ p pos,b=.Call (.Name nm p) as [] pos/\Gl X nm/\X.mg nm=none:=by
 obtain⟨q,h1,h2⟩:=Option.bind_eq_some_iff.mp h;refine XC h2 fun hc h3=>?_
 obtain⟨rfl,hg,hb⟩:=hc;cases h3;unfold ZfW at h1;split at h1
 ·cases h1
  refine⟨_,_,rfl,K.glb _ hg,?_⟩;unfold Zam at hb;split at hb
  ·rename_i q;exact K.gl _ _ q
  ·cases hb
 ·cases h1
theorem Zax{as:Li Expr}{a:Expr}(h:Zhd as=some a):as=[a]:=by
 cases as with
 |nil=>exact Zb h
 |cons x as=>cases as with
  |nil=>cases h;rfl
  |cons _ _=>exact Zb h
theorem V6{X:Cx}{sc:Scope}{N:Li Str}{b e:Expr}(K:Cxt X G F sc N)(h:Z6 G sc b=some e):∃ p pos,b=.Call (.Name "range" p) [e] [] pos/\Gl X "range"/\X.mg "range"=none:=by
 obtain⟨as,h1,h2⟩:=Option.bind_eq_some_iff.mp h;rw[Zax h2]at h1;exact Zcg K h1
theorem ZhJ{X:Cx}{sc:Scope}{N:Li Str}{a b e:Expr}{x y:CE}{op:CmpOp}{ng:Bool}{pos:Pos}(K:Cxt X G F sc N)(hb:Z6 G sc b=some e)(hg:ZgT op=some ng)(hp:Zn e=true)(A:PE X a (tE X.K (ev F x)))(B:PE X e (tE X.K (ev F y))):SE X F (.Compare a [op] [b] pos) (.inR ng x y):=by cases hg
theorem ZhP{X:Cx}{sc:Scope}{N:Li Str}{f:Str}{a e:Expr}{o:Ot CE}{c:CE}{p pos:Pos}(K:Cxt X G F sc N)(hg:ZL sc f=true)(hm:X.mg f=none)(hb:JZ G sc f a=some e)(B:∀ c,o=some c->Zn e=true/\PE X e (tE X.K (ev F c)))(h:o.map CE.tupR=some c):SE X F (.Call (.Name f p) [a] [] pos) c:=by cases hb
noncomputable def rLk(K:Fg)(A:Ad)(ks:Li Str)(ds:Li D):R2:=fun x y H Q=>x=.ref A/\∃ k d,y=.str k/\ZK ks ds k=some d/\∀ v,(∀ ad H,Den K ad H v d)->Q v H
theorem ZiO{X:Cx}{A:Ad}{o:Obj}{es:Array DictEntry}{ep:Nat}{ks:Li Str}{ds:Li D}(lk:X.K.lookup A=some o)(ex:o.ExactDict)(hd:o.data=.dict es ep)(hm:(A==sysModules)=false)(nd:ks.Nodup)(eo:EsOk X.w.params X.K es.toList ks ds):IxR X (rLk X.K A ks ds):=by
 intro value slice pQ s σ H x y v u Q I rx ry h hs;obtain⟨rfl,k,d,rfl,he,q⟩:=h;cases rx;obtain⟨kvs,pr,kn,kk,val⟩:=eo.open (P:=X.prog);have dd:s.heap.DictOf (mixKind X.prog X.w) A kvs:=by
  refine⟨o,es,ep,I.kIn A o lk,ex,hd,fun e he=>kk e (by simpa using he),pr,?_⟩
  rw[kn];exact List.pairwise_map.mpr (nd.imp fun h z=>h (Sum.inr.inj z))
 obtain⟨w,z,hw,rw',dn⟩:=val k d he;exact tail_any dd.typeIs PySem.F.slot_dict_getitem.lookup (wpAny_getItem_of (kV_is (k:=Sum.inr k) ry) dd.mapOf hw ⟨z,H,I.tok _,rw',q z dn⟩) hs
theorem Zcv{K:Fg}{A:Ad}{ks:Li Str}{ds:Li D}{fa:Ev}(σ:L2.St)(H:Hp)(Q:VK)(h:tE K (ZC fa (Um ks ds)) σ H Q):tOp (rLk K A ks ds) (tC (.ref A)) (tE K fa) σ H Q:=by
 obtain⟨ad,ρ,st,d,st',E,S,e,p⟩:=h;unfold ZC at e;split at e
 ·rename_i x st1 q1
  unfold Um at e;split at e
  ·rename_i k
   split at e
   ·rename_i d' hl
    cases e;exact⟨ad,ρ,st,.str k,_,E,S,q1,fun v ad1 H1 x1 S1 d1=>⟨rfl,k,d,d1.ofStr,hl,fun w dn=>p w ad1 H1 x1 S1 (dn ad1 H1)⟩⟩
   ·exact Zb e
  ·exact Zb e
 ·exact Zb e
theorem Zfw{X:Cx}{sc:Scope}{N:Li Str}{f:Str}{a u v:Expr}{x y:CE}{p pos:Pos}(K:Cxt X G F sc N)(hg:ZL sc f=true)(hm:X.mg f=none)(hb:JC G sc f a=some (u,v))(hu:Zn u=true)(hv:Zn v=true)(A:PE X u (tE X.K (ev F x)))(B:PE X v (tE X.K (ev F y))):PE X (.Call (.Name f p) [a] [] pos) (tE X.K (ev F (.lstR x y))):=by cases hb
theorem Zfv{X:Cx}{sc:Scope}{N:Li Str}{a b:Expr}{y:CE}{ks:Li Str}{ds:Li D}{pos:Pos}(K:Cxt X G F sc N)(hn:Zap G sc a=some (ks,ds))(hp:Zn b=true)(B:PE X b (tE X.K (ev F y))):PE X (.Subscript a b pos) (tE X.K (ev F (.look ks ds y))):=by
 unfold Zap at hn;split at hn
 ·split at hn
  ·rename_i hg
   split at hn
   ·rename_i q
    cases hn;obtain⟨A,o,es,ep,hm,lk,ex,hd,hs,nd,eo⟩:=K.gl _ _ q;exact Zu (pe_ix (ZiO lk ex hd hs nd eo) (pe_glob (K.glb _ hg) hm (show RelV (.ref A) (.ref A) from rfl) (Xv hg)) B (QH hp)) Zcv
   ·exact Zb hn
  ·exact Zb hn
 ·exact Zb hn
def Zjg:V->Li V->Hp->VK->Prop:=fun x vs H Q=>∃ p kvs k dv,x=.ref p/\vs=[kV k,dv]/\H p=some (.dK kvs)/\Q ((valV kvs k).getD dv) H
theorem Zg3{X:Cx}:MtM X "dict.get" Zjg:=by
 intro pQ s σ H x vs v us Q I rx rv h;obtain⟨p,kvs,k,dv,rfl,rfl,hq,q⟩:=h;cases rx;obtain⟨u1,u2,rfl,r1,r2⟩:=rv.two;obtain⟨zz,hd,ws,rel,dd⟩:=dk_of I.hok hq;refine call_meetsIn PySem.F.slot_dict_get dd.typeIs PySem.F.entry_dict_get (PySem.F.args_dict_get_3 _ _ _) (meets_dict_get_default (mixKind X.prog X.w) p (kV_is r1) hd u2) ⟨_,dd.mapOf,?_⟩;have rr:=rel.val k;cases e1:valV kvs k with
 |none=>
  cases e2:valueAt ws k with
  |none=>rw[e1]at q;exact⟨dv,H,I.tok _,r2,q⟩
  |some w=>rw[e1,e2]at rr;exact rr.elim
 |some z=>
  cases e2:valueAt ws k with
  |none=>rw[e1,e2]at rr;exact rr.elim
  |some w=>rw[e1]at q;rw[e1,e2]at rr;exact⟨z,H,I.tok _,rr,q⟩
theorem Zcn{X:Cx}{fa fk fd:Ev}(σ:L2.St)(H:Hp)(Q:VK)(h:tE X.K (VP fa fk fd getD) σ H Q):tBM X.K "dict" Zjg (tE X.K fa) (tCons (tE X.K fk) (tCons (tE X.K fd) tNil)) σ H Q:=by
 obtain⟨ad,ρ,st,d,st',E,S,e,p⟩:=h;unfold VP at e;split at e
 ·rename_i x st1 q1
  split at e
  ·rename_i y st2 q2
   split at e
   ·rename_i z st3 q3
    unfold getD at e;split at e
    ·rename_i ks vs k
     cases e;refine⟨ad,ρ,st,_,st1,E,S,q1,fun v1 ad1 H1 x1 S1 d1=>?_⟩
     obtain⟨a,ws,rfl,ha,hl,rw'⟩:=d1.ofDct;refine⟨.inr (.inr (.inl ⟨rfl,.inl ⟨_,ha⟩⟩)),ad1,ρ,st1,_,st2,E.mono x1,S1,q2,fun v2 ad2 H2 x2 S2 d2=>⟨ad2,ρ,st2,_,_,E.mono (x1.trans x2),S2,q3,fun v3 ad3 H3 x3 S3 d3=>?_⟩⟩
     obtain⟨a',ws',ea,ha',hl',rw2⟩:=(d1.mono (x2.trans x3)).ofDct;cases ea;have ek:=(d2.mono x3).ofStr;refine⟨a,_,Sum.inr k,v3,rfl,by rw[ek];rfl,ha',?_⟩
     rcases Wn (k:=k) rw2 hl' with⟨u,d0,e1,e2,e3⟩|⟨e1,e2⟩
     ·rw[e1]
      rw[e2]at p;exact p _ ad3 H3 (x1.trans (x2.trans x3)) S3 e3
     ·rw[e1]
      rw[e2]at p;exact p _ ad3 H3 (x1.trans (x2.trans x3)) S3 d3
    ·exact Zb e
   ·exact Zb e
  ·exact Zb e
 ·exact Zb e
theorem Zfu{X:Cx}{sc:Scope}{N:Li Str}{ks:Li (Ot Expr)}{vs:Li Expr}{a b:Expr}{x y z:CE}{dp ap cp:Pos}(K:Cxt X G F sc N)(hline:(ap.endLine==cp.line)=true)(hp:Zn a=true)(hq:Zn b=true)(D:PE X (.Dict ks vs dp) (tE X.K (ev F x)))(A:PE X a (tE X.K (ev F y)))(B:PE X b (tE X.K (ev F z))) :
  PE X (.Call (.Attribute (.Dict ks vs dp) "get" ap) [a,b] [] cp) (tE X.K (ev F (.dget x y z))):=by
 refine Zu (pe_bm PySem.F.plainAttrs_dict PySem.F.slot_dict_get PySem.F.type_dict_get Zg3 D (pa2 hp hq A B) rfl ?_ hline (Zj hp) (Zd1 hq)) Zcn;rw[Zj hp,Zj hq];rfl
theorem ZcP{prog:Program}{w:World}{A:Around}{K:Fg}{C:Ad}{s:Sd}{R:Result->Sd->Prop}(X:K.In s.heap)(hm:PySem.W.makesIn K C=true)(hi:PySem.W.findIn K (.ref C) "__init__"=some (some (.builtin "object.__init__")))(h:R (.ok (.ret (.ref (s.heap.objs.size+1)))) { s with heap:=(s.heap.push PySem.W.emptyDict).push (PySem.W.instObj C s.heap.objs.size) }):codeAny (model prog w) A (.call (.ref C) ⟨[],[]⟩) R s:=by
 obtain⟨hh,g,d,t,os⟩:=s;have Y:=PySem.W.makes_of (M:=model prog w) X hm;have hx:((hh.push PySem.W.emptyDict).push (PySem.W.instObj C hh.objs.size)).get? (hh.objs.size+1)=some (PySem.W.instObj C hh.objs.size):=by
  have:=Heap.get?_push_size (hh.push PySem.W.emptyDict) (o:=PySem.W.instObj C hh.objs.size) rfl
  rwa [Heap.size_push]at this
 refine PySem.W.make_core Y (PySem.W.looks_findIn X hi) (fun self=>PySem.W.Looks.of_pure (PySem.W.oi_bind self)) (.inr ⟨rfl,rfl⟩) ?_
 have t1:PySem.W.Looks (model prog w) ((hh.push PySem.W.emptyDict).push (PySem.W.instObj C hh.objs.size)) (typeOf (.ref (hh.objs.size+1))) (.ref C):=(PySem.W.Looks.ld hx).andThen .now;have t2:PySem.W.Looks (model prog w) ((hh.push PySem.W.emptyDict).push (PySem.W.instObj C hh.objs.size)) (isInstance (.ref (hh.objs.size+1)) (.type "object")) true:=t1.andThen (Y.top.keeps fun b o e=>Heap.get?_push_of_some _ (Heap.get?_push_of_some _ e))
 refine codeAny_call_builtin PySem.W.oi_plain PySem.W.entry_oi (@PySem.W.check_slot (model prog w) _ _ _ "object.__init__" "object" "__init__" (.ref (hh.objs.size+1)) [] [] _ PySem.W.oi_kind PySem.W.oi_split t2 (PySem.W.oi_args (.ref (hh.objs.size+1))) ?_);rw[PySem.W.oi_run];exact wpAny_pure (And.intro rfl h)
theorem Zch{X:Cx}{pQ:Li (Ad×Obj)}{σ:L2.St}{H:Hp}{s:Sd}{ad:Li Ad}{st:Za}(I:L2.Inv X pQ σ H s)(S:StOk X.K ad H st){a:Ad}(h:s.heap.objs.size<=a):a∉ad:=fun hm=>by
 obtain⟨i,hi⟩:=List.getElem?_of_mem hm;rcases S.has hi with⟨o,q⟩|⟨o,q⟩
 ·rw[I.hok.fresh h]at q;cases q
 ·exact absurd (Heap.lt_size (I.kIn a o q)) (Nat.not_lt.mpr h)
theorem ZhM{X:Cx}{sc:Scope}{N:Li Str}{f:Str}{i:Nat}{ms:Li (Str×Nat×Nat)}{subs:Li Nat}{p pos:Pos}(K:Cxt X G F sc N)(hg:ZL sc f=true)(hG:G.lookup f=some (.cls i ms subs)):PE X (.Call (.Name f p) [] [] pos) (tE X.K (ev F (.new i))):=by
 obtain⟨hm,nw,_,_⟩:=K.gl f _ hG;intro pQ s σ H Q I h;obtain⟨ad,ρ,st,d,st',E,S,e,q⟩:=h;have e:some (D.obj i,st)=some (d,st'):=e;cases e;refine wpAny_Call_Name_kw (ld_glob I (K.glb f hg) hm ?_ (Xv hg));refine PySem.W.callWith_K0 I.kIn nw.kp (wpAny_call (ZcP I.kIn nw.makes nw.init ?_));have h1:H s.heap.objs.size=none:=I.hok.fresh (Nat.le_refl _);have h2:upd H s.heap.objs.size (.own (s.heap.objs.size+1)) (s.heap.objs.size+1)=none:=by
  rw[upd_ne (Nat.ne_of_gt (Nat.lt_succ_self _))];exact I.hok.fresh (Nat.le_succ _)
 exact⟨.ref (s.heap.objs.size+1),_,I.made,rfl,q _ ad _ ((Ext.laid h1).trans (Ext.laid h2)) ((S.laid h1).laid h2) (.obj upd_same (Zch I S (Nat.le_succ _)))⟩
theorem ZhK{X:Cx}{sc:Scope}{N:Li Str}{a b:Expr}{x:CE}{l:Li Nat}{p pos:Pos}(K:Cxt X G F sc N)(hg:ZL sc "isinstance"=true)(hm:X.mg "isinstance"=none)(hp:Zn a=true)(A:PE X a (tE X.K (ev F x)))(hT:Jo G sc b=some l) :
  PE X (.Call (.Name "isinstance" p) [a,b] [] pos) (tE X.K (ev F (.isc l x))):=by cases hT
theorem ZiQ{α:Type}:∀ {us:Li α},us.length=1->∃ a,us=[a]
 |[a],_=>⟨a,rfl⟩
theorem WB{pos:Pos}{env:PySem.Env}{as:Li Expr}(h:as.all Zn=true)(hl:as.length < 20):((backTo pos (starEach as env)).all (fun x=>!x.1)&&(backToKw pos (keywordEach [] env)).all (fun x=>x.1.isSome)
  &&decide (as.length+([]:Li Keyword).length+(if ([]:Li Keyword).isEmpty then 0 else 1) < 30))=true:=by
 have a:=YW (pos:=pos) (env:=env) h;have b:(backTo pos (starEach as env)).all (fun x=>!x.1)=true:=by
  rw[List.all_eq_true];intro x hx;have:=List.any_eq_false.mp a x hx;simpa using this
 rw[b,decide_eq_true (show as.length+([]:Li Keyword).length+(if ([]:Li Keyword).isEmpty then 0 else 1) < 30 by simp;omega)]
 rfl
theorem ZeW{X:Cx}{o:Expr}{name:Str}{apos pos:Pos}{args:Li Expr}{Q:vL->Sd->Prop}{s:Sd}(hbase:attributeBase o name X.env (eval o X.env)=eval o X.env)(hfew:((backTo pos (starEach args X.env)).all (fun x=>!x.1)&&(backToKw pos (keywordEach [] X.env)).all (fun x=>x.1.isSome)&&decide (args.length+([]:Li Keyword).length+(if ([]:Li Keyword).isEmpty then 0 else 1) < 30))=true)(hline:(apos.endLine==pos.line)=true)(h:wpAny (model X.prog X.w) X.A (eval o X.env) (fun ov s₁=>∀ pl,wpAny (model X.prog X.w) X.A (getMethod ov name pl) (fun fx s₂=>wpAny (model X.prog X.w) X.A (callWith pos fx.1 fx.2 (backTo pos (starEach args X.env)) (backToKw pos (keywordEach [] X.env))) Q X.xe s₂) X.xe s₁) X.xe s) :
  wpAny (model X.prog X.w) X.A (eval (.Call (.Attribute o name apos) args [] pos) X.env) Q X.xe s:=by
 rw[arm_eval_Call,hbase];refine wpAny_bind (wpAny_mono h (fun ov s₁ h₁=>?_) fun _ _ e=>e)
 refine wpAny_bind (wpAny_standAt ?_);have hform:methodCallForm (args.length+([]:Li Keyword).length) (backTo pos (starEach args X.env)) (backToKw pos (keywordEach [] X.env))=true:=hfew;have hpos:methodCallPos true o X.env apos pos=pure pos:=by unfold methodCallPos;simp[hline]
 unfold methodCall;rw[hform];refine wpAny_bind (wpAny_holding ?_);exact wpAny_mono (h₁ _) (fun fx s₂ h₂=>wpAny_bind (wpAny_of_eq hpos h₂)) fun _ _ e=>e
theorem Zh4{m:Str}{k i j:Nat}(h:(XR m k G).lookup i=some j):∃ x ms subs,G.lookup x=some (.cls i ms subs)/\ms.lookup m=some (j,k+1):=by
 have hm:(i,j)∈XR m k G:=by
  generalize XR m k G=l at h
  induction l with
  |nil=>exact Zb h
  |cons p l ih=>
   obtain⟨a,b⟩:=p;rw[List.lookup_cons]at h;split at h
   ·rename_i z
    cases h;rw[beq_iff_eq.mp z];exact Ls
   ·exact Lm _ (ih h)
 obtain⟨x,_,hx⟩:=List.mem_filterMap.mp hm;unfold Zf7 at hx;split at hx
 ·rename_i i' ms subs q
  split at hx
  ·rename_i j' ps q2
   split at hx
   ·rename_i e
    subst e;cases hx;exact⟨x,ms,subs,q,q2⟩
   ·exact Zb hx
  ·exact Zb hx
 ·exact Zb hx
section
open PySem.SeqAt PySem.MeetsSeq PySem.MeetsSeq2 PySem.MeetsSeq3 PySem.SeqRoads2
theorem Qy{prog:Program}{w:World}{A:Around}{E:vL->Sd->Prop}{s:Sd}{items:Array vL}{x:vL}{e:vL->Bool}{j:Nat}(hj:j < items.size)(hit:e items[j]=true)(hno:∀ m (hm:m < items.size),m < j->e items[m]=false)(he:∀ y,y∈items->EqAt A s y x (e y)):∀ (k i:Nat) (Q:Ot Fin×Unit->Sd->Prop),i<=j->i+k=items.size->Q (some (.done (.ret (.int j s.toks))),()) { s with toks:=s.toks+1 }->
  wpAny (model prog w) A (forIn (List.range' i k) ((none,()):Ot Fin×Unit) fun(i:Nat) __s=>
      match items[i]? with
      |some y=>do
       let __do_lift <-eqBool y x
       if __do_lift=true then do
         let __do_lift <-retInt (i:Int)
         pure (ForInStep.done (some __do_lift,()))
        else pure (ForInStep.yield (none,()))
      |x=>pure (ForInStep.yield (none,()))) Q E s
 |0,i,Q,h1,h2,_=>by omega
 |k+1,i,Q,h1,h2,hQ=>by
  have hlt:i < items.size:=by omega
  rw[List.range'_succ,List.forIn_cons];refine wpAny_bind ?_;rw[Array.getElem?_eq_getElem hlt];refine wpAny_bind (he _ (Array.getElem_mem hlt) prog w _ _ ?_);by_cases hij:i=j
  ·subst hij
   rw[hit]
   wp_walk
   exact hQ
  ·rw[hno i hlt (by omega)]
   wp_walk
   exact Qy hj hit hno he k (i+1) Q (by omega) (by omega) hQ
theorem V7(l:Ad)(items:Array vL)(n:Nat)(o:Obj)(x:vL)(e:vL->Bool)(j:Nat)(hj:j < items.size)(hit:e items[j]=true)(hno:∀ m (hm:m < items.size),m < j->e items[m]=false)(hd:o.data=.seq items n) :
  Meets (Builtin.«tuple.index» ⟨[.ref l,x],[]⟩)
   (fun A R s=>s.heap.get? l=some o/\(∀ y,y∈items->EqAt A.in1 s y x (e y))/\R (.ok (.ret (.int j s.toks))) { s with toks:=s.toks+1 }):=by
 refine .of_wp fun prog w A R s h=>?_
 obtain⟨hp,g,d,tk,os⟩:=s;obtain⟨hl,he,h⟩:=h;obtain⟨oc,od,dt,osl⟩:=o;cases hd;unfold Builtin.«tuple.index»
 simp only[Std.Legacy.Range.forIn_eq_forIn_range',Std.Legacy.Range.size,Nat.sub_zero,Nat.add_sub_cancel,Nat.div_one]
 wp_walk using wpAny_loadPart' hl
 refine Qy hj hit hno he (min items.size items.size - 0) 0 _ (Nat.zero_le _) (by simp) ?_
 exact wpAny_pure ⟨_,rfl,h⟩
end
theorem Zci{k:Str}{tk:Tok}{i:Nat}:∀ {ks:Li Str}{us:Li vL},Vals (ks.map V.str) us->UL k ks=some i->∃ h:i < us.length,(fun y:vL=>match y with
   |.str a _=>a==k
   |_=>false) us[i]=true/\∀ m (hm:m < us.length),m < i->(fun y:vL=>match y with
   |.str a _=>a==k
   |_=>false) us[m]=false:=by
 intro ks
 induction ks generalizing i with
 |nil=>intro us _ h;cases h
 |cons a ks ih=>
  intro us r h;cases r with
  |@cons v u vs us' r1 r2=>
   obtain⟨t,rfl⟩:=r1;have h:(if a=k then some 0 else (UL k ks).map (·+1))=some i:=h
   split at h
   ·rename_i e
    cases h;refine⟨by simp,by simpa using e,fun m _ hm=>absurd hm (Nat.not_lt_zero m)⟩
   ·rename_i e
    cases q:UL k ks with
    |none=>rw[q]at h;cases h
    |some i'=>
     rw[q]at h;cases h;obtain⟨h1,h2,h3⟩:=ih r2 q;refine⟨by simpa using h1,by simpa using h2,fun m hm hl=>?_⟩
     cases m with
     |zero=>simpa using e
     |succ m=>
      have hl:m+1 < i'+1:=hl;simpa using h3 m (by simpa using hm) (by omega)
theorem ZbQ{ks:Li Str}{us:Li vL}(r:Vals (ks.map V.str) us):∀ y∈us,∃ a t,y=.str a t:=by
 induction ks generalizing us with
 |nil=>cases r;intro y hy;exact nomatch hy
 |cons a ks ih=>
  cases r with
  |@cons v u vs us' r1 r2=>
   intro y hy;rcases List.mem_cons.mp hy with rfl|hy
   ·obtain⟨t,rfl⟩:=r1;exact⟨a,t,rfl⟩
   ·exact ih r2 y hy
theorem Qx:∀ {k:D}{ds:Li D}{i:Nat},UK k ds=some i->∃ h:i < ds.length,Zv ds[i] k=true/\∀ m (hm:m < ds.length),m < i->Zv ds[m] k=false
 |k,a :: r,i,h=>by
  have h:(if Zv a k=true then some 0 else (UK k r).map (·+1))=some i:=h
  split at h
  ·rename_i q
   cases h;exact⟨Nat.zero_lt_succ _,q,fun m _ z=>absurd z (Nat.not_lt_zero m)⟩
  ·rename_i q
   cases w:UK k r with
   |none=>rw[w]at h;cases h
   |some j=>
    rw[w]at h;cases h;obtain⟨h1,h2,h3⟩:=Qx w;refine⟨Nat.succ_lt_succ h1,h2,fun m hm z=>?_⟩
    cases m with
    |zero=>exact Bool.eq_false_iff.mpr q
    |succ m=>exact h3 m (Nat.lt_of_succ_lt_succ hm) (Nat.lt_of_succ_lt_succ z)
theorem ZcK{pQ:Li (Ad×Obj)}{σ:L2.St}{H:Hp}{s:Sd}{ad:Li Ad}{X:Cx}(I:L2.Inv X pQ σ H s){d:D}{xs:Li V}{ds:Li D}{us:Li vL}(r:Dens X.K ad H xs ds)(ri:Vals xs us)(ok:Yd 8 ds=true)(m:Nat)(h1:m < us.length)(h2:m < ds.length):VD X.K ad H d us[m]=Zv ds[m] d:=by
 have g2:ds[m]?=some ds[m]:=Lg h2;obtain⟨v,q1,d1⟩:=r.get g2;obtain⟨u,q2,r1⟩:=ri.get q1;rw[Lg h1]at q2;cases q2;exact Zao I r1 d1 (Y4 ok g2)
theorem ZhO{X:Cx}{sc:Scope}{N:Li Str}{y:Str}{yp ap cp:Pos}{as:Li Expr}{x cs:CE}(K:Cxt X G F sc N)(hline:(ap.endLine==cp.line)=true)(hlen:as.length=1)(B:PE X (.Name y yp) (tE X.K (ev F x)))(A:PA X as (tA X.K (ev F cs))/\Ja cs/\as.all Zn=true/\(as=[]->cs=.aN)):PE X (.Call (.Attribute (.Name y yp) "index" ap) as [] cp) (tE X.K (ev F (.tix x cs))):=by
 obtain⟨PAs,_,hp,_⟩:=A;obtain⟨e0,rfl⟩:=ZiQ hlen;intro pQ s σ H Q I h;obtain⟨ad,ρ,st,d,st',E,S,e,p⟩:=h;replace e:ZQ (ev F x) (ev F cs) ZdK ρ st=some (d,st'):=e;unfold ZQ at e;split at e
 ·rename_i dx st1 q1
  split at e
  ·rename_i dy st2 q2
   unfold ZdK at e;split at e
   ·rename_i c ks
    split at e
    ·rename_i bb xs q3
     split at e
     ·rename_i hok
      split at e
      ·rename_i i hi
       cases e;rw[Ba]at hok;rw[List.all_cons,Ba]at hp;refine wpAny_Call_method_late rfl (WB (by rw[List.all_cons,hp.1];rfl) (by simp)) hline rfl (thn (B pQ s σ H (fun v H1=>∃ ad1,Ext ad H ad1 H1/\StOk X.K ad1 H1 st1/\Den X.K ad1 H1 v (.lst c)) I ⟨ad,ρ,st,.lst c,st1,E,S,q1,fun v ad1 H1 x1 S1 d1=>⟨ad1,x1,S1,d1⟩⟩) fun u s1 ⟨v,H1,I1,rv,ad1,x1,S1,d1⟩=>?_)
       obtain⟨a,rfl,ha⟩:=d1.ofLst;cases (show u=Value.ref a from rv)
       obtain⟨b0,ds0,hc0⟩:=Wc S1 ha;obtain⟨zs,_,sq⟩:=S1.list ha hc0;obtain⟨its0,_,pl0,_⟩:=I1.list sq;refine⟨"list", "list.index",PySem.F.plainAttrs_list,PySem.F.slot_list_index,PySem.F.type_list_index,pl0.isList.typeIs,fun b eb=>by cases eb;obtain⟨o,n,e,c,hd,_⟩:=pl0;exact⟨o,e,hd⟩,?_⟩
       have hA:=PAs cp pQ s1 σ H1 (fun vs H2=>∃ ad2,Ext ad1 H1 ad2 H2/\StOk X.K ad2 H2 st'/\Dens X.K ad2 H2 vs [.tup ks]) I1 ⟨ad1,ρ,st1,[.tup ks],st',E.mono x1,S1,q2,fun vs ad2 H2 x2 S2 d2=>⟨ad2,x2,S2,d2⟩⟩
       rw[Zj hp.1]at hA ⊢;refine Calls.callWith_builtin rfl (Calls.evalArgs_plain (thn hA fun us s2 ⟨vs,H2,I2,r2,ad2,x2,S2,d2⟩=>?_))
       obtain⟨w,rfl,dw⟩:=WO d2;obtain⟨u1,rfl,ru⟩:=r2.one;obtain⟨ys,ry,sq2⟩:=S2.list (ha.mono x2) q3;obtain⟨its,ri,pl,hz⟩:=I2.list sq2;obtain⟨hj,hit,hno⟩:=Qx hi;have hu:=K.hu;obtain⟨l1,_⟩:=VE (A:=X.A.in1) I2 (by show X.A.units+1+8 < cLine;omega) ru dw hok.1 ry ri hok.2
       have sz:its.length=xs.length:=by rw[<-ri.length,ry.length]
       have lg:=fun m h1 h2=>ZcK (d:=.tup ks) I2 ry ri hok.2 m h1 h2
       obtain⟨⟨cls,dd,data,sl⟩,n,eo,co,hdo,hdat⟩:=id pl;simp only at co hdo hdat;subst co hdat;refine call_meets PySem.F.slot_list_index pl.isList.typeIs PySem.F.entry_list_index (PySem.F.args_list_index_2 _ _) (SeqAt.list_indexAt a its.toArray n dd sl u1 (VD X.K ad2 H2 (.tup ks)) i (by rw[List.size_toArray,sz];exact hj) (by have:=ri.length;have:sizeLine=16777216:=sizeLine_eq;omega) (by have:=lg i (by rw[sz];exact hj) hj;simpa[this] using hit) (fun m hm hl=>by
        have hm':m < its.length:=by simpa using hm
        have:=lg m hm' (by rw[<-sz];exact hm')
        simpa[this] using hno m (by rw[<-sz];exact hm') hl)) ⟨eo,fun y hy=>l1 y (by simpa using hy),?_⟩
       exact⟨.int (i:Int),H2,I2.tok _,⟨_,rfl⟩,p.later (x1.trans x2) _ ad2 H2 (Ext.refl _ _) S2 (.int _)⟩
      ·exact Zb e
     ·exact Zb e
    ·exact Zb e
   ·rename_i ks k
    split at e
    ·rename_i i hi
     cases e;rw[List.all_cons,Ba]at hp;refine wpAny_Call_method_late rfl (WB (by rw[List.all_cons,hp.1];rfl) (by simp)) hline rfl (thn (B pQ s σ H (fun v H1=>∃ ad1,Ext ad H ad1 H1/\StOk X.K ad1 H1 st1/\Den X.K ad1 H1 v (.kt ks)) I ⟨ad,ρ,st,.kt ks,st1,E,S,q1,fun v ad1 H1 x1 S1 d1=>⟨ad1,x1,S1,d1⟩⟩) fun u s1 ⟨v,H1,I1,rv,ad1,x1,S1,d1⟩=>?_)
     obtain⟨a,o,its,n,rfl,h1,h2,h3,h4,h5⟩:=d1.ofKt;cases (show u=Value.ref a from rv)
     have ga:s1.heap.get? a=some o:=I1.kIn a o h1;refine⟨"tuple", "tuple.index",PySem.F.plainAttrs_tuple,PySem.F.slot_tuple_index,PySem.F.type_tuple_index,⟨o,ga,h2.1⟩,fun b eb=>by cases eb;exact⟨o,ga,h2.2⟩,?_⟩
     have hA:=PAs cp pQ s1 σ H1 (fun vs H2=>∃ ad2,Ext ad1 H1 ad2 H2/\StOk X.K ad2 H2 st'/\Dens X.K ad2 H2 vs [.str k]) I1 ⟨ad1,ρ,st1,[.str k],st',E.mono x1,S1,q2,fun vs ad2 H2 x2 S2 d2=>⟨ad2,x2,S2,d2⟩⟩
     rw[Zj hp.1]at hA ⊢;refine Calls.callWith_builtin rfl (Calls.evalArgs_plain (thn hA fun us s2 ⟨vs,H2,I2,r2,ad2,x2,S2,d2⟩=>?_))
     obtain⟨w,rfl,dw⟩:=WO d2;cases dw;obtain⟨u1,rfl,tu,rfl⟩:=r2.one;have ga2:s2.heap.get? a=some o:=I2.kIn a o h1;obtain⟨hj,hit,hno⟩:=Zci (k:=k) (tk:=tu) h5 hi;have sz:its.toList.length=its.size:=Array.length_toList;refine call_meets PySem.F.slot_tuple_index ⟨o,ga2,h2.1⟩ PySem.F.entry_tuple_index (PySem.F.args_tuple_index_2 _ _) (V7 a its n o (.str k tu) (fun y:vL=>match y with
      |.str a _=>a==k
      |_=>false) i (by rw[<-sz];exact hj) (by simpa using hit) (fun m hm hl=>by
      have z:=hno m (by rw[sz];exact hm) hl
      simp only[Array.getElem_toList]at z;exact z) h3) ⟨ga2,fun y hy=>?_,?_⟩
     ·obtain⟨b,t,rfl⟩:=ZbQ h5 y (by simpa using hy)
      exact PySem.SeqAt.EqAt.str_str b t k tu
     ·exact⟨.int (i:Int),H2,I2.tok _,⟨_,rfl⟩,p.later (x1.trans x2) _ ad2 H2 (Ext.refl _ _) S2 (.int _)⟩
    ·exact Zb e
   ·exact Zb e
  ·exact Zb e
 ·exact Zb e
theorem Zfx{X:Cx}{sc:Scope}{N:Li Str}{y m:Str}{yp ap cp:Pos}{as:Li Expr}{x cs:CE}(K:Cxt X G F sc N)(hline:(ap.endLine==cp.line)=true)(hlen:as.length < 20)(B:PE X (.Name y yp) (tE X.K (ev F x)))(A:PA X as (tA X.K (ev F cs))/\Ja cs/\as.all Zn=true/\(as=[]->cs=.aN)):PE X (.Call (.Attribute (.Name y yp) m ap) as [] cp) (tE X.K (ev F (.meth (XR m as.length G) x cs))):=by
 obtain⟨PAs,_,hp,hn⟩:=A;intro pQ s σ H Q I h;obtain⟨ad,ρ,st,d,st',E,S,e,p⟩:=h;replace e:ZQ (ev F x) (ev F cs) (Zat F (XR m as.length G)) ρ st=some (d,st'):=e;unfold ZQ at e;split at e
 ·rename_i dx st1 q1
  split at e
  ·rename_i dy st2 q2
   unfold Zat at e;split at e
   ·rename_i i xs
    split at e
    ·rename_i j hj
     obtain⟨cx,ms,subs,hG,hl⟩:=Zh4 hj;obtain⟨_,nw,_,hms⟩:=K.gl cx _ hG;obtain⟨k,f,fd,pn,Fk,hr,hme,hb⟩:=hms m j _ hl;refine ZeW rfl (WB hp hlen) hline (thn (B pQ s σ H (fun v H1=>∃ ad1,Ext ad H ad1 H1/\StOk X.K ad1 H1 st1/\Den X.K ad1 H1 v (.obj i)) I ⟨ad,ρ,st,.obj i,st1,E,S,q1,fun v ad1 H1 x1 S1 d1=>⟨ad1,x1,S1,d1⟩⟩) fun u s1 ⟨v,H1,I1,rv,ad1,x1,S1,d1⟩ pl=>?_)
     obtain⟨a,dx,rfl,ha⟩:=d1.ofObj;cases (show u=Value.ref a from rv)
     refine getmeth_ok I1 ha nw.cl hme rfl ?_;cases as with
     |nil=>
      have hc:=hn rfl;subst hc;have q2:some (D.tup [],st1)=some (.tup xs,st2):=q2;cases q2;exact PySem.W.callWith_K0 (first:=[.ref a]) I1.kIn hme.kp (run_fn (us:=[.ref a]) (vs:=[.ref a]) (E:=E0) Fk hr hb .nil pass0 I1 (.cons rfl .nil) ⟨ad1,[.obj i],st1,d,st',S1,.cons d1 .nil,e,p.later x1⟩)
     |cons e0 es=>
      rw[List.all_cons,Ba]at hp;refine PySem.W.callWith_K (first:=[.ref a]) (h₀:=X.base) I.ok.mod.kin hme.kp (thn (PAs cp pQ s1 σ H1 _ I1 ⟨ad1,ρ,st1,xs,st2,E.mono x1,S1,q2,fun vs ad2 H2 x2 S2 d2=>(show(fun vs H2=>∃ ad2,Ext ad1 H1 ad2 H2/\StOk X.K ad2 H2 st2/\Dens X.K ad2 H2 vs xs) vs H2 from⟨ad2,x2,S2,d2⟩)⟩) fun us s2 ⟨vs,H2,I2,r,ad2,x2,S2,d2⟩=>⟨I2.kIn,?_⟩) (Zj hp.1) (YW hp.2)
      refine run_fn (us:=.ref a :: us) (vs:=.ref a :: vs) (E:=E0) Fk hr hb .nil pass0 I2 (.cons rfl r) ?_;rw[List.append_nil];exact⟨ad2,.obj i :: xs,st2,d,st',S2,.cons (d1.mono x2) d2,e,p.later (x1.trans x2)⟩
    ·exact Zb e
   ·exact Zb e
  ·exact Zb e
 ·exact Zb e
theorem ZeL{y:CE}(h:ZgW y=true):y=.neg (.cst (.int 1)):=by
 unfold ZgW at h;split at h
 ·rfl
 ·cases h
theorem JR{b:Expr}{p:Ot Expr×Ot Expr}(q:Va b=some p):∃ p2,b=.Slice p.1 p.2 none p2:=by
 unfold Va at q;split at q
 ·cases q;exact⟨_,rfl⟩
 ·exact Zb q
theorem Zdt{b s:Expr}(q:ZaG b=some s):∃ p2,b=.Slice none none (some s) p2:=by
 unfold ZaG at q;split at q
 ·cases q;exact⟨_,rfl⟩
 ·exact Zb q
theorem Zjj{X:Cx}{op:UnaryOp}{a:Expr}{o:Ot CE}{c:CE}{pos:Pos}(A:∀ x,o=some x->SE X F a x)(h:unC op o=some c):SE X F (.UnaryOp op a pos) c:=by
 cases op with
 |Not=>exact UZ (P:=SE X F _) (show o.map CE.not=some c from h) fun x hx=>⟨Zu (pe_not (A x hx).pe) Zcx,VN (pt_not (A x hx).pt) Zcw⟩
 |USub=>exact UZ (P:=SE X F _) (show o.map CE.neg=some c from h) fun x hx=>.of (Zu (pe_un ZfN (A x hx).pe) ZgS)
 |_=>exact Zb h
section
variable {X:Cx}{sc:Scope}{N:Li Str}{n:Nat}{c:CE} (K:Cxt X G F sc N) (hf:∀ e c,cE G n sc N e=some c->SE X F e c)
include K hf
theorem ZhI{a:Expr}{ops:Li CmpOp}{bs:Li Expr}{pos:Pos}(h:ZiB G sc (cE G n sc N) (cE G n sc N a) ops bs=some c):SE X F (.Compare a ops bs pos) c:=by
 cases ops with
 |nil=>exact Zb h
 |cons op ops=>cases bs with
  |nil=>cases ops with
   |nil=>exact Zb h
   |cons _ r=>cases r<;>cases h
  |cons b bs=>cases ops with
   |nil=>cases bs with
    |cons _ _=>exact Zb h
    |nil=>
     replace h:(match Z6 G sc b with
      |some e=>o3 CE.inR (ZgT op) (cE G n sc N a) (cE G n sc N e)
      |none=>o2 (CE.cmp op) (cE G n sc N a) (cE G n sc N b))=some c:=h
     cases he:Z6 G sc b with
     |some e=>
      rw[he]at h;exact WE (P:=SE X F _) h fun ng x y hg hx hy=>ZhJ K he hg (Zh hy) (hf a x hx).pe (hf e y hy).pe
     |none=>
      rw[he]at h;exact Yl (P:=SE X F _) h fun x y hx hy=>⟨Zu (pe_cmpR (Zaz K.hu) (hf a x hx).pe (hf b y hy).pe (WR (Zh hy))) UN,VN (pt_cmpR (Zaz K.hu) (hf a x hx).pe (hf b y hy).pe (WR (Zh hy))) fun σ H Q q=>UN σ H _ (ZcA σ H Q q)⟩
   |cons op2 ops=>exact Zb h
omit K in
theorem Zfs{op:BoolOp}{vs:Li Expr}{pos:Pos}(h:ZfV (cE G n sc N) op pos vs=some c):SE X F (.BoolOp op vs pos) c:=by
 cases vs with
 |nil=>exact Zb h
 |cons a r=>cases r with
  |nil=>
   have A:=hf a c h;refine⟨pe_one A.pe,?_⟩;cases op with
   |And=>exact(pw_and1 A.pt).pt
   |Or=>exact(pw_or1 A.pt).pt
  |cons b r=>cases op with
   |And=>exact Yl (P:=SE X F _) (show o2 CE.and (cE G n sc N a) (cE G n sc N (.BoolOp .And (b :: r) pos))=some c from h) fun x y hx hy=>⟨Zu (pe_and (hf a x hx).pe (hf _ y hy).pe) Zck,VN (pw_and (hf a x hx).pt (QV (hf _ y hy).pt)).pt Zcj⟩
   |Or=>exact Yl (P:=SE X F _) (show o2 CE.or (cE G n sc N a) (cE G n sc N (.BoolOp .Or (b :: r) pos))=some c from h) fun x y hx hy=>⟨Zu (pe_or (hf a x hx).pe (hf _ y hy).pe) ZeA,VN (pw_or (hf a x hx).pt (QV (hf _ y hy).pt)).pt Zez⟩
theorem ZhN(ihO:UD G F n){a b:Expr}{pos:Pos}(h:Zh1 G sc (cE G n sc N) (cO G n sc N) a b=some c):SE X F (.Subscript a b pos) c:=by
 unfold Zh1 at h;cases q:Va b with
 |some p=>
  obtain⟨lo,hi⟩:=p;rw[q]at h;obtain⟨p2,rfl⟩:=JR q;exact WE (P:=SE X F _) h fun x l u hx hl hu=>.of (Zu (pe_slice Zlf (hf a x hx).pe (ihO X sc N K lo l hl) (ihO X sc N K hi u hu)) Zbo)
 |none=>
  rw[q]at h;dsimp only at h;cases q':ZaG b with
  |some s=>
   rw[q']at h;obtain⟨p2,rfl⟩:=Zdt q';exact j_e h fun h=>Yl (P:=fun o=>o=some c->SE X F _ c) h (fun x y hx hy h=>XC h fun m1 h=>by
    cases h;rw[ZeL m1]at hy;exact .of (Zu (Zhi (hf a x hx).pe (hf s _ hy).pe) ZeD)) rfl
  |none=>
   rw[q']at h;dsimp only at h;cases hn:Zap G sc a with
   |some p=>
    obtain⟨ks,ds⟩:=p;rw[hn]at h;exact UZ (P:=SE X F _) h fun y hy=>.of (Zfv K hn (Zh hy) (hf b y hy).pe)
   |none=>
    rw[hn]at h;exact Yl (P:=SE X F _) h fun x y hx hy=>.of (Zu (pe_ix (Zkr K.hu) (hf a x hx).pe (hf b y hy).pe (QH (Zh hy))) UN)
theorem Zdx{f:Str}{a:Expr}{p pos:Pos}(hg:ZL sc f=true)(hm:X.mg f=none)(h:ZbT G sc f a (cE G n sc N)=some c):SE X F (.Call (.Name f p) [a] [] pos) c:=by
 unfold ZbT at h;cases he:JZ G sc f a with
 |some e=>
  rw[he]at h;exact ZhP K hg hm he (fun c hc=>⟨Zh hc,(hf e c hc).pe⟩) h
 |none=>
  rw[he]at h;dsimp only at h;cases hl:JC G sc f a with
  |some q=>
   obtain⟨u,v⟩:=q;rw[hl]at h;exact Yl (P:=SE X F _) h fun x y hx hy=>.of (Zfw K hg hm hl (Zh hx) (Zh hy) (hf u x hx).pe (hf v y hy).pe)
  |none=>
   rw[hl]at h;exact j_e h fun h=>UZ (P:=fun o=>o=some c->SE X F _ c) h (fun x hx h=>.of (Zfq K hg hm (Zh hx) (hf a x hx).pe h)) rfl
theorem Zdy{f:Str}{a b:Expr}{p pos:Pos}(hg:ZL sc f=true)(hm:X.mg f=none)(h:ZbU G sc f a b (cE G n sc N)=some c):SE X F (.Call (.Name f p) [a,b] [] pos) c:=by
 unfold ZbU at h;by_cases ei:f = "isinstance"
 ·subst ei
  rw[if_pos rfl]at h;cases hl:Jo G sc b with
  |some l=>
   rw[hl]at h;exact UZ (P:=SE X F _) h fun x q=>.of (ZhK K hg hm (Zh q) (hf a x q).pe hl)
  |none=>
   rw[hl]at h;exact Yl (P:=SE X F _) h fun x T hx hT=>.of (ZhL K hg hm (Zh hx) (hf a x hx).pe hT)
 ·rw[if_neg ei]at h
  exact j_e h fun h=>Yl (P:=fun o=>o=some c->SE X F _ c) h (fun x y hx hy h=>.of (Zfr K hg hm (Zh hx) (Zh hy) (hf a x hx).pe (hf b y hy).pe h)) rfl
theorem Zdz(ihA:YU G F n){f:Str}{as:Li Expr}{p pos:Pos}(h:ZbZ G sc f as (cEs G n sc N as) (cE G n sc N)=some c):SE X F (.Call (.Name f p) as [] pos) c:=by
 unfold ZbZ at h;cases hg:ZL sc f with
 |false=>rw[hg]at h;cases h
 |true=>
 rw[hg,if_pos rfl]at h;cases hG:G.lookup f with
 |none=>rw[hG]at h;cases h
 |some g=>
  rw[hG]at h;cases g with
  |fn i ps ds=>exact XC h fun hl h=>UZ (P:=SE X F _) h fun cs hcs=>.of (Zft K hg hG hl (ihA X sc N K as cs hcs))
  |blt=>
   have hm:X.mg f=none:=K.gl f _ hG;cases as with
   |nil=>exact Zb h
   |cons a as=>cases as with
    |nil=>exact Zdx K hf hg hm h
    |cons b as=>cases as with
     |nil=>exact Zdy K hf hg hm h
     |cons _ _=>exact Zb h
  |cls i ms subs=>cases as with
   |cons _ _=>exact Zb h
   |nil=>cases h;exact .of (ZhM K hg hG)
  |_=>exact Zb h
theorem Zfp(ihA:YU G F n){ob:Expr}{m:Str}{ap pos:Pos}{as:Li Expr}(h:ZfT G ob m ap as pos (cEs G n sc N as) (cE G n sc N)=some c):SE X F (.Call (.Attribute ob m ap) as [] pos) c:=by
 cases ob with
 |Dict ks vs dp=>cases as with
  |nil=>exact Zb h
  |cons a as=>cases as with
   |nil=>exact Zb h
   |cons b as=>cases as with
    |cons _ _=>exact Zb h
    |nil=>
     refine XC h fun hc h=>WE (P:=SE X F _) h fun x y z hx hy hz=>?_
     obtain⟨rfl,hline⟩:=hc;exact .of (Zfu K hline (Zh hy) (Zh hz) (hf _ x hx).pe (hf a y hy).pe (hf b z hz).pe)
 |Name y yp=>
  refine XC h fun hc h=>?_
  by_cases hm:m = "index"
  ·subst hm
   rw[if_pos rfl]at h;exact XC h fun h1 h=>Yl (P:=SE X F _) h fun x cs hx hcs=>.of (ZhO K hc.1 h1 (hf _ x hx).pe (ihA X sc N K as cs hcs))
  ·rw[if_neg hm]at h
   exact Yl (P:=SE X F _) h fun x cs hx hcs=>.of (Zfx K hc.1 hc.2 (hf _ x hx).pe (ihA X sc N K as cs hcs))
 |_=>exact Zb h
end
theorem JU{n:Nat}(ihE:Zw G F n)(ihA:YU G F n)(ihO:UD G F n)(hcomp:∀ X sc N,Cxt X G F sc N->∀ elt gens sc2 pos c,cE G (n+1) sc N (.ListComp elt gens sc2 pos)=some c->SE X F (.ListComp elt gens sc2 pos) c):Zw G F (n+1):=by
 intro X sc N K e c h;have hf:=ihE X sc N K;have no:∀ {P:Prop},(none:Ot CE)=some c->P:=fun z=>nomatch z
 cases e with
 |Constant v k pos=>exact ZdA h
 |Name x pos=>exact Zfy K h
 |BinOp a op b pos=>exact Yl (P:=SE X F _) (show o2 (CE.bin op) (cE G n sc N a) (cE G n sc N b)=some c from h) fun x y hx hy=>.of (Zu (pe_op Ze6 (hf a x hx).pe (hf b y hy).pe) UN)
 |UnaryOp op a pos=>exact Zjj (hf a) h
 |Compare a ops bs pos=>exact ZhI K hf h
 |BoolOp op vs pos=>exact Zfs hf h
 |IfExp t a b pos=>exact WE (P:=SE X F _) (show o3 CE.ife (cE G n sc N t) (cE G n sc N a) (cE G n sc N b)=some c from h) fun z x y hz hx hy=>⟨Zu (pe_ifExp (hf t z hz).pt (hf a x hx).pe (hf b y hy).pe) ZgR,Zhn (hf t z hz).pt (hf a x hx).pt (hf b y hy).pt⟩
 |Tuple es k pos=>
  refine UZ (P:=SE X F _) (show(cEs G n sc N es).map CE.tupE=some c from h) fun x q=>?_
  obtain⟨A,hA,_,_⟩:=ihA X sc N K es x q;exact .of (Zu (pe_tup A) (ZeG (fun ρ st ds st' e=>by obtain⟨ds',z,hz⟩:=W2 hA e;cases z;exact hz) fun ρ st d st' e=>by obtain⟨ds',z,hz⟩:=W2 hA e;exact⟨ds',z⟩))
 |List es pos=>
  refine UZ (P:=SE X F _) (show(cEs G n sc N es).map CE.lstE=some c from h) fun x q=>?_
  obtain⟨A,hA,_,_⟩:=ihA X sc N K es x q;exact .of (Zu (pe_lst A) (Zex fun ρ st ds st' e=>by obtain⟨ds',z,hz⟩:=W2 hA e;cases z;exact hz))
 |Dict keys vals pos=>cases keys with
  |nil=>cases vals with
   |nil=>cases h;exact .of (Zu Zda Zco)
   |cons _ _=>exact Zb h
  |cons k0 keys=>exact XC (show og ((k0 :: keys).length=vals.length/\(k0 :: keys)≠[]/\(k0 :: keys).length<=15) (o2 CE.dict (ZY (k0 :: keys)) (cVs (cE G n sc N) vals))=some c from h) fun cc h=>Yl (P:=SE X F _) h fun ks cs hk hc=>.of (Zc9 (fun e c h=>(hf e c h).pe) hk hc cc.1 cc.2.1 cc.2.2)
 |Subscript a b pos=>exact ZhN K hf ihO h
 |Call f as kws pos=>cases kws with
  |cons _ _=>exact no h
  |nil=>cases f with
   |Attribute ob m ap=>exact Zfp K hf ihA h
   |Name f p=>exact Zdz K hf ihA h
   |_=>exact no h
 |ListComp elt gens sc2 pos=>exact hcomp X sc N K elt gens sc2 pos c h
 |_=>exact no h
theorem Q0{n:Nat}(ihE:Zw G F n)(ihA:YU G F n):YU G F (n+1):=by
 intro X sc N K es c h;cases es with
 |nil=>
  simp only[cEs]at h;cases h;exact⟨Zc4 pa_nil Vw,trivial,rfl,fun _=>rfl⟩
 |cons e es=>
  refine Yl (P:=fun c=>PA X _ (tA X.K (ev F c))/\Ja c/\_/\(_->c=.aN)) (show o2 CE.aC (cE G n sc N e) (cEs G n sc N es)=some c from h) fun x r hx hr=>?_
  obtain⟨A,hA,hp,_⟩:=ihA X sc N K es r hr;exact⟨Zc4 (pa_cons (ihE X sc N K e x hx).pe A (Zj (Zh hx))) Ui,trivial,by rw[List.all_cons,hp,Zh hx];rfl,fun z=>nomatch z⟩
theorem Q1{n:Nat}(ihE:Zw G F n):UD G F (n+1):=by
 intro X sc N K e c h;cases e with
 |none=>
  simp only[cO]at h;cases h;exact Zdf po_none Zey
 |some e=>
  simp only[cO]at h;cases q:cE G n sc N e with
  |none=>rw[q]at h;cases h
  |some x=>
   rw[q]at h;cases h;refine Zdf (po_some (ihE X sc N K e x q).pe) fun σ H Q hq=>?_
   obtain⟨ad,ρ,st,d,st',E,S,e1,p⟩:=hq;have e1:ZC (ev F x) ZaC ρ st=some (d,st'):=e1;unfold ZC at e1;split at e1
   ·rename_i y st1 q1
    cases y with
    |int i=>
     cases e1;rcases p with⟨z,_⟩|⟨j,z,p⟩
     ·cases z
     ·cases z
      exact⟨ad,ρ,st,.int i,_,E,S,q1,fun v ad' H' x S' d'=>⟨i,d'.ofInt,p ad' H' x S'⟩⟩
    |_=>simp[ZaC]at e1
   ·exact Zb e1
end
end Dp



namespace Dp
open PySem PySem.Spec PyProof.Rows L2
variable [ClsTab]
theorem b_e{α β:Type}{P:Prop}{o:Ot α}{f:α->Ot β}{c:β}(h:o.bind f=some c)(k:∀ x,o=some x->f x=some c->P):P:=by
 cases o with
 |none=>exact Zb h
 |some x=>exact k x rfl h
theorem Zjc{X:Cx}{s:Stmt}{t u:TS}(h1:PS X s t)(h2:PS X s u):PS X s (fun D σ H=>t D σ H\/u D σ H):=fun pQ s σ H D I q=>q.elim (h1 pQ s σ H D I) (h2 pQ s σ H D I)
theorem WU{e:Expr}{tg:Ot Expr}{l:Nat}{env:PySem.Env}(h:Xy e=false):swapsWith e tg l env=pure false:=by
 cases e<;>first|rfl|cases h
theorem Wb{e tg:Expr}{l:Nat}{env:PySem.Env}(h:Xy e=false):swapsWithSole [tg] e l env=pure false:=WU h
theorem Jh{o k:Expr}{p:Pos}{env:PySem.Env}(h:Zn k=true):∀ v,assign (.Subscript o k p) env v=(do
   let ov <-holding [v] (eval o env)
   let iv <-holding [v,ov] (eval k env)
   standAt p
   holding [v,ov,iv] (setItem ov iv v)
   release [v,ov,iv] []):=by
 cases k<;>first | (intro _;rfl)|cases h
theorem JV{o k e:Expr}{p:Pos}{env:PySem.Env}:swappedStores [.Subscript o k p] e env=pure none:=by
 cases e<;>rfl
theorem Yk{e:Expr}{env:PySem.Env}(h:Zn e=true):∀ x,foldedSetIterable e env x=pure x:=by
 cases e<;>first | (intro _;rfl)|cases h
structure CxtS(X:Cx)(G:Gs)(F:Nat->Fn)(sc:Scope)(N:List Str):Prop extends Cxt X G F sc N where
 nd:N.Nodup
 loc:∀ x∈N,Loc X.env.scope x
 fn:∀ x,X.fn x=true
section
variable {G:Gs}{F:Nat->Fn}
def Jc(G:Gs)(F:Nat->Fn)(n:Nat):Prop:=∀ X sc N,CxtS X G F sc N->∀ s c,cS G n sc N s=some c->PS X s (tS X.K (ex F c))
def Yf(G:Gs)(F:Nat->Fn)(n:Nat):Prop:=∀ X sc N,CxtS X G F sc N->∀ s c,cSs G n sc N s=some c->PSs X s (tS X.K (ex F c))
theorem UM{N:Li Str}{x:Str}{i:Nat}(h:N.idxOf? x=some i):x∈N:=List.mem_of_getElem? (X6 h)
theorem Y6{X:Cx}{sc:Scope}{N:Li Str}{x:Str}{i:Nat}{p:Pos}(K:CxtS X G F sc N)(h:N.idxOf? x=some i):PG X (.Name x p) (gName i):=
 pg_name (by rw[K.hN];exact K.nd) (by rw[K.hN];exact X6 h) (K.loc x (UM h)) (.inl (K.fn x))
theorem VL{X:Cx}{sc:Scope}{N:Li Str}(K:CxtS X G F sc N):PassesOwn (model X.prog X.w) X.A X.env X.xe:=by
 rw[K.nx];exact PassesOwn.never
theorem ZaD{X:Cx}{sc:Scope}{N:Li Str}{x:Str}{i:Nat}{p:Pos}(K:Cxt X G F sc N)(hl:Xz sc x=true)(hi:N.idxOf? x=some i):PE X (.Name x p) (tVar i):=
 pe_var (by rw[K.hN];exact X6 hi) (K.vis _ hl) (UT hl).1 (UT hl).2
theorem WT{X:Cx}{sc:Scope}{N:Li Str}{it a tg:Expr}{x:CE}(K:Cxt X G F sc N)(h:Z6 G sc it=some a)(hp:Zn a=true)(A:PE X a (tE X.K (ev F x))):Zn it=true/\PI X tg it (iRng1 (tCons (tE X.K (ev F x)) tNil)):=by
 obtain⟨_,_,rfl,hg,hm⟩:=V6 K h;exact⟨rfl,pi_range1 hg hm (pa1 hp A) (Zj hp)⟩
def Vf(G:Gs)(F:Nat->Fn)(n:Nat):Prop:=∀ X sc N,CxtS X G F sc N->∀ (x:Str) (i:Nat) (p:Pos) elt gens sc2 epos (pos:Pos) c,N.idxOf? x=some i->cE G n sc N (.ListComp elt gens sc2 epos)=some c->
 swapsWith (.ListComp elt gens sc2 epos) (some (.Name x p)) pos.line X.env=pure true->PS X (.Assign [.Name x p] (.ListComp elt gens sc2 epos) pos) (tAsg (tE X.K (ev F c)) (gName i))
theorem JW{elt:Expr}{gens:Li Comprehension}{sc2:Scope}{epos p:Pos}{x:Str}{l:Nat}{env:PySem.Env}:∃ b:Bool,swapsWith (.ListComp elt gens sc2 epos) (some (.Name x p)) l env=pure b:=⟨_,rfl⟩
theorem ZcW{n:Nat}{sc:Scope}{N:Li Str}{e:Expr}{c:CE}(h:cE G n sc N e=some c):Xy e=false\/∃ elt gens sc2 epos,e=.ListComp elt gens sc2 epos:=by
 cases n with
 |zero=>exact nomatch (show(none:Ot CE)=some c from h)
 |succ n=>cases e<;>first|exact .inl rfl|exact .inr ⟨_,_,_,_,rfl⟩|exact nomatch (show(none:Ot CE)=some c from h)
theorem ZhS{n:Nat}(ihE:Zw G F n)(hA:Vf G F n){X:Cx}{sc:Scope}{N:Li Str}(K:CxtS X G F sc N){c:CS}{x:Str}{e:Expr}{p pos:Pos}(h:o2 CS.set (N.idxOf? x) (cE G n sc N e)=some c):PS X (.Assign [.Name x p] e pos) (tS X.K (ex F c)):=by
 refine Yl (P:=fun c=>PS X _ (tS X.K (ex F c))) h fun i y hi hx=>?_
 have pl:∀ hs,PS X (.Assign [.Name x p] e pos) (tAsg (tE X.K (ev F y)) (gName i)):=fun hs=>ps_set (by rw[K.hN];exact K.nd) (by rw[K.hN];exact X6 hi) (K.loc _ (UM hi)) (ihE X sc N K.toCxt _ y hx).pe hs (.inl (K.fn _))
 rcases ZcW hx with hc|⟨elt,gens,sc2,epos,rfl⟩
 ·exact ZP (pl (WU hc)) UO
 ·obtain⟨b,hb⟩:=JW (elt:=elt) (gens:=gens) (sc2:=sc2) (epos:=epos) (p:=p) (x:=x) (l:=pos.line) (env:=X.env)
  cases b with
  |false=>exact ZP (pl hb) UO
  |true=>exact ZP (hA X sc N K _ i p elt gens sc2 epos pos y hi hx hb) UO
theorem VS{ts:Li Expr}{k:Nat}{tp:Pos}{e:Expr}{env:PySem.Env}(h:QF e=false):swappedStores [.Tuple ts k tp] e env=pure none:=by
 cases e with
 |Tuple=>cases h
 |_=>rfl
theorem ZfJ{n:Nat}(ihE:Zw G F n){X:Cx}{sc:Scope}{N:Li Str}(K:CxtS X G F sc N){c:CS}{x y:Str}{e:Expr}{p p2 tp pos:Pos}{ctx:Nat}(h:og ((Xy e||QF e)=false) (o3 (fun i j c=>og (i≠j) (some (CS.set2 i j c))) (N.idxOf? x) (N.idxOf? y) (cE G n sc N e)).join=some c):PS X (.Assign [.Tuple [.Name x p,.Name y p2] ctx tp] e pos) (tS X.K (ex F c)):=by
 refine XC h fun hc h=>j_e h fun h=>WE (P:=fun o=>o=some c->PS X _ (tS X.K (ex F c))) h (fun i j ce hi hj hx h=>XC h fun _ h=>?_) rfl
 cases h;rw[Bool.or_eq_false_iff]at hc;exact ZP (ps_asg (ihE X sc N K.toCxt _ ce hx).pe (pg_tup K.calm (pgs_cons (Y6 K hi) (pgs_cons (Y6 K hj) pgs_nil))) (Wb hc.1) (VS hc.2)) Zcy
theorem ZfK{n:Nat}(ihE:Zw G F n){X:Cx}{sc:Scope}{N:Li Str}(K:CxtS X G F sc N){c:CS}{x y z:Str}{e:Expr}{p p2 p3 tp pos:Pos}{ctx:Nat}(h:og ((Xy e||QF e)=false) (o3 (fun i j (p:Nat×CE)=>CS.set3 i j p.1 p.2) (N.idxOf? x) (N.idxOf? y) (o2 Prod.mk (N.idxOf? z) (cE G n sc N e)))=some c):PS X (.Assign [.Tuple [.Name x p,.Name y p2,.Name z p3] ctx tp] e pos) (tS X.K (ex F c)):=by
 refine XC h fun hc h=>WE (P:=fun c=>PS X _ (tS X.K (ex F c))) h fun i j q hi hj hq=>Yl (P:=fun q=>PS X _ (tS X.K (ex F (.set3 i j q.1 q.2)))) hq fun l ce hl hx=>?_
 rw[Bool.or_eq_false_iff]at hc;exact ZP (ps_asg (ihE X sc N K.toCxt _ ce hx).pe (pg_tup K.calm (pgs_cons (Y6 K hi) (pgs_cons (Y6 K hj) (pgs_cons (Y6 K hl) pgs_nil)))) (Wb hc.1) (VS hc.2)) Zcz
theorem ZhQ{n:Nat}(ihE:Zw G F n){X:Cx}{sc:Scope}{N:Li Str}(K:CxtS X G F sc N){c:CS}{f:Str}{fp cp pos:Pos}{as:Li Expr}{kw:Li Keyword}(h:(cE G n sc N (.Call (.Name f fp) as kw cp)).map CS.act=some c):PS X (.Expr (.Call (.Name f fp) as kw cp) pos) (tS X.K (ex F c)):=by
 obtain⟨ce,hx,rfl⟩:=Option.map_eq_some_iff.mp h;exact ZP (ps_expr (ihE X sc N K.toCxt _ ce hx).pe rfl) Zer
theorem ZhT{n:Nat}(ihE:Zw G F n){X:Cx}{sc:Scope}{N:Li Str}(K:CxtS X G F sc N){c:CS}{x:Str}{k e:Expr}{p q pos:Pos}(h:Zje sc N x k e (cE G n sc N)=some c):PS X (.Assign [.Subscript (.Name x p) k q] e pos) (tS X.K (ex F c)):=
 XC h fun hc h=>by
 cases hp:Zga k with
 |some ab=>
  cases hp
 |none=>
 rw[hp]at h;exact WE (P:=fun c=>PS X _ (tS X.K (ex F c))) h fun _ ck y hi hck hx=>ZP (ps_asg (ihE X sc N K.toCxt _ y hx).pe (pg_sub (ZaD K.toCxt hc.2.2 hi) (ihE X sc N K.toCxt _ ck hck).pe set_list (Jh (Zh hck))) (Wb hc.1) JV) ZeB
theorem ZhU{n:Nat}(ihE:Zw G F n){X:Cx}{sc:Scope}{N:Li Str}(K:CxtS X G F sc N){c:CS}{e:Expr}{pos:Pos}(h:(cE G n sc N e).map CS.ret=some c):PS X (.Return (some e) pos) (tS X.K (ex F c)):=
 UZ (P:=fun c=>PS X _ (tS X.K (ex F c))) h fun x q=>ZP (ps_ret (ihE X sc N K.toCxt _ x q).pe) ZeC
theorem Zjl{n:Nat}(ihE:Zw G F n)(ihS:Yf G F n){X:Cx}{sc:Scope}{N:Li Str}(K:CxtS X G F sc N){c:CS}{e:Expr}{a b:Li Stmt}{pos:Pos}(h:o3 CS.ite (cE G n sc N e) (cSs G n sc N a) (cSs G n sc N b)=some c):PS X (.If e a b pos) (tS X.K (ex F c)):=
 WE (P:=fun c=>PS X _ (tS X.K (ex F c))) h fun cc ca cb hc ha hb=>ZP (ps_if (ihE X sc N K.toCxt _ cc hc).pt (ihS X sc N K _ ca ha) (ihS X sc N K _ cb hb)) Zew
theorem ZfE{n:Nat}(ihA:YU G F n)(ihS:Yf G F n){X:Cx}{sc:Scope}{N:Li Str}(K:CxtS X G F sc N){c:CS}{x:Str}{it:Expr}{as:Li Expr}{b:Li Stmt}{p pos:Pos}(hr:WJ G sc it=some as)(h:o3 CS.for3 (N.idxOf? x) (cEs G n sc N as) (cSs G n sc N b)=some c):PS X (.For (.Name x p) it b [] pos) (tS X.K (ex F c)):=by cases hr
theorem ZfC{n:Nat}(ihE:Zw G F n)(ihS:Yf G F n){X:Cx}{sc:Scope}{N:Li Str}(K:CxtS X G F sc N){c:CS}{x:Str}{it:Expr}{b:Li Stmt}{p pos:Pos}(h:(match Z6 G sc it with
   |some a=>o3 (fun i c b=>CS.for1 i true c b) (N.idxOf? x) (cE G n sc N a) (cSs G n sc N b)
   |none=>o3 (fun i c b=>CS.for1 i false c b) (N.idxOf? x) (cE G n sc N it) (cSs G n sc N b))=some c):PS X (.For (.Name x p) it b [] pos) (tS X.K (ex F c)):=by
 cases ha:Z6 G sc it with
 |some a=>
  rw[ha]at h;refine WE (P:=fun c=>PS X _ (tS X.K (ex F c))) h fun i ci cb hi q hb=>?_
  obtain⟨hp,pi⟩:=WT K.toCxt ha (Zh q) (ihE X sc N K.toCxt a _ q).pe;exact ZP (ps_for (VL K) K.calm pi (Y6 K hi) (ihS X sc N K _ cb hb) (Yk hp)) Zct
 |none=>
  rw[ha]at h;refine WE (P:=fun c=>PS X _ (tS X.K (ex F c))) h fun i ci cb hi q hb=>?_
  have A:=(ihE X sc N K.toCxt _ _ q).pe;have hf:=Yk (env:=X.env) (Zh q);exact ZP (Zjc (ps_for (VL K) K.calm (pi_tup A) (Y6 K hi) (ihS X sc N K _ cb hb) hf) (ps_for (VL K) K.calm (pi_list A) (Y6 K hi) (ihS X sc N K _ cb hb) hf)) Zcs
theorem QD{X:Cx}{pQ:Li (Ad×Obj)}{σ:L2.St}{H:Hp}{s:Sd}{h':Heap}{t':Nat}{wr:Li Ad}(I:L2.Inv X pQ σ H s)(hf:∀ b∈wr,FpOk X pQ H b)(k:∀ b o,b∉wr->s.heap.get? b=some o->h'.get? b=some o):L2.Inv X pQ σ H { s with heap:=h',toks:=t' }:=by
 have nw:∀ b u,H b=some u->b∉wr:=fun b u e hb=>by have:=(hf b hb).1;rw[e]at this;cases this
 refine I.step (g':=s.gens) (d':=s.drawn) (ch:=wr) (fun b hb=>⟨(hf b hb).2.2.2.1,(hf b hb).2.1,(hf b hb).2.2.2.2.1,(hf b hb).2.2.2.2.2⟩) (fun b o _ _ hc e _=>k b o hc e) (fun b o _ _ hc e _=>⟨o.slots,k b o hc e⟩)
  (fun b o _ e n=>n) (fun b o hc e=>⟨o,k b o hc e⟩) (fun b ys e=>e) (fun b o u e=>e) (fun b ps e=>⟨#[],by rw[e];simp⟩) (fun m hm=>?_) (fun b u e=>?_) I.bare
 ·obtain⟨o,es,ep,ho,r⟩:=hm
  exact⟨o,es,ep,k _ o (fun z=>(hf _ z).2.1 rfl) ho,r⟩
 ·refine(I.hok b u e).stay (fun c v hc q=>k c v ?_ q) (fun c q=>q) fun c ys q=>q
  rcases hc with z|z
  ·rw[z];exact nw b u e
  ·exact nw c _ z
theorem V4{X:Cx}{pQ:Li (Ad×Obj)}{σ:L2.St}{H:Hp}{s:Sd}{h':Heap}{t':Nat}{wr:Li Ad}{T:Ad}{xs:Li V}(I:L2.Inv X pQ σ H s)(hf:∀ b∈wr,FpOk X pQ H b)(k:∀ b o,b∉wr->s.heap.get? b=some o->h'.get? b=some o)(hT:s.heap.objs.size<=T)(new:ObjOk X.prog X.w (upd H T (.tup xs)) h' T (.tup xs)):L2.Inv X pQ σ (upd H T (.tup xs)) { s with heap:=h',toks:=t' }:=by
 have hn:H T=none:=I.hok.fresh hT;have nT:∀ b u,s.heap.get? b=some u->b≠T:=fun b u e=>Nat.ne_of_lt (Nat.lt_of_lt_of_le (Heap.lt_size e) hT)
 have nw:∀ b u,H b=some u->b∉wr:=fun b u e hb=>by have:=(hf b hb).1;rw[e]at this;cases this
 refine I.step (g':=s.gens) (d':=s.drawn) (ch:=wr) (fun b hb=>⟨(hf b hb).2.2.2.1,(hf b hb).2.1,(hf b hb).2.2.2.2.1,(hf b hb).2.2.2.2.2⟩) (fun b o _ _ hc e _=>k b o hc e) (fun b o _ _ hc e _=>⟨o.slots,k b o hc e⟩)
  (fun b o _ e n=>by rw[upd_ne (nT b o e)];exact n) (fun b o hc e=>⟨o,k b o hc e⟩) (fun b ys e=>by rw[upd_ne (ne_of_none e hn)];exact e) (fun b o u e=>by rw[upd_ne (ne_of_none e hn)];exact e) (fun b ps e=>⟨#[],by rw[upd_ne (ne_of_none e hn),e];simp⟩) (fun m hm=>?_) (fun b u e=>?_) I.bare
 ·obtain⟨o,es,ep,ho,r⟩:=hm
  exact⟨o,es,ep,k _ o (fun z=>(hf _ z).2.1 rfl) ho,r⟩
 ·by_cases hb:b=T
  ·subst hb;rw[upd_same]at e;cases e;exact new
  ·rw[upd_ne hb]at e
   refine(I.hok b u e).stay (fun c v hc q=>k c v ?_ q) (fun c q=>by rw[upd_ne (ne_of_none q hn)];exact q) fun c ys q=>by rw[upd_ne (ne_of_none q hn)];exact q
   rcases hc with z|z
   ·rw[z];exact nw b u e
   ·exact nw c _ z
theorem ZfL{X:Cx}{pQ:Li (Ad×Obj)}{σ:L2.St}{H:Hp}{s:Sd}{a:Ad}{xs ys:Li V}(I:L2.Inv X pQ σ H s)(h1:SqL X.K H a xs)(h2:SqL X.K H a ys):ys=xs:=by
 obtain⟨i1,r1,⟨o1,n1,g1,_,_,d1⟩,_⟩:=I.list h1;obtain⟨i2,r2,⟨o2,n2,g2,_,_,d2⟩,_⟩:=I.list h2;rw[g1]at g2;cases g2;rw[d1]at d2;have e:i1.toArray=i2.toArray:=by injection d2
 have e:i1=i2:=by simpa using e
 subst e;exact Vals.inj r2 r1
theorem ZcU{a b:String}{p:Prop}(h:Value.type a=Value.type b)(n:¬a=b):p:=by
 injection h with h
 exact absurd h n
structure ZD(z TI TO i1 i2:Addr):Prop where
 a:TI≠z
 b:TO≠z
 c:i1≠z
 d:i2≠z
 e:TI≠TO
 f:TI≠i1
 g:TI≠i2
 h:TO≠i1
 i:TO≠i2
 j:i1≠i2
structure ZSt(z TI TO i1 i2 a b:Addr)(i:Nat)(h:Heap):Prop where
 hz:IsZip h z TI TO .none
 hI:IsPair h TI (.ref i1) (.ref i2)
 hO:∃ u v,IsPair h TO u v
 h1:h.IsListIter i1 a i
 h2:h.IsListIter i2 b i
section
variable {prog:Program}{w:World}{A:Around}{E:vL->Sd->Prop}{s:Sd}
open Sem (wp)
open AutoSeq1 (wpAny_loadPart')
theorem QO{it l:Ad}{i:Nat}{items:Array vL}{Q:vL->Sd->Prop}(hh:A.handled=none)(hit:s.heap.IsTupleIter it l i)(hl:s.heap.IsTuple l items)(hQ:∀ x h',items[i]?=some x->h'.IsTupleIter it l (i+1)->Heap.SameBut it s.heap h'->Q x { s with heap:=h' })(hE:items[i]?=none->∀ h' e,Heap.ExtBut it s.heap h'->(∃ o,h'.get? e=some o/\o.cls=.type "StopIteration")->E (.ref e) { s with heap:=h' }) :
  wpAny (model prog w) A (Builtin.SmallTypes.nextOf (.ref it)) Q E s:=by
 obtain⟨o,ho,hc,hd⟩:=id hit;obtain⟨ol,hol,_,nl,hdl⟩:=hl;unfold Builtin.SmallTypes.nextOf;refine wpAny_bind (wpAny_callSpecial?_slot (name:=Str.ofString "__next__") hit.typeIs PySem.F.slot_tuple_iterator_next
  (wpAny_call_entry PySem.F.slot_tuple_iterator_next hit.typeIs PySem.F.entry_tuple_iterator_next ?_ (PySem.F.args_tuple_iterator_next_1 _)))
 show wpAny _ _ (field (.ref it) 0 >>= _) _ _ s;refine wpAny_bind (wpAny_field ho hd (x:=.ref l) rfl ?_);show wpAny _ _ (if (Value.ref l==Value.none)=true then _ else _) _ _ s
 rw[if_neg (show ¬((Value.ref l==Value.none)=true) from Bf)];show wpAny _ _ (field (.ref it) 1 >>= _) _ _ s;refine wpAny_bind (wpAny_field ho hd (x:=.int i 0) rfl ?_);show wpAny _ _ (seqItems? (.ref l) >>= _) _ _ s;refine wpAny_bind (wpAny_seqItems hol hdl ?_);cases hx:items[i]? with
 |some x=>
  simp only[Int.toNat_natCast,hx];refine wpAny_bind (wpAny_setField ho hd (by simp) (wpAny_pure ⟨x,rfl,wpAny_pure (hQ _ _ hx ?_ (Heap.SameBut.update ..))⟩))
  exact⟨_,Heap.get?_update_self _ ho (Obj.isFreed_of_fields (Obj.data_mapFields hd _)),(Obj.cls_mapFields ..).trans hc,by
   rw[Obj.data_mapFields hd];simp[rawInt]⟩
 |none=>
  simp only[Int.toNat_natCast,hx];refine wpAny_bind (wpAny_rule (wpAny_bind (wpAny_setField ho hd (by simp) ?_)))
  show wpAny _ _ (newExc (.type "StopIteration") [] >>= _) _ _ _;refine wpAny_bind ?_;simp only[newExc,newTuple];refine wpAny_bind (wpAny_newObj_type ?_ (by size_fits))
  refine wpAny_bind (m:=firstArgMember _ _) (wpAny_of_eq (a:=Value.none) (by first|rfl | (simp only[firstArgMember];rfl)) ?_)
  refine wpAny_newObj_type ?_ (by size_fits)
  simp only[raiseNew];refine wpAny_bind (wpAny_handled ?_)
  first|rw[show A.in1.handled=none from hh]|rw[hh]
  refine wpAny_bind (wpAny_pure (wpAny_throw ?_));exact hE hx _ _ (((Heap.SameBut.update ..).extBut.push _).push _) ⟨_,Heap.get?_push_size _ rfl,rfl⟩
theorem Zbf(hh:A.handled=none)(it l:Ad)(hne:l≠it)(items:Array vL) :
  Draws prog w A it [it,l] items.size (fun i v=>items[i]?=some v) (fun i h=>h.IsTupleIter it l i/\h.IsTuple l items) where
 live:=fun _ _ st=>let ⟨o,ho,_⟩:=st.1;⟨o,ho⟩
 frame:=fun _ _ _ st hk=>⟨st.1.at fun o e=>hk it (by simp) o e,st.2.at fun o e=>hk l (by simp) o e⟩
 item:=fun i s Q E hi st hQ=>QO hh st.1 st.2 (fun x h' e hit' hs'=>hQ x h' s.toks e ⟨hit',st.2.extBut hs'.extBut hne⟩ hs') fun e=>absurd e (by simp[hi])
 done:=fun s Q E st hE=>QO hh st.1 st.2 (fun x h' e=>absurd e (by simp)) fun _=>hE
theorem VH(l:Ad)(items:Array vL)(n:Nat)(dct:Ot Ad)(sl:Array (Ot vL)) :
  Meets (Builtin.«enumerate.__new__» ⟨[.type "enumerate",.ref l],[]⟩) (fun _ R s=>s.heap.get? l=some { cls:=.type "tuple",dict:=dct,data:=.seq items n,slots:=sl } /\
   R (.ok (.ret (.ref (s.heap.push { cls:=.type "tuple_iterator",data:=.fields #[.ref l,.int 0 0] }).objs.size)))
    { s with heap:=(s.heap.push { cls:=.type "tuple_iterator",data:=.fields #[.ref l,.int 0 0] }).push { cls:=.type "enumerate",data:=.fields #[.none,.bool false,.ref s.heap.objs.size,rawInt 0,.none,.none] } }):=
 .of_wp fun prog w A R s h=>by
  obtain⟨hp,g,d,tk,os⟩:=s;obtain⟨hl,h⟩:=h;have hsub:=sub_enumerate;have hL:Heap.IsTuple (Shared.heap ⟨hp,g,d,tk,os⟩) l items:=⟨_,hl,rfl,n,rfl⟩
  wp_walk using wpAny_loadPart' hl
  refine wpAny_stack_any fun st=>wpAny_pure ?_
  split
  ·rename_i c _ _ _ _ _
   cases (c==Value.type "enumerate")
   ·wp_walk using wpAny_loadPart' hl,wpAny_pyIter_tuple hL
    exact⟨_,rfl,h⟩
   ·wp_walk using wpAny_loadPart' hl,wpAny_pyIter_tuple hL
    exact⟨_,rfl,h⟩
  ·wp_walk using wpAny_loadPart' hl,wpAny_pyIter_tuple hL
   exact⟨_,rfl,h⟩
theorem V2{l:Ad}{items:Array vL}{Q:vL->Sd->Prop}(hL:s.heap.IsTuple l items)(h:∀ h',IsEnum h' (s.heap.objs.size+1) s.heap.objs.size 0 .none->h'.IsTupleIter s.heap.objs.size l 0->h'.objs.size=s.heap.objs.size+2->
   (∀ b o,s.heap.get? b=some o->h'.get? b=some o)->Q (.ref (s.heap.objs.size+1)) { s with heap:=h' }) :
  wpAny (model prog w) A (call (.type "enumerate") [.ref l]) Q E s:=by
 obtain⟨⟨c,dct,dt,sl⟩,hl,hc,n,hd⟩:=hL;replace hc:c=.type "tuple":=hc;replace hd:dt=.seq items n:=hd;subst hc hd;refine callType_new PySem.F.called_enumerate (by decide) (PySem.F.typeCall_enumerate_1 _) (PySem.F.newCall_enumerate_1 _) (fun obj=>PySem.F.args_object_init_2 obj _) PySem.F.entry_enumerate_new
  (VH l items n dct sl) ⟨hl,?_⟩
 have hz:(s.heap.push { cls:=.type "tuple_iterator",data:=.fields #[.ref l,.int 0 0] }).objs.size=s.heap.objs.size+1:=Heap.size_push ..;show _/\_;rw[hz];have he:IsEnum ((s.heap.push { cls:=.type "tuple_iterator",data:=.fields #[.ref l,.int 0 0] }).push
   { cls:=.type "enumerate",data:=.fields #[.none,.bool false,.ref s.heap.objs.size,rawInt 0,.none,.none] }) (s.heap.objs.size+1) s.heap.objs.size 0 .none:=by
  have:=Heap.get?_push_size (s.heap.push { cls:=.type "tuple_iterator",data:=.fields #[.ref l,.int 0 0] })
   (o:={ cls:=.type "enumerate",data:=.fields #[.none,.bool false,.ref s.heap.objs.size,rawInt 0,.none,.none] }) rfl
  rw[hz]at this;exact this
 refine⟨⟨_,he,rfl⟩,h _ he ⟨_,Heap.get?_push_of_some _ (Heap.get?_push_size _ rfl),rfl,rfl⟩ (by rw[Heap.size_push,hz]) fun b o x=>Heap.get?_push_of_some _ (Heap.get?_push_of_some _ x)⟩
end
noncomputable def Ite(sq:Hp->Li V->Prop):It:=
 ⟨fun i H=>∃ xs x,sq H xs/\xs[i]?=some x,fun i H v H'=>∃ T x,v=.ref T/\H T=none/\H'=upd H T (.tup [.int (i:Int),x])/\∀ xs,sq H xs->xs[i]?=some x,fun i H=>∃ xs,sq H xs/\xs.length=i⟩
noncomputable def Zaj(K:Fg)(ta:TA):TI:=fun σ H R=>ta σ H fun vs H1=>∃ a,vs=[.ref a]/\(((∃ xs,SqL K H1 a xs)/\R (Ite fun H=>SqL K H a) H1)\/((∃ xs,SqT K H1 a xs)/\R (Ite fun H=>SqT K H a) H1))
theorem Ux{P:Program}{w:World}{K:Fg}{elts:Li Expr}{kk:Nat}{pos:Pos}{sq:Hp->Li V->Prop}{it1:Nat->Heap->Prop}(e it a:Ad)(d:e≠it)(hi:∀ i h,it1 i h->∃ o,h.get? it=some o/\∀ v,o.data≠.cell v)(hk:∀ i h h',it1 i h->(∀ o,h.get? it=some o->h'.get? it=some o)->it1 i h')(hD:∀ (X:Cx),X.prog=P->X.w=w->X.K=K->X.calm=true->∀ (pQ:Li (Ad×Obj)) (s:Sd) (σ:L2.St) (H:Hp) (i:Nat) (xs:Li V),L2.Inv X pQ σ H s->(∃ old,IsEnum s.heap e it i old)->it1 i s.heap->sq H xs->
   (∀ ys,sq H ys->ys=xs)/\∃ (its:Li vL) (ob:Heap->Prop),Vals xs its/\a≠e/\ob s.heap/\Draws P w X.A.in1 it [it,a] its.toArray.size (fun i v=>its.toArray[i]?=some v) (fun i h=>it1 i h/\ob h)) :
  Turn P w K (.Tuple elts kk pos) (Ite sq) [e,it] e (fun i h=>(∃ old,IsEnum h e it i old)/\it1 i h) where
 mem:=by simp
 obj:=fun i h st c hc=>by
  obtain⟨⟨old,he⟩,h1⟩:=st;simp only[List.mem_cons,List.not_mem_nil,or_false]at hc;rcases hc with rfl|rfl
  ·exact⟨_,he,fun v q=>by cases (show Data.fields _=Data.cell v from q)⟩
  ·exact hi i h h1
 keep:=fun i h h' st k=>by
  obtain⟨⟨old,he⟩,h1⟩:=st;exact⟨⟨old,k e (by simp) _ he⟩,hk i h h' h1 fun o g=>k it (by simp) o g⟩
 item:=by
  intro X hP hw hK hc i pQ s σ H E I hf st hg;obtain⟨xs,x,hs,ex⟩:=hg;obtain⟨hone,its,ob,r,ne,o0,D⟩:=hD X hP hw hK hc pQ s σ H i xs I st.1 st.2 hs;subst hP hw hK;have W:=WalksT.enumerateD D e d (by simp only[List.mem_cons,List.not_mem_nil,or_false];exact fun q=>q.elim d fun q=>ne q.symm) (by simp)
  have l1:=r.length;have ix:i < xs.length:=(List.getElem?_eq_some_iff.mp ex).1;refine W.item i s _ _ (by simp;omega) ⟨st.1,st.2,o0⟩ fun T vals h' tk hv hT tup mid k1=>?_
  obtain⟨t,u,eu,rfl⟩:=hv;refine⟨.ref T,rfl,W.go elts kk pos i T _ _ _ mid fun h2' st2 k2=>?_⟩
  have nT:=W.apart i T h' mid;have ru:RelV x u:=by
   obtain⟨u',e1,e2⟩:=r.get ex;have:its[i]?=some u:=by simpa using eu
   rw[this]at e1;cases e1;exact e2
  have tup2:h2'.IsTuple T #[.int i t,u]:=tup.at fun o g=>k2 T o nT g
  have I2:L2.Inv X pQ σ (upd H T (.tup [.int (i:Int),x])) { s with heap:=h2',toks:=tk }:=V4 (wr:=[e,it]) I hf (fun c o hcn g=>k2 c o hcn (k1 c o hcn g)) hT ⟨show 2<=sizeLine by decide,[.int i t,u],.cons ⟨t,rfl⟩ (.cons ru .nil),tup2⟩
  refine⟨.ref T,_,I2,rfl,⟨T,x,rfl,I.hok.fresh hT,rfl,fun xs' q=>by rw[hone _ q];exact ex⟩,⟨st2.1,st2.2.1⟩,fun c hcm=>?_⟩
  have:c≠T:=fun q=>by
   have lt:∀ {o},s.heap.get? c=some o->False:=fun g=>absurd (Heap.lt_size g) (Nat.not_lt.mpr (by rw[q];exact hT))
   obtain⟨⟨_,he⟩,h1⟩:=st;obtain⟨_,g,_⟩:=hi _ _ h1;simp only[List.mem_cons,List.not_mem_nil,or_false]at hcm;rcases hcm with rfl|rfl
   ·exact lt he
   ·exact lt g
  rw[upd_ne this];exact(hf c hcm).1
 done:=by
  intro X hP hw hK hc i pQ s σ H E I hf st hg;obtain⟨xs,hs,hle⟩:=hg;obtain⟨hone,its,ob,r,ne,o0,D⟩:=hD X hP hw hK hc pQ s σ H i xs I st.1 st.2 hs;subst hP hw hK;have W:=WalksT.enumerateD D e d (by simp only[List.mem_cons,List.not_mem_nil,or_false];exact fun q=>q.elim d fun q=>ne q.symm) (by simp)
  have l1:=r.length;have e1:i=its.toArray.size:=by simp;omega
  subst e1;exact W.done s _ _ ⟨st.1,st.2,o0⟩ fun h' tk k=>⟨rfl,QD (wr:=[e,it]) I hf k⟩
 self:=fun _ _ _ _ _ st h=>let ⟨⟨_,he⟩,_⟩:=st;wpAny_pyIter_enum he h
theorem QQ{h:Heap}{e it:Ad}{i:Int}{old:vL}{a:Ad}{o:Obj}{n:String}(he:IsEnum h e it i old)(g:h.get? a=some o)(c:o.cls=.type n)(hn:¬n = "enumerate"):a≠e:=fun q=>by
 subst q;have he:h.get? a=some _:=he;rw[g]at he;cases he;exact ZcU c fun z=>hn z.symm
theorem QR{h:Heap}{a b:Ad}{o u:Obj}{n m:String}(g:h.get? a=some o)(c:o.cls=.type n)(g2:h.get? b=some u)(c2:u.cls=.type m)(hn:¬n=m):a≠b:=fun q=>by
 subst q;rw[g]at g2;cases g2;rw[c]at c2;exact ZcU c2 hn
theorem Zd3:bootBuiltins "enumerate"=some (.type "enumerate"):=by decide +kernel
theorem Zfa{X:Cx}{elts:Li Expr}{kk:Nat}{tp:Pos}{x:Expr}{ta:TA}{p pos:Pos}(hg:Gl X "enumerate")(hm:X.mg "enumerate"=none)(ha:PA X [x] ta)(hs:starEach [x] X.env=[(false,eval x X.env)]):PI X (.Tuple elts kk tp) (.Call (.Name "enumerate" p) [x] [] pos) (Zaj X.K ta):=by
 intro pQ s σ H R I h;refine Call_ (ld_blt I hg hm Zd3 (PyProof.Rows.callWith_type1 (thn (ha pos pQ s σ H _ I h) fun us s1 ⟨vs,H1,I1,r1,q1⟩=>?_) hs rfl))
 obtain⟨a,rfl,q⟩:=q1;have fo:∀ c∈[s1.heap.objs.size+1,s1.heap.objs.size],FpOk X pQ H1 c:=fun c hcm=>by
  have hc:s1.heap.objs.size<=c:=by
   simp only[List.mem_cons,List.not_mem_nil,or_false]at hcm;rcases hcm with rfl|rfl
   ·exact Nat.le_add_right _ _
   ·exact Nat.le_refl _
  exact I1.fpOk hc (I1.hok.fresh hc)
 cases r1 with
 |cons r rr=>
  cases rr;cases r;rcases q with⟨⟨xs,sq⟩,q⟩|⟨⟨xs,sq⟩,q⟩
  ·obtain⟨its,_,p1,_⟩:=I1.list sq
   refine call_enumerate_list p1.isList fun h' he h1 hsz k=>wpAny_pyIter_enum he ?_
   refine⟨s1.heap.objs.size+1,[s1.heap.objs.size+1,s1.heap.objs.size],_,_,H1,rfl,I1.kept (t':=s1.toks) k,Ux (it1:=fun i h=>h.IsListIter _ a i) _ _ a (Nat.succ_ne_self _) (fun i h st=>?_) (fun i h h' st k=>st.at k) (fun X hP hw hK hc pQ s σ H i xs I he h1 sq=>?_),⟨⟨_,he⟩,h1⟩,fo,q⟩
   ·obtain⟨o,g,_,f⟩:=st
    exact⟨o,g,fun v q=>by rw[f]at q;cases q⟩
   ·rw[<-hP,<-hw]
    rw[<-hK]at sq ⊢;obtain⟨its,r,p,_⟩:=I.list sq;obtain⟨⟨_,he⟩,⟨o2,g2,c2,_⟩⟩:=And.intro he h1;obtain⟨o,g,c,_⟩:=p.isList;exact⟨fun ys hy=>ZfL I sq hy,its,fun h=>h.IsList a its.toArray,r,QQ he g c (by decide),p.isList,Draws.list (show X.A.in1.handled=none from I.ok.hd hc) _ a (QR g c g2 c2 (by decide)) its.toArray⟩
  ·obtain⟨its,_,p1,_⟩:=I1.tuple sq
   refine V2 (show s1.heap.IsTuple a its.toArray from p1) fun h' he h1 hsz k=>wpAny_pyIter_enum he ?_
   refine⟨s1.heap.objs.size+1,[s1.heap.objs.size+1,s1.heap.objs.size],_,_,H1,rfl,I1.kept (t':=s1.toks) k,Ux (it1:=fun i h=>h.IsTupleIter _ a i) _ _ a (Nat.succ_ne_self _) (fun i h st=>?_) (fun i h h' st k=>st.at k) (fun X hP hw hK hc pQ s σ H i xs I he h1 sq=>?_),⟨⟨_,he⟩,h1⟩,fo,q⟩
   ·obtain⟨o,g,_,f⟩:=st
    exact⟨o,g,fun v q=>by rw[f]at q;cases q⟩
   ·rw[<-hP,<-hw]
    rw[<-hK]at sq ⊢;obtain⟨its,r,p,_⟩:=I.tuple sq;have p:s.heap.IsTuple a its.toArray:=p;obtain⟨⟨_,he⟩,⟨o2,g2,c2,_⟩⟩:=And.intro he h1;obtain⟨o,g,c,_⟩:=id p;exact⟨fun ys hy=>I.tuple_inj hy sq,its,fun h=>h.IsTuple a its.toArray,r,QQ he g c (by decide),p,Zbf (show X.A.in1.handled=none from I.ok.hd hc) _ a (QR g c g2 c2 (by decide)) its.toArray⟩
theorem Ue:∀ {xs:Li D}{k i:Nat}{x:D},xs[i]?=some x->(Xu k xs)[i]?=some (.int ((k+i:Nat):Int),x)
 |[],_,_,_,h=>nomatch h
 |x :: xs,k,0,_,h=>by cases h;rfl
 |x :: xs,k,i+1,y,h=>by
  show(Xu (k+1) xs)[i]?=_;rw[Ue (show xs[i]?=some y from h),show k+1+i=k+(i+1) by omega]
theorem WA:∀ {xs:Li D}{k:Nat},(Xu k xs).length=xs.length
 |[],_=>rfl
 |x :: xs,k=>congrArg (·+1) WA
theorem Zcq{K:Fg}{fi:Ev}{f:Ex}{i j:Nat}(E:Ends)(σ:L2.St)(H:Hp)(h:tS K (WP i j fi f) E σ H):tFor (Zaj K (tCons (tE K fi) tNil)) (gTup K 2 (gCons (gName i) (gCons (gName j) gNil))) (tS K f) E σ H:=by
 obtain⟨ad,ρ,st,r,st',En,S,e,p⟩:=Yc h;unfold WP at e;split at e
 ·rename_i x st1 q1
  split at e
  ·rename_i xs ok hw
   have core:∀ {sq:Hp->Li V->Prop}{ad1:Li Ad}{H1:Hp} (Good:Li Ad->Hp->Prop),(∀ ad H ad' H',Ext ad H ad' H'->Good ad H->Good ad' H')->Good ad1 H1->
     (∀ ad H st,Good ad H->StOk K ad H st->ok st->∃ vs,Dens K ad H vs xs/\sq H vs)->Ext ad H ad1 H1->StOk K ad1 H1 st1->Zik K f i j (Ite sq) E σ H1:=fun Good gm g1 hv x1 S1=>
    ⟨_,⟨_,.mk (Nat.zero_add _) (En.mono x1) S1 g1 e (p.later x1)⟩,Jz gm (fun ad H st g S o=>by
      obtain⟨vs,rv,sv⟩:=hv ad H st g S o;exact⟨vs,sv,by rw[rv.length,WA]⟩) fun k ad H st q g S o hq=>by
      obtain⟨vs,rv,sv⟩:=hv ad H st g S o;have hk:k < xs.length:=by rw[<-WA (k:=0)];exact(List.getElem?_eq_some_iff.mp hq).1
      have hg:=Lg hk;rw[Ue (k:=0) hg,Nat.zero_add]at hq;cases hq;obtain⟨w,ew,dw⟩:=rv.get hg;exact⟨_,w,⟨vs,w,sv,ew⟩,.int _,dw,fun x H' ⟨pt,y1,e1,e2,e3,hy⟩=>⟨pt,e1,e2,by have z:=hy vs sv;rw[ew]at z;cases z;exact e3⟩⟩⟩
   refine⟨ad,ρ,st,x,st1,En,S,q1,fun v ad1 H1 x1 S1 d1=>?_⟩
   cases x with
   |tup ys=>
    cases hw;obtain⟨a,vs,rfl,ha,rv⟩:=d1.ofTup;exact⟨a,rfl,.inr ⟨⟨vs,ha.sq⟩,core (fun ad H=>TupAt K H a vs/\Dens K ad H vs xs) (fun _ _ _ _ x g=>⟨g.1.mono x,g.2.mono x⟩) ⟨ha,rv⟩ (fun ad H st g _ _=>⟨vs,g.2,g.1.sq⟩) x1 S1⟩⟩
   |lst l=>
    have hw:(match st1[l]? with
     |some c=>some (c.2,fun s=>s[l]?=some c)
     |none=>none)=some (xs,ok):=hw
    cases hc:st1[l]? with
    |none=>rw[hc]at hw;cases hw
    |some c=>
     rw[hc]at hw;cases hw;obtain⟨a,rfl,ha⟩:=d1.ofLst;obtain⟨vs,rv,sq⟩:=S1.list ha (show st1[l]?=some (c.1,c.2) from hc);exact⟨a,rfl,.inl ⟨⟨vs,sq⟩,core (fun ad H=>LA ad H l a) (fun _ _ _ _ x g=>g.mono x) ha (fun ad H st g S e=>S.list g (show st[l]?=some (c.1,c.2) from e)) x1 S1⟩⟩
   |_=>exact Zb hw
  ·exact Zb e
 ·exact Zb e
theorem Vs{X:Cx}{sc:Scope}{N:Li Str}{it a:Expr}{elts:Li Expr}{kk:Nat}{tp:Pos}{x:CE}(K:Cxt X G F sc N)(h:W5 G sc it=some a)(hp:Zn a=true)(A:PE X a (tE X.K (ev F x))):Zn it=true/\PI X (.Tuple elts kk tp) it (Zaj X.K (tCons (tE X.K (ev F x)) tNil)):=by
 obtain⟨as,h1,h2⟩:=Option.bind_eq_some_iff.mp h;rw[Zax h2]at h1;obtain⟨_,_,rfl,hg,hm⟩:=Zcg K h1;exact⟨rfl,Zfa hg hm (pa1 hp A) (Zj hp)⟩
theorem ZfI{n i j:Nat}(ihA:YU G F n)(ihS:Yf G F n){X:Cx}{sc:Scope}{N:Li Str}(K:CxtS X G F sc N){c:CS}{x y:Str}{it:Expr}{as:Li Expr}{b:Li Stmt}{p p2 pos tp:Pos}{ctx:Nat}(hi:N.idxOf? x=some i)(hj:N.idxOf? y=some j)(hz:Ve G sc it=some as)(h:o2 (CS.forP i j) (cEs G n sc N as) (cSs G n sc N b)=some c):PS X (.For (.Tuple [.Name x p,.Name y p2] ctx tp) it b [] pos) (tS X.K (ex F c)):=by cases hz
theorem ZfH{n i j:Nat}(ihE:Zw G F n)(ihS:Yf G F n){X:Cx}{sc:Scope}{N:Li Str}(K:CxtS X G F sc N){c:CS}{x y:Str}{it e:Expr}{b:Li Stmt}{p p2 pos tp:Pos}{ctx:Nat}(hi:N.idxOf? x=some i)(hj:N.idxOf? y=some j)(hz:W6 G sc it=some e)(h:o2 (CS.forE i j) (cE G n sc N e) (cSs G n sc N b)=some c):PS X (.For (.Tuple [.Name x p,.Name y p2] ctx tp) it b [] pos) (tS X.K (ex F c)):=by
 refine Yl (P:=fun c=>PS X _ (tS X.K (ex F c))) h fun ci cb hc hb=>?_
 obtain⟨pl,A⟩:=Vs (elts:=[.Name x p,.Name y p2]) (kk:=ctx) (tp:=tp) K.toCxt hz (Zh hc) (ihE X sc N K.toCxt _ ci hc).pe;exact ZP (ps_for (VL K) K.calm A (pg_tup K.calm (pgs_cons (Y6 K hi) (pgs_cons (Y6 K hj) pgs_nil))) (ihS X sc N K _ cb hb) (Yk pl)) Zcq
theorem ZfF{n:Nat}(ihE:Zw G F n)(ihS:Yf G F n){X:Cx}{sc:Scope}{N:Li Str}(K:CxtS X G F sc N){c:CS}{x y z:Str}{it:Expr}{b:Li Stmt}{p p2 p3 pos tp:Pos}{ctx:Nat}(h:o3 (fun(p:Nat×Nat) (q:Nat×CE) b=>CS.for4 p.1 p.2 q.1 q.2 b) (o2 Prod.mk (N.idxOf? x) (N.idxOf? y)) (o2 Prod.mk (N.idxOf? z) (cE G n sc N it)) (cSs G n sc N b)=some c):PS X (.For (.Tuple [.Name x p,.Name y p2,.Name z p3] ctx tp) it b [] pos) (tS X.K (ex F c)):=
 WE (P:=fun c=>PS X _ (tS X.K (ex F c))) h fun u v cb hu hv hb=>Yl (P:=fun u:Nat×Nat=>PS X _ (tS X.K (ex F (.for4 u.1 u.2 v.1 v.2 cb)))) hu fun i j hi hj=>Yl (P:=fun v:Nat×CE=>PS X _ (tS X.K (ex F (.for4 i j v.1 v.2 cb)))) hv fun l ci hl hc=>
  ZP (ps_for (VL K) K.calm (pi_tup (ihE X sc N K.toCxt _ ci hc).pe) (pg_tup K.calm (pgs_cons (Y6 K hi) (pgs_cons (Y6 K hj) (pgs_cons (Y6 K hl) pgs_nil)))) (ihS X sc N K _ cb hb) (Yk (Zh hc))) Zcp
theorem ZfD{n i j:Nat}(ihE:Zw G F n)(ihS:Yf G F n){X:Cx}{sc:Scope}{N:Li Str}(K:CxtS X G F sc N){c:CS}{x y:Str}{it:Expr}{b:Li Stmt}{p p2 pos tp:Pos}{ctx:Nat}(hi:N.idxOf? x=some i)(hj:N.idxOf? y=some j)(h:o2 (CS.for2 i j) (cE G n sc N it) (cSs G n sc N b)=some c):PS X (.For (.Tuple [.Name x p,.Name y p2] ctx tp) it b [] pos) (tS X.K (ex F c)):=by
 refine Yl (P:=fun c=>PS X _ (tS X.K (ex F c))) h fun ci cb hc hb=>?_
 exact fun pQ s σ H D I q=>by
  obtain⟨_,_,_,_,_,_,_,e,_⟩:=Yc q;cases e
theorem ZhR{n:Nat}(ihE:Zw G F n){X:Cx}{sc:Scope}{N:Li Str}(K:CxtS X G F sc N){c:CS}{x m:Str}{e:Expr}{p ap cp pos:Pos}(h:Zis sc N x m ap cp (cE G n sc N e)=some c):PS X (.Expr (.Call (.Attribute (.Name x p) m ap) [e] [] cp) pos) (tS X.K (ex F c)):=by
 refine XC h fun hc h=>?_
 by_cases e1:m = "append"
 ·subst e1
  rw[if_pos rfl]at h;exact Yl (P:=fun c=>PS X _ (tS X.K (ex F c))) h fun i y hi hx=>ZP (ps_expr (pe_bm PySem.F.plainAttrs_list PySem.F.slot_list_append PySem.F.type_list_append mt_append (ZaD K.toCxt hc.1 hi) (pa1 (Zh hx) (ihE X sc N K.toCxt _ y hx).pe) rfl (by rw[Zj (Zh hx)];rfl) hc.2 (Zj (Zh hx)) rfl) rfl) Zes
 ·rw[if_neg e1]at h
  by_cases e2:m = "extend"
  ·subst e2
   rw[if_pos rfl]at h;exact Yl (P:=fun c=>PS X _ (tS X.K (ex F c))) h fun i y hi hx=>ZP (ps_expr (pe_bm PySem.F.plainAttrs_list PySem.F.slot_list_extend PySem.F.type_list_extend mt_extend (ZaD K.toCxt hc.1 hi) (pa1 (Zh hx) (ihE X sc N K.toCxt _ y hx).pe) rfl (by rw[Zj (Zh hx)];rfl) hc.2 (Zj (Zh hx)) rfl) rfl) Zeu
  ·rw[if_neg e2]at h;cases h
theorem ZfB{n:Nat}(ihE:Zw G F n)(hA:Vf G F n){X:Cx}{sc:Scope}{N:Li Str}(K:CxtS X G F sc N){c:CS}{tg e:Expr}{pos:Pos}(h:Zit N tg e (cE G n sc N e)=some c):PS X (.Assign [tg] e pos) (tS X.K (ex F c)):=by
 have no:∀ {P:Prop},(none:Ot CS)=some c->P:=fun z=>nomatch z
 cases tg with
 |Name x p=>exact ZhS ihE hA K h
 |Tuple es ctx tp=>cases es with
  |nil=>exact no h
  |cons a es=>cases a with
   |Name _ _=>cases es with
    |nil=>exact no h
    |cons b es=>cases b with
     |Name _ _=>cases es with
      |nil=>exact ZfJ ihE K h
      |cons c2 es=>cases c2 with
       |Name _ _=>cases es with
        |nil=>exact ZfK ihE K h
        |cons _ _=>exact no h
       |_=>exact no h
     |_=>exact no h
   |_=>exact no h
 |_=>exact no h
theorem ZfG{n:Nat}(ihE:Zw G F n)(ihA:YU G F n)(ihS:Yf G F n){X:Cx}{sc:Scope}{N:Li Str}(K:CxtS X G F sc N){c:CS}{tg it:Expr}{b:Li Stmt}{pos:Pos}(h:ZgQ G sc N (cE G n sc N) (cEs G n sc N) tg it (cSs G n sc N b)=some c):PS X (.For tg it b [] pos) (tS X.K (ex F c)):=by
 have no:∀ {P:Prop},(none:Ot CS)=some c->P:=fun z=>nomatch z
 cases tg with
 |Name x p=>
  unfold ZgQ at h;cases hr:WJ G sc it with
  |some as=>
   rw[hr]at h;exact ZfE ihA ihS K hr h
  |none=>
   rw[hr]at h;exact ZfC ihE ihS K h
 |Tuple es ctx tp=>cases es with
  |nil=>exact no h
  |cons a es=>cases a with
   |Name x p=>cases es with
    |nil=>exact no h
    |cons b2 es=>cases b2 with
     |Name y p2=>cases es with
      |nil=>
       replace h:((o2 (fun i j=>og (i≠j) (some (i,j))) (N.idxOf? x) (N.idxOf? y)).join.bind fun p=>(match Ve G sc it with
        |some as=>o2 (CS.forP p.1 p.2) (cEs G n sc N as) (cSs G n sc N b)
        |none=>match W6 G sc it with
         |some e=>o2 (CS.forE p.1 p.2) (cE G n sc N e) (cSs G n sc N b)
         |none=>o2 (CS.for2 p.1 p.2) (cE G n sc N it) (cSs G n sc N b)))=some c:=h
       refine b_e h fun q hq h=>j_e hq fun hq=>Yl (P:=fun o=>o=some q->PS X _ (tS X.K (ex F c))) hq (fun i j hi hj e=>XC e fun _ e=>?_) rfl
       cases e;cases hz:Ve G sc it with
       |some as=>
        rw[hz]at h;exact ZfI ihA ihS K hi hj hz h
       |none=>
        rw[hz]at h;dsimp only at h;cases he:W6 G sc it with
        |some e=>
         rw[he]at h;exact ZfH ihE ihS K hi hj he h
        |none=>
         rw[he]at h;exact ZfD ihE ihS K hi hj h
      |cons c2 es=>cases c2 with
       |Name _ _=>cases es with
        |nil=>exact ZfF ihE ihS K h
        |cons _ _=>exact no h
       |_=>exact no h
     |_=>exact no h
   |_=>exact no h
 |_=>exact no h
theorem ZfA{n:Nat}(ihE:Zw G F n){X:Cx}{sc:Scope}{N:Li Str}(K:CxtS X G F sc N){c:CS}{m:Str}{o k e:Expr}{p ap cp pos:Pos}(h:og (m = "append"/\(ap.endLine==cp.line)=true) (o2 CS.app2 (cE G n sc N (.Subscript o k p)) (cE G n sc N e))=some c):PS X (.Expr (.Call (.Attribute (.Subscript o k p) m ap) [e] [] cp) pos) (tS X.K (ex F c)):=by
 refine XC h fun hc h'=>?_
 obtain⟨e1,hl⟩:=hc;subst e1;exact Yl (P:=fun c=>PS X _ (tS X.K (ex F c))) h' fun z y hz hx=>ZP (ps_expr (pe_bm PySem.F.plainAttrs_list PySem.F.slot_list_append PySem.F.type_list_append mt_append (ihE X sc N K.toCxt _ z hz).pe (pa1 (Zh hx) (ihE X sc N K.toCxt _ y hx).pe) rfl (by rw[Zj (Zh hx)];rfl) hl (Zj (Zh hx)) rfl) rfl) Zcl
theorem ZhV{n:Nat}(ihE:Zw G F n){X:Cx}{sc:Scope}{N:Li Str}(K:CxtS X G F sc N){c:CS}{x m m2:Str}{k e:Expr}{p ap2 cp2 ap cp lp pos:Pos}(h:og (Xz sc x=true/\m2 = "setdefault"/\(ap2.endLine==cp2.line)=true/\m = "append"/\(ap.endLine==cp.line)=true) (o3 (fun i k e=>CS.dput i k e .aN) (N.idxOf? x) (cE G n sc N k) (cE G n sc N e))=some c):PS X (.Expr (.Call (.Attribute (.Call (.Attribute (.Name x p) m2 ap2) [k,.List [] lp] [] cp2) m ap) [e] [] cp) pos) (tS X.K (ex F c)):=by
 refine XC h fun hc h'=>?_
 obtain⟨hx,e1,l1,e2,l2⟩:=hc;subst e1;subst e2
 have hu:=K.toCxt.hu;exact WE (P:=fun c=>PS X _ (tS X.K (ex F c))) h' fun i y z hi hy hz=>ZP (ps_expr (pe_bm PySem.F.plainAttrs_list PySem.F.slot_list_append PySem.F.type_list_append mt_append (pe_bm PySem.F.plainAttrs_dict PySem.F.slot_dict_setdefault PySem.F.type_dict_setdefault (ZiS (by omega)) (ZaD K.toCxt hx hi) (pa2 (Zh hy) rfl (ihE X sc N K.toCxt _ y hy).pe (pe_lst pa_nil)) rfl (by rw[Zj (Zh hy)];rfl) l1 (Zj (Zh hy)) rfl) (pa1 (Zh hz) (ihE X sc N K.toCxt _ z hz).pe) rfl (by rw[Zj (Zh hz)];rfl) l2 (Zj (Zh hz)) rfl) rfl) ZeE
theorem Zfz{n:Nat}(ihE:Zw G F n){X:Cx}{sc:Scope}{N:Li Str}(K:CxtS X G F sc N){c:CS}{v:Expr}{pos:Pos}(h:Zir sc N (cE G n sc N) v=some c):PS X (.Expr v pos) (tS X.K (ex F c)):=by
 have no:∀ {P:Prop},(none:Ot CS)=some c->P:=fun z=>nomatch z
 cases v with
 |Call f as kw cp=>cases f with
  |Attribute o m ap=>cases o with
   |Name x p=>cases as with
    |nil=>exact no h
    |cons e es=>cases es with
     |nil=>cases kw with
      |nil=>exact ZhR ihE K h
      |cons _ _=>exact no h
     |cons _ _=>exact no h
   |Subscript o k p=>cases as with
    |nil=>exact no h
    |cons e es=>cases es with
     |nil=>cases kw with
      |nil=>exact ZfA ihE K h
      |cons _ _=>exact no h
     |cons _ _=>exact no h
   |Call f2 as2 kw2 cp2=>cases f2 with
    |Attribute o2 m2 ap2=>cases o2 with
     |Name x p=>cases as2 with
      |nil=>exact no h
      |cons k as2=>cases as2 with
       |nil=>exact no h
       |cons l as2=>cases l with
        |List ls lp=>cases ls with
         |cons _ _=>exact no h
         |nil=>cases as2 with
          |cons _ _=>exact no h
          |nil=>cases kw2 with
           |cons _ _=>exact no h
           |nil=>cases as with
            |nil=>exact no h
            |cons e es=>cases es with
             |cons _ _=>exact no h
             |nil=>cases kw with
              |cons _ _=>exact no h
              |nil=>exact ZhV ihE K h
        |_=>exact no h
     |_=>exact no h
    |_=>exact no h
   |_=>exact no h
  |Name f fp=>exact ZhQ ihE K h
  |_=>exact no h
 |_=>exact no h
theorem Q2{n:Nat}(ihE:Zw G F n)(ihA:YU G F n)(ihS:Yf G F n)(hA:Vf G F n):Jc G F (n+1):=by
 intro X sc N K s c h;have no:∀ {P:Prop},(none:Ot CS)=some c->P:=fun z=>nomatch z
 cases s with
 |Assign tgs e pos=>cases tgs with
  |nil=>exact no h
  |cons t ts=>cases ts with
   |cons _ _=>cases t with
    |Subscript o k p=>cases o<;>exact no h
    |_=>exact no h
   |nil=>cases t with
    |Subscript o k p=>cases o with
     |Name x q=>exact ZhT ihE K h
     |_=>exact no h
    |_=>exact ZfB ihE hA K h
 |Return e pos=>cases e with
  |none=>exact no h
  |some e=>exact ZhU ihE K h
 |If e a b pos=>exact Zjl ihE ihS K h
 |For t it b oe pos=>cases oe with
  |cons _ _=>exact no h
  |nil=>exact ZfG ihE ihA ihS K h
 |Expr v pos=>exact Zfz ihE K h
 |Pass pos=>
  cases (show some CS.skip=some c from h)
  exact ZP ps_pass QC
 |Break pos=>
  cases (show some CS.brk=some c from h)
  exact ZP ps_break Zet
 |Raise a b pos=>
  cases (show some CS.stop=some c from h)
  exact fun pQ s σ H D I q=>by
   obtain⟨_,_,_,_,_,_,_,e,_⟩:=Yc q;cases e
 |Continue pos=>
  cases (show some CS.cont=some c from h)
  exact ZP ps_continue Zcm
 |_=>exact no h
theorem Qd{n:Nat}(ihS:Jc G F n)(ihSs:Yf G F n):Yf G F (n+1):=by
 intro X sc N K s c h;cases s with
 |nil=>
  simp only[cSs]at h;cases h;exact ZaE pss_nil QC
 |cons s r=>
  exact Yl (P:=fun c=>PSs X _ (tS X.K (ex F c))) (show o2 CS.seq (cS G n sc N s) (cSs G n sc N r)=some c from h) fun a b ha hb=>ZaE (pss_cons (ihS X sc N K s a ha) (ihSs X sc N K r b hb)) ZeF
end
end Dp



namespace Dp
open PySem PySem.Spec PyProof.Rows L2
variable [ClsTab]
def Xo(G:Gs)(F:Nat->Fn):Prop:=∀ n,Zw G F n->(∀ X sc N,Cxt X G F sc N->∀ elt gens sc2 pos c,cE G (n+1) sc N (.ListComp elt gens sc2 pos)=some c->SE X F (.ListComp elt gens sc2 pos) c)/\Vf G F (n+1)
theorem Uv{G:Gs}{F:Nat->Fn}(hc:Xo G F):∀ n,(Zw G F n/\YU G F n/\UD G F n)/\Jc G F n/\Yf G F n/\Vf G F n
 |0=>⟨⟨fun X sc N K e c h=>(nomatch (show(none:Ot CE)=some c from h)),fun X sc N K e c h=>(nomatch (show(none:Ot CE)=some c from h)),fun X sc N K e c h=>(nomatch (show(none:Ot CE)=some c from h))⟩,fun X sc N K e c h=>(nomatch (show(none:Ot CS)=some c from h)),fun X sc N K e c h=>(nomatch (show(none:Ot CS)=some c from h)),fun X sc N K x i p elt gens sc2 epos pos c _ h=>(nomatch (show(none:Ot CE)=some c from h))⟩
 |n+1=>by
  obtain⟨⟨hE,hA,hO⟩,hS,hSs,hCA⟩:=Uv hc n;exact⟨⟨JU hE hA hO (hc n hE).1,Q0 hE hA,Q1 hE⟩,Q2 hE hA hSs hCA,Qd hS hSs,(hc n hE).2⟩
def ZaQ(K:Fg)(G:Gs)(T:Nat->Ot FD)(x y:Str)(i:Nat)(f:Ad)(fd:FuncData)(pn N:Li Str):Prop:=∃ (st:Stmt) (oc:vL) (od:Ot Ad) (dV kV doc pm:vL) (an:Ot Ad) (cdv ct:vL) (osl:Array (Ot vL)) (code:CS),
  fd=PySem.W.fnOf x y (defArgs st) (defBody st) (defScope st) dV kV doc pm an cdv ct/\K.lookup f=some ⟨oc,od,.func fd,osl⟩/\PySem.W.codeIn K cdv y=true/\FnScope N pn (defScope st)/\(∀ y∈N,Loc (defScope st) y) /\
  cSs G 60 (defScope st) N (defBody st)=some code/\T i=some ⟨pn.length,N.length,code⟩
def ZdU(K:Fg)(mg:Str->Ot vL)(G:Gs)(T:Nat->Ot FD)(i:Nat)(f:Ad)(fd:FuncData)(pn:Li Str):Prop:=∀ (P:Program) (w:World) (base:Heap) (n:Nat),(∀ m,m<=n->∀ A,Room m A->∀ y g,G.lookup y=some g->GOk P w K mg base A (run T m) y g)->FnOk P w K mg base CX0 (n+1) f fd pn (spD K (run T (n+1) i))
structure DefOk(K:Fg)(mg:Str->Option Value)(G:Gs)(T:Nat->Option FD)(x:Str)(i:Nat)(ds:List D)(f:Addr)(fd:FuncData)(pn N:List Str):Prop where
 ob:ZaQ K G T x x i f fd pn N\/ZdU K mg G T i f fd pn
 kp:PySem.W.keepIn K (.ref f)=true
 at_:mg x=some (.ref f)
 bn:∀ m,m<=ds.length->∃ dvs us,(∀ ad H,Dens K ad H dvs (ds.drop m))/\Vals dvs us/\Binds K fd pn us
structure MethOk(K:Fg)(G:Gs)(T:Nat->Option FD)(C:Addr)(x y:Str)(i:Nat)(f:Addr)(fd:FuncData)(pn N:List Str):Prop where
 ob:ZaQ K G T x y i f fd pn N
 mt:Meth K C x f
 bn:Binds K fd pn []
structure Text(Pm:Params)(K:Fg)(mg:Str->Option Value)(G:Gs)(T:Nat->Option FD):Prop where
 cst:∀ x d,G.lookup x=some (.cst d)->∃ v u,mg x=some u/\RelV v u/\∀ ad H,Den K ad H v d
 blt:∀ x,G.lookup x=some .blt->mg x=none
 dct:∀ x ks ds,G.lookup x=some (.dct ks ds)->J3 Pm K mg x ks ds
 fn:∀ x i ps ds,G.lookup x=some (.fn i ps ds)->∃ f fd pn N,DefOk K mg G T x i ds f fd pn N
 cls:∀ x i ms subs,G.lookup x=some (.cls i ms subs)->(mg x=some (.ref (ClsTab.ca i))/\NewOk K (ClsTab.ca i)/\∀ i',subs.contains i'=true->SubOk K (ClsTab.ca i') (ClsTab.ca i)) /\
  ∀ m j ps,ms.lookup m=some (j,ps)->∃ y f fd pn N,MethOk K G T (ClsTab.ca i) m y j f fd pn N
section
variable {P:Program}{w:World}{K:Fg}{mg:Str->Ot vL}{base:Heap}{G:Gs}{T:Nat->Ot FD}
theorem ZdQ{sc:Scope}{x:Str}(h:Xz sc x=true):Vis sc x:=by
 unfold Xz at h;rw[Ba]at h;have h:=h.2;split at h
 ·rename_i q;exact .inl q
 ·rename_i q;exact .inr (.inl q)
 ·rename_i q;exact .inr (.inr q)
 ·cases h
theorem Zai{sc:Scope}{x:Str}(h:ZL sc x=true):sc.names.lookup x=some .globalImplicit:=by
 unfold ZL at h;rw[Ba]at h;have h:=h.2;split at h
 ·rename_i q;exact q
 ·cases h
theorem J9{sc:Scope}{x:Str}(h:Vx sc x=true):sc.names.lookup x=some .cell\/sc.names.lookup x=some .free:=by
 unfold Vx at h;split at h
 ·rename_i q;exact .inl q
 ·rename_i q;exact .inr q
 ·cases h
theorem Zbi{K:Fg}{ad:Li Ad}{H:Hp}{N:Li Str}{vs:Li V}{ds:Li D}(h:Dens K ad H vs ds)(hl:ds.length<=N.length):EnvOk K ad H (L2.start N vs) (ds.map some++List.replicate (N.length - ds.length) none):=by
 have e:=h.length;refine⟨by unfold L2.start;simp[e],fun i d q=>?_⟩
 by_cases hi:i < ds.length
 ·rw[List.getElem?_append_left (by simpa using hi),List.getElem?_map,Lg hi]at q
  have q':ds[i]=d:=by simpa using q
  have g:ds[i]?=some d:=by rw[Lg hi,q']
  obtain⟨v,e1,e2⟩:=h.get g;refine⟨v,?_,e2⟩;unfold L2.start;rw[List.getElem?_append_left (by simpa[e] using hi),List.getElem?_map,e1]
  rfl
 ·rw[List.getElem?_append_right (by simpa using hi),List.getElem?_replicate]at q
  split at q<;>cases q
theorem Zhe{n:Nat}(hc:∀ n,Xo G (run T n))(gl:∀ A,Room n A->∀ y g,G.lookup y=some g->GOk P w K mg base A (run T n) y g){x y:Str}{i:Nat}{f:Ad}{fd:FuncData}{pn N:Li Str}(ob:ZaQ K G T x y i f fd pn N):FnOk P w K mg base CX0 (n+1) f fd pn (spD K (run T (n+1) i)):=by
 obtain⟨st,oc,od,dV,kV,doc,pm,an,cdv,ct,osl,code,rfl,lk,hcd,S,hloc,hcode,hT⟩:=ob;have hrun:run T (n+1) i=fnD (run T n) ⟨pn.length,N.length,code⟩:=by
  show(match T i with|some f=>fnD (run T n) f|none=>fun _ _=>none)=_
  rw[hT]
 refine fn_of lk hcd S (fun vs H Q E h=>?_) (fun A outer s H vs Q E hr h=>?_)
 ·obtain⟨ad,es,st,d,st',_,hd,e,_⟩:=h
  rw[hrun]at e;unfold fnD at e;split at e
  ·rename_i hl
   rw[hd.length];exact hl
  ·exact Zb e
 ·obtain⟨ad,es,s0,d,st',S0,hd,e,p⟩:=h
  rw[hrun]at e;unfold fnD at e;split at e
  ·rename_i hl
   have C:CxtS (cxOf CX0 P w K mg base N y (defScope st) f cdv A outer s H E).nox G (run T n) (defScope st) N:={
    hN:=rfl
    vis:=fun y hy=>ZdQ hy
    glb:=fun y hy=>Zai hy
    calm:=rfl
    hu:=hr.units
    gl:=gl _ hr
    cel:=fun y hy=>J9 hy
    nx:=rfl
    nd:=S.nd
    loc:=hloc
    fn:=fun _=>rfl }
   have B:=(Uv (hc n) 60).2.2.1 _ _ _ C _ _ hcode;have hpl:pn.length<=N.length:=by have:=congrArg List.length S.pre;rw[List.length_take]at this;omega
   have E0':=Zbi (N:=N) hd (by rw[show es.length=pn.length from hl];exact hpl)
   refine⟨_,B.nox,?_⟩;split at e
   ·rename_i d' st1 q
    cases e;exact Yt E0' S0 q p
   ·rename_i ρ st1 q
    cases e;exact Yt E0' S0 q fun σ1 ad1 H1 x1 S1 E1=>(p.later x1).at S1 .non
   ·exact Zb e
  ·exact Zb e
theorem ZfO{i:Nat}{f:Ad}{fd:FuncData}{pn:Li Str}:FnOk P w K mg base CX0 0 f fd pn (spD K (run T 0 i)):=by
 refine⟨fun vs H Q E h=>?_,fun A outer s H args us vs Q E _ _ _ _ h=>?_⟩
 ·obtain⟨_,_,_,_,_,_,_,e,_⟩:=h;cases e
 ·obtain⟨_,_,_,_,_,_,_,e,_⟩:=h;cases e
theorem Zf2{n:Nat}(X:Text w.params K mg G T)(F1:∀ {x y:Str}{i:Nat}{f:Ad}{fd:FuncData}{pn N:Li Str},ZaQ K G T x y i f fd pn N\/ZdU K mg G T i f fd pn->FnOk P w K mg base CX0 n f fd pn (spD K (run T n i)))(A:Around)(hr:Room n A):∀ y g,G.lookup y=some g->GOk P w K mg base A (run T n) y g:=fun y g hg=>by
 cases g with
 |cst d=>exact X.cst y d hg
 |blt=>exact X.blt y hg
 |dct ks ds=>exact X.dct y ks ds hg
 |fn j qs es=>
  obtain⟨f,fd,pn,N,Dk⟩:=X.fn y j qs es hg;exact⟨n,f,fd,pn,F1 Dk.ob,hr,Dk.at_,Dk.kp,Dk.bn⟩
 |cls i ms subs=>
  obtain⟨⟨h1,h2,h3⟩,h4⟩:=X.cls y i ms subs hg;refine⟨h1,h2,h3,fun m j ps hm=>?_⟩
  obtain⟨z,f,fd,pn,N,Mk⟩:=h4 m j ps hm;exact⟨n,f,fd,pn,F1 (.inl Mk.ob),hr,Mk.mt,Mk.bn⟩
theorem Je(hc:∀ n,Xo G (run T n))(X:Text w.params K mg G T):∀ (n m:Nat),m<=n->∀ {x y:Str}{i:Nat}{f:Ad}{fd:FuncData}{pn N:Li Str},ZaQ K G T x y i f fd pn N\/ZdU K mg G T i f fd pn->FnOk P w K mg base CX0 m f fd pn (spD K (run T m i))
 |n,0,_,_,_,_,_,_,_,_,_=>ZfO
 |n+1,m+1,h,_,_,_,_,_,_,_,.inl ob=>Zhe hc (fun A hr=>Zf2 X (fun ob=>Je hc X n m (Nat.le_of_succ_le_succ h) ob) A hr) ob
 |n+1,m+1,h,_,_,_,_,_,_,_,.inr hd=>hd P w base m fun l hl A hr=>Zf2 X (fun ob=>Je hc X n l (Nat.le_trans hl (Nat.le_of_succ_le_succ h)) ob) A hr
theorem Zgx(hc:∀ n,Xo G (run T n))(X:Text w.params K mg G T)(n:Nat){x y:Str}{i:Nat}{f:Ad}{fd:FuncData}{pn N:Li Str}(h:ZaQ K G T x y i f fd pn N\/ZdU K mg G T i f fd pn):FnOk P w K mg base CX0 n f fd pn (spD K (run T n i)):=Je hc X n n (Nat.le_refl _) h
end
end Dp



namespace Dp
open PySem PySem.Spec PyProof.Rows L2
variable [ClsTab]
section
variable {ad:Li Ad}{H:Hp}{p:Ad}{xs ys:Li V}
theorem VG(hp:H p=some (.lst xs)){a:Ad}:Yu H a↔Yu (upd H p (.lst ys)) a:=VX (W0 hp fun _ z=>nomatch z) fun _ z=>nomatch z
theorem Jx{K:Fg}(hp:H p=some (.lst xs)):Keeps K ad ad H (upd H p (.lst ys)):=⟨fun h=>h.upd hp (by intro xs z;cases z),fun h=>⟨h,VG hp⟩,fun _ h=>by rw[upd_ne (ne_of h hp (by intro z;cases z))];exact h,fun h n=>⟨by rw[upd_ne (ne_of h hp (by intro z;cases z))];exact h,n⟩⟩
theorem Den.wr{K:Fg}(hp:H p=some (.lst xs)){v:V}{d:D}(h:Den K ad H v d):Den K ad (upd H p (.lst ys)) v d:=h.map (Jx hp)
theorem Dens.wr{K:Fg}(hp:H p=some (.lst xs)){vs:Li V}{ds:Li D}(h:Dens K ad H vs ds):Dens K ad (upd H p (.lst ys)) vs ds:=h.map (Jx hp)
theorem EnvOk.wr{K:Fg}{σ:L2.St}{ρ:Env}(hp:H p=some (.lst xs))(h:EnvOk K ad H σ ρ):EnvOk K ad (upd H p (.lst ys)) σ ρ:=⟨h.len,fun i d e=>let ⟨v,e1,e2⟩:=h.at_ i d e;⟨v,e1,e2.wr hp⟩⟩
theorem StOk.wr{K:Fg}{st:Za}(S:StOk K ad H st)(hp:H p=some (.lst xs))(hn:p∉ad):StOk K ad (upd H p (.lst ys)) st:=
 S.wrG (Jx hp) hn
theorem Ext.wr{ad0:Li Ad}{H0:Hp}(x:Ext ad0 H0 ad H)(hp:H p=some (.lst xs))(h0:H0 p=none):Ext ad0 H0 ad (upd H p (.lst ys)):=by
 refine⟨x.pre,fun b zs h=>?_,fun b zs h=>?_,fun b o h n=>?_,x.new,fun i a h=>(x.kd i a h).trans (VG hp)⟩
 ·rw[upd_ne (ne_of_none h h0)];exact x.tup b zs h
 ·rw[upd_ne (ne_of_none h h0)];exact x.dk b zs h
 ·rw[upd_ne (ne_of_none h h0)];exact x.keep b o h n
end
theorem VF{c:Str->NameKind->Bool}:∀ {l:Li (Str×NameKind)}{y:Str},(l.map fun(n,k)=>if c n k=true then (n,NameKind.cell) else (n,k)).lookup y=(l.lookup y).map fun k=>if c y k=true then NameKind.cell else k
 |[],_=>rfl
 | (n,k) :: r,y=>by
  have ih:=@VF c r y;rw[List.map_cons];have e:(if c n k=true then (n,NameKind.cell) else (n,k))=(n,if c n k=true then NameKind.cell else k):=by split<;>rfl
  show List.lookup y ((if c n k=true then (n,NameKind.cell) else (n,k)) :: _)=_
  rw[e,List.lookup_cons,List.lookup_cons];cases q:y==n with
  |true=>rw[beq_iff_eq.mp q];rfl
  |false=>exact ih
theorem YL{sc:Scope}{env:PySem.Env}{y:Str}:(relabel sc env).names.lookup y=(sc.names.lookup y).map fun k=>if (k==NameKind.free&&env.scope.kind==.function&&env.kindOf y==some .cell)=true then NameKind.cell else k:=
 VF (c:=fun n k=>k==NameKind.free&&env.scope.kind==.function&&env.kindOf n==some .cell)
theorem YV{sc:Scope}{env:PySem.Env}{y:Str}{k:NameKind}(h:sc.names.lookup y=some k)(hk:k≠.free):(relabel sc env).names.lookup y=some k:=by
 rw[YL,h];have:(k==NameKind.free)=false:=by simpa using hk
 show some (if (k==NameKind.free&&_&&_)=true then NameKind.cell else k)=some k
 rw[this,Bool.false_and,Bool.false_and,if_neg Bf]
theorem Xf{sc:Scope}{env:PySem.Env}{y:Str}(h:sc.names.lookup y=some .free):(relabel sc env).names.lookup y=some .cell\/(relabel sc env).names.lookup y=some .free:=by
 rw[YL,h];show(some (if _ then NameKind.cell else NameKind.free))=_\/(some (if _ then NameKind.cell else NameKind.free))=_
 split
 ·exact .inl rfl
 ·exact .inr rfl
theorem U9{sc:Scope}{env:PySem.Env}{y:Str}(hc:∀ p∈sc.names,p.2≠.cell)(h:(relabel sc env).names.lookup y=some .cell\/(relabel sc env).names.lookup y=some .free):sc.names.lookup y=some .free:=by
 rw[YL]at h;cases q:sc.names.lookup y with
 |none=>rw[q]at h;rcases h with h|h<;>cases h
 |some k=>
  rw[q]at h;cases k with
  |free=>rfl
  |cell=>
   have:∀ {l:Li (Str×NameKind)},l.lookup y=some .cell->∃ p∈l,p.2=.cell:=fun {l} e=>by
    induction l with
    |nil=>exact Zb e
    |cons a l ih=>
     obtain⟨n,k⟩:=a;rw[List.lookup_cons]at e;split at e
     ·cases e;exact⟨_,Ls,rfl⟩
     ·obtain⟨p,hp,e'⟩:=ih e;exact⟨p,Lm _ hp,e'⟩
   obtain⟨p,hp,e⟩:=this q;exact absurd e (hc p hp)
  |_=>rcases h with h|h<;>simp at h
theorem X5{env:PySem.Env}:∀ (l:Li (Str×NameKind)) (acc:Li (Str×Ad)),(∀ p∈l,p.2=.free->∃ c,env.cells.lookup p.1=some c)->
  ∃ cl,(forIn l acc fun(x:Str×NameKind) (r:Li (Str×Ad))=>(do
   if (x.2==NameKind.free)=true then
    let a <-cellOf env x.1
    pure (ForInStep.yield ((x.1,a) :: r))
   else pure (ForInStep.yield r):Sem (ForInStep (Li (Str×Ad)))))=pure cl /\
   (∀ y c,cl.lookup y=some c->acc.lookup y=some c\/((y,NameKind.free)∈l/\env.cells.lookup y=some c))/\(∀ y,(y,NameKind.free)∈l\/(acc.lookup y).isSome->(cl.lookup y).isSome)
 |[],acc,_=>⟨acc,by simp only[List.forIn_nil],fun y c h=>.inl h,fun y h=>by simpa using h⟩
 | (n,k) :: l,acc,h=>by
  by_cases hk:k=.free
  ·subst hk
   obtain⟨c0,hc0⟩:=h (n,.free) Ls rfl;obtain⟨cl,e,h1,h2⟩:=X5 (env:=env) l ((n,c0) :: acc) fun p hp=>h p (Lm _ hp)
   refine⟨cl,?_,fun y c q=>?_,fun y q=>?_⟩
   ·rw[List.forIn_cons]
    simp only[beq_self_eq_true,if_true];have:cellOf env n=pure c0:=by unfold cellOf;rw[hc0]
    simp only[this,pure_bind];exact e
   ·rcases h1 y c q with z|⟨z1,z2⟩
    ·rw[List.lookup_cons]at z
     split at z
     ·rename_i hy
      cases z;rw[beq_iff_eq.mp hy];exact .inr ⟨Ls,hc0⟩
     ·exact .inl z
    ·exact .inr ⟨Lm _ z1,z2⟩
   ·refine h2 y ?_
    rcases q with q|q
    ·rcases List.mem_cons.mp q with z|z
     ·cases z
      exact .inr (by rw[List.lookup_cons];simp)
     ·exact .inl z
    ·refine .inr ?_
     rw[List.lookup_cons];split
     ·rfl
     ·exact q
  ·obtain⟨cl,e,h1,h2⟩:=X5 (env:=env) l acc fun p hp=>h p (Lm _ hp)
   refine⟨cl,?_,fun y c q=>?_,fun y q=>?_⟩
   ·rw[List.forIn_cons]
    have:(k==NameKind.free)=false:=by simpa using hk
    simp only[this,Bool.false_eq_true,if_false,pure_bind];exact e
   ·rcases h1 y c q with z|⟨z1,z2⟩
    ·exact .inl z
    ·exact .inr ⟨Lm _ z1,z2⟩
   ·refine h2 y ?_
    rcases q with q|q
    ·rcases List.mem_cons.mp q with z|z
     ·cases z;exact absurd rfl hk
     ·exact .inl z
    ·exact .inr q
theorem Qq{env:PySem.Env}{sc:Scope}(h:∀ p∈sc.names,p.2=.free->∃ c,env.cells.lookup p.1=some c):∃ cl,closureFor sc env=pure cl/\(∀ y c,cl.lookup y=some c->env.cells.lookup y=some c)/\∀ y,(y,NameKind.free)∈sc.names->(cl.lookup y).isSome:=by
 obtain⟨cl,e,h1,h2⟩:=X5 (env:=env) sc.names [] h;refine⟨cl,?_,fun y c q=>?_,fun y q=>h2 y (.inl q)⟩
 ·unfold closureFor
  rw[show(fun(x:Str×NameKind) (r:Li (Str×Ad))=>_)=_ from rfl]at e
  first|exact(by simp only[e,pure_bind]) | (simp only[bind_pure]at *;exact e)|exact e
 ·rcases h1 y c q with z|⟨_,z⟩
  ·exact Zb z
  ·exact z
end Dp



namespace Dp
open PySem PySem.Spec PyProof.Rows L2
variable [ClsTab]
theorem Qs{prog:Program}{w:World}{A:Around}{R:Result->Sd->Prop}{s:Sd}{elt target iter:Expr}{ifs:Li Expr}{scope:Scope}{pos:Pos}{it acc:vL}{env:PySem.Env}(I:Nat->Sd->Prop)(turn:∀ n s,I n s->wpAny (model prog w) A (pyNext it) (fun r s₁=>match r with
   |none=>R (.ok .next) s₁
   |some v=>wpAny (model prog w) A (letOwnedTupleGo target it v) (fun _ s₁'=>wpAny (model prog w) A (assign target env v) (fun _ s₂=>
     wpAny (model prog w) A (forIn ifs true fun c r=>if r=true then do let ok <-isTrue c env (eval c env);pure (ForInStep.yield ok) else pure (ForInStep.yield r)) (fun ok s₃=>
      if ok=true then wpAny (model prog w) A (eval elt env) (fun x s₄=>
       wpAny (model prog w) A (call (.builtin "list.append") [acc,x]) (fun _ s₅=>∃ m,m < n/\I m s₅) (notedBy (model prog w) A env fun e s'=>R (.error e) s') s₄) (notedBy (model prog w) A env fun e s'=>R (.error e) s') s₃
      else ∃ m,m < n/\I m s₃) (notedBy (model prog w) A env fun e s'=>R (.error e) s') s₂) (notedBy (model prog w) A env fun e s'=>R (.error e) s') s₁') (notedBy (model prog w) A env fun e s'=>R (.error e) s') s₁) (notedBy (model prog w) A env fun e s'=>R (.error e) s') s)(n:Nat)(h:I n s):codeAny (model prog w) A (.compLoop (.ListComp elt [⟨target,iter,ifs,0⟩] scope pos) 0 it acc env) R s:=by
 refine codeAny_loop rfl I (fun n s hI=>?_) n h
 show wpAny _ A ((compTurn (.ListComp elt [⟨target,iter,ifs,0⟩] scope pos) 0 it acc env).onRaise (fun x=>do noteFrame x env;theTreesLotGoes x)) _ _ s
 refine wpAny_noted ?_;rw[compTurn_list];refine wpAny_bind (wpAny_standAt (wpAny_bind (wpAny_mono (turn n s hI) (fun r s₁ h₁=>?_) fun _ _ h'=>h')))
 cases r with
 |none=>exact wpAny_pure h₁
 |some v=>
  refine wpAny_bind (wpAny_mono h₁ (fun _ s₁' h₁=>?_) fun _ _ h'=>h')
  refine wpAny_bind (wpAny_mono h₁ (fun _ s₂ h₂=>wpAny_bind (wpAny_mono h₂ (fun ok s₃ h₃=>?_) fun _ _ h'=>h')) fun _ _ h'=>h')
  cases ok with
  |false=>exact wpAny_pure ⟨rfl,h₃⟩
  |true=>
   exact wpAny_bind (wpAny_bind (wpAny_mono h₃ (fun x s₄ h₄=>wpAny_bind (wpAny_mono h₄ (fun _ s₅ h₅=>wpAny_pure (wpAny_pure ⟨rfl,h₅⟩)) fun _ _ h'=>h')) fun _ _ h'=>h'))
noncomputable def cxC(X:Cx)(N:Li Str)(env:PySem.Env)(s3:Sd)(H3:Hp)(fp:Li Ad)(pQ:Li (Ad×Obj)):Cx:=
 { X with N:=N,s₀:=s3,H₀:=H3,env:=env,outer:=X.stack,ex:=fp,fn:=fun _=>false,pn:=X.pn++pQ,xe:=fun _ _=>False }
section
variable {X:Cx}{pQ:Li (Ad×Obj)}{σ:L2.St}{H H3:Hp}{s3:Sd}{sc2:Scope}{cl:Li (Str×Ad)}{fp:Li Ad}{N:Li Str}
theorem ZcD(I3:L2.Inv X pQ σ H3 s3){m0:Str->Ot vL}{h4:Heap}{tk:Nat}{σ':L2.St}(hk:sc2.kind=.function)(hcell:∀ p∈sc2.names,p.2≠.cell)(hns:h4.Ns s3.heap.objs.size m0)(up:∀ b u,s3.heap.get? b=some u->h4.get? b=some u)(c1:∀ y c,cl.lookup y=some c->X.env.cells.lookup y=some c)(c2:∀ y,sc2.names.lookup y=some .free->(cl.lookup y).isSome)(f3:∀ b∈fp,FpOk X pQ H3 b)(fb:∀ b∈fp,b < s3.heap.objs.size)(hσ:∀ (i:Nat) (y:Str) (v:V),N[i]?=some y->σ'[i]?=some (some v)->∃ j:Nat,X.N[j]?=some y/\σ[j]?=some (some v)/\sc2.names.lookup y=some .free/\(X.env.scope.names.lookup y=some .cell\/X.env.scope.names.lookup y=some .free))(hl:σ'.length=N.length) :
  L2.Inv (cxC X N (compEnvC sc2 cl s3.heap.objs.size X.env) s3 H3 fp pQ) [] σ' H3 { s3 with heap:=h4,toks:=tk } where
 ok:={
  mod:=I3.ok.mod
  kind:=hk
  glob:=I3.ok.glob
  blt:=I3.ok.blt
  above:=Nat.le_refl _
  inj:=fun x y c e e'=>I3.ok.inj x y c (c1 _ _ e) (c1 _ _ e')
  has:=fun x h=>by
   have e:=U9 (env:=X.env) hcell h;have:=c2 x e;cases q:cl.lookup x with
   |none=>rw[q]at this;cases this
   |some c=>exact⟨c,q⟩
  cab:=fun x c h=>nomatch h
  hd:=I3.ok.hd
  frames:=I3.ok.frames
  stk:=.inl rfl
  exf:=fun b hb=>⟨Nat.ne_of_lt (fb b hb),fun x c e=>(f3 b hb).2.2.2.2.1 x c (c1 _ _ e)⟩
  bs:=I3.bs
  bsz:=Nat.le_trans I3.ok.bsz I3.sz
  noex:=fun b o e hb=>by
   rcases (f3 b hb).2.2.2.1 with z|z
   ·exact I3.ok.noex b o e z
   ·exact absurd (Nat.lt_of_lt_of_le (Heap.lt_size e) (Nat.le_trans I3.ok.bsz z)) (Nat.lt_irrefl _)
  exfs:=fun b hb hs=>by
   rcases List.mem_cons.mp (I3.stkSub b hs) with z|z
   ·exact(f3 b hb).2.1 z
   ·exact(f3 b hb).2.2.1 z
  funs:=I3.stack
  frf:=I3.stkFree }
 os:=rfl
 bare:=I3.bare
 base:=Un.kept up
 loc:=⟨m0,hns,fun i y v e1 e2 e3=>by
  obtain⟨j,g1,g2,g3,g4⟩:=hσ i y v e1 e2;obtain⟨m,hn,hl'⟩:=I3.loc;obtain⟨u,r,l⟩:=hl' j y v g1 g2 (.inr g4);refine⟨u,r,.inr ⟨Xf g3,?_⟩⟩;rcases l with⟨z,_⟩|⟨_,c,e,z⟩
  ·have z':X.env.scope.names.lookup y=some .local:=z
   rcases g4 with w|w<;>(rw[z']at w;cases w)
  ·have q:=c2 y g3
   cases q':cl.lookup y with
   |none=>rw[q']at q;cases q
   |some c'=>
    have:=c1 _ _ q';rw[e]at this;cases this
    obtain⟨o,ho,hd⟩:=z;exact⟨c,q',o,up c o ho,hd⟩⟩
 cell:=fun y c e=>by
  obtain⟨v,o,ho,hd⟩:=I3.cell y c (c1 _ _ e);exact⟨v,o,up c o ho,hd⟩
 free:=I3.hok.fresh (Nat.le_refl _)
 freeC:=fun y c e=>I3.freeC y c (c1 _ _ e)
 pin:=fun p hp=>by
  have hp':p∈X.pn++pQ:=by simpa[cxC] using hp
  obtain⟨e,n,ne,nf,d⟩:=I3.pin p hp';refine⟨up _ _ e,n,Nat.ne_of_lt (Heap.lt_size e),fun hs=>?_,d⟩
  rcases List.mem_cons.mp (I3.stkSub _ hs) with z|z
  ·exact ne z
  ·exact nf z
 hok:=I3.hok.kept up
 len:=hl
theorem ZcC(I3:L2.Inv X pQ σ H3 s3){env:PySem.Env}{pins':Li (Ad×Obj)}{σ':L2.St}{H':Hp}{s':Sd}{h':Heap}(hC:env.locals=s3.heap.objs.size)(I':L2.Inv (cxC X N env s3 H3 fp pQ) pins' σ' H' s')(sb:Heap.SameBut s3.heap.objs.size s'.heap h')(f3:∀ b∈fp,FpOk X pQ H3 b):L2.Inv X pQ σ H' { s' with heap:=h' }:=by
 have u:Un (frs X.stack) fp H3 H' s3.heap s'.heap:=I'.base;have ne:∀ b o,s3.heap.get? b=some o->b≠s3.heap.objs.size:=fun b o e=>Nat.ne_of_lt (Heap.lt_size e)
 have fr:H' s3.heap.objs.size=none:=by have:=I'.free;rw[show(cxC X N env s3 H3 fp pQ).env.locals=s3.heap.objs.size from hC]at this;exact this
 refine I3.call' (s':={ s' with heap:=h' }) (ch:=fp) I'.os ⟨fun b o e n hb hx=>?_,fun b o e n hb hx=>?_,u.free,fun b o e hx=>?_,u.tups,u.frzs,u.tbls⟩ (fun b ob e=>?_) I'.bare (fun b hb=>?_)
 ·exact(sb.2 b (ne b o e)).trans (u.keep b o e n hb hx)
 ·obtain⟨sl,e1⟩:=u.slot b o e n hb hx
  exact⟨sl,(sb.2 b (ne b o e)).trans e1⟩
 ·obtain⟨o',e1⟩:=u.there b o e hx
  exact⟨o',(sb.2 b (ne b o e)).trans e1⟩
 ·refine(I'.hok b ob e).stay (fun c w' hc q=>(sb.2 c ?_).trans q) (fun _ q=>q) fun _ _ q=>q
  rintro rfl
  rcases hc with rfl|hc
  ·rw[fr]at e;cases e
  ·rw[fr]at hc;cases hc
 ·exact⟨(f3 b hb).2.2.2.1,(f3 b hb).2.1,(f3 b hb).2.2.2.2.1,(f3 b hb).2.2.2.2.2⟩
end
end Dp



namespace Dp
open PySem PySem.Spec PyProof.Rows L2
variable [ClsTab]
theorem VJ{N:Li Str}:∀ {l:Li Str}{fr:Li Nat},XD N l=some fr->fr.length=l.length/\∀ (i:Nat) (k:Nat),fr[i]?=some k->∃ y,l[i]?=some y/\N[k]?=some y
 |[],fr,h=>by cases h;exact⟨rfl,fun i k e=>by simp at e⟩
 |x :: r,fr,h=>by
  unfold XD at h;split at h
  ·rename_i a as e1 e2
   cases h;obtain⟨h1,h2⟩:=VJ e2;refine⟨by simp[h1],fun i k e=>?_⟩
   cases i with
   |zero=>simp at e;subst e;exact⟨x,rfl,X6 e1⟩
   |succ i=>exact h2 i k (by simpa using e)
  ·exact Zb h
theorem StOk.lt{X:Cx}{pQ:Li (Ad×Obj)}{σ:L2.St}{H:Hp}{s:Sd}{ad:Li Ad}{st:Za}{a:Ad}(I:L2.Inv X pQ σ H s)(S:StOk X.K ad H st)(h:a∈ad):a < s.heap.objs.size:=by
 obtain⟨i,hi,e⟩:=List.getElem_of_mem h;rcases S.has (show ad[i]?=some a by rw[Lg hi,e]) with⟨o,q⟩|⟨o,q⟩
 ·exact I.hok.lt q
 ·exact Heap.lt_size (I.kIn a o q)
theorem Zb8{K:Fg}{ad:Li Ad}{H:Hp}{σ bs:L2.St}{ρ:Env}{fr:Li Nat}{b:D->Li (Ot D)}{d:D}(E:EnvOk K ad H σ ρ)(hd:EnvOk K ad H bs (b d)):EnvOk K ad H (bs++fr.map fun i=>(σ[i]?).join) (Yh b ρ fr d):=by
 refine⟨by simp[Yh,hd.len],fun i e h=>?_⟩
 unfold Yh at h;by_cases hi:i < (b d).length
 ·rw[List.getElem?_append_left hi]at h
  rw[List.getElem?_append_left (by rw[hd.len];exact hi)]
  exact hd.at_ i e h
 ·have hi:(b d).length<=i:=Nat.le_of_not_lt hi
  rw[List.getElem?_append_right hi,List.getElem?_map]at h;rw[List.getElem?_append_right (by rw[hd.len];exact hi),List.getElem?_map,hd.len]
  cases q:fr[i - (b d).length]? with
  |none=>rw[q]at h;cases h
  |some k=>
   rw[q]at h;have h:(ρ[k]?).join=some e:=by simpa using h
   have h2:ρ[k]?=some (some e):=by
    cases z:ρ[k]? with
    |none=>rw[z]at h;cases h
    |some o=>rw[z]at h;rw[show o=some e from h]
   obtain⟨w,e1,e2⟩:=E.at_ k e h2;exact⟨w,by simp[e1],e2⟩
def Ww(K:Fg)(tg:Expr)(xs:Li Str)(b:D->Li (Ot D))(ds:Li D):Prop:=
 ∀ X:Cx,X.K=K->X.calm=true->X.N.Nodup->(∀ (i:Nat) x,xs[i]?=some x->X.N[i]?=some x)->(∀ y∈xs,X.env.scope.names.lookup y=some .local)->∀ (pQ:Li (Ad×Obj)) (s:Sd) (os fv:L2.St) (H:Hp) (ad:Li Ad) (v:V) (u:vL) (d:D),os.length=xs.length->L2.Inv X pQ (os++fv) H s->RelV v u->Den K ad H v d->d∈ds->
  wpAny (model X.prog X.w) X.A (assign tg X.env u) (fun _ s'=>∃ bs,bs.length=xs.length/\EnvOk K ad H bs (b d)/\L2.Inv X pQ (bs++fv) H s') X.xe s
theorem Vi{K:Fg}{x:Str}{px:Pos}{ds:Li D}:Ww K (.Name x px) [x] one ds:=by
 intro X hK hc hN hx hl pQ s os fv H ad v u d ho I r dv _;obtain⟨o,rfl⟩:∃ o,os=[o]:=by match os,ho with|[o],_=>exact⟨o,rfl⟩
 have lx:=hl x Ls;have pg:PG X (.Name x px) (gName 0):=pg_name hN (hx 0 x rfl) (.inl lx) (.inr lx);refine thn (pg pQ s _ H v u (fun σ' H'=>σ'=[some v]++fv/\H'=H) I r ⟨rfl,rfl⟩) fun _ s' ⟨σ',H',I',e,e'⟩=>?_
 subst e;subst e'
 exact⟨[some v],rfl,⟨rfl,fun i e h=>by
  cases i with
  |zero=>cases h;exact⟨v,rfl,dv⟩
  |succ i=>exact nomatch (show(none:Ot (Ot D))=some (some e) from h)⟩,I'⟩
theorem Vj{K:Fg}{x y:Str}{px py tp:Pos}{k:Nat}{ds:Li D}(hds:∀ d∈ds,∃ a b,d=.tup [a,b]):Ww K (.Tuple [.Name x px,.Name y py] k tp) [x,y] two ds:=by
 intro X hK hc hN hx hl pQ s os fv H ad v u d ho I r dv hd;obtain⟨o,o',rfl⟩:∃ o o',os=[o,o']:=by match os,ho with|[o,o'],_=>exact⟨o,o',rfl⟩
 obtain⟨a,b,rfl⟩:=hds d hd;have lx:=hl x Ls;have ly:=hl y (Lm _ Ls);have g1:PG X (.Name x px) (gName 0):=pg_name hN (hx 0 x rfl) (.inl lx) (.inr lx);have g2:PG X (.Name y py) (gName 1):=pg_name hN (hx 1 y rfl) (.inl ly) (.inr ly);have pg:PG X (.Tuple [.Name x px,.Name y py] k tp) _:=pg_tup hc (pgs_cons g1 (pgs_cons g2 pgs_nil))
 obtain⟨p,vs,rfl,ha,rv⟩:=dv.ofTup;cases rv with
 |cons da rv=>cases rv with
  |cons db rv=>
   cases rv;rename_i va vb;refine thn (pg pQ s _ H _ u (fun σ' H'=>σ'=[some va,some vb]++fv/\H'=H) I r ⟨p,[va,vb],rfl,by rw[hK];exact ha.sq,rfl,va,[vb],rfl,vb,[],rfl,rfl,rfl,rfl⟩) fun _ s' ⟨σ',H',I',e,e'⟩=>?_
   subst e;subst e'
   exact⟨[some va,some vb],rfl,⟨rfl,fun i e h=>by
    cases i with
    |zero=>cases h;exact⟨va,rfl,da⟩
    |succ i=>cases i with
     |zero=>cases h;exact⟨vb,rfl,db⟩
     |succ i=>exact nomatch (show(none:Ot (Ot D))=some (some e) from h)⟩,I'⟩
section
variable {X:Cx}{G:Gs}{F:Nat->Fn}{sc sc2:Scope}{N xs:Li Str}
theorem YF(h:Xr sc sc2 xs=true):sc2.kind=.function/\(∀ p∈sc2.names,p.2≠.cell)/\(∀ x∈xs,sc2.names.lookup x=some .local)/\(∀ p∈sc2.names,p.2=.local->sc2.names.lookup p.1=some .local)/\(xs++ZV sc2).Nodup/\∀ y∈ZV sc2,Vx sc y=true/\sc2.names.lookup y=some .free:=by
 unfold Xr at h;simp only[Ba,decide_eq_true_eq,List.all_eq_true,Bool.or_eq_true,Bool.not_eq_true',decide_eq_false_iff_not]at h;obtain⟨⟨⟨⟨⟨h1,h2⟩,h3⟩,h4⟩,h5⟩,h6⟩:=h;exact⟨h1,h2,h3,fun p hp e=>(h4 p hp).elim (fun z=>absurd e z) id,h5,h6⟩
theorem mem_frees{y:Str}:y∈ZV sc2↔(y,NameKind.free)∈sc2.names:=by
 unfold ZV;rw[List.mem_map];constructor
 ·rintro⟨⟨n,k⟩,h,rfl⟩
  rw[List.mem_filter]at h;have:k=.free:=of_decide_eq_true h.2;rw[<-this];exact h.1
 ·intro h
  exact⟨(y,.free),List.mem_filter.mpr ⟨h,by simp⟩,rfl⟩
theorem mem_of_lookup{y:Str}{k:NameKind}:∀ {l:Li (Str×NameKind)},l.lookup y=some k->(y,k)∈l
 |[],h=>by cases h
 | (n,q) :: l,h=>by
  rw[List.lookup_cons]at h;split at h
  ·rename_i e
   cases h;rw[beq_iff_eq.mp e];exact Ls
  ·exact Lm _ (mem_of_lookup h)
theorem Zb5(Kx:Cxt X G F sc N)(hsc:Xr sc sc2 xs=true){cl:Li (Str×Ad)}{C:Ad}{s3:Sd}{H3:Hp}{fp:Li Ad}{pQ:Li (Ad×Obj)}:Cxt (cxC X (xs++ZV sc2) (compEnvC sc2 cl C X.env) s3 H3 fp pQ) G F sc2 (xs++ZV sc2):=by
 obtain⟨h1,h2,h3,h4,h5,h6⟩:=YF hsc;exact {
  hN:=rfl
  vis:=fun y hy=>by
   rcases ZdQ hy with z|z|z
   ·exact .inl (YV z (by intro q;cases q))
   ·exact absurd rfl (h2 _ (mem_of_lookup z))
   ·rcases Xf (env:=X.env) z with w|w
    ·exact .inr (.inl w)
    ·exact .inr (.inr w)
  glb:=fun y hy=>YV (Zai hy) (by intro q;cases q)
  calm:=Kx.calm
  hu:=Kx.hu
  gl:=Kx.gl
  cel:=fun y hy=>by
   rcases J9 hy with z|z
   ·exact absurd rfl (h2 _ (mem_of_lookup z))
   ·exact Xf z
  nx:=rfl }
theorem Zb3{ok:Za->Prop}{f c:D->Za->Res}{xs:Li D}{st:Za}{r:Li D×Za}(h:Z8 ok f c xs st=some r):ok st:=by
 unfold Z8 at h;split at h
 ·split at h
  ·assumption
  ·exact Zb h
 ·split at h
  ·assumption
  ·exact Zb h
noncomputable def evB(F:Nat->Fn)(c:CE)(b:D->Li (Ot D))(ρ:Env)(fr:Li Nat):D->Za->Res:=fun d s=>ev F c (Yh b ρ fr d) s
inductive CI(X:Cx)(tn:Nat->Heap->Prop)(fp:List Addr)(fv σ:L2.St)(ρ:Env)(w:Nat)(ds:List D)(go:List D->Za->Option (List D×Za))(Good:List Addr->Hp->Prop)(dd:Addr)(ad2:List Addr)(H2:Hp)(st':Za)(ys:List D)(m:Nat)(s:Shared):Prop
 |mk (i:Nat) (o0:L2.St) (H:Hp) (ad:List Addr) (st:Za) (vs:List V) (es zs:List D) (him:i+m=ds.length) (hol:o0.length=w) (I:L2.Inv X [] (o0++fv) H s) (ti:tn i s.heap) (fi:∀ b∈fp,H b=none) (En:EnvOk X.K ad H σ ρ) (S:StOk X.K ad H st) (Gd:Good ad H) (nd:dd∉ad) (hv:H dd=some (.lst vs)) (rv:Dens X.K ad H vs es) (hel:es.length<=i)
  (hcp:go (ds.drop i) st=some (zs,st')) (hys:es++zs=ys) (ex:Ext ad2 H2 ad H):CI X tn fp fv σ ρ w ds go Good dd ad2 H2 st' ys m s
theorem Za9(Kx:Cxt X G F sc2 N){n:Nat}(ihE:Zw G F n){elt iter tg:Expr}{pos:Pos}{ifs:Li Expr}{fr:Li Nat}{ce cc:CE}{bd:D->Li (Ot D)}(hce:cE G n sc2 N elt=some ce)(hcc:(ifs=[]/\cc=.cst (.bl true))\/∃ e,ifs=[e]/\cE G n sc2 N e=some cc){J:It}{fp:Li Ad}{it:Ad}{tn:Nat->Heap->Prop}{ds:Li D}{ok:Za->Prop}{Good:Li Ad->Hp->Prop}(gm:∀ ad H ad' H',Ext ad H ad' H'->Good ad H->Good ad' H')(gw:∀ ad H p xs ys,H p=some (.lst xs)->Good ad H->Good ad (upd H p (.lst ys)))(go:∀ i ad H st,Good ad H->StOk X.K ad H st->ok st->i < ds.length->J.go i H)(stop:∀ i ad H st,Good ad H->StOk X.K ad H st->ok st->ds.length=i->J.stop i H)(yl:∀ i ad H st v H',Good ad H->StOk X.K ad H st->ok st->J.yld i H v H'->i < ds.length->Ext ad H ad H'/\StOk X.K ad H' st/\∃ d,ds[i]?=some d/\Den X.K ad H' v d)(T:Turn X.prog X.w X.K tg J fp it tn)(B:Ww X.K tg xs bd ds)(hN:X.N.Nodup)(hx:∀ (i:Nat) x,xs[i]?=some x->X.N[i]?=some x)(hl:∀ y∈xs,X.env.scope.names.lookup y=some .local)(exx:X.xe=fun _ _=>False)(fpk:∀ {H:Hp},(∀ b∈fp,H b=none)->∀ b∈fp,FpOk X [] H b){fv σ:L2.St}{ρ:Env}(ec:∀ {ad H bs d},EnvOk X.K ad H σ ρ->EnvOk X.K ad H bs (bd d)->EnvOk X.K ad H (bs++fv) (Yh bd ρ fr d)){dd:Ad}{ad2:Li Ad}{H2:Hp}{st':Za}{ys:Li D}(D0:H2 dd=none)(hz:ds.length<=1000){R:Result->Sd->Prop}(done:∀ s5 σ5 H ad vs,L2.Inv X [] σ5 H s5->StOk X.K ad H st'->dd∉ad->H dd=some (.lst vs)->Dens X.K ad H vs ys->Ext ad2 H2 ad H->R (.ok .next) s5){s:Sd}{m:Nat}(h0:CI X tn fp fv σ ρ xs.length ds (Z8 ok (evB F ce bd ρ fr) (evB F cc bd ρ fr)) Good dd ad2 H2 st' ys m s) :
  codeAny (model X.prog X.w) X.A (.compLoop (.ListComp elt [⟨tg,iter,ifs,0⟩] sc2 pos) 0 (.ref it) (.ref dd) X.env) R s:=by
 refine Qs _ (fun m s h=>?_) m h0
 cases h with
 |mk i o0 H ad st vs es zs him hol I ti fi En S Gd nd hv rv hel hcp hys ex=>
 have oks:=Zb3 hcp;have none_of:∀ {E:vL->Sd->Prop}{α:Type}{t:Sem α}{R:α->Sd->Prop}{s0:Sd},wpAny (model X.prog X.w) X.A t R X.xe s0->wpAny (model X.prog X.w) X.A t R E s0:=fun h=>by
  rw[exx]at h;exact wpAny_mono h (fun _ _ q=>q) fun _ _ q=>q.elim
 by_cases hi:i < ds.length
 ·refine thn (T.item X rfl rfl rfl Kx.calm i [] s _ H _ I (fpk fi) ti (go i ad H st Gd S oks hi)) fun r s5 ⟨u,hr,h5'⟩=>?_
  subst hr;refine thn h5' fun _ s6 ⟨v,H',I6,r6,y6,t6,f6⟩=>?_
  obtain⟨x6,S6,d,ed,dv⟩:=yl i ad H st v H' Gd S oks y6 hi;have hd:ds.drop i=d :: ds.drop (i+1):=by
   rw[List.drop_eq_getElem_cons hi];rw[Lg hi]at ed;cases ed;rfl
  refine thn (none_of (B X rfl Kx.calm hN hx hl _ s6 o0 _ H' ad v u _ hol (I6.pinned (fpk f6) (T.obj _ _ t6)) r6 dv (List.mem_of_getElem? ed))) fun _ s7 ⟨bs,lb,Eb,I7⟩=>?_
  have En6:=En.mono x6;have En7:=ec En6 Eb
  -- behind the item's turn
  have again:∀ {H9:Hp}{s9:Sd}{ad9:Li Ad}{st9:Za}{vs9:Li V}{es9 zs9:Li D},L2.Inv X ([]++pinsAt fp s6.heap) (bs++fv) H9 s9->StOk X.K ad9 H9 st9->Good ad9 H9->dd∉ad9->H9 dd=some (.lst vs9)->Dens X.K ad9 H9 vs9 es9->es9.length<=i+1->
    Z8 ok (evB F ce bd ρ fr) (evB F cc bd ρ fr) (ds.drop (i+1)) st9=some (zs9,st')->es9++zs9=ys->Ext ad2 H2 ad9 H9->EnvOk X.K ad9 H9 σ ρ->
    ∃ m',m' < m/\CI X tn fp fv σ ρ xs.length ds (Z8 ok (evB F ce bd ρ fr) (evB F cc bd ρ fr)) Good dd ad2 H2 st' ys m' s9:=
   fun I9 S9 G9 n9 v9 r9 l9 c9 y9 x9 e9=>
    have pk:=fun b hb o e=>I9.pin (b,o) (List.mem_append_right _ (List.mem_append_right _ (mem_pinsAt hb e)))
    ⟨m - 1,by omega,.mk (i+1) bs _ _ _ _ _ _ (by omega) lb I9.unpinned (T.keep _ _ _ t6 fun b hb o e=>(pk b hb o e).1) (fun b hb=>let ⟨o,e,_⟩:=T.obj _ _ t6 b hb;(pk b hb o e).2.1) e9 S9 G9 n9 v9 r9 l9 c9 y9 x9⟩
  -- the tests
  have tests:∀ {k:Bool}{st2:Za},evB F cc bd ρ fr d st=some (.bl k,st2)->∀ {R:Bool->Sd->Prop}{E:vL->Sd->Prop},(∀ s8 H8 ad8,L2.Inv X ([]++pinsAt fp s6.heap) (bs++fv) H8 s8->Ext ad H' ad8 H8->StOk X.K ad8 H8 st2->R k s8)->
    wpAny (model X.prog X.w) X.A (forIn ifs true fun c r=>if r=true then do let ok <-isTrue c X.env (eval c X.env);pure (ForInStep.yield ok) else pure (ForInStep.yield r)) R E s7:=fun {k st2} q {R E} hR=>by
   rcases hcc with⟨rfl,rfl⟩|⟨e,rfl,he⟩
   ·cases q
    exact wpAny_tests_nil (hR s7 H' ad I7 (Ext.refl _ _) S6)
   ·refine wpAny_tests_one (thn (none_of ((ihE X sc2 _ Kx e cc he).pt _ s7 _ H' (fun k' H8=>k'=k/\∃ ad8,Ext ad H' ad8 H8/\StOk X.K ad8 H8 st2) I7 ⟨ad,Yh bd ρ fr d,st,k,st2,En7,S6,q,fun ad' H' x S'=>⟨rfl,ad',x,S'⟩⟩)) fun k' s8 ⟨H8,I8,e8,ad8,x8,S8⟩=>?_)
    subst e8;exact hR s8 H8 ad8 I8 x8 S8
  have n8:∀ {ad8 H8},Ext ad H' ad8 H8->dd∉ad8:=fun x8 z=>((x6.trans x8).new dd z).elim nd fun w=>by rw[hv]at w;cases w
  have v8:∀ {ad8 H8},Ext ad H' ad8 H8->H8 dd=some (.lst vs):=fun x8=>(x6.trans x8).keep dd _ hv nd
  have rv6:=rv.mono x6;have ex6:=ex.trans x6;have G6:=gm _ _ _ _ x6 Gd;clear x6 En Eb ex Gd S I hv rv;rw[hd]at hcp;unfold Z8 at hcp;rw[if_pos oks]at hcp;split at hcp
  ·rename_i st2 q1
   split at hcp
   ·rename_i y st3 q2
    split at hcp
    ·rename_i zs' st4 q3
     cases hcp;refine tests q1 fun s8 H8 ad8 I8 x8 S8=>?_
     rw[if_pos rfl];refine thn (none_of ((ihE X sc2 _ Kx elt ce hce).pe _ s8 _ H8 (fun v8 H9=>∃ ad9,Ext ad8 H8 ad9 H9/\StOk X.K ad9 H9 st3/\Den X.K ad9 H9 v8 y) I8 ⟨ad8,Yh bd ρ fr d,st2,y,st3,En7.mono x8,S8,q2,fun v8 ad' H' x S' dn=>⟨ad',x,S',dn⟩⟩)) fun u9 s9 ⟨v9,H9,I9,r9,ad9,x9,S9,d9⟩=>?_
     have x89:=x8.trans x9;have hv9:=v8 x89;have hlen:vs.length=es.length:=rv6.length;refine thn (none_of (mt_append (X:=X) _ s9 _ H9 (.ref dd) [v9] (.ref dd) [u9] (fun _ H10=>H10=upd H9 dd (.lst (vs++[v9]))) I9 rfl (.cons r9 .nil) ⟨dd,vs,v9,rfl,rfl,hv9,Nat.lt_of_le_of_lt (show vs.length<=1000 by omega) (by decide),rfl⟩)) fun u10 s10 ⟨v10,H10,I10,r10,e10⟩=>?_
     subst e10;have nd9:=n8 x89;exact again (vs9:=vs++[v9]) (es9:=es++[y]) (zs9:=zs') I10 (S9.wr hv9 nd9) (gw _ _ _ _ _ hv9 (gm _ _ _ _ x89 G6)) nd9 upd_same (((rv6.mono x89).append (.cons d9 .nil)).wr hv9) (by rw[List.length_append,List.length_singleton];omega) q3 (by rw[<-hys,List.append_assoc];rfl) ((ex6.trans x89).wr hv9 D0) ((En6.mono x89).wr hv9)
    ·exact Zb hcp
   ·exact Zb hcp
  ·rename_i st2 q1
   refine tests q1 fun s8 H8 ad8 I8 x8 S8=>?_
   rw[if_neg Bf];exact again I8 S8 (gm _ _ _ _ x8 G6) (n8 x8) (v8 x8) (rv6.mono x8) (by omega) hcp hys (ex6.trans x8) (En6.mono x8)
  ·exact Zb hcp
 ·refine thn (T.done X rfl rfl rfl Kx.calm i [] s _ H _ I (fpk fi) ti (stop i ad H st Gd S oks (by omega))) fun r s5 ⟨hr,I5⟩=>?_
  subst hr;rw[List.drop_eq_nil_of_le (Nat.le_of_not_lt hi)]at hcp;unfold Z8 at hcp;rw[if_pos oks]at hcp;cases hcp;rw[List.append_nil]at hys;subst hys;exact done s5 _ H ad vs I5 S nd hv rv ex
theorem Jp(Kx:Cxt X G F sc N){n:Nat}(ihE:Zw G F n){elt iter tg:Expr}{pos:Pos}{ifs:Li Expr}{fr:Li Nat}{ce cc:CE}(hsc:Xr sc sc2 xs=true)(hfr:XD N (ZV sc2)=some fr){bd:D->Li (Ot D)}(hce:cE G n sc2 (xs++ZV sc2) elt=some ce)(hcc:(ifs=[]/\cc=.cst (.bl true))\/∃ e,ifs=[e]/\cE G n sc2 (xs++ZV sc2) e=some cc){cl:Li (Str×Ad)}(c1:∀ y c,cl.lookup y=some c->X.env.cells.lookup y=some c)(c2:∀ y,(y,NameKind.free)∈sc2.names->(cl.lookup y).isSome){J:It}{fp:Li Ad}{it:Ad}{tn:Nat->Heap->Prop}{ds:Li D}{ok:Za->Prop}{use:Ot (vL->Sem Unit)}{R0:vL->Sd->Prop}{Good:Li Ad->Hp->Prop}(gm:∀ ad H ad' H',Ext ad H ad' H'->Good ad H->Good ad' H')(gw:∀ ad H p xs ys,H p=some (.lst xs)->Good ad H->Good ad (upd H p (.lst ys)))(go:∀ i ad H st,Good ad H->StOk X.K ad H st->ok st->i < ds.length->J.go i H)(stop:∀ i ad H st,Good ad H->StOk X.K ad H st->ok st->ds.length=i->J.stop i H)(yl:∀ i ad H st v H',Good ad H->StOk X.K ad H st->ok st->J.yld i H v H'->i < ds.length->Ext ad H ad H'/\StOk X.K ad H' st/\∃ d,ds[i]?=some d/\Den X.K ad H' v d){pQ:Li (Ad×Obj)}{σ:L2.St}{H2:Hp}{s2 s3:Sd}{dd:Ad}{h₁:Heap}{m0:Str->Ot vL}{tk:Nat}{Q:VK}{ad2:Li Ad}{ρ:Env}{st1 st':Za}{ys:Li D}(B:Ww X.K tg xs bd ds)(T:Turn X.prog X.w X.K tg J fp it tn)(t2:tn 0 s2.heap)(f2:∀ b∈fp,FpOk X pQ H2 b)(fb:∀ b∈fp,b < dd)(E2:EnvOk X.K ad2 H2 σ ρ)(S2:StOk X.K ad2 H2 st1)(g2:Good ad2 H2)(hcomp:Z8 ok (fun d s=>ev F ce (Yh bd ρ fr d) s) (fun d s=>ev F cc (Yh bd ρ fr d) s) ds st1=some (ys,st'))(hz:ds.length<=1000)(hp:Post X.K ad2 H2 (.lst st'.length) (st'++[(true,ys)]) Q)(hend:∀ C dd s5 H5 m',s5.heap.Ns C m'->(∀ h',Heap.SameBut C s5.heap h'->L2.Inv X pQ σ H5 { s5 with heap:=h' })->FpOk X pQ H5 C->Q (.ref dd) H5->compPost (model X.prog X.w) X.A X.xe use R0 (.ref dd) C (.ok .next) s5)  (D0:H2 dd=none) (I3:L2.Inv X pQ σ (upd H2 dd (.lst [])) s3) (z3:s3.heap.objs.size=dd+1) (nad:dd∉ad2) (hns₁:h₁.Ns s3.heap.objs.size m0) (up:∀ b u,s3.heap.get? b=some u->h₁.get? b=some u) (up0:∀ b u,s2.heap.get? b=some u->s3.heap.get? b=some u) :
  codeAny (model X.prog X.w) X.A (.compStart (.ListComp elt [⟨tg,iter,ifs,0⟩] sc2 pos) 0 (.ref it) (.ref dd) (compEnvC sc2 cl s3.heap.objs.size X.env)) (compPost (model X.prog X.w) X.A X.xe use R0 (.ref dd) s3.heap.objs.size) { s3 with heap:=h₁,toks:=tk }:=by
 obtain⟨h1,h2,h3,h4,h5,h6⟩:=YF hsc;have f3:∀ b∈fp,FpOk X pQ (upd H2 dd (.lst [])) b:=fun b hb=>⟨by rw[upd_ne (Nat.ne_of_lt (fb b hb))];exact(f2 b hb).1,(f2 b hb).2⟩
 obtain⟨fl,fg⟩:=VJ hfr;have I4:=ZcD (N:=xs++ZV sc2) (cl:=cl) (fp:=fp) (tk:=tk) (σ':=List.replicate xs.length none++fr.map fun i=>(σ[i]?).join) I3 h1 h2 hns₁ up c1 (fun y e=>c2 y (mem_of_lookup e)) f3 (fun b hb=>by rw[z3];exact Nat.lt_succ_of_lt (fb b hb)) (fun i y v e1 e2=>by
  by_cases hi:i < xs.length
  ·rw[List.getElem?_append_left (by simpa using hi),List.getElem?_replicate,if_pos hi]at e2;cases e2
  ·have hi:xs.length<=i:=Nat.le_of_not_lt hi
   rw[List.getElem?_append_right (by simpa using hi),List.getElem?_map,List.length_replicate]at e2
   rw[List.getElem?_append_right hi]at e1;cases q:fr[i - xs.length]? with
   |none=>rw[q]at e2;cases e2
   |some k=>
    rw[q]at e2;have e2:(σ[k]?).join=some v:=by simpa using e2
    have e3:σ[k]?=some (some v):=by
     cases w:σ[k]? with
     |none=>rw[w]at e2;cases e2
     |some o=>rw[w]at e2;rw[show o=some v from e2]
    obtain⟨y',g1,g2⟩:=fg _ k q;rw[e1]at g1;cases g1
    obtain⟨k1,k2⟩:=h6 y (List.mem_of_getElem? e1);exact⟨k,by rw[Kx.hN];exact g2,e3,k2,Kx.cel y k1⟩) (by simp[fl])
 have K':=Zb5 (cl:=cl) (C:=s3.heap.objs.size) (s3:=s3) (H3:=upd H2 dd (.lst [])) (fp:=fp) (pQ:=pQ) Kx hsc;have loop:=Za9 (R:=compPost (model X.prog X.w) X.A X.xe use R0 (.ref dd) s3.heap.objs.size) (pos:=pos) (iter:=iter) K' ihE hce hcc gm gw go stop yl T B h5 (fun i x e=>by show(xs++ZV sc2)[i]?=some x;rw[List.getElem?_append_left (List.getElem?_eq_some_iff.mp e).1];exact e) (fun y hy=>YV (h3 y hy) (by intro q;cases q)) rfl (fun {H} hn b hb=>⟨hn b hb,by
  show b≠s3.heap.objs.size;rw[z3];exact Nat.ne_of_lt (Nat.lt_succ_of_lt (fb b hb)),fun hs=>(List.mem_cons.mp (I3.stkSub b hs)).elim (f2 b hb).2.1 (f2 b hb).2.2.1,.inl hb,fun y c e=>(f2 b hb).2.2.2.2.1 y c (c1 _ _ e),fun p hp=>(f2 b hb).2.2.2.2.2 p (by simpa[cxC] using hp)⟩) (σ:=σ) (ρ:=ρ) (fr:=fr) (fun a b=>Zb8 a b) (dd:=dd) (ad2:=ad2) (H2:=H2) (st':=st') (ys:=ys) D0 hz (fun s5 σ5 H ad vs I5 S nd hv rv ex=>by
   obtain⟨m',hn,_⟩:=I5.loc;refine hend s3.heap.objs.size dd s5 H m' hn (fun h' sb=>ZcC I3 rfl I5 sb f3) (I3.fpOk (Nat.le_refl _) I5.free) (hp (.ref dd) (ad++[dd]) H ⟨fun j a e=>YN (ex.pre j a e),ex.tup,ex.dk,ex.keep,fun b hb=>?_,ex.kd⟩ (S.adopt hv nd rv) (.lst ⟨by rw[<-S.len];exact ZE,W0 hv fun _ z=>nomatch z⟩))
   rcases List.mem_append.mp hb with z|z
   ·exact ex.new b z
   ·rw[List.mem_singleton.mp z];exact .inr D0)
  (.mk 0 (List.replicate xs.length none) (upd H2 dd (.lst [])) ad2 st1 [] [] ys (Nat.zero_add _) (List.length_replicate ..) I4 (T.keep _ _ _ t2 fun b _ o e=>up b o (up0 b o e)) (fun b hb=>(f3 b hb).1) (E2.mono (Ext.laid D0)) (S2.laid D0) (gm _ _ _ _ (Ext.laid D0) g2) nad upd_same .nil (Nat.le_refl _) hcomp rfl (Ext.laid D0))
 exact codeAny_compStart_list loop (T.self X.A 0 _ _ _ (T.keep _ _ _ t2 fun b _ o e=>up b o (up0 b o e)) loop)
theorem Za8(Kx:Cxt X G F sc N){n:Nat}(ihE:Zw G F n){elt iter tg:Expr}{pos:Pos}{ifs:Li Expr}{fr:Li Nat}{ce cc:CE}(hsc:Xr sc sc2 xs=true)(hfr:XD N (ZV sc2)=some fr){bd:D->Li (Ot D)}(hce:cE G n sc2 (xs++ZV sc2) elt=some ce)(hcc:(ifs=[]/\cc=.cst (.bl true))\/∃ e,ifs=[e]/\cE G n sc2 (xs++ZV sc2) e=some cc){cl:Li (Str×Ad)}(c1:∀ y c,cl.lookup y=some c->X.env.cells.lookup y=some c)(c2:∀ y,(y,NameKind.free)∈sc2.names->(cl.lookup y).isSome){J:It}{fp:Li Ad}{it:Ad}{tn:Nat->Heap->Prop}{ds:Li D}{ok:Za->Prop}{use:Ot (vL->Sem Unit)}{R0:vL->Sd->Prop}(Good:Li Ad->Hp->Prop)(gm:∀ ad H ad' H',Ext ad H ad' H'->Good ad H->Good ad' H')(gw:∀ ad H p xs ys,H p=some (.lst xs)->Good ad H->Good ad (upd H p (.lst ys)))(go:∀ i ad H st,Good ad H->StOk X.K ad H st->ok st->i < ds.length->J.go i H)(stop:∀ i ad H st,Good ad H->StOk X.K ad H st->ok st->ds.length=i->J.stop i H)(yl:∀ i ad H st v H',Good ad H->StOk X.K ad H st->ok st->J.yld i H v H'->i < ds.length->Ext ad H ad H'/\StOk X.K ad H' st/\∃ d,ds[i]?=some d/\Den X.K ad H' v d){pQ:Li (Ad×Obj)}{σ:L2.St}{H2:Hp}{s2:Sd}{Q:VK}{ad2:Li Ad}{ρ:Env}{st1 st':Za}{ys:Li D}(I2:L2.Inv X pQ σ H2 s2)(B:Ww X.K tg xs bd ds)(T:Turn X.prog X.w X.K tg J fp it tn)(t2:tn 0 s2.heap)(f2:∀ b∈fp,FpOk X pQ H2 b)(E2:EnvOk X.K ad2 H2 σ ρ)(S2:StOk X.K ad2 H2 st1)(g2:Good ad2 H2)(hcomp:Z8 ok (fun d s=>ev F ce (Yh bd ρ fr d) s) (fun d s=>ev F cc (Yh bd ρ fr d) s) ds st1=some (ys,st'))(hz:ds.length<=1000)(hp:Post X.K ad2 H2 (.lst st'.length) (st'++[(true,ys)]) Q)(hend:∀ C dd s5 H5 m',s5.heap.Ns C m'->(∀ h',Heap.SameBut C s5.heap h'->L2.Inv X pQ σ H5 { s5 with heap:=h' })->FpOk X pQ H5 C->Q (.ref dd) H5->compPost (model X.prog X.w) X.A X.xe use R0 (.ref dd) C (.ok .next) s5) :
  wpAny (model X.prog X.w) X.A (newList []) (fun acc s₃=>wpAny (model X.prog X.w) X.A (newFunctionEnv sc2 X.env.globals cl [] X.env.qual none .none (some X.env)) (fun cenv s₄=>
   codeAny (model X.prog X.w) X.A (.compStart (.ListComp elt [⟨tg,iter,ifs,0⟩] sc2 pos) 0 (.ref it) acc { cenv with scope:=relabel sc2 X.env }) (compPost (model X.prog X.w) X.A X.xe use R0 acc cenv.locals) s₄) X.xe s₃) X.xe s2:=by
 obtain⟨h1,h2,h3,h4,h5,h6⟩:=YF hsc;have fb:∀ b∈fp,b < s2.heap.objs.size:=fun b hb=>let ⟨o,e,_⟩:=T.obj 0 _ t2 b hb;Heap.lt_size e
 refine wpAny_newObj_type (wpAny_newFunctionEnv h2 (by intro y hy;simp at hy) (fun h₁ hns₁ hsb₁=>?_) h1)
 dsimp only at hns₁ hsb₁ ⊢;have I3:L2.Inv X pQ σ (upd H2 s2.heap.objs.size (.lst [])) { s2 with heap:=s2.heap.push { cls:=.type "list",dict:=none,data:=.seq ([]:Li vL).toArray } }:=I2.lnew (its:=[]) (t':=s2.toks) .nil (Nat.zero_le _)
 have e3:s2.heap.push { cls:=.type "list",dict:=none,data:=.seq ([]:Li vL).toArray }=({ s2 with heap:=s2.heap.push { cls:=.type "list",dict:=none,data:=.seq ([]:Li vL).toArray } }:Sd).heap:=rfl
 exact Jp Kx ihE hsc hfr hce hcc c1 c2 gm gw go stop yl B T t2 f2 fb E2 S2 g2 hcomp hz hp hend (I2.hok.fresh (Nat.le_refl _)) I3 (Heap.size_push ..) (fun z=>absurd (S2.lt I2 z) (Nat.lt_irrefl _)) hns₁ (fun b u e=>hsb₁.extBut b u (Nat.ne_of_lt (Heap.lt_size e)) (Heap.get?_push_of_some _ e)) (fun b u e=>Heap.get?_push_of_some _ e)
end
end Dp



namespace Dp
open PySem PySem.Spec PyProof.Rows L2
variable [ClsTab]
def Jb(X:Cx)(σ:L2.St)(ρ:Env)(ds:Li D)(ok:Za->Prop)(st1 st2:Za)(ys:Li D)(Q:VK)(J:It)(H1:Hp):Prop:=
 ∃ (ad1:Li Ad) (Good:Li Ad->Hp->Prop),(∀ ad H ad' H',Ext ad H ad' H'->Good ad H->Good ad' H')/\(∀ ad H p xs ys,H p=some (.lst xs)->Good ad H->Good ad (upd H p (.lst ys))) /\
  (∀ i ad H st,Good ad H->StOk X.K ad H st->ok st->i < ds.length->J.go i H)/\(∀ i ad H st,Good ad H->StOk X.K ad H st->ok st->ds.length=i->J.stop i H)/\(∀ i ad H st v H',Good ad H->StOk X.K ad H st->ok st->J.yld i H v H'->i < ds.length->Ext ad H ad H'/\StOk X.K ad H' st/\∃ d,ds[i]?=some d/\Den X.K ad H' v d) /\
  EnvOk X.K ad1 H1 σ ρ/\StOk X.K ad1 H1 st1/\Good ad1 H1/\Post X.K ad1 H1 (.lst st2.length) (st2++[(true,ys)]) Q
theorem Qp{X:Cx}{σ:L2.St}{ρ:Env}{ds:Li D}{st st1 st2:Za}{ys:Li D}{Q:VK}{H:Hp}{ad:Li Ad}{f:Ev}(E:EnvOk X.K ad H σ ρ)(S:StOk X.K ad H st)(q:f ρ st=some (.tup ds,st1))(p:Post X.K ad H (.lst st2.length) (st2++[(true,ys)]) Q) :
  iTup X.K (tE X.K f) σ H (Jb X σ ρ ds (fun _=>True) st1 st2 ys Q):=by
 refine⟨ad,ρ,st,.tup ds,st1,E,S,q,fun v ad1 H1 x1 S1 d1=>?_⟩
 obtain⟨a,vs,rfl,ha,rv⟩:=d1.ofTup;refine⟨a,rfl,⟨vs,(ha).sq⟩,ad1,fun ad H=>TupAt X.K H a vs/\Dens X.K ad H vs ds,fun _ _ _ _ x g=>⟨g.1.mono x,g.2.mono x⟩,fun _ H p xs ys hp g=>⟨g.1.upd hp (by intro xs z;cases z),g.2.wr hp⟩,fun i ad H st g _ _ hi=>?_,fun i ad H st g _ _ hi=>⟨vs,(g.1).sq,by rw[g.2.length];exact Nat.le_of_eq hi⟩,
  fun i ad H st v H' g S _ y hi=>?_,E.mono x1,S1,⟨ha,rv⟩,p.later x1⟩
 ·obtain⟨v,e,_⟩:=g.2.get (Lg hi)
  exact⟨vs,v,(g.1).sq,e⟩
 ·obtain⟨w,e,dw⟩:=g.2.get (Lg hi)
  have:=y.2 vs ((g.1).sq);rw[e]at this;cases this
  cases y.1;exact⟨Ext.refl _ _,S,_,Lg hi,dw⟩
theorem Zb1{X:Cx}{σ:L2.St}{ρ:Env}{n:Int}{st st1 st2:Za}{ys:Li D}{Q:VK}{H:Hp}{ad:Li Ad}{f:Ev}(hn:n < 2 ^ 62/\-(2 ^ 62)<=n)(E:EnvOk X.K ad H σ ρ)(S:StOk X.K ad H st)(q:f ρ st=some (.int n,st1))(p:Post X.K ad H (.lst st2.length) (st2++[(true,ys)]) Q) :
  iRng1 (tCons (tE X.K f) tNil) σ H (Jb X σ ρ ((List.range n.toNat).map fun(k:Nat)=>D.int (k:Int)) (fun _=>True) st1 st2 ys Q):=by
 refine⟨ad,ρ,st,.int n,st1,E,S,q,fun v ad1 H1 x1 S1 d1=>?_⟩
 cases d1.ofInt;refine⟨n,rfl,hn.2,hn.1,ad1,fun _ _=>True,fun _ _ _ _ _ _=>trivial,fun _ _ _ _ _ _ _=>trivial,fun i ad H st _ _ _ hi=>(show i < n.toNat by simpa using hi),fun i ad H st _ _ _ hi=>(show n.toNat<=i by simpa using Nat.le_of_eq hi),fun i ad H st v H' _ S _ y hi=>?_,E.mono x1,S1,trivial,p.later x1⟩
 cases y.1;have hi':i < n.toNat:=by simpa using hi
 refine⟨Ext.refl _ _,S,.int (i:Int),?_,?_⟩
 ·rw[List.getElem?_map,List.getElem?_range hi'];rfl
 ·rw[y.2,Int.zero_add];exact .int _
theorem Qo{X:Cx}{σ:L2.St}{ρ:Env}{l:Nat}{c:Yi}{st st1 st2:Za}{ys:Li D}{Q:VK}{H:Hp}{ad:Li Ad}{f:Ev}(E:EnvOk X.K ad H σ ρ)(S:StOk X.K ad H st)(q:f ρ st=some (.lst l,st1))(hc:st1[l]?=some c)(p:Post X.K ad H (.lst st2.length) (st2++[(true,ys)]) Q) :
  iList X.K (tE X.K f) σ H (Jb X σ ρ c.2 (fun s=>s[l]?=some c) st1 st2 ys Q):=by
 refine⟨ad,ρ,st,.lst l,st1,E,S,q,fun v ad1 H1 x1 S1 d1=>?_⟩
 obtain⟨a,rfl,ha⟩:=d1.ofLst;obtain⟨vs,rv,sq⟩:=S1.list ha (show st1[l]?=some (c.1,c.2) from hc);refine⟨a,rfl,⟨vs,sq⟩,ad1,fun ad H=>LA ad H l a,fun _ _ _ _ x g=>g.mono x,fun _ _ _ _ _ e g=>⟨g.1,fun z=>g.2 ((VG e).mpr z)⟩,fun i ad H st g S e hi=>?_,fun i ad H st g S e hi=>?_,fun i ad H st v H' g S e y hi=>?_,E.mono x1,S1,ha,p.later x1⟩
 ·obtain⟨vs,rv,sq⟩:=S.list g (show st[l]?=some (c.1,c.2) from e)
  obtain⟨v,e,_⟩:=rv.get (Lg hi);exact⟨vs,v,sq,e⟩
 ·obtain⟨vs,rv,sq⟩:=S.list g (show st[l]?=some (c.1,c.2) from e)
  exact⟨vs,sq,by rw[rv.length];exact Nat.le_of_eq hi⟩
 ·obtain⟨vs,rv,sq⟩:=S.list g (show st[l]?=some (c.1,c.2) from e)
  obtain⟨w,e,dw⟩:=rv.get (Lg hi);have:=y.2 vs sq;rw[e]at this;cases this
  cases y.1;exact⟨Ext.refl _ _,S,_,Lg hi,dw⟩
theorem Uy:∀ {es vs:Li D},XI es=some vs->vs.length=es.length/\∀ (i:Nat) (k:D) (j:Nat),es[i]?=some (.tup [k,.lst j])->vs[i]?=some (.lst j)
 |[],vs,h=>by cases h;exact⟨rfl,fun i k j h=>by simp at h⟩
 |e :: es,vs,h=>by
  unfold XI at h;split at h
  ·rename_i z;cases z
  ·rename_i k0 j0 r z
   cases z;cases q:XI es with
   |none=>rw[q]at h;cases h
   |some ws=>
    rw[q]at h;cases h;obtain⟨l,g⟩:=Uy q;refine⟨congrArg (·+1) l,fun i k j h=>?_⟩
    cases i with
    |zero=>cases h;rfl
    |succ i=>exact g i k j h
  ·exact Zb h
theorem Ents.get{K:Fg}{ad:Li Ad}{H:Hp}{xs:Li (D×Ad×Ad)}{ds:Li D}(r:Ents K ad H xs ds):∀ (i:Nat) (e:D×Ad×Ad),xs[i]?=some e->∃ j,ds[i]?=some (.tup [e.1,.lst j])/\LA ad H j e.2.2:=by
 induction r with
 |nil=>exact fun i e h=>by simp at h
 |cons h ok l r ih=>
  intro i e q;cases i with
  |zero=>cases q;exact⟨_,rfl,l⟩
  |succ i=>exact ih i e q
theorem Za5{X:Cx}{σ:L2.St}{ρ:Env}{x0:D}{ds:Li D}{ok:Za->Prop}{st st1 st2:Za}{ys:Li D}{Q:VK}{H:Hp}{ad:Li Ad}{fa:Ev}{F:Nat->Fn}(E:EnvOk X.K ad H σ ρ)(S:StOk X.K ad H st)(q:ZQ fa (ev F .aN) ZaH ρ st=some (x0,st1))(hw:WV false x0 st1=some (ds,ok))(p:Post X.K ad H (.lst st2.length) (st2++[(true,ys)]) Q) :
  Zf3 (tE X.K fa) σ H (Jb X σ ρ ds ok st1 st2 ys Q):=by
 unfold ZQ at q;split at q
 ·rename_i da s1 qa
  have q:ZaH da (.tup []) s1=some (x0,st1):=q;cases da with
  |dic a=>
   have q:(match s1[a]? with
    |some (true,es)=>(XI es).map fun vs=>(D.dct [] (.dic a :: vs),s1)
    |_=>none)=some (x0,st1):=q
   split at q
   ·rename_i es q2
    cases qv:XI es with
    |none=>rw[qv]at q;cases q
    |some vs=>
     rw[qv]at q;cases q;have hw:(match st1[a]? with
      |some c=>some (vs,fun s=>s[a]?=some c)
      |none=>none)=some (ds,ok):=hw
     rw[q2]at hw;cases hw;obtain⟨lv,gv⟩:=Uy qv;refine⟨ad,ρ,st,.dic a,st1,E,S,qa,fun v ad1 H1 x1 S1 d1=>?_⟩
     obtain⟨g,rfl,hg,ng⟩:=d1.ofDic;obtain⟨xs,⟨rE,_⟩,hG,_⟩:=S1.dict hg ng q2;have at_:∀ (ad:Li Ad) (H:Hp) (st:Za),(ad[a]?=some g/\Yu H g)->StOk X.K ad H st->st[a]?=some (true,es)->∃ xs',Ents X.K ad H xs' es/\H g=some (.dN (YG xs'))/\xs'.length=xs.length:=fun ad H st gd S e=>by
      obtain⟨xs',⟨r',_⟩,hG',_⟩:=S.dict gd.1 gd.2 e;exact⟨xs',r',hG',by rw[r'.length,rE.length]⟩
     have ln:ds.length=xs.length:=by rw[lv,rE.length]
     refine⟨g,xs,rfl,hG,ad1,fun ad H=>ad[a]?=some g/\Yu H g,fun _ _ _ _ x z=>⟨x.pre _ _ z.1,(x.kd _ _ z.1).mp z.2⟩,fun _ _ _ _ _ e z=>⟨z.1,(VG e).mp z.2⟩,fun i ad H st gd S e hi=>?_,fun i ad H st gd S e hi=>?_,fun i ad H st v H' gd S e y hi=>?_,E.mono x1,S1,⟨hg,ng⟩,p.later x1⟩
     ·obtain⟨xs',_,h1,h2⟩:=at_ ad H st gd S e
      exact⟨by omega,xs',h1,h2⟩
     ·obtain⟨xs',_,h1,h2⟩:=at_ ad H st gd S e
      exact⟨by omega,xs',h1,h2⟩
     ·obtain⟨xs',r',h1,h2⟩:=at_ ad H st gd S e
      obtain⟨e1,e2⟩:=y;obtain⟨w,hw,rfl⟩:=e2 xs' h1 h2;obtain⟨j,hj,lj⟩:=r'.get i w hw;cases e1;exact⟨Ext.refl _ _,S,_,gv i _ j hj,.lst lj⟩
   ·exact Zb q
  |_=>exact Zb q
 ·exact Zb q
theorem J2{it x:Expr}(h:Vd it=some x):∃ y p ap cp,it=.Call (.Attribute (.Name y p) "values" ap) [] [] cp/\x=.Name y p/\(ap.endLine==cp.line)=true:=by
 unfold Vd at h;split at h
 ·refine XC h fun hc h2=>?_
  obtain⟨e,l⟩:=hc;subst e;exact⟨_,_,_,_,rfl,(Option.some.inj h2).symm,l⟩
 ·exact Zb h
theorem Ud:∀ {xs:Li D}{k i:Nat},(Xt k xs)[i]?=(xs[i]?).map fun x=>.tup [.int ((k+i:Nat):Int),x]
 |[],_,_=>rfl
 |x :: xs,k,0=>rfl
 |x :: xs,k,i+1=>by
  show(Xt (k+1) xs)[i]?=_;rw[Ud,show k+1+i=k+(i+1) by omega]
  rfl
theorem XL:∀ {xs:Li D}{k:Nat},(Xt k xs).length=xs.length
 |[],_=>rfl
 |x :: xs,k=>congrArg (·+1) XL
theorem Wz:∀ {xs:Li D}{k:Nat},∀ d∈Xt k xs,∃ a b,d=.tup [a,b]
 |[],_,_,h=>nomatch h
 |x :: xs,k,d,h=>by
  rcases List.mem_cons.mp h with rfl|h
  ·exact⟨_,_,rfl⟩
  ·exact Wz d h
theorem Za4{X:Cx}{σ:L2.St}{ρ:Env}{x:D}{ds:Li D}{ok:Za->Prop}{st st1 st2:Za}{ys:Li D}{Q:VK}{H:Hp}{ad:Li Ad}{f:Ev}(E:EnvOk X.K ad H σ ρ)(S:StOk X.K ad H st)(q:f ρ st=some (x,st1))(hw:UA x st1=some (ds,ok))(p:Post X.K ad H (.lst st2.length) (st2++[(true,ys)]) Q) :
  Zaj X.K (tCons (tE X.K f) tNil) σ H (Jb X σ ρ ds ok st1 st2 ys Q):=by
 have core:∀ {sq:Hp->Li V->Prop}{xs:Li D}{ok:Za->Prop}{ad1:Li Ad}{H1:Hp} (Good:Li Ad->Hp->Prop),(∀ ad H ad' H',Ext ad H ad' H'->Good ad H->Good ad' H')->(∀ ad H p xs ys,H p=some (.lst xs)->Good ad H->Good ad (upd H p (.lst ys)))->Good ad1 H1->
   (∀ ad H st,Good ad H->StOk X.K ad H st->ok st->∃ vs,Dens X.K ad H vs xs/\sq H vs)->EnvOk X.K ad1 H1 σ ρ->StOk X.K ad1 H1 st1->Post X.K ad1 H1 (.lst st2.length) (st2++[(true,ys)]) Q->Jb X σ ρ (Xt 0 xs) ok st1 st2 ys Q (Ite sq) H1:=
  fun {sq xs ok ad1 H1} Good gm gw g1 hv E1 S1 p1=>by
   refine⟨ad1,Good,gm,gw,fun i ad H st g S e hi=>?_,fun i ad H st g S e hi=>?_,fun i ad H st v H' g S e y hi=>?_,E1,S1,g1,p1⟩
   ·rw[XL]at hi
    obtain⟨vs,rv,sq⟩:=hv ad H st g S e;obtain⟨v,e,_⟩:=rv.get (Lg hi);exact⟨vs,v,sq,e⟩
   ·rw[XL]at hi
    obtain⟨vs,rv,sq⟩:=hv ad H st g S e;exact⟨vs,sq,by rw[rv.length];exact hi⟩
   ·rw[XL]at hi
    obtain⟨vs,rv,sq⟩:=hv ad H st g S e;obtain⟨w,e,dw⟩:=rv.get (Lg hi);obtain⟨T,x,rfl,hT,rfl,hx⟩:=y;have:=hx vs sq;rw[e]at this;cases this
    refine⟨Ext.laid hT,S.laid hT,_,by rw[Ud,Lg hi];rfl,.tup (.inl upd_same) (.cons ?_ (.cons (dw.mono (Ext.laid hT)) .nil))⟩
    rw[Nat.zero_add];exact .int _
 refine⟨ad,ρ,st,x,st1,E,S,q,fun v ad1 H1 x1 S1 d1=>?_⟩
 cases x with
 |tup xs=>
  cases hw;obtain⟨a,vs,rfl,ha,rv⟩:=d1.ofTup;exact⟨a,rfl,.inr ⟨⟨vs,ha.sq⟩,core (fun ad H=>TupAt X.K H a vs/\Dens X.K ad H vs xs) (fun _ _ _ _ x g=>⟨g.1.mono x,g.2.mono x⟩) (fun _ H p xs ys hp g=>⟨g.1.upd hp (by intro xs z;cases z),g.2.wr hp⟩) ⟨ha,rv⟩ (fun ad H st g _ _=>⟨vs,g.2,g.1.sq⟩) (E.mono x1) S1 (p.later x1)⟩⟩
 |lst l=>
  have hw:(match st1[l]? with
   |some c=>some (Xt 0 c.2,fun s=>s[l]?=some c)
   |none=>none)=some (ds,ok):=hw
  cases hc:st1[l]? with
  |none=>rw[hc]at hw;cases hw
  |some c=>
   rw[hc]at hw;cases hw;obtain⟨a,rfl,ha⟩:=d1.ofLst;obtain⟨vs,rv,sq⟩:=S1.list ha (show st1[l]?=some (c.1,c.2) from hc);exact⟨a,rfl,.inl ⟨⟨vs,sq⟩,core (fun ad H=>LA ad H l a) (fun _ _ _ _ x g=>g.mono x) (fun _ _ _ _ _ e g=>⟨g.1,fun z=>g.2 ((VG e).mpr z)⟩) ha (fun ad H st g S e=>S.list g (show st[l]?=some (c.1,c.2) from e)) (E.mono x1) S1 (p.later x1)⟩⟩
 |_=>exact Zb hw
theorem ZbL{x:D}{st:Za}{ds:Li D}{ok:Za->Prop}(h:UA x st=some (ds,ok)):∀ d∈ds,∃ a b,d=.tup [a,b]:=by
 cases x with
 |tup xs=>cases h;exact Wz
 |lst l=>
  unfold UA at h;simp only at h;split at h
  ·cases h;exact Wz
  ·exact Zb h
 |_=>exact Zb h
theorem Zdj{ds:Li D}(ha:ds.all Zbq=true):∀ d∈ds,∃ a b,d=.tup [a,b]:=fun d hd=>by
 have:=List.all_eq_true.mp ha d hd;unfold Zbq at this;split at this
 ·exact⟨_,_,rfl⟩
 ·cases this
theorem ZbM{x:D}{st:Za}{ds:Li D}{ok:Za->Prop}(h:Q8 x st=some (ds,ok)):((x=.tup ds/\ok=fun _=>True)\/∃ l c,x=.lst l/\st[l]?=some c/\ds=c.2/\ok=fun s=>s[l]?=some c)/\∀ d∈ds,∃ a b,d=.tup [a,b]:=by
 unfold Q8 at h;split at h
 ·split at h
  ·rename_i ha
   cases h;exact⟨.inl ⟨rfl,rfl⟩,Zdj ha⟩
  ·exact Zb h
 ·split at h
  ·rename_i c hc
   split at h
   ·rename_i ha
    cases h;exact⟨.inr ⟨_,c,rfl,hc,rfl,rfl⟩,Zdj ha⟩
   ·exact Zb h
  ·exact Zb h
 ·exact Zb h
theorem ZbG{tg:Expr}{xs:Li Str}(h:tgN tg=some xs):(∃ x px,tg=.Name x px/\xs=[x])\/∃ x y px py k tp,tg=.Tuple [.Name x px,.Name y py] k tp/\xs=[x,y]:=by
 unfold tgN at h;split at h
 ·cases h;exact .inl ⟨_,_,rfl,rfl⟩
 ·rename_i es k tp
  have nm:∀ {e:Expr}{x:Str},nmE e=some x->∃ p,e=.Name x p:=fun {e x} h=>by
   unfold nmE at h;split at h
   ·cases h;exact⟨_,rfl⟩
   ·exact Zb h
  cases es with
  |nil=>exact Zb h
  |cons a es=>cases es with
   |nil=>exact Zb h
   |cons b es=>cases es with
    |cons _ _=>exact Zb h
    |nil=>
     refine Yl (P:=fun xs=>_\/∃ x y px py k' tp',Expr.Tuple [a,b] k tp=.Tuple [.Name x px,.Name y py] k' tp'/\xs=[x,y]) h fun x y hx hy=>?_
     obtain⟨px,rfl⟩:=nm hx;obtain⟨py,rfl⟩:=nm hy;exact .inr ⟨x,y,px,py,k,tp,rfl,rfl⟩
 ·exact Zb h
inductive CSh(G:Gs)(n:Nat)(sc:Scope)(N:List Str)(elt:Expr)(sc2:Scope):List Comprehension->CE->Prop
 |mk {tg it:Expr}{ifs:List Expr}{xs:List Str}{fr:List Nat}{r:Option (Option Bool)}{ci ce cc:CE} (htg:tgN tg=some xs) (hsc:Xr sc sc2 xs=true) (hfr:XD N (ZV sc2)=some fr) (hi:itC G sc it (cE G n sc N) xs=some (r,ci)) (hce:cE G n sc2 (xs++ZV sc2) elt=some ce) (hcc:(ifs=[]/\cc=.cst (.bl true))\/∃ e,ifs=[e]/\cE G n sc2 (xs++ZV sc2) e=some cc):CSh G n sc N elt sc2 [⟨tg,it,ifs,0⟩] (mkC r fr ci ce cc)
theorem Zeg{G:Gs}{n:Nat}{sc:Scope}{N:Li Str}{elt:Expr}{gens:Li Comprehension}{sc2:Scope}{pos:Pos}{c:CE}(h:cE G (n+1) sc N (.ListComp elt gens sc2 pos)=some c):CSh G n sc N elt sc2 gens c:=by
 replace h:ZfY G sc sc2 N (cE G n sc N) (cE G n sc2) elt gens=some c:=h;have no:∀ {P:Prop},(none:Ot CE)=some c->P:=fun z=>nomatch z
 cases gens with
 |nil=>exact no h
 |cons g gs=>
  obtain⟨tg,it,ifs,k⟩:=g;cases k with
  |negSucc _=>cases gs<;>exact no h
  |ofNat m=>cases m with
   |succ _=>cases gs<;>exact no h
   |zero=>cases gs with
    |cons _ _=>exact no h
    |nil=>
     replace h:(match tgN tg with
      |none=>none
      |some xs=>og (Xr sc sc2 xs=true) (o3 (fun fr p (q:CE×CE)=>mkC p.1 fr p.2 q.1 q.2) (XD N (ZV sc2)) (itC G sc it (cE G n sc N) xs) (o2 Prod.mk (cE G n sc2 (xs++ZV sc2) elt) (ifC (cE G n sc2 (xs++ZV sc2)) ifs))))=some c:=h
     cases htg:tgN tg with
     |none=>rw[htg]at h;cases h
     |some xs=>
      rw[htg]at h;refine XC h fun hsc h=>WE (P:=CSh G n sc N elt sc2 _) h fun fr p q hfr hi hq=>Yl (P:=fun q:CE×CE=>CSh G n sc N elt sc2 _ (mkC p.1 fr p.2 q.1 q.2)) hq fun ce cc hce hcc=>.mk htg hsc hfr hi hce ?_
      cases ifs with
      |nil=>cases hcc;exact .inl ⟨rfl,rfl⟩
      |cons a l=>cases l with
       |nil=>exact .inr ⟨a,rfl,hcc⟩
       |cons _ _=>exact Zb hcc
inductive CR(b:D->List (Option D))(w:D->Za->Option (List D×(Za->Prop)))(fr:List Nat)(fi fe fc:Ev)(ρ:Env)(st:Za):D->Za->Prop
 |mk {x:D}{st1 st2:Za}{ds ys:List D}{ok:Za->Prop} (q1:fi ρ st=some (x,st1)) (q2:w x st1=some (ds,ok)) (hz:ds.length<=1000) (q3:Z8 ok (fun d s=>fe (Yh b ρ fr d) s) (fun d s=>fc (Yh b ρ fr d) s) ds st1=some (ys,st2)):CR b w fr fi fe fc ρ st (.lst st2.length) (st2++[(true,ys)])
theorem Y0{b:D->Li (Ot D)}{w:D->Za->Ot (Li D×(Za->Prop))}{fr:Li Nat}{fi fe fc:Ev}{ρ:Env}{st:Za}{d:D}{st':Za}(e:Xq b w fr fi fe fc ρ st=some (d,st')):CR b w fr fi fe fc ρ st d st':=by
 unfold Xq at e;split at e
 ·split at e
  ·split at e
   ·split at e
    ·cases e;exact .mk ‹_› ‹_› ‹_› ‹_›
    ·exact Zb e
   ·exact Zb e
  ·exact Zb e
 ·exact Zb e
inductive CIt(X:Cx)(pQ:List (Addr×Obj))(s:Shared)(σ:L2.St)(ρ:Env)(tg it:Expr)(xs:List Str)(F:Nat->Fn)(fr:List Nat)(ce cc:CE)(Q:VK):Prop
 |mk {bd:D->List (Option D)}{ds:List D}{ok:Za->Prop}{st1 st2:Za}{ys:List D} (B:Ww X.K tg xs bd ds) (hz:ds.length<=1000) (q3:Z8 ok (fun d s=>ev F ce (Yh bd ρ fr d) s) (fun d s=>ev F cc (Yh bd ρ fr d) s) ds st1=some (ys,st2)) (hp:Zn it=true) (pi:wpAny (model X.prog X.w) X.A (eval it X.env) (fun v s1=>wpAny (model X.prog X.w) X.A (pyIter v) (PIE X pQ σ tg (Jb X σ ρ ds ok st1 st2 ys Q)) X.xe s1) X.xe s):CIt X pQ s σ ρ tg it xs F fr ce cc Q
theorem Wq{α β:Type}{f:α->β}{o:Ot α}{b:β}(h:o.map f=some b):∃ a,o=some a/\f a=b:=by
 cases o with
 |none=>exact Zb h
 |some a=>exact⟨a,rfl,by cases h;rfl⟩
theorem Zee{G:Gs}{F:Nat->Fn}{n:Nat}(ihE:Zw G F n){X:Cx}{sc:Scope}{N:Li Str}(Kx:Cxt X G F sc N){tg it:Expr}{xs:Li Str}{fr:Li Nat}{r:Ot (Ot Bool)}{ci ce cc:CE}(htg:tgN tg=some xs)(hi:itC G sc it (cE G n sc N) xs=some (r,ci)){pQ:Li (Ad×Obj)}{s:Sd}{σ:L2.St}{H:Hp}{Q:VK}(I:L2.Inv X pQ σ H s){ad:Li Ad}{ρ:Env}{st:Za}{d:D}{st':Za}(E:EnvOk X.K ad H σ ρ)(S:StOk X.K ad H st)(e:ev F (mkC r fr ci ce cc) ρ st=some (d,st'))(p:Post X.K ad H d st' Q):CIt X pQ s σ ρ tg it xs F fr ce cc Q:=by
 rcases ZbG htg with⟨x,px,rfl,rfl⟩|⟨x,y,px,py,k,tp,rfl,rfl⟩
 ·replace hi:(match Z6 G sc it with
   |some a=>(cE G n sc N a).map fun c=>(some (some true),c)
   |none=>match Vd it with
    |some x=>(cE G n sc N x).map fun c=>(some (some false),.rng2 c .aN)
    |none=>(cE G n sc N it).map fun c=>(some (some false),c))=some (r,ci):=hi
  split at hi
  ·rename_i a ha
   obtain⟨ca,q,hi⟩:=Wq hi;cases hi;obtain⟨hp,pi⟩:=WT (tg:=.Name x px) Kx ha (Zh q) (ihE X sc N Kx a _ q).pe;cases Y0 e with
   |@mk x0 st1 st2 ds ys ok q1 q2 hz q3=>
    refine .mk Vi hz q3 hp (pi pQ s σ H _ I ?_);cases x0 with
    |int k=>
     have q2:(match (if k < 2 ^ 62/\-(2 ^ 62)<=k then some ((List.range k.toNat).map fun(k:Nat)=>D.int (k:Int)) else none) with
      |some xs=>some (xs,fun _=>True)
      |none=>none)=some (ds,ok):=q2
     by_cases hk:k < 2 ^ 62/\-(2 ^ 62)<=k
     ·rw[if_pos hk]at q2
      cases q2;exact Zb1 hk E S q1 p
     ·rw[if_neg hk]at q2
      cases q2
    |_=>exact Zb q2
  ·split at hi
   ·rename_i y hy
    obtain⟨ca,q,hi⟩:=Wq hi;cases hi;obtain⟨y,yp,ap,cp,rfl,rfl,hl⟩:=J2 hy;cases Y0 e with
    |@mk x0 st1 st2 ds ys ok q1 q2 hz q3=>exact .mk Vi hz q3 rfl (Zfb (ihE X sc N Kx _ _ q).pe rfl hl pQ s σ H _ I (Za5 E S q1 q2 p))
   ·obtain⟨ca,q,hi⟩:=Wq hi
    cases hi;cases Y0 e with
    |@mk x0 st1 st2 ds ys ok q1 q2 hz q3=>
     refine .mk Vi hz q3 (Zh q) ?_;cases x0 with
     |tup xs=>cases q2;exact pi_tup (ihE X sc N Kx it _ q).pe pQ s σ H _ I (Qp E S q1 p)
     |lst l=>
      have q2:(match st1[l]? with
       |some c=>some (c.2,fun s=>s[l]?=some c)
       |none=>none)=some (ds,ok):=q2
      cases q4:st1[l]? with
      |none=>rw[q4]at q2;cases q2
      |some c0=>
       rw[q4]at q2;cases q2;exact pi_list (ihE X sc N Kx it _ q).pe pQ s σ H _ I (Qo E S q1 q4 p)
     |str z=>exact Zb q2
     |dct ks vs=>
      have no:∀ {v:V}{ad1:Li Ad}{H1:Hp},Den X.K ad1 H1 v (.dct ks vs)->False:=fun {v ad1 H1} d1=>by
       obtain⟨a,ws,_,_,hl,r⟩:=d1.ofDct;cases ks with
       |cons _ _=>exact Zb q2
       |nil=>
        cases ws with
        |cons _ _=>cases hl
        |nil=>cases r;cases q2
      exact thn ((ihE X sc N Kx it _ q).pe pQ s σ H (fun _ _=>False) I ⟨ad,ρ,st,_,st1,E,S,q1,fun v ad1 H1 x1 S1 d1=>no d1⟩) fun v s1 ⟨x,H1,I1,r1,z⟩=>z.elim
     |_=>exact Zb q2
 ·replace hi:(match W5 G sc it with
   |some a=>(cE G n sc N a).map fun c=>(some none,c)
   |none=>(cE G n sc N it).map fun c=>(none,c))=some (r,ci):=hi
  split at hi
  ·rename_i a ha
   obtain⟨ca,q,hi⟩:=Wq hi;cases hi;cases Y0 e with
   |mk q1 q2 hz q3=>
    obtain⟨hp,pi⟩:=Vs (elts:=[.Name x px,.Name y py]) (kk:=k) (tp:=tp) Kx ha (Zh q) (ihE X sc N Kx a _ q).pe;exact .mk (Vj (ZbL q2)) hz q3 hp (pi pQ s σ H _ I (Za4 E S q1 q2 p))
  ·obtain⟨ca,q,hi⟩:=Wq hi
   cases hi;cases Y0 e with
   |mk q1 q2 hz q3=>
    obtain⟨hw,hm⟩:=ZbM q2;rcases hw with⟨rfl,rfl⟩|⟨l,c0,rfl,q4,rfl,rfl⟩
    ·exact .mk (Vj hm) hz q3 (Zh q) (pi_tup (ihE X sc N Kx it _ q).pe pQ s σ H _ I (Qp E S q1 p))
    ·exact .mk (Vj hm) hz q3 (Zh q) (pi_list (ihE X sc N Kx it _ q).pe pQ s σ H _ I (Qo E S q1 q4 p))
theorem Zab{G:Gs}{F:Nat->Fn}{n:Nat}(ihE:Zw G F n){X:Cx}{sc:Scope}{N:Li Str}(Kx:Cxt X G F sc N){elt:Expr}{gens:Li Comprehension}{sc2:Scope}{pos:Pos}{c:CE}(h:cE G (n+1) sc N (.ListComp elt gens sc2 pos)=some c){pQ:Li (Ad×Obj)}{s:Sd}{σ:L2.St}{H:Hp}{Q:VK}(I:L2.Inv X pQ σ H s)(hq:tE X.K (ev F c) σ H Q){use:Ot (vL->Sem Unit)}{R0:vL->Sd->Prop}(hend:∀ C dd s5 H5 m',s5.heap.Ns C m'->(∀ h',Heap.SameBut C s5.heap h'->L2.Inv X pQ σ H5 { s5 with heap:=h' })->FpOk X pQ H5 C->Q (.ref dd) H5->compPost (model X.prog X.w) X.A X.xe use R0 (.ref dd) C (.ok .next) s5) :
  ∃ tg it ifs,gens=[⟨tg,it,ifs,0⟩]/\∀ pos',wpAny (model X.prog X.w) X.A (comprehension (.ListComp elt [⟨tg,it,ifs,0⟩] sc2 pos) sc2 X.env pos' (newList []) false (eval it X.env) use) R0 X.xe s:=by
 cases Zeg h with
 |@mk tg it ifs xs fr r ci ce cc htg hsc hfr hi hce hcc=>
  obtain⟨h1,h2,h3,h4,h5,h6⟩:=YF hsc;obtain⟨ad,ρ,st,d,st',E,S,e,p⟩:=hq;obtain⟨cl,ec,c1,c2⟩:=Qq (env:=X.env) (sc:=sc2) (fun y hy hf=>by
   have hm:(y.1,NameKind.free)∈sc2.names:=by rw[<-hf];exact hy
   exact I.ok.has y.1 (Kx.cel y.1 (h6 y.1 (mem_frees.mpr hm)).1))
  refine⟨tg,it,ifs,rfl,fun pos'=>?_⟩
  cases Zee ihE Kx htg hi I E S e p with
  |mk B hz q3 hp pi=>
   refine wpAny_comprehension_free (use:=use) rfl (Yk hp) ec h1 h4 (thn pi fun v s1 h1'=>thn h1' fun itv s2 h2'=>?_)
   obtain⟨ita,fp,tn,J,H2,rfl,I2,T,t2,f2,ad1,Good,gm,gw,go,stop,yl,E2,S2,g2,p2⟩:=h2';exact Za8 Kx ihE hsc hfr hce hcc c1 c2 Good gm gw go stop yl I2 B T t2 f2 E2 S2 g2 q3 hz p2 hend
theorem Zef{G:Gs}{F:Nat->Fn}:Xo G F:=by
 intro n ihE;refine⟨fun X sc N Kx elt gens sc2 pos c h=>SE.of ?_,fun X sc N K y i p elt gens sc2 epos pos c hi h hsw=>?_⟩
 ·intro pQ s σ H Q I hq
  obtain⟨tg,it,ifs,rfl,go⟩:=Zab ihE Kx h I hq (use:=none) (R0:=EP X pQ σ Q) fun C dd s5 H5 m' hn hI _ q=>⟨m',hn,fun h' sb=>⟨.ref dd,H5,hI h' sb,rfl,q⟩⟩
  rw[eval_ListComp];exact go _
 ·intro pQ s σ H D I hq
  obtain⟨tg,it,ifs,rfl,go⟩:=Zab ihE K.toCxt h I hq (use:=some (assign (.Name y p) X.env)) (R0:=fun _ s'=>SP X pQ D .next s') fun C dd s5 H5 m' hn hI fo q=>by
   have I5:=hI s5.heap (Heap.SameBut.refl _ _);show wpAny _ X.A (assign (.Name y p) X.env (.ref dd)) _ _ s5;refine wpAny_assign_Name (store_ok2 (v:=.ref dd) I5 (by rw[K.hN];exact K.nd) (by rw[K.hN];exact X6 hi) (K.loc _ (UM hi)) rfl (fun s6 I6 ⟨a,sb,ha⟩=>?_) (.inl (K.fn _)))
   have ne:C≠a:=by
    rcases ha with z|z
    ·rw[z];exact fo.2.1
    ·exact fun w=>fo.2.2.2.2.1 _ _ z w.symm
   exact⟨m',hn.sameBut sb ne,fun h3 sb3=>⟨_,H5,I6.turned (t':=s6.toks) (fun b o hb e=>sb3.extBut b o hb e) fo.1 fo.2.1 fo.2.2.2.1 fo.2.2.2.2.1 fo.2.2.2.2.2,q⟩⟩
  rw[exec_Assign_Name_used _ _ _ _ hsw];refine wpAny_bind (wpAny_standAt (wpAny_bind ?_));show wpAny _ X.A (do let _ <-comprehension (.ListComp elt [⟨tg,it,ifs,0⟩] sc2 epos) sc2 X.env _ (newList []) false (eval it X.env) (some (assign (.Name y p) X.env))) _ _ s
  exact wpAny_bind (wpAny_mono (go _) (fun _ s' hq=>wpAny_pure (wpAny_pure hq)) fun _ _ e=>e)
end Dp


namespace Dp
open PySem

inductive P where
 |non|bl (b:Bool)|int (i:Int)|str (x:Str)|tup (xs:List P)|lst (m:Bool) (xs:List P)|dct (ks:List Str) (vs:List P)|obj (i:Nat)|kt (ks:List Str)|dic (m:Bool) (xs:List P)

mutual
noncomputable def noL:P->Bool
 |.tup xs=>X7 xs
 |.lst _ _=>false
 |.dic _ _=>false
 |.dct _ vs=>X7 vs
 |_=>true
noncomputable def X7:Li P->Bool
 |[]=>true
 |x :: xs=>noL x&&X7 xs
end
mutual
noncomputable def ofD:D->Ot P
 |.non=>some .non
 |.bl b=>some (.bl b)
 |.int i=>some (.int i)
 |.str x=>some (.str x)
 |.tup xs=>(WF xs).map .tup
 |.kt ks=>some (.kt ks)
 |_=>none
noncomputable def WF:Li D->Ot (Li P)
 |[]=>some []
 |x :: xs=>match ofD x,WF xs with
  |some y,some ys=>some (y :: ys)
  |_,_=>none
end
mutual
noncomputable def ZF:P->P->Bool
 |.non,.non=>true
 |.bl a,.bl b=>a==b
 |.int a,.int b=>decide (a=b)
 |.str a,.str b=>decide (a=b)
 |.tup a,.tup b=>YZ a b
 |_,_=>false
noncomputable def YZ:Li P->Li P->Bool
 |[],[]=>true
 |x :: xs,y :: ys=>ZF x y&&YZ xs ys
 |_,_=>false
end
mutual
noncomputable def okP:Nat->P->Bool
 |_,.non=>true
 |_,.int _=>true
 |_,.str _=>true
 |n+1,.tup xs=>Yy n xs
 |_,_=>false
noncomputable def Yy:Nat->Li P->Bool
 |_,[]=>true
 |n,x :: xs=>okP n x&&Yy n xs
end
noncomputable def ZaA(_ _:Li P):Ot Bool:=none
noncomputable def scP:P->Ot Sc
 |.non=>some .non
 |.bl b=>some (.bl b)
 |.int i=>some (.int i)
 |.str x=>some (.str x)
 |_=>none
noncomputable def ZgK(xs ys:Li P):Ot Bool:=if (xs.isEmpty||ys.isEmpty)=true then some (xs.isEmpty&&ys.isEmpty) else if Yy 7 xs&&Yy 7 ys then some (YZ xs ys) else none
noncomputable def Zke(xs:Li P):P->Ot Bool
 |.tup ys=>if okP 8 (.tup xs)&&okP 8 (.tup ys) then some (YZ xs ys) else ZaA xs ys
 |_=>none
noncomputable def Zkd(xs:Li P):P->Ot Bool
 |.lst _ ys=>ZgK xs ys
 |_=>none
noncomputable def eqP(x y:P):Ot Bool:=match x with
 |.tup xs=>Zke xs y
 |.lst _ xs=>Zkd xs y
 |x=>(o2 Zca (scP x) (scP y)).join
noncomputable def Zgc(xs:Li P)(j:Int):Ot P:=match xs with
 |[x]=>if j<=1000/\-1000<=j then some (.tup (List.replicate j.toNat x)) else none
 |_=>none
noncomputable def Zgb(m:Bool)(xs:Li P)(j:Int):Ot P:=match m,xs with
 |true,[x]=>if j<=1000/\-1000<=j then some (.lst true (List.replicate j.toNat x)) else none
 |_,_=>none
noncomputable def Wh(op:Operator)(x y:P):Ot P:=
 match x,y with
 |.int i,.int j=>match UH op i j with
  |some k=>some (.int k)
  |none=>none
 |.tup xs,.tup ys=>if Xi op=true/\xs.length+ys.length<=Zs then some (.tup (xs++ys)) else none
 |.tup xs,.int j=>if WQ op=true then Zgc xs j else none
 |.lst _ xs,.lst _ ys=>if Xi op=true/\xs.length+ys.length<=Zs then some (.lst true (xs++ys)) else none
 |.lst m xs,.int j=>if WQ op=true then Zgb m xs j else none
 |.str x,.str y=>if Xi op=true/\x.length+y.length<=Zs then some (.str (x++y)) else none
 |_,_=>none
noncomputable def inP:Int->Li P->Ot Bool
 |_,[]=>some false
 |k,.int i :: r=>(inP k r).map fun b=>decide (i=k)||b
 |_,_=>none
noncomputable def Zbp:Str->Li P->Ot Bool
 |_,[]=>some false
 |k,.str i :: r=>(Zbp k r).map fun b=>decide (i=k)||b
 |_,_=>none
noncomputable def YS:Li Str->Li P->Str->Ot P
 |k :: ks,v :: vs,x=>if k=x then some v else YS ks vs x
 |_,_,_=>none
noncomputable def Zc2(f:Int->Int->Bool):P->P->Ot Bool
 |.int i,.int j=>some (f i j)
 |_,_=>none
noncomputable def XX:Li P->Li P->Ot Bool
 |x :: xs,y :: ys=>if ZF x y=true then XX xs ys else match x,y with
  |.int i,.int j=>some (decide (i < j))
  |.str a,.str b=>some (decide (a.cps.toList < b.cps.toList))
  |_,_=>none
 |[],ys=>some (decide (0 < ys.length))
 |_ :: _,[]=>some false
noncomputable def ltP(x y:P):Ot Bool:=match x,y with
 |.tup xs,.tup ys=>if okP 8 (.tup xs)&&okP 8 (.tup ys) then XX xs ys else none
 |x,y=>Zc2 (fun i j=>decide (i < j)) x y
noncomputable def Zg0(x y:P):Ot Bool:=ltP x y
noncomputable def ZgV(x y:P):Ot Bool:=match x,y with
 |.int k,.lst _ xs=>inP k xs
 |.str k,.lst _ xs=>Zbp k xs
 |.tup ks,.lst _ xs=>if okP 8 (.tup ks)&&Yy 8 xs then some (xs.any fun d=>ZF d (.tup ks)) else none
 |.int k,.tup xs=>inP k xs
 |.str k,.tup xs=>Zbp k xs
 |.str k,.dct ks vs=>some (YS ks vs k).isSome
 |.str k,.str x=>some (Zi6 x k)
 |_,_=>none
noncomputable def niP(x y:P):Ot Bool:=match y with
 |.dct _ _=>none
 |y=>(ZgV x y).map not
noncomputable def Zkj:P->Ot Bool
 |.non=>some true
 |.int _=>some false
 |.str _=>some false
 |.bl _=>some false
 |.tup _=>some false
 |.lst _ _=>some false
 |.dct _ _=>none
 |.obj _=>none
 |.kt _=>none
 |.dic _ _=>none
noncomputable def Zki(b:Bool):P->Ot Bool
 |.bl a=>some (a==b)
 |_=>none
noncomputable def ZgX(x:P):P->Ot Bool
 |.non=>Zkj x
 |.bl b=>Zki b x
 |_=>none
noncomputable def ZgG(op:CmpOp)(x y:P):Ot Bool:=
 match op with
 |.Lt=>Zg0 x y
 |.LtE=>Zc2 (fun i j=>decide (i<=j)) x y
 |.Gt=>Zc2 (fun i j=>decide (j < i)) x y
 |.GtE=>Zc2 (fun i j=>decide (j<=i)) x y
 |.Eq=>eqP x y
 |.NotEq=>(eqP x y).map not
 |.In=>ZgV x y
 |.NotIn=>niP x y
 |.Is=>ZgX x y
 |.IsNot=>(ZgX x y).map not
noncomputable def atP(xs:Li P)(i:Int):Ot P:=(ixN xs.length i).bind fun j=>xs[j]?
noncomputable def ixP:P->P->Ot P
 |.tup xs,.int i=>atP xs i
 |.lst _ xs,.int i=>atP xs i
 |.dct ks vs,.str k=>YS ks vs k
 |.kt ks,.int i=>atP (ks.map .str) i
 |.str x,.int i=>if x.length<=Zs then atP ((chS x).map .str) i else none
 |_,_=>none
noncomputable def Vq(xs:Li P)(lo hi:Ot Int):Li P:=(xs.drop (sIx xs.length 0 lo)).take (sIx xs.length xs.length hi - sIx xs.length 0 lo)
noncomputable def Ym(x:P)(lo hi:Ot Int):Ot P:=
 match x with
 |.tup xs=>if sIx xs.length 0 lo=0/\sIx xs.length xs.length hi=xs.length then some (.tup xs) else some (.tup (Vq xs lo hi))
 |.lst _ xs=>some (.lst true (Vq xs lo hi))
 |_=>none
noncomputable def XF:P->P->P->Ot P
 |x,.non,.non=>Ym x none none
 |x,.int i,.non=>Ym x (some i) none
 |x,.non,.int j=>Ym x none (some j)
 |x,.int i,.int j=>Ym x (some i) (some j)
 |_,_,_=>none
noncomputable def Jy:P->Ot P
 |.tup xs=>some (.int xs.length)
 |.lst _ xs=>some (.int xs.length)
 |.kt ks=>some (.int ks.length)
 |.str x=>if x.length<=Zs then some (.int x.length) else none
 |_=>none
noncomputable def ZgY(T:Ty):P->Ot Bool
 |.int _=>some (decide (T=.int))
 |.bl _=>some (decide (T=.int)||decide (T=.bool))
 |.str _=>some (decide (T=.str))
 |.tup _=>some (decide (T=.tuple))
 |.non=>some false
 |_=>none
noncomputable def V5(T:Ty)(p:P):Ot P:=(ZgY T p).map .bl
noncomputable def Ze0:P->Ot P
 |.int i=>some (.int (-i))
 |_=>none
noncomputable def ZbC:P->Ot P
 |.bl k=>some (.bl (!k))
 |_=>none
noncomputable def ZU(op:CmpOp)(x y:P):Ot P:=(ZgG op x y).map .bl
noncomputable def JD:P->Ot P
 |.tup xs=>some (.lst true xs)
 |_=>none
noncomputable def Vp:P->P->Ot P
 |x,.tup xs=>if xs.length < 1000 then some (.tup (x :: xs)) else none
 |_,_=>none
noncomputable def Us:P->Ot P
 |.int i=>some (.int i)
 |_=>none
noncomputable def Wr(F:Nat->Li P->Ot P)(tab:Li (Nat×Nat)):P->P->Ot P
 |.obj i,.tup xs=>match tab.lookup i with
  |some j=>F j (.obj i :: xs)
  |none=>none
 |_,_=>none
noncomputable def Xw(k:P):Li P->Ot Nat
 |[]=>none
 |a :: r=>if ZF a k=true then some 0 else (Xw k r).map (·+1)
noncomputable def ZbH:P->P->Ot P
 |.lst _ xs,.tup [.tup ks]=>if (okP 8 (.tup ks)&&Yy 8 xs)=true then (match Xw (.tup ks) xs with
  |some i=>some (.int (i:Int))
  |none=>none) else none
 |.kt ks,.tup [.str k]=>match UL k ks with
  |some i=>some (.int (i:Int))
  |none=>none
 |_,_=>none
noncomputable def Vl(g:Li P->Ot P)(ds:Li D):P->Ot P
 |.tup xs=>match WF ds with
  |some es=>g (xs++es)
  |none=>none
 |_=>none
noncomputable def WK:P->Ot P
 |.tup xs=>some (.tup xs)
 |.lst _ xs=>some (.tup xs)
 |_=>none
noncomputable def QL:P->Ot P
 |.tup xs=>some (.lst true xs)
 |.lst _ xs=>some (.lst true xs)
 |_=>none
noncomputable def Jt:P->Ot P
 |.int i=>some (.int i)
 |.bl true=>some (.int 1)
 |.bl false=>some (.int 0)
 |_=>none
noncomputable def ZaI(_ _:P):Ot P:=none
noncomputable def Zbz:P->P->Ot P
 |.int i,.int j=>some (.int (if j < i then j else i))
 |_,_=>none
noncomputable def Zby:P->P->Ot P
 |.int i,.int j=>some (.int (if j > i then j else i))
 |_,_=>none
noncomputable def JT:Li P->Ot (Li P)
 |[.int i,.int j]=>some (if j < i then [.int j,.int i] else [.int i,.int j])
 |_=>none
noncomputable def ZbF(k:Bool)(xs:Li P):Ot (Li P):=if k then JT xs else some xs.reverse
noncomputable def rsP(k:Bool):P->Ot P
 |.lst _ xs=>(ZbF k xs).map fun ys=>.lst true ys
 |_=>none
noncomputable def ZeI(ng:Bool):P->P->Ot P
 |.int x,.int n=>if -(2 ^ 62)<=n/\n < 2 ^ 62 then some (.bl (ng != decide (0<=x/\x < n))) else none
 |_,_=>none
noncomputable def UU(ks:Li Str)(ds:Li D):P->Ot P
 |.str k=>(ZK ks ds k).bind ofD
 |_=>none
noncomputable def Zep:P->P->P->Ot P
 |.dct ks vs,.str k,d=>some ((YS ks vs k).getD d)
 |_,_,_=>none
noncomputable def Zae(ks:Li Str):P->Ot P
 |.tup vs=>if ks.length=vs.length/\(ks.Nodup/\ks≠[])/\ks.length<=15 then some (.dct ks vs) else none
 |_=>none
noncomputable def Ya(n:Int):Li P:=(List.range n.toNat).map fun(k:Nat)=>P.int (k:Int)
noncomputable def VB(rng:Bool)(x:P):Ot (Li P):=
 match rng,x with
 |true,.int n=>if n < 2 ^ 62/\-(2 ^ 62)<=n then some (Ya n) else none
 |false,.tup xs=>some xs
 |_,_=>none
noncomputable def Yr(f c:P->Ot P):Li P->Ot (Li P)
 |[]=>some []
 |x :: xs=>match c x with
  |some (.bl true)=>match f x with
   |some y=>match Yr f c xs with
    |some ys=>some (y :: ys)
    |none=>none
   |none=>none
  |some (.bl false)=>Yr f c xs
  |_=>none
noncomputable def YT(rng:Bool)(x:P):Ot (Li P):=match VB rng x with
 |some xs=>some xs
 |none=>match rng,x with
  |false,.lst _ xs=>some xs
  |_,_=>none
noncomputable abbrev Zq:=Li (Ot P)
noncomputable abbrev PEv:=Zq->Ot P
noncomputable def pq1(fa:PEv)(g:P->Ot P):PEv:=fun π=>match fa π with
 |some x=>g x
 |none=>none
noncomputable def pq2(fa fb:PEv)(g:P->P->Ot P):PEv:=fun π=>match fa π with
 |some x=>match fb π with
  |some y=>g x y
  |none=>none
 |none=>none
noncomputable def pq3(fa fb fc:PEv)(g:P->P->P->Ot P):PEv:=fun π=>match fa π with
 |some x=>match fb π with
  |some y=>match fc π with
   |some z=>g x y z
   |none=>none
  |none=>none
 |none=>none
noncomputable def YE(fc ft ff:PEv):PEv:=fun π=>match fc π with
 |some (.bl true)=>ft π
 |some (.bl false)=>ff π
 |_=>none
noncomputable def Wt(i:Nat):PEv:=fun π=>match π[i]? with
 |some (some p)=>some p
 |_=>none
noncomputable def Y5(π:Zq)(fr:Li Nat)(p:P):Zq:=some p :: fr.map fun i=>(π[i]?).join
noncomputable def Zdg(p:P):Li (Ot P):=[some p]
noncomputable def Ws:P->Li (Ot P)
 |.tup [a,b]=>[some a,some b]
 |_=>[]
noncomputable def YK:Nat->Li P->Li P
 |_,[]=>[]
 |k,x :: xs=>.tup [.int (k:Int),x] :: YK (k+1) xs
noncomputable def WM:P->Ot (Li P)
 |.tup xs=>some (YK 0 xs)
 |.lst _ xs=>some (YK 0 xs)
 |_=>none
noncomputable def QE:P->Bool
 |.tup [_,_]=>true
 |_=>false
noncomputable def Qf:P->Ot (Li P)
 |.tup xs=>if xs.all QE=true then some xs else none
 |.lst _ xs=>if xs.all QE=true then some xs else none
 |_=>none
noncomputable def Ye(b:P->Li (Ot P))(π:Zq)(fr:Li Nat)(p:P):Zq:=b p++fr.map fun i=>(π[i]?).join
noncomputable def ZO(b:P->Li (Ot P))(w:P->Ot (Li P))(fr:Li Nat)(fi fe fc:PEv):PEv:=fun π=>match fi π with
 |some x=>match w x with
  |some xs=>if xs.length<=1000 then
    match Yr (fun p=>fe (Ye b π fr p)) (fun p=>fc (Ye b π fr p)) xs with
    |some ys=>some (.lst true ys)
    |none=>none
   else none
  |none=>none
 |none=>none
noncomputable def pe(F:Nat->Li P->Ot P):CE->PEv
 |.var i=>Wt i
 |.cst d=>fun _=>ofD d
 |.bin op a b=>pq2 (pe F a) (pe F b) (Wh op)
 |.neg a=>pq1 (pe F a) Ze0
 |.cmp op a b=>pq2 (pe F a) (pe F b) (ZU op)
 |.not a=>pq1 (pe F a) ZbC
 |.and a b=>YE (pe F a) (pe F b) (fun _=>some (.bl false))
 |.or a b=>YE (pe F a) (fun _=>some (.bl true)) (pe F b)
 |.ife c a b=>YE (pe F c) (pe F a) (pe F b)
 |.tupE a=>pe F a
 |.lstE a=>pq1 (pe F a) JD
 |.aN=>fun _=>some (.tup [])
 |.aC a r=>pq2 (pe F a) (pe F r) Vp
 |.ix a b=>pq2 (pe F a) (pe F b) ixP
 |.slice a lo hi=>pq3 (pe F a) (pe F lo) (pe F hi) XF
 |.nop=>fun _=>some .non
 |.part a=>pq1 (pe F a) Us
 |.call f a ds=>pq1 (pe F a) (Vl (F f) ds)
 |.len a=>pq1 (pe F a) Jy
 |.tOf a=>pq1 (pe F a) WK
 |.listOf a=>pq1 (pe F a) QL
 |.intOf a=>pq1 (pe F a) Jt
 |.min a b=>pq2 (pe F a) (pe F b) Zbz
 |.max a b=>pq2 (pe F a) (pe F b) Zby
 |.isi T a=>pq1 (pe F a) (V5 T)
 |.rs k a=>pq1 (pe F a) (rsP k)
 |.inv _=>fun _=>none
 |.tupR _=>fun _=>none
 |.look ks ds a=>pq1 (pe F a) (UU ks ds)
 |.dget a k d=>pq3 (pe F a) (pe F k) (pe F d) Zep
 |.inR ng a b=>pq2 (pe F a) (pe F b) (ZeI ng)
 |.all _=>fun _=>none
 |.any _=>fun _=>none
 |.comp rng fr it elt cnd=>ZO Zdg (YT rng) fr (pe F it) (pe F elt) (pe F cnd)
 |.comp2 fr it elt cnd=>ZO Ws WM fr (pe F it) (pe F elt) (pe F cnd)
 |.compT fr it elt cnd=>ZO Ws Qf fr (pe F it) (pe F elt) (pe F cnd)
 |.lstR _ _=>fun _=>none
 |.new i=>fun _=>some (.obj i)
 |.meth tab o a=>pq2 (pe F o) (pe F a) (Wr F tab)
 |.isc _ _=>fun _=>none
 |.tix o a=>pq2 (pe F o) (pe F a) ZbH
 |.dict ks a=>pq1 (pe F a) (Zae ks)
 |.dnew=>fun _=>none
 |.strOf _=>fun _=>none
 |.joinE _ _=>fun _=>none
 |.starts _ _=>fun _=>none
 |.rng2 a b=>pq2 (pe F a) (pe F b) ZaI
 |.srt _=>fun _=>none

noncomputable def noM(M:Li Nat):CE->Bool
 |.var i=>!M.contains i
 |.cst _=>true
 |.bin _ a b=>noM M a&&noM M b
 |.neg a=>noM M a
 |.cmp _ a b=>noM M a&&noM M b
 |.not a=>noM M a
 |.and a b=>noM M a&&noM M b
 |.or a b=>noM M a&&noM M b
 |.ife c a b=>noM M c&&(noM M a&&noM M b)
 |.tupE a=>noM M a
 |.lstE a=>noM M a
 |.aN=>true
 |.aC a r=>noM M a&&noM M r
 |.ix a b=>noM M a&&noM M b
 |.slice a lo hi=>noM M a&&(noM M lo&&noM M hi)
 |.nop=>true
 |.part a=>noM M a
 |.call _ a _=>noM M a
 |.len a=>noM M a
 |.tOf a=>noM M a
 |.listOf a=>noM M a
 |.intOf a=>noM M a
 |.min a b=>noM M a&&noM M b
 |.max a b=>noM M a&&noM M b
 |.isi _ a=>noM M a
 |.rs _ a=>noM M a
 |.inv a=>noM M a
 |.tupR a=>noM M a
 |.look _ _ a=>noM M a
 |.dget a k d=>noM M a&&(noM M k&&noM M d)
 |.inR _ a b=>noM M a&&noM M b
 |.all a=>noM M a
 |.any a=>noM M a
 |.comp _ fr it _ _=>noM M it&&fr.all fun i=>!M.contains i
 |.comp2 fr it _ _=>noM M it&&fr.all fun i=>!M.contains i
 |.compT fr it _ _=>noM M it&&fr.all fun i=>!M.contains i
 |.lstR a b=>noM M a&&noM M b
 |.new _=>true
 |.meth _ o a=>noM M o&&noM M a
 |.isc _ a=>noM M a
 |.tix o a=>noM M o&&noM M a
 |.dict _ a=>noM M a
 |.dnew=>true
 |.strOf a=>noM M a
 |.joinE a b=>noM M a&&noM M b
 |.starts a b=>noM M a&&noM M b
 |.rng2 a b=>noM M a&&noM M b
 |.srt a=>noM M a
noncomputable def Vy(_:Nat):Bool:=false
noncomputable def W7:CE->Bool
 |.call f _ _=>Vy f
 |.bin _ _ _=>true
 |.lstE _=>true
 |.slice _ _ _=>true
 |.listOf _=>true
 |.rs _ _=>true
 |.comp ..=>true
 |.comp2 ..=>true
 |.compT ..=>true
 |_=>false
noncomputable def Z5:CS->Li Nat
 |.seq a b=>Z5 a++Z5 b
 |.app i _=>[i]
 |.ext i _=>[i]
 |.put i _ _=>[i]
 |.dput i _ _ _=>[i]
 |.ite _ a b=>Z5 a++Z5 b
 |.for1 _ _ _ b=>Z5 b
 |.for3 _ _ b=>Z5 b
 |.forP _ _ _ b=>Z5 b
 |.forE _ _ _ b=>Z5 b
 |.for4 _ _ _ _ b=>Z5 b
 |.for2 _ _ _ b=>Z5 b
 |.whl _ b=>Z5 b
 |_=>[]
noncomputable def mvT:CE->Li Nat
 |.var j=>[j]
 |_=>[]
noncomputable def ZT:CS->Li Nat
 |.seq a b=>ZT a++ZT b
 |.app i _=>[i]
 |.ext i _=>[i]
 |.put i _ _=>[i]
 |.dput i _ _ _=>[i]
 |.set i e=>i :: mvT e
 |.set2 i j _=>[i,j]
 |.set3 i j l _=>[i,j,l]
 |.ite _ a b=>ZT a++ZT b
 |.for1 i _ _ b=>i :: ZT b
 |.for3 i _ b=>i :: ZT b
 |.forP i j _ b=>i :: j :: ZT b
 |.forE i j _ b=>i :: j :: ZT b
 |.for4 i j l _ b=>i :: j :: l :: ZT b
 |.for2 i j _ b=>i :: j :: ZT b
 |.whl _ b=>ZT b
 |_=>[]
inductive PFl where
 |nx (π:Zq)|rt (p:P)|bk (π:Zq)|ct (π:Zq)
noncomputable abbrev PEx:=Zq->Ot PFl
noncomputable def Zt(π:Zq)(i:Nat)(p:P):Zq:=π.set i (some p)
noncomputable def Yb(body:P->Zq->Ot PFl):Li P->Zq->Ot PFl
 |[],π=>some (.nx π)
 |d :: ds,π=>match body d π with
  |some (.nx π')=>Yb body ds π'
  |some (.ct π')=>Yb body ds π'
  |some (.bk π')=>some (.nx π')
  |some (.rt v)=>some (.rt v)
  |none=>none
noncomputable def Zdk(f g:PEx):PEx:=fun π=>match f π with
 |some (.nx π')=>g π'
 |r=>r
noncomputable def Zdi(f:PEv):PEx:=fun π=>match f π with
 |some d=>some (.rt d)
 |none=>none
noncomputable def Zy(M:Li Nat)(e:CE)(p:P):Bool:=noM M e||noL p
noncomputable def YR(M:Li Nat)(e:CE)(p:P):Bool:=match p with
 |.lst true xs=>W7 e&&(noM M e||X7 xs)
 |_=>false
noncomputable def mvP(M:Li Nat)(i:Nat)(e:CE)(p:P)(π:Zq):Ot PFl:=match e with
 |.var j=>if M.contains j&&!M.contains i then some (.nx (Zt (π.set j none) i p)) else none
 |_=>none
noncomputable def JL(M:Li Nat)(i:Nat)(e:CE)(f:PEv):PEx:=fun π=>match f π with
 |some p=>if (if M.contains i then YR M e p else Zy M e p||YR M e p) then some (.nx (Zt π i p)) else mvP M i e p π
 |none=>none
noncomputable def QT(M:Li Nat)(i j:Nat)(e:CE)(f:PEv):PEx:=fun π=>match f π with
 |some (.tup [x,y])=>if !M.contains i&&!M.contains j&&Zy M e (.tup [x,y]) then some (.nx (Zt (Zt π i x) j y)) else none
 |_=>none
noncomputable def Zdl(M:Li Nat)(i j l:Nat)(e:CE)(f:PEv):PEx:=fun π=>match f π with
 |some (.tup [x,y,z])=>if !M.contains i&&!M.contains j&&!M.contains l&&Zy M e (.tup [x,y,z]) then some (.nx (Zt (Zt (Zt π i x) j y) l z)) else none
 |_=>none
noncomputable def Zhf(M:Li Nat)(e:CE)(f:PEv):PEx:=fun π=>match f π with
 |some p=>if Zy M e p then some (.nx π) else none
 |none=>none
noncomputable def Zc6(M:Li Nat)(i:Nat)(e:CE)(f:PEv):PEx:=fun π=>match π[i]? with
 |some (some (.lst true xs))=>match f π with
  |some p=>if M.contains i&&Zy M e p&&decide (xs.length < Zs) then some (.nx (Zt π i (.lst true (xs++[p])))) else none
  |none=>none
 |_=>none
noncomputable def Zdb(M:Li Nat)(i:Nat)(e:CE)(f:PEv):PEx:=fun π=>match π[i]? with
 |some (some (.lst true xs))=>match f π with
  |some (.lst true ys)=>if M.contains i&&noM M e&&decide (xs.length+ys.length<=Zs) then some (.nx (Zt π i (.lst true (xs++ys)))) else none
  |_=>none
 |_=>none
noncomputable def Zhl(M:Li Nat)(i:Nat)(e:CE)(k f:PEv):PEx:=fun π=>match f π with
 |some p=>match π[i]? with
  |some (some (.lst true xs))=>match k π with
   |some (.int j)=>match ixN xs.length j with
    |some q=>if M.contains i&&Zy M e p then some (.nx (Zt π i (.lst true (xs.set q p)))) else none
    |none=>none
   |_=>none
  |_=>none
 |none=>none
noncomputable def Zde(c:PEv)(f g:PEx):PEx:=fun π=>match c π with
 |some (.bl true)=>f π
 |some (.bl false)=>g π
 |_=>none
noncomputable def VY(M T:Li Nat)(e:CE)(xs:Li P):Bool:=noM M e||(W7 e&&X7 xs)||(match e with
 |.var j=>!T.contains j
 |_=>false)
noncomputable def JJ(M T:Li Nat)(i:Nat)(rng:Bool)(e:CE)(it:PEv)(b:PEx):PEx:=fun π=>match it π with
 |some x=>match VB rng x with
  |some xs=>if !M.contains i&&(rng||Zy M e x) then Yb (fun d π=>b (Zt π i d)) xs π else none
  |none=>match rng,x with
   |false,.lst _ xs=>if !M.contains i&&VY M T e xs then Yb (fun d π=>b (Zt π i d)) xs π else none
   |_,_=>none
 |none=>none
noncomputable def Zho(i j l:Nat)(b:PEx)(d:P)(π:Zq):Ot PFl:=match d with
 |.tup [x,y,z]=>b (Zt (Zt (Zt π i x) j y) l z)
 |_=>none
noncomputable def Zdc(M:Li Nat)(i j l:Nat)(e:CE)(it:PEv)(b:PEx):PEx:=fun π=>match it π with
 |some (.tup xs)=>if !M.contains i&&!M.contains j&&!M.contains l&&Zy M e (.tup xs) then Yb (Zho i j l b) xs π else none
 |_=>none
noncomputable def Xj(body:P->P->Zq->Ot PFl):Li (P×P)->Zq->Ot PFl
 |[],π=>some (.nx π)
 |p :: ps,π=>match body p.1 p.2 π with
  |some (.nx π')=>Xj body ps π'
  |some (.ct π')=>Xj body ps π'
  |some (.bk π')=>some (.nx π')
  |some (.rt v)=>some (.rt v)
  |none=>none
noncomputable def WH:Nat->Li P->Li (P×P)
 |_,[]=>[]
 |k,x :: xs=>(.int (k:Int),x) :: WH (k+1) xs
noncomputable def ZdR:P->Ot (Li P)
 |.tup xs=>some xs
 |.lst _ xs=>some xs
 |_=>none
noncomputable def QS(M:Li Nat)(i j:Nat)(e:CE)(it:PEv)(b:PEx):PEx:=fun π=>match it π with
 |some x=>match ZdR x with
  |some xs=>if !M.contains i&&!M.contains j&&noM M e then Xj (fun x y π=>b (Zt (Zt π i x) j y)) (WH 0 xs) π else none
  |none=>none
 |none=>none
noncomputable def px(F:Nat->Li P->Ot P)(M:Li Nat):CS->PEx
 |.skip=>fun π=>some (.nx π)
 |.seq a b=>Zdk (px F M a) (px F M b)
 |.ret e=>Zdi (pe F e)
 |.set i e=>JL M i e (pe F e)
 |.set2 i j e=>QT M i j e (pe F e)
 |.app i e=>Zc6 M i e (pe F e)
 |.ext i e=>Zdb M i e (pe F e)
 |.put i k e=>Zhl M i e (pe F k) (pe F e)
 |.ite c a b=>Zde (pe F c) (px F M a) (px F M b)
 |.for1 i rng it b=>JJ M (ZT b) i rng it (pe F it) (px F M b)
 |.forP _ _ _ _=>fun _=>none
 |.forE i j it b=>QS M i j it (pe F it) (px F M b)
 |.for3 _ _ _=>fun _=>none
 |.for4 i j l it b=>Zdc M i j l it (pe F it) (px F M b)
 |.for2 _ _ _ _=>fun _=>none
 |.whl _ _=>fun _=>none
 |.brk=>fun π=>some (.bk π)
 |.cont=>fun π=>some (.ct π)
 |.stop=>fun _=>none
 |.app2 _ _=>fun _=>none
 |.set3 i j l e=>Zdl M i j l e (pe F e)
 |.act e=>Zhf M e (pe F e)
 |.dput _ _ _ _=>fun _=>none
noncomputable def fnP(F:Nat->Li P->Ot P)(f:FD):Li P->Ot P:=fun ds=>
 if ds.length=f.ps/\(Z5 f.body).all (fun i=>decide (f.ps<=i))=true then
  match px F (Z5 f.body) f.body (ds.map some++List.replicate (f.ns - ds.length) none) with
  |some (.rt d)=>some d
  |some (.nx _)=>some .non
  |_=>none
 else none
noncomputable def Xk:CS->Bool
 |.seq a b=>Xk a&&Xk b
 |.ret _=>false
 |.ite _ a b=>Xk a&&Xk b
 |.for1 _ _ _ b=>Xk b
 |.for3 _ _ b=>Xk b
 |.forP _ _ _ b=>Xk b
 |.forE _ _ _ b=>Xk b
 |.for4 _ _ _ _ b=>Xk b
 |.for2 _ _ _ b=>Xk b
 |.whl _ b=>Xk b
 |_=>true
noncomputable def ZaL(M:Li Nat):CS->Bool
 |.seq (.ret (.var j)) .skip=>M.contains j
 |.seq a b=>Xk a&&ZaL M b
 |_=>false
noncomputable def VI(f:FD):Bool:=ZaL (Z5 f.body) f.body
noncomputable def Zk(T:Nat->Ot FD):Nat->Nat->Li P->Ot P
 |0,_=>fun _=>none
 |n+1,i=>match T i with
  |some f=>if (Vy i&&!VI f)=true then fun _=>none else fnP (Zk T n) f
  |none=>fun _=>none
end Dp


namespace Dp
open PySem
abbrev Fz:=Nat->Prop
mutual
inductive Rel(fz:Fz)(st:Za):P->D->Prop where
 |non:Rel fz st .non .non
 |bl (b:Bool):Rel fz st (.bl b) (.bl b)
 |int (i:Int):Rel fz st (.int i) (.int i)
 |str (x:Str):Rel fz st (.str x) (.str x)
 |tup {ps:List P}{ds:List D} (r:Rels fz st ps ds):Rel fz st (.tup ps) (.tup ds)
 |lst {j:Nat}{m:Bool}{ps:List P}{ds:List D} (hz:fz j) (h:st[j]?=some (m,ds)) (r:Rels fz st ps ds):Rel fz st (.lst m ps) (.lst j)
 |dct {ks:List Str}{ps:List P}{ds:List D} (r:Rels fz st ps ds):Rel fz st (.dct ks ps) (.dct ks ds)
 |obj (i:Nat):Rel fz st (.obj i) (.obj i)
 |kt (ks:List Str):Rel fz st (.kt ks) (.kt ks)
 |dic {j:Nat}{m:Bool}{ps:List P}{ds:List D} (hz:fz j) (h:st[j]?=some (m,ds)) (r:Rels fz st ps ds):Rel fz st (.dic m ps) (.dic j)
inductive Rels(fz:Fz)(st:Za):List P->List D->Prop where
 |nil:Rels fz st [] []
 |cons {p:P}{d:D}{ps:List P}{ds:List D} (h:Rel fz st p d) (r:Rels fz st ps ds):Rels fz st (p :: ps) (d :: ds)
end
section
variable {fz fz':Fz}{st st':Za}
theorem Rel.mono(h1:∀ i,fz i->fz' i)(h2:∀ i,fz i->st'[i]?=st[i]?){p:P}{d:D}(h:Rel fz st p d):Rel fz' st' p d:=
 Rel.rec (motive_1:=fun p d _=>Rel fz' st' p d) (motive_2:=fun ps ds _=>Rels fz' st' ps ds) .non .bl .int .str (fun _ r=>.tup r) (fun hz h _ r=>.lst (h1 _ hz) (by rw[h2 _ hz];exact h) r) (fun _ r=>.dct r) .obj .kt (fun hz h _ r=>.dic (h1 _ hz) (by rw[h2 _ hz];exact h) r) .nil (fun _ _ a b=>.cons a b) h
theorem Rels.mono(h1:∀ i,fz i->fz' i)(h2:∀ i,fz i->st'[i]?=st[i]?){ps:Li P}{ds:Li D}(h:Rels fz st ps ds):Rels fz' st' ps ds:=
 Rels.rec (motive_1:=fun _ _ _=>True) (motive_2:=fun ps ds _=>Rels fz' st' ps ds) trivial (fun _=>trivial) (fun _=>trivial) (fun _=>trivial) (fun _ _=>trivial) (fun _ _ _ _=>trivial) (fun _ _=>trivial) (fun _=>trivial) (fun _=>trivial) (fun _ _ _ _=>trivial) .nil (fun a _ _ b=>.cons (a.mono h1 h2) b) h
theorem Rel.ofNoL{p:P}{d:D}(hn:noL p=true)(h:Rel fz st p d):Rel fz' st' p d:=
 Rel.rec (motive_1:=fun p d _=>noL p=true->Rel fz' st' p d) (motive_2:=fun ps ds _=>X7 ps=true->Rels fz' st' ps ds) (fun _=>.non) (fun _ _=>.bl _) (fun _ _=>.int _) (fun _ _=>.str _) (fun _ r h=>.tup (r h)) (fun _ _ _ _ h=>by cases h) (fun _ r h=>.dct (r h)) (fun _ _=>.obj _) (fun _ _=>.kt _) (fun _ _ _ _ h=>by cases h) (fun _=>.nil) (fun _ _ a b h=>.cons (a (Bool.and_eq_true_iff.mp h).1) (b (Bool.and_eq_true_iff.mp h).2)) h hn
theorem Rels.ofNoL{ps:Li P}{ds:Li D}(hn:X7 ps=true)(h:Rels fz st ps ds):Rels fz' st' ps ds:=by
 induction ps generalizing ds with
 |nil=>cases h;exact .nil
 |cons p ps ih=>cases h with
  |cons a r=>exact .cons (a.ofNoL (Bool.and_eq_true_iff.mp hn).1) (ih (Bool.and_eq_true_iff.mp hn).2 r)
theorem Rels.length:∀ {ps:Li P}{ds:Li D},Rels fz st ps ds->ps.length=ds.length
 |_,_,.nil=>rfl
 |_,_,.cons _ r=>congrArg (·+1) (Rels.length r)
theorem Rels.get:∀ {ps:Li P}{ds:Li D}{i:Nat}{p:P},Rels fz st ps ds->ps[i]?=some p->∃ d,ds[i]?=some d/\Rel fz st p d
 |_,_,_,_,.nil,e=>by simp at e
 |_,_,0,_,.cons h _,e=>by simp at e;subst e;exact⟨_,rfl,h⟩
 |_,_,i+1,p,.cons _ r,e=>by
  obtain⟨v,h1,h2⟩:=Rels.get (i:=i) (p:=p) r (by simpa using e)
  exact⟨v,by simpa using h1,h2⟩
theorem Rels.append:∀ {ps qs:Li P}{ds es:Li D},Rels fz st ps ds->Rels fz st qs es->Rels fz st (ps++qs) (ds++es)
 |_,_,_,_,.nil,s=>s
 |_,_,_,_,.cons h r,s=>.cons h (Rels.append r s)
theorem Rels.take:∀ {ps:Li P}{ds:Li D} (n:Nat),Rels fz st ps ds->Rels fz st (ps.take n) (ds.take n)
 |_,_,0,_=>.nil
 |_,_,_+1,.nil=>.nil
 |_,_,n+1,.cons h r=>.cons h (Rels.take n r)
theorem Rels.drop:∀ {ps:Li P}{ds:Li D} (n:Nat),Rels fz st ps ds->Rels fz st (ps.drop n) (ds.drop n)
 |_,_,0,r=>r
 |_,_,_+1,.nil=>.nil
 |_,_,n+1,.cons _ r=>Rels.drop n r
theorem Rels.set{p:P}{d:D}(h:Rel fz st p d):∀ {ps:Li P}{ds:Li D} (n:Nat),Rels fz st ps ds->Rels fz st (ps.set n p) (ds.set n d)
 |_,_,_,.nil=>.nil
 |_,_,0,.cons _ r=>.cons h r
 |_,_,n+1,.cons q r=>.cons q (Rels.set h n r)
theorem Rels.rep{p:P}{d:D}(h:Rel fz st p d):∀ n:Nat,Rels fz st (List.replicate n p) (List.replicate n d)
 |0=>.nil
 |n+1=>.cons h (Rels.rep h n)
mutual
theorem Rel.ofConst:∀ {d:D}{p:P},ofD d=some p->Rel fz st p d
 |.non,p,h=>by cases h;exact .non
 |.bl b,p,h=>by cases h;exact .bl b
 |.int i,p,h=>by cases h;exact .int i
 |.str x,p,h=>by cases h;exact .str x
 |.tup xs,p,h=>by
  have h:(WF xs).map P.tup=some p:=h;cases q:WF xs with
  |none=>rw[q]at h;cases h
  |some ys=>rw[q]at h;cases h;exact .tup (Rels.ofConst q)
 |.lst _,p,h=>by cases h
 |.dct _ _,p,h=>by cases h
 |.obj _,p,h=>by cases h
 |.kt ks,p,h=>by cases h;exact .kt ks
theorem Rels.ofConst:∀ {ds:Li D}{ps:Li P},WF ds=some ps->Rels fz st ps ds
 |[],ps,h=>by cases h;exact .nil
 |d :: ds,ps,h=>by
  have h:(match ofD d,WF ds with
   |some y,some ys=>some (y :: ys)
   |_,_=>none)=some ps:=h
  split at h
  ·rename_i y ys h1 h2
   cases h;exact .cons (Rel.ofConst h1) (Rels.ofConst h2)
  ·exact Zb h
end
end
def Bd(fz:Fz)(st:Za):Prop:=∀ i,fz i->i < st.length
structure Next(fz:Fz)(st:Za)(fz':Fz)(st':Za):Prop where
 old:∀ i,i < st.length->st'[i]?=st[i]?
 len:st.length<=st'.length
 sub:∀ i,fz i->fz' i
 new:∀ i,fz' i->fz i\/st.length<=i
 bd:Bd fz' st'
section
variable {fz fz' fz1 fz2:Fz}{st st' st1 st2:Za}
theorem Next.refl(b:Bd fz st):Next fz st fz st:=⟨fun _ _=>rfl,Nat.le_refl _,fun _ h=>h,fun _ h=>.inl h,b⟩
theorem Next.trans(x:Next fz st fz1 st1)(y:Next fz1 st1 fz2 st2):Next fz st fz2 st2:=
 ⟨fun i h=>(y.old i (Nat.lt_of_lt_of_le h x.len)).trans (x.old i h),Nat.le_trans x.len y.len,fun i h=>y.sub i (x.sub i h),fun i h=>(y.new i h).elim (x.new i) fun z=>.inr (Nat.le_trans x.len z),y.bd⟩
theorem Next.small(b:Bd fz st)(x:Next fz1 st fz' st'):Next fz st fz st':=⟨x.old,x.len,fun _ h=>h,fun _ h=>.inl h,fun i h=>Nat.lt_of_lt_of_le (b i h) x.len⟩
theorem Rel.next{p:P}{d:D}(b:Bd fz st)(x:Next fz st fz' st')(r:Rel fz st p d):Rel fz' st' p d:=r.mono x.sub fun i h=>x.old i (b i h)
theorem Rels.next{p:Li P}{d:Li D}(b:Bd fz st)(x:Next fz st fz' st')(r:Rels fz st p d):Rels fz' st' p d:=r.mono x.sub fun i h=>x.old i (b i h)
theorem Zge{α:Type}{l:Li α}{x:α}:(l++[x])[l.length]?=some x:=by simp
theorem Zdm{m:Bool}{ds:Li D}(b:Bd fz st):Next fz st fz (st++[(m,ds)]):=
 ⟨fun i h=>by rw[List.getElem?_append_left h],by simp,fun _ h=>h,fun _ h=>.inl h,fun i h=>by have:=b i h;simp;omega⟩
theorem JM{m:Bool}{ds:Li D}(b:Bd fz st):Next fz st (fun i=>fz i\/i=st.length) (st++[(m,ds)]):=
 ⟨fun i h=>by rw[List.getElem?_append_left h],by simp,fun _ h=>.inl h,fun i h=>h.elim .inl fun z=>.inr (by omega),fun i h=>by
  rcases h with h|h
  ·have:=b i h;simp;omega
  ·simp;omega⟩
theorem QU{m:Bool}{ps:Li P}{ds:Li D}(b:Bd fz st)(r:Rels fz st ps ds):Rel (fun i=>fz i\/i=st.length) (st++[(m,ds)]) (.lst m ps) (.lst st.length):=
 .lst (.inr rfl) Zge (r.next b (JM b))
end
abbrev Gives(fz:Fz)(st:Za)(r:Res)(p:P):Prop:=∃ d st' fz',r=some (d,st')/\Next fz st fz' st'/\Rel fz' st' p d
def Op1(o:D->Za->Res)(O:P->Ot P):Prop:=∀ fz st x dx p,Bd fz st->Rel fz st x dx->O x=some p->Gives fz st (o dx st) p
def Op2(o:D->D->Za->Res)(O:P->P->Ot P):Prop:=∀ fz st x y dx dy p,Bd fz st->Rel fz st x dx->Rel fz st y dy->O x y=some p->Gives fz st (o dx dy st) p
def Op3(o:D->D->D->Za->Res)(O:P->P->P->Ot P):Prop:=∀ fz st x y z dx dy dz p,Bd fz st->Rel fz st x dx->Rel fz st y dy->Rel fz st z dz->O x y z=some p->Gives fz st (o dx dy dz st) p
abbrev Makes(fz:Fz)(st:Za)(r:Res)(m:Bool)(ps:Li P):Prop:=∃ ds,r=some (.lst st.length,st++[(m,ds)])/\Rels fz st ps ds
def ZdY(o:D->Za->Res)(O:P->Ot P):Prop:=∀ fz st x dx m ps,Bd fz st->Rel fz st x dx->O x=some (.lst m ps)->Makes fz st (o dx st) m ps
def Zin(o:D->D->Za->Res)(O:P->P->Ot P):Prop:=∀ fz st x y dx dy m ps,Bd fz st->Rel fz st x dx->Rel fz st y dy->O x y=some (.lst m ps)->Makes fz st (o dx dy st) m ps
def Zio(o:D->D->D->Za->Res)(O:P->P->P->Ot P):Prop:=∀ fz st x y z dx dy dz m ps,Bd fz st->Rel fz st x dx->Rel fz st y dy->Rel fz st z dz->O x y z=some (.lst m ps)->Makes fz st (o dx dy dz st) m ps
theorem Gives.same{fz:Fz}{st:Za}{p:P}{d:D}(b:Bd fz st)(r:Rel fz st p d):Gives fz st (some (d,st)) p:=⟨d,st,fz,rfl,Next.refl b,r⟩
theorem Makes.gives{fz:Fz}{st:Za}{r:Res}{m:Bool}{ps:Li P}(b:Bd fz st)(h:Makes fz st r m ps):Gives fz st r (.lst m ps):=by
 obtain⟨ds,e,rr⟩:=h;exact⟨_,_,_,e,JM b,QU b rr⟩
section
mutual
theorem X8{fz:Fz}{st:Za}:∀ {n:Nat}{p:P}{d:D},Rel fz st p d->okP n p=okD n d
 |n,_,_,.non=>by cases n<;>rfl
 |n,_,_,.bl b=>by cases n<;>rfl
 |n,_,_,.int i=>by cases n<;>rfl
 |n,_,_,.str x=>by cases n<;>rfl
 |0,_,_,.tup r=>rfl
 |n+1,_,_,.tup r=>XS r
 |n,_,_,.lst _ _ _=>by cases n<;>rfl
 |n,_,_,.dct _=>by cases n<;>rfl
 |n,_,_,.obj _=>by cases n<;>rfl
 |n,_,_,.kt _=>by cases n<;>rfl
 |n,_,_,.dic _ _ _=>by cases n<;>rfl
theorem XS{fz:Fz}{st:Za}:∀ {n:Nat}{p:Li P}{d:Li D},Rels fz st p d->Yy n p=Yd n d
 |_,_,_,.nil=>rfl
 |n,p :: ps,d :: ds,.cons h r=>by
  show(okP n p&&Yy n ps)=(okD n d&&Yd n ds);rw[X8 h,XS r]
end
mutual
theorem Wf{fz:Fz}{st:Za}:∀ {p q:P}{d e:D},Rel fz st p d->Rel fz st q e->ZF p q=Zv d e
 |_,_,_,_,.non,h=>by cases h<;>rfl
 |_,_,_,_,.bl b,h=>by cases h<;>rfl
 |_,_,_,_,.int i,h=>by cases h<;>rfl
 |_,_,_,_,.str x,h=>by cases h<;>rfl
 |_,_,_,_,.tup r,h=>by
  cases h with
  |tup r'=>exact Wg r r'
  |_=>rfl
 |_,_,_,_,.lst _ _ _,h=>by cases h<;>rfl
 |_,_,_,_,.dct _,h=>by cases h<;>rfl
 |_,_,_,_,.obj _,h=>by cases h<;>rfl
 |_,_,_,_,.kt _,h=>by cases h<;>rfl
 |_,_,_,_,.dic _ _ _,h=>by cases h<;>rfl
theorem Wg{fz:Fz}{st:Za}:∀ {p q:Li P}{d e:Li D},Rels fz st p d->Rels fz st q e->YZ p q=Z2 d e
 |_,_,_,_,.nil,h=>by cases h<;>rfl
 |p :: ps,_,d :: ds,_,.cons a r,h=>by
  cases h with
  |nil=>rfl
  |@cons q e qs es a' r'=>
   show(ZF p q&&YZ ps qs)=(Zv d e&&Z2 ds es);rw[Wf a a',Wg r r']
end
theorem Zav{fz:Fz}{st:Za}{ps:Li P}{ds:Li D}(r:Rels fz st ps ds):ps.isEmpty=ds.isEmpty:=by cases r<;>rfl
theorem Zc5{fz:Fz}{st:Za}{ps qs:Li P}{ds es:Li D}{k:Bool}(r:Rels fz st ps ds)(s:Rels fz st qs es)(h:ZaA ps qs=some k):ZaB st ds es=some k:=by cases h
theorem ZdB{fz:Fz}{st:Za}{p:P}{d:D}(r:Rel fz st p d):scP p=scD d:=by cases r<;>rfl
theorem Zek{fz:Fz}{st:Za}{ps qs:Li P}{ds es:Li D}(r:Rels fz st ps ds)(s:Rels fz st qs es):ZgK ps qs=Zbj ds es:=by
 unfold ZgK Zbj;rw[Zav r,Zav s,XS r,XS s,Wg r s]
theorem Zcb{fz:Fz}{st:Za}{p q:P}{d e:D}{k:Bool}(r:Rel fz st p d)(s:Rel fz st q e)(h:eqP p q=some k):eqS st d e=some k:=by
 have tail:(o2 Zca (scP p) (scP q)).join=some k->(o2 Zca (scD d) (scD e)).join=some k:=by
  rw[ZdB r,ZdB s];exact id
 cases r with
 |@tup ps ds r=>
  cases s with
  |@tup qs es r'=>
   have h:(if okP 8 (.tup ps)&&okP 8 (.tup qs) then some (YZ ps qs) else ZaA ps qs)=some k:=h
   show(match (if okD 8 (.tup ds)&&okD 8 (.tup es) then some (Z2 ds es) else none) with
    |some k=>some k
    |none=>ZaB st ds es)=some k
   rw[X8 (.tup r),X8 (.tup r'),Wg r r']at h;by_cases c:(okD 8 (.tup ds)&&okD 8 (.tup es))=true
   ·rw[if_pos c]at h ⊢
    exact h
   ·rw[if_neg c]at h ⊢
    exact Zc5 r r' h
  |_=>exact Zb h
 |@lst j m ps ds hz hs r=>
  cases s with
  |@lst j' m' qs es hz' hs' r'=>
   show(o2 (fun(c d:Yi)=>Zbj c.2 d.2) st[j]? st[j']?).join=some k
   rw[hs,hs'];show Zbj ds es=some k;rw[<-Zek r r'];exact h
  |_=>exact Zb h
 |_=>exact tail h
theorem Js{fz:Fz}{st:Za}{i:Int}:∀ {ps:Li P}{ds:Li D}{k:Bool},Rels fz st ps ds->inP i ps=some k->Xb i ds=some k
 |_,_,_,.nil,h=>h
 |p :: ps,d :: ds,k,.cons a r,h=>by
  cases a with
  |int j=>
   have h:(inP i ps).map (fun b=>decide (j=i)||b)=some k:=h
   show(Xb i ds).map (fun b=>decide (j=i)||b)=some k
   cases q:inP i ps with
   |none=>rw[q]at h;cases h
   |some k'=>rw[q]at h;rw[Js r q];exact h
  |_=>exact Zb h
theorem UP{fz:Fz}{st:Za}{i:Str}:∀ {ps:Li P}{ds:Li D}{k:Bool},Rels fz st ps ds->Zbp i ps=some k->Xc i ds=some k
 |_,_,_,.nil,h=>h
 |p :: ps,d :: ds,k,.cons a r,h=>by
  cases a with
  |str j=>
   have h:(Zbp i ps).map (fun b=>decide (j=i)||b)=some k:=h
   show(Xc i ds).map (fun b=>decide (j=i)||b)=some k
   cases q:Zbp i ps with
   |none=>rw[q]at h;cases h
   |some k'=>rw[q]at h;rw[UP r q];exact h
  |_=>exact Zb h
theorem UG{fz:Fz}{st:Za}{i:Int}{ps:Li P}{ds:Li D}{p:P}(r:Rels fz st ps ds)(h:atP ps i=some p):∃ d,atD ds i=some d/\Rel fz st p d:=by
 unfold atP at h;unfold atD;rw[<-r.length];cases q:ixN ps.length i with
 |none=>rw[q]at h;cases h
 |some j=>
  rw[q]at h;exact r.get h
theorem Zac{fz:Fz}{st:Za}{lo hi:Ot Int}{ps:Li P}{ds:Li D}(r:Rels fz st ps ds):Rels fz st (Vq ps lo hi) (Zbc ds lo hi):=by
 unfold Vq Zbc;rw[<-r.length];exact(r.drop _).take _
end
section
theorem Zi3:Op1 ZeZ Ze0:=by
 intro fz st x dx p b r h;cases r<;>first | (cases h;exact .same b (.int _))|cases h
theorem Zi4:Op1 ZbB ZbC:=by
 intro fz st x dx p b r h;cases r<;>first | (cases h;exact .same b (.bl _))|cases h
theorem Zhb:Op1 ZaC Us:=by
 intro fz st x dx p b r h;cases r<;>first | (cases h;exact .same b (.int _))|cases h
theorem ZiY:Op1 ZeJ Jt:=by
 intro fz st x dx p b r h;cases r with
 |bl k=>cases k<;>(cases h;exact .same b (.int _))
 |int i=>cases h;exact .same b (.int _)
 |_=>exact Zb h
theorem Zhc:Op2 ZaH ZaI:=fun _ _ _ _ _ _ _ _ _ _ h=>nomatch h
theorem Zg8:Op1 QK Jy:=by
 intro fz st x dx p b r h;cases r with
 |@tup ps ds r=>
  cases h;rw[r.length];exact .same b (.int _)
 |@lst j m ps ds hz hs r=>
  cases h;have e:QK (.lst j) st=some (.int ds.length,st):=by unfold QK ZeQ;simp only[hs]
  rw[e,r.length];exact .same b (.int _)
 |kt ks=>
  cases h;exact .same b (.int _)
 |str x=>
  have h:(if x.length<=Zs then some (P.int x.length) else none)=some p:=h
  split at h
  ·rename_i c
   cases h;have e:QK (.str x) st=some (.int x.length,st):=by
    unfold QK ZeQ;simp only;rw[if_pos c]
   rw[e];exact .same b (.int _)
  ·exact Zb h
 |_=>exact Zb h
theorem ZiZ(T:Ty):Op1 (Jv T) (V5 T):=by
 intro fz st x dx p b r h;obtain⟨k,e,rfl⟩:=Option.map_eq_some_iff.mp (show(ZgY T x).map P.bl=some p from h);have z:ZgY T x=ZeP T dx:=by cases r<;>rfl
 rw[z]at e;unfold Jv;rw[e];exact .same b (.bl k)
theorem Zf1:ZdY Zbw JD:=by
 intro fz st x dx m ps b r h;cases r with
 |@tup ps ds r=>cases h;exact⟨ds,rfl,r⟩
 |_=>exact Zb h
theorem Zi0:Op1 Zbw JD:=by
 intro fz st x dx p b r h;cases r with
 |@tup ps ds r=>cases h;exact(Zf1 fz st _ _ true ps b (.tup r) rfl).gives b
 |_=>exact Zb h
theorem Jq:ZdY Ul QL:=by
 intro fz st x dx m ps b r h;cases r with
 |@tup ps ds r=>cases h;exact⟨ds,rfl,r⟩
 |@lst j m ps ds hz hs r=>
  cases h;exact⟨ds,by unfold Ul;simp only[hs],r⟩
 |_=>exact Zb h
theorem Zg9:Op1 Ul QL:=by
 intro fz st x dx p b r h;cases r with
 |@tup ps ds r=>cases h;exact(Jq fz st _ _ true ps b (.tup r) rfl).gives b
 |@lst j m ps ds hz hs r=>cases h;exact(Jq fz st _ _ true ps b (.lst hz hs r) rfl).gives b
 |_=>exact Zb h
theorem Ze4:Op1 XH WK:=by
 intro fz st x dx p b r h;cases r with
 |@tup ps ds r=>cases h;exact .same b (.tup r)
 |@lst j m ps ds hz hs r=>
  cases h;have e:XH (.lst j) st=some (.tup ds,st):=by unfold XH;simp only[hs]
  rw[e];exact .same b (.tup r)
 |_=>exact Zb h
theorem Zg7(ks:Li Str):Op1 (Qu ks) (Zae ks):=by
 intro fz st x dx p b r h;cases r with
 |@tup ps ds r=>
  have h:(if ks.length=ps.length/\(ks.Nodup/\ks≠[])/\ks.length<=15 then some (P.dct ks ps) else none)=some p:=h
  split at h
  ·rename_i c
   cases h;have e:Qu ks (.tup ds) st=some (.dct ks ds,st):=by unfold Qu;simp only;rw[r.length]at c;rw[if_pos c]
   rw[e];exact .same b (.dct r)
  ·exact Zb h
 |_=>exact Zb h
theorem Zg6:Op2 Ys Vp:=by
 intro fz st x y dx dy p b r s h;cases s with
 |@tup ps ds s=>
  have h:(if ps.length < 1000 then some (P.tup (x :: ps)) else none)=some p:=h
  split at h
  ·rename_i c
   cases h;have e:Ys dx (.tup ds) st=some (.tup (dx :: ds),st):=by unfold Ys;simp only;rw[s.length]at c;rw[if_pos c]
   rw[e];exact .same b (.tup (.cons r s))
  ·exact Zb h
 |_=>exact Zb h
theorem Zi2:Op2 ZeY Zbz:=by
 intro fz st x y dx dy p b r s h;cases r with
 |int i=>
  cases s with
  |int j=>cases h;exact .same b (.int _)
  |_=>exact Zb h
 |_=>exact Zb h
theorem Zi1:Op2 ZeV Zby:=by
 intro fz st x y dx dy p b r s h;cases r with
 |int i=>
  cases s with
  |int j=>cases h;exact .same b (.int _)
  |_=>exact Zb h
 |_=>exact Zb h
theorem XM{fz:Fz}{st:Za}{k:Str}:∀ {ks:Li Str}{ps:Li P}{ds:Li D},Rels fz st ps ds->(∃ p d,YS ks ps k=some p/\ZK ks ds k=some d/\Rel fz st p d)\/(YS ks ps k=none/\ZK ks ds k=none)
 |[],_,_,_=>.inr ⟨by simp[YS],by simp[ZK]⟩
 |_ :: _,_,_,.nil=>.inr ⟨by simp[YS],by simp[ZK]⟩
 |x :: ks,_,_,.cons h r=>by
  by_cases e:x=k
  ·exact .inl ⟨_,_,by simp[YS,e],by simp[ZK,e],h⟩
  ·have ih:=XM (k:=k) (ks:=ks) r
   simp only[YS,ZK,if_neg e];exact ih
theorem VT{fz:Fz}{st:Za}:∀ l:Li Str,Rels fz st (l.map P.str) (l.map D.str)
 |[]=>.nil
 |k :: l=>.cons (.str _) (VT l)
theorem ZkA:Op2 ixR ixP:=by
 intro fz st x y dx dy p b r s h;cases r with
 |@tup ps ds r=>
  cases s with
  |int j=>
   obtain⟨d,e,q⟩:=UG r h;have e:ixR (.tup ds) (.int j) st=some (d,st):=by unfold ixR ixD;simp only[e]
   rw[e];exact .same b q
  |_=>exact Zb h
 |@lst k m ps ds hz hs r=>
  cases s with
  |int j=>
   obtain⟨d,e,q⟩:=UG r h;have e:ixR (.lst k) (.int j) st=some (d,st):=by unfold ixR ixD;simp only[hs,e]
   rw[e];exact .same b q
  |_=>exact Zb h
 |@dct ks ps ds r=>
  cases s with
  |str z=>
   rcases XM (k:=z) (ks:=ks) r with⟨p',d,e1,e2,q⟩|⟨e1,_⟩
   ·have h:YS ks ps z=some p:=h
    rw[e1]at h;cases h
    have e:ixR (.dct ks ds) (.str z) st=some (d,st):=by unfold ixR ixD;simp only[e2]
    rw[e];exact .same b q
   ·have h:YS ks ps z=some p:=h
    rw[e1]at h;cases h
  |_=>exact Zb h
 |kt ks=>
  cases s with
  |int j=>
   obtain⟨d,e,q⟩:=UG (VT (fz:=fz) (st:=st) ks) h;have e:ixR (.kt ks) (.int j) st=some (d,st):=by unfold ixR ixD;simp only[e]
   rw[e];exact .same b q
  |_=>exact Zb h
 |str x=>
  cases s with
  |int j=>
   have h:(if x.length<=Zs then atP ((chS x).map .str) j else none)=some p:=h
   split at h
   ·rename_i c
    obtain⟨d,e,q⟩:=UG (VT (fz:=fz) (st:=st) (chS x)) h;have e:ixR (.str x) (.int j) st=some (d,st):=by
     unfold ixR ixD;simp only;rw[if_pos c,e]
    rw[e];exact .same b q
   ·exact Zb h
  |_=>exact Zb h
 |_=>exact Zb h
theorem U1{f:Int->Int->Bool}{fz:Fz}{st:Za}{x y:P}{dx dy:D}{k:Bool}(r:Rel fz st x dx)(s:Rel fz st y dy)(h:Zc2 f x y=some k):JG f dx dy=some k:=by
 cases r with
 |int i=>
  cases s with
  |int j=>exact h
  |_=>exact Zb h
 |_=>exact Zb h
theorem Zas{fz:Fz}{st:Za}{k:Bool}:∀ {ps qs:Li P}{ds es:Li D},Rels fz st ps ds->Rels fz st qs es->XX ps qs=some k->WZ ds es=some k
 |_,_,_,_,.nil,.nil,h=>h
 |_,_,_,_,.nil,.cons _ r,h=>by
  have h:some (decide (0 < _+1))=some k:=h;show some (decide (0 < _+1))=some k;rw[<-h];simp
 |_,_,_,_,.cons _ _,.nil,h=>h
 |p :: ps,q :: qs,d :: ds,e :: es,.cons a r,.cons b r',h=>by
  unfold XX at h;unfold WZ;rw[<-Wf a b];by_cases c:ZF p q=true
  ·rw[if_pos c]at h ⊢
   exact Zas r r' h
  ·rw[if_neg c]at h ⊢
   cases a with
   |int i=>cases b<;>first|exact h|cases h
   |str x=>cases b<;>first|exact h|cases h
   |_=>exact Zb h
theorem Zg1{fz:Fz}{st:Za}{x y:P}{dx dy:D}{k:Bool}(r:Rel fz st x dx)(s:Rel fz st y dy)(h:ltP x y=some k):ltD dx dy=some k:=by
 cases r with
 |int i=>
  cases s with
  |int j=>exact h
  |_=>exact Zb h
 |@tup ps ds r=>
  cases s with
  |@tup qs es r'=>
   have h:(if okP 8 (.tup ps)&&okP 8 (.tup qs) then XX ps qs else none)=some k:=h
   show(if okD 8 (.tup ds)&&okD 8 (.tup es) then WZ ds es else none)=some k
   rw[X8 (.tup r),X8 (.tup r')]at h;split at h
   ·rename_i c
    rw[if_pos c];exact Zas r r' h
   ·exact Zb h
  |_=>exact Zb h
 |_=>exact Zb h
theorem ZeS{fz:Fz}{st:Za}{x y:P}{dx dy:D}{k:Bool}(r:Rel fz st x dx)(s:Rel fz st y dy)(h:Zg0 x y=some k):ltS st dx dy=some k:=by exact Zg1 r s h
theorem UW{a b:Ot Bool}{f:Bool->Bool}{k:Bool}(h:∀ k,a=some k->b=some k)(e:a.map f=some k):b.map f=some k:=by
 cases q:a with
 |none=>rw[q]at e;cases e
 |some k'=>rw[h k' q];rw[q]at e;exact e
theorem J6{fz:Fz}{st:Za}{p:P}{d:D}(r:Rel fz st p d):∀ {ps:Li P}{ds:Li D},Rels fz st ps ds->(ps.any fun x=>ZF x p)=ds.any fun x=>Zv x d
 |_,_,.nil=>rfl
 |_,_,.cons a t=>by rw[List.any_cons,List.any_cons,Wf a r,J6 r t]
theorem Zal{fz:Fz}{st:Za}{x y:P}{dx dy:D}{k:Bool}(r:Rel fz st x dx)(s:Rel fz st y dy)(h:ZgV x y=some k):inS st dx dy=some k:=by
 cases r with
 |int i=>
  cases s with
  |tup rr=>exact Js rr h
  |lst hz hs rr=>
   unfold inS;simp only[hs];exact Js rr h
  |_=>exact Zb h
 |str z=>
  cases s with
  |tup rr=>exact UP rr h
  |lst hz hs rr=>
   unfold inS;simp only[hs];exact UP rr h
  |@dct ks _ _ rr=>
   have h:some (YS ks _ z).isSome=some k:=h;show some (ZK ks _ z).isSome=some k;rcases XM (k:=z) (ks:=ks) rr with⟨p',d,e1,e2,_⟩|⟨e1,e2⟩
   ·rw[e1]at h;rw[e2];exact h
   ·rw[e1]at h;rw[e2];exact h
  |str w=>exact h
  |_=>exact Zb h
 |@tup ks _ rt=>
  cases s with
  |@lst _ xs _ _ hz hs rr=>
   have h:(if okP 8 (.tup ks)&&Yy 8 _ then some (List.any _ fun d=>ZF d (.tup ks)) else none)=some k:=h
   unfold inS;simp only[hs];rw[X8 (.tup rt),XS rr,J6 (.tup rt) rr]at h;exact h
  |_=>exact Zb h
 |_=>exact Zb h
theorem Zan{fz:Fz}{st:Za}{x y:P}{dx dy:D}{k:Bool}(r:Rel fz st x dx)(s:Rel fz st y dy)(h:ZgX x y=some k):isD dx dy=some k:=by
 cases s with
 |non=>cases r<;>first|exact h|cases h
 |bl b=>cases r<;>first|exact h|cases h
 |_=>exact Zb h
theorem Rels.rev{fz:Fz}{st:Za}:∀ {ps:Li P}{ds:Li D},Rels fz st ps ds->Rels fz st ps.reverse ds.reverse
 |_,_,.nil=>.nil
 |_,_,.cons a r=>by
  rw[List.reverse_cons,List.reverse_cons];exact(Rels.rev r).append (.cons a .nil)
theorem ZhG{fz:Fz}{st:Za}{k:Bool}{ps qs:Li P}{ds:Li D}(r:Rels fz st ps ds)(h:ZbF k ps=some qs):∃ es,rsL k ds=some es/\Rels fz st qs es:=by
 cases k with
 |false=>
  cases h;exact⟨_,rfl,r.rev⟩
 |true=>
  have h:JT ps=some qs:=h;unfold JT at h;split at h
  ·rename_i i j
   cases h;cases r with
   |cons a r=>
    cases a;cases r with
    |cons a r=>
     cases a;cases r;refine⟨_,rfl,?_⟩;split
     ·exact .cons (.int _) (.cons (.int _) .nil)
     ·exact .cons (.int _) (.cons (.int _) .nil)
  ·exact Zb h
theorem ZiL(k:Bool):ZdY (rsD k) (rsP k):=by
 intro fz st x dx m ps b r h;cases r with
 |@lst j m0 ps0 ds hz hs r=>
  have h:(ZbF k ps0).map (fun ys=>P.lst true ys)=some (.lst m ps):=h
  cases q:ZbF k ps0 with
  |none=>rw[q]at h;cases h
  |some qs=>
   rw[q]at h;cases h;obtain⟨es,e1,e2⟩:=ZhG r q;exact⟨es,by unfold rsD;simp only[hs,e1],e2⟩
 |_=>exact Zb h
theorem ZkB(k:Bool):Op1 (rsD k) (rsP k):=by
 intro fz st x dx p b r h;cases r with
 |@lst j m ps0 ds hz hs r=>
  have h':(ZbF k ps0).map (fun ys=>P.lst true ys)=some p:=h
  cases q:ZbF k ps0 with
  |none=>rw[q]at h';cases h'
  |some qs=>
   rw[q]at h';cases h';exact(ZiL k fz st _ _ true qs b (.lst hz hs r) h).gives b
 |_=>exact Zb h
theorem Zak{fz:Fz}{st:Za}{k:P}{dk:D}(hk:Rel fz st k dk)(ok:okP 8 k=true):∀ {xs:Li P}{ds:Li D},Rels fz st xs ds->Yy 8 xs=true->Xw k xs=UK dk ds
 |_,_,.nil,_=>rfl
 |x :: xs,d :: ds,.cons a r,h=>by
  have h:(okP 8 x&&Yy 8 xs)=true:=h;rw[Ba]at h;have e:=Wf a hk;show(if ZF x k=true then some 0 else (Xw k xs).map (·+1))=(if Zv d dk=true then some 0 else (UK dk ds).map (·+1))
  rw[e,Zak hk ok r h.2]
theorem Zi5:Op2 ZdK ZbH:=by
 intro fz st x y dx dy p b r s h;cases r with
 |@lst j m ps ds hz hs r=>
  cases s with
  |@tup qs es s=>
   cases s with
   |nil=>exact Zb h
   |cons a s=>
    cases s with
    |cons _ _=>cases a<;>cases h
    |nil=>
     cases a with
     |@tup ks eks rk=>
      have h:(if (okP 8 (.tup ks)&&Yy 8 ps)=true then (match Xw (.tup ks) ps with
       |some i=>some (P.int (i:Int))
       |none=>none) else none)=some p:=h
      split at h
      ·rename_i hok
       have hok':=Bool.and_eq_true_iff.mp hok;have e1:=Zak (.tup rk) hok'.1 r hok'.2;have g:ZdK (.lst j) (.tup [.tup eks]) st=(match UK (.tup eks) ds with
        |some i=>some (D.int (i:Int),st)
        |none=>none):=by
        show(match st[j]? with
         |some (_,xs)=>if (okD 8 (.tup eks)&&Yd 8 xs)=true then (match UK (.tup eks) xs with
          |some i=>some (D.int (i:Int),st)
          |none=>none) else none
         |none=>none)=_
        rw[hs];show(if (okD 8 (.tup eks)&&Yd 8 ds)=true then _ else none)=_
        rw[if_pos (by rw[<-X8 (.tup rk),<-XS r];exact hok)]
       rw[g,<-e1];cases q:Xw (.tup ks) ps with
       |none=>rw[q]at h;cases h
       |some i=>rw[q]at h;cases h;exact .same b (.int _)
      ·exact Zb h
     |_=>exact Zb h
  |_=>exact Zb h
 |kt ks=>
  cases s with
  |@tup ps ds s=>
   cases s with
   |nil=>exact Zb h
   |cons a s=>
    cases s with
    |cons _ _=>cases a<;>cases h
    |nil=>
     cases a with
     |str k=>
      have h:(match UL k ks with
       |some i=>some (P.int (i:Int))
       |none=>none)=some p:=h
      show Gives fz st (match UL k ks with
       |some i=>some (D.int (i:Int),st)
       |none=>none) p
      cases q:UL k ks with
      |none=>rw[q]at h;cases h
      |some i=>rw[q]at h;cases h;exact .same b (.int _)
     |_=>exact Zb h
  |_=>exact Zb h
 |_=>exact Zb h
theorem Zha(ks:Li Str)(ds:Li D):Op1 (Um ks ds) (UU ks ds):=by
 intro fz st x dx p b r h;cases r with
 |str k=>
  have h:(ZK ks ds k).bind ofD=some p:=h;cases q:ZK ks ds k with
  |none=>rw[q]at h;cases h
  |some d=>
   rw[q]at h;have e:Um ks ds (.str k) st=some (d,st):=by unfold Um;simp only[q]
   rw[e];exact .same b (Rel.ofConst h)
 |_=>exact Zb h
theorem ZiW:Op3 getD Zep:=by
 intro fz st x y z dx dy dz p b r s t h;cases r with
 |@dct ks ps ds r=>
  cases s with
  |str k=>
   have h:some ((YS ks ps k).getD z)=some p:=h;have e:getD (.dct ks ds) (.str k) dz st=some ((ZK ks ds k).getD dz,st):=rfl;rw[e];cases h;rcases XM (k:=k) (ks:=ks) r with⟨p',d,e1,e2,q⟩|⟨e1,e2⟩
   ·rw[e1,e2];exact .same b q
   ·rw[e1,e2];exact .same b t
  |_=>exact Zb h
 |_=>exact Zb h
theorem ZiX(ng:Bool):Op2 (ZgU ng) (ZeI ng):=by
 intro fz st x y dx dy p b r s h;cases r with
 |int i=>
  cases s with
  |int j=>
   have h:(if -(2 ^ 62)<=j/\j < 2 ^ 62 then some (P.bl (ng != decide (0<=i/\i < j))) else none)=some p:=h
   split at h
   ·rename_i c
    cases h;have e:ZgU ng (.int i) (.int j) st=some (.bl (ng != decide (0<=i/\i < j)),st):=if_pos c;rw[e];exact .same b (.bl _)
   ·exact Zb h
  |_=>exact Zb h
 |_=>exact Zb h
theorem ZiV(op:CmpOp):Op2 (Za7 op) (ZU op):=by
 intro fz st x y dx dy p b r s h;have h:(ZgG op x y).map P.bl=some p:=h;cases q:ZgG op x y with
 |none=>rw[q]at h;cases h
 |some k=>
  rw[q]at h;cases h
  have e:ZgF op dx dy st=some k:=by
   cases op with
   |Lt=>exact ZeS r s q
   |LtE=>exact U1 r s q
   |Gt=>exact U1 r s q
   |GtE=>exact U1 r s q
   |Eq=>exact Zcb r s q
   |NotEq=>exact UW (fun k=>Zcb r s) q
   |In=>exact Zal r s q
   |NotIn=>
    replace q:niP x y=some k:=q;show niS st dx dy=some k;cases s with
    |dct _=>exact Zb q
    |_=>exact UW (fun k=>Zal r (by constructor<;>assumption)) q
   |Is=>exact Zan r s q
   |IsNot=>exact UW (fun k=>Zan r s) q
  have e2:Za7 op dx dy st=some (.bl k,st):=by unfold Za7;rw[e]
  rw[e2];exact .same b (.bl k)
theorem J8{op:Operator}{fz:Fz}{st:Za}{x y p:P}{dx dy:D}(b:Bd fz st)(r:Rel fz st x dx)(s:Rel fz st y dy)(h:Wh op x y=some p):(∃ d,Ql op dx dy st=some (d,st)/\Rel fz st p d/\∀ m ps,p≠.lst m ps)\/∃ ps,p=.lst true ps/\Makes fz st (Ql op dx dy st) true ps:=by
 cases r with
 |@lst ja ma pa da hz hs rr=>
  cases s with
  |@lst jb mb pb db hz' hs' rr'=>
   have h:(if Xi op=true/\pa.length+pb.length<=Zs then some (P.lst true (pa++pb)) else none)=some p:=h
   split at h
   ·rename_i c
    cases h;refine .inr ⟨_,rfl,_,?_,rr.append rr'⟩;show(if Xi op=true then Zeb ja jb st else none)=_
    unfold Zeb;rw[if_pos c.1,hs,hs'];exact if_pos (by rw[<-rr.length,<-rr'.length];exact c.2)
   ·exact Zb h
  |int j=>
   have h:(if WQ op=true then Zgb ma pa j else none)=some p:=h
   split at h
   ·rename_i c
    cases ma with
    |false=>exact Zb h
    |true=>cases rr with
     |nil=>exact Zb h
     |@cons p0 _ _ _ a rr=>cases rr with
      |cons _ _=>exact Zb h
      |nil=>
       have h:(if j<=1000/\-1000<=j then some (P.lst true (List.replicate j.toNat p0)) else none)=some p:=h
       split at h
       ·rename_i c2
        cases h;refine .inr ⟨_,rfl,_,?_,Rels.rep a _⟩;show(if WQ op=true then Zfl ja j st else none)=_
        unfold Zfl;rw[if_pos c,hs];exact if_pos c2
       ·exact Zb h
   ·exact Zb h
  |_=>exact Zb h
 |@tup pa da r1=>cases s with
  |@tup pb db s1=>
   have h:(if Xi op=true/\pa.length+pb.length<=Zs then some (P.tup (pa++pb)) else none)=some p:=h
   split at h
   ·rename_i c
    cases h;exact .inl ⟨_,if_pos ⟨c.1,by rw[<-r1.length,<-s1.length];exact c.2⟩,.tup (r1.append s1),fun _ _ z=>nomatch z⟩
   ·exact Zb h
  |int j=>
   have h:(if WQ op=true then Zgc pa j else none)=some p:=h
   split at h
   ·rename_i c
    cases r1 with
    |nil=>exact Zb h
    |@cons p0 d0 _ _ a r1=>cases r1 with
     |cons _ _=>exact Zb h
     |nil=>
      have h:(if j<=1000/\-1000<=j then some (P.tup (List.replicate j.toNat p0)) else none)=some p:=h
      split at h
      ·rename_i c2
       cases h;exact .inl ⟨_,(if_pos c).trans (if_pos c2),.tup (Rels.rep a _),fun _ _ z=>nomatch z⟩
      ·exact Zb h
   ·exact Zb h
  |_=>exact Zb h
 |int i=>cases s with
  |int j=>
   have h:(match UH op i j with
    |some k=>some (P.int k)
    |none=>none)=some p:=h
   have z:Ql op (.int i) (.int j) st=(match UH op i j with
    |some k=>some (D.int k,st)
    |none=>none):=rfl
   rw[z];cases q:UH op i j with
   |none=>rw[q]at h;cases h
   |some k=>rw[q]at h;cases h;exact .inl ⟨_,rfl,.int _,fun _ _ z=>nomatch z⟩
  |_=>exact Zb h
 |str x=>cases s with
  |str y=>
   have h:(if Xi op=true/\x.length+y.length<=Zs then some (P.str (x++y)) else none)=some p:=h
   split at h
   ·rename_i c
    cases h;exact .inl ⟨_,if_pos c,.str _,fun _ _ z=>nomatch z⟩
   ·exact Zb h
  |_=>exact Zb h
 |_=>exact Zb h
theorem ZiK(op:Operator):Zin (Ql op) (Wh op):=by
 intro fz st x y dx dy m ps b r s h;rcases J8 b r s h with⟨_,_,_,n⟩|⟨qs,e,mk⟩
 ·exact absurd rfl (n _ _)
 ·cases e;exact mk
theorem ZiU(op:Operator):Op2 (Ql op) (Wh op):=by
 intro fz st x y dx dy p b r s h;rcases J8 b r s h with⟨d,e,rp,_⟩|⟨qs,e,mk⟩
 ·rw[e];exact .same b rp
 ·cases e;exact mk.gives b
theorem ZaJ{fz:Fz}{st:Za}{x:P}{dx:D}{lo hi:Ot Int}{p:P}(b:Bd fz st)(r:Rel fz st x dx)(h:Ym x lo hi=some p):(∃ d,Yx dx lo hi st=some (d,st)/\Rel fz st p d/\∀ m ps,p≠.lst m ps)\/∃ ps,p=.lst true ps/\Makes fz st (Yx dx lo hi st) true ps:=by
 cases r with
 |@tup ps ds r=>
  have h:(if sIx ps.length 0 lo=0/\sIx ps.length ps.length hi=ps.length then some (P.tup ps) else some (P.tup (Vq ps lo hi)))=some p:=h
  split at h
  ·rename_i c
   cases h;refine .inl ⟨_,?_,.tup r,fun _ _ z=>nomatch z⟩
   unfold Yx;simp only;rw[if_pos (by rw[<-r.length];exact c)]
  ·rename_i c
   cases h;refine .inl ⟨_,?_,.tup (Zac r),fun _ _ z=>nomatch z⟩
   unfold Yx;simp only;rw[if_neg (by rw[<-r.length];exact c)]
 |@lst j m ps ds hz hs r=>
  cases h;refine .inr ⟨_,rfl,_,?_,Zac r⟩;unfold Yx;simp only[hs]
 |_=>exact Zb h
theorem ZdD{fz:Fz}{st:Za}{x y z:P}{dx dy dz:D}{p:P}(s1:Rel fz st y dy)(s2:Rel fz st z dz)(h:XF x y z=some p):∃ lo hi,Ym x lo hi=some p/\∀ dx,Wa dx dy dz st=Yx dx lo hi st:=by
 unfold XF at h;split at h
 ·cases s1;cases s2;exact⟨_,_,h,fun _=>rfl⟩
 ·cases s1;cases s2;exact⟨_,_,h,fun _=>rfl⟩
 ·cases s1;cases s2;exact⟨_,_,h,fun _=>rfl⟩
 ·cases s1;cases s2;exact⟨_,_,h,fun _=>rfl⟩
 ·exact Zb h
theorem Ze3:Op3 Wa XF:=by
 intro fz st x y z dx dy dz p b r s1 s2 h;obtain⟨lo,hi,h0,e⟩:=ZdD (dx:=dx) s1 s2 h;rw[e];rcases ZaJ b r h0 with⟨d,e1,rr,_⟩|⟨ps,rfl,mk⟩
 ·rw[e1];exact .same b rr
 ·exact mk.gives b
theorem Zem:Zio Wa XF:=by
 intro fz st x y z dx dy dz m ps b r s1 s2 h;obtain⟨lo,hi,h0,e⟩:=ZdD (dx:=dx) s1 s2 h;rw[e];rcases ZaJ b r h0 with⟨_,_,_,z⟩|⟨ps,z,mk⟩
 ·exact absurd rfl (z _ _)
 ·cases z;exact mk
end
end Dp


namespace Dp
open PySem
noncomputable abbrev PFn:=Nat->Li P->Ot P
def ZfP(F:Fn)(G:Li P->Ot P):Prop:=∀ ps m xs,G ps=some (.lst m xs)->∀ fz st ds,Bd fz st->Rels fz st ps ds->∃ j es st' fz1,F ds st=some (.lst j,st')/\st'[j]?=some (m,es)/\Next fz st fz1 st'/\¬fz1 j/\st.length<=j/\Rels fz1 st' xs es
def ZI(F:Nat->Fn)(G:PFn):Prop:=(∀ i ps p,G i ps=some p->∀ fz st ds,Bd fz st->Rels fz st ps ds->Gives fz st (F i ds st) p)/\∀ i,Vy i=true->ZfP (F i) (G i)
def EnvAll(fz:Fz)(st:Za)(π:Zq)(ρ:Env):Prop:=∀ (i:Nat) (p:P),π[i]?=some (some p)->∃ d,ρ[i]?=some (some d)/\Rel fz st p d
theorem EnvAll.next{fz fz':Fz}{st st':Za}{π:Zq}{ρ:Env}(b:Bd fz st)(x:Next fz st fz' st')(h:EnvAll fz st π ρ):EnvAll fz' st' π ρ:=fun i p e=>
 let ⟨d,e1,r⟩:=h i p e;⟨d,e1,r.next b x⟩
def SEP(f:Ev)(g:PEv):Prop:=∀ π p,g π=some p->∀ fz st ρ,Bd fz st->EnvAll fz st π ρ->Gives fz st (f ρ st) p
def SFP(f:Ev)(g:PEv):Prop:=∀ π m ps,g π=some (.lst m ps)->∀ fz st ρ,Bd fz st->EnvAll fz st π ρ->∃ j ds st' fz1,f ρ st=some (.lst j,st')/\st'[j]?=some (m,ds)/\Next fz st fz1 st'/\¬fz1 j/\st.length<=j/\Rels fz1 st' ps ds
section
variable {f fa fb fc:Ev}{g ga gb gc:PEv}
theorem Makes.fresh{fz fz1:Fz}{st st1:Za}{r:Res}{m:Bool}{ps:Li P}(x:Next fz st fz1 st1)(h:Makes fz1 st1 r m ps) :
  ∃ j ds st' fz2,r=some (.lst j,st')/\st'[j]?=some (m,ds)/\Next fz st fz2 st'/\¬fz2 j/\st.length<=j/\Rels fz2 st' ps ds:=by
 obtain⟨ds,e,rr⟩:=h;refine⟨_,ds,_,fz1,e,Zge,x.trans (Zdm x.bd),fun z=>?_,x.len,rr.next x.bd (Zdm x.bd)⟩
 exact absurd (x.bd _ z) (by omega)
theorem s1{o:D->Za->Res}{O:P->Ot P}(h:SEP f g)(k:Op1 o O):SEP (ZC f o) (pq1 g O):=by
 intro π p e fz st ρ b E;unfold pq1 at e;split at e
 ·rename_i x q
  obtain⟨d,st1,fz1,e1,n1,r1⟩:=h π x q fz st ρ b E;obtain⟨d2,st2,fz2,e2,n2,r2⟩:=k fz1 st1 x d p n1.bd r1 e;exact⟨d2,st2,fz2,by unfold ZC;rw[e1];exact e2,n1.trans n2,r2⟩
 ·exact Zb e
theorem s1F{o:D->Za->Res}{O:P->Ot P}(h:SEP f g)(k:ZdY o O):SFP (ZC f o) (pq1 g O):=by
 intro π m ps e fz st ρ b E;unfold pq1 at e;split at e
 ·rename_i x q
  obtain⟨d,st1,fz1,e1,n1,r1⟩:=h π x q fz st ρ b E;have mk:=k fz1 st1 x d m ps n1.bd r1 e;have e3:ZC f o ρ st=o d st1:=by unfold ZC;rw[e1]
  rw[e3];exact mk.fresh n1
 ·exact Zb e
theorem s2{o:D->D->Za->Res}{O:P->P->Ot P}(ha:SEP fa ga)(hb:SEP fb gb)(k:Op2 o O):SEP (ZQ fa fb o) (pq2 ga gb O):=by
 intro π p e fz st ρ b E;unfold pq2 at e;split at e
 ·rename_i x q
  split at e
  ·rename_i y q'
   obtain⟨d,st1,fz1,e1,n1,r1⟩:=ha π x q fz st ρ b E;obtain⟨d2,st2,fz2,e2,n2,r2⟩:=hb π y q' fz1 st1 ρ n1.bd (E.next b n1);obtain⟨d3,st3,fz3,e3,n3,r3⟩:=k fz2 st2 x y d d2 p n2.bd (r1.next n1.bd n2) r2 e;exact⟨d3,st3,fz3,by unfold ZQ;rw[e1];simp only[e2];exact e3,(n1.trans n2).trans n3,r3⟩
  ·exact Zb e
 ·exact Zb e
theorem s2F{o:D->D->Za->Res}{O:P->P->Ot P}(ha:SEP fa ga)(hb:SEP fb gb)(k:Zin o O):SFP (ZQ fa fb o) (pq2 ga gb O):=by
 intro π m ps e fz st ρ b E;unfold pq2 at e;split at e
 ·rename_i x q
  split at e
  ·rename_i y q'
   obtain⟨d,st1,fz1,e1,n1,r1⟩:=ha π x q fz st ρ b E;obtain⟨d2,st2,fz2,e2,n2,r2⟩:=hb π y q' fz1 st1 ρ n1.bd (E.next b n1);have mk:=k fz2 st2 x y d d2 m ps n2.bd (r1.next n1.bd n2) r2 e;have e3:ZQ fa fb o ρ st=o d d2 st2:=by unfold ZQ;rw[e1];simp only[e2]
   rw[e3];exact mk.fresh (n1.trans n2)
  ·exact Zb e
 ·exact Zb e
theorem s3{o:D->D->D->Za->Res}{O:P->P->P->Ot P}(ha:SEP fa ga)(hb:SEP fb gb)(hc:SEP fc gc)(k:Op3 o O):SEP (VP fa fb fc o) (pq3 ga gb gc O):=by
 intro π p e fz st ρ b E;unfold pq3 at e;split at e
 ·rename_i x q
  split at e
  ·rename_i y q'
   split at e
   ·rename_i z q''
    obtain⟨d,st1,fz1,e1,n1,r1⟩:=ha π x q fz st ρ b E;obtain⟨d2,st2,fz2,e2,n2,r2⟩:=hb π y q' fz1 st1 ρ n1.bd (E.next b n1);obtain⟨d3,st3,fz3,e3,n3,r3⟩:=hc π z q'' fz2 st2 ρ n2.bd (E.next b (n1.trans n2));obtain⟨d4,st4,fz4,e4,n4,r4⟩:=k fz3 st3 x y z d d2 d3 p n3.bd (r1.next n1.bd (n2.trans n3)) (r2.next n2.bd n3) r3 e;exact⟨d4,st4,fz4,by unfold VP;rw[e1];simp only[e2,e3];exact e4,((n1.trans n2).trans n3).trans n4,r4⟩
   ·exact Zb e
  ·exact Zb e
 ·exact Zb e
theorem s3F{o:D->D->D->Za->Res}{O:P->P->P->Ot P}(ha:SEP fa ga)(hb:SEP fb gb)(hc:SEP fc gc)(k:Zio o O):SFP (VP fa fb fc o) (pq3 ga gb gc O):=by
 intro π m ps e fz st ρ b E;unfold pq3 at e;split at e
 ·rename_i x q
  split at e
  ·rename_i y q'
   split at e
   ·rename_i z q''
    obtain⟨d,st1,fz1,e1,n1,r1⟩:=ha π x q fz st ρ b E;obtain⟨d2,st2,fz2,e2,n2,r2⟩:=hb π y q' fz1 st1 ρ n1.bd (E.next b n1);obtain⟨d3,st3,fz3,e3,n3,r3⟩:=hc π z q'' fz2 st2 ρ n2.bd (E.next b (n1.trans n2));have mk:=k fz3 st3 x y z d d2 d3 m ps n3.bd (r1.next n1.bd (n2.trans n3)) (r2.next n2.bd n3) r3 e;have e4:VP fa fb fc o ρ st=o d d2 d3 st3:=by unfold VP;rw[e1];simp only[e2,e3]
    rw[e4];exact mk.fresh ((n1.trans n2).trans n3)
   ·exact Zb e
  ·exact Zb e
 ·exact Zb e
theorem sC{p:P}{d:D}(h:∀ fz st,Rel fz st p d):SEP (evC d) (fun _=>some p):=by
 intro π q e fz st ρ b E;cases e;exact .same b (h fz st)
theorem Zdw(hc:SEP fc gc)(ha:SEP fa ga)(hb:SEP fb gb):SEP (Xs fc fa fb) (YE gc ga gb):=by
 intro π p e fz st ρ b E;unfold YE at e;split at e
 ·rename_i q
  obtain⟨d,st1,fz1,e1,n1,r1⟩:=hc π _ q fz st ρ b E;cases r1;obtain⟨d2,st2,fz2,e2,n2,r2⟩:=ha π p e fz1 st1 ρ n1.bd (E.next b n1);exact⟨d2,st2,fz2,by unfold Xs;rw[e1];exact e2,n1.trans n2,r2⟩
 ·rename_i q
  obtain⟨d,st1,fz1,e1,n1,r1⟩:=hc π _ q fz st ρ b E;cases r1;obtain⟨d2,st2,fz2,e2,n2,r2⟩:=hb π p e fz1 st1 ρ n1.bd (E.next b n1);exact⟨d2,st2,fz2,by unfold Xs;rw[e1];exact e2,n1.trans n2,r2⟩
 ·exact Zb e
theorem Zle(i:Nat):SEP (Yj i) (Wt i):=by
 intro π p e fz st ρ b E;unfold Wt at e;split at e
 ·rename_i q
  cases e;obtain⟨d,e1,r⟩:=E i _ q;exact⟨d,st,fz,by unfold Yj;rw[e1],Next.refl b,r⟩
 ·exact Zb e
theorem Zji{F:Fn}{G:Li P->Ot P}{ds:Li D}(hF:∀ ps p,G ps=some p->∀ fz st es,Bd fz st->Rels fz st ps es->Gives fz st (F es st) p):Op1 (Vm F ds) (Vl G ds):=by
 intro fz st x dx p b r h;cases r with
 |@tup ps es r=>
  have h:(match WF ds with
   |some es=>G (ps++es)
   |none=>none)=some p:=h
  split at h
  ·rename_i qs q
   exact hF _ p h fz st (es++ds) b (r.append (Rels.ofConst q))
  ·exact Zb h
 |_=>exact Zb h
theorem Zjk{F:Nat->Fn}{G:Nat->Li P->Ot P}{tab:Li (Nat×Nat)}(hF:∀ j ps p,G j ps=some p->∀ fz st es,Bd fz st->Rels fz st ps es->Gives fz st (F j es st) p):Op2 (Zat F tab) (Wr G tab):=by
 intro fz st x y dx dy p b r s h;cases r with
 |obj i=>
  cases s with
  |@tup ps ds s=>
   have h:(match tab.lookup i with
    |some j=>G j (.obj i :: ps)
    |none=>none)=some p:=h
   show Gives fz st (match tab.lookup i with
    |some j=>F j (.obj i :: ds) st
    |none=>none) p
   cases q:tab.lookup i with
   |none=>rw[q]at h;cases h
   |some j=>
    rw[q]at h;exact hF j _ p h fz st _ b (.cons (.obj i) s)
  |_=>exact Zb h
 |_=>exact Zb h
theorem ZhH{F:Fn}{G:Li P->Ot P}{ds:Li D}{fa:Ev}{ga:PEv}(ha:SEP fa ga)(hF:ZfP F G):SFP (ZC fa (Vm F ds)) (pq1 ga (Vl G ds)):=by
 intro π m ps h fz st ρ b E;unfold pq1 at h;split at h
 ·rename_i x q
  obtain⟨d,st1,fz1,e1,n1,r1⟩:=ha π x q fz st ρ b E;cases r1 with
  |@tup qs es r=>
   have h:(match WF ds with
    |some es=>G (qs++es)
    |none=>none)=some (.lst m ps):=h
   split at h
   ·rename_i ws qq
    obtain⟨j,us,st2,fz2,e2,f1,n2,f2,f3,f4⟩:=hF _ m ps h fz1 st1 (es++ds) n1.bd (r.append (Rels.ofConst qq));refine⟨j,us,st2,fz2,?_,f1,n1.trans n2,f2,Nat.le_trans n1.len f3,f4⟩;unfold ZC;rw[e1];exact e2
   ·exact Zb h
  |_=>exact Zb h
 ·exact Zb h
theorem ZbE{fz:Fz}{st:Za}(n:Nat):Rels fz st ((List.range n).map fun(k:Nat)=>P.int (k:Int)) ((List.range n).map fun(k:Nat)=>D.int (k:Int)):=by
 generalize List.range n=l
 induction l with
 |nil=>exact .nil
 |cons a l ih=>exact .cons (.int _) ih
theorem Uk{fz:Fz}{st:Za}{rng:Bool}{x:P}{dx:D}{xs:Li P}(r:Rel fz st x dx)(h:VB rng x=some xs):∃ ds,XA rng dx=some ds/\Rels fz st xs ds:=by
 cases rng with
 |true=>
  cases r with
  |int n=>
   have h:(if n < 2 ^ 62/\-(2 ^ 62)<=n then some (Ya n) else none)=some xs:=h
   split at h
   ·rename_i c
    cases h;refine⟨_,by unfold XA;simp only;rw[if_pos c],ZbE _⟩
   ·exact Zb h
  |_=>exact Zb h
 |false=>
  cases r with
  |tup r=>cases h;exact⟨_,rfl,r⟩
  |_=>exact Zb h
theorem Uz{fz:Fz}{st:Za}{rng:Bool}{x:P}{dx:D}{xs:Li P}(b:Bd fz st)(r:Rel fz st x dx)(h:YT rng x=some xs):∃ ds ok,WV rng dx st=some (ds,ok)/\Rels fz st xs ds/\∀ fz' st',Next fz st fz' st'->ok st':=by
 unfold YT at h;split at h
 ·rename_i ys q
  cases h;obtain⟨ds,e,rr⟩:=Uk r q;exact⟨ds,_,by unfold WV;rw[e],rr,fun _ _ _=>trivial⟩
 ·split at h
  ·cases h
   cases r with
   |@lst j m ps ds hz hs r=>
    rename_i m _;refine⟨ds,fun s=>s[j]?=some (m,ds),?_,r,fun fz' st' n=>?_⟩
    ·unfold WV XA
     simp only[hs]
    ·exact(n.old j (b j hz)).trans hs
  ·cases h
theorem WI{fz:Fz}{st:Za}:∀ {xs:Li P}{ds:Li D}{k:Nat},Rels fz st xs ds->Rels fz st (YK k xs) (Xt k ds)
 |_,_,_,.nil=>.nil
 |_,_,k,.cons a r=>.cons (.tup (.cons (.int _) (.cons a .nil))) (WI r)
theorem JK{fz:Fz}{st:Za}:∀ {xs:Li P}{ds:Li D},Rels fz st xs ds->ds.all Zbq=xs.all QE
 |_,_,.nil=>rfl
 |_,_,.cons a r=>by
  rw[List.all_cons,List.all_cons,JK r]
  congr 1
  cases a with
  |tup s=>
   cases s with
   |nil=>rfl
   |cons _ s=>cases s with
    |nil=>rfl
    |cons _ s=>cases s<;>rfl
  |_=>rfl
theorem UC{fz:Fz}{st:Za}{x:P}{dx:D}{xs:Li P}(b:Bd fz st)(r:Rel fz st x dx)(h:Qf x=some xs):∃ ds ok,Q8 dx st=some (ds,ok)/\Rels fz st xs ds/\∀ fz' st',Next fz st fz' st'->ok st':=by
 cases r with
 |@tup ps ds r=>
  have h:(if ps.all QE=true then some ps else none)=some xs:=h
  split at h
  ·rename_i c
   cases h;refine⟨ds,fun _=>True,?_,r,fun _ _ _=>trivial⟩
   show(if ds.all Zbq=true then some (ds,fun _=>True) else none)=_
   rw[if_pos (by rw[JK r];exact c)]
  ·exact Zb h
 |@lst j m ps ds hz hs r=>
  have h:(if ps.all QE=true then some ps else none)=some xs:=h
  split at h
  ·rename_i c
   cases h;refine⟨ds,fun s=>s[j]?=some (m,ds),?_,r,fun fz' st' n=>?_⟩
   ·unfold Q8
    simp only[hs];rw[if_pos (by rw[JK r];exact c)]
   ·exact(n.old j (b j hz)).trans hs
  ·exact Zb h
 |_=>exact Zb h
theorem UB{fz:Fz}{st:Za}{x:P}{dx:D}{xs:Li P}(b:Bd fz st)(r:Rel fz st x dx)(h:WM x=some xs):∃ ds ok,UA dx st=some (ds,ok)/\Rels fz st xs ds/\∀ fz' st',Next fz st fz' st'->ok st':=by
 cases r with
 |@lst j m ps ds hz hs r=>
  cases h;exact⟨Xt 0 ds,fun s=>s[j]?=some (_,ds),by unfold UA;simp only[hs],WI r,fun fz' st' n=>(n.old j (b j hz)).trans hs⟩
 |tup r=>cases h;exact⟨_,_,rfl,WI r,fun _ _ _=>trivial⟩
 |_=>exact Zb h
def V8(gb:P->Li (Ot P))(bd:D->Li (Ot D)):Prop:=∀ fz st x d,Rel fz st x d->(gb x).length=(bd d).length/\EnvAll fz st (gb x) (bd d)
theorem Zay:V8 Zdg one:=fun fz st x d r=>⟨rfl,fun i p e=>by
 cases i with
 |zero=>cases e;exact⟨d,rfl,r⟩
 |succ i=>exact nomatch (show(none:Ot (Ot P))=some (some p) from e)⟩
theorem Vc:V8 Ws two:=fun fz st x d r=>by
 have no:∀ {l:Li (Ot D)},EnvAll fz st [] l:=fun i p e=>nomatch (show(none:Ot (Ot P))=some (some p) from e)
 cases r with
 |tup r=>cases r with
  |nil=>exact⟨rfl,no⟩
  |cons a r=>cases r with
   |nil=>exact⟨rfl,no⟩
   |cons b r=>cases r with
    |cons c r=>exact⟨rfl,no⟩
    |nil=>exact⟨rfl,fun i p e=>by
     cases i with
     |zero=>cases e;exact⟨_,rfl,a⟩
     |succ i=>cases i with
      |zero=>cases e;exact⟨_,rfl,b⟩
      |succ i=>exact nomatch (show(none:Ot (Ot P))=some (some p) from e)⟩
 |_=>exact⟨rfl,no⟩
theorem Vo{gb:P->Li (Ot P)}{bd:D->Li (Ot D)}(hb:V8 gb bd){ok:Za->Prop}{fe fc:Ev}{ge gc:PEv}(he:SEP fe ge)(hc:SEP fc gc){fr:Li Nat}{π:Zq}{ρ:Env}:∀ {xs:Li P}{ds:Li D}{ys:Li P}{fz:Fz}{st:Za},Bd fz st->EnvAll fz st π ρ->Rels fz st xs ds->(∀ fz' st',Next fz st fz' st'->ok st')->
   Yr (fun p=>ge (Ye gb π fr p)) (fun p=>gc (Ye gb π fr p)) xs=some ys->∃ es st' fz',Z8 ok (fun d s=>fe (Yh bd ρ fr d) s) (fun d s=>fc (Yh bd ρ fr d) s) ds st=some (es,st')/\Next fz st fz' st'/\Rels fz' st' ys es
 |_,_,ys,fz,st,b,E,.nil,hok,h=>by cases h;exact⟨[],st,fz,if_pos (hok _ _ (Next.refl b)),Next.refl b,.nil⟩
 |x :: xs,d :: ds,ys,fz,st,b,E,.cons a r,hok,h=>by
  have ok0:=hok _ _ (Next.refl b);obtain⟨hl,hbe⟩:=hb fz st x d a;have E1:EnvAll fz st (Ye gb π fr x) (Yh bd ρ fr d):=by
   intro i p e;unfold Ye at e;unfold Yh;by_cases hi:i < (gb x).length
   ·rw[List.getElem?_append_left hi]at e
    rw[List.getElem?_append_left (by rw[<-hl];exact hi)]
    exact hbe i p e
   ·have hi:(gb x).length<=i:=Nat.le_of_not_lt hi
    rw[List.getElem?_append_right hi,List.getElem?_map]at e;rw[List.getElem?_append_right (by rw[<-hl];exact hi),List.getElem?_map,<-hl]
    cases q:fr[i - (gb x).length]? with
    |none=>rw[q]at e;cases e
    |some k=>
     rw[q]at e;have e:(π[k]?).join=some p:=by simpa using e
     have e2:π[k]?=some (some p):=by
      cases q2:π[k]? with
      |none=>rw[q2]at e;cases e
      |some o=>rw[q2]at e;rw[show o=some p from e]
     obtain⟨d',e3,r3⟩:=E k p e2;exact⟨d',by simp[e3],r3⟩
  unfold Yr at h;split at h
  ·rename_i q
   split at h
   ·rename_i y q1
    split at h
    ·rename_i zs q2
     cases h;obtain⟨dc,st1,fz1,e1,n1,r1⟩:=hc _ _ q fz st _ b E1;cases r1;obtain⟨dy,st2,fz2,e2,n2,r2⟩:=he _ _ q1 fz1 st1 _ n1.bd (E1.next b n1);obtain⟨es,st3,fz3,e3,n3,r3⟩:=Vo hb he hc n2.bd (E.next b (n1.trans n2)) (r.next b (n1.trans n2)) (fun _ _ n=>hok _ _ ((n1.trans n2).trans n)) q2
     refine⟨dy :: es,st3,fz3,?_,(n1.trans n2).trans n3,.cons (r2.next n2.bd n3) r3⟩;unfold Z8;rw[if_pos ok0];simp only[e1,e2,e3]
    ·exact Zb h
   ·exact Zb h
  ·rename_i q
   obtain⟨dc,st1,fz1,e1,n1,r1⟩:=hc _ _ q fz st _ b E1;cases r1;obtain⟨es,st3,fz3,e3,n3,r3⟩:=Vo hb he hc n1.bd (E.next b n1) (r.next b n1) (fun _ _ n=>hok _ _ (n1.trans n)) h
   refine⟨es,st3,fz3,?_,n1.trans n3,r3⟩;unfold Z8;rw[if_pos ok0];simp only[e1];exact e3
  ·exact Zb h
theorem Zdv{gb:P->Li (Ot P)}{bd:D->Li (Ot D)}(hb:V8 gb bd){gw:P->Ot (Li P)}{dw:D->Za->Ot (Li D×(Za->Prop))}(hw:∀ {fz:Fz}{st:Za}{x:P}{dx:D}{xs:Li P},Bd fz st->Rel fz st x dx->gw x=some xs->∃ ds ok,dw dx st=some (ds,ok)/\Rels fz st xs ds/\∀ fz' st',Next fz st fz' st'->ok st'){fr:Li Nat}{fi fe fc:Ev}{gi ge gc:PEv}(hi:SEP fi gi)(he:SEP fe ge)(hc:SEP fc gc){π:Zq}{p:P}(e:ZO gb gw fr gi ge gc π=some p){fz:Fz}{st:Za}{ρ:Env}(b:Bd fz st)(E:EnvAll fz st π ρ) :
  ∃ ps ds st1 fz1,p=.lst true ps/\Xq bd dw fr fi fe fc ρ st=some (.lst st1.length,st1++[(true,ds)])/\Next fz st fz1 st1/\Rels fz1 st1 ps ds:=by
 unfold ZO at e;split at e
 ·rename_i x q
  split at e
  ·rename_i xs q1
   split at e
   ·rename_i c
    split at e
    ·rename_i ys q2
     cases e;obtain⟨d,st1,fz1,e1,n1,r1⟩:=hi π x q fz st ρ b E;obtain⟨ds,ok,e2,r2,hok⟩:=hw n1.bd r1 q1;obtain⟨es,st3,fz3,e3,n3,r3⟩:=Vo hb he hc (fr:=fr) n1.bd (E.next b n1) r2 hok q2;refine⟨ys,es,st3,fz3,rfl,?_,n1.trans n3,r3⟩;unfold Xq;simp only[e1,e2];rw[if_pos (by rw[<-r2.length];exact c)]
     simp only[e3]
    ·exact Zb e
   ·exact Zb e
  ·exact Zb e
 ·exact Zb e
theorem Zdu{gb:P->Li (Ot P)}{bd:D->Li (Ot D)}(hb:V8 gb bd){gw:P->Ot (Li P)}{dw:D->Za->Ot (Li D×(Za->Prop))}(hw:∀ {fz:Fz}{st:Za}{x:P}{dx:D}{xs:Li P},Bd fz st->Rel fz st x dx->gw x=some xs->∃ ds ok,dw dx st=some (ds,ok)/\Rels fz st xs ds/\∀ fz' st',Next fz st fz' st'->ok st'){fr:Li Nat}{fi fe fc:Ev}{gi ge gc:PEv}(hi:SEP fi gi)(he:SEP fe ge)(hc:SEP fc gc):SEP (Xq bd dw fr fi fe fc) (ZO gb gw fr gi ge gc):=by
 intro π p e fz st ρ b E;obtain⟨ps,ds,st1,fz1,rfl,e1,n1,r1⟩:=Zdv hb hw hi he hc e b E;exact⟨_,_,_,e1,n1.trans (JM n1.bd),QU n1.bd r1⟩
theorem JQ{gb:P->Li (Ot P)}{bd:D->Li (Ot D)}(hb:V8 gb bd){gw:P->Ot (Li P)}{dw:D->Za->Ot (Li D×(Za->Prop))}(hw:∀ {fz:Fz}{st:Za}{x:P}{dx:D}{xs:Li P},Bd fz st->Rel fz st x dx->gw x=some xs->∃ ds ok,dw dx st=some (ds,ok)/\Rels fz st xs ds/\∀ fz' st',Next fz st fz' st'->ok st'){fr:Li Nat}{fi fe fc:Ev}{gi ge gc:PEv}(hi:SEP fi gi)(he:SEP fe ge)(hc:SEP fc gc):SFP (Xq bd dw fr fi fe fc) (ZO gb gw fr gi ge gc):=by
 intro π m qs e fz st ρ b E;obtain⟨ps,ds,st1,fz1,h,e1,n1,r1⟩:=Zdv hb hw hi he hc e b E;cases h;exact Makes.fresh n1 ⟨ds,e1,r1⟩
end
theorem Zc{F:Nat->Fn}{G:PFn}(hF:ZI F G):∀ e:CE,SEP (ev F e) (pe G e)
 |.var i=>Zle i
 |.cst d=>by
  intro π p e fz st ρ b E;exact .same b (Rel.ofConst e)
 |.bin op a b=>s2 (Zc hF a) (Zc hF b) (ZiU op)
 |.neg a=>s1 (Zc hF a) Zi3
 |.cmp op a b=>s2 (Zc hF a) (Zc hF b) (ZiV op)
 |.not a=>s1 (Zc hF a) Zi4
 |.and a b=>Zdw (Zc hF a) (Zc hF b) (sC fun _ _=>.bl false)
 |.or a b=>Zdw (Zc hF a) (sC fun _ _=>.bl true) (Zc hF b)
 |.ife c a b=>Zdw (Zc hF c) (Zc hF a) (Zc hF b)
 |.tupE a=>Zc hF a
 |.lstE a=>s1 (Zc hF a) Zi0
 |.aN=>sC fun _ _=>.tup .nil
 |.aC a r=>s2 (Zc hF a) (Zc hF r) Zg6
 |.ix a b=>s2 (Zc hF a) (Zc hF b) ZkA
 |.slice a lo hi=>s3 (Zc hF a) (Zc hF lo) (Zc hF hi) Ze3
 |.nop=>sC fun _ _=>.non
 |.part a=>s1 (Zc hF a) Zhb
 |.call f a ds=>s1 (Zc hF a) (Zji (hF.1 f))
 |.len a=>s1 (Zc hF a) Zg8
 |.tOf a=>s1 (Zc hF a) Ze4
 |.listOf a=>s1 (Zc hF a) Zg9
 |.intOf a=>s1 (Zc hF a) ZiY
 |.min a b=>s2 (Zc hF a) (Zc hF b) Zi2
 |.max a b=>s2 (Zc hF a) (Zc hF b) Zi1
 |.isi T a=>s1 (Zc hF a) (ZiZ T)
 |.rs k a=>s1 (Zc hF a) (ZkB k)
 |.inv _=>fun _ r e=>nomatch (show(none:Ot P)=some r from e)
 |.tupR _=>fun _ r e=>nomatch (show(none:Ot P)=some r from e)
 |.look ks ds a=>s1 (Zc hF a) (Zha ks ds)
 |.dget a k d=>s3 (Zc hF a) (Zc hF k) (Zc hF d) ZiW
 |.inR ng a b=>s2 (Zc hF a) (Zc hF b) (ZiX ng)
 |.all _=>fun _ r e=>nomatch (show(none:Ot P)=some r from e)
 |.any _=>fun _ r e=>nomatch (show(none:Ot P)=some r from e)
 |.comp rng fr it elt cnd=>Zdu Zay Uz (Zc hF it) (Zc hF elt) (Zc hF cnd)
 |.comp2 fr it elt cnd=>Zdu Vc UB (Zc hF it) (Zc hF elt) (Zc hF cnd)
 |.compT fr it elt cnd=>Zdu Vc UC (Zc hF it) (Zc hF elt) (Zc hF cnd)
 |.lstR _ _=>fun _ r e=>nomatch (show(none:Ot P)=some r from e)
 |.new i=>sC fun _ _=>.obj i
 |.meth tab o a=>s2 (Zc hF o) (Zc hF a) (Zjk fun j=>hF.1 j)
 |.isc _ _=>fun _ r e=>nomatch (show(none:Ot P)=some r from e)
 |.tix o a=>s2 (Zc hF o) (Zc hF a) Zi5
 |.dict ks a=>s1 (Zc hF a) (Zg7 ks)
 |.dnew=>fun _ r e=>nomatch (show(none:Ot P)=some r from e)
 |.strOf _=>fun _ r e=>nomatch (show(none:Ot P)=some r from e)
 |.joinE _ _=>fun _ r e=>nomatch (show(none:Ot P)=some r from e)
 |.starts _ _=>fun _ r e=>nomatch (show(none:Ot P)=some r from e)
 |.rng2 a b=>s2 (Zc hF a) (Zc hF b) Zhc
 |.srt _=>fun _ r e=>nomatch (show(none:Ot P)=some r from e)
theorem Q3{F:Nat->Fn}{G:PFn}(hF:ZI F G):∀ e:CE,W7 e=true->SFP (ev F e) (pe G e)
 |.bin op a b,_=>s2F (Zc hF a) (Zc hF b) (ZiK op)
 |.lstE a,_=>s1F (Zc hF a) Zf1
 |.call f a ds,h=>ZhH (Zc hF a) (hF.2 f h)
 |.slice a lo hi,_=>s3F (Zc hF a) (Zc hF lo) (Zc hF hi) Zem
 |.listOf a,_=>s1F (Zc hF a) Jq
 |.rs k a,_=>s1F (Zc hF a) (ZiL k)
 |.comp rng fr it elt cnd,_=>JQ Zay Uz (Zc hF it) (Zc hF elt) (Zc hF cnd)
 |.comp2 fr it elt cnd,_=>JQ Vc UB (Zc hF it) (Zc hF elt) (Zc hF cnd)
 |.compT fr it elt cnd,_=>JQ Vc UC (Zc hF it) (Zc hF elt) (Zc hF cnd)
noncomputable def Xa(M:Li Nat)(π:Zq):Zq:=π.mapIdx fun i x=>if M.contains i then none else x
theorem Wk{M:Li Nat}{π:Zq}{i:Nat}(h:M.contains i=false):(Xa M π)[i]?=π[i]?:=by
 unfold Xa;rw[List.getElem?_mapIdx];cases q:π[i]? with
 |none=>rfl
 |some x=>
  show some (if M.contains i then none else x)=some x
  rw[h];rfl
theorem Zcc{M:Li Nat}{π:Zq}{i:Nat}{p:P}(h:(Xa M π)[i]?=some (some p)):M.contains i=false/\π[i]?=some (some p):=by
 unfold Xa at h;rw[List.getElem?_mapIdx]at h;cases q:π[i]? with
 |none=>rw[q]at h;cases h
 |some x=>
  rw[q]at h;have h:(if M.contains i then none else x)=some p:=by simpa using h
  split at h
  ·exact Zb h
  ·rename_i c
   exact⟨by simpa using c,by rw[h]⟩
theorem Zd{G:PFn}{M:Li Nat}{π:Zq}:∀ e:CE,noM M e=true->pe G e (Xa M π)=pe G e π
 |.var i,h=>by
  have h:(!M.contains i)=true:=h;show Wt i _=Wt i _;unfold Wt;rw[Wk (by simpa using h)]
 |.cst d,_=>rfl
 |.bin op a b,h=>by
  have h:=(Ba _ _).mp h;show pq2 (pe G a) (pe G b) (Wh op) _=pq2 (pe G a) (pe G b) (Wh op) _;unfold pq2;rw[Zd a h.1,Zd b h.2]
 |.neg a,h=>by
  show pq1 (pe G a) Ze0 _=pq1 (pe G a) Ze0 _;unfold pq1;rw[Zd a h]
 |.cmp op a b,h=>by
  have h:=(Ba _ _).mp h;show pq2 (pe G a) (pe G b) (ZU op) _=pq2 (pe G a) (pe G b) (ZU op) _;unfold pq2;rw[Zd a h.1,Zd b h.2]
 |.not a,h=>by
  show pq1 (pe G a) ZbC _=pq1 (pe G a) ZbC _;unfold pq1;rw[Zd a h]
 |.and a b,h=>by
  have h:=(Ba _ _).mp h;show YE (pe G a) (pe G b) _ _=YE (pe G a) (pe G b) _ _;unfold YE;rw[Zd a h.1,Zd b h.2]
 |.or a b,h=>by
  have h:=(Ba _ _).mp h;show YE (pe G a) _ (pe G b) _=YE (pe G a) _ (pe G b) _;unfold YE;rw[Zd a h.1,Zd b h.2]
 |.ife c a b,h=>by
  have h:=(Ba _ _).mp h;have h2:=(Ba _ _).mp h.2;show YE (pe G c) (pe G a) (pe G b) _=YE (pe G c) (pe G a) (pe G b) _;unfold YE;rw[Zd c h.1,Zd a h2.1,Zd b h2.2]
 |.tupE a,h=>Zd a h
 |.srt _,_=>rfl
 |.lstE a,h=>by
  show pq1 (pe G a) JD _=pq1 (pe G a) JD _;unfold pq1;rw[Zd a h]
 |.aN,_=>rfl
 |.aC a b,h=>by
  have h:=(Ba _ _).mp h;show pq2 (pe G a) (pe G b) Vp _=pq2 (pe G a) (pe G b) Vp _;unfold pq2;rw[Zd a h.1,Zd b h.2]
 |.ix a b,h=>by
  have h:=(Ba _ _).mp h;show pq2 (pe G a) (pe G b) ixP _=pq2 (pe G a) (pe G b) ixP _;unfold pq2;rw[Zd a h.1,Zd b h.2]
 |.slice c a b,h=>by
  have h:=(Ba _ _).mp h;have h2:=(Ba _ _).mp h.2;show pq3 (pe G c) (pe G a) (pe G b) _ _=pq3 (pe G c) (pe G a) (pe G b) _ _;unfold pq3;rw[Zd c h.1,Zd a h2.1,Zd b h2.2]
 |.nop,_=>rfl
 |.part a,h=>by
  show pq1 (pe G a) Us _=pq1 (pe G a) Us _;unfold pq1;rw[Zd a h]
 |.call f a ds,h=>by
  show pq1 (pe G a) (Vl (G f) ds) _=pq1 (pe G a) (Vl (G f) ds) _;unfold pq1;rw[Zd a h]
 |.len a,h=>by
  show pq1 (pe G a) Jy _=pq1 (pe G a) Jy _;unfold pq1;rw[Zd a h]
 |.tOf a,h=>by
  show pq1 (pe G a) WK _=pq1 (pe G a) WK _;unfold pq1;rw[Zd a h]
 |.listOf a,h=>by
  show pq1 (pe G a) QL _=pq1 (pe G a) QL _;unfold pq1;rw[Zd a h]
 |.intOf a,h=>by
  show pq1 (pe G a) Jt _=pq1 (pe G a) Jt _;unfold pq1;rw[Zd a h]
 |.min a b,h=>by
  have h:=(Ba _ _).mp h;show pq2 (pe G a) (pe G b) Zbz _=pq2 (pe G a) (pe G b) Zbz _;unfold pq2;rw[Zd a h.1,Zd b h.2]
 |.max a b,h=>by
  have h:=(Ba _ _).mp h;show pq2 (pe G a) (pe G b) Zby _=pq2 (pe G a) (pe G b) Zby _;unfold pq2;rw[Zd a h.1,Zd b h.2]
 |.isi T a,h=>by
  show pq1 (pe G a) (V5 T) _=pq1 (pe G a) (V5 T) _;unfold pq1;rw[Zd a h]
 |.rs k a,h=>by
  show pq1 (pe G a) (rsP k) _=pq1 (pe G a) (rsP k) _;unfold pq1;rw[Zd a h]
 |.inv _,_=>rfl
 |.tupR _,_=>rfl
 |.look ks ds a,h=>by
  show pq1 (pe G a) (UU ks ds) _=pq1 (pe G a) (UU ks ds) _;unfold pq1;rw[Zd a h]
 |.dget a k d,h=>by
  have h:=(Ba _ _).mp h;have h2:=(Ba _ _).mp h.2;show pq3 (pe G a) (pe G k) (pe G d) Zep _=pq3 (pe G a) (pe G k) (pe G d) Zep _;unfold pq3;rw[Zd a h.1,Zd k h2.1,Zd d h2.2]
 |.inR ng a b,h=>by
  have h:=(Ba _ _).mp h;show pq2 (pe G a) (pe G b) (ZeI ng) _=pq2 (pe G a) (pe G b) (ZeI ng) _;unfold pq2;rw[Zd a h.1,Zd b h.2]
 |.all _,_=>rfl
 |.any _,_=>rfl
 |.comp rng fr it elt cnd,h=>by
  have h:=(Ba _ _).mp h;have e:∀ b p,Ye b (Xa M π) fr p=Ye b π fr p:=fun b p=>by
   unfold Ye
   congr 1
   refine List.map_congr_left fun i hi=>?_
   have:=List.all_eq_true.mp h.2 i hi;rw[Wk (by simpa using this)]
  show ZO Zdg (YT rng) fr (pe G it) (pe G elt) (pe G cnd) _=ZO Zdg (YT rng) fr (pe G it) (pe G elt) (pe G cnd) _;unfold ZO;rw[Zd it h.1];simp only[e]
 |.comp2 fr it elt cnd,h=>by
  have h:=(Ba _ _).mp h;have e:∀ b p,Ye b (Xa M π) fr p=Ye b π fr p:=fun b p=>by
   unfold Ye
   congr 1
   refine List.map_congr_left fun i hi=>?_
   have:=List.all_eq_true.mp h.2 i hi;rw[Wk (by simpa using this)]
  show ZO Ws WM fr (pe G it) (pe G elt) (pe G cnd) _=ZO Ws WM fr (pe G it) (pe G elt) (pe G cnd) _;unfold ZO;rw[Zd it h.1];simp only[e]
 |.compT fr it elt cnd,h=>by
  have h:=(Ba _ _).mp h;have e:∀ b p,Ye b (Xa M π) fr p=Ye b π fr p:=fun b p=>by
   unfold Ye
   congr 1
   refine List.map_congr_left fun i hi=>?_
   have:=List.all_eq_true.mp h.2 i hi;rw[Wk (by simpa using this)]
  show ZO Ws Qf fr (pe G it) (pe G elt) (pe G cnd) _=ZO Ws Qf fr (pe G it) (pe G elt) (pe G cnd) _;unfold ZO;rw[Zd it h.1];simp only[e]
 |.new _,_=>rfl
 |.meth tab o a,h=>by
  have h:=(Ba _ _).mp h;show pq2 (pe G o) (pe G a) (Wr G tab) _=pq2 (pe G o) (pe G a) (Wr G tab) _;unfold pq2;rw[Zd o h.1,Zd a h.2]
 |.tix o a,h=>by
  have h:=(Ba _ _).mp h;show pq2 (pe G o) (pe G a) ZbH _=pq2 (pe G o) (pe G a) ZbH _;unfold pq2;rw[Zd o h.1,Zd a h.2]
 |.isc _ _,_=>rfl
 |.lstR _ _,_=>rfl
 |.dict ks a,h=>by
  show pq1 (pe G a) (Zae ks) _=pq1 (pe G a) (Zae ks) _;unfold pq1;rw[Zd a h]
 |.dnew,_=>rfl
 |.strOf _,_=>rfl
 |.joinE _ _,_=>rfl
 |.starts _ _,_=>rfl
 |.rng2 a b,h=>by
  have h:=(Ba _ _).mp h;show pq2 (pe G a) (pe G b) ZaI _=pq2 (pe G a) (pe G b) ZaI _;unfold pq2;rw[Zd a h.1,Zd b h.2]
end Dp


namespace Dp
open PySem
inductive Own(p:P)(o:Option (Option D))(ps:List P)(j:Nat):Prop where
 |l (a:p=.lst true ps) (b:o=some (some (.lst j)))
 |d (a:p=.dic true ps) (b:o=some (some (.dic j)))
def Rf(o:Ot (Ot D))(j:Nat):Prop:=o=some (some (.lst j))\/o=some (some (.dic j))
theorem Own.rf{p:P}{o:Ot (Ot D)}{ps:Li P}{j:Nat}:Own p o ps j->Rf o j
 |.l _ b=>.inl b
 |.d _ b=>.inr b
theorem Rf.inj{o:Ot (Ot D)}{i j:Nat}(h:Rf o i)(h':Rf o j):i=j:=by
 rcases h with h|h<;>rcases h' with h'|h'<;>(rw[h]at h';cases h';try rfl)
theorem Own.lst{m:Bool}{xs:Li P}{o:Ot (Ot D)}{ps:Li P}{j:Nat}:Own (.lst m xs) o ps j->(m=true/\xs=ps)/\o=some (some (.lst j))
 |.l a b=>by cases a;exact⟨⟨rfl,rfl⟩,b⟩
 |.d a b=>nomatch a
theorem Own.rel{fz:Fz}{st:Za}{p:P}{o:Ot (Ot D)}{ps:Li P}{ds:Li D}{j:Nat}(h:Own p o ps j)(hz:fz j)(e:st[j]?=some (true,ds))(r:Rels fz st ps ds):∃ d,o=some (some d)/\Rel fz st p d:=by
 cases h with
 |l a b=>rw[a];exact⟨_,b,.lst hz e r⟩
 |d a b=>rw[a];exact⟨_,b,.dic hz e r⟩
structure Inv(n0:Nat)(M:List Nat)(fz:Fz)(st:Za)(π:Zq)(ρ:Env):Prop where
 bd:Bd fz st
 lo:n0<=st.length
 len:π.length=ρ.length
 fr:∀ (i:Nat) (p:P),M.contains i=false->π[i]?=some (some p)->∃ d,ρ[i]?=some (some d)/\Rel fz st p d
 mt:∀ (i:Nat) (p:P),M.contains i=true->π[i]?=some (some p)->∃ (j:Nat) (ps:List P) (ds:List D),Own p ρ[i]? ps j/\Rf ρ[i]? j/\st[j]?=some (true,ds)/\¬fz j/\n0<=j/\Rels fz st ps ds
 ne:∀ (i i':Nat) (p p':P) (j:Nat),M.contains i=true->M.contains i'=true->π[i]?=some (some p)->π[i']?=some (some p')->Rf ρ[i]? j->Rf ρ[i']? j->i=i'
structure Later(n0:Nat)(fz:Fz)(st:Za)(fz':Fz)(st':Za):Prop where
 low:∀ i,i < n0->st'[i]?=st[i]?
 frz:∀ i,fz i->st'[i]?=st[i]?
 sub:∀ i,fz i->fz' i
 new:∀ i,fz' i->fz i\/n0<=i
 len:st.length<=st'.length
section
variable {n0:Nat}{M:Li Nat}{fz fz' fz1 fz2:Fz}{st st' st1 st2:Za}{π:Zq}{ρ:Env}
theorem Later.refl:Later n0 fz st fz st:=⟨fun _ _=>rfl,fun _ _=>rfl,fun _ h=>h,fun _ h=>.inl h,Nat.le_refl _⟩
theorem Later.trans(x:Later n0 fz st fz1 st1)(y:Later n0 fz1 st1 fz2 st2):Later n0 fz st fz2 st2:=
 ⟨fun i h=>(y.low i h).trans (x.low i h),fun i h=>(y.frz i (x.sub i h)).trans (x.frz i h),fun i h=>y.sub i (x.sub i h),fun i h=>(y.new i h).elim (x.new i) .inr,Nat.le_trans x.len y.len⟩
theorem Next.later(h:n0<=st.length)(b:Bd fz st)(x:Next fz st fz' st'):Later n0 fz st fz' st':=
 ⟨fun i hi=>x.old i (Nat.lt_of_lt_of_le hi h),fun i hi=>x.old i (b i hi),x.sub,fun i hi=>(x.new i hi).elim .inl fun z=>.inr (Nat.le_trans h z),x.len⟩
theorem ZX{α:Type}{l:Li α}{i:Nat}{x:α}(h:l[i]?=some x):i < l.length:=(List.getElem?_eq_some_iff.mp h).1
theorem Inv.next(I:Inv n0 M fz st π ρ)(x:Next fz st fz' st'):Inv n0 M fz' st' π ρ:=
 ⟨x.bd,Nat.le_trans I.lo x.len,I.len,fun i p h e=>let ⟨d,e1,r⟩:=I.fr i p h e;⟨d,e1,r.next I.bd x⟩,fun i p h e=>by
  obtain⟨j,ps,ds,e1,e2,e3,e4,e5,r⟩:=I.mt i p h e;have hj:=ZX e3;exact⟨j,ps,ds,e1,e2,(x.old j hj).trans e3,fun z=>(x.new j z).elim e4 fun z=>absurd hj (by omega),e5,r.next I.bd x⟩,I.ne⟩
theorem Inv.erase(I:Inv n0 M fz st π ρ):EnvAll fz st (Xa M π) ρ:=fun i p e=>let ⟨h1,h2⟩:=Zcc e;I.fr i p h1 h2
noncomputable def fzM(M:Li Nat)(fz:Fz)(π:Zq)(ρ:Env):Fz:=fun i=>fz i\/∃ (k:Nat) (p:P),M.contains k=true/\π[k]?=some (some p)/\Rf ρ[k]? i
theorem Inv.bdM(I:Inv n0 M fz st π ρ):Bd (fzM M fz π ρ) st:=by
 rintro i (h|⟨k,p,hk,e,e'⟩)
 ·exact I.bd i h
 ·obtain⟨j,ps,ds,e1,e2,e3,e4,e5,r⟩:=I.mt k p hk e
  cases e'.inj e2
  exact ZX e3
theorem Inv.all(I:Inv n0 M fz st π ρ):EnvAll (fzM M fz π ρ) st π ρ:=by
 intro i p e;cases h:M.contains i with
 |false=>
  obtain⟨d,e1,r⟩:=I.fr i p h e;exact⟨d,e1,r.mono (fun _ z=>.inl z) fun _ _=>rfl⟩
 |true=>
  obtain⟨j,ps,ds,e1,e2,e3,e4,e5,r⟩:=I.mt i p h e;exact e1.rel (.inr ⟨i,_,h,e,e2⟩) e3 (r.mono (fun _ z=>.inl z) fun _ _=>rfl)
theorem ZS{F:Nat->Fn}{G:PFn}(hF:ZI F G){e:CE}{p:P}(I:Inv n0 M fz st π ρ)(h:pe G e π=some p)(k:Zy M e p=true):Gives fz st (ev F e ρ st) p:=by
 unfold Zy at k;rw[Bool.or_eq_true]at k;rcases k with k|k
 ·rw[<-Zd e k]at h
  exact Zc hF e _ p h fz st ρ I.bd I.erase
 ·obtain⟨d,st',fz',e1,n1,r1⟩:=Zc hF e _ p h _ st ρ I.bdM I.all
  exact⟨d,st',fz,e1,n1.small I.bd,r1.ofNoL k⟩
theorem Qv{F:Nat->Fn}{G:PFn}(hF:ZI F G){e:CE}{m:Bool}{xs:Li P}(I:Inv n0 M fz st π ρ)(h:pe G e π=some (.lst m xs))(hf:W7 e=true)(k:(noM M e||X7 xs)=true) :
  ∃ j ds st' fz1,ev F e ρ st=some (.lst j,st')/\st'[j]?=some (m,ds)/\Next fz st fz1 st'/\¬fz1 j/\st.length<=j/\Rels fz1 st' xs ds:=by
 rw[Bool.or_eq_true]at k;rcases k with k|k
 ·rw[<-Zd e k]at h
  exact Q3 hF e hf _ m xs h fz st ρ I.bd I.erase
 ·obtain⟨j,ds,st',fz1,e1,e2,n1,hn,hl,r⟩:=Q3 hF e hf _ m xs h _ st ρ I.bdM I.all
  exact⟨j,ds,st',fz,e1,e2,n1.small I.bd,fun z=>absurd (I.bd j z) (by omega),hl,r.ofNoL k⟩
theorem Uf{F:Nat->Fn}{G:PFn}(hF:ZI F G){e:CE}{p:P}(I:Inv n0 M fz st π ρ)(h:pe G e π=some p)(k:YR M e p=true) :
  ∃ d j ps ds st' fz1,(ev F e ρ st=some (d,st')/\Own p (some (some d)) ps j)/\st'[j]?=some (true,ds)/\Next fz st fz1 st'/\¬fz1 j/\st.length<=j/\Rels fz1 st' ps ds:=by
 unfold YR at k;split at k
 ·rw[Ba]at k
  obtain⟨j,ds,st',fz1,e1,r⟩:=Qv hF I h k.1 k.2;exact⟨_,j,_,ds,st',fz1,⟨e1,.l rfl rfl⟩,r⟩
 ·cases k
theorem Zbk{F:Nat->Fn}{G:PFn}(hF:ZI F G){e:CE}{p:P}(I:Inv n0 M fz st π ρ)(h:pe G e π=some p)(k:YR M e p=true):Gives fz st (ev F e ρ st) p:=by
 obtain⟨d,j,ps,ds,st',fz1,⟨e1,ow⟩,e2,n1,hn,hl,r⟩:=Uf hF I h k;obtain⟨d',e3,r'⟩:=ow.rel (fz:=fun i=>fz1 i\/i=j) (.inr rfl) e2 (r.mono (fun _ z=>.inl z) fun _ _=>rfl)
 cases e3;exact⟨d,st',fun i=>fz1 i\/i=j,e1,⟨n1.old,n1.len,fun i z=>.inl (n1.sub i z),fun i z=>z.elim (n1.new i) fun z=>by rw[z];exact .inr hl,fun i z=>z.elim (n1.bd i) fun z=>by rw[z];exact ZX e2⟩,r'⟩
theorem ZM{α:Type}{l:Li (Ot α)}{i k:Nat}{x y:α}(h:(l.set i (some x))[k]?=some (some y)):(k=i/\y=x/\i < l.length)\/(k≠i/\l[k]?=some (some y)):=by
 rw[List.getElem?_set]at h;split at h
 ·rename_i e
  subst e;split at h
  ·rename_i hl
   cases h;exact .inl ⟨rfl,rfl,hl⟩
  ·exact Zb h
 ·rename_i e
  exact .inr ⟨fun z=>e z.symm,h⟩
theorem VQ{α:Type}{l:Li (Ot α)}{i:Nat}{x:α}(h:i < l.length):(l.set i (some x))[i]?=some (some x):=by rw[List.getElem?_set,if_pos rfl,if_pos h]
theorem Zg{α:Type}{l:Li (Ot α)}{i k:Nat}{x:α}(h:k≠i):(l.set i (some x))[k]?=l[k]?:=by rw[List.getElem?_set,if_neg (fun z=>h z.symm)]
theorem Inv.set{i:Nat}{p:P}{d:D}(I:Inv n0 M fz st π ρ)(h:M.contains i=false)(r:Rel fz st p d):Inv n0 M fz st (Zt π i p) (Zr ρ i d):=by
 unfold Zt Zr;refine⟨I.bd,I.lo,by rw[List.length_set,List.length_set];exact I.len,fun k q hk e=>?_,fun k q hk e=>?_,fun k k' q q' j hk hk' e e' e1 e1'=>?_⟩
 ·rcases ZM e with⟨rfl,rfl,hl⟩|⟨hn,e⟩
  ·exact⟨d,VQ (by rw[<-I.len];exact hl),r⟩
  ·rw[Zg hn]
   exact I.fr k q hk e
 ·rcases ZM e with⟨rfl,rfl,hl⟩|⟨hn,e⟩
  ·rw[h]at hk;cases hk
  ·rw[Zg hn]
   exact I.mt k q hk e
 ·rcases ZM e with⟨rfl,rfl,hl⟩|⟨hn,e⟩
  ·rw[h]at hk;cases hk
  ·rcases ZM e' with⟨rfl,rfl,hl⟩|⟨hn',e'⟩
   ·rw[h]at hk';cases hk'
   ·rw[Zg hn]at e1
    rw[Zg hn']at e1';exact I.ne k k' q q' j hk hk' e e' e1 e1'
theorem Inv.setM{i j:Nat}{p:P}{d:D}{ps:Li P}{ds:Li D}(I:Inv n0 M fz st π ρ)(h:M.contains i=true)(ow:Own p (some (some d)) ps j)(hs:st[j]?=some (true,ds))(hz:¬fz j)(hl:n0<=j)(r:Rels fz st ps ds)(hn:∀ (k:Nat) (p:P),M.contains k=true->π[k]?=some (some p)->¬Rf ρ[k]? j):Inv n0 M fz st (Zt π i p) (Zr ρ i d):=by
 unfold Zt Zr;refine⟨I.bd,I.lo,by rw[List.length_set,List.length_set];exact I.len,fun k q hk e=>?_,fun k q hk e=>?_,fun k k' q q' j' hk hk' e e' e1 e1'=>?_⟩
 ·rcases ZM e with⟨rfl,rfl,hl⟩|⟨hn,e⟩
  ·rw[h]at hk;cases hk
  ·rw[Zg hn]
   exact I.fr k q hk e
 ·rcases ZM e with⟨rfl,rfl,hl'⟩|⟨hn,e⟩
  ·have z:=VQ (x:=d) (show k < ρ.length by rw[<-I.len];exact hl')
   exact⟨j,ps,ds,by rw[z];exact ow,by rw[z];exact ow.rf,hs,hz,hl,r⟩
  ·rw[Zg hn]
   exact I.mt k q hk e
 ·rcases ZM e with⟨a1,a2,a3⟩|⟨a1,a2⟩
  ·rcases ZM e' with⟨b1,b2,b3⟩|⟨b1,b2⟩
   ·rw[a1,b1]
   ·rw[a1,VQ (by rw[<-I.len];exact a3)]at e1
    cases ow.rf.inj e1
    rw[Zg b1]at e1';exact absurd e1' (hn k' q' hk' b2)
  ·rcases ZM e' with⟨b1,b2,b3⟩|⟨b1,b2⟩
   ·rw[b1,VQ (by rw[<-I.len];exact b3)]at e1'
    cases ow.rf.inj e1'
    rw[Zg a1]at e1;exact absurd e1 (hn k q hk a2)
   ·rw[Zg a1]at e1
    rw[Zg b1]at e1';exact I.ne k k' q q' j' hk hk' a2 b2 e1 e1'
theorem Inv.write{i j:Nat}{p0 p1:P}{ps:Li P}{ds:Li D}(I:Inv n0 M fz st π ρ)(h:M.contains i=true)(e0:π[i]?=some (some p0))(ow:Own p1 ρ[i]? ps j)(hz:¬fz j)(hl:n0<=j)(hj:j < st.length)(r:Rels fz st ps ds) :
  Inv n0 M fz (st.set j (true,ds)) (Zt π i p1) ρ/\Later n0 fz st fz (st.set j (true,ds)):=by
 have same:∀ k,fz k->(st.set j (true,ds))[k]?=st[k]?:=fun k hk=>by
  rw[List.getElem?_set,if_neg (fun z=>hz (by rw[z];exact hk))]
 have mono:∀ {q:P}{d:D},Rel fz st q d->Rel fz (st.set j (true,ds)) q d:=fun r=>r.mono (fun _ z=>z) same
 have monos:∀ {q:Li P}{d:Li D},Rels fz st q d->Rels fz (st.set j (true,ds)) q d:=fun r=>r.mono (fun _ z=>z) same
 refine⟨⟨fun k hk=>by rw[List.length_set];exact I.bd k hk,by rw[List.length_set];exact I.lo,by unfold Zt;rw[List.length_set];exact I.len,fun k q hk e=>?_,fun k q hk e=>?_,fun k k' q q' j' hk hk' e e' e1 e1'=>?_⟩,
  ⟨fun k hk=>by rw[List.getElem?_set,if_neg (by omega)],same,fun _ z=>z,fun _ z=>.inl z,by rw[List.length_set];exact Nat.le_refl _⟩⟩
 ·unfold Zt at e
  rcases ZM e with⟨rfl,rfl,_⟩|⟨hn,e⟩
  ·rw[h]at hk;cases hk
  ·obtain⟨d,e1,r1⟩:=I.fr k q hk e
   exact⟨d,e1,mono r1⟩
 ·unfold Zt at e
  rcases ZM e with⟨rfl,rfl,_⟩|⟨hn,e⟩
  ·exact⟨j,ps,ds,ow,ow.rf,by rw[List.getElem?_set,if_pos rfl,if_pos hj],hz,hl,monos r⟩
  ·obtain⟨j',qs,es,f1,f2,f3,f4,f5,f6⟩:=I.mt k q hk e
   refine⟨j',qs,es,f1,f2,?_,f4,f5,monos f6⟩;rw[List.getElem?_set,if_neg (fun z=>hn (I.ne k i q p0 j hk h e e0 (by rw[z];exact f2) ow.rf))]
   exact f3
 ·unfold Zt at e e'
  have f:∀ {k:Nat}{q:P},(π.set i (some p1))[k]?=some (some q)->∃ q',π[k]?=some (some q'):=fun {k q} e=>by
   rcases ZM e with⟨rfl,_,_⟩|⟨_,e⟩
   ·exact⟨_,e0⟩
   ·exact⟨_,e⟩
  obtain⟨_,g⟩:=f e;obtain⟨_,g'⟩:=f e';exact I.ne k k' _ _ j' hk hk' g g' e1 e1'
end
def Zj5(n0:Nat)(M:Li Nat)(fz:Fz)(st:Za):PFl->Fl->Prop
 |.nx π,.nx ρ=>Inv n0 M fz st π ρ
 |.bk π,.bk ρ=>Inv n0 M fz st π ρ
 |.ct π,.ct ρ=>Inv n0 M fz st π ρ
 |.rt p,.rt d=>Rel fz st p d/\Bd fz st
 |_,_=>False
def Kept(M T:Li Nat)(π:Zq)(ρ:Env)(st:Za)(π':Zq)(ρ':Env)(st':Za):Prop:=
 ∀ (i:Nat),i∉T->M.contains i=true->π'[i]?=π[i]?/\ρ'[i]?=ρ[i]?/\∀ (j:Nat) (p:P),π[i]?=some (some p)->Rf ρ[i]? j->st'[j]?=st[j]?
def KeptF(M T:Li Nat)(π:Zq)(ρ:Env)(st:Za)(r:PFl)(r':Fl)(st':Za):Prop:=match r,r' with
 |.nx π',.nx ρ'=>Kept M T π ρ st π' ρ' st'
 |.bk π',.bk ρ'=>Kept M T π ρ st π' ρ' st'
 |.ct π',.ct ρ'=>Kept M T π ρ st π' ρ' st'
 |_,_=>True
theorem Kept.refl{M T:Li Nat}{π:Zq}{ρ:Env}{st:Za}:Kept M T π ρ st π ρ st:=fun _ _ _=>⟨rfl,rfl,fun _ _ _ _=>rfl⟩
theorem Kept.trans{M T T1 T2:Li Nat}{π π1 π2:Zq}{ρ ρ1 ρ2:Env}{st st1 st2:Za}(s1:∀ i,i∈T1->i∈T)(s2:∀ i,i∈T2->i∈T)(x:Kept M T1 π ρ st π1 ρ1 st1)(y:Kept M T2 π1 ρ1 st1 π2 ρ2 st2):Kept M T π ρ st π2 ρ2 st2:=fun i h hm=>by
 obtain⟨a1,a2,a3⟩:=x i (fun z=>h (s1 i z)) hm
 obtain⟨b1,b2,b3⟩:=y i (fun z=>h (s2 i z)) hm
 exact⟨b1.trans a1,b2.trans a2,fun j p e e'=>(b3 j p (a1.trans e) (by rw[a2];exact e')).trans (a3 j p e e')⟩
theorem Kept.more{M T T1:Li Nat}{π π1:Zq}{ρ ρ1:Env}{st st1:Za}(s1:∀ i,i∈T1->i∈T)(x:Kept M T1 π ρ st π1 ρ1 st1):Kept M T π ρ st π1 ρ1 st1:=fun i h hm=>x i (fun z=>h (s1 i z)) hm
theorem KeptF.trans{M T T1 T2:Li Nat}{π π1:Zq}{ρ ρ1:Env}{st st1 st2:Za}{r:PFl}{r':Fl}(s1:∀ i,i∈T1->i∈T)(s2:∀ i,i∈T2->i∈T)(x:Kept M T1 π ρ st π1 ρ1 st1)(y:KeptF M T2 π1 ρ1 st1 r r' st2):KeptF M T π ρ st r r' st2:=by
 cases r<;>cases r'<;>first|trivial|exact Kept.trans s1 s2 x y
theorem KeptF.more{M T T1:Li Nat}{π:Zq}{ρ:Env}{st st2:Za}{r:PFl}{r':Fl}(s1:∀ i,i∈T1->i∈T)(y:KeptF M T1 π ρ st r r' st2):KeptF M T π ρ st r r' st2:=by
 cases r<;>cases r'<;>first|trivial|exact Kept.more s1 y
theorem Next.kept{n0:Nat}{M T:Li Nat}{fz fz':Fz}{st st':Za}{π:Zq}{ρ:Env}(I:Inv n0 M fz st π ρ)(x:Next fz st fz' st'):Kept M T π ρ st π ρ st':=fun i _ hm=>⟨rfl,rfl,fun j p e e'=>by
 obtain⟨j',ps,ds,e1,e2,e3,e4,e5,r⟩:=I.mt i p hm e;cases e'.inj e2
 exact x.old j (ZX e3)⟩
abbrev Xp(n0:Nat)(M T:Li Nat)(fz:Fz)(st:Za)(π:Zq)(ρ:Env)(x:Ot (Fl×Za))(r:PFl):Prop:=∃ r' st' fz',x=some (r',st')/\Later n0 fz st fz' st'/\Zj5 n0 M fz' st' r r'/\KeptF M T π ρ st r r' st'
def SX(n0:Nat)(M T:Li Nat)(f:Ex)(g:PEx):Prop:=∀ π r,g π=some r->∀ fz st ρ,Inv n0 M fz st π ρ->Xp n0 M T fz st π ρ (f ρ st) r
section
variable {n0:Nat}{M T T1 T2:Li Nat}{f f1 f2:Ex}{g g1 g2:PEx}{F:Nat->Fn}{G:PFn}
theorem ZjA(h1:SX n0 M T1 f1 g1)(h2:SX n0 M T2 f2 g2):SX n0 M (T1++T2) (Xm f1 f2) (Zdk g1 g2):=by
 intro π r e fz st ρ I;have s1:∀ i,i∈T1->i∈T1++T2:=fun i h=>List.mem_append.mpr (.inl h)
 have s2:∀ i,i∈T2->i∈T1++T2:=fun i h=>List.mem_append.mpr (.inr h)
 unfold Zdk at e;split at e
 ·rename_i π1 q
  obtain⟨r1,st1,fz1,e1,l1,R1,k1⟩:=h1 π _ q fz st ρ I;cases r1 with
  |nx ρ1=>
   obtain⟨r2,st2,fz2,e2,l2,R2,k2⟩:=h2 π1 r e fz1 st1 ρ1 R1;exact⟨r2,st2,fz2,by unfold Xm;rw[e1];exact e2,l1.trans l2,R2,KeptF.trans s1 s2 k1 k2⟩
  |_=>exact R1.elim
 ·rename_i hn
  obtain⟨r1,st1,fz1,e1,l1,R1,k1⟩:=h1 π _ e fz st ρ I;refine⟨r1,st1,fz1,?_,l1,R1,KeptF.more s1 k1⟩;unfold Xm;rw[e1];cases r with
  |nx π1=>exact absurd e (hn π1)
  |rt p=>cases r1<;>first|rfl|exact R1.elim
  |bk π1=>cases r1<;>first|rfl|exact R1.elim
  |ct π1=>cases r1<;>first|rfl|exact R1.elim
theorem Zjz(hF:ZI F G)(e:CE):SX n0 M T (Zds (ev F e)) (Zdi (pe G e)):=by
 intro π r h fz st ρ I;unfold Zdi at h;split at h
 ·rename_i p q
  cases h;obtain⟨d,st',fz',e1,n1,r1⟩:=Zc hF e _ p q _ st ρ I.bdM I.all;refine⟨.rt d,st',fz',by unfold Zds;rw[e1],⟨fun i hi=>n1.old i (Nat.lt_of_lt_of_le hi I.lo),fun i hi=>n1.old i (I.bd i hi),fun i hi=>n1.sub i (.inl hi),fun i hi=>?_,n1.len⟩,⟨r1,n1.bd⟩,trivial⟩
  rcases n1.new i hi with(z|⟨k,p,hk,e,e'⟩)|z
  ·exact .inl z
  ·obtain⟨j,ps,ds,f1,f2,f3,f4,f5,r⟩:=I.mt k p hk e
   cases e'.inj f2
   exact .inr f5
  ·exact .inr (Nat.le_trans I.lo z)
 ·exact Zb h
theorem XV{α:Type}{l:Li (Ot α)}{j k:Nat}{x:α}(e:(l.set j none)[k]?=some (some x)):k≠j/\l[k]?=some (some x):=by
 by_cases h:k=j
 ·subst h
  rw[List.getElem?_set]at e;simp only[if_true]at e;split at e<;>cases e
 ·rw[List.getElem?_set,if_neg (fun z=>h z.symm)]at e
  exact⟨h,e⟩
theorem Zli{i j:Nat}{p:P}{π:Zq}{fz:Fz}{st:Za}{ρ:Env}(I:Inv n0 M fz st π ρ)(hj:M.contains j=true)(hi:M.contains i=false)(q:π[j]?=some (some p)) :
  ∃ d fz',ρ[j]?=some (some d)/\Later n0 fz st fz' st/\Inv n0 M fz' st (Zt (π.set j none) i p) (Zr ρ i d)/\Kept M [i,j] π ρ st (Zt (π.set j none) i p) (Zr ρ i d) st:=by
 obtain⟨J,ps,ds,f1,f2,f3,f4,f5,f6⟩:=I.mt j p hj q;have sub:∀ k,fz k->(fz k\/k=J):=fun k h=>.inl h
 obtain⟨d,hd,rd⟩:=f1.rel (fz:=fun k=>fz k\/k=J) (.inr rfl) f3 (f6.mono sub fun _ _=>rfl)
 refine⟨d,fun k=>fz k\/k=J,hd,⟨fun _ _=>rfl,fun _ _=>rfl,sub,fun k h=>h.elim .inl fun z=>.inr (by rw[z];exact f5),Nat.le_refl _⟩,?_,fun k hk hm=>?_⟩
 ·unfold Zt Zr
  refine⟨fun k h=>h.elim (I.bd k) fun z=>by rw[z];exact ZX f3,I.lo,by rw[List.length_set,List.length_set,List.length_set];exact I.len,fun k q' hk e=>?_,fun k q' hk e=>?_,fun k k' q' q'' j' hk hk' e e' e1 e1'=>?_⟩
  ·rcases ZM e with⟨rfl,rfl,hl⟩|⟨hn,e⟩
   ·exact⟨d,VQ (by rw[<-I.len];simpa using hl),rd⟩
   ·rw[Zg hn]
    obtain⟨d,e2,r⟩:=I.fr k q' hk (XV e).2;exact⟨d,e2,r.mono sub fun _ _=>rfl⟩
  ·rcases ZM e with⟨rfl,rfl,hl⟩|⟨hn,e⟩
   ·rw[hi]at hk;cases hk
   ·rw[Zg hn]
    obtain⟨nj,e⟩:=XV e;obtain⟨J',ps',ds',g1,g2,g3,g4,g5,g6⟩:=I.mt k q' hk e;refine⟨J',ps',ds',g1,g2,g3,fun z=>z.elim g4 fun z=>?_,g5,g6.mono sub fun _ _=>rfl⟩
    subst z;exact nj (I.ne k j _ _ J' hk hj e q g2 f2)
  ·rcases ZM e with⟨rfl,rfl,hl⟩|⟨hn,e⟩
   ·rw[hi]at hk;cases hk
   ·rcases ZM e' with⟨rfl,rfl,hl⟩|⟨hn',e'⟩
    ·rw[hi]at hk';cases hk'
    ·rw[Zg hn]at e1
     rw[Zg hn']at e1';exact I.ne k k' _ _ j' hk hk' (XV e).2 (XV e').2 e1 e1'
 ·have n1:k≠i:=fun z=>hk (by rw[z];exact Ls)
  have n2:k≠j:=fun z=>hk (by rw[z];exact Lm _ (List.mem_singleton.mpr rfl))
  refine⟨?_,Zg n1,fun _ _ _ _=>rfl⟩
  unfold Zt;rw[Zg n1,List.getElem?_set,if_neg (fun z=>n2 z.symm)]
theorem ZjB(hF:ZI F G)(i:Nat)(e:CE):SX n0 M (i :: mvT e) (Xn i (ev F e)) (JL M i e (pe G e)):=by
 intro π r h fz st ρ I;have kp:∀ {fz':Fz}{st':Za}{d:D}{p:P},Next fz st fz' st'->Kept M (i :: mvT e) π ρ st (Zt π i p) (Zr ρ i d) st':=fun {fz' st' d p} x k hk hm=>by
  have hki:k≠i:=fun z=>hk (by rw[z];exact Ls)
  have:=Next.kept (T:=i :: mvT e) I x k hk hm;exact⟨Zg hki,Zg hki,this.2.2⟩
 unfold JL at h;split at h
 ·rename_i p q
  cases hm:M.contains i with
  |true=>
   rw[hm]at h;simp only[if_true]at h;split at h
   ·rename_i c
    cases h;obtain⟨d,j,ps,ds,st',fz1,⟨e1,ow⟩,e2,n1,hn,hl,r⟩:=Uf hF I q c;refine⟨.nx (Zr ρ i d),st',fz1,by unfold Xn;rw[e1],n1.later I.lo I.bd,(I.next n1).setM hm ow e2 hn (Nat.le_trans I.lo hl) r fun k p hk e e'=>?_,kp n1⟩
    obtain⟨j',ps,es,f1,f2,f3,f4,f5,_⟩:=I.mt k p hk e;cases e'.inj f2
    exact absurd (ZX f3) (by omega)
   ·unfold mvP at h
    split at h
    ·rw[hm,Bool.not_true,Bool.and_false]at h
     cases h
    ·exact Zb h
  |false=>
   rw[hm]at h;simp only[Bool.false_eq_true,if_false]at h;split at h
   ·rename_i c
    cases h;obtain⟨d,st',fz',e1,n1,r1⟩:Gives fz st (ev F e ρ st) p:=((Bool.or_eq_true _ _).mp c).elim (ZS hF I q) (Zbk hF I q);exact⟨.nx (Zr ρ i d),st',fz',by unfold Xn;rw[e1],n1.later I.lo I.bd,(I.next n1).set hm r1,kp n1⟩
   ·unfold mvP at h
    split at h
    ·rename_i j _
     split at h
     ·rename_i c
      cases h;rw[Ba]at c;have q:Wt j π=some p:=q;unfold Wt at q;split at q
      ·rename_i p' q'
       cases q;obtain⟨d,fz',e1,l1,I1,k1⟩:=Zli I c.1 hm q';refine⟨.nx (Zr ρ i d),st,fz',?_,l1,I1,k1⟩;show Xn i (Yj j) ρ st=_;unfold Xn Yj;simp only[e1]
      ·exact Zb q
     ·exact Zb h
    ·exact Zb h
 ·exact Zb h
theorem Zia(hF:ZI F G)(i j:Nat)(e:CE):SX n0 M [i,j] (QY i j (ev F e)) (QT M i j e (pe G e)):=by
 intro π r h fz st ρ I;have kp:∀ {fz':Fz}{st':Za}{d d':D}{p p':P},Next fz st fz' st'->Kept M [i,j] π ρ st (Zt (Zt π i p) j p') (Zr (Zr ρ i d) j d') st':=fun {fz' st' d d' p p'} x k hk hm=>by
  have hki:k≠i:=fun z=>hk (by rw[z];exact Ls)
  have hkj:k≠j:=fun z=>hk (by rw[z];exact Lm _ Ls)
  have:=Next.kept (T:=[i,j]) I x k hk hm;exact⟨(Zg hkj).trans (Zg hki),(Zg hkj).trans (Zg hki),this.2.2⟩
 unfold QT at h;split at h
 ·rename_i x y q
  split at h
  ·rename_i c
   cases h;rw[Ba,Ba]at c;have hi:M.contains i=false:=by simpa using c.1.1
   have hj:M.contains j=false:=by simpa using c.1.2
   obtain⟨d,st',fz',e1,n1,r1⟩:=ZS hF I q c.2;cases r1 with
   |tup rr=>
    cases rr with
    |cons a rr=>
     cases rr with
     |cons a' rr=>
      cases rr;exact⟨.nx _,st',fz',by unfold QY;rw[e1],n1.later I.lo I.bd,((I.next n1).set hi a).set hj a',kp n1⟩
  ·exact Zb h
 ·exact Zb h
theorem Zib(hF:ZI F G)(i j l:Nat)(e:CE):SX n0 M [i,j,l] (QZ i j l (ev F e)) (Zdl M i j l e (pe G e)):=by
 intro π r h fz st ρ I;have kp:∀ {fz':Fz}{st':Za}{d d' d2:D}{p p' p2:P},Next fz st fz' st'->Kept M [i,j,l] π ρ st (Zt (Zt (Zt π i p) j p') l p2) (Zr (Zr (Zr ρ i d) j d') l d2) st':=fun {fz' st' d d' d2 p p' p2} x k hk hm=>by
  have hki:k≠i:=fun z=>hk (by rw[z];exact Ls)
  have hkj:k≠j:=fun z=>hk (by rw[z];exact Lm _ Ls)
  have hkl:k≠l:=fun z=>hk (by rw[z];exact Lm _ (Lm _ Ls))
  have:=Next.kept (T:=[i,j,l]) I x k hk hm;exact⟨(Zg hkl).trans ((Zg hkj).trans (Zg hki)),(Zg hkl).trans ((Zg hkj).trans (Zg hki)),this.2.2⟩
 unfold Zdl at h;split at h
 ·rename_i x y z q
  split at h
  ·rename_i c
   cases h;rw[Ba,Ba,Ba]at c;have hi:M.contains i=false:=by simpa using c.1.1.1
   have hj:M.contains j=false:=by simpa using c.1.1.2
   have hl:M.contains l=false:=by simpa using c.1.2
   obtain⟨d,st',fz',e1,n1,r1⟩:=ZS hF I q c.2;cases r1 with
   |tup rr=>
    cases rr with
    |cons a rr=>
     cases rr with
     |cons a' rr=>
      cases rr with
      |cons a2 rr=>
       cases rr;exact⟨.nx _,st',fz',by unfold QZ;rw[e1],n1.later I.lo I.bd,(((I.next n1).set hi a).set hj a').set hl a2,kp n1⟩
  ·exact Zb h
 ·exact Zb h
theorem Zjt(hF:ZI F G)(e:CE):SX n0 M [] (ZbP (ev F e)) (Zhf M e (pe G e)):=by
 intro π r h fz st ρ I;unfold Zhf at h;split at h
 ·rename_i p q
  split at h
  ·rename_i c
   cases h;obtain⟨d,st',fz',e1,n1,r1⟩:=ZS hF I q c;exact⟨.nx ρ,st',fz',by unfold ZbP;rw[e1],n1.later I.lo I.bd,I.next n1,Next.kept I n1⟩
  ·exact Zb h
 ·exact Zb h
theorem Zju(hF:ZI F G)(i:Nat)(e:CE):SX n0 M [i] (Jg i (ev F e)) (Zc6 M i e (pe G e)):=by
 intro π r h fz st ρ I;unfold Zc6 at h;split at h
 ·rename_i xs q0
  split at h
  ·rename_i p q
   split at h
   ·rename_i c
    cases h;rw[Ba,Ba]at c;obtain⟨⟨hm,hk⟩,hz⟩:=c;have hz:=of_decide_eq_true hz;obtain⟨d,st',fz',e1,n1,r1⟩:=ZS hF I q hk;have I1:=I.next n1;obtain⟨j,ps,ds,f1,f2,f3,f4,f5,f6⟩:=I1.mt i _ hm q0;obtain⟨⟨_,rfl⟩,f0⟩:=f1.lst;obtain⟨I2,l2⟩:=I1.write hm q0 (.l rfl f0) f4 f5 (ZX f3) (f6.append (.cons r1 .nil));refine⟨.nx ρ,_,fz',?_,(n1.later I.lo I.bd).trans l2,I2,fun k hk2 hm2=>?_⟩
    ·unfold Jg
     rw[f0];simp only[e1];unfold X3;simp only[f3];rw[if_pos (by rw[<-f6.length];exact hz)]
    ·have hki:k≠i:=fun z=>hk2 (by rw[z];exact List.mem_singleton.mpr rfl)
     have kk:=Next.kept (T:=[i]) I n1 k hk2 hm2;refine⟨Zg hki,rfl,fun j' p' e e'=>?_⟩
     rw[<-kk.2.2 j' p' e e',List.getElem?_set,if_neg (fun z=>hki (I.ne k i p' _ j hm2 hm e q0 (by rw[z];exact e') f2))]
   ·exact Zb h
  ·exact Zb h
 ·exact Zb h
theorem Zjv(hF:ZI F G)(i:Nat)(e:CE):SX n0 M [i] (Zcd i (ev F e)) (Zdb M i e (pe G e)):=by
 intro π r h fz st ρ I;unfold Zdb at h;split at h
 ·rename_i xs q0
  split at h
  ·rename_i ys q
   split at h
   ·rename_i c
    cases h;rw[Ba,Ba]at c;obtain⟨⟨hm,hk⟩,hz⟩:=c;have hz:=of_decide_eq_true hz;obtain⟨d,st',fz',e1,n1,r1⟩:=ZS hF I q (show Zy M e _=true by unfold Zy;rw[hk,Bool.true_or])
    have I1:=I.next n1;obtain⟨j,ps,ds,f1,f2,f3,f4,f5,f6⟩:=I1.mt i _ hm q0;obtain⟨⟨_,rfl⟩,f0⟩:=f1.lst;cases r1 with
    |@lst jb _ _ db zb sb rb=>
     obtain⟨I2,l2⟩:=I1.write hm q0 (.l rfl f0) f4 f5 (ZX f3) (f6.append rb);refine⟨.nx ρ,_,fz',?_,(n1.later I.lo I.bd).trans l2,I2,fun k hk2 hm2=>?_⟩
     ·unfold Zcd
      rw[f0];simp only[e1];unfold ZgL;simp only[f3,sb];rw[if_pos (by rw[<-f6.length,<-rb.length];exact hz)]
     ·have hki:k≠i:=fun z=>hk2 (by rw[z];exact List.mem_singleton.mpr rfl)
      have kk:=Next.kept (T:=[i]) I n1 k hk2 hm2;refine⟨Zg hki,rfl,fun j' p' e e'=>?_⟩
      rw[<-kk.2.2 j' p' e e',List.getElem?_set,if_neg (fun z=>hki (I.ne k i p' _ j hm2 hm e q0 (by rw[z];exact e') f2))]
   ·exact Zb h
  ·exact Zb h
 ·exact Zb h
theorem Zjy(hF:ZI F G)(i:Nat)(e k:CE):SX n0 M [i] (Zdn i (ev F k) (ev F e)) (Zhl M i e (pe G k) (pe G e)):=by
 intro π r h fz st ρ I;unfold Zhl at h;split at h
 ·rename_i p q
  split at h
  ·rename_i xs q0
   split at h
   ·rename_i a qa
    split at h
    ·rename_i b qb
     split at h
     ·rename_i c
      cases h;rw[Ba]at c;obtain⟨hm,hk⟩:=c;obtain⟨d,st',fz',e1,n1,r1⟩:=ZS hF I q hk;have I1:=I.next n1;obtain⟨d2,st2,fz2,e2,n2,r2⟩:=ZS hF I1 qa (by unfold Zy;rw[show noL (.int a)=true from rfl,Bool.or_true])
      cases r2;have I2:=I1.next n2;obtain⟨j,ps,ds,f1,f2,f3,f4,f5,f6⟩:=I2.mt i _ hm q0;obtain⟨⟨_,rfl⟩,f0⟩:=f1.lst;obtain⟨I3,l3⟩:=I2.write hm q0 (.l rfl f0) f4 f5 (ZX f3) (f6.set (r1.next n1.bd n2) b);refine⟨.nx ρ,_,fz2,?_,((n1.trans n2).later I.lo I.bd).trans l3,I3,fun k' hk2 hm2=>?_⟩
      ·unfold Zdn
       rw[e1];simp only[f0,e2];unfold Qe;simp only[f3];rw[<-f6.length,qb]
      ·have hki:k'≠i:=fun z=>hk2 (by rw[z];exact List.mem_singleton.mpr rfl)
       have kk:=Next.kept (T:=[i]) I (n1.trans n2) k' hk2 hm2;refine⟨Zg hki,rfl,fun j' p' e e'=>?_⟩
       rw[<-kk.2.2 j' p' e e',List.getElem?_set,if_neg (fun z=>hki (I.ne k' i p' _ j hm2 hm e q0 (by rw[z];exact e') f2))]
     ·exact Zb h
    ·exact Zb h
   ·exact Zb h
  ·exact Zb h
 ·exact Zb h
theorem Zjx(hF:ZI F G)(c:CE)(h1:SX n0 M T1 f1 g1)(h2:SX n0 M T2 f2 g2):SX n0 M (T1++T2) (QG (ev F c) f1 f2) (Zde (pe G c) g1 g2):=by
 intro π r e fz st ρ I;have s1:∀ i,i∈T1->i∈T1++T2:=fun i h=>List.mem_append.mpr (.inl h)
 have s2:∀ i,i∈T2->i∈T1++T2:=fun i h=>List.mem_append.mpr (.inr h)
 unfold Zde at e;split at e
 ·rename_i q
  obtain⟨d,st',fz',e1,n1,r1⟩:=ZS hF I q (by unfold Zy;rw[show noL (.bl true)=true from rfl,Bool.or_true])
  cases r1;obtain⟨r2,st2,fz2,e2,l2,R2,k2⟩:=h1 π r e fz' st' ρ (I.next n1);exact⟨r2,st2,fz2,by unfold QG;rw[e1];exact e2,(n1.later I.lo I.bd).trans l2,R2,KeptF.trans (T1:=T1) s1 s1 (Next.kept I n1) k2⟩
 ·rename_i q
  obtain⟨d,st',fz',e1,n1,r1⟩:=ZS hF I q (by unfold Zy;rw[show noL (.bl false)=true from rfl,Bool.or_true])
  cases r1;obtain⟨r2,st2,fz2,e2,l2,R2,k2⟩:=h2 π r e fz' st' ρ (I.next n1);exact⟨r2,st2,fz2,by unfold QG;rw[e1];exact e2,(n1.later I.lo I.bd).trans l2,R2,KeptF.trans (T1:=T2) s2 s2 (Next.kept I n1) k2⟩
 ·exact Zb e
abbrev Qg(n0:Nat)(M T:Li Nat)(B:P->Zq->Ot PFl)(B':D->Env->Za->Ot (Fl×Za)):Prop:=∀ x d π r,B x π=some r->∀ fz st ρ,Inv n0 M fz st π ρ->Rel fz st x d->Xp n0 M T fz st π ρ (B' d ρ st) r
theorem Later.rels{fz fz':Fz}{st st':Za}{ps:Li P}{ds:Li D}(l:Later n0 fz st fz' st')(r:Rels fz st ps ds):Rels fz' st' ps ds:=r.mono l.sub l.frz
theorem XN{B:P->Zq->Ot PFl}{B':D->Env->Za->Ot (Fl×Za)}(h:Qg n0 M T B B'):∀ {xs:Li P}{ds:Li D}{π:Zq}{r:PFl}{fz:Fz}{st:Za}{ρ:Env},Inv n0 M fz st π ρ->Rels fz st xs ds->Yb B xs π=some r->Xp n0 M T fz st π ρ (ZZ B' ds ρ st) r
 |_,_,π,r,fz,st,ρ,I,.nil,e=>by cases e;exact⟨.nx ρ,st,fz,rfl,Later.refl,I,Kept.refl⟩
 |x :: xs,d :: ds,π,r,fz,st,ρ,I,.cons a rs,e=>by
  unfold Yb at e;split at e
  ·rename_i π1 q
   obtain⟨r1,st1,fz1,e1,l1,R1,k1⟩:=h x d π _ q fz st ρ I a;cases r1 with
   |nx ρ1=>
    obtain⟨r2,st2,fz2,e2,l2,R2,k2⟩:=XN h (ρ:=ρ1) R1 (l1.rels rs) e;exact⟨r2,st2,fz2,by unfold ZZ;rw[e1];exact e2,l1.trans l2,R2,KeptF.trans (fun _ z=>z) (fun _ z=>z) k1 k2⟩
   |_=>exact R1.elim
  ·rename_i π1 q
   obtain⟨r1,st1,fz1,e1,l1,R1,k1⟩:=h x d π _ q fz st ρ I a;cases r1 with
   |ct ρ1=>
    obtain⟨r2,st2,fz2,e2,l2,R2,k2⟩:=XN h (ρ:=ρ1) R1 (l1.rels rs) e;exact⟨r2,st2,fz2,by unfold ZZ;rw[e1];exact e2,l1.trans l2,R2,KeptF.trans (fun _ z=>z) (fun _ z=>z) k1 k2⟩
   |_=>exact R1.elim
  ·rename_i π1 q
   cases e;obtain⟨r1,st1,fz1,e1,l1,R1,k1⟩:=h x d π _ q fz st ρ I a;cases r1 with
   |bk ρ1=>exact⟨.nx ρ1,st1,fz1,by unfold ZZ;rw[e1],l1,R1,k1⟩
   |_=>exact R1.elim
  ·rename_i v q
   cases e;obtain⟨r1,st1,fz1,e1,l1,R1,k1⟩:=h x d π _ q fz st ρ I a;cases r1 with
   |rt d'=>exact⟨.rt d',st1,fz1,by unfold ZZ;rw[e1],l1,R1,trivial⟩
   |_=>exact R1.elim
  ·exact Zb e
theorem JA{B':D->Env->Za->Ot (Fl×Za)}{a n k:Nat}{ρ:Env}{st:Za}{m:Bool}{all:Li D}{d:D}(h:st[a]?=some (m,all))(hk:all[k]?=some d):ZW B' a (n+1) k ρ st=(match B' d ρ st with
  |some (.nx ρ',st')=>ZW B' a n (k+1) ρ' st'
  |some (.ct ρ',st')=>ZW B' a n (k+1) ρ' st'
  |some (.bk ρ',st')=>some (.nx ρ',st')
  |some (.rt v,st')=>some (.rt v,st')
  |none=>none):=by
 rw[ZW];simp only[h,hk]<;>rfl
abbrev Zip(n0:Nat)(M T:Li Nat)(a:Nat)(m:Bool)(all:Li D)(J:Fz->Za->Zq->Env->Prop):Prop:=
 (∀ fz st π ρ,J fz st π ρ->st[a]?=some (m,all))/\∀ fz st π ρ fz' st' π' ρ',Later n0 fz st fz' st'->Kept M T π ρ st π' ρ' st'->J fz st π ρ->J fz' st' π' ρ'
theorem XQ{B:P->Zq->Ot PFl}{B':D->Env->Za->Ot (Fl×Za)}(h:Qg n0 M T B B'){a:Nat}{m:Bool}{all:Li D}{J:Fz->Za->Zq->Env->Prop}(hJ:Zip n0 M T a m all J):∀ {xs:Li P}{ds:Li D}{k:Nat}{π:Zq}{r:PFl}{fz:Fz}{st:Za}{ρ:Env},
   Inv n0 M fz st π ρ->J fz st π ρ->all.drop k=ds->Rels fz st xs ds->Yb B xs π=some r->Xp n0 M T fz st π ρ (ZW B' a ds.length k ρ st) r
 |_,_,k,π,r,fz,st,ρ,I,j,hd,.nil,e=>by
  cases e;refine⟨.nx ρ,st,fz,?_,Later.refl,I,Kept.refl⟩;show ZW B' a 0 k ρ st=_;unfold ZW;simp only[hJ.1 _ _ _ _ j];rw[if_pos (List.drop_eq_nil_iff.mp hd)]
 |x :: xs,d :: ds,k,π,r,fz,st,ρ,I,j,hd,.cons b rs,e=>by
  have hk:all[k]?=some d:=by
   have:=congrArg (fun l=>l[0]?) hd
   simpa using this
  have hd2:all.drop (k+1)=ds:=by
   have:=congrArg (fun l=>l.drop 1) hd
   simpa using this
  have start:∀ {y},B' d ρ st=some y->ZW B' a (d :: ds).length k ρ st=(match y with
    | (.nx ρ',st')=>ZW B' a ds.length (k+1) ρ' st'
    | (.ct ρ',st')=>ZW B' a ds.length (k+1) ρ' st'
    | (.bk ρ',st')=>some (.nx ρ',st')
    | (.rt v,st')=>some (.rt v,st')):=fun {y} ey=>by
   show ZW B' a (ds.length+1) k ρ st=_;rw[JA (hJ.1 _ _ _ _ j) hk,ey];obtain⟨f,s⟩:=y;cases f<;>rfl
  unfold Yb at e;split at e
  ·rename_i π1 q
   obtain⟨r1,st1,fz1,e1,l1,R1,k1⟩:=h x d π _ q fz st ρ I b;cases r1 with
   |nx ρ1=>
    obtain⟨r2,st2,fz2,e2,l2,R2,k2⟩:=XQ h hJ (ρ:=ρ1) R1 (hJ.2 _ _ _ _ _ _ _ _ l1 k1 j) hd2 (l1.rels rs) e;exact⟨r2,st2,fz2,by rw[start e1];exact e2,l1.trans l2,R2,KeptF.trans (fun _ z=>z) (fun _ z=>z) k1 k2⟩
   |_=>exact R1.elim
  ·rename_i π1 q
   obtain⟨r1,st1,fz1,e1,l1,R1,k1⟩:=h x d π _ q fz st ρ I b;cases r1 with
   |ct ρ1=>
    obtain⟨r2,st2,fz2,e2,l2,R2,k2⟩:=XQ h hJ (ρ:=ρ1) R1 (hJ.2 _ _ _ _ _ _ _ _ l1 k1 j) hd2 (l1.rels rs) e;exact⟨r2,st2,fz2,by rw[start e1];exact e2,l1.trans l2,R2,KeptF.trans (fun _ z=>z) (fun _ z=>z) k1 k2⟩
   |_=>exact R1.elim
  ·rename_i π1 q
   cases e;obtain⟨r1,st1,fz1,e1,l1,R1,k1⟩:=h x d π _ q fz st ρ I b;cases r1 with
   |bk ρ1=>exact⟨.nx ρ1,st1,fz1,by rw[start e1],l1,R1,k1⟩
   |_=>exact R1.elim
  ·rename_i v q
   cases e;obtain⟨r1,st1,fz1,e1,l1,R1,k1⟩:=h x d π _ q fz st ρ I b;cases r1 with
   |rt d'=>exact⟨.rt d',st1,fz1,by rw[start e1],l1,R1,trivial⟩
   |_=>exact R1.elim
  ·exact Zb e
theorem Zgh{i:Nat}(hi:M.contains i=false)(h:SX n0 M T f g):Qg n0 M (i :: T) (fun d π=>g (Zt π i d)) (fun d ρ s=>f (Zr ρ i d) s):=by
 intro x d π r e fz st ρ I a;obtain⟨r1,st1,fz1,e1,l1,R1,k1⟩:=h _ r e fz st _ (I.set hi a);refine⟨r1,st1,fz1,e1,l1,R1,?_⟩;refine KeptF.trans (T1:=i :: T) (T2:=T) (fun _ z=>z) (fun _ z=>Lm _ z) (fun k hk hm=>?_) k1
 have hki:k≠i:=fun z=>hk (by rw[z];exact Ls)
 exact⟨Zg hki,Zg hki,fun _ _ _ _=>rfl⟩
theorem Zjq{i j l:Nat}(hi:M.contains i=false)(hj:M.contains j=false)(hl:M.contains l=false)(h:SX n0 M T f g):Qg n0 M (i :: j :: l :: T) (Zho i j l g) (Q5 i j l f):=by
 intro x d π r e fz st ρ I a;unfold Zho at e;split at e
 ·rename_i p q u
  cases a with
  |tup a=>
   cases a with
   |cons a1 a=>
    cases a with
    |cons a2 a=>
     cases a with
     |cons a3 a=>
      cases a;obtain⟨r1,st1,fz1,e1,l1,R1,k1⟩:=h _ r e fz st _ (((I.set hi a1).set hj a2).set hl a3);refine⟨r1,st1,fz1,e1,l1,R1,?_⟩;refine KeptF.trans (T1:=i :: j :: l :: T) (T2:=T) (fun _ z=>z) (fun _ z=>Lm _ (Lm _ (Lm _ z))) (fun k hk hm=>?_) k1
      have hki:k≠i:=fun z=>hk (by rw[z];exact Ls)
      have hkj:k≠j:=fun z=>hk (by rw[z];exact Lm _ Ls)
      have hkl:k≠l:=fun z=>hk (by rw[z];exact Lm _ (Lm _ Ls))
      exact⟨(Zg hkl).trans ((Zg hkj).trans (Zg hki)),(Zg hkl).trans ((Zg hkj).trans (Zg hki)),fun _ _ _ _=>rfl⟩
 ·exact Zb e
theorem ZdS(hF:ZI F G){B:P->Zq->Ot PFl}{B':D->Env->Za->Ot (Fl×Za)}{e:CE}{m:Bool}{xs:Li P}{T0:Li Nat}(h:Qg n0 M T B B')(hT:∀ i,M.contains i=true->i∈T->i∈T0){fz:Fz}{st:Za}{π:Zq}{ρ:Env}{r:PFl}(I:Inv n0 M fz st π ρ)(q:pe G e π=some (.lst m xs))(c:VY M T0 e xs=true)(el:Yb B xs π=some r):∃ a st1 mm ds,ev F e ρ st=some (.lst a,st1)/\st1[a]?=some (mm,ds)/\Xp n0 M T fz st π ρ (ZW B' a ds.length 0 ρ st1) r:=by
 have frozen:∀ {a:Nat}{st1:Za}{fz1:Fz}{ds:Li D},ev F e ρ st=some (.lst a,st1)->Next fz st fz1 st1->fz1 a->st1[a]?=some (m,ds)->Rels fz1 st1 xs ds->∃ a st1 mm ds,ev F e ρ st=some (.lst a,st1)/\st1[a]?=some (mm,ds)/\Xp n0 M T fz st π ρ (ZW B' a ds.length 0 ρ st1) r:=fun {a st1 fz1 ds} e1 n1 hz hs rr=>by
  refine⟨a,st1,m,ds,e1,hs,?_⟩;obtain⟨r1,st2,fz2,e2,l2,R2,k2⟩:=XQ h (a:=a) (m:=m) (all:=ds) (J:=fun fz st _ _=>fz a/\st[a]?=some (m,ds)) ⟨fun _ _ _ _ j=>j.2,fun _ _ _ _ _ _ _ _ l _ j=>⟨l.sub _ j.1,(l.frz _ j.1).trans j.2⟩⟩ (k:=0) (I.next n1) ⟨hz,hs⟩ rfl rr el
  exact⟨r1,st2,fz2,e2,(n1.later I.lo I.bd).trans l2,R2,KeptF.trans (T1:=T) (fun _ z=>z) (fun _ z=>z) (Next.kept I n1) k2⟩
 unfold VY at c;rw[Bool.or_eq_true,Bool.or_eq_true]at c;rcases c with(c|c)|c
 ·obtain⟨d,st',fz',e1,n1,r1⟩:=ZS hF I q (by unfold Zy;rw[c];rfl)
  cases r1 with
  |lst hz hs rr=>exact frozen e1 n1 hz hs rr
 ·rw[Ba]at c
  obtain⟨j,ds,st',fz1,e1,e2,n1,hn,hl,rr⟩:=Qv hF I q c.1 (by rw[c.2,Bool.or_true])
  have n2:Next fz st (fun i=>fz1 i\/i=j) st':=⟨n1.old,n1.len,fun i z=>.inl (n1.sub i z),fun i z=>z.elim (n1.new i) fun z=>.inr (by rw[z];exact hl),fun i z=>z.elim (n1.bd i) fun z=>by rw[z];exact ZX e2⟩
  exact frozen e1 n2 (.inr rfl) e2 (rr.mono (fun _ z=>.inl z) fun _ _=>rfl)
 ·split at c
  ·rename_i i
   have c:i∉T0:=by
    intro z;have:T0.contains i=true:=by simpa using z
    rw[this]at c;cases c
   have q:Wt i π=some (.lst m xs):=q;unfold Wt at q;split at q
   ·rename_i q0
    cases q;cases hm:M.contains i with
    |false=>
     obtain⟨d,st',fz',e1,n1,r1⟩:=ZS hF I (e:=.var i) (p:=.lst m xs) (by show Wt i π=_;unfold Wt;rw[q0]) (by show((!M.contains i)||_)=true;rw[hm];rfl)
     cases r1 with
     |lst hz hs rr=>exact frozen e1 n1 hz hs rr
    |true=>
     obtain⟨j,ps,ds,f1,f2,f3,f4,f5,f6⟩:=I.mt i _ hm q0;obtain⟨⟨rfl,rfl⟩,f0⟩:=f1.lst;refine⟨j,st,true,ds,by show Yj i ρ st=_;unfold Yj;rw[f0],f3,?_⟩
     obtain⟨r1,st2,fz2,e2,l2,R2,k2⟩:=XQ h (a:=j) (m:=true) (all:=ds) (J:=fun fz st π ρ=>(∃ p,π[i]?=some (some p))/\Rf ρ[i]? j/\st[j]?=some (true,ds)) ⟨fun _ _ _ _ j=>j.2.2,fun _ _ _ _ _ _ _ _ l k jj=>by
      obtain⟨⟨p,jp⟩,j2,j3⟩:=jj;obtain⟨k1,k2,k3⟩:=k i (fun z=>c (hT i hm z)) hm
      exact⟨⟨p,k1.trans jp⟩,by rw[k2];exact j2,(k3 j p jp j2).trans j3⟩⟩ (k:=0) I ⟨⟨_,q0⟩,f2,f3⟩ rfl f6 el
     exact⟨r1,st2,fz2,e2,l2,R2,k2⟩
   ·exact Zb q
  ·cases c
theorem Zjw(hF:ZI F G){i:Nat}{rng:Bool}{e:CE}(h:SX n0 M T f g):SX n0 M (i :: T) (Qw i rng (ev F e) f) (JJ M T i rng e (pe G e) g):=by
 intro π r hp fz st ρ I;unfold JJ at hp;split at hp
 ·rename_i x q
  split at hp
  ·rename_i xs qi
   split at hp
   ·rename_i c
    rw[Ba]at c;have hi:M.contains i=false:=by simpa using c.1
    have kp:Zy M e x=true:=by
     cases rng with
     |false=>simpa using c.2
     |true=>
      cases x with
      |int n=>unfold Zy;rw[show noL (.int n)=true from rfl,Bool.or_true]
      |_=>exact Zb qi
    obtain⟨d,st',fz',e1,n1,r1⟩:=ZS hF I q kp;obtain⟨ds,e2,r2⟩:=Uk r1 qi;obtain⟨r3,st3,fz3,e3,l3,R3,k3⟩:=XN (Zgh hi h) (I.next n1) r2 hp;exact⟨r3,st3,fz3,by unfold Qw;rw[e1];simp only[e2];exact e3,(n1.later I.lo I.bd).trans l3,R3,KeptF.trans (T1:=i :: T) (fun _ z=>z) (fun _ z=>z) (Next.kept I n1) k3⟩
   ·exact Zb hp
  ·split at hp
   ·rename_i m xs _
    split at hp
    ·rename_i c
     rw[Ba]at c;have hi:M.contains i=false:=by simpa using c.1
     obtain⟨a,st1,mm,ds,e1,e2,r3,st3,fz3,e3,l3,R3,k3⟩:=ZdS hF (Zgh hi h) (T0:=T) (fun k hk hm=>by
      rcases List.mem_cons.mp hm with z|z
      ·rw[z]at hk;rw[hi]at hk;cases hk
      ·exact z) I q c.2 hp
     refine⟨r3,st3,fz3,?_,l3,R3,k3⟩;unfold Qw;rw[e1];simp only[XA,e2];exact e3
    ·exact Zb hp
   ·exact Zb hp
 ·exact Zb hp
theorem Zh8(hF:ZI F G){i j l:Nat}{e:CE}(h:SX n0 M T f g):SX n0 M (i :: j :: l :: T) (Vv i j l (ev F e) f) (Zdc M i j l e (pe G e) g):=by
 intro π r hp fz st ρ I;unfold Zdc at hp;split at hp
 ·rename_i xs q
  split at hp
  ·rename_i c
   rw[Ba,Ba,Ba]at c;have hi:M.contains i=false:=by simpa using c.1.1.1
   have hj:M.contains j=false:=by simpa using c.1.1.2
   have hl:M.contains l=false:=by simpa using c.1.2
   obtain⟨d,st',fz',e1,n1,r1⟩:=ZS hF I q c.2;cases r1 with
   |tup r2=>
    obtain⟨r3,st3,fz3,e3,l3,R3,k3⟩:=XN (Zjq hi hj hl h) (I.next n1) r2 hp;exact⟨r3,st3,fz3,by unfold Vv;rw[e1];exact e3,(n1.later I.lo I.bd).trans l3,R3,KeptF.trans (T1:=i :: j :: l :: T) (fun _ z=>z) (fun _ z=>z) (Next.kept I n1) k3⟩
  ·exact Zb hp
 ·exact Zb hp
inductive RelsQ(fz:Fz)(st:Za):List (P×P)->List (D×D)->Prop where
 |nil:RelsQ fz st [] []
 |cons {p:P×P}{d:D×D}{ps:List (P×P)}{ds:List (D×D)} (h1:Rel fz st p.1 d.1) (h2:Rel fz st p.2 d.2) (r:RelsQ fz st ps ds):RelsQ fz st (p :: ps) (d :: ds)
theorem RelsQ.zip{fz:Fz}{st:Za}:∀ {xs ys:Li P}{ds es:Li D},Rels fz st xs ds->Rels fz st ys es->RelsQ fz st (xs.zip ys) (ds.zip es)
 |_,_,_,_,.nil,_=>.nil
 |_,_,_,_,.cons _ _,.nil=>.nil
 |_,_,_,_,.cons a r,.cons b s=>.cons a b (RelsQ.zip r s)
theorem RelsQ.mono{fz fz':Fz}{st st':Za}(l:Later n0 fz st fz' st'):∀ {ps:Li (P×P)}{ds:Li (D×D)},RelsQ fz st ps ds->RelsQ fz' st' ps ds
 |_,_,.nil=>.nil
 |_,_,.cons a b r=>.cons (a.mono l.sub l.frz) (b.mono l.sub l.frz) (RelsQ.mono l r)
theorem XO{i j:Nat}(hi:M.contains i=false)(hj:M.contains j=false)(h:SX n0 M T f g){ok:Za->Prop}:∀ {xs:Li (P×P)}{ds:Li (D×D)}{π:Zq}{r:PFl}{fz:Fz}{st:Za}{ρ:Env},Inv n0 M fz st π ρ->RelsQ fz st xs ds->(∀ fz' st',Later n0 fz st fz' st'->ok st')->
  Xj (fun x y π=>g (Zt (Zt π i x) j y)) xs π=some r->Xp n0 M (i :: j :: T) fz st π ρ (Z0 ok (fun x y ρ s=>f (Zr (Zr ρ i x) j y) s) ds ρ st) r
 |_,_,π,r,fz,st,ρ,I,.nil,hok,e=>by cases e;exact⟨.nx ρ,st,fz,if_pos (hok _ _ Later.refl),Later.refl,I,Kept.refl⟩
 |x :: xs,d :: ds,π,r,fz,st,ρ,I,.cons a b rs,hok,e=>by
  have ok0:=hok _ _ Later.refl;have tr:∀ {r1:PFl},g (Zt (Zt π i x.1) j x.2)=some r1->Xp n0 M (i :: j :: T) fz st π ρ (f (Zr (Zr ρ i d.1) j d.2) st) r1:=fun {r1} q=>by
   obtain⟨r2,st2,fz2,e2,l2,R2,k2⟩:=h _ _ q fz st _ ((I.set hi a).set hj b);refine⟨r2,st2,fz2,e2,l2,R2,?_⟩;have kp:Kept M (i :: j :: T) π ρ st (Zt (Zt π i x.1) j x.2) (Zr (Zr ρ i d.1) j d.2) st:=fun k hk hm=>by
    have hki:k≠i:=fun z=>hk (by rw[z];exact Ls)
    have hkj:k≠j:=fun z=>hk (by rw[z];exact Lm _ Ls)
    exact⟨(Zg hkj).trans (Zg hki),(Zg hkj).trans (Zg hki),fun _ _ _ _=>rfl⟩
   exact KeptF.trans (T1:=i :: j :: T) (T2:=T) (fun _ z=>z) (fun _ z=>Lm _ (Lm _ z)) kp k2
  unfold Xj at e;split at e
  ·rename_i π1 q
   obtain⟨r1,st1,fz1,e1,l1,R1,k1⟩:=tr q;cases r1 with
   |nx ρ1=>
    obtain⟨r2,st2,fz2,e2,l2,R2,k2⟩:=XO hi hj h (ρ:=ρ1) R1 (rs.mono l1) (fun _ _ l=>hok _ _ (l1.trans l)) e
    exact⟨r2,st2,fz2,by unfold Z0;rw[if_pos ok0];simp only[e1];exact e2,l1.trans l2,R2,KeptF.trans (fun _ z=>z) (fun _ z=>z) k1 k2⟩
   |_=>exact R1.elim
  ·rename_i π1 q
   obtain⟨r1,st1,fz1,e1,l1,R1,k1⟩:=tr q;cases r1 with
   |ct ρ1=>
    obtain⟨r2,st2,fz2,e2,l2,R2,k2⟩:=XO hi hj h (ρ:=ρ1) R1 (rs.mono l1) (fun _ _ l=>hok _ _ (l1.trans l)) e
    exact⟨r2,st2,fz2,by unfold Z0;rw[if_pos ok0];simp only[e1];exact e2,l1.trans l2,R2,KeptF.trans (fun _ z=>z) (fun _ z=>z) k1 k2⟩
   |_=>exact R1.elim
  ·rename_i π1 q
   cases e;obtain⟨r1,st1,fz1,e1,l1,R1,k1⟩:=tr q;cases r1 with
   |bk ρ1=>exact⟨.nx ρ1,st1,fz1,by unfold Z0;rw[if_pos ok0];simp only[e1],l1,R1,k1⟩
   |_=>exact R1.elim
  ·rename_i v q
   cases e;obtain⟨r1,st1,fz1,e1,l1,R1,k1⟩:=tr q;cases r1 with
   |rt d'=>exact⟨.rt d',st1,fz1,by unfold Z0;rw[if_pos ok0];simp only[e1],l1,R1,trivial⟩
   |_=>exact R1.elim
  ·exact Zb e
theorem RelsQ.enum{fz:Fz}{st:Za}:∀ {xs:Li P}{ds:Li D}{k:Nat},Rels fz st xs ds->RelsQ fz st (WH k xs) (Xu k ds)
 |_,_,_,.nil=>.nil
 |_,_,k,.cons a r=>.cons (.int _) a (RelsQ.enum r)
theorem Zh9(hF:ZI F G){i j:Nat}{e:CE}(h:SX n0 M T f g):SX n0 M (i :: j :: T) (WP i j (ev F e) f) (QS M i j e (pe G e) g):=by
 intro π r hp fz st ρ I;unfold QS at hp;split at hp
 ·rename_i x q
  split at hp
  ·rename_i xs hw
   split at hp
   ·rename_i c
    rw[Ba,Ba]at c;have hi:M.contains i=false:=by simpa using c.1.1
    have hj:M.contains j=false:=by simpa using c.1.2
    obtain⟨d,st',fz',e1,n1,r1⟩:=ZS hF I q (show Zy M e _=true by unfold Zy;rw[c.2,Bool.true_or])
    cases r1 with
    |tup rr=>
     cases hw;obtain⟨r3,st3,fz3,e3,l3,R3,k3⟩:=XO (ok:=fun _=>True) hi hj h (I.next n1) (RelsQ.enum rr) (fun _ _ _=>trivial) hp
     exact⟨r3,st3,fz3,by unfold WP;rw[e1];exact e3,(n1.later I.lo I.bd).trans l3,R3,KeptF.trans (T1:=i :: j :: T) (fun _ z=>z) (fun _ z=>z) (Next.kept I n1) k3⟩
    |@lst ja m1 _ da za sa ra=>
     cases hw;obtain⟨r3,st3,fz3,e3,l3,R3,k3⟩:=XO (ok:=fun s=>s[ja]?=some (m1,da)) hi hj h (I.next n1) (RelsQ.enum ra) (fun fz2 st2 l=>(l.frz ja za).trans sa) hp
     exact⟨r3,st3,fz3,by unfold WP Zgi;rw[e1];simp only[sa];exact e3,(n1.later I.lo I.bd).trans l3,R3,KeptF.trans (T1:=i :: j :: T) (fun _ z=>z) (fun _ z=>z) (Next.kept I n1) k3⟩
    |_=>exact Zb hw
   ·exact Zb hp
  ·exact Zb hp
 ·exact Zb hp
theorem Yn(hF:ZI F G):∀ s:CS,SX n0 M (ZT s) (ex F s) (px G M s)
 |.skip=>fun π r e fz st ρ I=>by cases e;exact⟨.nx ρ,st,fz,rfl,Later.refl,I,Kept.refl⟩
 |.brk=>fun π r e fz st ρ I=>by cases e;exact⟨.bk ρ,st,fz,rfl,Later.refl,I,Kept.refl⟩
 |.cont=>fun π r e fz st ρ I=>by cases e;exact⟨.ct ρ,st,fz,rfl,Later.refl,I,Kept.refl⟩
 |.stop=>fun π r e=>nomatch (show(none:Ot PFl)=some r from e)
 |.app2 _ _=>fun π r e=>nomatch (show(none:Ot PFl)=some r from e)
 |.set3 i j l e=>Zib hF i j l e
 |.act e=>Zjt hF e
 |.seq a b=>ZjA (Yn hF a) (Yn hF b)
 |.ret e=>Zjz hF e
 |.set i e=>ZjB hF i e
 |.set2 i j e=>Zia hF i j e
 |.app i e=>Zju hF i e
 |.ext i e=>Zjv hF i e
 |.put i k e=>Zjy hF i e k
 |.dput _ _ _ _=>fun _ r e=>nomatch (show(none:Ot PFl)=some r from e)
 |.ite c a b=>Zjx hF c (Yn hF a) (Yn hF b)
 |.for1 i rng it b=>Zjw hF (Yn hF b)
 |.forP _ _ _ _=>fun _ r e=>nomatch (show(none:Ot PFl)=some r from e)
 |.forE i j it b=>Zh9 hF (Yn hF b)
 |.for3 _ _ _=>fun _ r e=>nomatch (show(none:Ot PFl)=some r from e)
 |.for4 i j l it b=>Zh8 hF (Yn hF b)
 |.for2 _ _ _ _=>fun _ r e=>nomatch (show(none:Ot PFl)=some r from e)
 |.whl _ _=>fun _ r e=>nomatch (show(none:Ot PFl)=some r from e)
end
theorem inv_start{f:FD}{ps:Li P}{fz:Fz}{st:Za}{ds:Li D}(c:(Z5 f.body).all (fun i=>decide (ps.length<=i))=true)(b:Bd fz st)(r:Rels fz st ps ds) :
  Inv st.length (Z5 f.body) fz st (ps.map some++List.replicate (f.ns - ps.length) none) (ds.map some++List.replicate (f.ns - ds.length) none):=by
 have slot:∀ (i:Nat) (q:P),(ps.map some++List.replicate (f.ns - ps.length) none:Zq)[i]?=some (some q)->i < ps.length/\ps[i]?=some q:=fun i q h=>by
  by_cases hi:i < ps.length
  ·rw[List.getElem?_append_left (by simpa using hi),List.getElem?_map]at h
   refine⟨hi,?_⟩;cases z:ps[i]? with
   |none=>rw[z]at h;cases h
   |some y=>rw[z]at h;cases h;rfl
  ·rw[List.getElem?_append_right (by simpa using hi),List.getElem?_replicate]at h
   split at h<;>cases h
 have noM:∀ (i:Nat),i < ps.length->(Z5 f.body).contains i=false:=fun i hi=>by
  cases z:(Z5 f.body).contains i with
  |false=>rfl
  |true=>
   have:=List.all_eq_true.mp c i (by simpa using z)
   have:=of_decide_eq_true this;omega
 refine⟨b,Nat.le_refl _,by simp[r.length],fun i q hi h=>?_,fun i q hi h=>?_,fun i i' q q' j hi hi' h h' _ _=>?_⟩
 ·obtain⟨h1,h2⟩:=slot i q h
  obtain⟨d,e1,r1⟩:=r.get h2;refine⟨d,?_,r1⟩;rw[List.getElem?_append_left (by simpa[<-r.length] using h1),List.getElem?_map,e1]
  rfl
 ·rw[noM i (slot i q h).1]at hi;cases hi
 ·rw[noM i (slot i q h).1]at hi;cases hi
theorem ZgP{F:Nat->Fn}{G:PFn}(hF:ZI F G)(f:FD){ps:Li P}{p:P}(e:fnP G f ps=some p){fz:Fz}{st:Za}{ds:Li D}(b:Bd fz st)(r:Rels fz st ps ds):Gives fz st (fnD F f ds st) p:=by
 unfold fnP at e;split at e
 ·rename_i c
  have I:Inv st.length (Z5 f.body) fz st (ps.map some++List.replicate (f.ns - ps.length) none) (ds.map some++List.replicate (f.ns - ds.length) none):=inv_start (by rw[c.1];exact c.2) b r
  have hd:ds.length=f.ps:=by rw[<-r.length];exact c.1
  split at e
  ·rename_i d q
   cases e;obtain⟨r1,st1,fz1,e1,l1,R1,k1⟩:=Yn (n0:=st.length) hF f.body _ _ q fz st _ I;cases r1 with
   |rt d'=>exact⟨d',st1,fz1,by unfold fnD;rw[if_pos hd,e1],⟨l1.low,l1.len,l1.sub,l1.new,R1.2⟩,R1.1⟩
   |_=>exact R1.elim
  ·rename_i π' q
   cases e;obtain⟨r1,st1,fz1,e1,l1,R1,k1⟩:=Yn (n0:=st.length) hF f.body _ _ q fz st _ I;cases r1 with
   |nx ρ'=>exact⟨.non,st1,fz1,by unfold fnD;rw[if_pos hd,e1],⟨l1.low,l1.len,l1.sub,l1.new,R1.bd⟩,.non⟩
   |_=>exact R1.elim
  ·exact Zb e
 ·exact Zb e
theorem Uu{T:Nat->Ot FD}{n i:Nat}{f:FD}(q:T i=some f):Zk T (n+1) i=if (Vy i&&!VI f)=true then fun _=>none else fnP (Zk T n) f:=by
 show(match T i with|some f=>if (Vy i&&!VI f)=true then (fun _=>none) else fnP (Zk T n) f|none=>fun _=>none)=_
 rw[q]
theorem ZbD{T:Nat->Ot FD}{n i:Nat}(q:T i=none):Zk T (n+1) i=fun _=>none:=by
 show(match T i with|some f=>if (Vy i&&!VI f)=true then (fun _=>none) else fnP (Zk T n) f|none=>fun _=>none)=_
 rw[q]
theorem VO{T:Nat->Ot FD}{n i:Nat}{f:FD}(q:T i=some f):run T (n+1) i=fnD (run T n) f:=by
 show(match T i with|some f=>fnD (run T n) f|none=>fun _ _=>none)=_
 rw[q]
theorem Qb(T:Nat->Ot FD):∀ n,ZI (run T n) (Zk T n)
 |0=>⟨(fun i ps p e=>nomatch (show(none:Ot P)=some p from e)),(fun i _ ps m xs e=>nomatch (show(none:Ot P)=some (.lst m xs) from e))⟩
 |n+1=>by
  refine⟨fun i ps p e fz st ds b r=>?_,fun i hi ps m xs e fz st ds b r=>?_⟩
  ·cases q:T i with
   |none=>rw[ZbD q]at e;cases e
   |some f=>
    rw[Uu q]at e;rw[VO q];split at e
    ·exact Zb e
    ·exact ZgP (Qb T n) f e b r
  ·cases hi
end Dp



namespace Dp
open PySem PySem.Spec PyProof.Rows L2
variable [ClsTab]
theorem Zkt{α:Type}:∀ {us:Li α},us.length=0->us=[]
 |[],_=>rfl
theorem ZiP{α:Type}:∀ {us:Li α},us.length=1->∃ a,us=[a]
 |[a],_=>⟨a,rfl⟩
theorem Zku{α:Type}:∀ {us:Li α},us.length=2->∃ a b,us=[a,b]
 |[a,b],_=>⟨a,b,rfl⟩
theorem ZcJ{α:Type}:∀ {us:Li α},us.length=3->∃ a b c,us=[a,b,c]
 |[a,b,c],_=>⟨a,b,c,rfl⟩
theorem Zkv{α:Type}:∀ {us:Li α},us.length=4->∃ a b c d,us=[a,b,c,d]
 |[a,b,c,d],_=>⟨a,b,c,d,rfl⟩
theorem Zkw{α:Type}:∀ {us:Li α},us.length=5->∃ a b c d e,us=[a,b,c,d,e]
 |[a,b,c,d,e],_=>⟨a,b,c,d,e,rfl⟩
theorem Zkx{α:Type}:∀ {us:Li α},us.length=6->∃ a b c d e f,us=[a,b,c,d,e,f]
 |[a,b,c,d,e,f],_=>⟨a,b,c,d,e,f,rfl⟩
def X1(K:Fg)(G:Gs)(T:Nat->Ot FD)(C:Ad):Li (Str×Nat×Nat)->Prop
 |[]=>True
 | (m,j,_) :: r=>(∃ y f fd pn N,MethOk K G T C m y j f fd pn N)/\X1 K G T C r
def X2(K:Fg)(B:Ad):Li Nat->Prop
 |[]=>True
 |i :: r=>SubOk K (ClsTab.ca i) B/\X2 K B r
def XW(Pm:Params)(K:Fg)(mg:Str->Ot vL)(G:Gs)(T:Nat->Ot FD):Gs->Prop
 |[]=>True
 | (x,.cst d) :: r=>(∃ v u,mg x=some u/\RelV v u/\∀ ad H,Den K ad H v d)/\XW Pm K mg G T r
 | (x,.blt) :: r=>mg x=none/\XW Pm K mg G T r
 | (x,.dct ks ds) :: r=>J3 Pm K mg x ks ds/\XW Pm K mg G T r
 | (x,.fn i _ ds) :: r=>(∃ f fd pn N,DefOk K mg G T x i ds f fd pn N)/\XW Pm K mg G T r
 | (x,.cls i ms subs) :: r=>((mg x=some (.ref (ClsTab.ca i))/\NewOk K (ClsTab.ca i)/\X2 K (ClsTab.ca i) subs)/\X1 K G T (ClsTab.ca i) ms)/\XW Pm K mg G T r
section
variable {P:Program}{w:World}{K:Fg}{mg:Str->Ot vL}{base:Heap}{G:Gs}{T:Nat->Ot FD}
def Zgk(Pm:Params)(K:Fg)(mg:Str->Ot vL)(G:Gs)(T:Nat->Ot FD)(x:Str):GV->Prop
 |.cst d=>∃ v u,mg x=some u/\RelV v u/\∀ ad H,Den K ad H v d
 |.blt=>mg x=none
 |.dct ks ds=>J3 Pm K mg x ks ds
 |.fn i _ ds=>∃ f fd pn N,DefOk K mg G T x i ds f fd pn N
 |.cls i ms subs=>(mg x=some (.ref (ClsTab.ca i))/\NewOk K (ClsTab.ca i)/\X2 K (ClsTab.ca i) subs)/\X1 K G T (ClsTab.ca i) ms
theorem Y2{Pm:Params}:∀ {l:Gs}{x:Str}{g:GV},XW Pm K mg G T l->l.lookup x=some g->Zgk Pm K mg G T x g
 |[],_,_,_,h=>by cases h
 | (y,v) :: r,x,g,a,h=>by
  have tl:XW Pm K mg G T r/\Zgk Pm K mg G T y v:=by
   cases v with
   |cst d=>exact⟨a.2,a.1⟩
   |blt=>exact⟨a.2,a.1⟩
   |dct ks ds=>exact⟨a.2,a.1⟩
   |fn i ps ds=>exact⟨a.2,a.1⟩
   |cls i ms subs=>exact⟨a.2,a.1⟩
  rw[List.lookup_cons]at h;cases e:x==y with
  |true=>
   rw[e]at h;cases h;rw[beq_iff_eq.mp e];exact tl.2
  |false=>
   rw[e]at h;exact Y2 tl.1 h
theorem ZaK{B:Ad}:∀ {l:Li Nat},X2 K B l->∀ i,l.contains i=true->SubOk K (ClsTab.ca i) B
 |[],_,_,h=>by cases h
 |j :: r,a,i,h=>by
  rw[List.contains_cons,Bool.or_eq_true]at h;rcases h with h|h
  ·rw[beq_iff_eq.mp h];exact a.1
  ·exact ZaK a.2 i h
theorem QN{C:Ad}:∀ {l:Li (Str×Nat×Nat)},X1 K G T C l->∀ m j ps,l.lookup m=some (j,ps)->∃ y f fd pn N,MethOk K G T C m y j f fd pn N
 |[],_,_,_,_,h=>by cases h
 | (m',j',ps') :: r,a,m,j,ps,h=>by
  rw[List.lookup_cons]at h;cases e:m==m' with
  |true=>
   rw[e]at h;cases h;rw[beq_iff_eq.mp e];exact a.1
  |false=>
   rw[e]at h;exact QN a.2 m j ps h
theorem ZfM{Pm:Params}(h:XW Pm K mg G T G):Text Pm K mg G T:=
 ⟨fun _ _ e=>Y2 h e,fun _ e=>Y2 h e,fun _ _ _ e=>Y2 h e,fun _ _ _ _ e=>Y2 h e,fun x i ms subs e=>by
  have g:Zgk Pm K mg G T x (.cls i ms subs):=Y2 h e;exact⟨⟨g.1.1,g.1.2.1,ZaK g.1.2.2⟩,QN g.2⟩⟩
theorem ZgJ(hc:∀ n,Xo G (run T n))(X:Text w.params K mg G T)(n:Nat){x:Str}{i:Nat}{ds:Li D}{f:Ad}{fd:FuncData}{pn N:Li Str}(Dk:DefOk K mg G T x i ds f fd pn N):FnOk P w K mg base CX0 n f fd pn (spD K (run T n i)):=Zgx hc X n Dk.ob
theorem Zh0{H:Hp}{a:Ad}{ns:Li Int}{n i:Nat}(hO:Only H)(hS:SqL K H a (ns.map V.int))(h:∃ st',run T n i [.lst 0] [(false,ns.map .int)]=some (.bl true,st')):spD K (run T n i) [.ref a] H (fun v _=>v=.bl true) fun _ _ _=>False:=by
 obtain⟨st',e⟩:=h;have ds:∀ ns:Li Int,Dens K [a] H (ns.map V.int) (ns.map D.int):=fun ns=>by
  induction ns with
  |nil=>exact .nil
  |cons n l ih=>exact .cons (.int n) ih
 have nT:¬Yu H a:=fun⟨kvs,q⟩=>by
  rcases hO a with z|⟨o,xs,z⟩<;>(rw[q]at z;cases z)
 refine⟨[a],[.lst 0],[(false,ns.map .int)],.bl true,st',⟨rfl,fun i j b c d _ _ h3 _=>?_,fun i c hc=>?_⟩,.cons (.lst ⟨rfl,nT⟩) .nil,e,fun v ad' H' x S h=>h.ofBl⟩
 ·cases i with
  |zero=>simp at h3
  |succ i=>simp at h3
 ·cases i with
  |succ i=>simp at hc
  |zero=>
   have hc:(false,ns.map D.int)=c:=by simpa using hc
   subst hc;refine⟨a,rfl,.l nT (ds ns) (.inr ⟨rfl,?_⟩)⟩;rcases hS with(h|⟨o,h⟩)|⟨o,its,n,h1,h2,h3,h4,h5,h6⟩
   ·rcases hO a with z|⟨o,xs,z⟩
    ·rw[h]at z;cases z
    ·rw[h]at z;cases z
   ·exact .inl ⟨o,h⟩
   ·exact .inr ⟨o,its,n,⟨h1,h2⟩,⟨h3,h4⟩,h5,h6⟩
end
noncomputable abbrev fnS(x y:Str)(s:Stmt)(dV kV dc pm:vL)(an:Ot Ad)(cd ct:vL):FuncData:=PySem.W.fnOf x y (defArgs s) (defBody s) (defScope s) dV kV dc pm an cd ct
inductive FnAt(K:Fg)(x:Str)(s:Stmt):Prop
 |mk {f:Addr}{oc kV dc pm cd ct:Value}{od an:Option Addr}{sl:Array (Option Value)} (a:PySem.W.nsIn K mainGlobals x=some (some (.ref f))) (l:K.lookup f=some ⟨oc,od,.func (PySem.W.fnOf x x (defArgs s) (defBody s) (defScope s) .none kV dc pm an cd ct),sl⟩) (e:PySem.W.codeIn K cd x=true) (k:PySem.W.keepIn K (.ref f)=true):FnAt K x s
inductive FnAtE(K:Fg)(x:Str)(s:Stmt)(v:Int):Prop
 |mk {f E:Addr}{eo:Obj}{en:Nat}{et:Tok}{oc kV dc pm cd ct:Value}{od an:Option Addr}{sl:Array (Option Value)} (a:PySem.W.nsIn K mainGlobals x=some (some (.ref f))) (l:K.lookup f=some ⟨oc,od,.func (PySem.W.fnOf x x (defArgs s) (defBody s) (defScope s) (.ref E) kV dc pm an cd ct),sl⟩) (e:PySem.W.codeIn K cd x=true) (k:PySem.W.keepIn K (.ref f)=true) (d:K.lookup E=some eo) (g:eo.data=.seq #[.int v et] en):FnAtE K x s v
inductive MtAt(K:Fg)(C:Addr)(x y:Str)(s:Stmt):Prop
 |mk {f:Addr}{oc kV dc pm cd ct:Value}{od an:Option Addr}{sl:Array (Option Value)} (m:PySem.W.findIn K (.ref C) x=some (some (.ref f))) (l:K.lookup f=some ⟨oc,od,.func (PySem.W.fnOf x y (defArgs s) (defBody s) (defScope s) .none kV dc pm an cd ct),sl⟩) (e:PySem.W.codeIn K cd y=true) (k:PySem.W.keepIn K (.ref f)=true) (i:PySem.W.isFn K (.ref f)=true):MtAt K C x y s
structure ClsAt(K:Fg)(x:Str)(C:Addr):Prop where
 ya:PySem.W.nsIn K mainGlobals x=some (some (.ref C))
 yb:PySem.W.makesIn K C=true
 yc:PySem.W.findIn K (.ref C) "__init__"=some (some (.builtin "object.__init__"))
 yd:PySem.W.keepIn K (.ref C)=true
 ye:PySem.W.plainGet K C Str.empty=true
 yf:PySem.W.hasDictIn K C=true
 yg:PySem.W.plainOver K C=true
 yh:PySem.W.findIn K (.ref C) "__setattr__"=some (some (.builtin "object.__setattr__"))
 yi:PySem.W.findIn K (.ref C) "__class__"=some (some (.builtin "object.__class__"))
 yj:PySem.W.mroIn K C (.type "object")=some true
 yk:PySem.W.specialIn K (.builtin "object.__class__") "__get__"=some (some (.builtin "getset_descriptor.__get__"))
 yl:PySem.W.takesIn K (.builtin "object.__class__")=some true
abbrev Xl(G:Gs)(s:Stmt)(N ps:Li Str)(c:CS):Prop:=FnScope N ps (defScope s)/\(∀ y∈N,L2.Loc (defScope s) y)/\cSs G 60 (defScope s) N (defBody s)=some c
section
variable {K:Fg}{fd:FuncData}{ps:Li Str}
theorem bd1(hl:ps.length=1)(h:∀ a,bindArgs fd ⟨[a],[]⟩=pure (ps.zip [a])):Binds K fd ps []:=.all fun us e=>by obtain⟨_,rfl⟩:=ZiP (e.trans hl);exact h _
theorem bd2(hl:ps.length=2)(h:∀ a b,bindArgs fd ⟨[a,b],[]⟩=pure (ps.zip [a,b])):Binds K fd ps []:=.all fun us e=>by obtain⟨_,_,rfl⟩:=Zku (e.trans hl);exact h _ _
theorem bd3(hl:ps.length=3)(h:∀ a b c,bindArgs fd ⟨[a,b,c],[]⟩=pure (ps.zip [a,b,c])):Binds K fd ps []:=.all fun us e=>by obtain⟨_,_,_,rfl⟩:=ZcJ (e.trans hl);exact h _ _ _
theorem bd4(hl:ps.length=4)(h:∀ a b c d,bindArgs fd ⟨[a,b,c,d],[]⟩=pure (ps.zip [a,b,c,d])):Binds K fd ps []:=.all fun us e=>by obtain⟨_,_,_,_,rfl⟩:=Zkv (e.trans hl);exact h _ _ _ _
theorem bd5(hl:ps.length=5)(h:∀ a b c d k,bindArgs fd ⟨[a,b,c,d,k],[]⟩=pure (ps.zip [a,b,c,d,k])):Binds K fd ps []:=.all fun us e=>by obtain⟨_,_,_,_,_,rfl⟩:=Zkw (e.trans hl);exact h _ _ _ _ _
theorem bd6(hl:ps.length=6)(h:∀ a b c d k l,bindArgs fd ⟨[a,b,c,d,k,l],[]⟩=pure (ps.zip [a,b,c,d,k,l])):Binds K fd ps []:=.all fun us e=>by obtain⟨_,_,_,_,_,_,rfl⟩:=Zkx (e.trans hl);exact h _ _ _ _ _ _
theorem bd0(hl:ps.length=0)(h:bindArgs fd ⟨[],[]⟩=pure []):Binds K fd ps []:=.all fun us e=>by rw[Zkt (e.trans hl),List.zip_nil_right];exact h
end
section
variable {Pm:Params}{K:Fg}{mg:Str->Ot vL}{G:Gs}{T:Nat->Ot FD}{h:Heap}{x y:Str}{i p:Nat}{s:Stmt}{N ps:Li Str}{c:CS}{r:Gs}
theorem gD(X:K.In h)(G0:h.Ns mainGlobals mg)(F:FnAt K x s)(q:Xl G s N ps c)(hT:T i=some ⟨ps.length,N.length,c⟩)(t:XW Pm K mg G T r)(hb:∀ kV dc pm an cd ct,Binds K (fnS x x s .none kV dc pm an cd ct) ps []:=by first|exact fun _ _ _ _ _ _=>bd1 rfl fun _=>rfl|exact fun _ _ _ _ _ _=>bd2 rfl fun _ _=>rfl|exact fun _ _ _ _ _ _=>bd3 rfl fun _ _ _=>rfl|exact fun _ _ _ _ _ _=>bd4 rfl fun _ _ _ _=>rfl|exact fun _ _ _ _ _ _=>bd5 rfl fun _ _ _ _ _=>rfl|exact fun _ _ _ _ _ _=>bd6 rfl fun _ _ _ _ _ _=>rfl|exact fun _ _ _ _ _ _=>bd0 rfl rfl):XW Pm K mg G T ((x,.fn i p []) :: r):=by
 cases F with
 |mk a l e k=>exact⟨⟨_,_,ps,N,.inl ⟨s,_,_,_,_,_,_,_,_,_,_,c,rfl,l,e,q.1,q.2.1,q.2.2,hT⟩,k,PySem.W.mg_of X G0 a,fun m hm=>⟨[],[],fun _ _=>by rw[List.drop_nil];exact .nil,.nil,hb _ _ _ _ _ _⟩⟩,t⟩
theorem gM{C:Ad}{r:Li (Str×Nat×Nat)}(F:MtAt K C x y s)(q:Xl G s N ps c)(hT:T i=some ⟨ps.length,N.length,c⟩)(t:X1 K G T C r)(hb:∀ kV dc pm an cd ct,Binds K (fnS x y s .none kV dc pm an cd ct) ps []:=by first|exact fun _ _ _ _ _ _=>bd1 rfl fun _=>rfl|exact fun _ _ _ _ _ _=>bd2 rfl fun _ _=>rfl|exact fun _ _ _ _ _ _=>bd3 rfl fun _ _ _=>rfl|exact fun _ _ _ _ _ _=>bd4 rfl fun _ _ _ _=>rfl|exact fun _ _ _ _ _ _=>bd5 rfl fun _ _ _ _ _=>rfl|exact fun _ _ _ _ _ _=>bd6 rfl fun _ _ _ _ _ _=>rfl|exact fun _ _ _ _ _ _=>bd0 rfl rfl):X1 K G T C ((x,i,p) :: r):=by
 cases F with
 |mk m l e k j=>exact⟨⟨y,_,_,ps,N,⟨s,_,_,_,_,_,_,_,_,_,_,c,rfl,l,e,q.1,q.2.1,q.2.2,hT⟩,⟨m,j,k⟩,hb _ _ _ _ _ _⟩,t⟩
theorem gS{C B:Ad}{l:Li Nat}(hC:ClsTab.ca i=C)(F:ClsAt K x C)(m:PySem.W.kitOne K (.ref C) (.ref B)=some true)(t:X2 K B l):X2 K B (i :: l):=by
 subst hC;exact⟨⟨⟨F.ye,F.yf,F.yg,F.yh⟩,F.yi,F.yk,F.yl,F.yj,m⟩,t⟩
theorem gC{C:Ad}{subs:Li Nat}{ms:Li (Str×Nat×Nat)}(X:K.In h)(G0:h.Ns mainGlobals mg)(hC:ClsTab.ca i=C)(F:ClsAt K x C)(hs:X2 K C subs)(hm:X1 K G T C ms)(t:XW Pm K mg G T r):XW Pm K mg G T ((x,.cls i ms subs) :: r):=by
 subst hC;exact⟨⟨⟨PySem.W.mg_of X G0 F.ya,⟨F.yb,F.yc,F.yd,⟨F.ye,F.yf,F.yg,F.yh⟩⟩,hs⟩,hm⟩,t⟩
theorem gB(X:K.In h)(G0:h.Ns mainGlobals mg)(z:PySem.W.nsIn K mainGlobals x=some none)(t:XW Pm K mg G T r):XW Pm K mg G T ((x,.blt) :: r):=⟨PySem.W.mg_none_of X G0 z,t⟩
theorem gI{v:Int}{k:Tok}(X:K.In h)(G0:h.Ns mainGlobals mg)(g:PySem.W.nsIn K mainGlobals x=some (some (.int v k)))(t:XW Pm K mg G T r):XW Pm K mg G T ((x,.cst (.int v)) :: r):=⟨⟨.int v,_,PySem.W.mg_of X G0 g,⟨_,rfl⟩,fun _ _=>.int _⟩,t⟩
theorem gL{fa:Ad}{z:Str}(X:K.In h)(G0:h.Ns mainGlobals mg)(hfa:mg x=some (.ref fa))(F:FnAt K x s)(q:Xl G s N [z] c)(hT:T i=some ⟨1,N.length,c⟩)(hb:∀ kV dc pm an cd ct u,bindArgs (fnS x x s .none kV dc pm an cd ct) ⟨[u],[]⟩=pure [(z,u)]):∃ (fd:FuncData) (N:Li Str),(∀ (s:Sd) (u:vL),BindsTo s fd ⟨[u],[]⟩ [(z,u)])/\DefOk K mg G T x i [] fa fd [z] N:=by
 cases F with
 |@mk f _ _ _ _ _ _ _ _ _ a l e k=>
  have e':=hfa.symm.trans (PySem.W.mg_of X G0 a);have e':fa=f:=by cases e';rfl
  rw[e'];exact⟨_,N,fun _ u=>.of_eq (hb _ _ _ _ _ _ u),.inl ⟨s,_,_,_,_,_,_,_,_,_,_,c,rfl,l,e,q.1,q.2.1,q.2.2,hT⟩,k,PySem.W.mg_of X G0 a,fun m hm=>⟨[],[],fun _ _=>by rw[List.drop_nil];exact .nil,.nil,.all fun us hl=>by obtain⟨u,rfl⟩:=ZiP hl;exact hb _ _ _ _ _ _ u⟩⟩
end
omit [ClsTab] in
theorem Zbu{l:PySem.W.OpenLaw}{q:Program}{loose:Li Str}{XP:(Str->Ot vL)->Heap->Prop}{YP:World->Heap->Prop}{d:DefRec}{K:Params->Fg}{G:Gs}{T:Nat->Ot FD}{n i:Nat}{x:Str}(hn:l.most=some 63)(hdf:d.params.defaults=[])(hr:Room n callerA)(hY:∀ (w:World) (h:Heap),YP w h->(K w.params).In h)(hc:∀ [ClsTab] n,Xo G (run T n))(F:∀ (w:World) (mg:Str->Ot vL) (fa:Ad) (h:Heap),(K w.params).In h->h.Ns mainGlobals mg->mg d.name=some (.ref fa)->
   ∃ _:ClsTab,Text w.params (K w.params) mg G T/\∃ (fd:FuncData) (N:Li Str),(∀ (s:Sd) (u:vL),BindsTo s fd ⟨[u],[]⟩ [(x,u)])/\DefOk (K w.params) mg G T d.name i [] fa fd [x] N)(L:∀ ns:Li Int,ns.length<=63->∃ st',run T n i [.lst 0] [(false,ns.map .int)]=some (.bl true,st')) :
  PySem.W.WalkO q loose XP YP l.row.toRowW d [] (fun f vs=>PySem.call f vs):=
 L2.walk_of (n:=63) (k:=n) (x:=x) (CX:=fun _=>CX0) (sp:=fun w vs H Q E=>∀ c:ClsTab,@spD c (K w.params) (run T n i) vs H Q E) hn (by decide) hdf hr hY
  (fun w mg fa h KX G0 hmg=>by
   obtain⟨c,X,fd,N,hb,Dk⟩:=F w mg fa h KX G0 hmg;refine⟨fd,hb,fun base _ _=>?_⟩
   have fo:=ZgJ (P:=l.prog) (w:=w) (base:=base) (fun n=>hc n) X n Dk
   exact⟨fun vs H Q E z=>fo.len vs H Q E (z c),fun A outer s H args us vs Q E a1 a2 a3 a4 z=>fo.run A outer s H args us vs Q E a1 a2 a3 a4 (z c)⟩)
  (fun w H a ns hl hO hS c=>Zh0 hO hS (L ns hl)) fun _ _ _ _ _ z=>z

end Dp


namespace Dp
open PySem
theorem Wp:∀ {l m:Li Char},l.map Char.toNat=m.map Char.toNat->l=m
 |[],[],_=>rfl
 |[],_ :: _,h=>by cases h
 |_ :: _,[],h=>by cases h
 |a :: l,b :: m,h=>by
  rw[List.map_cons,List.map_cons]at h
  injection h with h1 h2
  have:a=b:=by
   apply Char.ext
   apply UInt32.toNat_inj.mp
   exact h1
  rw[this,Wp h2]
@[simp] theorem Zll{a b:String}:(Str.ofString a=Str.ofString b)=(a=b):=by
 apply propext
 constructor
 ·intro h
  rw[Str.ofString_eq_toList,Str.ofString_eq_toList]at h
  injection h with h
  have h2:=congrArg Array.toList h;simp only[List.toList_toArray]at h2;exact String.toList_inj.mp (Wp h2)
 ·intro h;rw[h]
section
variable {F:PFn}{π:Zq}{a b c lo hi it elt cnd:CE}{M:Li Nat}
noncomputable def Ub(c:Ot P)(x y:Ot P):Ot P:=match c with
 |some (.bl true)=>x
 |some (.bl false)=>y
 |_=>none
@[simp] theorem ZiE{k:Bool}{x y:Ot P}:Ub (some (.bl k)) x y=if k=true then x else y:=by cases k<;>rfl
@[simp] theorem pe_var{i:Nat}:pe F (.var i) π=(π[i]?).join:=by
 show Wt i π=_;unfold Wt;cases π[i]? with
 |none=>rfl
 |some o=>cases o<;>rfl
@[simp] theorem ZkD{d:D}:pe F (.cst d) π=ofD d:=Eq.trans rfl rfl
@[simp] theorem ZjQ{i:Int}:ofD (.int i)=some (.int i):=Eq.trans rfl rfl
@[simp] theorem ZjR{i:Str}:ofD (.str i)=some (.str i):=Eq.trans rfl rfl
@[simp] theorem ZkC{i:Bool}:ofD (.bl i)=some (.bl i):=Eq.trans rfl rfl
@[simp] theorem Zi7:WF []=some []:=Eq.trans rfl rfl
theorem Xe{f:PEv}{g:P->Ot P}:pq1 f g π=(f π).bind g:=by unfold pq1;cases f π<;>rfl
theorem XE{f f':PEv}{g:P->P->Ot P}:pq2 f f' g π=(f π).bind fun x=>(f' π).bind fun y=>g x y:=by unfold pq2;cases f π<;>cases f' π<;>rfl
theorem Zhm{f f' f'':PEv}{g:P->P->P->Ot P}:pq3 f f' f'' g π=(f π).bind fun x=>(f' π).bind fun y=>(f'' π).bind fun z=>g x y z:=by unfold pq3;cases f π<;>cases f' π<;>cases f'' π<;>rfl
theorem VM{f g h:PEv}:YE f g h π=Ub (f π) (g π) (h π):=by
 unfold YE Ub;rfl
@[simp] theorem U3{op:Operator}:pe F (.bin op a b) π=(pe F a π).bind fun x=>(pe F b π).bind fun y=>Wh op x y:=XE
@[simp] theorem Zhg{op:CmpOp}:pe F (.cmp op a b) π=(pe F a π).bind fun x=>(pe F b π).bind fun y=>ZU op x y:=XE
@[simp] theorem pe_not:pe F (.not a) π=(pe F a π).bind ZbC:=Xe
@[simp] theorem pe_and:pe F (.and a b) π=Ub (pe F a π) (pe F b π) (some (.bl false)):=VM
@[simp] theorem pe_or:pe F (.or a b) π=Ub (pe F a π) (some (.bl true)) (pe F b π):=VM
@[simp] theorem ZkE:pe F (.ife c a b) π=Ub (pe F c π) (pe F a π) (pe F b π):=VM
@[simp] theorem Ze9:pe F (.tupE a) π=pe F a π:=Eq.trans rfl rfl
@[simp] theorem ZjU:pe F (.lstE a) π=(pe F a π).bind JD:=Xe
@[simp] theorem ZjT:pe F .aN π=some (.tup []):=Eq.trans rfl rfl
@[simp] theorem Zc7:pe F (.aC a b) π=(pe F a π).bind fun x=>(pe F b π).bind fun y=>Vp x y:=XE
@[simp] theorem pe_ix:pe F (.ix a b) π=(pe F a π).bind fun x=>(pe F b π).bind fun y=>ixP x y:=XE
@[simp] theorem pe_slice:pe F (.slice a lo hi) π=(pe F a π).bind fun x=>(pe F lo π).bind fun y=>(pe F hi π).bind fun z=>XF x y z:=Zhm
@[simp] theorem ZkI:pe F .nop π=some .non:=Eq.trans rfl rfl
@[simp] theorem ZjV:pe F (.part a) π=(pe F a π).bind Us:=Xe
@[simp] theorem pe_call{f:Nat}{ds:Li D}:pe F (.call f a ds) π=(pe F a π).bind (Vl (F f) ds):=Xe
@[simp] theorem ZkG:pe F (.len a) π=(pe F a π).bind Jy:=Xe
@[simp] theorem Zhk:pe F (.tOf a) π=(pe F a π).bind WK:=Xe
@[simp] theorem Zja:pe F (.intOf a) π=(pe F a π).bind Jt:=Xe
@[simp] theorem Zhh:pe F (.min a b) π=(pe F a π).bind fun x=>(pe F b π).bind fun y=>Zbz x y:=XE
@[simp] theorem ZkH:pe F (.max a b) π=(pe F a π).bind fun x=>(pe F b π).bind fun y=>Zby x y:=XE
@[simp] theorem ZkF{T:Ty}:pe F (.isi T a) π=(pe F a π).bind (V5 T):=Xe
@[simp] theorem Zlk{k:Bool}:pe F (.rs k a) π=(pe F a π).bind (rsP k):=Xe
theorem U4{rng:Bool}{fr:Li Nat}:pe F (.comp rng fr it elt cnd) π=(pe F it π).bind fun x=>(YT rng x).bind fun xs=>if xs.length<=1000 then (Yr (fun p=>pe F elt (Y5 π fr p)) (fun p=>pe F cnd (Y5 π fr p)) xs).bind (fun ys=>some (.lst true ys)) else none:=by
 show ZO Zdg (YT rng) fr (pe F it) (pe F elt) (pe F cnd) π=_;unfold ZO;cases pe F it π with
 |none=>rfl
 |some x=>
  simp only[Ob];cases YT rng x with
  |none=>rfl
  |some xs=>
   simp only[Ob];split
   ·show(match Yr (fun p=>pe F elt (Y5 π fr p)) (fun p=>pe F cnd (Y5 π fr p)) xs with
     |some ys=>some (P.lst true ys)
     |none=>none)=_
    cases Yr (fun p=>pe F elt (Y5 π fr p)) (fun p=>pe F cnd (Y5 π fr p)) xs<;>rfl
   ·rfl
@[simp] theorem Zjb{tab:Li (Nat×Nat)}:pe F (.meth tab a b) π=(pe F a π).bind fun x=>(pe F b π).bind fun y=>Wr F tab x y:=XE
@[simp] theorem Zhj:pe F (.tix a b) π=(pe F a π).bind fun x=>(pe F b π).bind fun y=>ZbH x y:=XE
theorem Zc8{fr:Li Nat}{x:P}{xs:Li P}(h:pe F it π=some x)(hw:WM x=some (YK 0 xs))(hl:(YK 0 xs).length<=1000):pe F (.comp2 fr it elt cnd) π=(Yr (fun p=>pe F elt (Ye Ws π fr p)) (fun p=>pe F cnd (Ye Ws π fr p)) (YK 0 xs)).bind (fun ys=>some (.lst true ys)):=by
 show ZO Ws WM fr (pe F it) (pe F elt) (pe F cnd) π=_;unfold ZO;simp only[h,hw,hl,if_true];cases Yr (fun p=>pe F elt (Ye Ws π fr p)) (fun p=>pe F cnd (Ye Ws π fr p)) (YK 0 xs)<;>rfl
variable {i j:Int}{xs ys:Li P}{x y:P}{m:Bool}
@[simp] theorem ZjD:Wh .Add (.int i) (.int j)=some (.int (i+j)):=Eq.trans rfl rfl
@[simp] theorem ZjH:Wh .Sub (.int i) (.int j)=some (.int (i - j)):=Eq.trans rfl rfl
@[simp] theorem ZjG:Wh .Mult (.int i) (.int j)=if YD i||YD j then some (.int (i * j)) else none:=by
 show(match (if YD i||YD j then some ((i * j)) else none:Ot Int) with
  |some k=>some (P.int k)
  |none=>none)=_
 by_cases h:(YD i||YD j)=true
 ·rw[if_pos h,if_pos h]
 ·rw[if_neg h,if_neg h]
@[simp] theorem Ziw:Wh .FloorDiv (.int i) (.int j)=if 0 < j/\j < 1073741824 then some (.int (i / j)) else if j < 0/\-1073741824 < j then some (.int (i.fdiv j)) else none:=by
 show(match (if 0 < j/\j < 1073741824 then some (i / j) else if j < 0/\-1073741824 < j then some (i.fdiv j) else none:Ot Int) with
  |some k=>some (P.int k)
  |none=>none)=_
 by_cases h:0 < j/\j < 1073741824
 ·rw[if_pos h,if_pos h]
 ·rw[if_neg h,if_neg h]
  by_cases h':j < 0/\-1073741824 < j
  ·rw[if_pos h',if_pos h']
  ·rw[if_neg h',if_neg h']
@[simp] theorem ZjF:Wh .Mod (.int i) (.int j)=if 0 < j then some (.int (i % j)) else if j < 0 then some (.int (i.fmod j)) else none:=by
 show(match (if 0 < j then some (i % j) else if j < 0 then some (i.fmod j) else none:Ot Int) with
  |some k=>some (P.int k)
  |none=>none)=_
 by_cases h:0 < j
 ·rw[if_pos h,if_pos h]
 ·rw[if_neg h,if_neg h]
  by_cases h':j < 0
  ·rw[if_pos h',if_pos h']
  ·rw[if_neg h',if_neg h']
@[simp] theorem ZjE:Wh .Add (.tup xs) (.tup ys)=if xs.length+ys.length<=Zs then some (.tup (xs++ys)) else none:=by
 show(if Xi .Add=true/\xs.length+ys.length<=Zs then some (P.tup (xs++ys)) else none)=_
 by_cases h:xs.length+ys.length<=Zs
 ·rw[if_pos ⟨rfl,h⟩,if_pos h]
 ·rw[if_neg (fun z=>h z.2),if_neg h]
theorem lim_iff:YD i=true↔-(2 ^ 64) < i/\i < 2 ^ 64:=by unfold YD;rw[Ba,decide_eq_true_iff,decide_eq_true_iff]
theorem ZeR(h:-(2 ^ 64) < i)(h':i < 2 ^ 64):YD i=true:=lim_iff.mpr ⟨h,h'⟩
@[simp] theorem Zkb:ZU .Lt (.int i) (.int j)=some (.bl (decide (i < j))):=Eq.trans rfl rfl
@[simp] theorem Zka:ZU .LtE (.int i) (.int j)=some (.bl (decide (i<=j))):=Eq.trans rfl rfl
@[simp] theorem Zj9:ZU .Gt (.int i) (.int j)=some (.bl (decide (j < i))):=Eq.trans rfl rfl
@[simp] theorem Zj8:ZU .GtE (.int i) (.int j)=some (.bl (decide (j<=i))):=Eq.trans rfl rfl
@[simp] theorem ZjI:ZU .Eq (.int i) (.int j)=some (.bl (decide (i=j))):=Eq.trans rfl rfl
@[simp] theorem ZjK:ZU .NotEq (.int i) (.int j)=some (.bl (!decide (i=j))):=Eq.trans rfl rfl
@[simp] theorem ZjJ{s t:Str}:ZU .Eq (.str s) (.str t)=some (.bl (decide (s=t))):=Eq.trans rfl rfl
theorem W4(h:okP 8 (.tup xs)=true)(h':okP 8 (.tup ys)=true):ZU .Eq (.tup xs) (.tup ys)=some (.bl (YZ xs ys)):=by
 show(eqP (.tup xs) (.tup ys)).map P.bl=_;show(if okP 8 (.tup xs)&&okP 8 (.tup ys) then some (YZ xs ys) else ZaA xs ys).map P.bl=_
 rw[h,h'];rfl
@[simp] theorem Zkz:ZbC (.bl m)=some (.bl (!m)):=Eq.trans rfl rfl
@[simp] theorem ZjN:JD (.tup xs)=some (.lst true xs):=Eq.trans rfl rfl
@[simp] theorem ZiF:Vp x (.tup xs)=if xs.length < 1000 then some (.tup (x :: xs)) else none:=Eq.trans rfl rfl
@[simp] theorem Zi9:Us (.int i)=some (.int i):=Eq.trans rfl rfl
@[simp] theorem ZjM:Jy (.tup xs)=some (.int xs.length):=Eq.trans rfl rfl
@[simp] theorem ZjL:Jy (.lst m xs)=some (.int xs.length):=Eq.trans rfl rfl
@[simp] theorem Zie:WK (.lst m xs)=some (.tup xs):=Eq.trans rfl rfl
@[simp] theorem int_int:Jt (.int i)=some (.int i):=Eq.trans rfl rfl
@[simp] theorem Zkh:Jt (.bl m)=some (.int (if m=true then 1 else 0)):=by cases m<;>rfl
@[simp] theorem ZjP:Zbz (.int i) (.int j)=some (.int (if j < i then j else i)):=Eq.trans rfl rfl
@[simp] theorem ZjO:Zby (.int i) (.int j)=some (.int (if j > i then j else i)):=Eq.trans rfl rfl
@[simp] theorem ix_tup:ixP (.tup xs) (.int i)=atP xs i:=Eq.trans rfl rfl
@[simp] theorem Zks:ixP (.lst m xs) (.int i)=atP xs i:=Eq.trans rfl rfl
@[simp] theorem Zkm:V5 .int (.int i)=some (.bl true):=Eq.trans rfl rfl
@[simp] theorem Zkl:V5 .bool (.int i)=some (.bl false):=Eq.trans rfl rfl
@[simp] theorem Zkp:V5 .tuple (.tup xs)=some (.bl true):=Eq.trans rfl rfl
@[simp] theorem Zko:V5 .tuple (.int i)=some (.bl false):=Eq.trans rfl rfl
@[simp] theorem Zkn:V5 .str (.int i)=some (.bl false):=Eq.trans rfl rfl
@[simp] theorem Ziy{g:Li P->Ot P}{ds:Li D}:Vl g ds (.tup xs)=(WF ds).bind fun es=>g (xs++es):=by
 show(match WF ds with|some es=>g (xs++es)|none=>none)=_
 cases WF ds<;>rfl
@[simp] theorem Zjm:XF x (.int i) .non=Ym x (some i) none:=Eq.trans rfl rfl
@[simp] theorem Zjn:XF x .non (.int j)=Ym x none (some j):=Eq.trans rfl rfl
theorem X4{n:Nat}(h:i=(n:Int)):atP xs i=xs[n]?:=by
 subst h;unfold atP ixN;rw[if_pos (by omega)]
 by_cases hn:(n:Int) < xs.length
 ·rw[if_pos hn];rfl
 ·rw[if_neg hn]
  rw[List.getElem?_eq_none (by omega)]
  rfl
@[simp] theorem ZjC{n:Nat}:atP xs ((n:Nat):Int)=xs[n]?:=X4 rfl
@[simp] theorem Zlo:atP xs 2=xs[2]?:=X4 rfl
@[simp] theorem Zlp:atP xs 3=xs[3]?:=X4 rfl
@[simp] theorem Zlq:atP xs 4=xs[4]?:=X4 rfl
@[simp] theorem Zlm:atP xs 0=xs[0]?:=X4 rfl
@[simp] theorem Zln:atP xs 1=xs[1]?:=X4 rfl
variable {s t:CS}
noncomputable def VU(x:Ot PFl)(g:Zq->Ot PFl):Ot PFl:=match x with
 |some (.nx π')=>g π'
 |r=>r
@[simp] theorem Zz{g:PEx}:VU (some (.nx π)) g=g π:=Eq.trans rfl rfl
@[simp] theorem ZjY{g:PEx}:VU (some (.rt x)) g=some (.rt x):=Eq.trans rfl rfl
@[simp] theorem Zjp{p:Prop}[Decidable p]{u v:Ot PFl}{g:PEx}:VU (if p then u else v) g=if p then VU u g else VU v g:=by split<;>rfl
noncomputable def ZdJ(c:Ot P)(x y:Ot PFl):Ot PFl:=match c with
 |some (.bl true)=>x
 |some (.bl false)=>y
 |_=>none
@[simp] theorem Vb{k:Bool}{x y:Ot PFl}:ZdJ (some (.bl k)) x y=if k=true then x else y:=by cases k<;>rfl
@[simp] theorem XU:px F M .skip π=some (.nx π):=Eq.trans rfl rfl
@[simp] theorem ZH:px F M (.seq s t) π=VU (px F M s π) (px F M t):=by
 show Zdk _ _ π=_;unfold Zdk VU;rfl
@[simp] theorem Zdo:px F M (.ret a) π=(pe F a π).bind fun d=>some (.rt d):=by
 show Zdi _ π=_;unfold Zdi;cases pe F a π<;>rfl
@[simp] theorem U5:px F M (.ite c s t) π=ZdJ (pe F c π) (px F M s π) (px F M t π):=by
 show Zde _ _ _ π=_;unfold Zde ZdJ;rfl
@[simp] theorem Zm{o:Ot P}:Zt (o :: π) 0 x=some x :: π:=rfl
@[simp] theorem Zo{o:Ot P}{k:Nat}:Zt (o :: π) (k+1) x=o :: Zt π k x:=rfl
theorem Zd0{a b:Bool}(ha:a=true)(hb:b=true):(a&&b)=true:=by rw[ha,hb];rfl
theorem ZdZ{l:Li Nat}:(l.all fun i=>!([]:Li Nat).contains i)=true:=by
 induction l with
 |nil=>rfl
 |cons a l ih=>exact ih
theorem Ze1:∀ e:CE,noM [] e=true:=by
 intro e
 induction e<;>first|rfl|assumption | (show(_&&_)=true;exact Zd0 (by assumption) (by assumption)) | (show(_&&(_&&_))=true;exact Zd0 (by assumption) (Zd0 (by assumption) (by assumption))) | (show(_&&_)=true;exact Zd0 (by assumption) ZdZ)
theorem QI{e:CE}:Zy [] e x=true:=by unfold Zy;rw[Ze1];rfl
@[simp] theorem Zfh{k:Nat}:px F [] (.set k a) π=(pe F a π).bind fun p=>some (.nx (Zt π k p)):=by
 show JL _ _ _ _ π=_;unfold JL;cases pe F a π with
 |none=>rfl
 |some p=>simp[QI]
theorem Zdp{k:Nat}:px F M (.set k a) π=(pe F a π).bind fun p=>if (if M.contains k then YR M a p else Zy M a p||YR M a p) then some (.nx (Zt π k p)) else mvP M k a p π:=by
 show JL _ _ _ _ π=_;unfold JL;cases pe F a π<;>rfl
theorem Zfg{k l:Nat}(h:pe F a π=some (.tup [x,y]))(hw:(!M.contains k&&!M.contains l&&Zy M a (.tup [x,y]))=true):px F M (.set2 k l a) π=some (.nx (Zt (Zt π k x) l y)):=by
 show QT _ _ _ _ _ π=_;unfold QT;rw[h];show(if (!M.contains k&&!M.contains l&&Zy M a (.tup [x,y]))=true then some (PFl.nx (Zt (Zt π k x) l y)) else none)=_
 rw[if_pos hw]
theorem XT{k:Nat}{p:P}(h:pe F a π=some p)(hm:M.contains k=false)(hk:Zy M a p=true):px F M (.set k a) π=some (.nx (Zt π k p)):=by
 rw[Zdp,h,Ob,hm,if_neg Bf,hk,Bool.true_or,if_pos rfl]
theorem W9{k:Nat}{p:P}(h:pe F a π=some p)(hm:M.contains k=true)(hk:YR M a p=true):px F M (.set k a) π=some (.nx (Zt π k p)):=by
 rw[Zdp,h,Ob,hm,if_pos rfl,if_pos hk]
theorem Zhp{k:Nat}(h:π[k]?=some (some (.lst true xs))):px F M (.app k a) π=(pe F a π).bind fun p=>if M.contains k&&Zy M a p&&decide (xs.length < Zs) then some (.nx (Zt π k (.lst true (xs++[p])))) else none:=by
 show Zc6 _ _ _ _ π=_;unfold Zc6;rw[h];cases pe F a π<;>rfl
theorem Zhq{k:Nat}(h:π[k]?=some (some (.lst true xs)))(he:pe F a π=some (.lst true ys))(hw:(M.contains k&&noM M a)=true)(hz:xs.length+ys.length<=Zs):px F M (.ext k a) π=some (.nx (Zt π k (.lst true (xs++ys)))):=by
 show Zdb _ _ _ _ π=_;unfold Zdb;simp only[h,he];rw[if_pos (by rw[Ba];exact⟨hw,decide_eq_true hz⟩)]
theorem Zfd{k:Nat}(h:pe F it π=some (.lst m xs))(hw:!M.contains k&&VY M (ZT s) it xs=true):px F M (.for1 k false it s) π=Yb (fun d π=>px F M s (Zt π k d)) xs π:=by
 show JJ _ _ _ _ _ _ _ π=_;unfold JJ;rw[h];show(if !M.contains k&&VY M (ZT s) it xs then Yb (fun d π=>px F M s (Zt π k d)) xs π else none)=_
 rw[if_pos (by simpa using hw)]
theorem Zfe{k:Nat}{n:Int}(h:pe F it π=some (.int n))(h1:n < 2 ^ 62)(h2:-(2 ^ 62)<=n)(hw:M.contains k=false):px F M (.for1 k true it s) π=Yb (fun d π=>px F M s (Zt π k d)) (Ya n) π:=by
 show JJ _ _ _ _ _ _ _ π=_;unfold JJ;rw[h];have e:VB true (.int n)=some (Ya n):=by
  show(if n < 2 ^ 62/\-(2 ^ 62)<=n then some (Ya n) else none)=_
  rw[if_pos ⟨h1,h2⟩]
 simp only[e];rw[if_pos (by simpa using hw)]
theorem Zfc{k l:Nat}{x:P}(h:pe F it π=some x)(hx:ZdR x=some xs)(hw:(!M.contains k&&!M.contains l&&noM M it)=true):px F M (.forE k l it s) π=Xj (fun x y π=>px F M s (Zt (Zt π k x) l y)) (WH 0 xs) π:=by
 show QS _ _ _ _ _ _ π=_;unfold QS;rw[h];dsimp only;rw[hx];show(if (!M.contains k&&!M.contains l&&noM M it)=true then _ else _)=_
 rw[if_pos hw]
noncomputable def Q6(x:Ot PFl)(g:Zq->Ot PFl):Ot PFl:=match x with
 |some (.nx π')=>g π'
 |some (.ct π')=>g π'
 |some (.bk π')=>some (.nx π')
 |some (.rt v)=>some (.rt v)
 |none=>none
@[simp] theorem Xg{g:PEx}:Q6 (some (.nx π)) g=g π:=Eq.trans rfl rfl
theorem ZcN{B:P->Zq->Ot PFl}:Yb B [] π=some (.nx π):=Eq.trans rfl rfl
theorem Yw{B:P->Zq->Ot PFl}:Yb B (x :: xs) π=Q6 (B x π) (Yb B xs):=by
 show(match B x π with
  |some (.nx π')=>Yb B xs π'
  |some (.ct π')=>Yb B xs π'
  |some (.bk π')=>some (.nx π')
  |some (.rt v)=>some (.rt v)
  |none=>none)=_
 unfold Q6;rfl
theorem mem_range{n:Int}{p:P}(h:p∈Ya n):∃ k:Nat,p=.int (k:Int)/\(k:Int) < n:=by
 obtain⟨k,hk,rfl⟩:=List.mem_map.mp h;exact⟨k,rfl,by have:=List.mem_range.mp hk;omega⟩
noncomputable def ZG(x:Ot PFl):Ot P:=match x with
 |some (.rt d)=>some d
 |some (.nx _)=>some .non
 |_=>none
@[simp] theorem Zld:ZG (some (.rt x))=some x:=Eq.trans rfl rfl
@[simp] theorem ZjW{p:Prop}[Decidable p]{u v:Ot PFl}:ZG (if p then u else v)=if p then ZG u else ZG v:=by split<;>rfl
theorem ZgO{f:FD}{ds:Li P}(hl:ds.length=f.ps)(hM:(Z5 f.body).all (fun i=>decide (f.ps<=i))=true):fnP F f ds=ZG (px F (Z5 f.body) f.body (ds.map some++List.replicate (f.ns - ds.length) none)):=by
 unfold fnP;rw[if_pos ⟨hl,hM⟩];rfl
theorem Zp{T:Nat->Ot FD}{n k:Nat}{f:FD}{ds:Li P}(h:T k=some f)(hl:ds.length=f.ps)(hM:(Z5 f.body).all (fun i=>decide (f.ps<=i))=true)(hN:(Vy k&&!VI f)=false:=by rfl)(hW:(k==16&&(T 999).isSome)=false:=by rfl) :
  Zk T (n+1) k ds=ZG (px (Zk T n) (Z5 f.body) f.body (ds.map some++List.replicate (f.ns - ds.length) none)):=by
 have:Zk T (n+1) k=fnP (Zk T n) f:=by rw[Uu h,if_neg (by rw[hN];exact Bf)]
 rw[this];exact ZgO hl hM
section
variable {F:PFn}{M:Li Nat}{π π':Zq}{a b:CS}{c:CE}{v:P}
end
theorem WN{f c:P->Ot P}{p:P->Bool}{g:P->P}:∀ {xs:Li P},(∀ x∈xs,c x=some (.bl (p x)))->(∀ x∈xs,p x=true->f x=some (g x))->Yr f c xs=some ((xs.filter p).map g)
 |[],_,_=>rfl
 |x :: xs,hc,hf=>by
  have h1:=hc x Ls;have ih:=WN (fun y hy=>hc y (Lm _ hy)) (fun y hy=>hf y (Lm _ hy))
  unfold Yr;rw[h1];cases q:p x with
  |true=>
   have h2:=hf x Ls q;simp only[h2,ih,List.filter_cons,q,if_true,List.map_cons]
  |false=>
   simp only[ih,List.filter_cons,q,Bool.false_eq_true,if_false]
theorem Zid{xs:Li P}:YT false (.tup xs)=some xs:=rfl
theorem Zbr{n:Int}(h1:n < 2 ^ 62)(h2:-(2 ^ 62)<=n):YT true (.int n)=some (Ya n):=by
 have e:VB true (.int n)=some (Ya n):=by
  show(if n < 2 ^ 62/\-(2 ^ 62)<=n then some (Ya n) else none)=_
  rw[if_pos ⟨h1,h2⟩]
 unfold YT;rw[e]
theorem Jw{n:Nat}(h:n<=100000):YT true (.int (n:Int))=some (Ya (n:Int)):=
 Zbr (Int.lt_of_le_of_lt (Int.ofNat_le.mpr h) (by decide)) (Int.le_trans (by decide) (Int.natCast_nonneg n))
theorem U6{n:Int}:(Ya n).length=n.toNat:=by simp[Ya]
theorem Uo{B:P->Zq->Ot PFl}{I:Nat->Zq->Prop}:∀ (j k:Nat),(∀ i,k<=i->i < k+j->∀ π,I i π->∃ π',B (.int (i:Int)) π=some (.nx π')/\I (i+1) π')->∀ π,I k π->∃ π',Yb B ((List.range' k j).map fun(i:Nat)=>P.int (i:Int)) π=some (.nx π')/\I (k+j) π'
 |0,k,_,π,h=>⟨π,rfl,h⟩
 |j+1,k,hb,π,h=>by
  obtain⟨π1,e1,i1⟩:=hb k (Nat.le_refl _) (by omega) π h
  obtain⟨π2,e2,i2⟩:=Uo j (k+1) (fun i h1 h2=>hb i (by omega) (by omega)) π1 i1
  refine⟨π2,?_,by rw[show k+(j+1)=k+1+j by omega];exact i2⟩
  rw[List.range'_succ,List.map_cons,Yw,e1];exact e2
theorem JB{B:P->Zq->Ot PFl}(I:Nat->Zq->Prop){m:Nat}(hb:∀ i,i < m->∀ π,I i π->∃ π',B (.int (i:Int)) π=some (.nx π')/\I (i+1) π'){π:Zq}(h:I 0 π):∃ π',Yb B (Ya (m:Int)) π=some (.nx π')/\I m π':=by
 have:=Uo (B:=B) (I:=I) m 0 (fun i _ h2=>hb i (by omega)) π h
 rw[Nat.zero_add]at this;have e:Ya (m:Int)=(List.range' 0 m).map fun(i:Nat)=>P.int (i:Int):=by
  unfold Ya;rw[show((m:Int)).toNat=m by omega,List.range_eq_range']
 rw[e];exact this
theorem Zff{k:Nat}{n:Nat}(h:pe F it π=some (.int (n:Int)))(h1:n<=100000)(hw:M.contains k=false):px F M (.for1 k true it s) π=Yb (fun d π=>px F M s (Zt π k d)) (Ya (n:Int)) π:=
 Zfe h (Int.lt_of_le_of_lt (Int.ofNat_le.mpr h1) (by decide)) (Int.le_trans (by decide) (Int.natCast_nonneg n)) hw
mutual
theorem ZaW:∀ {n:Nat}{x:P},okP n x=true->ZF x x=true
 |_,.non,_=>rfl
 |_,.bl a,_=>by simp[ZF]
 |_,.int a,_=>by simp[ZF]
 |_,.str a,_=>by simp[ZF]
 |0,.tup a,h=>by simp[okP]at h
 |n+1,.tup a,h=>Vh (n:=n) (x:=a) h
 |_,.lst a b,h=>by simp[okP]at h
 |_,.dct a b,h=>by simp[okP]at h
 |_,.obj a,h=>by simp[okP]at h
 |_,.kt a,h=>by simp[okP]at h
theorem Vh:∀ {n:Nat}{x:Li P},Yy n x=true->YZ x x=true
 |_,[],_=>rfl
 |n,a :: x,h=>by
  have h:(okP n a&&Yy n x)=true:=h;rw[Ba]at h;show(ZF a a&&YZ x x)=true;rw[ZaW h.1,Vh h.2];rfl
end
@[simp] theorem ZiC{m m':Bool}{xs:Li P}:ZU .Eq (.lst m xs) (.lst m' [])=some (.bl xs.isEmpty):=by
 cases xs<;>rfl
@[simp] theorem ZjX{m:Bool}{i j:Int}:rsP true (.lst m [.int i,.int j])=some (.lst true (if j < i then [.int j,.int i] else [.int i,.int j])):=Eq.trans rfl rfl
end
end Dp


namespace Dp
open PySem
noncomputable def c_around:FD:=⟨1,1,(.seq (.ret (.bin .Sub (.bin .Mod (.bin .Add (.var 0) (.cst (.int 1000000000))) (.cst (.int 2000000000))) (.cst (.int 1000000000))))
 .skip)⟩
noncomputable def Zd6:FD:=⟨1,1,(.seq (.ret (.and (.isi .int (.var 0)) (.not (.isi .bool (.var 0)))))
 .skip)⟩
noncomputable def c_divided:FD:=⟨2,2,(.seq (.ite (.cmp .Eq (.var 1) (.cst (.int 0))) (.seq (.ret (.cst (.int 0)))
 .skip) .skip)
 (.seq (.ret (.call 0 (.aC (.bin .FloorDiv (.var 0) (.var 1)) .aN) []))
 .skip))⟩
noncomputable def c_left_over:FD:=⟨2,2,(.seq (.ite (.cmp .Eq (.var 1) (.cst (.int 0))) (.seq (.ret (.var 0))
 .skip) .skip)
 (.seq (.ret (.bin .Sub (.var 0) (.bin .Mult (.var 1) (.bin .FloorDiv (.var 0) (.var 1)))))
 .skip))⟩
noncomputable def c_reckon:FD:=⟨3,3,(.seq (.ite (.cmp .Eq (.var 1) (.cst (.str (S "+")))) (.seq (.ret (.call 0 (.aC (.bin .Add (.var 0) (.var 2)) .aN) []))
 .skip) .skip)
 (.seq (.ite (.cmp .Eq (.var 1) (.cst (.str (S "-")))) (.seq (.ret (.call 0 (.aC (.bin .Sub (.var 0) (.var 2)) .aN) []))
 .skip) .skip)
 (.seq (.ite (.cmp .Eq (.var 1) (.cst (.str (S "*")))) (.seq (.ret (.call 0 (.aC (.bin .Mult (.var 0) (.var 2)) .aN) []))
 .skip) .skip)
 (.seq (.ite (.cmp .Eq (.var 1) (.cst (.str (S "/")))) (.seq (.ret (.call 1 (.aC (.var 0) (.aC (.var 2) .aN)) []))
 .skip) .skip)
 (.seq (.ret (.call 2 (.aC (.var 0) (.aC (.var 2) .aN)) []))
 .skip)))))⟩
noncomputable def ZbN:FD:=⟨1,2,(.seq (.set 1 (.lstE (.aC (.neg (.cst (.int 1000000000))) (.aC (.neg (.cst (.int 999999999))) (.aC (.neg (.cst (.int 2))) (.aC (.neg (.cst (.int 1))) (.aC (.cst (.int 0)) (.aC (.cst (.int 1)) (.aC (.cst (.int 2)) (.aC (.cst (.int 999999999)) .aN))))))))))
 (.seq (.ite (.cmp .Eq (.bin .Mod (.var 0) (.cst (.int 3))) (.cst (.int 0))) (.seq (.ret (.ix (.var 1) (.bin .Mod (.bin .FloorDiv (.var 0) (.cst (.int 3))) (.cst (.int 8)))))
 .skip) .skip)
 (.seq (.ite (.cmp .Eq (.bin .Mod (.var 0) (.cst (.int 3))) (.cst (.int 1))) (.seq (.ret (.bin .Sub (.bin .Mod (.bin .FloorDiv (.var 0) (.cst (.int 3))) (.cst (.int 13))) (.cst (.int 6))))
 .skip) .skip)
 (.seq (.ret (.bin .Sub (.bin .Mod (.bin .Mult (.bin .FloorDiv (.var 0) (.cst (.int 3))) (.cst (.int 48271))) (.cst (.int 2000000000))) (.cst (.int 1000000000))))
 .skip))))⟩
noncomputable def Zd5:FD:=⟨1,1,(.seq (.ret (.and (.call 17 (.aC (.var 0) .aN) []) (.and (.cmp .LtE (.neg (.cst (.int 1000000000))) (.var 0)) (.cmp .LtE (.var 0) (.cst (.int 999999999))))))
 .skip)⟩
noncomputable def ZbW:FD:=⟨2,2,(.seq (.ite (.cmp .Gt (.var 1) (.cst (.int 0))) (.seq (.ret (.and (.cmp .LtE (.cst (.int 0)) (.var 0)) (.cmp .Lt (.var 0) (.var 1))))
 .skip) .skip)
 (.seq (.ret (.and (.cmp .Lt (.var 1) (.var 0)) (.cmp .LtE (.var 0) (.cst (.int 0)))))
 .skip))⟩
noncomputable def c_replaced:FD:=⟨3,3,(.seq (.ret (.bin .Add (.bin .Add (.slice (.var 0) .nop (.part (.var 1))) (.tupE (.aC (.var 2) .aN))) (.slice (.var 0) (.part (.bin .Add (.var 1) (.cst (.int 1)))) .nop)))
 .skip)⟩
noncomputable def c_is_so:FD:=⟨3,3,(.seq (.ite (.cmp .Eq (.var 1) (.cst (.str (S "<")))) (.seq (.ret (.cmp .Lt (.var 0) (.var 2)))
 .skip) .skip)
 (.seq (.ite (.cmp .Eq (.var 1) (.cst (.str (S "<=")))) (.seq (.ret (.cmp .LtE (.var 0) (.var 2)))
 .skip) .skip)
 (.seq (.ite (.cmp .Eq (.var 1) (.cst (.str (S "=")))) (.seq (.ret (.cmp .Eq (.var 0) (.var 2)))
 .skip) .skip)
 (.seq (.ite (.cmp .Eq (.var 1) (.cst (.str (S ">=")))) (.seq (.ret (.cmp .GtE (.var 0) (.var 2)))
 .skip) .skip)
 (.seq (.ite (.cmp .Eq (.var 1) (.cst (.str (S ">")))) (.seq (.ret (.cmp .Gt (.var 0) (.var 2)))
 .skip) .skip)
 (.seq (.ret (.cmp .NotEq (.var 0) (.var 2)))
 .skip))))))⟩
noncomputable def Zea:FD:=⟨2,2,(.seq (.ite (.cmp .Eq (.ix (.var 0) (.cst (.int 0))) (.cst (.str (S "name")))) (.seq (.ret (.ix (.var 1) (.ix (.var 0) (.cst (.int 1)))))
 .skip) .skip)
 (.seq (.ret (.ix (.var 0) (.cst (.int 1))))
 .skip))⟩
noncomputable def ZbX:FD:=⟨2,2,(.seq (.ret (.cmp .GtE (.ix (.var 1) (.cst (.int 0))) (.len (.ix (.var 0) (.cst (.int 2))))))
 .skip)⟩
noncomputable def WX:FD:=⟨2,3,(.seq (.ite (.cmp .NotEq (.ix (.var 0) (.cst (.int 0))) (.cst (.str (S "put")))) (.seq (.ret (.var 1))
 .skip) .skip)
 (.seq (.set 2 (.call 3 (.aC (.call 5 (.aC (.ix (.var 0) (.cst (.int 2))) (.aC (.var 1) .aN)) []) (.aC (.ix (.var 0) (.cst (.int 3))) (.aC (.call 5 (.aC (.ix (.var 0) (.cst (.int 4))) (.aC (.var 1) .aN)) []) .aN))) []))
 (.seq (.ret (.call 42 (.aC (.var 1) (.aC (.ix (.var 0) (.cst (.int 1))) (.aC (.var 2) .aN))) []))
 .skip)))⟩
noncomputable def Vk:FD:=⟨3,3,(.seq (.ite (.cmp .Eq (.ix (.var 0) (.cst (.int 0))) (.cst (.str (S "go")))) (.seq (.ret (.ix (.var 0) (.cst (.int 1))))
 .skip) .skip)
 (.seq (.ite (.and (.cmp .Eq (.ix (.var 0) (.cst (.int 0))) (.cst (.str (S "if")))) (.call 4 (.aC (.call 5 (.aC (.ix (.var 0) (.cst (.int 1))) (.aC (.var 2) .aN)) []) (.aC (.ix (.var 0) (.cst (.int 2))) (.aC (.call 5 (.aC (.ix (.var 0) (.cst (.int 3))) (.aC (.var 2) .aN)) []) .aN))) [])) (.seq (.ret (.ix (.var 0) (.cst (.int 4))))
 .skip) .skip)
 (.seq (.ret (.bin .Add (.var 1) (.cst (.int 1))))
 .skip)))⟩
noncomputable def Zd8:FD:=⟨2,5,(.seq (.ite (.call 7 (.aC (.var 0) (.aC (.var 1) .aN)) []) (.seq (.ret (.tupE (.aC (.cst (.str (S "none"))) .aN)))
 .skip) .skip)
 (.seq (.set 2 (.ix (.var 1) (.cst (.int 0))))
 (.seq (.set 3 (.ix (.var 1) (.cst (.int 1))))
 (.seq (.set 4 (.ix (.ix (.var 0) (.cst (.int 2))) (.var 2)))
 (.seq (.ite (.cmp .Eq (.ix (.var 4) (.cst (.int 0))) (.cst (.str (S "tell")))) (.seq (.ret (.tupE (.aC (.cst (.str (S "told"))) (.aC (.call 5 (.aC (.ix (.var 4) (.cst (.int 1))) (.aC (.var 3) .aN)) []) .aN))))
 .skip) .skip)
 (.seq (.ret (.tupE (.aC (.call 9 (.aC (.var 4) (.aC (.var 2) (.aC (.var 3) .aN))) []) (.aC (.call 8 (.aC (.var 4) (.aC (.var 3) .aN)) []) .aN))))
 .skip))))))⟩
noncomputable def Jk:CS:=(.seq (.set 1 (.bin .Mult (.var 1) (.cst (.int 2))))
 .skip)
noncomputable def ZbY:FD:=⟨1,3,(.seq (.set 1 (.cst (.int 1)))
 (.seq (.for1 2 true (.var 0) Jk)
 (.seq (.ret (.var 1))
 .skip)))⟩
noncomputable def Zd7:FD:=⟨2,2,(.seq (.ret (.tupE (.aC (.cst (.int 0)) (.aC (.bin .Add (.var 1) (.bin .Mult (.tupE (.aC (.cst (.int 0)) .aN)) (.bin .Sub (.ix (.var 0) (.cst (.int 1))) (.len (.var 1))))) .aN))))
 .skip)⟩
noncomputable def UI:FD:=⟨1,1,(.seq (.ret (.isi .str (.ix (.var 0) (.cst (.int 0)))))
 .skip)⟩
noncomputable def ZaV:CS:=(.seq (.set 6 (.call 10 (.aC (.var 0) (.aC (.var 3) .aN)) []))
 (.seq (.app 4 (.var 6))
 (.seq (.ite (.call 11 (.aC (.var 6) .aN) []) (.seq (.ret (.tOf (.var 4)))
 .skip) .skip)
 (.seq (.set 3 (.var 6))
 .skip))))
noncomputable def Zd9:FD:=⟨3,7,(.seq (.set 3 (.call 6 (.aC (.var 0) (.aC (.var 1) .aN)) []))
 (.seq (.set 4 (.lstE (.aC (.var 3) .aN)))
 (.seq (.for1 5 true (.var 2) ZaV)
 (.seq (.app 4 (.ife (.call 7 (.aC (.var 0) (.aC (.var 3) .aN)) []) (.tupE (.aC (.cst (.str (S "none"))) .aN)) (.tupE (.aC (.cst (.str (S "late"))) .aN))))
 (.seq (.ret (.tOf (.var 4)))
 .skip)))))⟩
noncomputable def ZaY:FD:=⟨3,3,(.seq (.ret (.ix (.call 12 (.aC (.var 0) (.aC (.var 1) (.aC (.var 2) .aN))) []) (.neg (.cst (.int 1)))))
 .skip)⟩
noncomputable def WY:CE:=(.comp false [] (.var 1) (.ix (.var 0) (.cst (.int 0))) (.cst (.bl true)))
noncomputable def V1:FD:=⟨1,2,(.seq (.set 1 (.slice (.var 0) .nop (.part (.neg (.cst (.int 1))))))
 (.seq (.ite (.cmp .NotEq (.ix (.ix (.var 0) (.neg (.cst (.int 1)))) (.cst (.int 0))) (.cst (.str (S "told")))) (.seq (.set 1 (.slice (.var 1) .nop (.part (.neg (.cst (.int 1))))))
 .skip) .skip)
 (.seq (.ret WY)
 .skip)))⟩
noncomputable def Qj:CS:=(.seq (.set 1 (.bin .BitOr (.var 1) (.call 43 (.aC (.var 2) .aN) [])))
 .skip)
noncomputable def ZaZ:FD:=⟨1,3,(.seq (.set 1 (.cst (.int 0)))
 (.seq (.for1 2 false (.call 14 (.aC (.var 0) .aN) []) Qj)
 (.seq (.ret (.var 1))
 .skip)))⟩
noncomputable def ZgE:FD:=⟨3,3,(.seq (.ret (.call 44 (.aC (.call 12 (.aC (.var 0) (.aC (.var 1) (.aC (.var 2) .aN))) []) .aN) []))
 .skip)⟩
noncomputable def c_are_numbers:FD:=⟨2,2,(.seq (.ret (.and (.cmp .Eq (.ix (.var 0) (.cst (.int 0))) (.cst (.str (S "number")))) (.cmp .Eq (.ix (.var 1) (.cst (.int 0))) (.cst (.str (S "number"))))))
 .skip)⟩
noncomputable def c_lesser_first:FD:=⟨3,3,(.seq (.ite (.cmp .Lt (.ix (.var 0) (.var 2)) (.ix (.var 0) (.var 1))) (.seq (.ret (.call 42 (.aC (.call 42 (.aC (.var 0) (.aC (.var 1) (.aC (.ix (.var 0) (.var 2)) .aN))) []) (.aC (.var 2) (.aC (.ix (.var 0) (.var 1)) .aN))) []))
 .skip) .skip)
 (.seq (.ret (.var 0))
 .skip))⟩
noncomputable def c_less_as_more:FD:=⟨1,1,(.seq (.ite (.and (.cmp .Eq (.ix (.var 0) (.cst (.int 3))) (.cst (.str (S "-")))) (.cmp .Eq (.ix (.ix (.var 0) (.cst (.int 4))) (.cst (.int 0))) (.cst (.str (S "number"))))) (.seq (.ret (.bin .Add (.slice (.var 0) .nop (.part (.cst (.int 3)))) (.tupE (.aC (.cst (.str (S "+"))) (.aC (.tupE (.aC (.cst (.str (S "number"))) (.aC (.call 0 (.aC (.neg (.ix (.ix (.var 0) (.cst (.int 4))) (.cst (.int 1)))) .aN) []) .aN))) .aN)))))
 .skip) .skip)
 (.seq (.ret (.var 0))
 .skip))⟩
noncomputable def c_without_reckoning:FD:=⟨1,4,(.seq (.set 1 (.ix (.var 0) (.cst (.int 2))))
 (.seq (.set 2 (.ix (.var 0) (.cst (.int 3))))
 (.seq (.set 3 (.ix (.var 0) (.cst (.int 4))))
 (.seq (.ite (.or (.and (.cmp .Eq (.var 2) (.cst (.str (S "*")))) (.cmp .Eq (.var 3) (.cst (.tup [(.str (S "number")),(.int 0)])))) (.or (.and (.cmp .Eq (.var 2) (.cst (.str (S "mod")))) (.cmp .Eq (.var 3) (.cst (.tup [(.str (S "number")),(.int 1)])))) (.and (.cmp .Eq (.var 2) (.cst (.str (S "-")))) (.cmp .Eq (.var 1) (.var 3))))) (.seq (.ret (.tupE (.aC (.cst (.str (S "put"))) (.aC (.ix (.var 0) (.cst (.int 1))) (.aC (.cst (.tup [(.str (S "number")),(.int 0)])) (.aC (.cst (.str (S "+"))) (.aC (.cst (.tup [(.str (S "number")),(.int 0)])) .aN)))))))
 .skip) .skip)
 (.seq (.ite (.and (.cmp .In (.var 2) (.tupE (.aC (.cst (.str (S "*"))) (.aC (.cst (.str (S "/"))) .aN)))) (.cmp .Eq (.var 3) (.cst (.tup [(.str (S "number")),(.int 1)])))) (.seq (.ret (.tupE (.aC (.cst (.str (S "put"))) (.aC (.ix (.var 0) (.cst (.int 1))) (.aC (.var 1) (.aC (.cst (.str (S "+"))) (.aC (.cst (.tup [(.str (S "number")),(.int 0)])) .aN)))))))
 .skip) .skip)
 (.seq (.ret (.var 0))
 .skip))))))⟩
noncomputable def c_made_put:FD:=⟨1,1,(.seq (.ite (.call 73 (.aC (.ix (.var 0) (.cst (.int 2))) (.aC (.ix (.var 0) (.cst (.int 4))) .aN)) []) (.seq (.ret (.tupE (.aC (.cst (.str (S "put"))) (.aC (.ix (.var 0) (.cst (.int 1))) (.aC (.tupE (.aC (.cst (.str (S "number"))) (.aC (.call 3 (.aC (.ix (.ix (.var 0) (.cst (.int 2))) (.cst (.int 1))) (.aC (.ix (.var 0) (.cst (.int 3))) (.aC (.ix (.ix (.var 0) (.cst (.int 4))) (.cst (.int 1))) .aN))) []) .aN))) (.aC (.cst (.str (S "+"))) (.aC (.cst (.tup [(.str (S "number")),(.int 0)])) .aN)))))))
 .skip) .skip)
 (.seq (.set 0 (.call 75 (.aC (.var 0) .aN) []))
 (.seq (.ite (.cmp .In (.ix (.var 0) (.cst (.int 3))) (.tupE (.aC (.cst (.str (S "+"))) (.aC (.cst (.str (S "*"))) .aN)))) (.seq (.set 0 (.call 74 (.aC (.var 0) (.aC (.cst (.int 2)) (.aC (.cst (.int 4)) .aN))) []))
 .skip) .skip)
 (.seq (.set 0 (.call 76 (.aC (.var 0) .aN) []))
 (.seq (.ite (.cmp .Eq (.var 0) (.tupE (.aC (.cst (.str (S "put"))) (.aC (.ix (.var 0) (.cst (.int 1))) (.aC (.tupE (.aC (.cst (.str (S "name"))) (.aC (.ix (.var 0) (.cst (.int 1))) .aN))) (.aC (.cst (.str (S "+"))) (.aC (.cst (.tup [(.str (S "number")),(.int 0)])) .aN))))))) (.seq (.ret (.cst (.tup [(.str (S "skip"))])))
 .skip) .skip)
 (.seq (.ret (.var 0))
 .skip))))))⟩
noncomputable def c_greater_as_less:FD:=⟨1,1,(.seq (.ite (.cmp .Eq (.ix (.var 0) (.cst (.int 2))) (.cst (.str (S ">")))) (.seq (.ret (.tupE (.aC (.cst (.str (S "if"))) (.aC (.ix (.var 0) (.cst (.int 3))) (.aC (.cst (.str (S "<"))) (.aC (.ix (.var 0) (.cst (.int 1))) (.aC (.ix (.var 0) (.cst (.int 4))) .aN)))))))
 .skip) .skip)
 (.seq (.ite (.cmp .Eq (.ix (.var 0) (.cst (.int 2))) (.cst (.str (S ">=")))) (.seq (.ret (.tupE (.aC (.cst (.str (S "if"))) (.aC (.ix (.var 0) (.cst (.int 3))) (.aC (.cst (.str (S "<="))) (.aC (.ix (.var 0) (.cst (.int 1))) (.aC (.ix (.var 0) (.cst (.int 4))) .aN)))))))
 .skip) .skip)
 (.seq (.ret (.var 0))
 .skip)))⟩
noncomputable def c_is_settled:FD:=⟨1,1,(.seq (.ret (.or (.call 73 (.aC (.ix (.var 0) (.cst (.int 1))) (.aC (.ix (.var 0) (.cst (.int 3))) .aN)) []) (.cmp .Eq (.ix (.var 0) (.cst (.int 1))) (.ix (.var 0) (.cst (.int 3))))))
 .skip)⟩
noncomputable def c_settled:FD:=⟨1,2,(.seq (.set 1 (.call 4 (.aC (.ix (.ix (.var 0) (.cst (.int 1))) (.cst (.int 1))) (.aC (.ix (.var 0) (.cst (.int 2))) (.aC (.ix (.ix (.var 0) (.cst (.int 3))) (.cst (.int 1))) .aN))) []))
 (.seq (.ret (.ife (.var 1) (.tupE (.aC (.cst (.str (S "go"))) (.aC (.ix (.var 0) (.cst (.int 4))) .aN))) (.cst (.tup [(.str (S "skip"))]))))
 .skip))⟩
noncomputable def c_most_as_less:FD:=⟨1,3,(.seq (.set 1 (.ix (.var 0) (.cst (.int 1))))
 (.seq (.set 2 (.ix (.var 0) (.cst (.int 3))))
 (.seq (.ite (.cmp .NotEq (.ix (.var 0) (.cst (.int 2))) (.cst (.str (S "<=")))) (.seq (.ret (.var 0))
 .skip) .skip)
 (.seq (.ite (.and (.cmp .Eq (.ix (.var 2) (.cst (.int 0))) (.cst (.str (S "number")))) (.cmp .Lt (.ix (.var 2) (.cst (.int 1))) (.cst (.int 999999999)))) (.seq (.ret (.tupE (.aC (.cst (.str (S "if"))) (.aC (.var 1) (.aC (.cst (.str (S "<"))) (.aC (.tupE (.aC (.cst (.str (S "number"))) (.aC (.bin .Add (.ix (.var 2) (.cst (.int 1))) (.cst (.int 1))) .aN))) (.aC (.ix (.var 0) (.cst (.int 4))) .aN)))))))
 .skip) .skip)
 (.seq (.ite (.and (.cmp .Eq (.ix (.var 1) (.cst (.int 0))) (.cst (.str (S "number")))) (.cmp .Gt (.ix (.var 1) (.cst (.int 1))) (.cst (.int (-1000000000))))) (.seq (.ret (.tupE (.aC (.cst (.str (S "if"))) (.aC (.tupE (.aC (.cst (.str (S "number"))) (.aC (.bin .Sub (.ix (.var 1) (.cst (.int 1))) (.cst (.int 1))) .aN))) (.aC (.cst (.str (S "<"))) (.aC (.var 2) (.aC (.ix (.var 0) (.cst (.int 4))) .aN)))))))
 .skip) .skip)
 (.seq (.ret (.var 0))
 .skip))))))⟩
noncomputable def c_made_if:FD:=⟨2,2,(.seq (.ite (.cmp .Eq (.ix (.var 0) (.cst (.int 4))) (.bin .Add (.var 1) (.cst (.int 1)))) (.seq (.ret (.cst (.tup [(.str (S "skip"))])))
 .skip) .skip)
 (.seq (.set 0 (.call 78 (.aC (.var 0) .aN) []))
 (.seq (.ite (.call 79 (.aC (.var 0) .aN) []) (.seq (.ret (.call 80 (.aC (.var 0) .aN) []))
 .skip) .skip)
 (.seq (.ite (.cmp .In (.ix (.var 0) (.cst (.int 2))) (.tupE (.aC (.cst (.str (S "="))) (.aC (.cst (.str (S "!="))) .aN)))) (.seq (.set 0 (.call 74 (.aC (.var 0) (.aC (.cst (.int 1)) (.aC (.cst (.int 3)) .aN))) []))
 .skip) .skip)
 (.seq (.ret (.call 81 (.aC (.var 0) .aN) []))
 .skip)))))⟩
noncomputable def c_made_row:FD:=⟨2,2,(.seq (.ite (.cmp .Eq (.ix (.var 0) (.cst (.int 0))) (.cst (.str (S "put")))) (.seq (.ret (.call 77 (.aC (.var 0) .aN) []))
 .skip) .skip)
 (.seq (.ite (.cmp .Eq (.ix (.var 0) (.cst (.int 0))) (.cst (.str (S "if")))) (.seq (.ret (.call 82 (.aC (.var 0) (.aC (.var 1) .aN)) []))
 .skip) .skip)
 (.seq (.ite (.cmp .Eq (.var 0) (.tupE (.aC (.cst (.str (S "go"))) (.aC (.bin .Add (.var 1) (.cst (.int 1))) .aN)))) (.seq (.ret (.cst (.tup [(.str (S "skip"))])))
 .skip) .skip)
 (.seq (.ret (.var 0))
 .skip))))⟩
noncomputable def c__law_cell_at_k25:FD:=⟨2,2,(.seq (.ite (.cmp .Lt (.var 1) (.len (.var 0))) (.seq (.ret (.ix (.var 0) (.var 1)))
 .skip) .skip)
 (.seq (.ret (.cst (.int 0)))
 .skip))⟩
noncomputable def c__law_number_by_k25:FD:=⟨1,1,(.seq (.ite (.cmp .Eq (.bin .Mod (.var 0) (.cst (.int 3))) (.cst (.int 0))) (.seq (.ret (.ix (.lstE (.aC (.neg (.cst (.int 1000000000))) (.aC (.cst (.int 999999999)) (.aC (.neg (.cst (.int 1))) (.aC (.cst (.int 0)) (.aC (.cst (.int 1)) (.aC (.cst (.int 2)) (.aC (.neg (.cst (.int 999999999))) (.aC (.cst (.int 999999998)) .aN))))))))) (.bin .Mod (.bin .FloorDiv (.var 0) (.cst (.int 3))) (.cst (.int 8)))))
 .skip) .skip)
 (.seq (.ret (.bin .Sub (.bin .Mod (.bin .Mult (.bin .FloorDiv (.var 0) (.cst (.int 3))) (.cst (.int 48271))) (.cst (.int 2000000000))) (.cst (.int 1000000000))))
 .skip))⟩
noncomputable def c__law_operand_by:FD:=⟨2,2,(.seq (.ite (.and (.cmp .Gt (.var 1) (.cst (.int 0))) (.cmp .Lt (.bin .Mod (.var 0) (.cst (.int 5))) (.cst (.int 3)))) (.seq (.ret (.tupE (.aC (.cst (.str (S "name"))) (.aC (.bin .Mod (.bin .FloorDiv (.var 0) (.cst (.int 5))) (.var 1)) .aN))))
 .skip) .skip)
 (.seq (.ret (.tupE (.aC (.cst (.str (S "number"))) (.aC (.call 18 (.aC (.bin .FloorDiv (.var 0) (.cst (.int 5))) .aN) []) .aN))))
 .skip))⟩
noncomputable def c__law_operands_by:FD:=⟨2,5,(.seq (.set 2 (.call 71 (.aC (.ix (.var 0) (.cst (.int 1))) (.aC (.var 1) .aN)) []))
 (.seq (.set 3 (.call 71 (.aC (.ix (.var 0) (.cst (.int 2))) (.aC (.var 1) .aN)) []))
 (.seq (.set 4 (.bin .Mod (.bin .FloorDiv (.ix (.var 0) (.cst (.int 3))) (.cst (.int 65))) (.cst (.int 6))))
 (.seq (.ite (.cmp .Eq (.var 4) (.cst (.int 1))) (.seq (.ret (.tupE (.aC (.var 2) (.aC (.var 2) .aN))))
 .skip) .skip)
 (.seq (.ite (.and (.cmp .Eq (.var 4) (.cst (.int 3))) (.cmp .Gt (.var 1) (.cst (.int 0)))) (.seq (.ret (.tupE (.aC (.tupE (.aC (.cst (.str (S "name"))) (.aC (.bin .Mod (.bin .Mod (.ix (.var 0) (.cst (.int 3))) (.cst (.int 5))) (.var 1)) .aN))) (.aC (.tupE (.aC (.cst (.str (S "number"))) (.aC (.bin .Mod (.ix (.var 0) (.cst (.int 2))) (.cst (.int 2))) .aN))) .aN))))
 .skip) .skip)
 (.seq (.ite (.cmp .Eq (.var 4) (.cst (.int 4))) (.seq (.ret (.tupE (.aC (.var 2) (.aC (.tupE (.aC (.cst (.str (S "number"))) (.aC (.bin .Mod (.ix (.var 0) (.cst (.int 2))) (.cst (.int 2))) .aN))) .aN))))
 .skip) .skip)
 (.seq (.ite (.cmp .Eq (.var 4) (.cst (.int 5))) (.seq (.ret (.tupE (.aC (.tupE (.aC (.cst (.str (S "number"))) (.aC (.bin .Mod (.ix (.var 0) (.cst (.int 1))) (.cst (.int 2))) .aN))) (.aC (.var 3) .aN))))
 .skip) .skip)
 (.seq (.ret (.tupE (.aC (.var 2) (.aC (.var 3) .aN))))
 .skip))))))))⟩
noncomputable def c__law_row_by:FD:=⟨4,8,(.seq (.set2 4 5 (.call 84 (.aC (.var 0) (.aC (.var 1) .aN)) []))
 (.seq (.set 6 (.bin .Mod (.bin .FloorDiv (.ix (.var 0) (.cst (.int 3))) (.cst (.int 5))) (.bin .Add (.var 2) (.cst (.int 1)))))
 (.seq (.ite (.cmp .Eq (.bin .Mod (.bin .FloorDiv (.ix (.var 0) (.cst (.int 3))) (.cst (.int 65))) (.cst (.int 6))) (.cst (.int 2))) (.seq (.set 6 (.bin .Add (.var 3) (.cst (.int 1))))
 .skip) .skip)
 (.seq (.set 7 (.bin .FloorDiv (.ix (.var 0) (.cst (.int 0))) (.cst (.int 8))))
 (.seq (.ite (.and (.cmp .Lt (.bin .Mod (.ix (.var 0) (.cst (.int 0))) (.cst (.int 8))) (.cst (.int 3))) (.cmp .Gt (.var 1) (.cst (.int 0)))) (.seq (.ret (.tupE (.aC (.cst (.str (S "put"))) (.aC (.bin .Mod (.bin .Mod (.ix (.var 0) (.cst (.int 3))) (.cst (.int 5))) (.var 1)) (.aC (.var 4) (.aC (.ix (.lstE (.aC (.cst (.str (S "+"))) (.aC (.cst (.str (S "-"))) (.aC (.cst (.str (S "*"))) (.aC (.cst (.str (S "/"))) (.aC (.cst (.str (S "mod"))) .aN)))))) (.bin .Mod (.var 7) (.cst (.int 5)))) (.aC (.var 5) .aN)))))))
 .skip) .skip)
 (.seq (.ite (.cmp .Lt (.bin .Mod (.ix (.var 0) (.cst (.int 0))) (.cst (.int 8))) (.cst (.int 5))) (.seq (.ret (.tupE (.aC (.cst (.str (S "if"))) (.aC (.var 4) (.aC (.ix (.lstE (.aC (.cst (.str (S "<"))) (.aC (.cst (.str (S "<="))) (.aC (.cst (.str (S "="))) (.aC (.cst (.str (S ">="))) (.aC (.cst (.str (S ">"))) (.aC (.cst (.str (S "!="))) .aN))))))) (.bin .Mod (.var 7) (.cst (.int 6)))) (.aC (.var 5) (.aC (.var 6) .aN)))))))
 .skip) .skip)
 (.seq (.ite (.cmp .Eq (.bin .Mod (.ix (.var 0) (.cst (.int 0))) (.cst (.int 8))) (.cst (.int 5))) (.seq (.ret (.tupE (.aC (.cst (.str (S "go"))) (.aC (.var 6) .aN))))
 .skip) .skip)
 (.seq (.ite (.cmp .Eq (.bin .Mod (.ix (.var 0) (.cst (.int 0))) (.cst (.int 8))) (.cst (.int 6))) (.seq (.ret (.tupE (.aC (.cst (.str (S "tell"))) (.aC (.var 4) .aN))))
 .skip) .skip)
 (.seq (.ret (.tupE (.aC (.cst (.str (S "skip"))) .aN)))
 .skip)))))))))⟩
noncomputable def Yg:CE:=(.comp true [1,0] (.len (.var 1)) (.var 0) (.not (.call 36 (.aC (.ix (.var 2) (.var 0)) (.aC (.ix (.var 1) (.var 0)) .aN)) [])))
noncomputable def c__law_alike_k26:FD:=⟨2,2,(.seq (.ite (.isi .tuple (.var 1)) (.seq (.ite (.or (.not (.isi .tuple (.var 0))) (.cmp .NotEq (.len (.var 0)) (.len (.var 1)))) (.seq (.ret (.cst (.bl false)))
 .skip) .skip)
 (.seq (.ret (.cmp .Eq Yg (.lstE .aN)))
 .skip)) .skip)
 (.seq (.ite (.isi .str (.var 1)) (.seq (.ret (.and (.isi .str (.var 0)) (.cmp .Eq (.var 0) (.var 1))))
 .skip) .skip)
 (.seq (.ret (.and (.isi .int (.var 0)) (.and (.not (.isi .bool (.var 0))) (.cmp .Eq (.var 0) (.var 1)))))
 .skip)))⟩
noncomputable def Wj:CE:=(.comp2 [] (.ix (.var 0) (.cst (.int 2))) (.call 83 (.aC (.var 1) (.aC (.var 0) .aN)) []) (.cst (.bl true)))
noncomputable def c_made:FD:=⟨1,2,(.seq (.set 1 Wj)
 (.seq (.ret (.tupE (.aC (.ix (.var 0) (.cst (.int 0))) (.aC (.ix (.var 0) (.cst (.int 1))) (.aC (.tOf (.var 1)) .aN)))))
 .skip))⟩
noncomputable def c_operand_places:FD:=⟨1,1,(.seq (.ret (.look [(S "put"),(S "if"),(S "tell"),(S "go"),(S "skip")] [(.tup [(.int 2),(.int 4)]),(.tup [(.int 1),(.int 3)]),(.tup [(.int 1)]),(.tup []),(.tup [])] (.ix (.var 0) (.cst (.int 0)))))
 .skip)⟩
noncomputable def c_Step_word:FD:=⟨1,1,(.seq (.ret (.cst (.str (S "none"))))
 .skip)⟩
noncomputable def c_Step_turned:FD:=⟨3,3,(.seq (.ret (.tupE .aN))
 .skip)⟩
noncomputable def c_More_word:FD:=⟨1,1,(.seq (.ret (.cst (.str (S "more"))))
 .skip)⟩
noncomputable def WW:CS:=(.seq (.ite (.cmp .Eq (.ix (.ix (.var 1) (.var 4)) (.cst (.int 0))) (.cst (.str (S "number")))) (.seq (.app 3 (.call 42 (.aC (.var 1) (.aC (.var 4) (.aC (.tupE (.aC (.cst (.str (S "number"))) (.aC (.call 0 (.aC (.bin .Add (.ix (.ix (.var 1) (.var 4)) (.cst (.int 1))) (.cst (.int 1))) .aN) []) .aN))) .aN))) []))
 .skip) .skip)
 .skip)
noncomputable def c_More_turned:FD:=⟨3,5,(.seq (.set 3 (.lstE .aN))
 (.seq (.for1 4 false (.call 113 (.aC (.var 1) .aN) []) WW)
 (.seq (.ret (.tOf (.var 3)))
 .skip)))⟩
noncomputable def c_Out_word:FD:=⟨1,1,(.seq (.ret (.cst (.str (S "out"))))
 .skip)⟩
noncomputable def c_Out_turned:FD:=⟨3,3,(.seq (.ite (.cmp .Eq (.ix (.var 1) (.cst (.int 0))) (.cst (.str (S "skip")))) (.seq (.ret (.tupE .aN))
 .skip) .skip)
 (.seq (.ret (.tupE (.aC (.tupE (.aC (.cst (.str (S "skip"))) .aN)) .aN)))
 .skip))⟩
noncomputable def c_Turn_word:FD:=⟨1,1,(.seq (.ret (.cst (.str (S "turn"))))
 .skip)⟩
noncomputable def c_Turn_turned:FD:=⟨3,3,(.seq (.ite (.cmp .NotEq (.ix (.var 1) (.cst (.int 0))) (.cst (.str (S "if")))) (.seq (.ret (.tupE .aN))
 .skip) .skip)
 (.seq (.ret (.tupE (.aC (.call 42 (.aC (.var 1) (.aC (.cst (.int 2)) (.aC (.look [(S "<"),(S ">="),(S "<="),(S ">"),(S "="),(S "!=")] [(.str (S ">=")),(.str (S "<")),(.str (S ">")),(.str (S "<=")),(.str (S "!=")),(.str (S "="))] (.ix (.var 1) (.cst (.int 2)))) .aN))) []) .aN)))
 .skip))⟩
noncomputable def c_Swap_word:FD:=⟨1,1,(.seq (.ret (.cst (.str (S "swap"))))
 .skip)⟩
noncomputable def c_Swap_turned:FD:=⟨3,3,(.seq (.ite (.and (.cmp .Eq (.ix (.var 1) (.cst (.int 0))) (.cst (.str (S "put")))) (.cmp .NotEq (.ix (.var 1) (.cst (.int 2))) (.ix (.var 1) (.cst (.int 4))))) (.seq (.ret (.tupE (.aC (.tupE (.aC (.cst (.str (S "put"))) (.aC (.ix (.var 1) (.cst (.int 1))) (.aC (.ix (.var 1) (.cst (.int 4))) (.aC (.ix (.var 1) (.cst (.int 3))) (.aC (.ix (.var 1) (.cst (.int 2))) .aN)))))) .aN)))
 .skip) .skip)
 (.seq (.ite (.and (.cmp .Eq (.ix (.var 1) (.cst (.int 0))) (.cst (.str (S "if")))) (.cmp .NotEq (.ix (.var 1) (.cst (.int 1))) (.ix (.var 1) (.cst (.int 3))))) (.seq (.ret (.tupE (.aC (.tupE (.aC (.cst (.str (S "if"))) (.aC (.ix (.var 1) (.cst (.int 3))) (.aC (.ix (.var 1) (.cst (.int 2))) (.aC (.ix (.var 1) (.cst (.int 1))) (.aC (.ix (.var 1) (.cst (.int 4))) .aN)))))) .aN)))
 .skip) .skip)
 (.seq (.ret (.tupE .aN))
 .skip)))⟩
noncomputable def c_Far_word:FD:=⟨1,1,(.seq (.ret (.cst (.str (S "far"))))
 .skip)⟩
noncomputable def c_Far_turned:FD:=⟨3,3,(.seq (.ite (.or (.cmp .NotIn (.ix (.var 1) (.cst (.int 0))) (.tupE (.aC (.cst (.str (S "go"))) (.aC (.cst (.str (S "if"))) .aN)))) (.cmp .GtE (.ix (.var 1) (.neg (.cst (.int 1)))) (.var 2))) (.seq (.ret (.tupE .aN))
 .skip) .skip)
 (.seq (.ret (.tupE (.aC (.bin .Add (.slice (.var 1) .nop (.part (.neg (.cst (.int 1))))) (.tupE (.aC (.bin .Add (.ix (.var 1) (.neg (.cst (.int 1)))) (.cst (.int 1))) .aN))) .aN)))
 .skip))⟩
noncomputable def c_behind:FD:=⟨2,2,(.seq (.ret (.ix (.var 0) (.bin .Mod (.bin .Add (.tix (.var 0) (.aC (.var 1) .aN)) (.cst (.int 1))) (.len (.var 0)))))
 .skip)⟩
noncomputable def c_Sign_word:FD:=⟨1,1,(.seq (.ret (.cst (.str (S "sign"))))
 .skip)⟩
noncomputable def c_Sign_turned:FD:=⟨3,3,(.seq (.ite (.cmp .Eq (.ix (.var 1) (.cst (.int 0))) (.cst (.str (S "put")))) (.seq (.ret (.tupE (.aC (.call 42 (.aC (.var 1) (.aC (.cst (.int 3)) (.aC (.call 70 (.aC (.cst (.kt [(S "+"),(S "-"),(S "*"),(S "/"),(S "mod")])) (.aC (.ix (.var 1) (.cst (.int 3))) .aN)) []) .aN))) []) .aN)))
 .skip) .skip)
 (.seq (.ite (.cmp .Eq (.ix (.var 1) (.cst (.int 0))) (.cst (.str (S "if")))) (.seq (.ret (.tupE (.aC (.call 42 (.aC (.var 1) (.aC (.cst (.int 2)) (.aC (.call 70 (.aC (.cst (.kt [(S "<"),(S "<="),(S "="),(S ">="),(S ">"),(S "!=")])) (.aC (.ix (.var 1) (.cst (.int 2))) .aN)) []) .aN))) []) .aN)))
 .skip) .skip)
 (.seq (.ret (.tupE .aN))
 .skip)))⟩
noncomputable def Uc:CE:=(.comp false [4,6] (.meth [(146,148),(169,171),(149,151),(157,159),(152,154),(160,162),(163,165)] (.var 6) (.aC (.var 5) (.aC (.len (.var 1)) .aN))) (.tupE (.aC (.var 1) (.aC (.meth [(146,147),(169,170),(149,150),(157,158),(152,153),(160,161),(163,164)] (.var 2) .aN) (.aC (.var 0) .aN)))) (.cst (.bl true)))
noncomputable def XJ:CS:=(.seq (.ext 3 Uc)
 .skip)
noncomputable def YX:CS:=(.seq (.for1 6 false (.var 2) XJ)
 .skip)
noncomputable def c_fakes:FD:=⟨1,7,(.seq (.set 1 (.ix (.var 0) (.cst (.int 2))))
 (.seq (.set 2 (.lstE (.aC (.new 169) (.aC (.new 149) (.aC (.new 157) (.aC (.new 152) (.aC (.new 160) (.aC (.new 163) .aN))))))))
 (.seq (.set 3 (.lstE .aN))
 (.seq (.forE 4 5 (.var 1) YX)
 (.seq (.ret (.tOf (.var 3)))
 .skip)))))⟩
noncomputable def c_fake_of:FD:=⟨3,3,(.seq (.ret (.tupE (.aC (.ix (.var 0) (.cst (.int 0))) (.aC (.ix (.var 0) (.cst (.int 1))) (.aC (.call 42 (.aC (.ix (.var 0) (.cst (.int 2))) (.aC (.var 1) (.aC (.var 2) .aN))) []) .aN)))))
 .skip)⟩
noncomputable def Y1:CE:=(.comp false [] (.rng2 (.var 3) .aN) (.tOf (.var 0)) (.cst (.bl true)))
noncomputable def ZN:CS:=(.seq (.set 6 (.call 106 (.aC (.call 180 (.aC (.var 0) (.aC (.ix (.var 5) (.cst (.int 0))) (.aC (.ix (.var 5) (.cst (.int 2))) .aN))) []) .aN) []))
 (.seq (.ite (.cmp .Eq (.var 6) (.var 1)) (.seq (.app 2 (.var 4))
 .skip) (.seq (.dput 3 (.var 6) (.var 4) .aN)
 .skip))
 .skip))
noncomputable def c_twins:FD:=⟨1,7,(.seq (.set 1 (.call 106 (.aC (.var 0) .aN) []))
 (.seq (.set 2 (.lstE .aN))
 (.seq (.set 3 .dnew)
 (.seq (.forE 4 5 (.call 172 (.aC (.var 0) .aN) []) ZN)
 (.seq (.ret (.tupE (.aC (.tOf (.var 2)) (.aC (.tOf Y1) .aN))))
 .skip)))))⟩
noncomputable def Z4:CE:=(.comp true [6,0] (.cst (.int 4)) (.call 27 (.aC (.var 2) (.aC (.bin .Add (.bin .Add (.cst (.int 4)) (.bin .Mult (.cst (.int 4)) (.var 1))) (.var 0)) .aN)) []) (.cst (.bl true)))
noncomputable def ZA:CS:=(.seq (.set 7 Z4)
 (.seq (.app 5 (.call 72 (.aC (.var 7) (.aC (.var 1) (.aC (.var 4) (.aC (.var 6) .aN)))) []))
 .skip))
noncomputable def c__law_program_k29:FD:=⟨1,8,(.seq (.set 1 (.bin .Mod (.call 27 (.aC (.var 0) (.aC (.cst (.int 0)) .aN)) []) (.cst (.int 6))))
 (.seq (.set 2 (.lstE .aN))
 (.seq (.ite (.cmp .Gt (.var 1) (.cst (.int 0))) (.seq (.set 3 (.rs true (.lstE (.aC (.call 18 (.aC (.call 27 (.aC (.var 0) (.aC (.cst (.int 1)) .aN)) []) .aN) []) (.aC (.call 18 (.aC (.call 27 (.aC (.var 0) (.aC (.cst (.int 2)) .aN)) []) .aN) []) .aN)))))
 (.seq (.app 2 (.tupE (.aC (.ix (.var 3) (.cst (.int 0))) (.aC (.ix (.var 3) (.cst (.int 1))) .aN))))
 .skip)) .skip)
 (.seq (.set 4 (.min (.ix (.lstE (.aC (.cst (.int 7)) (.aC (.cst (.int 12)) .aN))) (.intOf (.cmp .Eq (.bin .Mod (.call 27 (.aC (.var 0) (.aC (.cst (.int 3)) .aN)) []) (.cst (.int 8))) (.cst (.int 5))))) (.bin .FloorDiv (.bin .Sub (.max (.len (.var 0)) (.cst (.int 4))) (.cst (.int 1))) (.cst (.int 4)))))
 (.seq (.set 5 (.lstE .aN))
 (.seq (.for1 6 true (.var 4) ZA)
 (.seq (.ret (.tupE (.aC (.tOf (.var 2)) (.aC (.var 1) (.aC (.tOf (.var 5)) .aN)))))
 .skip)))))))⟩
noncomputable def YO:CE:=(.comp false [] (.var 5) (.tOf (.var 0)) (.cst (.bl true)))
noncomputable def c_law_k29:FD:=⟨1,11,(.seq (.set 1 (.call 30 (.aC (.var 0) .aN) []))
 (.seq (.set 2 (.call 106 (.aC (.var 1) .aN) []))
 (.seq (.set 3 (.lstE .aN))
 (.seq (.set 4 (.lstE .aN))
 (.seq (.set 5 (.lstE .aN))
 (.seq (.set 6 (.cst (.int 0)))
 (.seq (.for4 7 8 9 (.call 172 (.aC (.var 1) .aN) []) (.seq (.set 10 (.call 106 (.aC (.call 180 (.aC (.var 1) (.aC (.var 7) (.aC (.var 9) .aN))) []) .aN) []))
 (.seq (.ite (.cmp .Eq (.var 10) (.var 2)) (.seq (.app 3 (.var 6))
 .skip) (.seq (.ite (.cmp .In (.var 10) (.var 4)) (.seq (.app2 (.ix (.var 5) (.tix (.var 4) (.aC (.var 10) .aN))) (.var 6))
 .skip) (.seq (.app 4 (.var 10))
 (.seq (.app 5 (.lstE (.aC (.var 6) .aN)))
 .skip)))
 .skip))
 (.seq (.set 6 (.bin .Add (.var 6) (.cst (.int 1))))
 .skip))))
 (.seq (.ret (.call 36 (.aC (.call 231 (.aC (.var 1) .aN) []) (.aC (.tupE (.aC (.tOf (.var 3)) (.aC (.tOf YO) .aN))) .aN)) []))
 .skip))))))))⟩
end Dp

noncomputable section
namespace Dp
open PySem
def ZR(x:Int):Int:=(x+1000000000) % 2000000000 - 1000000000
theorem ZaU{x:Int}:-1000000000<=ZR x:=by unfold ZR;omega
theorem ZaT{x:Int}:ZR x<=999999999:=by unfold ZR;omega
def quo(a b:Int):Int:=a.fdiv b
theorem ZaF{a b:Int}(h:0 < b):a / b=quo a b:=(Int.fdiv_eq_ediv_of_nonneg a (Int.le_of_lt h)).symm
def U7(a:Int)(s:Str)(b:Int):Int:=
 if s=S "+" then ZR (a+b) else if s=S "-" then ZR (a - b) else if s=S "*" then ZR (a * b) else
 if s=S "/" then (if b=0 then 0 else ZR (quo a b)) else if b=0 then a else a - b * quo a b
def Vz(a:Int)(s:Str)(b:Int):Bool:=
 if s=S "<" then decide (a < b) else if s=S "<=" then decide (a<=b) else if s=S "=" then decide (a=b) else if s=S ">=" then decide (b<=a) else if s=S ">" then decide (b < a) else !decide (a=b)
def Sm(a:Int):Prop:=-1000000000<=a/\a<=999999999
instance {a:Int}:Decidable (Sm a):=inferInstanceAs (Decidable (_/\_))
theorem Sm.around{x:Int}:Sm (ZR x):=⟨ZaU,ZaT⟩
theorem Sm.lim{a:Int}(h:Sm a):YD a=true:=ZeR (by have:=h.1;omega) (by have:=h.2;omega)
structure NumT(T:Nat->Option FD):Prop where
 t0:T 0=some c_around
 t1:T 1=some c_divided
 t2:T 2=some c_left_over
 t3:T 3=some c_reckon
section
variable {T:Nat->Ot FD}{n:Nat}{a b x:Int}{s:Str}
theorem Wd(h:T 0=some c_around):Zk T (n+1) 0 [.int x]=some (.int (ZR x)):=by
 rw[Zp (f:=c_around) h rfl rfl]
 (rw[show Z5 c_around.body=[] from rfl];simp[c_around,ZR])
theorem ZaO(t:NumT T)(hb:Sm b):Zk T (n+2) 1 [.int a,.int b]=some (.int (if b=0 then 0 else ZR (quo a b))):=by
 rw[Zp (f:=c_divided) t.t1 rfl rfl];have h1:=hb.1;have h2:=hb.2;rcases Int.lt_trichotomy b 0 with h|h|h
 ·have:¬0 < b:=by omega
  (rw[show Z5 c_divided.body=[] from rfl];simp[c_divided,Wd t.t0,this,h,show ¬b=0 by omega,show -1073741824 < b by omega,quo])
 ·(rw[show Z5 c_divided.body=[] from rfl];simp[c_divided,h])
 ·(rw[show Z5 c_divided.body=[] from rfl];simp[c_divided,Wd t.t0,h,show ¬b=0 by omega,show b < 1073741824 by omega,ZaF h])
theorem Zgl(t:NumT T)(hb:Sm b):Zk T (n+1) 2 [.int a,.int b]=some (.int (if b=0 then a else a - b * quo a b)):=by
 rw[Zp (f:=c_left_over) t.t2 rfl rfl];have h1:=hb.1;have h2:=hb.2;rcases Int.lt_trichotomy b 0 with h|h|h
 ·have:¬0 < b:=by omega
  (rw[show Z5 c_left_over.body=[] from rfl];simp[c_left_over,this,h,show ¬b=0 by omega,show -1073741824 < b by omega,hb.lim,quo])
 ·(rw[show Z5 c_left_over.body=[] from rfl];simp[c_left_over,h])
 ·(rw[show Z5 c_left_over.body=[] from rfl];simp[c_left_over,h,show ¬b=0 by omega,show b < 1073741824 by omega,hb.lim,ZaF h])
theorem ZbO(t:NumT T)(ha:Sm a)(hb:Sm b):Zk T (n+3) 3 [.int a,.str s,.int b]=some (.int (U7 a s b)):=by
 rw[Zp (f:=c_reckon) t.t3 rfl rfl];unfold U7
 (rw[show Z5 c_reckon.body=[] from rfl];simp[c_reckon,Wd t.t0,ZaO t hb,Zgl t hb,ha.lim])
 split;· rfl
 split;· rfl
 split;· rfl
 split<;>rfl
theorem ZdW(h:T 4=some c_is_so):Zk T (n+1) 4 [.int a,.str s,.int b]=some (.bl (Vz a s b)):=by
 rw[Zp (f:=c_is_so) h rfl rfl];unfold Vz
 (rw[show Z5 c_is_so.body=[] from rfl];simp[c_is_so])
 split;· rfl
 split;· rfl
 split;· rfl
 split;· rfl
 split<;>rfl
end
end Dp


namespace Dp
open PySem
theorem r8(c:Int):c % 8=0\/c % 8=1\/c % 8=2\/c % 8=3\/c % 8=4\/c % 8=5\/c % 8=6\/c % 8=7:=by omega
section
variable {T:Nat->Ot FD}{n:Nat}{a b c x:Int}{s:Str}
end
end Dp


namespace Dp
open PySem
inductive Opd where
 |name (i:Nat)|num (c:Int)
inductive Row where
 |put (x:Nat) (y:Opd) (s:Str) (z:Opd)|ifr (y:Opd) (s:Str) (z:Opd) (t:Nat)|go (t:Nat)|tell (y:Opd)|skip
def Zi:Opd->P
 |.name i=>.tup [.str (S "name"),.int (i:Int)]
 |.num c=>.tup [.str (S "number"),.int c]
def Ze:Row->P
 |.put x y s z=>.tup [.str (S "put"),.int (x:Int),Zi y,.str s,Zi z]
 |.ifr y s z t=>.tup [.str (S "if"),Zi y,.str s,Zi z,.int (t:Int)]
 |.go t=>.tup [.str (S "go"),.int (t:Int)]
 |.tell y=>.tup [.str (S "tell"),Zi y]
 |.skip=>.tup [.str (S "skip")]
structure Prog where
 takes:P
 many:Nat
 rows:List Row
def Z1(p:Prog):P:=.tup [p.takes,.int (p.many:Int),.tup (p.rows.map Ze)]
abbrev StM:=Nat×Li Int
inductive Out where
 |none|told (v:Int)|late
def YA(m:Nat):Opd->Prop
 |.name i=>i < m
 |.num c=>Sm c
def J5(m n:Nat):Row->Prop
 |.put x y _ z=>x < m/\YA m y/\YA m z
 |.ifr y _ z t=>YA m y/\YA m z/\t<=n
 |.go t=>t<=n
 |.tell y=>YA m y
 |.skip=>True
structure ProgOk(p:Prog):Prop where
 rows:∀ r∈p.rows,J5 p.many p.rows.length r
 many:p.many<=100
 size:p.rows.length<=100
structure VsOk(m:Nat)(vs:List Int):Prop where
 len:vs.length=m
 sm:∀ v∈vs,Sm v
inductive Thing where
 |st (s:StM)|out (o:Out)
structure StOkM(p:Prog)(s:StM):Prop where
 k:s.1<=p.rows.length
 vs:VsOk p.many s.2
structure MoveT(T:Nat->Option FD):Prop where
 num:NumT T
 t4:T 4=some c_is_so
 t5:T 5=some Zea
 t7:T 7=some ZbX
 t8:T 8=some WX
 t9:T 9=some Vk
 t10:T 10=some Zd8
 t42:T 42=some c_replaced
structure MachT(T:Nat->Option FD):Prop extends MoveT T where
 t6:T 6=some Zd7
section
variable {T:Nat->Ot FD}{n:Nat}{p:Prog}{s:StM}{vs:Li Int}{o:Opd}{r:Row}{k m:Nat}{ins:Li Int}
theorem ZgI{xs:Li P}{x:Nat}(h:x<=xs.length):Vq xs Option.none (some (x:Int))=xs.take x:=by
 unfold Vq;have e:sIx xs.length xs.length (some (x:Int))=x:=by
  show(if (x:Int) < 0 then ((x:Int)+(xs.length:Int)).toNat else Nat.min ((x:Int)).toNat xs.length)=_
  rw[if_neg (by omega)]
  exact Nat.min_eq_left h
 rw[e];rfl
theorem ZgH{xs:Li P}{x:Nat}(h:x<=xs.length):Vq xs (some (x:Int)) Option.none=xs.drop x:=by
 unfold Vq;have e:sIx xs.length 0 (some (x:Int))=x:=by
  show(if (x:Int) < 0 then ((x:Int)+(xs.length:Int)).toNat else Nat.min ((x:Int)).toNat xs.length)=_
  rw[if_neg (by omega)]
  exact Nat.min_eq_left h
 rw[e];show((xs.drop x).take (xs.length - x))=_;rw[List.take_of_length_le (by simp)]
theorem ZdG{xs:Li P}{x:Nat}(h:x < xs.length):Ym (.tup xs) Option.none (some (x:Int))=some (.tup (xs.take x)):=by
 show(if sIx xs.length 0 Option.none=0/\sIx xs.length xs.length (some (x:Int))=xs.length then some (P.tup xs) else some (P.tup (Vq xs Option.none (some (x:Int)))))=_
 have e:sIx xs.length xs.length (some (x:Int))=x:=by
  show(if (x:Int) < 0 then ((x:Int)+(xs.length:Int)).toNat else Nat.min ((x:Int)).toNat xs.length)=_
  rw[if_neg (by omega)]
  exact Nat.min_eq_left (by omega)
 rw[if_neg (by rw[e];omega),ZgI (by omega)]
theorem ZdF{xs:Li P}{x:Nat}(h:x < xs.length):Ym (.tup xs) (some ((x:Int)+1)) Option.none=some (.tup (xs.drop (x+1))):=by
 rw[show(x:Int)+1=((x+1:Nat):Int) by omega]
 show(if sIx xs.length 0 (some ((x+1:Nat):Int))=0/\sIx xs.length xs.length Option.none=xs.length then some (P.tup xs) else some (P.tup (Vq xs (some ((x+1:Nat):Int)) Option.none)))=_
 have e:sIx xs.length 0 (some ((x+1:Nat):Int))=x+1:=by
  show(if ((x+1:Nat):Int) < 0 then (((x+1:Nat):Int)+(xs.length:Int)).toNat else Nat.min (((x+1:Nat):Int)).toNat xs.length)=_
  rw[if_neg (by omega)]
  exact Nat.min_eq_left (by omega)
 rw[if_neg (by rw[e];omega),ZgH (by omega)]
theorem YI{xs:Li P}{x:Nat}{q:P}(t:T 42=some c_replaced)(hx:x < xs.length)(hl:xs.length<=1000):Zk T (n+1) 42 [.tup xs,.int (x:Int),q]=some (.tup (xs.set x q)):=by
 rw[Zp (f:=c_replaced) t rfl rfl];have s1:=ZdG (xs:=xs) (x:=x) hx;have s2:=ZdF (xs:=xs) (x:=x) hx
 (rw[show Z5 c_replaced.body=[] from rfl];simp[c_replaced,s1,s2,Zs,show min x xs.length+1+(xs.length - (x+1))<=1000000 by omega,show min x xs.length+1<=1000000 by omega])
 rw[List.set_eq_take_append_cons_drop,if_pos hx]
theorem ZJ{F:PFn}{M:Li Nat}{c e:CE}{r:CS}{π:Zq}{v:P}(h:pe F c π=some (.bl true))(he:pe F e π=some v):px F M (.seq (.ite c (.seq (.ret e) .skip) .skip) r) π=some (.rt v):=by
 rw[ZH,U5,h,Vb,if_pos rfl,ZH,Zdo,he];rfl
theorem Zx{F:PFn}{M:Li Nat}{c:CE}{a r:CS}{π:Zq}(h:pe F c π=some (.bl false)):px F M (.seq (.ite c a .skip) r) π=px F M r π:=by
 rw[ZH,U5,h,Vb,if_neg Bf,XU,Zz]
theorem YB{F:PFn}{k:Nat}{e:CE}{r:CS}{π:Zq}{v:P}(h:pe F e π=some v):px F [] (.seq (.set k e) r) π=px F [] r (Zt π k v):=by
 rw[ZH,Zfh,h,Ob,Zz]
theorem ZB{F:PFn}{M:Li Nat}{e:CE}{r:CS}{π:Zq}{v:P}(h:pe F e π=some v):px F M (.seq (.ret e) r) π=some (.rt v):=by
 rw[ZH,Zdo,h];rfl
structure TrailT(T:Nat->Option FD):Prop extends MachT T where
 t11:T 11=some UI
 t12:T 12=some Zd9
structure SeenT(T:Nat->Option FD):Prop extends TrailT T where
 t13:T 13=some ZaY
 t14:T 14=some V1
 t15:T 15=some ZgE
 t43:T 43=some ZbY
 t44:T 44=some ZaZ
end
end Dp


namespace Dp
open PySem
end Dp


namespace Dp
open PySem
def Z9:Opd->Bool
 |.num _=>true
 |.name _=>false
def Yq:Opd->Int
 |.num c=>c
 |.name i=>(i:Int)
def eqO:Opd->Opd->Bool
 |.name i,.name j=>decide (i=j)
 |.num c,.num d=>decide (c=d)
 |_,_=>false
def ltO:Opd->Opd->Bool
 |.name i,.name j=>decide (i < j)
 |.num c,.num d=>decide (c < d)
 |.name _,.num _=>true
 |.num _,.name _=>false
theorem ZbS{a b:Opd}:ZF (Zi a) (Zi b)=eqO a b:=by
 cases a<;>cases b<;>simp[Zi,eqO,ZF,YZ]
 omega
theorem Zi8{a:Opd}{n:Nat}:okP (n+1) (Zi a)=true:=by
 cases a<;>cases n<;>rfl
@[simp] theorem Wi{a b:Opd}:ZU .Eq (Zi a) (Zi b)=some (.bl (eqO a b)):=by
 have q:=ZbS (a:=a) (b:=b);rw[<-q];cases a<;>cases b<;>exact W4 rfl rfl
theorem JE{x y:P}{xs ys:Li P}(h:ZF x y=true):XX (x :: xs) (y :: ys)=XX xs ys:=by
 conv=>lhs;unfold XX
 rw[if_pos h]
theorem Zf5{i j:Int}:XX [.int i] [.int j]=some (decide (i < j)):=by
 by_cases h:i=j
 ·subst h
  rw[JE (by simp[ZF])]
  show some (decide (0 < 0))=_;simp
 ·show(if ZF (.int i) (.int j)=true then XX [] [] else some (decide (i < j)))=_
  rw[if_neg (by simpa[ZF] using h)]
theorem Zf6{a b:Str}{xs ys:Li P}(h:a≠b):XX (.str a :: xs) (.str b :: ys)=some (decide (a.cps.toList < b.cps.toList)):=by
 show(if ZF (.str a) (.str b)=true then XX xs ys else some (decide (a.cps.toList < b.cps.toList)))=_
 rw[if_neg (by simpa[ZF] using h)]
@[simp] theorem Zaa{a b:Opd}:ZU .Lt (Zi a) (Zi b)=some (.bl (ltO a b)):=by
 have l1:decide ((S "name").cps.toList < (S "number").cps.toList)=true:=by decide
 have l2:decide ((S "number").cps.toList < (S "name").cps.toList)=false:=by decide
 show(Zg0 (Zi a) (Zi b)).map P.bl=_;cases a with
 |name i=>
  cases b with
  |name j=>
   show(XX (.str (S "name") :: [.int (i:Int)]) (.str (S "name") :: [.int (j:Int)])).map P.bl=_;rw[JE (by simp[ZF]),Zf5]
   simp[ltO]
  |num c=>
   show(XX (.str (S "name") :: [.int (i:Int)]) (.str (S "number") :: [.int c])).map P.bl=_;rw[Zf6 (by simp),l1];rfl
 |num c=>
  cases b with
  |num d=>
   show(XX (.str (S "number") :: [.int c]) (.str (S "number") :: [.int d])).map P.bl=_;rw[JE (by simp[ZF]),Zf5]
   simp[ltO]
  |name i=>
   show(XX (.str (S "number") :: [.int c]) (.str (S "name") :: [.int (i:Int)])).map P.bl=_;rw[Zf6 (by simp),l2];rfl
@[simp] theorem Zf4{a:Opd}:ixP (Zi a) (.int 1)=some (.int (Yq a)):=by cases a<;>rfl
theorem Zgs{i:Nat}:P.tup [.str (S "name"),.int (i:Int)]=Zi (.name i):=rfl
structure MadeT(T:Nat->Option FD):Prop where
 num:NumT T
 t4:T 4=some c_is_so
 t42:T 42=some c_replaced
 t73:T 73=some c_are_numbers
 t74:T 74=some c_lesser_first
 t75:T 75=some c_less_as_more
 t76:T 76=some c_without_reckoning
 t77:T 77=some c_made_put
 t78:T 78=some c_greater_as_less
 t79:T 79=some c_is_settled
 t80:T 80=some c_settled
 t81:T 81=some c_most_as_less
 t82:T 82=some c_made_if
 t83:T 83=some c_made_row
section
variable {T:Nat->Ot FD}{n:Nat}{y z:Opd}{s:Str}{x t k:Nat}
theorem We{F:PFn}{c e:CE}{k:Nat}{r:CS}{π:Zq}{v:P}(h:pe F c π=some (.bl true))(he:pe F e π=some v):px F [] (.seq (.ite c (.seq (.set k e) .skip) .skip) r) π=px F [] r (Zt π k v):=by
 rw[ZH,U5,h,Vb,if_pos rfl,YB he,XU,Zz]
theorem Zf{F:PFn}{i:Nat}{a:CE}{π:Zq}{xs:Li P}{v:P}(h1:pe F a π=some (.tup xs))(h2:F i xs=some v):pe F (.call i a []) π=some v:=by
 rw[pe_call,h1];show F i (xs++[])=_;rw[List.append_nil,h2]
theorem Zl{F:PFn}{a b:CE}{π:Zq}{x y v:P}(h1:pe F a π=some x)(h2:pe F b π=some y)(h3:Vp x y=some v):pe F (.aC a b) π=some v:=by
 rw[Zc7,h1,h2];exact h3
theorem Z7{F:PFn}{a b:CE}{π:Zq}{op:CmpOp}(x y:P){v:P}(h:ZU op x y=some v)(h1:pe F a π=some x)(h2:pe F b π=some y):pe F (.cmp op a b) π=some v:=by
 rw[Zhg,h1,h2];exact h
theorem Xd{F:PFn}{a b:CE}{π:Zq}{x y:Bool}(h1:pe F a π=some (.bl x))(h2:pe F b π=some (.bl y)):pe F (.and a b) π=some (.bl (x&&y)):=by
 rw[pe_and,h1,h2];cases x<;>rfl
theorem JI{F:PFn}{a b:CE}{π:Zq}{x y:Bool}(h1:pe F a π=some (.bl x))(h2:pe F b π=some (.bl y)):pe F (.or a b) π=some (.bl (x||y)):=by
 rw[pe_or,h1,h2];cases x<;>rfl
theorem ZfQ(h:T 73=some c_are_numbers):Zk T (n+1) 73 [Zi y,Zi z]=some (.bl (Z9 y&&Z9 z)):=by
 rw[Zp (f:=c_are_numbers) h rfl rfl];cases y<;>cases z<;>rfl
theorem Zih(m:MadeT T):Zk T (n+2) 74 [Ze (.put x y s z),.int 2,.int 4]=some (Ze (if ltO z y=true then .put x z s y else .put x y s z)):=by
 rw[Zp (f:=c_lesser_first) m.t74 rfl rfl];have r1:Zk T (n+1) 42 [.tup [.str (S "put"),.int (x:Int),Zi y,.str s,Zi z],.int 2,Zi z]=some (.tup [.str (S "put"),.int (x:Int),Zi z,.str s,Zi z]):=YI (n:=n) (x:=2) m.t42 (by simp) (by simp)
 have r2:Zk T (n+1) 42 [.tup [.str (S "put"),.int (x:Int),Zi z,.str s,Zi z],.int 4,Zi y]=some (.tup [.str (S "put"),.int (x:Int),Zi z,.str s,Zi y]):=YI (n:=n) (x:=4) m.t42 (by simp) (by simp)
 have c:∀ F:PFn,pe F (.cmp .Lt (.ix (.var 0) (.var 2)) (.ix (.var 0) (.var 1))) [some (Ze (.put x y s z)),some (.int 2),some (.int 4)]=some (.bl (ltO z y)):=fun F=>Z7 (Zi z) (Zi y) Zaa rfl rfl
 have c:=c (Zk T (n+1));cases h:ltO z y<;>rw[h]at c
 ·exact congrArg ZG ((Zx c).trans (ZB rfl))
 ·exact congrArg ZG (ZJ c (Zf (Zl (Zf rfl r1) rfl rfl) r2))
theorem Zig(m:MadeT T):Zk T (n+2) 74 [Ze (.ifr y s z t),.int 1,.int 3]=some (Ze (if ltO z y=true then .ifr z s y t else .ifr y s z t)):=by
 rw[Zp (f:=c_lesser_first) m.t74 rfl rfl];have r1:Zk T (n+1) 42 [.tup [.str (S "if"),Zi y,.str s,Zi z,.int (t:Int)],.int 1,Zi z]=some (.tup [.str (S "if"),Zi z,.str s,Zi z,.int (t:Int)]):=YI (n:=n) (x:=1) m.t42 (by simp) (by simp)
 have r2:Zk T (n+1) 42 [.tup [.str (S "if"),Zi z,.str s,Zi z,.int (t:Int)],.int 3,Zi y]=some (.tup [.str (S "if"),Zi z,.str s,Zi y,.int (t:Int)]):=YI (n:=n) (x:=3) m.t42 (by simp) (by simp)
 have c:∀ F:PFn,pe F (.cmp .Lt (.ix (.var 0) (.var 2)) (.ix (.var 0) (.var 1))) [some (Ze (.ifr y s z t)),some (.int 1),some (.int 3)]=some (.bl (ltO z y)):=fun F=>Z7 (Zi z) (Zi y) Zaa rfl rfl
 have c:=c (Zk T (n+1));cases h:ltO z y<;>rw[h]at c
 ·exact congrArg ZG ((Zx c).trans (ZB rfl))
 ·exact congrArg ZG (ZJ c (Zf (Zl (Zf rfl r1) rfl rfl) r2))
def PSg(s:Str):Prop:=s=S "+"\/s=S "-"\/s=S "*"\/s=S "/"\/s=S "mod"
def ISg(s:Str):Prop:=s=S "<"\/s=S "<="\/s=S "="\/s=S ">="\/s=S ">"\/s=S "!="
def lmS(s:Str)(z:Opd):Str:=if s=S "-"/\Z9 z=true then S "+" else s
def lmZ(s:Str)(z:Opd):Opd:=if s=S "-"/\Z9 z=true then .num (ZR (-Yq z)) else z
theorem Zj0(m:MadeT T)(hs:PSg s):Zk T (n+2) 75 [Ze (.put x y s z)]=some (Ze (.put x y (lmS s z) (lmZ s z))):=by
 rw[Zp (f:=c_less_as_more) m.t75 rfl rfl];cases z with
 |name i=>rcases hs with rfl|rfl|rfl|rfl|rfl<;>rfl
 |num c=>
  rcases hs with rfl|rfl|rfl|rfl|rfl
  ·rfl
  ·have a:pe (Zk T (n+1)) (.aC (.cst (.str (S "+"))) (.aC (.tupE (.aC (.cst (.str (S "number"))) (.aC (.call 0 (.aC (.neg (.ix (.ix (.var 0) (.cst (.int 4))) (.cst (.int 1)))) .aN) []) .aN))) .aN)) [some (Ze (.put x y (S "-") (.num c)))]=some (.tup [.str (S "+"),Zi (.num (ZR (-c)))]):=
    Zl rfl (Zl (Zl rfl (Zl (Zf (xs:=[.int (-c)]) rfl (Wd m.num.t0)) rfl rfl) rfl) rfl rfl) rfl
   refine congrArg ZG (ZJ rfl ?_);rw[U3,Ze9];show(some (P.tup [.str (S "put"),.int (x:Int),Zi y])).bind (fun q=>(pe (Zk T (n+1)) _ [some (Ze (.put x y (S "-") (.num c)))]).bind fun r=>Wh .Add q r)=_
   rw[a];rfl
  ·rfl
  ·rfl
  ·rfl
def wrR(x:Nat)(y:Opd)(s:Str)(z:Opd):Row:=
 if (s=S "*"/\eqO z (.num 0)=true)\/(s=S "mod"/\eqO z (.num 1)=true)\/(s=S "-"/\eqO y z=true) then .put x (.num 0) (S "+") (.num 0)
 else if (s=S "*"\/s=S "/")/\eqO z (.num 1)=true then .put x y (S "+") (.num 0) else .put x y s z
@[simp] theorem ZjS:ofD (.tup [.str (S "skip")])=some (Ze .skip):=Eq.trans rfl rfl
theorem UJ:Ze (.put x y s z)=.tup [.str (S "put"),.int (x:Int),Zi y,.str s,Zi z]:=rfl
theorem Zb6:Ze (.ifr y s z t)=.tup [.str (S "if"),Zi y,.str s,Zi z,.int (t:Int)]:=rfl
theorem Zj4(m:MadeT T)(hs:PSg s):Zk T (n+1) 76 [Ze (.put x y s z)]=some (Ze (wrR x y s z)):=by
 rw[Zp (f:=c_without_reckoning) m.t76 rfl rfl,UJ];have p1:∀ F:PFn,pe F (.or (.and (.cmp .Eq (.var 2) (.cst (.str (S "*")))) (.cmp .Eq (.var 3) (.cst (.tup [(.str (S "number")),(.int 0)])))) (.or (.and (.cmp .Eq (.var 2) (.cst (.str (S "mod")))) (.cmp .Eq (.var 3) (.cst (.tup [(.str (S "number")),(.int 1)])))) (.and (.cmp .Eq (.var 2) (.cst (.str (S "-")))) (.cmp .Eq (.var 1) (.var 3))))) [some (.tup [.str (S "put"),.int (x:Int),Zi y,.str s,Zi z]),some (Zi y),some (.str s),some (Zi z)] =
   some (.bl ((decide (s=S "*")&&eqO z (.num 0))||((decide (s=S "mod")&&eqO z (.num 1))||(decide (s=S "-")&&eqO y z)))):=fun F=>
  JI (Xd rfl (Z7 (Zi z) (Zi (.num 0)) Wi rfl rfl)) (JI (Xd rfl (Z7 (Zi z) (Zi (.num 1)) Wi rfl rfl)) (Xd rfl (Z7 (Zi y) (Zi z) Wi rfl rfl)))
 have p2:∀ F:PFn,pe F (.and (.cmp .In (.var 2) (.tupE (.aC (.cst (.str (S "*"))) (.aC (.cst (.str (S "/"))) .aN)))) (.cmp .Eq (.var 3) (.cst (.tup [(.str (S "number")),(.int 1)])))) [some (.tup [.str (S "put"),.int (x:Int),Zi y,.str s,Zi z]),some (Zi y),some (.str s),some (Zi z)] =
   some (.bl ((decide (S "*"=s)||(decide (S "/"=s)||false))&&eqO z (.num 1))):=fun F=>Xd rfl (Z7 (Zi z) (Zi (.num 1)) Wi rfl rfl)
 have b:∀ F:PFn,px F [] c_without_reckoning.body [some (.tup [.str (S "put"),.int (x:Int),Zi y,.str s,Zi z]),none,none,none]=some (.rt (Ze (wrR x y s z))):=fun F=>by
  unfold c_without_reckoning wrR;rw[YB (v:=Zi y) rfl];simp only[Zm,Zo];rw[YB (v:=.str s) rfl];simp only[Zm,Zo];rw[YB (v:=Zi z) rfl];simp only[Zm,Zo];by_cases h:(s=S "*"/\eqO z (.num 0)=true)\/(s=S "mod"/\eqO z (.num 1)=true)\/(s=S "-"/\eqO y z=true)
  ·have e:((decide (s=S "*")&&eqO z (.num 0))||((decide (s=S "mod")&&eqO z (.num 1))||(decide (s=S "-")&&eqO y z)))=true:=by
    simpa using h
   rw[if_pos h,ZJ (v:=Ze (.put x (.num 0) (S "+") (.num 0))) (by rw[p1,e]) rfl]
  ·have e:((decide (s=S "*")&&eqO z (.num 0))||((decide (s=S "mod")&&eqO z (.num 1))||(decide (s=S "-")&&eqO y z)))=false:=by
    rw[Bool.eq_false_iff];intro q;refine h ?_;simpa using q
   rw[if_neg h,Zx (by rw[p1,e])]
   by_cases h2:(s=S "*"\/s=S "/")/\eqO z (.num 1)=true
   ·have e2:((decide (S "*"=s)||(decide (S "/"=s)||false))&&eqO z (.num 1))=true:=by
     rw[h2.2,Bool.and_true,Bool.or_false,Bool.or_eq_true,decide_eq_true_eq,decide_eq_true_eq];exact h2.1.imp Eq.symm Eq.symm
    rw[if_pos h2,ZJ (v:=Ze (.put x y (S "+") (.num 0))) (by rw[p2,e2]) rfl]
   ·have e2:((decide (S "*"=s)||(decide (S "/"=s)||false))&&eqO z (.num 1))=false:=by
     rw[Bool.eq_false_iff];intro q;rw[Bool.or_false,Ba,Bool.or_eq_true,decide_eq_true_eq,decide_eq_true_eq]at q;exact h2 ⟨q.1.imp Eq.symm Eq.symm,q.2⟩
    rw[if_neg h2,Zx (by rw[p2,e2]),ZB (v:=.tup [.str (S "put"),.int (x:Int),Zi y,.str s,Zi z]) rfl,UJ]
 exact congrArg ZG (b _)
theorem W3{a b:Row}:ZU .Eq (Ze a) (Ze b)=some (.bl (ZF (Ze a) (Ze b))):=by
 cases a<;>cases b<;>exact W4 (by simp[okP,Yy,Zi8]) (by simp[okP,Yy,Zi8])
def ZeK:Row->Bool
 |.put x y s z=>eqO y (.name x)&&(decide (s=S "+")&&eqO z (.num 0))
 |_=>false
def orR(x:Nat)(y:Opd)(s:Str)(z:Opd):Row:=if (s=S "+"\/s=S "*")/\ltO z y=true then wrR x z s y else wrR x y s z
def itR(r:Row):Row:=if ZeK r=true then .skip else r
def mpR(x:Nat)(y:Opd)(s:Str)(z:Opd):Row:=
 if Z9 y=true/\Z9 z=true then .put x (.num (U7 (Yq y) s (Yq z))) (S "+") (.num 0) else itR (orR x y (lmS s z) (lmZ s z))
theorem ZiR(hs:PSg s):PSg (lmS s z):=by
 unfold lmS;split
 ·exact .inl rfl
 ·exact hs
theorem Zh7:∃ y' s' z',wrR x y s z=.put x y' s' z':=by
 unfold wrR;split
 ·exact⟨_,_,_,rfl⟩
 ·split<;>exact⟨_,_,_,rfl⟩
theorem Zkq:ZU .Eq (Ze (.put x y s z)) (.tup [.str (S "put"),.int (x:Int),.tup [.str (S "name"),.int (x:Int)],.str (S "+"),Zi (.num 0)])=some (.bl (ZeK (.put x y s z))):=by
 rw[Zgs,<-UJ,W3];simp[UJ,ZF,YZ,ZbS,ZeK]
def OSm:Opd->Prop
 |.num c=>Sm c
 |.name _=>True
def JX:CS:=(.seq (.set 0 (.call 76 (.aC (.var 0) .aN) []))
 (.seq (.ite (.cmp .Eq (.var 0) (.tupE (.aC (.cst (.str (S "put"))) (.aC (.ix (.var 0) (.cst (.int 1))) (.aC (.tupE (.aC (.cst (.str (S "name"))) (.aC (.ix (.var 0) (.cst (.int 1))) .aN))) (.aC (.cst (.str (S "+"))) (.aC (.cst (.tup [(.str (S "number")),(.int 0)])) .aN))))))) (.seq (.ret (.cst (.tup [(.str (S "skip"))])))
 .skip) .skip)
 (.seq (.ret (.var 0))
 .skip)))
theorem VZ(m:MadeT T)(hs:PSg s):px (Zk T (n+1)) [] JX [some (Ze (.put x y s z))]=some (.rt (Ze (itR (wrR x y s z)))):=by
 unfold itR JX;have w:=Zj4 (n:=n) (x:=x) (y:=y) (z:=z) m hs;rw[YB (Zf rfl w),Zm];obtain⟨y',s',z',e⟩:=Zh7 (x:=x) (y:=y) (s:=s) (z:=z);rw[e];have q:=Zkq (x:=x) (y:=y') (s:=s') (z:=z');cases h:ZeK (.put x y' s' z')<;>rw[h]at q
 ·rw[Zx (Z7 _ _ q rfl rfl),ZB rfl];rfl
 ·rw[ZJ (Z7 _ _ q rfl rfl) rfl];rfl
theorem Zgn(m:MadeT T)(hs:PSg s)(hy:OSm y)(hz:OSm z):Zk T (n+4) 77 [Ze (.put x y s z)]=some (Ze (mpR x y s z)):=by
 rw[Zp (f:=c_made_put) m.t77 rfl rfl];show ZG (px (Zk T (n+3)) [] (.seq (.ite _ _ .skip) (.seq (.set 0 _) (.seq (.ite _ _ .skip) JX))) [some (Ze (.put x y s z))])=_;have ar:Zk T (n+3) 73 [Zi y,Zi z]=some (.bl (Z9 y&&Z9 z)):=ZfQ (n:=n+2) m.t73;unfold mpR;by_cases h:Z9 y=true/\Z9 z=true
 ·rw[h.1,h.2]at ar
  rw[if_pos h];cases y with
  |name _=>exact nomatch h.1
  |num c=>
   cases z with
   |name _=>exact nomatch h.2
   |num d=>
    have re:=ZbO (n:=n) (s:=s) m.num hy hz;exact congrArg ZG (ZJ (Zf rfl ar) (Zl rfl (Zl rfl (Zl (Zl rfl (Zl (Zf (xs:=[.int c,.str s,.int d]) rfl re) rfl rfl) rfl) rfl rfl) rfl) rfl))
 ·rw[if_neg h]
  have ar2:(Z9 y&&Z9 z)=false:=by
   cases y<;>cases z<;>first|rfl|exact absurd ⟨rfl,rfl⟩ h
  rw[ar2]at ar;have lm:Zk T (n+3) 75 [Ze (.put x y s z)]=some (Ze (.put x y (lmS s z) (lmZ s z))):=Zj0 (n:=n+1) m hs;rw[Zx (Zf rfl ar),YB (Zf rfl lm),Zm];have g1:PSg (lmS s z):=ZiR hs;generalize lmS s z=s1 at g1 ⊢;generalize lmZ s z=z1;have lf:Zk T (n+3) 74 [Ze (.put x y s1 z1),.int 2,.int 4]=_:=Zih (n:=n+1) m;unfold orR;cases hl:ltO z1 y<;>rw[hl]at lf
  ·rw[if_neg (fun q=>nomatch q.2)]
   have lf:Zk T (n+3) 74 [Ze (.put x y s1 z1),.int 2,.int 4]=some (Ze (.put x y s1 z1)):=lf;rcases g1 with rfl|rfl|rfl|rfl|rfl
   ·rw[We rfl (Zf rfl lf),Zm,VZ m (.inl rfl)];rfl
   ·rw[Zx rfl,VZ m (.inr (.inl rfl))];rfl
   ·rw[We rfl (Zf rfl lf),Zm,VZ m (.inr (.inr (.inl rfl)))];rfl
   ·rw[Zx rfl,VZ m (.inr (.inr (.inr (.inl rfl))))];rfl
   ·rw[Zx rfl,VZ m (.inr (.inr (.inr (.inr rfl))))];rfl
  ·have lf:Zk T (n+3) 74 [Ze (.put x y s1 z1),.int 2,.int 4]=some (Ze (.put x z1 s1 y)):=lf
   rcases g1 with rfl|rfl|rfl|rfl|rfl
   ·rw[We rfl (Zf rfl lf),Zm,VZ m (.inl rfl)];rfl
   ·rw[Zx rfl,VZ m (.inr (.inl rfl))];rfl
   ·rw[We rfl (Zf rfl lf),Zm,VZ m (.inr (.inr (.inl rfl)))];rfl
   ·rw[Zx rfl,VZ m (.inr (.inr (.inr (.inl rfl))))];rfl
   ·rw[Zx rfl,VZ m (.inr (.inr (.inr (.inr rfl))))];rfl
def glR(y:Opd)(s:Str)(z:Opd)(t:Nat):Row:=if s=S ">" then .ifr z (S "<") y t else if s=S ">=" then .ifr z (S "<=") y t else .ifr y s z t
theorem ZjZ(m:MadeT T)(hs:ISg s):Zk T (n+1) 78 [Ze (.ifr y s z t)]=some (Ze (glR y s z t)):=by
 rw[Zp (f:=c_greater_as_less) m.t78 rfl rfl];rcases hs with rfl|rfl|rfl|rfl|rfl|rfl<;>rfl
def stI(y z:Opd):Bool:=(Z9 y&&Z9 z)||eqO y z
theorem Zj3(m:MadeT T):Zk T (n+2) 79 [Ze (.ifr y s z t)]=some (.bl (stI y z)):=
 (Zp (f:=c_is_settled) m.t79 rfl rfl).trans (congrArg ZG (ZB (JI (Zf (xs:=[Zi y,Zi z]) rfl (ZfQ m.t73)) (Z7 (Zi y) (Zi z) Wi rfl rfl))))
theorem WG{F:PFn}{a b:CE}{π:Zq}(x y:P){v:P}(h:ixP x y=some v)(h1:pe F a π=some x)(h2:pe F b π=some y):pe F (.ix a b) π=some v:=by
 rw[pe_ix,h1,h2];exact h
theorem Zj2(m:MadeT T):Zk T (n+2) 80 [Ze (.ifr y s z t)]=some (Ze (if Vz (Yq y) s (Yq z)=true then .go t else .skip)):=by
 rw[Zp (f:=c_settled) m.t80 rfl rfl];have so:Zk T (n+1) 4 [.int (Yq y),.str s,.int (Yq z)]=some (.bl (Vz (Yq y) s (Yq z))):=ZdW m.t4;have e:pe (Zk T (n+1)) (.call 4 (.aC (.ix (.ix (.var 0) (.cst (.int 1))) (.cst (.int 1))) (.aC (.ix (.var 0) (.cst (.int 2))) (.aC (.ix (.ix (.var 0) (.cst (.int 3))) (.cst (.int 1))) .aN))) []) [some (Ze (.ifr y s z t)),none]=some (.bl (Vz (Yq y) s (Yq z))):=
  Zf (Zl (WG (Zi y) (.int 1) Zf4 rfl rfl) (Zl (x:=.str s) rfl (Zl (WG (Zi z) (.int 1) Zf4 rfl rfl) rfl rfl) rfl) rfl) so
 show ZG (px (Zk T (n+1)) [] (.seq (.set 1 _) _) [some (Ze (.ifr y s z t)),none])=_;rw[YB e];cases Vz (Yq y) s (Yq z)<;>exact congrArg ZG (ZB rfl)
def mlR(y:Opd)(s:Str)(z:Opd)(t:Nat):Row:=
 if ¬s=S "<=" then .ifr y s z t else if Z9 z=true/\Yq z < 999999999 then .ifr y (S "<") (.num (Yq z+1)) t
 else if Z9 y=true/\-1000000000 < Yq y then .ifr (.num (Yq y - 1)) (S "<") z t else .ifr y s z t
theorem Zj1(m:MadeT T):Zk T (n+1) 81 [Ze (.ifr y s z t)]=some (Ze (mlR y s z t)):=by
 rw[Zp (f:=c_most_as_less) m.t81 rfl rfl,Zb6];have p1:∀ F:PFn,pe F (.cmp .NotEq (.ix (.var 0) (.cst (.int 2))) (.cst (.str (S "<=")))) [some (.tup [.str (S "if"),Zi y,.str s,Zi z,.int (t:Int)]),some (Zi y),some (Zi z)]=some (.bl (!decide (s=S "<="))):=fun F=>rfl
 have p2:∀ F:PFn,pe F (.and (.cmp .Eq (.ix (.var 2) (.cst (.int 0))) (.cst (.str (S "number")))) (.cmp .Lt (.ix (.var 2) (.cst (.int 1))) (.cst (.int 999999999)))) [some (.tup [.str (S "if"),Zi y,.str s,Zi z,.int (t:Int)]),some (Zi y),some (Zi z)]=some (.bl (Z9 z&&decide (Yq z < 999999999))):=fun F=>by cases z<;>rfl
 have p3:∀ F:PFn,pe F (.and (.cmp .Eq (.ix (.var 1) (.cst (.int 0))) (.cst (.str (S "number")))) (.cmp .Gt (.ix (.var 1) (.cst (.int 1))) (.cst (.int (-1000000000))))) [some (.tup [.str (S "if"),Zi y,.str s,Zi z,.int (t:Int)]),some (Zi y),some (Zi z)]=some (.bl (Z9 y&&decide (-1000000000 < Yq y))):=fun F=>by cases y<;>rfl
 have b:∀ F:PFn,px F [] c_most_as_less.body [some (.tup [.str (S "if"),Zi y,.str s,Zi z,.int (t:Int)]),none,none]=some (.rt (Ze (mlR y s z t))):=fun F=>by
  unfold c_most_as_less mlR;rw[YB (v:=Zi y) rfl];simp only[Zm,Zo];rw[YB (v:=Zi z) rfl];simp only[Zm,Zo];by_cases h:s=S "<="
  ·rw[Zx (by rw[p1,decide_eq_true h];rfl),if_neg (fun q=>q h)]
   by_cases h1:Z9 z=true/\Yq z < 999999999
   ·rw[if_pos h1,ZJ (v:=Ze (.ifr y (S "<") (.num (Yq z+1)) t)) (by rw[p2,h1.1,decide_eq_true h1.2];rfl) (by cases z with|num c=>rfl|name i=>exact nomatch h1.1)]
   ·have e2:(Z9 z&&decide (Yq z < 999999999))=false:=by
     rw[Bool.eq_false_iff];intro q;rw[Ba,decide_eq_true_eq]at q;exact h1 q
    rw[if_neg h1,Zx (by rw[p2,e2])]
    by_cases h2:Z9 y=true/\-1000000000 < Yq y
    ·rw[if_pos h2,ZJ (v:=Ze (.ifr (.num (Yq y - 1)) (S "<") z t)) (by rw[p3,h2.1,decide_eq_true h2.2];rfl) (by cases y with|num c=>rfl|name i=>exact nomatch h2.1)]
    ·have e3:(Z9 y&&decide (-1000000000 < Yq y))=false:=by
      rw[Bool.eq_false_iff];intro q;rw[Ba,decide_eq_true_eq]at q;exact h2 q
     rw[if_neg h2,Zx (by rw[p3,e3]),ZB (v:=.tup [.str (S "if"),Zi y,.str s,Zi z,.int (t:Int)]) rfl,Zb6]
  ·rw[if_pos h,ZJ (v:=.tup [.str (S "if"),Zi y,.str s,Zi z,.int (t:Int)]) (by rw[p1,decide_eq_false h];rfl) rfl,Zb6]
 exact congrArg ZG (b _)
def ibR(y:Opd)(s:Str)(z:Opd)(t:Nat):Row:=
 if stI y z=true then (if Vz (Yq y) s (Yq z)=true then .go t else .skip) else
 if (s=S "="\/s=S "!=")/\ltO z y=true then mlR z s y t else mlR y s z t
def miR(y:Opd)(s:Str)(z:Opd)(t k:Nat):Row:=
 if t=k+1 then .skip else if s=S ">" then ibR z (S "<") y t else if s=S ">=" then ibR z (S "<=") y t else ibR y s z t
def ZdL:CS:=(.seq (.ite (.call 79 (.aC (.var 0) .aN) []) (.seq (.ret (.call 80 (.aC (.var 0) .aN) []))
 .skip) .skip)
 (.seq (.ite (.cmp .In (.ix (.var 0) (.cst (.int 2))) (.tupE (.aC (.cst (.str (S "="))) (.aC (.cst (.str (S "!="))) .aN)))) (.seq (.set 0 (.call 74 (.aC (.var 0) (.aC (.cst (.int 1)) (.aC (.cst (.int 3)) .aN))) []))
 .skip) .skip)
 (.seq (.ret (.call 81 (.aC (.var 0) .aN) []))
 .skip)))
theorem ZaP{w:Ot P}(m:MadeT T)(hs:ISg s):px (Zk T (n+2)) [] ZdL [some (Ze (.ifr y s z t)),w]=some (.rt (Ze (ibR y s z t))):=by
 have st:=Zj3 (n:=n) (y:=y) (s:=s) (z:=z) (t:=t) m;have se:=Zj2 (n:=n) (y:=y) (s:=s) (z:=z) (t:=t) m;have lf:=Zig (n:=n) (y:=y) (s:=s) (z:=z) (t:=t) m;have ml:∀ y z,Zk T (n+2) 81 [Ze (.ifr y s z t)]=some (Ze (mlR y s z t)):=fun y z=>Zj1 (n:=n+1) m
 unfold ibR ZdL;cases h:stI y z with
 |true=>rw[h]at st;exact ZJ (Zf rfl st) (Zf rfl se)
 |false=>
  rw[h]at st;rw[Zx (Zf rfl st),if_neg Bf];cases hl:ltO z y<;>rw[hl]at lf
  ·rw[if_neg (fun q=>nomatch q.2)]
   have lf:Zk T (n+2) 74 [Ze (.ifr y s z t),.int 1,.int 3]=some (Ze (.ifr y s z t)):=lf;rcases hs with rfl|rfl|rfl|rfl|rfl|rfl
   ·exact(Zx rfl).trans (ZB (Zf rfl (ml y z)))
   ·exact(Zx rfl).trans (ZB (Zf rfl (ml y z)))
   ·exact(We rfl (Zf rfl lf)).trans (ZB (Zf rfl (ml y z)))
   ·exact(Zx rfl).trans (ZB (Zf rfl (ml y z)))
   ·exact(Zx rfl).trans (ZB (Zf rfl (ml y z)))
   ·exact(We rfl (Zf rfl lf)).trans (ZB (Zf rfl (ml y z)))
  ·have lf:Zk T (n+2) 74 [Ze (.ifr y s z t),.int 1,.int 3]=some (Ze (.ifr z s y t)):=lf
   rcases hs with rfl|rfl|rfl|rfl|rfl|rfl
   ·exact(Zx rfl).trans (ZB (Zf rfl (ml y z)))
   ·exact(Zx rfl).trans (ZB (Zf rfl (ml y z)))
   ·exact(We rfl (Zf rfl lf)).trans (ZB (Zf rfl (ml z y)))
   ·exact(Zx rfl).trans (ZB (Zf rfl (ml y z)))
   ·exact(Zx rfl).trans (ZB (Zf rfl (ml y z)))
   ·exact(We rfl (Zf rfl lf)).trans (ZB (Zf rfl (ml z y)))
theorem Zii(m:MadeT T)(hs:ISg s):Zk T (n+3) 82 [Ze (.ifr y s z t),.int (k:Int)]=some (Ze (miR y s z t k)):=by
 rw[Zp (f:=c_made_if) m.t82 rfl rfl];show ZG (px (Zk T (n+2)) [] (.seq (.ite (.cmp .Eq (.ix (.var 0) (.cst (.int 4))) (.bin .Add (.var 1) (.cst (.int 1)))) _ .skip) (.seq (.set 0 _) ZdL)) [some (Ze (.ifr y s z t)),some (.int (k:Int))])=_;have gl:Zk T (n+2) 78 [Ze (.ifr y s z t)]=some (Ze (glR y s z t)):=ZjZ (n:=n+1) m hs;have c:pe (Zk T (n+2)) (.cmp .Eq (.ix (.var 0) (.cst (.int 4))) (.bin .Add (.var 1) (.cst (.int 1)))) [some (Ze (.ifr y s z t)),some (.int (k:Int))]=some (.bl (decide ((t:Int)=(k:Int)+1))):=rfl
 unfold miR;by_cases h:t=k+1
 ·rw[decide_eq_true (show(t:Int)=(k:Int)+1 by omega)]at c
  rw[if_pos h,ZJ c rfl];rfl
 ·rw[decide_eq_false (show ¬(t:Int)=(k:Int)+1 by omega)]at c
  rw[if_neg h,Zx c,YB (Zf rfl gl),Zm];rcases hs with rfl|rfl|rfl|rfl|rfl|rfl
  ·exact congrArg ZG (ZaP (s:=S "<") m (.inl rfl))
  ·exact congrArg ZG (ZaP (s:=S "<=") m (.inr (.inl rfl)))
  ·exact congrArg ZG (ZaP (s:=S "=") m (.inr (.inr (.inl rfl))))
  ·exact congrArg ZG (ZaP (y:=z) (s:=S "<=") (z:=y) m (.inr (.inl rfl)))
  ·exact congrArg ZG (ZaP (y:=z) (s:=S "<") (z:=y) m (.inl rfl))
  ·exact congrArg ZG (ZaP (s:=S "!=") m (.inr (.inr (.inr (.inr (.inr rfl))))))
def QM(k:Nat):Row->Row
 |.put x y s z=>mpR x y s z
 |.ifr y s z t=>miR y s z t k
 |.go t=>if t=k+1 then .skip else .go t
 |r=>r
def RSg:Row->Prop
 |.put _ y s z=>PSg s/\OSm y/\OSm z
 |.ifr _ s _ _=>ISg s
 |_=>True
theorem Zgm{r:Row}(m:MadeT T)(hr:RSg r):Zk T (n+5) 83 [Ze r,.int (k:Int)]=some (Ze (QM k r)):=by
 rw[Zp (f:=c_made_row) m.t83 rfl rfl];cases r with
 |put x y s z=>exact congrArg ZG (ZJ rfl (Zf rfl (Zgn m hr.1 hr.2.1 hr.2.2)))
 |ifr y s z t=>exact congrArg ZG ((Zx rfl).trans (ZJ rfl (Zf rfl (Zii (n:=n+1) m hr))))
 |go t=>
  have c:ZU .Eq (Ze (.go t)) (.tup [.str (S "go"),.int ((k:Int)+1)])=some (.bl (decide (t=k+1))):=by
   refine(W3 (a:=.go t) (b:=.go (k+1))).trans ?_;show some (P.bl (decide ((t:Int)=((k+1:Nat):Int))&&true))=_;rw[Bool.and_true,decide_eq_decide.mpr Int.ofNat_inj]
  by_cases h:t=k+1
  ·rw[decide_eq_true h]at c
   rw[show QM k (.go t)=.skip from if_pos h];exact congrArg ZG ((Zx rfl).trans ((Zx rfl).trans (ZJ (Z7 _ _ c rfl rfl) rfl)))
  ·rw[decide_eq_false h]at c
   rw[show QM k (.go t)=.go t from if_neg h];exact congrArg ZG ((Zx rfl).trans ((Zx rfl).trans ((Zx (Z7 _ _ c rfl rfl)).trans (ZB rfl))))
 |tell y=>exact congrArg ZG ((Zx rfl).trans ((Zx rfl).trans ((Zx (Z7 _ _ (W3 (a:=.tell y) (b:=.go (k+1))) rfl rfl)).trans (ZB rfl))))
 |skip=>exact congrArg ZG ((Zx rfl).trans ((Zx rfl).trans ((Zx (Z7 _ _ (W3 (a:=.skip) (b:=.go (k+1))) rfl rfl)).trans (ZB rfl))))
end
end Dp


namespace Dp
open PySem
def nbI(c:Int):Int:=if c % 3=0 then ([-1000000000,999999999,-1,0,1,2,-999999999,999999998]:Li Int).getD (c / 3 % 8).toNat 0 else c / 3 * 48271 % 2000000000 - 1000000000
theorem ZiT(c:Int):Sm (nbI c):=by
 unfold nbI;split
 ·rcases (c / 3 % 8).toNat with _|_|_|_|_|_|_|_|k<;>first|exact⟨by decide,by decide⟩|exact(show Sm 0 from⟨by decide,by decide⟩)
 ·exact⟨by omega,by omega⟩
theorem UY{x:Int}{m:Nat}(h:0 < m):(x % (m:Int)).toNat < m:=by
 have:=Int.emod_lt_of_pos x (show 0 < (m:Int) by omega)
 omega
theorem Zg2{x:Int}{m:Nat}(h:0 < m):(((x % (m:Int)).toNat:Nat):Int)=x % (m:Int):=Int.toNat_of_nonneg (Int.emod_nonneg _ (by omega))
theorem WC{α:Type}{f:α->P}{l:Li α}{d:α}{n:Nat}:(l.map f).getD n (f d)=f (l.getD n d):=by
 rw[List.getD_eq_getElem?_getD,List.getElem?_map,List.getD_eq_getElem?_getD];cases l[n]?<;>rfl
theorem Jj{xs:Li P}{d:P}{k:Nat}{c:Int}(e:xs.length=k)(h:0 < k):atP xs (c % (k:Int))=some (xs.getD (c % (k:Int)).toNat d):=by
 have h1:=Int.emod_nonneg c (show(k:Int)≠0 by omega)
 have h2:=Int.emod_lt_of_pos c (show 0 < (k:Int) by omega)
 generalize c % (k:Int)=q at *
 unfold atP ixN;rw[if_pos h1,if_pos (by rw[e];exact h2),Ob,List.getD_eq_getElem?_getD,Lg (by omega)];rfl
def sgA(i:Int):Str:=([S "+",S "-",S "*",S "/",S "mod"]:Li Str).getD i.toNat (S "+")
def sgB(i:Int):Str:=([S "<",S "<=",S "=",S ">=",S ">",S "!="]:Li Str).getD i.toNat (S "<")
theorem ZhY(i:Int):PSg (sgA i):=by
 unfold sgA;rcases i.toNat with _|_|_|_|_|k
 ·exact .inl rfl
 ·exact .inr (.inl rfl)
 ·exact .inr (.inr (.inl rfl))
 ·exact .inr (.inr (.inr (.inl rfl)))
 ·exact .inr (.inr (.inr (.inr rfl)))
 ·exact .inl rfl
theorem ZhZ(i:Int):ISg (sgB i):=by
 unfold sgB;rcases i.toNat with _|_|_|_|_|_|k
 ·exact .inl rfl
 ·exact .inr (.inl rfl)
 ·exact .inr (.inr (.inl rfl))
 ·exact .inr (.inr (.inr (.inl rfl)))
 ·exact .inr (.inr (.inr (.inr (.inl rfl))))
 ·exact .inr (.inr (.inr (.inr (.inr rfl))))
 ·exact .inl rfl
theorem Zc3{m:Nat}{o:Opd}(h:YA m o):OSm o:=by
 cases o with
 |name i=>trivial
 |num c=>exact h
structure RowT(T:Nat->Option FD):Prop where
 t18:T 18=some c__law_number_by_k25
 t27:T 27=some c__law_cell_at_k25
 t71:T 71=some c__law_operand_by
 t84:T 84=some c__law_operands_by
 t72:T 72=some c__law_row_by
section
variable {T:Nat->Ot FD}{n:Nat}{c c0 c1 c2 c3:Int}{m many at_:Nat}{b:Bool}
theorem Zij(h:T 18=some c__law_number_by_k25):Zk T (n+1) 18 [.int c]=some (.int (nbI c)):=by
 rw[Zp (f:=c__law_number_by_k25) h rfl rfl];have e:pe (Zk T n) (.cmp .Eq (.bin .Mod (.var 0) (.cst (.int 3))) (.cst (.int 0))) [some (.int c)]=some (.bl (decide (c % 3=0))):=rfl;unfold nbI;by_cases h:c % 3=0
 ·rw[decide_eq_true h]at e
  rw[if_pos h];exact congrArg ZG (ZJ e (WG (.lst true (([-1000000000,999999999,-1,0,1,2,-999999999,999999998]:Li Int).map .int)) (.int (c / 3 % 8)) ((Jj (d:=.int 0) (k:=8) rfl (by decide)).trans (congrArg some WC)) rfl rfl))
 ·rw[decide_eq_false h]at e
  rw[if_neg h];exact congrArg ZG ((Zx e).trans (ZB (by simp[YD])))
theorem Zau{F:PFn}{π:Zq}{a b:CE}{x:Int}(h:0 < m)(h1:pe F a π=some (.int x))(h2:pe F b π=some (.int (m:Int))):pe F (.bin .Mod a b) π=some (.int ((x % (m:Int)).toNat:Nat)):=by
 rw[U3,h1,h2,Zg2 h];have e:UH .Mod x (m:Int)=some (x % (m:Int)):=if_pos (by omega)
 show(match UH .Mod x (m:Int) with
  |some k=>some (P.int k)
  |none=>none)=_
 rw[e]
theorem Jf{p q:Prop}[Decidable p][Decidable q](h:¬(p/\q)):(decide p&&decide q)=false:=by
 rw[Bool.eq_false_iff];intro z;rw[Ba,decide_eq_true_eq,decide_eq_true_eq]at z;exact h z
theorem UF{p q:Prop}[Decidable p][Decidable q](h:p/\q):(decide p&&decide q)=true:=by
 rw[decide_eq_true h.1,decide_eq_true h.2];rfl
theorem Ziq(t:RowT T):∃ o,YA m o/\Zk T (n+2) 71 [.int c,.int (m:Int)]=some (Zi o):=by
 rw[Zp (f:=c__law_operand_by) t.t71 rfl rfl];have e:pe (Zk T (n+1)) (.and (.cmp .Gt (.var 1) (.cst (.int 0))) (.cmp .Lt (.bin .Mod (.var 0) (.cst (.int 5))) (.cst (.int 3)))) [some (.int c),some (.int (m:Int))]=some (.bl (decide ((m:Int) > 0)&&decide (c % 5 < 3))):=Xd rfl rfl;by_cases h:(m:Int) > 0/\c % 5 < 3
 ·rw[UF h]at e
  exact⟨.name (c / 5 % (m:Int)).toNat,UY (by omega),congrArg ZG (ZJ e (Zl rfl (Zl (Zau (by omega) rfl rfl) rfl rfl) rfl))⟩
 ·rw[Jf h]at e
  exact⟨.num (nbI (c / 5)),ZiT _,congrArg ZG ((Zx e).trans (ZB (Zl rfl (Zl (Zf rfl (Zij t.t18)) rfl rfl) rfl)))⟩
theorem Ze8{F:PFn}{w:Int}{A B:Opd}(hA:YA m A)(hB:YA m B)(eA:F 71 [.int c1,.int (m:Int)]=some (Zi A))(eB:F 71 [.int c2,.int (m:Int)]=some (Zi B)):∃ y z,(YA m y/\YA m z) /\
  px F [] c__law_operands_by.body [some (.lst b [.int c0,.int c1,.int c2,.int c3]),some (.int (m:Int)),none,none,none]=some (.rt (.tup [Zi y,Zi z])):=by
 unfold c__law_operands_by;rw[YB (Zf rfl eA)];simp only[Zm,Zo];rw[YB (Zf rfl eB)];simp only[Zm,Zo];rw[YB (v:=.int (c3 / 65 % 6)) rfl];simp only[Zm,Zo];generalize c3 / 65 % 6=w;have is:∀ k:Int,pe F (.cmp .Eq (.var 4) (.cst (.int k))) [some (.lst b [.int c0,.int c1,.int c2,.int c3]),some (.int (m:Int)),some (Zi A),some (Zi B),some (.int w)]=some (.bl (decide (w=k))):=fun k=>rfl
 have i1:=is 1;by_cases h1:w=1
 ·rw[decide_eq_true h1]at i1
  exact⟨A,A,⟨hA,hA⟩,ZJ i1 rfl⟩
 rw[decide_eq_false h1]at i1;rw[Zx i1];have i3:=Xd (is 3) (b:=.cmp .Gt (.var 1) (.cst (.int 0))) (y:=decide ((m:Int) > 0)) rfl;by_cases h3:w=3/\(m:Int) > 0
 ·rw[UF h3]at i3
  exact⟨.name (c3 % 5 % (m:Int)).toNat,.num (c2 % 2),⟨UY (by omega),⟨by omega,by omega⟩⟩,ZJ i3 (Zl (Zl rfl (Zl (Zau (by omega) rfl rfl) rfl rfl) rfl) rfl rfl)⟩
 rw[Jf h3]at i3;rw[Zx i3];have i4:=is 4;by_cases h4:w=4
 ·rw[decide_eq_true h4]at i4
  exact⟨A,.num (c2 % 2),⟨hA,⟨by omega,by omega⟩⟩,ZJ i4 rfl⟩
 rw[decide_eq_false h4]at i4;rw[Zx i4];have i5:=is 5;by_cases h5:w=5
 ·rw[decide_eq_true h5]at i5
  exact⟨.num (c1 % 2),B,⟨⟨by omega,by omega⟩,hB⟩,ZJ i5 rfl⟩
 rw[decide_eq_false h5]at i5;exact⟨A,B,⟨hA,hB⟩,(Zx i5).trans (ZB rfl)⟩
theorem Zj6(t:RowT T):∃ y z,(YA m y/\YA m z)/\Zk T (n+3) 84 [.lst b [.int c0,.int c1,.int c2,.int c3],.int (m:Int)]=some (.tup [Zi y,Zi z]):=by
 obtain⟨A,hA,eA⟩:=Ziq (n:=n) (c:=c1) (m:=m) t;obtain⟨B,hB,eB⟩:=Ziq (n:=n) (c:=c2) (m:=m) t;obtain⟨y,z,h,e⟩:=Ze8 (w:=0) (b:=b) (c0:=c0) (c3:=c3) hA hB eA eB;exact⟨y,z,h,(Zp (f:=c__law_operands_by) t.t84 rfl rfl).trans (congrArg ZG e)⟩
def JY:CS:=(.seq (.set 7 (.bin .FloorDiv (.ix (.var 0) (.cst (.int 0))) (.cst (.int 8))))
 (.seq (.ite (.and (.cmp .Lt (.bin .Mod (.ix (.var 0) (.cst (.int 0))) (.cst (.int 8))) (.cst (.int 3))) (.cmp .Gt (.var 1) (.cst (.int 0)))) (.seq (.ret (.tupE (.aC (.cst (.str (S "put"))) (.aC (.bin .Mod (.bin .Mod (.ix (.var 0) (.cst (.int 3))) (.cst (.int 5))) (.var 1)) (.aC (.var 4) (.aC (.ix (.lstE (.aC (.cst (.str (S "+"))) (.aC (.cst (.str (S "-"))) (.aC (.cst (.str (S "*"))) (.aC (.cst (.str (S "/"))) (.aC (.cst (.str (S "mod"))) .aN)))))) (.bin .Mod (.var 7) (.cst (.int 5)))) (.aC (.var 5) .aN)))))))
 .skip) .skip)
 (.seq (.ite (.cmp .Lt (.bin .Mod (.ix (.var 0) (.cst (.int 0))) (.cst (.int 8))) (.cst (.int 5))) (.seq (.ret (.tupE (.aC (.cst (.str (S "if"))) (.aC (.var 4) (.aC (.ix (.lstE (.aC (.cst (.str (S "<"))) (.aC (.cst (.str (S "<="))) (.aC (.cst (.str (S "="))) (.aC (.cst (.str (S ">="))) (.aC (.cst (.str (S ">"))) (.aC (.cst (.str (S "!="))) .aN))))))) (.bin .Mod (.var 7) (.cst (.int 6)))) (.aC (.var 5) (.aC (.var 6) .aN)))))))
 .skip) .skip)
 (.seq (.ite (.cmp .Eq (.bin .Mod (.ix (.var 0) (.cst (.int 0))) (.cst (.int 8))) (.cst (.int 5))) (.seq (.ret (.tupE (.aC (.cst (.str (S "go"))) (.aC (.var 6) .aN))))
 .skip) .skip)
 (.seq (.ite (.cmp .Eq (.bin .Mod (.ix (.var 0) (.cst (.int 0))) (.cst (.int 8))) (.cst (.int 6))) (.seq (.ret (.tupE (.aC (.cst (.str (S "tell"))) (.aC (.var 4) .aN))))
 .skip) .skip)
 (.seq (.ret (.tupE (.aC (.cst (.str (S "skip"))) .aN)))
 .skip))))))
theorem ZfS{F:PFn}{y z:Opd}{v:Nat}(hy:YA m y)(hz:YA m z)(hv:v<=many):∃ r,(J5 m many r/\RSg r)/\px F [] JY [some (.lst b [.int c0,.int c1,.int c2,.int c3]),some (.int (m:Int)),some (.int (many:Int)),some (.int (at_:Int)),some (Zi y),some (Zi z),some (.int (v:Int)),none]=some (.rt (Ze r)):=by
 unfold JY;rw[YB (v:=.int (c0 / 8)) rfl];simp only[Zm,Zo];have i1:pe F (.and (.cmp .Lt (.bin .Mod (.ix (.var 0) (.cst (.int 0))) (.cst (.int 8))) (.cst (.int 3))) (.cmp .Gt (.var 1) (.cst (.int 0)))) [some (.lst b [.int c0,.int c1,.int c2,.int c3]),some (.int (m:Int)),some (.int (many:Int)),some (.int (at_:Int)),some (Zi y),some (Zi z),some (.int (v:Int)),some (.int (c0 / 8))]=some (.bl (decide (c0 % 8 < 3)&&decide ((m:Int) > 0))):=Xd rfl rfl
 by_cases h1:c0 % 8 < 3/\(m:Int) > 0
 ·rw[UF h1]at i1
  exact⟨.put (c3 % 5 % (m:Int)).toNat y (sgA (c0 / 8 % 5)) z,⟨⟨UY (by omega),hy,hz⟩,ZhY _,Zc3 hy,Zc3 hz⟩,ZJ i1 (Zl rfl (Zl (Zau (by omega) rfl rfl) (Zl rfl (Zl (x:=.str (sgA (c0 / 8 % 5))) (WG (.lst true ([S "+",S "-",S "*",S "/",S "mod"].map .str)) (.int (c0 / 8 % 5)) ((Jj (d:=.str (S "+")) (k:=5) rfl (by decide)).trans (congrArg some WC)) rfl rfl) rfl rfl) rfl) rfl) rfl)⟩
 rw[Jf h1]at i1;rw[Zx i1];have i2:pe F (.cmp .Lt (.bin .Mod (.ix (.var 0) (.cst (.int 0))) (.cst (.int 8))) (.cst (.int 5))) [some (.lst b [.int c0,.int c1,.int c2,.int c3]),some (.int (m:Int)),some (.int (many:Int)),some (.int (at_:Int)),some (Zi y),some (Zi z),some (.int (v:Int)),some (.int (c0 / 8))]=some (.bl (decide (c0 % 8 < 5))):=rfl;by_cases h2:c0 % 8 < 5
 ·rw[decide_eq_true h2]at i2
  exact⟨.ifr y (sgB (c0 / 8 % 6)) z v,⟨⟨hy,hz,hv⟩,ZhZ _⟩,ZJ i2 (Zl rfl (Zl rfl (Zl (x:=.str (sgB (c0 / 8 % 6))) (WG (.lst true ([S "<",S "<=",S "=",S ">=",S ">",S "!="].map .str)) (.int (c0 / 8 % 6)) ((Jj (d:=.str (S "<")) (k:=6) rfl (by decide)).trans (congrArg some WC)) rfl rfl) rfl rfl) rfl) rfl)⟩
 rw[decide_eq_false h2]at i2;rw[Zx i2];have is:∀ k:Int,pe F (.cmp .Eq (.bin .Mod (.ix (.var 0) (.cst (.int 0))) (.cst (.int 8))) (.cst (.int k))) [some (.lst b [.int c0,.int c1,.int c2,.int c3]),some (.int (m:Int)),some (.int (many:Int)),some (.int (at_:Int)),some (Zi y),some (Zi z),some (.int (v:Int)),some (.int (c0 / 8))]=some (.bl (decide (c0 % 8=k))):=fun _=>rfl
 have i3:=is 5;by_cases h3:c0 % 8=5
 ·rw[decide_eq_true h3]at i3
  exact⟨.go v,⟨hv,trivial⟩,ZJ i3 rfl⟩
 rw[decide_eq_false h3]at i3;rw[Zx i3];have i4:=is 6;by_cases h4:c0 % 8=6
 ·rw[decide_eq_true h4]at i4
  exact⟨.tell y,⟨hy,trivial⟩,ZJ i4 rfl⟩
 rw[decide_eq_false h4]at i4;exact⟨.skip,⟨trivial,trivial⟩,(Zx i4).trans (ZB rfl)⟩
theorem Zj7(t:RowT T)(h:at_ < many):∃ r,(J5 m many r/\RSg r)/\Zk T (n+4) 72 [.lst b [.int c0,.int c1,.int c2,.int c3],.int (m:Int),.int (many:Int),.int (at_:Int)]=some (Ze r):=by
 rw[Zp (f:=c__law_row_by) t.t72 rfl rfl];obtain⟨y,z,⟨hy,hz⟩,os⟩:=Zj6 (n:=n) (b:=b) (c0:=c0) (c1:=c1) (c2:=c2) (c3:=c3) (m:=m) t;show ∃ r,_/\ZG (px (Zk T (n+3)) [] (.seq (.set2 4 5 (.call 84 (.aC (.var 0) (.aC (.var 1) .aN)) [])) (.seq (.set 6 (.bin .Mod (.bin .FloorDiv (.ix (.var 0) (.cst (.int 3))) (.cst (.int 5))) (.bin .Add (.var 2) (.cst (.int 1))))) (.seq (.ite (.cmp .Eq (.bin .Mod (.bin .FloorDiv (.ix (.var 0) (.cst (.int 3))) (.cst (.int 65))) (.cst (.int 6))) (.cst (.int 2))) (.seq (.set 6 (.bin .Add (.var 3) (.cst (.int 1)))) .skip) .skip) JY))) [some (.lst b [.int c0,.int c1,.int c2,.int c3]),some (.int (m:Int)),some (.int (many:Int)),some (.int (at_:Int)),none,none,none,none])=_
 rw[ZH,Zfg (x:=Zi y) (y:=Zi z) (Zf rfl os) (by simp[QI]),Zz]
 simp only[Zm,Zo];rw[YB (Zau (m:=many+1) (x:=c3 / 5) (by omega) rfl rfl)]
 simp only[Zm,Zo];have e:pe (Zk T (n+3)) (.cmp .Eq (.bin .Mod (.bin .FloorDiv (.ix (.var 0) (.cst (.int 3))) (.cst (.int 65))) (.cst (.int 6))) (.cst (.int 2))) [some (.lst b [.int c0,.int c1,.int c2,.int c3]),some (.int (m:Int)),some (.int (many:Int)),some (.int (at_:Int)),some (Zi y),some (Zi z),some (.int ((c3 / 5 % ((many+1:Nat):Int)).toNat:Nat)),none]=some (.bl (decide (c3 / 65 % 6=2))):=rfl
 by_cases h2:c3 / 65 % 6=2
 ·rw[decide_eq_true h2]at e
  rw[We (v:=.int ((at_+1:Nat):Int)) e rfl];simp only[Zm,Zo];obtain⟨r,hr,q⟩:=ZfS (F:=Zk T (n+3)) (b:=b) (c0:=c0) (c1:=c1) (c2:=c2) (c3:=c3) (m:=m) (many:=many) (at_:=at_) (v:=at_+1) hy hz h;exact⟨r,hr,congrArg ZG q⟩
 ·rw[decide_eq_false h2]at e
  rw[Zx e];obtain⟨r,hr,q⟩:=ZfS (F:=Zk T (n+3)) (b:=b) (c0:=c0) (c1:=c1) (c2:=c2) (c3:=c3) (m:=m) (many:=many) (at_:=at_) (v:=(c3 / 5 % ((many+1:Nat):Int)).toNat) hy hz (Nat.le_of_lt_succ (UY (by omega)))
  exact⟨r,hr,congrArg ZG q⟩
def Z3(ns:Li Int)(k:Nat):Int:=if k < ns.length then ns.getD k 0 else 0
theorem ZdV{ns:Li Int}{k:Nat}(h:T 27=some c__law_cell_at_k25):Zk T (n+1) 27 [.lst false (ns.map .int),.int (k:Int)]=some (.int (Z3 ns k)):=by
 rw[Zp (f:=c__law_cell_at_k25) h rfl rfl];have e:pe (Zk T n) (.cmp .Lt (.var 1) (.len (.var 0))) [some (.lst false (ns.map .int)),some (.int (k:Int))]=some (.bl (decide ((k:Int) < ((ns.map P.int).length:Int)))):=rfl;unfold Z3;rw[List.length_map]at e;by_cases q:k < ns.length
 ·rw[decide_eq_true (show(k:Int) < (ns.length:Int) by omega)]at e
  rw[if_pos q];refine congrArg ZG (ZJ e (WG (.lst false (ns.map .int)) (.int (k:Int)) ?_ rfl rfl));show(ixN (ns.map P.int).length (k:Int)).bind (fun j=>(ns.map P.int)[j]?)=_
  unfold ixN;rw[if_pos (by omega),if_pos (by rw[List.length_map];omega),Ob,Int.toNat_natCast,List.getElem?_map,List.getD_eq_getElem?_getD,Lg q]
  rfl
 ·rw[decide_eq_false (show ¬(k:Int) < (ns.length:Int) by omega)]at e
  rw[if_neg q];exact congrArg ZG ((Zx e).trans (ZB rfl))
end
end Dp


namespace Dp
open PySem
section
variable {T:Nat->Ot FD}{n:Nat}{a:Int}{s:Str}{y:Opd}
theorem Zgj(h:T 36=some c__law_alike_k26):Zk T (n+1) 36 [.int a,.int a]=some (.bl true):=by
 rw[Zp (f:=c__law_alike_k26) h rfl rfl]
 (rw[show Z5 c__law_alike_k26.body=[] from rfl];simp[c__law_alike_k26])
theorem ZdT{F:PFn}{xs:Li P}(hl:xs.length<=100)(h:∀ x∈xs,F 36 [x,x]=some (.bl true)):pe F Yg [some (.tup xs),some (.tup xs)]=some (.lst true []):=by
 unfold Yg;rw[U4,show pe F (.len (.var 1)) [some (.tup xs),some (.tup xs)]=some (.int (xs.length:Int)) by simp,Ob,Jw (by omega),Ob,U6,if_pos (by omega)]
 rw[WN (p:=fun _=>false) (g:=id) (fun x hx=>by
  obtain⟨j,rfl,hj⟩:=mem_range hx;have hj:j < xs.length:=by omega
  have hp:Y5 [some (.tup xs),some (.tup xs)] [1,0] (.int (j:Int))=[some (.int (j:Int)),some (.tup xs),some (.tup xs)]:=rfl;have g:=Lg hj;have q:=h _ (List.getElem_mem hj);have at_:atP xs (j:Int)=some xs[j]:=by rw[X4 rfl,g]
  rw[hp];simp[at_,q]) (fun _ _ z=>by cases z)]
 simp
theorem Q9(h36:T 36=some c__law_alike_k26){xs:Li P}(hl:xs.length<=100)(h:∀ x∈xs,Zk T (n+1) 36 [x,x]=some (.bl true)):Zk T (n+2) 36 [.tup xs,.tup xs]=some (.bl true):=by
 rw[Zp (f:=c__law_alike_k26) h36 rfl rfl];have e:=ZdT (F:=Zk T (n+1)) hl h
 (rw[show Z5 c__law_alike_k26.body=[] from rfl];simp[c__law_alike_k26,e])
end
end Dp


namespace Dp
open PySem
noncomputable def num:Li (Str×Nat):=[(S "replaced",42),(S "operand_places",113),(S "around",0),(S "divided",1),(S "left_over",2),(S "reckon",3),(S "is_so",4),(S "behind",70),(S "Step",146),(S "Step.word",147),(S "Step.turned",148),(S "Sign",169),(S "Sign.word",170),(S "Sign.turned",171),(S "More",149),(S "More.word",150),(S "More.turned",151),(S "Turn",157),(S "Turn.word",158),(S "Turn.turned",159),(S "Out",152),(S "Out.word",153),(S "Out.turned",154),(S "Swap",160),(S "Swap.word",161),(S "Swap.turned",162),(S "Far",163),(S "Far.word",164),(S "Far.turned",165),(S "fakes",172),(S "fake_of",180),(S "are_numbers",73),(S "lesser_first",74),(S "less_as_more",75),(S "without_reckoning",76),(S "made_put",77),(S "greater_as_less",78),(S "is_settled",79),(S "settled",80),(S "most_as_less",81),(S "made_if",82),(S "made_row",83),(S "made",106),(S "twins",231),(S "_law_cell_at",27),(S "_law_alike",36),(S "_law_number_by",18),(S "_law_operand_by",71),(S "_law_operands_by",84),(S "_law_row_by",72),(S "_law_program",30),(S "law",16)]
noncomputable def T:Nat->Ot FD
 |42=>some c_replaced
 |113=>some c_operand_places
 |0=>some c_around
 |1=>some c_divided
 |2=>some c_left_over
 |3=>some c_reckon
 |4=>some c_is_so
 |70=>some c_behind
 |147=>some c_Step_word
 |148=>some c_Step_turned
 |170=>some c_Sign_word
 |171=>some c_Sign_turned
 |150=>some c_More_word
 |151=>some c_More_turned
 |158=>some c_Turn_word
 |159=>some c_Turn_turned
 |153=>some c_Out_word
 |154=>some c_Out_turned
 |161=>some c_Swap_word
 |162=>some c_Swap_turned
 |164=>some c_Far_word
 |165=>some c_Far_turned
 |172=>some c_fakes
 |180=>some c_fake_of
 |73=>some c_are_numbers
 |74=>some c_lesser_first
 |75=>some c_less_as_more
 |76=>some c_without_reckoning
 |77=>some c_made_put
 |78=>some c_greater_as_less
 |79=>some c_is_settled
 |80=>some c_settled
 |81=>some c_most_as_less
 |82=>some c_made_if
 |83=>some c_made_row
 |106=>some c_made
 |231=>some c_twins
 |27=>some c__law_cell_at_k25
 |36=>some c__law_alike_k26
 |18=>some c__law_number_by_k25
 |71=>some c__law_operand_by
 |84=>some c__law_operands_by
 |72=>some c__law_row_by
 |30=>some c__law_program_k29
 |16=>some c_law_k29
 |_=>none
end Dp


namespace Dp
open PySem
theorem Zgf:MadeT T:=⟨⟨rfl,rfl,rfl,rfl⟩,rfl,rfl,rfl,rfl,rfl,rfl,rfl,rfl,rfl,rfl,rfl,rfl,rfl⟩
theorem Zlg:RowT T:=⟨rfl,rfl,rfl,rfl,rfl⟩
section
variable {n:Nat}{F:PFn}{m many:Nat}{c0 c1 c2 c3:Int}{r:Row}{y z:Opd}{s:Str}{x t:Nat}
def ZaR:Row->Prop
 |.put _ _ s _=>PSg s
 |.ifr _ s _ _=>ISg s
 |_=>True
def nxA(s:Str):Str:=if s=S "+" then S "-" else if s=S "-" then S "*" else if s=S "*" then S "/" else if s=S "/" then S "mod" else S "+"
def nxB(s:Str):Str:=if s=S "<" then S "<=" else if s=S "<=" then S "=" else if s=S "=" then S ">=" else if s=S ">=" then S ">" else if s=S ">" then S "!=" else S "<"
def Wu:Row->Li Row
 |.put x y s z=>[.put x y (nxA s) z]
 |.ifr y s z t=>[.ifr y (nxB s) z t]
 |_=>[]
theorem Zgp(h:ZaR r):Zk T (n+2) 171 [.obj 169,Ze r,.int (many:Int)]=some (.tup ((Wu r).map Ze)):=by
 cases r with
 |put x y s z=>
  rcases (h:PSg s) with rfl|rfl|rfl|rfl|rfl<;>rfl
 |ifr y s z t=>
  rcases (h:ISg s) with rfl|rfl|rfl|rfl|rfl|rfl<;>rfl
 |_=>rfl
def WS:Opd->Li Opd
 |.name _=>[]
 |.num c=>[.num (ZR (c+1))]
def XB:Row->Li Row
 |.put x y s z=>(WS y).map (fun y'=>.put x y' s z)++(WS z).map (fun z'=>.put x y s z')
 |.ifr y s z t=>(WS y).map (fun y'=>.ifr y' s z t)++(WS z).map (fun z'=>.ifr y s z' t)
 |.tell y=>(WS y).map .tell
 |_=>[]
theorem Y3:(WS y).length<=1:=by cases y<;>simp[WS]
theorem Uq:(XB r).length<=2:=by
 cases r with
 |put x y s z=>have:=Y3 (y:=y);have:=Y3 (y:=z);simp[XB];omega
 |ifr y s z t=>have:=Y3 (y:=y);have:=Y3 (y:=z);simp[XB];omega
 |tell y=>have:=Y3 (y:=y);simp[XB];omega
 |go t=>simp[XB]
 |skip=>simp[XB]
theorem Zgo:Zk T (n+2) 151 [.obj 149,Ze r,.int (many:Int)]=some (.tup ((XB r).map Ze)):=by
 cases r with
 |put x y s z=>cases y<;>cases z<;>rfl
 |ifr y s z t=>cases y<;>cases z<;>rfl
 |tell y=>cases y<;>rfl
 |_=>rfl
def U2:Row->Li Row
 |.skip=>[]
 |_=>[.skip]
theorem Zim:Zk T (n+1) 154 [.obj 152,Ze r,.int (many:Int)]=some (.tup ((U2 r).map Ze)):=by
 cases r<;>rfl
def ZiD(s:Str):Str:=if s=S "<" then S ">=" else if s=S ">=" then S "<" else if s=S ">" then S "<=" else if s=S "<=" then S ">" else if s=S "=" then S "!=" else S "="
def Wv:Row->Li Row
 |.ifr y s z t=>[.ifr y (ZiD s) z t]
 |_=>[]
theorem Zgr(h:ZaR r):Zk T (n+2) 159 [.obj 157,Ze r,.int (many:Int)]=some (.tup ((Wv r).map Ze)):=by
 cases r with
 |ifr y s z t=>
  rcases (h:ISg s) with rfl|rfl|rfl|rfl|rfl|rfl<;>rfl
 |_=>rfl
theorem ne_O:ZU .NotEq (Zi y) (Zi z)=some (.bl (!eqO y z)):=by
 have e:ZU .NotEq (Zi y) (Zi z)=some (.bl (!ZF (Zi y) (Zi z))):=by
  cases y<;>cases z<;>rfl
 rw[e,ZbS]
def XG:Row->Li Row
 |.put x y s z=>if eqO y z=true then [] else [.put x z s y]
 |.ifr y s z t=>if eqO y z=true then [] else [.ifr z s y t]
 |_=>[]
theorem Q4:(XG r).length<=1:=by
 cases r<;>simp[XG]
 all_goals split<;>simp
theorem Zgq:Zk T (n+1) 162 [.obj 160,Ze r,.int (many:Int)]=some (.tup ((XG r).map Ze)):=by
 cases r with
 |put x y s z=>
  rw[Zp (f:=c_Swap_turned) rfl rfl rfl];show ZG (px (Zk T n) [] c_Swap_turned.body [some (.obj 160),some (Ze (.put x y s z)),some (.int (many:Int))])=_;unfold c_Swap_turned;cases q:eqO y z
  ·rw[ZJ (v:=.tup [Ze (.put x z s y)]) (by exact ne_O.trans (by rw[q];rfl)) (by rfl)]
   simp only[XG,q];rfl
  ·rw[Zx (by exact ne_O.trans (by rw[q];rfl)),Zx (by rfl),ZB (v:=.tup []) (by rfl)]
   simp only[XG,q];rfl
 |ifr y s z t=>
  rw[Zp (f:=c_Swap_turned) rfl rfl rfl];show ZG (px (Zk T n) [] c_Swap_turned.body [some (.obj 160),some (Ze (.ifr y s z t)),some (.int (many:Int))])=_;unfold c_Swap_turned;cases q:eqO y z
  ·rw[Zx (by rfl),ZJ (v:=.tup [Ze (.ifr z s y t)]) (by exact ne_O.trans (by rw[q];rfl)) (by rfl)]
   simp only[XG,q];rfl
  ·rw[Zx (by rfl),Zx (by exact ne_O.trans (by rw[q];rfl)),ZB (v:=.tup []) (by rfl)]
   simp only[XG,q];rfl
 |_=>rfl
def Vt(many:Nat):Row->Li Row
 |.go t=>if t < many then [.go (t+1)] else []
 |.ifr y s z t=>if t < many then [.ifr y s z (t+1)] else []
 |_=>[]
theorem Zaf:(Vt many r).length<=1:=by
 cases r<;>simp[Vt]
 all_goals split<;>simp
theorem sl2{a b:P}:Ym (.tup [a,b]) Option.none (some (-1))=some (.tup [a]):=rfl
theorem Zil:Zk T (n+1) 165 [.obj 163,Ze r,.int (many:Int)]=some (.tup ((Vt many r).map Ze)):=by
 cases r with
 |go t=>
  rw[Zp (f:=c_Far_turned) rfl rfl rfl];show ZG (px (Zk T n) [] c_Far_turned.body [some (.obj 163),some (Ze (.go t)),some (.int (many:Int))])=_;unfold c_Far_turned;by_cases q:t < many
  ·rw[Zx (by show some (P.bl (decide ((t:Int)>=(many:Int))))=_;rw[decide_eq_false (by omega)]),ZB (v:=.tup [Ze (.go (t+1))]) (by rfl)]
   simp only[Vt,q];rfl
  ·rw[ZJ (v:=.tup []) (by show some (P.bl (decide ((t:Int)>=(many:Int))))=_;rw[decide_eq_true (by omega)]) (by rfl)]
   simp only[Vt,q];rfl
 |ifr y s z t=>
  rw[Zp (f:=c_Far_turned) rfl rfl rfl];show ZG (px (Zk T n) [] c_Far_turned.body [some (.obj 163),some (Ze (.ifr y s z t)),some (.int (many:Int))])=_;unfold c_Far_turned;by_cases q:t < many
  ·rw[Zx (by show some (P.bl (decide ((t:Int)>=(many:Int))))=_;rw[decide_eq_false (by omega)]),ZB (v:=.tup [Ze (.ifr y s z (t+1))]) (by rfl)]
   simp only[Vt,q];rfl
  ·rw[ZJ (v:=.tup []) (by show some (P.bl (decide ((t:Int)>=(many:Int))))=_;rw[decide_eq_true (by omega)]) (by rfl)]
   simp only[Vt,q];rfl
 |_=>rfl
theorem ZfU{M:Li Nat}{k:Nat}{e:CE}{q:CS}{π:Zq}{p:P}{xs:Li P}(h:π[k]?=some (some (.lst true xs)))(he:pe F e π=some p)(hk:(M.contains k&&Zy M e p)=true)(hl:xs.length<=1000):px F M (.seq (.app k e) q) π=px F M q (Zt π k (.lst true (xs++[p]))):=by
 have z:xs.length < Zs:=by unfold Zs;omega
 rw[ZH,Zhp h,he,Ob,if_pos (by rw[hk,decide_eq_true z];rfl),Zz]
def fkR(many:Nat)(r:Row):Li (Str×Row):=
 (Wu r).map (S "sign",·)++((XB r).map (S "more",·)++((Wv r).map (S "turn",·)++((U2 r).map (S "out",·)++((XG r).map (S "swap",·)++(Vt many r).map (S "far",·)))))
def Yz(k:Nat)(q:Str×Row):P:=.tup [.int (k:Int),.str q.1,Ze q.2]
def XY(many:Nat):Nat->Li Row->Li P
 |_,[]=>[]
 |k,r :: rs=>(fkR many r).map (Yz k)++XY many (k+1) rs
theorem Zag:(fkR many r).length<=8:=by
 have h1:(Wu r).length<=1:=by cases r<;>simp[Wu]
 have h2:=Uq (r:=r);have h3:(Wv r).length<=1:=by cases r<;>simp[Wv]
 have h4:(U2 r).length<=1:=by cases r<;>simp[U2]
 have h5:=Q4 (r:=r);have h6:=Zaf (many:=many) (r:=r);simp[fkR];omega
theorem Ug:∀ (rs:Li Row) (k:Nat),(XY many k rs).length<=8 * rs.length
 |[],_=>Nat.le_refl _
 |r :: rs,k=>by
  have h1:=Zag (many:=many) (r:=r);have h2:=Ug rs (k+1);simp only[XY,List.length_append,List.length_map,List.length_cons];omega
theorem Zba{π:Zq}{fr:Li Nat}{it elt:CE}{rs:Li Row}{g:Row->P}(hi:pe F it π=some (.tup (rs.map Ze)))(hl:rs.length<=1000)(hf:∀ r,pe F elt (Y5 π fr (Ze r))=some (g r)):pe F (.comp false fr it elt (.cst (.bl true))) π=some (.lst true (rs.map g)):=by
 have cr:∀ rs:Li Row,Yr (fun p=>pe F elt (Y5 π fr p)) (fun p=>pe F (.cst (.bl true)) (Y5 π fr p)) (rs.map Ze)=some (rs.map g):=fun rs=>by
  induction rs with
  |nil=>rfl
  |cons r rs ih=>
   rw[List.map_cons];unfold Yr;rw[show pe F (.cst (.bl true)) (Y5 π fr (Ze r))=some (.bl true) from rfl,hf];simp only;rw[ih];rfl
 rw[U4,hi,Ob,show YT false (.tup (rs.map Ze))=some (rs.map Ze) from rfl,Ob,if_pos (by rw[List.length_map];exact hl),cr]
 rfl
def Zh2:Li (Nat×Nat):=[(146,148),(169,171),(149,151),(157,159),(152,154),(160,162),(163,165)]
def Zh3:Li (Nat×Nat):=[(146,147),(169,170),(149,150),(157,158),(152,153),(160,161),(163,164)]
theorem Zeo{x0 x2:Ot P}{rows told:Li P}{k i:Nat}{rs:Li Row}{w:Str}(hT:Wr F Zh2 (.obj i) (.tup [Ze r,.int (rows.length:Int)])=some (.tup (rs.map Ze)))(hW:Wr F Zh3 (.obj i) (.tup [])=some (.str w))(hr:rs.length<=10)(ht:told.length<=200) :
  px F [3] XJ [x0,some (.tup rows),x2,some (.lst true told),some (.int (k:Int)),some (Ze r),some (.obj i)]=some (.nx [x0,some (.tup rows),x2,some (.lst true (told++rs.map fun q=>Yz k (w,q))),some (.int (k:Int)),some (Ze r),some (.obj i)]):=by
 unfold Zh2 at hT;unfold Zh3 at hW;have e:pe F Uc [x0,some (.tup rows),x2,some (.lst true told),some (.int (k:Int)),some (Ze r),some (.obj i)]=some (.lst true (rs.map fun q=>Yz k (w,q))):=
  Zba (by first|rfl|simp[hT]) (by omega) fun q=>by
   show pe F _ [some (Ze q),some (.int (k:Int)),some (.obj i)]=_;simp[hW,Yz]
 unfold XJ;rw[ZH,Zhq (xs:=told) (ys:=rs.map fun q=>Yz k (w,q)) rfl e rfl (by rw[List.length_map];unfold Zs;omega),Zz,XU]
 rfl
theorem ZgN{x0 x6:Ot P}{rows told:Li P}{k:Nat}(hS:F 171 [.obj 169,Ze r,.int (rows.length:Int)]=some (.tup ((Wu r).map Ze)))(hM:F 151 [.obj 149,Ze r,.int (rows.length:Int)]=some (.tup ((XB r).map Ze)))(hU:F 159 [.obj 157,Ze r,.int (rows.length:Int)]=some (.tup ((Wv r).map Ze)))(hO:F 154 [.obj 152,Ze r,.int (rows.length:Int)]=some (.tup ((U2 r).map Ze)))(hP:F 162 [.obj 160,Ze r,.int (rows.length:Int)]=some (.tup ((XG r).map Ze)))(hA:F 165 [.obj 163,Ze r,.int (rows.length:Int)]=some (.tup ((Vt rows.length r).map Ze)))(w1:F 170 [.obj 169]=some (.str (S "sign")))(w2:F 150 [.obj 149]=some (.str (S "more")))(w3:F 158 [.obj 157]=some (.str (S "turn")))(w4:F 153 [.obj 152]=some (.str (S "out")))(w5:F 161 [.obj 160]=some (.str (S "swap")))(w6:F 164 [.obj 163]=some (.str (S "far")))(ht:told.length<=150) :
  px F [3] YX [x0,some (.tup rows),some (.lst true [.obj 169,.obj 149,.obj 157,.obj 152,.obj 160,.obj 163]),some (.lst true told),some (.int (k:Int)),some (Ze r),x6]=some (.nx [x0,some (.tup rows),some (.lst true [.obj 169,.obj 149,.obj 157,.obj 152,.obj 160,.obj 163]),some (.lst true (told++(fkR rows.length r).map (Yz k))),some (.int (k:Int)),some (Ze r),some (.obj 163)]):=by
 have h1:(Wu r).length<=1:=by cases r<;>simp[Wu]
 have h2:=Uq (r:=r);have h3:(Wv r).length<=1:=by cases r<;>simp[Wv]
 have h4:(U2 r).length<=1:=by cases r<;>simp[U2]
 have h5:=Q4 (r:=r);have h6:=Zaf (many:=rows.length) (r:=r);have st:∀ {told:Li P}{i:Nat}{rs:Li Row}{w:Str}{x6:Ot P},Wr F Zh2 (.obj i) (.tup [Ze r,.int (rows.length:Int)])=some (.tup (rs.map Ze))->Wr F Zh3 (.obj i) (.tup [])=some (.str w)->rs.length<=10->told.length<=200->
   px F [3] XJ (Zt [x0,some (.tup rows),some (.lst true [.obj 169,.obj 149,.obj 157,.obj 152,.obj 160,.obj 163]),some (.lst true told),some (.int (k:Int)),some (Ze r),x6] 6 (.obj i))=some (.nx [x0,some (.tup rows),some (.lst true [.obj 169,.obj 149,.obj 157,.obj 152,.obj 160,.obj 163]),some (.lst true (told++rs.map fun q=>Yz k (w,q))),some (.int (k:Int)),some (Ze r),some (.obj i)]):=fun a b c d=>Zeo a b c d
 unfold YX;rw[ZH,Zfd (m:=true) (xs:=[.obj 169,.obj 149,.obj 157,.obj 152,.obj 160,.obj 163]) (by first|rfl|simp) (by rfl)]
 rw[Yw,st (i:=169) (rs:=Wu r) (w:=S "sign") hS w1 (by omega) (by omega),Xg]
 rw[Yw,st (i:=149) (rs:=XB r) (w:=S "more") hM w2 (by omega) (by simp;omega),Xg]
 rw[Yw,st (i:=157) (rs:=Wv r) (w:=S "turn") hU w3 (by omega) (by simp;omega),Xg]
 rw[Yw,st (i:=152) (rs:=U2 r) (w:=S "out") hO w4 (by omega) (by simp;omega),Xg]
 rw[Yw,st (i:=160) (rs:=XG r) (w:=S "swap") hP w5 (by omega) (by simp;omega),Xg]
 rw[Yw,st (i:=163) (rs:=Vt rows.length r) (w:=S "far") hA w6 (by omega) (by simp;omega),Xg,ZcN,Zz,XU]
 simp only[fkR,List.map_append,List.map_map,List.append_assoc,Function.comp_def]
theorem Zbh{B:P->P->Zq->Ot PFl}{x y:P}{ps:Li (P×P)}{π:Zq}:Xj B ((x,y) :: ps) π=Q6 (B x y π) (Xj B ps):=by
 show(match B x y π with
  |some (.nx π')=>Xj B ps π'
  |some (.ct π')=>Xj B ps π'
  |some (.bk π')=>some (.nx π')
  |some (.rt v)=>some (.rt v)
  |none=>none)=_
 unfold Q6;rfl
theorem Zah{x0:Ot P}{rows:Li P}{st:P}(row:∀ (r:Row) (told:Li P) (k:Nat) (x6:Ot P),ZaR r->told.length<=150->px F [3] YX [x0,some (.tup rows),some st,some (.lst true told),some (.int (k:Int)),some (Ze r),x6]=some (.nx [x0,some (.tup rows),some st,some (.lst true (told++(fkR rows.length r).map (Yz k))),some (.int (k:Int)),some (Ze r),some (.obj 163)])) :
  ∀ (rs:Li Row) (k:Nat) (told:Li P) (x4 x5 x6:Ot P),(∀ r∈rs,ZaR r)->told.length+8 * rs.length<=150->
  ∃ y4 y5 y6,Xj (fun x y π=>px F [3] YX (Zt (Zt π 4 x) 5 y)) (WH k (rs.map Ze)) [x0,some (.tup rows),some st,some (.lst true told),x4,x5,x6]=some (.nx [x0,some (.tup rows),some st,some (.lst true (told++XY rows.length k rs)),y4,y5,y6])
 |[],k,told,x4,x5,x6,_,_=>⟨x4,x5,x6,by rw[XY,List.append_nil];rfl⟩
 |r :: rs,k,told,x4,x5,x6,h,hl=>by
  have hr:=Zag (many:=rows.length) (r:=r);rw[List.length_cons]at hl;obtain⟨y4,y5,y6,e⟩:=Zah row rs (k+1) (told++(fkR rows.length r).map (Yz k)) (some (.int (k:Int))) (some (Ze r)) (some (.obj 163)) (fun q hq=>h q (Lm _ hq)) (by simp;omega)
  refine⟨y4,y5,y6,?_⟩;show Xj _ ((.int (k:Int),Ze r) :: WH (k+1) (rs.map Ze)) _=_;rw[Zbh];simp only[Zm,Zo];rw[row r told k x6 (h r Ls) (by omega),Xg,e,XY,List.append_assoc]
theorem ZdX{p:Prog}(hg:∀ r∈p.rows,ZaR r)(hl:p.rows.length<=12):Zk T (n+4) 172 [Z1 p]=some (.tup (XY p.rows.length 0 p.rows)):=by
 rw[Zp (f:=c_fakes) rfl rfl rfl];show ZG (px (Zk T (n+3)) [3] c_fakes.body [some (Z1 p),none,none,none,none,none,none])=_;have el:(p.rows.map Ze).length=p.rows.length:=List.length_map ..;obtain⟨y4,y5,y6,e⟩:=Zah (F:=Zk T (n+3)) (x0:=some (Z1 p)) (rows:=p.rows.map Ze) (st:=.lst true [.obj 169,.obj 149,.obj 157,.obj 152,.obj 160,.obj 163]) (fun r told k x6 h hl=>
  ZgN (Zgp (n:=n+1) h) (Zgo (n:=n+1)) (Zgr (n:=n+1) h) (Zim (n:=n+2)) (Zgq (n:=n+2)) (Zil (n:=n+2)) rfl rfl rfl rfl rfl rfl hl) p.rows 0 [] none none none hg (by simp;omega)
 rw[el,List.nil_append]at e;unfold c_fakes;rw[ZH,XT (p:=.tup (p.rows.map Ze)) (by first|rfl|simp[Z1]) rfl rfl,Zz]
 simp only[Zm,Zo];rw[ZH,XT (p:=.lst true [.obj 169,.obj 149,.obj 157,.obj 152,.obj 160,.obj 163]) (by first|rfl|simp) rfl rfl,Zz]
 simp only[Zm,Zo];rw[ZH,W9 (p:=.lst true []) (by first|rfl|simp) rfl rfl,Zz]
 simp only[Zm,Zo];rw[ZH,Zfc (x:=.tup (p.rows.map Ze)) (xs:=p.rows.map Ze) (by first|rfl|simp) rfl rfl,e,Zz,ZB (v:=.tup (XY p.rows.length 0 p.rows)) (by first|rfl|simp)]
 rfl
def fkT(many:Nat):Nat->Li Row->Li (Nat×Str×Row)
 |_,[]=>[]
 |k,r :: rs=>(fkR many r).map (fun q=>(k,q))++fkT many (k+1) rs
theorem Vu:∀ (rs:Li Row) (k:Nat),XY many k rs=(fkT many k rs).map fun t=>Yz t.1 t.2
 |[],_=>rfl
 |r :: rs,k=>by
  rw[XY,fkT,List.map_append,List.map_map,Vu rs (k+1)];rfl
def ROk(m N:Nat)(r:Row):Prop:=J5 m N r/\RSg r
theorem Zfo(h:RSg r):ZaR r:=by
 cases r with
 |put x y s z=>exact h.1
 |ifr y s z t=>exact h
 |_=>trivial
theorem Zg4(h:PSg s):PSg (nxA s):=by
 rcases h with rfl|rfl|rfl|rfl|rfl
 ·exact .inr (.inl rfl)
 ·exact .inr (.inr (.inl rfl))
 ·exact .inr (.inr (.inr (.inl rfl)))
 ·exact .inr (.inr (.inr (.inr rfl)))
 ·exact .inl rfl
theorem Zg5(h:ISg s):ISg (nxB s):=by
 rcases h with rfl|rfl|rfl|rfl|rfl|rfl
 ·exact .inr (.inl rfl)
 ·exact .inr (.inr (.inl rfl))
 ·exact .inr (.inr (.inr (.inl rfl)))
 ·exact .inr (.inr (.inr (.inr (.inl rfl))))
 ·exact .inr (.inr (.inr (.inr (.inr rfl))))
 ·exact .inl rfl
theorem Zeh(h:ISg s):ISg (ZiD s):=by
 rcases h with rfl|rfl|rfl|rfl|rfl|rfl
 ·exact .inr (.inr (.inr (.inl rfl)))
 ·exact .inr (.inr (.inr (.inr (.inl rfl))))
 ·exact .inr (.inr (.inr (.inr (.inr rfl))))
 ·exact .inl rfl
 ·exact .inr (.inl rfl)
 ·exact .inr (.inr (.inl rfl))
theorem YJ{q:Opd}(h:q∈WS y):YA m q/\OSm q:=by
 cases y with
 |name i=>cases h
 |num c=>
  rw[List.mem_singleton.mp h];exact⟨Sm.around,Sm.around⟩
theorem ZgM(h:ROk m many r):∀ q∈fkR many r,ROk m many q.2:=by
 intro q hq;obtain⟨ok,sg⟩:=h;have go:(∃ r',r'∈Wu r++XB r++Wv r++U2 r++XG r++Vt many r/\q.2=r'):=by
  refine⟨q.2,?_,rfl⟩;simp only[fkR,List.mem_append,List.mem_map]at hq ⊢;rcases hq with⟨a,h,rfl⟩|⟨a,h,rfl⟩|⟨a,h,rfl⟩|⟨a,h,rfl⟩|⟨a,h,rfl⟩|⟨a,h,rfl⟩<;>simp[h]
 obtain⟨r',hr,rfl⟩:=go;generalize q.2=r' at hr ⊢;simp only[List.mem_append]at hr;cases r with
 |put x y s z=>
  rcases hr with((((h|h)|h)|h)|h)|h
  ·rw[List.mem_singleton.mp h]
   exact⟨ok,Zg4 sg.1,sg.2⟩
  ·rcases List.mem_append.mp h with h|h
   ·obtain⟨o,ho,rfl⟩:=List.mem_map.mp h
    exact⟨⟨ok.1,(YJ ho).1,ok.2.2⟩,sg.1,(YJ (m:=m) ho).2,sg.2.2⟩
   ·obtain⟨o,ho,rfl⟩:=List.mem_map.mp h
    exact⟨⟨ok.1,ok.2.1,(YJ ho).1⟩,sg.1,sg.2.1,(YJ (m:=m) ho).2⟩
  ·cases h
  ·rw[List.mem_singleton.mp h]
   exact⟨trivial,trivial⟩
  ·replace h:r'∈(if eqO y z=true then [] else [Row.put x z s y]):=h
   split at h
   ·cases h
   ·rw[List.mem_singleton.mp h]
    exact⟨⟨ok.1,ok.2.2,ok.2.1⟩,sg.1,sg.2.2,sg.2.1⟩
  ·cases h
 |ifr y s z t=>
  rcases hr with((((h|h)|h)|h)|h)|h
  ·rw[List.mem_singleton.mp h]
   exact⟨ok,Zg5 sg⟩
  ·rcases List.mem_append.mp h with h|h
   ·obtain⟨o,ho,rfl⟩:=List.mem_map.mp h
    exact⟨⟨(YJ ho).1,ok.2⟩,sg⟩
   ·obtain⟨o,ho,rfl⟩:=List.mem_map.mp h
    exact⟨⟨ok.1,(YJ ho).1,ok.2.2⟩,sg⟩
  ·rw[List.mem_singleton.mp h]
   exact⟨ok,Zeh sg⟩
  ·rw[List.mem_singleton.mp h]
   exact⟨trivial,trivial⟩
  ·replace h:r'∈(if eqO y z=true then [] else [Row.ifr z s y t]):=h
   split at h
   ·cases h
   ·rw[List.mem_singleton.mp h]
    exact⟨⟨ok.2.1,ok.1,ok.2.2⟩,sg⟩
  ·replace h:r'∈(if t < many then [Row.ifr y s z (t+1)] else []):=h
   split at h
   ·rename_i hl
    rw[List.mem_singleton.mp h];exact⟨⟨ok.1,ok.2.1,hl⟩,sg⟩
   ·cases h
 |go t=>
  rcases hr with((((h|h)|h)|h)|h)|h
  ·cases h
  ·cases h
  ·cases h
  ·rw[List.mem_singleton.mp h]
   exact⟨trivial,trivial⟩
  ·cases h
  ·replace h:r'∈(if t < many then [Row.go (t+1)] else []):=h
   split at h
   ·rename_i hl
    rw[List.mem_singleton.mp h];exact⟨hl,trivial⟩
   ·cases h
 |tell y=>
  rcases hr with((((h|h)|h)|h)|h)|h
  ·cases h
  ·obtain⟨o,ho,rfl⟩:=List.mem_map.mp h
   exact⟨(YJ ho).1,trivial⟩
  ·cases h
  ·rw[List.mem_singleton.mp h]
   exact⟨trivial,trivial⟩
  ·cases h
  ·cases h
 |skip=>
  rcases hr with((((h|h)|h)|h)|h)|h<;>cases h
theorem Zce:∀ {rs:Li Row}{k:Nat},(∀ r∈rs,ROk m many r)->∀ t∈fkT many k rs,(k<=t.1/\t.1 < k+rs.length)/\ROk m many t.2.2
 |[],_,_,t,h=>nomatch h
 |r :: rs,k,g,t,h=>by
  rcases List.mem_append.mp h with h|h
  ·obtain⟨q,hq,rfl⟩:=List.mem_map.mp h
   exact⟨⟨Nat.le_refl _,by simp⟩,ZgM (g r Ls) q hq⟩
  ·obtain⟨⟨h1,h2⟩,h3⟩:=Zce (fun q hq=>g q (Lm _ hq)) t h
   exact⟨⟨by omega,by simp;omega⟩,h3⟩
structure PG(p:Prog):Prop where
 rows:∀ r∈p.rows,ROk p.many p.rows.length r
 many:p.many<=100
 size:p.rows.length<=12
theorem PG.ok{p:Prog}(h:PG p):ProgOk p:=⟨fun r hr=>(h.rows r hr).1,h.many,by have:=h.size;omega⟩
def WL(p:Prog)(k:Nat)(r:Row):Prog:=⟨p.takes,p.many,p.rows.set k r⟩
theorem PG.turn{p:Prog}{k:Nat}(h:PG p)(hr:ROk p.many p.rows.length r):PG (WL p k r):=
 ⟨fun q hq=>by
  show ROk p.many (p.rows.set k r).length q;rw[List.length_set];rcases List.mem_or_eq_of_mem_set hq with z|z
  ·exact h.rows q z
  ·rw[z];exact hr,h.many,by show(p.rows.set k r).length<=12;rw[List.length_set];exact h.size⟩
theorem Zgt{p:Prog}{k:Nat}(hk:k < p.rows.length)(hl:p.rows.length<=12):Zk T (n+2) 180 [Z1 p,.int (k:Int),Ze r]=some (Z1 (WL p k r)):=by
 rw[Zp (f:=c_fake_of) rfl rfl rfl];have rp:=YI (T:=T) (n:=n) (xs:=p.rows.map Ze) (x:=k) (q:=Ze r) rfl (by simpa using hk) (by simp;omega)
 rw[<-List.map_set]at rp;exact congrArg ZG (ZB (Zl rfl (Zl rfl (Zl (Zf rfl rp) rfl rfl) rfl) rfl))
theorem Zen{p:Prog}(h:p.rows.length<=12):(fkT p.rows.length 0 p.rows).length<=96:=by
 have:=Ug (many:=p.rows.length) p.rows 0;rw[Vu,List.length_map]at this;omega
variable {p:Prog}
def Wo(k:Nat):Li Row->Li Row
 |[]=>[]
 |r :: rs=>QM k r :: Wo (k+1) rs
def XZ(p:Prog):Prog:=⟨p.takes,p.many,Wo 0 p.rows⟩
theorem V9{f c:P->Ot P}(hc:∀ x,c x=some (.bl true)):∀ {rs:Li Row}{k:Nat},(∀ r∈rs,∀ k:Nat,f (.tup [.int (k:Int),Ze r])=some (Ze (QM k r)))->Yr f c (YK k (rs.map Ze))=some ((Wo k rs).map Ze)
 |[],_,_=>rfl
 |r :: rs,k,h=>by
  show Yr f c (.tup [.int (k:Int),Ze r] :: YK (k+1) (rs.map Ze))=_;unfold Yr;rw[hc,h r Ls k];simp only;rw[V9 hc fun q hq=>h q (Lm _ hq)]
  rfl
theorem Ut:∀ {xs:Li P}{k:Nat},(YK k xs).length=xs.length
 |[],_=>rfl
 |x :: xs,k=>congrArg (·+1) Ut
theorem J4{T:Nat->Ot FD}{n:Nat}(m:MadeT T)(h106:T 106=some c_made)(hl:p.rows.length<=100)(sg:∀ r∈p.rows,RSg r):Zk T (n+6) 106 [Z1 p]=some (Z1 (XZ p)):=by
 rw[Zp (f:=c_made) h106 rfl rfl];have e0:pe (Zk T (n+5)) Wj [some (Z1 p),none]=some (.lst true ((Wo 0 p.rows).map Ze)):=by
  unfold Wj;have cm:=V9 (f:=fun q=>pe (Zk T (n+5)) (.call 83 (.aC (.var 1) (.aC (.var 0) .aN)) []) (Ye Ws [some (Z1 p),none] [] q)) (c:=fun q=>pe (Zk T (n+5)) (.cst (.bl true)) (Ye Ws [some (Z1 p),none] [] q)) (fun _=>rfl) (rs:=p.rows) (k:=0) fun r hr k=>by
   have e:=Zgm (T:=T) (n:=n) (k:=k) m (sg r hr);show pe (Zk T (n+5)) (.call 83 (.aC (.var 1) (.aC (.var 0) .aN)) []) [some (.int (k:Int)),some (Ze r)]=_;simp[e]
  rw[Zc8 (x:=.tup (p.rows.map Ze)) (xs:=p.rows.map Ze) rfl rfl (by rw[Ut,List.length_map];omega),cm]
  rfl
 show ZG (px (Zk T (n+5)) [] (.seq (.set 1 Wj) (.seq (.ret _) .skip)) [some (Z1 p),none])=_;rw[YB e0];simp only[Zm,Zo];rw[ZB (v:=Z1 (XZ p)) (by simp[Z1,XZ])]
 rfl
end
end Dp


namespace Dp
open PySem
section
variable {n:Nat}{F:PFn}{m:Nat}
theorem Zed{ns:Li Int}{k:Nat}{x1 x2 x3 x4 x5 x7:Ot P}(h27:∀ k:Nat,F 27 [.lst false (ns.map .int),.int (k:Int)]=some (.int (Z3 ns k))):∃ c0 c1 c2 c3,pe F Z4 [some (.lst false (ns.map .int)),x1,x2,x3,x4,x5,some (.int (k:Int)),x7]=some (.lst true [.int c0,.int c1,.int c2,.int c3]):=by
 have l4:YD 4=true:=by decide
 have one:∀ j:Nat,pe F (.call 27 (.aC (.var 2) (.aC (.bin .Add (.bin .Add (.cst (.int 4)) (.bin .Mult (.cst (.int 4)) (.var 1))) (.var 0)) .aN)) []) (Y5 [some (.lst false (ns.map .int)),x1,x2,x3,x4,x5,some (.int (k:Int)),x7] [6,0] (.int (j:Int)))=some (.int (Z3 ns (4+4 * k+j))):=fun j=>by
  have e:=h27 (4+4 * k+j);rw[show((4+4 * k+j:Nat):Int)=4+4 * (k:Int)+(j:Int) by omega]at e
  show pe F _ [some (.int (j:Int)),some (.int (k:Int)),some (.lst false (ns.map .int))]=_;simp[l4,e]
 refine⟨Z3 ns (4+4 * k+0),Z3 ns (4+4 * k+1),Z3 ns (4+4 * k+2),Z3 ns (4+4 * k+3),?_⟩;unfold Z4;rw[U4];show((some (P.int 4)).bind fun x=>_)=_
 rw[Ob,show YT true (.int 4)=some [.int ((0:Nat):Int),.int ((1:Nat):Int),.int ((2:Nat):Int),.int ((3:Nat):Int)] from rfl,Ob,if_pos (by first|rfl|simp)]
 have t:∀ p:P,pe F (.cst (.bl true)) (Y5 [some (.lst false (ns.map .int)),x1,x2,x3,x4,x5,some (.int (k:Int)),x7] [6,0] p)=some (.bl true):=fun _=>rfl
 simp only[Yr,t,one,Ob]
theorem Zjh{ns:Li Int}{size k:Nat}{x2 x3 x7:Ot P}{rs:Li Row}(h27:∀ k:Nat,F 27 [.lst false (ns.map .int),.int (k:Int)]=some (.int (Z3 ns k)))(h72:∀ c0 c1 c2 c3,∃ r,ROk m size r/\F 72 [.lst true [.int c0,.int c1,.int c2,.int c3],.int (m:Int),.int (size:Int),.int (k:Int)]=some (Ze r))(hl:rs.length<=100) :
  ∃ r y7,ROk m size r/\px F [2,5] ZA [some (.lst false (ns.map .int)),some (.int (m:Int)),x2,x3,some (.int (size:Int)),some (.lst true (rs.map Ze)),some (.int (k:Int)),x7]=some (.nx [some (.lst false (ns.map .int)),some (.int (m:Int)),x2,x3,some (.int (size:Int)),some (.lst true ((rs++[r]).map Ze)),some (.int (k:Int)),y7]):=by
 obtain⟨c0,c1,c2,c3,ce⟩:=Zed (F:=F) (ns:=ns) (k:=k) (x1:=some (.int (m:Int))) (x2:=x2) (x3:=x3) (x4:=some (.int (size:Int))) (x5:=some (.lst true (rs.map Ze))) (x7:=x7) h27;obtain⟨r,hr,er⟩:=h72 c0 c1 c2 c3;refine⟨r,some (.lst true [.int c0,.int c1,.int c2,.int c3]),hr,?_⟩;unfold ZA;rw[ZH,XT ce rfl rfl,Zz];simp only[Zm,Zo];rw[ZfU (xs:=rs.map Ze) (p:=Ze r) rfl (by simp[er]) rfl (by rw[List.length_map];omega),XU,List.map_append]
 rfl
def Ju(q:P):Prop:=∃ a b:Int,q=.tup [.int a,.int b]
def Zh5:CS:=(.seq (.set 4 (.min (.ix (.lstE (.aC (.cst (.int 7)) (.aC (.cst (.int 12)) .aN))) (.intOf (.cmp .Eq (.bin .Mod (.call 27 (.aC (.var 0) (.aC (.cst (.int 3)) .aN)) []) (.cst (.int 8))) (.cst (.int 5))))) (.bin .FloorDiv (.bin .Sub (.max (.len (.var 0)) (.cst (.int 4))) (.cst (.int 1))) (.cst (.int 4)))))
 (.seq (.set 5 (.lstE .aN))
 (.seq (.for1 6 true (.var 4) ZA)
 (.seq (.ret (.tupE (.aC (.tOf (.var 2)) (.aC (.var 1) (.aC (.tOf (.var 5)) .aN)))))
 .skip))))
theorem Zgu{ns:Li Int}:∃ p:Prog,(PG p/\∃ ts,p.takes=.tup ts/\ts.length<=3/\∀ q∈ts,Ju q)/\Zk T (n+6) 30 [.lst false (ns.map .int)]=some (Z1 p):=by
 rw[Zp (f:=c__law_program_k29) rfl rfl rfl];have h27:∀ k:Nat,Zk T (n+5) 27 [.lst false (ns.map .int),.int (k:Int)]=some (.int (Z3 ns k)):=fun k=>ZdV rfl
 have h18:∀ c,Zk T (n+5) 18 [.int c]=some (.int (nbI c)):=fun c=>Zij rfl
 have e0:Zk T (n+5) 27 [.lst false (ns.map .int),.int 0]=some (.int (Z3 ns 0)):=h27 0;have e1:Zk T (n+5) 27 [.lst false (ns.map .int),.int 1]=some (.int (Z3 ns 1)):=h27 1;have e2:Zk T (n+5) 27 [.lst false (ns.map .int),.int 2]=some (.int (Z3 ns 2)):=h27 2;have e3:Zk T (n+5) 27 [.lst false (ns.map .int),.int 3]=some (.int (Z3 ns 3)):=h27 3;obtain⟨m,em,hm⟩:∃ m:Nat,Z3 ns 0 % 6=(m:Int)/\m<=5:=⟨(Z3 ns 0 % 6).toNat,by omega,by omega⟩
 obtain⟨size,es,hs⟩:∃ size:Nat,size<=12/\∀ x1 x2 x3 x5 x6 x7:Ot P,pe (Zk T (n+5)) (.min (.ix (.lstE (.aC (.cst (.int 7)) (.aC (.cst (.int 12)) .aN))) (.intOf (.cmp .Eq (.bin .Mod (.call 27 (.aC (.var 0) (.aC (.cst (.int 3)) .aN)) []) (.cst (.int 8))) (.cst (.int 5))))) (.bin .FloorDiv (.bin .Sub (.max (.len (.var 0)) (.cst (.int 4))) (.cst (.int 1))) (.cst (.int 4)))) [some (.lst false (ns.map .int)),x1,x2,x3,none,x5,x6,x7]=some (.int (size:Int)):=by
  obtain⟨t,ht,et⟩:∃ t:Int,(t=7\/t=12)/\∀ x1 x2 x3 x5 x6 x7:Ot P,pe (Zk T (n+5)) (.ix (.lstE (.aC (.cst (.int 7)) (.aC (.cst (.int 12)) .aN))) (.intOf (.cmp .Eq (.bin .Mod (.call 27 (.aC (.var 0) (.aC (.cst (.int 3)) .aN)) []) (.cst (.int 8))) (.cst (.int 5))))) [some (.lst false (ns.map .int)),x1,x2,x3,none,x5,x6,x7]=some (.int t):=by
   by_cases h:Z3 ns 3 % 8=5
   ·exact⟨12,.inr rfl,fun _ _ _ _ _ _=>by simp[e3,h]⟩
   ·exact⟨7,.inl rfl,fun _ _ _ _ _ _=>by simp[e3,h]⟩
  obtain⟨size,es,hs⟩:∃ size:Nat,(if ((if (4:Int) > (ns.length:Int) then (4:Int) else (ns.length:Int)) - 1) / 4 < t then ((if (4:Int) > (ns.length:Int) then (4:Int) else (ns.length:Int)) - 1) / 4 else t)=(size:Int)/\size<=12:=by
   refine⟨(if ((if (4:Int) > (ns.length:Int) then (4:Int) else (ns.length:Int)) - 1) / 4 < t then ((if (4:Int) > (ns.length:Int) then (4:Int) else (ns.length:Int)) - 1) / 4 else t).toNat,?_,?_⟩<;>split<;>split<;>omega
  refine⟨size,hs,fun x1 x2 x3 x5 x6 x7=>?_⟩
  have e:pe (Zk T (n+5)) (.max (.len (.var 0)) (.cst (.int 4))) [some (.lst false (ns.map .int)),x1,x2,x3,none,x5,x6,x7]=some (.int (if (4:Int) > (ns.length:Int) then (4:Int) else (ns.length:Int))):=by simp
  rw[Zhh,et,U3,U3,e,<-es];generalize (if (4:Int) > (ns.length:Int) then (4:Int) else (ns.length:Int))=v
  simp
 show ∃ p:Prog,_/\ZG (px (Zk T (n+5)) [2,5] c__law_program_k29.body [some (.lst false (ns.map .int)),none,none,none,none,none,none,none])=some (Z1 p);have tail:∀ (ts:Li P) (x3:Ot P),ts.length<=3->(∀ q∈ts,Ju q)->∃ p:Prog,(PG p/\∃ ts,p.takes=.tup ts/\ts.length<=3/\∀ q∈ts,Ju q)/\px (Zk T (n+5)) [2,5] Zh5 [some (.lst false (ns.map .int)),some (.int (m:Int)),some (.lst true ts),x3,none,none,none,none]=some (.rt (Z1 p)):=fun ts x3 hl1 hq1=>by
  obtain⟨π,ee,rs,z6,z7,⟨hl2,hr2⟩,rfl⟩:=JB (B:=fun d π=>px (Zk T (n+5)) [2,5] ZA (Zt π 6 d)) (fun i π=>∃ (rs:Li Row) (y6 y7:Ot P),(rs.length=i/\∀ r∈rs,ROk m size r)/\π=[some (.lst false (ns.map .int)),some (.int (m:Int)),some (.lst true ts),x3,some (.int (size:Int)),some (.lst true (rs.map Ze)),y6,y7]) (m:=size) (fun i hi π hπ=>by
   obtain⟨rs,y6,y7,⟨hl,hr⟩,rfl⟩:=hπ;obtain⟨r,z7,gr,e⟩:=Zjh (F:=Zk T (n+5)) (ns:=ns) (m:=m) (size:=size) (k:=i) (rs:=rs) (x2:=some (.lst true ts)) (x3:=x3) (x7:=y7) h27 (fun c0 c1 c2 c3=>Zj7 (n:=n+1) Zlg hi) (by omega)
   refine⟨_,e,rs++[r],some (.int (i:Int)),z7,⟨by simp[hl],fun q hq=>?_⟩,rfl⟩
   rcases List.mem_append.mp hq with z|z
   ·exact hr q z
   ·rw[List.mem_singleton.mp z];exact gr) (π:=[some (.lst false (ns.map .int)),some (.int (m:Int)),some (.lst true ts),x3,some (.int (size:Int)),some (.lst true []),none,none]) ⟨[],none,none,⟨rfl,(fun _ z=>nomatch z)⟩,rfl⟩
  refine⟨⟨.tup ts,m,rs⟩,⟨⟨by show ∀ r∈rs,ROk m rs.length r;rw[hl2];exact hr2,by show m<=100;omega,by show rs.length<=12;omega⟩,ts,rfl,hl1,hq1⟩,?_⟩
  unfold Zh5;rw[ZH,XT (p:=.int (size:Int)) (hs _ _ _ _ _ _) rfl rfl,Zz];simp only[Zm,Zo];rw[ZH,W9 (p:=.lst true []) (by rfl) rfl rfl,Zz]
  simp only[Zm,Zo];rw[ZH,Zff (n:=size) (by rfl) (by omega) rfl,ee,Zz,ZB (v:=Z1 ⟨.tup ts,m,rs⟩) (by simp[Z1])]
 show ∃ p:Prog,_/\ZG (px (Zk T (n+5)) [2,5] (.seq (.set 1 _) (.seq (.set 2 _) (.seq (.ite _ _ .skip) Zh5))) [some (.lst false (ns.map .int)),none,none,none,none,none,none,none])=some (Z1 p);have g1:px (Zk T (n+5)) [2,5] (.set 1 (.bin .Mod (.call 27 (.aC (.var 0) (.aC (.cst (.int 0)) .aN)) []) (.cst (.int 6)))) [some (.lst false (ns.map .int)),none,none,none,none,none,none,none]=some (.nx [some (.lst false (ns.map .int)),some (.int (m:Int)),none,none,none,none,none,none]):=by
  rw[XT (p:=.int (m:Int)) (by simp[e0,em]) rfl rfl];rfl
 by_cases hz:m=0
 ·subst hz
  obtain⟨p,hp,e⟩:=tail [] none (by simp) (fun _ z=>nomatch z)
  refine⟨p,hp,?_⟩;rw[ZH,g1,Zz,ZH,W9 (p:=.lst true []) (by rfl) rfl rfl,Zz]
  simp only[Zm,Zo];rw[Zx (by rfl),e]
  rfl
 ·obtain⟨a,b,eab⟩:∃ a b:Int,pe (Zk T (n+5)) (.rs true (.lstE (.aC (.call 18 (.aC (.call 27 (.aC (.var 0) (.aC (.cst (.int 1)) .aN)) []) .aN) []) (.aC (.call 18 (.aC (.call 27 (.aC (.var 0) (.aC (.cst (.int 2)) .aN)) []) .aN) []) .aN)))) [some (.lst false (ns.map .int)),some (.int (m:Int)),some (.lst true []),none,none,none,none,none]=some (.lst true [.int a,.int b]):=by
   by_cases q:nbI (Z3 ns 2) < nbI (Z3 ns 1)
   ·exact⟨nbI (Z3 ns 2),nbI (Z3 ns 1),by simp[e1,e2,h18,q]⟩
   ·exact⟨nbI (Z3 ns 1),nbI (Z3 ns 2),by simp[e1,e2,h18,q]⟩
  obtain⟨p,hp,e⟩:=tail [.tup [.int a,.int b]] (some (.lst true [.int a,.int b])) (by simp) (fun q hq=>⟨a,b,List.mem_singleton.mp hq⟩)
  refine⟨p,hp,?_⟩;rw[ZH,g1,Zz,ZH,W9 (p:=.lst true []) (by rfl) rfl rfl,Zz]
  simp only[Zm,Zo];rw[ZH,U5,show pe (Zk T (n+5)) (.cmp .Gt (.var 1) (.cst (.int 0))) [some (.lst false (ns.map .int)),some (.int (m:Int)),some (.lst true []),none,none,none,none,none]=some (.bl true) by simp;omega,Vb,if_pos rfl,ZH,XT eab rfl rfl,Zz]
  simp only[Zm,Zo];rw[ZfU (xs:=[]) (p:=.tup [.int a,.int b]) rfl (by simp) rfl (by simp),XU,Zz]
  simp only[Zm,Zo,List.nil_append];rw[e];rfl
end
end Dp


namespace Dp
open PySem
def Yo(p:P)(d:D):Prop:=∀ fz st,Rel fz st p d
structure Kp(L:Nat)(st st':Za):Prop where
 len:L<=st'.length
 old:∀ j,j < L->st'[j]?=st[j]?
theorem Kp.trans{L:Nat}{a b c:Za}(x:Kp L a b)(y:Kp L b c):Kp L a c:=⟨y.len,fun j h=>(y.old j h).trans (x.old j h)⟩
theorem Kp.less{L L':Nat}{a b:Za}(x:Kp L a b)(h:L'<=L):Kp L' a b:=⟨Nat.le_trans h x.len,fun j q=>x.old j (Nat.lt_of_lt_of_le q h)⟩
section
variable {F:Nat->Fn}{G:PFn}{fz:Fz}{st st':Za}{π:Zq}{ρ:Env}{e:CE}{p:P}
theorem evA(hF:ZI F G)(b:Bd fz st)(E:EnvAll fz st π ρ)(h:pe G e π=some p)(hn:noL p=true):∃ d st',ev F e ρ st=some (d,st')/\Kp st.length st st'/\Yo p d:=by
 obtain⟨d,st',fz',e1,n1,r1⟩:=Zc hF e π p h fz st ρ b E;exact⟨d,st',e1,⟨n1.len,n1.old⟩,fun _ _=>r1.ofNoL hn⟩
theorem en0{fz:Fz}{st:Za}{ρ:Env}:EnvAll fz st [] ρ:=fun i p h=>nomatch h
theorem enN{fz:Fz}{st:Za}{π:Zq}{ρ:Env}{x:Ot D}(h:EnvAll fz st π ρ):EnvAll fz st (none :: π) (x :: ρ):=fun i p q=>by
 cases i with
 |zero=>exact nomatch q
 |succ i=>exact h i p q
theorem enS{fz:Fz}{st:Za}{π:Zq}{ρ:Env}{p:P}{d:D}(r:Rel fz st p d)(h:EnvAll fz st π ρ):EnvAll fz st (some p :: π) (some d :: ρ):=fun i q z=>by
 cases i with
 |zero=>cases z;exact⟨d,rfl,r⟩
 |succ i=>exact h i q z
theorem QP:Bd (fun _=>False) st:=fun _ h=>h.elim
inductive Gr(st:Za):List (P×List Int)->List D->List Nat->Prop where
 |nil:Gr st [] [] []
 |cons {k:P}{kd:D}{ns:List Int}{j:Nat}{gs:List (P×List Int)}{ks:List D}{js:List Nat} (r:Yo k kd) (h:st[j]?=some (true,ns.map .int)) (t:Gr st gs ks js):Gr st ((k,ns) :: gs) (kd :: ks) (j :: js)
theorem Gr.keep{gs:Li (P×Li Int)}{ks:Li D}{js:Li Nat}(g:Gr st gs ks js)(k:∀ j∈js,st'[j]?=st[j]?):Gr st' gs ks js:=by
 induction g with
 |nil=>exact .nil
 |cons r h _ ih=>exact .cons r ((k _ Ls).trans h) (ih fun j hj=>k j (Lm _ hj))
theorem Gr.lt{gs:Li (P×Li Int)}{ks:Li D}{js:Li Nat}(g:Gr st gs ks js):∀ j∈js,j < st.length:=by
 induction g with
 |nil=>exact fun j h=>nomatch h
 |cons r h _ ih=>
  intro j hj;rcases List.mem_cons.mp hj with rfl|hj
  ·exact(List.getElem?_eq_some_iff.mp h).1
  ·exact ih j hj
theorem Gr.snoc{gs:Li (P×Li Int)}{ks:Li D}{js:Li Nat}{k:P}{kd:D}{ns:Li Int}{j:Nat}(g:Gr st gs ks js)(r:Yo k kd)(h:st[j]?=some (true,ns.map .int)):Gr st (gs++[(k,ns)]) (ks++[kd]) (js++[j]):=by
 induction g with
 |nil=>exact .cons r h .nil
 |cons a b _ ih=>exact .cons a b ih
theorem Gr.len{gs:Li (P×Li Int)}{ks:Li D}{js:Li Nat}(g:Gr st gs ks js):ks.length=gs.length/\js.length=gs.length:=by
 induction g with
 |nil=>exact⟨rfl,rfl⟩
 |cons _ _ _ ih=>exact⟨congrArg (·+1) ih.1,congrArg (·+1) ih.2⟩
def Y8(c:P)(n:Int):Li (P×Li Int)->Li (P×Li Int)
 |[]=>[(c,[n])]
 |g :: r=>if ZF g.1 c=true then (g.1,g.2++[n]) :: r else g :: Y8 c n r
def YC:Li D->Li Nat->Li D
 |k :: ks,j :: js=>.tup [k,.lst j] :: YC ks js
 |_,_=>[]
theorem Ziv{k c:P}{kd cd:D}(hk:Yo k kd)(hc:Yo c cd):ZF k c=Zv kd cd:=Wf (fz:=fun _=>False) (st:=[]) (hk _ _) (hc _ _)
theorem Gr.at{gs:Li (P×Li Int)}{ks:Li D}{js:Li Nat}{c:P}{cd:D}{n:Int}(g:Gr st gs ks js)(hc:Yo c cd) :
  ((YQ cd (YC ks js)=none/\Xw c (gs.map (·.1))=none/\(gs.map (·.1)).any (fun d=>ZF d c)=false)/\Y8 c n gs=gs++[(c,[n])]) \/
  ∃ j i ns,(YQ cd (YC ks js)=some j/\Xw c (gs.map (·.1))=some i/\(gs.map (·.1)).any (fun d=>ZF d c)=true)/\(js[i]?=some j/\j∈js/\st[j]?=some (true,ns.map .int)/\∃ q,(q,ns)∈gs) /\
   ∀ st',st'[j]?=some (true,(ns++[n]).map .int)->(∀ i∈js,i≠j->st'[i]?=st[i]?)->js.Nodup->Gr st' (Y8 c n gs) ks js:=by
 induction g with
 |nil=>exact .inl ⟨⟨rfl,rfl,rfl⟩,rfl⟩
 |@cons k kd ns j gs ks js r h t ih=>
  have eb:=Ziv r hc;have f1:YQ cd (YC (kd :: ks) (j :: js))=if Zv kd cd=true then some j else YQ cd (YC ks js):=rfl
  have f2:Xw c (((k,ns) :: gs).map (·.1))=if ZF k c=true then some 0 else (Xw c (gs.map (·.1))).map (·+1):=rfl
  have f3:Y8 c n ((k,ns) :: gs)=if ZF k c=true then (k,ns++[n]) :: gs else (k,ns) :: Y8 c n gs:=rfl
  have f4:(((k,ns) :: gs).map (·.1)).any (fun d=>ZF d c)=(ZF k c||(gs.map (·.1)).any fun d=>ZF d c):=rfl
  rw[f1,f2,f3,f4,<-eb];by_cases q:ZF k c=true
  ·rw[if_pos q,if_pos q,if_pos q,q]
   refine .inr ⟨j,0,ns,⟨rfl,rfl,rfl⟩,⟨rfl,Ls,h,k,Ls⟩,fun st' h1 h2 nd=>?_⟩
   rw[List.nodup_cons]at nd;exact .cons r h1 (t.keep fun i hi=>h2 i (Lm _ hi) fun z=>nd.1 (z ▸ hi))
  ·rw[if_neg q,if_neg q,if_neg q,Bool.eq_false_iff.mpr q,Bool.false_or]
   rcases ih with⟨⟨a1,a2,a3⟩,a4⟩|⟨j',i,ns',⟨a1,a2,a3⟩,⟨a4,a5,a6,q',a8⟩,a7⟩
   ·exact .inl ⟨⟨a1,by rw[a2];rfl,a3⟩,by rw[a4];rfl⟩
   ·refine .inr ⟨j',i+1,ns',⟨a1,by rw[a2];rfl,a3⟩,⟨a4,Lm _ a5,a6,q',Lm _ a8⟩,fun st' h1 h2 nd=>?_⟩
    rw[List.nodup_cons]at nd;exact .cons r ((h2 j Ls fun z=>nd.1 (z ▸ a5)).trans h) (a7 st' h1 (fun i hi hz=>h2 i (Lm _ hi) hz) nd.2)
theorem UE{c:P}{n:Int}:∀ {gs:Li (P×Li Int)},(Y8 c n gs).length<=gs.length+1/\∀ k,(∀ g∈gs,g.2.length<=k)->∀ g∈Y8 c n gs,g.2.length<=k+1
 |[]=>⟨by simp[Y8],fun k _ g hg=>by rw[List.mem_singleton.mp (show g∈[(c,[n])] from hg)];simp⟩
 |g0 :: gs=>by
  have e:Y8 c n (g0 :: gs)=if ZF g0.1 c=true then (g0.1,g0.2++[n]) :: gs else g0 :: Y8 c n gs:=rfl
  obtain⟨a1,a2⟩:=UE (c:=c) (n:=n) (gs:=gs);rw[e];by_cases q:ZF g0.1 c=true
  ·rw[if_pos q]
   refine⟨by simp,fun k h2 g hg=>?_⟩
   rcases List.mem_cons.mp hg with rfl|hg
   ·have:=h2 g0 Ls
    show(g0.2++[n]).length<=k+1;rw[List.length_append,List.length_singleton];omega
   ·have:=h2 g (Lm _ hg);omega
  ·rw[if_neg q]
   refine⟨by rw[List.length_cons,List.length_cons];omega,fun k h2 g hg=>?_⟩
   rcases List.mem_cons.mp hg with rfl|hg
   ·have:=h2 g Ls;omega
   ·exact a2 k (fun g hg=>h2 g (Lm _ hg)) g hg
def VR(own c:P)(n:Int)(s:Li Int×Li (P×Li Int)):Li Int×Li (P×Li Int):=if ZF c own=true then (s.1++[n],s.2) else (s.1,Y8 c n s.2)
def Uh(own:P):Li P->Nat->Li Int×Li (P×Li Int)->Li Int×Li (P×Li Int)
 |[],_,s=>s
 |c :: cs,k,s=>Uh own cs (k+1) (VR own c (k:Int) s)
def Zdr(s:Li Int×Li (P×Li Int)):P:=.tup [.tup (s.1.map .int),.tup (s.2.map fun g=>.tup (g.2.map .int))]
def QX(s:Li Int×Li (P×Li Int)):D:=.tup [.tup (s.1.map .int),.tup (s.2.map fun g=>.tup (g.2.map .int))]
theorem UR:∀ {ns:Li Int}{fz:Fz}{st:Za},Rels fz st (ns.map P.int) (ns.map D.int)
 |[],_,_=>.nil
 |n :: ns,_,_=>.cons (.int n) UR
theorem Zgd{s:Li Int×Li (P×Li Int)}:Yo (Zdr s) (QX s):=fun fz st=>by
 refine .tup (.cons (.tup UR) (.cons (.tup ?_) .nil));generalize s.2=gs
 induction gs with
 |nil=>exact .nil
 |cons g gs ih=>exact .cons (.tup UR) ih
theorem Zbb{ok:Za->Prop}{gs:Li (P×Li Int)}{ks:Li D}{js:Li Nat}(o:ok st)(g:Gr st gs ks js):Z8 ok (fun d s=>ev F (.tOf (.var 0)) (Yh one ρ [] d) s) (fun d s=>ev F (.cst (.bl true)) (Yh one ρ [] d) s) (js.map D.lst) st=some (gs.map fun g=>.tup (g.2.map .int),st):=by
 induction g with
 |nil=>
  show(open Classical in if ok st then some ([],st) else none)=_
  rw[if_pos o];rfl
 |@cons k kd ns j gs ks js r h t ih=>
  rw[List.map_cons];unfold Z8;rw[if_pos o];have e2:ev F (.tOf (.var 0)) (Yh one ρ [] (.lst j)) st=some (.tup (ns.map .int),st):=by
   show(match st[j]? with
    |some (_,xs)=>some (D.tup xs,st)
    |none=>none)=_
   rw[h]
  show(match ev F (.tOf (.var 0)) (Yh one ρ [] (.lst j)) st with
   |some (y,st2)=>(match Z8 ok (fun d s=>ev F (.tOf (.var 0)) (Yh one ρ [] d) s) (fun d s=>ev F (.cst (.bl true)) (Yh one ρ [] d) s) (js.map D.lst) st2 with
    |some (ys,st3)=>some (y :: ys,st3)
    |none=>none)
   |none=>none)=_
  rw[e2];show(match Z8 ok (fun d s=>ev F (.tOf (.var 0)) (Yh one ρ [] d) s) (fun d s=>ev F (.cst (.bl true)) (Yh one ρ [] d) s) (js.map D.lst) st with
    |some (ys,st3)=>some (D.tup (ns.map .int) :: ys,st3)
    |none=>none)=_
  rw[ih];rfl
end
end Dp


namespace Dp
open PySem
structure Cod(c:P):Prop where
 no:noL c=true
 tp:∃ xs,c=.tup xs
 ok:okP 8 c=true
 key:∀ d,Yo c d->(okN 8 d&&VA d)=true
section
variable {F:Nat->Fn}{G:PFn}{st st' st0:Za}{p own:P}{pD ownD:D}{x4 x5 x6:Ot D}{L0 a b k:Nat}{same:Li Int}{gs:Li (P×Li Int)}{ks:Li D}{js:Li Nat}{f c:P}{fD:D}
structure TI(L0:Nat)(st0 st:Za)(a b k:Nat)(s:List Int×List (P×List Int))(ks:List D)(js:List Nat):Prop where
 sm:st[a]?=some (true,s.1.map .int)
 di:st[b]?=some (true,YC ks js)
 gr:Gr st s.2 ks js
 nd:(a :: b :: js).Nodup
 lo:∀ i∈a :: b :: js,L0<=i
 kp:Kp L0 st0 st
 b1:s.1.length<=k
 b2:s.2.length<=k
 b3:∀ g∈s.2,g.2.length<=k
theorem TI.lt(I:TI L0 st0 st a b k (same,gs) ks js):∀ i∈a :: b :: js,i < st.length:=fun i hi=>by
 rcases List.mem_cons.mp hi with rfl|hi
 ·exact(List.getElem?_eq_some_iff.mp I.sm).1
 ·rcases List.mem_cons.mp hi with rfl|hi
  ·exact(List.getElem?_eq_some_iff.mp I.di).1
  ·exact I.gr.lt i hi
theorem TI.keep(I:TI L0 st0 st a b k (same,gs) ks js)(h:Kp st.length st st'):TI L0 st0 st' a b k (same,gs) ks js:=by
 have l:=I.lt;refine⟨(h.old _ (l a (by simp))).trans I.sm,(h.old _ (l b (by simp))).trans I.di,I.gr.keep fun j hj=>h.old j (l j (by simp[hj])),I.nd,I.lo,I.kp.trans (h.less I.kp.len),I.b1,I.b2,I.b3⟩
theorem Zb7{st:Za}(g:Gr st gs ks js):(YC ks js).length=gs.length:=by
 induction g with
 |nil=>rfl
 |cons _ _ _ ih=>exact congrArg (·+1) ih
theorem Zbg{st:Za}{kd:D}{j:Nat}(g:Gr st gs ks js):YC (ks++[kd]) (js++[j])=YC ks js++[.tup [kd,.lst j]]:=by
 induction g with
 |nil=>rfl
 |cons _ _ _ ih=>exact congrArg (List.cons _) ih
theorem TI.more(I:TI L0 st0 st a b k (same,gs) ks js){v:Int}:TI L0 st0 (st.set a (true,same.map .int++[.int v])) a b (k+1) (same++[v],gs) ks js:=by
 have l:=I.lt;have la:=l a (by simp)
 have nd:=List.nodup_cons.mp I.nd;refine⟨by rw[List.getElem?_set_self la,List.map_append];rfl,?_,I.gr.keep fun j hj=>?_,I.nd,I.lo,I.kp.trans ⟨?_,fun j hj=>?_⟩,?_,Nat.le_succ_of_le I.b2,fun g hg=>Nat.le_succ_of_le (I.b3 g hg)⟩
 ·rw[List.getElem?_set_ne fun z=>nd.1 (by rw[z];simp)];exact I.di
 ·rw[List.getElem?_set_ne fun z=>nd.1 (by rw[z];simp[hj])]
 ·rw[List.length_set];exact I.kp.len
 ·rw[List.getElem?_set_ne fun z=>by have:=I.lo a (by simp);omega]
 ·have:=I.b1
  show(same++[v]).length<=k+1;rw[List.length_append,List.length_singleton];have:same.length<=k:=I.b1;omega
theorem sx{F:Nat->Fn}{a q:CS}{ρ ρ':Env}{st st':Za}(h:ex F a ρ st=some (.nx ρ',st')):ex F (.seq a q) ρ st=ex F q ρ' st':=by
 show Xm (ex F a) (ex F q) ρ st=_;unfold Xm;rw[h]
theorem sx1{F:Nat->Fn}{a:CS}{ρ ρ':Env}{st st':Za}(h:ex F a ρ st=some (.nx ρ',st')):ex F (.seq a .skip) ρ st=some (.nx ρ',st'):=sx h
theorem ix1{F:Nat->Fn}{c:CE}{a b:CS}{ρ:Env}{st st1:Za}{x:Bool}(h:ev F c ρ st=some (.bl x,st1)):ex F (.ite c a b) ρ st=(if x=true then ex F a ρ st1 else ex F b ρ st1):=by
 show QG (ev F c) (ex F a) (ex F b) ρ st=_;unfold QG;rw[h];cases x<;>rfl
theorem ax1{F:Nat->Fn}{e:CE}{i a:Nat}{d:D}{ρ:Env}{st st1 st':Za}(h:ρ[i]?=some (some (.lst a)))(he:ev F e ρ st=some (d,st1))(hp:X3 a d st1=some st'):ex F (.app i e) ρ st=some (.nx ρ,st'):=by
 show Jg i (ev F e) ρ st=_;unfold Jg;rw[h];dsimp only;rw[he];dsimp only;rw[hp]
theorem ax2{F:Nat->Fn}{e e':CE}{a:Nat}{d:D}{ρ:Env}{st st1 st':Za}(h:ev F e ρ st=some (.lst a,st1))(he:ev F e' ρ st1=some (d,st1))(hp:X3 a d st1=some st'):ex F (.app2 e e') ρ st=some (.nx ρ,st'):=by
 show Qh (ev F e) (ev F e') ρ st=_;unfold Qh;rw[h];dsimp only;rw[he];dsimp only;rw[hp]
theorem vx{F:Nat->Fn}{i:Nat}{d:D}{ρ:Env}{st:Za}(h:ρ[i]?=some (some d)):ev F (.var i) ρ st=some (d,st):=by
 show Yj i ρ st=_;unfold Yj;rw[h]
theorem Y9{a:Nat}{d:D}{st:Za}{xs:Li D}(h:st[a]?=some (true,xs))(hl:xs.length<=900):X3 a d st=some (st.set a (true,xs++[d])):=by
 unfold X3;rw[h];show(if xs.length < Zs then _ else _)=_
 rw[if_pos (by unfold Zs;omega)]
theorem ZhW{ρ:Env}{v cD:D}{es:Li D}(h3:ρ[3]?=some (some (.dic b)))(h6:ρ[6]?=some (some cD))(h4:ρ[4]?=some (some v))(okc:(okN 8 cD&&VA cD)=true)(hb:st[b]?=some (true,es))(hl:es.length < 1000) :
  (∀ {j st'},YQ cD es=some j->X3 j v st=some st'->ex F (.seq (.dput 3 (.var 6) (.var 4) .aN) .skip) ρ st=some (.nx ρ,st')) /\
  (YQ cD es=none->∀ {st'},X3 st.length v (st.set b (true,es++[.tup [cD,.lst st.length]])++[(true,[])])=some st'->ex F (.seq (.dput 3 (.var 6) (.var 4) .aN) .skip) ρ st=some (.nx ρ,st')):=by
 have z:ex F (.dput 3 (.var 6) (.var 4) .aN) ρ st=(match YQ cD es with
   |some j=>(match X3 j v st with
    |some st3=>some (Fl.nx ρ,st3)
    |none=>none)
   |none=>(match X3 st.length v (st.set b (true,es++[.tup [cD,.lst st.length]])++[(true,[])]) with
    |some st3=>some (Fl.nx ρ,st3)
    |none=>none)):=by
  show ZdC 3 (ev F (.var 6)) (ev F (.var 4)) ρ st=_;unfold ZdC;rw[h3];dsimp only;rw[vx h6];dsimp only;rw[if_pos okc,hb];dsimp only;rw[if_pos hl,vx h4];dsimp only;rw[vx h4]
  try rfl
 refine⟨fun {j st'} f h=>?_,fun f {st'} h=>?_⟩
 ·rw[f]at z
  dsimp only at z;rw[h]at z;exact sx1 z
 ·rw[f]at z
  dsimp only at z;rw[h]at z;exact sx1 z
theorem TI.new{cD:D}(I:TI L0 st0 st a b k (same,gs) ks js)(rc:Yo c cD):TI L0 st0 (st.set b (true,YC ks js++[.tup [cD,.lst st.length]])++[(true,[.int (k:Int)])]) a b (k+1) (same,gs++[(c,[(k:Int)])]) (ks++[cD]) (js++[st.length]):=by
 have nd1:=List.nodup_cons.mp I.nd;have nd2:=List.nodup_cons.mp nd1.2;have lb:=I.lt b (by simp)
 have la:=I.lt a (by simp)
 have old:∀ i,i < st.length->i≠b->(st.set b (true,YC ks js++[.tup [cD,.lst st.length]])++[((true,[.int (k:Int)]):Yi)])[i]?=st[i]?:=fun i hi hz=>by
  rw[List.getElem?_append_left (by rw[List.length_set];exact hi),List.getElem?_set_ne (fun z=>hz z.symm)]
 have jl:=fun j hj=>I.lt j (Lm _ (Lm _ hj))
 refine⟨(old a la fun z=>nd1.1 (by rw[z];simp)).trans I.sm,?_,?_,?_,?_,I.kp.trans ⟨?_,fun j hj=>?_⟩,Nat.le_succ_of_le I.b1,?_,?_⟩
 ·rw[List.getElem?_append_left (by rw[List.length_set];exact lb),List.getElem?_set_self lb,Zbg I.gr]
 ·refine(I.gr.keep fun j hj=>old j (jl j hj) fun z=>nd2.1 (z ▸ hj)).snoc rc ?_
  rw[List.getElem?_append_right (by rw[List.length_set];exact Nat.le_refl _),List.length_set,Nat.sub_self];rfl
 ·have:(a :: b :: (js++[st.length]))=(a :: b :: js)++[st.length]:=rfl
  rw[this,List.nodup_append];refine⟨I.nd,by simp,fun x hx y hy z=>?_⟩
  have:=I.lt x hx;rw[List.mem_singleton.mp hy]at z;omega
 ·intro i hi
  have:(a :: b :: (js++[st.length]))=(a :: b :: js)++[st.length]:=rfl;rw[this]at hi;rcases List.mem_append.mp hi with z|z
  ·exact I.lo i z
  ·rw[List.mem_singleton.mp z];exact I.kp.len
 ·rw[List.length_append,List.length_set];have:=I.kp.len;omega
 ·have:=I.kp.len
  exact old j (by omega) fun z=>by have:=I.lo b (by simp);omega
 ·have:gs.length<=k:=I.b2
  show(gs++[(c,[(k:Int)])]).length<=k+1;rw[List.length_append,List.length_singleton];omega
 ·intro g hg
  rcases List.mem_append.mp (show g∈gs++[(c,[(k:Int)])] from hg) with z|z
  ·exact Nat.le_succ_of_le (I.b3 g z)
  ·rw[List.mem_singleton.mp z];simp
theorem Zlh{ρ:Env}{cD:D}(hF:ZI F G)(hk:k<=900)(I:TI L0 st0 st a b k (same,gs) ks js)(ho:Yo own ownD)(rc:Yo c cD)(co:Cod own)(cc:Cod c)(E:EnvAll (fun _=>False) st [none,some own,none,none,none,none,some c] ρ)(h2:ρ[2]?=some (some (.lst a)))(h3:ρ[3]?=some (some (.dic b)))(h4:ρ[4]?=some (some (.int (k:Int))))(h6:ρ[6]?=some (some cD)) :
  ∃ st' ks' js',ex F (.ite (.cmp .Eq (.var 6) (.var 1)) (.seq (.app 2 (.var 4)) .skip) (.seq (.dput 3 (.var 6) (.var 4) .aN) .skip)) ρ st=some (.nx ρ,st')/\TI L0 st0 st' a b (k+1) (VR own c (k:Int) (same,gs)) ks' js':=by
 obtain⟨xs,hx⟩:=cc.tp;obtain⟨ys,hy⟩:=co.tp;obtain⟨bd,st2,e2,k2,rb⟩:=evA (e:=.cmp .Eq (.var 6) (.var 1)) (p:=.bl (ZF c own)) hF (QP (st:=st)) E (by
   have z:ZU .Eq c own=some (.bl (ZF c own)):=by
    rw[hx,hy];exact W4 (by rw[<-hx];exact cc.ok) (by rw[<-hy];exact co.ok)
   exact z) rfl
 have I2:=I.keep k2;have rb':=rb (fun _=>False) []
 have bs:same.length<=k:=I.b1;have bg:gs.length<=k:=I.b2;unfold VR;cases hq:ZF c own with
 |true=>
  rw[hq]at rb';cases rb';exact⟨_,ks,js,(ix1 e2).trans (sx1 (ax1 h2 (vx h4) (Y9 I2.sm (by rw[List.length_map];exact Nat.le_trans bs hk)))),I2.more⟩
 |false=>
  rw[hq]at rb';cases rb';rw[if_neg Bf];have hes:(YC ks js).length < 1000:=by rw[Zb7 I2.gr];exact Nat.lt_of_le_of_lt (Nat.le_trans bg hk) (by decide)
  have sd:=ZhW (F:=F) h3 h6 h4 (cc.key cD rc) I2.di hes;rcases I2.gr.at (n:=(k:Int)) rc with⟨⟨f1,_,_⟩,f4⟩|⟨j,i,ns,⟨f1,_,_⟩,⟨_,f5,f6,q,f8⟩,f7⟩
  ·rw[f4]
   refine⟨_,_,_,(ix1 e2).trans (sd.2 f1 ?_),I2.new rc⟩;have g:(st2.set b (true,YC ks js++[.tup [cD,.lst st2.length]])++[((true,[]):Yi)])[st2.length]?=some (true,[]):=by
    rw[List.getElem?_append_right (by rw[List.length_set];exact Nat.le_refl _),List.length_set,Nat.sub_self];rfl
   rw[Y9 g (by decide),List.set_append_right _ _ (by rw[List.length_set];exact Nat.le_refl _),List.length_set,Nat.sub_self]
   rfl
  ·have lj:=I2.lt j (Lm _ (Lm _ f5))
   have nd1:=List.nodup_cons.mp I.nd;have nd2:=List.nodup_cons.mp nd1.2;obtain⟨a1,a2⟩:=UE (c:=c) (n:=(k:Int)) (gs:=gs);refine⟨_,ks,js,(ix1 e2).trans (sd.1 f1 (Y9 f6 (by rw[List.length_map];exact Nat.le_trans (I.b3 _ f8) hk))),⟨?_,?_,f7 _ (by rw[List.getElem?_set_self lj,List.map_append];rfl) (fun i hi hz=>by rw[List.getElem?_set_ne fun z=>hz z.symm]) nd2.2,I.nd,I.lo,I2.kp.trans ⟨?_,fun i hi=>?_⟩,Nat.le_succ_of_le I2.b1,?_,a2 k I.b3⟩⟩
   ·rw[List.getElem?_set_ne fun z=>nd1.1 (by rw[<-z];simp[f5])];exact I2.sm
   ·rw[List.getElem?_set_ne fun z=>nd2.1 (by rw[<-z];exact f5)];exact I2.di
   ·rw[List.length_set];exact I2.kp.len
   ·rw[List.getElem?_set_ne fun z=>by have:=I.lo j (Lm _ (Lm _ f5));omega]
   ·show(Y8 c (k:Int) gs).length<=k+1
    omega
theorem J1(hF:ZI F G)(hk:k<=900)(I:TI L0 st0 st a b k (same,gs) ks js)(hp:Yo p pD)(ho:Yo own ownD)(hf:Yo f fD)(co:Cod own)(cc:Cod c)(he:pe G (.call 106 (.aC (.call 180 (.aC (.var 0) (.aC (.ix (.var 5) (.cst (.int 0))) (.aC (.ix (.var 5) (.cst (.int 2))) .aN))) []) .aN) []) [some p,none,none,none,none,some f,none]=some c) :
  ∃ cD st' ks' js',ex F ZN [some pD,some ownD,some (.lst a),some (.dic b),some (.int (k:Int)),some fD,x6] st=some (.nx [some pD,some ownD,some (.lst a),some (.dic b),some (.int (k:Int)),some fD,some cD],st')/\TI L0 st0 st' a b (k+1) (VR own c (k:Int) (same,gs)) ks' js':=by
 obtain⟨cD,st1,e1,k1,rc⟩:=evA (ρ:=[some pD,some ownD,some (.lst a),some (.dic b),some (.int (k:Int)),some fD,x6]) hF (QP (st:=st)) (enS (hp _ _) (enN (enN (enN (enN (enS (hf _ _) (enN en0))))))) he cc.no;obtain⟨st2,ks2,js2,e2,J⟩:=Zlh (ρ:=[some pD,some ownD,some (.lst a),some (.dic b),some (.int (k:Int)),some fD,some cD]) hF hk (I.keep k1) ho rc co cc (enN (enS (ho _ _) (enN (enN (enN (enN (enS (rc _ _) en0))))))) rfl rfl rfl rfl
 refine⟨cD,st2,ks2,js2,(sx (a:=.set 6 _) ?_).trans (sx1 e2),J⟩;show Xn 6 (ev F _) _ st=_;unfold Xn;rw[e1];rfl
end
end Dp


namespace Dp
open PySem
section
variable {F:Nat->Fn}{G:PFn}{st st' st0:Za}{p own:P}{pD ownD:D}{L0 a b k:Nat}{same:Li Int}{gs:Li (P×Li Int)}{ks:Li D}{js:Li Nat}
inductive RelP:List (P×P)->List D->Prop where
 |nil:RelP [] []
 |cons {f c:P}{d:D}{qs:List (P×P)}{ds:List D} (h:Yo f d) (r:RelP qs ds):RelP ((f,c) :: qs) (d :: ds)
theorem U8{fz:Fz}:∀ {qs:Li (P×P)}{ds:Li D},Rels fz st (qs.map (·.1)) ds->X7 (qs.map (·.1))=true->RelP qs ds
 |[],_,h,_=>by cases h;exact .nil
 | (f,c) :: qs,_,h,hn=>by
  cases h with
  |cons h r=>
   have hn:(noL f&&X7 (qs.map (·.1)))=true:=hn;rw[Ba]at hn;exact .cons (fun _ _=>h.ofNoL hn.1) (U8 r hn.2)
theorem VW(hF:ZI F G)(hp:Yo p pD)(ho:Yo own ownD)(co:Cod own):∀ {qs:Li (P×P)}{ds:Li D}{k:Nat}{s:Li Int×Li (P×Li Int)}{ks:Li D}{js:Li Nat}{st:Za}{x4 x5 x6:Ot D},RelP qs ds->
  (∀ q∈qs,Cod q.2/\pe G (.call 106 (.aC (.call 180 (.aC (.var 0) (.aC (.ix (.var 5) (.cst (.int 0))) (.aC (.ix (.var 5) (.cst (.int 2))) .aN))) []) .aN) []) [some p,none,none,none,none,some q.1,none]=some q.2)->k+qs.length<=900->TI L0 st0 st a b k s ks js->
  ∃ st' ks' js' y4 y5 y6,Z0 (fun _=>True) (fun x y ρ s=>ex F ZN (Zr (Zr ρ 4 x) 5 y) s) (Xu k ds) [some pD,some ownD,some (.lst a),some (.dic b),x4,x5,x6] st=some (.nx [some pD,some ownD,some (.lst a),some (.dic b),y4,y5,y6],st')/\TI L0 st0 st' a b (k+qs.length) (Uh own (qs.map (·.2)) k s) ks' js'
 |_,_,k,s,ks,js,st,x4,x5,x6,.nil,_,_,I=>⟨st,ks,js,x4,x5,x6,by
   show Z0 (fun _=>True) (fun x y ρ s=>ex F ZN (Zr (Zr ρ 4 x) 5 y) s) [] _ st=_
   unfold Z0;rw[if_pos trivial],I⟩
 |_,_,k,(same,gs),ks,js,st,x4,x5,x6,@RelP.cons f c d qs ds h r,hq,hk,I=>by
  rw[List.length_cons]at hk;obtain⟨cc,he⟩:=hq (f,c) Ls;obtain⟨cD,st1,ks1,js1,e1,I1⟩:=J1 (x6:=x6) hF (by omega) I hp ho h co cc he
  obtain⟨st2,ks2,js2,y4,y5,y6,e2,I2⟩:=VW hF hp ho co (x4:=some (.int (k:Int))) (x5:=some d) (x6:=some cD) r (fun q hq'=>hq q (Lm _ hq')) (by omega) I1
  refine⟨st2,ks2,js2,y4,y5,y6,?_,by rw[List.length_cons,show k+(qs.length+1)=k+1+qs.length by omega];exact I2⟩
  show Z0 (fun _=>True) (fun x y ρ s=>ex F ZN (Zr (Zr ρ 4 x) 5 y) s) ((.int (k:Int),d) :: Xu (k+1) ds) _ st=_
  unfold Z0;rw[if_pos trivial];have e1:ex F ZN (Zr (Zr [some pD,some ownD,some (.lst a),some (.dic b),x4,x5,x6] 4 (.int (k:Int))) 5 d) st=_:=e1;show(match ex F ZN (Zr (Zr [some pD,some ownD,some (.lst a),some (.dic b),x4,x5,x6] 4 (.int (k:Int))) 5 d) st with
   |some (.nx ρ',st')=>Z0 (fun _=>True) (fun x y ρ s=>ex F ZN (Zr (Zr ρ 4 x) 5 y) s) (Xu (k+1) ds) ρ' st'
   |some (.ct ρ',st')=>Z0 (fun _=>True) (fun x y ρ s=>ex F ZN (Zr (Zr ρ 4 x) 5 y) s) (Xu (k+1) ds) ρ' st'
   |some (.bk ρ',st')=>some (.nx ρ',st')
   |some (.rt v,st')=>some (.rt v,st')
   |none=>none)=_
  rw[e1];exact e2
theorem ZbK{st:Za}(g:Gr st gs ks js):XI (YC ks js)=some (js.map D.lst):=by
 induction g with
 |nil=>rfl
 |cons _ _ _ ih=>
  show(XI _).map _=_;rw[ih];rfl
theorem Ua{ρ:Env}{fi:Ev}{x:D}{ok:Za->Prop}(h1:fi ρ st=some (x,st))(h2:WV false x st=some (js.map D.lst,ok))(o:ok st)(g:Gr st gs ks js)(hl:gs.length<=1000):Xq one (WV false) [] fi (ev F (.tOf (.var 0))) (ev F (.cst (.bl true))) ρ st=some (.lst st.length,st++[(true,gs.map fun g=>.tup (g.2.map .int))]):=by
 unfold Xq;rw[h1];show(match WV false x st with
  |some (xs,ok)=>if xs.length<=1000 then
    match Z8 ok (fun d s=>ev F (.tOf (.var 0)) (Yh one ρ [] d) s) (fun d s=>ev F (.cst (.bl true)) (Yh one ρ [] d) s) xs st with
    |some (ys,st2)=>some (D.lst st2.length,st2++[(true,ys)])
    |none=>none
   else none
  |none=>none)=_
 rw[h2];show(if (js.map D.lst).length<=1000 then _ else none)=_
 rw[if_pos (by rw[List.length_map,g.len.2];exact hl),Zbb o g]
theorem ZaM{ρ:Env}{e:CE}{i:Nat}{s:Li Int×Li (P×Li Int)}(h1:ρ[i]?=some (some (.lst a)))(h2:st[a]?=some (true,s.1.map .int))(h3:ev F e ρ st=some (.lst st.length,st++[(true,s.2.map fun g=>.tup (g.2.map .int))])):ev F (.tupE (.aC (.tOf (.var i)) (.aC (.tOf e) .aN))) ρ st=some (QX s,st++[(true,s.2.map fun g=>.tup (g.2.map .int))]):=by
 have e1:ev F (.tOf (.var i)) ρ st=some (.tup (s.1.map .int),st):=by
  show ZC (Yj i) XH ρ st=_;unfold ZC Yj;rw[h1];show(match st[a]? with
   |some (_,xs)=>some (D.tup xs,st)
   |none=>none)=_
  rw[h2]
 have e2:ev F (.tOf e) ρ st=some (.tup (s.2.map fun g=>.tup (g.2.map .int)),st++[(true,s.2.map fun g=>.tup (g.2.map .int))]):=by
  show ZC (ev F e) XH ρ st=_;unfold ZC;rw[h3];show(match (st++[((true,s.2.map fun(g:P×Li Int)=>D.tup (g.2.map .int)):Yi)])[st.length]? with
   |some (_,xs)=>some (D.tup xs,st++[(true,s.2.map fun(g:P×Li Int)=>D.tup (g.2.map .int))])
   |none=>none)=_
  rw[List.getElem?_append_right (Nat.le_refl _),Nat.sub_self];rfl
 show ZQ (ev F (.tOf (.var i))) (ZQ (ev F (.tOf e)) (evC (.tup [])) Ys) Ys ρ st=_;unfold ZQ;rw[e1];show(match (match ev F (.tOf e) ρ st with
  |some (x,st1)=>Ys x (.tup []) st1
  |none=>none) with
  |some (y,st2)=>Ys (.tup (s.1.map .int)) y st2
  |none=>none)=_
 rw[e2];rfl
theorem ZbJ(hF:ZI F G){qs:Li (P×P)}(hp:Yo p pD)(co:Cod own)(np:noL p=true)(h106:G 106 [p]=some own)(h172:G 172 [p]=some (.tup (qs.map (·.1))))(nf:X7 (qs.map (·.1))=true)(hq:∀ q∈qs,Cod q.2/\pe G (.call 106 (.aC (.call 180 (.aC (.var 0) (.aC (.ix (.var 5) (.cst (.int 0))) (.aC (.ix (.var 5) (.cst (.int 2))) .aN))) []) .aN) []) [some p,none,none,none,none,some q.1,none]=some q.2)(hl:qs.length<=900) :
  ∃ st',fnD F c_twins [pD] st=some (QX (Uh own (qs.map (·.2)) 0 ([],[])),st')/\Kp st.length st st':=by
 have En:∀ (st:Za) (x1 x2 x3 x4 x5 x6:Ot D),EnvAll (fun _=>False) st [some p,none,none,none,none,none,none] [some pD,x1,x2,x3,x4,x5,x6]:=fun st x1 x2 x3 x4 x5 x6=>(enS (hp _ _) (enN (enN (enN (enN (enN (enN en0)))))))
 obtain⟨ownD,st1,e1,k1,ro⟩:=evA (e:=.call 106 (.aC (.var 0) .aN) []) hF (QP (st:=st)) (En st none none none none none none) (by simp[h106]) co.no
 obtain⟨d,st4,e4,k4,rf⟩:=evA (e:=.call 172 (.aC (.var 0) .aN) []) (p:=.tup (qs.map (·.1))) hF (QP (st:=st1++[(true,[])]++[(true,[])])) (En _ (some ownD) (some (.lst st1.length)) (some (.dic (st1++[((true,[]):Yi)]).length)) none none none) (by simp[h172]) nf
 obtain⟨ds,rfl,rs⟩:∃ ds,d=.tup ds/\Rels (fun _=>False) ([]:Za) (qs.map (·.1)) ds:=by
  have r:=rf (fun _=>False) []
  cases r with
  |tup r=>exact⟨_,rfl,r⟩
 have ZcJ:(st1++[((true,[]):Yi)]++[((true,[]):Yi)]).length=st1.length+2:=by simp
 have lb:(st1++[((true,[]):Yi)]).length=st1.length+1:=by simp
 rw[ZcJ]at k4;rw[lb]at e4;have I0:TI st.length st st4 st1.length (st1.length+1) 0 ([],[]) [] []:=by
  refine⟨(k4.old _ (by omega)).trans ?_,(k4.old _ (by omega)).trans ?_,.nil,by simp,fun i hi=>?_,k1.trans ⟨?_,fun j hj=>(k4.old j ?_).trans ?_⟩,Nat.le_refl _,Nat.le_refl _,fun g hg=>nomatch hg⟩
  ·rw[List.getElem?_append_left (by simp),List.getElem?_append_right (Nat.le_refl _),Nat.sub_self];rfl
  ·rw[List.getElem?_append_right (by simp),show st1.length+1 - (st1++[((true,[]):Yi)]).length=0 by simp];rfl
  ·have:=k1.len
   rcases List.mem_cons.mp hi with rfl|hi
   ·exact this
   ·rw[List.mem_singleton.mp hi];omega
  ·have:=k1.len;have:=k4.len;omega
  ·have:=k1.len;omega
  ·have:=k1.len
   rw[List.getElem?_append_left (by simp;omega),List.getElem?_append_left (by omega)]
 obtain⟨st5,ks,js,y4,y5,y6,e5,I5⟩:=VW hF hp ro co (x4:=none) (x5:=none) (x6:=none) (U8 rs nf) hq (by omega) I0
 generalize hs:Uh own (qs.map (·.2)) 0 ([],[])=s at I5;have hgl:s.2.length<=1000:=by have:=I5.b2;omega
 have e6:ev F Y1 [some pD,some ownD,some (.lst st1.length),some (.dic (st1.length+1)),y4,y5,y6] st5=some (.lst st5.length,st5++[(true,s.2.map fun g=>.tup (g.2.map .int))]):=by
  refine Ua (x:=.dct [] (.dic (st1.length+1) :: js.map D.lst)) (ok:=fun s=>s[st1.length+1]?=some (true,YC ks js)) ?_ ?_ I5.di I5.gr hgl
  ·show(match st5[st1.length+1]? with
    |some (true,es)=>(XI es).map fun vs=>(D.dct [] (.dic (st1.length+1) :: vs),st5)
    |_=>none)=_
   rw[I5.di];show(XI (YC ks js)).map _=_;rw[ZbK I5.gr];rfl
  ·show(match st5[st1.length+1]? with
    |some c=>some (js.map D.lst,fun s=>s[st1.length+1]?=some c)
    |none=>none)=_
   rw[I5.di]
 have e7:=ZaM (F:=F) (i:=2) (e:=Y1) (ρ:=[some pD,some ownD,some (.lst st1.length),some (.dic (st1.length+1)),y4,y5,y6]) (s:=s) rfl I5.sm e6;refine⟨st5++[(true,s.2.map fun g=>.tup (g.2.map .int))],?_,⟨?_,fun j hj=>?_⟩⟩
 rotate_left
 ·have:=I5.kp.len;rw[List.length_append];omega
 ·have:=I5.kp.len;rw[List.getElem?_append_left (by omega)];exact I5.kp.old j hj
 ·have z:ex F c_twins.body [some pD,none,none,none,none,none,none] st=some (.rt (QX s),st5++[(true,s.2.map fun g=>.tup (g.2.map .int))]):=by
   unfold c_twins;show Xm (Xn 1 (ev F (.call 106 (.aC (.var 0) .aN) []))) _ _ st=_;unfold Xm Xn;rw[e1];show Xm (WP 4 5 (ev F (.call 172 (.aC (.var 0) .aN) [])) (ex F ZN)) _ [some pD,some ownD,some (.lst st1.length),some (.dic (st1++[((true,[]):Yi)]).length),none,none,none] (st1++[(true,[])]++[(true,[])])=_;rw[lb];unfold Xm WP;rw[e4];show(match Z0 (fun _=>True) (fun x y ρ s=>ex F ZN (Zr (Zr ρ 4 x) 5 y) s) (Xu 0 ds) [some pD,some ownD,some (.lst st1.length),some (.dic (st1.length+1)),none,none,none] st4 with
    |some (.nx ρ',st')=>ex F (.seq (.ret (.tupE (.aC (.tOf (.var 2)) (.aC (.tOf Y1) .aN)))) .skip) ρ' st'
    |r=>r)=_
   rw[e5];show(match (match ev F (.tupE (.aC (.tOf (.var 2)) (.aC (.tOf Y1) .aN))) [some pD,some ownD,some (.lst st1.length),some (.dic (st1.length+1)),y4,y5,y6] st5 with
    |some (d,st')=>some (Fl.rt d,st')
    |none=>none) with
    |some (.nx ρ',st')=>some (Fl.nx ρ',st')
    |r=>r)=_
   rw[e7]
  show(match ex F c_twins.body [some pD,none,none,none,none,none,none] st with
   |some (.rt d,st')=>some (d,st')
   |some (.nx _,st')=>some (.non,st')
   |_=>none)=_
  rw[z]
end
end Dp


namespace Dp
open PySem
def Qi:CS:=(.seq (.set 10 (.call 106 (.aC (.call 180 (.aC (.var 1) (.aC (.var 7) (.aC (.var 9) .aN))) []) .aN) []))
 (.seq (.ite (.cmp .Eq (.var 10) (.var 2)) (.seq (.app 3 (.var 6))
 .skip) (.seq (.ite (.cmp .In (.var 10) (.var 4)) (.seq (.app2 (.ix (.var 5) (.tix (.var 4) (.aC (.var 10) .aN))) (.var 6))
 .skip) (.seq (.app 4 (.var 10))
 (.seq (.app 5 (.lstE (.aC (.var 6) .aN)))
 .skip)))
 .skip))
 (.seq (.set 6 (.bin .Add (.var 6) (.cst (.int 1))))
 .skip)))
section
variable {F:Nat->Fn}{G:PFn}{st st':Za}{p own:P}{pD ownD:D}{x0 x10:Ot D}{a c g k:Nat}{same:Li Int}{gs:Li (P×Li Int)}{ks:Li D}{js:Li Nat}{w:Str}{cc r:P}{kD rD:D}{j0:Nat}
structure LI(st:Za)(a c g k:Nat)(s:List Int×List (P×List Int))(ks:List D)(js:List Nat):Prop where
 sm:st[a]?=some (true,s.1.map .int)
 co:st[c]?=some (true,ks)
 gp:st[g]?=some (true,js.map .lst)
 gr:Gr st s.2 ks js
 nd:(a :: c :: g :: js).Nodup
 b1:s.1.length<=k
 b2:s.2.length<=k
 b3:∀ g∈s.2,g.2.length<=k
 ok:Yy 8 (s.2.map (·.1))=true
theorem LI.lt(I:LI st a c g k (same,gs) ks js):∀ i∈a :: c :: g :: js,i < st.length:=fun i hi=>by
 rcases List.mem_cons.mp hi with rfl|hi
 ·exact(List.getElem?_eq_some_iff.mp I.sm).1
 ·rcases List.mem_cons.mp hi with rfl|hi
  ·exact(List.getElem?_eq_some_iff.mp I.co).1
  ·rcases List.mem_cons.mp hi with rfl|hi
   ·exact(List.getElem?_eq_some_iff.mp I.gp).1
   ·exact I.gr.lt i hi
theorem LI.keep(I:LI st a c g k (same,gs) ks js)(h:Kp st.length st st'):LI st' a c g k (same,gs) ks js:=by
 have l:=I.lt;exact⟨(h.old _ (l a (by simp))).trans I.sm,(h.old _ (l c (by simp))).trans I.co,(h.old _ (l g (by simp))).trans I.gp,I.gr.keep fun j hj=>h.old j (l j (by simp[hj])),I.nd,I.b1,I.b2,I.b3,I.ok⟩
theorem Zeq{fz:Fz}{st1:Za}(gg:Gr st gs ks js):Rels fz st1 (gs.map (·.1)) ks:=by
 induction gg with
 |nil=>exact .nil
 |cons r _ _ ih=>exact .cons (r _ _) ih
theorem U0{k:P}{n:Int}(hk:okP 8 k=true):∀ {gs:Li (P×Li Int)},Yy 8 (gs.map (·.1))=true->Yy 8 ((Y8 k n gs).map (·.1))=true
 |[],_=>by show(okP 8 k&&true)=true;rw[hk];rfl
 |g0 :: gs,h=>by
  have h':(okP 8 g0.1&&Yy 8 (gs.map (·.1)))=true:=h;rw[Ba]at h';have e:Y8 k n (g0 :: gs)=if ZF g0.1 k=true then (g0.1,g0.2++[n]) :: gs else g0 :: Y8 k n gs:=rfl
  rw[e];split
  ·exact h
  ·show(okP 8 g0.1&&Yy 8 ((Y8 k n gs).map (·.1)))=true
   rw[h'.1,U0 hk h'.2];rfl
def Ziu:CS:=.ite (.cmp .Eq (.var 10) (.var 2)) (.seq (.app 3 (.var 6)) .skip) (.seq (.ite (.cmp .In (.var 10) (.var 4)) (.seq (.app2 (.ix (.var 5) (.tix (.var 4) (.aC (.var 10) .aN))) (.var 6)) .skip) (.seq (.app 4 (.var 10)) (.seq (.app 5 (.lstE (.aC (.var 6) .aN))) .skip))) .skip)
theorem ZcQ{ρ:Env}(hk:k<=900)(I:LI st a c g k (same,gs) ks js)(h3:ρ[3]?=some (some (.lst a)))(h6:ρ[6]?=some (some (.int (k:Int)))):∃ st',ex F (.seq (.app 3 (.var 6)) .skip) ρ st=some (.nx ρ,st')/\LI st' a c g (k+1) (same++[(k:Int)],gs) ks js:=by
 have la:=I.lt a (by simp)
 have nd1:=(List.nodup_cons.mp I.nd).1;have bs:same.length<=k:=I.b1;refine⟨_,sx1 (ax1 h3 (vx h6) (Y9 I.sm (by rw[List.length_map];exact Nat.le_trans bs hk))),⟨by rw[List.getElem?_set_self la,List.map_append];rfl,?_,?_,I.gr.keep fun j hj=>?_,I.nd,?_,Nat.le_succ_of_le I.b2,fun g hg=>Nat.le_succ_of_le (I.b3 g hg),I.ok⟩⟩
 ·rw[List.getElem?_set_ne fun z=>nd1 (by rw[z];simp)];exact I.co
 ·rw[List.getElem?_set_ne fun z=>nd1 (by rw[z];simp)];exact I.gp
 ·rw[List.getElem?_set_ne fun z=>nd1 (by rw[z];simp[hj])]
 ·show(same++[(k:Int)]).length<=k+1
  rw[List.length_append,List.length_singleton];omega
theorem ZeX{ρ:Env}{cD:D}(hk:k<=900)(I:LI st a c g k (same,gs) ks js)(rc:Yo cc cD)(ck:Cod cc)(f4:Y8 cc (k:Int) gs=gs++[(cc,[(k:Int)])])(h4:ρ[4]?=some (some (.lst c)))(h5:ρ[5]?=some (some (.lst g)))(h6:ρ[6]?=some (some (.int (k:Int))))(h10:ρ[10]?=some (some cD)) :
  ∃ st' ks' js',ex F (.seq (.app 4 (.var 10)) (.seq (.app 5 (.lstE (.aC (.var 6) .aN))) .skip)) ρ st=some (.nx ρ,st')/\LI st' a c g (k+1) (same,Y8 cc (k:Int) gs) ks' js':=by
 have la:=I.lt a (by simp)
 have lc:=I.lt c (by simp)
 have lg:=I.lt g (by simp)
 have nd1:=List.nodup_cons.mp I.nd;have nd2:=List.nodup_cons.mp nd1.2;have nd3:=List.nodup_cons.mp nd2.2;have bg:gs.length<=k:=I.b2;have gne:g≠c:=fun z=>nd2.1 (by rw[z];simp)
 have lL:(st.set c (true,ks++[cD])).length=st.length:=List.length_set ..;have el:ev F (.lstE (.aC (.var 6) .aN)) ρ (st.set c (true,ks++[cD]))=some (.lst st.length,st.set c (true,ks++[cD])++[(true,[.int (k:Int)])]):=by
  show ZC (ZQ (Yj 6) (evC (.tup [])) Ys) Zbw ρ _=_;unfold ZC ZQ Yj;rw[h6];show some (D.lst (st.set c (true,ks++[cD])).length,st.set c (true,ks++[cD])++[((true,[D.int (k:Int)]):Yi)])=_;rw[lL]
 have g5:(st.set c (true,ks++[cD])++[((true,[D.int (k:Int)]):Yi)])[g]?=some (true,js.map .lst):=by
  rw[List.getElem?_append_left (by rw[lL];exact lg),List.getElem?_set_ne (fun z=>gne z.symm)];exact I.gp
 refine⟨_,ks++[cD],js++[st.length],(sx (ax1 h4 (vx h10) (Y9 I.co (by rw[I.gr.len.1];exact Nat.le_trans bg hk)))).trans (sx1 (ax1 h5 el (Y9 g5 (by rw[List.length_map,I.gr.len.2];exact Nat.le_trans bg hk)))),?_⟩
 have old:∀ i,i < st.length->i≠c->i≠g->((st.set c (true,ks++[cD])++[((true,[D.int (k:Int)]):Yi)]).set g (true,js.map D.lst++[D.lst st.length]))[i]?=st[i]?:=fun i hi h1 h2=>by
  rw[List.getElem?_set_ne (fun z=>h2 z.symm),List.getElem?_append_left (by rw[lL];exact hi),List.getElem?_set_ne (fun z=>h1 z.symm)]
 have jl:=fun j hj=>I.lt j (Lm _ (Lm _ (Lm _ hj)))
 rw[f4];refine⟨(old a la (fun z=>nd1.1 (by rw[z];simp)) fun z=>nd1.1 (by rw[z];simp)).trans I.sm,?_,?_,?_,?_,Nat.le_succ_of_le I.b1,?_,?_,?_⟩
 ·rw[List.getElem?_set_ne gne,List.getElem?_append_left (by rw[lL];exact lc),List.getElem?_set_self lc]
 ·rw[List.getElem?_set_self (by rw[List.length_append,lL];omega),List.map_append];rfl
 ·refine(I.gr.keep fun j hj=>old j (jl j hj) (fun z=>nd2.1 (by rw[<-z];simp[hj])) fun z=>nd3.1 (by rw[<-z];exact hj)).snoc rc ?_
  rw[List.getElem?_set_ne (by omega),List.getElem?_append_right (by rw[lL];exact Nat.le_refl _),lL,Nat.sub_self];rfl
 ·have:(a :: c :: g :: (js++[st.length]))=(a :: c :: g :: js)++[st.length]:=rfl
  rw[this,List.nodup_append];refine⟨I.nd,by simp,fun x hx y hy z=>?_⟩
  have:=I.lt x hx;rw[List.mem_singleton.mp hy]at z;omega
 ·show(gs++[(cc,[(k:Int)])]).length<=k+1
  rw[List.length_append,List.length_singleton];omega
 ·intro g hg
  rcases List.mem_append.mp (show g∈gs++[(cc,[(k:Int)])] from hg) with z|z
  ·exact Nat.le_succ_of_le (I.b3 g z)
  ·rw[List.mem_singleton.mp z];simp
 ·have z:=U0 (n:=(k:Int)) ck.ok I.ok
  rw[f4]at z;exact z
theorem mid{ρ:Env}{cD:D}(hF:ZI F G)(hk:k<=900)(I:LI st a c g k (same,gs) ks js)(ho:Yo own ownD)(rc:Yo cc cD)(co:Cod own)(ck:Cod cc)(h2:ρ[2]?=some (some ownD))(h3:ρ[3]?=some (some (.lst a)))(h4:ρ[4]?=some (some (.lst c)))(h5:ρ[5]?=some (some (.lst g)))(h6:ρ[6]?=some (some (.int (k:Int))))(h10:ρ[10]?=some (some cD)) :
  ∃ st' ks' js',ex F Ziu ρ st=some (.nx ρ,st')/\LI st' a c g (k+1) (VR own cc (k:Int) (same,gs)) ks' js':=by
 obtain⟨xs,hx⟩:=ck.tp;obtain⟨ys,hy⟩:=co.tp
 -- what is read: the own code,the codes,the code
 have En:∀ (fz:Fz) (st:Za) (l:P),Rel fz st l (.lst c)->EnvAll fz st [none,none,some own,none,some l,none,none,none,none,none,some cc] ρ:=fun fz st l rl i q z=>by
  match i,z with
  |0,z=>exact nomatch z
  |1,z=>exact nomatch z
  |2,z=>cases z;exact⟨_,h2,ho _ _⟩
  |3,z=>exact nomatch z
  |4,z=>cases z;exact⟨_,h4,rl⟩
  |5,z=>exact nomatch z
  |6,z=>exact nomatch z
  |7,z=>exact nomatch z
  |8,z=>exact nomatch z
  |9,z=>exact nomatch z
  |10,z=>cases z;exact⟨_,h10,rc _ _⟩
  |_+11,z=>exact nomatch z
 have E4:∀ (st:Za),st[c]?=some (true,ks)->Bd (fun i=>i=c) st/\EnvAll (fun i=>i=c) st [none,none,some own,none,some (.lst true (gs.map (·.1))),none,none,none,none,none,some cc] ρ:=fun st hc=>
  ⟨fun i hi=>by rw[hi];exact(List.getElem?_eq_some_iff.mp hc).1,En _ _ _ (.lst rfl hc (Zeq I.gr))⟩
 obtain⟨bd,st2,e2,k2,rb⟩:=evA (e:=.cmp .Eq (.var 10) (.var 2)) (p:=.bl (ZF cc own)) hF (E4 st I.co).1 (E4 st I.co).2 (by
   have z:ZU .Eq cc own=some (.bl (ZF cc own)):=by
    rw[hx,hy];exact W4 (by rw[<-hx];exact ck.ok) (by rw[<-hy];exact co.ok)
   exact z) rfl
 have I2:=I.keep k2;have rb':=rb (fun _=>False) []
 unfold VR Ziu;cases hq:ZF cc own with
 |true=>
  rw[hq]at rb';cases rb';obtain⟨st',e,J⟩:=ZcQ (F:=F) hk I2 h3 h6;exact⟨st',ks,js,(ix1 e2).trans e,J⟩
 |false=>
  rw[hq]at rb';cases rb';rw[if_neg Bf];have okk:(okP 8 cc&&Yy 8 (gs.map (·.1)))=true:=by rw[ck.ok];exact I.ok
  obtain⟨bd3,st3,e3,k3,rb3⟩:=evA (e:=.cmp .In (.var 10) (.var 4)) (p:=.bl ((gs.map (·.1)).any fun d=>ZF d cc)) hF (E4 st2 I2.co).1 (E4 st2 I2.co).2 (by
   show ZU .In cc (.lst true (gs.map (·.1)))=_;rw[hx]at okk ⊢;show(if (okP 8 (.tup xs)&&Yy 8 (gs.map (·.1)))=true then some ((gs.map (·.1)).any fun d=>ZF d (.tup xs)) else none).map P.bl=_
   rw[if_pos okk];rfl) rfl
  have I3:=I2.keep k3;have rb3':=rb3 (fun _=>False) []
  have no:∀ {r:Ot (Fl×Za)}{q:CS},ex F q ρ st2=r->ex F (.ite (.cmp .Eq (.var 10) (.var 2)) (.seq (.app 3 (.var 6)) .skip) q) ρ st=r:=fun h=>(ix1 e2).trans h
  rcases I3.gr.at (n:=(k:Int)) rc with⟨⟨_,_,f3⟩,f4⟩|⟨j,i,ns,⟨_,f2,f3⟩,⟨f5,f5',f6,q,f8⟩,f7⟩
  ·rw[f3]at rb3'
   cases rb3';obtain⟨st',ks',js',e,J⟩:=ZeX (F:=F) hk I3 rc ck f4 h4 h5 h6 h10;exact⟨st',ks',js',no (sx1 ((ix1 e3).trans e)),J⟩
  ·rw[f3]at rb3'
   cases rb3';obtain⟨id,st4,e4,k4,r4⟩:=evA (e:=.tix (.var 4) (.aC (.var 10) .aN)) (p:=.int (i:Int)) hF (E4 st3 I3.co).1 (E4 st3 I3.co).2 (by
    rw[Zhj];show ZbH (.lst true (gs.map (·.1))) (.tup [cc])=_;rw[hx]at okk f2 ⊢;show(if (okP 8 (.tup xs)&&Yy 8 (gs.map (·.1)))=true then (match Xw (.tup xs) (gs.map (·.1)) with
     |some i=>some (P.int (i:Int))
     |none=>none) else none)=_
    rw[if_pos okk,f2]) rfl
   have I4:=I3.keep k4;have r4':=r4 (fun _=>False) []
   cases r4';have nd1:=List.nodup_cons.mp I.nd;have nd2:=List.nodup_cons.mp nd1.2;have nd3:=List.nodup_cons.mp nd2.2;have lj:=I3.lt j (Lm _ (Lm _ (Lm _ f5')));have lj4:j < st4.length:=Nat.lt_of_lt_of_le lj k4.len;have f6':st4[j]?=some (true,ns.map .int):=(k4.old j lj).trans f6;have hnl:ns.length<=k:=I.b3 _ f8;have e5:ev F (.ix (.var 5) (.tix (.var 4) (.aC (.var 10) .aN))) ρ st3=some (.lst j,st4):=by
    have hat:atD (js.map D.lst) (i:Int)=some (.lst j):=by
     have hi:i < js.length:=(List.getElem?_eq_some_iff.mp f5).1;unfold atD ixN;rw[if_pos (by omega),if_pos (by rw[List.length_map];omega)]
     show(js.map D.lst)[((i:Int)).toNat]?=_;rw[show((i:Int)).toNat=i by omega,List.getElem?_map,f5];rfl
    show ZQ (Yj 5) (ev F (.tix (.var 4) (.aC (.var 10) .aN))) ixR ρ st3=_;unfold ZQ Yj;rw[h5];dsimp only;rw[e4];have hix:ixD (.lst g) (.int (i:Int)) st4=some (.lst j):=by
     show(match st4[g]? with
      |some (_,xs)=>atD xs (i:Int)
      |none=>none)=_
     rw[I4.gp];exact hat
    show(match ixD (.lst g) (.int (i:Int)) st4 with
     |some d=>some (d,st4)
     |none=>none)=_
    rw[hix]
   obtain⟨b1,b2⟩:=UE (c:=cc) (n:=(k:Int)) (gs:=gs);refine⟨_,ks,js,no (sx1 ((ix1 e3).trans (sx1 (ax2 e5 (vx h6) (Y9 f6' (by rw[List.length_map];omega)))))),⟨?_,?_,?_,f7 _ (by rw[List.getElem?_set_self lj4,List.map_append];rfl) (fun i hi hz=>by rw[List.getElem?_set_ne fun z=>hz z.symm];exact k4.old i (I3.gr.lt i hi)) nd3.2,I.nd,Nat.le_succ_of_le I.b1,?_,b2 k I.b3,U0 ck.ok I.ok⟩⟩
   ·rw[List.getElem?_set_ne fun z=>nd1.1 (by rw[<-z];simp[f5'])];exact I4.sm
   ·rw[List.getElem?_set_ne fun z=>nd2.1 (by rw[<-z];simp[f5'])];exact I4.co
   ·rw[List.getElem?_set_ne fun z=>nd3.1 (by rw[<-z];exact f5')];exact I4.gp
   ·show(Y8 cc (k:Int) gs).length<=k+1
    have:gs.length<=k:=I.b2;omega
theorem ZcI(hF:ZI F G)(hk:k<=900)(I:LI st a c g k (same,gs) ks js)(hp:Yo p pD)(ho:Yo own ownD)(hr:Yo r rD)(co:Cod own)(ck:Cod cc)(he:pe G (.call 106 (.aC (.call 180 (.aC (.var 1) (.aC (.var 7) (.aC (.var 9) .aN))) []) .aN) []) [none,some p,none,none,none,none,none,some (.int (j0:Int)),none,some r,none]=some cc) :
  ∃ cD st' ks' js',ex F Qi [x0,some pD,some ownD,some (.lst a),some (.lst c),some (.lst g),some (.int (k:Int)),some (.int (j0:Int)),some (.str w),some rD,x10] st=some (.nx [x0,some pD,some ownD,some (.lst a),some (.lst c),some (.lst g),some (.int ((k+1:Nat):Int)),some (.int (j0:Int)),some (.str w),some rD,some cD],st')/\LI st' a c g (k+1) (VR own cc (k:Int) (same,gs)) ks' js':=by
 obtain⟨cD,st1,e1,k1,rc⟩:=evA (ρ:=[x0,some pD,some ownD,some (.lst a),some (.lst c),some (.lst g),some (.int (k:Int)),some (.int (j0:Int)),some (.str w),some rD,x10]) hF (QP (st:=st)) (enN (enS (hp _ _) (enN (enN (enN (enN (enN (enS (.int _) (enN (enS (hr _ _) (enN en0))))))))))) he ck.no;obtain⟨st2,ks2,js2,e2,J⟩:=mid (ρ:=[x0,some pD,some ownD,some (.lst a),some (.lst c),some (.lst g),some (.int (k:Int)),some (.int (j0:Int)),some (.str w),some rD,some cD]) hF hk (I.keep k1) ho rc co ck rfl rfl rfl rfl rfl rfl
 refine⟨cD,st2,ks2,js2,(sx (a:=.set 10 _) ?_).trans ((sx e2).trans rfl),J⟩;show Xn 10 (ev F _) _ st=_;unfold Xn;rw[e1];rfl
end
end Dp


namespace Dp
open PySem
def cdP:Nat->P->Bool
 |_,.int _=>true
 |_,.str _=>true
 |n+1,.tup ps=>ps.all (cdP n)
 |_,_=>false
theorem Vn:∀ {n:Nat}{p:P},cdP n p=true->noL p=true/\okP n p=true/\∀ {fz st d},Rel fz st p d->okN n d=true
 |0,p,h=>by
  cases p with
  |int i=>exact⟨rfl,rfl,fun r=>by cases r;rfl⟩
  |str i=>exact⟨rfl,rfl,fun r=>by cases r;rfl⟩
  |_=>exact nomatch h
 |n+1,p,h=>by
  cases p with
  |int i=>exact⟨rfl,rfl,fun r=>by cases r;rfl⟩
  |str i=>exact⟨rfl,rfl,fun r=>by cases r;rfl⟩
  |tup ps=>
   have h:ps.all (cdP n)=true:=h;have z:X7 ps=true/\Yy n ps=true/\∀ {fz st ds},Rels fz st ps ds->ds.all (okN n)=true:=by
    induction ps with
    |nil=>exact⟨rfl,rfl,fun r=>by cases r;rfl⟩
    |cons p ps ih=>
     rw[List.all_cons,Ba]at h;obtain⟨a1,a2,a3⟩:=Vn h.1;obtain⟨b1,b2,b3⟩:=ih h.2 h.2;refine⟨?_,?_,fun r=>?_⟩
     ·show(noL p&&X7 ps)=true
      rw[a1,b1];rfl
     ·show(okP n p&&Yy n ps)=true
      rw[a2,b2];rfl
     ·cases r with
      |cons x y=>rw[List.all_cons,a3 x,b3 y];rfl
   exact⟨z.1,z.2.1,fun r=>by cases r with|tup r=>exact z.2.2 r⟩
  |_=>exact nomatch h
theorem Jn{r:Row}:cdP 6 (Ze r)=true:=by
 cases r with
 |put x y s z=>cases y<;>cases z<;>rfl
 |ifr y s z t=>cases y<;>cases z<;>rfl
 |tell y=>cases y<;>rfl
 |_=>rfl
theorem Ziz{p:Prog}{ts:Li P}(h:p.takes=.tup ts)(hq:∀ q∈ts,Ju q):cdP 8 (Z1 p)=true:=by
 have a:cdP 7 p.takes=true:=by
  rw[h];exact List.all_eq_true.mpr fun q hq'=>by
   obtain⟨a,b,rfl⟩:=hq q hq';rfl
 have b:cdP 7 (.tup (p.rows.map Ze))=true:=List.all_eq_true.mpr fun q hq'=>by
  obtain⟨r,_,rfl⟩:=List.mem_map.mp hq';exact Jn
 show(cdP 7 p.takes&&(true&&(cdP 7 (.tup (p.rows.map Ze))&&true)))=true;rw[a,b];rfl
theorem ZfX{p:Prog}{ts:Li P}(h:p.takes=.tup ts)(hq:∀ q∈ts,Ju q):Cod (Z1 p):=by
 obtain⟨a,b,c⟩:=Vn (Ziz h hq);refine⟨a,⟨_,rfl⟩,b,fun d r=>?_⟩
 have r:=r (fun _=>False) []
 rw[c r];unfold Z1 at r;cases r;rfl
theorem Zkg{j:Nat}{q:Str×Row}{d:D}(h:Yo (Yz j q) d):∃ rD,d=.tup [.int (j:Int),.str q.1,rD]/\Yo (Ze q.2) rD:=by
 have r:=h (fun _=>False) []
 unfold Yz at r;cases r with
 |tup r=>
  cases r with
  |cons r1 r=>
   cases r1;cases r with
   |cons r1 r=>
    cases r1;cases r with
    |cons r1 r=>
     cases r;exact⟨_,rfl,fun _ _=>r1.ofNoL (Vn (Jn)).1⟩
section
variable {F:Nat->Fn}{G:PFn}{st0:Za}{p own:P}{pD ownD:D}{x0:Ot D}{a c g:Nat}{cod:Nat×Str×Row->P}
theorem QJ(hF:ZI F G)(hp:Yo p pD)(ho:Yo own ownD)(co:Cod own):∀ {ts:Li (Nat×Str×Row)}{ds:Li D}{k:Nat}{s:Li Int×Li (P×Li Int)}{ks:Li D}{js:Li Nat}{st:Za}{x7 x8 x9 x10:Ot D},RelP (ts.map fun t=>(Yz t.1 t.2,cod t)) ds->
  (∀ t∈ts,Cod (cod t)/\pe G (.call 106 (.aC (.call 180 (.aC (.var 1) (.aC (.var 7) (.aC (.var 9) .aN))) []) .aN) []) [none,some p,none,none,none,none,none,some (.int (t.1:Int)),none,some (Ze t.2.2),none]=some (cod t))->k+ts.length<=900->LI st a c g k s ks js->
  ∃ st' ks' js' y7 y8 y9 y10,ZZ (Q5 7 8 9 (ex F Qi)) ds [x0,some pD,some ownD,some (.lst a),some (.lst c),some (.lst g),some (.int (k:Int)),x7,x8,x9,x10] st=some (.nx [x0,some pD,some ownD,some (.lst a),some (.lst c),some (.lst g),some (.int ((k+ts.length:Nat):Int)),y7,y8,y9,y10],st')/\LI st' a c g (k+ts.length) (Uh own (ts.map cod) k s) ks' js'
 |[],_,k,s,ks,js,st,x7,x8,x9,x10,.nil,_,_,I=>⟨st,ks,js,x7,x8,x9,x10,rfl,I⟩
 |t :: ts,_,k,(same,gs),ks,js,st,x7,x8,x9,x10,.cons (d:=d) (ds:=ds) h r,hq,hk,I=>by
  rw[List.length_cons]at hk;obtain⟨cc,he⟩:=hq t Ls;obtain⟨rD,rfl,hr⟩:=Zkg h;obtain⟨cD,st1,ks1,js1,e1,I1⟩:=ZcI (x0:=x0) (x10:=x10) (w:=t.2.1) hF (by omega) I hp ho hr co cc he
  obtain⟨st2,ks2,js2,y7,y8,y9,y10,e2,I2⟩:=QJ hF hp ho co (x7:=some (.int (t.1:Int))) (x8:=some (.str t.2.1)) (x9:=some rD) (x10:=some cD) r (fun q hq'=>hq q (Lm _ hq')) (by omega) I1
  have el:k+(t :: ts).length=k+1+ts.length:=by rw[List.length_cons];omega
  rw[el];refine⟨st2,ks2,js2,y7,y8,y9,y10,?_,I2⟩;show(match ex F Qi [x0,some pD,some ownD,some (.lst a),some (.lst c),some (.lst g),some (.int (k:Int)),some (.int (t.1:Int)),some (.str t.2.1),some rD,x10] st with
   |some (.nx ρ',st')=>ZZ (Q5 7 8 9 (ex F Qi)) ds ρ' st'
   |some (.ct ρ',st')=>ZZ (Q5 7 8 9 (ex F Qi)) ds ρ' st'
   |some (.bk ρ',st')=>some (.nx ρ',st')
   |some (.rt v,st')=>some (.rt v,st')
   |none=>none)=_
  rw[e1];exact e2
end
end Dp


namespace Dp
open PySem
section
variable {n:Nat}{ns:Li Int}{p:Prog}{ts:Li P}
def Qr(p:Prog)(t:Nat×Str×Row):P:=Z1 (XZ (WL p t.1 t.2.2))
theorem Zb2{m:Nat}(hg:PG p)(et:p.takes=.tup ts)(tk:∀ q∈ts,Ju q):∀ t∈fkT p.rows.length 0 p.rows,Cod (Qr p t)/\t.1 < p.rows.length/\Zk T (m+6) 180 [Z1 p,.int (t.1:Int),Ze t.2.2]=some (Z1 (WL p t.1 t.2.2))/\Zk T (m+6) 106 [Z1 (WL p t.1 t.2.2)]=some (Qr p t):=fun t ht=>by
 obtain⟨⟨_,h1⟩,h2⟩:=Zce (m:=p.many) (many:=p.rows.length) (k:=0) hg.rows t ht;rw[Nat.zero_add]at h1;have hg':=hg.turn (k:=t.1) h2;exact⟨ZfX (p:=XZ (WL p t.1 t.2.2)) et tk,h1,Zgt (n:=m+4) h1 hg.size,J4 (n:=m) Zgf rfl (by have:=hg'.size;omega) fun r hr=>(hg'.rows r hr).2⟩
theorem ZaS{m k:Nat}{s:Li Int×Li (P×Li Int)}(hk:k<=100)(b1:s.1.length<=k)(b2:s.2.length<=k)(b3:∀ g∈s.2,g.2.length<=k):Zk T (m+4) 36 [Zdr s,Zdr s]=some (.bl true):=by
 have it:∀ {m:Nat}{xs:Li Int},xs.length<=k->Zk T (m+2) 36 [.tup (xs.map .int),.tup (xs.map .int)]=some (.bl true):=fun {m xs} h=>Q9 rfl (by rw[List.length_map];omega) fun x hx=>by
  obtain⟨i,_,rfl⟩:=List.mem_map.mp hx;exact Zgj rfl
 refine Q9 (n:=m+2) rfl (by simp) fun x hx=>?_
 rcases List.mem_cons.mp hx with rfl|hx
 ·exact it (m:=m+1) b1
 ·rw[List.mem_singleton.mp hx]
  exact Q9 (n:=m+1) rfl (by rw[List.length_map];omega) fun x hx=>by
   obtain⟨g,hg,rfl⟩:=List.mem_map.mp hx;exact it (m:=m) (b3 g hg)
theorem call2{F:Nat->Fn}{x y:D}{i:Nat}{st:Za}:ev F (.call i (.aC (.var 0) (.aC (.var 1) .aN)) []) [some x,some y] st=F i [x,y] st:=rfl
theorem Zfn{F:Nat->Fn}{ρ:Env}{e:CE}{st st1 st2 st3:Za}{pD x y v:D}(h:ρ[1]?=some (some pD))(h1:F 231 [pD] st=some (x,st1))(h2:ev F e ρ st1=some (y,st2))(h3:F 36 [x,y] st2=some (v,st3)):ex F (.seq (.ret (.call 36 (.aC (.call 231 (.aC (.var 1) .aN) []) (.aC e .aN)) [])) .skip) ρ st=some (.rt v,st3):=by
 have e1:ev F (.call 231 (.aC (.var 1) .aN) []) ρ st=some (x,st1):=by
  show ZC (ZQ (Yj 1) (evC (.tup [])) Ys) (Vm (F 231) []) ρ st=_;unfold ZC ZQ Yj;rw[h];exact h1
 have e2:ev F (.aC (.call 231 (.aC (.var 1) .aN) []) (.aC e .aN)) ρ st=some (.tup [x,y],st2):=by
  show ZQ (ev F (.call 231 (.aC (.var 1) .aN) [])) (ZQ (ev F e) (evC (.tup [])) Ys) Ys ρ st=_;unfold ZQ;rw[e1];show(match (match ev F e ρ st1 with
   |some (x,st1)=>Ys x (.tup []) st1
   |none=>none) with
   |some (y,st2)=>Ys x y st2
   |none=>none)=_
  rw[h2];rfl
 have e3:ev F (.call 36 (.aC (.call 231 (.aC (.var 1) .aN) []) (.aC e .aN)) []) ρ st=some (v,st3):=by
  show ZC (ev F (.aC (.call 231 (.aC (.var 1) .aN) []) (.aC e .aN))) (Vm (F 36) []) ρ st=_;unfold ZC;rw[e2];exact h3
 show(match (match ev F (.call 36 (.aC (.call 231 (.aC (.var 1) .aN) []) (.aC e .aN)) []) ρ st with
  |some (d,st')=>some (Fl.rt d,st')
  |none=>none) with
  |some (.nx ρ',st')=>some (Fl.nx ρ',st')
  |r=>r)=_
 rw[e3]
theorem ZcH(hg:PG p)(et:p.takes=.tup ts)(tk:∀ q∈ts,Ju q)(ep:Zk T (n+7) 30 [.lst false (ns.map .int)]=some (Z1 p)):∃ st',ex (run T (n+7)) c_law_k29.body [some (.lst 0),none,none,none,none,none,none,none,none,none,none] [(false,ns.map D.int)]=some (.rt (.bl true),st'):=by
 have hF:=Qb T (n+7);have np:=(Vn (Ziz et tk)).1;have cw:Cod (Z1 (XZ p)):=ZfX (p:=XZ p) et tk;have fkl:=Zen hg.size;obtain⟨pD,st1,e1,k1,rp⟩:=evA (e:=.call 30 (.aC (.var 0) .aN) []) (p:=Z1 p) (fz:=fun i=>i=0) (π:=[some (.lst false (ns.map .int)),none,none,none,none,none,none,none,none,none,none]) (ρ:=[some (.lst 0),none,none,none,none,none,none,none,none,none,none]) (st:=[(false,ns.map D.int)]) hF (fun i hi=>by rw[hi];exact Nat.zero_lt_one) (enS (.lst rfl rfl UR) (enN (enN (enN (enN (enN (enN (enN (enN (enN (enN en0))))))))))) (by simp[ep]) np
 have En:∀ (st:Za) (x2 x3 x4 x5 x6:Ot D),EnvAll (fun _=>False) st [none,some (Z1 p),none,none,none,none,none,none,none,none,none] [some (.lst 0),some pD,x2,x3,x4,x5,x6,none,none,none,none]:=fun st x2 x3 x4 x5 x6=>(enN (enS (rp _ _) (enN (enN (enN (enN (enN (enN (enN (enN (enN en0)))))))))))
 have hm:∀ {k:Nat},Zk T (k+6) 106 [Z1 p]=some (Z1 (XZ p)):=J4 Zgf rfl (by have:=hg.size;omega) fun r hr=>(hg.rows r hr).2
 have hf:∀ {k:Nat},Zk T (k+4) 172 [Z1 p]=some (.tup ((fkT p.rows.length 0 p.rows).map fun t=>Yz t.1 t.2)):=fun {k}=>by
  rw[<-Vu];exact ZdX (fun r hr=>Zfo (hg.rows r hr).2) hg.size
 have nf:X7 ((fkT p.rows.length 0 p.rows).map fun t=>Yz t.1 t.2)=true:=by
  generalize fkT p.rows.length 0 p.rows=ts
  induction ts with
  |nil=>rfl
  |cons t ts ih=>
   show(noL (Yz t.1 t.2)&&X7 (ts.map fun t=>Yz t.1 t.2))=true
   rw[ih,show noL (Yz t.1 t.2)=true from by show(true&&(true&&(noL (Ze t.2.2)&&true)))=true;rw[(Vn Jn).1];rfl];rfl
 obtain⟨ownD,st2,e2,k2,ro⟩:=evA (e:=.call 106 (.aC (.var 1) .aN) []) (p:=Z1 (XZ p)) hF (QP (st:=st1)) (En st1 none none none none none) (by simp[hm (k:=n+1)]) cw.no
 obtain⟨d,st4,e4,k4,rf⟩:=evA (e:=.call 172 (.aC (.var 1) .aN) []) (p:=.tup ((fkT p.rows.length 0 p.rows).map fun t=>Yz t.1 t.2)) hF (QP (st:=st2++[(true,[])]++[(true,[])]++[(true,[])])) (En _ (some ownD) (some (.lst st2.length)) (some (.lst (st2.length+1))) (some (.lst (st2.length+2))) (some (.int 0))) (by simp[hf (k:=n+3)]) nf
 obtain⟨ds,rfl,rs⟩:∃ ds,d=.tup ds/\Rels (fun _=>False) ([]:Za) ((fkT p.rows.length 0 p.rows).map fun t=>Yz t.1 t.2) ds:=by
  have r:=rf (fun _=>False) []
  cases r with
  |tup r=>exact⟨_,rfl,r⟩
 have ZcJ:(st2++[((true,[]):Yi)]++[((true,[]):Yi)]++[((true,[]):Yi)]).length=st2.length+3:=by simp
 have at_:∀ i,i < 3->st4[st2.length+i]?=some (true,[]):=fun i hi=>(k4.old _ (by rw[ZcJ];omega)).trans (by
  rw[List.append_assoc,List.append_assoc,List.getElem?_append_right (Nat.le_add_right _ _),Nat.add_sub_cancel_left]
  match i,hi with
  |0,_=>rfl
  |1,_=>rfl
  |2,_=>rfl)
 have I0:LI st4 st2.length (st2.length+1) (st2.length+2) 0 ([],[]) [] []:=⟨at_ 0 (by omega),at_ 1 (by omega),at_ 2 (by omega),.nil,by simp,Nat.le_refl _,Nat.le_refl _,(fun g hg=>nomatch hg),rfl⟩
 have em:((fkT p.rows.length 0 p.rows).map fun t=>(Yz t.1 t.2,Qr p t)).map (·.1)=(fkT p.rows.length 0 p.rows).map fun t=>Yz t.1 t.2:=by rw[List.map_map];rfl
 have em2:((fkT p.rows.length 0 p.rows).map fun t=>(Yz t.1 t.2,Qr p t)).map (·.2)=(fkT p.rows.length 0 p.rows).map (Qr p):=by rw[List.map_map];rfl
 obtain⟨st5,ks,js,y7,y8,y9,y10,e5,I5⟩:=QJ (x0:=some (.lst 0)) (cod:=Qr p) hF rp ro cw (ts:=fkT p.rows.length 0 p.rows) (x7:=none) (x8:=none) (x9:=none) (x10:=none) (U8 (st:=[]) (fz:=fun _=>False) (by rw[em];exact rs) (by rw[em];exact nf)) (fun t ht=>by
  obtain⟨c1,c2,c3,c4⟩:=Zb2 (m:=n+1) hg et tk t ht;exact⟨c1,by simp[c3,c4]⟩) (by omega) I0
 rw[Nat.zero_add]at e5 I5;obtain⟨st6,e6,k6⟩:=ZbJ (F:=run T (n+6)) (G:=Zk T (n+6)) (st:=st5) (Qb T (n+6)) (qs:=(fkT p.rows.length 0 p.rows).map fun t=>(Yz t.1 t.2,Qr p t)) rp cw np (hm (k:=n)) (by rw[em];exact hf (k:=n+2)) (by rw[em];exact nf) (fun q hq=>by
  obtain⟨t,ht,rfl⟩:=List.mem_map.mp hq;obtain⟨c1,c2,c3,c4⟩:=Zb2 (m:=n) hg et tk t ht;refine⟨c1,?_⟩;simp[Yz,c3,c4]) (by rw[List.length_map];omega)
 rw[em2]at e6;generalize Uh (Z1 (XZ p)) ((fkT p.rows.length 0 p.rows).map (Qr p)) 0 ([],[])=s at I5 e6;have I6:=I5.keep k6;have e7:=ZaM (F:=run T (n+7)) (i:=3) (e:=YO) (ρ:=[some (.lst 0),some pD,some ownD,some (.lst st2.length),some (.lst (st2.length+1)),some (.lst (st2.length+2)),some (.int ((fkT p.rows.length 0 p.rows).length:Int)),y7,y8,y9,y10]) (s:=s) rfl I6.sm (by
  refine Ua (x:=.lst (st2.length+2)) (ok:=fun s=>s[st2.length+2]?=some (true,js.map D.lst)) rfl ?_ I6.gp I6.gr (by have:s.2.length<=_:=I6.b2;omega)
  show(match st6[st2.length+2]? with
   |some c=>some (c.2,fun s=>s[st2.length+2]?=some c)
   |none=>none)=_
  rw[I6.gp])
 obtain⟨d8,st8,e8,_,r8⟩:=evA (e:=.call 36 (.aC (.var 0) (.aC (.var 1) .aN)) []) (p:=.bl true) (π:=[some (Zdr s),some (Zdr s)]) (ρ:=[some (QX s),some (QX s)]) (st:=st6++[(true,s.2.map fun g=>.tup (g.2.map .int))]) hF QP (enS (Zgd _ _) (enS (Zgd _ _) en0)) (by simp[ZaS (m:=n+3) (k:=(fkT p.rows.length 0 p.rows).length) (s:=s) (by omega) I5.b1 I5.b2 I5.b3]) rfl
 cases r8 (fun _=>False) []
 have e8:run T (n+7) 36 [QX s,QX s] (st6++[(true,s.2.map fun g=>.tup (g.2.map .int))])=some (.bl true,st8):=call2.symm.trans e8
 refine⟨st8,?_⟩;have er:=Zfn (F:=run T (n+7)) (e:=.tupE (.aC (.tOf (.var 3)) (.aC (.tOf YO) .aN))) (ρ:=[some (.lst 0),some pD,some ownD,some (.lst st2.length),some (.lst (st2.length+1)),some (.lst (st2.length+2)),some (.int ((fkT p.rows.length 0 p.rows).length:Int)),y7,y8,y9,y10]) rfl (by rw[VO (f:=c_twins) rfl];exact e6) e7 e8
 unfold c_law_k29;show Xm (Xn 1 (ev (run T (n+7)) (.call 30 (.aC (.var 0) .aN) []))) _ _ _=_;unfold Xm Xn;rw[e1];show Xm (Xn 2 (ev (run T (n+7)) (.call 106 (.aC (.var 1) .aN) []))) _ [some (.lst 0),some pD,none,none,none,none,none,none,none,none,none] st1=_;unfold Xm Xn;rw[e2];have l1:(st2++[((true,[]):Yi)]).length=st2.length+1:=by simp
 have l2:(st2++[((true,[]):Yi)]++[((true,[]):Yi)]).length=st2.length+2:=by simp
 show Xm (Vv 7 8 9 (ev (run T (n+7)) (.call 172 (.aC (.var 1) .aN) [])) (ex (run T (n+7)) Qi)) _ [some (.lst 0),some pD,some ownD,some (.lst st2.length),some (.lst (st2++[((true,[]):Yi)]).length),some (.lst (st2++[((true,[]):Yi)]++[((true,[]):Yi)]).length),some (.int 0),none,none,none,none] (st2++[(true,[])]++[(true,[])]++[(true,[])])=_;rw[l1,l2];unfold Xm Vv
 rw[e4];have e5:ZZ (Q5 7 8 9 (ex (run T (n+7)) Qi)) ds [some (.lst 0),some pD,some ownD,some (.lst st2.length),some (.lst (st2.length+1)),some (.lst (st2.length+2)),some (.int 0),none,none,none,none] st4=_:=e5;show(match ZZ (Q5 7 8 9 (ex (run T (n+7)) Qi)) ds [some (.lst 0),some pD,some ownD,some (.lst st2.length),some (.lst (st2.length+1)),some (.lst (st2.length+2)),some (.int 0),none,none,none,none] st4 with
  |some (.nx ρ',st')=>ex (run T (n+7)) (.seq (.ret (.call 36 (.aC (.call 231 (.aC (.var 1) .aN) []) (.aC (.tupE (.aC (.tOf (.var 3)) (.aC (.tOf YO) .aN))) .aN)) [])) .skip) ρ' st'
  |r=>r)=_
 rw[e5];exact er
theorem Zbt{n:Nat}{ns:Li Int}(hn:ns.length<=63):∃ st',run T (n+8) 16 [.lst 0] [(false,ns.map D.int)]=some (.bl true,st'):=by
 obtain⟨p,⟨hg,ts,et,htl,htk⟩,ep⟩:=Zgu (n:=n+1) (ns:=ns);obtain⟨st',e⟩:=ZcH (n:=n) (ns:=ns) hg et htk ep;refine⟨st',?_⟩;rw[VO (f:=c_law_k29) rfl];unfold fnD;rw[if_pos (show[D.lst 0].length=c_law_k29.ps from rfl)];show(match ex (run T (n+7)) c_law_k29.body [some (.lst 0),none,none,none,none,none,none,none,none,none,none] [(false,ns.map D.int)] with
  |some (.rt d,st')=>some (d,st')
  |some (.nx _,st')=>some (.non,st')
  |_=>none)=_
 rw[e]
end
end Dp


namespace PySem.W.Fast
def tw13114746956717796236:=0
def tw10758510162516832361:=0
def tw2739586589157013756:=0
def tw4836083886405093445:=0
def tw9112409029095311812:=0
def tw15596642874817712177:=0
def tw1569140330143227528:=0
def tw1470621259133576558:=0
def tw1046968704427565634:=0
def tw5103899887163472903:=0
def tw2819017282816254519:=0
def tw5349264201334372961:=0
def tw12018571184471570426:=0
def tw271571744150373474:=0
def tw4820830352773532186:=0
def tw17739060140945454129:=0
def tw3166380657184707049:=0
def tw1170572580965005696:=0
def tw321580708362776652:=0
def tw14128380028240631574:=0
def tw15992612827381419134:=0
def tw6504736759050743727:=0
def tw6474029953336958804:=0
def tw8211749910506436786:=0
def tw4633234320809274564:=0
def tw767779328204670009:=0
def tw2787177571725680417:=0
def tw14320015612997678706:=0
def tw5767116652509532524:=0
def tw3854053115384060485:=0
def tw3891355131100937255:=0
def tw7135685335000943568:=0
def tw10221845144058676884:=0
def tw13784494385808768032:=0
def tw14292227341899590315:=0
def tw6465875386336227508:=0
def tw14295385293815741517:=0
def tw2916073306646686102:=0
def tw5086974223745481035:=0
def tw6161799440491242580:=0
def tw10796512953635686885:=0
def tw1866894025559960581:=0
def tw17950847883665880991:=0
def tw10805640368444379363:=0
def tw5721112999602982826:=0
def tw17101257581101483100:=0
def tw6244598504346973019:=0
def tw5121982954135666656:=0
def tw3877223570007731762:=0
def tw17330640740685654752:=0
def tw17644667019968022166:=0
def tw16017152030915698145:=0
def tw12988792692277916896:=0
def tw1927126551462233416:=0
def tw14609662267564589904:=0
def tw4405419457763830005:=0
def tw6201680756417306018:=0
def tw11694790220815183146:=0
def tw5839275264835418979:=0
def tw1460557657205329932:=0
def tw1629772583936384557:=0
def tw1103057905520229068:=0
def tw5626175300600062330:=0
def tw15004512958990208465:=0
def tw5016529651223275168:=0
def tw10854945518588237975:=0
def tw6510829469800699212:=0
def tw562229322913790850:=0
def tw7290747966030698357:=0
def tw3567492268475478473:=0
def tw6270171722353846815:=0
def tw12866769891321981666:=0
def tw15472491972138483369:=0
def tw2636036807784808832:=0
def tw11668562047548844281:=0
def tw4093804557105160102:=0
def tw13280347142357732063:=0
def tw16356895283164251032:=0
def tw6207775142293719744:=0
def tw16191364523817374002:=0
def tw8078809971434668919:=0
def tw5052023331877978631:=0
def tw9999179797602886514:=0
def tw6704821593851224835:=0
def tw18154265490136378048:=0
def tw2475021094361136924:=0
def tw6427707174786248309:=0
def tw12540761758474561663:=0
def tw10409523940696779171:=0
def tw15350114356013917255:=0
def tw15641742563043747857:=0
def tw754226691444110548:=0
def tw13619652866682669268:=0
def tw13629393866754457301:=0
def tw16117629383453855452:=0
def tw12188096851736049216:=0
def tw2642477001103719465:=0
def tw6664523989014405932:=0
def tw5063455864713781306:=0
def tw13225376043034425014:=0
def tw2520761796827769098:=0
def tw14262540446889021577:=0
def tw5723943974894981055:=0
def tw17241535853730625606:=0
def tw11084362100398371840:=0
def tw8452491255936215875:=0
def tw7194438004400499579:=0
def tw10095774752443000017:=0
def tw5190412671908979133:=0
def tw17801275900210499573:=0
def tw6406099858917755375:=0
def tw12519696789816659622:=0
def tw14763673306140579598:=0
def tw7561667584750845274:=0
def tw8608095720618212664:=0
def tw504056226284108311:=0
def tw6970271313503365429:=0
def tw915390135754014226:=0
def tw15421761108376315051:=0
def tw16459200083955133858:=0
def tw9212298092327766975:=0
def tw13241207944182860287:=0
def tw5932035735145078653:=0
def tw12992966399193852480:=0
def tw8541337877991978894:=0
def tw8490974332940309892:=0
def tw2898092570959857895:=0
def tw16467577304821977198:=0
def tw16420627361181021557:=0
def tw1093513891612476651:=0
def tw16236097827370239494:=0
end PySem.W.Fast
namespace Dp
open PySem L2
noncomputable def top(i:Nat):Stmt:=PySem.Challenge.pw_fakehunt_k29_twins_in_groups.main.body.getD i (.Pass ⟨0,0,0,0⟩)
noncomputable def G:Gs:=[(S "Step",GV.cls 146 [(S "word",147,1),(S "turned",148,3)] [146,169,149,157,152,160,163]),(S "Sign",GV.cls 169 [(S "word",170,1),(S "turned",171,3)] [169]),(S "More",GV.cls 149 [(S "word",150,1),(S "turned",151,3)] [149]),(S "Turn",GV.cls 157 [(S "word",158,1),(S "turned",159,3)] [157]),(S "Out",GV.cls 152 [(S "word",153,1),(S "turned",154,3)] [152]),(S "Swap",GV.cls 160 [(S "word",161,1),(S "turned",162,3)] [160]),(S "Far",GV.cls 163 [(S "word",164,1),(S "turned",165,3)] [163]),(S "OPERAND_PLACES",GV.dct [(S "put"),(S "if"),(S "tell"),(S "go"),(S "skip")] [(.tup [(.int 2),(.int 4)]),(.tup [(.int 1),(.int 3)]),(.tup [(.int 1)]),(.tup []),(.tup [])]),(S "replaced",GV.fn 42 3 []),(S "operand_places",GV.fn 113 1 []),(S "LOWEST",GV.cst (.int (-1000000000))),(S "HIGHEST",GV.cst (.int 999999999)),(S "HALF",GV.cst (.int 1000000000)),(S "RING",GV.cst (.int 2000000000)),(S "PUT_SIGNS",GV.cst (.kt [(S "+"),(S "-"),(S "*"),(S "/"),(S "mod")])),(S "IF_SIGNS",GV.cst (.kt [(S "<"),(S "<="),(S "="),(S ">="),(S ">"),(S "!=")])),(S "around",GV.fn 0 1 []),(S "divided",GV.fn 1 2 []),(S "left_over",GV.fn 2 2 []),(S "reckon",GV.fn 3 3 []),(S "is_so",GV.fn 4 3 []),(S "CONTRARIES",GV.dct [(S "<"),(S ">="),(S "<="),(S ">"),(S "="),(S "!=")] [(.str (S ">=")),(.str (S "<")),(.str (S ">")),(.str (S "<=")),(.str (S "!=")),(.str (S "="))]),(S "behind",GV.fn 70 2 []),(S "fakes",GV.fn 172 1 []),(S "fake_of",GV.fn 180 3 []),(S "NOUGHT",GV.cst (.tup [(.str (S "number")),(.int 0)])),(S "ONE",GV.cst (.tup [(.str (S "number")),(.int 1)])),(S "SKIP",GV.cst (.tup [(.str (S "skip"))])),(S "are_numbers",GV.fn 73 2 []),(S "lesser_first",GV.fn 74 3 []),(S "less_as_more",GV.fn 75 1 []),(S "without_reckoning",GV.fn 76 1 []),(S "made_put",GV.fn 77 1 []),(S "greater_as_less",GV.fn 78 1 []),(S "is_settled",GV.fn 79 1 []),(S "settled",GV.fn 80 1 []),(S "most_as_less",GV.fn 81 1 []),(S "made_if",GV.fn 82 2 []),(S "made_row",GV.fn 83 2 []),(S "made",GV.fn 106 1 []),(S "twins",GV.fn 231 1 []),(S "_law_cell_at",GV.fn 27 2 []),(S "_law_alike",GV.fn 36 2 []),(S "_law_number_by",GV.fn 18 1 []),(S "_law_operand_by",GV.fn 71 2 []),(S "_law_operands_by",GV.fn 84 2 []),(S "_law_row_by",GV.fn 72 4 []),(S "_law_program",GV.fn 30 1 []),(S "law",GV.fn 16 1 []),(S "len",GV.blt),(S "range",GV.blt),(S "tuple",GV.blt),(S "list",GV.blt),(S "int",GV.blt),(S "bool",GV.blt),(S "str",GV.blt),(S "min",GV.blt),(S "max",GV.blt),(S "isinstance",GV.blt),(S "all",GV.blt),(S "any",GV.blt),(S "zip",GV.blt),(S "sorted",GV.blt),(S "enumerate",GV.blt),(S "set",GV.blt)]
noncomputable def Yp(i k:Nat):Stmt:=match top i with
 |.ClassDef _ _ _ b _ _ _ _ _ _ _=>b.getD k (.Pass ⟨0,0,0,0⟩)
 |s=>s
abbrev Cmp(i:Nat)(N ps:Li Str)(c:CS):Prop:=Xl G (top i) N ps c
local macro_rules
 |`(tactic| trivial)=>`(tactic| exact⟨⟨rfl,rfl,rfl,by decide +kernel,rfl,by decide +kernel,by decide +kernel⟩,by unfold L2.Loc;decide +kernel,by kernel_rfl⟩)
theorem q_2:Cmp 2 [S "things",S "i",S "thing"] [S "things",S "i",S "thing"] c_replaced.body:=by trivial
theorem q_3:Cmp 3 [S "row"] [S "row"] c_operand_places.body:=by trivial
theorem ZkJ:Cmp 11 [S "number"] [S "number"] c_around.body:=by trivial
theorem ZkK:Cmp 12 [S "one",S "other"] [S "one",S "other"] c_divided.body:=by trivial
theorem ZkL:Cmp 13 [S "one",S "other"] [S "one",S "other"] c_left_over.body:=by trivial
theorem ZkM:Cmp 14 [S "one",S "sign",S "other"] [S "one",S "sign",S "other"] c_reckon.body:=by trivial
theorem ZkN:Cmp 15 [S "one",S "sign",S "other"] [S "one",S "sign",S "other"] c_is_so.body:=by trivial
theorem ZkO:Cmp 18 [S "ring",S "sign"] [S "ring",S "sign"] c_behind.body:=by trivial
theorem ZkP:Cmp 27 [S "program",S "rows",S "steps",S "told",S "k",S "row",S "step"] [S "program"] c_fakes.body:=by trivial
theorem ZkQ:Cmp 28 [S "program",S "k",S "row"] [S "program",S "k",S "row"] c_fake_of.body:=by trivial
theorem ZkR:Cmp 33 [S "y",S "z"] [S "y",S "z"] c_are_numbers.body:=by trivial
theorem ZkS:Cmp 34 [S "row",S "i",S "j"] [S "row",S "i",S "j"] c_lesser_first.body:=by trivial
theorem ZkT:Cmp 35 [S "row"] [S "row"] c_less_as_more.body:=by trivial
theorem ZkU:Cmp 36 [S "row",S "y",S "sign",S "z"] [S "row"] c_without_reckoning.body:=by trivial
theorem ZkV:Cmp 37 [S "row"] [S "row"] c_made_put.body:=by trivial
theorem ZkW:Cmp 38 [S "row"] [S "row"] c_greater_as_less.body:=by trivial
theorem ZkX:Cmp 39 [S "row"] [S "row"] c_is_settled.body:=by trivial
theorem ZkY:Cmp 40 [S "row",S "so"] [S "row"] c_settled.body:=by trivial
theorem ZkZ:Cmp 41 [S "row",S "y",S "z"] [S "row"] c_most_as_less.body:=by trivial
theorem Zk0:Cmp 42 [S "row",S "k"] [S "row",S "k"] c_made_if.body:=by trivial
theorem Zk1:Cmp 43 [S "row",S "k"] [S "row",S "k"] c_made_row.body:=by trivial
theorem Zk2:Cmp 44 [S "program",S "rows"] [S "program"] c_made.body:=by trivial
theorem Zk3:Cmp 46 [S "program",S "own",S "same",S "groups",S "number",S "fake",S "code"] [S "program"] c_twins.body:=by trivial
theorem Zk4:Cmp 48 [S "_law_script",S "_law_k"] [S "_law_script",S "_law_k"] c__law_cell_at_k25.body:=by trivial
theorem Zk5:Cmp 49 [S "_law_found",S "_law_due"] [S "_law_found",S "_law_due"] c__law_alike_k26.body:=by trivial
theorem Zk6:Cmp 50 [S "_law_cell"] [S "_law_cell"] c__law_number_by_k25.body:=by trivial
theorem Zk7:Cmp 51 [S "_law_cell",S "_law_names"] [S "_law_cell",S "_law_names"] c__law_operand_by.body:=by trivial
theorem Zk8:Cmp 52 [S "_law_cells",S "_law_names",S "_law_y",S "_law_z",S "_law_way"] [S "_law_cells",S "_law_names"] c__law_operands_by.body:=by trivial
theorem Zk9:Cmp 53 [S "_law_cells",S "_law_names",S "_law_many",S "_law_at",S "_law_y",S "_law_z",S "_law_t",S "_law_sign"] [S "_law_cells",S "_law_names",S "_law_many",S "_law_at"] c__law_row_by.body:=by trivial
theorem Zla:Cmp 54 [S "_law_script",S "_law_names",S "_law_takes",S "_law_ends",S "_law_many",S "_law_rows",S "_law_k",S "_law_cells"] [S "_law_script"] c__law_program_k29.body:=by trivial
theorem Zjf:Cmp 55 [S "_law_script",S "_law_program_here",S "_law_own",S "_law_same",S "_law_codes",S "_law_groups",S "_law_number",S "_law_k",S "_law_word",S "_law_row",S "_law_code"] [S "_law_script"] c_law_k29.body:=by trivial
theorem Zhr:Xl G (Yp 19 0) [S "self"] [S "self"] c_Step_word.body:=by trivial
theorem Zhs:Xl G (Yp 19 1) [S "self",S "row",S "many"] [S "self",S "row",S "many"] c_Step_turned.body:=by trivial
theorem Zht:Xl G (Yp 20 0) [S "self"] [S "self"] c_Sign_word.body:=by trivial
theorem Zhu:Xl G (Yp 20 1) [S "self",S "row",S "many"] [S "self",S "row",S "many"] c_Sign_turned.body:=by trivial
theorem Zhv:Xl G (Yp 21 0) [S "self"] [S "self"] c_More_word.body:=by trivial
theorem Zhw:Xl G (Yp 21 1) [S "self",S "row",S "many",S "rows",S "i"] [S "self",S "row",S "many"] c_More_turned.body:=by trivial
theorem Zhx:Xl G (Yp 22 0) [S "self"] [S "self"] c_Turn_word.body:=by trivial
theorem Zhy:Xl G (Yp 22 1) [S "self",S "row",S "many"] [S "self",S "row",S "many"] c_Turn_turned.body:=by trivial
theorem Zhz:Xl G (Yp 23 0) [S "self"] [S "self"] c_Out_word.body:=by trivial
theorem ZhA:Xl G (Yp 23 1) [S "self",S "row",S "many"] [S "self",S "row",S "many"] c_Out_turned.body:=by trivial
theorem ZhB:Xl G (Yp 24 0) [S "self"] [S "self"] c_Swap_word.body:=by trivial
theorem ZhC:Xl G (Yp 24 1) [S "self",S "row",S "many"] [S "self",S "row",S "many"] c_Swap_turned.body:=by trivial
theorem ZhD:Xl G (Yp 25 0) [S "self"] [S "self"] c_Far_word.body:=by trivial
theorem ZhE:Xl G (Yp 25 1) [S "self",S "row",S "many"] [S "self",S "row",S "many"] c_Far_turned.body:=by trivial
@[reducible] noncomputable def tab (l:Li (Nat×Ad)):ClsTab:=⟨fun i=>(l.lookup i).getD 0⟩
section
variable [ct:ClsTab]
theorem Zgw{Pm:Params}{K:Fg}{h:Heap}{mg:Str->Ot vL}{fa:Ad}(X:K.In h)(G0:h.Ns mainGlobals mg)(hfa:mg "law"=some (.ref fa)){C0:Ad}{C1:Ad}{C2:Ad}{C3:Ad}{C4:Ad}{C5:Ad}{C6:Ad}{A7:Ad}{ob7:Obj}{ep7:Nat}{t7_0:Tok}{B7_0:Ad}{bo7_0:Obj}{bn7_0:Nat}{u7_0_0:Tok}{u7_0_1:Tok}{t7_1:Tok}{B7_1:Ad}{bo7_1:Obj}{bn7_1:Nat}{u7_1_0:Tok}{u7_1_1:Tok}{t7_2:Tok}{B7_2:Ad}{bo7_2:Obj}{bn7_2:Nat}{u7_2_0:Tok}{t7_3:Tok}{B7_3:Ad}{bo7_3:Obj}{bn7_3:Nat}{t7_4:Tok}{B7_4:Ad}{bo7_4:Obj}{bn7_4:Nat}{t10:Tok}{t11:Tok}{t12:Tok}{t13:Tok}{A14:Ad}{ob14:Obj}{on14:Nat}{t14_0:Tok}{t14_1:Tok}{t14_2:Tok}{t14_3:Tok}{t14_4:Tok}{A15:Ad}{ob15:Obj}{on15:Nat}{t15_0:Tok}{t15_1:Tok}{t15_2:Tok}{t15_3:Tok}{t15_4:Tok}{t15_5:Tok}{A21:Ad}{ob21:Obj}{ep21:Nat}{t21_0:Tok}{u21_0:Tok}{t21_1:Tok}{u21_1:Tok}{t21_2:Tok}{u21_2:Tok}{t21_3:Tok}{u21_3:Tok}{t21_4:Tok}{u21_4:Tok}{t21_5:Tok}{u21_5:Tok}{A25:Ad}{ob25:Obj}{on25:Nat}{t25_0:Tok}{t25_1:Tok}{A26:Ad}{ob26:Obj}{on26:Nat}{t26_0:Tok}{t26_1:Tok}{A27:Ad}{ob27:Obj}{on27:Nat}{t27_0:Tok}
(yz0:ClsTab.ca 146=C0) (yz1:ClsTab.ca 169=C1) (yz2:ClsTab.ca 149=C2) (yz3:ClsTab.ca 157=C3) (yz4:ClsTab.ca 152=C4) (yz5:ClsTab.ca 160=C5) (yz6:ClsTab.ca 163=C6)
  (y0:ClsAt K "Step" C0) (ym0_0:PySem.W.kitOne K (.ref C0) (.ref C0)=some true) (ym0_1:PySem.W.kitOne K (.ref C1) (.ref C0)=some true) (ym0_2:PySem.W.kitOne K (.ref C2) (.ref C0)=some true) (ym0_3:PySem.W.kitOne K (.ref C3) (.ref C0)=some true) (ym0_4:PySem.W.kitOne K (.ref C4) (.ref C0)=some true) (ym0_5:PySem.W.kitOne K (.ref C5) (.ref C0)=some true) (ym0_6:PySem.W.kitOne K (.ref C6) (.ref C0)=some true) (w0_147:MtAt K C0 "word" "Step.word" (Yp 19 0)) (w0_148:MtAt K C0 "turned" "Step.turned" (Yp 19 1))
  (y1:ClsAt K "Sign" C1) (ym1_1:PySem.W.kitOne K (.ref C1) (.ref C1)=some true) (w1_170:MtAt K C1 "word" "Sign.word" (Yp 20 0)) (w1_171:MtAt K C1 "turned" "Sign.turned" (Yp 20 1))
  (y2:ClsAt K "More" C2) (ym2_2:PySem.W.kitOne K (.ref C2) (.ref C2)=some true) (w2_150:MtAt K C2 "word" "More.word" (Yp 21 0)) (w2_151:MtAt K C2 "turned" "More.turned" (Yp 21 1))
  (y3:ClsAt K "Turn" C3) (ym3_3:PySem.W.kitOne K (.ref C3) (.ref C3)=some true) (w3_158:MtAt K C3 "word" "Turn.word" (Yp 22 0)) (w3_159:MtAt K C3 "turned" "Turn.turned" (Yp 22 1))
  (y4:ClsAt K "Out" C4) (ym4_4:PySem.W.kitOne K (.ref C4) (.ref C4)=some true) (w4_153:MtAt K C4 "word" "Out.word" (Yp 23 0)) (w4_154:MtAt K C4 "turned" "Out.turned" (Yp 23 1))
  (y5:ClsAt K "Swap" C5) (ym5_5:PySem.W.kitOne K (.ref C5) (.ref C5)=some true) (w5_161:MtAt K C5 "word" "Swap.word" (Yp 24 0)) (w5_162:MtAt K C5 "turned" "Swap.turned" (Yp 24 1))
  (y6:ClsAt K "Far" C6) (ym6_6:PySem.W.kitOne K (.ref C6) (.ref C6)=some true) (w6_164:MtAt K C6 "word" "Far.word" (Yp 25 0)) (w6_165:MtAt K C6 "turned" "Far.turned" (Yp 25 1))
  (g7:PySem.W.nsIn K mainGlobals "OPERAND_PLACES"=some (some (.ref A7))) (d7:K.lookup A7=some ob7) (f7c:ob7.cls=.type "dict") (f7d:ob7.dict=none) (f7s:ob7.slots=#[]) (e7:ob7.data=.dict #[⟨PyData.keyHash Pm "put",.str "put" t7_0,.ref B7_0⟩,⟨PyData.keyHash Pm "if",.str "if" t7_1,.ref B7_1⟩,⟨PyData.keyHash Pm "tell",.str "tell" t7_2,.ref B7_2⟩,⟨PyData.keyHash Pm "go",.str "go" t7_3,.ref B7_3⟩,⟨PyData.keyHash Pm "skip",.str "skip" t7_4,.ref B7_4⟩] ep7) (s7:(A7==sysModules)=false)
  (h7_0:K.lookup B7_0=some bo7_0) (i7_0:bo7_0.cls=.type "tuple") (j7_0:bo7_0.data=.seq #[.int (2) u7_0_0,.int (4) u7_0_1] bn7_0)
  (h7_1:K.lookup B7_1=some bo7_1) (i7_1:bo7_1.cls=.type "tuple") (j7_1:bo7_1.data=.seq #[.int (1) u7_1_0,.int (3) u7_1_1] bn7_1)
  (h7_2:K.lookup B7_2=some bo7_2) (i7_2:bo7_2.cls=.type "tuple") (j7_2:bo7_2.data=.seq #[.int (1) u7_2_0] bn7_2)
  (h7_3:K.lookup B7_3=some bo7_3) (i7_3:bo7_3.cls=.type "tuple") (j7_3:bo7_3.data=.seq #[] bn7_3)
  (h7_4:K.lookup B7_4=some bo7_4) (i7_4:bo7_4.cls=.type "tuple") (j7_4:bo7_4.data=.seq #[] bn7_4)
  (a8:FnAt K "replaced" (top 2))
  (a9:FnAt K "operand_places" (top 3))
  (g10:PySem.W.nsIn K mainGlobals "LOWEST"=some (some (.int (-1000000000) t10)))
  (g11:PySem.W.nsIn K mainGlobals "HIGHEST"=some (some (.int (999999999) t11)))
  (g12:PySem.W.nsIn K mainGlobals "HALF"=some (some (.int (1000000000) t12)))
  (g13:PySem.W.nsIn K mainGlobals "RING"=some (some (.int (2000000000) t13)))
  (g14:PySem.W.nsIn K mainGlobals "PUT_SIGNS"=some (some (.ref A14))) (d14:K.lookup A14=some ob14) (f14c:ob14.cls=.type "tuple") (f14d:ob14.dict=none) (e14:ob14.data=.seq #[.str "+" t14_0,.str "-" t14_1,.str "*" t14_2,.str "/" t14_3,.str "mod" t14_4] on14)
  (g15:PySem.W.nsIn K mainGlobals "IF_SIGNS"=some (some (.ref A15))) (d15:K.lookup A15=some ob15) (f15c:ob15.cls=.type "tuple") (f15d:ob15.dict=none) (e15:ob15.data=.seq #[.str "<" t15_0,.str "<=" t15_1,.str "=" t15_2,.str ">=" t15_3,.str ">" t15_4,.str "!=" t15_5] on15)
  (a16:FnAt K "around" (top 11))
  (a17:FnAt K "divided" (top 12))
  (a18:FnAt K "left_over" (top 13))
  (a19:FnAt K "reckon" (top 14))
  (a20:FnAt K "is_so" (top 15))
  (g21:PySem.W.nsIn K mainGlobals "CONTRARIES"=some (some (.ref A21))) (d21:K.lookup A21=some ob21) (f21c:ob21.cls=.type "dict") (f21d:ob21.dict=none) (f21s:ob21.slots=#[]) (e21:ob21.data=.dict #[⟨PyData.keyHash Pm "<",.str "<" t21_0,.str ">=" u21_0⟩,⟨PyData.keyHash Pm ">=",.str ">=" t21_1,.str "<" u21_1⟩,⟨PyData.keyHash Pm "<=",.str "<=" t21_2,.str ">" u21_2⟩,⟨PyData.keyHash Pm ">",.str ">" t21_3,.str "<=" u21_3⟩,⟨PyData.keyHash Pm "=",.str "=" t21_4,.str "!=" u21_4⟩,⟨PyData.keyHash Pm "!=",.str "!=" t21_5,.str "=" u21_5⟩] ep21) (s21:(A21==sysModules)=false)
  (a22:FnAt K "behind" (top 18))
  (a23:FnAt K "fakes" (top 27))
  (a24:FnAt K "fake_of" (top 28))
  (g25:PySem.W.nsIn K mainGlobals "NOUGHT"=some (some (.ref A25))) (d25:K.lookup A25=some ob25) (f25c:ob25.cls=.type "tuple") (e25:ob25.data=.seq #[.str ("number") t25_0,.int (0) t25_1] on25)
  (g26:PySem.W.nsIn K mainGlobals "ONE"=some (some (.ref A26))) (d26:K.lookup A26=some ob26) (f26c:ob26.cls=.type "tuple") (e26:ob26.data=.seq #[.str ("number") t26_0,.int (1) t26_1] on26)
  (g27:PySem.W.nsIn K mainGlobals "SKIP"=some (some (.ref A27))) (d27:K.lookup A27=some ob27) (f27c:ob27.cls=.type "tuple") (e27:ob27.data=.seq #[.str ("skip") t27_0] on27)
  (a28:FnAt K "are_numbers" (top 33))
  (a29:FnAt K "lesser_first" (top 34))
  (a30:FnAt K "less_as_more" (top 35))
  (a31:FnAt K "without_reckoning" (top 36))
  (a32:FnAt K "made_put" (top 37))
  (a33:FnAt K "greater_as_less" (top 38))
  (a34:FnAt K "is_settled" (top 39))
  (a35:FnAt K "settled" (top 40))
  (a36:FnAt K "most_as_less" (top 41))
  (a37:FnAt K "made_if" (top 42))
  (a38:FnAt K "made_row" (top 43))
  (a39:FnAt K "made" (top 44))
  (a40:FnAt K "twins" (top 46))
  (a41:FnAt K "_law_cell_at" (top 48))
  (a42:FnAt K "_law_alike" (top 49))
  (a43:FnAt K "_law_number_by" (top 50))
  (a44:FnAt K "_law_operand_by" (top 51))
  (a45:FnAt K "_law_operands_by" (top 52))
  (a46:FnAt K "_law_row_by" (top 53))
  (a47:FnAt K "_law_program" (top 54))
  (a48:FnAt K "law" (top 55))
  (z49:PySem.W.nsIn K mainGlobals "len"=some none)
  (z50:PySem.W.nsIn K mainGlobals "range"=some none)
  (z51:PySem.W.nsIn K mainGlobals "tuple"=some none)
  (z52:PySem.W.nsIn K mainGlobals "list"=some none)
  (z53:PySem.W.nsIn K mainGlobals "int"=some none)
  (z54:PySem.W.nsIn K mainGlobals "bool"=some none)
  (z55:PySem.W.nsIn K mainGlobals "str"=some none)
  (z56:PySem.W.nsIn K mainGlobals "min"=some none)
  (z57:PySem.W.nsIn K mainGlobals "max"=some none)
  (z58:PySem.W.nsIn K mainGlobals "isinstance"=some none)
  (z59:PySem.W.nsIn K mainGlobals "all"=some none)
  (z60:PySem.W.nsIn K mainGlobals "any"=some none)
  (z61:PySem.W.nsIn K mainGlobals "zip"=some none)
  (z62:PySem.W.nsIn K mainGlobals "sorted"=some none)
  (z63:PySem.W.nsIn K mainGlobals "enumerate"=some none)
  (z64:PySem.W.nsIn K mainGlobals "set"=some none) :
  Text Pm K mg G T/\∃ (fd:FuncData) (N:Li Str),(∀ (s:Sd) (u:vL),BindsTo s fd ⟨[u],[]⟩ [(S "_law_script",u)])/\DefOk K mg G T "law" 16 [] fa fd [S "_law_script"] N:=by
 exact⟨ZfM (gC X G0 yz0 y0 (gS yz0 y0 ym0_0 (gS yz1 y1 ym0_1 (gS yz2 y2 ym0_2 (gS yz3 y3 ym0_3 (gS yz4 y4 ym0_4 (gS yz5 y5 ym0_5 (gS yz6 y6 ym0_6 trivial))))))) (gM w0_147 Zhr rfl (gM w0_148 Zhs rfl trivial)) (gC X G0 yz1 y1 (gS yz1 y1 ym1_1 trivial) (gM w1_170 Zht rfl (gM w1_171 Zhu rfl trivial)) (gC X G0 yz2 y2 (gS yz2 y2 ym2_2 trivial) (gM w2_150 Zhv rfl (gM w2_151 Zhw rfl trivial)) (gC X G0 yz3 y3 (gS yz3 y3 ym3_3 trivial) (gM w3_158 Zhx rfl (gM w3_159 Zhy rfl trivial)) (gC X G0 yz4 y4 (gS yz4 y4 ym4_4 trivial) (gM w4_153 Zhz rfl (gM w4_154 ZhA rfl trivial)) (gC X G0 yz5 y5 (gS yz5 y5 ym5_5 trivial) (gM w5_161 ZhB rfl (gM w5_162 ZhC rfl trivial)) (gC X G0 yz6 y6 (gS yz6 y6 ym6_6 trivial) (gM w6_164 ZhD rfl (gM w6_165 ZhE rfl trivial)) (⟨⟨A7,ob7,#[⟨PyData.keyHash Pm "put",.str "put" t7_0,.ref B7_0⟩,⟨PyData.keyHash Pm "if",.str "if" t7_1,.ref B7_1⟩,⟨PyData.keyHash Pm "tell",.str "tell" t7_2,.ref B7_2⟩,⟨PyData.keyHash Pm "go",.str "go" t7_3,.ref B7_3⟩,⟨PyData.keyHash Pm "skip",.str "skip" t7_4,.ref B7_4⟩],ep7,PySem.W.mg_of X G0 g7,d7,⟨f7c,f7d,f7s⟩,e7,s7,(by simp),(show EsOk Pm K [⟨PyData.keyHash Pm "put",.str "put" t7_0,.ref B7_0⟩,⟨PyData.keyHash Pm "if",.str "if" t7_1,.ref B7_1⟩,⟨PyData.keyHash Pm "tell",.str "tell" t7_2,.ref B7_2⟩,⟨PyData.keyHash Pm "go",.str "go" t7_3,.ref B7_3⟩,⟨PyData.keyHash Pm "skip",.str "skip" t7_4,.ref B7_4⟩] _ _ from .cons (v:=.ref B7_0) (t:=t7_0) rfl rfl (show RelV (.ref B7_0) (.ref B7_0) from rfl) (fun _ _=>.tup (xs:=[.int (2),.int (4)]) (.inr ⟨bo7_0,#[.int (2) u7_0_0,.int (4) u7_0_1],bn7_0,h7_0,i7_0,j7_0,(show(2:Nat)<=sizeLine by decide),.cons ⟨_,rfl⟩ (.cons ⟨_,rfl⟩ (.nil))⟩) (.cons (.int _) (.cons (.int _) (.nil)))) (.cons (v:=.ref B7_1) (t:=t7_1) rfl rfl (show RelV (.ref B7_1) (.ref B7_1) from rfl) (fun _ _=>.tup (xs:=[.int (1),.int (3)]) (.inr ⟨bo7_1,#[.int (1) u7_1_0,.int (3) u7_1_1],bn7_1,h7_1,i7_1,j7_1,(show(2:Nat)<=sizeLine by decide),.cons ⟨_,rfl⟩ (.cons ⟨_,rfl⟩ (.nil))⟩) (.cons (.int _) (.cons (.int _) (.nil)))) (.cons (v:=.ref B7_2) (t:=t7_2) rfl rfl (show RelV (.ref B7_2) (.ref B7_2) from rfl) (fun _ _=>.tup (xs:=[.int (1)]) (.inr ⟨bo7_2,#[.int (1) u7_2_0],bn7_2,h7_2,i7_2,j7_2,(show(1:Nat)<=sizeLine by decide),.cons ⟨_,rfl⟩ (.nil)⟩) (.cons (.int _) (.nil))) (.cons (v:=.ref B7_3) (t:=t7_3) rfl rfl (show RelV (.ref B7_3) (.ref B7_3) from rfl) (fun _ _=>.tup (xs:=[]) (.inr ⟨bo7_3,#[],bn7_3,h7_3,i7_3,j7_3,(show(0:Nat)<=sizeLine by decide),.nil⟩) (.nil)) (.cons (v:=.ref B7_4) (t:=t7_4) rfl rfl (show RelV (.ref B7_4) (.ref B7_4) from rfl) (fun _ _=>.tup (xs:=[]) (.inr ⟨bo7_4,#[],bn7_4,h7_4,i7_4,j7_4,(show(0:Nat)<=sizeLine by decide),.nil⟩) (.nil)) (.nil))))))⟩,gD X G0 a8 q_2 rfl (gD X G0 a9 q_3 rfl (gI X G0 g10 (gI X G0 g11 (gI X G0 g12 (gI X G0 g13 (⟨⟨.ref A14,.ref A14,PySem.W.mg_of X G0 g14,rfl,fun _ _=>.kt (its:=#[.str "+" t14_0,.str "-" t14_1,.str "*" t14_2,.str "/" t14_3,.str "mod" t14_4]) d14 f14c f14d e14 (show(5:Nat)<=sizeLine by decide) (.cons ⟨_,rfl⟩ (.cons ⟨_,rfl⟩ (.cons ⟨_,rfl⟩ (.cons ⟨_,rfl⟩ (.cons ⟨_,rfl⟩ (.nil))))))⟩,⟨⟨.ref A15,.ref A15,PySem.W.mg_of X G0 g15,rfl,fun _ _=>.kt (its:=#[.str "<" t15_0,.str "<=" t15_1,.str "=" t15_2,.str ">=" t15_3,.str ">" t15_4,.str "!=" t15_5]) d15 f15c f15d e15 (show(6:Nat)<=sizeLine by decide) (.cons ⟨_,rfl⟩ (.cons ⟨_,rfl⟩ (.cons ⟨_,rfl⟩ (.cons ⟨_,rfl⟩ (.cons ⟨_,rfl⟩ (.cons ⟨_,rfl⟩ (.nil)))))))⟩,gD X G0 a16 ZkJ rfl (gD X G0 a17 ZkK rfl (gD X G0 a18 ZkL rfl (gD X G0 a19 ZkM rfl (gD X G0 a20 ZkN rfl (⟨⟨A21,ob21,#[⟨PyData.keyHash Pm "<",.str "<" t21_0,.str ">=" u21_0⟩,⟨PyData.keyHash Pm ">=",.str ">=" t21_1,.str "<" u21_1⟩,⟨PyData.keyHash Pm "<=",.str "<=" t21_2,.str ">" u21_2⟩,⟨PyData.keyHash Pm ">",.str ">" t21_3,.str "<=" u21_3⟩,⟨PyData.keyHash Pm "=",.str "=" t21_4,.str "!=" u21_4⟩,⟨PyData.keyHash Pm "!=",.str "!=" t21_5,.str "=" u21_5⟩],ep21,PySem.W.mg_of X G0 g21,d21,⟨f21c,f21d,f21s⟩,e21,s21,(by simp),(show EsOk Pm K [⟨PyData.keyHash Pm "<",.str "<" t21_0,.str ">=" u21_0⟩,⟨PyData.keyHash Pm ">=",.str ">=" t21_1,.str "<" u21_1⟩,⟨PyData.keyHash Pm "<=",.str "<=" t21_2,.str ">" u21_2⟩,⟨PyData.keyHash Pm ">",.str ">" t21_3,.str "<=" u21_3⟩,⟨PyData.keyHash Pm "=",.str "=" t21_4,.str "!=" u21_4⟩,⟨PyData.keyHash Pm "!=",.str "!=" t21_5,.str "=" u21_5⟩] _ _ from .cons (v:=.str ">=") (t:=t21_0) rfl rfl (show RelV (.str ">=") (.str ">=" u21_0) from⟨_,rfl⟩) (fun _ _=>.str _) (.cons (v:=.str "<") (t:=t21_1) rfl rfl (show RelV (.str "<") (.str "<" u21_1) from⟨_,rfl⟩) (fun _ _=>.str _) (.cons (v:=.str ">") (t:=t21_2) rfl rfl (show RelV (.str ">") (.str ">" u21_2) from⟨_,rfl⟩) (fun _ _=>.str _) (.cons (v:=.str "<=") (t:=t21_3) rfl rfl (show RelV (.str "<=") (.str "<=" u21_3) from⟨_,rfl⟩) (fun _ _=>.str _) (.cons (v:=.str "!=") (t:=t21_4) rfl rfl (show RelV (.str "!=") (.str "!=" u21_4) from⟨_,rfl⟩) (fun _ _=>.str _) (.cons (v:=.str "=") (t:=t21_5) rfl rfl (show RelV (.str "=") (.str "=" u21_5) from⟨_,rfl⟩) (fun _ _=>.str _) (.nil)))))))⟩,gD X G0 a22 ZkO rfl (gD X G0 a23 ZkP rfl (gD X G0 a24 ZkQ rfl (⟨⟨.ref A25,.ref A25,PySem.W.mg_of X G0 g25,rfl,fun _ _=>.tup (xs:=[.str ("number"),.int (0)]) (.inr ⟨ob25,#[.str ("number") t25_0,.int (0) t25_1],on25,d25,f25c,e25,(show(2:Nat)<=sizeLine by decide),.cons ⟨_,rfl⟩ (.cons ⟨_,rfl⟩ (.nil))⟩) (.cons (.str _) (.cons (.int _) (.nil)))⟩,⟨⟨.ref A26,.ref A26,PySem.W.mg_of X G0 g26,rfl,fun _ _=>.tup (xs:=[.str ("number"),.int (1)]) (.inr ⟨ob26,#[.str ("number") t26_0,.int (1) t26_1],on26,d26,f26c,e26,(show(2:Nat)<=sizeLine by decide),.cons ⟨_,rfl⟩ (.cons ⟨_,rfl⟩ (.nil))⟩) (.cons (.str _) (.cons (.int _) (.nil)))⟩,⟨⟨.ref A27,.ref A27,PySem.W.mg_of X G0 g27,rfl,fun _ _=>.tup (xs:=[.str ("skip")]) (.inr ⟨ob27,#[.str ("skip") t27_0],on27,d27,f27c,e27,(show(1:Nat)<=sizeLine by decide),.cons ⟨_,rfl⟩ (.nil)⟩) (.cons (.str _) (.nil))⟩,gD X G0 a28 ZkR rfl (gD X G0 a29 ZkS rfl (gD X G0 a30 ZkT rfl (gD X G0 a31 ZkU rfl (gD X G0 a32 ZkV rfl (gD X G0 a33 ZkW rfl (gD X G0 a34 ZkX rfl (gD X G0 a35 ZkY rfl (gD X G0 a36 ZkZ rfl (gD X G0 a37 Zk0 rfl (gD X G0 a38 Zk1 rfl (gD X G0 a39 Zk2 rfl (gD X G0 a40 Zk3 rfl (gD X G0 a41 Zk4 rfl (gD X G0 a42 Zk5 rfl (gD X G0 a43 Zk6 rfl (gD X G0 a44 Zk7 rfl (gD X G0 a45 Zk8 rfl (gD X G0 a46 Zk9 rfl (gD X G0 a47 Zla rfl (gD X G0 a48 Zjf rfl (gB X G0 z49 (gB X G0 z50 (gB X G0 z51 (gB X G0 z52 (gB X G0 z53 (gB X G0 z54 (gB X G0 z55 (gB X G0 z56 (gB X G0 z57 (gB X G0 z58 (gB X G0 z59 (gB X G0 z60 (gB X G0 z61 (gB X G0 z62 (gB X G0 z63 (gB X G0 z64 (trivial)))))))))))))))))))))))))))))))))))))⟩⟩⟩)))⟩)))))⟩⟩))))))⟩)))))))),gL X G0 hfa a48 Zjf rfl fun _ _ _ _ _ _ _=>rfl⟩
theorem Ze2:∀ n,Xo G (run T n):=fun _=>Zef
end
end Dp
open PySem PySem.W PyProof.Rows
set_option maxRecDepth 100000 in
set_option maxHeartbeats 0 in
theorem PySem.Challenge.cw_fakehunt_k29_twins_in_groups_holds : PySem.Challenge.rw_fakehunt_k29_twins_in_groups.Holds := by
 w_on;o_law;k_head;(case hw=>w_witness2)
 k_fill
 refine Dp.Zbu (l:=PySem.Challenge.rw_fakehunt_k29_twins_in_groups) (G:=Dp.G) (T:=Dp.T) (n:=8) (i:=16) (x := "_law_script") rfl rfl ⟨rfl,by decide,by decide⟩ (fun w h Y=>PySem.W.kIn_of Y) Dp.Ze2 ?F (fun ns hn=>Dp.Zbt hn)
 case F=>
  intro w mg fa h KX G0 hmg;refine' ⟨Dp.tab [(146,?C0),(169,?C1),(149,?C2),(157,?C3),(152,?C4),(160,?C5),(163,?C6)],Dp.Zgw (ct:=Dp.tab [(146,?C0),(169,?C1),(149,?C2),(157,?C3),(152,?C4),(160,?C5),(163,?C6)]) (Pm:=w.params) (C0:=?C0) (C1:=?C1) (C2:=?C2) (C3:=?C3) (C4:=?C4) (C5:=?C5) (C6:=?C6) KX G0 hmg ?z0 ?z1 ?z2 ?z3 ?z4 ?z5 ?z6 ⟨?_,?_,?_,?_,?_,?_,?_,?_,?_,?_,?_,?_⟩ ?_ ?_ ?_ ?_ ?_ ?_ ?_ (.mk ?_ ?_ ?_ ?_ ?_) (.mk ?_ ?_ ?_ ?_ ?_) ⟨?_,?_,?_,?_,?_,?_,?_,?_,?_,?_,?_,?_⟩ ?_ (.mk ?_ ?_ ?_ ?_ ?_) (.mk ?_ ?_ ?_ ?_ ?_) ⟨?_,?_,?_,?_,?_,?_,?_,?_,?_,?_,?_,?_⟩ ?_ (.mk ?_ ?_ ?_ ?_ ?_) (.mk ?_ ?_ ?_ ?_ ?_) ⟨?_,?_,?_,?_,?_,?_,?_,?_,?_,?_,?_,?_⟩ ?_ (.mk ?_ ?_ ?_ ?_ ?_) (.mk ?_ ?_ ?_ ?_ ?_) ⟨?_,?_,?_,?_,?_,?_,?_,?_,?_,?_,?_,?_⟩ ?_ (.mk ?_ ?_ ?_ ?_ ?_) (.mk ?_ ?_ ?_ ?_ ?_) ⟨?_,?_,?_,?_,?_,?_,?_,?_,?_,?_,?_,?_⟩ ?_ (.mk ?_ ?_ ?_ ?_ ?_) (.mk ?_ ?_ ?_ ?_ ?_) ⟨?_,?_,?_,?_,?_,?_,?_,?_,?_,?_,?_,?_⟩ ?_ (.mk ?_ ?_ ?_ ?_ ?_) (.mk ?_ ?_ ?_ ?_ ?_) ?_ ?_ ?_ ?_ ?_ ?_ ?_ ?_ ?_ ?_ ?_ ?_ ?_ ?_ ?_ ?_ ?_ ?_ ?_ ?_ ?_ ?_ (.mk ?_ ?_ ?_ ?_) (.mk ?_ ?_ ?_ ?_) ?_ ?_ ?_ ?_ ?_ ?_ ?_ ?_ ?_ ?_ ?_ ?_ ?_ ?_ (.mk ?_ ?_ ?_ ?_) (.mk ?_ ?_ ?_ ?_) (.mk ?_ ?_ ?_ ?_) (.mk ?_ ?_ ?_ ?_) (.mk ?_ ?_ ?_ ?_) ?_ ?_ ?_ ?_ ?_ ?_ ?_ (.mk ?_ ?_ ?_ ?_) (.mk ?_ ?_ ?_ ?_) (.mk ?_ ?_ ?_ ?_) ?_ ?_ ?_ ?_ ?_ ?_ ?_ ?_ ?_ ?_ ?_ ?_ (.mk ?_ ?_ ?_ ?_) (.mk ?_ ?_ ?_ ?_) (.mk ?_ ?_ ?_ ?_) (.mk ?_ ?_ ?_ ?_) (.mk ?_ ?_ ?_ ?_) (.mk ?_ ?_ ?_ ?_) (.mk ?_ ?_ ?_ ?_) (.mk ?_ ?_ ?_ ?_) (.mk ?_ ?_ ?_ ?_) (.mk ?_ ?_ ?_ ?_) (.mk ?_ ?_ ?_ ?_) (.mk ?_ ?_ ?_ ?_) (.mk ?_ ?_ ?_ ?_) (.mk ?_ ?_ ?_ ?_) (.mk ?_ ?_ ?_ ?_) (.mk ?_ ?_ ?_ ?_) (.mk ?_ ?_ ?_ ?_) (.mk ?_ ?_ ?_ ?_) (.mk ?_ ?_ ?_ ?_) (.mk ?_ ?_ ?_ ?_) (.mk ?_ ?_ ?_ ?_) ?_ ?_ ?_ ?_ ?_ ?_ ?_ ?_ ?_ ?_ ?_ ?_ ?_ ?_ ?_ ?_⟩
  all_goals (first|k_is|exact rfl|skip)
  all_goals (first|k_is|exact rfl|skip)

import PyProof.Rows.All
import Wide.All
import OpenK.AllK
import Wide.FinOn
import Lean
import PyProof.EqAt
import PyProof.EqKinds
import PyProof.TupleCall
import PySem.Challenge.RW_fakehunt_k47_whole_first_that_tells
set_option Elab.async false
set_option linter.all false
set_option maxRecDepth 100000
set_option maxHeartbeats 4000000
set_option genSizeOf false
namespace L2
open PySem PySem.Spec PyProof.Rows

noncomputable abbrev Key:=Sum Int Str
noncomputable def keyIs:Key→Value→Bool
  |.inl k,v=>Value.isInt k v
  |.inr x,v=>Value.isStrOf x v
noncomputable def keyH(w:World):Key→Int
  |.inl k=>hashInt k
  |.inr x=>hashStr w x
theorem keyIs_shape:∀ {k:Key}{v:Value},keyIs k v=true→(∃ i t,k=Sum.inl i∧v=Value.int i t)∨(∃ x t,k=Sum.inr x∧v=Value.str x t)
  |.inl i,v,h=>by
    obtain⟨t,e⟩:=Value.isInt_shape (k:=i) (v:=v) h;exact .inl ⟨i,t,rfl,e⟩
  |.inr x,v,h=>by
    obtain⟨t,e⟩:=Value.isStrOf_shape (x:=x) (v:=v) h;exact .inr ⟨x,t,rfl,e⟩
theorem keyIs_int(i:Int)(t:Tok):keyIs (.inl i) (.int i t)=true:=by simp[keyIs,Value.isInt]
theorem keyIs_str(x:Str)(t:Tok):keyIs (.inr x) (.str x t)=true:=by simp[keyIs,Value.isStrOf]
theorem key_ll(a b:Int):decide ((Sum.inl a:Key)=Sum.inl b)=(a==b):=by
  by_cases e:a=b
  · subst e;simp
  · have h:¬(Sum.inl a:Key)=Sum.inl b:=fun q=>e (Sum.inl.inj q)
    rw[decide_eq_false h];exact(beq_eq_false_iff_ne.mpr e).symm
theorem key_rr(a b:Str):decide ((Sum.inr a:Key)=Sum.inr b)=decide (a=b):=by
  by_cases e:a=b
  · subst e;simp
  · have h:¬(Sum.inr a:Key)=Sum.inr b:=fun q=>e (Sum.inr.inj q)
    rw[decide_eq_false h,decide_eq_false e]
theorem key_lr(a:Int)(b:Str):decide ((Sum.inl a:Key)=Sum.inr b)=false:=decide_eq_false (fun q=>nomatch q)
theorem key_rl(a:Str)(b:Int):decide ((Sum.inr a:Key)=Sum.inl b)=false:=decide_eq_false (fun q=>nomatch q)

noncomputable def mixKind(prog:Program)(w:World):PySem.KeyKind prog w Key where
  is:=keyIs
  hash:=keyH w
  inj:=fun v a b ha hb=>by
    rcases keyIs_shape ha with⟨i,t,rfl,rfl⟩|⟨x,t,rfl,rfl⟩
    · rcases keyIs_shape hb with⟨j,u,rfl,e⟩|⟨y,u,rfl,e⟩
      · injection e with e1 _;rw[e1]
      · exact nomatch e
    · rcases keyIs_shape hb with⟨j,u,rfl,e⟩|⟨y,u,rfl,e⟩
      · exact nomatch e
      · injection e with e1 _;rw[e1]
  byValue:=fun k v h=>by
    rcases keyIs_shape h with⟨i,t,rfl,rfl⟩|⟨x,t,rfl,rfl⟩<;>rfl
  pyHash:=fun hv h=>by
    rcases keyIs_shape hv with⟨i,t,rfl,rfl⟩|⟨x,t,rfl,rfl⟩
    · exact wpAny_pyHash_int h
    · exact wpAny_pyHash_str h
  eqBool:=fun hu hv h=>by
    rcases keyIs_shape hu with⟨i,t,rfl,rfl⟩|⟨x,t,rfl,rfl⟩
    · rcases keyIs_shape hv with⟨j,u,rfl,rfl⟩|⟨y,u,rfl,rfl⟩
      · rw[key_ll]at h;exact wpAny_eqBool_int h
      · rw[key_lr]at h;exact SeqAt.EqAt.int_str i t y u _ _ _ _ h
    · rcases keyIs_shape hv with⟨j,u,rfl,rfl⟩|⟨y,u,rfl,rfl⟩
      · rw[key_rl]at h;exact SeqAt.EqAt.str_int x t j u _ _ _ _ h
      · rw[key_rr]at h;exact wpAny_eqBool_str h
  «strs»:=fun k x t v h=>by
    rcases keyIs_shape h with⟨i,u,rfl,e⟩|⟨y,u,rfl,e⟩
    · exact nomatch e
    · injection e with e1 _
      subst e1;cases v<;>rfl

theorem mixKind_int(prog:Program)(w:World)(i:Int)(t:Tok):(mixKind prog w).is (.inl i) (.int i t)=true:=keyIs_int i t
theorem mixKind_str(prog:Program)(w:World)(x:Str)(t:Tok):(mixKind prog w).is (.inr x) (.str x t)=true:=keyIs_str x t
end L2

namespace L2
open PySem PySem.Spec PyProof.Rows

inductive V where
  |non|bl (b:Bool)|int (i:Int)|str (x:Str)|byt (b:Array UInt8)|flt (b:UInt64)|ref (a:Addr)|ty (n:String)
  deriving DecidableEq

def RelV:V→Value→Prop
  |.non,u=>u=Value.none
  |.bl b,u=>u=Value.bool b
  |.int i,u=>∃ t,u=Value.int i t
  |.str x,u=>∃ t,u=Value.str x t
  |.byt b,u=>∃ t,u=Value.bytes b t
  |.flt b,u=>∃ t,u=Value.float b t
  |.ref a,u=>u=Value.ref a
  |.ty n,u=>u=Value.type n

abbrev Vals:List V→List Value→Prop:=Paired RelV
theorem Vals.length{xs:List V}{us:List Value}(r:Vals xs us):xs.length=us.length:=Paired.length r
theorem Vals.get:∀ {xs:List V}{us:List Value}{i:Nat}{x:V},Vals xs us→xs[i]?=some x→∃ u,us[i]?=some u∧RelV x u
  |_,_,_,_,.nil,e=>by simp at e
  |_,_,0,_,.cons r _,e=>by simp at e;subst e;exact⟨_,rfl,r⟩
  |_,_,i+1,x,.cons _ t,e=>by
    obtain⟨u,h1,h2⟩:=Vals.get (i:=i) (x:=x) t (by simpa using e)
    exact⟨u,by simpa using h1,h2⟩
theorem Vals.set{x:V}{u:Value}(r:RelV x u):∀ {xs:List V}{us:List Value} (i:Nat),Vals xs us→Vals (xs.set i x) (us.set i u)
  |_,_,_,.nil=>.nil
  |_,_,0,.cons _ t=>.cons r t
  |_,_,i+1,.cons q t=>.cons q (Vals.set r i t)
theorem Vals.append:∀ {xs ys:List V}{us ws:List Value},Vals xs us→Vals ys ws→Vals (xs++ys) (us++ws)
  |_,_,_,_,.nil,s=>s
  |_,_,_,_,.cons r t,s=>.cons r (Vals.append t s)
theorem Vals.take:∀ {xs:List V}{us:List Value} (n:Nat),Vals xs us→Vals (xs.take n) (us.take n)
  |_,_,0,_=>.nil
  |_,_,_+1,.nil=>.nil
  |_,_,n+1,.cons r t=>.cons r (Vals.take n t)
theorem Vals.drop:∀ {xs:List V}{us:List Value} (n:Nat),Vals xs us→Vals (xs.drop n) (us.drop n)
  |_,_,0,r=>r
  |_,_,_+1,.nil=>.nil
  |_,_,n+1,.cons _ t=>Vals.drop n t

def RelO:Option V→Option Value→Prop
  |some v,some u=>RelV v u
  |none,none=>True
  |_,_=>False
def KV{κ:Type}:List (κ×V)→List (κ×Value)→Prop:=Paired fun(p:κ×V) (q:κ×Value)=>p.1=q.1∧RelV p.2 q.2

noncomputable def kV:Key→V
  |.inl i=>.int i
  |.inr x=>.str x

inductive HO where
    |lst (xs:List V)
    |tup (xs:List V)
    |dK (kvs:List (Key×V))|dT (kvs:List (List Key×V))
    |set (S:Int→Bool) (n:Nat)
    |ins (C dx:Addr) (fs:List (Str×V))
    |own (x:Addr)
    |xd (fs:List (Str×V))
    |met (f x:Addr)
    |rng (lo hi:Int)
    |frz (o:Obj) (u:HO)
    |tbl (ps:Array Value)
    |ext (φ:Heap→Prop)

noncomputable abbrev Hp:=Addr→Option HO
noncomputable def upd(H:Hp)(a:Addr)(o:HO):Hp:=fun b=>if b=a then some o else H b
theorem upd_same{H:Hp}{a:Addr}{o:HO}:upd H a o a=some o:=by unfold upd;rw[if_pos rfl]
theorem upd_ne{H:Hp}{a b:Addr}{o:HO}(h:b≠a):upd H a o b=H b:=by unfold upd;rw[if_neg h]
theorem ne_of{H:Hp}{a b:Addr}{o u:HO}(h:H a=some o)(h':H b=some u)(d:o≠u):a≠b:=by
  intro e;subst e;rw[h]at h';exact d (Option.some.inj h')
theorem ne_of_none{H:Hp}{a b:Addr}{o:HO}(h:H a=some o)(h':H b=none):a≠b:=by
  intro e;subst e;rw[h]at h';cases h'

section
variable (P:Program) (w:World)
def ObjOk(H:Hp)(h:Heap)(a:Addr):HO→Prop
  |.lst xs=>xs.length≤sizeLine∧∃ (its:List Value) (n:Nat),Vals xs its∧h.get? a=some { cls:=.type "list",data:=.seq its.toArray n }
  |.tup xs=>xs.length≤sizeLine∧∃ its:List Value,Vals xs its∧IsTup h a its.toArray
  |.dK kvs=>kvs.length≤sizeLine∧(a==sysModules)=false∧∃ vs,KV kvs vs∧h.DictOf (mixKind P w) a vs
  |.dT kvs=>kvs.length≤sizeLine∧(a==sysModules)=false∧∃ xs:List (List Key×Addr×Value),
      Paired (fun(p:List Key×V) (q:List Key×Addr×Value)=>p.1=q.1∧H q.2.1=some (.tup (p.1.map kV))∧RelV p.2 q.2.2) kvs xs ∧
      ∃ o es ep,h.get? a=some o∧o.ExactDict∧o.data=.dict es ep∧es.toList=xs.map (entryOfKey (tupleKind (mixKind P w)))∧(xs.map (·.1)).Nodup
  |.set S n=>h.SetOf (intKind P w) a S n
  |.ins C dx fs=>H dx=some (.own a)∧fs.length≤1000∧dx≠a∧h.get? a=some (PySem.W.instObj C dx) ∧
      ∃ mA,h.Ns1 dx mA∧(∀ f,RelO (fs.lookup f) (mA f))∧PySem.Within mA (fs.map (·.1))
  |.own _=>∃ o,h.get? a=some o
  |.xd fs=>∃ mA,h.Ns1 a mA∧∀ f,RelO (fs.lookup f) (mA f)
  |.rng lo hi=>∃ t u v,h.get? a=some { cls:=.type "range",data:=.fields #[.int lo t,.int hi u,.int 1 v] }
  |.frz o u=>h.get? a=some o∧ObjOk H h a u
  |.tbl ps=>h.get? a=some { cls:=.none,data:=.fields ps }
  |.met f x=>h.get? a=some (PySem.W.methodObj (.ref f) (.ref x))
  |.ext φ=>φ h∧(∃ o,h.get? a=some o)∧∀ h1 h2:Heap,φ h1→(∀ o,h1.get? a=some o→h2.get? a=some o)→φ h2
def HOk(H:Hp)(h:Heap):Prop:=∀ a o,H a=some o→ObjOk P w H h a o
end

section
variable {P:Program}{w:World}{H H':Hp}{h h':Heap}{a:Addr}{o:HO}
theorem ObjOk.lt(x:ObjOk P w H h a o):a < h.objs.size:=by
  cases o with
  |lst xs=>obtain⟨_,_,_,_,e⟩:=x;exact Heap.lt_size e
  |tup xs=>obtain⟨_,_,_,p⟩:=x;exact p.lt
  |dK kvs=>obtain⟨_,_,_,_,o,_,_,e,_⟩:=x;exact Heap.lt_size e
  |dT kvs=>obtain⟨_,_,_,_,o,_,_,e,_⟩:=x;exact Heap.lt_size e
  |set S n=>obtain⟨o,_,_,_,e,_⟩:=x;exact Heap.lt_size e
  |ins C dx fs=>obtain⟨_,_,_,e,_⟩:=x;exact Heap.lt_size e
  |own y=>obtain⟨_,e⟩:=x;exact Heap.lt_size e
  |xd fs=>obtain⟨_,⟨_,_,_,e,_⟩,_⟩:=x;exact Heap.lt_size e
  |rng lo hi=>obtain⟨_,_,_,e⟩:=x;exact Heap.lt_size e
  |frz ob u=>obtain⟨e,_⟩:=x;exact Heap.lt_size e
  |tbl ps=>exact Heap.lt_size (show h.get? a=some _ from x)
  |met f y=>exact Heap.lt_size (show h.get? a=some _ from x)
  |ext φ=>obtain⟨_,⟨_,e⟩,_⟩:=x;exact Heap.lt_size e
theorem Paired.mapP{α β:Type}{F G:α→β→Prop}:∀ {l₁:List α}{l₂:List β},Paired F l₁ l₂→(∀ a b,F a b→G a b)→Paired G l₁ l₂
  |_,_,.nil,_=>.nil
  |_,_,.cons r t,f=>.cons (f _ _ r) (Paired.mapP t f)
theorem ObjOk.stay(x:ObjOk P w H h a o)(k:∀ b u,(b=a∨H b=some (.own a))→h.get? b=some u→h'.get? b=some u)(ho:∀ b,H b=some (.own a)→H' b=some (.own a))(ht:∀ b xs,H b=some (.tup xs)→H' b=some (.tup xs)):ObjOk P w H' h' a o:=by
  induction o with
  |lst xs=>obtain⟨z,its,n,r,e⟩:=x;exact⟨z,its,n,r,k _ _ (.inl rfl) e⟩
  |tup xs=>obtain⟨z,its,r,ob,e,c⟩:=x;exact⟨z,its,r,ob,k _ _ (.inl rfl) e,c⟩
  |dK kvs=>obtain⟨z,y,vs,r,ob,es,ep,e,c⟩:=x;exact⟨z,y,vs,r,ob,es,ep,k _ _ (.inl rfl) e,c⟩
  |dT kvs=>
    obtain⟨z,y,xs,r,ob,es,ep,e,c⟩:=x;exact⟨z,y,xs,Paired.mapP r fun p q z=>⟨z.1,ht _ _ z.2.1,z.2.2⟩,ob,es,ep,k _ _ (.inl rfl) e,c⟩
  |set S n=>obtain⟨ob,es,ep,t,e,c⟩:=x;exact⟨ob,es,ep,t,k _ _ (.inl rfl) e,c⟩
  |ins C dx fs=>
    obtain⟨d,z,ne,e,mA,⟨od,es,ep,e2,c⟩,r⟩:=x;exact⟨ho _ d,z,ne,k _ _ (.inl rfl) e,mA,⟨od,es,ep,k _ _ (.inr d) e2,c⟩,r⟩
  |own y=>obtain⟨ob,e⟩:=x;exact⟨ob,k _ _ (.inl rfl) e⟩
  |xd fs=>obtain⟨mA,⟨od,es,ep,e,c⟩,r⟩:=x;exact⟨mA,⟨od,es,ep,k _ _ (.inl rfl) e,c⟩,r⟩
  |rng lo hi=>obtain⟨t,u,v,e⟩:=x;exact⟨t,u,v,k _ _ (.inl rfl) e⟩
  |frz ob u ih=>obtain⟨e,q⟩:=x;exact⟨k _ _ (.inl rfl) e,ih q⟩
  |tbl ps=>
    have e:h.get? a=some { cls:=.none,data:=.fields ps }:=x;show h'.get? a=some { cls:=.none,data:=.fields ps };exact k a _ (.inl rfl) e
  |met f y=>
    have e:h.get? a=some (PySem.W.methodObj (.ref f) (.ref y)):=x;show h'.get? a=some (PySem.W.methodObj (.ref f) (.ref y));exact k a _ (.inl rfl) e
  |ext φ=>obtain⟨p,⟨o,e⟩,st⟩:=x;exact⟨st _ _ p fun o q=>k _ _ (.inl rfl) q,⟨o,k _ _ (.inl rfl) e⟩,st⟩
theorem HOk.lt(x:HOk P w H h)(e:H a=some o):a < h.objs.size:=(x a o e).lt
theorem HOk.fresh(x:HOk P w H h)(e:h.objs.size≤a):H a=none:=by
  cases q:H a with
  |none=>rfl
  |some u=>exact absurd (Nat.lt_of_lt_of_le (x.lt q) e) (Nat.lt_irrefl _)
theorem HOk.kept(x:HOk P w H h)(k:∀ b u,h.get? b=some u→h'.get? b=some u):HOk P w H h':=fun a o e=>
  (x a o e).stay (fun b u _ q=>k b u q) (fun _ q=>q) fun _ _ q=>q
theorem HOk.laid(x:HOk P w H h)(k:∀ b u,h.get? b=some u→h'.get? b=some u)(hp:h.objs.size≤a)(new:ObjOk P w (upd H a o) h' a o):HOk P w (upd H a o) h':=fun b u e=>by
  have hn:=x.fresh hp;by_cases hb:b=a
  · subst hb;rw[upd_same]at e;cases e;exact new
  · rw[upd_ne hb]at e
    exact(x b u e).stay (fun c v _ q=>k c v q) (fun c q=>by rw[upd_ne (ne_of_none q hn)];exact q) fun c xs q=>by rw[upd_ne (ne_of_none q hn)];exact q
end

def Rd(H:Hp)(a:Addr)(u:HO):Prop:=H a=some u∨∃ o,H a=some (.frz o u)
theorem Rd.ok{P:Program}{w:World}{H:Hp}{h:Heap}{a:Addr}{u:HO}(r:Rd H a u)(x:HOk P w H h):ObjOk P w H h a u:=by
  rcases r with r|⟨o,r⟩
  · exact x a u r
  · obtain⟨_,q⟩:=x a _ r
    exact q
def Mut:Option HO→Prop
  |some (.lst _)=>True
  |some (.dK _)=>True
  |some (.dT _)=>True
  |some (.set _ _)=>True
  |some (.ins _ _ _)=>True
  |some (.ext _)=>True
  |_=>False
section
variable {P:Program}{w:World}{H:Hp}{h h':Heap}{x e:Addr}{o':HO}
theorem HOk.write(ok:HOk P w H h)(mu:Mut (H x))(he:e=x∨H e=some (.own x))(k:∀ b u,b≠e→h.get? b=some u→h'.get? b=some u)(heo:∃ u,h'.get? e=some u)(new:ObjOk P w (upd H x o') h' x o'):HOk P w (upd H x o') h':=fun b u q=>by
  have nown:∀ c y,H c=some (.own y)→c≠x:=fun c y r z=>by subst z;rw[r]at mu;exact mu
  have ntup:∀ c xs,H c=some (.tup xs)→c≠x:=fun c xs r z=>by subst z;rw[r]at mu;exact mu
  by_cases hb:b=x
  · subst hb;rw[upd_same]at q;cases q;exact new
  · rw[upd_ne hb]at q
    by_cases hbe:b=e
    · have q':H b=some (.own x):=by
        rcases he with z|z
        · exact absurd (hbe.trans z) hb
        · rw[hbe];exact z
      rw[q]at q';cases q'
      obtain⟨v,hv⟩:=heo;exact⟨v,by rw[hbe];exact hv⟩
    · refine(ok b u q).stay (fun c v hc r=>k c v ?_ r) (fun c r=>by rw[upd_ne (nown c b r)];exact r) fun c xs r=>by rw[upd_ne (ntup c xs r)];exact r
      rcases hc with rfl|hc
      · exact hbe
      · rintro rfl
        rcases he with z|z
        · exact nown c b hc z
        · rw[hc]at z;cases z;exact hb rfl
end

structure Un(fs ex:List Addr)(H H':Hp)(h h':Heap):Prop where
  keep:∀ b o,h.get? b=some o→H b=none→b∉fs→b∉ex→h'.get? b=some o
  slot:∀ b o,h.get? b=some o→H b=none→b∈fs→b∉ex→∃ sl,h'.get? b=some { o with slots:=sl }
  free:∀ b o,h.get? b=some o→H b=none→b∉ex→H' b=none
  there:∀ b o,h.get? b=some o→b∉ex→∃ o',h'.get? b=some o'
  tups:∀ b xs,H b=some (.tup xs)→H' b=some (.tup xs)
  frzs:∀ b o u,H b=some (.frz o u)→H' b=some (.frz o u)
  tbls:∀ b ps,H b=some (.tbl ps)→∃ more,H' b=some (.tbl (ps++more))
section
variable {fs fs' ex ex':List Addr}{H H1 H2:Hp}{h h1 h2 h':Heap}{a x e:Addr}{o:HO}
theorem Un.any(u:Un fs ex H H1 h h1){b:Addr}{ob:Obj}(q:h.get? b=some ob)(n:H b=none)(hx:b∉ex):∃ sl,h1.get? b=some { ob with slots:=sl }:=by
  by_cases hb:b∈fs
  · exact u.slot b ob q n hb hx
  · exact⟨ob.slots,u.keep b ob q n hb hx⟩
theorem Un.kept(k:∀ b u,h.get? b=some u→h'.get? b=some u):Un fs ex H H h h':=
  ⟨fun b ob q _ _ _=>k b ob q,fun b ob q _ _ _=>⟨ob.slots,k b ob q⟩,fun _ _ _ n _=>n,fun b ob q _=>⟨ob,k b ob q⟩,fun _ _ q=>q,fun _ _ _ q=>q,fun _ ps q=>⟨#[],by rw[q];simp⟩⟩
theorem Un.refl:Un fs ex H H h h:=Un.kept fun _ _ q=>q
theorem Un.laid(k:∀ b u,h.get? b=some u→h'.get? b=some u)(hp:h.objs.size≤a)(hn:H a=none):Un fs ex H (upd H a o) h h' where
  keep:=fun b u q _ _ _=>k b u q
  slot:=fun b u q _ _ _=>⟨u.slots,k b u q⟩
  free:=fun b u q n _=>by rw[upd_ne (Nat.ne_of_lt (Nat.lt_of_lt_of_le (Heap.lt_size q) hp))];exact n
  there:=fun b u q _=>⟨u,k b u q⟩
  tups:=fun b xs q=>by rw[upd_ne (ne_of_none q hn)];exact q
  frzs:=fun b u xs q=>by rw[upd_ne (ne_of_none q hn)];exact q
  tbls:=fun b ps q=>⟨#[],by rw[upd_ne (ne_of_none q hn),q];simp⟩
theorem Un.write(mu:Mut (H x))(he:e=x∨H e=some (.own x))(k:∀ b u,b≠e→h.get? b=some u→h'.get? b=some u)(heo:∃ u,h'.get? e=some u):Un fs ex H (upd H x o) h h':=by
  have hx:∀ b,H b=none→b≠x:=fun b n z=>by subst z;rw[n]at mu;exact mu
  have hb:∀ b,H b=none→b≠e:=fun b n z=>by
    subst z;rcases he with r|r
    · exact hx b n r
    · rw[n]at r;cases r
  have hm:∀ b u,H b=some u→¬Mut (some u)→b≠x:=fun b u q nm z=>by subst z;rw[q]at mu;exact nm mu
  refine⟨fun b u q n _ _=>k b u (hb b n) q,fun b u q n _ _=>⟨u.slots,k b u (hb b n) q⟩,fun b u q n _=>by rw[upd_ne (hx b n)];exact n,fun b u q _=>?_,
    fun b xs q=>by rw[upd_ne (hm b _ q fun z=>z)];exact q,fun b u xs q=>by rw[upd_ne (hm b _ q fun z=>z)];exact q,fun b ps q=>⟨#[],by rw[upd_ne (hm b _ q fun z=>z),q];simp⟩⟩
  by_cases hbe:b=e
  · subst hbe;exact heo
  · exact⟨u,k b u hbe q⟩
end

noncomputable def trk(h:Heap)(H:Hp):List Addr:=(List.range h.objs.size).filter fun a=>(H a).isSome
noncomputable def hidT(h:Heap)(H:Hp):Heap:=PySem.W.hideAll h (trk h H)
theorem hidT_size(h:Heap)(H:Hp):(hidT h H).objs.size=h.objs.size:=PySem.W.hideAll_size _ _
theorem hidT_get{h:Heap}{H:Hp}{b:Addr}{o:Obj}(e:h.get? b=some o)(n:H b=none):(hidT h H).get? b=some o:=
  PySem.W.hideAll_get _ e fun hm=>by
    have q:(H b).isSome=true:=(List.mem_filter.mp hm).2;rw[n]at q;simp at q
theorem of_hidT{h:Heap}{H:Hp}{b:Addr}{o:Obj}(e:(hidT h H).get? b=some o):h.get? b=some o∧H b=none:=by
  have e':h.get? b=some o:=PySem.W.of_hideAll (trk h H) e;refine⟨e',?_⟩;cases q:H b with
  |none=>rfl
  |some x=>
    have hm:b∈trk h H:=List.mem_filter.mpr ⟨List.mem_range.mpr (Heap.lt_size e'),by simp[q]⟩
    have z:(hidT h H).get? b=none:=PySem.W.hideAll_none (trk h H) hm;rw[z]at e;cases e

end L2

namespace L2
open PySem PySem.Spec PyProof.Rows

structure Mod(K:PySem.W.Frag)(mg:Str→Option Value)(base:Heap):Prop where
  kin:K.In base
  glob:base.Ns mainGlobals mg
  blt:∃ mb,base.Ns builtinsNs mb∧∀ x:Str,x ≠ "__name__"→mb x=bootBuiltins x
  nolimit:base.NoLimit

structure Cx where
  prog:Program
  w:World
  K:PySem.W.Frag
  mg:Str→Option Value
  base:Heap
  A:Around
  N:List Str
  s₀:Shared
  H₀:Hp
  env:Env
  outer:List Env
  stack:List Env
  ex:List Addr
  fn:Str→Bool
  calm:Bool
  pn:List (Addr×Obj)
  xe:Value→Shared→Prop
noncomputable def frs(l:List Env):List Addr:=l.filterMap (·.frame)
noncomputable abbrev Cx.fs(X:Cx):List Addr:=frs X.outer

def Vis(sc:Scope)(x:Str):Prop:=sc.names.lookup x=some .local∨sc.names.lookup x=some .cell∨sc.names.lookup x=some .free
def Loc(sc:Scope)(x:Str):Prop:=sc.names.lookup x=some .local∨sc.names.lookup x=some .cell
def Look(env:Env)(h:Heap)(m:Str→Option Value)(x:Str)(u:Value):Prop:=
  (env.kindOf x=some .local∧m x=some u)∨((env.kindOf x=some .cell∨env.kindOf x=some .free)∧∃ c,env.cells.lookup x=some c∧h.IsCell c (some u))

structure Cx.Ok(X:Cx):Prop where
  mod:Mod X.K X.mg X.base
  kind:X.env.scope.kind=.function
  glob:X.env.globals=mainGlobals
  blt:X.env.builtins=builtinsNs
  above:X.s₀.heap.objs.size≤X.env.locals
  inj:∀ x y c,X.env.cells.lookup x=some c→X.env.cells.lookup y=some c→x=y
  has:∀ x,(X.env.kindOf x=some .cell∨X.env.kindOf x=some .free)→∃ c,X.env.cells.lookup x=some c
  cab:∀ x c,X.fn x=true→X.env.cells.lookup x=some c→X.s₀.heap.objs.size≤c
  hd:X.calm=true→X.A.handled=none
  frames:X.A.frames=some X.stack
  stk:X.stack=X.outer∨(X.stack=X.env :: X.outer∧X.env.frame=some X.env.locals)
  exf:∀ b∈X.ex,b≠X.env.locals∧∀ x c,X.env.cells.lookup x=some c→c≠b
  bs:∀ b o,X.base.get? b=some o→X.s₀.heap.get? b=some o∧X.H₀ b=none
  bsz:X.base.objs.size≤X.s₀.heap.objs.size
  noex:∀ b o,X.base.get? b=some o→b∉X.ex
  exfs:∀ b∈X.ex,b∉X.fs
  funs:X.s₀.heap.FunFrames X.base X.outer
  frf:∀ b∈X.fs,X.H₀ b=none

structure Inv(X:Cx)(pins:List (Addr×Obj))(σ:List (Option V))(H:Hp)(s:Shared):Prop where
  ok:X.Ok
  os:s.os=X.s₀.os
  bare:AllBare s.gens
  base:Un X.fs X.ex X.H₀ H X.s₀.heap s.heap
  loc:∃ m,s.heap.Ns X.env.locals m∧∀ (i:Nat) (x:Str) (v:V),X.N[i]?=some x→σ[i]?=some (some v)→Vis X.env.scope x→∃ u,RelV v u∧Look X.env s.heap m x u
  cell:∀ x c,X.env.cells.lookup x=some c→∃ v,s.heap.IsCell c v
  free:H X.env.locals=none
  freeC:∀ x c,X.env.cells.lookup x=some c→H c=none
  pin:∀ p∈X.pn++pins,s.heap.get? p.1=some p.2∧H p.1=none∧p.1≠X.env.locals∧p.1∉X.fs∧∀ v,p.2.data≠.cell v
  hok:HOk X.prog X.w H s.heap
  len:σ.length=X.N.length

section
variable {X:Cx}{pins:List (Addr×Obj)}{σ:List (Option V)}{H H':Hp}{s:Shared}{h':Heap}

theorem Cx.Ok.nofr(ok:X.Ok){b:Addr}{o:Obj}(e:X.base.get? b=some o):b∉X.fs:=fun hb=>by
  have:=(ok.funs.mem hb).1;rw[e]at this;cases this
theorem Inv.bs(I:Inv X pins σ H s):∀ b o,X.base.get? b=some o→s.heap.get? b=some o∧H b=none:=fun b o e=>
  ⟨I.base.keep b o (I.ok.bs b o e).1 (I.ok.bs b o e).2 (I.ok.nofr e) (I.ok.noex b o e),I.base.free b o (I.ok.bs b o e).1 (I.ok.bs b o e).2 (I.ok.noex b o e)⟩
theorem Inv.bk(I:Inv X pins σ H s):∀ b o,X.base.get? b=some o→s.heap.get? b=some o:=fun b o e=>(I.bs b o e).1
theorem Inv.mod(I:Inv X pins σ H s):Mod X.K X.mg X.base:=I.ok.mod
theorem Inv.kIn(I:Inv X pins σ H s):X.K.In s.heap:=I.ok.mod.kin.keeps I.bk
theorem Inv.lt(I:Inv X pins σ H s):X.env.locals < s.heap.objs.size:=let ⟨_,hn,_⟩:=I.loc;hn.lt
theorem Inv.sz(I:Inv X pins σ H s):X.s₀.heap.objs.size≤s.heap.objs.size:=Nat.le_trans I.ok.above (Nat.le_of_lt I.lt)
theorem Inv.nofs(I:Inv X pins σ H s){a:Addr}(h:s.heap.objs.size≤a):a∉X.fs:=fun hb=>by
  obtain⟨_,o,ho,_⟩:=I.ok.funs.mem hb;exact absurd (Nat.lt_of_lt_of_le (Heap.lt_size ho) (Nat.le_trans I.sz h)) (Nat.lt_irrefl _)
theorem Inv.cne(I:Inv X pins σ H s):∀ x c,X.env.cells.lookup x=some c→c≠X.env.locals:=fun x c e z=>by
  obtain⟨v,o,ho,hd⟩:=I.cell x c e;obtain⟨m,⟨o',es,ep,ho',hd',_⟩,_⟩:=I.loc;rw[z,ho']at ho;cases ho;rw[hd']at hd;cases hd
theorem Inv.funs(I:Inv X pins σ H s):s.heap.FunFrames X.base X.outer:=by
  have all:∀ (l:List Env),(∀ b∈frs l,b∈X.fs)→X.s₀.heap.FunFrames X.base l→s.heap.FunFrames X.base l:=by
    intro l
    induction l with
    |nil=>intro _ _;trivial
    |cons env r ih=>
      intro hs hl;obtain⟨hk,⟨L,o,hf,hn,ho,hd⟩,hr⟩:=hl;have hL:L∈X.fs:=hs L (by unfold frs;rw[List.filterMap_cons,hf];exact List.mem_cons_self)
      obtain⟨sl,e⟩:=I.base.slot L o ho (I.ok.frf L hL) hL fun z=>I.ok.exfs L z hL
      exact⟨hk,⟨L,_,hf,hn,e,hd⟩,ih (fun b hb=>hs b (by unfold frs;rw[List.filterMap_cons,hf];exact List.mem_cons_of_mem _ hb)) hr⟩
  exact all X.outer (fun _ hb=>hb) I.ok.funs

theorem Inv.stack(I:Inv X pins σ H s):s.heap.FunFrames X.base X.stack:=by
  rcases I.ok.stk with e|⟨e,hf⟩
  · rw[e];exact I.funs
  · rw[e]
    obtain⟨m,hn,_⟩:=I.loc;refine .cons (by rw[I.ok.kind];decide) hf hn ?_ I.funs
    exact Heap.get?_none_of_le (Nat.le_trans I.ok.bsz I.ok.above)
theorem Inv.stkSub(I:Inv X pins σ H s):∀ b∈frs X.stack,b∈X.env.locals :: X.fs:=fun b hb=>by
  rcases I.ok.stk with e|⟨e,hf⟩
  · rw[e]at hb;exact List.mem_cons_of_mem _ hb
  · rw[e]at hb
    unfold frs at hb;rw[List.filterMap_cons,hf]at hb;exact hb
theorem Inv.stkFree(I:Inv X pins σ H s):∀ b∈frs X.stack,H b=none:=fun b hb=>by
  rcases List.mem_cons.mp (I.stkSub b hb) with e|hb
  · rw[e];exact I.free
  · obtain⟨_,o,ho,_⟩:=I.ok.funs.mem hb
    exact I.base.free b o ho (I.ok.frf b hb) fun z=>I.ok.exfs b z hb

theorem Inv.step{g':Array GenState}{t':Nat}{d':Drawn}{ch:List Addr}(I:Inv X pins σ H s)(hch:∀ b∈ch,(b∈X.ex∨X.s₀.heap.objs.size≤b)∧b≠X.env.locals∧(∀ x c,X.env.cells.lookup x=some c→c≠b)∧∀ p∈X.pn++pins,p.1≠b)(keep:∀ b o,b≠X.env.locals→b∉X.fs→b∉ch→s.heap.get? b=some o→H b=none→h'.get? b=some o)(slot:∀ b o,b≠X.env.locals→b∈X.fs→b∉ch→s.heap.get? b=some o→H b=none→∃ sl,h'.get? b=some { o with slots:=sl })(free:∀ b o,b∉ch→s.heap.get? b=some o→H b=none→H' b=none)(there:∀ b o,b∉ch→s.heap.get? b=some o→∃ o',h'.get? b=some o')(tups:∀ b xs,H b=some (.tup xs)→H' b=some (.tup xs))(frzs:∀ b o u,H b=some (.frz o u)→H' b=some (.frz o u))(tbls:∀ b ps,H b=some (.tbl ps)→∃ more,H' b=some (.tbl (ps++more)))(ns:∀ m,s.heap.Ns X.env.locals m→h'.Ns X.env.locals m)(hok:HOk X.prog X.w H' h')(hg:AllBare g') :
    Inv X pins σ H' { s with heap:=h',gens:=g',drawn:=d',toks:=t' }:=by
  have neL:∀ b o,X.s₀.heap.get? b=some o→b≠X.env.locals:=fun b o e=>Nat.ne_of_lt (Nat.lt_of_lt_of_le (Heap.lt_size e) I.ok.above)
  have neC:∀ b o,X.s₀.heap.get? b=some o→b∉X.ex→b∉ch:=fun b o e hx hb=>by
    rcases (hch b hb).1 with z|z
    · exact hx z
    · exact absurd (Nat.lt_of_lt_of_le (Heap.lt_size e) z) (Nat.lt_irrefl _)
  have cellK:∀ x c,X.env.cells.lookup x=some c→∀ v,s.heap.IsCell c v→h'.IsCell c v:=fun x c e v ⟨o,ho,hd⟩=>by
    have nch:c∉ch:=fun z=>(hch c z).2.2.1 x c e rfl
    by_cases hc:c∈X.fs
    · obtain⟨sl,q⟩:=slot c o (I.cne x c e) hc nch ho (I.freeC x c e)
      exact⟨_,q,hd⟩
    · exact⟨o,keep c o (I.cne x c e) hc nch ho (I.freeC x c e),hd⟩
  refine⟨I.ok,I.os,hg,⟨fun b o e n hb hx=>?_,fun b o e n hb hx=>?_,fun b o e n hx=>?_,fun b o e hx=>?_,fun b xs e=>tups b xs (I.base.tups b xs e),fun b o xs e=>frzs b o xs (I.base.frzs b o xs e),fun b ps e=>?_⟩,?_,fun x c e=>?_,?_,fun x c e=>?_,fun p hp=>?_,hok,I.len⟩
  · exact keep b o (neL b o e) hb (neC b o e hx) (I.base.keep b o e n hb hx) (I.base.free b o e n hx)
  · obtain⟨sl,e1⟩:=I.base.slot b o e n hb hx
    obtain⟨sl',e2⟩:=slot b _ (neL b o e) hb (neC b o e hx) e1 (I.base.free b o e n hx);exact⟨sl',e2⟩
  · obtain⟨o',e1⟩:=I.base.there b o e hx
    exact free b o' (neC b o e hx) e1 (I.base.free b o e n hx)
  · obtain⟨o',e1⟩:=I.base.there b o e hx
    exact there b o' (neC b o e hx) e1
  · obtain⟨m1,e1⟩:=I.base.tbls b ps e
    obtain⟨m2,e2⟩:=tbls b _ e1;exact⟨m1++m2,by rw[e2,Array.append_assoc]⟩
  · obtain⟨m,hn,hl⟩:=I.loc
    refine⟨m,ns m hn,fun i x v e1 e2 e3=>?_⟩
    obtain⟨u,r,l⟩:=hl i x v e1 e2 e3;refine⟨u,r,?_⟩;rcases l with l|⟨k,c,e,z⟩
    · exact .inl l
    · exact .inr ⟨k,c,e,cellK x c e _ z⟩
  · obtain⟨v,z⟩:=I.cell x c e
    exact⟨v,cellK x c e v z⟩
  · obtain⟨m,⟨o,_,_,ho,_⟩,_⟩:=I.loc
    exact free _ o (fun z=>(hch _ z).2.1 rfl) ho I.free
  · obtain⟨v,o,ho,hd⟩:=I.cell x c e
    exact free c o (fun z=>(hch c z).2.2.1 x c e rfl) ho (I.freeC x c e)
  · obtain⟨e,n,ne,nf,d⟩:=I.pin p hp
    have nch:p.1∉ch:=fun z=>(hch p.1 z).2.2.2 p hp rfl
    exact⟨keep p.1 p.2 ne nf nch e n,free p.1 p.2 nch e n,ne,nf,d⟩
theorem Inv.un{t':Nat}(I:Inv X pins σ H s)(u:Un X.fs [] H H' s.heap h')(hok:HOk X.prog X.w H' h'):Inv X pins σ H' { s with heap:=h',toks:=t' }:=by
  obtain⟨m,⟨o,es,ep,ho,r⟩,_⟩:=id I.loc;obtain⟨sl,hL⟩:=u.any ho I.free (by simp)
  exact I.step (g':=s.gens) (d':=s.drawn) (ch:=[]) (fun _ z=>nomatch z) (fun b o _ hb _ e n=>u.keep b o e n hb (by simp)) (fun b o _ hb _ e n=>u.slot b o e n hb (by simp)) (fun b o _ e n=>u.free b o e n (by simp)) (fun b o _ e=>u.there b o e (by simp)) u.tups u.frzs u.tbls (fun m' hm=>by
    obtain⟨o',es',ep',ho',r'⟩:=hm;rw[ho]at ho';cases ho'
    exact⟨_,es',ep',hL,r'⟩) hok I.bare
theorem Inv.call{g':Array GenState}{t':Nat}{d':Drawn}{ch:List Addr}(I:Inv X pins σ H s)(u:Un (frs X.stack) ch H H' s.heap h')(hok:HOk X.prog X.w H' h')(hg:AllBare g')(hch:∀ b∈ch,(b∈X.ex∨X.s₀.heap.objs.size≤b)∧b≠X.env.locals∧(∀ x c,X.env.cells.lookup x=some c→c≠b)∧∀ p∈X.pn++pins,p.1≠b) :
    Inv X pins σ H' { s with heap:=h',gens:=g',drawn:=d',toks:=t' }:=by
  obtain⟨m,⟨o,es,ep,ho,r⟩,_⟩:=id I.loc;obtain⟨sl,hL⟩:=u.any ho I.free fun z=>(hch _ z).2.1 rfl
  exact I.step (ch:=ch) hch (fun b o hL hb hc e n=>u.keep b o e n (fun z=>(List.mem_cons.mp (I.stkSub b z)).elim hL hb) hc) (fun b o _ _ hc e n=>u.any e n hc) (fun b o hc e n=>u.free b o e n hc) (fun b o hc e=>u.there b o e hc) u.tups u.frzs u.tbls (fun m' hm=>by
    obtain⟨o',es',ep',ho',r'⟩:=hm;rw[ho]at ho';cases ho'
    exact⟨_,es',ep',hL,r'⟩) hok hg
theorem Inv.turned{t':Nat}{it:Addr}(I:Inv X pins σ H s)(k:∀ b o,b≠it→s.heap.get? b=some o→h'.get? b=some o)(hn:H it=none)(hL:it≠X.env.locals)(h1:it∈X.ex∨X.s₀.heap.objs.size≤it)(h2:∀ x c,X.env.cells.lookup x=some c→c≠it)(h3:∀ p∈X.pn++pins,p.1≠it):Inv X pins σ H { s with heap:=h',toks:=t' }:=by
  have nit:∀ b u,H b=some u→b≠it:=fun b u e z=>by rw[z,hn]at e;cases e
  refine I.step (g':=s.gens) (d':=s.drawn) (ch:=[it]) (fun b hb=>?_) (fun b o _ _ hc e _=>k b o (fun z=>hc (by simp[z])) e) (fun b o _ _ hc e _=>⟨o.slots,k b o (fun z=>hc (by simp[z])) e⟩) (fun _ _ _ _ n=>n)
    (fun b o hc e=>⟨o,k b o (fun z=>hc (by simp[z])) e⟩) (fun _ _ e=>e) (fun _ _ _ e=>e) (fun b ps e=>⟨#[],by rw[e];simp⟩) (fun m hm=>?_) (fun b u e=>?_) I.bare
  · have e:b=it:=by simpa using hb
    subst e;exact⟨h1,hL,h2,h3⟩
  · obtain⟨o,es,ep,ho,r⟩:=hm
    exact⟨o,es,ep,k _ o (Ne.symm hL) ho,r⟩
  · refine(I.hok b u e).stay (fun c v hc q=>k c v ?_ q) (fun _ q=>q) fun _ _ q=>q
    rcases hc with z|z
    · rw[z];exact nit b u e
    · exact nit c _ z
theorem Inv.tok(I:Inv X pins σ H s)(t:Nat):Inv X pins σ H { s with toks:=t }:=I.un (h':=s.heap) (t':=t) Un.refl I.hok
theorem Inv.kept{t':Nat}(I:Inv X pins σ H s)(k:∀ b u,s.heap.get? b=some u→h'.get? b=some u):Inv X pins σ H { s with heap:=h',toks:=t' }:=I.un (Un.kept k) (I.hok.kept k)
theorem Inv.laid{a:Addr}{o:HO}{t':Nat}(I:Inv X pins σ H s)(k:∀ b u,s.heap.get? b=some u→h'.get? b=some u)(hp:s.heap.objs.size≤a)(new:ObjOk X.prog X.w (upd H a o) h' a o) :
    Inv X pins σ (upd H a o) { s with heap:=h',toks:=t' }:=I.un (Un.laid k hp (I.hok.fresh hp)) (I.hok.laid k hp new)
theorem Inv.write{x e:Addr}{o:HO}{t':Nat}(I:Inv X pins σ H s)(mu:Mut (H x))(he:e=x∨H e=some (.own x))(k:∀ b u,b≠e→s.heap.get? b=some u→h'.get? b=some u)(heo:∃ u,h'.get? e=some u)(new:ObjOk X.prog X.w (upd H x o) h' x o):Inv X pins σ (upd H x o) { s with heap:=h',toks:=t' }:=I.un (Un.write mu he k heo) (I.hok.write mu he k heo new)
theorem Inv.pins_of{pins':List (Addr×Obj)}(I:Inv X pins σ H s)(h:∀ p∈pins',s.heap.get? p.1=some p.2∧H p.1=none∧p.1≠X.env.locals∧p.1∉X.fs∧∀ v,p.2.data≠.cell v):Inv X pins' σ H s:=
  ⟨I.ok,I.os,I.bare,I.base,I.loc,I.cell,I.free,I.freeC,fun p hp=>(List.mem_append.mp hp).elim (fun z=>I.pin p (List.mem_append_left _ z)) (h p),I.hok,I.len⟩

theorem nodup_ix{N:List Str}(hN:N.Nodup){i j:Nat}{x:Str}(a:N[i]?=some x)(b:N[j]?=some x):i=j:=by
  obtain⟨h1,e1⟩:=List.getElem?_eq_some_iff.mp a;obtain⟨h2,e2⟩:=List.getElem?_eq_some_iff.mp b;exact(List.getElem_inj hN).mp (e1.trans e2.symm)

theorem store_ok2{M:Model}{A:Around}{E:Value→Shared→Prop}{i:Nat}{x:Str}{v:V}{u:Value}{Q:Unit→Shared→Prop}(I:Inv X pins σ H s)(hN:X.N.Nodup)(hi:X.N[i]?=some x)(hx:Loc X.env.scope x)(r:RelV v u)(h:∀ s',Inv X pins (σ.set i (some v)) H s'→(∃ a,Heap.SameBut a s.heap s'.heap∧(a=X.env.locals∨X.env.cells.lookup x=some a))→Q () s')(hf:X.fn x=true∨X.env.scope.names.lookup x=some .local:=by first|exact .inl rfl|exact .inr rfl|assumption):wpAny M A (storeName X.env x u) Q E s:=by
  obtain⟨m,hn,hl⟩:=id I.loc;have hcls:(X.env.scope.kind==.class||(X.env.scope.kind==.module&&X.env.locals != X.env.globals))=false:=by rw[I.ok.kind];rfl
  have hiσ:i < σ.length:=by rw[I.len];exact(List.getElem?_eq_some_iff.mp hi).1
  have cne:=I.cne;have tracked:∀ {a:Addr}{h':Heap},(∃ o,s.heap.get? a=some o∧H a=none)→Heap.SameBut a s.heap h'→HOk X.prog X.w H h':=fun {a h'} ha hs b ob e=>by
    obtain⟨_,_,hfree⟩:=ha;refine(I.hok b ob e).stay (fun c w' hc q=>(hs.2 c ?_).trans q) (fun _ q=>q) fun _ _ q=>q
    rintro rfl
    rcases hc with rfl|hc
    · rw[hfree]at e;cases e
    · rw[hfree]at hc;cases hc
  rcases hx with hk|hk
  · refine wpAny_storeName_local hk hn (fun h' hn' hs=>?_) hcls
    obtain⟨oL,_,_,hoL,_⟩:=id hn;refine h _ ⟨I.ok,I.os,I.bare,⟨fun b o e n hb hx=>?_,fun b o e n hb hx=>?_,I.base.free,fun b o e hx=>?_,I.base.tups,I.base.frzs,I.base.tbls⟩,⟨_,hn',fun j y v' e1 e2 e3=>?_⟩,fun y c e=>?_,I.free,I.freeC,fun p hp=>?_,tracked ⟨oL,hoL,I.free⟩ hs,by simpa using I.len⟩ ⟨_,hs,.inl rfl⟩
    · exact(hs.2 b (Nat.ne_of_lt (Nat.lt_of_lt_of_le (Heap.lt_size e) I.ok.above))).trans (I.base.keep b o e n hb hx)
    · obtain⟨sl,e1⟩:=I.base.slot b o e n hb hx
      exact⟨sl,(hs.2 b (Nat.ne_of_lt (Nat.lt_of_lt_of_le (Heap.lt_size e) I.ok.above))).trans e1⟩
    · obtain⟨o',e1⟩:=I.base.there b o e hx
      exact⟨o',(hs.2 b (Nat.ne_of_lt (Nat.lt_of_lt_of_le (Heap.lt_size e) I.ok.above))).trans e1⟩
    · by_cases hj:j=i
      · subst hj
        rw[hi]at e1;cases e1
        rw[List.getElem?_set_self hiσ]at e2;cases e2;exact⟨u,r,.inl ⟨hk,by simp⟩⟩
      · rw[List.getElem?_set_ne (Ne.symm hj)]at e2
        obtain⟨u',r',q⟩:=hl j y v' e1 e2 e3;refine⟨u',r',?_⟩;rcases q with⟨k,e⟩|⟨k,c,e,z⟩
        · refine .inl ⟨k,?_⟩
          have:y≠x:=fun e=>hj (nodup_ix hN e1 (e ▸ hi))
          simp[this,e]
        · exact .inr ⟨k,c,e,z.sameBut hs (cne y c e)⟩
    · obtain⟨w',z⟩:=I.cell y c e
      exact⟨w',z.sameBut hs (cne y c e)⟩
    · obtain⟨e,n,ne,nf,d⟩:=I.pin p hp
      exact⟨(hs.2 p.1 ne).trans e,n,ne,nf,d⟩
  · have hfn:X.fn x=true:=by
      rcases hf with z|z
      · exact z
      · rw[z]at hk;cases hk
    obtain⟨c,hc⟩:=I.ok.has x (.inl hk);obtain⟨w',z⟩:=I.cell x c hc;refine wpAny_storeName_cell I.ok.kind hk hc z (fun h' hc' hs=>?_)
    obtain⟨oc,hoc,hocd⟩:=id z;refine h { s with heap:=h' } ⟨I.ok,I.os,I.bare,⟨fun b o e n hb hx=>?_,fun b o e n hb hx=>?_,I.base.free,fun b o e hx=>?_,I.base.tups,I.base.frzs,I.base.tbls⟩,⟨m,hn.sameBut hs (Ne.symm (cne x c hc)),fun j y v' e1 e2 e3=>?_⟩,fun y c' e=>?_,I.free,I.freeC,fun p hp=>?_,tracked ⟨oc,hoc,I.freeC x c hc⟩ hs,by simpa using I.len⟩ ⟨c,hs,.inr hc⟩
    · exact(hs.2 b (Nat.ne_of_lt (Nat.lt_of_lt_of_le (Heap.lt_size e) (I.ok.cab x c hfn hc)))).trans (I.base.keep b o e n hb hx)
    · obtain⟨sl,e1⟩:=I.base.slot b o e n hb hx
      exact⟨sl,(hs.2 b (Nat.ne_of_lt (Nat.lt_of_lt_of_le (Heap.lt_size e) (I.ok.cab x c hfn hc)))).trans e1⟩
    · obtain⟨o',e1⟩:=I.base.there b o e hx
      exact⟨o',(hs.2 b (Nat.ne_of_lt (Nat.lt_of_lt_of_le (Heap.lt_size e) (I.ok.cab x c hfn hc)))).trans e1⟩
    · by_cases hj:j=i
      · subst hj
        rw[hi]at e1;cases e1
        rw[List.getElem?_set_self hiσ]at e2;cases e2;exact⟨u,r,.inr ⟨.inl hk,c,hc,hc'⟩⟩
      · rw[List.getElem?_set_ne (Ne.symm hj)]at e2
        obtain⟨u',r',q⟩:=hl j y v' e1 e2 e3;refine⟨u',r',?_⟩;rcases q with q|⟨k,c',e,z'⟩
        · exact .inl q
        · refine .inr ⟨k,c',e,z'.sameBut hs ?_⟩
          rintro rfl
          exact hj (nodup_ix hN e1 (I.ok.inj _ _ _ e hc ▸ hi))
    · by_cases hcc:c'=c
      · subst hcc;exact⟨_,hc'⟩
      · obtain⟨w2,z2⟩:=I.cell y c' e
        exact⟨w2,z2.sameBut hs hcc⟩
    · obtain⟨e,n,ne,nf,d⟩:=I.pin p hp
      refine⟨(hs.2 p.1 ?_).trans e,n,ne,nf,d⟩;intro q;rw[q,hoc]at e;have q':oc=p.2:=Option.some.inj e;exact d w' (by rw[←q'];exact hocd)
theorem store_ok{M:Model}{A:Around}{E:Value→Shared→Prop}{i:Nat}{x:Str}{v:V}{u:Value}{Q:Unit→Shared→Prop}(I:Inv X pins σ H s)(hN:X.N.Nodup)(hi:X.N[i]?=some x)(hx:Loc X.env.scope x)(r:RelV v u)(h:∀ s',Inv X pins (σ.set i (some v)) H s'→Q () s')(hf:X.fn x=true∨X.env.scope.names.lookup x=some .local:=by first|exact .inl rfl|exact .inr rfl|assumption):wpAny M A (storeName X.env x u) Q E s:=
  store_ok2 I hN hi hx r (fun s' I' _=>h s' I') hf
theorem Inv.call'{s':Shared}{ch:List Addr}(I:Inv X pins σ H s)(ho:s'.os=s.os)(u:Un (frs X.stack) ch H H' s.heap s'.heap)(hok:HOk X.prog X.w H' s'.heap)(hg:AllBare s'.gens)(hch:∀ b∈ch,(b∈X.ex∨X.s₀.heap.objs.size≤b)∧b≠X.env.locals∧(∀ x c,X.env.cells.lookup x=some c→c≠b)∧∀ p∈X.pn++pins,p.1≠b):Inv X pins σ H' s':=by
  obtain⟨h',g',d',t',o'⟩:=s';have e:o'=s.os:=ho;subst e;exact I.call (g':=g') (t':=t') (d':=d') u hok hg hch
end

abbrev XK:=Value→Option Addr→Hp→Prop
noncomputable abbrev St:=List (Option V)
abbrev VK:=V→Hp→Prop
abbrev TE:=St→Hp→VK→Prop
abbrev TT:=St→Hp→(Bool→Hp→Prop)→Prop
abbrev TA:=St→Hp→(List V→Hp→Prop)→Prop
structure Ends where
  nx:St→Hp→Prop
  rt:VK
  bk:St→Hp→Prop:=fun _ _=>False
  ct:St→Hp→Prop:=fun _ _=>False
abbrev TS:=Ends→St→Hp→Prop

def EP(X:Cx)(pins:List (Addr×Obj))(σ:St)(Q:VK)(u:Value)(s':Shared):Prop:=∃ v H',Inv X pins σ H' s'∧RelV v u∧Q v H'
def TP(X:Cx)(pins:List (Addr×Obj))(σ:St)(Q:Bool→Hp→Prop)(b:Bool)(s':Shared):Prop:=∃ H',Inv X pins σ H' s'∧Q b H'
def AP(X:Cx)(pins:List (Addr×Obj))(σ:St)(Q:List V→Hp→Prop)(us:List Value)(s':Shared):Prop:=∃ vs H',Inv X pins σ H' s'∧Vals vs us∧Q vs H'
def SP(X:Cx)(pins:List (Addr×Obj))(D:Ends)(f:Flow)(s':Shared):Prop:=
  match f with
  |.next=>∃ σ' H',Inv X pins σ' H' s'∧D.nx σ' H'
  |.brk=>∃ σ' H',Inv X pins σ' H' s'∧D.bk σ' H'
  |.cont=>∃ σ' H',Inv X pins σ' H' s'∧D.ct σ' H'
  |.ret u=>∃ v σ' H',Inv X pins σ' H' s'∧RelV v u∧D.rt v H'

def PE(X:Cx)(e:Expr)(t:TE):Prop:=
  ∀ (pins:List (Addr×Obj)) (s:Shared) (σ:St) (H:Hp) (Q:VK),Inv X pins σ H s→t σ H Q→wpAny (model X.prog X.w) X.A (eval e X.env) (EP X pins σ Q) X.xe s
def PT(X:Cx)(e:Expr)(t:TT):Prop:=
  ∀ (pins:List (Addr×Obj)) (s:Shared) (σ:St) (H:Hp) (Q:Bool→Hp→Prop),Inv X pins σ H s→t σ H Q→wpAny (model X.prog X.w) X.A (isTrue e X.env (eval e X.env)) (TP X pins σ Q) X.xe s
def PW(X:Cx)(e:Expr)(t:TT):Prop:=
  ∀ (whole:Sem Value) (pins:List (Addr×Obj)) (s:Shared) (σ:St) (H:Hp) (Q:Bool→Hp→Prop),Inv X pins σ H s→t σ H Q→wpAny (model X.prog X.w) X.A (isTrue e X.env whole) (TP X pins σ Q) X.xe s
theorem PW.pt{X:Cx}{e:Expr}{t:TT}(h:PW X e t):PT X e t:=h _
def PA(X:Cx)(es:List Expr)(t:TA):Prop:=
  ∀ (pos:Pos) (pins:List (Addr×Obj)) (s:Shared) (σ:St) (H:Hp) (Q:List V→Hp→Prop),Inv X pins σ H s→t σ H Q→wpAny (model X.prog X.w) X.A (spliced (backTo pos (starEach es X.env))) (AP X pins σ Q) X.xe s
def PS(X:Cx)(st:Stmt)(t:TS):Prop:=
  ∀ (pins:List (Addr×Obj)) (s:Shared) (σ:St) (H:Hp) (D:Ends),Inv X pins σ H s→t D σ H→wpAny (model X.prog X.w) X.A (exec st X.env) (SP X pins D) X.xe s
def PSs(X:Cx)(st:List Stmt)(t:TS):Prop:=
  ∀ (pins:List (Addr×Obj)) (s:Shared) (σ:St) (H:Hp) (D:Ends),Inv X pins σ H s→t D σ H→wpAny (model X.prog X.w) X.A (execs st X.env) (SP X pins D) X.xe s
theorem thn{α:Type}{t:Sem α}{Q Q':α→Shared→Prop}{M:Model}{A:Around}{E:Value→Shared→Prop}{s:Shared}(h:wpAny M A t Q E s)(hQ:∀ a s,Q a s→Q' a s):wpAny M A t Q' E s:=wpAny_mono h hQ fun _ _ x=>x
end L2

namespace L2
open PySem PySem.Spec PyProof.Rows
section
variable {X:Cx}


noncomputable def tVar(i:Nat):TE:=fun σ H Q=>∃ v,σ[i]?=some (some v)∧Q v H
noncomputable def tC(v:V):TE:=fun _ H Q=>Q v H
theorem pe_var{i:Nat}{x:Str}{pos:Pos}(hN:X.N[i]?=some x)(hv:Vis X.env.scope x)(hd:(x==("__debug__":Str))=false:=by decide)(hcd:(x==("__classdict__":Str))=false:=by decide):PE X (.Name x pos) (tVar i):=by
  intro pins s σ H Q I h;obtain⟨v,e,h⟩:=h;obtain⟨m,hn,hl⟩:=I.loc;obtain⟨u,r,l⟩:=hl i x v hN e hv;have fin:EP X pins σ Q u s:=⟨v,H,I,r,h⟩;rcases l with⟨hk,hm⟩|⟨hk,c,hc,hcell⟩
  · exact wpAny_Name (wpAny_loadName_local I.ok.kind hk hn hm fin) hd
  · rcases hk with hk|hk
    · exact wpAny_Name (wpAny_loadName_cell I.ok.kind hk hc hcell fin) hd
    · exact wpAny_Name (wpAny_loadName_free I.ok.kind hk hc hcell fin hcd) hd
theorem pe_int{i j pos}:PE X (.Constant (.int i) j pos) (tC (.int i)):=fun _ _ _ H _ I h=>wpAny_Constant_int ⟨.int i,H,I.tok _,⟨_,rfl⟩,h⟩
theorem pe_bl{b j pos}:PE X (.Constant (.bool b) j pos) (tC (.bl b)):=fun _ _ _ H _ I h=>Constant_bool ⟨.bl b,H,I,rfl,h⟩
theorem pe_non{j pos}:PE X (.Constant .none j pos) (tC .non):=fun _ _ _ H _ I h=>Constant_none ⟨.non,H,I,rfl,h⟩
theorem pe_str{x j pos}:PE X (.Constant (.str x) j pos) (tC (.str x)):=fun _ _ _ H _ I h=>Calls.Constant_str ⟨.str x,H,I.tok _,⟨_,rfl⟩,h⟩

def Gl(X:Cx)(x:Str):Prop:=X.env.kindOf x=some .globalImplicit
theorem ld_glob{E:Value→Shared→Prop}{pins:List (Addr×Obj)}{s:Shared}{σ:St}{H:Hp}{x:Str}{u:Value}{pos:Pos}{Q:Value→Shared→Prop}(I:Inv X pins σ H s)(hg:Gl X x)(hm:X.mg x=some u)(h:Q u s)(hd:(x==("__debug__":Str))=false:=by decide):wpAny (model X.prog X.w) X.A (eval (.Name x pos) X.env) Q E s:=
  Calls.Name_function_global I.ok.kind hg (Calls.loadGlobal_global (by rw[I.ok.glob];exact I.mod.glob.keeps I.bk) hm h) hd
theorem ld_blt{E:Value→Shared→Prop}{pins:List (Addr×Obj)}{s:Shared}{σ:St}{H:Hp}{x:Str}{u:Value}{pos:Pos}{Q:Value→Shared→Prop}(I:Inv X pins σ H s)(hg:Gl X x)(hm:X.mg x=none)(hv:bootBuiltins x=some u)(h:Q u s)(hn:x ≠ "__name__":=by decide)(hd:(x==("__debug__":Str))=false:=by decide):wpAny (model X.prog X.w) X.A (eval (.Name x pos) X.env) Q E s:=by
  obtain⟨mb,h1,h2⟩:=I.mod.blt;exact Calls.Name_function_global I.ok.kind hg (Calls.loadGlobal_builtin (by rw[I.ok.glob];exact I.mod.glob.keeps I.bk) hm (by rw[I.ok.blt];exact h1.keeps I.bk) ((h2 x hn).trans hv) h) hd
theorem pe_glob{x:Str}{v:V}{u:Value}{pos:Pos}(hg:Gl X x)(hm:X.mg x=some u)(r:RelV v u)(hd:(x==("__debug__":Str))=false:=by decide):PE X (.Name x pos) (tC v):=
  fun _ _ _ H _ I h=>ld_glob I hg hm ⟨v,H,I,r,h⟩ hd
theorem pe_bltn{x:Str}{v:V}{u:Value}{pos:Pos}(hg:Gl X x)(hm:X.mg x=none)(hv:bootBuiltins x=some u)(r:RelV v u)(hn:x ≠ "__name__":=by decide)(hd:(x==("__debug__":Str))=false:=by decide):PE X (.Name x pos) (tC v):=
  fun _ _ _ H _ I h=>ld_blt I hg hm hv ⟨v,H,I,r,h⟩ hn hd

variable {a b:Expr}{ta tb:TE}{pos:Pos}

def PC(X:Cx)(op:CmpOp)(a b:Expr)(t:TE):Prop:=
  ∀ (pins:List (Addr×Obj)) (s:Shared) (σ:St) (H:Hp) (Q:VK),Inv X pins σ H s→t σ H Q→
    wpAny (model X.prog X.w) X.A (eval a X.env) (fun v s₁=>wpAny (model X.prog X.w) X.A (eval b X.env) (fun u s₂=>wpAny (model X.prog X.w) X.A (compareOp op v u) (EP X pins σ Q) X.xe s₂) X.xe s₁) X.xe s
noncomputable def tB(t:TE):TT:=fun σ H Q=>t σ H fun x H1=>∃ c,x=.bl c∧Q c H1
theorem pt_val{e:Expr}{t:TE}(h:PE X e t)(he:∀ whole,isTrue e X.env whole=(do let v ←whole;standAt e.pos;holding [v] (truthy v)):=by intro _;rfl):PT X e (tB t):=by
  intro pins s σ H Q I hw;refine isTrue_plain (thn (h pins s σ H _ I hw) fun v s1 ⟨x,H1,I1,r1,q1⟩=>?_) (he _)
  obtain⟨d,rfl,q⟩:=q1;cases r1;exact wpAny_truthy_bool ⟨H1,I1,q⟩

variable {tA tB':TT}{rest:List Expr}
noncomputable def tAnd(t u:TT):TT:=fun σ H Q=>t σ H fun c H1=>if c=true then u σ H1 Q else Q false H1
noncomputable def tOr(t u:TT):TT:=fun σ H Q=>t σ H fun c H1=>if c=true then Q true H1 else u σ H1 Q
noncomputable def tNot(t:TT):TT:=fun σ H Q=>t σ H fun c H1=>Q (!c) H1
theorem pw_and1(ha:PT X a tA):PW X (.BoolOp .And [a] pos) tA:=by
  intro wh pins s σ H Q I h;refine isTrue_and (thn (ha pins s σ H Q I h) fun c s1 e=>?_)
  cases c with
  |true=>exact isTrue_and_nil e
  |false=>exact e
theorem pw_or1(ha:PT X a tA):PW X (.BoolOp .Or [a] pos) tA:=by
  intro wh pins s σ H Q I h;refine isTrue_or (thn (ha pins s σ H Q I h) fun c s1 e=>?_)
  cases c with
  |false=>exact isTrue_or_nil e
  |true=>exact e
theorem pw_and(ha:PT X a tA)(hb:PW X (.BoolOp .And (b :: rest) pos) tB'):PW X (.BoolOp .And (a :: b :: rest) pos) (tAnd tA tB'):=by
  intro wh pins s σ H Q I h;refine isTrue_and (thn (ha pins s σ H _ I h) fun c s1 ⟨H1,I1,q1⟩=>?_)
  cases c with
  |true=>exact hb wh pins s1 σ H1 Q I1 q1
  |false=>exact⟨H1,I1,q1⟩
theorem pw_or(ha:PT X a tA)(hb:PW X (.BoolOp .Or (b :: rest) pos) tB'):PW X (.BoolOp .Or (a :: b :: rest) pos) (tOr tA tB'):=by
  intro wh pins s σ H Q I h;refine isTrue_or (thn (ha pins s σ H _ I h) fun c s1 ⟨H1,I1,q1⟩=>?_)
  cases c with
  |true=>exact⟨H1,I1,q1⟩
  |false=>exact hb wh pins s1 σ H1 Q I1 q1
theorem pt_not(ha:PT X a tA):PT X (.UnaryOp .Not a pos) (tNot tA):=by
  intro pins s σ H Q I h;exact isTrue_not (ha pins s σ H (fun c H1=>Q (!c) H1) I h)
noncomputable def tAndV(ta tb:TE):TE:=fun σ H Q=>ta σ H fun x H1=>∃ c,x=.bl c∧if c=true then tb σ H1 Q else Q (.bl false) H1
noncomputable def tOrV(ta tb:TE):TE:=fun σ H Q=>ta σ H fun x H1=>∃ c,x=.bl c∧if c=true then Q (.bl true) H1 else tb σ H1 Q
noncomputable def tNotV(ta:TE):TE:=fun σ H Q=>ta σ H fun x H1=>∃ c,x=.bl c∧Q (.bl (!c)) H1
theorem pe_one{op}{t:TE}(h:PE X a t):PE X (.BoolOp op [a] pos) t:=fun pins s σ H Q I hw=>BoolOp_one (h pins s σ H Q I hw)
theorem pe_and(ha:PE X a ta)(hb:PE X (.BoolOp .And (b :: rest) pos) tb):PE X (.BoolOp .And (a :: b :: rest) pos) (tAndV ta tb):=by
  intro pins s σ H Q I h;refine BoolOp_and (thn (ha pins s σ H _ I h) fun v s1 ⟨x,H1,I1,r1,q1⟩=>?_)
  obtain⟨c,rfl,q1⟩:=q1;cases r1;refine wpAny_truthy_bool ?_;cases c with
  |true=>exact hb pins s1 σ H1 Q I1 q1
  |false=>exact⟨.bl false,H1,I1,rfl,q1⟩
theorem pe_or(ha:PE X a ta)(hb:PE X (.BoolOp .Or (b :: rest) pos) tb):PE X (.BoolOp .Or (a :: b :: rest) pos) (tOrV ta tb):=by
  intro pins s σ H Q I h;refine BoolOp_or (thn (ha pins s σ H _ I h) fun v s1 ⟨x,H1,I1,r1,q1⟩=>?_)
  obtain⟨c,rfl,q1⟩:=q1;cases r1;refine wpAny_truthy_bool ?_;cases c with
  |false=>exact hb pins s1 σ H1 Q I1 q1
  |true=>exact⟨.bl true,H1,I1,rfl,q1⟩
theorem pe_not(ha:PE X a ta):PE X (.UnaryOp .Not a pos) (tNotV ta):=by
  intro pins s σ H Q I h;refine UnaryOp_ (thn (ha pins s σ H _ I h) fun v s1 ⟨x,H1,I1,r1,q1⟩=>?_)
  obtain⟨c,rfl,q1⟩:=q1;cases r1;exact not_of (wpAny_truthy_bool ⟨.bl (!c),H1,I1,rfl,q1⟩)
noncomputable def tIf(t:TT)(ta tb:TE):TE:=fun σ H Q=>t σ H fun c H1=>if c=true then ta σ H1 Q else tb σ H1 Q
theorem pe_ifExp{c:Expr}(hc:PT X c tA)(ha:PE X a ta)(hb:PE X b tb):PE X (.IfExp c a b pos) (tIf tA ta tb):=by
  intro pins s σ H Q I h;refine wpAny_IfExp (thn (hc pins s σ H _ I h) fun d s1 ⟨H1,I1,q1⟩=>?_)
  cases d with
  |true=>exact ha pins s1 σ H1 Q I1 q1
  |false=>exact hb pins s1 σ H1 Q I1 q1
end
end L2

namespace L2
open PySem PySem.Spec PyProof.Rows

def SqL(K:PySem.W.Frag)(H:Hp)(a:Addr)(xs:List V):Prop:=
  Rd H a (.lst xs) ∨
    ∃ (o:Obj) (its:Array Value) (n:Nat),K.lookup a=some o∧o.cls=.type "list"∧o.dict=none∧o.data=.seq its n∧its.size≤sizeLine∧Vals xs its.toList
def SqT(K:PySem.W.Frag)(H:Hp)(a:Addr)(xs:List V):Prop:=
  Rd H a (.tup xs) ∨
    ∃ (o:Obj) (its:Array Value) (n:Nat),K.lookup a=some o∧o.cls=.type "tuple"∧o.data=.seq its n∧its.size≤sizeLine∧Vals xs its.toList
noncomputable def absV:Value→Option V
  |.none=>some .non
  |.bool b=>some (.bl b)
  |.int i _=>some (.int i)
  |.str x _=>some (.str x)
  |.bytes b _=>some (.byt b)
  |.float b _=>some (.flt b)
  |.ref a=>some (.ref a)
  |.type n=>some (.ty n)
  |_=>none
theorem RelV.abs{x:V}{u:Value}(r:RelV x u):absV u=some x:=by
  cases x with
  |non=>cases r;rfl
  |bl _=>cases r;rfl
  |int _=>obtain⟨t,rfl⟩:=r;rfl
  |str _=>obtain⟨t,rfl⟩:=r;rfl
  |byt _=>obtain⟨t,rfl⟩:=r;rfl
  |flt _=>obtain⟨t,rfl⟩:=r;rfl
  |ref _=>cases r;rfl
  |ty _=>cases r;rfl
theorem RelV.inj{x y:V}{u:Value}(r:RelV x u)(q:RelV y u):x=y:=Option.some.inj (r.abs.symm.trans q.abs)
theorem Vals.inj:∀ {xs ys:List V}{us:List Value},Vals xs us→Vals ys us→xs=ys
  |_,_,_,.nil,.nil=>rfl
  |_,_,_,.cons r t,.cons r' t'=>by rw[r.inj r',Vals.inj t t']
section
variable {X:Cx}{pins:List (Addr×Obj)}{σ:St}{H:Hp}{s:Shared}{a:Addr}{xs ys:List V}
theorem SqT.of{K:PySem.W.Frag}(h:H a=some (.tup xs)):SqT K H a xs:=.inl (.inl h)
theorem Inv.list(I:Inv X pins σ H s)(h:SqL X.K H a xs):∃ its:List Value,Vals xs its∧PlainL s.heap a its.toArray∧xs.length≤sizeLine:=by
  rcases h with h|⟨o,its,n,hk,hc,hd,hs,hz,r⟩
  · obtain⟨z,its,n,r,e⟩:=h.ok I.hok
    exact⟨its,r,⟨_,n,e,rfl,rfl,rfl⟩,z⟩
  · refine⟨its.toList,r,⟨o,n,I.kIn a o hk,hc,hd,by simpa using hs⟩,?_⟩
    have e:=r.length;simp only[Array.length_toList]at e;omega
theorem Inv.tuple(I:Inv X pins σ H s)(h:SqT X.K H a xs):∃ its:List Value,Vals xs its∧IsTup s.heap a its.toArray∧xs.length≤sizeLine:=by
  rcases h with h|⟨o,its,n,hk,hc,hs,hz,r⟩
  · obtain⟨z,its,r,p⟩:=h.ok I.hok
    exact⟨its,r,p,z⟩
  · refine⟨its.toList,r,⟨o,I.kIn a o hk,hc,n,by simpa using hs⟩,?_⟩
    have e:=r.length;simp only[Array.length_toList]at e;omega
theorem Inv.list_inj(I:Inv X pins σ H s)(h:SqL X.K H a xs)(h':SqL X.K H a ys):xs=ys:=by
  obtain⟨its,r,⟨o,n,e,_,_,d⟩,_⟩:=I.list h;obtain⟨its',r',⟨o',n',e',_,_,d'⟩,_⟩:=I.list h';rw[e]at e';cases e'
  rw[d]at d'
  injection d' with d1 _
  have:its=its':=by simpa using congrArg Array.toList d1
  subst this;exact r.inj r'
theorem Inv.tuple_inj(I:Inv X pins σ H s)(h:SqT X.K H a xs)(h':SqT X.K H a ys):xs=ys:=by
  obtain⟨its,r,⟨o,e,_,n,d⟩,_⟩:=I.tuple h;obtain⟨its',r',⟨o',e',_,n',d'⟩,_⟩:=I.tuple h';rw[e]at e';cases e'
  rw[d]at d'
  injection d' with d1 _
  have:its=its':=by simpa using congrArg Array.toList d1
  subst this;exact r.inj r'
end

noncomputable abbrev Cx.wish(X:Cx)(E:Value→Shared→Prop):Cx:={ X with xe:=E }
noncomputable abbrev Cx.nox(X:Cx):Cx:=X.wish fun _ _=>False
theorem Cx.Ok.wish{X:Cx}(ok:X.Ok)(E:Value→Shared→Prop):(X.wish E).Ok:=
  ⟨ok.mod,ok.kind,ok.glob,ok.blt,ok.above,ok.inj,ok.has,ok.cab,ok.hd,ok.frames,ok.stk,ok.exf,ok.bs,ok.bsz,ok.noex,ok.exfs,ok.funs,ok.frf⟩
theorem Cx.Ok.unwish{X:Cx}{E:Value→Shared→Prop}(ok:(X.wish E).Ok):X.Ok:=
  ⟨ok.mod,ok.kind,ok.glob,ok.blt,ok.above,ok.inj,ok.has,ok.cab,ok.hd,ok.frames,ok.stk,ok.exf,ok.bs,ok.bsz,ok.noex,ok.exfs,ok.funs,ok.frf⟩
section
variable {X:Cx}{pins:List (Addr×Obj)}{σ:St}{H:Hp}{s:Shared}{E:Value→Shared→Prop}
theorem Inv.wish(I:Inv X pins σ H s)(E:Value→Shared→Prop):Inv (X.wish E) pins σ H s:=⟨I.ok.wish E,I.os,I.bare,I.base,I.loc,I.cell,I.free,I.freeC,I.pin,I.hok,I.len⟩
theorem Inv.unwish(I:Inv (X.wish E) pins σ H s):Inv X pins σ H s:=⟨I.ok.unwish,I.os,I.bare,I.base,I.loc,I.cell,I.free,I.freeC,I.pin,I.hok,I.len⟩
theorem SP.unwish{D:Ends}{f:Flow}{s':Shared}(h:SP (X.wish E) pins D f s'):SP X pins D f s':=by
  cases f with
  |next=>obtain⟨σ',H',I,q⟩:=h;exact⟨σ',H',I.unwish,q⟩
  |brk=>obtain⟨σ',H',I,q⟩:=h;exact⟨σ',H',I.unwish,q⟩
  |cont=>obtain⟨σ',H',I,q⟩:=h;exact⟨σ',H',I.unwish,q⟩
  |ret u=>obtain⟨v,σ',H',I,r,q⟩:=h;exact⟨v,σ',H',I.unwish,r,q⟩
theorem PSs.nox{st:List Stmt}{t:TS}(h:PSs X.nox st t):PSs X st t:=fun pins s σ H D I hw=>
  wpAny_mono (h pins s σ H D (I.wish _) hw) (fun _ _ q=>q.unwish) fun _ _ z=>False.elim z
end

section
variable {X:Cx}{st:Stmt}{rest:List Stmt}{t u:TS}{e:Expr}{te:TE}{pos:Pos}
noncomputable def tNext:TS:=fun D σ H=>D.nx σ H
noncomputable def tSeq(t u:TS):TS:=fun D σ H=>t { D with nx:=u D } σ H
theorem pss_nil:PSs X [] tNext:=fun _ _ σ H _ I h=>wpAny_execs_nil ⟨σ,H,I,h⟩
theorem pss_cons(h1:PS X st t)(h2:PSs X rest u):PSs X (st :: rest) (tSeq t u):=by
  intro pins s σ H D I h;refine wpAny_execs_cons (thn (h1 pins s σ H { D with nx:=u D } I h) fun f s1 q=>?_)
  cases f with
  |next=>
    obtain⟨σ',H',I',q⟩:=q;exact h2 pins s1 σ' H' D I' q
  |ret v=>exact q
  |brk=>exact q
  |cont=>exact q
noncomputable def tBreak:TS:=fun D σ H=>D.bk σ H
noncomputable def tCont:TS:=fun D σ H=>D.ct σ H
theorem ps_pass:PS X (.Pass pos) tNext:=fun _ _ σ H _ I h=>wpAny_Pass ⟨σ,H,I,h⟩
theorem ps_break:PS X (.Break pos) tBreak:=fun _ _ σ H _ I h=>wpAny_Break ⟨σ,H,I,h⟩
theorem ps_continue:PS X (.Continue pos) tCont:=fun _ _ σ H _ I h=>wpAny_Continue ⟨σ,H,I,h⟩
theorem Inv.quiet{pins:List (Addr×Obj)}{σ:St}{H:Hp}{s:Shared}(I:Inv X pins σ H s):interactive X.env=false:=by simp[interactive,I.ok.kind]
noncomputable def tDrop(te:TE):TS:=fun D σ H=>te σ H fun _ H1=>D.nx σ H1
theorem ps_expr(he:PE X e te)(hs:swapsWith e none pos.line X.env=pure false:=by rfl):PS X (.Expr e pos) (tDrop te):=by
  intro pins s σ H D I h;exact wpAny_Expr_any (thn (he pins s σ H _ I h) fun v s1 ⟨x,H1,I1,r1,q1⟩=>⟨σ,H1,I1,q1⟩) I.quiet hs
noncomputable def tRet(te:TE):TS:=fun D σ H=>te σ H D.rt
theorem ps_ret(he:PE X e te):PS X (.Return (some e) pos) (tRet te):=by
  intro pins s σ H D I h;exact wpAny_Return_some (thn (he pins s σ H _ I h) fun v s1 ⟨x,H1,I1,r1,q1⟩=>⟨x,σ,H1,I1,r1,q1⟩)
noncomputable def tIfS(c:TT)(t u:TS):TS:=fun D σ H=>c σ H fun b H1=>if b=true then t D σ H1 else u D σ H1
theorem ps_if{c:Expr}{a b:List Stmt}{tc:TT}(hc:PT X c tc)(ha:PSs X a t)(hb:PSs X b u):PS X (.If c a b pos) (tIfS tc t u):=by
  intro pins s σ H D I h;refine wpAny_If (thn (hc pins s σ H _ I h) fun d s1 ⟨H1,I1,q1⟩=>?_)
  cases d with
  |true=>exact ha pins s1 σ H1 D I1 q1
  |false=>exact hb pins s1 σ H1 D I1 q1
end

abbrev TG:=V→St→Hp→(St→Hp→Prop)→Prop
abbrev TGs:=List V→St→Hp→(St→Hp→Prop)→Prop
def PG(X:Cx)(target:Expr)(t:TG):Prop:=
  ∀ (pins:List (Addr×Obj)) (s:Shared) (σ:St) (H:Hp) (v:V) (u:Value) (Q:St→Hp→Prop),Inv X pins σ H s→RelV v u→t v σ H Q→
    wpAny (model X.prog X.w) X.A (assign target X.env u) (fun _ s'=>∃ σ' H',Inv X pins σ' H' s'∧Q σ' H') X.xe s
def PGs(X:Cx)(ts:List Expr)(t:TGs):Prop:=
  ∀ (pins:List (Addr×Obj)) (s:Shared) (σ:St) (H:Hp) (vs:List V) (us:List Value) (Q:St→Hp→Prop),Inv X pins σ H s→Vals vs us→t vs σ H Q→
    wpAny (model X.prog X.w) X.A (assignInOrder ((assignEach ts X.env).map (·.2)) us) (fun _ s'=>∃ σ' H',Inv X pins σ' H' s'∧Q σ' H') X.xe s
abbrev TSet:=V→V→V→Hp→(Hp→Prop)→Prop
def PSet(X:Cx)(t:TSet):Prop:=
  ∀ (pins:List (Addr×Obj)) (s:Shared) (σ:St) (H:Hp) (o i v:V) (ov iv u:Value) (Q:Hp→Prop),Inv X pins σ H s→RelV o ov→RelV i iv→RelV v u→t o i v H Q→
    wpAny (model X.prog X.w) X.A (setItem ov iv u) (fun _ s'=>∃ H',Inv X pins σ H' s'∧Q H') X.xe s
section
variable {X:Cx}{pos:Pos}
noncomputable def gName(i:Nat):TG:=fun v σ H Q=>Q (σ.set i (some v)) H
theorem pg_name{i:Nat}{x:Str}(hN:X.N.Nodup)(hi:X.N[i]?=some x)(hx:Loc X.env.scope x)(hf:X.fn x=true∨X.env.scope.names.lookup x=some .local:=by first|exact .inl rfl|exact .inr rfl|assumption):PG X (.Name x pos) (gName i):=by
  intro pins s σ H v u Q I r h;exact wpAny_assign_Name (store_ok I hN hi hx r (fun s' I'=>⟨_,H,I',h⟩) hf)
noncomputable def gNil:TGs:=fun vs σ H Q=>vs=[]∧Q σ H
noncomputable def gCons(t:TG)(u:TGs):TGs:=fun vs σ H Q=>∃ v r,vs=v :: r∧t v σ H fun σ' H'=>u r σ' H' Q
theorem pgs_nil:PGs X [] gNil:=by
  intro pins s σ H vs us Q I r h;obtain⟨e,h⟩:=h;subst e;cases r;exact assignInOrder_nil ⟨σ,H,I,h⟩
theorem pgs_cons{e:Expr}{es:List Expr}{t:TG}{u:TGs}(h1:PG X e t)(h2:PGs X es u)(hs:(assignEach (e :: es) X.env).map (·.2)=assign e X.env :: (assignEach es X.env).map (·.2):=by rfl):PGs X (e :: es) (gCons t u):=by
  intro pins s σ H vs us Q I r h;obtain⟨v,vr,e1,h⟩:=h;subst e1;cases r with
  |cons r rr=>
    rw[hs];refine assignInOrder_cons (thn (h1 pins s σ H _ _ _ I r h) fun _ s1 ⟨σ1,H1,I1,q1⟩=>?_)
    exact h2 pins s1 σ1 H1 _ _ Q I1 rr q1
noncomputable def gTup(K:PySem.W.Frag)(n:Nat)(t:TGs):TG:=fun v σ H Q=>∃ a xs,v=.ref a∧SqT K H a xs∧xs.length=n∧t xs σ H Q
theorem pg_tup{es:List Expr}{k:Nat}{t:TGs}{n:Nat}(hc:X.calm=true)(h:PGs X es t)(hn:(assignEach es X.env).length=n:=by rfl)(hst:(assignEach es X.env).findIdx? (·.1)=none:=by rfl):PG X (.Tuple es k pos) (gTup X.K n t):=by
  intro pins s σ H v u Q I r hw;obtain⟨a,xs,e1,hq,hl,hw⟩:=hw;subst e1;cases r;obtain⟨its,rv,ht,hz⟩:=I.tuple hq;refine assign_Tuple_tuple (I.ok.hd hc) ht (by simp[hn,←hl,rv.length]) hst fun h' hx=>?_
  have I1:Inv X pins σ H { s with heap:=h' }:=I.kept (t':=s.toks) fun b o e=>hx b o (Nat.ne_of_lt (Heap.lt_size e)) e
  exact h pins _ σ H xs _ Q I1 (by simpa using rv) hw
noncomputable def gSub(to ti:TE)(t:TSet):TG:=fun v σ H Q=>to σ H fun o H1=>ti σ H1 fun i H2=>t o i v H2 fun H3=>Q σ H3
theorem pg_sub{o i:Expr}{to ti:TE}{t:TSet}(ho:PE X o to)(hi:PE X i ti)(hs:PSet X t)(ha:∀ v,assign (.Subscript o i pos) X.env v=(do
      let ov ←holding [v] (eval o X.env)
      let iv ←holding [v,ov] (eval i X.env)
      standAt pos
      holding [v,ov,iv] (setItem ov iv v)
      release [v,ov,iv] []):=by intro _;rfl):PG X (.Subscript o i pos) (gSub to ti t):=by
  intro pins s σ H v u Q I r h;rw[ha];refine wpAny_bind (wpAny_holding (thn (ho pins s σ H _ I h) fun ov s1 ⟨x,H1,I1,r1,q1⟩=>?_))
  refine wpAny_bind (wpAny_holding (thn (hi pins s1 σ H1 _ I1 q1) fun iv s2 ⟨y,H2,I2,r2,q2⟩=>?_))
  refine wpAny_bind (wpAny_standAt (wpAny_bind (wpAny_holding (thn (hs pins s2 σ H2 x y v ov iv u _ I2 r1 r2 r q2) fun _ s3 ⟨H3,I3,q3⟩=>?_))))
  exact wpAny_release ⟨σ,H3,I3,q3⟩
noncomputable def tAsg(te:TE)(g:TG):TS:=fun D σ H=>te σ H fun x H1=>g x σ H1 D.nx
theorem ps_asg{tg e:Expr}{te:TE}{g:TG}(he:PE X e te)(hg:PG X tg g)(hs:swapsWithSole [tg] e pos.line X.env=pure false:=by rfl)(hw:swappedStores [tg] e X.env=pure none:=by rfl)(h1:(assignEach [tg] X.env).map (·.2)=[assign tg X.env]:=by rfl):PS X (.Assign [tg] e pos) (tAsg te g):=by
  intro pins s σ H D I h;refine wpAny_Assign_stores (thn (he pins s σ H _ I h) fun v s1 ⟨x,H1,I1,r1,q1⟩=>?_) hs hw
  rw[h1];exact thn (hg pins s1 σ H1 x v _ I1 r1 q1) fun _ s2 q=>q
theorem ps_set{i:Nat}{x:Str}{e:Expr}{te:TE}{pos':Pos}(hN:X.N.Nodup)(hi:X.N[i]?=some x)(hx:Loc X.env.scope x)(he:PE X e te)(hs:swapsWith e (some (.Name x pos')) pos.line X.env=pure false:=by rfl)(hf:X.fn x=true∨X.env.scope.names.lookup x=some .local:=by first|exact .inl rfl|exact .inr rfl|assumption) :
    PS X (.Assign [.Name x pos'] e pos) (tAsg te (gName i)):=by
  intro pins s σ H D I h;refine wpAny_Assign_Name (thn (he pins s σ H _ I h) fun v s1 ⟨y,H1,I1,r1,q1⟩=>?_) hs
  exact store_ok I1 hN hi hx r1 (fun s2 I2=>⟨_,H1,I2,q1⟩) hf
end

section
variable {X:Cx}{pos:Pos}
end

structure It where
  go:Nat→Hp→Prop
  yld:Nat→Hp→V→Hp→Prop
  stop:Nat→Hp→Prop
def FpOk(X:Cx)(pins:List (Addr×Obj))(H:Hp)(b:Addr):Prop:=
  H b=none∧b≠X.env.locals∧b∉X.fs∧(b∈X.ex∨X.s₀.heap.objs.size≤b)∧(∀ x c,X.env.cells.lookup x=some c→c≠b)∧∀ p∈X.pn++pins,p.1≠b
theorem Inv.fpOk{X:Cx}{pins:List (Addr×Obj)}{σ:St}{H H':Hp}{s:Shared}{b:Addr}(I:Inv X pins σ H s)(hb:s.heap.objs.size≤b)(hn:H' b=none):FpOk X pins H' b:=by
  refine⟨hn,Nat.ne_of_gt (Nat.lt_of_lt_of_le I.lt hb),I.nofs hb,.inr (Nat.le_trans I.sz hb),fun x c e z=>?_,fun p hp z=>?_⟩
  · obtain⟨v,q⟩:=I.cell x c e
    exact absurd (Nat.lt_of_lt_of_le q.lt (by rw[z];exact hb)) (Nat.lt_irrefl _)
  · exact absurd (Nat.lt_of_lt_of_le (Heap.lt_size (I.pin p hp).1) (by rw[z];exact hb)) (Nat.lt_irrefl _)
structure Turn(P:Program)(w:World)(K:PySem.W.Frag)(tg:Expr)(J:It)(fp:List Addr)(it:Addr)(tn:Nat→Heap→Prop):Prop where
  mem:it∈fp
  obj:∀ i h,tn i h→∀ b∈fp,∃ o,h.get? b=some o∧∀ v,o.data≠.cell v
  keep:∀ i h h',tn i h→(∀ b∈fp,∀ o,h.get? b=some o→h'.get? b=some o)→tn i h'
  item:∀ (X:Cx),X.prog=P→X.w=w→X.K=K→X.calm=true→∀ (i:Nat) (pins:List (Addr×Obj)) (s:Shared) (σ:St) (H:Hp) (E:Value→Shared→Prop),Inv X pins σ H s→(∀ b∈fp,FpOk X pins H b)→tn i s.heap→J.go i H→
    wpAny (model P w) X.A (pyNext (.ref it)) (fun r s1=>∃ u,r=some u ∧
      wpAny (model P w) X.A (letOwnedTupleGo tg (.ref it) u) (fun _ s2=>∃ x H',Inv X pins σ H' s2∧RelV x u∧J.yld i H x H'∧tn (i+1) s2.heap∧∀ b∈fp,H' b=none) E s1) E s
  done:∀ (X:Cx),X.prog=P→X.w=w→X.K=K→X.calm=true→∀ (i:Nat) (pins:List (Addr×Obj)) (s:Shared) (σ:St) (H:Hp) (E:Value→Shared→Prop),Inv X pins σ H s→(∀ b∈fp,FpOk X pins H b)→tn i s.heap→J.stop i H→
    wpAny (model P w) X.A (pyNext (.ref it)) (fun r s1=>r=none∧Inv X pins σ H s1) E s
  self:∀ (A:Around) (i:Nat) (s:Shared) (Q:Value→Shared→Prop) (E:Value→Shared→Prop),tn i s.heap→Q (.ref it) s→wpAny (model P w) A (pyIter (.ref it)) Q E s
abbrev TI:=St→Hp→(It→Hp→Prop)→Prop
def PIE(X:Cx)(pins:List (Addr×Obj))(σ:St)(tg:Expr)(R:It→Hp→Prop)(itv:Value)(s2:Shared):Prop:=
  ∃ (it:Addr) (fp:List Addr) (tn:Nat→Heap→Prop) (J:It) (H':Hp),itv=.ref it∧Inv X pins σ H' s2∧Turn X.prog X.w X.K tg J fp it tn∧tn 0 s2.heap∧(∀ b∈fp,FpOk X pins H' b)∧R J H'
def PI(X:Cx)(tg iter:Expr)(wi:TI):Prop:=
  ∀ (pins:List (Addr×Obj)) (s:Shared) (σ:St) (H:Hp) (R:It→Hp→Prop),Inv X pins σ H s→wi σ H R→
    wpAny (model X.prog X.w) X.A (eval iter X.env) (fun v s1=>wpAny (model X.prog X.w) X.A (pyIter v) (PIE X pins σ tg R) X.xe s1) X.xe s

theorem go_of{M:Model}{A:Around}{E:Value→Shared→Prop}{s:Shared}{tg:Expr}{it:Addr}{u:Value}{o:Obj}{n:String}{vs:Array Value}{Q:Unit→Shared→Prop}(ho:s.heap.get? it=some o)(hc:o.cls=.type n)(hd:o.data=.fields vs)(hn:["enumerate", "zip", "dict_itemiterator", "dict_reverseitemiterator", "odict_iterator", "itertools.zip_longest", "itertools.pairwise"].contains n=false)(hQ:Q () s):wpAny M A (letOwnedTupleGo tg (.ref it) u) Q E s:=by
  unfold letOwnedTupleGo;cases tg<;>first
    |exact wpAny_pure hQ
    | (cases u<;>first
        |exact wpAny_pure hQ
        | (refine wpAny_bind (wpAny_load ho ?_)
           rw[hc,hd];show wpAny M A (if (["enumerate", "zip", "dict_itemiterator", "dict_reverseitemiterator", "odict_iterator", "itertools.zip_longest", "itertools.pairwise"].contains n&&vs[0]?==some (rawInt _))=true then _ else _) Q E s
           rw[if_neg (by intro h;rw[hn,Bool.false_and]at h;cases h)]
           exact wpAny_pure hQ))

noncomputable def Itl(K:PySem.W.Frag)(a:Addr):It:=
  ⟨fun i H=>∃ xs x,SqL K H a xs∧xs[i]?=some x,fun i H x H'=>H'=H∧∀ xs,SqL K H a xs→xs[i]?=some x,fun i H=>∃ xs,SqL K H a xs∧xs.length≤i⟩
noncomputable def Itt(K:PySem.W.Frag)(a:Addr):It:=
  ⟨fun i H=>∃ xs x,SqT K H a xs∧xs[i]?=some x,fun i H x H'=>H'=H∧∀ xs,SqT K H a xs→xs[i]?=some x,fun i H=>∃ xs,SqT K H a xs∧xs.length≤i⟩
noncomputable def Itr(lo:Int)(n:Nat):It:=⟨fun i _=>i < n,fun i H x H'=>H'=H∧x=.int (lo+i),fun i _=>n≤i⟩
theorem turn_list{P:Program}{w:World}{K:PySem.W.Frag}{tg:Expr}(a it:Addr):Turn P w K tg (Itl K a) [it] it (fun i h=>h.IsListIter it a i) where
  mem:=by simp
  obj:=fun i h st b hb=>by
    have e:b=it:=by simpa using hb
    subst e;obtain⟨o,e,c,d⟩:=st;exact⟨o,e,fun v z=>by rw[d]at z;cases z⟩
  keep:=fun i h h' st k=>st.at fun o e=>k it (by simp) o e
  item:=by
    intro X hP hw hK hc i pins s σ H E I hf st hg;subst hP hw hK;obtain⟨xs,x,hq,hx⟩:=hg;obtain⟨its,rv,p,hz⟩:=I.list hq;obtain⟨u,hu,ru⟩:=rv.get hx;obtain⟨f0,f1,f2,f3,f4,f5⟩:=hf it (by simp)
    refine wpAny_pyNext_list_item st p.isList (x:=u) (by simpa using hu) fun h' st' sb=>?_
    have I1:Inv X pins σ H { s with heap:=h' }:=I.turned (t':=s.toks) (fun b o hb e=>(sb.2 b hb).trans e) f0 f1 f3 f4 f5
    obtain⟨o,e,c,d⟩:=id st';exact⟨u,rfl,go_of (s:={ s with heap:=h' }) e c d (by decide) ⟨x,H,I1,ru,⟨rfl,fun ys hy=>by rw[I.list_inj hy hq];exact hx⟩,st',fun b hb=>(hf b hb).1⟩⟩
  done:=by
    intro X hP hw hK hc i pins s σ H E I hf st hg;subst hP hw hK;obtain⟨xs,hq,hx⟩:=hg;obtain⟨its,rv,p,hz⟩:=I.list hq;obtain⟨f0,f1,f2,f3,f4,f5⟩:=hf it (by simp)
    have hl:=rv.length;exact wpAny_pyNext_list_end (I.ok.hd hc) st p.isList (by simp;omega) fun h' eb=>⟨rfl,I.turned (t':=s.toks) (fun b o hb e=>eb b o hb e) f0 f1 f3 f4 f5⟩
  self:=fun _ _ _ _ _ st h=>wpAny_pyIter_listiter st h
theorem turn_tuple{P:Program}{w:World}{K:PySem.W.Frag}{tg:Expr}(a it:Addr):Turn P w K tg (Itt K a) [it] it (fun i h=>h.IsTupleIter it a i) where
  mem:=by simp
  obj:=fun i h st b hb=>by
    have e:b=it:=by simpa using hb
    subst e;obtain⟨o,e,c,d⟩:=st;exact⟨o,e,fun v z=>by rw[d]at z;cases z⟩
  keep:=fun i h h' st k=>st.at fun o e=>k it (by simp) o e
  item:=by
    intro X hP hw hK hc i pins s σ H E I hf st hg;subst hP hw hK;obtain⟨xs,x,hq,hx⟩:=hg;obtain⟨its,rv,p,hz⟩:=I.tuple hq;obtain⟨u,hu,ru⟩:=rv.get hx;obtain⟨f0,f1,f2,f3,f4,f5⟩:=hf it (by simp)
    refine wpAny_pyNext_tuple_item st (show s.heap.IsTuple a its.toArray from p) (x:=u) (by simpa using hu) fun h' st' sb=>?_
    have I1:Inv X pins σ H { s with heap:=h' }:=I.turned (t':=s.toks) (fun b o hb e=>(sb.2 b hb).trans e) f0 f1 f3 f4 f5
    obtain⟨o,e,c,d⟩:=id st';exact⟨u,rfl,go_of (s:={ s with heap:=h' }) e c d (by decide) ⟨x,H,I1,ru,⟨rfl,fun ys hy=>by rw[I.tuple_inj hy hq];exact hx⟩,st',fun b hb=>(hf b hb).1⟩⟩
  done:=by
    intro X hP hw hK hc i pins s σ H E I hf st hg;subst hP hw hK;obtain⟨xs,hq,hx⟩:=hg;obtain⟨its,rv,p,hz⟩:=I.tuple hq;obtain⟨f0,f1,f2,f3,f4,f5⟩:=hf it (by simp)
    have hl:=rv.length;exact wpAny_pyNext_tuple_end (I.ok.hd hc) st (show s.heap.IsTuple a its.toArray from p) (by simp;omega) fun h' eb=>⟨rfl,I.turned (t':=s.toks) (fun b o hb e=>eb b o hb e) f0 f1 f3 f4 f5⟩
  self:=fun _ _ _ _ _ st h=>wpAny_pyIter_tupleiter st h
theorem turn_range{P:Program}{w:World}{K:PySem.W.Frag}{tg:Expr}(it:Addr)(lo:Int)(n:Nat):Turn P w K tg (Itr lo n) [it] it (fun i h=>IsRangeIter h it (lo+(i:Nat) * 1) ((n:Int) - (i:Nat)) 1) where
  mem:=by simp
  obj:=fun i h st b hb=>by
    have e:b=it:=by simpa using hb
    subst e;exact⟨_,st,fun v z=>by
      have z':Data.fields _=Data.cell v:=z;cases z'⟩
  keep:=fun i h h' st k=>k it (by simp) _ st
  item:=by
    intro X hP hw hK hc i pins s σ H E I hf st hg;subst hP hw hK;obtain⟨f0,f1,f2,f3,f4,f5⟩:=hf it (by simp)
    have W:=Walks.range (prog:=X.prog) (w:=X.w) (I.ok.hd hc) it lo 1 n;refine W.item i s _ _ hg st fun v h' tk hv st' kk=>?_
    obtain⟨t,rfl⟩:=hv;have I1:Inv X pins σ H { s with heap:=h',toks:=tk }:=I.turned (fun b o hb e=>kk b o (by simpa using hb) e) f0 f1 f3 f4 f5
    refine⟨_,rfl,go_of (s:={ s with heap:=h',toks:=tk }) (n := "range_iterator") st' rfl rfl (by decide) ⟨.int (lo+i),H,I1,⟨t,?_⟩,⟨rfl,rfl⟩,st',fun b hb=>(hf b hb).1⟩⟩
    rw[Int.mul_one]
  done:=by
    intro X hP hw hK hc i pins s σ H E I hf st hg;subst hP hw hK;obtain⟨f0,f1,f2,f3,f4,f5⟩:=hf it (by simp)
    exact wpAny_pyNext_range_end (I.ok.hd hc) st (by have:n≤i:=hg;omega) fun h' eb=>⟨rfl,I.turned (t':=s.toks) (fun b o hb e=>eb b o hb e) f0 f1 f3 f4 f5⟩
  self:=fun _ _ _ _ _ st h=>wpAny_pyIter_rangeiter st h
end L2

namespace L2
open PySem PySem.Spec PyProof.Rows
section
variable {X:Cx}{tg:Expr}
noncomputable def iList(K:PySem.W.Frag)(tl:TE):TI:=fun σ H R=>tl σ H fun x H1=>∃ a,x=.ref a∧(∃ xs,SqL K H1 a xs)∧R (Itl K a) H1
noncomputable def iTup(K:PySem.W.Frag)(tl:TE):TI:=fun σ H R=>tl σ H fun x H1=>∃ a,x=.ref a∧(∃ xs,SqT K H1 a xs)∧R (Itt K a) H1
theorem pi_list{l:Expr}{tl:TE}(hl:PE X l tl):PI X tg l (iList X.K tl):=by
  intro pins s σ H R I h;refine thn (hl pins s σ H _ I h) fun v s1 ⟨x,H1,I1,r1,q1⟩=>?_
  obtain⟨a,e,⟨xs,hq⟩,q⟩:=q1;subst e;cases r1;obtain⟨its,rv,p,hz⟩:=I1.list hq;refine wpAny_pyIter_list p.isList ?_;refine⟨s1.heap.objs.size,[s1.heap.objs.size],_,_,H1,rfl,I1.kept (t':=s1.toks) fun b o e=>Heap.get?_push_of_some _ e,turn_list a _,⟨_,Heap.get?_push_size _ rfl,rfl,rfl⟩,fun b hb=>?_,q⟩
  have e:b=s1.heap.objs.size:=by simpa using hb
  subst e;exact I1.fpOk (Nat.le_refl _) (I1.hok.fresh (Nat.le_refl _))
theorem pi_tup{l:Expr}{tl:TE}(hl:PE X l tl):PI X tg l (iTup X.K tl):=by
  intro pins s σ H R I h;refine thn (hl pins s σ H _ I h) fun v s1 ⟨x,H1,I1,r1,q1⟩=>?_
  obtain⟨a,e,⟨xs,hq⟩,q⟩:=q1;subst e;cases r1;obtain⟨its,rv,p,hz⟩:=I1.tuple hq;refine wpAny_pyIter_tuple (show s1.heap.IsTuple a its.toArray from p) ?_;refine⟨s1.heap.objs.size,[s1.heap.objs.size],_,_,H1,rfl,I1.kept (t':=s1.toks) fun b o e=>Heap.get?_push_of_some _ e,turn_tuple a _,⟨_,Heap.get?_push_size _ rfl,rfl,rfl⟩,fun b hb=>?_,q⟩
  have e:b=s1.heap.objs.size:=by simpa using hb
  subst e;exact I1.fpOk (Nat.le_refl _) (I1.hok.fresh (Nat.le_refl _))
theorem range_it{pins:List (Addr×Obj)}{σ:St}{H:Hp}{s:Shared}{R:It→Hp→Prop}{E:Value→Shared→Prop}{lo hi:Int}{t u v:Tok}{tk:Nat}(I:Inv X pins σ H s)(h1:-(2 ^ 62)≤lo)(h2:lo < 2 ^ 62)(h3:-(2 ^ 62)≤hi)(h4:hi < 2 ^ 62)(q:R (Itr lo (hi - lo).toNat) H):wpAny (model X.prog X.w) X.A (pyIter (.ref s.heap.objs.size)) (PIE X pins σ tg R) E { s with heap:=s.heap.push { cls:=.type "range",data:=.fields #[.int lo t,.int hi u,.int 1 v] },toks:=tk }:=by
  refine wpAny_pyIter_range (IsRange.new ..) (small_one h1 h2 h3 h4) ?_;have I1:Inv X pins σ H { s with heap:=s.heap.push { cls:=.type "range",data:=.fields #[.int lo t,.int hi u,.int 1 v] },toks:=tk }:=I.kept fun b o e=>Heap.get?_push_of_some _ e
  refine⟨(s.heap.push { cls:=.type "range",data:=.fields #[.int lo t,.int hi u,.int 1 v] }).objs.size,[(s.heap.push { cls:=.type "range",data:=.fields #[.int lo t,.int hi u,.int 1 v] }).objs.size],_,_,H,rfl,
    I1.kept (t':=tk) fun b o e=>Heap.get?_push_of_some _ e,turn_range _ lo (hi - lo).toNat,?_,fun b hb=>?_,q⟩
  · have e1:lo+((0:Nat):Int) * 1=lo:=by simp
    have e2:(((hi - lo).toNat:Nat):Int) - ((0:Nat):Int)=Builtin.Range.rangeSize lo hi 1:=by rw[rangeSize_one];split<;>omega
    show IsRangeIter _ _ (lo+((0:Nat):Int) * 1) ((((hi - lo).toNat:Nat):Int) - ((0:Nat):Int)) 1;rw[e1,e2];exact Heap.get?_push_size _ rfl
  · have e:b=(s.heap.push { cls:=.type "range",data:=.fields #[.int lo t,.int hi u,.int 1 v] }).objs.size:=by simpa using hb
    subst e;exact I1.fpOk (Nat.le_refl _) (I1.hok.fresh (Nat.le_refl _))
noncomputable def iRng1(ta:TA):TI:=fun σ H R=>ta σ H fun vs H1=>∃ j:Int,vs=[.int j]∧-(2 ^ 62)≤j∧j < 2 ^ 62∧R (Itr 0 j.toNat) H1
theorem pi_range1{a:Expr}{ta:TA}{p pos:Pos}(hg:Gl X "range")(hm:X.mg "range"=none)(ha:PA X [a] ta)(hs:starEach [a] X.env=[(false,eval a X.env)]:=by rfl):PI X tg (.Call (.Name "range" p) [a] [] pos) (iRng1 ta):=by
  intro pins s σ H R I h;refine Call_ (ld_blt I hg hm boot_range (PyProof.Rows.callWith_type1 (thn (ha pos pins s σ H _ I h) fun us s1 ⟨vs,H1,I1,r1,q1⟩=>?_) hs rfl))
  obtain⟨j,e,q1,q2,q⟩:=q1;subst e;cases r1 with
  |cons r rr=>
    cases rr;obtain⟨t,rfl⟩:=r;exact call_range_1 (range_it I1 (by omega) (by omega) q1 q2 (by simpa using q))

noncomputable def tFor(wi:TI)(g:TG)(tb:TS):TS:=fun D σ H=>wi σ H fun J H1=>∃ W:Nat→Nat→St→Hp→Prop,(∃ m,W 0 m σ H1)∧∀ i m σ H,W i m σ H→
  (J.stop i H∧D.nx σ H)∨(J.go i H∧∃ N:St→Hp→Prop,(∀ σ' H',N σ' H'→∃ m',m' < m∧W (i+1) m' σ' H')∧∀ x H',J.yld i H x H'→g x σ H' fun σ2 H2=>tb { D with nx:=N,ct:=N,bk:=D.nx } σ2 H2)
noncomputable def pinsAt(fp:List Addr)(h:Heap):List (Addr×Obj):=fp.filterMap fun b=>(h.get? b).map fun o=>(b,o)
theorem mem_pinsAt{fp:List Addr}{h:Heap}{b:Addr}{o:Obj}(hb:b∈fp)(e:h.get? b=some o):(b,o)∈pinsAt fp h:=List.mem_filterMap.mpr ⟨b,hb,by rw[e];rfl⟩
theorem of_pinsAt{fp:List Addr}{h:Heap}{p:Addr×Obj}(hp:p∈pinsAt fp h):p.1∈fp∧h.get? p.1=some p.2:=by
  obtain⟨b,hb,e⟩:=List.mem_filterMap.mp hp;cases q:h.get? b with
  |none=>rw[q]at e;cases e
  |some o=>
    rw[q]at e;have e':(b,o)=p:=Option.some.inj e;subst e';exact⟨hb,q⟩
theorem Inv.pinned{pins:List (Addr×Obj)}{σ:St}{H:Hp}{s:Shared}{fp:List Addr}(I:Inv X pins σ H s)(hf:∀ b∈fp,FpOk X pins H b)(ho:∀ b∈fp,∃ o,s.heap.get? b=some o∧∀ v,o.data≠.cell v):Inv X (pins++pinsAt fp s.heap) σ H s:=
  I.pins_of fun p hp=>(List.mem_append.mp hp).elim (fun z=>I.pin p (List.mem_append_right _ z)) fun z=>by
    obtain⟨hb,e⟩:=of_pinsAt z;obtain⟨f0,f1,f2,_⟩:=hf p.1 hb;obtain⟨o,e',d⟩:=ho p.1 hb;rw[e]at e';cases e'
    exact⟨e,f0,f1,f2,d⟩
theorem Inv.unpinned{pins pl:List (Addr×Obj)}{σ:St}{H:Hp}{s:Shared}(I:Inv X (pins++pl) σ H s):Inv X pins σ H s:=I.pins_of fun p hp=>I.pin p (List.mem_append_right _ (List.mem_append_left _ hp))
theorem ps_for{iter:Expr}{body:List Stmt}{wi:TI}{g:TG}{tb:TS}{pos:Pos}(hp:PassesOwn (model X.prog X.w) X.A X.env X.xe)(hc:X.calm=true)(hi:PI X tg iter wi)(hg:PG X tg g)(hb:PSs X body tb)(hs:∀ x,foldedSetIterable iter X.env x=pure x:=by intro _;rfl):PS X (.For tg iter body [] pos) (tFor wi g tb):=by
  intro pins s σ H D I h;refine wpAny_For (thn (hi pins s σ H _ I h) fun v s1 h1=>thn h1 fun itv s2 h2=>?_) hs
  obtain⟨it,fp,tn,J,H2,e,I2,T,st2,f2,W,⟨m0,w0⟩,turn⟩:=h2;subst e
  -- what stays true of the iterator's objects through the loop
  have stat:∀ {H':Hp},(∀ b∈fp,H' b=none)→∀ b∈fp,FpOk X pins H' b:=fun hn b hb=>⟨hn b hb,(f2 b hb).2⟩
  refine codeAny_forLoop_any (fun n s'=>∃ i σ' H',Inv X pins σ' H' s'∧tn i s'.heap∧(∀ b∈fp,H' b=none)∧W i n σ' H') ?_ m0 ⟨0,σ,H2,I2,st2,fun b hb=>(f2 b hb).1,w0⟩
  rintro n s3 ⟨i,σ3,H3,I3,st3,fr3,w3⟩
  rcases turn i n σ3 H3 w3 with⟨stop,qn⟩|⟨go,N,hN,step⟩
  · refine wpAny_passesOwn hp (thn (T.done X rfl rfl rfl hc i pins s3 σ3 H3 X.xe I3 (stat fr3) st3 stop) fun r s4 ⟨hr,I4⟩=>?_)
    subst hr;exact wpAny_execs_nil ⟨σ3,H3,I4,qn⟩
  · refine wpAny_passesOwn hp (thn (T.item X rfl rfl rfl hc i pins s3 σ3 H3 X.xe I3 (stat fr3) st3 go) fun r s4 ⟨u,hr,h4⟩=>?_)
    subst hr;refine wpAny_passesOwn hp (thn h4 fun _ s5 ⟨x,H5,I5,r5,y5,st5,fr5⟩=>?_)
    have I5':=I5.pinned (stat fr5) (T.obj _ _ st5);refine wpAny_passesOwn hp (thn (hg _ s5 σ3 H5 x u _ I5' r5 (step x H5 y5)) fun _ s6 ⟨σ6,H6,I6,q6⟩=>?_)
    refine wpAny_passesOwn hp (thn (hb _ s6 σ6 H6 _ I6 q6) fun f s7 q7=>?_)
    have again:∀ {σ7:St}{H7:Hp},Inv X (pins++pinsAt fp s5.heap) σ7 H7 s7→N σ7 H7→∃ m,m < n∧∃ i σ' H',Inv X pins σ' H' s7∧tn i s7.heap∧(∀ b∈fp,H' b=none)∧W i m σ' H':=fun {σ7 H7} I7 n7=>by
      obtain⟨m',hm,w7⟩:=hN σ7 H7 n7;refine⟨m',hm,i+1,σ7,H7,I7.unpinned,T.keep _ _ _ st5 fun b hb o e=>(I7.pin (b,o) (List.mem_append_right _ (List.mem_append_right _ (mem_pinsAt hb e)))).1,fun b hb=>?_,w7⟩
      obtain⟨o,e,d⟩:=T.obj _ _ st5 b hb;exact(I7.pin (b,o) (List.mem_append_right _ (List.mem_append_right _ (mem_pinsAt hb e)))).2.1
    cases f with
    |next=>obtain⟨σ7,H7,I7,n7⟩:=q7;exact again I7 n7
    |cont=>obtain⟨σ7,H7,I7,n7⟩:=q7;exact again I7 n7
    |brk=>obtain⟨σ7,H7,I7,q7⟩:=q7;exact⟨σ7,H7,I7.unpinned,q7⟩
    |ret v=>obtain⟨x7,σ7,H7,I7,r7,q7⟩:=q7;exact⟨x7,σ7,H7,I7.unpinned,r7,q7⟩
end

theorem for_tup{K:PySem.W.Frag}{a:Addr}{xs:List V}{g:TG}{tb:TS}{D:Ends}{σ:St}{H:Hp}(Pv:Nat→St→Hp→Prop)(h0:Pv 0 σ H)(hl:∀ i σ H,i≤xs.length→Pv i σ H→SqT K H a xs)(hs:∀ i x σ H,xs[i]?=some x→Pv i σ H→g x σ H fun σ2 H2=>tb { D with nx:=Pv (i+1),ct:=Pv (i+1),bk:=D.nx } σ2 H2)(hd:∀ σ H,Pv xs.length σ H→D.nx σ H) :
    ∃ W:Nat→Nat→St→Hp→Prop,(∃ m,W 0 m σ H)∧∀ i m σ H,W i m σ H→
      ((Itt K a).stop i H∧D.nx σ H)∨((Itt K a).go i H∧∃ N:St→Hp→Prop,(∀ σ' H',N σ' H'→∃ m',m' < m∧W (i+1) m' σ' H')∧∀ x H',(Itt K a).yld i H x H'→g x σ H' fun σ2 H2=>tb { D with nx:=N,ct:=N,bk:=D.nx } σ2 H2):=by
  refine⟨fun i m σ H=>m=xs.length - i∧i≤xs.length∧Pv i σ H,⟨xs.length,by simp,Nat.zero_le _,h0⟩,?_⟩
  rintro i m σ H ⟨rfl,hi,p⟩
  have q:=hl i σ H hi p;by_cases hlt:i < xs.length
  · refine .inr ⟨⟨xs,xs[i],q,by simp[hlt]⟩,Pv (i+1),fun σ' H' p'=>⟨xs.length - (i+1),by omega,rfl,hlt,p'⟩,fun x H' y=>?_⟩
    obtain⟨e,y⟩:=y;subst e;exact hs i x σ _ (y xs q) p
  · have e:i=xs.length:=by omega
    subst e;exact .inl ⟨⟨xs,q,Nat.le_refl _⟩,hd σ H p⟩
theorem for_range{lo:Int}{n:Nat}{g:TG}{tb:TS}{D:Ends}{σ:St}{H:Hp}(Pv:Nat→St→Hp→Prop)(h0:Pv 0 σ H)(hs:∀ i σ H,i < n→Pv i σ H→g (.int (lo+i)) σ H fun σ2 H2=>tb { D with nx:=Pv (i+1),ct:=Pv (i+1),bk:=D.nx } σ2 H2)(hd:∀ σ H,Pv n σ H→D.nx σ H) :
    ∃ W:Nat→Nat→St→Hp→Prop,(∃ m,W 0 m σ H)∧∀ i m σ H,W i m σ H→
      ((Itr lo n).stop i H∧D.nx σ H)∨((Itr lo n).go i H∧∃ N:St→Hp→Prop,(∀ σ' H',N σ' H'→∃ m',m' < m∧W (i+1) m' σ' H')∧∀ x H',(Itr lo n).yld i H x H'→g x σ H' fun σ2 H2=>tb { D with nx:=N,ct:=N,bk:=D.nx } σ2 H2):=by
  refine⟨fun i m σ H=>m=n - i∧i≤n∧Pv i σ H,⟨n,by simp,Nat.zero_le _,h0⟩,?_⟩
  rintro i m σ H ⟨rfl,hi,p⟩
  by_cases hlt:i < n
  · refine .inr ⟨hlt,Pv (i+1),fun σ' H' p'=>⟨n - (i+1),by omega,rfl,hlt,p'⟩,fun x H' y=>?_⟩
    obtain⟨e,y⟩:=y;subst e y;exact hs i σ _ hlt p
  · have e:i=n:=by omega
    subst e;exact .inl ⟨Nat.le_refl _,hd σ H p⟩
end L2

namespace L2
open PySem PySem.Spec PyProof.Rows

abbrev R2:=V→V→Hp→VK→Prop
def OpR(X:Cx)(f:Value→Value→Sem Value)(r:R2):Prop:=
  ∀ (pins:List (Addr×Obj)) (s:Shared) (σ:St) (H:Hp) (x y:V) (v u:Value) (Q:VK),Inv X pins σ H s→RelV x v→RelV y u→r x y H Q→
    wpAny (model X.prog X.w) X.A (f v u) (EP X pins σ Q) X.xe s
def UnR(X:Cx)(f:Value→Sem Value)(r:V→Hp→VK→Prop):Prop:=
  ∀ (pins:List (Addr×Obj)) (s:Shared) (σ:St) (H:Hp) (x:V) (v:Value) (Q:VK),Inv X pins σ H s→RelV x v→r x H Q→
    wpAny (model X.prog X.w) X.A (f v) (EP X pins σ Q) X.xe s
def CallR(X:Cx)(f:Value)(r:List V→Hp→VK→Prop):Prop:=
  ∀ (pins:List (Addr×Obj)) (s:Shared) (σ:St) (H:Hp) (xs:List V) (us:List Value) (Q:VK),Inv X pins σ H s→Vals xs us→r xs H Q→
    wpAny (model X.prog X.w) X.A (call f us) (EP X pins σ Q) X.xe s

noncomputable def tOp(r:R2)(ta tb:TE):TE:=fun σ H Q=>ta σ H fun x H1=>tb σ H1 fun y H2=>r x y H2 Q
noncomputable def tUn(r:V→Hp→VK→Prop)(ta:TE):TE:=fun σ H Q=>ta σ H fun x H1=>r x H1 Q
noncomputable def rI(C:Int→Int→Prop)(g:Int→Int→V):R2:=fun x y H Q=>∃ i j,x=.int i∧y=.int j∧C i j∧Q (g i j) H
noncomputable def rI0(g:Int→Int→V):R2:=fun x y H Q=>∃ i j,x=.int i∧y=.int j∧Q (g i j) H
def rU(g:Int→V):V→Hp→VK→Prop:=fun x H Q=>∃ i,x=.int i∧Q (g i) H

section
variable {X:Cx}{a b c:Expr}{ta tb tc:TE}{pos:Pos}

theorem binT(ha:PE X a ta)(hb:PE X b tb){pins:List (Addr×Obj)}{s:Shared}{σ:St}{H:Hp}{R:V→V→Hp→Prop}(I:Inv X pins σ H s)(h:ta σ H fun x H1=>tb σ H1 fun y H2=>R x y H2){Q:Value→Shared→Prop}{f:Value→Value→Sem Value}(hf:∀ v u s2 x y H2,Inv X pins σ H2 s2→RelV x v→RelV y u→R x y H2→wpAny (model X.prog X.w) X.A (f v u) Q X.xe s2) :
    wpAny (model X.prog X.w) X.A (eval a X.env) (fun v s₁=>wpAny (model X.prog X.w) X.A (eval b X.env) (fun u s₂=>wpAny (model X.prog X.w) X.A (f v u) Q X.xe s₂) X.xe s₁) X.xe s:=by
  refine thn (ha pins s σ H _ I h) fun v s1 ⟨x,H1,I1,r1,q1⟩=>?_
  refine thn (hb pins s1 σ H1 _ I1 q1) fun u s2 ⟨y,H2,I2,r2,q2⟩=>?_
  exact hf v u s2 x y H2 I2 r1 r2 q2

theorem pe_op{op:Operator}{r:R2}(ho:OpR X (binaryOp op) r)(ha:PE X a ta)(hb:PE X b tb):PE X (.BinOp a op b pos) (tOp r ta tb):=by
  intro pins s σ H Q I h;exact wpAny_BinOp (binT ha hb I h fun v u s2 x y H2 I2 rx ry q=>ho pins s2 σ H2 x y v u Q I2 rx ry q)
theorem pe_un{op:UnaryOp}{r:V→Hp→VK→Prop}(ho:UnR X (unaryOp op) r)(ha:PE X a ta):PE X (.UnaryOp op a pos) (tUn r ta):=by
  intro pins s σ H Q I h;exact UnaryOp_ (thn (ha pins s σ H _ I h) fun v s1 ⟨x,H1,I1,r1,q1⟩=>ho pins s1 σ H1 x v Q I1 r1 q1)

theorem opI{f:Value→Value→Sem Value}{C:Int→Int→Prop}{g:Int→Int→Int}(rule:∀ (i j:Int) (t u:Tok) (s:Shared) (Q:Value→Shared→Prop) (E:Value→Shared→Prop),C i j→Q (.int (g i j) s.toks) { s with toks:=s.toks+1 }→wpAny (model X.prog X.w) X.A (f (.int i t) (.int j u)) Q E s) :
    OpR X f (rI C fun i j=>.int (g i j)):=by
  intro pins s σ H x y v u Q I rx ry h;obtain⟨i,j,rfl,rfl,hc,q⟩:=h;obtain⟨t,rfl⟩:=rx;obtain⟨t',rfl⟩:=ry;exact rule i j t t' s _ _ hc ⟨.int (g i j),H,I.tok _,⟨_,rfl⟩,q⟩
theorem opI0{f:Value→Value→Sem Value}{g:Int→Int→Int}(rule:∀ (i j:Int) (t u:Tok) (s:Shared) (Q:Value→Shared→Prop) (E:Value→Shared→Prop),Q (.int (g i j) s.toks) { s with toks:=s.toks+1 }→wpAny (model X.prog X.w) X.A (f (.int i t) (.int j u)) Q E s) :
    OpR X f (rI0 fun i j=>.int (g i j)):=by
  intro pins s σ H x y v u Q I rx ry h;obtain⟨i,j,rfl,rfl,q⟩:=h;obtain⟨t,rfl⟩:=rx;obtain⟨t',rfl⟩:=ry;exact rule i j t t' s _ _ ⟨.int (g i j),H,I.tok _,⟨_,rfl⟩,q⟩
theorem opB0{f:Value→Value→Sem Value}{g:Int→Int→Bool}(rule:∀ (i j:Int) (t u:Tok) (s:Shared) (Q:Value→Shared→Prop) (E:Value→Shared→Prop),Q (.bool (g i j)) s→wpAny (model X.prog X.w) X.A (f (.int i t) (.int j u)) Q E s) :
    OpR X f (rI0 fun i j=>.bl (g i j)):=by
  intro pins s σ H x y v u Q I rx ry h;obtain⟨i,j,rfl,rfl,q⟩:=h;obtain⟨t,rfl⟩:=rx;obtain⟨t',rfl⟩:=ry;exact rule i j t t' s _ _ ⟨.bl (g i j),H,I,rfl,q⟩

def CDiv(i j:Int):Prop:=0 < j∧j < 1073741824
def CDivN(i j:Int):Prop:=j≠0∧j.natAbs < 1073741824
def CMul(i j:Int):Prop:=(-(2 ^ 64) < i∧i < 2 ^ 64)∨(-(2 ^ 64) < j∧j < 2 ^ 64)
theorem CMul.ok{i j:Int}(h:CMul i j):IntMulOk i j:=by
  rcases h with⟨h1,h2⟩|⟨h1,h2⟩
  · exact .of_left (intBits_le_64 h1 h2)
  · exact .of_right (intBits_le_64 h1 h2)

theorem op_add:OpR X (binaryOp .Add) (rI0 fun i j=>.int (i+j)):=opI0 fun _ _ _ _ _ _ _ q=>add_int q
theorem op_sub:OpR X (binaryOp .Sub) (rI0 fun i j=>.int (i - j)):=opI0 fun _ _ _ _ _ _ _ q=>sub_int q
theorem op_mul:OpR X (binaryOp .Mult) (rI CMul fun i j=>.int (i * j)):=opI fun _ _ _ _ _ _ _ hc q=>mul_int q hc.ok
theorem op_fdiv:OpR X (binaryOp .FloorDiv) (rI CDiv fun i j=>.int (i / j)):=opI fun i j _ _ _ _ _ hc q=>by
  have h1:(0:Int) < j:=hc.1;have h2:j < 1073741824:=hc.2;exact floordiv_int (by omega) (by rw[Int.fdiv_eq_ediv_of_nonneg i (by omega)];exact q) (.inl (PyProof.noPylong_small (by omega)))
theorem op_fdivN:OpR X (binaryOp .FloorDiv) (rI CDivN fun i j=>.int (i.fdiv j)):=opI fun _ _ _ _ _ _ _ hc q=>floordiv_int hc.1 q (.inl (PyProof.noPylong_small hc.2))
theorem op_mod:OpR X (binaryOp .Mod) (rI (fun _ j=>0 < j) fun i j=>.int (i % j)):=opI fun i j _ _ _ _ _ hc q=>by
  have h1:(0:Int) < j:=hc;exact mod_int' (by omega) (by rw[Int.fmod_eq_emod_of_nonneg i (by omega)];exact q)
theorem op_modN:OpR X (binaryOp .Mod) (rI (fun _ j=>j≠0) fun i j=>.int (i.fmod j)):=opI fun _ _ _ _ _ _ _ hc q=>mod_int' hc q


theorem unI{f:Value→Sem Value}{g:Int→Int}(rule:∀ (i:Int) (t:Tok) (s:Shared) (Q:Value→Shared→Prop) (E:Value→Shared→Prop),Q (.int (g i) s.toks) { s with toks:=s.toks+1 }→wpAny (model X.prog X.w) X.A (f (.int i t)) Q E s) :
    UnR X f (rU fun i=>.int (g i)):=by
  intro pins s σ H x v Q I rx h;obtain⟨i,rfl,q⟩:=h;obtain⟨t,rfl⟩:=rx;exact rule i t s _ _ ⟨.int (g i),H,I.tok _,⟨_,rfl⟩,q⟩
theorem un_neg:UnR X (unaryOp .USub) (rU fun i=>.int (-i)):=unI fun _ _ _ _ _ q=>neg_int q

end

noncomputable def scal:V→V→Bool
  |.non,.non=>true|.non,.int _=>true|.int _,.non=>true|.non,.bl _=>true|.bl _,.non=>true|.non,.str _=>true|.str _,.non=>true
  |.int _,.int _=>true|.bl _,.bl _=>true|.str _,.str _=>true|.byt _,.byt _=>true
  |.int _,.str _=>true|.str _,.int _=>true|.bl _,.str _=>true|.str _,.bl _=>true
  |_,_=>false
noncomputable def rEq:R2:=fun x y H Q=>scal x y=true∧Q (.bl (decide (x=y))) H
noncomputable def rNe:R2:=fun x y H Q=>scal x y=true∧Q (.bl (!decide (x=y))) H

theorem dec_int{i j:Int}:decide (V.int i=V.int j)=(i==j):=by
  rw[Bool.eq_iff_iff];simp
theorem dec_bl{i j:Bool}:decide (V.bl i=V.bl j)=(i==j):=by
  rw[Bool.eq_iff_iff];simp
theorem dec_str{i j:Str}:decide (V.str i=V.str j)=(i==j):=by
  rw[Bool.eq_iff_iff];simp
theorem dec_byt{i j:Array UInt8}:decide (V.byt i=V.byt j)=(i.toList==j.toList):=by
  rw[Bool.eq_iff_iff];cases i;cases j;simp

section
variable {X:Cx}{a b c:Expr}{ta tb tc:TE}{pos:Pos}
theorem fin_bl{pins:List (Addr×Obj)}{σ:St}{H:Hp}{s:Shared}{Q:VK}{k k':Bool}(I:Inv X pins σ H s)(q:Q (.bl k) H)(e:k=k'):EP X pins σ Q (.bool k') s:=by
  subst e;exact⟨.bl k,H,I,rfl,q⟩
theorem op_eq:OpR X (compareOp .Eq) rEq:=by
  intro pins s σ H x y v u Q I rx ry h;obtain⟨hs,q⟩:=h;cases x with
  |non=>
    cases rx;cases y with
    |non=>cases ry;exact PySem.EqNone.eq_none_none (fin_bl I q (by simp))
    |bl j=>cases ry;exact PySem.EqNone.eq_none_bool (fin_bl I q (by simp))
    |int j=>obtain⟨t',rfl⟩:=ry;exact PySem.EqNone.eq_none_int (fin_bl I q (by simp))
    |str j=>obtain⟨t',rfl⟩:=ry;exact PySem.EqNone.eq_none_str (fin_bl I q (by simp))
    |_=>exact absurd (show false=true from hs) Bool.false_ne_true
  |bl i=>
    cases rx;cases y with
    |non=>cases ry;exact PySem.EqNone.eq_bool_none (fin_bl I q (by simp))
    |bl j=>cases ry;exact eq_bool (fin_bl I q dec_bl)
    |str j=>obtain⟨t',rfl⟩:=ry;exact PySem.EqMixed.eq_bool_str (fin_bl I q (by simp))
    |_=>exact absurd (show false=true from hs) Bool.false_ne_true
  |int i=>
    obtain⟨t,rfl⟩:=rx;cases y with
    |non=>cases ry;exact PySem.EqNone.eq_int_none (fin_bl I q (by simp))
    |int j=>obtain⟨t',rfl⟩:=ry;exact eq_int (fin_bl I q dec_int)
    |str j=>obtain⟨t',rfl⟩:=ry;exact PySem.EqMixed.eq_int_str (fin_bl I q (by simp))
    |_=>exact absurd (show false=true from hs) Bool.false_ne_true
  |str i=>
    obtain⟨t,rfl⟩:=rx;cases y with
    |non=>cases ry;exact PySem.EqNone.eq_str_none (fin_bl I q (by simp))
    |bl j=>cases ry;exact PySem.EqMixed.eq_str_bool (fin_bl I q (by simp))
    |int j=>obtain⟨t',rfl⟩:=ry;exact PySem.EqMixed.eq_str_int (fin_bl I q (by simp))
    |str j=>obtain⟨t',rfl⟩:=ry;exact eq_str (fin_bl I q dec_str)
    |_=>exact absurd (show false=true from hs) Bool.false_ne_true
  |byt i=>
    obtain⟨t,rfl⟩:=rx;cases y with
    |byt j=>obtain⟨t',rfl⟩:=ry;exact PySem.W.eq_bytes (fin_bl I q dec_byt)
    |_=>exact absurd (show false=true from hs) Bool.false_ne_true
  |_=>cases y<;>exact absurd (show false=true from hs) Bool.false_ne_true
theorem op_ne:OpR X (compareOp .NotEq) rNe:=by
  intro pins s σ H x y v u Q I rx ry h;obtain⟨hs,q⟩:=h;cases x with
  |non=>
    cases rx;cases y with
    |non=>cases ry;exact PySem.EqNone.ne_none_none (fin_bl I q (by simp))
    |bl j=>cases ry;exact PySem.EqNone.ne_none_bool (fin_bl I q (by simp))
    |int j=>obtain⟨t',rfl⟩:=ry;exact PySem.EqNone.ne_none_int (fin_bl I q (by simp))
    |str j=>obtain⟨t',rfl⟩:=ry;exact PySem.EqNone.ne_none_str (fin_bl I q (by simp))
    |_=>exact absurd (show false=true from hs) Bool.false_ne_true
  |bl i=>
    cases rx;cases y with
    |non=>cases ry;exact PySem.EqNone.ne_bool_none (fin_bl I q (by simp))
    |bl j=>cases ry;exact ne_bool (fin_bl I q (congrArg not dec_bl))
    |str j=>obtain⟨t',rfl⟩:=ry;exact PySem.EqMixed.ne_bool_str (fin_bl I q (by simp))
    |_=>exact absurd (show false=true from hs) Bool.false_ne_true
  |int i=>
    obtain⟨t,rfl⟩:=rx;cases y with
    |non=>cases ry;exact PySem.EqNone.ne_int_none (fin_bl I q (by simp))
    |int j=>obtain⟨t',rfl⟩:=ry;exact ne_int (fin_bl I q (congrArg not dec_int))
    |str j=>obtain⟨t',rfl⟩:=ry;exact PySem.EqMixed.ne_int_str (fin_bl I q (by simp))
    |_=>exact absurd (show false=true from hs) Bool.false_ne_true
  |str i=>
    obtain⟨t,rfl⟩:=rx;cases y with
    |non=>cases ry;exact PySem.EqNone.ne_str_none (fin_bl I q (by simp))
    |bl j=>cases ry;exact PySem.EqMixed.ne_str_bool (fin_bl I q (by simp))
    |int j=>obtain⟨t',rfl⟩:=ry;exact PySem.EqMixed.ne_str_int (fin_bl I q (by simp))
    |str j=>obtain⟨t',rfl⟩:=ry;exact ne_str (fin_bl I q (congrArg not dec_str))
    |_=>exact absurd (show false=true from hs) Bool.false_ne_true
  |byt i=>
    obtain⟨t,rfl⟩:=rx;cases y with
    |byt j=>obtain⟨t',rfl⟩:=ry;exact PySem.W.ne_bytes (fin_bl I q (congrArg not dec_byt))
    |_=>exact absurd (show false=true from hs) Bool.false_ne_true
  |_=>cases y<;>exact absurd (show false=true from hs) Bool.false_ne_true

theorem op_lt:OpR X (compareOp .Lt) (rI0 fun i j=>.bl (decide (i < j))):=opB0 fun _ _ _ _ _ _ _ q=>lt_int q
theorem op_le:OpR X (compareOp .LtE) (rI0 fun i j=>.bl (decide (i≤j))):=opB0 fun _ _ _ _ _ _ _ q=>le_int q
theorem op_gt:OpR X (compareOp .Gt) (rI0 fun i j=>.bl (decide (j < i))):=opB0 fun _ _ _ _ _ _ _ q=>gt_int q
theorem op_ge:OpR X (compareOp .GtE) (rI0 fun i j=>.bl (decide (j≤i))):=opB0 fun _ _ _ _ _ _ _ q=>ge_int q
theorem op_in_str:OpR X (compareOp .In) (fun x y H Q=>∃ i j,x=.str i∧y=.str j∧Q (.bl (!(Builtin.Str.occurrences j i 0 j.length 1).isEmpty)) H):=by
  intro pins s σ H x y v u Q I rx ry h;obtain⟨i,j,rfl,rfl,q⟩:=h;obtain⟨t,rfl⟩:=rx;obtain⟨t',rfl⟩:=ry;exact in_str (fin_bl I q rfl)

theorem op_isN:OpR X (compareOp .Is) (fun x y H Q=>y=.non∧Q (.bl (decide (x=.non))) H):=by
  intro pins s σ H x y v u Q I rx ry h;obtain⟨rfl,q⟩:=h;cases ry;refine is_none_gen (fin_bl I q ?_);cases x<;>first
    | (cases rx;rfl)
    | (obtain⟨t,rfl⟩:=rx;rfl)
theorem op_notN:OpR X (compareOp .IsNot) (fun x y H Q=>y=.non∧Q (.bl (!decide (x=.non))) H):=by
  intro pins s σ H x y v u Q I rx ry h;obtain⟨rfl,q⟩:=h;cases ry;refine isnot_none_gen (fin_bl I q ?_);cases x<;>first
    | (cases rx;rfl)
    | (obtain⟨t,rfl⟩:=rx;rfl)



theorem pe_cmpR{op:CmpOp}{r:R2}(ho:OpR X (compareOp op) r)(ha:PE X a ta)(hb:PE X b tb)(hm:behindInMarks op b=false):PE X (.Compare a [op] [b] pos) (tOp r ta tb):=by
  intro pins s σ H Q I h;exact wpAny_Compare1 (binT ha hb I h fun v u s2 x y H2 I2 rx ry q=>ho pins s2 σ H2 x y v u Q I2 rx ry q) hm
noncomputable def tTest(t:TE):TT:=fun σ H Q=>t σ H fun x H'=>∃ k,x=.bl k∧Q k H'
theorem pt_cmpR{op:CmpOp}{r:R2}(ho:OpR X (compareOp op) r)(ha:PE X a ta)(hb:PE X b tb)(hm:behindInMarks op b=false):PT X (.Compare a [op] [b] pos) (tTest (tOp r ta tb)):=by
  intro pins s σ H Q I h;refine wpAny_isTrue_Compare1 (thn (ha pins s σ H _ I h) fun v s1 ⟨x,H1,I1,r1,q1⟩=>thn (hb pins s1 σ H1 _ I1 q1) fun u s2 ⟨y,H2,I2,r2,q2⟩=>
    thn (ho pins s2 σ H2 x y v u _ I2 r1 r2 q2) fun c s3 ⟨z,H3,I3,r3,k,e,q3⟩=>?_) hm
  subst e;cases r3;exact wpAny_truthy_bool ⟨H3,I3,q3⟩

theorem line63:(sizeLine:Nat) < 2 ^ 63:=by rw[sizeLine_eq];decide

theorem op_add_str:OpR X (binaryOp .Add) (fun x y H Q=>∃ i j,x=.str i∧y=.str j∧i.length+j.length≤sizeLine∧Q (.str (i++j)) H):=by
  intro pins s σ H x y v u Q I rx ry h;obtain⟨i,j,rfl,rfl,hz,q⟩:=h;obtain⟨t,rfl⟩:=rx;obtain⟨t',rfl⟩:=ry;exact add_str (fun t' tk=>⟨.str (i++j),H,I.tok _,⟨_,rfl⟩,q⟩) hz


theorem vals1{x:V}{us:List Value}(r:Vals [x] us):∃ u,us=[u]∧RelV x u:=by
  cases r with
  |cons r1 r2=>cases r2;exact⟨_,rfl,r1⟩
theorem vals2{x y:V}{us:List Value}(r:Vals [x,y] us):∃ u w',us=[u,w']∧RelV x u∧RelV y w':=by
  cases r with
  |cons r1 r2=>
    cases r2 with
    |cons r3 r4=>cases r4;exact⟨_,_,rfl,r1,r3⟩
theorem call_max2(hc:X.calm=true):CallR X (.builtin "max") (fun xs H Q=>∃ i j,xs=[.int i,.int j]∧Q (.int (if j > i then j else i)) H):=by
  intro pins s σ H xs us Q I r h;obtain⟨i,j,rfl,q⟩:=h;obtain⟨u,w',rfl,⟨t,rfl⟩,⟨t',rfl⟩⟩:=vals2 r;refine max_two_ints (I.ok.hd hc) fun h' tk k=>⟨_,H,I.kept k,?_,q⟩
  by_cases hj:j > i
  · rw[if_pos hj,if_pos hj];exact⟨_,rfl⟩
  · rw[if_neg hj,if_neg hj];exact⟨_,rfl⟩
theorem call_min2(hc:X.calm=true):CallR X (.builtin "min") (fun xs H Q=>∃ i j,xs=[.int i,.int j]∧Q (.int (if j < i then j else i)) H):=by
  intro pins s σ H xs us Q I r h;obtain⟨i,j,rfl,q⟩:=h;obtain⟨u,w',rfl,⟨t,rfl⟩,⟨t',rfl⟩⟩:=vals2 r;refine min_two_ints (I.ok.hd hc) fun h' tk k=>⟨_,H,I.kept k,?_,q⟩
  by_cases hj:j < i
  · rw[if_pos hj,if_pos hj];exact⟨_,rfl⟩
  · rw[if_neg hj,if_neg hj];exact⟨_,rfl⟩
theorem call_int1:CallR X (.type "int") (fun xs H Q=>(∃ i,xs=[.int i]∧Q (.int i) H)∨∃ k,xs=[.bl k]∧Q (.int (if k then 1 else 0)) H):=by
  intro pins s σ H xs us Q I r h;rcases h with⟨i,rfl,q⟩|⟨k,rfl,q⟩
  · obtain⟨u,rfl,t,rfl⟩:=vals1 r
    exact call_int_int ⟨.int i,H,I,⟨_,rfl⟩,q⟩
  · obtain⟨u,rfl,r1⟩:=vals1 r
    cases r1;exact call_int_bool ⟨.int (if k then 1 else 0),H,I.tok _,⟨_,rfl⟩,q⟩
def LenV(K:PySem.W.Frag)(x:V)(H:Hp)(n:Nat):Prop:=
  match x with
  |.str y=>y.length≤sizeLine∧n=y.length
  |.byt y=>y.size≤sizeLine∧n=y.size
  |.ref p=>(∃ xs,SqL K H p xs∧n=xs.length)∨∃ xs,SqT K H p xs∧n=xs.length
  |_=>False
theorem call_len:CallR X (.builtin "len") (fun xs H Q=>∃ x n,xs=[x]∧LenV X.K x H n∧Q (.int n) H):=by
  intro pins s σ H xs us Q I r h;obtain⟨x,n,rfl,e,q⟩:=h;obtain⟨u,rfl,rx⟩:=vals1 r;have hl:=line63;have hs:sizeLine=16777216:=sizeLine_eq;cases x with
  |str y=>
    obtain⟨t,rfl⟩:=rx;obtain⟨hy,e'⟩:y.length≤sizeLine∧n=y.length:=e;subst e';exact len_str (by omega) ⟨.int _,H,I.tok _,⟨_,rfl⟩,q⟩
  |byt y=>
    obtain⟨t,rfl⟩:=rx;obtain⟨hy,e'⟩:y.size≤sizeLine∧n=y.size:=e;subst e';exact PySem.W.len_bytes (by omega) ⟨.int _,H,I.tok _,⟨_,rfl⟩,q⟩
  |ref p=>
    cases rx;have e':(∃ xs,SqL X.K H p xs∧n=xs.length)∨∃ xs,SqT X.K H p xs∧n=xs.length:=e;rcases e' with⟨xs,hx,e'⟩|⟨xs,hx,e'⟩
    · subst e'
      obtain⟨its,r',pl,hz⟩:=I.list hx;have hlen:=r'.length;exact Calls.call_len_list pl.isList (by simp only[List.size_toArray];omega) ⟨.int xs.length,H,I.tok _,⟨_,by simp only[List.size_toArray];rw[hlen]⟩,q⟩
    · subst e'
      obtain⟨its,r',pl,hz⟩:=I.tuple hx;have hlen:=r'.length;exact len_tuple pl (by simp only[List.size_toArray];omega) ⟨.int xs.length,H,I.tok _,⟨_,by simp only[List.size_toArray];rw[hlen]⟩,q⟩
  |_=>exact(show False from e).elim
end
end L2

namespace L2
open PySem PySem.Spec PyProof.Rows

structure ObjM(h:Heap)(x dx C:Addr)(mA:Str→Option Value):Prop where
  obj:h.get? x=some (PySem.W.instObj C dx)
  ns:h.Ns1 dx mA
  ne:dx≠x

theorem lookIn_ns{h:Heap}{dx:Addr}{mA:Str→Option Value}(n:h.Ns1 dx mA):∃ od,h.get? dx=some od∧∀ name,PySem.W.lookIn name od=some (mA name):=by
  obtain⟨o,es,ep,ho,hd,hk,_,hm⟩:=n;refine⟨o,ho,fun name=>?_⟩
  have e:=hm name;unfold nsFind findBy at e;rw[←Array.find?_toList]at e;unfold PySem.W.lookIn;rw[hd];dsimp only;split
  · rename_i y q
    rw[q]at e;exact congrArg some e
  · rename_i q
    rw[q]at e;have a:es.toList.any (·.refKey)=false:=by
      rw[List.any_eq_false];intro y hy;obtain⟨z,t,hkey⟩:=hk y (Array.mem_toList_iff.mp hy);simp[DictEntry.refKey,hkey]
    have a':¬es.toList.any (·.refKey)=true:=by rw[a];exact Bool.false_ne_true
    rw[if_neg a'];exact congrArg some e

theorem ObjM.look{h:Heap}{x dx C:Addr}{mA:Str→Option Value}(I:ObjM h x dx C mA):∃ od,PySem.W.InstAt h x (PySem.W.instObj C dx) C (some od)∧∀ name,PySem.W.lookIn name od=some (mA name):=
  let ⟨od,ho,hl⟩:=lookIn_ns I.ns
  ⟨od,⟨I.obj,rfl,rfl,ho⟩,hl⟩

section
variable {prog:Program}{w:World}{A:Around}{E:Value→Shared→Prop}{s:Shared}{K:PySem.W.Frag}{x dx C f:Addr}{mA:Str→Option Value}{name:Str}{v:Value}





end


theorem RelO.some_of{v:V}{o:Option Value}(r:RelO (some v) o):∃ u,o=some u∧RelV v u:=by
  cases o with
  |none=>exact(show False from r).elim
  |some u=>exact⟨u,rfl,r⟩
theorem RelO.none_of{o:Option Value}(r:RelO none o):o=none:=by
  cases o with
  |none=>rfl
  |some u=>exact(show False from r).elim

section
variable {P:Program}{w:World}{H H':Hp}{h h':Heap}{a C dx:Addr}{fs fs':List (Str×V)}
theorem ins_get(hok:HOk P w H h)(e:H a=some (.ins C dx fs)):∃ mA,ObjM h a dx C mA∧(∀ f,RelO (fs.lookup f) (mA f))∧PySem.Within mA (fs.map (·.1))∧fs.length≤1000∧H dx=some (.own a):=by
  obtain⟨d,z,ne,ob,mA,n,r,q⟩:=(show ObjOk P w H h a (.ins C dx fs) from hok a _ e);exact⟨mA,⟨ob,n,ne⟩,r,q,z,d⟩
end

structure Cls(K:PySem.W.Frag)(C:Addr):Prop where
  pg:PySem.W.plainGet K C Str.empty=true
  hd:PySem.W.hasDictIn K C=true
  po:PySem.W.plainOver K C=true
  sa:PySem.W.findIn K (.ref C) "__setattr__"=some (some (.builtin "object.__setattr__"))
theorem Cls.get{K:PySem.W.Frag}{C:Addr}(c:Cls K C)(f:Str):PySem.W.plainGet K C f=true:=c.pg
structure Con(K:PySem.W.Frag)(C:Addr)(f:Str)(v:V)(u:Value):Prop where
  at_:PySem.W.findIn K (.ref C) f=some (some u)
  rel:RelV v u
  get:PySem.W.specialIn K u "__get__"=some none
  cp:PySem.W.copiedNames.contains f=false
structure Meth(K:PySem.W.Frag)(C:Addr)(m:Str)(f:Addr):Prop where
  at_:PySem.W.findIn K (.ref C) m=some (some (.ref f))
  fn:PySem.W.isFn K (.ref f)=true
  kp:PySem.W.keepIn K (.ref f)=true

section
variable {X:Cx}{pins:List (Addr×Obj)}{σ:St}{H:Hp}{s:Shared}{a C dx:Addr}{fs:List (Str×V)}{f:Str}{v:V}{A:Around}{E:Value→Shared→Prop}





theorem Inv.made(I:Inv X pins σ H s):Inv X pins σ (upd (upd H s.heap.objs.size (.own (s.heap.objs.size+1))) (s.heap.objs.size+1) (.ins C s.heap.objs.size []))
    { s with heap:=(s.heap.push PySem.W.emptyDict).push (PySem.W.instObj C s.heap.objs.size) }:=by
  have e1:(s.heap.push PySem.W.emptyDict).get? s.heap.objs.size=some PySem.W.emptyDict:=Heap.get?_push_size s.heap rfl;have e2:((s.heap.push PySem.W.emptyDict).push (PySem.W.instObj C s.heap.objs.size)).get? (s.heap.objs.size+1)=some (PySem.W.instObj C s.heap.objs.size):=by
    have:=Heap.get?_push_size (s.heap.push PySem.W.emptyDict) (o:=PySem.W.instObj C s.heap.objs.size) rfl
    rwa [Heap.size_push]at this
  have e3:(s.heap.push PySem.W.emptyDict).Ns s.heap.objs.size (fun _=>none):=⟨PySem.W.emptyDict,#[],_,e1,rfl,(fun e he=>absurd he (by simp)),fun _=>rfl⟩
  have I1:=I.laid (a:=s.heap.objs.size) (o:=.own (s.heap.objs.size+1)) (h':=s.heap.push PySem.W.emptyDict) (t':=s.toks) (fun b u q=>Heap.get?_push_of_some _ q) (Nat.le_refl _) ⟨_,e1⟩
  refine I1.laid (a:=s.heap.objs.size+1) (o:=.ins C s.heap.objs.size []) (t':=s.toks) (fun b u q=>Heap.get?_push_of_some _ q) (Nat.le_of_eq (Heap.size_push _ _)) ?_
  have ne:s.heap.objs.size≠s.heap.objs.size+1:=Nat.ne_of_lt (Nat.lt_succ_self _);refine⟨by rw[upd_ne ne,upd_same],Nat.zero_le _,ne,e2,fun _=>none,(Heap.Ns1.of_empty e3).at fun o q=>Heap.get?_push_of_some _ q,fun _=>True.intro,fun y hy=>absurd rfl hy⟩

end


section
variable {X:Cx}{o e value:Expr}{f:Str}{pos pos' tpos:Pos}{ta tv:TE}

end

section
variable {X:Cx}{pins:List (Addr×Obj)}{σ:St}{H:Hp}{s:Shared}{A:Around}{E:Value→Shared→Prop}{Q:Value→Shared→Prop}{c:Value}{b:Bool}
inductive TyOf(K:PySem.W.Frag)(H:Hp):V→Value→Prop where
  |non:TyOf K H .non (.type "NoneType")
  |bl (x:Bool):TyOf K H (.bl x) (.type "bool")
  |int (i:Int):TyOf K H (.int i) (.type "int")
  |str (x:Str):TyOf K H (.str x) (.type "str")
  |flt (x:UInt64):TyOf K H (.flt x) (.type "float")
  |lst {a:Addr}{xs:List V} (e:H a=some (.lst xs)):TyOf K H (.ref a) (.type "list")
  |frz {a:Addr}{o:Obj}{xs:List V} (e:H a=some (.frz o (.lst xs))):TyOf K H (.ref a) (.type "list")
  |tup {a:Addr}{xs:List V} (e:H a=some (.tup xs)):TyOf K H (.ref a) (.type "tuple")
  |dK {a:Addr}{kvs:List (Key×V)} (e:H a=some (.dK kvs)):TyOf K H (.ref a) (.type "dict")
  |dT {a:Addr}{kvs:List (List Key×V)} (e:H a=some (.dT kvs)):TyOf K H (.ref a) (.type "dict")
  |ins {a C dx:Addr}{fs:List (Str×V)} (e:H a=some (.ins C dx fs)) (cl:Cls K C) (ha:PySem.W.findIn K (.ref C) "__class__"=some (some (.builtin "object.__class__")))
      (hn:PySem.W.specialIn K (.builtin "object.__class__") "__get__"=some (some (.builtin "getset_descriptor.__get__"))) (htk:PySem.W.takesIn K (.builtin "object.__class__")=some true)
      (hm:PySem.W.mroIn K C (.type "object")=some true):TyOf K H (.ref a) (.ref C)
theorem isinst_ok{x:V}{u t:Value}(I:Inv X pins σ H s)(rx:RelV x u)(ty:TyOf X.K H x t)(e:PySem.W.kitOne X.K t c=some b)(h:∀ tk,Q (.bool b) { s with toks:=tk }) :
    wpAny (model X.prog X.w) A (call (.builtin "isinstance") [u,c]) Q E s:=by
  cases ty with
  |non=>cases (show u=Value.none from rx);exact PySem.W.kia_one PySem.W.kitx_none I.kIn True.intro e (fun z=>nomatch z) h
  |bl y=>cases (show u=Value.bool y from rx);exact PySem.W.kia_one PySem.W.kitx_bool I.kIn True.intro e (fun z=>nomatch z) h
  |int i=>obtain⟨t,q⟩:=(show ∃ t,u=Value.int i t from rx);cases q;exact PySem.W.kia_one PySem.W.kitx_int I.kIn True.intro e (fun z=>nomatch z) h
  |str y=>obtain⟨t,q⟩:=(show ∃ t,u=Value.str y t from rx);cases q;exact PySem.W.kia_one PySem.W.kitx_str I.kIn True.intro e (fun z=>nomatch z) h
  |flt y=>obtain⟨t,q⟩:=(show ∃ t,u=Value.float y t from rx);cases q;exact PySem.W.kia_one PySem.W.kitx_float I.kIn True.intro e (fun z=>nomatch z) h
  |@lst a xs ea=>
    cases (show u=Value.ref a from rx)
    obtain⟨_,_,n,_,h1⟩:=(show ObjOk X.prog X.w H s.heap a (.lst xs) from I.hok a _ ea);exact PySem.W.kia_one PySem.W.kitx_list I.kIn ⟨_,h1,rfl⟩ e (fun z=>nomatch z) h
  |@frz a ob xs ea=>
    cases (show u=Value.ref a from rx)
    obtain⟨_,_,_,n,_,h1⟩:=(show ObjOk X.prog X.w H s.heap a (.frz ob (.lst xs)) from I.hok a _ ea);exact PySem.W.kia_one PySem.W.kitx_list I.kIn ⟨_,h1,rfl⟩ e (fun z=>nomatch z) h
  |@tup a xs ea=>
    cases (show u=Value.ref a from rx)
    obtain⟨_,_,_,p⟩:=(show ObjOk X.prog X.w H s.heap a (.tup xs) from I.hok a _ ea);obtain⟨o,h1,h2,_⟩:=p;exact PySem.W.kia_one PySem.W.kitx_tuple I.kIn ⟨o,h1,h2⟩ e (fun z=>nomatch z) h
  |@dK a kvs ea=>
    cases (show u=Value.ref a from rx)
    obtain⟨_,_,vs,_,p⟩:=(show ObjOk X.prog X.w H s.heap a (.dK kvs) from I.hok a _ ea);obtain⟨o,es,ep,h1,h2,_⟩:=p;exact PySem.W.kia_one PySem.W.kitx_dict I.kIn ⟨o,h1,h2.1⟩ e (fun z=>nomatch z) h
  |@dT a kvs ea=>
    cases (show u=Value.ref a from rx)
    obtain⟨_,_,xs,_,o,es,ep,h1,h2,_⟩:=(show ObjOk X.prog X.w H s.heap a (.dT kvs) from I.hok a _ ea);exact PySem.W.kia_one PySem.W.kitx_dict I.kIn ⟨o,h1,h2.1⟩ e (fun z=>nomatch z) h
  |@ins a C dx fs ea cl ha hn htk hm=>
    cases (show u=Value.ref a from rx)
    obtain⟨mA,O,_⟩:=ins_get I.hok ea;obtain⟨od,J,_⟩:=O.look;exact PySem.W.kia_one (PySem.W.kitx_own (cl.get _) cl.hd ha hn htk hm) I.kIn J e (fun z=>nomatch z) h
end
end L2

namespace L2
open PySem PySem.Spec PyProof.Rows

structure Room(k:Nat)(A:Around):Prop where
  hd:A.handled=none
  dp:A.depth+3 * k+5 < recursionLimit
  un:A.units+16 * k+200 < cLine
theorem Room.deeper{k:Nat}{A:Around}(r:Room (k+1) A)(env:Env):Room k (A.deeper env):=
  ⟨r.hd,by have:=r.dp;show A.depth+1+3 * k+5 < _;omega,by have:=r.un;show A.units+3+16 * k+200 < _;omega⟩
theorem Room.depth{k:Nat}{A:Around}(r:Room k A):A.depth < recursionLimit:=by have:=r.dp;omega
theorem Room.units{k:Nat}{A:Around}(r:Room k A):A.units+64 < cLine:=by have:=r.un;omega

noncomputable def tNil:TA:=fun _ H Q=>Q [] H
noncomputable def tCons(ta:TE)(tr:TA):TA:=fun σ H Q=>ta σ H fun x H1=>tr σ H1 fun xs H2=>Q (x :: xs) H2
section
variable {X:Cx}{e:Expr}{es:List Expr}{te:TE}{t:TA}{pos:Pos}
theorem pa_nil:PA X [] tNil:=fun _ _ _ _ H Q I h=>Calls.spliced_nil ⟨[],H,I,.nil,h⟩
theorem pa_cons(ha:PE X e te)(hr:PA X es t)(hs:starEach (e :: es) X.env=(false,eval e X.env) :: starEach es X.env:=by rfl):PA X (e :: es) (tCons te t):=by
  intro pos pins s σ H Q I h;rw[hs];show wpAny _ _ (spliced ((false,eval e X.env) :: backTo pos (starEach es X.env))) _ _ s;refine Calls.spliced_cons (thn (ha pins s σ H _ I h) fun u s1 ⟨x,H1,I1,r1,q1⟩=>?_)
  exact thn (hr pos pins s1 σ H1 _ I1 q1) fun us s2 ⟨xs,H2,I2,r2,q2⟩=>⟨x :: xs,H2,I2,.cons r1 r2,q2⟩

noncomputable def tTup(t:TA):TE:=fun σ H Q=>t σ H fun xs H1=>xs.length≤sizeLine∧∀ p,H1 p=none→Q (.ref p) (upd H1 p (.tup xs))
noncomputable def tLst(t:TA):TE:=fun σ H Q=>t σ H fun xs H1=>xs.length≤sizeLine∧∀ p,H1 p=none→Q (.ref p) (upd H1 p (.lst xs))
theorem pe_tup{x1}(h:PA X es t):PE X (.Tuple es x1 pos) (tTup t):=by
  intro pins s σ H Q I hq;refine wpAny_Tuple_spliced (thn (h pos pins s σ H _ I hq) fun us s1 ⟨xs,H1,I1,r,z,q⟩=>⟨by rw[←r.length];exact z,?_⟩)
  have hf:H1 s1.heap.objs.size=none:=I1.hok.fresh (Nat.le_refl _);refine⟨.ref s1.heap.objs.size,upd H1 s1.heap.objs.size (.tup xs),I1.laid (t':=s1.toks) (fun b u e=>Heap.get?_push_of_some _ e) (Nat.le_refl _) ?_,rfl,q _ hf⟩
  exact⟨z,us,r,⟨_,Heap.get?_push_size _ rfl,rfl,_,rfl⟩⟩
theorem pe_lst(h:PA X es t):PE X (.List es pos) (tLst t):=by
  intro pins s σ H Q I hq;refine wpAny_List_spliced (thn (h pos pins s σ H _ I hq) fun us s1 ⟨xs,H1,I1,r,z,q⟩=>⟨by rw[←r.length];exact z,?_⟩)
  have hf:H1 s1.heap.objs.size=none:=I1.hok.fresh (Nat.le_refl _);refine⟨.ref s1.heap.objs.size,upd H1 s1.heap.objs.size (.lst xs),I1.laid (t':=s1.toks) (fun b u e=>Heap.get?_push_of_some _ e) (Nat.le_refl _) ?_,rfl,q _ hf⟩
  exact⟨z,us,0,r,Heap.get?_push_size _ rfl⟩
end

abbrev Sp:=List V→Hp→VK→XK→Prop
abbrev CXT:=List Env→Hp→Shared→XK→Value→Shared→Prop

structure Env0(P:Program)(w:World)(K:PySem.W.Frag)(mg:Str→Option Value)(base:Heap)(A:Around)(outer:List Env)(s:Shared)(H:Hp):Prop where
  frames:A.frames=some outer
  mod:Mod K mg base
  bs:∀ b o,base.get? b=some o→s.heap.get? b=some o∧H b=none
  bsz:base.objs.size≤s.heap.objs.size
  funs:s.heap.FunFrames base outer
  frf:∀ b∈frs outer,H b=none
  hok:HOk P w H s.heap
  bare:AllBare s.gens
def CE(outer:List Env)(P:Program)(w:World)(H:Hp)(s:Shared)(Q:VK)(u:Value)(s':Shared):Prop:=
  ∃ v H',s'.os=s.os∧AllBare s'.gens∧Un (frs outer) [] H H' s.heap s'.heap∧HOk P w H' s'.heap∧RelV v u∧Q v H'
def CR(CX:CXT)(outer:List Env)(P:Program)(w:World)(H:Hp)(s:Shared)(Q:VK)(E:XK)(r:Result)(s':Shared):Prop:=
  match r with
  |.ok (.ret u)=>CE outer P w H s Q u s'
  |.ok _=>False
  |.error e=>CX outer H s E e s'
structure FnOk(P:Program)(w:World)(K:PySem.W.Frag)(mg:Str→Option Value)(base:Heap)(CX:CXT)(k:Nat)(f:Addr)(fd:FuncData)(ps:List Str)(sp:Sp):Prop where
  len:∀ vs H Q E,sp vs H Q E→vs.length=ps.length
  run:∀ (A:Around) (outer:List Env) (s:Shared) (H:Hp) (args:Args) (us:List Value) (vs:List V) (Q:VK) (E:XK),Room k A→Env0 P w K mg base A outer s H→BindsTo s fd args (ps.zip us)→Vals vs us→sp vs H Q E→
    codeAny (model P w) A (.call (.ref f) args) (CR CX outer P w H s Q E) s


section
variable {X:Cx}{pins:List (Addr×Obj)}{σ:St}{H:Hp}{s s':Shared}
theorem Inv.env0(I:Inv X pins σ H s):Env0 X.prog X.w X.K X.mg X.base X.A X.stack s H:=
  ⟨I.ok.frames,I.ok.mod,I.bs,Nat.le_trans I.ok.bsz I.sz,I.stack,I.stkFree,I.hok,I.bare⟩
theorem Inv.after{Q:VK}{u:Value}(I:Inv X pins σ H s)(h:CE X.stack X.prog X.w H s Q u s'):EP X pins σ Q u s':=by
  obtain⟨v,H',os,bare,un,hok,r,q⟩:=h;obtain⟨hh,g,d,t,os'⟩:=s';obtain rfl:os'=s.os:=os;exact⟨v,H',I.call (h':=hh) (g':=g) (d':=d) (t':=t) (ch:=[]) un hok bare (fun b z=>absurd z (by simp)),r,q⟩
end

noncomputable def tCall(sp:Sp)(dvs:List V)(E:XK)(t:TA):TE:=fun σ H Q=>t σ H fun vs H1=>sp (vs++dvs) H1 Q E

def Binds(K:PySem.W.Frag)(fd:FuncData)(ps:List Str)(ds:List Value):Prop:=
  ∀ (s:Shared) (us:List Value),K.In s.heap→(us++ds).length=ps.length→BindsTo s fd ⟨us,[]⟩ (ps.zip (us++ds))
theorem Binds.all{K:PySem.W.Frag}{fd:FuncData}{ps:List Str}(h:∀ us:List Value,us.length=ps.length→bindArgs fd ⟨us,[]⟩=pure (ps.zip us)):Binds K fd ps []:=fun s us _ hl=>by
  rw[List.append_nil]at hl ⊢;exact .of_eq (h us hl)

def Passes(CX:CXT)(X:Cx)(E:XK):Prop:=∀ (pins:List (Addr×Obj)) (σ:St) (H:Hp) (s:Shared) (e:Value) (s':Shared),Inv X pins σ H s→CX X.stack H s E e s'→X.xe e s'

section
variable {X:Cx}{CX:CXT}{k:Nat}{f C:Addr}{fd:FuncData}{ps:List Str}{sp:Sp}{dvs:List V}{ds:List Value}{E:XK}{x m:Str}{p pos apos:Pos}{e o:Expr}{es:List Expr}{ta:TE}{t:TA}

theorem run_fn{pins:List (Addr×Obj)}{σ:St}{H:Hp}{s:Shared}{Q:VK}{us:List Value}{vs:List V}(F:FnOk X.prog X.w X.K X.mg X.base CX k f fd ps sp)(hr:Room k X.A)(hb:Binds X.K fd ps ds)(hd:Vals dvs ds)(hx:Passes CX X E)(I:Inv X pins σ H s)(r:Vals vs us)(h:sp (vs++dvs) H Q E):wpAny (model X.prog X.w) X.A (call (.ref f) us) (EP X pins σ Q) X.xe s:=by
  have r2:Vals (vs++dvs) (us++ds):=r.append hd;have hl:(us++ds).length=ps.length:=by rw[←r2.length];exact F.len _ _ _ _ h
  refine wpAny_call (codeAny_mono (F.run X.A X.stack s H ⟨us,[]⟩ (us++ds) (vs++dvs) Q E hr I.env0 (hb s us I.kIn hl) r2 h) fun r s' hq=>?_)
  cases r with
  |error e=>exact hx pins σ H s e s' I hq
  |ok fl=>
    cases fl with
    |ret u=>exact I.after hq
    |next=>exact False.elim hq
    |brk=>exact False.elim hq
    |cont=>exact False.elim hq

theorem pe_call(F:FnOk X.prog X.w X.K X.mg X.base CX k f fd ps sp)(hr:Room k X.A)(hg:Gl X x)(hm:X.mg x=some (.ref f))(hk:PySem.W.keepIn X.K (.ref f)=true)(hb:Binds X.K fd ps ds)(hd:Vals dvs ds)(hx:Passes CX X E)(ha:PA X (e :: es) t)(hdb:(x==("__debug__":Str))=false:=by decide)(he:starEach (e :: es) X.env=(false,eval e X.env) :: starEach es X.env:=by rfl)(hpl:(backTo pos (starEach es X.env)).any (·.1)=false:=by rfl) :
    PE X (.Call (.Name x p) (e :: es) [] pos) (tCall sp dvs E t):=by
  intro pins s σ H Q I h;refine wpAny_Call_Name_kw (ld_glob I hg hm ?_ hdb);refine PySem.W.callWith_K (h₀:=X.base) I.ok.mod.kin hk (thn (ha pos pins s σ H _ I h) fun us s1 ⟨vs,H1,I1,r,q⟩=>⟨I1.kIn,?_⟩) he hpl
  exact run_fn F hr hb hd hx I1 r q
theorem pe_call0(F:FnOk X.prog X.w X.K X.mg X.base CX k f fd ps sp)(hr:Room k X.A)(hg:Gl X x)(hm:X.mg x=some (.ref f))(hk:PySem.W.keepIn X.K (.ref f)=true)(hb:Binds X.K fd ps ds)(hd:Vals dvs ds)(hx:Passes CX X E)(hdb:(x==("__debug__":Str))=false:=by decide):PE X (.Call (.Name x p) [] [] pos) (tCall sp dvs E tNil):=by
  intro pins s σ H Q I h;refine wpAny_Call_Name_kw (ld_glob I hg hm ?_ hdb);exact PySem.W.callWith_K0 I.kIn hk (run_fn (us:=[]) F hr hb hd hx I .nil h)


structure Mk(K:PySem.W.Frag)(C f:Addr):Prop where
  makes:PySem.W.makesIn K C=true
  init:PySem.W.findIn K (.ref C) "__init__"=some (some (.ref f))
  fn:PySem.W.isFn K (.ref f)=true
  kp:PySem.W.keepIn K (.ref C)=true

end

section
variable {X:Cx}{CX:CXT}{k:Nat}{f C:Addr}{fd:FuncData}{ps ks:List Str}{sp:Sp}{E:XK}{x m:Str}{p pos apos kpos:Pos}{e o:Expr}{es:List Expr}{kws:List Keyword}{te ta:TE}{t tk:TA}{nm:Option Str}

structure KBinds(K:PySem.W.Frag)(fd:FuncData)(ps ks:List Str)(g:List Value→List Value→List Value)(gV:List V→List V→List V):Prop where
  to:∀ (s:Shared) (us ws:List Value),K.In s.heap→(g us ws).length=ps.length→BindsTo s fd ⟨us,ks.zip ws⟩ (ps.zip (g us ws))
  rel:∀ {vs:List V}{us:List Value}{zs:List V}{ws:List Value},Vals vs us→Vals zs ws→Vals (gV vs zs) (g us ws)
variable {g:List Value→List Value→List Value}{gV:List V→List V→List V}
end

structure FnScope(N P:List Str)(sc:Scope):Prop where
  kind:sc.kind=.function
  co:sc.isCoroutine=false
  gen:sc.isGenerator=false
  nd:N.Nodup
  pre:N.take P.length=P
  par:∀ x∈P,sc.names.lookup x=some .local∨sc.names.lookup x=some .cell
  nofree:∀ y∈sc.names,y.2≠.free

theorem bindL_out{kindOf:Str→Option NameKind}{x:Str}:∀ {binds:List (Str×Value)}{m:Str→Option Value},(∀ v,(x,v)∉binds)→bindL kindOf binds m x=m x
  |[],_,_=>rfl
  | (n,v) :: r,m,h=>by
    unfold bindL;rw[bindL_out fun w hw=>h w (List.mem_cons_of_mem _ hw)]
    split
    · have:x≠n:=by rintro rfl;exact h v List.mem_cons_self
      simp[this]
    · rfl
theorem bindC_out{kindOf:Str→Option NameKind}{x:Str}:∀ {binds:List (Str×Value)}{m:Str→Option Value},(∀ v,(x,v)∉binds)→bindC kindOf binds m x=m x
  |[],_,_=>rfl
  | (n,v) :: r,m,h=>by
    unfold bindC;rw[bindC_out fun w hw=>h w (List.mem_cons_of_mem _ hw)]
    split
    · rfl
    · have:x≠n:=by rintro rfl;exact h v List.mem_cons_self
      simp[this]
theorem bindL_get{kindOf:Str→Option NameKind}{x:Str}{v:Value}:∀ {P:List Str}{vs:List Value}{i:Nat}{m:Str→Option Value},P.Nodup→P[i]?=some x→vs[i]?=some v→kindOf x=some .local→
    bindL kindOf (P.zip vs) m x=some v
  |[],_,_,_,_,h,_,_=>by simp at h
  |_ :: _,[],_,_,_,_,h,_=>by simp at h
  |p :: P,w :: vs,0,m,nd,h1,h2,hk=>by
    simp at h1 h2;subst h1;subst h2;show bindL kindOf ((p,w) :: P.zip vs) m p=_;unfold bindL;rw[bindL_out fun v hv=>(List.nodup_cons.mp nd).1 (List.of_mem_zip hv).1,if_pos hk]
    simp
  |p :: P,w :: vs,i+1,m,nd,h1,h2,hk=>by
    show bindL kindOf ((p,w) :: P.zip vs) m x=_;unfold bindL;exact bindL_get (i:=i) (List.nodup_cons.mp nd).2 (by simpa using h1) (by simpa using h2) hk
theorem bindC_get{kindOf:Str→Option NameKind}{x:Str}{v:Value}:∀ {P:List Str}{vs:List Value}{i:Nat}{m:Str→Option Value},P.Nodup→P[i]?=some x→vs[i]?=some v→kindOf x≠some .local→
    bindC kindOf (P.zip vs) m x=some v
  |[],_,_,_,_,h,_,_=>by simp at h
  |_ :: _,[],_,_,_,_,h,_=>by simp at h
  |p :: P,w :: vs,0,m,nd,h1,h2,hk=>by
    simp at h1 h2;subst h1;subst h2;show bindC kindOf ((p,w) :: P.zip vs) m p=_;unfold bindC;rw[bindC_out fun v hv=>(List.nodup_cons.mp nd).1 (List.of_mem_zip hv).1,if_neg hk]
    simp
  |p :: P,w :: vs,i+1,m,nd,h1,h2,hk=>by
    show bindC kindOf ((p,w) :: P.zip vs) m x=_;unfold bindC;exact bindC_get (i:=i) (List.nodup_cons.mp nd).2 (by simpa using h1) (by simpa using h2) hk

noncomputable def start(N:List Str)(vs:List V):St:=vs.map some++List.replicate (N.length - vs.length) none

noncomputable def cxOf(CX:CXT)(P:Program)(w:World)(K:PySem.W.Frag)(mg:Str→Option Value)(base:Heap)(N:List Str)(qual:Str)(scope:Scope)(f:Addr)(cd:Value)(A:Around)(outer:List Env)(s:Shared)(H:Hp)(E:XK):Cx where
  prog:=P
  w:=w
  K:=K
  mg:=mg
  base:=base
  A:=A.deeper (envOfC qual scope s.heap.objs.size f cd)
  N:=N
  s₀:=s
  H₀:=H
  env:=envOfC qual scope s.heap.objs.size f cd
  outer:=outer
  stack:=envOfC qual scope s.heap.objs.size f cd :: outer
  ex:=[]
  calm:=true
  fn:=fun _=>true
  pn:=[]
  xe:=fun e s'=>wpAny (model P w) (A.deeper (envOfC qual scope s.heap.objs.size f cd)) (leaving (envOfC qual scope s.heap.objs.size f cd) e) (fun _ s''=>CX outer H s E e s'') (fun e' s''=>CX outer H s E e' s'') s'

theorem cell_has{sc:Scope}{n:Nat}{x:Str}(h:sc.names.lookup x=some .cell):∃ c,(cellsFrom n sc.names []).lookup x=some c:=by
  have q:=PySem.W.cellsFrom_some sc.names n [] (.inl h);exact Option.isSome_iff_exists.mp q

theorem inv_start{CX:CXT}{P:Program}{w:World}{K:PySem.W.Frag}{mg:Str→Option Value}{base:Heap}{N ps:List Str}{qual:Str}{scope:Scope}{f:Addr}{cd:Value}{A:Around}{outer:List Env}{s s1:Shared}{H:Hp}{E:XK}{us:List Value}{vs:List V}(S:FnScope N ps scope)(hd:A.handled=none)(e0:Env0 P w K mg base A outer s H)(hl:vs.length=ps.length)(r:Vals vs us)(x:InCallC s s.heap.objs.size (bindL (envOfC qual scope s.heap.objs.size f cd).kindOf (ps.zip us) fun _=>none) (cellsFrom (s.heap.objs.size+1) scope.names []) (bindC (envOfC qual scope s.heap.objs.size f cd).kindOf (ps.zip us) fun _=>none) s1) :
    Inv (cxOf CX P w K mg base N qual scope f cd A outer s H E) [] (start N vs) H s1:=by
  have hpl:ps.length≤N.length:=by have:=congrArg List.length S.pre;rw[List.length_take]at this;omega
  obtain⟨h1,tk,rfl,hk⟩:=x.done;have noA:∀ b:Addr,b∉(cxOf CX P w K mg base N qual scope f cd A outer s H E).ex:=fun b z=>absurd (show b∈([]:List Addr) from z) (by simp)
  refine⟨⟨e0.mod,S.kind,rfl,rfl,Nat.le_refl _,fun y z c h1 h2=>?_,fun y hy=>?_,fun y c _ h=>?_,fun _=>hd,Around.frames_deeper e0.frames,.inr ⟨rfl,rfl⟩,fun b z=>absurd z (noA b),e0.bs,e0.bsz,fun b _ _=>noA b,fun b z=>absurd z (noA b),e0.funs,e0.frf⟩,
    rfl,e0.bare,Un.kept hk,⟨_,x.toInCall.ns,fun i y v h1 h2 h3=>?_⟩,fun y c h=>⟨_,x.cell y c h⟩,e0.hok.fresh (Nat.le_refl _),fun y c h=>?_,fun p hp=>absurd (show p∈([]:List (Addr×Obj)) from hp) (by simp),e0.hok.kept hk,?_⟩
  · exact name_of_addr x.apart (PySem.mem_of_lookup h1) (PySem.mem_of_lookup h2)
  · have hy:scope.names.lookup y=some .cell∨scope.names.lookup y=some .free:=hy
    rcases hy with hy|hy
    · exact cell_has hy
    · exact absurd rfl (S.nofree _ (PySem.mem_of_lookup hy))
  · exact Nat.le_of_lt (x.above y c (PySem.mem_of_lookup h))
  · have hi:i < vs.length:=by
      unfold start at h2;by_cases hi:i < vs.length
      · exact hi
      · rw[List.getElem?_append_right (by simpa using hi)]at h2
        rw[List.getElem?_replicate]at h2;split at h2<;>cases h2
    have ha:vs[i]?=some v:=by
      unfold start at h2;rw[List.getElem?_append_left (by simpa using hi),List.getElem?_map]at h2
      cases e:vs[i]? with
      |none=>rw[e]at h2;cases h2
      |some a=>rw[e]at h2;cases h2;rfl
    obtain⟨u,hu,rv⟩:=r.get ha;have hp:ps[i]?=some y:=by
      rw[←S.pre,List.getElem?_take_of_lt (by omega)];exact h1
    have ndP:ps.Nodup:=by rw[←S.pre];exact S.nd.sublist (List.take_sublist _ _)
    refine⟨u,rv,?_⟩;rcases S.par y (List.mem_of_getElem? hp) with k|k
    · exact .inl ⟨k,bindL_get ndP hp hu k⟩
    · obtain⟨c,e⟩:=cell_has (n:=s.heap.objs.size+1) k
      refine .inr ⟨.inl k,c,e,?_⟩;have q:=x.cell y c e;rw[bindC_get ndP hp hu (by show scope.names.lookup y≠_;rw[k];decide)]at q
      exact q
  · exact e0.hok.fresh (Nat.le_of_lt (x.above y c (PySem.mem_of_lookup h)))
  · unfold start
    show _=N.length;rw[List.length_append,List.length_map,List.length_replicate];omega

theorem fn_of{CX:CXT}{P:Program}{w:World}{K:PySem.W.Frag}{mg:Str→Option Value}{base:Heap}{k:Nat}{f:Addr}{name qual:Str}{params:Arguments}{body:List Stmt}{scope:Scope}{dV kV doc pm cdv ct oc:Value}{an od:Option Addr}{osl:Array (Option Value)}{N ps:List Str}{sp:Sp}(lk:K.lookup f=some ⟨oc,od,.func (PySem.W.fnOf name qual params body scope dV kV doc pm an cdv ct),osl⟩)(hcd:PySem.W.codeIn K cdv qual=true)(S:FnScope N ps scope)(len:∀ vs H Q E,sp vs H Q E→vs.length=ps.length)(hbody:∀ (A:Around) (outer:List Env) (s:Shared) (H:Hp) (vs:List V) (Q:VK) (E:XK),Room k (A.deeper (envOfC qual scope s.heap.objs.size f cdv))→sp vs H Q E→
      ∃ t,PSs (cxOf CX P w K mg base N qual scope f cdv A outer s H E) body t∧t { nx:=fun _ H'=>Q .non H',rt:=Q } (start N vs) H) :
    FnOk P w K mg base CX (k+1) f (PySem.W.fnOf name qual params body scope dV kV doc pm an cdv ct) ps sp:=by
  refine⟨len,fun A outer s H args us vs Q E hr e0 hb r hsp=>?_⟩
  have hl:=len _ _ _ _ hsp;have KX:K.In s.heap:=e0.mod.kin.keeps fun b o e=>(e0.bs b o e).1
  have lim:s.heap.NoLimit:=e0.mod.nolimit.keeps fun b o e=>(e0.bs b o e).1
  have hkind:∀ y∈ps.zip us,scope.names.lookup y.1=some .local∨(scope.names.lookup y.1=some .cell∧((cellsFrom (s.heap.objs.size+1) scope.names []).lookup y.1).isSome=true):=fun⟨n,v⟩ hy=>by
    rcases S.par n (List.of_mem_zip hy).1 with q|q
    · exact .inl q
    · exact .inr ⟨q,PySem.W.cellsFrom_some _ _ _ (.inl q)⟩
  refine codeAny_call_function hr.depth (KX _ _ lk) rfl S.co S.gen rfl (PySem.W.codeRec_of KX hcd) (hb _ _ _ _ ?_);refine wpAny_newFunctionEnv_cells S.kind hkind fun env he s1 x=>?_
  subst he;refine⟨lim.keeps x.toInCall.keep,codeAny_func ?_⟩;obtain⟨t,ht,hq⟩:=hbody A outer s H vs Q E (hr.deeper _) hsp;have I:Inv (cxOf CX P w K mg base N qual scope f cdv A outer s H E) [] (start N vs) H s1:=inv_start S hr.hd e0 hl r x;refine wpAny_mono (ht [] s1 (start N vs) H _ I hq) (fun fl s' hs=>?_) fun e s' hs=>hs
  have fin:∀ {σ':St}{H':Hp}{v:V}{u:Value},Inv (cxOf CX P w K mg base N qual scope f cdv A outer s H E) [] σ' H' s'→RelV v u→Q v H'→CE outer P w H s Q u s':=
    fun {σ' H' v u} J rv q=>⟨v,H',J.os,J.bare,J.base,J.hok,rv,q⟩
  cases fl with
  |ret u=>
    obtain⟨v,σ',H',J,rv,q⟩:=hs;exact fin J rv q
  |next=>
    obtain⟨σ',H',J,q⟩:=hs;exact fin (v:=V.non) (u:=Value.none) J rfl q
  |brk=>
    obtain⟨_,_,_,q⟩:=hs;exact False.elim q
  |cont=>
    obtain⟨_,_,_,q⟩:=hs;exact False.elim q
end L2

namespace L2
open PySem PySem.Spec PyProof.Rows
section
variable {X:Cx}{x:Str}{p pos:Pos}{e:Expr}{es:List Expr}{t:TA}{id T:String}{r:List V→Hp→VK→Prop}

noncomputable def tCB(r:List V→Hp→VK→Prop)(t:TA):TE:=fun σ H Q=>t σ H fun vs H1=>r vs H1 Q
theorem pe_callB(hc:CallR X (.builtin id) r)(hg:Gl X x)(hm:X.mg x=none)(hv:bootBuiltins x=some (.builtin id))(ha:PA X (e :: es) t)(hn:x ≠ "__name__":=by decide)(hdb:(x==("__debug__":Str))=false:=by decide)(he:starEach (e :: es) X.env=(false,eval e X.env) :: starEach es X.env:=by rfl)(hpl:(backTo pos (starEach es X.env)).any (·.1)=false:=by rfl):PE X (.Call (.Name x p) (e :: es) [] pos) (tCB r t):=by
  intro pins s σ H Q I h;refine wpAny_Call_Name_kw (ld_blt I hg hm hv ?_ hn hdb);exact PyProof.Rows.callWith_builtin1 (thn (ha pos pins s σ H _ I h) fun us s1 ⟨vs,H1,I1,r1,q1⟩=>hc pins s1 σ H1 vs us Q I1 r1 q1) he hpl
theorem pe_callTy(hc:CallR X (.type T) r)(hg:Gl X x)(hm:X.mg x=none)(hv:bootBuiltins x=some (.type T))(ha:PA X (e :: es) t)(hn:x ≠ "__name__":=by decide)(hdb:(x==("__debug__":Str))=false:=by decide)(he:starEach (e :: es) X.env=(false,eval e X.env) :: starEach es X.env:=by rfl)(hpl:(backTo pos (starEach es X.env)).any (·.1)=false:=by rfl):PE X (.Call (.Name x p) (e :: es) [] pos) (tCB r t):=by
  intro pins s σ H Q I h;refine wpAny_Call_Name_kw (ld_blt I hg hm hv ?_ hn hdb);exact PyProof.Rows.callWith_type1 (thn (ha pos pins s σ H _ I h) fun us s1 ⟨vs,H1,I1,r1,q1⟩=>hc pins s1 σ H1 vs us Q I1 r1 q1) he hpl
end
end L2

namespace HT
open PySem PyProof.Rows



section
open PySem.SeqAt
open PySem.AutoSeq1 (wpAny_loadPart')
open PySem.MeetsSeq PySem.MeetsSeq2 PySem.MeetsSeq3

end

section
variable {prog:Program}{w:World}{A:Around}{E:Value→Shared→Prop}{s:Shared}


theorem cat_tup{t b:Addr}{vs ws:List Value}{Q:Value→Shared→Prop}(ht:IsTup s.heap t vs.toArray)(hb:IsTup s.heap b ws.toArray)(hv:vs≠[])(h1:ws=[]→Q (.ref t) s)(h2:ws≠[]→Q (.ref s.heap.objs.size) { s with heap:=s.heap.push { cls:=.type "tuple",data:=.seq (vs++ws).toArray } })(hsz:vs.length+ws.length≤sizeLine):wpAny (model prog w) A (binaryOp .Add (.ref t) (.ref b)) Q E s:=by
  obtain⟨⟨cls,dd,data,sl⟩,ho,hc,n,hd⟩:=id ht;obtain⟨⟨cls2,dd2,data2,sl2⟩,ho2,hc2,n2,hd2⟩:=id hb;simp only at hc hd hc2 hd2;subst hc hd hc2 hd2;have e:vs.toArray++ws.toArray=(vs++ws).toArray:=by simp
  by_cases hw:ws=[]
  · exact concat_meets ⟨_,ho,rfl⟩ ⟨_,ho2,rfl⟩ noFill_tuple_add seq_tuple_add PySem.F.slot_tuple_add PySem.F.entry_tuple_add (PySem.F.args_tuple_add_2 _ _)
      (tuple_addW1 t b vs.toArray ws.toArray n n2 dd dd2 sl sl2 (by simpa using hv) (by simp[hw])) ⟨ho,ho2,h1 hw⟩
  · refine concat_meets ⟨_,ho,rfl⟩ ⟨_,ho2,rfl⟩ noFill_tuple_add seq_tuple_add PySem.F.slot_tuple_add PySem.F.entry_tuple_add (PySem.F.args_tuple_add_2 _ _)
      (tuple_addW2 t b vs.toArray ws.toArray n n2 dd dd2 sl sl2 (by simpa using hv) (by simpa using hw) (by rw[List.size_toArray,List.size_toArray];exact hsz)) ⟨ho,ho2,?_⟩
    rw[e];exact h2 hw

noncomputable def sIx(n d:Nat):Option Int→Nat
  |none=>d
  |some v=>if v < 0 then (v+(n:Int)).toNat else min v.toNat n
theorem sIx_le(n d:Nat)(hd:d≤n)(o:Option Int):sIx n d o≤n:=by
  cases o with
  |none=>exact hd
  |some v=>
    show(if v < 0 then (v+(n:Int)).toNat else min v.toNat n)≤n
    by_cases hv:v < 0
    · rw[if_pos hv];omega
    · rw[if_neg hv];exact Nat.min_le_right _ _
theorem clip_eq(v:Int)(n d:Nat):(if v < 0 then max (v+(n:Int)) 0 else min v (n:Int))=((sIx n d (some v):Nat):Int):=by
  show(if v < 0 then max (v+(n:Int)) 0 else min v (n:Int))=(((if v < 0 then (v+(n:Int)).toNat else min v.toNat n):Nat):Int)
  by_cases hv:v < 0
  · simp only[if_pos hv];omega
  · simp only[if_neg hv];omega
theorem adjust_gen(lo hi:Option Int)(n:Nat):Builtin.Slice.sliceAdjust lo hi 1 (n:Int)=(((sIx n 0 lo:Nat):Int),((sIx n n hi:Nat):Int)):=by
  have h1:¬((1:Int) < 0):=by omega
  unfold Builtin.Slice.sliceAdjust;simp only[h1,if_false];refine Prod.ext ?_ ?_
  · cases lo with
    |none=>rfl
    |some v=>exact clip_eq v n 0
  · cases hi with
    |none=>rfl
    |some v=>exact clip_eq v n n
theorem places_gen(i j:Nat):Builtin.Slice.slicePlaces (i:Int) (j:Int) 1=j - i:=by
  unfold Builtin.Slice.slicePlaces;have h1:(1:Int) > 0:=by omega
  simp only[h1,if_true,Int.ediv_one];split<;>omega
theorem slicePart_{v:Value}{o:Option Int}{Q:Option Int→Shared→Prop}(p:IsPart v o)(h:Q o s):wpAny (model prog w) A (Builtin.Slice.slicePartIndex v) Q E s:=by
  cases p with
  |none=>exact slicePart_none h
  |int i t=>exact slicePart_int h
theorem sliceApplied_gen{sl:Addr}{vl vu:Value}{lo hi:Option Int}{n:Nat}{Q:Int×Int×Nat→Shared→Prop}(hs:s.heap.IsSliceOf sl vl vu .none)(pl:IsPart vl lo)(pu:IsPart vu hi)(h:Q (((sIx n 0 lo:Nat):Int),1,sIx n n hi - sIx n 0 lo) s):wpAny (model prog w) A (Builtin.Slice.sliceApplied (.ref sl) (pure (n:Int))) Q E s:=by
  obtain⟨os,hos,hcs,hds⟩:=id hs;unfold Builtin.Slice.sliceApplied Builtin.Slice.sliceFields;refine wpAny_bind (wpAny_bind (wpAny_field hos hds (x:=vl) rfl (wpAny_bind (wpAny_field hos hds (x:=vu) rfl (wpAny_bind (wpAny_field hos hds (x:=.none) rfl (wpAny_pure ?_)))))));refine wpAny_bind (slicePart_none ?_);show wpAny _ _ (if ((1:Int)==0)=true then _ else _) _ _ s
  rw[if_neg (by decide)]
  refine wpAny_bind (slicePart_ pl (wpAny_bind (slicePart_ pu (wpAny_bind (wpAny_pure ?_)))));show wpAny _ _ (match Builtin.Slice.sliceAdjust lo hi 1 (n:Int) with | (lo,hi)=>pure (lo,(1:Int),Builtin.Slice.slicePlaces lo hi 1)) _ _ s
  rw[adjust_gen lo hi n];show wpAny _ _ (pure (((sIx n 0 lo:Nat):Int),(1:Int),Builtin.Slice.slicePlaces ((sIx n 0 lo:Nat):Int) ((sIx n n hi:Nat):Int) 1)) _ _ s;rw[places_gen];exact wpAny_pure h
theorem pick_gen(xs:Array Value)(i k:Nat):((List.range k).filterMap fun(m:Nat)=>xs[((i:Int)+(m:Int) * 1).toNat]?).toArray=((xs.toList.drop i).take k).toArray:=by
  have e:(fun(m:Nat)=>xs[((i:Int)+(m:Int) * 1).toNat]?)=fun m=>xs[i+m]?:=by
    funext m
    have:((i:Int)+(m:Int) * 1).toNat=i+m:=by omega
    rw[this]
  rw[e];have:=pick_run xs i k;rw[List.filterMap_map]at this;have e2:((fun x=>xs[x]?) ∘ fun x=>i+x)=fun m=>xs[i+m]?:=rfl
  rw[e2]at this;rw[this]

theorem getItem_tuple_cut{t sl:Addr}{items:Array Value}{vl vu:Value}{lo hi:Option Int}{Q:Value→Shared→Prop}(ht:IsTup s.heap t items)(hs:s.heap.IsSliceOf sl vl vu .none)(pl:IsPart vl lo)(pu:IsPart vu hi)(hw:¬(sIx items.size 0 lo=0∧sIx items.size items.size hi=items.size))(h:Q (.ref s.heap.objs.size) { s with heap:=s.heap.push { cls:=.type "tuple",data:=.seq ((items.toList.drop (sIx items.size 0 lo)).take (sIx items.size items.size hi - sIx items.size 0 lo)).toArray } })(hsz:items.size≤sizeLine):wpAny (model prog w) A (getItem (.ref t) (.ref sl)) Q E s:=by
  have htake:sizeOk (.seq ((items.toList.drop (sIx items.size 0 lo)).take (sIx items.size items.size hi - sIx items.size 0 lo)).toArray):=by
    show((items.toList.drop (sIx items.size 0 lo)).take (sIx items.size items.size hi - sIx items.size 0 lo)).toArray.size≤sizeLine;rw[List.size_toArray,List.length_take,List.length_drop,Array.length_toList];omega
  have hj:sIx items.size items.size hi≤items.size:=sIx_le _ _ (Nat.le_refl _) hi;obtain⟨os,hos,hcs,hds⟩:=id hs;have hTs:s.TypeIs (.ref sl) "slice":=⟨os,hos,hcs⟩;unfold getItem
  try with_reducible refine wpAny_holding ?_
  first|refine wpAny_bind (wpAny_pure ?_)|skip
  refine wpAny_bind (wpAny_sequenceKey ht.typeIs (by decide) ?_)
  refine wpAny_bind (wpAny_callSpecial?_slot (name:=Str.ofString "__getitem__") ht.typeIs PyProof.Rows.slot_tuple_getitem
    (wpAny_call_entry PyProof.Rows.slot_tuple_getitem ht.typeIs entry_tuple_getitem ?_ (args_tuple_getitem _ _)))
  show wpAny _ _ (Builtin.Tuple.tupleItemsOf (.ref t) >>= _) _ _ s;refine wpAny_bind (tupleItemsOf_ ht ?_);refine wpAny_bind (wpAny_typeOf hTs ?_);rw[if_pos (by decide)]
  refine wpAny_bind (sliceApplied_gen hs pl pu ?_);have hno:¬((((sIx items.size 0 lo:Nat):Int)==0&&(1:Int)==1&&(sIx items.size items.size hi - sIx items.size 0 lo)==items.size)=true):=by
    intro q;rw[Bool.and_eq_true,Bool.and_eq_true]at q;have q1:((sIx items.size 0 lo:Nat):Int)=0:=eq_of_beq q.1.1;have q2:sIx items.size items.size hi - sIx items.size 0 lo=items.size:=eq_of_beq q.2;exact hw ⟨by omega,by omega⟩
  show wpAny _ _ (if (((sIx items.size 0 lo:Nat):Int)==0&&(1:Int)==1&&(sIx items.size items.size hi - sIx items.size 0 lo)==items.size)=true then _ else _) _ _ s
  rw[if_neg hno,pick_gen]
  first
    |exact wpAny_bind (m:=Builtin.Tuple.tupleExact _) (wpAny_newObj_type (wpAny_pure ⟨_,rfl,wpAny_pure h⟩) htake)
    |exact wpAny_bind (m:=Builtin.Tuple.tupleExact _) (wpAny_newObj_type (wpAny_bind (wpAny_pure (wpAny_pure ⟨_,rfl,wpAny_pure h⟩))) htake)
    |exact wpAny_bind (wpAny_bind (m:=Builtin.Tuple.tupleExact _) (wpAny_newObj_type (wpAny_pure (wpAny_pure ⟨_,rfl,wpAny_pure h⟩)) htake))
    |exact wpAny_bind (wpAny_bind (m:=Builtin.Tuple.tupleExact _) (wpAny_newObj_type (wpAny_pure ⟨_,rfl,wpAny_pure h⟩) htake))
end
end HT

namespace L2
open PySem PySem.Spec PyProof.Rows

abbrev TO:=St→Hp→(Option Int→Hp→Prop)→Prop
def PO(X:Cx)(e:Option Expr)(t:TO):Prop:=
  ∀ (pins:List (Addr×Obj)) (s:Shared) (σ:St) (H:Hp) (Q:Option Int→Hp→Prop),Inv X pins σ H s→t σ H Q→
    wpAny (model X.prog X.w) X.A (evalPart e X.env) (fun u s'=>∃ o H',Inv X pins σ H' s'∧IsPart u o∧Q o H') X.xe s
noncomputable def tNoPart:TO:=fun _ H Q=>Q none H
noncomputable def tPart(t:TE):TO:=fun σ H Q=>t σ H fun x H1=>∃ i,x=.int i∧Q (some i) H1


section
variable {X:Cx}{e:Expr}{te:TE}{lo hi:Option Expr}{tl th:TO}{pos p2:Pos}

theorem po_none:PO X none tNoPart:=by
  intro pins s σ H Q I h;rw[evalPart_none];exact wpAny_pure ⟨none,H,I,.none,h⟩
theorem po_some(h:PE X e te):PO X (some e) (tPart te):=by
  intro pins s σ H Q I hw;rw[evalPart_some];refine thn (h pins s σ H _ I hw) fun u s1 ⟨x,H1,I1,r1,q1⟩=>?_
  obtain⟨i,rfl,q⟩:=q1;obtain⟨t,rfl⟩:=r1;exact⟨some i,H1,I1,.int i t,q⟩

def SlR(X:Cx)(r:V→Option Int→Option Int→Hp→VK→Prop):Prop:=
  ∀ (pins:List (Addr×Obj)) (s:Shared) (σ:St) (H:Hp) (x:V) (v vl vu:Value) (lo hi:Option Int) (sl:Addr) (Q:VK),Inv X pins σ H s→RelV x v→s.heap.IsSliceOf sl vl vu .none→IsPart vl lo→IsPart vu hi→r x lo hi H Q→
    ∃ T id,typeLookup (.type T) "__getitem__"=pure (some (.builtin id))∧s.TypeIs v T∧wpAny (model X.prog X.w) X.A (getItem v (.ref sl)) (EP X pins σ Q) X.xe s
noncomputable def tSl(r:V→Option Int→Option Int→Hp→VK→Prop)(te:TE)(tl th:TO):TE:=fun σ H Q=>te σ H fun x H1=>tl σ H1 fun l H2=>th σ H2 fun u H3=>r x l u H3 Q
theorem pe_slice{r:V→Option Int→Option Int→Hp→VK→Prop}(hr:SlR X r)(he:PE X e te)(hl:PO X lo tl)(hu:PO X hi th):PE X (.Subscript e (.Slice lo hi none p2) pos) (tSl r te tl th):=by
  intro pins s σ H Q I h;refine Subscript_ (thn (he pins s σ H _ I h) fun v s1 ⟨x,H1,I1,r1,q1⟩=>?_)
  refine wpAny_Slice (thn (hl pins s1 σ H1 _ I1 q1) fun vl s2 ⟨l,H2,I2,pl,q2⟩=>thn (hu pins s2 σ H2 _ I2 q2) fun vu s3 ⟨u,H3,I3,pu,q3⟩=>?_)
  rw[evalPart_none];refine wpAny_pure ?_;have I4:Inv X pins σ H3 { s3 with heap:=s3.heap.push { cls:=.type "slice",data:=.fields #[vl,vu,.none] } }:=I3.kept (t':=s3.toks) fun b ob q=>Heap.get?_push_of_some _ q
  obtain⟨T,id,hT,ht,hg⟩:=hr pins { s3 with heap:=s3.heap.push { cls:=.type "slice",data:=.fields #[vl,vu,.none] } } σ H3 x v vl vu l u s3.heap.objs.size Q I4 r1 (Heap.IsSliceOf.new ..) pl pu q3
  show wpAny (model X.prog X.w) X.A (subscriptTail e (.Slice lo hi none p2) v (.ref s3.heap.objs.size)) (EP X pins σ Q) X.xe { s3 with heap:=s3.heap.push { cls:=.type "slice",data:=.fields #[vl,vu,.none] } }
  exact tail_any (ops:=[.ref s3.heap.objs.size,v]) ht hT hg (by with_unfolding_all rfl)

noncomputable def cutV(xs:List V)(lo hi:Option Int):List V:=(xs.drop (HT.sIx xs.length 0 lo)).take (HT.sIx xs.length xs.length hi - HT.sIx xs.length 0 lo)
theorem cutV_length(xs:List V)(lo hi:Option Int):(cutV xs lo hi).length≤xs.length:=by
  unfold cutV;rw[List.length_take,List.length_drop];omega
def rSlT(K:PySem.W.Frag):V→Option Int→Option Int→Hp→VK→Prop:=fun x lo hi H Q=>∃ a xs,x=.ref a∧SqT K H a xs ∧
  ¬(HT.sIx xs.length 0 lo=0∧HT.sIx xs.length xs.length hi=xs.length)∧∀ p,H p=none→Q (.ref p) (upd H p (.tup (cutV xs lo hi)))
theorem sl_tup:SlR X (rSlT X.K):=by
  intro pins s σ H x v vl vu lo hi sl Q I rx hs pl pu h;obtain⟨a,xs,rfl,hx,hw,q⟩:=h;cases rx;obtain⟨its,r,ht,hz⟩:=I.tuple hx;have hlen:its.toArray.size=xs.length:=by rw[List.size_toArray];exact r.length.symm
  refine⟨"tuple",_,PyProof.Rows.slot_tuple_getitem.lookup,ht.typeIs,?_⟩;refine HT.getItem_tuple_cut ht hs pl pu (by rw[hlen];exact hw) ?_ (by rw[hlen];exact hz)
  rw[hlen];refine⟨.ref s.heap.objs.size,_,I.laid (t':=s.toks) (o:=.tup (cutV xs lo hi)) (fun b ob q=>Heap.get?_push_of_some _ q) (Nat.le_refl _) ?_,rfl,q _ (I.hok.fresh (Nat.le_refl _))⟩
  exact⟨Nat.le_trans (cutV_length xs lo hi) hz,_,(r.drop (HT.sIx xs.length 0 lo)).take (HT.sIx xs.length xs.length hi - HT.sIx xs.length 0 lo),IsTup.new _ _⟩

noncomputable def rCatT(K:PySem.W.Frag):R2:=fun x y H Q=>∃ a b xs ys,x=.ref a∧y=.ref b∧SqT K H a xs∧SqT K H b ys∧xs≠[]∧xs.length+ys.length≤sizeLine ∧
  (ys=[]→Q (.ref a) H)∧(ys≠[]→∀ p,H p=none→Q (.ref p) (upd H p (.tup (xs++ys))))
theorem Vals.nil_iff{xs:List V}{us:List Value}(r:Vals xs us):us=[]↔xs=[]:=by
  cases r with
  |nil=>simp
  |cons _ _=>simp
theorem op_catT:OpR X (binaryOp .Add) (rCatT X.K):=by
  intro pins s σ H x y v u Q I rx ry h;obtain⟨a,b,xs,ys,rfl,rfl,ha,hb,hx,hz,q1,q2⟩:=h;cases rx;cases ry;obtain⟨its,r1,p1,_⟩:=I.tuple ha;obtain⟨its2,r2,p2,_⟩:=I.tuple hb;refine HT.cat_tup p1 p2 (fun z=>hx (r1.nil_iff.mp z)) (fun z=>⟨.ref a,H,I,rfl,q1 (r2.nil_iff.mp z)⟩) (fun z=>?_) (by rw[←r1.length,←r2.length];exact hz)
  refine⟨.ref s.heap.objs.size,_,I.laid (t':=s.toks) (o:=.tup (xs++ys)) (fun b ob q=>Heap.get?_push_of_some _ q) (Nat.le_refl _) ?_,rfl,q2 (fun w=>z (r2.nil_iff.mpr w)) _ (I.hok.fresh (Nat.le_refl _))⟩
  exact⟨by rw[List.length_append];exact hz,_,r1.append r2,IsTup.new _ _⟩
end
end L2

namespace L2
open PySem PySem.Spec PyProof.Rows

noncomputable def ixN(n:Nat)(i:Int):Option Nat:=if 0≤i then (if i < n then some i.toNat else none) else if -(n:Int)≤i then some (i+n).toNat else none
noncomputable def atI{α:Type}(xs:List α)(i:Int):Option α:=(ixN xs.length i).bind fun j=>xs[j]?
theorem ixN_seq{n:Nat}{i:Int}{j:Nat}(h:ixN n i=some j):seqIndex? i n=some j∧j < n∧-(n:Int)≤i∧i < n:=by
  unfold ixN at h;by_cases h0:0≤i
  · rw[if_pos h0]at h
    by_cases h1:i < n
    · rw[if_pos h1]at h
      have e:i.toNat=j:=Option.some.inj h;exact⟨by rw[seqIndex_of h0 h1,e],by omega,by omega,h1⟩
    · rw[if_neg h1]at h;cases h
  · rw[if_neg h0]at h
    by_cases h1:-(n:Int)≤i
    · rw[if_pos h1]at h
      have e:(i+n).toNat=j:=Option.some.inj h;exact⟨by rw[seqIndex_neg (by omega) h1,e],by omega,h1,by omega⟩
    · rw[if_neg h1]at h;cases h
theorem atI_get{α:Type}{xs:List α}{i:Int}{v:α}(h:atI xs i=some v):∃ j,seqIndex? i xs.length=some j∧xs[j]?=some v∧j < xs.length∧-(xs.length:Int)≤i∧i < xs.length:=by
  unfold atI at h;cases e:ixN xs.length i with
  |none=>rw[e]at h;cases h
  |some j=>
    rw[e]at h;obtain⟨h1,h2,h3,h4⟩:=ixN_seq e;exact⟨j,h1,h,h2,h3,h4⟩

def PlainIx(b:Expr):Prop:=∀ o i,subscripted b false o i=operate [o,i] (getItem o i)
def IxR(X:Cx)(r:R2):Prop:=
  ∀ (value slice:Expr) (pins:List (Addr×Obj)) (s:Shared) (σ:St) (H:Hp) (x y:V) (v u:Value) (Q:VK),Inv X pins σ H s→RelV x v→RelV y u→r x y H Q→
    subscripted slice false v u=operate [v,u] (getItem v u)→wpAny (model X.prog X.w) X.A (subscriptTail value slice v u) (EP X pins σ Q) X.xe s
def MtR(X:Cx)(id:String)(r:V→List V→Hp→VK→Prop):Prop:=
  ∀ (pins:List (Addr×Obj)) (s:Shared) (σ:St) (H:Hp) (x:V) (xs:List V) (v:Value) (us:List Value) (Q:VK),Inv X pins σ H s→RelV x v→Vals xs us→r x xs H Q→
    wpAny (model X.prog X.w) X.A (call (.builtin id) (v :: us)) (EP X pins σ Q) X.xe s
section
variable {X:Cx}{a b:Expr}{ta tb:TE}{pos:Pos}
theorem pe_ix{r:R2}(hr:IxR X r)(ha:PE X a ta)(hb:PE X b tb)(hs:PlainIx b):PE X (.Subscript a b pos) (tOp r ta tb):=by
  intro pins s σ H Q I h;exact Subscript_ (binT ha hb I h fun v u s2 x y H2 I2 rx ry q=>hr a b pins s2 σ H2 x y v u Q I2 rx ry q (hs _ _))

noncomputable def rIxL(K:PySem.W.Frag):R2:=fun x y H Q=>∃ p xs i v,x=.ref p∧y=.int i∧SqL K H p xs∧atI xs i=some v∧Q v H
noncomputable def rIxT(K:PySem.W.Frag):R2:=fun x y H Q=>∃ p xs i v,x=.ref p∧y=.int i∧SqT K H p xs∧atI xs i=some v∧Q v H
noncomputable def rIxS:R2:=fun x y H Q=>∃ z i c,x=.str z∧y=.int i∧z.length≤sizeLine∧atI z.cps.toList i=some c∧Q (.str ⟨#[c]⟩) H
theorem ix_list:IxR X (rIxL X.K):=by
  intro value slice pins s σ H x y v u Q I rx ry h hs;obtain⟨p,xs,i,z,rfl,rfl,hq,he,q⟩:=h;cases rx;obtain⟨t,rfl⟩:=ry;obtain⟨its,r,pl,hz⟩:=I.list hq;obtain⟨j,h1,h2,h3,h4,h5⟩:=atI_get he;obtain⟨w,ew,rw'⟩:=r.get h2;have hl:=r.length;have hn:=line63;have fin:EP X pins σ Q w s:=⟨z,H,I,rw',q⟩;by_cases h0:0≤i
  · have hj:i.toNat=j:=by
      rw[seqIndex_of h0 h5]at h1;exact Option.some.inj h1
    exact item_listR pl.isList h0 (by omega) (by rw[hj];simpa using ew) fin hs
  · have hj:(i+(its.toArray.size:Int)).toNat=j:=by
      rw[seqIndex_neg (by omega) h4]at h1
      rw[List.size_toArray,←hl];exact Option.some.inj h1
    exact subscriptTail_builtinR (x:=w) pl.isList.typeIs slot_list_getitem.lookup
      (wpAny_getItem_list_neg (Q:=fun r s'=>r=w∧EP X pins σ Q r s') pl.isList (by omega) (by rw[List.size_toArray]<;>omega) (by omega) (by rw[hj];simpa using ew) ⟨rfl,fin⟩) hs
theorem ix_tup:IxR X (rIxT X.K):=by
  intro value slice pins s σ H x y v u Q I rx ry h hs;obtain⟨p,xs,i,z,rfl,rfl,hq,he,q⟩:=h;cases rx;obtain⟨t,rfl⟩:=ry;obtain⟨its,r,pl,hz⟩:=I.tuple hq;obtain⟨j,h1,h2,h3,h4,h5⟩:=atI_get he;obtain⟨w,ew,rw'⟩:=r.get h2;have hl:=r.length;have hn:=line63;have fin:EP X pins σ Q w s:=⟨z,H,I,rw',q⟩;exact subscriptTail_builtinR (x:=w) pl.typeIs slot_tuple_getitem.lookup
    (getItem_tuple (j:=j) (Q:=fun r s'=>r=w∧EP X pins σ Q r s') pl (by omega) (by omega) (by rw[List.size_toArray,←hl];exact h1) (by simpa using ew) ⟨rfl,fin⟩) hs
theorem ix_str:IxR X rIxS:=by
  intro value slice pins s σ H x y v u Q I rx ry h hs;obtain⟨z,i,c,rfl,rfl,hz,he,q⟩:=h;obtain⟨t,rfl⟩:=rx;obtain⟨t',rfl⟩:=ry;obtain⟨j,h1,h2,h3,h4,h5⟩:=atI_get he;have hl:z.cps.toList.length=z.length:=by simp[Str.length]
  rw[hl]at h1 h4 h5;have hn:=line63;exact tail_any (typeIs_str s z t) slot_str_getitem.lookup (getItem_str (c:=c) (by
    have e1:decide (i < -(2 ^ 63:Int))=false:=decide_eq_false (by omega)
    have e2:decide (i≥2 ^ 63)=false:=decide_eq_false (by omega)
    rw[e1,e2,Bool.or_false]) (by rw[h1];simpa using h2) ⟨.str ⟨#[c]⟩,H,I.tok _,⟨_,rfl⟩,q⟩) hs

theorem mapSeq_set(its:List Value)(n j:Nat)(u:Value):Obj.mapSeq (·.setIfInBounds j u) { cls:=.type "list",data:=.seq its.toArray n }={ cls:=.type "list",data:=.seq (its.set j u).toArray n }:=by
  simp[Obj.mapSeq]
theorem Inv.lst{pins:List (Addr×Obj)}{σ:St}{H:Hp}{s:Shared}{p:Addr}{xs:List V}(I:Inv X pins σ H s)(h:H p=some (.lst xs)) :
    ∃ (its:List Value) (n:Nat),Vals xs its∧s.heap.get? p=some { cls:=.type "list",data:=.seq its.toArray n }∧xs.length≤sizeLine:=by
  obtain⟨z,its,n,r,e⟩:=I.hok p _ h;exact⟨its,n,r,e,z⟩
theorem Inv.lstUpd{pins:List (Addr×Obj)}{σ:St}{H:Hp}{s:Shared}{p:Addr}{xs ys:List V}{its its':List Value}{n n':Nat}{f:Obj→Obj}(I:Inv X pins σ H s)(h:H p=some (.lst xs))(ho:s.heap.get? p=some { cls:=.type "list",data:=.seq its.toArray n })(hf:f { cls:=.type "list",data:=.seq its.toArray n }={ cls:=.type "list",data:=.seq its'.toArray n' })(r:Vals ys its')(hz:ys.length≤sizeLine)(t:Nat) :
    Inv X pins σ (upd H p (.lst ys)) { s with heap:=s.heap.update p f,toks:=t }:=by
  have e:(s.heap.update p f).get? p=some { cls:=.type "list",data:=.seq its'.toArray n' }:=by
    rw[Heap.get?_update_self f ho (by rw[hf]<;>rfl),hf]
  refine I.write (x:=p) (e:=p) (by rw[h];trivial) (.inl rfl) (fun b u hb q=>(Heap.get?_update_other _ _ (Ne.symm hb)).trans q) ⟨_,e⟩ ?_
  exact⟨hz,its',n',r,e⟩
def rSetL:V→V→V→Hp→(Hp→Prop)→Prop:=fun o i v H Q=>∃ p xs k j,o=.ref p∧i=.int k∧H p=some (.lst xs)∧ixN xs.length k=some j∧Q (upd H p (.lst (xs.set j v)))
theorem set_list:PSet X rSetL:=by
  intro pins s σ H o i v ov iv u Q I ro ri rv h;obtain⟨p,xs,k,j,rfl,rfl,hp,hj,q⟩:=h;cases ro;obtain⟨t,rfl⟩:=ri;obtain⟨its,n,r,ho,hz⟩:=I.lst hp;obtain⟨h1,h2,h3,h4⟩:=ixN_seq hj;have hl:=r.length;have hn:=line63;have I':Inv X pins σ (upd H p (.lst (xs.set j v))) { s with heap:=s.heap.update p (Obj.mapSeq (·.setIfInBounds j u)) }:=
    I.lstUpd hp ho (mapSeq_set its n j u) (r.set rv j) (by rw[List.length_set];exact hz) s.toks
  by_cases h0:0≤k
  · have hk:k.toNat=j:=by
      rw[seqIndex_of h0 h4]at h1;exact Option.some.inj h1
    exact PySem.W.ki_setAt ho h0 (by omega) (by rw[List.size_toArray,←hl];exact h4) (by rw[hk];exact⟨_,I',q⟩)
  · have hk:(k+(its.toArray.size:Int)).toNat=j:=by
      rw[seqIndex_neg (by omega) h3]at h1
      rw[List.size_toArray,←hl];exact Option.some.inj h1
    exact PySem.W.ki_setBack ho (by omega) (by rw[List.size_toArray,←hl];exact h3) (by omega) (by rw[hk];exact⟨_,I',q⟩)

theorem slice_bounds(lo hi:Option Int)(n:Nat):(sliceBounds lo hi none n).1=((HT.sIx n 0 lo:Nat):Int)∧(sliceBounds lo hi none n).2.1=((HT.sIx n n hi:Nat):Int)∧(sliceBounds lo hi none n).2.2=1:=by
  refine⟨?_,?_,rfl⟩
  · cases lo with
    |none=>simp[sliceBounds,HT.sIx]
    |some i=>
      simp only[sliceBounds,HT.sIx,Option.getD_none,show(1:Int) > 0 by decide,if_true]
      by_cases h:i < 0
      · simp only[h,if_true]<;>omega
      · simp only[h,if_false]<;>omega
  · cases hi with
    |none=>simp[sliceBounds,HT.sIx]
    |some i=>
      simp only[sliceBounds,HT.sIx,Option.getD_none,show(1:Int) > 0 by decide,if_true]
      by_cases h:i < 0
      · simp only[h,if_true]<;>omega
      · simp only[h,if_false]<;>omega
theorem slicePick_cut(its:List Value)(lo hi:Option Int):slicePick its.toArray lo hi none=((its.drop (HT.sIx its.length 0 lo)).take (HT.sIx its.length its.length hi - HT.sIx its.length 0 lo)).toArray:=by
  obtain⟨h1,h2,h3⟩:=slice_bounds lo hi its.toArray.size;unfold slicePick;rw[h1,h2,h3];simp only[sliceRange_one,pick_run,List.size_toArray]<;>rfl
def rSlL(K:PySem.W.Frag):V→Option Int→Option Int→Hp→VK→Prop:=fun x lo hi H Q=>∃ a xs,x=.ref a∧SqL K H a xs∧∀ p,H p=none→Q (.ref p) (upd H p (.lst (cutV xs lo hi)))
theorem sl_list:SlR X (rSlL X.K):=by
  intro pins s σ H x v vl vu lo hi sl Q I rx hs pl pu h;obtain⟨a,xs,rfl,hx,q⟩:=h;cases rx;obtain⟨its,r,ht,hz⟩:=I.list hx;have hlen:=r.length;refine⟨"list",_,slot_list_getitem.lookup,ht.isList.typeIs,?_⟩;refine wpAny_getItem_list_slice ht.isList hs pl pu .none (by simp) ?_ (by rw[List.size_toArray]<;>omega)
  rw[slicePick_cut,←hlen];refine⟨.ref s.heap.objs.size,_,I.laid (t':=s.toks) (o:=.lst (cutV xs lo hi)) (fun b ob q=>Heap.get?_push_of_some _ q) (Nat.le_refl _) ?_,rfl,q _ (I.hok.fresh (Nat.le_refl _))⟩
  exact⟨Nat.le_trans (cutV_length xs lo hi) hz,_,0,(r.drop (HT.sIx xs.length 0 lo)).take (HT.sIx xs.length xs.length hi - HT.sIx xs.length 0 lo),Heap.get?_push_size _ rfl⟩

noncomputable def flatV:V→Bool
  |.non=>true
  |.bl _=>true
  |.int _=>true
  |.str _=>true
  |_=>false
noncomputable def eqV:V→V→Bool
  |.non,.non=>true
  |.bl a,.bl b=>a==b
  |.bl a,.int b=>(if a then 1 else 0)==b
  |.int a,.bl b=>a==(if b then 1 else 0)
  |.int a,.int b=>a==b
  |.str a,.str b=>a==b
  |_,_=>false
theorem eqAt_V{A:Around}{s:Shared}{y x:V}{u v:Value}(ry:RelV y u)(rx:RelV x v)(fy:flatV y=true)(fx:flatV x=true):SeqAt.EqAt A s u v (eqV y x):=by
  cases y with
  |non=>
    cases ry;cases x with
    |non=>cases rx;exact SeqAt.EqAt.same _
    |bl b=>cases rx;exact SeqAt.EqAt.none_bool b
    |int b=>obtain⟨t,rfl⟩:=rx;exact SeqAt.EqAt.none_int b t
    |str b=>obtain⟨t,rfl⟩:=rx;exact SeqAt.EqAt.none_str b t
    |_=>exact absurd (show false=true from fx) Bool.false_ne_true
  |bl a=>
    cases ry;cases x with
    |non=>cases rx;exact SeqAt.EqAt.bool_none a
    |bl b=>cases rx;exact SeqAt.EqAt.bool_bool a b
    |int b=>obtain⟨t,rfl⟩:=rx;exact SeqAt.EqAt.bool_int a b t
    |str b=>obtain⟨t,rfl⟩:=rx;exact SeqAt.EqAt.bool_str a b t
    |_=>exact absurd (show false=true from fx) Bool.false_ne_true
  |int a=>
    obtain⟨t',rfl⟩:=ry;cases x with
    |non=>cases rx;exact SeqAt.EqAt.int_none a t'
    |bl b=>cases rx;exact SeqAt.EqAt.int_bool a t' b
    |int b=>obtain⟨t,rfl⟩:=rx;exact SeqAt.EqAt.int_int a t' b t
    |str b=>obtain⟨t,rfl⟩:=rx;exact SeqAt.EqAt.int_str a t' b t
    |_=>exact absurd (show false=true from fx) Bool.false_ne_true
  |str a=>
    obtain⟨t',rfl⟩:=ry;cases x with
    |non=>cases rx;exact SeqAt.EqAt.str_none a t'
    |bl b=>cases rx;exact SeqAt.EqAt.str_bool a t' b
    |int b=>obtain⟨t,rfl⟩:=rx;exact SeqAt.EqAt.str_int a t' b t
    |str b=>obtain⟨t,rfl⟩:=rx;exact SeqAt.EqAt.str_str a t' b t
    |_=>exact absurd (show false=true from fx) Bool.false_ne_true
  |_=>exact absurd (show false=true from fy) Bool.false_ne_true
noncomputable def eqU(x:V)(u:Value):Bool:=match u with
  |.none=>eqV .non x
  |.bool b=>eqV (.bl b) x
  |.int i _=>eqV (.int i) x
  |.str z _=>eqV (.str z) x
  |_=>false
theorem eqU_of{x y:V}{u:Value}(r:RelV y u)(f:flatV y=true):eqU x u=eqV y x:=by
  cases y with
  |non=>cases r;rfl
  |bl b=>cases r;rfl
  |int i=>obtain⟨t,rfl⟩:=r;rfl
  |str z=>obtain⟨t,rfl⟩:=r;rfl
  |_=>exact absurd (show false=true from f) Bool.false_ne_true
theorem any_eqU{x:V}:∀ {xs:List V}{us:List Value},Vals xs us→xs.all flatV=true→us.any (eqU x)=xs.any fun y=>eqV y x
  |_,_,.nil,_=>rfl
  |y :: xs,u :: us,.cons r t,f=>by
    rw[List.all_cons,Bool.and_eq_true]at f;rw[List.any_cons,List.any_cons,eqU_of r f.1,any_eqU t f.2]
theorem mem_eqAt{A:Around}{s:Shared}{x:V}{v:Value}(rx:RelV x v)(fx:flatV x=true):∀ {xs:List V}{us:List Value},Vals xs us→xs.all flatV=true→∀ u∈us,SeqAt.EqAt A s u v (eqU x u)
  |_,_,.nil,_=>fun u hu=>by cases hu
  |y :: xs,u :: us,.cons r t,f=>fun u' hu=>by
    rw[List.all_cons,Bool.and_eq_true]at f;rcases List.mem_cons.mp hu with rfl|hu
    · rw[eqU_of r f.1];exact eqAt_V r rx f.1 fx
    · exact mem_eqAt rx fx t f.2 u' hu
noncomputable def inV(x:V)(xs:List V):Bool:=xs.any fun y=>eqV y x
noncomputable def rIn(K:PySem.W.Frag)(neg:Bool):R2:=fun x y H Q=>∃ p xs,y=.ref p∧(SqL K H p xs∨SqT K H p xs)∧flatV x=true∧xs.all flatV=true∧Q (.bl (if neg then !inV x xs else inV x xs)) H
theorem op_in_seq:OpR X (compareOp .In) (rIn X.K false):=by
  intro pins s σ H x y v u Q I rx ry h;obtain⟨p,xs,rfl,hq,fx,fs,q⟩:=h;cases ry;rcases hq with hq|hq
  · obtain⟨its,r,pl,hz⟩:=I.list hq
    refine SeqAt.in_listAt (eqU x) pl.isList (fun w hw=>mem_eqAt rx fx r fs w (by simpa using hw)) ⟨.bl _,H,I,rfl,?_⟩
    rw[show its.toArray.any (eqU x)=its.any (eqU x) by simp,any_eqU r fs]
    exact q
  · obtain⟨its,r,pl,hz⟩:=I.tuple hq
    refine SeqAt.in_tupleAt (eqU x) pl (fun w hw=>mem_eqAt rx fx r fs w (by simpa using hw)) ⟨.bl _,H,I,rfl,?_⟩
    rw[show its.toArray.any (eqU x)=its.any (eqU x) by simp,any_eqU r fs]
    exact q
theorem op_notIn_seq:OpR X (compareOp .NotIn) (rIn X.K true):=by
  intro pins s σ H x y v u Q I rx ry h;obtain⟨p,xs,rfl,hq,fx,fs,q⟩:=h;cases ry;rcases hq with hq|hq
  · obtain⟨its,r,pl,hz⟩:=I.list hq
    refine SeqAt.notIn_listAt (eqU x) pl.isList (fun w hw=>mem_eqAt rx fx r fs w (by simpa using hw)) ⟨.bl _,H,I,rfl,?_⟩
    rw[show its.toArray.any (eqU x)=its.any (eqU x) by simp,any_eqU r fs]
    exact q
  · obtain⟨its,r,pl,hz⟩:=I.tuple hq
    refine SeqAt.notIn_tupleAt (eqU x) pl (fun w hw=>mem_eqAt rx fx r fs w (by simpa using hw)) ⟨.bl _,H,I,rfl,?_⟩
    rw[show its.toArray.any (eqU x)=its.any (eqU x) by simp,any_eqU r fs]
    exact q
theorem op_notIn_str:OpR X (compareOp .NotIn) (fun x y H Q=>∃ i j,x=.str i∧y=.str j∧Q (.bl (!(!(Builtin.Str.occurrences j i 0 j.length 1).isEmpty))) H):=by
  intro pins s σ H x y v u Q I rx ry h;obtain⟨i,j,rfl,rfl,q⟩:=h;obtain⟨t,rfl⟩:=rx;obtain⟨t',rfl⟩:=ry;exact notIn_str ⟨.bl _,H,I,rfl,q⟩

theorem call_len_seq:CallR X (.builtin "len") (fun xs H Q=>∃ p ys,xs=[.ref p]∧(SqL X.K H p ys∨SqT X.K H p ys)∧Q (.int ys.length) H):=by
  intro pins s σ H xs us Q I r h;obtain⟨p,ys,rfl,hq,q⟩:=h;obtain⟨u,rfl,rx⟩:=vals1 r;cases rx;have hn:=line63;rcases hq with hq|hq
  · obtain⟨its,r',pl,hz⟩:=I.list hq
    have hlen:=r'.length;exact Calls.call_len_list pl.isList (by simp only[List.size_toArray]<;>omega) ⟨.int ys.length,H,I.tok _,⟨s.toks+1,by rw[List.size_toArray,hlen]⟩,q⟩
  · obtain⟨its,r',pl,hz⟩:=I.tuple hq
    have hlen:=r'.length;exact len_tuple pl (by simp only[List.size_toArray]<;>omega) ⟨.int ys.length,H,I.tok _,⟨s.toks+1,by rw[List.size_toArray,hlen]⟩,q⟩
theorem call_list_of:CallR X (.type "list") (fun xs H Q=>∃ p ys,xs=[.ref p]∧(SqL X.K H p ys∨SqT X.K H p ys)∧∀ l,H l=none→Q (.ref l) (upd H l (.lst ys))):=by
  intro pins s σ H xs us Q I r h;obtain⟨p,ys,rfl,hq,q⟩:=h;obtain⟨u,rfl,rx⟩:=vals1 r;cases rx;have fin:∀ (its:List Value),Vals ys its→ys.length≤sizeLine→∀ (h':Heap) (c':Nat),(∀ b o',s.heap.get? b=some o'→h'.get? b=some o')→
      h'.get? s.heap.objs.size=some { cls:=.type "list",dict:=none,data:=.seq its.toArray c',slots:=#[] }→EP X pins σ Q (.ref s.heap.objs.size) { s with heap:=h' }:=fun its r' hz h' c' kp e=>
    ⟨.ref s.heap.objs.size,_,I.laid (t':=s.toks) kp (Nat.le_refl _) (show ObjOk X.prog X.w _ h' _ (.lst ys) from⟨hz,its,c',r',e⟩),rfl,q _ (I.hok.fresh (Nat.le_refl _))⟩
  rcases hq with hq|hq
  · obtain⟨its,r',pl,hz⟩:=I.list hq
    have hlen:=r'.length;obtain⟨o,ho,hc,n,hd⟩:=pl.isList;exact call_list_seq p (.inl rfl) ho hc hd (fun h' c' kp e=>fin its r' hz h' c' kp e) (by simp only[List.size_toArray]<;>omega)
  · obtain⟨its,r',pl,hz⟩:=I.tuple hq
    have hlen:=r'.length;obtain⟨o,ho,hc,n,hd⟩:=pl;exact call_list_seq p (.inr rfl) ho hc hd (fun h' c' kp e=>fin its r' hz h' c' kp e) (by simp only[List.size_toArray]<;>omega)
theorem call_tuple_of:CallR X (.type "tuple") (fun xs H Q=>∃ p ys,xs=[.ref p]∧((SqL X.K H p ys∧∀ l,H l=none→Q (.ref l) (upd H l (.tup ys)))∨(SqT X.K H p ys∧Q (.ref p) H))):=by
  intro pins s σ H xs us Q I r h;obtain⟨p,ys,rfl,h⟩:=h;obtain⟨u,rfl,rx⟩:=vals1 r;cases rx;rcases h with⟨hq,q⟩|⟨hq,q⟩
  · obtain⟨its,r',pl,hz⟩:=I.list hq
    have hlen:=r'.length;refine call_tuple_list pl.isList (fun h' kp=>?_) (by simp only[List.size_toArray]<;>omega)
    have I1:Inv X pins σ H { s with heap:=h' }:=I.kept (t':=s.toks) kp
    have I2:Inv X pins σ (upd H h'.objs.size (.tup ys)) { s with heap:=h'.push { cls:=.type "tuple",data:=.seq its.toArray } }:=
      I1.laid (t':=s.toks) (fun b o e=>Heap.get?_push_of_some _ e) (Nat.le_refl _) (show ObjOk X.prog X.w _ _ _ (.tup ys) from⟨hz,its,r',IsTup.new _ _⟩)
    exact⟨.ref h'.objs.size,_,I2,rfl,q _ (I1.hok.fresh (Nat.le_refl _))⟩
  · obtain⟨its,r',pl,hz⟩:=I.tuple hq
    exact call_tuple_same pl ⟨.ref p,H,I,rfl,q⟩

def tyV(K:PySem.W.Frag)(T:String)(x:V)(H:Hp):Prop:=match x with
  |.str _=>T = "str"
  |.int _=>T = "int"
  |.ref p=>(T = "list"∧∃ xs,SqL K H p xs)∨(T = "tuple"∧∃ o,K.lookup p=some o∧o.cls=.type "tuple"∧o.dict=none) ∨
      (T = "dict"∧((∃ kvs,H p=some (.dK kvs))∨∃ kvs,H p=some (.dT kvs)))∨(T = "set"∧∃ S n,H p=some (.set S n))
  |_=>False
theorem tyV_is{pins:List (Addr×Obj)}{σ:St}{H:Hp}{s:Shared}{T:String}{x:V}{v:Value}(I:Inv X pins σ H s)(r:RelV x v)(ty:tyV X.K T x H) :
    s.TypeIs v T∧∀ a,v=.ref a→∃ ob,s.heap.get? a=some ob∧ob.dict=none:=by
  cases x with
  |str z=>
    obtain⟨t,rfl⟩:=r;cases (show T = "str" from ty)
    exact⟨typeIs_str s z t,fun _ e=>nomatch e⟩
  |int i=>
    obtain⟨t,rfl⟩:=r;cases (show T = "int" from ty)
    exact⟨typeIs_int s i t,fun _ e=>nomatch e⟩
  |ref p=>
    cases r;rcases ty with⟨rfl,xs,hq⟩|⟨rfl,o,hk,hc,hd⟩|⟨rfl,hk⟩|⟨rfl,S,n,hk⟩
    · obtain⟨its,_,pl,_⟩:=I.list hq
      refine⟨pl.isList.typeIs,fun a e=>?_⟩
      cases e;obtain⟨o,n,e,c,hd,_⟩:=pl;exact⟨o,e,hd⟩
    · refine⟨⟨o,I.kIn p o hk,hc⟩,fun a e=>?_⟩
      cases e;exact⟨o,I.kIn _ o hk,hd⟩
    · have z:∃ o,s.heap.get? p=some o∧o.ExactDict:=by
        rcases hk with⟨kvs,hk⟩|⟨kvs,hk⟩
        · obtain⟨_,_,_,_,o,_,_,e,ex,_⟩:=I.hok p _ hk
          exact⟨o,e,ex⟩
        · obtain⟨_,_,_,_,o,_,_,e,ex,_⟩:=I.hok p _ hk
          exact⟨o,e,ex⟩
      obtain⟨o,e,ex⟩:=z;refine⟨⟨o,e,ex.1⟩,fun a e2=>?_⟩
      cases e2;exact⟨o,e,ex.2.1⟩
    · obtain⟨o,_,_,_,e,ex,_⟩:=I.hok p _ hk
      refine⟨⟨o,e,ex.1⟩,fun a e2=>?_⟩
      cases e2;exact⟨o,e,ex.2.1⟩
  |_=>exact False.elim ty
noncomputable def tBM(K:PySem.W.Frag)(T:String)(r:V→List V→Hp→VK→Prop)(to:TE)(t:TA):TE:=fun σ H Q=>to σ H fun x H1=>tyV K T x H1∧t σ H1 fun xs H2=>r x xs H2 Q
variable {o e:Expr}{es:List Expr}{to:TE}{t:TA}{name:Str}{apos cpos:Pos}{T id:String}{r:V→List V→Hp→VK→Prop}
theorem pe_bm(pa:PlainAttrs T)(slot:Slot T name id)(hty:typeOf (.builtin id)=pure (.type "method_descriptor"))(hm:MtR X id r)(ho:PE X o to)(ha:PA X (e :: es) t)(hbase:attributeBase o name X.env (eval o X.env)=eval o X.env:=by rfl)(hfew:((backTo cpos (starEach (e :: es) X.env)).all (fun x=>!x.1)&&(backToKw cpos (keywordEach [] X.env)).all (fun x=>x.1.isSome)
     &&decide ((e :: es).length+([]:List Keyword).length+(if ([]:List Keyword).isEmpty then 0 else 1) < 30))=true:=by rfl)(hline:(apos.endLine==cpos.line)=true:=by rfl)(hs:starEach (e :: es) X.env=(false,eval e X.env) :: starEach es X.env:=by rfl)(hplain:(backTo cpos (starEach es X.env)).any (·.1)=false:=by rfl) :
    PE X (.Call (.Attribute o name apos) (e :: es) [] cpos) (tBM X.K T r to t):=by
  intro pins s σ H Q I h;refine wpAny_Call_method_late hbase hfew hline rfl (thn (ho pins s σ H _ I h) fun v s1 ⟨x,H1,I1,r1,ty,q1⟩=>?_)
  obtain⟨h1,h2⟩:=tyV_is I1 r1 ty;refine⟨T,id,pa,slot,hty,h1,h2,?_⟩;have hA:=ha cpos pins s1 σ H1 _ I1 q1;rw[hs]at hA ⊢;refine Calls.callWith_builtin (by show(false||(backTo cpos (starEach es X.env)).any (·.1))=false;rw[hplain]<;>rfl) (Calls.evalArgs_plain ?_)
  exact thn hA fun us s2 ⟨vs,H2,I2,r2,q2⟩=>hm pins s2 σ H2 x vs v us Q I2 r1 r2 q2
end
end L2

namespace L2
open PySem PySem.Spec PyProof.Rows

def MtM(X:Cx)(id:String)(r:V→List V→Hp→VK→Prop):Prop:=
  ∀ (pins:List (Addr×Obj)) (s:Shared) (σ:St) (H:Hp) (x:V) (xs:List V) (v:Value) (us:List Value) (Q:VK),Inv X pins σ H s→RelV x v→Vals xs us→r x xs H Q→
    wpAny (model X.prog X.w) X.A (call (.builtin id) (v :: us)) (EP X pins σ Q) X.xe s

theorem Vals.one{x:V}{us:List Value}(h:Vals [x] us):∃ u,us=[u]∧RelV x u:=by
  cases h with
  |cons r h=>cases h;exact⟨_,rfl,r⟩
theorem Vals.two{x y:V}{us:List Value}(h:Vals [x,y] us):∃ u v,us=[u,v]∧RelV x u∧RelV y v:=by
  cases h with
  |cons r h=>cases h with
    |cons q h=>cases h;exact⟨_,_,rfl,r,q⟩
theorem Vals.rep{xs:List V}{us:List Value}(h:Vals xs us):∀ k:Nat,Vals (List.replicate k xs).flatten (List.replicate k us).flatten
  |0=>.nil
  |k+1=>by
    rw[List.replicate_succ,List.replicate_succ,List.flatten_cons,List.flatten_cons];exact Vals.append h (Vals.rep h k)
theorem foldl_rep(its:List Value):∀ (k:Nat) (acc:List Value),
    List.foldl (fun x1 x2=>x1++x2) acc.toArray (List.replicate k its.toArray)=(acc++(List.replicate k its).flatten).toArray
  |0,acc=>by simp
  |k+1,acc=>by
    have e:acc.toArray++its.toArray=(acc++its).toArray:=by simp
    have e2:(acc++its)++(List.replicate k its).flatten=acc++(List.replicate (k+1) its).flatten:=by
      rw[List.replicate_succ,List.flatten_cons,List.append_assoc]
    rw[←e2,←foldl_rep its k (acc++its),←e,List.replicate_succ,List.foldl_cons]

section
variable {X:Cx}{pins:List (Addr×Obj)}{σ:St}{H:Hp}{s:Shared}{l b:Addr}{xs ys zs:List V}

theorem Inv.lset{its its':List Value}{n:Nat}{f:Array Value→Array Value}{t':Nat}(I:Inv X pins σ H s)(hH:H l=some (.lst xs))(e:s.heap.get? l=some { cls:=.type "list",data:=.seq its.toArray n })(hf:f its.toArray=its'.toArray)(hv:Vals ys its')(hz:ys.length≤sizeLine) :
    Inv X pins σ (upd H l (.lst ys)) { s with heap:=s.heap.update l (Obj.mapSeq f),toks:=t' }:=by
  have q:=PySem.IsL.update e f;rw[hf]at q;refine I.write (x:=l) (e:=l) (by rw[hH];exact trivial) (.inl rfl) (fun b' u hb hu=>(Heap.get?_update_other s.heap (Obj.mapSeq f) (Ne.symm hb)).trans hu) ⟨_,q⟩ ?_
  exact⟨hz,its',_,hv,q⟩
theorem Inv.lnew{its:List Value}{t':Nat}(I:Inv X pins σ H s)(hv:Vals ys its)(hz:ys.length≤sizeLine) :
    Inv X pins σ (upd H s.heap.objs.size (.lst ys)) { s with heap:=s.heap.push { cls:=.type "list",data:=.seq its.toArray },toks:=t' }:=
  I.laid (fun _ _ q=>Heap.get?_push_of_some _ q) (Nat.le_refl _) ⟨hz,its,0,hv,Heap.get?_push_size _ rfl⟩
theorem Inv.fresh(I:Inv X pins σ H s):H s.heap.objs.size=none:=I.hok.fresh (Nat.le_refl _)
theorem Inv.lstM(I:Inv X pins σ H s)(hH:H l=some (.lst xs)):xs.length≤sizeLine∧∃ (its:List Value) (n:Nat),Vals xs its∧xs.length=its.length∧s.heap.get? l=some { cls:=.type "list",data:=.seq its.toArray n }:=by
  obtain⟨z,its,n,r,e⟩:=I.hok l _ hH;exact⟨z,its,n,r,r.length,e⟩

theorem notLongL{n:Nat}(h:n≤sizeLine):Builtin.List.listTooLong n=false:=by
  unfold Builtin.List.listTooLong;exact decide_eq_false (by omega)
end

section
variable {X:Cx}

def rAppend:V→List V→Hp→VK→Prop:=fun x vs H Q=>∃ l xs y,x=.ref l∧vs=[y]∧H l=some (.lst xs)∧xs.length < sizeLine∧Q .non (upd H l (.lst (xs++[y])))
theorem mt_append:MtM X "list.append" rAppend:=by
  intro pins s σ H x vs v us Q I rx rv h;obtain⟨l,xs,y,rfl,rfl,hH,hz,q⟩:=h;cases rx;obtain⟨u,rfl,ru⟩:=rv.one;obtain⟨z,its,n,r,hl,e⟩:=I.lstM hH;refine call_meets F.slot_list_append ⟨_,e,rfl⟩ F.entry_list_append (F.args_list_append_2 _ _) (PySem.list_append l its.toArray n u (by rw[List.size_toArray];omega)) ⟨e,?_⟩
  refine⟨.non,_,I.lset (its':=its++[u]) hH e (by simp) (r.append (.cons ru .nil)) ?_,rfl,q⟩
  rw[List.length_append,List.length_singleton];omega

def rExtend:V→List V→Hp→VK→Prop:=fun x vs H Q=>∃ l b xs zs,x=.ref l∧vs=[.ref b]∧H l=some (.lst xs)∧H b=some (.lst zs)∧xs.length+zs.length≤sizeLine∧Q .non (upd H l (.lst (xs++zs)))
theorem mt_extend:MtM X "list.extend" rExtend:=by
  intro pins s σ H x vs v us Q I rx rv h;obtain⟨l,b,xs,zs,rfl,rfl,hH,hB,hz,q⟩:=h;cases rx;obtain⟨u,rfl,ru⟩:=rv.one;cases ru;obtain⟨z,its,n,r,hl,e⟩:=I.lstM hH;obtain⟨z2,its2,n2,r2,hl2,e2⟩:=I.lstM hB;have hsz:its.toArray.size+its2.toArray.size≤sizeLine:=by rw[List.size_toArray,List.size_toArray];omega
  have hlong:¬(!its.toArray.isEmpty&&Builtin.List.listTooLong (its.toArray.size+its2.toArray.size))=true:=by
    rw[notLongL hsz,Bool.and_false];exact Bool.false_ne_true
  refine call_meets F.slot_list_extend ⟨_,e,rfl⟩ F.entry_list_extend (F.args_list_extend_2 _ _)
    (AutoSeq1.list_extend_list_list_0 l its.toArray n b its2.toArray n2 hlong (by rw[List.size_toArray];omega) (by omega)) ⟨e,e2,?_⟩
  refine⟨.non,_,I.lset (its':=its++its2) hH e (by simp) (r.append r2) ?_,rfl,q⟩
  rw[List.length_append];omega





noncomputable def rRep:R2:=fun x y H Q=>∃ l k xs,x=.ref l∧y=.int k∧H l=some (.lst xs)∧-(2 ^ 63)≤k∧k < 2 ^ 63∧xs.length * k.toNat≤sizeLine ∧
  ∀ p,H p=none→Q (.ref p) (upd H p (.lst (List.replicate k.toNat xs).flatten))
theorem len_rep{α:Type}(xs:List α)(k:Nat):(List.replicate k xs).flatten.length=k * xs.length:=by
  induction k with
  |zero=>simp
  |succ k ih=>rw[List.replicate_succ,List.flatten_cons,List.length_append,ih,Nat.succ_mul,Nat.add_comm]
theorem op_rep:OpR X (binaryOp .Mult) rRep:=by
  intro pins s σ H x y v u Q I rx ry h;obtain⟨l,k,xs,rfl,rfl,hH,h1,h2,hz,q⟩:=h;cases rx;obtain⟨t,rfl⟩:=ry;obtain⟨z,its,n,r,hl,e⟩:=I.lstM hH;have hlen:its.toArray.size * k.toNat≤sizeLine:=by rw[List.size_toArray,←hl];exact hz
  have hcap:¬its.toArray.size * k.toNat > (2 ^ 63 - 1) / 8:=by
    have:(sizeLine:Nat)≤(2 ^ 63 - 1) / 8:=by decide
    omega
  have hfit:¬(!Builtin.List.listFitsIndex k)=true:=by
    rw[fitsIndex_both h1 h2];exact Bool.false_ne_true
  have hlong:¬Builtin.List.listTooLong (its.toArray.size * k.toNat)=true:=by
    rw[notLongL hlen];exact Bool.false_ne_true
  have hnew:List.foldl (fun x1 x2=>x1++x2) #[] (List.replicate (if its.toArray.isEmpty=true then 0 else k.toNat) its.toArray)=(List.replicate k.toNat its).flatten.toArray:=by
    have f0:∀ m:Nat,List.foldl (fun x1 x2=>x1++x2) #[] (List.replicate m its.toArray)=(List.replicate m its).flatten.toArray:=fun m=>by
      have:=foldl_rep its m [];rw[List.nil_append]at this;exact this
    rw[f0];cases its with
    |nil=>simp
    |cons a r'=>rw[if_neg (by simp)]
  refine wpAny_binaryOp_repeat_ref (T := "list") (U := "int") (by decide) ⟨_,e,rfl⟩ (fun s'=>typeIs_int s' k t) noFill_list_mul F.fills_int_mul F.slot_int_rmul repeat_list F.slot_int_index.lookup
    (call_meets F.slot_int_rmul (typeIs_int s k t) F.entry_int_rmul (F.args_int_rmul_2 _ _) (int___rmul___int_list k t l its.toArray n)
      ⟨e,rfl,⟨_,e,rfl⟩,call_meets F.slot_list_mul ⟨_,e,rfl⟩ F.entry_list_mul (F.args_list_mul_2 _ _) (AutoListH.list___mul___list_int_3 l its.toArray n k t hfit hcap hlong) ⟨e,?_⟩⟩)
  rw[hnew];exact⟨.ref _,_,I.lnew (t':=s.toks) (r.rep k.toNat) (by rw[len_rep,Nat.mul_comm];exact hz),rfl,q _ I.fresh⟩

end

section
variable {prog:Program}{w:World}{A:Around}{E:Value→Shared→Prop}{s:Shared}
end

section
variable {X:Cx}
end
end L2

namespace Att
open PySem PySem.W PySem.Calls PyProof.Rows

theorem ints_of_wellAll{P:Params}{h:Heap}:∀ (ns:List Int) (vs:List Value),WellAll P h vs (ns.map WData.int)→IntsAre vs ns:=by
  intro ns
  induction ns with
  |nil=>
    intro vs w;rw[List.map_nil]at w;cases w;exact .nil
  |cons n ns ih=>
    intro vs w;rw[List.map_cons]at w;cases w with
    |cons a b=>
      cases a;exact .cons _ _ (ih _ b)

theorem script_of{l:OpenLaw}{n:Nat}(hn:l.most=some n){P:Params}{h:Heap}{args:List WData}{vals:List Value}(hpre:l.row.toRowW.claim.pre args=true)(hwl:WellAll P h vals args) :
    ∃ a vs ns,vals=[Value.ref a]∧args=[WData.list (ns.map WData.int)]∧h.get? a=some { cls:=.type "list",data:=.seq vs.toArray }∧IntsAre vs ns∧ns.length≤n:=by
  have hsh:WShape.hasAll [] args [.list .int]=true:=(pre_splitW hpre).1;have hc:l.pre.holds [] { args:=args }=true:=(pre_splitW hpre).2;obtain⟨d,r,rfl,h1,h2⟩:=hasAllW_cons hsh;obtain rfl:=hasAllW_nil h2;obtain⟨xs,rfl,h3⟩:=hasW_list h1;obtain⟨ns,rfl⟩:=items_int h3;have hlen:ns.length≤n:=by
    unfold OpenLaw.pre at hc;have h4:(WTm.not (.lt (.lit (.int (n:Int))) (.len (.arg 0)))).holds [] { args:=[.list (ns.map .int)] }=true:=by
      have h4:=(holds_andW hc).1;rw[hn]at h4;exact h4
    have h5:=condW_of h4 (w_not (w_lt w_lit (w_len_list (w_arg rfl))));rw[List.length_map]at h5;refine Nat.le_of_not_lt fun q=>?_
    have q':(n:Int) < ((ns.length:Nat):Int):=by omega
    first
      | (rw[decide_eq_true q']at h5;exact absurd h5 (by decide))
      | (simp at h5;omega)
  cases hwl with
  |cons w1 w2=>
    cases w2;cases w1 with
    |list ho hall=>exact⟨_,_,ns,rfl,rfl,ho,ints_of_wellAll ns _ hall,hlen⟩

theorem post_true(l:OpenLaw)(args:List WData):l.row.toRowW.claim.post args (.bool true) args=true:=
  postW_of (r:=l.row.toRowW) (X:=(true==true))
    (show WShape.has [] (.bool true) .bool=true by first|rfl|decide|simp[WShape.has,WShape.arms,WShape.armsAll])
    (show(WTm.eq .res (.lit (.bool true))).value [] { args:=args,res:=some (.bool true),after:=args }=some (.bool (true==true)) from w_eq_bool (w_res rfl) w_lit) rfl


theorem attach_call{l:OpenLaw}{n:Nat}{q:Program}{loose:List Str}{XP:(Str→Option Value)→Heap→Prop}{YP:World→Heap→Prop}{d:DefRec}(hn:l.most=some n)(hdf:d.params.defaults=[])(call:∀ (w:World) (s₀ s₁:Shared) (mg mb:Str→Option Value) (fa:Addr) (o:Obj) (pm cd doc:Value) (a:Addr) (vs:List Value) (ns:List Int),
      Ground q loose [] XP w s₀ mg mb s₁.heap→YP w s₁.heap→
      s₁.heap.get? fa=some o→o.data=.func (docDef d.name d.params d.body d.scope pm cd doc)→s₁.heap.CodeRec cd d.name→mg d.name=some (.ref fa)→
      s₁.heap.get? a=some { cls:=.type "list",data:=.seq vs.toArray }→IntsAre vs ns→ns.length≤n→s₁.gens=#[]→
      codeAny (model l.prog w) callerA (.call (.ref fa) ⟨[.ref a],[]⟩) (fun r s'=>r=.ok (.ret (.bool true))∧OldK s₁.heap s'.heap∧s'.os=s₁.os∧AllBare s'.gens) s₁) :
    WalkO q loose XP YP l.row.toRowW d [] (fun f vs=>PySem.call f vs):=by
  intro w s₀ s₁ mg mb G Y fa o pm cd doc dV kV ho hd hcd hD hmg hg args vals as hpre hlay hrd hwl hlo;obtain rfl:dV=.none:=Dflts.none hD hdf;obtain rfl:kV=.none:=Dflts.noKw hD;obtain⟨a,vs,ns,rfl,rfl,hobj,hints,hlen⟩:=script_of hn hpre hwl;refine enter_call (codeAny_mono (call w s₀ s₁ mg mb fa o pm cd doc a vs ns G Y ho (fd_plain hd) hcd hmg hobj hints hlen hg) fun r s' hq=>?_)
  obtain⟨rfl,h2,h3,h4⟩:=hq;exact⟨.inl ⟨.bool true,.bool true,[],rfl,fun _=>rfl,.bool true,post_true l _,fun _=>⟨List.Pairwise.nil,fun _ hm=>(nomatch hm)⟩⟩,h2,h3,h4⟩


section
variable {prog:Program}{w:World}{A:Around}{E:Value→Shared→Prop}{s:Shared}{K:Frag}






end
end Att

namespace L2
open PySem PySem.Spec PyProof.Rows

theorem vals_ints:∀ {vs:List Value}{ns:List Int},IntsAre vs ns→Vals (ns.map V.int) vs
  |_,_,.nil=>.nil
  |_,_,.cons n t h=>.cons ⟨t,rfl⟩ (vals_ints h)

def Only(H:Hp):Prop:=∀ b,H b=none∨∃ o xs,H b=some (.frz o (.lst xs))

theorem law_call{P:Program}{w:World}{K:PySem.W.Frag}{mg mb:Str→Option Value}{CX:CXT}{k:Nat}{fa a:Addr}{fd:FuncData}{x:Str}{sp:Sp}{s₁:Shared}{vs:List Value}{ns:List Int}(KX:K.In s₁.heap)(hns:s₁.heap.Ns mainGlobals mg)(hb:s₁.heap.Ns builtinsNs mb)(hbb:∀ x:Str,x ≠ "__name__"→mb x=bootBuiltins x)(hlim:s₁.heap.NoLimit)(hg:s₁.gens=#[])(ha:s₁.heap.get? a=some { cls:=.type "list",data:=.seq vs.toArray })(hi:IntsAre vs ns)(hl:ns.length≤sizeLine)(hr:Room k callerA)(F:∀ base:Heap,K.In base→base.Ns mainGlobals mg→FnOk P w K mg base CX k fa fd [x] sp)(hbind:∀ (s:Shared) (u:Value),BindsTo s fd ⟨[u],[]⟩ [(x,u)])(hsp:∀ H:Hp,Only H→SqL K H a (ns.map V.int)→sp [.ref a] H (fun v _=>v=.bl true) fun _ _ _=>False)(hCX:∀ H e s',CX [] H s₁ (fun _ _ _=>False) e s'→False) :
    codeAny (model P w) callerA (.call (.ref fa) ⟨[.ref a],[]⟩) (fun r s'=>r=.ok (.ret (.bool true))∧OldK s₁.heap s'.heap∧s'.os=s₁.os∧AllBare s'.gens) s₁:=by
  have rv:=vals_ints hi;have lenV:=hi.length
  -- from an abstract heap in which nothing but the script may be tracked
  have core:∀ H:Hp,Only H→SqL K H a (ns.map V.int)→HOk P w H s₁.heap→(∀ b,H b≠none→b=a)→(H a≠none→K.lookup a=none)→
      codeAny (model P w) callerA (.call (.ref fa) ⟨[.ref a],[]⟩) (fun r s'=>r=.ok (.ret (.bool true))∧OldK s₁.heap s'.heap∧s'.os=s₁.os∧AllBare s'.gens) s₁:=by
    intro H hO hS hok hA hK;have base_of:∀ {b:Addr}{o:Obj},s₁.heap.get? b=some o→H b=none→(hidT s₁.heap H).get? b=some o:=fun e n=>hidT_get e n
    have noA:∀ {b:Addr}{o:Obj}{es:Array DictEntry}{ep:Nat},s₁.heap.get? b=some o→o.data=.dict es ep→H b=none:=fun {b o es ep} e d=>by
      cases q:H b with
      |none=>rfl
      |some u=>
        have e':b=a:=hA b (by rw[q];simp)
        subst e';rw[ha]at e;cases e
        have d':Data.seq vs.toArray _=Data.dict es ep:=d;cases d'
    have nsK:∀ {b:Addr}{m:Str→Option Value},s₁.heap.Ns b m→(hidT s₁.heap H).Ns b m:=fun {b m} ⟨o,es,ep,e,d,r⟩=>⟨o,es,ep,base_of e (noA e d),d,r⟩
    have hKb:K.In (hidT s₁.heap H):=fun b o e=>base_of (KX b o e) (by
      cases q:H b with
      |none=>rfl
      |some u=>
        have e':b=a:=hA b (by rw[q];simp)
        subst e';rw[hK (by rw[q];simp)]at e;cases e)
    have hM:Mod K mg (hidT s₁.heap H):=⟨hKb,nsK hns,⟨mb,nsK hb,hbb⟩,let ⟨mc,h1,h2⟩:=hlim;⟨mc,nsK h1,h2⟩⟩
    have e0:Env0 P w K mg (hidT s₁.heap H) callerA [] s₁ H:=⟨rfl,hM,fun b o e=>of_hidT e,Nat.le_of_eq (hidT_size _ _),trivial,fun b hb=>absurd (show b∈([]:List Addr) from hb) (by simp),hok,.of_eq hg⟩
    refine codeAny_mono ((F _ hKb (nsK hns)).run callerA [] s₁ H ⟨[.ref a],[]⟩ [.ref a] [.ref a] _ _ hr e0 (hbind s₁ (.ref a)) (.cons rfl .nil) (hsp H hO hS)) fun r s' h=>?_
    cases r with
    |error e=>exact(hCX H e s' h).elim
    |ok fl=>
      cases fl with
      |next=>exact False.elim h
      |brk=>exact False.elim h
      |cont=>exact False.elim h
      |ret u=>
        obtain⟨v,H',os,bare,un,hok',r',q⟩:=h;have q':v=.bl true:=q;subst q';obtain rfl:u=Value.bool true:=r';refine⟨rfl,OldK.of_keep fun b o e=>?_,os,bare⟩
        cases q:H b with
        |none=>exact un.keep b o e q (by intro z;exact absurd (show b∈([]:List Addr) from z) (by simp)) (by simp)
        |some u=>
          rcases hO b with z|⟨ob,xs,z⟩
          · rw[q]at z;cases z
          · have z2:=un.frzs b ob _ z
            obtain⟨e1,_⟩:=hok b _ z;obtain⟨e2,_⟩:=hok' b _ z2;rw[e]at e1;cases e1
            exact e2
  cases hk:K.lookup a with
  |some o=>
    -- the script is one of the module's own objects
    have e:=KX a o hk;rw[ha]at e;cases e;refine core (fun _=>none) (fun _=>.inl rfl) (.inr ⟨_,vs.toArray,_,hk,rfl,rfl,rfl,by rw[List.size_toArray,lenV];exact hl,by simpa using rv⟩) (fun b u z=>by have z':(none:Option HO)=some u:=z;cases z') (fun b z=>absurd rfl z) fun z=>absurd rfl z
  |none=>
    refine core (fun b=>if b=a then some (.frz { cls:=.type "list",data:=.seq vs.toArray } (.lst (ns.map V.int))) else none) (fun b=>?_) (.inl (.inr ⟨{ cls:=.type "list",data:=.seq vs.toArray },if_pos rfl⟩)) (fun b u z=>?_) (fun b z=>?_) fun _=>hk
    · by_cases hb:b=a
      · exact .inr ⟨_,_,if_pos hb⟩
      · exact .inl (if_neg hb)
    · by_cases hb:b=a
      · have z':=(if_pos hb).symm.trans z
        cases z';subst hb;exact⟨ha,by rw[List.length_map];exact hl,vs,_,rv,ha⟩
      · have z':=(if_neg hb).symm.trans z
        cases z'
    · by_cases hb:b=a
      · exact hb
      · exact absurd (if_neg hb) z
end L2

namespace L2
open PySem PySem.Spec PyProof.Rows


theorem walk_of{l:PySem.W.OpenLaw}{n k:Nat}{q:Program}{loose:List Str}{XP:(Str→Option Value)→Heap→Prop}{YP:World→Heap→Prop}{d:DefRec}{K:Params→PySem.W.Frag}{CX:World→CXT}{sp:World→Sp}{x:Str}(hn:l.most=some n)(hn2:n≤sizeLine)(hdf:d.params.defaults=[])(hr:Room k callerA)(hY:∀ (w:World) (h:Heap),YP w h→(K w.params).In h)(F:∀ (w:World) (mg:Str→Option Value) (fa:Addr) (h:Heap),(K w.params).In h→h.Ns mainGlobals mg→mg d.name=some (.ref fa)→
      ∃ fd:FuncData,(∀ (s:Shared) (u:Value),BindsTo s fd ⟨[u],[]⟩ [(x,u)]) ∧
        ∀ base:Heap,(K w.params).In base→base.Ns mainGlobals mg→FnOk l.prog w (K w.params) mg base (CX w) k fa fd [x] (sp w))(hsp:∀ (w:World) (H:Hp) (a:Addr) (ns:List Int),ns.length≤n→Only H→SqL (K w.params) H a (ns.map V.int)→sp w [.ref a] H (fun v _=>v=.bl true) fun _ _ _=>False)(hCX:∀ (w:World) (H:Hp) (s:Shared) (e:Value) (s':Shared),CX w [] H s (fun _ _ _=>False) e s'→False) :
    PySem.W.WalkO q loose XP YP l.row.toRowW d [] (fun f vs=>PySem.call f vs):=by
  refine Att.attach_call hn hdf fun w s₀ s₁ mg mb fa o pm cd doc a vs ns G Y ho hd hcd hmg hobj hints hlen hg=>?_
  have KX:=hY w _ Y;obtain⟨fd,hb,hF⟩:=F w mg fa _ KX G.T.g hmg;exact law_call KX G.T.g G.T.b G.T.builtins G.T.nolimit hg hobj hints (Nat.le_trans hlen hn2) hr hF hb (fun H hO hS=>hsp w H a ns hlen hO hS) fun H e s'=>hCX w H s₁ e s'
end L2


namespace L2
open PySem PySem.Spec PyProof.Rows

noncomputable def defArgs(s:Stmt):Arguments:=match s with
  |.FunctionDef _ a _ _ _ _ _ _ _ _=>a
  |_=>{ posonlyargs:=[],args:=[],vararg:=none,kwonlyargs:=[],kw_defaults:=[],kwarg:=none,defaults:=[] }
noncomputable def defBody(s:Stmt):List Stmt:=match s with
  |.FunctionDef _ _ b _ _ _ _ _ _ _=>b
  |_=>[]
noncomputable def defScope(s:Stmt):Scope:=match s with
  |.FunctionDef _ _ _ _ _ _ sc _ _ _=>sc
  |_=>{ kind:=.function,names:=[],isGenerator:=false,isCoroutine:=false }

noncomputable abbrev CX0:CXT:=fun _ _ _ _ _ _=>False
noncomputable abbrev E0:XK:=fun _ _ _=>False
theorem pass0{X:Cx}:Passes CX0 X E0:=fun _ _ _ _ _ _ _ h=>h.elim

structure Fun(K:PySem.W.Frag)(x qual:Str)(st:Stmt)(f:Addr)(fd:FuncData):Prop where
  ex:∃ (oc:Value) (od:Option Addr) (kV doc pm:Value) (an:Option Addr) (cdv ct:Value) (osl:Array (Option Value)),
    fd=PySem.W.fnOf x qual (defArgs st) (defBody st) (defScope st) .none kV doc pm an cdv ct∧K.lookup f=some ⟨oc,od,.func fd,osl⟩∧PySem.W.codeIn K cdv qual=true
  kp:PySem.W.keepIn K (.ref f)=true
section
variable {P:Program}{w:World}{K:PySem.W.Frag}{mg:Str→Option Value}{base:Heap}
end

section
variable {X:Cx}
end



end L2



namespace L2
open PySem PySem.Spec PyProof.Rows
section
variable {κ:Type} [DecidableEq κ]
noncomputable def valV(kvs:List (κ×V))(k:κ):Option V:=(kvs.find? fun kv=>decide (kv.1=k)).map (·.2)
noncomputable def putK(kvs:List (κ×V))(k:κ)(v:V):List (κ×V):=
 if (kvs.any fun kv=>decide (kv.1=k))=true then kvs.map (fun kv=>if kv.1=k then (kv.1,v) else kv) else kvs++[(k,v)]
theorem valV_pos{p:κ×V}{r:List (κ×V)}{k:κ}(e:p.1=k):valV (p :: r) k=some p.2:=by simp[valV,List.find?_cons,e]
theorem valV_neg{p:κ×V}{r:List (κ×V)}{k:κ}(e:¬p.1=k):valV (p :: r) k=valV r k:=by simp[valV,List.find?_cons,e]
theorem RelO.isSome_eq{o:Option V}{u:Option Value}(r:RelO o u):o.isSome=u.isSome:=by
 cases o with
 |none=>cases u with
  |none=>rfl
  |some _=>exact(show False from r).elim
 |some _=>cases u with
  |none=>exact(show False from r).elim
  |some _=>rfl
theorem KV.val{kvs:List (κ×V)}{vs:List (κ×Value)}(r:KV kvs vs)(k:κ):RelO (valV kvs k) (valueAt vs k):=by
 unfold KV at r
 induction r with
 |nil=>exact True.intro
 |@cons p q ps qs h t ih=>
  obtain⟨h1,h2⟩:=h;by_cases e:p.1=k
  ·have e':q.1=k:=h1.symm.trans e
   have b:valueAt (q :: qs) k=some q.2:=by simp[valueAt,List.find?_cons,e']
   rw[valV_pos e,b];exact h2
  ·have e':¬q.1=k:=fun z=>e (h1.trans z)
   have b:valueAt (q :: qs) k=valueAt qs k:=by simp[valueAt,List.find?_cons,e']
   rw[valV_neg e,b];exact ih
theorem KV.any{kvs:List (κ×V)}{vs:List (κ×Value)}(r:KV kvs vs)(k:κ):(kvs.any fun kv=>decide (kv.1=k))=vs.any fun kv=>decide (kv.1=k):=by
 unfold KV at r
 induction r with
 |nil=>rfl
 |cons h t ih=>rw[List.any_cons,List.any_cons,ih,h.1]
theorem KV.repl{kvs:List (κ×V)}{vs:List (κ×Value)}(r:KV kvs vs)(k:κ){y:V}{u:Value}(ry:RelV y u) :
  KV (kvs.map fun kv=>if kv.1=k then (kv.1,y) else kv) (vs.map fun kv=>if kv.1=k then (kv.1,u) else kv):=by
 unfold KV at r ⊢
 induction r with
 |nil=>exact .nil
 |@cons p q ps qs h t ih=>
  rw[List.map_cons,List.map_cons];refine .cons ?_ ih;obtain⟨h1,h2⟩:=h;by_cases e:p.1=k
  ·rw[if_pos e,if_pos (h1.symm.trans e)];exact⟨h1,ry⟩
  ·rw[if_neg e,if_neg (fun z=>e (h1.trans z))];exact⟨h1,h2⟩
theorem KV.put{kvs:List (κ×V)}{vs:List (κ×Value)}(r:KV kvs vs)(k:κ){y:V}{u:Value}(ry:RelV y u):KV (putK kvs k y) (stored vs k u):=by
 unfold putK stored;rw[r.any k];by_cases e:(vs.any fun kv=>decide (kv.1=k))=true
 ·rw[if_pos e,if_pos e];exact r.repl k ry
 ·rw[if_neg e,if_neg e];exact Paired.snoc r ⟨rfl,ry⟩
end
theorem kV_is{P:Program}{w:World}{k:Key}{u:Value}(r:RelV (kV k) u):(mixKind P w).is k u=true:=by
 cases k with
 |inl i=>obtain⟨t,e⟩:=(show ∃ t,u=Value.int i t from r);subst e;exact mixKind_int P w i t
 |inr x=>obtain⟨t,e⟩:=(show ∃ t,u=Value.str x t from r);subst e;exact mixKind_str P w x t
section
variable {P:Program}{w:World}{H:Hp}{h:Heap}{a:Addr}
theorem rd_of{u:HO}(ok:HOk P w H h)(e:Rd H a u):ObjOk P w H h a u:=e.ok ok
theorem dk_rd{kvs:List (Key×V)}(ok:HOk P w H h)(e:Rd H a (.dK kvs)):kvs.length≤sizeLine∧(a==sysModules)=false∧∃ vs,KV kvs vs∧h.DictOf (mixKind P w) a vs:=
 show ObjOk P w H h a (.dK kvs) from rd_of ok e
theorem dk_of{kvs:List (Key×V)}(ok:HOk P w H h)(e:H a=some (.dK kvs)):kvs.length≤sizeLine∧(a==sysModules)=false∧∃ vs,KV kvs vs∧h.DictOf (mixKind P w) a vs:=dk_rd ok (.inl e)
end
section
variable {X:Cx}{pins:List (Addr×Obj)}{σ:St}{H:Hp}{s:Shared}{a:Addr}{y v:V}{u r:Value}{o:Option V}{A:Around}{E:Value→Shared→Prop}
end
section
variable {X:Cx}
noncomputable def rIxD:R2:=fun x y H Q=>∃ p kvs k v,x=.ref p∧y=kV k∧H p=some (.dK kvs)∧valV kvs k=some v∧Q v H
theorem ix_dct:IxR X rIxD:=by
 intro value slice pins s σ H x y v u Q I rx ry h hs;obtain⟨p,kvs,k,z,rfl,rfl,hq,he,q⟩:=h;cases rx;obtain⟨zz,hd,vs,rel,dd⟩:=dk_of I.hok hq;obtain⟨w',hw,rw'⟩:=RelO.some_of (v:=z) (o:=valueAt vs k) (by rw[←he];exact rel.val k)
 exact tail_any dd.typeIs PySem.F.slot_dict_getitem.lookup (wpAny_getItem_of (kV_is ry) dd.mapOf hw ⟨z,H,I.tok _,rw',q⟩) hs
noncomputable def rInD:R2:=fun x y H Q=>∃ p kvs k,y=.ref p∧x=kV k∧H p=some (.dK kvs)∧Q (.bl (valV kvs k).isSome) H
theorem op_in_dct:OpR X (compareOp .In) rInD:=by
 intro pins s σ H x y v u Q I rx ry h;obtain⟨p,kvs,k,rfl,rfl,hq,q⟩:=h;cases ry;obtain⟨zz,hd,vs,rel,dd⟩:=dk_of I.hok hq;refine wpAny_in_of (kV_is rx) hd dd.mapOf ?_;rw[←(rel.val k).isSome_eq];exact⟨.bl (valV kvs k).isSome,H,I.tok _,rfl,q⟩
end
section
variable {κ:Type} [DecidableEq κ]
theorem valV_any(k:κ):∀ kvs:List (κ×V),(kvs.any fun kv=>decide (kv.1=k))=(valV kvs k).isSome
 |[]=>rfl
 |p :: r=>by
  rw[List.any_cons];by_cases e:p.1=k
  ·simp only[valV_pos e,decide_eq_true e,Bool.true_or,Option.isSome_some]
  ·rw[valV_neg e,decide_eq_false e,Bool.false_or];exact valV_any k r
end
abbrev KTp(H:Hp):List (List Key×V)→List (List Key×Addr×Value)→Prop:=Paired fun p q=>p.1=q.1∧H q.2.1=some (.tup (p.1.map kV))∧RelV p.2 q.2.2
theorem KTp.val{H:Hp}{kvs:List (List Key×V)}{xs:List (List Key×Addr×Value)}(r:KTp H kvs xs)(k:List Key):RelO (valV kvs k) ((atKey xs k).map (·.2)):=by
 induction r with
 |nil=>exact True.intro
 |@cons p q ps qs h t ih=>
  obtain⟨h1,_,h2⟩:=h;by_cases e:p.1=k
  ·have e':q.1=k:=h1.symm.trans e
   have b:atKey (q :: qs) k=some q.2:=by simp[atKey,List.find?_cons,e']
   rw[valV_pos e,b];exact h2
  ·have e':¬q.1=k:=fun z=>e (h1.trans z)
   have b:atKey (q :: qs) k=atKey qs k:=by simp[atKey,List.find?_cons,e']
   rw[valV_neg e,b];exact ih
theorem KTp.repl{H:Hp}{kvs:List (List Key×V)}{xs:List (List Key×Addr×Value)}(r:KTp H kvs xs)(k:List Key){y:V}{u:Value}(ry:RelV y u) :
  KTp H (kvs.map fun kv=>if kv.1=k then (kv.1,y) else kv) (xs.map (putAt k u)):=by
 induction r with
 |nil=>exact .nil
 |@cons p q ps qs h t ih=>
  rw[List.map_cons,List.map_cons];refine .cons ?_ ih;obtain⟨h1,h2,h3⟩:=h;unfold putAt;by_cases e:p.1=k
  ·rw[if_pos e,if_pos (h1.symm.trans e)];exact⟨h1,h2,ry⟩
  ·rw[if_neg e,if_neg (fun z=>e (h1.trans z))];exact⟨h1,h2,h3⟩
theorem KTp.put{H:Hp}{kvs:List (List Key×V)}{xs:List (List Key×Addr×Value)}(r:KTp H kvs xs)(k:List Key){b:Addr}{y:V}{u:Value}(hb:H b=some (.tup (k.map kV)))(ry:RelV y u) :
  KTp H (putK kvs k y) (storedH xs k b u):=by
 have e:(kvs.any fun kv=>decide (kv.1=k))=(atKey xs k).isSome:=by
  rw[valV_any,(r.val k).isSome_eq,Option.isSome_map]
 unfold putK storedH;rw[e];by_cases q:(atKey xs k).isSome=true
 ·rw[if_pos q,if_pos q];exact r.repl k ry
 ·rw[if_neg q,if_neg q];exact Paired.snoc r ⟨rfl,hb,ry⟩
theorem KTp.keeps{H H':Hp}{kvs:List (List Key×V)}{xs:List (List Key×Addr×Value)}(r:KTp H kvs xs)(ht:∀ b ys,H b=some (.tup ys)→H' b=some (.tup ys)):KTp H' kvs xs:=
 Paired.mapP r fun _ _ z=>⟨z.1,ht _ _ z.2.1,z.2.2⟩
section
variable {P:Program}{w:World}{H:Hp}{h:Heap}{a:Addr}
end
section
variable {X:Cx}
end
end L2


namespace PySem
namespace Sf
theorem owner_si:Manifest.owners.lookup (String.ofList ['r','o','t','a','r','e','t','i','_','t','e','s'].reverse)=some Manifest.sig_set_iterator:=by kernel_rfl
theorem slot_next:Slot "set_iterator" "__next__" "set_iterator.__next__":=
 .of (owner := "set_iterator") (n := "__next__") (by rw[typeLookup_type,builtinLookup_eq_fast];kernel_rfl) (by decide +kernel) (by decide +kernel) (by decide +kernel)
  (by first|exact .inl (by decide +kernel)|exact .inr (by decide +kernel)) (by rw[isSubtype_type];kernel_rfl)
theorem entry_next:entryFor table "set_iterator.__next__"=some Builtin.«set_iterator.__next__»:=entryFor_of_tree (by kernel_rfl)
theorem args_next(a:Value):argsOk "set_iterator.__next__" ⟨[a],[]⟩:=by
 unfold argsOk;rw[signature?_of (id := "set_iterator.__next__") (n:=['_','_','t','x','e','n','_','_']) (o:=['r','o','t','a','r','e','t','i','_','t','e','s']) (by kernel_rfl) owner_si];kernel_rfl
theorem entry_iter:entryFor table "set.__iter__"=some Builtin.«frozenset.__iter__»:=
 entryFor_alias (id' := "frozenset.__iter__") (by kernel_rfl) rfl (by decide +kernel) (by kernel_rfl)
theorem slot_iter:Slot "set_iterator" "__iter__" "set_iterator.__iter__":=
 .of (owner := "set_iterator") (n := "__iter__") (by rw[typeLookup_type,builtinLookup_eq_fast];kernel_rfl) (by decide +kernel) (by decide +kernel) (by decide +kernel)
  (by first|exact .inl (by decide +kernel)|exact .inr (by decide +kernel)) (by rw[isSubtype_type];kernel_rfl)
theorem args_iter(a:Value):argsOk "set_iterator.__iter__" ⟨[a],[]⟩:=by
 unfold argsOk;rw[signature?_of (id := "set_iterator.__iter__") (n:=['_','_','r','e','t','i','_','_']) (o:=['r','o','t','a','r','e','t','i','_','t','e','s']) (by kernel_rfl) owner_si];kernel_rfl
end Sf
def IsSI(h:Heap)(it r:Addr)(j i n ep:Nat):Prop:=∃ o,h.get? it=some o∧o.cls=.type "set_iterator"∧o.data=.fields #[rawInt j,rawInt i,.ref r,rawInt n,rawInt ep]
structure SetP(w:World)(h:Heap)(r:Addr)(es:Array (Int×Value))(ep:Nat)(t:SetTable):Prop where
 at_:h.get? r=some ⟨.type "set",none,.set es ep t,#[]⟩
 fit:t.fits es.size=true
 plain:t.plain=true
 led:w.params.followText "set-order"=false→t.led=true
 ris:∀ (i j a b:Nat),t.place[i]?=some a→t.place[j]?=some b→i < j→a < b
 few:es.size≤3
section
variable {prog:Program}{w:World}{A:Around}{E:Value→Shared→Prop}{s:Shared}{r it:Addr}{es:Array (Int×Value)}{ep:Nat}{t:SetTable}
theorem SetP.state(x:SetP w s.heap r es ep t){Q:(Array (Int×Value)×Nat×SetTable)→Shared→Prop}(h:Q (es,ep,t) s):wpAny (model prog w) A (setState r) Q E s:=wpAny_setState_of x.at_ rfl x.fit h
theorem SetP.ty(x:SetP w s.heap r es ep t):s.TypeIs (.ref r) "set":=⟨_,x.at_,rfl⟩
theorem byText{Q:Bool→Shared→Prop}(h:Q (w.params.followText "set-order") s):wpAny (model prog w) A setsByText Q E s:=by
 unfold setsByText;exact wpAny_bind (wpAny_askSetting (wpAny_pure h))
theorem SetP.drawn(x:SetP w s.heap r es ep t){Q:Bool→Shared→Prop}(h:Q false s):wpAny (model prog w) A (setDrawn r) Q E s:=by
 unfold setDrawn;refine wpAny_bind (x.state ?_);refine wpAny_bind (byText (wpAny_pure ?_));have e:(!w.params.followText "set-order"&&(!t.plain&&decide (es.size > 1)))=false:=by rw[x.plain];simp
 have e2:Q (!w.params.followText "set-order"&&(!t.plain&&decide (es.size > 1))) s:=by rw[e];exact h
 exact e2
noncomputable def wkS(w:World)(r ep:Nat)(es:Array (Int×Value)):List Value:=(if w.params.followText "set-order"=true then pickOrder (w.params.setOrder r ep) es else es).toList.map (·.2)
noncomputable def slS(w:World)(t:SetTable)(i:Nat):Nat:=if w.params.followText "set-order"=true then 0 else match i with
 |0=>0
 |i+1=>(t.place[i]?).getD 0+1
theorem below_at{t:SetTable}(hb:w.params.followText "set-order"=false)(ris:∀ (i j a b:Nat),t.place[i]?=some a→t.place[j]?=some b→i < j→a < b)(h3:t.place.size≤3){i:Nat}(hi:i≤t.place.size):SetTable.below t.place (slS w t i)=i:=by
 obtain⟨mask,⟨ps⟩,du,fi,le,mo,pl⟩:=t;simp only[List.size_toArray]at h3 hi;unfold slS;rw[if_neg (by rw[hb];exact Bool.false_ne_true)]
 match ps,h3 with
 |[],_=>
  have:i=0:=by simpa using hi
  subst this;rfl
 |[a],_=>
  rcases (show i=0∨i=1 by simp at hi;omega) with rfl|rfl
  ·simp[SetTable.below,SetTable.below.go]
  ·simp[SetTable.below,SetTable.below.go]
 |[a,b],_=>
  have h1:a < b:=ris 0 1 a b rfl rfl (by decide)
  rcases (show i=0∨i=1∨i=2 by simp at hi;omega) with rfl|rfl|rfl
  ·simp[SetTable.below,SetTable.below.go]
  ·simp[SetTable.below,SetTable.below.go,show ¬b < a+1 by omega]
  ·simp[SetTable.below,SetTable.below.go]
 |[a,b,c],_=>
  have h1:a < b:=ris 0 1 a b rfl rfl (by decide)
  have h2:b < c:=ris 1 2 b c rfl rfl (by decide)
  rcases (show i=0∨i=1∨i=2∨i=3 by simp at hi;omega) with rfl|rfl|rfl|rfl
  ·simp[SetTable.below,SetTable.below.go]
  ·simp[SetTable.below,SetTable.below.go,show ¬b < a+1 by omega]
  ·simp[SetTable.below,SetTable.below.go,show ¬c < b+1 by omega]
  ·simp[SetTable.below,SetTable.below.go,show b < c+1 by omega]
theorem SetP.psize(x:SetP w s.heap r es ep t):t.place.size=es.size:=by
 have:=x.fit;simp only[SetTable.fits,Bool.and_eq_true,beq_iff_eq,decide_eq_true_eq]at this;exact this.1
theorem SetP.next(x:SetP w s.heap r es ep t){i:Nat}(hi:i≤es.size){Q:Option (Value×Nat)→Shared→Prop}(h:Q (((wkS w r ep es)[i]?).map fun v=>(v,slS w t (i+1))) s) :
  wpAny (model prog w) A (setNext r (slS w t i) i ep) Q E s:=by
 unfold setNext;refine wpAny_bind (x.state ?_);refine wpAny_bind (byText ?_);by_cases hb:w.params.followText "set-order"=true
 ·refine wpAny_ite_true (decide_eq_true hb) ?_
  have e0:slS w t i=slS w t (i+1):=by unfold slS;rw[if_pos hb,if_pos hb]
  have e1:((wkS w r ep es)[i]?).map (fun v=>(v,slS w t (i+1)))=((pickOrder (w.params.setOrder r ep) es)[i]?).map fun e=>(e.2,slS w t i):=by
   unfold wkS;rw[if_pos hb,List.getElem?_map,Option.map_map,Array.getElem?_toList,e0];rfl
  rw[e1]at h;dsimp only;refine wpAny_ite_false (by simp) ?_
  unfold setWalk;refine wpAny_bind (wpAny_bind (x.state ?_));refine wpAny_bind (byText ?_);refine wpAny_ite_true (decide_eq_true hb) ?_;exact wpAny_bind (wpAny_askSetting (wpAny_pure (wpAny_pure h)))
 ·have hb:w.params.followText "set-order"=false:=by simpa using hb
  refine wpAny_ite_false (decide_eq_false (by rw[hb];exact Bool.false_ne_true)) ?_
  have pl:=x.plain;refine wpAny_ite_false (decide_eq_false (show ¬((!t.plain&&decide (es.size > 1))=true) by rw[pl];simp)) ?_
  have hm:wpAny (model prog w) A (if (!t.led&&!es.isEmpty)=true then unsupported "set:maker-not-led" else pure ()) (fun _ s'=>wpAny (model prog w) A (pure (match es[SetTable.below t.place (slS w t i)]?,t.place[SetTable.below t.place (slS w t i)]? with
      |some (fst,x),some j=>some (x,j+1)
      |x,x_1=>none)) Q E s') E s:=by
   rw[x.led hb];refine wpAny_pure (wpAny_pure ?_);rw[below_at hb x.ris (by rw[x.psize];exact x.few) (by rw[x.psize];exact hi)]
   have e1:(wkS w r ep es)[i]?=(es[i]?).map (·.2):=by
    unfold wkS;rw[if_neg (by rw[hb];exact Bool.false_ne_true),List.getElem?_map,Array.getElem?_toList]
   rw[e1]at h;cases hi':es[i]? with
   |none=>rw[hi']at h;exact h
   |some e=>
    rw[hi']at h;have hp:i < t.place.size:=by
     rw[x.psize];exact(Array.getElem?_eq_some_iff.mp hi').1
    have e2:slS w t (i+1)=t.place[i]+1:=by
     unfold slS;rw[if_neg (by rw[hb];exact Bool.false_ne_true)]
     simp[hp]
    rw[Array.getElem?_eq_getElem hp];obtain⟨e1,e3⟩:=e;rw[e2]at h;exact h
  exact wpAny_bind hm
end
end PySem


namespace PySem
section
variable {prog:Program}{w:World}{A:Around}{E:Value→Shared→Prop}{s:Shared}{r it:Addr}{es:Array (Int×Value)}{ep j i n:Nat}{t:SetTable}
theorem IsSI.ty(x:IsSI s.heap it r j i n ep):s.TypeIs (.ref it) "set_iterator":=let ⟨o,ho,hc,_⟩:=x;⟨o,ho,hc⟩
theorem SetP.iter(x:SetP w s.heap r es ep t){Q:Value→Shared→Prop}(hQ:Q (.ref s.heap.objs.size) { s with heap:=s.heap.push { cls:=.type "set_iterator",data:=.fields #[rawInt 0,rawInt 0,.ref r,rawInt es.size,rawInt ep] } }) :
  wpAny (model prog w) A (pyIter (.ref r)) Q E s:=by
 refine wpAny_pyIter_slot x.ty F.slot_set_iter (wpAny_call_entry F.slot_set_iter x.ty Sf.entry_iter ?_ (F.args_set_iter_1 _));unfold Builtin.«frozenset.__iter__» Builtin.Frozenset.slot0 slotArgs
 simp only[List.isEmpty_nil,Bool.not_true,Bool.false_eq_true,↓reduceIte,bind_assoc,List.length_nil,bne_self_eq_false];unfold Builtin.Frozenset.addrOf Builtin.Frozenset.sizeOf;refine wpAny_bind (wpAny_pure ?_)
 try dsimp only
 refine wpAny_bind (wpAny_pure ?_)
 try dsimp only
 unfold setEntries;refine wpAny_bind (wpAny_bind (wpAny_bind (x.state (wpAny_pure (wpAny_pure ?_)))));refine wpAny_bind (x.drawn ?_);refine wpAny_ite_false (by simp) ?_
 refine wpAny_bind (wpAny_pure ?_);refine wpAny_bind (wpAny_setEpoch_of x.at_ rfl x.fit ?_);unfold newFields;refine wpAny_bind (wpAny_newObj_type (wpAny_pure ⟨_,rfl, "set_iterator",_,⟨_,Heap.get?_push_size _ rfl,rfl⟩,Sf.slot_next.lookup,?_⟩));exact hQ
theorem SetP.item{v:Value}(x:SetP w s.heap r es ep t)(I:IsSI s.heap it r (slS w t i) i es.size ep)(hv:(wkS w r ep es)[i]?=some v)(hi:i≤es.size){Q:Option Value→Shared→Prop}(hQ:∀ h',IsSI h' it r (slS w t (i+1)) (i+1) es.size ep→Heap.SameBut it s.heap h'→Q (some v) { s with heap:=h' }):wpAny (model prog w) A (pyNext (.ref it)) Q E s:=by
 obtain⟨o,ho,hc,hd⟩:=id I;unfold pyNext;refine wpAny_bind (wpAny_attempt (wpAny_callSpecial?_slot (name:=Str.ofString "__next__") I.ty Sf.slot_next (wpAny_call_entry Sf.slot_next I.ty Sf.entry_next ?_ (Sf.args_next _))));unfold Builtin.«set_iterator.__next__» slotArgs
 simp only[List.isEmpty_nil,Bool.not_true,Bool.false_eq_true,↓reduceIte,bind_assoc,List.length_nil,bne_self_eq_false];refine wpAny_bind (wpAny_pure ?_);dsimp only;refine wpAny_bind (wpAny_fieldsOf ho hd ?_);dsimp only[rawInt]
 unfold setEntries;refine wpAny_bind (wpAny_bind (x.state (wpAny_pure ?_)));refine wpAny_ite_false (by simp) ?_
 simp only[Int.toNat_natCast];refine wpAny_bind (x.next hi ?_);rw[hv];dsimp only[Option.map_some]
 refine wpAny_bind (wpAny_setField ho hd (by simp) ?_)
 have ho1:=Heap.get?_update_self (Obj.mapFields (·.setIfInBounds 0 (Value.int (slS w t (i+1):Nat) 0))) ho (Obj.isFreed_of_fields (Obj.data_mapFields hd _));have hd1:=Obj.data_mapFields hd (·.setIfInBounds 0 (Value.int (slS w t (i+1):Nat) 0));refine wpAny_bind (wpAny_setField (s:={ s with heap:=s.heap.update it (Obj.mapFields (·.setIfInBounds 0 (Value.int (slS w t (i+1):Nat) 0))) }) ho1 hd1 (by simp) ?_)
 refine wpAny_pure ⟨_,rfl,wpAny_pure (hQ _ ⟨_,Heap.get?_update_self _ ho1 (Obj.isFreed_of_fields (Obj.data_mapFields hd1 _)),?_,?_⟩ ?_)⟩
 ·exact(Obj.cls_mapFields ..).trans ((Obj.cls_mapFields ..).trans hc)
 ·rw[Obj.data_mapFields hd1]
  simp[rawInt]
 ·exact(Heap.SameBut.update ..).trans (Heap.SameBut.update ..)
theorem SetP.fin(hh:A.handled=none)(x:SetP w s.heap r es ep t)(I:IsSI s.heap it r (slS w t i) i es.size ep)(hv:(wkS w r ep es)[i]?=none)(hi:i≤es.size){Q:Option Value→Shared→Prop}(hQ:∀ h',Heap.ExtBut it s.heap h'→Q none { s with heap:=h' }):wpAny (model prog w) A (pyNext (.ref it)) Q E s:=by
 obtain⟨o,ho,hc,hd⟩:=id I;unfold pyNext;refine wpAny_bind (wpAny_attempt (wpAny_callSpecial?_slot (name:=Str.ofString "__next__") I.ty Sf.slot_next (wpAny_call_entry Sf.slot_next I.ty Sf.entry_next ?_ (Sf.args_next _))));unfold Builtin.«set_iterator.__next__» slotArgs
 simp only[List.isEmpty_nil,Bool.not_true,Bool.false_eq_true,↓reduceIte,bind_assoc,List.length_nil,bne_self_eq_false];refine wpAny_bind (wpAny_pure ?_);dsimp only;refine wpAny_bind (wpAny_fieldsOf ho hd ?_);dsimp only[rawInt]
 unfold setEntries;refine wpAny_bind (wpAny_bind (x.state (wpAny_pure ?_)));refine wpAny_ite_false (by simp) ?_
 simp only[Int.toNat_natCast];refine wpAny_bind (x.next hi ?_);rw[hv];dsimp only[Option.map_none]
 refine wpAny_bind (wpAny_setField ho hd (by simp) ?_)
 show wpAny _ _ (newExc (.type "StopIteration") [] >>= _) _ _ _;refine wpAny_bind ?_;simp only[newExc,newTuple];refine wpAny_bind (wpAny_newObj_type ?_ (by size_fits))
 refine wpAny_bind (m:=firstArgMember _ _) (wpAny_of_eq (a:=Value.none) (by first|rfl | (simp only[firstArgMember];rfl)) ?_)
 refine wpAny_newObj_type ?_ (by size_fits)
 simp only[raiseNew];refine wpAny_bind (wpAny_handled ?_);rw[show A.in1.handled=none from hh];refine wpAny_bind (wpAny_pure (wpAny_throw ?_));refine wpAny_bind (wpAny_isInstance (T := "StopIteration") (b:=true) ⟨_,Heap.get?_push_size _ rfl,rfl⟩ isSubtype_stop ?_);exact wpAny_pure (hQ _ (((Heap.SameBut.update ..).extBut.push _).push _))
theorem Sf.entry_iter2:entryFor table "set_iterator.__iter__"=some Builtin.«dict_keyiterator.__iter__»:=
 entryFor_alias (id' := "dict_keyiterator.__iter__") (by kernel_rfl) rfl (by decide +kernel) (by kernel_rfl)
theorem IsSI.self(I:IsSI s.heap it r j i n ep){Q:Value→Shared→Prop}(h:Q (.ref it) s):wpAny (model prog w) A (pyIter (.ref it)) Q E s:=by
 refine wpAny_pyIter_slot I.ty Sf.slot_iter (wpAny_call_entry Sf.slot_iter I.ty Sf.entry_iter2 ?_ (Sf.args_iter _));show wpAny _ _ (ret (.ref it)) _ _ s;exact wpAny_pure ⟨_,rfl, "set_iterator",_,I.ty,Sf.slot_next.lookup,h⟩
theorem IsSI.at{h h':Heap}(x:IsSI h it r j i n ep)(e:∀ o,h.get? it=some o→h'.get? it=some o):IsSI h' it r j i n ep:=let ⟨o,ho,q⟩:=x;⟨o,e _ ho,q⟩
theorem SetP.at{h h':Heap}(x:SetP w h r es ep t)(e:∀ o,h.get? r=some o→h'.get? r=some o):SetP w h' r es ep t:=⟨e _ x.at_,x.fit,x.plain,x.led,x.ris,x.few⟩
theorem pick_len{α:Type}(f:Nat→Nat):∀ (n k:Nat) (l:List α) (out:Array α),l.length=n→(pickOrder.go f n k l out).size=out.size+n
 |0,k,l,out,h=>rfl
 |n+1,k,l,out,h=>by
  unfold pickOrder.go;have hl:f k % l.length < l.length:=Nat.mod_lt _ (by omega)
  rw[List.getElem?_eq_getElem hl];dsimp only;rw[pick_len f n (k+1) _ _ (by rw[List.length_eraseIdx,if_pos hl];omega),Array.size_push]
  omega
theorem wk_len:(wkS w r ep es).length=es.size:=by
 unfold wkS;rw[List.length_map];split
 ·rw[Array.length_toList]
  unfold pickOrder;rw[pick_len _ _ _ _ _ (Array.length_toList ..)];simp
 ·rw[Array.length_toList]
theorem SetP.walks(hh:A.handled=none)(I:Addr)(hne:r≠I):Walks prog w A I [I,r] [I] es.size (fun i v=>(wkS w r ep es)[i]?=some v) (fun i h=>IsSI h I r (slS w t i) i es.size ep∧SetP w h r es ep t∧i≤es.size) where
 sub:=fun b hb=>by simp at hb;simp[hb]
 frame:=fun _ _ _ st hk=>⟨st.1.at fun o e=>hk I (by simp) o e,st.2.1.at fun o e=>hk r (by simp) o e,st.2.2⟩
 item:=fun i s Q E hi st hQ=>by
  obtain⟨v,hv⟩:∃ v,(wkS w r ep es)[i]?=some v:=⟨_,List.getElem?_eq_getElem (by rw[wk_len];exact hi)⟩
  refine st.2.1.item st.1 hv (Nat.le_of_lt hi) fun h' hit' hs'=>?_
  exact hQ v h' s.toks hv ⟨hit',st.2.1.at fun o e=>by rw[hs'.2 r hne];exact e,hi⟩ fun b o hb e=>hs'.extBut b o (fun h=>hb (by simp[h])) e
 done:=fun s Q E st hQ=>st.2.1.fin hh st.1 (List.getElem?_eq_none (by rw[wk_len];exact Nat.le_refl _)) (Nat.le_refl _) fun h' he'=>hQ h' s.toks fun b o hb e=>he' b o (fun h=>hb (by simp[h])) e
 self:=fun _ _ _ _ st hQ=>st.1.self hQ
theorem set_hint(hT:s.TypeIs (.ref r) "set"){Q:Bool→Shared→Prop}(h:Q false s):wpAny (model prog w) A (Builtin.List.listLengthHint (.ref r)) Q E s:=by
 unfold Builtin.List.listLengthHint;refine wpAny_bind (wpAny_specialOf hT PySem.F.slot_set_len.lookup ?_);generalize hid:("set.__len__":String)=id0
 wp_delta
 rw[show splitId id0=some ("set", "__len__") from by subst hid;decide +kernel]
 subst hid;refine wpAny_bind (wpAny_isInstance (T := "set") (b:=true) hT (by rw[isSubtype_type];kernel_rfl) ?_)
 refine wpAny_ite_split (fun hab=>absurd hab (by decide)) (fun _=>?_)
 refine wpAny_ite_split (fun _=>?_) (fun hab=>absurd (by decide +kernel) hab)
 refine wpAny_bind (wpAny_typeOf hT ?_);exact wpAny_pure h
theorem set_src:PySem.W.KdlSrc prog w "set" r r es.size (fun i v=>(wkS w r ep es)[i]?=some v) (fun h=>SetP w h r es ep t) where
 type:=fun s hm=>⟨_,hm.at_,rfl⟩
 there:=fun _ hm=>⟨Heap.lt_size hm.at_,Heap.lt_size hm.at_⟩
 keep:=fun _ _ hm hk=>hm.at fun o e=>hk r (.inl rfl) o e
 notList:=by decide
 notTuple:=by decide
 hint:=fun _ _ s _ hm hq=>set_hint ⟨_,hm.at_,rfl⟩ hq
 iter:=fun _ s hh hm=>⟨_,_,(fun _ _ hq=>SetP.iter hm hq),SetP.walks hh _ (Nat.ne_of_lt (Heap.lt_size hm.at_)),⟨⟨_,Heap.get?_push_size _ rfl,rfl,by unfold slS;simp⟩,hm.at fun o e=>Heap.get?_push_of_some _ e,Nat.zero_le _⟩⟩
end
end PySem


namespace PySem
namespace Sf
open SetTable
variable {t:SetTable}{h:Int}
noncomputable def stp(j:Nat):Nat:=(j * 5+1) % 8
noncomputable def itr:Nat→Nat→Nat
 |0,j=>j
 |m+1,j=>itr m (stp j)
theorem reach:∀ j,j < 8→∀ q,q < 8→∃ m,m < 8∧itr m j=q:=by decide
theorem adv(hm:t.mask=7)(j pt:Nat):t.advance ⟨j,0,j,pt,none⟩=⟨(j * 5+1+pt / 32) % 8,0,(j * 5+1+pt / 32) % 8,pt / 32,none⟩:=by
 unfold SetTable.advance leap runEnd;rw[hm];have:(j * 5+1+pt / 32) % (7+1) < 8:=Nat.mod_lt _ (by decide)
 have n:¬((j * 5+1+pt / 32) % (7+1)+9≤7):=by omega
 simp[n]
theorem slot_cases(hd:t.dummies=#[])(j:Nat):t.slot j=.empty∨∃ i,t.slot j=.live i:=by
 unfold SetTable.slot;rw[hd];dsimp only;split
 ·exact .inr ⟨_,rfl⟩
 ·rename_i hh
  rw[if_neg (by unfold has;simp)]
  exact .inl rfl
theorem go_step(hm:t.mask=7)(hd:t.dummies=#[]){f j pt:Nat}(hl:¬t.slot j=.empty):probe.go t (fun _=>h+1) h (f+1) ⟨j,0,j,pt,none⟩=probe.go t (fun _=>h+1) h f ⟨(j * 5+1+pt / 32) % 8,0,(j * 5+1+pt / 32) % 8,pt / 32,none⟩:=by
 rcases slot_cases hd j with q|⟨i,q⟩
 ·exact absurd q hl
 ·rw[probe.go]
  simp only[q];rw[if_neg (by simp;omega),adv hm]
theorem go_empty{f j pt:Nat}(he:t.slot j=.empty):probe.go t (fun _=>h+1) h (f+1) ⟨j,0,j,pt,none⟩=some (.empty j none):=by
 rw[probe.go];simp only[he]
theorem go_zero(hm:t.mask=7)(hd:t.dummies=#[]):∀ (m f j:Nat),m < f→t.slot (itr m j)=.empty→∃ q,probe.go t (fun _=>h+1) h f ⟨j,0,j,0,none⟩=some (.empty q none)∧t.slot q=.empty
 |m,0,j,hf,_=>absurd hf (by omega)
 |m,f+1,j,hf,he=>by
  by_cases q:t.slot j=.empty
  ·exact⟨j,go_empty q,q⟩
  ·rw[go_step hm hd q]
   match m,hf,he with
   |0,_,he=>exact absurd he q
   |m+1,hf,he=>exact go_zero hm hd m f _ (by omega) he
theorem go_all(hm:t.mask=7)(hd:t.dummies=#[]){q0:Nat}(h0:q0 < 8)(he:t.slot q0=.empty):∀ (k pt f j:Nat),pt < 32 ^ k→k+8≤f→j < 8→∃ q,probe.go t (fun _=>h+1) h f ⟨j,0,j,pt,none⟩=some (.empty q none)∧t.slot q=.empty
 |0,pt,f,j,hp,hf,hj=>by
  have:pt=0:=by simpa using hp
  subst this;obtain⟨m,hm',e⟩:=reach j hj q0 h0;exact go_zero hm hd m f j (by omega) (by rw[e];exact he)
 |k+1,pt,0,j,hp,hf,hj=>absurd hf (by omega)
 |k+1,pt,f+1,j,hp,hf,hj=>by
  by_cases q:t.slot j=.empty
  ·exact⟨j,go_empty q,q⟩
  ·rw[go_step hm hd q]
   exact go_all hm hd h0 he k _ f _ (by rw[Nat.pow_succ]at hp;exact Nat.div_lt_of_lt_mul (by rw[Nat.mul_comm];exact hp)) (by omega) (Nat.mod_lt _ (by decide))
theorem free_some(hm:t.mask=7)(hd:t.dummies=#[])(he:∃ q,q < 8∧t.slot q=.empty):∃ q,t.freeSlot h=some (q,false)∧t.slot q=.empty:=by
 obtain⟨q0,h0,he⟩:=he;have hb:bits h < 32 ^ 13:=by
  unfold bits;have h1:=Int.emod_nonneg h (show(2 ^ 64:Int)≠0 by decide)
  have h2:=Int.emod_lt_of_pos h (show(0:Int) < 2 ^ 64 by decide)
  omega
 have hj:bits h % 8 < 8:=Nat.mod_lt _ (by decide)
 obtain⟨q,e,eq⟩:=go_all (t:=t) (h:=h) hm hd h0 he 13 (bits h) 220 (bits h % 8) hb (by decide) hj
 refine⟨q,?_,eq⟩;have es:t.probeStart h=⟨bits h % 8,0,bits h % 8,bits h,none⟩:=by
  unfold probeStart runEnd;rw[hm];have n:¬(bits h % (7+1)+9≤7):=by omega
  simp[n]
 unfold SetTable.freeSlot probe turns;rw[es,hm];have e:probe.go t (fun _=>h+1) h (10 * (7+15)) ⟨bits h % 8,0,bits h % 8,bits h,none⟩=some (.empty q none):=e
 rw[e];rfl
end Sf
end PySem


namespace PySem
namespace Sf
open SetTable
variable {t:SetTable}{h:Int}
def Ris(p:Array Nat):Prop:=∀ (i j a b:Nat),p[i]?=some a→p[j]?=some b→i < j→a < b
theorem slot_mem(hd:t.dummies=#[]){j:Nat}(hn:j∉t.place.toList):t.slot j=.empty:=by
 rcases slot_cases hd j with q|⟨i,q⟩
 ·exact q
 ·exfalso
  unfold SetTable.slot at q;dsimp only at q;split at q
  ·rename_i e
   have e:=beq_iff_eq.mp e;exact hn (Array.mem_toList_iff.mpr (Array.mem_of_getElem? e))
  ·split at q<;>cases q
theorem has_empty(hd:t.dummies=#[])(h2:t.place.size≤2):∃ q,q < 8∧t.slot q=.empty:=by
 have:∃ q,q < 8∧q∉t.place.toList:=by
  obtain⟨mask,⟨ps⟩,du,fi,le,mo,pl⟩:=t;simp only[List.size_toArray]at h2
  match ps,h2 with
  |[],_=>exact⟨0,by decide,by simp⟩
  |[a],_=>
   by_cases z:a=0
   ·exact⟨1,by decide,by simp;omega⟩
   ·exact⟨0,by decide,by simp;omega⟩
  |[a,b],_=>
   by_cases z:a=0∨b=0
   ·by_cases z1:a=1∨b=1
    ·exact⟨2,by decide,by simp;omega⟩
    ·exact⟨1,by decide,by simp;omega⟩
   ·exact⟨0,by decide,by simp;omega⟩
 obtain⟨q,h1,h2⟩:=this;exact⟨q,h1,slot_mem hd h2⟩
theorem put_ris(hr:Ris t.place)(h2:t.place.size≤2){q:Nat}(he:t.slot q=.empty):Ris (insertAt t.place (below t.place q) q):=by
 have hne:∀ i,t.place[i]?=some q→below t.place q≠i:=fun i hi e=>by
  unfold SetTable.slot at he;dsimp only at he;rw[if_pos (by rw[e,hi];exact beq_self_eq_true _)]at he
  cases he
 obtain⟨mask,⟨ps⟩,du,fi,le,mo,pl⟩:=t;simp only[List.size_toArray]at h2;dsimp only at hr hne ⊢;have fin:∀ l:List Nat,l.Pairwise (· < ·)→Ris l.toArray:=fun l hl i j a b h1 h2 h3=>by
  simp only[List.getElem?_toArray]at h1 h2;obtain⟨g1,e1⟩:=List.getElem?_eq_some_iff.mp h1;obtain⟨g2,e2⟩:=List.getElem?_eq_some_iff.mp h2;have:=List.pairwise_iff_getElem.mp hl i j g1 g2 h3;omega
 match ps,h2 with
 |[],_=>exact fin [q] (by simp)
 |[a],_=>
  by_cases z:a < q
  ·have e:insertAt #[a] (below #[a] q) q=[a,q].toArray:=by simp[below,below.go,z,insertAt]
   rw[e];exact fin _ (by simp;exact z)
  ·have n:a≠q:=fun z1=>hne 0 (by simp[z1]) (by simp[below,below.go,z])
   have e:insertAt #[a] (below #[a] q) q=[q,a].toArray:=by simp[below,below.go,z,insertAt]
   rw[e];exact fin _ (by simp;omega)
 |[a,b],_=>
  have hab:a < b:=hr 0 1 a b rfl rfl (by decide)
  by_cases z:b < q
  ·have e:insertAt #[a,b] (below #[a,b] q) q=[a,b,q].toArray:=by simp[below,below.go,z,insertAt]
   rw[e];exact fin _ (by simp;omega)
  ·by_cases z2:a < q
   ·have n:b≠q:=fun z1=>hne 1 (by simp[z1]) (by simp[below,below.go,z,z2])
    have e:insertAt #[a,b] (below #[a,b] q) q=[a,q,b].toArray:=by simp[below,below.go,z,z2,insertAt]
    rw[e];exact fin _ (by simp;omega)
   ·have n:a≠q:=fun z1=>hne 0 (by simp[z1]) (by simp[below,below.go,z,z2])
    have e:insertAt #[a,b] (below #[a,b] q) q=[q,a,b].toArray:=by simp[below,below.go,z,z2,insertAt]
    rw[e];exact fin _ (by simp;omega)
theorem lay_some(hm:t.mask=7)(hd:t.dummies=#[])(hr:Ris t.place)(h2:t.place.size≤2){es:Array (Int×Value)}(hz:t.place.size=es.size)(x:Value) :
  ∃ es1 t1,layNew t es h x=(es1,t1,false,false)∧t1.mask=7∧t1.dummies=#[]∧Ris t1.place∧t1.plain=t.plain∧t1.led=t.led∧t1.place.size=es.size+1:=by
 obtain⟨q,e,he⟩:=free_some (h:=h) hm hd (has_empty hd h2);have hs:(insertAt t.place (below t.place q) q).size=t.place.size+1:=by
  have:=SetTable.insertAt_perm t.place (below t.place q) q;have:=this.length_eq;simpa using this
 have hs2:(insertAt es (below t.place q) (h,x)).size=es.size+1:=by
  have:=SetTable.insertAt_perm es (below t.place q) (h,x);have:=this.length_eq;simpa using this
 have hh:has t.dummies q=false:=by rw[hd];unfold has;simp
 have hf:({ t with place:=insertAt t.place (below t.place q) q,dummies:=t.dummies }:SetTable).fits (insertAt es (below t.place q) (h,x)).size=true:=by
  unfold SetTable.fits SetTable.fill;rw[hs2];simp only[hs,hd,hm,hz];simp;omega
 refine⟨insertAt es (below t.place q) (h,x),{ t with place:=insertAt t.place (below t.place q) q,dummies:=t.dummies },?_,hm,hd,put_ris hr h2 he,rfl,rfl,by show(insertAt t.place (below t.place q) q).size=_;rw[hs,hz]⟩
 unfold layNew;rw[e];dsimp only;unfold SetTable.put;dsimp only;rw[hh];simp only[Bool.false_eq_true,if_false];unfold SetTable.orStandIn;rw[if_pos hf,hf];rfl
end Sf
end PySem


namespace PySem
def SetK(prog:Program)(w:World)(h:Heap)(r:Addr)(ks:List Int):Prop:=∃ es ep t,SetP w h r es ep t∧t.mask=7∧t.dummies=#[]∧ElemsOf (intKind prog w) es.toList∧(∃ tks:List Tok,tks.length=ks.length∧es.toList.map (·.2)=(ks.zip tks).map fun p=>Value.int p.1 p.2)∧ks.Nodup
section
variable {prog:Program}{w:World}{A:Around}{E:Value→Shared→Prop}{s:Shared}{r:Addr}{ks:List Int}{k:Int}{tk:Tok}
theorem zip_vals{tks:List Tok}(hl:tks.length=ks.length){v:Value}:v∈(ks.zip tks).map (fun p=>Value.int p.1 p.2)→∃ k t,v=.int k t∧k∈ks:=fun h=>by
 obtain⟨⟨a,b⟩,h1,rfl⟩:=List.mem_map.mp h;exact⟨a,b,rfl,(List.of_mem_zip h1).1⟩
theorem vals_zip{tks:List Tok}(hl:tks.length=ks.length){k:Int}(h:k∈ks):∃ t,Value.int k t∈(ks.zip tks).map (fun p=>Value.int p.1 p.2):=by
 obtain⟨i,hi,e⟩:=List.mem_iff_getElem.mp h;refine⟨tks[i]'(by omega),List.mem_map.mpr ⟨(ks[i],tks[i]'(by omega)),List.mem_iff_getElem.mpr ⟨i,by simp;omega,by simp⟩,by rw[e]⟩⟩
theorem setK_add{Q:Bool→Shared→Prop}(hS:SetK prog w s.heap r ks)(hl:ks.length≤2)(h:∀ h' ks' b,Heap.SameBut r s.heap h'→SetK prog w h' r ks'→(∀ q,q∈ks'↔q∈ks∨q=k)→ks'.length≤ks.length+1→Q b { s with heap:=h' }) :
  wpAny (model prog w) A (setAddHashed r (.int k tk) ((intKind prog w).hash k)) Q E s:=by
 obtain⟨es,ep,t,x,hm,hd,hel,⟨tks,hlt,hv⟩,nd⟩:=id hS;have hsz:es.size=ks.length:=by
  have:=congrArg List.length hv;simp only[List.length_map,List.length_zip,Array.length_toList]at this;omega
 have hkey:=intKind_is prog w k tk;have hb:es.size < scanBound:=by unfold scanBound;omega
 unfold setAddHashed setAddHashedIn;refine wpAny_holding (wpAny_bind (x.state ?_));dsimp only;rw[byScan_of (knd:=intKind prog w) rfl hb hel];simp only[↓reduceIte];unfold setAddByScan;refine wpAny_bind ?_;refine wpAny_bind (wpAny_rule ?_);refine wpAny_bind (wpAny_setScan_of hkey x.at_ rfl x.fit hel ?_);cases hr:List.findIdx? (fun e=>(intKind prog w).is k e.2) es.toList with
 |some j=>
  dsimp only;obtain⟨hj,hpj,_⟩:=List.findIdx?_eq_some_iff_getElem.mp hr;have hk:k∈ks:=by
   have hm1:es.toList[j].2∈es.toList.map (·.2):=List.mem_map.mpr ⟨_,List.getElem_mem hj,rfl⟩;rw[hv]at hm1;obtain⟨k',t',e,hk'⟩:=zip_vals hlt hm1;rw[e]at hpj;have:k'=k:=by simpa[intKind,Value.isInt] using hpj
   rw[←this];exact hk'
  refine wpAny_pure (wpAny_pure ?_);have e:s={ s with heap:=s.heap }:=by cases s;rfl
  rw[e];exact h s.heap ks _ (Heap.SameBut.refl r s.heap) hS (fun q=>⟨.inl,fun z=>z.elim id fun e=>e ▸ hk⟩) (Nat.le_succ _)
 |none=>
  dsimp only;have hk:k∉ks:=fun hk=>by
   obtain⟨t',ht⟩:=vals_zip hlt hk;rw[←hv]at ht;obtain⟨e,he,e2⟩:=List.mem_map.mp ht;have:=List.findIdx?_eq_none_iff.mp hr e he;rw[e2,intKind_is]at this;cases this
  have hperm:=layNew_perm t es ((intKind prog w).hash k) (.int k tk);have hfits:=layNew_fits t es ((intKind prog w).hash k) (.int k tk);obtain⟨es1,t1,hL,m1,d1,r1,p1,l1,z1⟩:=Sf.lay_some (h:=(intKind prog w).hash k) hm hd x.ris (by rw[x.psize,hsz];exact hl) x.psize (.int k tk)
  rw[hL]at hperm hfits ⊢;dsimp only at hperm hfits ⊢;rw[Array.toList_push]at hperm;have hel1:ElemsOf (intKind prog w) es1.toList:=(hel.push hkey rfl).perm hperm;refine wpAny_bind (wpAny_of_eq (a:=()) rfl ?_);rw[p1,x.plain];simp only[↓reduceIte];refine wpAny_bind ?_;rw[hashByValue_scannable 8 rfl];refine wpAny_pure ?_;have hs1:es1.size=es.size+1:=by rw[←Array.length_toList,hperm.length_eq,List.length_append,Array.length_toList];rfl
  have nf:t1.tooFull=false:=by
   unfold SetTable.tooFull SetTable.fill;rw[m1,d1,z1];simp;omega
  simp only[plainKind,↓reduceIte,nf,Bool.and_false,Bool.false_eq_true];refine wpAny_bind (wpAny_storeSet_of x.at_ rfl ?_ (fits_of_scanBound (by unfold scanBound;omega)))
  refine wpAny_pure (wpAny_pure ?_);have g:=Heap.get?_update_self (Obj.putSet es1 t1) x.at_ rfl;rw[putSet_of es1 t1 rfl]at g
  -- the numbers in their new order
  obtain⟨ks',tks',hl',hp',e'⟩:∃ (ks':List Int) (tks':List Tok),tks'.length=ks'.length∧List.Perm ks' (ks++[k])∧es1.toList.map (·.2)=(ks'.zip tks').map fun p=>Value.int p.1 p.2:=by
   have hv1:List.Perm (es1.toList.map (·.2)) (((ks++[k]).zip (tks++[tk])).map fun p=>Value.int p.1 p.2):=by
    have:=hperm.map (·.2);rw[List.map_append,hv]at this;rw[List.zip_append hlt.symm,List.map_append];exact this
   have hall:∀ v∈es1.toList.map (·.2),∃ k t,v=Value.int k t:=fun v hv=>by
    obtain⟨k',t',e,_⟩:=zip_vals (by simp[hlt]) (hv1.mem_iff.mp hv)
    exact⟨k',t',e⟩
   have gen:∀ l:List Value,(∀ v∈l,∃ k t,v=Value.int k t)→∃ (a:List Int) (b:List Tok),b.length=a.length∧l=(a.zip b).map fun p=>Value.int p.1 p.2:=fun l=>by
    induction l with
    |nil=>exact fun _=>⟨[],[],rfl,rfl⟩
    |cons v l ih=>
     intro hh;obtain⟨a,b,h1,h2⟩:=ih fun q hq=>hh q (List.mem_cons_of_mem _ hq)
     obtain⟨k',t',e⟩:=hh v List.mem_cons_self;exact⟨k' :: a,t' :: b,by simp[h1],by rw[h2,e];rfl⟩
   obtain⟨a,b,h1,h2⟩:=gen _ hall;refine⟨a,b,h1,?_,h2⟩;rw[h2]at hv1;have pk:∀ {a:List Int}{b:List Tok},b.length=a.length→((a.zip b).map fun p=>Value.int p.1 p.2).filterMap (fun v=>match v with|.int k _=>some k|_=>none)=a:=fun {a}=>by
    induction a with
    |nil=>intro b _;rfl
    |cons q a ih=>
     intro b hb
     match b,hb with
     |c :: b,hb=>
      exact congrArg (q :: ·) (ih (b:=b) (by simpa using hb))
   have:=hv1.filterMap (fun v=>match v with|.int k _=>some k|_=>none)
   rw[pk h1,pk (by simp[hlt])]at this
   exact this
  refine h _ ks' _ (Heap.SameBut.update ..) ⟨es1,ep+1,t1,⟨g,hfits,p1.trans x.plain,fun z=>l1.trans (x.led z),r1,by omega⟩,m1,d1,hel1,⟨tks',hl',e'⟩,hp'.nodup_iff.mpr ?_⟩ (fun q=>?_) ?_
  ·exact List.nodup_append.mpr ⟨nd,by simp,fun a ha b hb e=>hk (by rw[List.mem_singleton.mp hb]at e;rw[←e];exact ha)⟩
  ·rw[hp'.mem_iff,List.mem_append,List.mem_singleton]
  ·rw[hp'.length_eq,List.length_append];exact Nat.le_refl _
end
end PySem


namespace PySem
section
open PyProof.Rows
variable {prog:Program}{w:World}{A:Around}{R:Result→Shared→Prop}{I:Addr}{fp wr:List Addr}{G:Array GenState→Array GenState→Prop}{n:Nat}{P:Nat→Value→Prop}{St:Nat→Shared→Prop}
theorem SetK.at{h h':Heap}{r:Addr}{ks:List Int}(x:SetK prog w h r ks)(e:∀ o,h.get? r=some o→h'.get? r=some o):SetK prog w h' r ks:=by
 obtain⟨es,ep,t,a,q⟩:=x;exact⟨es,ep,t,a.at e,q⟩
theorem updK(W:WalksS prog w A.in1 I fp wr G n P St)(S:Addr)(hSf:S∉fp)(val:Nat→Int)(hval:∀ i v,P i v→∃ t,v=.int (val i) t)(hb:n≤3) :
  ∀ (k i:Nat) (s:Shared) (ks:List Int),n - i=k→i≤n→St i s→SetK prog w s.heap S ks→(∀ q,q∈ks↔∃ j,j < i∧val j=q)→ks.length≤i→
   (∀ s' ks',Moved (S :: wr) G s s'→SetK prog w s'.heap S ks'→(∀ q,q∈ks'↔∃ j,j < n∧val j=q)→R (.ok (.ret .none)) s')→
   codeAny (model prog w) A (.builtin "set.update.loop" ⟨[.ref S,.ref I],[]⟩) R s:=by
 have hSw:S∉wr:=fun h=>hSf (W.sub _ h)
 have hsub:∀ b∈wr,b∈S :: wr:=fun b hb=>List.mem_cons_of_mem _ hb
 intro k
 induction k with
 |zero=>
  intro i s ks hk hi hst hS hq hl hR;have hin:i=n:=by omega
  subst hin;refine codeAny_builtin F.entry_set_update_loop ?_;rw[Around.under_plainId F.plain_set_update_loop _];show wpAny _ A.in1 (pyNext (.ref I) >>= _) _ _ s;refine wpAny_bind (W.done s _ _ hst fun s' hm=>?_)
  show wpAny _ A.in1 (ret Value.none) _ _ s';exact wpAny_pure (hR s' ks (hm.mono hsub) (hS.at fun o e=>hm.heap S _ hSw e) hq)
 |succ k ih=>
  intro i s ks hk hi hst hS hq hl hR;have hlt:i < n:=by omega
  refine codeAny_builtin F.entry_set_update_loop ?_;rw[Around.under_plainId F.plain_set_update_loop _];show wpAny _ A.in1 (pyNext (.ref I) >>= _) _ _ s;refine wpAny_bind (W.item i s _ _ hlt hst fun v s' hP hst' hm=>?_)
  obtain⟨t,rfl⟩:=hval i v hP;have hS':SetK prog w s'.heap S ks:=hS.at fun o e=>hm.heap S _ hSw e
  show wpAny _ A.in1 (holding [Value.int (val i) t] (setAdd S (.int (val i) t)) >>= _) _ _ s';refine wpAny_bind (wpAny_holding ?_);unfold setAdd;refine wpAny_holding ?_;refine wpAny_bind ((intKind prog w).pyHash (k:=val i) (intKind_is _ _ _ _) ?_);refine setK_add (s:={ s' with toks:=s'.toks+1 }) hS' (by omega) fun h' ks' b hsb hS2 hq2 hl2=>?_
  refine wpAny_pure ⟨plainId_quiet F.plain_set_update_loop _,ih (i+1) _ ks' (by omega) hlt (W.frame _ s' _ _ hst' (Nat.le_succ _) fun b hb o e=>?_) hS2 (fun q=>?_) (by omega) fun s'' ks'' hm'' hS'' hq''=>?_⟩
  ·rw[hsb.2 b (fun h:b=S=>hSf (by rw[←h];exact hb))];exact e
  ·rw[hq2,hq]
   constructor
   ·rintro(⟨j,h1,h2⟩|rfl)
    ·exact⟨j,by omega,h2⟩
    ·exact⟨i,by omega,rfl⟩
   ·rintro⟨j,h1,h2⟩
    by_cases z:j=i
    ·subst z;exact .inr h2.symm
    ·exact .inl ⟨j,by omega,h2⟩
  ·refine hR s'' ks'' (Moved.trans W.gtrans ((hm.mono hsub).then_heap (Nat.le_succ _) fun b o hb e=>?_) hm'') hS'' hq''
   rw[hsb.2 b (fun h:b=S=>hb (by rw[h];exact List.mem_cons_self))];exact e
end
section
variable {prog:Program}{w:World}{A:Around}{E:Value→Shared→Prop}{s:Shared}
noncomputable abbrev setO(w:World):Obj:={ cls:=.type "set",dict:=none,data:=.set #[] 0 (.fresh 0 0 (!w.params.followText "set-order")) }
theorem newK(a:Value){Q₁:Value→Shared→Prop}(h:Q₁ (.ref s.heap.objs.size) { s with heap:=s.heap.push (setO w) }) :
  codeAny (model prog w) A (.call (.builtin "set.__new__") ⟨[.type "set",a],[]⟩) (wants Q₁ E) s:=by
 refine codeAny_of_tree ?_;show wpAny _ A.in1 (do checkBuiltinCall "set.__new__" ⟨[.type "set",a],[]⟩;again (.builtin "set.__new__" ⟨[.type "set",a],[]⟩)) _ _ s;refine wpAny_bind (wpAny_of_eq (F.newCall_set_1 a) (wpAny_pure ⟨plainId_quiet F.plain_set_new _,codeAny_builtin F.entry_set_new ?_⟩));rw[Around.under_plainId F.plain_set_new _];unfold Builtin.«set.__new__» Builtin.Frozenset.newClass
 have hsub:=sub_set_self;obtain⟨hp,g,d,tk,os⟩:=s;dsimp only
 wp_walk
 refine wpAny_askSetting (wpAny_pure ?_);dsimp only;simp only[newObj];refine wpAny_bind (wpAny_alloc (wpAny_pure ?_));exact wpAny_pure h
theorem setK_new{h:Heap}{r:Addr}(g:h.get? r=some (setO w)):SetK prog w h r []:=
 ⟨#[],0,_,⟨g,rfl,rfl,fun z=>by show(!w.params.followText "set-order")=true;rw[z];rfl,fun i j a b h1=>by simp[SetTable.fresh]at h1,by decide⟩,rfl,rfl,fun e he=>by simp at he,⟨[],rfl,rfl⟩,List.nodup_nil⟩
end
end PySem


namespace PySem
section
variable {prog:Program}{w:World}{A:Around}{E:Value→Shared→Prop}{s:Shared}{l:Addr}{items:Array Value}{ns:List Int}
def MadeK(prog:Program)(w:World)(s:Shared)(ns:List Int)(m:Nat)(s':Shared):Prop:=∃ h' tk ks,s'={ s with heap:=h',toks:=tk }∧SetK prog w h' s.heap.objs.size ks∧(∀ q,q∈ks↔∃ j,j < m∧ns.getD j 0=q)∧∀ b o,b < s.heap.objs.size→s.heap.get? b=some o→h'.get? b=some o
theorem initK(hh:A.handled=none)(hl:s.heap.IsList l items)(hi:PyProof.Rows.IntsAre items.toList ns)(hb:items.size≤3) :
  codeAny (model prog w) A (.call (.builtin "set.__init__") ⟨[.ref s.heap.objs.size,.ref l],[]⟩) (wants (fun r s₂=>r=.none∧MadeK prog w s ns items.size s₂) E) { s with heap:=s.heap.push (setO w) }:=by
 have g0:(s.heap.push (setO w)).get? s.heap.objs.size=some (setO w):=Heap.get?_push_size _ rfl;have hT:Shared.TypeIs { s with heap:=s.heap.push (setO w) } (.ref s.heap.objs.size) "set":=⟨_,g0,rfl⟩
 refine codeAny_call_builtin F.called_set.init.plain F.entry_set_init (check_set_init_1 hT ?_);obtain⟨⟨oc,od,dt,sl⟩,hol,hcl,nl,hdl⟩:=hl;simp only at hcl hdl;subst hcl;subst hdl
 have hol':(s.heap.push (setO w)).get? l=some { cls:=.type "list",dict:=od,data:=.seq items nl,slots:=sl }:=Heap.get?_push_of_some _ hol;have q1:=F.sub_list_set;have q2:=F.sub_list_frozenset;have q3:(Value.type "list"==Value.type "dict")=false:=by decide
 have hl1:(s.heap.push (setO w)).IsList l items:=⟨_,hol',rfl,nl,rfl⟩;unfold Builtin.«set.__init__» noKeywords Builtin.Frozenset.updateFrom
 generalize hPI:pyIter=PI
 wp_walk
 subst hPI;refine wpAny_pyIter_list hl1 (wpAny_bind (wpAny_runValue ?_));have hlS:l < s.heap.objs.size:=Heap.lt_size hol;have nI:(s.heap.push (setO w)).objs.size=s.heap.objs.size+1:=Heap.size_push _ _;have hneI:l≠(s.heap.push (setO w)).objs.size:=by rw[nI];exact Nat.ne_of_lt (Nat.lt_succ_of_lt hlS)
 have hSf:s.heap.objs.size∉[(s.heap.push (setO w)).objs.size,l]:=by
  rw[nI];simp only[List.mem_cons,List.mem_singleton,List.not_mem_nil,or_false,not_or];exact⟨Nat.ne_of_lt (Nat.lt_succ_self _),Nat.ne_of_gt hlS⟩
 refine updK ((Walks.list (show A.in1.in1.handled=none by simp[hh]) _ l hneI items).toS) s.heap.objs.size hSf (fun i=>ns.getD i 0) (fun i v hv=>PyProof.Rows.IntsAre.int_at hi i v (by rw[Array.getElem?_toList];exact hv)) hb (items.size - 0) 0 _ [] (by omega) (Nat.zero_le _)
  ⟨⟨_,Heap.get?_push_size _ rfl,rfl,rfl⟩,(hl1.push _)⟩ (setK_new (Heap.get?_push_of_some _ g0)) (fun q=>⟨fun z=>absurd z List.not_mem_nil,fun⟨j,z,_⟩=>absurd z (Nat.not_lt_zero _)⟩) (Nat.le_refl _) fun s' ks hm hS' hq=>?_
 obtain⟨h',g',d',tk',os'⟩:=s';have eg:g'=s.gens:=hm.gens;have ed:d'=s.drawn:=hm.drawn;have eo:os'=s.os:=hm.os;subst eg;subst ed;subst eo
 show wpAny _ _ _ _ _ _;refine wpAny_pure ?_;show wpAny _ _ (ret Value.none) _ _ _;refine wpAny_pure ⟨rfl,h',tk',ks,rfl,hS',hq,fun b o hb e=>hm.heap b o ?_ (Heap.get?_push_of_some _ (Heap.get?_push_of_some _ e))⟩
 rw[nI];simp only[List.mem_cons,List.mem_singleton,List.not_mem_nil,or_false,not_or];exact⟨Nat.ne_of_lt hb,Nat.ne_of_lt (Nat.lt_succ_of_lt hb)⟩
theorem callK{Q:Value→Shared→Prop}(hh:A.handled=none)(hl:s.heap.IsList l items)(hi:PyProof.Rows.IntsAre items.toList ns)(hb:items.size≤3)(h:∀ s',MadeK prog w s ns items.size s'→Q (.ref s.heap.objs.size) s') :
  wpAny (model prog w) A (call (.type "set") [.ref l]) Q E s:=by
 obtain⟨c,tl,hmro⟩:=F.called_set.mro;have k1:=F.called_set.made;have k2:=F.called_set.sub;have k3:=F.called_set.notType;have k4:=F.called_set.canCreate;have k5:=F.typeCall_set_1 (.ref l);refine wpAny_call (codeAny_of_tree ?_);show wpAny _ _ (callAny (.type "set") _) _ _ _;refine wpAny_pure ⟨Code.quiet_builtin _ (by decide +kernel),codeAny_builtin F.entry_type_call ?_⟩
 rw[Around.under_plain (weight_type_call_type "set" [.ref l] []) rfl]
 repeat (any_goals (first|assumption|wp_step))
 refine codeAny_mono (newK (.ref l) (E:=E) (Q₁:=fun obj s₁=>obj=.ref s.heap.objs.size∧s₁={ s with heap:=s.heap.push (setO w) }) ⟨rfl,rfl⟩) fun r s₁ hr=>?_
 cases r with
 |error e=>exact hr
 |ok fl=>
  cases fl with
  |ret obj=>
   obtain⟨rfl,rfl⟩:=hr;have hT:Shared.TypeIs { s with heap:=s.heap.push (setO w) } (.ref s.heap.objs.size) "set":=⟨_,Heap.get?_push_size _ rfl,rfl⟩
   have hli:=F.called_set.init.lookup;have hbi:=F.called_set.init.bind (.ref s.heap.objs.size)
   repeat (any_goals (first|assumption|wp_step))
   refine codeAny_mono (initK (E:=E) (by simp[hh]) hl hi hb) fun r₂ s₂ hr₂=>?_
   cases r₂ with
   |error e=>exact hr₂
   |ok fl₂=>
    cases fl₂ with
    |ret r=>
     obtain⟨rfl,hm⟩:=hr₂
     repeat (any_goals (first|assumption|wp_step))
     exact h _ hm
    |next=>exact hr₂
    |brk=>exact hr₂
    |cont=>exact hr₂
  |next=>exact hr
  |brk=>exact hr
  |cont=>exact hr
end
end PySem


namespace PySem
section
open PyProof.Rows
theorem pick_perm{α:Type}(f:Nat→Nat):∀ (n k:Nat) (l:List α) (out:Array α),l.length=n→List.Perm (pickOrder.go f n k l out).toList (out.toList++l)
 |0,k,l,out,h=>by
  have:l=[]:=List.length_eq_zero_iff.mp h;subst this;rw[List.append_nil];exact .rfl
 |n+1,k,l,out,h=>by
  unfold pickOrder.go;have hl:f k % l.length < l.length:=Nat.mod_lt _ (by omega)
  rw[List.getElem?_eq_getElem hl];dsimp only;refine(pick_perm f n (k+1) _ _ (by rw[List.length_eraseIdx,if_pos hl];omega)).trans ?_
  rw[Array.toList_push,List.append_assoc];refine List.Perm.append_left _ ?_;have e:l=l.take (f k % l.length)++l[f k % l.length] :: l.drop (f k % l.length+1):=by rw[←List.drop_eq_getElem_cons hl,List.take_append_drop]
  rw[List.eraseIdx_eq_take_drop_succ]
  conv=>rhs;rw[e]
  show List.Perm (l[f k % l.length] :: (l.take (f k % l.length)++l.drop (f k % l.length+1))) _;exact List.perm_middle.symm
variable {prog:Program}{w:World}{A:Around}{E:Value→Shared→Prop}{s:Shared}{r:Addr}{ks:List Int}
theorem wk_perm{ep:Nat}{es:Array (Int×Value)}:List.Perm (wkS w r ep es) (es.toList.map (·.2)):=by
 unfold wkS;refine List.Perm.map _ ?_;split
 ·unfold pickOrder
  simpa using pick_perm (w.params.setOrder r ep) es.size 0 es.toList #[] (Array.length_toList ..)
 ·exact .rfl
theorem zip_ints:∀ {ks:List Int}{tks:List Tok},tks.length=ks.length→IntsAre ((ks.zip tks).map fun p=>Value.int p.1 p.2) ks
 |[],[],_=>.nil
 |k :: ks,t :: tks,h=>.cons k t (zip_ints (by simpa using h))
theorem perm_ints{vs us:List Value}{ks:List Int}(p:List.Perm vs us)(h:IntsAre us ks):∃ ks',IntsAre vs ks'∧ks'.Perm ks:=by
 induction p generalizing ks with
 |nil=>exact⟨ks,h,.rfl⟩
 |cons x _ ih=>
  cases h with
  |cons n t r=>
   obtain⟨a,h1,h2⟩:=ih r;exact⟨n :: a,.cons n t h1,h2.cons n⟩
 |swap x y l=>
  cases h with
  |cons n t r=>cases r with
   |cons m u r=>exact⟨m :: n :: _,.cons m u (.cons n t r),.swap ..⟩
 |trans _ _ ih1 ih2=>
  obtain⟨a,h1,h2⟩:=ih2 h;obtain⟨b,h3,h4⟩:=ih1 h1;exact⟨b,h3,h4.trans h2⟩
theorem sortK{Q:Value→Shared→Prop}(hh:A.handled=none)(hS:SetK prog w s.heap r ks)(h:∀ (h0 h':Heap) (tk:Nat) (D:Addr) (out:Array Value) (e:Nat) (ns:List Int),(∀ b o,s.heap.get? b=some o→h0.get? b=some o)→(∀ b o,h0.get? b=some o→h'.get? b=some o)→h0.objs.size≤D→h'.get? D=some (seqObj "list" out e)→IntsAre out.toList ns→ns.Perm ks→ns.Pairwise (·≤·)→Q (.ref D) { s with heap:=h',toks:=tk }) :
  wpAny (model prog w) A (call (.builtin "sorted") [.ref r]) Q E s:=by
 obtain⟨es,ep,t,x,_,_,_,⟨tks,hlt,hv⟩,_⟩:=hS;refine PySem.Calls.call_function_entry PyProof.Rows.kind_sorted PyProof.Rows.plain_sorted PyProof.Rows.entry_sorted (PyProof.Rows.args_sorted1 _) ?_;unfold Builtin.«sorted»
 refine wpAny_bind (m:=checkCount "sorted" 1 1 _) (wpAny_pure ?_);have h3:es.size≤sizeLine:=by have:=x.few;unfold sizeLine;omega
 refine wpAny_bind (PySem.W.kdu_collect (A:=A.in1) set_src (by simp[hh]) x h3 fun h' tk acc hk hacc=>?_)
 have hl:acc.toList.length=es.size:=by rw[Array.length_toList];exact hacc.1
 refine wpAny_bind (wpAny_newList ?_ (by rw[hl];exact h3))
 have ew:acc.toList=wkS w r ep es:=by
  refine List.ext_getElem (by rw[hl,wk_len]) fun j h1 h2=>?_
  have this:(wkS w r ep es)[j]?=some acc.toList[j]:=hacc.2 j acc.toList[j] (by rw[←Array.getElem?_toList];exact List.getElem?_eq_getElem h1)
  rw[List.getElem?_eq_getElem h2]at this;exact(Option.some.inj this).symm
 obtain⟨ks',i1,p1⟩:=perm_ints (vs:=acc.toList) (us:=es.toList.map (·.2)) (by rw[ew];exact wk_perm) (by rw[hv];exact zip_ints hlt)
 have hD:(h'.push (seqObj "list" acc.toList.toArray 0)).get? h'.objs.size=some (seqObj "list" acc.toList.toArray 0):=Heap.get?_push_size _ rfl;refine wpAny_bind (wpAny_holding (wpAny_call_entry slot_list_sort ⟨_,hD,rfl⟩ entry_list_sort (list_sort_tree hD i1 (by rw[hl];have:=x.few;omega) fun out ns' a1 a2 a3=>⟨_,rfl,?_⟩) (args_list_sort _)))
 obtain⟨e,he⟩:=sortedHeap_at (out:=out) hD;refine wpAny_pure ⟨_,rfl,h h' _ tk h'.objs.size out e ns' hk (fun b o hb=>?_) (Nat.le_refl _) he a1 (a2.trans p1) a3⟩
 have lt:=Heap.lt_size hb;rw[sortedHeap_old (Nat.ne_of_lt lt) (by rw[size_push'];exact Nat.lt_succ_of_lt lt)]
 exact Heap.get?_push_of_some _ hb
end
end PySem


namespace Dp
open PySem
noncomputable abbrev S(x:String):Str:=Str.ofString x

inductive D where
 |non|bl (b:Bool)|int (i:Int)|str (x:Str)|tup (xs:List D)|lst (id:Nat)|dct (ks:List Str) (vs:List D)|obj (i:Nat)|kt (ks:List Str)|dic (id:Nat)

noncomputable abbrev Env:=List (Option D)
noncomputable abbrev U1:=Bool×List D
noncomputable abbrev Za:=List U1
noncomputable abbrev Res:=Option (D×Za)
noncomputable abbrev Fn:=List D→Za→Res

noncomputable def o2{α β γ:Type}(f:α→β→γ):Option α→Option β→Option γ
 |some x,some y=>some (f x y)
 |_,_=>none
noncomputable def og{α:Type}(p:Prop)[Decidable p](o:Option α):Option α:=if p then o else none
mutual
noncomputable def Yc:D→D→Bool
 |.non,.non=>true
 |.bl a,.bl b=>a==b
 |.int a,.int b=>decide (a=b)
 |.str a,.str b=>decide (a=b)
 |.tup a,.tup b=>Ym a b
 |_,_=>false
noncomputable def Ym:List D→List D→Bool
 |[],[]=>true
 |x :: xs,y :: ys=>Yc x y&&Ym xs ys
 |_,_=>false
end
mutual
noncomputable def okD:Nat→D→Bool
 |_,.non=>true
 |_,.int _=>true
 |_,.str _=>true
 |n+1,.tup xs=>Xm n xs
 |_,_=>false
noncomputable def Xm:Nat→List D→Bool
 |_,[]=>true
 |n,x :: xs=>okD n x&&Xm n xs
end
inductive Sc where
 |non|bl (b:Bool)|int (i:Int)|str (x:Str)
noncomputable def scD:D→Option Sc
 |.non=>some .non
 |.bl b=>some (.bl b)
 |.int i=>some (.int i)
 |.str x=>some (.str x)
 |_=>none
noncomputable def ZcO:Sc→Sc→Option Bool
 |.non,.non=>some true
 |.non,.bl _=>some false
 |.non,.int _=>some false
 |.non,.str _=>some false
 |.bl _,.non=>some false
 |.bl a,.bl b=>some (a==b)
 |.bl _,.int _=>none
 |.bl _,.str _=>some false
 |.int _,.non=>some false
 |.int _,.bl _=>none
 |.int a,.int b=>some (decide (a=b))
 |.int _,.str _=>some false
 |.str _,.non=>some false
 |.str _,.bl _=>some false
 |.str _,.int _=>some false
 |.str a,.str b=>some (decide (a=b))
noncomputable def eqT(xs:List D):D→Option Bool
 |.tup ys=>if okD 8 (.tup xs)&&okD 8 (.tup ys) then some (Ym xs ys) else none
 |_=>none
noncomputable def eqD(x y:D):Option Bool:=match x with
 |.tup xs=>eqT xs y
 |x=>(o2 ZcO (scD x) (scD y)).join

inductive Ty where
 |int|bool|str|tuple
 deriving DecidableEq

set_option genInjectivity false in
inductive CE where
 |var (i:Nat)|cst (d:D)
 |bin (op:Operator) (a b:CE)|neg (a:CE)
 |cmp (op:CmpOp) (a b:CE)
 |not (a:CE)|and (a b:CE)|or (a b:CE)|ife (c a b:CE)
 |tupE (a:CE)|lstE (a:CE)|anil|acons (a r:CE)
 |ix (a b:CE)|slice (a lo hi:CE)|nop|part (a:CE)
 |call (f:Nat) (args:CE) (ds:List D)
 |len (a:CE)|tupleOf (a:CE)|listOf (a:CE)|intOf (a:CE)|min (a b:CE)|max (a b:CE)|isi (T:Ty) (a:CE)
 |comp (rng:Bool) (fr:List Nat) (it elt XO:CE)|comp2 (fr:List Nat) (it elt XO:CE)|compT (fr:List Nat) (it elt XO:CE)|lstR (a b:CE)|new (i:Nat)|meth (tab:List (Nat×Nat)) (o a:CE)|isc (l:List Nat) (a:CE)|tix (o a:CE)
 |rs (k:Bool) (a:CE)
 |inv (a:CE)|tupR (a:CE)|look (ks:List Str) (ds:List D) (a:CE)|dget (a k d:CE)|all (a:CE)|any (a:CE)|inR (ng:Bool) (a b:CE)
 |dict (ks:List Str) (a:CE)|dnew|strOf (a:CE)|joinE (a b:CE)|starts (a b:CE)|rng2 (a b:CE)|srt (a:CE)

set_option genInjectivity false in
inductive CS where
 |skip|seq (a b:CS)|ret (e:CE)|set (i:Nat) (e:CE)|app (i:Nat) (e:CE)|ext (i:Nat) (e:CE)|put (i:Nat) (k e:CE)
 |ite (c:CE) (a b:CS)|for1 (i:Nat) (rng:Bool) (it:CE) (b:CS)|for3 (i:Nat) (it:CE) (b:CS)|forP (i j:Nat) (it:CE) (b:CS)|forE (i j:Nat) (it:CE) (b:CS)|set2 (i j:Nat) (e:CE)|for4 (i j l:Nat) (it:CE) (b:CS)|for2 (i j:Nat) (it:CE) (b:CS)|whl (c:CE) (b:CS)|brk|cont|stop|set3 (i j l:Nat) (e:CE)|act (e:CE)|dput (i:Nat) (a b e:CE)|app2 (o e:CE)

noncomputable def Z8(i:Int):Bool:=decide (-(2 ^ 64) < i)&&decide (i < 2 ^ 64)
noncomputable def Zc:Nat:=1000000

noncomputable def J3(op:Operator)(i j:Int):Option Int:=
 match op with
 |.Add=>some (i+j)
 |.Sub=>some (i - j)
 |.Mult=>if Z8 i||Z8 j then some (i * j) else none
 |.FloorDiv=>if 0 < j∧j < 1073741824 then some (i / j) else if j < 0∧-1073741824 < j then some (i.fdiv j) else none
 |.Mod=>if 0 < j then some (i % j) else if j < 0 then some (i.fmod j) else none
 |_=>none
noncomputable def Xt:Operator→Bool
 |.Add=>true
 |_=>false
noncomputable def XE:Operator→Bool
 |.Mult=>true
 |_=>false
noncomputable def ZeS(a b:Nat)(st:Za):Res:=match st[a]?,st[b]? with
 |some (_,xs),some (_,ys)=>if xs.length+ys.length≤Zc then some (.lst st.length,st++[(true,xs++ys)]) else none
 |_,_=>none
noncomputable def ZfJ(a:Nat)(j:Int)(st:Za):Res:=match st[a]? with
 |some (true,[x])=>if j≤1000∧-1000≤j then some (.lst st.length,st++[(true,List.replicate j.toNat x)]) else none
 |_=>none
noncomputable def ZkY(xs:List D)(j:Int)(st:Za):Res:=match xs with
 |[x]=>if j≤1000∧-1000≤j then some (.tup (List.replicate j.toNat x),st) else none
 |_=>none
noncomputable def QT(op:Operator)(x y:D)(st:Za):Res:=
 match x,y with
 |.int i,.int j=>match J3 op i j with
  |some k=>some (.int k,st)
  |none=>none
 |.tup xs,.tup ys=>if Xt op=true∧xs.length+ys.length≤Zc then some (.tup (xs++ys),st) else none
 |.tup xs,.int j=>if XE op=true then ZkY xs j st else none
 |.lst a,.lst b=>if Xt op=true then ZeS a b st else none
 |.lst a,.int j=>if XE op=true then ZfJ a j st else none
 |.str x,.str y=>if Xt op=true∧x.length+y.length≤Zc then some (.str (x++y),st) else none
 |_,_=>none

noncomputable def ZiY(x k:Str):Bool:=!(PySem.Builtin.Str.occurrences x k 0 x.length 1).isEmpty
noncomputable def chS(x:Str):List Str:=x.cps.toList.map fun c=>⟨#[c]⟩
noncomputable def Zbe(_:Za)(_ _:List D):Option Bool:=none
noncomputable def ZbS(xs ys:List D):Option Bool:=if (xs.isEmpty||ys.isEmpty)=true then some (xs.isEmpty&&ys.isEmpty) else if Xm 7 xs&&Xm 7 ys then some (Ym xs ys) else none
noncomputable def ZiA(st:Za)(xs:List D):D→Option Bool
 |.tup ys=>(match eqT xs (.tup ys) with
  |some k=>some k
  |none=>Zbe st xs ys)
 |_=>none
noncomputable def Ziz(st:Za)(a:Nat):D→Option Bool
 |.lst b=>(o2 (fun(c d:U1)=>ZbS c.2 d.2) st[a]? st[b]?).join
 |_=>none
noncomputable def eqS(st:Za)(x y:D):Option Bool:=match x with
 |.lst a=>Ziz st a y
 |.tup xs=>ZiA st xs y
 |x=>eqD x y

noncomputable def XA:Int→List D→Option Bool
 |_,[]=>some false
 |k,.int i :: r=>(XA k r).map fun b=>decide (i=k)||b
 |_,_=>none
noncomputable def XB:Str→List D→Option Bool
 |_,[]=>some false
 |k,.str i :: r=>(XB k r).map fun b=>decide (i=k)||b
 |_,_=>none

noncomputable def Yp:List Str→List D→Str→Option D
 |k :: ks,v :: vs,x=>if k=x then some v else Yp ks vs x
 |_,_,_=>none
noncomputable def Zap(f:Int→Int→Bool):D→D→Option Bool
 |.int i,.int j=>some (f i j)
 |_,_=>none
noncomputable def ltD(x y:D):Option Bool:=Zap (fun i j=>decide (i < j)) x y
noncomputable def ltS(_:Za)(x y:D):Option Bool:=ltD x y
noncomputable def inS(st:Za)(x y:D):Option Bool:=match x,y with
 |.int k,.lst a=>match st[a]? with
  |some (_,xs)=>XA k xs
  |none=>none
 |.str k,.lst a=>match st[a]? with
  |some (_,xs)=>XB k xs
  |none=>none
 |.int k,.tup xs=>XA k xs
 |.str k,.tup xs=>XB k xs
 |.str k,.dct ks vs=>some (Yp ks vs k).isSome
 |.str k,.str x=>some (ZiY x k)
 |_,_=>none
noncomputable def niS(st:Za)(x y:D):Option Bool:=match y with
 |.dct _ _=>none
 |y=>(inS st x y).map not
noncomputable def isN:D→Option Bool
 |.non=>some true
 |.int _=>some false
 |.str _=>some false
 |.bl _=>some false
 |.tup _=>some false
 |.lst _=>some false
 |.dct _ _=>none
 |.obj _=>none
 |.kt _=>none
 |.dic _=>none
noncomputable def isB(b:Bool):D→Option Bool
 |.bl a=>some (a==b)
 |_=>none
noncomputable def isD(x:D):D→Option Bool
 |.non=>isN x
 |.bl b=>isB b x
 |_=>none
noncomputable def Zg1(op:CmpOp)(x y:D)(st:Za):Option Bool:=
 match op with
 |.Lt=>ltS st x y
 |.LtE=>Zap (fun i j=>decide (i≤j)) x y
 |.Gt=>Zap (fun i j=>decide (j < i)) x y
 |.GtE=>Zap (fun i j=>decide (j≤i)) x y
 |.Eq=>eqS st x y
 |.NotEq=>(eqS st x y).map not
 |.In=>inS st x y
 |.NotIn=>niS st x y
 |.Is=>isD x y
 |.IsNot=>(isD x y).map not

noncomputable def ixN(n:Nat)(i:Int):Option Nat:=if 0≤i then (if i < n then some i.toNat else none) else if -(n:Int)≤i then some (i+n).toNat else none
noncomputable def atD(xs:List D)(i:Int):Option D:=(ixN xs.length i).bind fun j=>xs[j]?
noncomputable def ixD(x y:D)(st:Za):Option D:=
 match x,y with
 |.tup xs,.int i=>atD xs i
 |.lst a,.int i=>match st[a]? with
  |some (_,xs)=>atD xs i
  |none=>none
 |.dct ks vs,.str k=>Yp ks vs k
 |.kt ks,.int i=>atD (ks.map .str) i
 |.str x,.int i=>if x.length≤Zc then atD ((chS x).map .str) i else none
 |_,_=>none

noncomputable def sIx(n d:Nat):Option Int→Nat
 |none=>d
 |some i=>if i < 0 then (i+n).toNat else Nat.min i.toNat n
noncomputable def ZbP(xs:List D)(lo hi:Option Int):List D:=(xs.drop (sIx xs.length 0 lo)).take (sIx xs.length xs.length hi - sIx xs.length 0 lo)
noncomputable def YR(x:D)(lo hi:Option Int)(st:Za):Res:=
 match x with
 |.tup xs=>if sIx xs.length 0 lo=0∧sIx xs.length xs.length hi=xs.length then some (.tup xs,st) else some (.tup (ZbP xs lo hi),st)
 |.lst a=>match st[a]? with
  |some (_,xs)=>some (.lst st.length,st++[(true,ZbP xs lo hi)])
  |none=>none
 |_=>none

noncomputable def Zfr(x:D)(st:Za):Option Int:=
 match x with
 |.tup xs=>some xs.length
 |.lst a=>match st[a]? with
  |some (_,xs)=>some xs.length
  |none=>none
 |.kt ks=>some ks.length
 |.str x=>if x.length≤Zc then some x.length else none
 |_=>none

noncomputable def Zfo(T:Ty):D→Option Bool
 |.int _=>some (decide (T=.int))
 |.bl _=>some (decide (T=.int)||decide (T=.bool))
 |.str _=>some (decide (T=.str))
 |.tup _=>some (decide (T=.tuple))
 |.non=>some false
 |_=>none

noncomputable def XT(rng:Bool)(x:D):Option (List D):=
 match rng,x with
 |true,.int n=>if n < 2 ^ 62∧-(2 ^ 62)≤n then some ((List.range n.toNat).map fun(k:Nat)=>D.int (k:Int)) else none
 |false,.tup xs=>some xs
 |_,_=>none

noncomputable def Xo(a b c:Int):Nat:=if 0 < c then (if a < b then ((b - a - 1) / c+1).toNat else 0) else (if b < a then ((a - b - 1) / (-c)+1).toNat else 0)
noncomputable def YA(a b c:Int):Bool:=decide ((-(2 ^ 30) < a∧a < 2 ^ 30)∧(-(2 ^ 30) < b∧b < 2 ^ 30)∧(c=1∨c=-1∨c=2∨c=3∨c=4))
noncomputable def Xn(a b c:Int):List Int:=(List.range (Xo a b c)).map fun(k:Nat)=>a+k * c
noncomputable def YS(ok:Za→Prop)(f:D→Za→Res)(c:D→Za→Res):List D→Za→Option (List D×Za)
 |[],st=>open Classical in if ok st then some ([],st) else none
 |x :: xs,st=>open Classical in if ok st then (match c x st with
  |some (.bl true,st1)=>match f x st1 with
   |some (y,st2)=>match YS ok f c xs st2 with
    |some (ys,st3)=>some (y :: ys,st3)
    |none=>none
   |none=>none
  |some (.bl false,st1)=>YS ok f c xs st1
  |_=>none) else none
noncomputable def Zbq(rng:Bool)(x:D)(st:Za):Option (List D×(Za→Prop)):=match XT rng x with
 |some xs=>some (xs,fun _=>True)
 |none=>match rng,x with
  |false,.lst a=>match st[a]? with
   |some c=>some (c.2,fun s=>s[a]?=some c)
   |none=>none
  |false,.dct [] [.int a,.int b]=>some ((Xn a b 1).map .int,fun _=>True)
  |_,_=>none

noncomputable def XQ:Nat→List D→List D
 |_,[]=>[]
 |k,x :: xs=>.tup [.int (k:Int),x] :: XQ (k+1) xs
noncomputable def UY(x:D)(st:Za):Option (List D×(Za→Prop)):=match x with
 |.tup xs=>some (XQ 0 xs,fun _=>True)
 |.lst a=>match st[a]? with
  |some c=>some (XQ 0 c.2,fun s=>s[a]?=some c)
  |none=>none
 |_=>none

noncomputable def ZbZ:D→Bool
 |.tup [_,_]=>true
 |_=>false
noncomputable def JP(x:D)(st:Za):Option (List D×(Za→Prop)):=match x with
 |.tup xs=>if xs.all ZbZ=true then some (xs,fun _=>True) else none
 |.lst a=>match st[a]? with
  |some c=>if c.2.all ZbZ=true then some (c.2,fun s=>s[a]?=some c) else none
  |none=>none
 |_=>none

noncomputable abbrev Ev:=Env→Za→Res
noncomputable def Yf(fa:Ev)(g:D→Za→Res):Ev:=fun ρ st=>match fa ρ st with
 |some (x,st1)=>g x st1
 |none=>none
noncomputable def Y9(fa fb:Ev)(g:D→D→Za→Res):Ev:=fun ρ st=>match fa ρ st with
 |some (x,st1)=>match fb ρ st1 with
  |some (y,st2)=>g x y st2
  |none=>none
 |none=>none
noncomputable def JF(fa fb fc:Ev)(g:D→D→D→Za→Res):Ev:=fun ρ st=>match fa ρ st with
 |some (x,st1)=>match fb ρ st1 with
  |some (y,st2)=>match fc ρ st2 with
   |some (z,st3)=>g x y z st3
   |none=>none
  |none=>none
 |none=>none
noncomputable def XO(fc ft ff:Ev):Ev:=fun ρ st=>match fc ρ st with
 |some (.bl true,st1)=>ft ρ st1
 |some (.bl false,st1)=>ff ρ st1
 |_=>none
noncomputable def WB(i:Nat):Ev:=fun ρ st=>match ρ[i]? with
 |some (some d)=>some (d,st)
 |_=>none
noncomputable def evC(d:D):Ev:=fun _ st=>some (d,st)
noncomputable def Zfv:D→Za→Res
 |.int i,st=>some (.int (-i),st)
 |_,_=>none
noncomputable def Zb8:D→Za→Res
 |.bl k,st=>some (.bl (!k),st)
 |_,_=>none
noncomputable def ZbM(op:CmpOp)(x y:D)(st:Za):Res:=match Zg1 op x y st with
 |some k=>some (.bl k,st)
 |none=>none
noncomputable def Us(i j k:Int):Option (List Int):=if i≤j∧j≤k then some (if i=j then (if j=k then [i] else [i,k]) else if j=k then [i,j] else [i,j,k]) else none
noncomputable def Zef:D→Za→Res
 |.tup [.int i,.int j,.int k],st=>(match Us i j k with
  |some l=>some (.lst st.length,st++[(true,l.map .int)])
  |none=>none)
 |_,_=>none
noncomputable def Zdm:D→Za→Res
 |.tup xs,st=>some (.lst st.length,st++[(true,xs)])
 |_,_=>none
noncomputable def W5:D→D→Za→Res
 |x,.tup xs,st=>if xs.length < 1000 then some (.tup (x :: xs),st) else none
 |_,_,_=>none
noncomputable def ixR(x y:D)(st:Za):Res:=match ixD x y st with
 |some d=>some (d,st)
 |none=>none
noncomputable def Ws:D→D→D→Za→Res
 |x,.non,.non,st=>YR x none none st
 |x,.int i,.non,st=>YR x (some i) none st
 |x,.non,.int j,st=>YR x none (some j) st
 |x,.int i,.int j,st=>YR x (some i) (some j) st
 |_,_,_,_=>none
noncomputable def Zbf:D→Za→Res
 |.int i,st=>some (.int i,st)
 |_,_=>none
noncomputable def QW(g:Fn)(ds:List D):D→Za→Res
 |.tup xs,st=>g (xs++ds) st
 |_,_=>none
noncomputable def Jm(x:D)(st:Za):Res:=match Zfr x st with
 |some n=>some (.int n,st)
 |none=>none
noncomputable def W4:D→Za→Res
 |.tup xs,st=>some (.tup xs,st)
 |.lst l,st=>match st[l]? with
  |some (_,xs)=>some (.tup xs,st)
  |none=>none
 |_,_=>none
noncomputable def UO:D→Za→Res
 |.tup xs,st=>some (.lst st.length,st++[(true,xs)])
 |.lst l,st=>match st[l]? with
  |some (_,xs)=>some (.lst st.length,st++[(true,xs)])
  |none=>none
 |_,_=>none
noncomputable def Zfl:D→Za→Res
 |.int i,st=>some (.int i,st)
 |.bl true,st=>some (.int 1,st)
 |.bl false,st=>some (.int 0,st)
 |_,_=>none
noncomputable def Zfu:D→D→Za→Res
 |.int i,.int j,st=>some (.int (if j < i then j else i),st)
 |_,_,_=>none
noncomputable def Zft:D→D→Za→Res
 |.int i,.int j,st=>some (.int (if j > i then j else i),st)
 |_,_,_=>none
noncomputable def Zaf(T:Ty)(x:D)(st:Za):Res:=match Zfo T x with
 |some k=>some (.bl k,st)
 |none=>none
noncomputable def ZhX:List D→Option (List D)
 |[.int i,.int j]=>some (if j < i then [.int j,.int i] else [.int i,.int j])
 |_=>none
noncomputable def rsL(k:Bool)(xs:List D):Option (List D):=if k then ZhX xs else some xs.reverse
noncomputable def rsD(k:Bool):D→Za→Res
 |.lst a,st=>match st[a]? with
  |some (_,xs)=>(match rsL k xs with
   |some ys=>some (.lst st.length,st++[(true,ys)])
   |none=>none)
  |none=>none
 |_,_=>none
noncomputable def Jn:D→D→Za→Res
 |.int a,.int b,st=>if YA a b 1=true∧b - a≤1000 then some (.lst st.length,st++[(true,(Xn a b 1).map .int)]) else none
 |_,_,_=>none
noncomputable def getD:D→D→D→Za→Res
 |.dct ks vs,.str k,d,st=>some ((Yp ks vs k).getD d,st)
 |_,_,_,_=>none
noncomputable def Zhg(ng:Bool):D→D→Za→Res
 |.int x,.int n,st=>if -(2 ^ 62)≤n∧n < 2 ^ 62 then some (.bl (ng != decide (0≤x∧x < n)),st) else none
 |_,_,_=>none
noncomputable def one(d:D):List (Option D):=[some d]
noncomputable def two:D→List (Option D)
 |.tup [a,b]=>[some a,some b]
 |_=>[]
noncomputable def Xk(b:D→List (Option D))(ρ:Env)(fr:List Nat)(d:D):Env:=b d++fr.map fun i=>(ρ[i]?).join
noncomputable def Wy(b:D→List (Option D))(w:D→Za→Option (List D×(Za→Prop)))(fr:List Nat)(fi fe fc:Ev):Ev:=fun ρ st=>match fi ρ st with
 |some (x,st1)=>match w x st1 with
  |some (xs,ok)=>if xs.length≤1000 then
    match YS ok (fun d s=>fe (Xk b ρ fr d) s) (fun d s=>fc (Xk b ρ fr d) s) xs st1 with
    |some (ys,st2)=>some (.lst st2.length,st2++[(true,ys)])
    |none=>none
   else none
  |none=>none
 |none=>none

noncomputable def ev(F:Nat→Fn):CE→Ev
 |.var i=>WB i
 |.cst d=>evC d
 |.bin op a b=>Y9 (ev F a) (ev F b) (QT op)
 |.neg a=>Yf (ev F a) Zfv
 |.cmp op a b=>Y9 (ev F a) (ev F b) (ZbM op)
 |.not a=>Yf (ev F a) Zb8
 |.and a b=>XO (ev F a) (ev F b) (evC (.bl false))
 |.or a b=>XO (ev F a) (evC (.bl true)) (ev F b)
 |.ife c a b=>XO (ev F c) (ev F a) (ev F b)
 |.tupE a=>ev F a
 |.lstE a=>Yf (ev F a) Zdm
 |.anil=>evC (.tup [])
 |.acons a r=>Y9 (ev F a) (ev F r) W5
 |.ix a b=>Y9 (ev F a) (ev F b) ixR
 |.slice a lo hi=>JF (ev F a) (ev F lo) (ev F hi) Ws
 |.nop=>evC .non
 |.part a=>Yf (ev F a) Zbf
 |.call f a ds=>Yf (ev F a) (QW (F f) ds)
 |.len a=>Yf (ev F a) Jm
 |.tupleOf a=>Yf (ev F a) W4
 |.listOf a=>Yf (ev F a) UO
 |.intOf a=>Yf (ev F a) Zfl
 |.min a b=>Y9 (ev F a) (ev F b) Zfu
 |.max a b=>Y9 (ev F a) (ev F b) Zft
 |.isi T a=>Yf (ev F a) (Zaf T)
 |.rs k a=>Yf (ev F a) (rsD k)
 |.inv _=>fun _ _=>none
 |.tupR _=>fun _ _=>none
 |.look _ _ _=>fun _ _=>none
 |.dget _ _ _=>fun _ _=>none
 |.inR ng a b=>Y9 (ev F a) (ev F b) (Zhg ng)
 |.all _=>fun _ _=>none
 |.any _=>fun _ _=>none
 |.comp rng fr it elt cnd=>Wy one (Zbq rng) fr (ev F it) (ev F elt) (ev F cnd)
 |.comp2 fr it elt cnd=>Wy two UY fr (ev F it) (ev F elt) (ev F cnd)
 |.compT fr it elt cnd=>Wy two JP fr (ev F it) (ev F elt) (ev F cnd)
 |.lstR a b=>Y9 (ev F a) (ev F b) Jn
 |.new _=>fun _ _=>none
 |.meth _ _ _=>fun _ _=>none
 |.isc _ _=>fun _ _=>none
 |.tix _ _=>fun _ _=>none
 |.dict _ _=>fun _ _=>none
 |.dnew=>fun _ _=>none
 |.strOf _=>fun _ _=>none
 |.joinE _ _=>fun _ _=>none
 |.starts _ _=>fun _ _=>none
 |.rng2 _ _=>fun _ _=>none
 |.srt a=>Yf (ev F a) Zef

inductive Fl where
 |nx (ρ:Env)|rt (d:D)|bk (ρ:Env)|ct (ρ:Env)

noncomputable def ZB(ρ:Env)(i:Nat)(d:D):Env:=ρ.set i (some d)

noncomputable def YK(body:D→Env→Za→Option (Fl×Za)):List D→Env→Za→Option (Fl×Za)
 |[],ρ,st=>some (.nx ρ,st)
 |d :: ds,ρ,st=>match body d ρ st with
  |some (.nx ρ',st')=>YK body ds ρ' st'
  |some (.ct ρ',st')=>YK body ds ρ' st'
  |some (.bk ρ',st')=>some (.nx ρ',st')
  |some (.rt v,st')=>some (.rt v,st')
  |none=>none
noncomputable def Z9(body:D→Env→Za→Option (Fl×Za))(a:Nat):Nat→Nat→Env→Za→Option (Fl×Za)
 |0,i,ρ,st=>match st[a]? with
  |some (_,xs)=>if xs.length≤i then some (.nx ρ,st) else none
  |none=>none
 |n+1,i,ρ,st=>match st[a]? with
  |some (_,xs)=>match xs[i]? with
   |none=>some (.nx ρ,st)
   |some d=>match body d ρ st with
    |some (.nx ρ',st')=>Z9 body a n (i+1) ρ' st'
    |some (.ct ρ',st')=>Z9 body a n (i+1) ρ' st'
    |some (.bk ρ',st')=>some (.nx ρ',st')
    |some (.rt v,st')=>some (.rt v,st')
    |none=>none
  |none=>none

noncomputable abbrev Ex:=Env→Za→Option (Fl×Za)
noncomputable def Zcg(f g:Ex):Ex:=fun ρ st=>match f ρ st with
 |some (.nx ρ',st')=>g ρ' st'
 |r=>r
noncomputable def ZdZ(f:Ev):Ex:=fun ρ st=>match f ρ st with
 |some (d,st')=>some (.rt d,st')
 |none=>none
noncomputable def JI(i:Nat)(f:Ev):Ex:=fun ρ st=>match f ρ st with
 |some (d,st')=>some (.nx (ZB ρ i d),st')
 |none=>none
noncomputable def JG(i j:Nat)(f:Ev):Ex:=fun ρ st=>match f ρ st with
 |some (.tup [x,y],st')=>some (.nx (ZB (ZB ρ i x) j y),st')
 |_=>none
noncomputable def JH(i j l:Nat)(f:Ev):Ex:=fun ρ st=>match f ρ st with
 |some (.tup [x,y,z],st')=>some (.nx (ZB (ZB (ZB ρ i x) j y) l z),st')
 |_=>none
noncomputable def Zcs(f:Ev):Ex:=fun ρ st=>match f ρ st with
 |some (_,st')=>some (.nx ρ,st')
 |none=>none
noncomputable def Zcu(a:Nat)(d:D)(st:Za):Option Za:=match st[a]? with
 |some (true,xs)=>if xs.length < Zc then some (st.set a (true,xs++[d])) else none
 |_=>none
noncomputable def QK(a:Nat)(j:Int)(d:D)(st:Za):Option Za:=match st[a]? with
 |some (true,xs)=>match ixN xs.length j with
  |some p=>some (st.set a (true,xs.set p d))
  |none=>none
 |_=>none
noncomputable def Zcw(i:Nat)(f:Ev):Ex:=fun ρ st=>match ρ[i]? with
 |some (some (.lst a))=>match f ρ st with
  |some (d,st')=>match Zcu a d st' with
   |some st2=>some (.nx ρ,st2)
   |none=>none
  |none=>none
 |_=>none
noncomputable def Zcv(o f:Ev):Ex:=fun ρ st=>match o ρ st with
 |some (.lst a,st1)=>match f ρ st1 with
  |some (d,st2)=>match Zcu a d st2 with
   |some st3=>some (.nx ρ,st3)
   |none=>none
  |none=>none
 |_=>none
noncomputable def Zg8(a b:Nat)(st:Za):Option Za:=match st[a]?,st[b]? with
 |some (true,xs),some (true,ys)=>if xs.length+ys.length≤Zc then some (st.set a (true,xs++ys)) else none
 |_,_=>none
noncomputable def ZcR(i:Nat)(f:Ev):Ex:=fun ρ st=>match ρ[i]? with
 |some (some (.lst a))=>match f ρ st with
  |some (.lst b,st')=>match Zg8 a b st' with
   |some st2=>some (.nx ρ,st2)
   |none=>none
  |_=>none
 |_=>none
noncomputable def ZdS(i:Nat)(k f:Ev):Ex:=fun ρ st=>match f ρ st with
 |some (d,st1)=>match ρ[i]? with
  |some (some (.lst a))=>match k ρ st1 with
   |some (.int j,st2)=>match QK a j d st2 with
    |some st3=>some (.nx ρ,st3)
    |none=>none
   |_=>none
  |_=>none
 |none=>none
noncomputable def Zb0(c:Ev)(f g:Ex):Ex:=fun ρ st=>match c ρ st with
 |some (.bl true,st1)=>f ρ st1
 |some (.bl false,st1)=>g ρ st1
 |_=>none
noncomputable def Ja(i:Nat)(rng:Bool)(it:Ev)(b:Ex):Ex:=fun ρ st=>match it ρ st with
 |some (x,st1)=>match XT rng x with
  |some xs=>YK (fun d ρ s=>b (ZB ρ i d) s) xs ρ st1
  |none=>match rng,x with
   |false,.lst a=>match st1[a]? with
    |some (_,xs)=>Z9 (fun d ρ s=>b (ZB ρ i d) s) a xs.length 0 ρ st1
    |none=>none
   |_,_=>none
 |none=>none
noncomputable def YX(ok:Za→Prop)(body:D→D→Env→Za→Option (Fl×Za)):List (D×D)→Env→Za→Option (Fl×Za)
 |[],ρ,st=>open Classical in if ok st then some (.nx ρ,st) else none
 |p :: ps,ρ,st=>open Classical in if ok st then (match body p.1 p.2 ρ st with
  |some (.nx ρ',st')=>YX ok body ps ρ' st'
  |some (.ct ρ',st')=>YX ok body ps ρ' st'
  |some (.bk ρ',st')=>some (.nx ρ',st')
  |some (.rt v,st')=>some (.rt v,st')
  |none=>none) else none
noncomputable def Zk5(i j:Nat)(it:Ev)(b:Ex):Ex:=fun ρ st=>match it ρ st with
 |some (.tup [.lst la,.lst lb],st1)=>match st1[la]?,st1[lb]? with
  |some ca,some cb=>YX (fun s=>s[la]?=some ca∧s[lb]?=some cb) (fun x y ρ s=>b (ZB (ZB ρ i x) j y) s) (ca.2.zip cb.2) ρ st1
  |_,_=>none
 |_=>none
noncomputable def UA:Nat→List D→List (D×D)
 |_,[]=>[]
 |k,x :: xs=>(.int (k:Int),x) :: UA (k+1) xs
noncomputable def ZgE(x:D)(st:Za):Option (List D×(Za→Prop)):=match x with
 |.tup xs=>some (xs,fun _=>True)
 |.lst a=>match st[a]? with
  |some c=>some (c.2,fun s=>s[a]?=some c)
  |none=>none
 |_=>none
noncomputable def UE(i j:Nat)(it:Ev)(b:Ex):Ex:=fun ρ st=>match it ρ st with
 |some (x,st1)=>match ZgE x st1 with
  |some (xs,ok)=>YX ok (fun x y ρ s=>b (ZB (ZB ρ i x) j y) s) (UA 0 xs) ρ st1
  |none=>none
 |none=>none
noncomputable def Jv(i j:Nat)(b:Ex)(d:D)(ρ:Env)(s:Za):Option (Fl×Za):=match d with
 |.tup [x,y]=>b (ZB (ZB ρ i x) j y) s
 |_=>none
noncomputable def UD(i j:Nat)(it:Ev)(b:Ex):Ex:=fun ρ st=>match it ρ st with
 |some (.lst a,st1)=>match st1[a]? with
  |some (_,xs)=>Z9 (Jv i j b) a xs.length 0 ρ st1
  |none=>none
 |some (.tup xs,st1)=>YK (Jv i j b) xs ρ st1
 |_=>none


noncomputable def ex(F:Nat→Fn):CS→Ex
 |.skip=>fun ρ st=>some (.nx ρ,st)
 |.seq a b=>Zcg (ex F a) (ex F b)
 |.ret e=>ZdZ (ev F e)
 |.set i e=>JI i (ev F e)
 |.app i e=>Zcw i (ev F e)
 |.ext i e=>ZcR i (ev F e)
 |.put i k e=>ZdS i (ev F k) (ev F e)
 |.ite c a b=>Zb0 (ev F c) (ex F a) (ex F b)
 |.for1 i rng it b=>Ja i rng (ev F it) (ex F b)
 |.forP _ _ _ _=>fun _ _=>none
 |.forE i j it b=>UE i j (ev F it) (ex F b)
 |.for3 _ _ _=>fun _ _=>none
 |.set2 i j e=>JG i j (ev F e)
 |.for4 _ _ _ _ _=>fun _ _=>none
 |.for2 i j it b=>UD i j (ev F it) (ex F b)
 |.whl _ _=>fun _ _=>none
 |.brk=>fun ρ st=>some (.bk ρ,st)
 |.cont=>fun ρ st=>some (.ct ρ,st)
 |.stop=>fun _ _=>none
 |.set3 i j l e=>JH i j l (ev F e)
 |.act e=>Zcs (ev F e)
 |.dput _ _ _ _=>fun _ _=>none
 |.app2 o e=>Zcv (ev F o) (ev F e)

structure FD where
 ps:Nat
 ns:Nat
 body:CS
noncomputable def fnD(F:Nat→Fn)(f:FD):Fn:=fun ds st=>
 if ds.length=f.ps then
  match ex F f.body (ds.map some++List.replicate (f.ns - ds.length) none) st with
  |some (.rt d,st')=>some (d,st')
  |some (.nx _,st')=>some (.non,st')
  |_=>none
 else none
noncomputable def run(T:Nat→Option FD):Nat→Nat→Fn
 |0,_=>fun _ _=>none
 |n+1,i=>match T i with
  |some f=>fnD (run T n) f
  |none=>fun _ _=>none

inductive GV where
 |fn (i:Nat) (ps:Nat) (ds:List D)|cst (d:D)|blt|dct (ks:List Str) (ds:List D)|cls (i:Nat) (ms:List (Str×Nat×Nat)) (subs:List Nat)
noncomputable abbrev Gs:=List (Str×GV)

noncomputable def CE.ofConst:Const→Option CE
 |.none=>some (.cst .non)
 |.bool b=>some (.cst (.bl b))
 |.int i=>some (.cst (.int i))
 |.str x=>some (.cst (.str x))
 |_=>none
noncomputable def WE(sc:Scope)(x:Str):Bool:=!(x==("__debug__":Str))&&!(x==("__classdict__":Str))&&match sc.names.lookup x with
 |some .local=>true
 |some .cell=>true
 |some .free=>true
 |_=>false
noncomputable def Z2(sc:Scope)(x:Str):Bool:=!(x==("__debug__":Str))&&match sc.names.lookup x with
 |some .globalImplicit=>true
 |_=>false
noncomputable def Zji(x:Str):Option Ty:=
 if x = "int" then some .int else if x = "bool" then some .bool else if x = "str" then some .str else if x = "tuple" then some .tuple else none
noncomputable def Yh(sc:Scope):List Str:=(sc.names.filter fun p=>decide (p.2=.free)).map (·.1)

noncomputable def ZgN(f:Str)(x:CE):Option CE:=
 if f = "len" then some (.len x) else if f = "tuple" then some (.tupleOf x) else if f = "list" then some (.listOf x) else if f = "int" then some (.intOf x) else none
noncomputable def ZgO(f:Str)(x y:CE):Option CE:=if f = "min" then some (.min x y) else if f = "max" then some (.max x y) else none
noncomputable def Za3(G:Gs)(x:Str):Bool:=match G.lookup x with
 |some .blt=>true
 |_=>false
noncomputable def Zh3(G:Gs)(sc:Scope)(t:Str):Option Ty:=if Z2 sc t&&Za3 G t then Zji t else none
noncomputable def Zbp(G:Gs)(sc:Scope):Expr→Option Ty
 |.Name t _=>Zh3 G sc t
 |_=>none
noncomputable def J8(_:Gs)(_:Scope)(_:Expr):Option (List Nat):=none
noncomputable def Zgm:Expr→Option (Str×List Expr)
 |.Call (.Name f _) as [] _=>some (f,as)
 |_=>none
noncomputable def fnA(G:Gs)(sc:Scope)(nm:Str)(e:Expr):Option (List Expr):=(Zgm e).bind fun p=>og (p.1=nm∧Z2 sc p.1=true∧Za3 G p.1=true) (some p.2)
noncomputable def Zhv:List Expr→Option Expr
 |[a]=>some a
 |_=>none
noncomputable def Yr(G:Gs)(sc:Scope)(e:Expr):Option Expr:=(fnA G sc "range" e).bind Zhv
noncomputable def ZaJ(_:Gs)(_:Scope)(_:Str)(_:Expr):Option Expr:=none
noncomputable def Zjh:List Expr→Option (Expr×Expr)
 |[a,b]=>some (a,b)
 |_=>none
noncomputable def Qo(G:Gs)(sc:Scope)(f:Str)(e:Expr):Option (Expr×Expr):=if f = "list" then (fnA G sc "range" e).bind Zjh else none
noncomputable def o3{α β γ δ:Type}(f:α→β→γ→δ):Option α→Option β→Option γ→Option δ
 |some x,b,c=>o2 (f x) b c
 |none,_,_=>none
theorem Qt{α γ:Type}{P:γ→Prop}{f:α→γ}{a:Option α}{c:γ}(h:a.map f=some c)(k:∀ x,a=some x→P (f x)):P c:=by
 cases a with
 |none=>cases h
 |some x=>cases h;exact k x rfl
theorem YT{α β γ:Type}{P:γ→Prop}{f:α→β→γ}{a:Option α}{b:Option β}{c:γ}(h:o2 f a b=some c)(k:∀ x y,a=some x→b=some y→P (f x y)):P c:=by
 cases a with
 |none=>cases h
 |some x=>cases b with
  |none=>cases h
  |some y=>cases h;exact k x y rfl rfl
theorem Vh{α β γ δ:Type}{P:δ→Prop}{f:α→β→γ→δ}{a:Option α}{b:Option β}{d:Option γ}{c:δ}(h:o3 f a b d=some c)(k:∀ x y z,a=some x→b=some y→d=some z→P (f x y z)):P c:=by
 cases a with
 |none=>cases h
 |some x=>exact YT (P:=P) h fun y z e e'=>k x y z rfl e e'
theorem VY{α:Type}{P:Prop}{p:Prop}[Decidable p]{o:Option α}{c:α}(h:og p o=some c)(k:p→o=some c→P):P:=by
 unfold og at h;by_cases hp:p
 ·rw[if_pos hp]at h;exact k hp h
 ·rw[if_neg hp]at h;cases h
theorem j_e{α:Type}{P:Prop}{o:Option (Option α)}{c:α}(h:o.join=some c)(k:o=some (some c)→P):P:=by
 cases o with
 |none=>cases h
 |some x=>cases h;exact k rfl
noncomputable def Zeh:List Expr→Option (Expr×Expr×Expr)
 |[.List [a,b,c] _]=>some (a,b,c)
 |_=>none
noncomputable def QF(G:Gs)(sc:Scope)(f:Str)(e:Expr):Option (Expr×Expr×Expr):=if f = "sorted" then (fnA G sc "set" e).bind Zeh else none
noncomputable def Zcy(G:Gs)(sc:Scope)(f:Str)(a:Expr)(r:Expr→Option CE):Option CE:=match QF G sc f a with
 |some q=>o3 (fun x y z=>.srt (.acons x (.acons y (.acons z .anil)))) (r q.1) (r q.2.1) (r q.2.2)
 |none=>match ZaJ G sc f a with
 |some e=>(r e).map .tupR
 |none=>match Qo G sc f a with
  |some (u,v)=>o2 .lstR (r u) (r v)
  |none=>((r a).map (ZgN f)).join
noncomputable def Zcz(G:Gs)(sc:Scope)(f:Str)(a b:Expr)(r:Expr→Option CE):Option CE:=if f = "isinstance" then (match J8 G sc b with
  |some l=>(r a).map (.isc l)
  |none=>o2 (fun x T=>.isi T x) (r a) (Zbp G sc b)) else (o2 (ZgO f) (r a) (r b)).join
noncomputable def ZcD(G:Gs)(sc:Scope)(f:Str)(as:List Expr)(cs:Option CE)(r:Expr→Option CE):Option CE:=
 if Z2 sc f then (match G.lookup f with
   |some (.fn i ps ds)=>og (as.length≤ps∧ps≤as.length+ds.length) (cs.map fun c=>.call i c (ds.drop (as.length+ds.length - ps)))
   |some .blt=>match as with
    |[a]=>Zcy G sc f a r
    |[a,b]=>Zcz G sc f a b r
    |_=>none
   |_=>none) else none
noncomputable def Zgk(G:Gs)(ob:Expr)(m:Str)(ap:Pos)(as:List Expr)(cp:Pos)(cs:Option CE)(r:Expr→Option CE):Option CE:=match ob with
 |_=>none
noncomputable def Zit(G:Gs)(sc:Scope)(f:Expr)(as:List Expr)(cp:Pos)(cs:Option CE)(r:Expr→Option CE):Option CE:=match f with
 |.Name f _=>ZcD G sc f as cs r
 |.Attribute ob m ap=>Zgk G ob m ap as cp cs r
 |_=>none
noncomputable def Zj0:Expr→Bool
 |.Slice ..=>true
 |_=>false
noncomputable def W2(_:Gs)(_:Scope)(_:Expr):Option (List Expr):=none
noncomputable def Vt(_:Gs)(_:Scope)(_:Expr):Option (List Expr):=none
noncomputable def Vj(G:Gs)(sc:Scope)(e:Expr):Option Expr:=(fnA G sc "enumerate" e).bind Zhv
noncomputable def Vk(G:Gs)(sc:Scope)(e:Expr):Option Expr:=Vj G sc e
noncomputable def nmE:Expr→Option Str
 |.Name x _=>some x
 |_=>none
noncomputable def nmL:List Expr→Option (List Str)
 |[a,b]=>o2 (fun x y=>[x,y]) (nmE a) (nmE b)
 |_=>none
noncomputable def tgN:Expr→Option (List Str)
 |.Name x _=>some [x]
 |.Tuple es _ _=>nmL es
 |_=>none
noncomputable def mkC(r:Option (Option Bool))(fr:List Nat)(ci ce cc:CE):CE:=match r with
 |some (some b)=>.comp b fr ci ce cc
 |some none=>.comp2 fr ci ce cc
 |none=>.compT fr ci ce cc
noncomputable def XX(N:List Str):List Str→Option (List Nat)
 |[]=>some []
 |x :: r=>match N.idxOf? x,XX N r with
  |some i,some is=>some (i :: is)
  |_,_=>none

noncomputable def Zdo(G:Gs)(sc:Scope)(N:List Str)(x:Str):Option CE:=
 if WE sc x then (N.idxOf? x).map .var else if Z2 sc x then (match G.lookup x with
  |some (.cst d)=>some (.cst d)
  |_=>none) else none
noncomputable def Zdk(_:Gs)(_:Scope)(_:Expr):Option (List Str×List D):=none
noncomputable def Vr:Expr→Option (Option Expr×Option Expr)
 |.Slice lo hi none _=>some (lo,hi)
 |_=>none
noncomputable def Zbj:Expr→Option Expr
 |.Slice none none (some s) _=>some s
 |_=>none
noncomputable def Zhi:CE→Bool
 |.neg (.cst (.int 1))=>true
 |_=>false
noncomputable def VN(sc:Scope)(x:Str):Bool:=match sc.names.lookup x with
 |some .cell=>true
 |some .free=>true
 |_=>false
noncomputable def XN(sc sc2:Scope)(xs:List Str):Bool:=
 decide (sc2.kind=.function)&&(sc2.names.all fun p=>decide (p.2≠.cell))&&(xs.all fun x=>decide (sc2.names.lookup x=some .local))&&(sc2.names.all fun p=>!decide (p.2=.local)||decide (sc2.names.lookup p.1=some .local)) &&
 decide (xs++Yh sc2).Nodup&&(Yh sc2).all (fun y=>VN sc y&&decide (sc2.names.lookup y=some .free))
noncomputable def Zhf(_:CmpOp):Option Bool:=none
noncomputable def unC(op:UnaryOp)(a:Option CE):Option CE:=match op with
 |.Not=>a.map .not
 |.USub=>a.map .neg
 |_=>none
noncomputable def Ziv(G:Gs)(sc:Scope)(f:Expr→Option CE)(a:Option CE):List CmpOp→List Expr→Option CE
 |[op],[b]=>(match Yr G sc b with
  |some e=>o3 .inR (Zhf op) a (f e)
  |none=>o2 (.cmp op) a (f b))
 |_,_=>none
noncomputable def Zgl(f:Expr→Option CE)(op:BoolOp)(pos:Pos):List Expr→Option CE
 |[]=>none
 |[a]=>f a
 |a :: b :: r=>match op with
  |.And=>o2 .and (f a) (f (.BoolOp .And (b :: r) pos))
  |.Or=>o2 .or (f a) (f (.BoolOp .Or (b :: r) pos))
noncomputable def Zh0(G:Gs)(sc:Scope)(f:Expr→Option CE)(fo:Option Expr→Option CE)(a b:Expr):Option CE:=match Vr b with
 |some (lo,hi)=>o3 .slice (f a) (fo lo) (fo hi)
 |none=>match Zbj b with
  |some s=>(o2 (fun x y=>og (Zhi y=true) (some (.rs false x))) (f a) (f s)).join
  |none=>match Zdk G sc a with
   |some (ks,ds)=>(f b).map (.look ks ds)
   |none=>o2 .ix (f a) (f b)
noncomputable def itC(G:Gs)(sc:Scope)(it:Expr)(f:Expr→Option CE):List Str→Option (Option (Option Bool)×CE)
 |[_]=>(match Yr G sc it with
  |some a=>(f a).map fun c=>(some (some true),c)
  |none=>(f it).map fun c=>(some (some false),c))
 |_=>(match Vj G sc it with
  |some a=>(f a).map fun c=>(some none,c)
  |none=>(f it).map fun c=>(none,c))
noncomputable def ifC(f:Expr→Option CE):List Expr→Option CE
 |[]=>some (CE.cst (.bl true))
 |[c]=>f c
 |_=>none
noncomputable def Zgn(G:Gs)(sc sc2:Scope)(N:List Str)(f:Expr→Option CE)(g:List Str→Expr→Option CE)(elt:Expr):List Comprehension→Option CE
 |[⟨tg,it,ifs,0⟩]=>(match tgN tg with
  |none=>none
  |some xs=>og (XN sc sc2 xs=true) (o3 (fun fr p (q:CE×CE)=>mkC p.1 fr p.2 q.1 q.2) (XX N (Yh sc2)) (itC G sc it f xs) (o2 Prod.mk (g (xs++Yh sc2) elt) (ifC (g (xs++Yh sc2)) ifs))))
 |_=>none
mutual
noncomputable def cE(G:Gs):Nat→Scope→List Str→Expr→Option CE
 |0,_,_,_=>none
 |n+1,sc,N,e=>match e with
  |.Constant c _ _=>CE.ofConst c
  |.Name x _=>Zdo G sc N x
  |.BinOp a op b _=>o2 (.bin op) (cE G n sc N a) (cE G n sc N b)
  |.UnaryOp op a _=>unC op (cE G n sc N a)
  |.Compare a ops bs _=>Ziv G sc (cE G n sc N) (cE G n sc N a) ops bs
  |.BoolOp op vs pos=>Zgl (cE G n sc N) op pos vs
  |.IfExp c a b _=>o3 .ife (cE G n sc N c) (cE G n sc N a) (cE G n sc N b)
  |.Tuple es _ _=>(cEs G n sc N es).map .tupE
  |.List es _=>(cEs G n sc N es).map .lstE
  |.Subscript a b _=>Zh0 G sc (cE G n sc N) (cO G n sc N) a b
  |.Call f as [] cp=>Zit G sc f as cp (cEs G n sc N as) (cE G n sc N)
  |.ListComp elt gens sc2 _=>Zgn G sc sc2 N (cE G n sc N) (cE G n sc2) elt gens
  |_=>none
noncomputable def cEs(G:Gs):Nat→Scope→List Str→List Expr→Option CE
 |0,_,_,_=>none
 |_+1,_,_,[]=>some .anil
 |n+1,sc,N,e :: es=>o2 .acons (cE G n sc N e) (cEs G n sc N es)
noncomputable def cO(G:Gs):Nat→Scope→List Str→Option Expr→Option CE
 |0,_,_,_=>none
 |_+1,_,_,none=>some .nop
 |n+1,sc,N,some e=>(cE G n sc N e).map .part
end

noncomputable def XR:Expr→Bool
 |.ListComp ..=>true
 |.SetComp ..=>true
 |.DictComp ..=>true
 |_=>false
noncomputable def Jk:Expr→Bool
 |.Tuple ..=>true
 |_=>false
noncomputable def Zip(N:List Str)(tg e:Expr)(c:Option CE):Option CS:=match tg with
 |.Name x _=>o2 .set (N.idxOf? x) c
 |.Tuple [.Name x _,.Name y _] _ _=>og ((XR e||Jk e)=false) (o3 (fun i j c=>og (i≠j) (some (.set2 i j c))) (N.idxOf? x) (N.idxOf? y) c).join
 |.Tuple [.Name x _,.Name y _,.Name z _] _ _=>og ((XR e||Jk e)=false) (o3 (fun i j (p:Nat×CE)=>.set3 i j p.1 p.2) (N.idxOf? x) (N.idxOf? y) (o2 Prod.mk (N.idxOf? z) c))
 |_=>none
noncomputable def Zgu(_:Expr):Option (Expr×Expr):=none
noncomputable def Zi1(sc:Scope)(N:List Str)(x:Str)(k e:Expr)(f:Expr→Option CE):Option CS:=og (XR e=false∧Zj0 k=false∧WE sc x=true) (match Zgu k with
 |some (a,b)=>o3 (fun i (p:CE×CE) c=>.dput i p.1 p.2 c) (N.idxOf? x) (o2 Prod.mk (f a) (f b)) (f e)
 |none=>o3 .put (N.idxOf? x) (f k) (f e))
noncomputable def Zhc(G:Gs)(sc:Scope)(N:List Str)(f:Expr→Option CE)(fs:List Expr→Option CE)(tg it:Expr)(b:Option CS):Option CS:=match tg with
 |.Name x _=>(match W2 G sc it with
  |some as=>o3 .for3 (N.idxOf? x) (fs as) b
  |none=>match Yr G sc it with
   |some a=>o3 (fun i c b=>.for1 i true c b) (N.idxOf? x) (f a) b
   |none=>o3 (fun i c b=>.for1 i false c b) (N.idxOf? x) (f it) b)
 |.Tuple [.Name x _,.Name y _] _ _=>(o2 (fun i j=>og (i≠j) (some (i,j))) (N.idxOf? x) (N.idxOf? y)).join.bind fun p=>(match Vt G sc it with
  |some as=>o2 (.forP p.1 p.2) (fs as) b
  |none=>match Vk G sc it with
   |some e=>o2 (.forE p.1 p.2) (f e) b
   |none=>o2 (.for2 p.1 p.2) (f it) b)
 |.Tuple [.Name x _,.Name y _,.Name z _] _ _=>o3 (fun(p:Nat×Nat) (q:Nat×CE) b=>.for4 p.1 p.2 q.1 q.2 b) (o2 Prod.mk (N.idxOf? x) (N.idxOf? y)) (o2 Prod.mk (N.idxOf? z) (f it)) b
 |_=>none
noncomputable def Zio(sc:Scope)(N:List Str)(x m:Str)(ap cp:Pos)(c:Option CE):Option CS:=og (WE sc x=true∧(ap.endLine==cp.line)=true) (if m = "append" then o2 .app (N.idxOf? x) c else if m = "extend" then o2 .ext (N.idxOf? x) c else none)
noncomputable def Zim(sc:Scope)(N:List Str)(f:Expr→Option CE):Expr→Option CS
 |.Call (.Name g fp) as kw cp=>(f (.Call (.Name g fp) as kw cp)).map .act
 |.Call (.Attribute (.Name x _) m ap) [e] [] cp=>Zio sc N x m ap cp (f e)
 |.Call (.Attribute (.Subscript o k p) m ap) [e] [] cp=>og (m = "append"∧(ap.endLine==cp.line)=true) (o2 .app2 (f (.Subscript o k p)) (f e))
 |_=>none
mutual
noncomputable def cS(G:Gs):Nat→Scope→List Str→Stmt→Option CS
 |0,_,_,_=>none
 |n+1,sc,N,s=>match s with
  |.Assign [.Subscript (.Name x _) k _] e _=>Zi1 sc N x k e (cE G n sc N)
  |.Assign [tg] e _=>Zip N tg e (cE G n sc N e)
  |.Expr e _=>Zim sc N (cE G n sc N) e
  |.Return (some e) _=>(cE G n sc N e).map .ret
  |.If c a b _=>o3 .ite (cE G n sc N c) (cSs G n sc N a) (cSs G n sc N b)
  |.For tg it b [] _=>Zhc G sc N (cE G n sc N) (cEs G n sc N) tg it (cSs G n sc N b)
  |.Pass _=>some .skip
  |.Break _=>some .brk
  |.Continue _=>some .cont
  |.Raise _ _ _=>some .stop
  |_=>none
noncomputable def cSs(G:Gs):Nat→Scope→List Str→List Stmt→Option CS
 |0,_,_,_=>none
 |_+1,_,_,[]=>some .skip
 |n+1,sc,N,s :: r=>o2 .seq (cS G n sc N s) (cSs G n sc N r)
end
end Dp


namespace Dp
open PySem PySem.Spec PyProof.Rows L2
class ClsTab where
 ca:Nat→Addr
variable [ClsTab]

theorem ZH{X:Cx}{e:Expr}{t t':TE}(h:PE X e t)(i:∀ σ H Q,t' σ H Q→t σ H Q):PE X e t':=fun pins s σ H Q I q=>h pins s σ H Q I (i σ H Q q)
theorem V3{X:Cx}{e:Expr}{t t':TT}(h:PT X e t)(i:∀ σ H Q,t' σ H Q→t σ H Q):PT X e t':=fun pins s σ H Q I q=>h pins s σ H Q I (i σ H Q q)
theorem WY{X:Cx}{e:List Expr}{t t':TA}(h:PA X e t)(i:∀ σ H Q,t' σ H Q→t σ H Q):PA X e t':=fun pos pins s σ H Q I q=>h pos pins s σ H Q I (i σ H Q q)
theorem ZdJ{X:Cx}{e:Option Expr}{t t':TO}(h:PO X e t)(i:∀ σ H Q,t' σ H Q→t σ H Q):PO X e t':=fun pins s σ H Q I q=>h pins s σ H Q I (i σ H Q q)
theorem Ye{X:Cx}{e:Stmt}{t t':TS}(h:PS X e t)(i:∀ D σ H,t' D σ H→t D σ H):PS X e t':=fun pins s σ H D I q=>h pins s σ H D I (i D σ H q)
theorem Zbg{X:Cx}{e:List Stmt}{t t':TS}(h:PSs X e t)(i:∀ D σ H,t' D σ H→t D σ H):PSs X e t':=fun pins s σ H D I q=>h pins s σ H D I (i D σ H q)

def KT(K:PySem.W.Frag)(a:Addr)(xs:List V):Prop:=
 ∃ (o:Obj) (its:Array Value) (n:Nat),K.lookup a=some o∧o.cls=.type "tuple"∧o.data=.seq its n∧its.size≤sizeLine∧Vals xs its.toList
def TupAt(K:PySem.W.Frag)(H:Hp)(a:Addr)(xs:List V):Prop:=H a=some (.tup xs)∨KT K a xs
theorem TupAt.sq{K:PySem.W.Frag}{H:Hp}{a:Addr}{xs:List V}(h:TupAt K H a xs):SqT K H a xs:=by
 rcases h with h|h
 ·exact .inl (.inl h)
 ·exact .inr h
def Y5(H:Hp)(a:Addr):Prop:=∃ kvs,H a=some (.dT kvs)
def LA(ad:List Addr)(H:Hp)(i:Nat)(a:Addr):Prop:=ad[i]?=some a∧¬Y5 H a
theorem Qs{H:Hp}{a:Addr}{o:HO}(h:H a=some o)(n:∀ kvs,o≠.dT kvs):¬Y5 H a:=fun⟨kvs,z⟩=>n kvs (Option.some.inj (h.symm.trans z))
mutual
inductive Den(K:PySem.W.Frag)(ad:List Addr)(H:Hp):V→D→Prop where
 |non:Den K ad H .non .non
 |bl (b:Bool):Den K ad H (.bl b) (.bl b)
 |int (i:Int):Den K ad H (.int i) (.int i)
 |str (x:Str):Den K ad H (.str x) (.str x)
 |tup {a:Addr}{xs:List V}{ds:List D} (h:TupAt K H a xs) (r:Dens K ad H xs ds):Den K ad H (.ref a) (.tup ds)
 |lst {a:Addr}{i:Nat} (h:LA ad H i a):Den K ad H (.ref a) (.lst i)
 |dic {a:Addr}{i:Nat} (h:ad[i]?=some a) (n:Y5 H a):Den K ad H (.ref a) (.dic i)
 |dct {a:Addr}{kvs:List (Key×V)}{ks:List Str}{vs:List V}{ds:List D} (h:H a=some (.dK kvs)) (hk:kvs=(ks.zip vs).map fun p=>(Sum.inr p.1,p.2)) (nd:ks.Nodup∧ks≠[]) (hl:ks.length=vs.length) (r:Dens K ad H vs ds):Den K ad H (.ref a) (.dct ks ds)
 |obj {a dx:Addr}{i:Nat} (h:H a=some (.ins (ClsTab.ca i) dx [])) (n:a∉ad):Den K ad H (.ref a) (.obj i)
 |kt {a:Addr}{ks:List Str}{o:Obj}{its:Array Value}{n:Nat} (l:K.lookup a=some o) (c:o.cls=.type "tuple") (g:o.dict=none) (e:o.data=.seq its n) (z:its.size≤sizeLine) (r:Vals (ks.map V.str) its.toList):Den K ad H (.ref a) (.kt ks)
inductive Dens(K:PySem.W.Frag)(ad:List Addr)(H:Hp):List V→List D→Prop where
 |nil:Dens K ad H [] []
 |cons {v:V}{d:D}{vs:List V}{ds:List D} (h:Den K ad H v d) (r:Dens K ad H vs ds):Dens K ad H (v :: vs) (d :: ds)
end

structure Ext(ad:List Addr)(H:Hp)(ad':List Addr)(H':Hp):Prop where
 pre:∀ (i:Nat) (a:Addr),ad[i]?=some a→ad'[i]?=some a
 tup:∀ b xs,H b=some (.tup xs)→H' b=some (.tup xs)
 dk:∀ b kvs,H b=some (.dK kvs)→H' b=some (.dK kvs)
 keep:∀ b o,H b=some o→b∉ad→H' b=some o
 new:∀ b,b∈ad'→b∈ad∨H b=none
 kd:∀ (i:Nat) (a:Addr),ad[i]?=some a→(Y5 H a↔Y5 H' a)
theorem Ext.refl(ad:List Addr)(H:Hp):Ext ad H ad H:=⟨fun _ _ h=>h,fun _ _ h=>h,fun _ _ h=>h,fun _ _ h _=>h,fun _ h=>.inl h,fun _ _ _=>Iff.rfl⟩
theorem Ext.trans{a1 a2 a3:List Addr}{H1 H2 H3:Hp}(x:Ext a1 H1 a2 H2)(y:Ext a2 H2 a3 H3):Ext a1 H1 a3 H3:=by
 refine⟨fun i a h=>y.pre i a (x.pre i a h),fun b xs h=>y.tup b xs (x.tup b xs h),fun b xs h=>y.dk b xs (x.dk b xs h),fun b o h n=>?_,fun b h=>?_,fun i a h=>(x.kd i a h).trans (y.kd i a (x.pre i a h))⟩
 ·refine y.keep b o (x.keep b o h n) fun z=>?_
  rcases x.new b z with z|z
  ·exact n z
  ·rw[h]at z;cases z
 ·rcases y.new b h with z|z
  ·exact x.new b z
  ·cases e:H1 b with
   |none=>exact .inr rfl
   |some o=>
    by_cases q:b∈a1
    ·exact .inl q
    ·rw[x.keep b o e q]at z;cases z

theorem TupAt.mono{K:PySem.W.Frag}{ad ad':List Addr}{H H':Hp}{a:Addr}{xs:List V}(x:Ext ad H ad' H')(h:TupAt K H a xs):TupAt K H' a xs:=h.imp (x.tup _ _) id
theorem TupAt.upd{K:PySem.W.Frag}{H:Hp}{a p:Addr}{xs:List V}{o o':HO}(hp:H p=some o)(ho:∀ xs,o≠.tup xs)(h:TupAt K H a xs):TupAt K (upd H p o') a xs:=by
 rcases h with h|h
 ·refine .inl ?_
  have n:a≠p:=fun z=>by subst z;rw[h]at hp;cases hp;exact ho _ rfl
  rw[upd_ne n];exact h
 ·exact .inr h
section
variable {K:PySem.W.Frag}{ad ad':List Addr}{H H':Hp}
theorem Zh8{ks:List Str}{vs:List V}(h:ks≠[])(hl:ks.length=vs.length):(ks.zip vs).map (fun p=>((Sum.inr p.1:Key),p.2))≠[]:=by
 cases ks with
 |nil=>exact absurd rfl h
 |cons k ks=>cases vs with
  |nil=>cases hl
  |cons v vs=>exact List.cons_ne_nil _ _
structure Keeps(K:PySem.W.Frag)(ad ad':List Addr)(H H':Hp):Prop where
 t:∀ {a xs},TupAt K H a xs→TupAt K H' a xs
 l:∀ {i:Nat}{a:Addr},ad[i]?=some a→ad'[i]?=some a∧(Y5 H a↔Y5 H' a)
 k:∀ {a kvs},kvs≠[]→H a=some (.dK kvs)→H' a=some (.dK kvs)
 o:∀ {a C dx},H a=some (.ins C dx [])→a∉ad→H' a=some (.ins C dx [])∧a∉ad'
theorem Den.map(x:Keeps K ad ad' H H'){v:V}{d:D}(h:Den K ad H v d):Den K ad' H' v d:=
 Den.rec (motive_1:=fun v d _=>Den K ad' H' v d) (motive_2:=fun vs ds _=>Dens K ad' H' vs ds) .non .bl .int .str (fun h _ r=>.tup (x.t h) r) (fun h=>.lst ⟨(x.l h.1).1,fun z=>h.2 ((x.l h.1).2.mpr z)⟩) (fun h n=>.dic (x.l h).1 ((x.l h).2.mp n)) (fun h hk nd hl _ r=>.dct (x.k (fun z=>Zh8 nd.2 hl (hk.symm.trans z)) h) hk nd hl r) (fun h n=>.obj (x.o h n).1 (x.o h n).2) .kt .nil (fun _ _ a b=>.cons a b) h
theorem Dens.map(x:Keeps K ad ad' H H'){vs:List V}{ds:List D}(h:Dens K ad H vs ds):Dens K ad' H' vs ds:=
 Dens.rec (motive_1:=fun _ _ _=>True) (motive_2:=fun vs ds _=>Dens K ad' H' vs ds) trivial (fun _=>trivial) (fun _=>trivial) (fun _=>trivial) (fun _ _ _=>trivial) (fun _=>trivial) (fun _ _=>trivial) (fun _ _ _ _ _ _=>trivial) (fun _ _=>trivial) (fun _ _ _ _ _ _=>trivial) .nil (fun a _ _ b=>.cons (a.map x) b) h
theorem Ext.keeps(x:Ext ad H ad' H'):Keeps K ad ad' H H':=⟨fun h=>h.mono x,fun h=>⟨x.pre _ _ h,x.kd _ _ h⟩,fun _ h=>x.dk _ _ h,fun h n=>⟨x.keep _ _ h n,fun z=>(x.new _ z).elim n fun q=>by rw[h]at q;cases q⟩⟩
theorem Den.mono(x:Ext ad H ad' H'){v:V}{d:D}(h:Den K ad H v d):Den K ad' H' v d:=h.map x.keeps
theorem Dens.mono(x:Ext ad H ad' H'){vs:List V}{ds:List D}(h:Dens K ad H vs ds):Dens K ad' H' vs ds:=h.map x.keeps
theorem Zhl(x:∀ (i:Nat) (a:Addr),ad[i]?=some a→ad'[i]?=some a)(y:∀ b,b∈ad'→b∈ad∨∃ xs,H b=some (.lst xs)):Keeps K ad ad' H H:=⟨id,fun h=>⟨x _ _ h,Iff.rfl⟩,fun _ h=>h,fun h n=>⟨h,fun z=>(y _ z).elim n fun⟨xs,q⟩=>by rw[h]at q;cases q⟩⟩
theorem Dens.length:∀ {vs:List V}{ds:List D},Dens K ad H vs ds→vs.length=ds.length
 |_,_,.nil=>rfl
 |_,_,.cons _ r=>congrArg (·+1) (Dens.length r)
theorem Dens.get:∀ {vs:List V}{ds:List D}{i:Nat}{d:D},Dens K ad H vs ds→ds[i]?=some d→∃ v,vs[i]?=some v∧Den K ad H v d
 |_,_,_,_,.nil,e=>by simp at e
 |_,_,0,_,.cons h _,e=>by simp at e;subst e;exact⟨_,rfl,h⟩
 |_,_,i+1,d,.cons _ r,e=>by
  obtain⟨v,h1,h2⟩:=Dens.get (i:=i) (d:=d) r (by simpa using e)
  exact⟨v,by simpa using h1,h2⟩
theorem Dens.append:∀ {vs ws:List V}{ds es:List D},Dens K ad H vs ds→Dens K ad H ws es→Dens K ad H (vs++ws) (ds++es)
 |_,_,_,_,.nil,s=>s
 |_,_,_,_,.cons h r,s=>.cons h (Dens.append r s)
theorem Dens.take:∀ {vs:List V}{ds:List D} (n:Nat),Dens K ad H vs ds→Dens K ad H (vs.take n) (ds.take n)
 |_,_,0,_=>.nil
 |_,_,_+1,.nil=>.nil
 |_,_,n+1,.cons h r=>.cons h (Dens.take n r)
theorem Dens.drop:∀ {vs:List V}{ds:List D} (n:Nat),Dens K ad H vs ds→Dens K ad H (vs.drop n) (ds.drop n)
 |_,_,0,r=>r
 |_,_,_+1,.nil=>.nil
 |_,_,n+1,.cons _ r=>Dens.drop n r
theorem Dens.set{v:V}{d:D}(h:Den K ad H v d):∀ {vs:List V}{ds:List D} (n:Nat),Dens K ad H vs ds→Dens K ad H (vs.set n v) (ds.set n d)
 |_,_,_,.nil=>.nil
 |_,_,0,.cons _ r=>.cons h r
 |_,_,n+1,.cons q r=>.cons q (Dens.set h n r)
theorem Dens.rep{v:V}{d:D}(h:Den K ad H v d):∀ n:Nat,Dens K ad H (List.replicate n v) (List.replicate n d)
 |0=>.nil
 |n+1=>.cons h (Dens.rep h n)
theorem Den.ofInt{v:V}{i:Int}(h:Den K ad H v (.int i)):v=.int i:=by cases h;rfl
theorem Den.ofBl{v:V}{b:Bool}(h:Den K ad H v (.bl b)):v=.bl b:=by cases h;rfl
theorem Den.ofDct{v:V}{ks:List Str}{ds:List D}(h:Den K ad H v (.dct ks ds)):∃ a vs,v=.ref a∧H a=some (.dK ((ks.zip vs).map fun p=>(Sum.inr p.1,p.2)))∧ks.length=vs.length∧Dens K ad H vs ds:=by
 cases h with
 |dct h hk nd hl r=>subst hk;exact⟨_,_,rfl,h,hl,r⟩
theorem Den.ofTup{v:V}{ds:List D}(h:Den K ad H v (.tup ds)):∃ a xs,v=.ref a∧TupAt K H a xs∧Dens K ad H xs ds:=by
 cases h with
 |tup h r=>exact⟨_,_,rfl,h,r⟩
theorem Den.ofLst{v:V}{i:Nat}(h:Den K ad H v (.lst i)):∃ a,v=.ref a∧LA ad H i a:=by
 cases h with
 |lst h=>exact⟨_,rfl,h⟩
theorem Den.newL{a:Addr}{i:Nat}{xs:List V}(h:ad[i]?=some a):Den K ad (upd H a (.lst xs)) (.ref a) (.lst i):=.lst ⟨h,Qs upd_same fun _ z=>nomatch z⟩
theorem LA.mono{i:Nat}{a:Addr}(x:Ext ad H ad' H')(h:LA ad H i a):LA ad' H' i a:=⟨x.pre _ _ h.1,fun z=>h.2 ((x.kd _ _ h.1).mpr z)⟩

theorem Den.ofKt{v:V}{ks:List Str}(h:Den K ad H v (.kt ks)):∃ a o its n,v=.ref a∧K.lookup a=some o∧(o.cls=.type "tuple"∧o.dict=none)∧o.data=.seq its n∧its.size≤sizeLine∧Vals (ks.map V.str) its.toList:=by
 cases h with
 |kt l c g e z r=>exact⟨_,_,_,_,rfl,l,⟨c,g⟩,e,z,r⟩
theorem UV:∀ ks:List Str,Dens K ad H (ks.map V.str) (ks.map D.str)
 |[]=>.nil
 |k :: ks=>.cons (.str k) (UV ks)

def KL(K:PySem.W.Frag)(a:Addr)(xs:List V):Prop:=
 ∃ (o:Obj) (its:Array Value) (n:Nat),(K.lookup a=some o∧o.cls=.type "list")∧(o.dict=none∧o.data=.seq its n)∧its.size≤sizeLine∧Vals xs its.toList
inductive Ents(K:PySem.W.Frag)(ad:List Addr)(H:Hp):List (List Key×V)→List D→Prop where
 |nil:Ents K ad H [] []
 |cons {i j:Int}{v:V}{d:D}{kvs:List (List Key×V)}{ds:List D} (h:Den K ad H v d) (r:Ents K ad H kvs ds):Ents K ad H (([.inl i,.inl j],v) :: kvs) (.tup [.int i,.int j,d] :: ds)
theorem Ents.map(x:Keeps K ad ad' H H'){kvs:List (List Key×V)}{ds:List D}(h:Ents K ad H kvs ds):Ents K ad' H' kvs ds:=by
 induction h with
 |nil=>exact .nil
 |cons h _ ih=>exact .cons (h.map x) ih
theorem Ents.mono(x:Ext ad H ad' H'){kvs:List (List Key×V)}{ds:List D}(h:Ents K ad H kvs ds):Ents K ad' H' kvs ds:=h.map x.keeps
inductive CellOk(K:PySem.W.Frag)(ad:List Addr)(H:Hp)(a:Addr)(c:U1):Prop where
 |l {xs:List V} (n:¬Y5 H a) (r:Dens K ad H xs c.2) (h:(c.1=true∧H a=some (.lst xs))∨(c.1=false∧((∃ o,H a=some (.frz o (.lst xs)))∨KL K a xs)))
 |d {kvs:List (List Key×V)} (r:Ents K ad H kvs c.2) (e:c.1=true) (h:H a=some (.dT kvs))
structure StOk(K:PySem.W.Frag)(ad:List Addr)(H:Hp)(st:Za):Prop where
 len:ad.length=st.length
 nd:∀ (i j:Nat) (a:Addr) (c d:List D),ad[i]?=some a→ad[j]?=some a→st[i]?=some (true,c)→st[j]?=some (true,d)→i=j
 cell:∀ (i:Nat) (c:U1),st[i]?=some c→∃ a,ad[i]?=some a∧CellOk K ad H a c

theorem CellOk.sq{a:Addr}{c:U1}(h:CellOk K ad H a c)(n:¬Y5 H a):∃ xs,Dens K ad H xs c.2∧SqL K H a xs:=by
 cases h with
 |l _ r h=>
  obtain⟨_,e⟩|⟨_,⟨o,e⟩|⟨o,its,n,⟨h1,h2⟩,⟨h3,h4⟩,h5,h6⟩⟩:=h
  ·exact⟨_,r,.inl (.inl e)⟩
  ·exact⟨_,r,.inl (.inr ⟨o,e⟩)⟩
  ·exact⟨_,r,.inr ⟨o,its,n,h1,h2,h3,h4,h5,h6⟩⟩
 |d r e h=>exact absurd ⟨_,h⟩ n
theorem StOk.list{st:Za}{a:Addr}{i:Nat}{b:Bool}{ds:List D}(S:StOk K ad H st)(h:LA ad H i a)(e:st[i]?=some (b,ds)):∃ xs,Dens K ad H xs ds∧SqL K H a xs:=by
 obtain⟨a',e',c⟩:=S.cell i _ e;rw[h.1]at e';cases e'
 exact c.sq h.2
theorem StOk.listM{st:Za}{a:Addr}{i:Nat}{ds:List D}(S:StOk K ad H st)(h:LA ad H i a)(e:st[i]?=some (true,ds)):∃ xs,Dens K ad H xs ds∧H a=some (.lst xs):=by
 obtain⟨a',e',c⟩:=S.cell i _ e;rw[h.1]at e';cases e'
 cases c with
 |l _ r q=>
  obtain⟨_,q⟩|⟨q,_⟩:=q
  ·exact⟨_,r,q⟩
  ·cases q
 |d r _ q=>exact absurd ⟨_,q⟩ h.2
theorem StOk.dict{st:Za}{a:Addr}{i:Nat}{b:Bool}{ds:List D}(S:StOk K ad H st)(h:ad[i]?=some a)(n:Y5 H a)(e:st[i]?=some (b,ds)):∃ kvs,Ents K ad H kvs ds∧H a=some (.dT kvs)∧b=true:=by
 obtain⟨a',e',c⟩:=S.cell i _ e;rw[h]at e';cases e'
 cases c with
 |l z=>exact absurd n z
 |d r e q=>exact⟨_,r,q,e⟩
theorem ZaL{p a:Addr}{o:HO}(hp:¬Y5 H p)(ho:∀ kvs,o≠.dT kvs):Y5 H a↔Y5 (upd H p o) a:=by
 by_cases z:a=p
 ·subst z
  exact⟨fun q=>absurd q hp,fun q=>absurd q (Qs upd_same ho)⟩
 ·unfold Y5
  rw[upd_ne z]
theorem Za9{p:Addr}(hp:H p=none):¬Y5 H p:=fun⟨_,z⟩=>by rw[hp]at z;cases z
theorem Ext.laid{p:Addr}{o:HO}(hp:H p=none)(ho:∀ kvs,o≠.dT kvs:=by intro _ z;cases z):Ext ad H ad (upd H p o):=
 ⟨fun _ _ h=>h,fun b xs h=>by rw[upd_ne (ne_of_none h hp)];exact h,fun b xs h=>by rw[upd_ne (ne_of_none h hp)];exact h,fun b o h _=>by rw[upd_ne (ne_of_none h hp)];exact h,fun _ h=>.inl h,fun _ _ _=>ZaL (Za9 hp) ho⟩
theorem CellOk.laid{i:Nat}{p a:Addr}{o:HO}{c:U1}{ad':List Addr}(ha:ad[i]?=some a)(hp:H p=none)(x:Ext ad H ad' (upd H p o))(h:CellOk K ad H a c):CellOk K ad' (upd H p o) a c:=by
 cases h with
 |l n r h=>
  refine .l (fun z=>n ((x.kd i a ha).mpr z)) (r.mono x) ?_
  rcases h with⟨b,e⟩|⟨b,⟨o,e⟩|e⟩
  ·exact .inl ⟨b,by rw[upd_ne (ne_of_none e hp)];exact e⟩
  ·exact .inr ⟨b,.inl ⟨o,by rw[upd_ne (ne_of_none e hp)];exact e⟩⟩
  ·exact .inr ⟨b,.inr e⟩
 |d r e h=>exact .d (r.mono x) e (by rw[upd_ne (ne_of_none h hp)];exact h)
theorem StOk.laid{st:Za}{p:Addr}{o:HO}(S:StOk K ad H st)(hp:H p=none)(ho:∀ kvs,o≠.dT kvs:=by intro _ z;cases z):StOk K ad (upd H p o) st:=
 ⟨S.len,S.nd,fun i c e=>let ⟨a,h,q⟩:=S.cell i c e;⟨a,h,q.laid h hp (Ext.laid hp ho)⟩⟩
theorem WC{α:Type}{l:List α}{x y:α}{i:Nat}(h:(l++[x])[i]?=some y):l[i]?=some y∨(i=l.length∧y=x):=by
 by_cases hi:i < l.length
 ·rw[List.getElem?_append_left hi]at h
  exact .inl h
 ·rw[List.getElem?_append_right (by omega)]at h
  have:i - l.length=0:=by
   cases e:i - l.length with
   |zero=>rfl
   |succ k=>rw[e]at h;simp at h
  rw[this]at h;simp at h;exact .inr ⟨by omega,h.symm⟩
theorem X2{α:Type}{l:List α}{x y:α}{i:Nat}(h:l[i]?=some y):(l++[x])[i]?=some y:=by
 rw[List.getElem?_append_left (List.getElem?_eq_some_iff.mp h).1];exact h
theorem ZP{α:Type}{l:List α}{x:α}:(l++[x])[l.length]?=some x:=by simp
theorem Ext.pushG{p:Addr}{o:HO}(hp:H p=none)(hk:∀ (i:Nat) (a:Addr),ad[i]?=some a→(Y5 H a↔Y5 (upd H p o) a)):Ext ad H (ad++[p]) (upd H p o):=
 ⟨fun _ _ h=>X2 h,fun b xs h=>by rw[upd_ne (ne_of_none h hp)];exact h,fun b xs h=>by rw[upd_ne (ne_of_none h hp)];exact h,fun b o h _=>by rw[upd_ne (ne_of_none h hp)];exact h,fun b h=>(List.mem_append.mp h).elim .inl fun z=>.inr (by rw[List.mem_singleton.mp z];exact hp),hk⟩
theorem Ext.push{p:Addr}{xs:List V}(hp:H p=none):Ext ad H (ad++[p]) (upd H p (.lst xs)):=Ext.pushG hp fun _ _ _=>ZaL (Za9 hp) fun _ z=>nomatch z
theorem StOk.more{st:Za}{p:Addr}{H':Hp}{ds:List D}(S:StOk K ad H st)(hn:∀ (i:Nat) (c:List D),ad[i]?=some p→st[i]?=some (true,c)→False)(hc:∀ (i:Nat) (c:U1) (a:Addr),ad[i]?=some a→CellOk K ad H a c→CellOk K (ad++[p]) H' a c)(hp:CellOk K (ad++[p]) H' p (true,ds)):StOk K (ad++[p]) H' (st++[(true,ds)]):=by
 have old:∀ (i:Nat) (c:List D) (a:Addr),(ad++[p])[i]?=some a→st[i]?=some (true,c)→ad[i]?=some a:=fun i c a h e=>by
  obtain⟨a1,q1,_⟩:=S.cell i _ e;have z1:=X2 (x:=p) q1;rw[h]at z1;cases z1;exact q1
 refine⟨by rw[List.length_append,List.length_append,S.len];rfl,fun i j a c d h1 h2 h3 h4=>?_,fun i c e=>?_⟩
 ·rcases WC h3 with h3|⟨e3,_⟩
  ·rcases WC h4 with h4|⟨e4,_⟩
   ·exact S.nd i j a c d (old i c a h1 h3) (old j d a h2 h4) h3 h4
   ·have q1:=old i c a h1 h3
    rw[e4,←S.len,ZP]at h2;cases h2;exact(hn i c q1 h3).elim
  ·rcases WC h4 with h4|⟨e4,_⟩
   ·have q2:=old j d a h2 h4
    rw[e3,←S.len,ZP]at h1;cases h1;exact(hn j d q2 h4).elim
   ·omega
 ·rcases WC e with e|⟨e1,e2⟩
  ·obtain⟨a,h,q⟩:=S.cell i c e
   exact⟨a,X2 h,hc i c a h q⟩
  ·subst e2
   exact⟨p,by rw[e1,←S.len];exact ZP,hp⟩
theorem StOk.noNew{st:Za}{p:Addr}(S:StOk K ad H st)(hp:H p=none)(i:Nat)(c:List D)(h:ad[i]?=some p)(e:st[i]?=some (true,c)):False:=by
 obtain⟨a',e',q⟩:=S.cell i _ e;rw[h]at e';cases e'
 cases q with
 |l _ _ q=>
  obtain⟨_,q⟩|⟨q,_⟩:=q
  ·rw[hp]at q;cases q
  ·cases q
 |d _ _ q=>rw[hp]at q;cases q
theorem StOk.push{st:Za}{p:Addr}{xs:List V}{ds:List D}(S:StOk K ad H st)(hp:H p=none)(r:Dens K ad H xs ds):StOk K (ad++[p]) (upd H p (.lst xs)) (st++[(true,ds)]):=
 S.more (S.noNew hp) (fun _ _ _ h q=>q.laid h hp (Ext.push hp)) (.l (Qs upd_same fun _ z=>nomatch z) (r.mono (Ext.push hp)) (.inl ⟨rfl,upd_same⟩))
theorem StOk.wrG{st:Za}{p:Addr}{o:HO}(S:StOk K ad H st)(kp:Keeps K ad ad H (upd H p o))(hn:p∉ad):StOk K ad (upd H p o) st:=
 ⟨S.len,S.nd,fun i c e=>by
  obtain⟨a,h,q⟩:=S.cell i c e;have ne:a≠p:=fun z=>hn (by rw[←z];exact List.mem_of_getElem? h)
  refine⟨a,h,?_⟩;cases q with
  |l n r q=>
   refine .l (fun z=>n ((kp.l h).2.mpr z)) (r.map kp) ?_
   rcases q with⟨b,q⟩|⟨b,⟨o,q⟩|q⟩
   ·exact .inl ⟨b,by rw[upd_ne ne];exact q⟩
   ·exact .inr ⟨b,.inl ⟨o,by rw[upd_ne ne];exact q⟩⟩
   ·exact .inr ⟨b,.inr q⟩
  |d r t q=>exact .d (r.map kp) t (by rw[upd_ne ne];exact q)⟩
theorem StOk.has{st:Za}{i:Nat}{a:Addr}(S:StOk K ad H st)(hi:ad[i]?=some a):(∃ o,H a=some o)∨∃ o,K.lookup a=some o:=by
 obtain⟨a',e',q⟩:=S.cell i _ (List.getElem?_eq_getElem (show i < st.length by rw[←S.len];exact(List.getElem?_eq_some_iff.mp hi).1))
 rw[hi]at e';cases e'
 cases q with
 |l _ _ q=>
  obtain⟨_,q⟩|⟨_,⟨o,q⟩|⟨o,its,m,⟨h1,h2⟩,_⟩⟩:=q
  ·exact .inl ⟨_,q⟩
  ·exact .inl ⟨_,q⟩
  ·exact .inr ⟨_,h1⟩
 |d _ _ q=>exact .inl ⟨_,q⟩
theorem StOk.adopt{st:Za}{p:Addr}{xs:List V}{ds:List D}(S:StOk K ad H st)(hp:H p=some (.lst xs))(hn:p∉ad)(r:Dens K ad H xs ds):StOk K (ad++[p]) H (st++[(true,ds)]):=by
 have kp:Keeps K ad (ad++[p]) H H:=Zhl (fun _ _ h=>X2 h) (fun b hb=>(List.mem_append.mp hb).imp id fun z=>⟨xs,by rw[List.mem_singleton.mp z];exact hp⟩)
 exact S.more (fun i _ h _=>hn (List.mem_of_getElem? h)) (fun _ _ _ _ q=>by
  cases q with
  |l n r h=>exact .l n (r.map kp) h
  |d r e h=>exact .d (r.map kp) e h) (.l (Qs hp fun _ z=>nomatch z) (r.map kp) (.inl ⟨rfl,hp⟩))
theorem Ext.writeG{a:Addr}{o o':HO}(h:H a=some o)(ha:a∈ad)(h1:∀ xs,o≠.tup xs)(h2:∀ xs,o≠.dK xs)(hk:Y5 H a↔Y5 (upd H a o') a):Ext ad H ad (upd H a o'):=
 ⟨fun _ _ h=>h,fun b zs e=>by rw[upd_ne (ne_of e h (fun z=>h1 _ z.symm))];exact e,fun b zs e=>by rw[upd_ne (ne_of e h (fun z=>h2 _ z.symm))];exact e,fun b o e n=>by rw[upd_ne (show b≠a from fun z=>n (by rw[z];exact ha))];exact e,fun _ h=>.inl h,fun _ b _=>by
  by_cases z:b=a
  ·rw[z];exact hk
  ·unfold Y5;rw[upd_ne z]⟩
theorem Ext.write{a:Addr}{xs ys:List V}(h:H a=some (.lst xs))(ha:a∈ad):Ext ad H ad (upd H a (.lst ys)):=
 Ext.writeG h ha (fun _ z=>nomatch z) (fun _ z=>nomatch z) ⟨fun z=>absurd z (Qs h fun _ z=>nomatch z),fun z=>absurd z (Qs upd_same fun _ z=>nomatch z)⟩
theorem StOk.writeG{st:Za}{a:Addr}{i:Nat}{ds es:List D}{o o':HO}(S:StOk K ad H st)(h:ad[i]?=some a)(e:st[i]?=some (true,ds))(hx:H a=some o)(hf:∀ q u,o≠.frz q u)(x:Ext ad H ad (upd H a o'))(r:CellOk K ad (upd H a o') a (true,es)) :
  StOk K ad (upd H a o') (st.set i (true,es)):=by
 have hi:i < st.length:=(List.getElem?_eq_some_iff.mp e).1;refine⟨by rw[List.length_set];exact S.len,fun j k b c d h1 h2 h3 h4=>?_,fun j c q=>?_⟩
 ·have up:∀ (j:Nat) (c:List D),(st.set i (true,es))[j]?=some (true,c)→∃ c',st[j]?=some (true,c'):=fun j c q=>by
   by_cases z:i=j
   ·subst z;exact⟨_,e⟩
   ·rw[List.getElem?_set_ne z]at q;exact⟨_,q⟩
  obtain⟨c',h3⟩:=up j c h3;obtain⟨d',h4⟩:=up k d h4;exact S.nd j k b c' d' h1 h2 h3 h4
 ·by_cases z:i=j
  ·subst z
   rw[List.getElem?_set_self hi]at q;cases q;exact⟨a,h,r⟩
  ·rw[List.getElem?_set_ne z]at q
   obtain⟨b,hb,hz⟩:=S.cell j c q;refine⟨b,hb,?_⟩;have ne:c.1=true→b≠a:=fun t w=>by
    obtain⟨cb,cl⟩:=c;cases (show cb=true from t)
    exact z (S.nd i j a ds cl h (w ▸ hb) e q)
   cases hz with
   |l n rz hz=>
    refine .l (fun z=>n ((x.kd j b hb).mpr z)) (rz.mono x) ?_
    rcases hz with⟨t,hz⟩|⟨t,⟨o,hz⟩|hz⟩
    ·exact .inl ⟨t,by rw[upd_ne (ne t)];exact hz⟩
    ·exact .inr ⟨t,.inl ⟨o,by rw[upd_ne (ne_of hz hx (fun z=>hf _ _ z.symm))];exact hz⟩⟩
    ·exact .inr ⟨t,.inr hz⟩
   |d rz t hz=>exact .d (rz.mono x) t (by rw[upd_ne (ne t)];exact hz)
theorem StOk.write{st:Za}{a:Addr}{i:Nat}{ds es:List D}{xs ys:List V}(S:StOk K ad H st)(h:LA ad H i a)(e:st[i]?=some (true,ds))(hx:H a=some (.lst xs))(r:Dens K ad H ys es) :
  StOk K ad (upd H a (.lst ys)) (st.set i (true,es)):=
 S.writeG h.1 e hx (fun _ _ z=>nomatch z) (Ext.write hx (List.mem_of_getElem? h.1)) (.l (Qs upd_same fun _ z=>nomatch z) (r.mono (Ext.write hx (List.mem_of_getElem? h.1))) (.inl ⟨rfl,upd_same⟩))

structure EnvOk(K:PySem.W.Frag)(ad:List Addr)(H:Hp)(σ:L2.St)(ρ:Env):Prop where
 len:σ.length=ρ.length
 at_:∀ (i:Nat) (d:D),ρ[i]?=some (some d)→∃ v,σ[i]?=some (some v)∧Den K ad H v d
theorem EnvOk.mono{σ:L2.St}{ρ:Env}(x:Ext ad H ad' H')(h:EnvOk K ad H σ ρ):EnvOk K ad' H' σ ρ:=⟨h.len,fun i d e=>let ⟨v,e1,e2⟩:=h.at_ i d e;⟨v,e1,e2.mono x⟩⟩
theorem EnvOk.set{σ:L2.St}{ρ:Env}{v:V}{d:D}(h:EnvOk K ad H σ ρ)(i:Nat)(r:Den K ad H v d):EnvOk K ad H (σ.set i (some v)) (ZB ρ i d):=by
 refine⟨by unfold ZB;rw[List.length_set,List.length_set];exact h.len,fun j e q=>?_⟩
 unfold ZB at q;by_cases z:i=j
 ·subst z
  by_cases hi:i < ρ.length
  ·rw[List.getElem?_set_self hi]at q
   cases q;exact⟨v,by rw[List.getElem?_set_self (by rw[h.len];exact hi)],r⟩
  ·rw[List.getElem?_eq_none (by rw[List.length_set];omega)]at q
   cases q
 ·rw[List.getElem?_set_ne z]at q
  obtain⟨w,e1,e2⟩:=h.at_ j e q;exact⟨w,by rw[List.getElem?_set_ne z];exact e1,e2⟩
end

def Post(K:PySem.W.Frag)(ad:List Addr)(H:Hp)(d:D)(st':Za)(Q:VK):Prop:=∀ v ad' H',Ext ad H ad' H'→StOk K ad' H' st'→Den K ad' H' v d→Q v H'
noncomputable def tE(K:PySem.W.Frag)(f:Env→Za→Res):TE:=fun σ H Q=>∃ ad ρ st d st',EnvOk K ad H σ ρ∧StOk K ad H st∧f ρ st=some (d,st')∧Post K ad H d st' Q
noncomputable def tT(K:PySem.W.Frag)(f:Env→Za→Res):TT:=fun σ H Q=>∃ ad ρ st k st',EnvOk K ad H σ ρ∧StOk K ad H st∧f ρ st=some (.bl k,st')∧∀ ad' H',Ext ad H ad' H'→StOk K ad' H' st'→Q k H'
noncomputable def tA(K:PySem.W.Frag)(f:Env→Za→Res):TA:=fun σ H Q=>∃ ad ρ st ds st',EnvOk K ad H σ ρ∧StOk K ad H st∧f ρ st=some (.tup ds,st')∧∀ vs ad' H',Ext ad H ad' H'→StOk K ad' H' st'→Dens K ad' H' vs ds→Q vs H'
noncomputable def rD(K:PySem.W.Frag)(f:D→D→Za→Res):R2:=fun x y H Q=>∃ ad st dx dy d st',StOk K ad H st∧Den K ad H x dx∧Den K ad H y dy∧f dx dy st=some (d,st')∧Post K ad H d st' Q
noncomputable def spD(K:PySem.W.Frag)(g:Fn):Sp:=fun vs H Q _=>∃ ad ds st d st',StOk K ad H st∧Dens K ad H vs ds∧g ds st=some (d,st')∧Post K ad H d st' Q
noncomputable def tS(K:PySem.W.Frag)(f:Env→Za→Option (Fl×Za)):TS:=fun D σ H=>∃ ad ρ st r st',EnvOk K ad H σ ρ∧StOk K ad H st∧f ρ st=some (r,st') ∧
 match r with
 |.nx ρ'=>∀ σ' ad' H',Ext ad H ad' H'→StOk K ad' H' st'→EnvOk K ad' H' σ' ρ'→D.nx σ' H'
 |.bk ρ'=>∀ σ' ad' H',Ext ad H ad' H'→StOk K ad' H' st'→EnvOk K ad' H' σ' ρ'→D.bk σ' H'
 |.ct ρ'=>∀ σ' ad' H',Ext ad H ad' H'→StOk K ad' H' st'→EnvOk K ad' H' σ' ρ'→D.ct σ' H'
 |.rt d=>Post K ad H d st' D.rt
theorem Post.at{K:PySem.W.Frag}{ad:List Addr}{H:Hp}{d:D}{st:Za}{Q:VK}(p:Post K ad H d st Q)(S:StOk K ad H st){v:V}(h:Den K ad H v d):Q v H:=p v ad H (Ext.refl _ _) S h
theorem Post.later{K:PySem.W.Frag}{ad ad':List Addr}{H H':Hp}{d:D}{st:Za}{Q:VK}(p:Post K ad H d st Q)(x:Ext ad H ad' H'):Post K ad' H' d st Q:=fun v a2 H2 y S h=>p v a2 H2 (x.trans y) S h
end Dp



namespace Dp
open PySem PySem.Spec PyProof.Rows L2
variable [ClsTab]
section
variable {X:Cx}{a b c:Expr}{fa fb fc:Ev}{pos:Pos}

theorem Zfj{K:PySem.W.Frag}{i:Nat}(σ:L2.St)(H:Hp)(Q:VK)(h:tE K (WB i) σ H Q):tVar i σ H Q:=by
 obtain⟨ad,ρ,st,d,st',E,S,e,p⟩:=h;unfold WB at e;split at e
 ·rename_i q
  obtain⟨v,e1,e2⟩:=E.at_ i _ q;cases e;exact⟨v,e1,p.at S e2⟩
 ·cases e
theorem Jd{K:PySem.W.Frag}{v:V}{d:D}(hd:∀ ad H,Den K ad H v d)(σ:L2.St)(H:Hp)(Q:VK)(h:tE K (evC d) σ H Q):tC v σ H Q:=by
 obtain⟨ad,ρ,st,d',st',E,S,e,p⟩:=h;cases e;exact p.at S (hd _ _)
theorem Qg{K:PySem.W.Frag}{g:D→D→Za→Res}(σ:L2.St)(H:Hp)(Q:VK)(h:tE K (Y9 fa fb g) σ H Q):tOp (rD K g) (tE K fa) (tE K fb) σ H Q:=by
 obtain⟨ad,ρ,st,d,st',E,S,e,p⟩:=h;unfold Y9 at e;split at e
 ·rename_i x st1 q1
  split at e
  ·rename_i y st2 q2
   refine⟨ad,ρ,st,x,st1,E,S,q1,fun v1 ad1 H1 x1 S1 d1=>⟨ad1,ρ,st1,y,st2,E.mono x1,S1,q2,fun v2 ad2 H2 x2 S2 d2=>?_⟩⟩
   exact⟨ad2,st2,x,y,d,st',S2,d1.mono x2,d2,e,p.later (x1.trans x2)⟩
  ·cases e
 ·cases e
def rU1(K:PySem.W.Frag)(g:D→Za→Res):V→Hp→VK→Prop:=fun x H Q=>∃ ad st dx d st',StOk K ad H st∧Den K ad H x dx∧g dx st=some (d,st')∧Post K ad H d st' Q
theorem Zhe{K:PySem.W.Frag}{g:D→Za→Res}(σ:L2.St)(H:Hp)(Q:VK)(h:tE K (Yf fa g) σ H Q):tUn (rU1 K g) (tE K fa) σ H Q:=by
 obtain⟨ad,ρ,st,d,st',E,S,e,p⟩:=h;unfold Yf at e;split at e
 ·rename_i x st1 q1
  exact⟨ad,ρ,st,x,st1,E,S,q1,fun v1 ad1 H1 x1 S1 d1=>⟨ad1,st1,x,d,st',S1,d1,e,p.later x1⟩⟩
 ·cases e
theorem Zc7{K:PySem.W.Frag}(σ:L2.St)(H:Hp)(Q:Bool→Hp→Prop)(h:tT K fa σ H Q):tE K fa σ H fun x H1=>∃ c,x=.bl c∧Q c H1:=by
 obtain⟨ad,ρ,st,k,st',E,S,e,p⟩:=h;exact⟨ad,ρ,st,.bl k,st',E,S,e,fun v ad' H' x S' d'=>⟨k,d'.ofBl,p ad' H' x S'⟩⟩
theorem YQ{fc ft ff:Ev}{ρ:Env}{st:Za}{r:D×Za}(h:XO fc ft ff ρ st=some r):∃ k st1,fc ρ st=some (.bl k,st1)∧(if k=true then ft ρ st1 else ff ρ st1)=some r:=by
 unfold XO at h;split at h
 ·rename_i st1 q
  exact⟨true,st1,q,by rw[if_pos rfl];exact h⟩
 ·rename_i st1 q
  exact⟨false,st1,q,by rw[if_neg Bool.false_ne_true];exact h⟩
 ·cases h
theorem Zhd{K:PySem.W.Frag}(σ:L2.St)(H:Hp)(Q:VK)(h:tE K (XO fc fa fb) σ H Q):tIf (tT K fc) (tE K fa) (tE K fb) σ H Q:=by
 obtain⟨ad,ρ,st,d,st',E,S,e,p⟩:=h;obtain⟨k,st1,q,e⟩:=YQ e;refine⟨ad,ρ,st,k,st1,E,S,q,fun ad1 H1 x1 S1=>?_⟩
 cases k with
 |true=>
  rw[if_pos rfl]at e ⊢;exact⟨ad1,ρ,st1,d,st',E.mono x1,S1,e,p.later x1⟩
 |false=>
  rw[if_neg Bool.false_ne_true]at e ⊢;exact⟨ad1,ρ,st1,d,st',E.mono x1,S1,e,p.later x1⟩
theorem ZcV{K:PySem.W.Frag}(σ:L2.St)(H:Hp)(Q:VK)(h:tE K (XO fa fb (evC (.bl false))) σ H Q):tAndV (tE K fa) (tE K fb) σ H Q:=by
 obtain⟨ad,ρ,st,d,st',E,S,e,p⟩:=h;obtain⟨k,st1,q,e⟩:=YQ e;refine⟨ad,ρ,st,.bl k,st1,E,S,q,fun v1 ad1 H1 x1 S1 d1=>⟨k,d1.ofBl,?_⟩⟩
 cases k with
 |true=>
  rw[if_pos rfl]at e ⊢;exact⟨ad1,ρ,st1,d,st',E.mono x1,S1,e,p.later x1⟩
 |false=>
  rw[if_neg Bool.false_ne_true]at e ⊢;cases e;exact(p.later x1).at S1 (.bl false)
theorem Zfc{K:PySem.W.Frag}(σ:L2.St)(H:Hp)(Q:VK)(h:tE K (XO fa (evC (.bl true)) fb) σ H Q):tOrV (tE K fa) (tE K fb) σ H Q:=by
 obtain⟨ad,ρ,st,d,st',E,S,e,p⟩:=h;obtain⟨k,st1,q,e⟩:=YQ e;refine⟨ad,ρ,st,.bl k,st1,E,S,q,fun v1 ad1 H1 x1 S1 d1=>⟨k,d1.ofBl,?_⟩⟩
 cases k with
 |true=>
  rw[if_pos rfl]at e ⊢;cases e;exact(p.later x1).at S1 (.bl true)
 |false=>
  rw[if_neg Bool.false_ne_true]at e ⊢;exact⟨ad1,ρ,st1,d,st',E.mono x1,S1,e,p.later x1⟩
theorem ZcU{K:PySem.W.Frag}(σ:L2.St)(H:Hp)(Q:Bool→Hp→Prop)(h:tT K (XO fa fb (evC (.bl false))) σ H Q):tAnd (tT K fa) (tT K fb) σ H Q:=by
 obtain⟨ad,ρ,st,d,st',E,S,e,p⟩:=h;obtain⟨k,st1,q,e⟩:=YQ e;refine⟨ad,ρ,st,k,st1,E,S,q,fun ad1 H1 x1 S1=>?_⟩
 cases k with
 |true=>
  rw[if_pos rfl]at e ⊢;exact⟨ad1,ρ,st1,d,st',E.mono x1,S1,e,fun ad2 H2 x2 S2=>p ad2 H2 (x1.trans x2) S2⟩
 |false=>
  rw[if_neg Bool.false_ne_true]at e ⊢;cases e;exact p ad1 H1 x1 S1
theorem Zfb{K:PySem.W.Frag}(σ:L2.St)(H:Hp)(Q:Bool→Hp→Prop)(h:tT K (XO fa (evC (.bl true)) fb) σ H Q):tOr (tT K fa) (tT K fb) σ H Q:=by
 obtain⟨ad,ρ,st,d,st',E,S,e,p⟩:=h;obtain⟨k,st1,q,e⟩:=YQ e;refine⟨ad,ρ,st,k,st1,E,S,q,fun ad1 H1 x1 S1=>?_⟩
 cases k with
 |true=>
  rw[if_pos rfl]at e ⊢;cases e;exact p ad1 H1 x1 S1
 |false=>
  rw[if_neg Bool.false_ne_true]at e ⊢;exact⟨ad1,ρ,st1,d,st',E.mono x1,S1,e,fun ad2 H2 x2 S2=>p ad2 H2 (x1.trans x2) S2⟩
theorem Zc3{K:PySem.W.Frag}(σ:L2.St)(H:Hp)(Q:Bool→Hp→Prop)(h:tT K (Yf fa Zb8) σ H Q):tNot (tT K fa) σ H Q:=by
 obtain⟨ad,ρ,st,d,st',E,S,e,p⟩:=h;unfold Yf at e;split at e
 ·rename_i x st1 q1
  cases x with
  |bl k=>
   cases (show some (D.bl (!k),st1)=_ from e)
   exact⟨ad,ρ,st,k,_,E,S,q1,fun ad1 H1 x1 S1=>p ad1 H1 x1 S1⟩
  |_=>simp[Zb8]at e
 ·cases e
theorem Zc4{K:PySem.W.Frag}(σ:L2.St)(H:Hp)(Q:VK)(h:tE K (Yf fa Zb8) σ H Q):tNotV (tE K fa) σ H Q:=by
 obtain⟨ad,ρ,st,d,st',E,S,e,p⟩:=h;unfold Yf at e;split at e
 ·rename_i x st1 q1
  cases x with
  |bl k=>
   cases (show some (D.bl (!k),st1)=_ from e)
   exact⟨ad,ρ,st,.bl k,_,E,S,q1,fun v1 ad1 H1 x1 S1 d1=>⟨k,d1.ofBl,(p.later x1).at S1 (.bl _)⟩⟩
  |_=>simp[Zb8]at e
 ·cases e
theorem VM{K:PySem.W.Frag}(σ:L2.St)(H:Hp)(Q:List V→Hp→Prop)(h:tA K (evC (.tup [])) σ H Q):tNil σ H Q:=by
 obtain⟨ad,ρ,st,d,st',E,S,e,p⟩:=h;cases e;exact p [] ad H (Ext.refl _ _) S .nil
theorem X7{K:PySem.W.Frag}(σ:L2.St)(H:Hp)(Q:List V→Hp→Prop)(h:tA K (Y9 fa fb W5) σ H Q):tCons (tE K fa) (tA K fb) σ H Q:=by
 obtain⟨ad,ρ,st,d,st',E,S,e,p⟩:=h;unfold Y9 at e;split at e
 ·rename_i x st1 q1
  split at e
  ·rename_i y st2 q2
   cases y with
   |tup zs=>
    have e:(if zs.length < 1000 then some (D.tup (x :: zs),st2) else none)=some (D.tup d,st'):=e
    split at e
    ·cases e
     refine⟨ad,ρ,st,_,st1,E,S,q1,fun v1 ad1 H1 x1 S1 d1=>⟨ad1,ρ,st1,zs,_,E.mono x1,S1,q2,fun v2 ad2 H2 x2 S2 d2=>?_⟩⟩
     exact p _ ad2 H2 (x1.trans x2) S2 (.cons (d1.mono x2) d2)
    ·cases e
   |_=>simp[W5]at e
  ·cases e
 ·cases e
theorem Zfi{K:PySem.W.Frag}(hb:∀ ρ st ds st',fa ρ st=some (.tup ds,st')→ds.length≤1000)(ht:∀ ρ st d st',fa ρ st=some (d,st')→∃ ds,d=.tup ds)(σ:L2.St)(H:Hp)(Q:VK)(h:tE K fa σ H Q):tTup (tA K fa) σ H Q:=by
 obtain⟨ad,ρ,st,d,st',E,S,e,p⟩:=h;obtain⟨ds,rfl⟩:=ht _ _ _ _ e;refine⟨ad,ρ,st,ds,st',E,S,e,fun vs ad1 H1 x1 S1 d1=>⟨?_,fun q hq=>?_⟩⟩
 ·rw[d1.length]
  exact Nat.le_trans (hb _ _ _ _ e) (by decide)
 ·exact p _ ad1 _ (x1.trans (Ext.laid hq)) (S1.laid hq) (.tup (.inl upd_same) (d1.mono (Ext.laid hq)))
theorem Ze9{K:PySem.W.Frag}(hb:∀ ρ st ds st',fa ρ st=some (.tup ds,st')→ds.length≤1000)(σ:L2.St)(H:Hp)(Q:VK)(h:tE K (Yf fa Zdm) σ H Q):tLst (tA K fa) σ H Q:=by
 obtain⟨ad,ρ,st,d,st',E,S,e,p⟩:=h;unfold Yf at e;split at e
 ·rename_i x st1 q1
  cases x with
  |tup ds=>
   cases (show some (D.lst st1.length,st1++[(true,ds)])=_ from e)
   refine⟨ad,ρ,st,ds,_,E,S,q1,fun vs ad1 H1 x1 S1 d1=>⟨?_,fun q hq=>?_⟩⟩
   ·rw[d1.length]
    exact Nat.le_trans (hb _ _ _ _ q1) (by decide)
   ·refine p _ (ad1++[q]) _ (x1.trans (Ext.push hq)) (S1.push hq d1) (.newL ?_)
    rw[←S1.len];exact ZP
  |_=>simp[Zdm]at e
 ·cases e
theorem Je{K:PySem.W.Frag}{g:Fn}{ds:List D}{dvs:List V}{E:XK}(hd:∀ ad H,Dens K ad H dvs ds)(σ:L2.St)(H:Hp)(Q:VK)(h:tE K (Yf fa (QW g ds)) σ H Q):tCall (spD K g) dvs E (tA K fa) σ H Q:=by
 obtain⟨ad,ρ,st,d,st',E,S,e,p⟩:=h;unfold Yf at e;split at e
 ·rename_i x st1 q1
  cases x with
  |tup xs=>exact⟨ad,ρ,st,xs,_,E,S,q1,fun vs ad1 H1 x1 S1 d1=>⟨ad1,xs++ds,_,d,st',S1,d1.append (hd _ _),e,p.later x1⟩⟩
  |_=>simp[QW]at e
 ·cases e
def rC(K:PySem.W.Frag)(g:List D→Za→Res):List V→Hp→VK→Prop:=fun vs H Q=>∃ ad st ds d st',StOk K ad H st∧Dens K ad H vs ds∧g ds st=some (d,st')∧Post K ad H d st' Q
noncomputable def on1(g:D→Za→Res):List D→Za→Res
 |[x],st=>g x st
 |_,_=>none
noncomputable def on2(g:D→D→Za→Res):List D→Za→Res
 |[x,y],st=>g x y st
 |_,_=>none
theorem WD{K:PySem.W.Frag}{g:D→Za→Res}(σ:L2.St)(H:Hp)(Q:VK)(h:tE K (Yf fa g) σ H Q):tCB (rC K (on1 g)) (tCons (tE K fa) tNil) σ H Q:=by
 obtain⟨ad,ρ,st,d,st',E,S,e,p⟩:=h;unfold Yf at e;split at e
 ·rename_i x st1 q1
  exact⟨ad,ρ,st,x,st1,E,S,q1,fun v1 ad1 H1 x1 S1 d1=>⟨ad1,st1,[x],d,st',S1,.cons d1 .nil,e,p.later x1⟩⟩
 ·cases e
theorem Jc{K:PySem.W.Frag}{g:D→D→Za→Res}(σ:L2.St)(H:Hp)(Q:VK)(h:tE K (Y9 fa fb g) σ H Q):tCB (rC K (on2 g)) (tCons (tE K fa) (tCons (tE K fb) tNil)) σ H Q:=by
 obtain⟨ad,ρ,st,d,st',E,S,e,p⟩:=h;unfold Y9 at e;split at e
 ·rename_i x st1 q1
  split at e
  ·rename_i y st2 q2
   refine⟨ad,ρ,st,x,st1,E,S,q1,fun v1 ad1 H1 x1 S1 d1=>⟨ad1,ρ,st1,y,st2,E.mono x1,S1,q2,fun v2 ad2 H2 x2 S2 d2=>?_⟩⟩
   exact⟨ad2,st2,[x,y],d,st',S2,.cons (d1.mono x2) (.cons d2 .nil),e,p.later (x1.trans x2)⟩
  ·cases e
 ·cases e
noncomputable def tO(K:PySem.W.Frag)(f:Ev):TO:=fun σ H Q=>∃ ad ρ st d st',EnvOk K ad H σ ρ∧StOk K ad H st∧f ρ st=some (d,st') ∧
 ((d=.non∧∀ ad' H',Ext ad H ad' H'→StOk K ad' H' st'→Q none H')∨∃ i,d=.int i∧∀ ad' H',Ext ad H ad' H'→StOk K ad' H' st'→Q (some i) H')
def rSl(K:PySem.W.Frag):V→Option Int→Option Int→Hp→VK→Prop:=fun x lo hi H Q=>∃ ad st dx d st',StOk K ad H st∧Den K ad H x dx∧YR dx lo hi st=some (d,st')∧Post K ad H d st' Q
noncomputable def part:D→Option (Option Int)
 |.non=>some none
 |.int i=>some (some i)
 |_=>none
theorem QG{x l h:D}{st:Za}{r:D×Za}(e:Ws x l h st=some r):∃ lo hi,part l=some lo∧part h=some hi∧YR x lo hi st=some r:=by
 unfold Ws at e;split at e
 ·exact⟨_,_,rfl,rfl,e⟩
 ·exact⟨_,_,rfl,rfl,e⟩
 ·exact⟨_,_,rfl,rfl,e⟩
 ·exact⟨_,_,rfl,rfl,e⟩
 ·cases e
theorem Zgy{K:PySem.W.Frag}{f:Ev}{σ:L2.St}{H:Hp}{Q:Option Int→Hp→Prop}{ad:List Addr}{ρ:Env}{st st':Za}{d:D}{o:Option Int}(E:EnvOk K ad H σ ρ)(S:StOk K ad H st)(e:f ρ st=some (d,st'))(po:part d=some o)(q:∀ ad' H',Ext ad H ad' H'→StOk K ad' H' st'→Q o H'):tO K f σ H Q:=by
 refine⟨ad,ρ,st,d,st',E,S,e,?_⟩;cases d with
 |non=>cases po;exact .inl ⟨rfl,q⟩
 |int i=>cases po;exact .inr ⟨i,rfl,q⟩
 |_=>cases po
theorem ZbW{K:PySem.W.Frag}(σ:L2.St)(H:Hp)(Q:VK)(h:tE K (JF fa fb fc Ws) σ H Q):tSl (rSl K) (tE K fa) (tO K fb) (tO K fc) σ H Q:=by
 obtain⟨ad,ρ,st,d,st',E,S,e,p⟩:=h;unfold JF at e;split at e
 ·rename_i x st1 q1
  split at e
  ·rename_i y st2 q2
   split at e
   ·rename_i z st3 q3
    obtain⟨lo,hi,pl,ph,e⟩:=QG e;refine⟨ad,ρ,st,x,st1,E,S,q1,fun v1 ad1 H1 x1 S1 d1=>Zgy (E.mono x1) S1 q2 pl fun ad2 H2 x2 S2=>Zgy (E.mono (x1.trans x2)) S2 q3 ph fun ad3 H3 x3 S3=>?_⟩
    exact⟨ad3,st3,x,d,st',S3,d1.mono (x2.trans x3),e,p.later (x1.trans (x2.trans x3))⟩
   ·cases e
  ·cases e
 ·cases e
theorem Zfa{K:PySem.W.Frag}(σ:L2.St)(H:Hp)(Q:Option Int→Hp→Prop)(h:tO K (evC .non) σ H Q):tNoPart σ H Q:=by
 obtain⟨ad,ρ,st,d,st',E,S,e,p⟩:=h;cases e;rcases p with⟨_,p⟩|⟨i,z,_⟩
 ·exact p ad H (Ext.refl _ _) S
 ·cases z
end
end Dp



namespace Dp
open PySem PySem.Spec PyProof.Rows L2
variable [ClsTab]
def PostS(K:PySem.W.Frag)(ad:List Addr)(H:Hp)(r:Fl)(st':Za)(D:Ends):Prop:=match r with
 |.nx ρ'=>∀ σ' ad' H',Ext ad H ad' H'→StOk K ad' H' st'→EnvOk K ad' H' σ' ρ'→D.nx σ' H'
 |.bk ρ'=>∀ σ' ad' H',Ext ad H ad' H'→StOk K ad' H' st'→EnvOk K ad' H' σ' ρ'→D.bk σ' H'
 |.ct ρ'=>∀ σ' ad' H',Ext ad H ad' H'→StOk K ad' H' st'→EnvOk K ad' H' σ' ρ'→D.ct σ' H'
 |.rt d=>Post K ad H d st' D.rt
theorem PostS.later{K:PySem.W.Frag}{ad ad':List Addr}{H H':Hp}{r:Fl}{st:Za}{D:Ends}(x:Ext ad H ad' H')(p:PostS K ad H r st D):PostS K ad' H' r st D:=by
 cases r with
 |nx ρ=>exact fun σ2 a2 H2 y S E=>p σ2 a2 H2 (x.trans y) S E
 |bk ρ=>exact fun σ2 a2 H2 y S E=>p σ2 a2 H2 (x.trans y) S E
 |ct ρ=>exact fun σ2 a2 H2 y S E=>p σ2 a2 H2 (x.trans y) S E
 |rt d=>exact Post.later p x
theorem YM{K:PySem.W.Frag}{f:Ex}{D:Ends}{σ:L2.St}{H:Hp}{ad:List Addr}{ρ:Env}{st st':Za}{r:Fl}(E:EnvOk K ad H σ ρ)(S:StOk K ad H st)(e:f ρ st=some (r,st'))(p:PostS K ad H r st' D):tS K f D σ H:=by
 refine⟨ad,ρ,st,r,st',E,S,e,?_⟩;cases r<;>exact p
theorem YC{K:PySem.W.Frag}{f:Ex}{D:Ends}{σ:L2.St}{H:Hp}(h:tS K f D σ H):∃ ad ρ st r st',EnvOk K ad H σ ρ∧StOk K ad H st∧f ρ st=some (r,st')∧PostS K ad H r st' D:=by
 obtain⟨ad,ρ,st,r,st',E,S,e,p⟩:=h;refine⟨ad,ρ,st,r,st',E,S,e,?_⟩;cases r<;>exact p
section
variable {K:PySem.W.Frag}{f g:Ex}{fe fi fk:Ev}
theorem Jg(D:Ends)(σ:L2.St)(H:Hp)(h:tS K (fun ρ st=>some (.nx ρ,st)) D σ H):tNext D σ H:=by
 obtain⟨ad,ρ,st,r,st',E,S,e,p⟩:=YC h;cases e;exact p σ ad H (Ext.refl _ _) S E
theorem Ze5(D:Ends)(σ:L2.St)(H:Hp)(h:tS K (fun ρ st=>some (.bk ρ,st)) D σ H):tBreak D σ H:=by
 obtain⟨ad,ρ,st,r,st',E,S,e,p⟩:=YC h;cases e;exact p σ ad H (Ext.refl _ _) S E
theorem ZcX(D:Ends)(σ:L2.St)(H:Hp)(h:tS K (fun ρ st=>some (.ct ρ,st)) D σ H):tCont D σ H:=by
 obtain⟨ad,ρ,st,r,st',E,S,e,p⟩:=YC h;cases e;exact p σ ad H (Ext.refl _ _) S E
theorem Zfg(D:Ends)(σ:L2.St)(H:Hp)(h:tS K (Zcg f g) D σ H):tSeq (tS K f) (tS K g) D σ H:=by
 obtain⟨ad,ρ,st,r,st',E,S,e,p⟩:=YC h;unfold Zcg at e;split at e
 ·rename_i ρ1 st1 q
  exact YM E S q fun σ1 ad1 H1 x1 S1 E1=>YM E1 S1 e (p.later x1)
 ·rename_i q
  refine YM E S e ?_;cases r with
  |nx ρ1=>exact absurd e (q ρ1 st')
  |bk ρ1=>exact p
  |ct ρ1=>exact p
  |rt d=>exact p
theorem Zfe(D:Ends)(σ:L2.St)(H:Hp)(h:tS K (ZdZ fe) D σ H):tRet (tE K fe) D σ H:=by
 obtain⟨ad,ρ,st,r,st',E,S,e,p⟩:=YC h;unfold ZdZ at e;split at e
 ·rename_i d st1 q
  cases e;exact⟨ad,ρ,st,d,_,E,S,q,p⟩
 ·cases e
theorem Qh{i:Nat}(D:Ends)(σ:L2.St)(H:Hp)(h:tS K (JI i fe) D σ H):tAsg (tE K fe) (gName i) D σ H:=by
 obtain⟨ad,ρ,st,r,st',E,S,e,p⟩:=YC h;unfold JI at e;split at e
 ·rename_i d st1 q
  cases e;exact⟨ad,ρ,st,d,_,E,S,q,fun v ad1 H1 x1 S1 d1=>p _ ad1 H1 x1 S1 ((E.mono x1).set i d1)⟩
 ·cases e
theorem Zc5{i j:Nat}(D:Ends)(σ:L2.St)(H:Hp)(h:tS K (JG i j fe) D σ H):tAsg (tE K fe) (gTup K 2 (gCons (gName i) (gCons (gName j) gNil))) D σ H:=by
 obtain⟨ad,ρ,st,r,st',E,S,e,p⟩:=YC h;unfold JG at e;split at e
 ·rename_i x y st1 q
  cases e;refine⟨ad,ρ,st,_,_,E,S,q,fun v ad1 H1 x1 S1 d1=>?_⟩
  obtain⟨a,vs,rfl,ha,rv⟩:=d1.ofTup;cases rv with
  |cons d1 rv=>
   cases rv with
   |cons d2 rv=>
    cases rv;exact⟨a,_,rfl,(ha).sq,rfl,_,_,rfl,_,_,rfl,rfl,p _ ad1 H1 x1 S1 (((E.mono x1).set i d1).set j d2)⟩
 ·cases e
theorem Zc6{i j l:Nat}(D:Ends)(σ:L2.St)(H:Hp)(h:tS K (JH i j l fe) D σ H):tAsg (tE K fe) (gTup K 3 (gCons (gName i) (gCons (gName j) (gCons (gName l) gNil)))) D σ H:=by
 obtain⟨ad,ρ,st,r,st',E,S,e,p⟩:=YC h;unfold JH at e;split at e
 ·rename_i x y z st1 q
  cases e;refine⟨ad,ρ,st,_,_,E,S,q,fun v ad1 H1 x1 S1 d1=>?_⟩
  obtain⟨a,vs,rfl,ha,rv⟩:=d1.ofTup;cases rv with
  |cons d1 rv=>
   cases rv with
   |cons d2 rv=>
    cases rv with
    |cons d3 rv=>
     cases rv;exact⟨a,_,rfl,(ha).sq,rfl,_,_,rfl,_,_,rfl,_,_,rfl,rfl,p _ ad1 H1 x1 S1 ((((E.mono x1).set i d1).set j d2).set l d3)⟩
 ·cases e
theorem Ze3(D:Ends)(σ:L2.St)(H:Hp)(h:tS K (Zcs fe) D σ H):tDrop (tE K fe) D σ H:=by
 obtain⟨ad,ρ,st,r,st',E,S,e,p⟩:=YC h;unfold Zcs at e;split at e
 ·rename_i d st1 q
  cases e;exact⟨ad,ρ,st,d,_,E,S,q,fun v ad1 H1 x1 S1 d1=>p _ ad1 H1 x1 S1 (E.mono x1)⟩
 ·cases e
theorem Ze8(D:Ends)(σ:L2.St)(H:Hp)(h:tS K (Zb0 fe f g) D σ H):tIfS (tT K fe) (tS K f) (tS K g) D σ H:=by
 obtain⟨ad,ρ,st,r,st',E,S,e,p⟩:=YC h;unfold Zb0 at e;split at e
 ·rename_i st1 q
  refine⟨ad,ρ,st,true,st1,E,S,q,fun ad1 H1 x1 S1=>?_⟩
  dsimp only;rw[if_pos rfl];exact YM (E.mono x1) S1 e (p.later x1)
 ·rename_i st1 q
  refine⟨ad,ρ,st,false,st1,E,S,q,fun ad1 H1 x1 S1=>?_⟩
  dsimp only;rw[if_neg Bool.false_ne_true];exact YM (E.mono x1) S1 e (p.later x1)
 ·cases e
theorem QI{ad:List Addr}{H:Hp}{st:Za}{i:Nat}{a:Addr}(S:StOk K ad H st)(h:LA ad H i a):∃ b ds,st[i]?=some (b,ds):=by
 have hi:i < st.length:=by rw[←S.len];exact(List.getElem?_eq_some_iff.mp h.1).1
 exact⟨st[i].1,st[i].2,by rw[List.getElem?_eq_getElem hi]⟩
theorem ZaO{ad:List Addr}{H:Hp}{st st2:Za}{i:Nat}{a:Addr}{v:V}{d:D}(S:StOk K ad H st)(h:LA ad H i a)(hd:Den K ad H v d)(e:Zcu i d st=some st2) :
  ∃ xs,H a=some (.lst xs)∧xs.length < sizeLine∧Ext ad H ad (upd H a (.lst (xs++[v])))∧StOk K ad (upd H a (.lst (xs++[v]))) st2:=by
 unfold Zcu at e;split at e
 ·rename_i ds q
  split at e
  ·rename_i hz
   cases e;obtain⟨xs,r,hx⟩:=S.listM h q;refine⟨xs,hx,?_,Ext.write hx (List.mem_of_getElem? h.1),S.write h q hx (r.append (.cons hd .nil))⟩;rw[r.length];exact Nat.lt_of_lt_of_le hz (by decide)
  ·cases e
 ·cases e
theorem Ze4{i:Nat}(D:Ends)(σ:L2.St)(H:Hp)(h:tS K (Zcw i fe) D σ H):tDrop (tBM K "list" rAppend (tVar i) (tCons (tE K fe) tNil)) D σ H:=by
 obtain⟨ad,ρ,st,r,st',E,S,e,p⟩:=YC h;unfold Zcw at e;split at e
 ·rename_i a q0
  split at e
  ·rename_i d st1 q1
   split at e
   ·rename_i st2 q2
    cases e;obtain⟨v,e1,e2⟩:=E.at_ i _ q0;obtain⟨l,rfl,hl⟩:=e2.ofLst;obtain⟨b,ds,hc⟩:=QI S hl;obtain⟨xs,_,sq⟩:=S.list hl hc;refine⟨_,e1,.inl ⟨rfl,xs,sq⟩,ad,ρ,st,d,st1,E,S,q1,fun w ad1 H1 x1 S1 d1=>?_⟩
    obtain⟨ys,hy,hz,x2,S2⟩:=ZaO S1 (hl.mono x1) d1 q2;exact⟨l,ys,w,rfl,rfl,hy,hz,p _ ad1 _ (x1.trans x2) S2 (E.mono (x1.trans x2))⟩
   ·cases e
  ·cases e
 ·cases e
theorem ZcW{fo:Ev}(D:Ends)(σ:L2.St)(H:Hp)(h:tS K (Zcv fo fe) D σ H):tDrop (tBM K "list" rAppend (tE K fo) (tCons (tE K fe) tNil)) D σ H:=by
 obtain⟨ad,ρ,st,r,st',E,S,e,p⟩:=YC h;unfold Zcv at e;split at e
 ·rename_i a st0 q0
  split at e
  ·rename_i d st1 q1
   split at e
   ·rename_i st2 q2
    cases e;refine⟨ad,ρ,st,.lst a,st0,E,S,q0,fun v ad0 H0 x0 S0 d0=>?_⟩
    obtain⟨l,rfl,hl⟩:=d0.ofLst;obtain⟨b,ds,hc⟩:=QI S0 hl;obtain⟨xs,_,sq⟩:=S0.list hl hc;refine⟨.inl ⟨rfl,xs,sq⟩,ad0,ρ,st0,d,st1,E.mono x0,S0,q1,fun w ad1 H1 x1 S1 d1=>?_⟩
    obtain⟨ys,hy,hz,x2,S2⟩:=ZaO S1 (hl.mono x1) d1 q2;exact⟨l,ys,w,rfl,rfl,hy,hz,p _ ad1 _ ((x0.trans x1).trans x2) S2 (E.mono ((x0.trans x1).trans x2))⟩
   ·cases e
  ·cases e
 ·cases e
theorem Ze6{i:Nat}(D:Ends)(σ:L2.St)(H:Hp)(h:tS K (ZcR i fe) D σ H):tDrop (tBM K "list" rExtend (tVar i) (tCons (tE K fe) tNil)) D σ H:=by
 obtain⟨ad,ρ,st,r,st',E,S,e,p⟩:=YC h;unfold ZcR at e;split at e
 ·rename_i a q0
  split at e
  ·rename_i b st1 q1
   split at e
   ·rename_i st2 q2
    cases e;obtain⟨v,e1,e2⟩:=E.at_ i _ q0;obtain⟨l,rfl,hl⟩:=e2.ofLst;obtain⟨bb,ds,hc⟩:=QI S hl;obtain⟨xs,_,sq⟩:=S.list hl hc;refine⟨_,e1,.inl ⟨rfl,xs,sq⟩,ad,ρ,st,.lst b,st1,E,S,q1,fun w ad1 H1 x1 S1 d1=>?_⟩
    obtain⟨m,rfl,hm⟩:=d1.ofLst;unfold Zg8 at q2;split at q2
    ·rename_i cs es f1 f2
     split at q2
     ·rename_i hz
      cases q2;have hl1:=hl.mono x1;obtain⟨ys,ry,hy⟩:=S1.listM hl1 f1;obtain⟨zs,rz,hzz⟩:=S1.listM hm f2;have x2:=Ext.write (ys:=ys++zs) hy (List.mem_of_getElem? hl1.1);refine⟨l,m,ys,zs,rfl,rfl,hy,hzz,?_,p _ ad1 _ (x1.trans x2) (S1.write hl1 f1 hy (ry.append rz)) (E.mono (x1.trans x2))⟩;rw[ry.length,rz.length];exact Nat.le_trans hz (by decide)
     ·cases q2
    ·cases q2
   ·cases e
  ·cases e
 ·cases e
theorem Zfd{i:Nat}(D:Ends)(σ:L2.St)(H:Hp)(h:tS K (ZdS i fk fe) D σ H):tAsg (tE K fe) (gSub (tVar i) (tE K fk) rSetL) D σ H:=by
 obtain⟨ad,ρ,st,r,st',E,S,e,p⟩:=YC h;unfold ZdS at e;split at e
 ·rename_i d st1 q1
  split at e
  ·rename_i a q0
   split at e
   ·rename_i j st2 q2
    split at e
    ·rename_i st3 q3
     cases e;obtain⟨v,e1,e2⟩:=E.at_ i _ q0;obtain⟨l,rfl,hl⟩:=e2.ofLst;refine⟨ad,ρ,st,d,st1,E,S,q1,fun w ad1 H1 x1 S1 d1=>⟨_,e1,ad1,ρ,st1,.int j,st2,E.mono x1,S1,q2,fun w2 ad2 H2 x2 S2 d2=>?_⟩⟩
     cases d2.ofInt;unfold QK at q3;split at q3
     ·rename_i ds q4
      split at q3
      ·rename_i k q5
       cases q3;have hl2:=hl.mono (x1.trans x2);obtain⟨xs,r,hx⟩:=S2.listM hl2 q4;have x3:Ext ad2 H2 ad2 (upd H2 l (.lst (xs.set k w))):=Ext.write hx (List.mem_of_getElem? hl2.1);refine⟨l,xs,j,k,rfl,rfl,hx,?_,p _ ad2 _ (x1.trans (x2.trans x3)) (S2.write hl2 q4 hx (r.set (d1.mono x2) k)) (E.mono (x1.trans (x2.trans x3)))⟩;rw[r.length];exact q5
      ·cases q3
     ·cases q3
    ·cases e
   ·cases e
  ·cases e
 ·cases e
def Left(K:PySem.W.Frag)(b:D→Env→Za→Option (Fl×Za))(E:Ends)(xs:List D)(σ:L2.St)(H:Hp):Prop:=∃ ad ρ st r st',EnvOk K ad H σ ρ∧StOk K ad H st∧YK b xs ρ st=some (r,st')∧PostS K ad H r st' E
theorem Left.turn{i:Nat}{b:Ex}{E:Ends}{x:D}{xs:List D}{σ:L2.St}{H:Hp}{v:V}(hv:∀ ad H,Den K ad H v x)(h:Left K (fun d ρ s=>b (ZB ρ i d) s) E (x :: xs) σ H) :
  tS K b { E with nx:=Left K (fun d ρ s=>b (ZB ρ i d) s) E xs,ct:=Left K (fun d ρ s=>b (ZB ρ i d) s) E xs,bk:=E.nx } (σ.set i (some v)) H:=by
 obtain⟨ad,ρ,st,r,st',En,S,e,p⟩:=h;unfold YK at e;have En2:=En.set i (hv ad H);split at e
 ·rename_i ρ1 st1 q
  exact YM En2 S q fun σ1 ad1 H1 x1 S1 E1=>⟨ad1,ρ1,st1,r,st',E1,S1,e,p.later x1⟩
 ·rename_i ρ1 st1 q
  exact YM En2 S q fun σ1 ad1 H1 x1 S1 E1=>⟨ad1,ρ1,st1,r,st',E1,S1,e,p.later x1⟩
 ·rename_i ρ1 st1 q
  cases e;exact YM En2 S q fun σ1 ad1 H1 x1 S1 E1=>p σ1 ad1 H1 x1 S1 E1
 ·rename_i d st1 q
  cases e;exact YM En2 S q p
 ·cases e
theorem Left.turnD{i:Nat}{b:Ex}{E:Ends}{x:D}{xs:List D}{σ:L2.St}{H:Hp}{ad:List Addr}{ρ:Env}{st st':Za}{r:Fl}{v:V}(En:EnvOk K ad H σ ρ)(S:StOk K ad H st)(hv:Den K ad H v x)(e:YK (fun d ρ s=>b (ZB ρ i d) s) (x :: xs) ρ st=some (r,st'))(p:PostS K ad H r st' E)(L:L2.St→Hp→Prop)(hL:∀ σ1 ad1 H1 ρ1 st1,Ext ad H ad1 H1→StOk K ad1 H1 st1→EnvOk K ad1 H1 σ1 ρ1→YK (fun d ρ s=>b (ZB ρ i d) s) xs ρ1 st1=some (r,st')→L σ1 H1) :
  tS K b { E with nx:=L,ct:=L,bk:=E.nx } (σ.set i (some v)) H:=by
 unfold YK at e;have En2:=En.set i hv;split at e
 ·rename_i ρ1 st1 q
  exact YM En2 S q fun σ1 ad1 H1 x1 S1 E1=>hL σ1 ad1 H1 ρ1 st1 x1 S1 E1 e
 ·rename_i ρ1 st1 q
  exact YM En2 S q fun σ1 ad1 H1 x1 S1 E1=>hL σ1 ad1 H1 ρ1 st1 x1 S1 E1 e
 ·rename_i ρ1 st1 q
  cases e;exact YM En2 S q fun σ1 ad1 H1 x1 S1 E1=>p σ1 ad1 H1 x1 S1 E1
 ·rename_i d st1 q
  cases e;exact YM En2 S q p
 ·cases e
theorem Left.done{b:D→Env→Za→Option (Fl×Za)}{E:Ends}{σ:L2.St}{H:Hp}(h:Left K b E [] σ H):E.nx σ H:=by
 obtain⟨ad,ρ,st,r,st',En,S,e,p⟩:=h;cases e;exact p σ ad H (Ext.refl _ _) S En
theorem Zav(n k:Nat)(h:k < n):((List.range n).map fun(j:Nat)=>D.int (j:Int)).drop k=D.int (k:Int) :: ((List.range n).map fun(j:Nat)=>D.int (j:Int)).drop (k+1):=by
 rw[List.drop_eq_getElem_cons (by simpa using h)]
 simp
theorem Zc1{i:Nat}(E:Ends)(σ:L2.St)(H:Hp)(h:tS K (Ja i true fi f) E σ H):tFor (iRng1 (tCons (tE K fi) tNil)) (gName i) (tS K f) E σ H:=by
 obtain⟨ad,ρ,st,r,st',En,S,e,p⟩:=YC h;unfold Ja at e;split at e
 ·rename_i x st1 q1
  cases x with
  |int n=>
   have e:(match (if n < 2 ^ 62∧-(2 ^ 62)≤n then some ((List.range n.toNat).map fun(k:Nat)=>D.int (k:Int)) else none) with
    |some xs=>YK (fun d ρ s=>f (ZB ρ i d) s) xs ρ st1
    |none=>none)=some (r,st'):=e
   by_cases hn:n < 2 ^ 62∧-(2 ^ 62)≤n
   ·rw[if_pos hn]at e
    refine⟨ad,ρ,st,.int n,st1,En,S,q1,fun v ad1 H1 x1 S1 d1=>⟨n,by rw[d1.ofInt],hn.2,hn.1,?_⟩⟩
    refine for_range (fun k σ' H'=>Left K (fun d ρ s=>f (ZB ρ i d) s) E (((List.range n.toNat).map fun(k:Nat)=>D.int (k:Int)).drop k) σ' H') ⟨ad1,ρ,st1,r,st',En.mono x1,S1,e,p.later x1⟩ (fun k σ' H' hk L=>?_) fun σ' H' L=>?_
    ·rw[Zav _ _ hk]at L
     have z:(0:Int)+(k:Int)=(k:Int):=Int.zero_add _;rw[z];exact L.turn fun _ _=>.int _
    ·rw[List.drop_eq_nil_of_le (by simp)]at L
     exact L.done
   ·rw[if_neg hn]at e
    cases e
  |_=>simp[XT]at e
 ·cases e
def Zgg(K:PySem.W.Frag)(b:D→Env→Za→Option (Fl×Za))(E:Ends)(a:Addr)(vs:List V)(xs:List D)(k:Nat)(σ:L2.St)(H:Hp):Prop:=
 ∃ ad ρ st r st',EnvOk K ad H σ ρ∧StOk K ad H st∧(TupAt K H a vs∧Dens K ad H vs xs)∧YK b (xs.drop k) ρ st=some (r,st')∧PostS K ad H r st' E
theorem Zc2{i:Nat}(E:Ends)(σ:L2.St)(H:Hp){ad:List Addr}{ρ:Env}{st st1 st':Za}{r:Fl}{xs:List D}(En:EnvOk K ad H σ ρ)(S:StOk K ad H st)(q1:fi ρ st=some (.tup xs,st1))(e:YK (fun d ρ s=>f (ZB ρ i d) s) xs ρ st1=some (r,st'))(p:PostS K ad H r st' E):tFor (iTup K (tE K fi)) (gName i) (tS K f) E σ H:=by
 refine⟨ad,ρ,st,.tup xs,st1,En,S,q1,fun v ad1 H1 x1 S1 d1=>?_⟩
 obtain⟨a,vs,rfl,ha,rv⟩:=d1.ofTup;refine⟨a,rfl,⟨vs,(ha).sq⟩,?_⟩;refine for_tup (xs:=vs) (fun k σ' H'=>Zgg K (fun d ρ s=>f (ZB ρ i d) s) E a vs xs k σ' H') ⟨ad1,ρ,st1,r,st',En.mono x1,S1,⟨ha,rv⟩,by rw[List.drop_zero];exact e,p.later x1⟩ (fun k σ' H' _ L=>?_) (fun k y σ' H' hk L=>?_) fun σ' H' L=>?_
 ·obtain⟨_,_,_,_,_,_,_,⟨h,_⟩,_⟩:=L
  exact(h).sq
 ·obtain⟨ad2,ρ2,st2,r2,st2',En2,S2,⟨h2,rv2⟩,e2,p2⟩:=L
  have hk':k < xs.length:=by rw[←rv2.length];exact(List.getElem?_eq_some_iff.mp hk).1
  have hx:xs[k]?=some xs[k]:=List.getElem?_eq_getElem hk';obtain⟨w,ew,dw⟩:=rv2.get hx;rw[hk]at ew;cases ew
  rw[List.drop_eq_getElem_cons hk']at e2;exact Left.turnD En2 S2 dw e2 p2 _ fun σ3 ad3 H3 ρ3 st3 x3 S3 E3 e3=>⟨ad3,ρ3,st3,r2,st2',E3,S3,⟨h2.mono x3,rv2.mono x3⟩,e3,p2.later x3⟩
 ·obtain⟨ad2,ρ2,st2,r2,st2',En2,S2,⟨h2,rv2⟩,e2,p2⟩:=L
  rw[rv2.length,List.drop_length]at e2;exact Left.done ⟨ad2,ρ2,st2,r2,st2',En2,S2,e2,p2⟩
theorem Jf{G:TG}{B:D→Env→Za→Option (Fl×Za)}(E:Ends)(σ:L2.St)(H:Hp){ad:List Addr}{ρ:Env}{st st1 st':Za}{r:Fl}{l:Nat}{bb:Bool}{xs:List D}(En:EnvOk K ad H σ ρ)(S:StOk K ad H st)(q1:fi ρ st=some (.lst l,st1))(q2:st1[l]?=some (bb,xs))(e:Z9 B l xs.length 0 ρ st1=some (r,st'))(p:PostS K ad H r st' E)(hG:∀ (x:D) (v:V) (σ:L2.St) (H:Hp) (ad:List Addr) (ρ:Env) (st st1:Za) (r1:Fl) (E':Ends),EnvOk K ad H σ ρ→StOk K ad H st→Den K ad H v x→B x ρ st=some (r1,st1)→PostS K ad H r1 st1 E'→G v σ H fun σ2 H2=>tS K f E' σ2 H2) :
  tFor (iList K (tE K fi)) G (tS K f) E σ H:=by
 refine⟨ad,ρ,st,.lst l,st1,En,S,q1,fun v ad1 H1 x1 S1 d1=>?_⟩
 obtain⟨a,rfl,ha⟩:=d1.ofLst;obtain⟨vs,rv,sq⟩:=S1.list ha q2;refine⟨a,rfl,⟨vs,sq⟩,?_⟩;refine⟨fun k m σ' H'=>∃ ad2 ρ2 st2,(EnvOk K ad2 H' σ' ρ2∧StOk K ad2 H' st2∧LA ad2 H' l a)∧Z9 B l m k ρ2 st2=some (r,st')∧PostS K ad2 H' r st' E,⟨xs.length,ad1,ρ,st1,⟨En.mono x1,S1,ha⟩,e,p.later x1⟩,?_⟩
 rintro k m σ' H' ⟨ad2,ρ2,st2,⟨En2,S2,ha2⟩,e2,p2⟩
 obtain⟨b2,ys,hc⟩:=QI S2 ha2;obtain⟨ws,rw',sq2⟩:=S2.list ha2 hc;have stop:ys.length≤k→Z9 B l m k ρ2 st2=some (.nx ρ2,st2):=fun hk=>by
  cases m with
  |zero=>unfold Z9;simp only[hc];rw[if_pos hk]
  |succ m=>unfold Z9;simp only[hc,List.getElem?_eq_none hk]
 by_cases hk:ys.length≤k
 ·refine .inl ⟨⟨ws,sq2,by rw[rw'.length];exact hk⟩,?_⟩
  rw[stop hk]at e2;cases e2;exact p2 σ' ad2 H' (Ext.refl _ _) S2 En2
 ·have hk':k < ys.length:=by omega
  have hy:ys[k]?=some ys[k]:=List.getElem?_eq_getElem hk';obtain⟨w,ew,dw⟩:=rw'.get hy;cases m with
  |zero=>
   unfold Z9 at e2;simp only[hc]at e2;rw[if_neg hk]at e2;cases e2
  |succ m=>
   unfold Z9 at e2;simp only[hc,hy]at e2;refine .inr ⟨⟨ws,w,sq2,ew⟩,fun σ3 H3=>∃ ad3 ρ3 st3,(EnvOk K ad3 H3 σ3 ρ3∧StOk K ad3 H3 st3∧LA ad3 H3 l a)∧Z9 B l m (k+1) ρ3 st3=some (r,st')∧PostS K ad3 H3 r st' E,fun σ3 H3 h3=>⟨m,Nat.lt_succ_self m,h3⟩,fun x H3 hx=>?_⟩
   obtain⟨rfl,hx⟩:=hx;have ex:=hx ws sq2;rw[ew]at ex;cases ex
   split at e2
   ·rename_i ρ3 st3 q
    exact hG _ _ _ _ ad2 ρ2 st2 _ _ _ En2 S2 dw q fun σ4 ad4 H4 x4 S4 E4=>⟨ad4,ρ3,st3,⟨E4,S4,ha2.mono x4⟩,e2,p2.later x4⟩
   ·rename_i ρ3 st3 q
    exact hG _ _ _ _ ad2 ρ2 st2 _ _ _ En2 S2 dw q fun σ4 ad4 H4 x4 S4 E4=>⟨ad4,ρ3,st3,⟨E4,S4,ha2.mono x4⟩,e2,p2.later x4⟩
   ·rename_i ρ3 st3 q
    cases e2;exact hG _ _ _ _ ad2 ρ2 st2 _ _ _ En2 S2 dw q fun σ4 ad4 H4 x4 S4 E4=>p2 σ4 ad4 H4 x4 S4 E4
   ·rename_i d st3 q
    cases e2;exact hG _ _ _ _ ad2 ρ2 st2 _ _ _ En2 S2 dw q p2
   ·cases e2
theorem Zc0{i:Nat}(E:Ends)(σ:L2.St)(H:Hp)(h:tS K (Ja i false fi f) E σ H):tFor (iTup K (tE K fi)) (gName i) (tS K f) E σ H∨tFor (iList K (tE K fi)) (gName i) (tS K f) E σ H:=by
 obtain⟨ad,ρ,st,r,st',En,S,e,p⟩:=YC h;unfold Ja at e;split at e
 ·rename_i x st1 q1
  cases x with
  |tup xs=>exact .inl (Zc2 E σ H En S q1 e p)
  |lst l=>
   have e:(match st1[l]? with
    |some (_,xs)=>Z9 (fun d ρ s=>f (ZB ρ i d) s) l xs.length 0 ρ st1
    |none=>none)=some (r,st'):=e
   split at e
   ·rename_i bb xs q2
    refine .inr (Jf E σ H En S q1 q2 e p fun x v σ H ad ρ st st1 r1 E' En S dv e1 p1=>?_)
    exact YM (En.set i dv) S e1 p1
   ·cases e
  |_=>simp[XT]at e
 ·cases e
theorem ZbV{G:TG}{B:D→Env→Za→Option (Fl×Za)}(E:Ends)(σ:L2.St)(H:Hp){ad:List Addr}{ρ:Env}{st st1 st':Za}{r:Fl}{xs:List D}(En:EnvOk K ad H σ ρ)(S:StOk K ad H st)(q1:fi ρ st=some (.tup xs,st1))(e:YK B xs ρ st1=some (r,st'))(p:PostS K ad H r st' E)(hG:∀ (x:D) (v:V) (σ:L2.St) (H:Hp) (ad:List Addr) (ρ:Env) (st st1:Za) (r1:Fl) (E':Ends),EnvOk K ad H σ ρ→StOk K ad H st→Den K ad H v x→B x ρ st=some (r1,st1)→PostS K ad H r1 st1 E'→G v σ H fun σ2 H2=>tS K f E' σ2 H2) :
  tFor (iTup K (tE K fi)) G (tS K f) E σ H:=by
 refine⟨ad,ρ,st,.tup xs,st1,En,S,q1,fun v ad1 H1 x1 S1 d1=>?_⟩
 obtain⟨a,vs,rfl,ha,rv⟩:=d1.ofTup;refine⟨a,rfl,⟨vs,(ha).sq⟩,?_⟩;refine for_tup (xs:=vs) (fun k σ' H'=>Zgg K B E a vs xs k σ' H') ⟨ad1,ρ,st1,r,st',En.mono x1,S1,⟨ha,rv⟩,by rw[List.drop_zero];exact e,p.later x1⟩ (fun k σ' H' _ L=>?_) (fun k y σ' H' hk L=>?_) fun σ' H' L=>?_
 ·obtain⟨_,_,_,_,_,_,_,⟨h,_⟩,_⟩:=L
  exact(h).sq
 ·obtain⟨ad2,ρ2,st2,r2,st2',En2,S2,⟨h2,rv2⟩,e2,p2⟩:=L
  have hk':k < xs.length:=by rw[←rv2.length];exact(List.getElem?_eq_some_iff.mp hk).1
  have hx:xs[k]?=some xs[k]:=List.getElem?_eq_getElem hk';obtain⟨w,ew,dw⟩:=rv2.get hx;rw[hk]at ew;cases ew
  rw[List.drop_eq_getElem_cons hk']at e2;unfold YK at e2;split at e2
  ·rename_i ρ3 st3 q
   exact hG _ _ _ _ ad2 ρ2 st2 _ _ _ En2 S2 dw q fun σ4 ad4 H4 x4 S4 E4=>⟨ad4,ρ3,st3,r2,st2',E4,S4,⟨h2.mono x4,rv2.mono x4⟩,e2,p2.later x4⟩
  ·rename_i ρ3 st3 q
   exact hG _ _ _ _ ad2 ρ2 st2 _ _ _ En2 S2 dw q fun σ4 ad4 H4 x4 S4 E4=>⟨ad4,ρ3,st3,r2,st2',E4,S4,⟨h2.mono x4,rv2.mono x4⟩,e2,p2.later x4⟩
  ·rename_i ρ3 st3 q
   cases e2;exact hG _ _ _ _ ad2 ρ2 st2 _ _ _ En2 S2 dw q fun σ4 ad4 H4 x4 S4 E4=>p2 σ4 ad4 H4 x4 S4 E4
  ·rename_i d st3 q
   cases e2;exact hG _ _ _ _ ad2 ρ2 st2 _ _ _ En2 S2 dw q p2
  ·cases e2
 ·obtain⟨ad2,ρ2,st2,r2,st2',En2,S2,⟨h2,rv2⟩,e2,p2⟩:=L
  rw[rv2.length,List.drop_length]at e2;exact Left.done ⟨ad2,ρ2,st2,r2,st2',En2,S2,e2,p2⟩
theorem ZcY{i j:Nat}(E:Ends)(σ:L2.St)(H:Hp)(h:tS K (UD i j fi f) E σ H):tFor (iTup K (tE K fi)) (gTup K 2 (gCons (gName i) (gCons (gName j) gNil))) (tS K f) E σ H∨tFor (iList K (tE K fi)) (gTup K 2 (gCons (gName i) (gCons (gName j) gNil))) (tS K f) E σ H:=by
 obtain⟨ad,ρ,st,r,st',En,S,e,p⟩:=YC h;unfold UD at e;split at e
 ·rename_i l st1 q1
  split at e
  ·rename_i bb xs q2
   right
   refine Jf E σ H En S q1 q2 e p fun x v σ H ad ρ st st1 r1 E' En S dv e1 p1=>?_
   unfold Jv at e1;split at e1
   ·rename_i y z
    obtain⟨a,vs,rfl,ha,rv⟩:=dv.ofTup;cases rv with
    |cons d1 rv=>
     cases rv with
     |cons d2 rv=>
      cases rv;exact⟨a,_,rfl,(ha).sq,rfl,_,_,rfl,_,_,rfl,rfl,YM ((En.set i d1).set j d2) S e1 p1⟩
   ·cases e1
  ·cases e
 ·rename_i xs st1 q1
  left
  refine ZbV E σ H En S q1 e p fun x v σ H ad ρ st st1 r1 E' En S dv e1 p1=>?_
  unfold Jv at e1;split at e1
  ·rename_i y z
   obtain⟨a,vs,rfl,ha,rv⟩:=dv.ofTup;cases rv with
   |cons d1 rv=>
    cases rv with
    |cons d2 rv=>
     cases rv;exact⟨a,_,rfl,(ha).sq,rfl,_,_,rfl,_,_,rfl,rfl,YM ((En.set i d1).set j d2) S e1 p1⟩
  ·cases e1
 ·cases e
theorem Zdl{ok:Za→Prop}{B:D→D→Env→Za→Option (Fl×Za)}{l:List (D×D)}{ρ:Env}{st:Za}{z:Fl×Za}(e:YX ok B l ρ st=some z):ok st:=by
 cases l with
 |nil=>
  unfold YX at e;by_cases h:ok st
  ·exact h
  ·rw[if_neg h]at e;cases e
 |cons _ _=>
  unfold YX at e;by_cases h:ok st
  ·exact h
  ·rw[if_neg h]at e;cases e
inductive LK(K:PySem.W.Frag)(ok:Za→Prop)(B:D→D→Env→Za→Option (Fl×Za))(qs:List (D×D))(Good:List Addr→Hp→Prop)(r:Fl)(st':Za)(E:Ends)(k m:Nat)(σ:L2.St)(H:Hp):Prop
 |mk {ad:List Addr}{ρ:Env}{st:Za} (hk:k+m=qs.length) (En:EnvOk K ad H σ ρ) (S:StOk K ad H st) (g:Good ad H) (e:YX ok B (qs.drop k) ρ st=some (r,st')) (p:PostS K ad H r st' E):LK K ok B qs Good r st' E k m σ H
def Zii(K:PySem.W.Frag)(f:Ex)(i j:Nat)(J:It)(E:Ends)(σ:L2.St)(H1:Hp):Prop:=∃ W:Nat→Nat→L2.St→Hp→Prop,(∃ m,W 0 m σ H1)∧∀ i' m σ H,W i' m σ H→(J.stop i' H∧E.nx σ H)∨(J.go i' H∧∃ N:L2.St→Hp→Prop,(∀ σ' H',N σ' H'→∃ m',m' < m∧W (i'+1) m' σ' H')∧∀ x H',J.yld i' H x H'→gTup K 2 (gCons (gName i) (gCons (gName j) gNil)) x σ H' fun σ2 H2=>tS K f { E with nx:=N,ct:=N,bk:=E.nx } σ2 H2)
theorem Zaj{i j:Nat}{ok:Za→Prop}{qs:List (D×D)}{Good:List Addr→Hp→Prop}{r:Fl}{st':Za}{E:Ends}{J:It}(gm:∀ ad H ad' H',Ext ad H ad' H'→Good ad H→Good ad' H')(stop:∀ ad H st,Good ad H→StOk K ad H st→ok st→J.stop qs.length H)(go:∀ k ad H st q,Good ad H→StOk K ad H st→ok st→qs[k]?=some q→∃ w1 w2,J.go k H∧Den K ad H w1 q.1∧Den K ad H w2 q.2∧∀ x H',J.yld k H x H'→∃ pt,x=.ref pt∧H pt=none∧H'=upd H pt (.tup [w1,w2]))(k m:Nat)(σ:L2.St)(H:Hp)(h:LK K ok (fun x y ρ s=>f (ZB (ZB ρ i x) j y) s) qs Good r st' E k m σ H) :
  (J.stop k H∧E.nx σ H)∨(J.go k H∧∃ N:L2.St→Hp→Prop,(∀ σ' H',N σ' H'→∃ m',m' < m∧LK K ok (fun x y ρ s=>f (ZB (ZB ρ i x) j y) s) qs Good r st' E (k+1) m' σ' H')∧∀ x H',J.yld k H x H'→gTup K 2 (gCons (gName i) (gCons (gName j) gNil)) x σ H' fun σ2 H2=>tS K f { E with nx:=N,ct:=N,bk:=E.nx } σ2 H2):=by
 cases h with
 |@mk ad ρ st hkm En S g e p=>
  have ok2:=Zdl e;by_cases hk:qs.length≤k
  ·have hk':k=qs.length:=by omega
   subst hk';rw[List.drop_length]at e;unfold YX at e;rw[if_pos ok2]at e;cases e;exact .inl ⟨stop _ _ _ g S ok2,p σ _ H (Ext.refl _ _) S En⟩
  ·have hk':k < qs.length:=Nat.lt_of_not_le hk
   obtain⟨w1,w2,hgo,dw1,dw2,hy⟩:=go k _ _ _ qs[k] g S ok2 (List.getElem?_eq_getElem hk');rw[List.drop_eq_getElem_cons hk']at e;unfold YX at e;rw[if_pos ok2]at e;generalize qs[k]=q at e dw1 dw2;refine .inr ⟨hgo,LK K ok (fun x y ρ s=>f (ZB (ZB ρ i x) j y) s) qs Good r st' E (k+1) (m - 1),fun σ3 H3 h3=>⟨m - 1,by omega,h3⟩,fun x H3 hx=>?_⟩
   obtain⟨pt,rfl,hpt,rfl⟩:=hy x H3 hx;have xt:Ext ad H ad (upd H pt (.tup [w1,w2])):=Ext.laid hpt;have fin:∀ {rr:Fl}{s3:Za}{E':Ends},f (ZB (ZB ρ i q.1) j q.2) st=some (rr,s3)→PostS K ad (upd H pt (.tup [w1,w2])) rr s3 E'→gTup K 2 (gCons (gName i) (gCons (gName j) gNil)) (.ref pt) σ (upd H pt (.tup [w1,w2])) fun σ2 H2=>tS K f E' σ2 H2:=fun q pp=>
    ⟨pt,_,rfl,SqT.of upd_same,rfl,_,_,rfl,_,_,rfl,rfl,YM (((En.mono xt).set i (dw1.mono xt)).set j (dw2.mono xt)) (S.laid hpt) q pp⟩
   have nxt:∀ {ρ3:Env}{st3:Za},YX ok (fun x y ρ s=>f (ZB (ZB ρ i x) j y) s) (qs.drop (k+1)) ρ3 st3=some (r,st')→∀ (σ4:L2.St) (ad4:List Addr) (H4:Hp),Ext ad (upd H pt (.tup [w1,w2])) ad4 H4→StOk K ad4 H4 st3→EnvOk K ad4 H4 σ4 ρ3→LK K ok (fun x y ρ s=>f (ZB (ZB ρ i x) j y) s) qs Good r st' E (k+1) (m - 1) σ4 H4:=fun e3 σ4 ad4 H4 x4 S4 E4=>
    .mk (by omega) E4 S4 (gm _ _ _ _ (xt.trans x4) g) e3 (p.later (xt.trans x4))
   clear hy go stop hkm hk hk' hgo;split at e
   ·rename_i q0
    exact fin q0 (nxt e)
   ·rename_i q0
    exact fin q0 (nxt e)
   ·rename_i q0
    cases e;exact fin q0 fun σ4 ad4 H4 x4 S4 E4=>p σ4 ad4 H4 (xt.trans x4) S4 E4
   ·rename_i q0
    cases e;exact fin q0 (p.later xt)
   ·cases e
end
end Dp



namespace Dp
open PySem PySem.Spec PyProof.Rows L2
variable [ClsTab]
mutual
theorem ZeL:∀ {x y:D},Yc x y=true→x=y
 |.non,y,h=>by cases y<;>simp[Yc]at h ⊢
 |.bl a,y,h=>by cases y<;>simp[Yc]at h ⊢;exact h
 |.int a,y,h=>by cases y<;>simp[Yc]at h ⊢;exact h
 |.str a,y,h=>by cases y<;>simp[Yc]at h ⊢;exact h
 |.tup a,y,h=>by
  cases y with
  |tup b=>rw[QS (x:=a) (y:=b) (by simpa[Yc] using h)]
  |_=>simp[Yc]at h
 |.lst a,y,h=>by cases y<;>simp[Yc]at h
 |.dct a b,y,h=>by cases y<;>simp[Yc]at h
 |.obj a,y,h=>by cases y<;>simp[Yc]at h
 |.kt a,y,h=>by cases y<;>simp[Yc]at h
 |.dic a,y,h=>by cases y<;>simp[Yc]at h
theorem QS:∀ {x y:List D},Ym x y=true→x=y
 |[],y,h=>by cases y<;>simp[Ym]at h ⊢
 |a :: x,y,h=>by
  cases y with
  |nil=>simp[Ym]at h
  |cons b y=>
   have h:(Yc a b&&Ym x y)=true:=h;rw[Bool.and_eq_true]at h;rw[ZeL h.1,QS h.2]
end
mutual
theorem Uu:∀ {n:Nat}{x:D},okD n x=true→Yc x x=true
 |_,.non,_=>rfl
 |_,.bl a,_=>by simp[Yc]
 |_,.int a,_=>by simp[Yc]
 |_,.str a,_=>by simp[Yc]
 |0,.tup a,h=>by simp[okD]at h
 |n+1,.tup a,h=>Vw (n:=n) (x:=a) h
 |_,.lst a,h=>by simp[okD]at h
 |_,.dct a b,h=>by simp[okD]at h
 |_,.obj a,h=>by simp[okD]at h
 |_,.kt a,h=>by simp[okD]at h
 |_,.dic a,h=>by simp[okD]at h
theorem Vw:∀ {n:Nat}{x:List D},Xm n x=true→Ym x x=true
 |_,[],_=>rfl
 |n,a :: x,h=>by
  have h:(okD n a&&Xm n x)=true:=h;rw[Bool.and_eq_true]at h;show(Yc a a&&Ym x x)=true;rw[Uu h.1,Vw h.2];rfl
end
theorem XV:∀ {n:Nat}{xs:List D}{i:Nat}{d:D},Xm n xs=true→xs[i]?=some d→okD n d=true
 |_,[],_,_,_,e=>by simp at e
 |n,x :: xs,i,d,h,e=>by
  have h:(okD n x&&Xm n xs)=true:=h;rw[Bool.and_eq_true]at h;cases i with
  |zero=>simp at e;subst e;exact h.1
  |succ i=>exact XV (i:=i) h.2 (by simpa using e)
theorem Xq:∀ {xs ys:List D},Ym xs ys=((List.range (min xs.length ys.length)).all (fun i=>Yc ((xs[i]?).getD .non) ((ys[i]?).getD .non))&&xs.length==ys.length)
 |[],[]=>rfl
 |[],_ :: _=>by simp[Ym]
 |_ :: _,[]=>by simp[Ym]
 |x :: xs,y :: ys=>by
  have ih:=@Xq xs ys;show(Yc x y&&Ym xs ys)=_;rw[ih];have e:min (x :: xs).length (y :: ys).length=min xs.length ys.length+1:=by simp only[List.length_cons];omega
  rw[e,List.range_succ_eq_map,List.all_cons,List.all_map];simp only[List.length_cons];have z:(xs.length+1==ys.length+1)=(xs.length==ys.length):=by
   rw[Bool.eq_iff_iff];simp
  rw[z,Bool.and_assoc];rfl
section
variable {X:Cx}{ad:List Addr}{H:Hp}
def Zie(X:Cx)(ad:List Addr)(H:Hp)(v:V)(x:D):Prop:=∀ n m y,okD n x=true→okD m y=true→Den X.K ad H v y→x=y
theorem Wh{n:Nat}{x:D}{P:Prop}(h:okD n x=true)(h0:∀ n,okD n x=false):P:=by rw[h0]at h;cases h
theorem Zdw(i n:Nat):okD n (.lst i)=false:=by cases n<;>rfl
theorem Zdu(ks:List Str)(vs:List D)(n:Nat):okD n (.dct ks vs)=false:=by cases n<;>rfl
theorem Zdv(i n:Nat):okD n (.dic i)=false:=by cases n<;>rfl
theorem Zdx(i n:Nat):okD n (.obj i)=false:=by cases n<;>rfl
theorem Zgt(ks:List Str)(n:Nat):okD n (.kt ks)=false:=by cases n<;>rfl
theorem Zdy{n:Nat}{xs:List D}(h:okD n (.tup xs)=true):∃ m,Xm m xs=true:=by
 cases n with
 |zero=>cases h
 |succ n=>exact⟨n,h⟩
theorem Den.injP(J:∀ (a:Addr) (xs ys:List V),TupAt X.K H a xs→TupAt X.K H a ys→xs=ys){v:V}{x:D}(h:Den X.K ad H v x):Zie X ad H v x:=
 Den.rec (motive_1:=fun v x _=>Zie X ad H v x) (motive_2:=fun vs xs _=>∀ n m ys,Xm n xs=true→Xm m ys=true→Dens X.K ad H vs ys→xs=ys)
  (fun _ _ _ _ _ h=>by cases h;rfl) (fun _ _ _ _ _ _ h=>by cases h;rfl) (fun _ _ _ _ _ _ h=>by cases h;rfl) (fun _ _ _ _ _ _ h=>by cases h;rfl)
  (fun e _ ih n m y hx hy h=>by
   obtain⟨n',hx⟩:=Zdy hx;cases h with
   |tup e' r'=>
    cases J _ _ _ e e'
    obtain⟨m',hy⟩:=Zdy hy;rw[ih n' m' _ hx hy r']
   |lst _=>exact Wh hy (Zdw _)
   |dic _ _=>exact Wh hy (Zdv _)
   |dct _ _ _ _ _=>exact Wh hy (Zdu _ _)
   |obj _ _=>exact Wh hy (Zdx _)
   |kt _ _ _ _ _ _=>exact Wh hy (Zgt _))
  (fun _ _ _ _ hx _ _=>Wh hx (Zdw _)) (fun _ _ _ _ _ hx _ _=>Wh hx (Zdv _)) (fun _ _ _ _ _ _ _ _ _ hx _ _=>Wh hx (Zdu _ _)) (fun _ _ _ _ _ hx _ _=>Wh hx (Zdx _)) (fun _ _ _ _ _ _ _ _ _ hx _ _=>Wh hx (Zgt _))
  (fun _ _ _ _ _ h=>by cases h;rfl)
  (fun _ _ i1 i2 n m ys hx hy h=>by
   cases h with
   |cons a' r'=>
    have hx:=Bool.and_eq_true_iff.mp hx;have hy:=Bool.and_eq_true_iff.mp hy;rw[i1 n m _ hx.1 hy.1 a',i2 n m _ hx.2 hy.2 r']) h
theorem Den.inj(J:∀ (a:Addr) (xs ys:List V),TupAt X.K H a xs→TupAt X.K H a ys→xs=ys){n m:Nat}{v:V}{x y:D}(hx:okD n x=true)(hy:okD m y=true)(h:Den X.K ad H v x)(h':Den X.K ad H v y):x=y:=h.injP J n m y hx hy h'
theorem Dens.inj(J:∀ (a:Addr) (xs ys:List V),TupAt X.K H a xs→TupAt X.K H a ys→xs=ys){n m:Nat}{vs:List V}{xs ys:List D}(hx:Xm n xs=true)(hy:Xm m ys=true)(h:Dens X.K ad H vs xs)(h':Dens X.K ad H vs ys):xs=ys:=by
 induction vs generalizing xs ys with
 |nil=>cases h;cases h';rfl
 |cons v vs ih=>
  cases h with
  |cons a r=>cases h' with
   |cons a' r'=>
    have hx:=Bool.and_eq_true_iff.mp hx;have hy:=Bool.and_eq_true_iff.mp hy;rw[a.inj J hx.1 hy.1 a',ih hx.2 hy.2 r r']
open PySem.SeqAt in
theorem Zg6{pins:List (Addr×Obj)}{σ:L2.St}{s:Shared}(I:Inv X pins σ H s):∀ (n:Nat) (x y:D) (A:Around) (vx vy:V) (ux uy:Value),okD n x=true→okD n y=true→A.units+n < cLine→Den X.K ad H vx x→Den X.K ad H vy y→RelV vx ux→RelV vy uy→EqAt A s ux uy (Yc x y):=by
 intro n
 induction n with
 |zero=>
  intro x y A vx vy ux uy hx hy hu dx dy rx ry;cases dx with
  |non=>
   cases rx;cases dy with
   |non=>cases ry;exact EqAt.same _
   |int j=>obtain⟨t',rfl⟩:=ry;exact EqAt.none_int j t'
   |str j=>obtain⟨t',rfl⟩:=ry;exact EqAt.none_str j t'
   |_=>simp[okD]at hy
  |int i=>
   obtain⟨t,rfl⟩:=rx;cases dy with
   |non=>cases ry;exact EqAt.int_none i t
   |int j=>obtain⟨t',rfl⟩:=ry;exact(show Yc (.int i) (.int j)=(i==j) from by rw[Bool.eq_iff_iff];simp[Yc]) ▸ EqAt.int_int i t j t'
   |str j=>obtain⟨t',rfl⟩:=ry;exact EqAt.int_str i t j t'
   |_=>simp[okD]at hy
  |str i=>
   obtain⟨t,rfl⟩:=rx;cases dy with
   |non=>cases ry;exact EqAt.str_none i t
   |int j=>obtain⟨t',rfl⟩:=ry;exact EqAt.str_int i t j t'
   |str j=>obtain⟨t',rfl⟩:=ry;exact(show Yc (.str i) (.str j)=(i==j) from by rw[Bool.eq_iff_iff];simp[Yc]) ▸ EqAt.str_str i t j t'
   |_=>simp[okD]at hy
  |_=>simp[okD]at hx
 |succ n ih=>
  intro x y A vx vy ux uy hx hy hu dx dy rx ry;cases dx with
  |non=>
   cases rx;cases dy with
   |non=>cases ry;exact EqAt.same _
   |int j=>obtain⟨t',rfl⟩:=ry;exact EqAt.none_int j t'
   |str j=>obtain⟨t',rfl⟩:=ry;exact EqAt.none_str j t'
   |tup e r=>
    cases ry;obtain⟨its,_,p,_⟩:=I.tuple ((e).sq);exact EqAt.none_tuple p (by omega)
   |_=>simp[okD]at hy
  |int i=>
   obtain⟨t,rfl⟩:=rx;cases dy with
   |non=>cases ry;exact EqAt.int_none i t
   |int j=>obtain⟨t',rfl⟩:=ry;exact(show Yc (.int i) (.int j)=(i==j) from by rw[Bool.eq_iff_iff];simp[Yc]) ▸ EqAt.int_int i t j t'
   |str j=>obtain⟨t',rfl⟩:=ry;exact EqAt.int_str i t j t'
   |tup e r=>
    cases ry;obtain⟨its,_,p,_⟩:=I.tuple ((e).sq);exact EqAt.int_tuple i t p (by omega)
   |_=>simp[okD]at hy
  |str i=>
   obtain⟨t,rfl⟩:=rx;cases dy with
   |non=>cases ry;exact EqAt.str_none i t
   |int j=>obtain⟨t',rfl⟩:=ry;exact EqAt.str_int i t j t'
   |str j=>obtain⟨t',rfl⟩:=ry;exact(show Yc (.str i) (.str j)=(i==j) from by rw[Bool.eq_iff_iff];simp[Yc]) ▸ EqAt.str_str i t j t'
   |tup e r=>
    cases ry;obtain⟨its,_,p,_⟩:=I.tuple ((e).sq);exact EqAt.str_tuple i t p (by omega)
   |_=>simp[okD]at hy
  |@tup a xs ds e r=>
   cases rx;obtain⟨its,rv,p,_⟩:=I.tuple ((e).sq);cases dy with
   |non=>cases ry;exact EqAt.tuple_none p (by omega)
   |int j=>obtain⟨t',rfl⟩:=ry;exact EqAt.tuple_int j t' p (by omega)
   |str j=>obtain⟨t',rfl⟩:=ry;exact EqAt.tuple_str j t' p (by omega)
   |@tup b ys es e' r'=>
    cases ry;by_cases hab:a=b
    ·subst hab
     have z:=Den.inj (fun _ _ _ e e2=>I.tuple_inj e.sq e2.sq) (n:=n+1) (m:=n+1) hx hy (Den.tup e r) (Den.tup e' r')
     cases z;rw[Uu hx];exact EqAt.same _
    ·obtain⟨its',rv',p',_⟩:=I.tuple ((e').sq)
     refine EqAt.of_refs hab ?_;have q:=RcAt.tuples (A:=A) (s:=s) (e:=fun i=>Yc ((ds[i]?).getD .non) ((es[i]?).getD .non)) p p' (by omega) fun j h1 h2=>?_
     ·have e1:its.toArray.size=ds.length:=by rw[List.size_toArray,←rv.length,r.length]
      have e2:its'.toArray.size=es.length:=by rw[List.size_toArray,←rv'.length,r'.length]
      rw[e1,e2]at q;show RcAt A s (.ref a) (.ref b) (Ym ds es);rw[Xq];exact q
     ·have l1:j < ds.length:=by rw[←r.length,rv.length];simpa using h1
      have l2:j < es.length:=by rw[←r'.length,rv'.length];simpa using h2
      have g1:ds[j]?=some ds[j]:=List.getElem?_eq_getElem l1;have g2:es[j]?=some es[j]:=List.getElem?_eq_getElem l2;obtain⟨v1,q1,d1⟩:=r.get g1;obtain⟨v2,q2,d2⟩:=r'.get g2;obtain⟨u1,w1,r1⟩:=rv.get q1;obtain⟨u2,w2,r2⟩:=rv'.get q2;have f1:its.toArray[j]=u1:=by
       have:its[j]?=some (its[j]'(by simpa using h1)):=List.getElem?_eq_getElem _
       rw[w1]at this;simpa using(Option.some.inj this).symm
      have f2:its'.toArray[j]=u2:=by
       have:its'[j]?=some (its'[j]'(by simpa using h2)):=List.getElem?_eq_getElem _
       rw[w2]at this;simpa using(Option.some.inj this).symm
      rw[f1,f2,g1,g2];exact ih ds[j] es[j] A.in1 v1 v2 u1 u2 (XV hx g1) (XV hy g2) (by show A.units+1+n < cLine;omega) d1 d2 r1 r2
   |_=>simp[okD]at hy
  |_=>simp[okD]at hx
open PySem.SeqAt in
theorem Zag{pins:List (Addr×Obj)}{σ:L2.St}{s:Shared}(I:Inv X pins σ H s){n:Nat}{A:Around}{a b:Addr}{xs ys:List V}{ds es:List D}{its its':List Value}(hx:Xm n ds=true)(hy:Xm n es=true)(hu:A.units+n+1 < cLine)(r:Dens X.K ad H xs ds)(r':Dens X.K ad H ys es)(rv:Vals xs its)(rv':Vals ys its')(j:Nat)(h1:j < its.toArray.size)(h2:j < its'.toArray.size):EqAt A.in1 s its.toArray[j] its'.toArray[j] (Yc ((ds[j]?).getD .non) ((es[j]?).getD .non)):=by
 have l1:j < ds.length:=by rw[←r.length,rv.length];simpa using h1
 have l2:j < es.length:=by rw[←r'.length,rv'.length];simpa using h2
 have g1:ds[j]?=some ds[j]:=List.getElem?_eq_getElem l1;have g2:es[j]?=some es[j]:=List.getElem?_eq_getElem l2;obtain⟨v1,q1,d1⟩:=r.get g1;obtain⟨v2,q2,d2⟩:=r'.get g2;obtain⟨u1,w1,r1⟩:=rv.get q1;obtain⟨u2,w2,r2⟩:=rv'.get q2;have f1:its.toArray[j]=u1:=by
  have:its[j]?=some (its[j]'(by simpa using h1)):=List.getElem?_eq_getElem _
  rw[w1]at this;simpa using(Option.some.inj this).symm
 have f2:its'.toArray[j]=u2:=by
  have:its'[j]?=some (its'[j]'(by simpa using h2)):=List.getElem?_eq_getElem _
  rw[w2]at this;simpa using(Option.some.inj this).symm
 rw[f1,f2,g1,g2];exact Zg6 I n ds[j] es[j] A.in1 v1 v2 u1 u2 (XV hx g1) (XV hy g2) (by show A.units+1+n < cLine;omega) d1 d2 r1 r2
open PySem.SeqAt in
theorem ZfI{pins:List (Addr×Obj)}{σ:L2.St}{s:Shared}(I:Inv X pins σ H s){n:Nat}{A:Around}{a b:Addr}{xs ys:List V}{ds es:List D}(hx:Xm n ds=true)(hy:Xm n es=true)(hu:A.units+n+1 < cLine)(e:TupAt X.K H a xs)(r:Dens X.K ad H xs ds)(e':TupAt X.K H b ys)(r':Dens X.K ad H ys es):RcAt A s (.ref a) (.ref b) (Ym ds es)∧RcNeAt A s (.ref a) (.ref b) (!Ym ds es):=by
 obtain⟨its,rv,p,_⟩:=I.tuple (e.sq);obtain⟨its',rv',p',_⟩:=I.tuple (e'.sq);have e1:its.toArray.size=ds.length:=by rw[List.size_toArray,←rv.length,r.length]
 have e2:its'.toArray.size=es.length:=by rw[List.size_toArray,←rv'.length,r'.length]
 have q:=RcAt.tuples (A:=A) (s:=s) (e:=fun i=>Yc ((ds[i]?).getD .non) ((es[i]?).getD .non)) p p' (by omega) fun j h1 h2=>Zag (a:=a) (b:=b) I hx hy hu r r' rv rv' j h1 h2
 have q':=RcNeAt.tuples (A:=A) (s:=s) (e:=fun i=>Yc ((ds[i]?).getD .non) ((es[i]?).getD .non)) p p' (by omega) fun j h1 h2=>Zag (a:=a) (b:=b) I hx hy hu r r' rv rv' j h1 h2
 rw[e1,e2]at q q';rw[Xq];exact⟨q,q'⟩
end
end Dp



namespace Dp
open PySem PySem.Spec PyProof.Rows L2 Builtin Builtin.Str
variable [ClsTab]
section
variable {X:Cx}{tg:Expr}
end
end Dp



namespace Dp
open PySem PySem.Spec PyProof.Rows L2
variable [ClsTab]
section
open Builtin
open AutoSeq1 (wpAny_loadPart')
theorem WW:fillsNumberSlot (.type "tuple") "mul"=pure false:=
 PySem.fillsNumberSlot_seq (id := "tuple.__mul__") (r:=some (.builtin "tuple.__rmul__")) F.slot_tuple_mul.lookup (by decide +kernel) F.slot_tuple_rmul.lookup (by decide +kernel)
theorem QE:seqRepeat? (.type "tuple")=pure (some (.builtin "tuple.__mul__")):=by
 unfold seqRepeat?
 rw[PySem.seqSlot_of (T := "tuple") (name := "__mul__") (id := "tuple.__mul__") F.slot_tuple_mul.lookup (by decide +kernel),PySem.seqSlot_of (T := "tuple") (name := "__rmul__") (id := "tuple.__rmul__") F.slot_tuple_rmul.lookup (by decide +kernel)]
 rfl
theorem Zay(a:Int)(t:Tok)(l:Addr)(items:Array Value)(n:Nat)(dd:Option Addr)(sl:Array (Option Value)):Meets (Builtin.«int.__rmul__» ⟨[.int a t,.ref l],[]⟩) (fun _ R s=>s.heap.get? l=some { cls:=.type "tuple",dict:=dd,data:=.seq items n,slots:=sl }∧R (.ok (.ret Value.notImplemented)) s):=
 .of_wp fun prog w A R s h=>by obtain⟨hp,g,d,tk,os⟩:=s;obtain⟨hl,h⟩:=h;wp_walk;exact⟨_,rfl,h⟩
theorem Zen(l:Addr)(items:Array Value)(n:Nat)(dd:Option Addr)(sl:Array (Option Value))(u:Tok) :
  Meets (Builtin.«tuple.__mul__» ⟨[.ref l,.int 1 u],[]⟩) (fun _ R s=>s.heap.get? l=some { cls:=.type "tuple",dict:=dd,data:=.seq items n,slots:=sl }∧R (.ok (.ret (Value.ref l))) s):=
 .of_wp fun prog w A R s h=>by
  obtain⟨hp,g,d,tk,os⟩:=s;obtain⟨hl,h⟩:=h;have f1:=AutoSeq1.idx_int;wp_walk using wpAny_loadPart' hl;exact⟨_,rfl,h⟩
theorem Zem(l:Addr)(items:Array Value)(n:Nat)(dd:Option Addr)(sl:Array (Option Value))(k:Int)(u:Tok)(h0:¬items.isEmpty=true)(h1:k≤0)(h2:-1000≤k) :
  Meets (Builtin.«tuple.__mul__» ⟨[.ref l,.int k u],[]⟩) (fun _ R s=>s.heap.get? l=some { cls:=.type "tuple",dict:=dd,data:=.seq items n,slots:=sl }∧R (.ok (.ret (Value.ref s.heap.objs.size))) { s with heap:=s.heap.push { cls:=.type "tuple",data:=.seq #[] } }):=
 .of_wp fun prog w A R s h=>by
  obtain⟨hp,g,d,tk,os⟩:=s;obtain⟨hl,h⟩:=h;have f1:=AutoSeq1.idx_int;have a1:(decide (k < -(2 ^ 63))||decide (k≥2 ^ 63))=false:=by rw[decide_eq_false (by omega),decide_eq_false (by omega)];rfl
  have a2:(items.isEmpty||k==1)=false:=by
   have:(k==1)=false:=by rw[beq_eq_false_iff_ne];omega
   rw[this,Bool.or_false];simpa using h0
  have a3:(decide (k≤0)||items.isEmpty)=true:=by rw[decide_eq_true h1];rfl
  wp_walk using wpAny_loadPart' hl
  refine wpAny_ite_false (by rw[a1];rfl) ?_
  wp_walk using wpAny_loadPart' hl
  refine wpAny_ite_false (by rw[a2];rfl) ?_
  wp_walk using wpAny_loadPart' hl
  exact⟨_,rfl,h⟩
theorem Zeo(l:Addr)(items:Array Value)(n:Nat)(dd:Option Addr)(sl:Array (Option Value))(k:Int)(u:Tok)(h0:items.size=1)(h1:2≤k)(h2:k≤1000) :
  Meets (Builtin.«tuple.__mul__» ⟨[.ref l,.int k u],[]⟩) (fun _ R s=>s.heap.get? l=some { cls:=.type "tuple",dict:=dd,data:=.seq items n,slots:=sl }∧R (.ok (.ret (Value.ref s.heap.objs.size))) { s with heap:=s.heap.push { cls:=.type "tuple",data:=.seq ((List.replicate k.toNat items).foldl (fun x1 x2=>x1++x2) #[]) } }):=
 .of_wp fun prog w A R s h=>by
  obtain⟨hp,g,d,tk,os⟩:=s;obtain⟨hl,h⟩:=h;have f1:=AutoSeq1.idx_int;have a1:(decide (k < -(2 ^ 63))||decide (k≥2 ^ 63))=false:=by rw[decide_eq_false (by omega),decide_eq_false (by omega)];rfl
  have ae:items.isEmpty=false:=by
   rw[Array.isEmpty_eq_false_iff];intro z;rw[z]at h0;simp at h0
  have a2:(items.isEmpty||k==1)=false:=by
   have:(k==1)=false:=by rw[beq_eq_false_iff_ne];omega
   rw[this,Bool.or_false];exact ae
  have a3:(decide (k≤0)||items.isEmpty)=false:=by rw[decide_eq_false (by omega),ae];rfl
  have a4:decide ((items.size:Int) * k > (2 ^ 63 - 1) / 8)=false:=by rw[h0];exact decide_eq_false (by omega)
  have a5:Tuple.tupleTooMany ((items.size:Int) * k)=false:=by
   unfold Tuple.tupleTooMany;rw[h0];exact decide_eq_false (by have:(sizeLine:Int)≥1000:=(by decide);omega)
  have a6:decide (((List.replicate k.toNat items).foldl (fun x1 x2=>x1++x2) #[]).size > sizeLine)=false:=by
   rw[AutoListH.size_joined];refine decide_eq_false ?_;have:sizeLine≥1000:=by decide
   simp only[h0,Array.size_empty];omega
  wp_walk using wpAny_loadPart' hl
  refine wpAny_ite_false (by rw[a1];rfl) ?_
  wp_walk using wpAny_loadPart' hl
  refine wpAny_ite_false (by rw[a2];rfl) ?_
  wp_walk using wpAny_loadPart' hl
  refine wpAny_ite_false (by rw[a3];rfl) ?_
  wp_walk using wpAny_loadPart' hl
  refine wpAny_ite_false a4 ?_
  wp_walk using wpAny_loadPart' hl
  refine wpAny_ite_false (by rw[a5];rfl) ?_
  wp_walk using wpAny_loadPart' hl
  exact⟨_,rfl,h⟩
theorem ZfK{X:Cx}{pins:List (Addr×Obj)}{s:Shared}{σ:L2.St}{H:Hp}{a:Addr}{v:V}{k:Int}{t:Tok}{Q:VK}(I:L2.Inv X pins σ H s)(ha:TupAt X.K H a [v])(h1:k≤1000)(h2:-1000≤k)(q1:k=1→Q (.ref a) H)(q2:∀ p,H p=none→Q (.ref p) (upd H p (.tup (List.replicate k.toNat v)))):wpAny (model X.prog X.w) X.A (binaryOp .Mult (.ref a) (.int k t)) (EP X pins σ Q) X.xe s:=by
 obtain⟨its,r,p1,_⟩:=I.tuple (ha.sq);obtain⟨u,rfl,ru⟩:=r.one;obtain⟨⟨c1,dd,dt,sl⟩,ho,hc,n,hd⟩:=id p1;simp only at hc hd;subst hc hd;have fin:∀ its':List Value,Vals (List.replicate k.toNat v) its'→EP X pins σ Q (.ref s.heap.objs.size) { s with heap:=s.heap.push { cls:=.type "tuple",data:=.seq its'.toArray } }:=fun its' r'=>
  ⟨.ref s.heap.objs.size,_,I.laid (t':=s.toks) (o:=.tup (List.replicate k.toNat v)) (fun b ob q=>Heap.get?_push_of_some _ q) (Nat.le_refl _) ⟨by rw[List.length_replicate];exact Nat.le_trans (show k.toNat≤1000 by omega) (by decide),its',r',IsTup.new _ _⟩,rfl,q2 _ (I.hok.fresh (Nat.le_refl _))⟩
 refine wpAny_binaryOp_repeat_ref (T := "tuple") (U := "int") (by decide) ⟨_,ho,rfl⟩ (fun s'=>typeIs_int s' k t) WW F.fills_int_mul F.slot_int_rmul QE F.slot_int_index.lookup
  (call_meets F.slot_int_rmul (typeIs_int s k t) F.entry_int_rmul (F.args_int_rmul_2 _ _) (Zay k t a _ n dd sl) ⟨ho,rfl,⟨_,ho,rfl⟩,?_⟩)
 by_cases e1:k=1
 ·subst e1
  exact call_meets F.slot_tuple_mul ⟨_,ho,rfl⟩ F.entry_tuple_mul (F.args_tuple_mul_2 _ _) (Zen a _ n dd sl t) ⟨ho,⟨.ref a,H,I,rfl,q1 rfl⟩⟩
 ·by_cases e0:k≤0
  ·refine call_meets F.slot_tuple_mul ⟨_,ho,rfl⟩ F.entry_tuple_mul (F.args_tuple_mul_2 _ _) (Zem a _ n dd sl k t (by simp) e0 h2) ⟨ho,?_⟩
   have z:k.toNat=0:=by omega
   exact fin [] (by rw[z];exact .nil)
  ·refine call_meets F.slot_tuple_mul ⟨_,ho,rfl⟩ F.entry_tuple_mul (F.args_tuple_mul_2 _ _) (Zeo a _ n dd sl k t (by simp) (by omega) h1) ⟨ho,?_⟩
   have e:List.foldl (fun x1 x2=>x1++x2) #[] (List.replicate k.toNat [u].toArray)=(List.replicate k.toNat u).toArray:=by
    have e2:=foldl_rep [u] k.toNat [];rw[List.nil_append]at e2;rw[show([]:List Value).toArray=#[] from rfl]at e2;rw[e2]
    congr 1
    generalize k.toNat=j
    induction j with
    |zero=>rfl
    |succ j ih=>rw[List.replicate_succ,List.flatten_cons,ih,List.replicate_succ];rfl
   rw[e];refine fin _ ?_;generalize k.toNat=j
   induction j with
   |zero=>exact .nil
   |succ j ih=>exact .cons ru ih
end
theorem Xa:Zc≤sizeLine:=by decide
section
variable {X:Cx}
theorem Zdj{i:Int}(h:Z8 i=true):-(2 ^ 64) < i∧i < 2 ^ 64:=by
 unfold Z8 at h;rw[Bool.and_eq_true]at h;exact⟨of_decide_eq_true h.1,of_decide_eq_true h.2⟩
theorem ZeT{pins:List (Addr×Obj)}{s:Shared}{σ:L2.St}{H:Hp}{a b:Addr}{xs ys:List V}{Q:VK}(I:Inv X pins σ H s)(ha:TupAt X.K H a xs)(hb:TupAt X.K H b ys)(hz:xs.length+ys.length≤sizeLine)(q0:xs=[]→Q (.ref b) H)(q1:ys=[]→Q (.ref a) H)(q2:∀ p,H p=none→Q (.ref p) (upd H p (.tup (xs++ys)))):wpAny (model X.prog X.w) X.A (binaryOp .Add (.ref a) (.ref b)) (EP X pins σ Q) X.xe s:=by
 by_cases hx:xs=[]
 ·obtain⟨its,r1,p1,_⟩:=I.tuple (ha.sq)
  obtain⟨its2,r2,p2,_⟩:=I.tuple (hb.sq);have e1:its=[]:=r1.nil_iff.mpr hx;subst e1;obtain⟨⟨c1,dd,dt,sl⟩,ho,hc,n,hd⟩:=id p1;obtain⟨⟨c2,dd2,dt2,sl2⟩,ho2,hc2,n2,hd2⟩:=id p2;simp only at hc hd hc2 hd2;subst hc hd hc2 hd2;exact concat_meets ⟨_,ho,rfl⟩ ⟨_,ho2,rfl⟩ noFill_tuple_add seq_tuple_add PySem.F.slot_tuple_add PySem.F.entry_tuple_add (PySem.F.args_tuple_add_2 _ _)
   (tuple_addW0 a b #[] its2.toArray n n2 dd dd2 sl sl2 rfl) ⟨ho,ho2,⟨.ref b,H,I,rfl,q0 hx⟩⟩
 ·exact op_catT pins s σ H (.ref a) (.ref b) _ _ Q I rfl rfl ⟨a,b,xs,ys,rfl,rfl,(ha).sq,(hb).sq,hx,hz,q1,fun _=>q2⟩
theorem ZfB{op:Operator}{i j k:Int}{pins:List (Addr×Obj)}{s:Shared}{σ:L2.St}{H:Hp}{v u:Value}{Q:VK}(I:L2.Inv X pins σ H s)(rx:RelV (.int i) v)(ry:RelV (.int j) u)(e:J3 op i j=some k)(p:Q (.int k) H) :
  wpAny (model X.prog X.w) X.A (binaryOp op v u) (EP X pins σ Q) X.xe s:=by
 unfold J3 at e;split at e
 ·cases e
  exact op_add pins s σ H _ _ v u Q I rx ry ⟨_,_,rfl,rfl,p⟩
 ·cases e
  exact op_sub pins s σ H _ _ v u Q I rx ry ⟨_,_,rfl,rfl,p⟩
 ·split at e
  ·rename_i hl
   cases e;refine op_mul pins s σ H _ _ v u Q I rx ry ⟨_,_,rfl,rfl,?_,p⟩;rw[Bool.or_eq_true]at hl;exact hl.elim (fun z=>.inl (Zdj z)) fun z=>.inr (Zdj z)
  ·cases e
 ·split at e
  ·rename_i hl
   cases e;exact op_fdiv pins s σ H _ _ v u Q I rx ry ⟨_,_,rfl,rfl,hl,p⟩
  ·split at e
   ·rename_i hl
    cases e;exact op_fdivN pins s σ H _ _ v u Q I rx ry ⟨_,_,rfl,rfl,⟨by omega,by omega⟩,p⟩
   ·cases e
 ·split at e
  ·rename_i hl
   cases e;exact op_mod pins s σ H _ _ v u Q I rx ry ⟨_,_,rfl,rfl,hl,p⟩
  ·split at e
   ·rename_i hl
    cases e;exact op_modN pins s σ H _ _ v u Q I rx ry ⟨_,_,rfl,rfl,(by omega),p⟩
   ·cases e
 ·cases e
theorem ZbL{pins:List (Addr×Obj)}{s:Shared}{σ:L2.St}{H:Hp}{a b:Addr}{xs ys:List V}{Q:VK}(I:L2.Inv X pins σ H s)(ha:SqL X.K H a xs)(hb:SqL X.K H b ys)(hz:xs.length+ys.length≤sizeLine)(q:∀ p,H p=none→Q (.ref p) (upd H p (.lst (xs++ys)))):wpAny (model X.prog X.w) X.A (binaryOp .Add (.ref a) (.ref b)) (EP X pins σ Q) X.xe s:=by
 obtain⟨its,r,p1,_⟩:=I.list ha;obtain⟨its2,r2,p2,_⟩:=I.list hb;obtain⟨⟨cls,dd,data,sl⟩,ho,hc,n,hd⟩:=id p1.isList;obtain⟨⟨cls2,dd2,data2,sl2⟩,ho2,hc2,n2,hd2⟩:=id p2.isList;simp only at hc hd hc2 hd2;subst hc hd hc2 hd2;have e:its.toArray++its2.toArray=(its++its2).toArray:=by simp
 have l1:=r.length;have l2:=r2.length;refine concat_meets ⟨_,ho,rfl⟩ ⟨_,ho2,rfl⟩ noFill_list_add seq_list_add PySem.F.slot_list_add PySem.F.entry_list_add (PySem.F.args_list_add_2 _ _) (list_addW a b its.toArray its2.toArray n n2 dd dd2 sl sl2 (by simp;omega)) ⟨ho,ho2,?_⟩
 rw[e];exact⟨.ref _,_,I.lnew (t':=s.toks) (r.append r2) (by rw[List.length_append];omega),rfl,q _ I.fresh⟩
theorem JW{op:Operator}(h:Xt op=true):op=.Add:=by cases op<;>first|rfl|cases h
theorem Zdn{op:Operator}(h:XE op=true):op=.Mult:=by cases op<;>first|rfl|cases h
theorem ZfA{op:Operator}:OpR X (binaryOp op) (rD X.K (QT op)):=by
 intro pins s σ H x y v u Q I rx ry h;obtain⟨ad,st,dx,dy,d,st',S,hx,hy,e,p⟩:=h;unfold QT at e;split at e
 ·split at e
  ·rename_i k q
   cases e;cases hx;cases hy
   exact ZfB I rx ry q (p.at S (.int _))
  ·cases e
 ·split at e
  ·rename_i hz0
   cases JW hz0.1
   have hz:=hz0.2;cases e;obtain⟨a,xs,rfl,ha,r1⟩:=hx.ofTup;obtain⟨b,ys,rfl,hb,r2⟩:=hy.ofTup;cases rx;cases ry
   refine ZeT I ha hb (by rw[r1.length,r2.length];exact Nat.le_trans hz Xa) (fun z=>?_) (fun z=>?_) fun q hq=>?_
   ·subst z;cases r1
    exact p.at S hy
   ·subst z;cases r2
    rw[List.append_nil]at p;exact p.at S hx
   ·exact p _ ad _ (Ext.laid hq) (S.laid hq) (.tup (.inl upd_same) ((r1.append r2).mono (Ext.laid hq)))
  ·cases e
 ·split at e
  ·rename_i hz0
   cases Zdn hz0
   obtain⟨a,xs,rfl,ha,r1⟩:=hx.ofTup;cases hy;cases rx;obtain⟨t,rfl⟩:=ry;cases r1 with
   |nil=>cases e
   |cons d1 r1=>cases r1 with
    |cons _ _=>cases e
    |nil=>
     have e:(if _∧_ then some (D.tup (List.replicate _ _),st) else none)=some (d,st'):=e
     split at e
     ·rename_i hz
      cases e;refine ZfK I ha hz.1 hz.2 (fun z=>?_) fun q hq=>p _ ad _ (Ext.laid hq) (S.laid hq) (.tup (.inl upd_same) ((Dens.rep d1 _).mono (Ext.laid hq)))
      subst z;exact p.at S (.tup ha (.cons d1 .nil))
     ·cases e
  ·cases e
 ·split at e
  ·rename_i hop
   cases JW hop
   unfold ZeS at e;split at e
   ·rename_i xs ys q1 q2
    split at e
    ·rename_i hz
     cases e;obtain⟨a,rfl,ha⟩:=hx.ofLst;obtain⟨b,rfl,hb⟩:=hy.ofLst;obtain⟨vs,r1,h1⟩:=S.list ha q1;obtain⟨ws,r2,h2⟩:=S.list hb q2;cases rx;cases ry
     refine ZbL I h1 h2 (by rw[r1.length,r2.length];exact Nat.le_trans hz Xa) fun q hq=>?_
     refine p _ (ad++[q]) _ (Ext.push hq) (S.push hq (r1.append r2)) (.newL ?_);rw[←S.len];exact ZP
    ·cases e
   ·cases e
  ·cases e
 ·split at e
  ·rename_i hop
   cases Zdn hop
   unfold ZfJ at e;split at e
   ·rename_i z q1
    split at e
    ·rename_i hz
     cases e;obtain⟨a,rfl,ha⟩:=hx.ofLst;obtain⟨vs,r1,h1⟩:=S.listM ha q1;cases hy;cases r1 with
     |cons d1 r1=>
      cases r1;rename_i w;refine op_rep pins s σ H _ _ v u Q I rx ry ⟨a,_,[w],rfl,rfl,h1,by omega,by omega,?_,fun q hq=>?_⟩
      ·rw[List.length_singleton,Nat.one_mul]
       exact Nat.le_trans (show _≤1000 by omega) (by decide)
      ·have e1:∀ k:Nat,(List.replicate k [w]).flatten=List.replicate k w:=fun k=>by
        induction k with
        |zero=>rfl
        |succ k ih=>rw[List.replicate_succ,List.flatten_cons,ih,List.replicate_succ];rfl
       rw[e1];refine p _ (ad++[q]) _ (Ext.push hq) (S.push hq (Dens.rep d1 _)) (.newL ?_);rw[←S.len];exact ZP
    ·cases e
   ·cases e
  ·cases e
 ·split at e
  ·rename_i hz
   cases JW hz.1
   cases e;cases hx;cases hy
   exact op_add_str pins s σ H _ _ v u Q I rx ry ⟨_,_,rfl,rfl,Nat.le_trans hz.2 Xa,p.at S (.str _)⟩
  ·cases e
 ·cases e
theorem Zgb:UnR X (unaryOp .USub) (rU1 X.K Zfv):=by
 intro pins s σ H x v Q I rx h;obtain⟨ad,st,dx,d,st',S,hx,e,p⟩:=h;unfold Zfv at e;split at e
 ·cases e;cases hx
  exact un_neg pins s σ H _ v Q I rx ⟨_,rfl,p.at S (.int _)⟩
 ·cases e
theorem J0{xs:List V}{ds:List D}{ad:List Addr}{H:Hp}{i:Int}{d:D}(r:Dens X.K ad H xs ds)(e:atD ds i=some d):∃ v,atI xs i=some v∧Den X.K ad H v d:=by
 unfold atD at e;have hl:L2.ixN xs.length i=Dp.ixN ds.length i:=by rw[r.length];rfl
 cases q:Dp.ixN ds.length i with
 |none=>rw[q]at e;cases e
 |some j=>
  rw[q]at e;obtain⟨v,e1,e2⟩:=r.get (i:=j) e;refine⟨v,?_,e2⟩;unfold atI;rw[hl,q];exact e1
theorem VQ{ad:List Addr}{H:Hp}{k:Str}:∀ {ks:List Str}{vs:List V}{ds:List D},Dens X.K ad H vs ds→ks.length=vs.length→
  (∃ v d,valV ((ks.zip vs).map fun p=>((Sum.inr p.1:Key),p.2)) (Sum.inr k)=some v∧Yp ks ds k=some d∧Den X.K ad H v d)∨(valV ((ks.zip vs).map fun p=>((Sum.inr p.1:Key),p.2)) (Sum.inr k)=none∧Yp ks ds k=none)
 |[],_,_,.nil,_=>.inr ⟨rfl,rfl⟩
 |[],_,_,.cons _ _,h=>by simp at h
 |_ :: _,_,_,.nil,h=>by simp at h
 |x :: ks,v :: vs,d :: ds,.cons hd r,h=>by
  by_cases e:x=k
  ·subst e
   exact .inl ⟨v,d,valV_pos rfl,by simp[Yp],hd⟩
  ·have ih:=VQ (k:=k) r (by simpa using h)
   have e1:valV (((x :: ks).zip (v :: vs)).map fun p=>((Sum.inr p.1:Key),p.2)) (Sum.inr k)=valV ((ks.zip vs).map fun p=>((Sum.inr p.1:Key),p.2)) (Sum.inr k):=valV_neg (p:=(Sum.inr x,v)) (by intro z;exact e (Sum.inr.inj z))
   have e2:Yp (x :: ks) (d :: ds) k=Yp ks ds k:=by simp[Yp,e]
   rw[e1,e2];exact ih
theorem Ziu{x:Str}{i:Int}{d:D}(q:atD ((chS x).map D.str) i=some d):∃ c,atI x.cps.toList i=some c∧d=.str ⟨#[c]⟩:=by
 unfold atD at q;unfold atI;have hl:((chS x).map D.str).length=x.cps.toList.length:=by simp[chS]
 rw[hl]at q;show ∃ c,(Dp.ixN x.cps.toList.length i).bind (fun j=>x.cps.toList[j]?)=some c∧_
 cases e:Dp.ixN x.cps.toList.length i with
 |none=>rw[e]at q;cases q
 |some j=>
  rw[e]at q;have q:((chS x).map D.str)[j]?=some d:=q;unfold chS at q;rw[List.getElem?_map,List.getElem?_map]at q;show ∃ c,x.cps.toList[j]?=some c∧_;cases e2:x.cps.toList[j]? with
  |none=>rw[e2]at q;cases q
  |some c=>rw[e2]at q;cases q;exact⟨c,rfl,rfl⟩
theorem Zj7(hu:X.A.units+64 < cLine):IxR X (rD X.K ixR):=by
 intro value slice pins s σ H x y v u Q I rx ry h hs;obtain⟨ad,st,dx,dy,d,st',S,hx,hy,e,p⟩:=h;unfold ixR at e;split at e
 ·rename_i d' q
  cases e;unfold ixD at q;split at q
  ·obtain⟨a,xs,rfl,ha,r⟩:=hx.ofTup
   cases hy;obtain⟨w,e1,e2⟩:=J0 r q;exact ix_tup value slice pins s σ H _ _ v u Q I rx ry ⟨a,xs,_,w,rfl,rfl,(ha).sq,e1,p.at S e2⟩ hs
  ·split at q
   ·rename_i q0
    obtain⟨a,rfl,ha⟩:=hx.ofLst;cases hy;obtain⟨xs,r,sq⟩:=S.list ha q0;obtain⟨w,e1,e2⟩:=J0 r q;exact ix_list value slice pins s σ H _ _ v u Q I rx ry ⟨a,xs,_,w,rfl,rfl,sq,e1,p.at S e2⟩ hs
   ·cases q
  ·obtain⟨a,vs,rfl,ha,hl,r⟩:=hx.ofDct
   cases hy;rcases VQ r hl with⟨w,d0,e1,e2,e3⟩|⟨_,e2⟩
   ·rw[e2]at q
    cases q;exact ix_dct value slice pins s σ H _ _ v u Q I rx ry ⟨a,_,Sum.inr _,w,rfl,rfl,ha,e1,p.at S e3⟩ hs
   ·rw[e2]at q;cases q
  ·obtain⟨a,o,its,n,rfl,h1,h2,h3,h4,h5⟩:=hx.ofKt
   cases hy;obtain⟨w,e1,e2⟩:=J0 (UV _) q;exact ix_tup value slice pins s σ H _ _ v u Q I rx ry ⟨a,_,_,w,rfl,rfl,.inr ⟨o,its,n,h1,h2.1,h3,h4,h5⟩,e1,p.at S e2⟩ hs
  ·split at q
   ·rename_i hz
    cases hx;cases hy
    obtain⟨c,e1,rfl⟩:=Ziu q;exact ix_str value slice pins s σ H _ _ v u Q I rx ry ⟨_,_,c,rfl,rfl,Nat.le_trans hz Xa,e1,p.at S (.str _)⟩ hs
   ·cases q
  ·cases q
 ·cases e
theorem Xw(n d:Nat)(o:Option Int):Dp.sIx n d o=HT.sIx n d o:=by cases o<;>rfl
theorem ZcJ{xs:List V}{ds:List D}{ad:List Addr}{H:Hp}{lo hi:Option Int}(r:Dens X.K ad H xs ds):Dens X.K ad H (cutV xs lo hi) (ZbP ds lo hi):=by
 unfold cutV ZbP;rw[←r.length,Xw,Xw];exact(r.drop _).take _
theorem Uo{prog:Program}{w:World}{A:Around}{E:Value→Shared→Prop}{s:Shared}{t sl:Addr}{items:Array Value}{vl vu:Value}{lo hi:Option Int}{Q:Value→Shared→Prop}(ht:IsTup s.heap t items)(hs:s.heap.IsSliceOf sl vl vu .none)(pl:IsPart vl lo)(pu:IsPart vu hi)(hw:HT.sIx items.size 0 lo=0∧HT.sIx items.size items.size hi=items.size)(h:Q (.ref t) s):wpAny (model prog w) A (getItem (.ref t) (.ref sl)) Q E s:=by
 obtain⟨os,hos,hcs,hds⟩:=id hs;have hTs:s.TypeIs (.ref sl) "slice":=⟨os,hos,hcs⟩;unfold getItem
 try with_reducible refine wpAny_holding ?_
 first|refine wpAny_bind (wpAny_pure ?_)|skip
 refine wpAny_bind (wpAny_sequenceKey ht.typeIs (by decide) ?_)
 refine wpAny_bind (wpAny_callSpecial?_slot (name:=Str.ofString "__getitem__") ht.typeIs PyProof.Rows.slot_tuple_getitem
  (wpAny_call_entry PyProof.Rows.slot_tuple_getitem ht.typeIs PyProof.Rows.entry_tuple_getitem ?_ (PyProof.Rows.args_tuple_getitem _ _)))
 show wpAny _ _ (Builtin.Tuple.tupleItemsOf (.ref t) >>= _) _ _ s;refine wpAny_bind (tupleItemsOf_ ht ?_);refine wpAny_bind (wpAny_typeOf hTs ?_);rw[if_pos (by decide)]
 refine wpAny_bind (HT.sliceApplied_gen hs pl pu ?_);rw[hw.1,hw.2];have hyes:(((0:Nat):Int)==0&&(1:Int)==1&&(items.size - 0)==items.size)=true:=by simp
 show wpAny _ _ (if (((0:Nat):Int)==0&&(1:Int)==1&&(items.size - 0)==items.size)=true then _ else _) _ _ s
 rw[if_pos hyes];unfold Builtin.Tuple.tupleIsExact
 wp_walk using wpAny_typeOf ht.typeIs

 exact⟨_,rfl,wpAny_pure h⟩
theorem Zee:SlR X (fun x lo hi H Q=>∃ a xs,x=.ref a∧SqT X.K H a xs∧(HT.sIx xs.length 0 lo=0∧HT.sIx xs.length xs.length hi=xs.length)∧Q (.ref a) H):=by
 intro pins s σ H x v vl vu lo hi sl Q I rx hs pl pu h;obtain⟨a,xs,rfl,hx,hw,q⟩:=h;cases rx;obtain⟨its,r,ht,hz⟩:=I.tuple hx;have hlen:its.toArray.size=xs.length:=by rw[List.size_toArray];exact r.length.symm
 refine⟨"tuple",_,PyProof.Rows.slot_tuple_getitem.lookup,ht.typeIs,?_⟩;exact Uo ht hs pl pu (by rw[hlen];exact hw) ⟨.ref a,H,I,rfl,q⟩
theorem Zk2:SlR X (rSl X.K):=by
 intro pins s σ H x v vl vu lo hi sl Q I rx hs pl pu h;obtain⟨ad,st,dx,d,st',S,hx,e,p⟩:=h;unfold YR at e;split at e
 ·rename_i ds
  split at e
  ·rename_i hw
   cases e;obtain⟨a,xs,rfl,ha,r⟩:=hx.ofTup;refine Zee pins s σ H _ v vl vu lo hi sl Q I rx hs pl pu ⟨a,xs,rfl,ha.sq,?_,p.at S hx⟩;rw[r.length,←Xw,←Xw];exact hw
  ·rename_i hw
   cases e;obtain⟨a,xs,rfl,ha,r⟩:=hx.ofTup;refine sl_tup pins s σ H _ v vl vu lo hi sl Q I rx hs pl pu ⟨a,xs,rfl,(ha).sq,?_,fun q hq=>p _ ad _ (Ext.laid hq) (S.laid hq) (.tup (.inl upd_same) ((ZcJ r).mono (Ext.laid hq)))⟩
   rw[r.length,←Xw,←Xw];exact hw
 ·split at e
  ·rename_i q0
   cases e;obtain⟨a,rfl,ha⟩:=hx.ofLst;obtain⟨xs,r,sq⟩:=S.list ha q0;refine sl_list pins s σ H _ v vl vu lo hi sl Q I rx hs pl pu ⟨a,xs,rfl,sq,fun q hq=>p _ (ad++[q]) _ (Ext.push hq) (S.push hq (ZcJ r)) (.newL ?_)⟩
   rw[←S.len];exact ZP
  ·cases e
 ·cases e
theorem Q5{ad:List Addr}{H:Hp}{vs:List V}{d:D}(h:Dens X.K ad H vs [d]):∃ v,vs=[v]∧Den X.K ad H v d:=by
 cases h with
 |cons h r=>cases r;exact⟨_,rfl,h⟩
theorem Zgo{ad:List Addr}{H:Hp}{vs:List V}{d e:D}(h:Dens X.K ad H vs [d,e]):∃ v w,vs=[v,w]∧Den X.K ad H v d∧Den X.K ad H w e:=by
 cases h with
 |cons h r=>
  cases r with
  |cons h' r=>cases r;exact⟨_,_,rfl,h,h'⟩
theorem Xv{g:D→Za→Res}{ds:List D}{st:Za}{r:D×Za}(h:on1 g ds st=some r):∃ d,ds=[d]∧g d st=some r:=by
 unfold on1 at h;split at h
 ·exact⟨_,rfl,h⟩
 ·cases h
theorem UQ{g:D→D→Za→Res}{ds:List D}{st:Za}{r:D×Za}(h:on2 g ds st=some r):∃ d e,ds=[d,e]∧g d e st=some r:=by
 unfold on2 at h;split at h
 ·exact⟨_,_,rfl,h⟩
 ·cases h
theorem ZbF:CallR X (.builtin "len") (rC X.K (on1 Jm)):=by
 intro pins s σ H xs us Q I r h;obtain⟨ad,st,ds,d,st',S,hd,e,p⟩:=h;obtain⟨x,rfl,e1⟩:=Xv e;have e:=e1;obtain⟨v,rfl,hv⟩:=Q5 hd;unfold Jm at e;split at e
 ·rename_i n q
  cases e;unfold Zfr at q;split at q
  ·cases q
   obtain⟨a,ys,rfl,ha,rr⟩:=hv.ofTup;refine call_len_seq pins s σ H _ us Q I r ⟨a,ys,rfl,.inr ((ha).sq),?_⟩;rw[rr.length];exact p.at S (.int _)
  ·split at q
   ·rename_i q0
    cases q;obtain⟨a,rfl,ha⟩:=hv.ofLst;obtain⟨ys,rr,sq⟩:=S.list ha q0;refine call_len_seq pins s σ H _ us Q I r ⟨a,ys,rfl,.inl sq,?_⟩;rw[rr.length];exact p.at S (.int _)
   ·cases q
  ·cases q
   obtain⟨a,o,its,n,rfl,h1,h2,h3,h4,h5⟩:=hv.ofKt;refine call_len_seq pins s σ H _ us Q I r ⟨a,_,rfl,.inr (.inr ⟨o,its,n,h1,h2.1,h3,h4,h5⟩),?_⟩;rw[List.length_map];exact p.at S (.int _)
  ·split at q
   ·rename_i hz
    cases q;cases hv
    exact call_len pins s σ H _ us Q I r ⟨_,_,rfl,⟨Nat.le_trans hz Xa,rfl⟩,p.at S (.int _)⟩
   ·cases q
  ·cases q
 ·cases e
theorem QY:CallR X (.type "tuple") (rC X.K (on1 W4)):=by
 intro pins s σ H xs us Q I r h;obtain⟨ad,st,ds,d,st',S,hd,e,p⟩:=h;obtain⟨x,rfl,e1⟩:=Xv e;have e:=e1;obtain⟨v,rfl,hv⟩:=Q5 hd;unfold W4 at e;split at e
 ·cases e
  obtain⟨a,ys,rfl,ha,rr⟩:=hv.ofTup;exact call_tuple_of pins s σ H _ us Q I r ⟨a,ys,rfl,.inr ⟨(ha).sq,p.at S hv⟩⟩
 ·split at e
  ·rename_i q0
   cases e;obtain⟨a,rfl,ha⟩:=hv.ofLst;obtain⟨ys,rr,sq⟩:=S.list ha q0;exact call_tuple_of pins s σ H _ us Q I r ⟨a,ys,rfl,.inl ⟨sq,fun l hl=>p _ ad _ (Ext.laid hl) (S.laid hl) (.tup (.inl upd_same) (rr.mono (Ext.laid hl)))⟩⟩
  ·cases e
 ·cases e
theorem J7:CallR X (.type "list") (rC X.K (on1 UO)):=by
 intro pins s σ H xs us Q I r h;obtain⟨ad,st,ds,d,st',S,hd,e,p⟩:=h;obtain⟨x,rfl,e1⟩:=Xv e;have e:=e1;obtain⟨v,rfl,hv⟩:=Q5 hd;unfold UO at e;split at e
 ·cases e
  obtain⟨a,ys,rfl,ha,rr⟩:=hv.ofTup;refine call_list_of pins s σ H _ us Q I r ⟨a,ys,rfl,.inr ((ha).sq),fun l hl=>p _ (ad++[l]) _ (Ext.push hl) (S.push hl rr) (.newL ?_)⟩
  rw[←S.len];exact ZP
 ·split at e
  ·rename_i q0
   cases e;obtain⟨a,rfl,ha⟩:=hv.ofLst;obtain⟨ys,rr,sq⟩:=S.list ha q0;refine call_list_of pins s σ H _ us Q I r ⟨a,ys,rfl,.inl sq,fun l hl=>p _ (ad++[l]) _ (Ext.push hl) (S.push hl rr) (.newL ?_)⟩
   rw[←S.len];exact ZP
  ·cases e
 ·cases e
theorem ZbE:CallR X (.type "int") (rC X.K (on1 Zfl)):=by
 intro pins s σ H xs us Q I r h;obtain⟨ad,st,ds,d,st',S,hd,e,p⟩:=h;obtain⟨x,rfl,e1⟩:=Xv e;have e:=e1;obtain⟨v,rfl,hv⟩:=Q5 hd;unfold Zfl at e;split at e
 ·cases e;cases hv
  exact call_int1 pins s σ H _ us Q I r (.inl ⟨_,rfl,p.at S (.int _)⟩)
 ·cases e;cases hv
  exact call_int1 pins s σ H _ us Q I r (.inr ⟨true,rfl,p.at S (.int _)⟩)
 ·cases e;cases hv
  exact call_int1 pins s σ H _ us Q I r (.inr ⟨false,rfl,p.at S (.int _)⟩)
 ·cases e
theorem ZbH(hc:X.calm=true):CallR X (.builtin "min") (rC X.K (on2 Zfu)):=by
 intro pins s σ H xs us Q I r h;obtain⟨ad,st,ds,d,st',S,hd,e,p⟩:=h;obtain⟨x,y,rfl,e1⟩:=UQ e;have e:=e1;obtain⟨v,w,rfl,hv,hw⟩:=Zgo hd;unfold Zfu at e;split at e
 ·cases e;cases hv;cases hw
  exact call_min2 hc pins s σ H _ us Q I r ⟨_,_,rfl,p.at S (.int _)⟩
 ·cases e
theorem ZbG(hc:X.calm=true):CallR X (.builtin "max") (rC X.K (on2 Zft)):=by
 intro pins s σ H xs us Q I r h;obtain⟨ad,st,ds,d,st',S,hd,e,p⟩:=h;obtain⟨x,y,rfl,e1⟩:=UQ e;have e:=e1;obtain⟨v,w,rfl,hv,hw⟩:=Zgo hd;unfold Zft at e;split at e
 ·cases e;cases hv;cases hw
  exact call_max2 hc pins s σ H _ us Q I r ⟨_,_,rfl,p.at S (.int _)⟩
 ·cases e
noncomputable def tyN:Ty→String
 |.int => "int"
 |.bool => "bool"
 |.str => "str"
 |.tuple => "tuple"
noncomputable def Zdd:D→String
 |.int _ => "int"
 |.bl _ => "bool"
 |.str _ => "str"
 |.tup _ => "tuple"
 |.non => "NoneType"
 |_ => "list"
theorem Zde(K:PySem.W.Frag){T:Ty}{d:D}{k:Bool}(h:Zfo T d=some k):PySem.W.kitOne K (.type (Zdd d)) (.type (tyN T))=some k:=by
 cases d<;>first | (cases h;done) | (cases T<;>(cases h;rfl))
theorem Zjj{K:PySem.W.Frag}{ad:List Addr}{H:Hp}{v:V}{d:D}{T:Ty}{k:Bool}(h:Zfo T d=some k)(hv:Den K ad H v d):TyOf K H v (.type (Zdd d))∨∃ a xs,v=.ref a∧SqT K H a xs∧Zdd d = "tuple":=by
 cases hv with
 |non=>exact .inl .non
 |bl b=>exact .inl (.bl b)
 |int i=>exact .inl (.int i)
 |str x=>exact .inl (.str x)
 |tup e r=>exact .inr ⟨_,_,rfl,e.sq,rfl⟩
 |lst e=>cases h
 |dic _ _=>cases h
 |dct _ _ _ _ _=>cases h
 |obj _ _=>cases h
 |kt _ _ _ _ _ _=>cases h
theorem ZcE{T:Ty}:CallR X (.builtin "isinstance") (fun vs H Q=>∃ v,vs=[v,.ty (tyN T)]∧rC X.K (on1 (Zaf T)) [v] H Q):=by
 intro pins s σ H xs us Q I r h;obtain⟨v,rfl,ad,st,ds,d,st',S,hd,e,p⟩:=h;obtain⟨x,rfl,e1⟩:=Xv e;have e:=e1;obtain⟨w,hw,hv⟩:=Q5 hd;cases hw;unfold Zaf at e;split at e
 ·rename_i k q
  cases e;cases r with
  |cons r1 r2=>
   cases r2 with
   |cons r3 r4=>
    cases r4;cases r3;rcases Zjj q hv with ty|⟨a,zs,rfl,sq,kd⟩
    ·exact isinst_ok I r1 ty (Zde X.K q) fun tk=>⟨.bl k,H,I.tok _,rfl,p.at S (.bl k)⟩
    ·have kt:=Zde X.K q
     rw[kd]at kt;cases r1;obtain⟨its,_,pp,_⟩:=I.tuple sq;obtain⟨o,h1,h2,_⟩:=pp;exact PySem.W.kia_one PySem.W.kitx_tuple I.kIn ⟨o,h1,h2⟩ kt (fun z=>nomatch z) fun tk=>⟨.bl k,H,I.tok _,rfl,p.at S (.bl k)⟩
 ·cases e
end
section
variable {X:Cx}
theorem UM:∀ {its:List Value}{ns:List Int},IntsAre its ns→Vals (ns.map V.int) its
 |_,_,.nil=>.nil
 |_,_,.cons n t r=>.cons ⟨t,rfl⟩ (UM r)
theorem JD(n:Nat):sliceRange ((n:Int) - 1) (-1) (-1)=(List.range n).map fun k=>n - 1 - k:=by
 unfold sliceRange;rw[if_neg (by omega)]
 have e:(if (n:Int) - 1 > -1 then ((n:Int) - 1 - -1 - -1 - 1) / (- -1) else 0).toNat=n:=by
  split
  ·have:((n:Int) - 1 - -1 - -1 - 1) / (- -1)=(n:Int):=by
    rw[show(- -1:Int)=1 by omega,Int.ediv_one];omega
   rw[this];simp
  ·have:n=0:=by omega
   subst this;rfl
 show List.map (fun(k:Nat)=>((n:Int) - 1+-1 * (k:Int)).toNat) (List.range (if (n:Int) - 1 > -1 then ((n:Int) - 1 - -1 - -1 - 1) / (- -1) else 0).toNat)=_
 rw[e];apply List.map_congr_left
 intro k hk;omega
theorem ZcT(its:List Value):∀ (L:List Nat),(∀ k∈L,k < its.length)→L.filterMap (its.toArray[·]?)=L.map fun k=>its.getD k .none
 |[],_=>rfl
 |k :: L,h=>by
  have hk:=h k (List.mem_cons_self ..);have e:its.toArray[k]?=some (its.getD k .none):=by
   rw[List.getElem?_toArray,List.getD_eq_getElem?_getD,List.getElem?_eq_getElem hk];rfl
  rw[List.filterMap_cons,e,List.map_cons,ZcT its L fun k' h'=>h k' (List.mem_cons_of_mem _ h')]
theorem ZdH(its:List Value):slicePick its.toArray none none (some (-1))=its.reverse.toArray:=by
 unfold slicePick;have b:sliceBounds none none (some (-1)) its.toArray.size=((its.length:Int) - 1,-1,-1):=by
  simp[sliceBounds]
 rw[b];show((sliceRange ((its.length:Int) - 1) (-1) (-1)).filterMap (its.toArray[·]?)).toArray=_;rw[JD,ZcT its _ (fun k hk=>by
  obtain⟨j,hj,rfl⟩:=List.mem_map.mp hk;have:=List.mem_range.mp hj;omega)]
 congr 1
 apply List.ext_getElem
 ·simp
 ·intro k h1 h2
  have hk:k < its.length:=by simpa using h1
  simp only[List.getElem_map,List.getElem_range,List.getElem_reverse];rw[List.getD_eq_getElem?_getD,List.getElem?_eq_getElem (by omega)]
  rfl
def ZkX(K:PySem.W.Frag):V→Hp→VK→Prop:=fun x H Q=>∃ a xs,x=.ref a∧SqL K H a xs∧∀ p,H p=none→Q (.ref p) (upd H p (.lst xs.reverse))
noncomputable def Zjd(K:PySem.W.Frag)(te ts:TE):TE:=fun σ H Q=>te σ H fun x H1=>ts σ H1 fun y H2=>y=.int (-1)∧ZkX K x H2 Q
theorem JO:∀ {xs:List V}{its:List Value},Vals xs its→Vals xs.reverse its.reverse
 |_,_,.nil=>.nil
 |_,_,.cons a r=>by
  rw[List.reverse_cons,List.reverse_cons];exact(JO r).append (.cons a .nil)
theorem Q6{K:PySem.W.Frag}{ad:List Addr}{H:Hp}:∀ {xs:List V}{ds:List D},Dens K ad H xs ds→Dens K ad H xs.reverse ds.reverse
 |_,_,.nil=>.nil
 |_,_,.cons a r=>by
  rw[List.reverse_cons,List.reverse_cons];exact(Q6 r).append (.cons a .nil)
theorem ZhB{e es:Expr}{te ts:TE}{p2 pos:Pos}(he:PE X e te)(hs:PE X es ts):PE X (.Subscript e (.Slice none none (some es) p2) pos) (Zjd X.K te ts):=by
 intro pins s σ H Q I h;refine Subscript_ (thn (he pins s σ H _ I h) fun v s1 ⟨x,H1,I1,r1,q1⟩=>?_)
 refine wpAny_Slice ?_;rw[evalPart_none];refine wpAny_pure ?_;refine wpAny_pure ?_;rw[evalPart_some];refine thn (hs pins s1 σ H1 _ I1 q1) fun vs s3 ⟨y,H3,I3,r3,q3⟩=>?_
 obtain⟨rfl,a,xs,rfl,sq,q⟩:=q3;obtain⟨t,rfl⟩:=r3;cases r1;have I4:Inv X pins σ H3 { s3 with heap:=s3.heap.push { cls:=.type "slice",data:=.fields #[.none,.none,.int (-1) t] } }:=I3.kept (t':=s3.toks) fun b ob q=>Heap.get?_push_of_some _ q
 obtain⟨its,r,ht,hz⟩:=I4.list sq;have hlen:=r.length;show wpAny (model X.prog X.w) X.A (subscriptTail e (.Slice none none (some es) p2) (.ref a) (.ref s3.heap.objs.size)) (EP X pins σ Q) X.xe { s3 with heap:=s3.heap.push { cls:=.type "slice",data:=.fields #[.none,.none,.int (-1) t] } }
 refine tail_any (ops:=[.ref a,.ref s3.heap.objs.size]) ht.isList.typeIs slot_list_getitem.lookup ?_ (by with_unfolding_all rfl)
 refine wpAny_getItem_list_slice ht.isList (Heap.IsSliceOf.new ..) .none .none (.int (-1) t) (by simp) ?_ (by rw[List.size_toArray]<;>omega)
 rw[ZdH];refine⟨.ref _,_,I4.laid (t':=s3.toks) (o:=.lst xs.reverse) (fun b ob q=>Heap.get?_push_of_some _ q) (Nat.le_refl _) ?_,rfl,q _ (I4.hok.fresh (Nat.le_refl _))⟩
 exact⟨by rw[List.length_reverse];exact hz,_,0,JO r,Heap.get?_push_size _ rfl⟩
end
end Dp



namespace Dp
open PySem PySem.Spec PyProof.Rows L2
variable [ClsTab]
section
open PySem.SeqAt PySem.MeetsSeq PySem.MeetsSeq2 PySem.MeetsSeq3 PySem.SeqRoads2
open AutoSeq1 (wpAny_loadPart')
def LtAt(A:Around)(s:Shared)(y x:Value)(b:Bool):Prop:=
 ∀ (prog:Program) (w:World) (E:Value→Shared→Prop) (Q:Value→Shared→Prop),Q (.bool b) s→wpAny (model prog w) A (richCompare .Lt y x) Q E s
noncomputable def ltR(e lt:Nat→Bool)(f:Bool):List Nat→Bool
 |[]=>f
 |j :: r=>if e j=true then ltR e lt f r else lt j
theorem ZaK(l b:Addr)(items items2:Array Value)(n n2:Nat)(dd dd2:Option Addr)(sl sl2:Array (Option Value))(e lt:Nat→Bool) :
  Meets (Builtin.«tuple.__lt__» ⟨[.ref l,.ref b],[]⟩)
   (fun A R s=>s.heap.get? l=some { cls:=.type "tuple",dict:=dd,data:=.seq items n,slots:=sl }∧s.heap.get? b=some { cls:=.type "tuple",dict:=dd2,data:=.seq items2 n2,slots:=sl2 } ∧
    (∀ j (h1:j < items.size) (h2:j < items2.size),EqAt A.in1 s items[j] items2[j] (e j))∧(∀ j (h1:j < items.size) (h2:j < items2.size),(∀ i,i < j→e i=true)→e j=false→LtAt A.in1 s items[j] items2[j] (lt j)) ∧
    R (.ok (.ret (.bool (ltR e lt (decide (items.size < items2.size)) (List.range (min items.size items2.size)))))) s):=
 .of_wp fun prog w A R s h=>by
  obtain⟨hp,g,d,tk,os⟩:=s;obtain⟨hl,hb,he,hq,h⟩:=h;have f2:=AutoSeq1.sub_tuple_tuple;have hZ:(items.toList.zip items2.toList).length=min items.size items2.size:=by simp
  wp_walk using wpAny_loadPart' hl,wpAny_loadPart' hb,wpAny_forIn_list _ (fun rest b s'=>b.1=none∧s'=⟨hp,g,d,tk,os⟩∧∃ i,rest=(items.toList.zip items2.toList).drop i∧(∀ k,k < i→e k=true) ∧
   R (.ok (.ret (.bool (ltR e lt (decide (items.size < items2.size)) ((List.range (min items.size items2.size)).drop i))))) ⟨hp,g,d,tk,os⟩) _
  case turn=>
   rintro⟨y,x⟩ rest b s' ⟨hb',rfl,i,hz,hk,hR⟩
   have hlt:i < (items.toList.zip items2.toList).length:=by
    rcases Nat.lt_or_ge i (items.toList.zip items2.toList).length with h'|h'
    ·exact h'
    ·rw[List.drop_of_length_le h']at hz;cases hz
   have hm:i < min items.size items2.size:=hZ ▸ hlt;have h1:i < items.size:=Nat.lt_of_lt_of_le hm (Nat.min_le_left _ _);have h2:i < items2.size:=Nat.lt_of_lt_of_le hm (Nat.min_le_right _ _);rw[List.drop_eq_getElem_cons hlt]at hz
   injection hz with hyx hrest
   have hy:y=items[i]:=by have:=congrArg Prod.fst hyx;simpa using this
   have hx:x=items2[i]:=by have:=congrArg Prod.snd hyx;simpa using this
   subst hy hx;have hd:(List.range (min items.size items2.size)).drop i=i :: (List.range (min items.size items2.size)).drop (i+1):=by simp[List.drop_eq_getElem_cons,hm]
   rw[hd]at hR;have hR:R (.ok (.ret (.bool (if e i=true then ltR e lt (decide (items.size < items2.size)) ((List.range (min items.size items2.size)).drop (i+1)) else lt i)))) ⟨hp,g,d,tk,os⟩:=hR
   refine wpAny_bind (he i h1 h2 prog w _ _ ?_);cases hy:e i with
   |true=>
    rw[hy]at hR
    wp_walk
    refine⟨rfl,rfl,i+1,hrest,fun k hk'=>?_,by simpa using hR⟩
    rcases Nat.lt_or_ge k i with h|h
    ·exact hk k h
    ·rw[show k=i by omega];exact hy
   |false=>
    rw[hy]at hR;have hz:∀ (E:Value→Shared→Prop) (Q:Value→Shared→Prop),Q (.bool (lt i)) ⟨hp,g,d,tk,os⟩→wpAny (model prog w) A.in1 (richCompare .Lt items[i] items2[i]) Q E ⟨hp,g,d,tk,os⟩:=fun E Q=>hq i h1 h2 hk hy prog w E Q
    generalize richCompare .Lt items[i] items2[i]=rc at hz ⊢
    wp_walk using hz _ _
    exact⟨_,rfl,by simpa using hR⟩
  case fin=>
   rintro⟨b1,b2⟩ s' ⟨hb',rfl,i,hz,_,hR⟩
   simp only at hb';subst hb';have hge:min items.size items2.size≤i:=by
    rcases Nat.lt_or_ge i (items.toList.zip items2.toList).length with h'|h'
    ·rw[List.drop_eq_getElem_cons h']at hz;cases hz
    ·exact hZ ▸ h'
   rw[List.drop_of_length_le (by simpa using hge)]at hR
   wp_walk
   exact⟨_,rfl,by simpa[Builtin.Tuple.tupleCompareSizes,ltR] using hR⟩
  case h=>
   exact⟨rfl,rfl,0,rfl,fun k hk=>absurd hk (by omega),by simpa using h⟩
theorem LtAt.tuples{A:Around}{s:Shared}{l b:Addr}{items items2:Array Value}{e lt:Nat→Bool}(hl:s.heap.IsTuple l items)(hb:s.heap.IsTuple b items2)(hu:A.units < cLine)(he:∀ j (h1:j < items.size) (h2:j < items2.size),EqAt A.in1 s items[j] items2[j] (e j))(hq:∀ j (h1:j < items.size) (h2:j < items2.size),(∀ i,i < j→e i=true)→e j=false→LtAt A.in1 s items[j] items2[j] (lt j)):LtAt A s (.ref l) (.ref b) (ltR e lt (decide (items.size < items2.size)) (List.range (min items.size items2.size))):=fun prog w E Q h=>by
 obtain⟨⟨cls,dd,data,sl⟩,ho,hc,n,hd⟩:=id hl;obtain⟨⟨cls2,dd2,data2,sl2⟩,ho2,hc2,n2,hd2⟩:=id hb;simp only at hc hd hc2 hd2;subst hc hd hc2 hd2;exact richCompare_meets_room (op:=.Lt) ⟨_,ho,rfl⟩ ⟨_,ho2,rfl⟩ F.slot_tuple_lt F.entry_tuple_lt (F.args_tuple_lt_2 _ _) (ZaK l b items items2 n n2 dd dd2 sl sl2 e lt)
  ⟨ho,ho2,he,hq,show Value.bool (ltR e lt (decide (items.size < items2.size)) (List.range (min items.size items2.size)))≠Value.notImplemented∧Q (.bool (ltR e lt (decide (items.size < items2.size)) (List.range (min items.size items2.size)))) s from⟨(fun x=>nomatch x),h⟩⟩ hu
theorem Zb4(l b:Addr)(items items2:Array Value)(n n2:Nat)(dd dd2:Option Addr)(sl sl2:Array (Option Value))(e lt:Nat→Bool)(k:Nat) :
  ∀ i:Nat,min items.size items2.size - i=k→Meets (Builtin.«list.__eq__.loop» ⟨[.ref l,.ref b,rawInt i,rawInt 0],[]⟩)
   (fun A R s=>s.heap.get? l=some { cls:=.type "list",dict:=dd,data:=.seq items n,slots:=sl }∧s.heap.get? b=some { cls:=.type "list",dict:=dd2,data:=.seq items2 n2,slots:=sl2 } ∧
    (∀ j (h1:j < items.size) (h2:j < items2.size),EqAt A.in1 s items[j] items2[j] (e j))∧(∀ j (h1:j < items.size) (h2:j < items2.size),(∀ i,i < j→e i=true)→e j=false→LtAt A.in1 s items[j] items2[j] (lt j))∧(∀ j,j < i→e j=true) ∧
    R (.ok (.ret (.bool (ltR e lt (decide (items.size < items2.size)) ((List.range (min items.size items2.size)).drop i))))) s):=by
 induction k with
 |zero=>
  intro i hk prog w A R s h;obtain⟨hp,g,d,tk,os⟩:=s;obtain⟨hl,hb,he,hq,hi,h⟩:=h
  wp_walk using wpAny_loadPart' hl,wpAny_loadPart' hb
  have hd:(List.range (min items.size items2.size)).drop i=[]:=by simp;omega
  rw[hd]at h;have hz:items[((i:Nat):Int).toNat]?=none∨items2[((i:Nat):Int).toNat]?=none:=by
   by_cases c:items.size≤i
   ·left;simp;omega
   ·right;simp;omega
  rcases hz with hz|hz
  ·rw[hz]
   wp_walk using wpAny_loadPart' hl,wpAny_loadPart' hb
   exact h
  ·rw[hz]
   cases items[((i:Nat):Int).toNat]? with
   |none=>
    wp_walk using wpAny_loadPart' hl,wpAny_loadPart' hb
    exact h
   |some x=>
    wp_walk using wpAny_loadPart' hl,wpAny_loadPart' hb
    exact h
 |succ k ih=>
  intro i hk prog w A R s h;obtain⟨hp,g,d,tk,os⟩:=s;obtain⟨hl,hb,he,hq,hi,h⟩:=h
  wp_walk using wpAny_loadPart' hl,wpAny_loadPart' hb
  have hlt:i < items.size:=by omega
  have hlt2:i < items2.size:=by omega
  have hm:i < min items.size items2.size:=by omega
  have hi1:items[((i:Nat):Int).toNat]?=some items[i]:=by simp[hlt]
  have hi2:items2[((i:Nat):Int).toNat]?=some items2[i]:=by simp[hlt2]
  have hd:(List.range (min items.size items2.size)).drop i=i :: (List.range (min items.size items2.size)).drop (i+1):=by simp[List.drop_eq_getElem_cons,hm]
  have hc:((i:Int)+1)=((i+1:Nat):Int):=by push_cast;rfl
  rw[hd]at h;have h:R (.ok (.ret (.bool (if e i=true then ltR e lt (decide (items.size < items2.size)) ((List.range (min items.size items2.size)).drop (i+1)) else lt i)))) ⟨hp,g,d,tk,os⟩:=h
  rw[hi1,hi2];refine wpAny_bind (he i hlt hlt2 prog w _ _ ?_);cases hb':e i with
  |true=>
   rw[hb']at h
   wp_walk
   rw[hc];exact⟨plainId_quiet plain_eq_loop _,codeAny_builtin entry_eq_loop (by
    rw[Around.under_plainId plain_eq_loop _];refine ih (i+1) (by omega) prog w A R _ ⟨hl,hb,he,hq,fun j hj=>?_,by simpa using h⟩
    rcases Nat.lt_or_ge j i with z|z
    ·exact hi j z
    ·rw[show j=i by omega];exact hb')⟩
  |false=>
   rw[hb']at h;have hz:∀ (E:Value→Shared→Prop) (Q:Value→Shared→Prop),Q (.bool (lt i)) ⟨hp,g,d,tk,os⟩→wpAny (model prog w) A.in1 (richCompare .Lt items[i] items2[i]) Q E ⟨hp,g,d,tk,os⟩:=fun E Q=>hq i hlt hlt2 hi hb' prog w E Q
   wp_walk using wpAny_loadPart' hl,wpAny_loadPart' hb
   rw[hi1,hi2];refine wpAny_bind (hz _ _ ?_)
   wp_walk
   simpa using h
theorem Zb3(l b:Addr)(items items2:Array Value)(n n2:Nat)(dd dd2:Option Addr)(sl sl2:Array (Option Value))(e lt:Nat→Bool) :
  Meets (Builtin.«list.__lt__» ⟨[.ref l,.ref b],[]⟩)
   (fun A R s=>s.heap.get? l=some { cls:=.type "list",dict:=dd,data:=.seq items n,slots:=sl }∧s.heap.get? b=some { cls:=.type "list",dict:=dd2,data:=.seq items2 n2,slots:=sl2 } ∧
    (∀ j (h1:j < items.size) (h2:j < items2.size),EqAt A.in1 s items[j] items2[j] (e j))∧(∀ j (h1:j < items.size) (h2:j < items2.size),(∀ i,i < j→e i=true)→e j=false→LtAt A.in1 s items[j] items2[j] (lt j)) ∧
    R (.ok (.ret (.bool (ltR e lt (decide (items.size < items2.size)) (List.range (min items.size items2.size)))))) s):=by
 intro prog w A R s h;obtain⟨hp,g,d,tk,os⟩:=s;obtain⟨hl,hb,he,hq,h⟩:=h;have f3:=AutoSeq1.sub_list_list
 wp_walk using wpAny_loadPart' hl,wpAny_loadPart' hb
 exact⟨plainId_quiet plain_eq_loop _,codeAny_builtin entry_eq_loop (by
  rw[Around.under_plainId plain_eq_loop _];exact Zb4 l b items items2 n n2 dd dd2 sl sl2 e lt _ 0 rfl prog w A R _ ⟨hl,hb,he,hq,fun j hj=>absurd hj (by omega),by simpa using h⟩)⟩
theorem LtAt.lists{A:Around}{s:Shared}{l b:Addr}{items items2:Array Value}{e lt:Nat→Bool}(hl:s.heap.IsList l items)(hb:s.heap.IsList b items2)(hu:A.units < cLine)(he:∀ j (h1:j < items.size) (h2:j < items2.size),EqAt A.in1 s items[j] items2[j] (e j))(hq:∀ j (h1:j < items.size) (h2:j < items2.size),(∀ i,i < j→e i=true)→e j=false→LtAt A.in1 s items[j] items2[j] (lt j)):LtAt A s (.ref l) (.ref b) (ltR e lt (decide (items.size < items2.size)) (List.range (min items.size items2.size))):=fun prog w E Q h=>by
 obtain⟨⟨cls,dd,data,sl⟩,ho,hc,n,hd⟩:=id hl;obtain⟨⟨cls2,dd2,data2,sl2⟩,ho2,hc2,n2,hd2⟩:=id hb;simp only at hc hd hc2 hd2;subst hc hd hc2 hd2;exact richCompare_meets_room (op:=.Lt) ⟨_,ho,rfl⟩ ⟨_,ho2,rfl⟩ F.slot_list_lt F.entry_list_lt (F.args_list_lt_2 _ _) (Zb3 l b items items2 n n2 dd dd2 sl sl2 e lt)
  ⟨ho,ho2,he,hq,show Value.bool (ltR e lt (decide (items.size < items2.size)) (List.range (min items.size items2.size)))≠Value.notImplemented∧Q (.bool (ltR e lt (decide (items.size < items2.size)) (List.range (min items.size items2.size)))) s from⟨(fun x=>nomatch x),h⟩⟩ hu
end
section
variable {X:Cx}
theorem Zc8{ad:List Addr}{H:Hp}{k:Int}:∀ {xs:List V}{ds:List D}{b:Bool},Dens X.K ad H xs ds→XA k ds=some b→xs.all flatV=true∧inV (.int k) xs=b
 |_,_,_,.nil,e=>by cases e;exact⟨rfl,rfl⟩
 |_,_,b,.cons (d:=d) h r,e=>by
  cases d with
  |int i=>
   cases h;unfold XA at e;cases q:XA k _ with
   |none=>rw[q]at e;cases e
   |some b'=>
    rw[q]at e;cases e;obtain⟨h1,h2⟩:=Zc8 r q;refine⟨by rw[List.all_cons,h1];rfl,?_⟩
    show((i==k)||inV (.int k) _)=(decide (i=k)||b');rw[h2];rfl
  |_=>simp[XA]at e
theorem Zad{ad:List Addr}{H:Hp}{k:Str}:∀ {xs:List V}{ds:List D}{b:Bool},Dens X.K ad H xs ds→XB k ds=some b→xs.all flatV=true∧inV (.str k) xs=b
 |_,_,_,.nil,e=>by cases e;exact⟨rfl,rfl⟩
 |_,_,b,.cons (d:=d) h r,e=>by
  cases d with
  |str i=>
   cases h;unfold XB at e;cases q:XB k _ with
   |none=>rw[q]at e;cases e
   |some b'=>
    rw[q]at e;cases e;obtain⟨h1,h2⟩:=Zad r q;refine⟨by rw[List.all_cons,h1];rfl,?_⟩
    show((i==k)||inV (.str k) _)=(decide (i=k)||b');rw[h2]
    congr 1
  |_=>simp[XB]at e
def CW(X:Cx)(pins:List (Addr×Obj))(σ:L2.St)(Q:VK)(s:Shared)(op:CmpOp)(v u:Value):Prop:=wpAny (model X.prog X.w) X.A (compareOp op v u) (EP X pins σ Q) X.xe s
def CW2(X:Cx)(pins:List (Addr×Obj))(σ:L2.St)(Q:VK)(s:Shared)(H:Hp)(op op':CmpOp)(v u:Value)(k:Bool):Prop:=(Q (.bl k) H→CW X pins σ Q s op v u)∧(Q (.bl (!k)) H→CW X pins σ Q s op' v u)
noncomputable def vSc:Sc→V
 |.non=>.non
 |.bl b=>.bl b
 |.int i=>.int i
 |.str x=>.str x
theorem Den.vSc{K:PySem.W.Frag}{ad:List Addr}{H:Hp}{x:V}{d:D}{a:Sc}(h:Den K ad H x d)(e:scD d=some a):x=vSc a:=by
 cases h<;>cases e<;>rfl
theorem Ze1{a b:Sc}{k:Bool}(h:ZcO a b=some k):scal (vSc a) (vSc b)=true∧decide (vSc a=vSc b)=k:=by
 cases a<;>cases b<;>first
  | (cases h;done)
  | (cases h;exact⟨rfl,rfl⟩)
  | (cases h;exact⟨rfl,dec_bl⟩)
  | (cases h;exact⟨rfl,by simp[vSc]⟩)
inductive EqD(x y:V):D→D→Bool→Prop
 |sc {dx dy:D}{k:Bool} (h3:scal x y=true) (h4:decide (x=y)=k):EqD x y dx dy k
 |tup {xs ys:List D} (h:(okD 8 (.tup xs)&&okD 8 (.tup ys))=true):EqD x y (.tup xs) (.tup ys) (Ym xs ys)
theorem ZeZ{K:PySem.W.Frag}{ad:List Addr}{H:Hp}{x y:V}{dx dy:D}{k:Bool}(hx:Den K ad H x dx)(hy:Den K ad H y dy)(e:eqD dx dy=some k):EqD x y dx dy k:=by
 unfold eqD at e;split at e
 ·unfold eqT at e
  split at e
  ·split at e
   ·rename_i hok
    cases e;exact .tup hok
   ·cases e
  ·cases e
 ·refine j_e e fun e=>YT (P:=fun o=>o=some k→EqD x y dx dy k) e (fun a b h1 h2 h=>?_) rfl
  obtain⟨h3,h4⟩:=Ze1 h;rw[←hx.vSc h1,←hy.vSc h2]at h3 h4;exact .sc h3 h4
theorem ZiB(hu:X.A.units+64 < cLine){pins:List (Addr×Obj)}{s:Shared}{σ:L2.St}{H:Hp}{x y:V}{v u:Value}{Q:VK}{ad:List Addr}{st:Za}{dx dy:D}{k:Bool}(I:Inv X pins σ H s)(rx:RelV x v)(ry:RelV y u)(S:StOk X.K ad H st)(hx:Den X.K ad H x dx)(hy:Den X.K ad H y dy)(e:eqD dx dy=some k):CW2 X pins σ Q s H .Eq .NotEq v u k:=by
 cases ZeZ hx hy e with
 |sc h3 h4=>
  subst h4;exact⟨fun q=>op_eq pins s σ H x y v u Q I rx ry ⟨h3,q⟩,fun q=>op_ne pins s σ H x y v u Q I rx ry ⟨h3,q⟩⟩
 |tup hok=>
  rw[Bool.and_eq_true]at hok;obtain⟨a,xs,rfl,ha,r1⟩:=hx.ofTup;obtain⟨b,ys,rfl,hb,r2⟩:=hy.ofTup;cases rx;cases ry
  obtain⟨g1,g2⟩:=ZfI (ad:=ad) (A:=X.A) I (n:=7) hok.1 hok.2 (by omega) ha r1 hb r2
  exact⟨fun q=>g1 X.prog X.w X.xe _ ⟨.bl _,H,I,rfl,q⟩,fun q=>g2 X.prog X.w X.xe _ ⟨.bl _,H,I,rfl,q⟩⟩
open PySem.SeqAt in
theorem ZfH{X:Cx}{H:Hp}{ad:List Addr}{pins:List (Addr×Obj)}{σ:L2.St}{s:Shared}(I:Inv X pins σ H s){n:Nat}{A:Around}{a b:Addr}{xs ys:List V}{ds es:List D}{its its':List Value}(hx:Xm n ds=true)(hy:Xm n es=true)(hu:A.units+n+1 < cLine)(r:Dens X.K ad H xs ds)(r':Dens X.K ad H ys es)(rv:Vals xs its)(rv':Vals ys its')(p:s.heap.IsList a its.toArray)(p':s.heap.IsList b its'.toArray):RcAt A s (.ref a) (.ref b) (Ym ds es)∧RcNeAt A s (.ref a) (.ref b) (!Ym ds es):=by
 have e1:its.toArray.size=ds.length:=by rw[List.size_toArray,←rv.length,r.length]
 have e2:its'.toArray.size=es.length:=by rw[List.size_toArray,←rv'.length,r'.length]
 by_cases hl:ds.length=es.length
 ·have it:=fun j h1 h2=>Zag (a:=a) (b:=b) I hx hy hu r r' rv rv' j h1 h2
  have q:=RcAt.lists (A:=A) (s:=s) (e:=fun i=>Yc ((ds[i]?).getD .non) ((es[i]?).getD .non)) p p' (by omega) (by omega) it
  have q':=RcNeAt.lists (A:=A) (s:=s) (e:=fun i=>Yc ((ds[i]?).getD .non) ((es[i]?).getD .non)) p p' (by omega) (by omega) it
  rw[e1]at q q';rw[Xq,show min ds.length es.length=ds.length by omega,show(ds.length==es.length)=true by simpa using hl,Bool.and_true]
  exact⟨q,q'⟩
 ·have q:=RcAt.lists_lengths (A:=A) (s:=s) p p' (by rw[e1,e2];simpa using hl) (by omega)
  have q':=RcNeAt.lists_lengths (A:=A) (s:=s) p p' (by rw[e1,e2];simpa using hl) (by omega)
  rw[Xq,show(ds.length==es.length)=false by simpa using hl,Bool.and_false]
  exact⟨q,q'⟩
open PySem.SeqAt in
theorem ZjX(hu:X.A.units+64 < cLine){pins:List (Addr×Obj)}{s:Shared}{σ:L2.St}{H:Hp}{x y:V}{v u:Value}{Q:VK}{ad:List Addr}{st:Za}{ds es:List D}{k:Bool}(I:Inv X pins σ H s)(rx:RelV x v)(ry:RelV y u)(S:StOk X.K ad H st)(hx:Den X.K ad H x (.tup ds))(hy:Den X.K ad H y (.tup es))(e:Zbe st ds es=some k):CW2 X pins σ Q s H .Eq .NotEq v u k:=by cases e
theorem ZiC(hu:X.A.units+64 < cLine){pins:List (Addr×Obj)}{s:Shared}{σ:L2.St}{H:Hp}{x y:V}{v u:Value}{Q:VK}{ad:List Addr}{st:Za}{dx dy:D}{k:Bool}(I:Inv X pins σ H s)(rx:RelV x v)(ry:RelV y u)(S:StOk X.K ad H st)(hx:Den X.K ad H x dx)(hy:Den X.K ad H y dy)(e:eqS st dx dy=some k):CW2 X pins σ Q s H .Eq .NotEq v u k:=by
 have sc:scal x y=true→(decide (x=y))=k→CW2 X pins σ Q s H .Eq .NotEq v u k:=fun h1 h2=>by
  subst h2;exact⟨fun q=>op_eq pins s σ H x y v u Q I rx ry ⟨h1,q⟩,fun q=>op_ne pins s σ H x y v u Q I rx ry ⟨h1,q⟩⟩
 unfold eqS at e;split at e
 ·unfold Ziz at e
  split at e
  case h_2=>cases e
  obtain⟨a,rfl,ha⟩:=hx.ofLst;obtain⟨b,rfl,hb⟩:=hy.ofLst;cases rx;cases ry
  have two:∀ {ba bb:Bool}{xs ys:List D},st[_]?=some (ba,xs)→st[_]?=some (bb,ys)→(xs=[]∨ys=[])→(xs.isEmpty&&ys.isEmpty)=k→CW2 X pins σ Q s H .Eq .NotEq (.ref a) (.ref b) k:=fun {ba bb xs ys} q1 q2 hz hk=>by
   obtain⟨vs,r1,s1⟩:=S.list ha q1;obtain⟨ws,r2,s2⟩:=S.list hb q2;obtain⟨its,rv,p1,_⟩:=I.list s1;obtain⟨its',rv',p2,_⟩:=I.list s2;have l1:its.toArray.size=xs.length:=by rw[List.size_toArray,←rv.length,r1.length]
   have l2:its'.toArray.size=ys.length:=by rw[List.size_toArray,←rv'.length,r2.length]
   by_cases hl:xs.length=ys.length
   ·have z1:xs=[]:=by
     rcases hz with z|z
     ·exact z
     ·rw[z]at hl;exact List.length_eq_zero_iff.mp hl
    have z2:ys=[]:=by rw[z1]at hl;exact List.length_eq_zero_iff.mp hl.symm
    subst z1 z2;cases hk;have f:its=[]:=List.length_eq_zero_iff.mp (by simpa using l1)
    have f':its'=[]:=List.length_eq_zero_iff.mp (by simpa using l2)
    subst f f';refine⟨fun q=>SeqAt.RcAt.lists (e:=fun _=>true) p1.isList p2.isList rfl (by omega) (fun j h1 _=>absurd h1 (by simp)) X.prog X.w X.xe _ ⟨.bl true,H,I,rfl,q⟩,fun q=>SeqAt.RcNeAt.lists (e:=fun _=>true) p1.isList p2.isList rfl (by omega) (fun j h1 _=>absurd h1 (by simp)) X.prog X.w X.xe _ ⟨.bl false,H,I,rfl,q⟩⟩
   ·have hk':k=false:=by
     rw[←hk];rcases hz with z|z
     ·subst z
      cases ys with
      |nil=>exact absurd rfl hl
      |cons _ _=>rfl
     ·subst z
      cases xs with
      |nil=>exact absurd rfl hl
      |cons _ _=>rfl
    subst hk';have hne:(its.toArray.size != its'.toArray.size)=true:=by rw[l1,l2];simpa using hl
    exact⟨fun q=>SeqAt.RcAt.lists_lengths p1.isList p2.isList hne (by omega) X.prog X.w X.xe _ ⟨.bl false,H,I,rfl,q⟩,fun q=>SeqAt.RcNeAt.lists_lengths p1.isList p2.isList hne (by omega) X.prog X.w X.xe _ ⟨.bl true,H,I,rfl,q⟩⟩
  refine j_e e fun e=>YT (P:=fun o=>o=some k→CW2 X pins σ Q s H .Eq .NotEq (.ref a) (.ref b) k) e (fun c d q1 q2 e=>?_) rfl
  obtain⟨c1,c2⟩:=c;obtain⟨d1,d2⟩:=d;unfold ZbS at e;split at e
  ·rename_i hz
   cases e;rw[Bool.or_eq_true]at hz;exact two q1 q2 (hz.imp List.isEmpty_iff.mp List.isEmpty_iff.mp) rfl
  ·split at e
   ·rename_i hok
    cases e;rw[Bool.and_eq_true]at hok;obtain⟨vs,r1,s1⟩:=S.list ha q1;obtain⟨ws,r2,s2⟩:=S.list hb q2;obtain⟨its,rv,p1,_⟩:=I.list s1;obtain⟨its',rv',p2,_⟩:=I.list s2;obtain⟨g1,g2⟩:=ZfH (ad:=ad) (A:=X.A) I hok.1 hok.2 (by omega) r1 r2 rv rv' p1.isList p2.isList
    exact⟨fun q=>g1 X.prog X.w X.xe _ ⟨.bl _,H,I,rfl,q⟩,fun q=>g2 X.prog X.w X.xe _ ⟨.bl _,H,I,rfl,q⟩⟩
   ·cases e
 ·unfold ZiA at e
  split at e
  ·split at e
   ·rename_i k' q
    cases e;exact ZiB hu I rx ry S hx hy (show eqD (.tup _) (.tup _)=some _ from q)
   ·exact ZjX hu I rx ry S hx hy e
  ·cases e
 ·exact ZiB hu I rx ry S hx hy e
open Classical in
noncomputable def Zk6(K:PySem.W.Frag)(ad:List Addr)(H:Hp)(d:D)(u:Value):Bool:=decide (∃ y e,RelV y u∧Den K ad H y e∧okD 8 e=true∧Yc e d=true)
section
variable {pins:List (Addr×Obj)}{s:Shared}{σ:L2.St}{H:Hp}{x y:V}{v u:Value}{Q:VK}{ad:List Addr}{st:Za}{dx dy:D}{k:Bool}
theorem Qj{a:Addr}{xs:List V}(I:Inv X pins σ H s)(rx:RelV x v)(ry:RelV y u)(ey:y=.ref a)(sq:SqL X.K H a xs∨SqT X.K H a xs)(fx:flatV x=true)(h:xs.all flatV=true∧inV x xs=k):CW2 X pins σ Q s H .In .NotIn v u k:=by
 obtain⟨h1,h2⟩:=h;subst h2;exact⟨fun pk=>op_in_seq pins s σ H _ _ v u Q I rx ry ⟨a,xs,ey,sq,fx,h1,pk⟩,fun pk=>op_notIn_seq pins s σ H _ _ v u Q I rx ry ⟨a,xs,ey,sq,fx,h1,pk⟩⟩
def InW(X:Cx)(pins:List (Addr×Obj))(σ:L2.St)(Q:VK)(s:Shared)(H:Hp)(v u:Value)(dy:D)(k:Bool):Prop:=(Q (.bl k) H→CW X pins σ Q s .In v u)∧((∀ ks vs,dy≠.dct ks vs)→Q (.bl (!k)) H→CW X pins σ Q s .NotIn v u)
theorem CW2.inW(h:CW2 X pins σ Q s H .In .NotIn v u k):InW X pins σ Q s H v u dy k:=⟨h.1,fun _=>h.2⟩
theorem ZiG(hu:X.A.units+64 < cLine)(I:Inv X pins σ H s)(rx:RelV x v)(ry:RelV y u)(S:StOk X.K ad H st)(hx:Den X.K ad H x dx)(hy:Den X.K ad H y dy)(q:inS st dx dy=some k):InW X pins σ Q s H v u dy k:=by
 unfold inS at q;split at q
 ·split at q
  ·rename_i q0
   obtain⟨a,e,ha⟩:=hy.ofLst;obtain⟨xs,r,sq⟩:=S.list ha q0;cases hx;exact(Qj I rx ry e (.inl sq) rfl (Zc8 r q)).inW
  ·cases q
 ·split at q
  ·rename_i q0
   obtain⟨a,e,ha⟩:=hy.ofLst;obtain⟨xs,r,sq⟩:=S.list ha q0;cases hx;exact(Qj I rx ry e (.inl sq) rfl (Zad r q)).inW
  ·cases q
 ·obtain⟨a,xs,e,ha,r⟩:=hy.ofTup
  cases hx;exact(Qj I rx ry e (.inr ha.sq) rfl (Zc8 r q)).inW
 ·obtain⟨a,xs,e,ha,r⟩:=hy.ofTup
  cases hx;exact(Qj I rx ry e (.inr ha.sq) rfl (Zad r q)).inW
 ·obtain⟨a,vs,rfl,ha,hl,r⟩:=hy.ofDct
  cases hx;cases q;refine⟨fun pk=>op_in_dct pins s σ H _ _ v u Q I rx ry ⟨a,_,Sum.inr _,rfl,rfl,ha,?_⟩,fun z=>absurd rfl (z _ _)⟩
  rcases VQ r hl with⟨w,d0,e1,e2,e3⟩|⟨e1,e2⟩
  ·rw[e1];rw[e2]at pk;exact pk
  ·rw[e1];rw[e2]at pk;exact pk
 ·cases hx;cases hy;cases q
  exact⟨fun pk=>op_in_str pins s σ H _ _ v u Q I rx ry ⟨_,_,rfl,rfl,pk⟩,fun _ pk=>op_notIn_str pins s σ H _ _ v u Q I rx ry ⟨_,_,rfl,rfl,pk⟩⟩
 ·cases q
theorem Zfn(hx:Den X.K ad H x dx)(q:isN dx=some k):decide (x=V.non)=k:=by
 cases hx<;>cases q<;>rfl
theorem ZiH(I:Inv X pins σ H s)(rx:RelV x v)(ry:RelV y u)(hx:Den X.K ad H x dx)(hy:Den X.K ad H y dy)(q:isD dx dy=some k):CW2 X pins σ Q s H .Is .IsNot v u k:=by
 unfold isD at q;split at q
 ·cases hy
  have z:=Zfn hx q;subst z;exact⟨fun pk=>op_isN pins s σ H _ _ v u Q I rx ry ⟨rfl,pk⟩,fun pk=>op_notN pins s σ H _ _ v u Q I rx ry ⟨rfl,pk⟩⟩
 ·unfold isB at q
  split at q
  ·cases q
   cases hx;cases hy
   cases rx;cases ry
   have e:∀ a b:Bool,(Value.bool a==Value.bool b)=(a==b):=fun a b=>by cases a<;>cases b<;>rfl
   exact⟨fun pk=>wpAny_is_plain rfl (by rw[e];exact⟨.bl _,H,I,rfl,pk⟩),fun pk=>wpAny_isNot_plain rfl (by rw[e];exact⟨.bl _,H,I,rfl,pk⟩)⟩
  ·cases q
 ·cases q
theorem Vo{f:Int→Int→Bool}(hx:Den X.K ad H x dx)(hy:Den X.K ad H y dy)(q:Zap f dx dy=some k):∃ i j,x=.int i∧y=.int j∧f i j=k:=by
 unfold Zap at q;split at q
 ·cases q;cases hx;cases hy;exact⟨_,_,rfl,rfl,rfl⟩
 ·cases q
theorem Zkc(hu:X.A.units+64 < cLine)(I:Inv X pins σ H s)(rx:RelV x v)(ry:RelV y u)(S:StOk X.K ad H st)(hx:Den X.K ad H x dx)(hy:Den X.K ad H y dy)(q:ltS st dx dy=some k)(pk:Q (.bl k) H):CW X pins σ Q s .Lt v u:=by
   have q:ltD dx dy=some k:=q;obtain⟨i,j,rfl,rfl,z⟩:=Vo hx hy q;exact op_lt pins s σ H _ _ v u Q I rx ry ⟨_,_,rfl,rfl,by cases z;exact pk⟩
theorem Qq{o:Option Bool}(q:o.map not=some k):o=some (!k):=by
 cases o with
 |none=>cases q
 |some k'=>cases q;rw[Bool.not_not]
theorem Zdr{op op':CmpOp}(h:CW2 X pins σ Q s H op op' v u (!k))(pk:Q (.bl k) H):CW X pins σ Q s op' v u:=h.2 (by rw[Bool.not_not];exact pk)
end
theorem Zbd(hu:X.A.units+64 < cLine){op:CmpOp}:OpR X (compareOp op) (rD X.K (ZbM op)):=by
 intro pins s σ H x y v u Q I rx ry h;obtain⟨ad,st,dx,dy,d,st',S,hx,hy,e,p⟩:=h
 change CW X pins σ Q s op v u;unfold ZbM at e;cases q:Zg1 op dx dy st with
 |none=>rw[q]at e;cases e
 |some k=>
  rw[q]at e;cases e;have pk:=p.at S (.bl k);clear p;cases op with
  |Lt=>exact Zkc hu I rx ry S hx hy q pk
  |LtE=>
   obtain⟨i,j,rfl,rfl,z⟩:=Vo hx hy q;exact op_le pins s σ H _ _ v u Q I rx ry ⟨_,_,rfl,rfl,by cases z;exact pk⟩
  |Gt=>
   obtain⟨i,j,rfl,rfl,z⟩:=Vo hx hy q;exact op_gt pins s σ H _ _ v u Q I rx ry ⟨_,_,rfl,rfl,by cases z;exact pk⟩
  |GtE=>
   obtain⟨i,j,rfl,rfl,z⟩:=Vo hx hy q;exact op_ge pins s σ H _ _ v u Q I rx ry ⟨_,_,rfl,rfl,by cases z;exact pk⟩
  |Eq=>exact(ZiC hu I rx ry S hx hy q).1 pk
  |NotEq=>exact Zdr (ZiC hu I rx ry S hx hy (Qq q)) pk
  |In=>exact(ZiG hu I rx ry S hx hy q).1 pk
  |NotIn=>
   have q:niS st dx dy=some k:=q;unfold niS at q;split at q
   ·cases q
   ·rename_i hn
    exact(ZiG hu I rx ry S hx hy (Qq q)).2 hn (by rw[Bool.not_not];exact pk)
  |Is=>exact(ZiH I rx ry hx hy q).1 pk
  |IsNot=>exact Zdr (ZiH I rx ry hx hy (Qq q)) pk
end
end Dp



namespace Dp
open PySem PySem.Spec PyProof.Rows L2
variable [ClsTab]
noncomputable def Zt:Expr→Bool
 |.Starred ..=>false
 |.Set ..=>false
 |.Slice ..=>false
 |_=>true
theorem Zn{G:Gs}{n:Nat}{sc:Scope}{N:List Str}{e:Expr}{c:CE}(h:cE G n sc N e=some c):Zt e=true:=by
 cases n with
 |zero=>exact nomatch (show(none:Option CE)=some c from h)
 |succ n=>cases e<;>first|rfl|exact nomatch (show(none:Option CE)=some c from h)
theorem Zm{e:Expr}{es:List Expr}{env:PySem.Env}(h:Zt e=true):starEach (e :: es) env=(false,eval e env) :: starEach es env:=by
 cases e<;>first|rfl|cases h
theorem W9{op:CmpOp}{b:Expr}(h:Zt b=true):behindInMarks op b=false:=by
 cases b<;>first|rfl|cases h
theorem Zdc{b:Expr}(h:Zt b=true):PlainIx b:=by
 cases b<;>first | (intro o i;rfl)|cases h
theorem WO{pos:Pos}{env:PySem.Env}:∀ {es:List Expr},es.all Zt=true→(backTo pos (starEach es env)).any (·.1)=false
 |[],_=>rfl
 |e :: es,h=>by
  rw[List.all_cons,Bool.and_eq_true]at h;rw[Zm h.1];show(false||(backTo pos (starEach es env)).any (·.1))=false;rw[WO h.2];rfl
inductive EsOk(Pm:Params)(K:PySem.W.Frag):List DictEntry→List Str→List D→Prop where
 |nil:EsOk Pm K [] [] []
 |cons {e:DictEntry}{es:List DictEntry}{k:Str}{ks:List Str}{d:D}{ds:List D}{v:V}{t:Tok} (h1:e.hash=PyData.keyHash Pm k) (h2:e.key=.str k t) (h3:RelV v e.val) (h4:∀ ad H,Den K ad H v d) (r:EsOk Pm K es ks ds):EsOk Pm K (e :: es) (k :: ks) (d :: ds)
def ZaM(Pm:Params)(K:PySem.W.Frag)(mg:Str→Option Value)(x:Str)(ks:List Str)(ds:List D):Prop:=
 ∃ A o es ep,mg x=some (.ref A)∧K.lookup A=some o∧o.ExactDict∧o.data=.dict es ep∧(A==sysModules)=false∧ks.Nodup∧EsOk Pm K es.toList ks ds
theorem EsOk.open{w:World}{P:Program}{K:PySem.W.Frag}:∀ {es:List DictEntry}{ks:List Str}{ds:List D},EsOk w.params K es ks ds→∃ kvs:List (Key×Value),Pairs (mixKind P w) es kvs∧kvs.map (·.1)=ks.map Sum.inr∧(∀ e∈es,∃ k,(mixKind P w).is k e.key=true∧e.hash=(mixKind P w).hash k) ∧
  ∀ k d,Yp ks ds k=some d→∃ u v,valueAt kvs (Sum.inr k)=some u∧RelV v u∧∀ ad H,Den K ad H v d
 |_,_,_,.nil=>⟨[],.nil,rfl,(fun _ h=>nomatch h),fun k d h=>by simp[Yp]at h⟩
 |e :: es,k0 :: ks,d0 :: ds,.cons (v:=v) (t:=t) h1 h2 h3 h4 r=>by
  obtain⟨kvs,a1,a2,a3,a4⟩:=EsOk.open (P:=P) r;have hk:(mixKind P w).is (Sum.inr k0) e.key=true:=by rw[h2];exact mixKind_str P w k0 t
  refine⟨(Sum.inr k0,e.val) :: kvs,.cons hk rfl a1,by rw[List.map_cons,List.map_cons,a2],fun x hx=>?_,fun k d h=>?_⟩
  ·rcases List.mem_cons.mp hx with rfl|hx
   ·exact⟨Sum.inr k0,hk,h1⟩
   ·exact a3 x hx
  ·unfold valueAt
   by_cases c:k0=k
   ·subst c
    have h:Yp (k0 :: ks) (d0 :: ds) k0=some d:=h;simp only[Yp,if_pos]at h;cases h;exact⟨e.val,v,by simp,h3,h4⟩
   ·have h:Yp ks ds k=some d:=by
     simp only[Yp,if_neg c]at h;exact h
    obtain⟨u,v',b1,b2,b3⟩:=a4 k d h;refine⟨u,v',?_,b2,b3⟩;have nk:¬(Sum.inr k0:Key)=Sum.inr k:=fun z=>c (Sum.inr.inj z)
    rw[List.find?_cons_of_neg (by simpa using nk)]
    exact b1
structure SubOk(K:PySem.W.Frag)(C B:Addr):Prop where
 cl:Cls K C
 ha:PySem.W.findIn K (.ref C) "__class__"=some (some (.builtin "object.__class__"))
 hn:PySem.W.specialIn K (.builtin "object.__class__") "__get__"=some (some (.builtin "getset_descriptor.__get__"))
 ht:PySem.W.takesIn K (.builtin "object.__class__")=some true
 hm:PySem.W.mroIn K C (.type "object")=some true
 kit:PySem.W.kitOne K (.ref C) (.ref B)=some true
structure NewOk(K:PySem.W.Frag)(C:Addr):Prop where
 makes:PySem.W.makesIn K C=true
 init:PySem.W.findIn K (.ref C) "__init__"=some (some (.builtin "object.__init__"))
 kp:PySem.W.keepIn K (.ref C)=true
 cl:Cls K C
def GOk(P:Program)(w:World)(K:PySem.W.Frag)(mg:Str→Option Value)(base:Heap)(A:Around)(F:Nat→Fn)(x:Str):GV→Prop
 |.cst d=>∃ v u,mg x=some u∧RelV v u∧∀ ad H,Den K ad H v d
 |.blt=>mg x=none
 |.dct ks ds=>ZaM w.params K mg x ks ds
 |.cls i ms subs=>mg x=some (.ref (ClsTab.ca i))∧NewOk K (ClsTab.ca i)∧(∀ i',subs.contains i'=true→SubOk K (ClsTab.ca i') (ClsTab.ca i)) ∧
   ∀ m j ps,ms.lookup m=some (j,ps)→∃ (k:Nat) (f:Addr) (fd:FuncData) (pn:List Str),FnOk P w K mg base CX0 k f fd pn (spD K (F j))∧Room k A∧Meth K (ClsTab.ca i) m f∧Binds K fd pn []
 |.fn i ps ds=>∃ (k:Nat) (f:Addr) (fd:FuncData) (pn:List Str),FnOk P w K mg base CX0 k f fd pn (spD K (F i))∧Room k A∧mg x=some (.ref f)∧PySem.W.keepIn K (.ref f)=true ∧
   ∀ m,m≤ds.length→∃ dvs us,(∀ ad H,Dens K ad H dvs (ds.drop m))∧Vals dvs us∧Binds K fd pn us
structure Cxt(X:Cx)(G:Gs)(F:Nat→Fn)(sc:Scope)(N:List Str):Prop where
 hN:X.N=N
 vis:∀ x,WE sc x=true→Vis X.env.scope x
 glb:∀ x,Z2 sc x=true→Gl X x
 calm:X.calm=true
 hu:X.A.units+64 < cLine
 gl:∀ x g,G.lookup x=some g→GOk X.prog X.w X.K X.mg X.base X.A F x g
 cel:∀ x,VN sc x=true→X.env.scope.names.lookup x=some .cell∨X.env.scope.names.lookup x=some .free
 nx:X.xe=fun _ _=>False
theorem Wn{N:List Str}{x:Str}{i:Nat}(h:N.idxOf? x=some i):N[i]?=some x:=by
 unfold List.idxOf? at h
 rw[List.findIdx?_eq_some_iff_getElem]at h;obtain⟨hi,h1,_⟩:=h;rw[List.getElem?_eq_getElem hi];rw[beq_iff_eq.mp h1]
theorem Qn{sc:Scope}{x:Str}(h:WE sc x=true):(x==("__debug__":Str))=false∧(x==("__classdict__":Str))=false:=by
 unfold WE at h;rw[Bool.and_eq_true,Bool.and_eq_true,Bool.not_eq_true',Bool.not_eq_true']at h;exact h.1
theorem VJ{sc:Scope}{x:Str}(h:Z2 sc x=true):(x==("__debug__":Str))=false:=by
 unfold Z2 at h;rw[Bool.and_eq_true,Bool.not_eq_true']at h;exact h.1
section
variable {X:Cx}{F:Nat→Fn}
theorem Zi0{e:Expr}{f:Ev}(h:PE X e (tE X.K f))(he:∀ whole,isTrue e X.env whole=(do let v ←whole;standAt e.pos;holding [v] (truthy v)):=by intro _;rfl):PT X e (tT X.K f):=V3 (pt_val h he) Zc7
theorem ZhE{c a b:Expr}{fc fa fb:Ev}{pos:Pos}(hc:PT X c (tT X.K fc))(ha:PT X a (tT X.K fa))(hb:PT X b (tT X.K fb)):PT X (.IfExp c a b pos) (tT X.K (XO fc fa fb)):=by
 intro pins s σ H Q I h;obtain⟨ad,ρ,st,d,st',E,S,e,p⟩:=h;obtain⟨k,st1,q,e⟩:=YQ e;show wpAny _ _ (isTrue c X.env (eval c X.env) >>= fun t=>if t then isTrue a X.env (eval a X.env) else isTrue b X.env (eval b X.env)) _ _ s
 refine wpAny_bind (thn (hc pins s σ H (fun k' H1=>k'=k∧∃ ad1,Ext ad H ad1 H1∧StOk X.K ad1 H1 st1) I ⟨ad,ρ,st,k,st1,E,S,q,fun ad1 H1 x1 S1=>⟨rfl,ad1,x1,S1⟩⟩) fun t s1 ⟨H1,I1,et,ad1,x1,S1⟩=>?_)
 subst et;cases t with
 |true=>
  rw[if_pos rfl]at e ⊢;exact ha pins s1 σ H1 Q I1 ⟨ad1,ρ,st1,d,st',E.mono x1,S1,e,fun ad2 H2 x2 S2=>p ad2 H2 (x1.trans x2) S2⟩
 |false=>
  rw[if_neg Bool.false_ne_true]at e ⊢;exact hb pins s1 σ H1 Q I1 ⟨ad1,ρ,st1,d,st',E.mono x1,S1,e,fun ad2 H2 x2 S2=>p ad2 H2 (x1.trans x2) S2⟩
def Zes:CE→Prop
 |.anil=>True
 |.acons _ _=>True
 |_=>False
theorem Vi{c:CE}(h:Zes c){ρ:Env}{st st':Za}{d:D}(e:ev F c ρ st=some (d,st')):∃ ds,d=.tup ds∧ds.length≤1000:=by
 cases c with
 |anil=>cases e;exact⟨[],rfl,by decide⟩
 |acons a r=>
  have e:Y9 (ev F a) (ev F r) W5 ρ st=some (d,st'):=e;unfold Y9 at e;split at e
  ·split at e
   ·rename_i y st2 _
    cases y with
    |tup zs=>
     have e:(if zs.length < 1000 then some (D.tup (_ :: zs),st2) else none)=some (d,st'):=e
     split at e
     ·rename_i hz
      cases e;exact⟨_,rfl,hz⟩
     ·cases e
    |_=>simp[W5]at e
   ·cases e
  ·cases e
 |_=>exact False.elim h
structure SE(X:Cx)(F:Nat→Fn)(e:Expr)(c:CE):Prop where
 pe:PE X e (tE X.K (ev F c))
 pt:PT X e (tT X.K (ev F c))
theorem SE.of{e:Expr}{c:CE}(h:PE X e (tE X.K (ev F c)))(he:∀ whole,isTrue e X.env whole=(do let v ←whole;standAt e.pos;holding [v] (truthy v)):=by intro _;rfl):SE X F e c:=⟨h,Zi0 h he⟩
theorem JC{op:BoolOp}{es:List Expr}{pos:Pos}{t:TT}(h:PT X (.BoolOp op es pos) t):PW X (.BoolOp op es pos) t:=fun _ pins s σ H Q I q=>h pins s σ H Q I q
end
section
variable {ad:List Addr}{H:Hp}{p:Addr}{o:HO}
variable (ho:∀ kvs,o≠.dT kvs)
include ho
end
section
variable {X:Cx}{F:Nat→Fn}{pos:Pos}{f:Expr→Option CE}
end
end Dp



namespace Dp
open PySem PySem.Spec PyProof.Rows L2
variable [ClsTab]
theorem QV:bootBuiltins "tuple"=some (.type "tuple"):=by decide +kernel
theorem ZaS:bootBuiltins "list"=some (.type "list"):=by decide +kernel
theorem ZcA:bootBuiltins "int"=some (.type "int"):=by decide +kernel
theorem ZeO:bootBuiltins "bool"=some (.type "bool"):=by decide +kernel
theorem ZgT:bootBuiltins "str"=some (.type "str"):=by decide +kernel
theorem ZgR:bootBuiltins "min"=some (.builtin "min"):=by decide +kernel
theorem ZgQ:bootBuiltins "max"=some (.builtin "max"):=by decide +kernel
theorem Ug:bootBuiltins "isinstance"=some (.builtin "isinstance"):=by decide +kernel
theorem Zbz:bootBuiltins "sorted"=some (.builtin "sorted"):=by decide +kernel
theorem ZgP:bootBuiltins "len"=some (.builtin "len"):=by decide +kernel
section
variable {G:Gs}{F:Nat→Fn}
def ZG(G:Gs)(F:Nat→Fn)(n:Nat):Prop:=∀ X sc N,Cxt X G F sc N→∀ e c,cE G n sc N e=some c→SE X F e c
def Xg(G:Gs)(F:Nat→Fn)(n:Nat):Prop:=∀ X sc N,Cxt X G F sc N→∀ es c,cEs G n sc N es=some c→PA X es (tA X.K (ev F c))∧Zes c∧es.all Zt=true∧(es=[]→c=.anil)
def U5(G:Gs)(F:Nat→Fn)(n:Nat):Prop:=∀ X sc N,Cxt X G F sc N→∀ e c,cO G n sc N e=some c→PO X e (tO X.K (ev F c))

theorem Zea{X:Cx}{v:Const}{k:Nat}{pos:Pos}{c:CE}(h:CE.ofConst v=some c):SE X F (.Constant v k pos) c:=by
 cases v with
 |none=>cases h;exact .of (ZH pe_non (Jd fun _ _=>.non))
 |bool b=>cases h;exact .of (ZH pe_bl (Jd fun _ _=>.bl b))
 |int i=>cases h;exact .of (ZH pe_int (Jd fun _ _=>.int i))
 |str x=>cases h;exact .of (ZH pe_str (Jd fun _ _=>.str x))
 |_=>cases h
theorem ZfS{X:Cx}{sc:Scope}{N:List Str}{x:Str}{pos:Pos}{c:CE}(K:Cxt X G F sc N)(h:Zdo G sc N x=some c):SE X F (.Name x pos) c:=by
 unfold Zdo at h;split at h
 ·rename_i hl
  cases q:N.idxOf? x with
  |none=>rw[q]at h;cases h
  |some i=>
   rw[q]at h;cases h;obtain⟨h1,h2⟩:=Qn hl;exact .of (ZH (pe_var (i:=i) (by rw[K.hN];exact Wn q) (K.vis x hl) h1 h2) Zfj)
 ·split at h
  ·rename_i hg
   split at h
   ·rename_i d q
    cases h;obtain⟨v,u,hm,r,hd⟩:=K.gl x _ q;exact .of (ZH (pe_glob (K.glb x hg) hm r (VJ hg)) (Jd hd))
   ·cases h
  ·cases h
theorem pa1{X:Cx}{a:Expr}{t:TE}(hp:Zt a=true)(ha:PE X a t):PA X [a] (tCons t tNil):=pa_cons ha pa_nil (Zm hp)
theorem pa2{X:Cx}{a b:Expr}{t u:TE}(hp:Zt a=true)(hq:Zt b=true)(ha:PE X a t)(hb:PE X b u):PA X [a,b] (tCons t (tCons u tNil)):=pa_cons ha (pa1 hq hb) (Zm hp)
theorem ZfM{X:Cx}{sc:Scope}{N:List Str}{f:Str}{a:Expr}{x c:CE}{p pos:Pos}(K:Cxt X G F sc N)(hg:Z2 sc f=true)(hm:X.mg f=none)(hp:Zt a=true)(A:PE X a (tE X.K (ev F x)))(h:ZgN f x=some c) :
  PE X (.Call (.Name f p) [a] [] pos) (tE X.K (ev F c)):=by 
 have hG:=K.glb f hg;unfold ZgN at h;split at h
 ·rename_i e;subst e;cases h
  exact ZH (pe_callB ZbF hG hm ZgP (pa1 hp A) (by decide) (by decide) (Zm hp) rfl) WD
 ·split at h
  ·rename_i e;subst e;cases h
   exact ZH (pe_callTy QY hG hm QV (pa1 hp A) (by decide) (by decide) (Zm hp) rfl) WD
  ·split at h
   ·rename_i e;subst e;cases h
    exact ZH (pe_callTy J7 hG hm ZaS (pa1 hp A) (by decide) (by decide) (Zm hp) rfl) WD
   ·split at h
    ·rename_i e;subst e;cases h
     exact ZH (pe_callTy ZbE hG hm ZcA (pa1 hp A) (by decide) (by decide) (Zm hp) rfl) WD
    ·cases h
theorem Zff{K:PySem.W.Frag}{F:Nat→Fn}{fa:Ev}(σ:L2.St)(H:Hp)(Q:VK)(h:tE K (Yf fa (rsD false)) σ H Q):Zjd K (tE K fa) (tE K (ev F (.neg (.cst (.int 1))))) σ H Q:=by
 obtain⟨ad,ρ,st,d,st',E,S,e,p⟩:=h;unfold Yf at e;split at e
 ·rename_i x st1 q1
  refine⟨ad,ρ,st,x,st1,E,S,q1,fun v1 ad1 H1 x1 S1 d1=>⟨ad1,ρ,st1,.int (-1),st1,E.mono x1,S1,rfl,fun v2 ad2 H2 x2 S2 d2=>⟨d2.ofInt,?_⟩⟩⟩
  unfold rsD at e;split at e
  ·split at e
   ·rename_i c zs q0
    cases e;obtain⟨a,rfl,ha⟩:=(d1.mono x2).ofLst;obtain⟨ys,rr,sq⟩:=S2.list ha q0;refine⟨a,ys,rfl,sq,fun l hl=>p.later (x1.trans x2) _ (ad2++[l]) _ (Ext.push hl) (S2.push hl (Q6 rr)) (.newL ?_)⟩
    rw[←S2.len];exact ZP
   ·cases e
  ·cases e
 ·cases e
theorem ZgM{X:Cx}{b:Expr}{pos:Pos}(hq:Zt b=true):(backTo pos (starEach [b] X.env)).any (·.1)=false:=WO (by rw[List.all_cons,hq];rfl)
theorem ZfN{X:Cx}{sc:Scope}{N:List Str}{f:Str}{a b:Expr}{x y c:CE}{p pos:Pos}(K:Cxt X G F sc N)(hg:Z2 sc f=true)(hm:X.mg f=none)(hp:Zt a=true)(hq:Zt b=true)(A:PE X a (tE X.K (ev F x)))(B:PE X b (tE X.K (ev F y)))(h:ZgO f x y=some c):PE X (.Call (.Name f p) [a,b] [] pos) (tE X.K (ev F c)):=by
 have hG:=K.glb f hg;unfold ZgO at h;split at h
 ·rename_i e;subst e;cases h
  exact ZH (pe_callB (ZbH K.calm) hG hm ZgR (pa2 hp hq A B) (by decide) (by decide) (Zm hp) (ZgM hq)) Jc
 ·split at h
  ·rename_i e;subst e;cases h
   exact ZH (pe_callB (ZbG K.calm) hG hm ZgQ (pa2 hp hq A B) (by decide) (by decide) (Zm hp) (ZgM hq)) Jc
  ·cases h
theorem Ze7{K:PySem.W.Frag}{T:Ty}{fa:Ev}(σ:L2.St)(H:Hp)(Q:VK)(h:tE K (Yf fa (Zaf T)) σ H Q) :
  tCB (fun vs H Q=>∃ v,vs=[v,.ty (tyN T)]∧rC K (on1 (Zaf T)) [v] H Q) (tCons (tE K fa) (tCons (tC (.ty (tyN T))) tNil)) σ H Q:=by
 obtain⟨ad,ρ,st,d,st',E,S,e,p⟩:=h;unfold Yf at e;split at e
 ·rename_i x st1 q1
  exact⟨ad,ρ,st,x,st1,E,S,q1,fun v1 ad1 H1 x1 S1 d1=>⟨v1,rfl,ad1,st1,[x],d,st',S1,.cons d1 .nil,e,p.later x1⟩⟩
 ·cases e
theorem Zep{X:Cx}{sc:Scope}{N:List Str}{b:Expr}{T:Ty}(K:Cxt X G F sc N)(h:Zbp G sc b=some T):Zt b=true∧PE X b (tC (.ty (tyN T))):=by
 cases b with
 |Name t p=>
  have h2:Zh3 G sc t=some T:=h;clear h;unfold Zh3 at h2;split at h2
  ·rename_i hg
   rw[Bool.and_eq_true]at hg;have hm:X.mg t=none:=by
    have z:=hg.2;unfold Za3 at z;split at z
    ·rename_i q;exact K.gl t _ q
    ·cases z
   have hG:=K.glb t hg.1;refine⟨rfl,?_⟩;unfold Zji at h2;split at h2
   ·rename_i e;subst e;cases h2
    exact pe_bltn hG hm ZcA rfl
   ·split at h2
    ·rename_i e;subst e;cases h2
     exact pe_bltn hG hm ZeO rfl
    ·split at h2
     ·rename_i e;subst e;cases h2
      exact pe_bltn hG hm ZgT rfl
     ·split at h2
      ·rename_i e;subst e;cases h2
       exact pe_bltn hG hm QV rfl
      ·cases h2
  ·cases h2
 |_=>simp[Zbp]at h
theorem ZhM{X:Cx}{sc:Scope}{N:List Str}{a b:Expr}{x:CE}{T:Ty}{p pos:Pos}(K:Cxt X G F sc N)(hg:Z2 sc "isinstance"=true)(hm:X.mg "isinstance"=none)(hp:Zt a=true)(A:PE X a (tE X.K (ev F x)))(hT:Zbp G sc b=some T) :
  PE X (.Call (.Name "isinstance" p) [a,b] [] pos) (tE X.K (ev F (.isi T x))):=by
 obtain⟨hq,B⟩:=Zep K hT;exact ZH (pe_callB (ZcE (T:=T)) (K.glb _ hg) hm Ug (pa2 hp hq A B) (by decide) (by decide) (Zm hp) (ZgM hq)) Ze7
theorem ZfP{X:Cx}{sc:Scope}{N:List Str}{f:Str}{as:List Expr}{cs:CE}{i ps:Nat}{ds:List D}{p pos:Pos}(K:Cxt X G F sc N)(hg:Z2 sc f=true)(hG:G.lookup f=some (.fn i ps ds))(hl:as.length≤ps∧ps≤as.length+ds.length)(A:PA X as (tA X.K (ev F cs))∧Zes cs∧as.all Zt=true∧(as=[]→cs=.anil)):PE X (.Call (.Name f p) as [] pos) (tE X.K (ev F (.call i cs (ds.drop (as.length+ds.length - ps))))):=by
 obtain⟨k,fa,fd,pn,Fk,hr,hm,hk,hb⟩:=K.gl f _ hG;obtain⟨dvs,us,hd,hv,hbn⟩:=hb (as.length+ds.length - ps) (by omega)
 obtain⟨PAs,_,hp,hn⟩:=A;cases as with
 |nil=>
  refine ZH (pe_call0 (E:=E0) Fk hr (K.glb f hg) hm hk hbn hv pass0 (VJ hg)) fun σ H Q h=>?_
  rw[hn rfl]at h;exact VM σ H _ (Je (E:=E0) hd σ H Q h)
 |cons e es=>
  rw[List.all_cons,Bool.and_eq_true]at hp;exact ZH (pe_call (E:=E0) Fk hr (K.glb f hg) hm hk hbn hv pass0 PAs (VJ hg) (Zm hp.1) (WO hp.2)) (Je hd)
theorem Qe{X:Cx}{sc:Scope}{N:List Str}{nm:Str}{b:Expr}{as:List Expr}(K:Cxt X G F sc N)(h:fnA G sc nm b=some as):∃ p pos,b=.Call (.Name nm p) as [] pos∧Gl X nm∧X.mg nm=none:=by
 obtain⟨q,h1,h2⟩:=Option.bind_eq_some_iff.mp h;refine VY h2 fun hc h3=>?_
 obtain⟨rfl,hg,hb⟩:=hc;cases h3;unfold Zgm at h1;split at h1
 ·cases h1
  refine⟨_,_,rfl,K.glb _ hg,?_⟩;unfold Za3 at hb;split at hb
  ·rename_i q;exact K.gl _ _ q
  ·cases hb
 ·cases h1
theorem Zbb{as:List Expr}{a:Expr}(h:Zhv as=some a):as=[a]:=by
 cases as with
 |nil=>cases h
 |cons x as=>cases as with
  |nil=>cases h;rfl
  |cons _ _=>cases h
theorem Ur{X:Cx}{sc:Scope}{N:List Str}{b e:Expr}(K:Cxt X G F sc N)(h:Yr G sc b=some e):∃ p pos,b=.Call (.Name "range" p) [e] [] pos∧Gl X "range"∧X.mg "range"=none:=by
 obtain⟨as,h1,h2⟩:=Option.bind_eq_some_iff.mp h;rw[Zbb h2]at h1;exact Qe K h1
theorem ZhK{X:Cx}{sc:Scope}{N:List Str}{a b e:Expr}{x y:CE}{op:CmpOp}{ng:Bool}{pos:Pos}(K:Cxt X G F sc N)(hb:Yr G sc b=some e)(hg:Zhf op=some ng)(hp:Zt e=true)(A:PE X a (tE X.K (ev F x)))(B:PE X e (tE X.K (ev F y))):SE X F (.Compare a [op] [b] pos) (.inR ng x y):=by cases hg
theorem ZhP{X:Cx}{sc:Scope}{N:List Str}{f:Str}{a e:Expr}{o:Option CE}{c:CE}{p pos:Pos}(K:Cxt X G F sc N)(hg:Z2 sc f=true)(hm:X.mg f=none)(hb:ZaJ G sc f a=some e)(B:∀ c,o=some c→Zt e=true∧PE X e (tE X.K (ev F c)))(h:o.map CE.tupR=some c):SE X F (.Call (.Name f p) [a] [] pos) c:=by cases hb
theorem Zaw{X:Cx}{e e':Expr}{te te':TE}{p pos:Pos}{pins:List (Addr×Obj)}{s:Shared}{σ:L2.St}{H:Hp}{Qv:Value→Shared→Prop}(hg:Gl X "range")(hm:X.mg "range"=none)(hp:Zt e=true)(hp':Zt e'=true)(he:PE X e te)(he':PE X e' te')(I:L2.Inv X pins σ H s)(h:tCons te (tCons te' tNil) σ H fun vs H1=>∃ a b:Int,vs=[.int a,.int b]∧∀ s2 r t u v,L2.Inv X pins σ H1 s2→IsRange s2.heap r a b 1 t u v→Qv (.ref r) s2):wpAny (model X.prog X.w) X.A (eval (.Call (.Name "range" p) [e,e'] [] pos) X.env) Qv X.xe s:=by
 have hs2:starEach [e'] X.env=[(false,eval e' X.env)]:=Zm hp';have hs:starEach [e,e'] X.env=[(false,eval e X.env),(false,eval e' X.env)]:=by rw[Zm hp,hs2]
 refine Call_ (ld_blt I hg hm boot_range (PyProof.Rows.callWith_type1 (thn (pa2 hp hp' he he' pos pins s σ H _ I h) fun us s1 ⟨vs,H1,I1,r1,q1⟩=>?_) (by rw[hs,hs2]) (by rw[hs2];rfl)))
 obtain⟨a,b,rfl,q⟩:=q1;cases r1 with
 |cons r rr=>
  cases rr with
  |cons r' rr=>
   cases rr;obtain⟨t,rfl⟩:=r;obtain⟨t',rfl⟩:=r';exact call_range_2 (q _ _ _ _ _ (I1.kept (t':=_) fun b o e=>Heap.get?_push_of_some _ e) (IsRange.new ..))
theorem Zan{fx fy:Ev}{ρ:Env}{st st':Za}{d:D}(e:Y9 fx fy Jn ρ st=some (d,st')):∃ a b st1 st2,fx ρ st=some (.int a,st1)∧fy ρ st1=some (.int b,st2)∧(YA a b 1=true∧b - a≤1000)∧d=.lst st2.length∧st'=st2++[(true,(Xn a b 1).map .int)]:=by
 unfold Y9 at e;split at e
 ·rename_i dx st1 q1
  split at e
  ·rename_i dy st2 q2
   unfold Jn at e;split at e
   ·split at e
    ·rename_i c
     cases e;exact⟨_,_,_,_,q1,q2,c,rfl,rfl⟩
    ·cases e
   ·cases e
  ·cases e
 ·cases e
theorem Zau{a b:Int}(h:YA a b 1=true):Builtin.Range.rangeSize a b 1=((Xo a b 1:Nat):Int)∧Builtin.Range.small a b 1=true∧((Xo a b 1:Nat):Int)=if a < b then b - a else 0:=by
 have h:=of_decide_eq_true h;obtain⟨⟨h1,h2⟩,⟨h3,h4⟩,h5⟩:=h;unfold Xo Builtin.Range.small Builtin.Range.rangeSize;simp only[Builtin.Range.rangeFitsLong,Bool.and_eq_true,Bool.or_eq_true,decide_eq_true_eq,beq_iff_eq,gt_iff_lt,Int.neg_neg,Int.ediv_one];refine⟨?_,?_,?_⟩
 ·split
  ·split<;>omega
  ·split<;>omega
 ·refine⟨⟨by omega,?_⟩,.inr ?_⟩
  ·constructor
   ·repeat' split
    all_goals omega
   ·repeat' split
    all_goals omega
  ·simp
   omega
 ·split
  ·split<;>omega
  ·omega
theorem Vc{a:Int}:∀ {m k:Nat}{us:List Value},us.length=m→(∀ (i:Nat) v,us[i]?=some v→∃ t,v=.int (a+((k+i:Nat):Int) * 1) t)→Vals ((List.range' k m).map fun(k:Nat)=>V.int (a+(k:Int) * 1)) us
 |0,k,us,hl,h=>by
  cases us with
  |nil=>exact .nil
  |cons _ _=>cases hl
 |m+1,k,us,hl,h=>by
  cases us with
  |nil=>cases hl
  |cons u us=>
   obtain⟨t,rfl⟩:=h 0 u rfl;refine .cons ⟨t,rfl⟩ (Vc (k:=k+1) (Nat.succ.inj hl) fun i v e=>?_)
   obtain⟨t,q⟩:=h (i+1) v e;exact⟨t,by rw[q,show k+1+i=k+(i+1) by omega]⟩
theorem Vb{K:PySem.W.Frag}{ad:List Addr}{H:Hp}{a:Int}:∀ l:List Nat,Dens K ad H (l.map fun(k:Nat)=>V.int (a+(k:Int) * 1)) ((l.map fun(k:Nat)=>a+(k:Int) * 1).map D.int)
 |[]=>.nil
 |k :: l=>.cons (.int _) (Vb l)
theorem Zga{as:List Expr}{p:Expr×Expr}(h:Zjh as=some p):as=[p.1,p.2]:=by
 cases as with
 |nil=>cases h
 |cons x as=>cases as with
  |nil=>cases h
  |cons y as=>cases as with
   |nil=>cases h;rfl
   |cons _ _=>cases h
theorem ZgS:bootBuiltins "set"=some (.type "set"):=by decide +kernel
def Zec(X:Cx)(r:Addr)(ks:List Int):Heap→Prop:=fun h=>SetK X.prog X.w h r ks
def Zi4(X:Cx):List V→Hp→VK→Prop:=fun vs H Q=>∃ (l:Addr) (i j k:Int),vs=[.ref l]∧H l=some (.lst [.int i,.int j,.int k])∧∀ (r:Addr) (ks:List Int),H r=none→(∀ q,q∈ks↔q∈[i,j,k])→Q (.ref r) (upd H r (.ext (Zec X r ks)))
def Zi5(X:Cx):List V→Hp→VK→Prop:=fun vs H Q=>∃ (r:Addr) (ks:List Int),vs=[.ref r]∧H r=some (.ext (Zec X r ks))∧∀ (D:Addr) (ms:List Int),H D=none→(∀ q,q∈ms↔q∈ks)→ms.Nodup→ms.Pairwise (·≤·)→Q (.ref D) (upd H D (.lst (ms.map V.int)))
theorem ZbI{X:Cx}(hh:X.A.handled=none):CallR X (.type "set") (Zi4 X):=by
 intro pins s σ H xs us Q I r h;obtain⟨l,i,j,k,rfl,hl,q⟩:=h;obtain⟨u,rfl,ru⟩:=r.one;cases ru;obtain⟨_,its,n,rv,g⟩:=(show ObjOk X.prog X.w H s.heap l (.lst [.int i,.int j,.int k]) from I.hok l _ hl);cases rv with
 |cons r1 rv=>
 cases rv with
 |cons r2 rv=>
 cases rv with
 |cons r3 rv=>
 cases rv;obtain⟨t1,rfl⟩:=r1;obtain⟨t2,rfl⟩:=r2;obtain⟨t3,rfl⟩:=r3;refine callK (ns:=[i,j,k]) hh ⟨_,g,rfl,n,rfl⟩ (.cons i t1 (.cons j t2 (.cons k t3 .nil))) (Nat.le_refl 3) fun s1 ⟨h1,tk1,ks,e1,S,hq,kp⟩=>?_
 subst e1;have fr:H s.heap.objs.size=none:=I.hok.fresh (Nat.le_refl _);have at1:∃ o,h1.get? s.heap.objs.size=some o:=let ⟨_,_,_,x,_⟩:=S;⟨_,x.at_⟩
 refine⟨.ref s.heap.objs.size,_,I.laid (t':=tk1) (o:=.ext (Zec X s.heap.objs.size ks)) (fun b u e=>kp b u (Heap.lt_size e) e) (Nat.le_refl _) ⟨S,at1,fun h2 h3 S2 k2=>S2.at k2⟩,rfl,q _ ks fr fun z=>?_⟩
 rw[hq];constructor
 ·rintro⟨m,h1,h2⟩
  match m,h1 with
  |0,_=>exact h2 ▸ (by simp)
  |1,_=>exact h2 ▸ (by simp)
  |2,_=>exact h2 ▸ (by simp)
 ·intro hz
  simp only[List.mem_cons,List.not_mem_nil,or_false]at hz;rcases hz with rfl|rfl|rfl
  ·exact⟨0,(show(0:Nat) < 3 by decide),rfl⟩
  ·exact⟨1,(show(1:Nat) < 3 by decide),rfl⟩
  ·exact⟨2,(show(2:Nat) < 3 by decide),rfl⟩
theorem ZbJ{X:Cx}(hh:X.A.handled=none):CallR X (.builtin "sorted") (Zi5 X):=by
 intro pins s σ H xs us Q I r h;obtain⟨a,ks,rfl,ha,q⟩:=h;obtain⟨u,rfl,ru⟩:=r.one;cases ru;have S:SetK X.prog X.w s.heap a ks:=(show ObjOk X.prog X.w H s.heap a (.ext (Zec X a ks)) from I.hok a _ ha).1;have nd:ks.Nodup:=let ⟨_,_,_,_,_,_,_,_,n⟩:=S;n
 have le:ks.length≤sizeLine:=by
  obtain⟨es,_,_,x,_,_,_,⟨tks,h1,h2⟩,_⟩:=S;have:=congrArg List.length h2;simp only[List.length_map,List.length_zip,Array.length_toList]at this;have:=x.few;unfold sizeLine;omega
 refine sortK hh S fun h0 h' tk D out e ms k0 k1 lt hD i1 p1 o1=>?_
 have I0:Inv X pins σ H { s with heap:=h0,toks:=s.toks }:=I.kept (t':=s.toks) k0
 have fr:H D=none:=I0.hok.fresh lt;exact⟨.ref D,_,I0.laid (t':=tk) (o:=.lst (ms.map V.int)) k1 lt ⟨by rw[List.length_map,p1.length_eq];exact le,out.toList,e,UM i1,hD⟩,rfl,q D ms fr (fun z=>p1.mem_iff) (p1.nodup_iff.mpr nd) o1⟩
theorem ZhZ{i j k:Int}{l ms:List Int}(h:Us i j k=some l)(hm:∀ q,q∈ms↔q∈[i,j,k])(nd:ms.Nodup)(o:ms.Pairwise (·≤·)):ms=l:=by
 have ol:l.Pairwise (· < ·)∧∀ q,q∈l↔q∈[i,j,k]:=by
  unfold Us at h;split at h
  ·rename_i c
   cases h;split
   ·split
    ·exact⟨by simp,fun q=>by simp;omega⟩
    ·exact⟨by simp;omega,fun q=>by simp;omega⟩
   ·split
    ·exact⟨by simp;omega,fun q=>by simp;omega⟩
    ·exact⟨by simp;omega,fun q=>by simp⟩
  ·cases h
 have om:ms.Pairwise (· < ·):=(o.and nd).imp fun⟨a,b⟩=>by omega
 have two:∀ {a b:List Int},a.Pairwise (· < ·)→b.Pairwise (· < ·)→(∀ q,q∈a↔q∈b)→a=b:=fun {a}=>by
  induction a with
  |nil=>
   intro b _ _ h;cases b with
   |nil=>rfl
   |cons y b=>exact absurd ((h y).mpr List.mem_cons_self) List.not_mem_nil
  |cons x a ih=>
   intro b ha hb h;cases b with
   |nil=>exact absurd ((h x).mp List.mem_cons_self) List.not_mem_nil
   |cons y b=>
    have pa:=List.pairwise_cons.mp ha;have pb:=List.pairwise_cons.mp hb;have hxy:x=y:=by
     rcases List.mem_cons.mp ((h x).mp List.mem_cons_self) with e|e
     ·exact e
     ·rcases List.mem_cons.mp ((h y).mpr List.mem_cons_self) with e2|e2
      ·exact e2.symm
      ·have:=pa.1 y e2
       have:=pb.1 x e;omega
    subst hxy
    congr 1
    refine ih pa.2 pb.2 fun q=>?_
    have hq:=h q;simp only[List.mem_cons]at hq;constructor
    ·intro z
     have:=pa.1 q z;rcases hq.mp (.inr z) with e|e
     ·omega
     ·exact e
    ·intro z
     have:=pb.1 q z;rcases hq.mpr (.inr z) with e|e
     ·omega
     ·exact e
 exact two om ol.1 fun q=>(hm q).trans (ol.2 q).symm
theorem Zfh{X:Cx}{fa:Ev}(hb:∀ ρ st ds st',fa ρ st=some (.tup ds,st')→ds.length≤1000)(σ:L2.St)(H:Hp)(Q:VK)(h:tE X.K (Yf fa Zef) σ H Q):tCB (Zi5 X) (tCons (tCB (Zi4 X) (tCons (tLst (tA X.K fa)) tNil)) tNil) σ H Q:=by
 obtain⟨ad,ρ,st,d,st',E,S,e,p⟩:=h;unfold Yf at e;split at e
 ·rename_i x st1 q1
  unfold Zef at e;split at e
  ·rename_i i j k
   split at e
   ·rename_i l hl
    cases e;refine⟨ad,ρ,st,_,st1,E,S,q1,fun vs ad1 H1 x1 S1 d1=>⟨?_,fun a ha=>?_⟩⟩
    ·rw[d1.length]
     exact Nat.le_trans (hb _ _ _ _ q1) (by decide)
    ·cases d1 with
     |cons e1 d1=>
     cases d1 with
     |cons e2 d1=>
     cases d1 with
     |cons e3 d1=>
     cases d1;cases e1;cases e2;cases e3;refine⟨a,i,j,k,rfl,upd_same,fun r ks hr hk=>⟨r,ks,rfl,upd_same,fun Da ms hD hm nd o=>?_⟩⟩
     have em:=ZhZ hl (fun q=>(hm q).trans (hk q)) nd o
     subst em;have S2:=((S1.laid ha (o:=.lst [V.int i,.int j,.int k])).laid hr (o:=.ext (Zec X r ks)));have dd:∀ {ad:List Addr}{H:Hp} (l:List Int),Dens X.K ad H (l.map V.int) (l.map D.int):=fun {ad H} l=>by
      induction l with
      |nil=>exact .nil
      |cons q l ih=>exact .cons (.int q) ih
     refine p _ (ad1++[Da]) _ (x1.trans ((Ext.laid ha).trans ((Ext.laid hr).trans (Ext.push hD)))) (S2.push hD (dd ms)) (.newL ?_);rw[←S1.len];exact ZP
   ·cases e
  ·cases e
 ·cases e
theorem ZhN{X:Cx}{sc:Scope}{N:List Str}{f:Str}{a:Expr}{q:Expr×Expr×Expr}{x y z:CE}{p pos:Pos}(K:Cxt X G F sc N)(hg:Z2 sc f=true)(hm:X.mg f=none)(hs:QF G sc f a=some q)(h1:Zt q.1=true)(h2:Zt q.2.1=true)(h3:Zt q.2.2=true)(A:PE X q.1 (tE X.K (ev F x)))(B:PE X q.2.1 (tE X.K (ev F y)))(C:PE X q.2.2 (tE X.K (ev F z))) :
  PE X (.Call (.Name f p) [a] [] pos) (tE X.K (ev F (.srt (.acons x (.acons y (.acons z .anil)))))):=by
 unfold QF at hs;split at hs
 ·rename_i hf
  subst hf;obtain⟨as,e1,e2⟩:=Option.bind_eq_some_iff.mp hs;obtain⟨pg,pos',rfl,hg1,hm1⟩:=Qe K e1;obtain⟨lp,rfl⟩:∃ lp,as=[.List [q.1,q.2.1,q.2.2] lp]:=by
   unfold Zeh at e2;split at e2
   ·cases e2;exact⟨_,rfl⟩
   ·cases e2
  have P0:PA X [q.1,q.2.1,q.2.2] (tA X.K (ev F (.acons x (.acons y (.acons z .anil))))):=WY (pa_cons A (WY (pa_cons B (WY (pa_cons C (WY pa_nil VM) (Zm h3)) X7) (Zm h2)) X7) (Zm h1)) X7;intro pins s σ H Q I h;have hh:=I.ok.hd K.calm;exact ZH (pe_callB (ZbJ hh) (K.glb _ hg) hm Zbz (pa1 rfl (pe_callTy (ZbI hh) hg1 hm1 ZgS (pa1 rfl (pe_lst P0)) (by decide) (by decide) (Zm rfl) rfl)) (by decide) (by decide) (Zm rfl) rfl)
   (Zfh fun ρ st ds st' e=>by obtain⟨ds',z',hz⟩:=Vi (c:=.acons x (.acons y (.acons z .anil))) trivial e;cases z';exact hz) pins s σ H Q I h
 ·cases hs
theorem ZfR{X:Cx}{sc:Scope}{N:List Str}{f:Str}{a u v:Expr}{x y:CE}{p pos:Pos}(K:Cxt X G F sc N)(hg:Z2 sc f=true)(hm:X.mg f=none)(hb:Qo G sc f a=some (u,v))(hu:Zt u=true)(hv:Zt v=true)(A:PE X u (tE X.K (ev F x)))(B:PE X v (tE X.K (ev F y))):PE X (.Call (.Name f p) [a] [] pos) (tE X.K (ev F (.lstR x y))):=by
 unfold Qo at hb;split at hb
 ·rename_i hf
  subst hf;obtain⟨as,h1,h2⟩:=Option.bind_eq_some_iff.mp hb;obtain⟨pg,pos',rfl,hg1,hm1⟩:=Qe K h1;cases Zga h2
  ·intro pins s σ H Q I h
   obtain⟨ad,ρ,st,d,st',En,S,e1,pq⟩:=h;obtain⟨a,b,st1,st2,q1,q2,hn,rfl,rfl⟩:=Zan e1;obtain⟨z1,z2,z3⟩:=Zau hn.1;have hs:starEach [.Call (.Name "range" pg) [u,v] [] pos'] X.env=[(false,eval (.Call (.Name "range" pg) [u,v] [] pos') X.env)]:=Zm rfl;refine Call_ (ld_blt I (K.glb _ hg) hm ZaS (PyProof.Rows.callWith_type1 ?_ hs rfl));rw[hs];refine Calls.spliced_cons (Zaw hg1 hm1 hu hv A B I ⟨ad,ρ,st,_,st1,En,S,q1,fun v1 ad1 H1 x1 S1 d1=>⟨ad1,ρ,st1,_,st2,En.mono x1,S1,q2,fun v2 ad2 H2 x2 S2 d2=>⟨a,b,by rw[d1.ofInt,d2.ofInt],fun s2 r t u w I2 hr=>?_⟩⟩⟩)
   refine Calls.spliced_nil ?_;have hz:Xo a b 1≤1000:=by
    have:=hn.2;split at z3<;>omega
   refine call_list_range (n:=Xo a b 1) (I2.ok.hd K.calm) hr z2 z1 (by omega) fun h' tk acc c' hk hS hacc=>?_
   have hv:Vals ((List.range (Xo a b 1)).map fun(k:Nat)=>V.int (a+(k:Int) * 1)) acc.toList:=by
    rw[List.range_eq_range'];refine Vc (by rw[Array.length_toList,hacc.1]) fun i v e=>?_
    obtain⟨t,z⟩:=hacc.2 i v (by rw[←e];simp)
    exact⟨t,by rw[z];simp⟩
   have hf:=I2.hok.fresh (Nat.le_refl _);refine⟨.ref s2.heap.objs.size,upd H2 s2.heap.objs.size (.lst ((List.range (Xo a b 1)).map fun(k:Nat)=>V.int (a+(k:Int) * 1))),I2.laid (t':=tk) hk (Nat.le_refl _) (show ObjOk X.prog X.w _ _ _ (.lst _) from⟨?_,acc.toList,c',hv,?_⟩),rfl,pq _ (ad2++[s2.heap.objs.size]) _ ((x1.trans x2).trans (Ext.push hf)) (S2.push hf (Vb _)) (.newL ?_)⟩
   ·rw[List.length_map,List.length_range,sizeLine_eq];omega
   ·rw[Array.toArray_toList]
    exact hS
   ·rw[←S2.len]
    exact ZP
 ·cases hb
theorem ZfQ{X:Cx}{sc:Scope}{N:List Str}{a b:Expr}{y:CE}{ks:List Str}{ds:List D}{pos:Pos}(K:Cxt X G F sc N)(hn:Zdk G sc a=some (ks,ds))(hp:Zt b=true)(B:PE X b (tE X.K (ev F y))):PE X (.Subscript a b pos) (tE X.K (ev F (.look ks ds y))):=by cases hn
theorem ZhL{X:Cx}{sc:Scope}{N:List Str}{a b:Expr}{x:CE}{l:List Nat}{p pos:Pos}(K:Cxt X G F sc N)(hg:Z2 sc "isinstance"=true)(hm:X.mg "isinstance"=none)(hp:Zt a=true)(A:PE X a (tE X.K (ev F x)))(hT:J8 G sc b=some l) :
  PE X (.Call (.Name "isinstance" p) [a,b] [] pos) (tE X.K (ev F (.isc l x))):=by cases hT
section
open PySem.SeqAt PySem.MeetsSeq PySem.MeetsSeq2 PySem.MeetsSeq3 PySem.SeqRoads2
end
theorem Zfm{y:CE}(h:Zhi y=true):y=.neg (.cst (.int 1)):=by
 unfold Zhi at h;split at h
 ·rfl
 ·cases h
theorem ZaA{b:Expr}{p:Option Expr×Option Expr}(q:Vr b=some p):∃ p2,b=.Slice p.1 p.2 none p2:=by
 unfold Vr at q;split at q
 ·cases q;exact⟨_,rfl⟩
 ·cases q
theorem Zd0{b s:Expr}(q:Zbj b=some s):∃ p2,b=.Slice none none (some s) p2:=by
 unfold Zbj at q;split at q
 ·cases q;exact⟨_,rfl⟩
 ·cases q
theorem Zi8{X:Cx}{op:UnaryOp}{a:Expr}{o:Option CE}{c:CE}{pos:Pos}(A:∀ x,o=some x→SE X F a x)(h:unC op o=some c):SE X F (.UnaryOp op a pos) c:=by
 cases op with
 |Not=>exact Qt (P:=SE X F _) (show o.map CE.not=some c from h) fun x hx=>⟨ZH (pe_not (A x hx).pe) Zc4,V3 (pt_not (A x hx).pt) Zc3⟩
 |USub=>exact Qt (P:=SE X F _) (show o.map CE.neg=some c from h) fun x hx=>.of (ZH (pe_un Zgb (A x hx).pe) Zhe)
 |_=>cases h
section
variable {X:Cx}{sc:Scope}{N:List Str}{n:Nat}{c:CE} (K:Cxt X G F sc N) (hf:∀ e c,cE G n sc N e=some c→SE X F e c)
include K hf
theorem ZhJ{a:Expr}{ops:List CmpOp}{bs:List Expr}{pos:Pos}(h:Ziv G sc (cE G n sc N) (cE G n sc N a) ops bs=some c):SE X F (.Compare a ops bs pos) c:=by
 cases ops with
 |nil=>cases h
 |cons op ops=>cases bs with
  |nil=>cases ops with
   |nil=>cases h
   |cons _ r=>cases r<;>cases h
  |cons b bs=>cases ops with
   |nil=>cases bs with
    |cons _ _=>cases h
    |nil=>
     replace h:(match Yr G sc b with
      |some e=>o3 CE.inR (Zhf op) (cE G n sc N a) (cE G n sc N e)
      |none=>o2 (CE.cmp op) (cE G n sc N a) (cE G n sc N b))=some c:=h
     cases he:Yr G sc b with
     |some e=>
      rw[he]at h;exact Vh (P:=SE X F _) h fun ng x y hg hx hy=>ZhK K he hg (Zn hy) (hf a x hx).pe (hf e y hy).pe
     |none=>
      rw[he]at h;exact YT (P:=SE X F _) h fun x y hx hy=>⟨ZH (pe_cmpR (Zbd K.hu) (hf a x hx).pe (hf b y hy).pe (W9 (Zn hy))) Qg,V3 (pt_cmpR (Zbd K.hu) (hf a x hx).pe (hf b y hy).pe (W9 (Zn hy))) fun σ H Q q=>Qg σ H _ (Zc7 σ H Q q)⟩
   |cons op2 ops=>cases h
omit K in
theorem ZfO{op:BoolOp}{vs:List Expr}{pos:Pos}(h:Zgl (cE G n sc N) op pos vs=some c):SE X F (.BoolOp op vs pos) c:=by
 cases vs with
 |nil=>cases h
 |cons a r=>cases r with
  |nil=>
   have A:=hf a c h;refine⟨pe_one A.pe,?_⟩;cases op with
   |And=>exact(pw_and1 A.pt).pt
   |Or=>exact(pw_or1 A.pt).pt
  |cons b r=>cases op with
   |And=>exact YT (P:=SE X F _) (show o2 CE.and (cE G n sc N a) (cE G n sc N (.BoolOp .And (b :: r) pos))=some c from h) fun x y hx hy=>⟨ZH (pe_and (hf a x hx).pe (hf _ y hy).pe) ZcV,V3 (pw_and (hf a x hx).pt (JC (hf _ y hy).pt)).pt ZcU⟩
   |Or=>exact YT (P:=SE X F _) (show o2 CE.or (cE G n sc N a) (cE G n sc N (.BoolOp .Or (b :: r) pos))=some c from h) fun x y hx hy=>⟨ZH (pe_or (hf a x hx).pe (hf _ y hy).pe) Zfc,V3 (pw_or (hf a x hx).pt (JC (hf _ y hy).pt)).pt Zfb⟩
theorem ZhO(ihO:U5 G F n){a b:Expr}{pos:Pos}(h:Zh0 G sc (cE G n sc N) (cO G n sc N) a b=some c):SE X F (.Subscript a b pos) c:=by
 unfold Zh0 at h;cases q:Vr b with
 |some p=>
  obtain⟨lo,hi⟩:=p;rw[q]at h;obtain⟨p2,rfl⟩:=ZaA q;exact Vh (P:=SE X F _) h fun x l u hx hl hu=>.of (ZH (pe_slice Zk2 (hf a x hx).pe (ihO X sc N K lo l hl) (ihO X sc N K hi u hu)) ZbW)
 |none=>
  rw[q]at h;dsimp only at h;cases q':Zbj b with
  |some s=>
   rw[q']at h;obtain⟨p2,rfl⟩:=Zd0 q';exact j_e h fun h=>YT (P:=fun o=>o=some c→SE X F _ c) h (fun x y hx hy h=>VY h fun m1 h=>by
    cases h;rw[Zfm m1]at hy;exact .of (ZH (ZhB (hf a x hx).pe (hf s _ hy).pe) Zff)) rfl
  |none=>
   rw[q']at h;dsimp only at h;cases hn:Zdk G sc a with
   |some p=>
    obtain⟨ks,ds⟩:=p;rw[hn]at h;exact Qt (P:=SE X F _) h fun y hy=>.of (ZfQ K hn (Zn hy) (hf b y hy).pe)
   |none=>
    rw[hn]at h;exact YT (P:=SE X F _) h fun x y hx hy=>.of (ZH (pe_ix (Zj7 K.hu) (hf a x hx).pe (hf b y hy).pe (Zdc (Zn hy))) Qg)
theorem Zd7{f:Str}{a:Expr}{p pos:Pos}(hg:Z2 sc f=true)(hm:X.mg f=none)(h:Zcy G sc f a (cE G n sc N)=some c):SE X F (.Call (.Name f p) [a] [] pos) c:=by
 unfold Zcy at h;cases hs:QF G sc f a with
 |some q=>
  rw[hs]at h;exact Vh (P:=SE X F _) h fun x y z hx hy hz=>.of (ZhN K hg hm hs (Zn hx) (Zn hy) (Zn hz) (hf _ x hx).pe (hf _ y hy).pe (hf _ z hz).pe)
 |none=>
  rw[hs]at h;dsimp only at h;cases he:ZaJ G sc f a with
  |some e=>
   rw[he]at h;exact ZhP K hg hm he (fun c hc=>⟨Zn hc,(hf e c hc).pe⟩) h
  |none=>
   rw[he]at h;dsimp only at h;cases hl:Qo G sc f a with
   |some q=>
    obtain⟨u,v⟩:=q;rw[hl]at h;exact YT (P:=SE X F _) h fun x y hx hy=>.of (ZfR K hg hm hl (Zn hx) (Zn hy) (hf u x hx).pe (hf v y hy).pe)
   |none=>
    rw[hl]at h;exact j_e h fun h=>Qt (P:=fun o=>o=some c→SE X F _ c) h (fun x hx h=>.of (ZfM K hg hm (Zn hx) (hf a x hx).pe h)) rfl
theorem Zd8{f:Str}{a b:Expr}{p pos:Pos}(hg:Z2 sc f=true)(hm:X.mg f=none)(h:Zcz G sc f a b (cE G n sc N)=some c):SE X F (.Call (.Name f p) [a,b] [] pos) c:=by
 unfold Zcz at h;by_cases ei:f = "isinstance"
 ·subst ei
  rw[if_pos rfl]at h;cases hl:J8 G sc b with
  |some l=>
   rw[hl]at h;exact Qt (P:=SE X F _) h fun x q=>.of (ZhL K hg hm (Zn q) (hf a x q).pe hl)
  |none=>
   rw[hl]at h;exact YT (P:=SE X F _) h fun x T hx hT=>.of (ZhM K hg hm (Zn hx) (hf a x hx).pe hT)
 ·rw[if_neg ei]at h
  exact j_e h fun h=>YT (P:=fun o=>o=some c→SE X F _ c) h (fun x y hx hy h=>.of (ZfN K hg hm (Zn hx) (Zn hy) (hf a x hx).pe (hf b y hy).pe h)) rfl
theorem Zd9(ihA:Xg G F n){f:Str}{as:List Expr}{p pos:Pos}(h:ZcD G sc f as (cEs G n sc N as) (cE G n sc N)=some c):SE X F (.Call (.Name f p) as [] pos) c:=by
 unfold ZcD at h;cases hg:Z2 sc f with
 |false=>rw[hg]at h;cases h
 |true=>
 rw[hg,if_pos rfl]at h;cases hG:G.lookup f with
 |none=>rw[hG]at h;cases h
 |some g=>
  rw[hG]at h;cases g with
  |fn i ps ds=>exact VY h fun hl h=>Qt (P:=SE X F _) h fun cs hcs=>.of (ZfP K hg hG hl (ihA X sc N K as cs hcs))
  |blt=>
   have hm:X.mg f=none:=K.gl f _ hG;cases as with
   |nil=>cases h
   |cons a as=>cases as with
    |nil=>exact Zd7 K hf hg hm h
    |cons b as=>cases as with
     |nil=>exact Zd8 K hf hg hm h
     |cons _ _=>cases h
  |_=>cases h
theorem ZfL(ihA:Xg G F n){ob:Expr}{m:Str}{ap pos:Pos}{as:List Expr}(h:Zgk G ob m ap as pos (cEs G n sc N as) (cE G n sc N)=some c):SE X F (.Call (.Attribute ob m ap) as [] pos) c:=by
 cases ob with
 |_=>cases h
end
theorem ZaC{n:Nat}(ihE:ZG G F n)(ihA:Xg G F n)(ihO:U5 G F n)(hcomp:∀ X sc N,Cxt X G F sc N→∀ elt gens sc2 pos c,cE G (n+1) sc N (.ListComp elt gens sc2 pos)=some c→SE X F (.ListComp elt gens sc2 pos) c):ZG G F (n+1):=by
 intro X sc N K e c h;have hf:=ihE X sc N K;have no:∀ {P:Prop},(none:Option CE)=some c→P:=fun z=>nomatch z
 cases e with
 |Constant v k pos=>exact Zea h
 |Name x pos=>exact ZfS K h
 |BinOp a op b pos=>exact YT (P:=SE X F _) (show o2 (CE.bin op) (cE G n sc N a) (cE G n sc N b)=some c from h) fun x y hx hy=>.of (ZH (pe_op ZfA (hf a x hx).pe (hf b y hy).pe) Qg)
 |UnaryOp op a pos=>exact Zi8 (hf a) h
 |Compare a ops bs pos=>exact ZhJ K hf h
 |BoolOp op vs pos=>exact ZfO hf h
 |IfExp t a b pos=>exact Vh (P:=SE X F _) (show o3 CE.ife (cE G n sc N t) (cE G n sc N a) (cE G n sc N b)=some c from h) fun z x y hz hx hy=>⟨ZH (pe_ifExp (hf t z hz).pt (hf a x hx).pe (hf b y hy).pe) Zhd,ZhE (hf t z hz).pt (hf a x hx).pt (hf b y hy).pt⟩
 |Tuple es k pos=>
  refine Qt (P:=SE X F _) (show(cEs G n sc N es).map CE.tupE=some c from h) fun x q=>?_
  obtain⟨A,hA,_,_⟩:=ihA X sc N K es x q;exact .of (ZH (pe_tup A) (Zfi (fun ρ st ds st' e=>by obtain⟨ds',z,hz⟩:=Vi hA e;cases z;exact hz) fun ρ st d st' e=>by obtain⟨ds',z,hz⟩:=Vi hA e;exact⟨ds',z⟩))
 |List es pos=>
  refine Qt (P:=SE X F _) (show(cEs G n sc N es).map CE.lstE=some c from h) fun x q=>?_
  obtain⟨A,hA,_,_⟩:=ihA X sc N K es x q;exact .of (ZH (pe_lst A) (Ze9 fun ρ st ds st' e=>by obtain⟨ds',z,hz⟩:=Vi hA e;cases z;exact hz))
 |Subscript a b pos=>exact ZhO K hf ihO h
 |Call f as kws pos=>cases kws with
  |cons _ _=>exact no h
  |nil=>cases f with
   |Attribute ob m ap=>exact ZfL K hf ihA h
   |Name f p=>exact Zd9 K hf ihA h
   |_=>exact no h
 |ListComp elt gens sc2 pos=>exact hcomp X sc N K elt gens sc2 pos c h
 |_=>exact no h
theorem JJ{n:Nat}(ihE:ZG G F n)(ihA:Xg G F n):Xg G F (n+1):=by
 intro X sc N K es c h;cases es with
 |nil=>
  simp only[cEs]at h;cases h;exact⟨WY pa_nil VM,trivial,rfl,fun _=>rfl⟩
 |cons e es=>
  refine YT (P:=fun c=>PA X _ (tA X.K (ev F c))∧Zes c∧_∧(_→c=.anil)) (show o2 CE.acons (cE G n sc N e) (cEs G n sc N es)=some c from h) fun x r hx hr=>?_
  obtain⟨A,hA,hp,_⟩:=ihA X sc N K es r hr;exact⟨WY (pa_cons (ihE X sc N K e x hx).pe A (Zm (Zn hx))) X7,trivial,by rw[List.all_cons,hp,Zn hx];rfl,fun z=>nomatch z⟩
theorem JK{n:Nat}(ihE:ZG G F n):U5 G F (n+1):=by
 intro X sc N K e c h;cases e with
 |none=>
  simp only[cO]at h;cases h;exact ZdJ po_none Zfa
 |some e=>
  simp only[cO]at h;cases q:cE G n sc N e with
  |none=>rw[q]at h;cases h
  |some x=>
   rw[q]at h;cases h;refine ZdJ (po_some (ihE X sc N K e x q).pe) fun σ H Q hq=>?_
   obtain⟨ad,ρ,st,d,st',E,S,e1,p⟩:=hq;have e1:Yf (ev F x) Zbf ρ st=some (d,st'):=e1;unfold Yf at e1;split at e1
   ·rename_i y st1 q1
    cases y with
    |int i=>
     cases e1;rcases p with⟨z,_⟩|⟨j,z,p⟩
     ·cases z
     ·cases z
      exact⟨ad,ρ,st,.int i,_,E,S,q1,fun v ad' H' x S' d'=>⟨i,d'.ofInt,p ad' H' x S'⟩⟩
    |_=>simp[Zbf]at e1
   ·cases e1
end
end Dp



namespace Dp
open PySem PySem.Spec PyProof.Rows L2
variable [ClsTab]
theorem b_e{α β:Type}{P:Prop}{o:Option α}{f:α→Option β}{c:β}(h:o.bind f=some c)(k:∀ x,o=some x→f x=some c→P):P:=by
 cases o with
 |none=>cases h
 |some x=>exact k x rfl h
theorem Zgw{X:Cx}{s:Stmt}{t u:TS}(h1:PS X s t)(h2:PS X s u):PS X s (fun D σ H=>t D σ H∨u D σ H):=fun pins s σ H D I q=>q.elim (h1 pins s σ H D I) (h2 pins s σ H D I)
theorem Ve{e:Expr}{tg:Option Expr}{l:Nat}{env:PySem.Env}(h:XR e=false):swapsWith e tg l env=pure false:=by
 cases e<;>first|rfl|cases h
theorem Wt{e tg:Expr}{l:Nat}{env:PySem.Env}(h:XR e=false):swapsWithSole [tg] e l env=pure false:=Ve h
theorem JZ{o k:Expr}{p:Pos}{env:PySem.Env}(h:Zt k=true):∀ v,assign (.Subscript o k p) env v=(do
   let ov ←holding [v] (eval o env)
   let iv ←holding [v,ov] (eval k env)
   standAt p
   holding [v,ov,iv] (setItem ov iv v)
   release [v,ov,iv] []):=by
 cases k<;>first | (intro _;rfl)|cases h
theorem ZaE{o k e:Expr}{p:Pos}{env:PySem.Env}:swappedStores [.Subscript o k p] e env=pure none:=by
 cases e<;>rfl
theorem YI{e:Expr}{env:PySem.Env}(h:Zt e=true):∀ x,foldedSetIterable e env x=pure x:=by
 cases e<;>first | (intro _;rfl)|cases h
structure CxtS(X:Cx)(G:Gs)(F:Nat→Fn)(sc:Scope)(N:List Str):Prop extends Cxt X G F sc N where
 nd:N.Nodup
 loc:∀ x∈N,Loc X.env.scope x
 fn:∀ x,X.fn x=true
section
variable {G:Gs}{F:Nat→Fn}
def JU(G:Gs)(F:Nat→Fn)(n:Nat):Prop:=∀ X sc N,CxtS X G F sc N→∀ s c,cS G n sc N s=some c→PS X s (tS X.K (ex F c))
def Yz(G:Gs)(F:Nat→Fn)(n:Nat):Prop:=∀ X sc N,CxtS X G F sc N→∀ s c,cSs G n sc N s=some c→PSs X s (tS X.K (ex F c))
theorem Qf{N:List Str}{x:Str}{i:Nat}(h:N.idxOf? x=some i):x∈N:=List.mem_of_getElem? (Wn h)
theorem Xc{X:Cx}{sc:Scope}{N:List Str}{x:Str}{i:Nat}{p:Pos}(K:CxtS X G F sc N)(h:N.idxOf? x=some i):PG X (.Name x p) (gName i):=
 pg_name (by rw[K.hN];exact K.nd) (by rw[K.hN];exact Wn h) (K.loc x (Qf h)) (.inl (K.fn x))
theorem WZ{X:Cx}{sc:Scope}{N:List Str}(K:CxtS X G F sc N):PassesOwn (model X.prog X.w) X.A X.env X.xe:=by
 rw[K.nx];exact PassesOwn.never
theorem ZdE{X:Cx}{sc:Scope}{N:List Str}{x:Str}{i:Nat}{p:Pos}(K:Cxt X G F sc N)(hl:WE sc x=true)(hi:N.idxOf? x=some i):PE X (.Name x p) (tVar i):=
 pe_var (by rw[K.hN];exact Wn hi) (K.vis _ hl) (Qn hl).1 (Qn hl).2
theorem Va{X:Cx}{sc:Scope}{N:List Str}{it a tg:Expr}{x:CE}(K:Cxt X G F sc N)(h:Yr G sc it=some a)(hp:Zt a=true)(A:PE X a (tE X.K (ev F x))):Zt it=true∧PI X tg it (iRng1 (tCons (tE X.K (ev F x)) tNil)):=by
 obtain⟨_,_,rfl,hg,hm⟩:=Ur K h;exact⟨rfl,pi_range1 hg hm (pa1 hp A) (Zm hp)⟩
def Vu(G:Gs)(F:Nat→Fn)(n:Nat):Prop:=∀ X sc N,CxtS X G F sc N→∀ (x:Str) (i:Nat) (p:Pos) elt gens sc2 epos (pos:Pos) c,N.idxOf? x=some i→cE G n sc N (.ListComp elt gens sc2 epos)=some c→
 swapsWith (.ListComp elt gens sc2 epos) (some (.Name x p)) pos.line X.env=pure true→PS X (.Assign [.Name x p] (.ListComp elt gens sc2 epos) pos) (tAsg (tE X.K (ev F c)) (gName i))
theorem ZaF{elt:Expr}{gens:List Comprehension}{sc2:Scope}{epos p:Pos}{x:Str}{l:Nat}{env:PySem.Env}:∃ b:Bool,swapsWith (.ListComp elt gens sc2 epos) (some (.Name x p)) l env=pure b:=⟨_,rfl⟩
theorem Zds{n:Nat}{sc:Scope}{N:List Str}{e:Expr}{c:CE}(h:cE G n sc N e=some c):XR e=false∨∃ elt gens sc2 epos,e=.ListComp elt gens sc2 epos:=by
 cases n with
 |zero=>exact nomatch (show(none:Option CE)=some c from h)
 |succ n=>cases e<;>first|exact .inl rfl|exact .inr ⟨_,_,_,_,rfl⟩|exact nomatch (show(none:Option CE)=some c from h)
theorem ZhS{n:Nat}(ihE:ZG G F n)(hA:Vu G F n){X:Cx}{sc:Scope}{N:List Str}(K:CxtS X G F sc N){c:CS}{x:Str}{e:Expr}{p pos:Pos}(h:o2 CS.set (N.idxOf? x) (cE G n sc N e)=some c):PS X (.Assign [.Name x p] e pos) (tS X.K (ex F c)):=by
 refine YT (P:=fun c=>PS X _ (tS X.K (ex F c))) h fun i y hi hx=>?_
 have pl:∀ hs,PS X (.Assign [.Name x p] e pos) (tAsg (tE X.K (ev F y)) (gName i)):=fun hs=>ps_set (by rw[K.hN];exact K.nd) (by rw[K.hN];exact Wn hi) (K.loc _ (Qf hi)) (ihE X sc N K.toCxt _ y hx).pe hs (.inl (K.fn _))
 rcases Zds hx with hc|⟨elt,gens,sc2,epos,rfl⟩
 ·exact Ye (pl (Ve hc)) Qh
 ·obtain⟨b,hb⟩:=ZaF (elt:=elt) (gens:=gens) (sc2:=sc2) (epos:=epos) (p:=p) (x:=x) (l:=pos.line) (env:=X.env)
  cases b with
  |false=>exact Ye (pl hb) Qh
  |true=>exact Ye (hA X sc N K _ i p elt gens sc2 epos pos y hi hx hb) Qh
theorem V8{ts:List Expr}{k:Nat}{tp:Pos}{e:Expr}{env:PySem.Env}(h:Jk e=false):swappedStores [.Tuple ts k tp] e env=pure none:=by
 cases e with
 |Tuple=>cases h
 |_=>rfl
theorem Zf3{n:Nat}(ihE:ZG G F n){X:Cx}{sc:Scope}{N:List Str}(K:CxtS X G F sc N){c:CS}{x y:Str}{e:Expr}{p p2 tp pos:Pos}{ctx:Nat}(h:og ((XR e||Jk e)=false) (o3 (fun i j c=>og (i≠j) (some (CS.set2 i j c))) (N.idxOf? x) (N.idxOf? y) (cE G n sc N e)).join=some c):PS X (.Assign [.Tuple [.Name x p,.Name y p2] ctx tp] e pos) (tS X.K (ex F c)):=by
 refine VY h fun hc h=>j_e h fun h=>Vh (P:=fun o=>o=some c→PS X _ (tS X.K (ex F c))) h (fun i j ce hi hj hx h=>VY h fun _ h=>?_) rfl
 cases h;rw[Bool.or_eq_false_iff]at hc;exact Ye (ps_asg (ihE X sc N K.toCxt _ ce hx).pe (pg_tup K.calm (pgs_cons (Xc K hi) (pgs_cons (Xc K hj) pgs_nil))) (Wt hc.1) (V8 hc.2)) Zc5
theorem Zf4{n:Nat}(ihE:ZG G F n){X:Cx}{sc:Scope}{N:List Str}(K:CxtS X G F sc N){c:CS}{x y z:Str}{e:Expr}{p p2 p3 tp pos:Pos}{ctx:Nat}(h:og ((XR e||Jk e)=false) (o3 (fun i j (p:Nat×CE)=>CS.set3 i j p.1 p.2) (N.idxOf? x) (N.idxOf? y) (o2 Prod.mk (N.idxOf? z) (cE G n sc N e)))=some c):PS X (.Assign [.Tuple [.Name x p,.Name y p2,.Name z p3] ctx tp] e pos) (tS X.K (ex F c)):=by
 refine VY h fun hc h=>Vh (P:=fun c=>PS X _ (tS X.K (ex F c))) h fun i j q hi hj hq=>YT (P:=fun q=>PS X _ (tS X.K (ex F (.set3 i j q.1 q.2)))) hq fun l ce hl hx=>?_
 rw[Bool.or_eq_false_iff]at hc;exact Ye (ps_asg (ihE X sc N K.toCxt _ ce hx).pe (pg_tup K.calm (pgs_cons (Xc K hi) (pgs_cons (Xc K hj) (pgs_cons (Xc K hl) pgs_nil)))) (Wt hc.1) (V8 hc.2)) Zc6
theorem ZhQ{n:Nat}(ihE:ZG G F n){X:Cx}{sc:Scope}{N:List Str}(K:CxtS X G F sc N){c:CS}{f:Str}{fp cp pos:Pos}{as:List Expr}{kw:List Keyword}(h:(cE G n sc N (.Call (.Name f fp) as kw cp)).map CS.act=some c):PS X (.Expr (.Call (.Name f fp) as kw cp) pos) (tS X.K (ex F c)):=by
 obtain⟨ce,hx,rfl⟩:=Option.map_eq_some_iff.mp h;exact Ye (ps_expr (ihE X sc N K.toCxt _ ce hx).pe rfl) Ze3
theorem ZhT{n:Nat}(ihE:ZG G F n){X:Cx}{sc:Scope}{N:List Str}(K:CxtS X G F sc N){c:CS}{x:Str}{k e:Expr}{p q pos:Pos}(h:Zi1 sc N x k e (cE G n sc N)=some c):PS X (.Assign [.Subscript (.Name x p) k q] e pos) (tS X.K (ex F c)):=
 VY h fun hc h=>by
 cases hp:Zgu k with
 |some ab=>
  cases hp
 |none=>
 rw[hp]at h;exact Vh (P:=fun c=>PS X _ (tS X.K (ex F c))) h fun _ ck y hi hck hx=>Ye (ps_asg (ihE X sc N K.toCxt _ y hx).pe (pg_sub (ZdE K.toCxt hc.2.2 hi) (ihE X sc N K.toCxt _ ck hck).pe set_list (JZ (Zn hck))) (Wt hc.1) ZaE) Zfd
theorem ZhU{n:Nat}(ihE:ZG G F n){X:Cx}{sc:Scope}{N:List Str}(K:CxtS X G F sc N){c:CS}{e:Expr}{pos:Pos}(h:(cE G n sc N e).map CS.ret=some c):PS X (.Return (some e) pos) (tS X.K (ex F c)):=
 Qt (P:=fun c=>PS X _ (tS X.K (ex F c))) h fun x q=>Ye (ps_ret (ihE X sc N K.toCxt _ x q).pe) Zfe
theorem Zi9{n:Nat}(ihE:ZG G F n)(ihS:Yz G F n){X:Cx}{sc:Scope}{N:List Str}(K:CxtS X G F sc N){c:CS}{e:Expr}{a b:List Stmt}{pos:Pos}(h:o3 CS.ite (cE G n sc N e) (cSs G n sc N a) (cSs G n sc N b)=some c):PS X (.If e a b pos) (tS X.K (ex F c)):=
 Vh (P:=fun c=>PS X _ (tS X.K (ex F c))) h fun cc ca cb hc ha hb=>Ye (ps_if (ihE X sc N K.toCxt _ cc hc).pt (ihS X sc N K _ ca ha) (ihS X sc N K _ cb hb)) Ze8
theorem ZfY{n:Nat}(ihA:Xg G F n)(ihS:Yz G F n){X:Cx}{sc:Scope}{N:List Str}(K:CxtS X G F sc N){c:CS}{x:Str}{it:Expr}{as:List Expr}{b:List Stmt}{p pos:Pos}(hr:W2 G sc it=some as)(h:o3 CS.for3 (N.idxOf? x) (cEs G n sc N as) (cSs G n sc N b)=some c):PS X (.For (.Name x p) it b [] pos) (tS X.K (ex F c)):=by cases hr
theorem ZfW{n:Nat}(ihE:ZG G F n)(ihS:Yz G F n){X:Cx}{sc:Scope}{N:List Str}(K:CxtS X G F sc N){c:CS}{x:Str}{it:Expr}{b:List Stmt}{p pos:Pos}(h:(match Yr G sc it with
   |some a=>o3 (fun i c b=>CS.for1 i true c b) (N.idxOf? x) (cE G n sc N a) (cSs G n sc N b)
   |none=>o3 (fun i c b=>CS.for1 i false c b) (N.idxOf? x) (cE G n sc N it) (cSs G n sc N b))=some c):PS X (.For (.Name x p) it b [] pos) (tS X.K (ex F c)):=by
 cases ha:Yr G sc it with
 |some a=>
  rw[ha]at h;refine Vh (P:=fun c=>PS X _ (tS X.K (ex F c))) h fun i ci cb hi q hb=>?_
  obtain⟨hp,pi⟩:=Va K.toCxt ha (Zn q) (ihE X sc N K.toCxt a _ q).pe;exact Ye (ps_for (WZ K) K.calm pi (Xc K hi) (ihS X sc N K _ cb hb) (YI hp)) Zc1
 |none=>
  rw[ha]at h;refine Vh (P:=fun c=>PS X _ (tS X.K (ex F c))) h fun i ci cb hi q hb=>?_
  have A:=(ihE X sc N K.toCxt _ _ q).pe;have hf:=YI (env:=X.env) (Zn q);exact Ye (Zgw (ps_for (WZ K) K.calm (pi_tup A) (Xc K hi) (ihS X sc N K _ cb hb) hf) (ps_for (WZ K) K.calm (pi_list A) (Xc K hi) (ihS X sc N K _ cb hb) hf)) Zc0
theorem Jj{X:Cx}{pins:List (Addr×Obj)}{σ:L2.St}{H:Hp}{s:Shared}{h':Heap}{t':Nat}{wr:List Addr}(I:L2.Inv X pins σ H s)(hf:∀ b∈wr,FpOk X pins H b)(k:∀ b o,b∉wr→s.heap.get? b=some o→h'.get? b=some o):L2.Inv X pins σ H { s with heap:=h',toks:=t' }:=by
 have nw:∀ b u,H b=some u→b∉wr:=fun b u e hb=>by have:=(hf b hb).1;rw[e]at this;cases this
 refine I.step (g':=s.gens) (d':=s.drawn) (ch:=wr) (fun b hb=>⟨(hf b hb).2.2.2.1,(hf b hb).2.1,(hf b hb).2.2.2.2.1,(hf b hb).2.2.2.2.2⟩) (fun b o _ _ hc e _=>k b o hc e) (fun b o _ _ hc e _=>⟨o.slots,k b o hc e⟩)
  (fun b o _ e n=>n) (fun b o hc e=>⟨o,k b o hc e⟩) (fun b ys e=>e) (fun b o u e=>e) (fun b ps e=>⟨#[],by rw[e];simp⟩) (fun m hm=>?_) (fun b u e=>?_) I.bare
 ·obtain⟨o,es,ep,ho,r⟩:=hm
  exact⟨o,es,ep,k _ o (fun z=>(hf _ z).2.1 rfl) ho,r⟩
 ·refine(I.hok b u e).stay (fun c v hc q=>k c v ?_ q) (fun c q=>q) fun c ys q=>q
  rcases hc with z|z
  ·rw[z];exact nw b u e
  ·exact nw c _ z
theorem Up{X:Cx}{pins:List (Addr×Obj)}{σ:L2.St}{H:Hp}{s:Shared}{h':Heap}{t':Nat}{wr:List Addr}{T:Addr}{xs:List V}(I:L2.Inv X pins σ H s)(hf:∀ b∈wr,FpOk X pins H b)(k:∀ b o,b∉wr→s.heap.get? b=some o→h'.get? b=some o)(hT:s.heap.objs.size≤T)(new:ObjOk X.prog X.w (upd H T (.tup xs)) h' T (.tup xs)):L2.Inv X pins σ (upd H T (.tup xs)) { s with heap:=h',toks:=t' }:=by
 have hn:H T=none:=I.hok.fresh hT;have nT:∀ b u,s.heap.get? b=some u→b≠T:=fun b u e=>Nat.ne_of_lt (Nat.lt_of_lt_of_le (Heap.lt_size e) hT)
 have nw:∀ b u,H b=some u→b∉wr:=fun b u e hb=>by have:=(hf b hb).1;rw[e]at this;cases this
 refine I.step (g':=s.gens) (d':=s.drawn) (ch:=wr) (fun b hb=>⟨(hf b hb).2.2.2.1,(hf b hb).2.1,(hf b hb).2.2.2.2.1,(hf b hb).2.2.2.2.2⟩) (fun b o _ _ hc e _=>k b o hc e) (fun b o _ _ hc e _=>⟨o.slots,k b o hc e⟩)
  (fun b o _ e n=>by rw[upd_ne (nT b o e)];exact n) (fun b o hc e=>⟨o,k b o hc e⟩) (fun b ys e=>by rw[upd_ne (ne_of_none e hn)];exact e) (fun b o u e=>by rw[upd_ne (ne_of_none e hn)];exact e) (fun b ps e=>⟨#[],by rw[upd_ne (ne_of_none e hn),e];simp⟩) (fun m hm=>?_) (fun b u e=>?_) I.bare
 ·obtain⟨o,es,ep,ho,r⟩:=hm
  exact⟨o,es,ep,k _ o (fun z=>(hf _ z).2.1 rfl) ho,r⟩
 ·by_cases hb:b=T
  ·subst hb;rw[upd_same]at e;cases e;exact new
  ·rw[upd_ne hb]at e
   refine(I.hok b u e).stay (fun c v hc q=>k c v ?_ q) (fun c q=>by rw[upd_ne (ne_of_none q hn)];exact q) fun c ys q=>by rw[upd_ne (ne_of_none q hn)];exact q
   rcases hc with z|z
   ·rw[z];exact nw b u e
   ·exact nw c _ z
theorem Zf5{X:Cx}{pins:List (Addr×Obj)}{σ:L2.St}{H:Hp}{s:Shared}{a:Addr}{xs ys:List V}(I:L2.Inv X pins σ H s)(h1:SqL X.K H a xs)(h2:SqL X.K H a ys):ys=xs:=by
 obtain⟨i1,r1,⟨o1,n1,g1,_,_,d1⟩,_⟩:=I.list h1;obtain⟨i2,r2,⟨o2,n2,g2,_,_,d2⟩,_⟩:=I.list h2;rw[g1]at g2;cases g2;rw[d1]at d2;have e:i1.toArray=i2.toArray:=by injection d2
 have e:i1=i2:=by simpa using e
 subst e;exact Vals.inj r2 r1
theorem Zdq{a b:String}{p:Prop}(h:Value.type a=Value.type b)(n:¬a=b):p:=by
 injection h with h
 exact absurd h n
structure ZD(z TI TO i1 i2:Addr):Prop where
 a:TI≠z
 b:TO≠z
 c:i1≠z
 d:i2≠z
 e:TI≠TO
 f:TI≠i1
 g:TI≠i2
 h:TO≠i1
 i:TO≠i2
 j:i1≠i2
structure ZSt(z TI TO i1 i2 a b:Addr)(i:Nat)(h:Heap):Prop where
 hz:IsZip h z TI TO .none
 hI:IsPair h TI (.ref i1) (.ref i2)
 hO:∃ u v,IsPair h TO u v
 h1:h.IsListIter i1 a i
 h2:h.IsListIter i2 b i
section
variable {prog:Program}{w:World}{A:Around}{E:Value→Shared→Prop}{s:Shared}
open Sem (wp)
open AutoSeq1 (wpAny_loadPart')
theorem Jp{it l:Addr}{i:Nat}{items:Array Value}{Q:Value→Shared→Prop}(hh:A.handled=none)(hit:s.heap.IsTupleIter it l i)(hl:s.heap.IsTuple l items)(hQ:∀ x h',items[i]?=some x→h'.IsTupleIter it l (i+1)→Heap.SameBut it s.heap h'→Q x { s with heap:=h' })(hE:items[i]?=none→∀ h' e,Heap.ExtBut it s.heap h'→(∃ o,h'.get? e=some o∧o.cls=.type "StopIteration")→E (.ref e) { s with heap:=h' }) :
  wpAny (model prog w) A (Builtin.SmallTypes.nextOf (.ref it)) Q E s:=by
 obtain⟨o,ho,hc,hd⟩:=id hit;obtain⟨ol,hol,_,nl,hdl⟩:=hl;unfold Builtin.SmallTypes.nextOf;refine wpAny_bind (wpAny_callSpecial?_slot (name:=Str.ofString "__next__") hit.typeIs PySem.F.slot_tuple_iterator_next
  (wpAny_call_entry PySem.F.slot_tuple_iterator_next hit.typeIs PySem.F.entry_tuple_iterator_next ?_ (PySem.F.args_tuple_iterator_next_1 _)))
 show wpAny _ _ (field (.ref it) 0 >>= _) _ _ s;refine wpAny_bind (wpAny_field ho hd (x:=.ref l) rfl ?_);show wpAny _ _ (if (Value.ref l==Value.none)=true then _ else _) _ _ s
 rw[if_neg (show ¬((Value.ref l==Value.none)=true) from Bool.false_ne_true)];show wpAny _ _ (field (.ref it) 1 >>= _) _ _ s;refine wpAny_bind (wpAny_field ho hd (x:=.int i 0) rfl ?_);show wpAny _ _ (seqItems? (.ref l) >>= _) _ _ s;refine wpAny_bind (wpAny_seqItems hol hdl ?_);cases hx:items[i]? with
 |some x=>
  simp only[Int.toNat_natCast,hx];refine wpAny_bind (wpAny_setField ho hd (by simp) (wpAny_pure ⟨x,rfl,wpAny_pure (hQ _ _ hx ?_ (Heap.SameBut.update ..))⟩))
  exact⟨_,Heap.get?_update_self _ ho (Obj.isFreed_of_fields (Obj.data_mapFields hd _)),(Obj.cls_mapFields ..).trans hc,by
   rw[Obj.data_mapFields hd];simp[rawInt]⟩
 |none=>
  simp only[Int.toNat_natCast,hx];refine wpAny_bind (wpAny_rule (wpAny_bind (wpAny_setField ho hd (by simp) ?_)))
  show wpAny _ _ (newExc (.type "StopIteration") [] >>= _) _ _ _;refine wpAny_bind ?_;simp only[newExc,newTuple];refine wpAny_bind (wpAny_newObj_type ?_ (by size_fits))
  refine wpAny_bind (m:=firstArgMember _ _) (wpAny_of_eq (a:=Value.none) (by first|rfl | (simp only[firstArgMember];rfl)) ?_)
  refine wpAny_newObj_type ?_ (by size_fits)
  simp only[raiseNew];refine wpAny_bind (wpAny_handled ?_)
  first|rw[show A.in1.handled=none from hh]|rw[hh]
  refine wpAny_bind (wpAny_pure (wpAny_throw ?_));exact hE hx _ _ (((Heap.SameBut.update ..).extBut.push _).push _) ⟨_,Heap.get?_push_size _ rfl,rfl⟩
theorem ZbQ(hh:A.handled=none)(it l:Addr)(hne:l≠it)(items:Array Value) :
  Draws prog w A it [it,l] items.size (fun i v=>items[i]?=some v) (fun i h=>h.IsTupleIter it l i∧h.IsTuple l items) where
 live:=fun _ _ st=>let ⟨o,ho,_⟩:=st.1;⟨o,ho⟩
 frame:=fun _ _ _ st hk=>⟨st.1.at fun o e=>hk it (by simp) o e,st.2.at fun o e=>hk l (by simp) o e⟩
 item:=fun i s Q E hi st hQ=>Jp hh st.1 st.2 (fun x h' e hit' hs'=>hQ x h' s.toks e ⟨hit',st.2.extBut hs'.extBut hne⟩ hs') fun e=>absurd e (by simp[hi])
 done:=fun s Q E st hE=>Jp hh st.1 st.2 (fun x h' e=>absurd e (by simp)) fun _=>hE
theorem VT(l:Addr)(items:Array Value)(n:Nat)(dct:Option Addr)(sl:Array (Option Value)) :
  Meets (Builtin.«enumerate.__new__» ⟨[.type "enumerate",.ref l],[]⟩) (fun _ R s=>s.heap.get? l=some { cls:=.type "tuple",dict:=dct,data:=.seq items n,slots:=sl } ∧
   R (.ok (.ret (.ref (s.heap.push { cls:=.type "tuple_iterator",data:=.fields #[.ref l,.int 0 0] }).objs.size)))
    { s with heap:=(s.heap.push { cls:=.type "tuple_iterator",data:=.fields #[.ref l,.int 0 0] }).push { cls:=.type "enumerate",data:=.fields #[.none,.bool false,.ref s.heap.objs.size,rawInt 0,.none,.none] } }):=
 .of_wp fun prog w A R s h=>by
  obtain⟨hp,g,d,tk,os⟩:=s;obtain⟨hl,h⟩:=h;have hsub:=sub_enumerate;have hL:Heap.IsTuple (Shared.heap ⟨hp,g,d,tk,os⟩) l items:=⟨_,hl,rfl,n,rfl⟩
  wp_walk using wpAny_loadPart' hl
  refine wpAny_stack_any fun st=>wpAny_pure ?_
  split
  ·rename_i c _ _ _ _ _
   cases (c==Value.type "enumerate")
   ·wp_walk using wpAny_loadPart' hl,wpAny_pyIter_tuple hL
    exact⟨_,rfl,h⟩
   ·wp_walk using wpAny_loadPart' hl,wpAny_pyIter_tuple hL
    exact⟨_,rfl,h⟩
  ·wp_walk using wpAny_loadPart' hl,wpAny_pyIter_tuple hL
   exact⟨_,rfl,h⟩
theorem Ul{l:Addr}{items:Array Value}{Q:Value→Shared→Prop}(hL:s.heap.IsTuple l items)(h:∀ h',IsEnum h' (s.heap.objs.size+1) s.heap.objs.size 0 .none→h'.IsTupleIter s.heap.objs.size l 0→h'.objs.size=s.heap.objs.size+2→
   (∀ b o,s.heap.get? b=some o→h'.get? b=some o)→Q (.ref (s.heap.objs.size+1)) { s with heap:=h' }) :
  wpAny (model prog w) A (call (.type "enumerate") [.ref l]) Q E s:=by
 obtain⟨⟨c,dct,dt,sl⟩,hl,hc,n,hd⟩:=hL;replace hc:c=.type "tuple":=hc;replace hd:dt=.seq items n:=hd;subst hc hd;refine callType_new PySem.F.called_enumerate (by decide) (PySem.F.typeCall_enumerate_1 _) (PySem.F.newCall_enumerate_1 _) (fun obj=>PySem.F.args_object_init_2 obj _) PySem.F.entry_enumerate_new
  (VT l items n dct sl) ⟨hl,?_⟩
 have hz:(s.heap.push { cls:=.type "tuple_iterator",data:=.fields #[.ref l,.int 0 0] }).objs.size=s.heap.objs.size+1:=Heap.size_push ..;show _∧_;rw[hz];have he:IsEnum ((s.heap.push { cls:=.type "tuple_iterator",data:=.fields #[.ref l,.int 0 0] }).push
   { cls:=.type "enumerate",data:=.fields #[.none,.bool false,.ref s.heap.objs.size,rawInt 0,.none,.none] }) (s.heap.objs.size+1) s.heap.objs.size 0 .none:=by
  have:=Heap.get?_push_size (s.heap.push { cls:=.type "tuple_iterator",data:=.fields #[.ref l,.int 0 0] })
   (o:={ cls:=.type "enumerate",data:=.fields #[.none,.bool false,.ref s.heap.objs.size,rawInt 0,.none,.none] }) rfl
  rw[hz]at this;exact this
 refine⟨⟨_,he,rfl⟩,h _ he ⟨_,Heap.get?_push_of_some _ (Heap.get?_push_size _ rfl),rfl,rfl⟩ (by rw[Heap.size_push,hz]) fun b o x=>Heap.get?_push_of_some _ (Heap.get?_push_of_some _ x)⟩
end
noncomputable def Ite(sq:Hp→List V→Prop):It:=
 ⟨fun i H=>∃ xs x,sq H xs∧xs[i]?=some x,fun i H v H'=>∃ T x,v=.ref T∧H T=none∧H'=upd H T (.tup [.int (i:Int),x])∧∀ xs,sq H xs→xs[i]?=some x,fun i H=>∃ xs,sq H xs∧xs.length=i⟩
noncomputable def ZaY(K:PySem.W.Frag)(ta:TA):TI:=fun σ H R=>ta σ H fun vs H1=>∃ a,vs=[.ref a]∧(((∃ xs,SqL K H1 a xs)∧R (Ite fun H=>SqL K H a) H1)∨((∃ xs,SqT K H1 a xs)∧R (Ite fun H=>SqT K H a) H1))
theorem UW{P:Program}{w:World}{K:PySem.W.Frag}{elts:List Expr}{kk:Nat}{pos:Pos}{sq:Hp→List V→Prop}{it1:Nat→Heap→Prop}(e it a:Addr)(d:e≠it)(hi:∀ i h,it1 i h→∃ o,h.get? it=some o∧∀ v,o.data≠.cell v)(hk:∀ i h h',it1 i h→(∀ o,h.get? it=some o→h'.get? it=some o)→it1 i h')(hD:∀ (X:Cx),X.prog=P→X.w=w→X.K=K→X.calm=true→∀ (pins:List (Addr×Obj)) (s:Shared) (σ:L2.St) (H:Hp) (i:Nat) (xs:List V),L2.Inv X pins σ H s→(∃ old,IsEnum s.heap e it i old)→it1 i s.heap→sq H xs→
   (∀ ys,sq H ys→ys=xs)∧∃ (its:List Value) (ob:Heap→Prop),Vals xs its∧a≠e∧ob s.heap∧Draws P w X.A.in1 it [it,a] its.toArray.size (fun i v=>its.toArray[i]?=some v) (fun i h=>it1 i h∧ob h)) :
  Turn P w K (.Tuple elts kk pos) (Ite sq) [e,it] e (fun i h=>(∃ old,IsEnum h e it i old)∧it1 i h) where
 mem:=by simp
 obj:=fun i h st c hc=>by
  obtain⟨⟨old,he⟩,h1⟩:=st;simp only[List.mem_cons,List.not_mem_nil,or_false]at hc;rcases hc with rfl|rfl
  ·exact⟨_,he,fun v q=>by cases (show Data.fields _=Data.cell v from q)⟩
  ·exact hi i h h1
 keep:=fun i h h' st k=>by
  obtain⟨⟨old,he⟩,h1⟩:=st;exact⟨⟨old,k e (by simp) _ he⟩,hk i h h' h1 fun o g=>k it (by simp) o g⟩
 item:=by
  intro X hP hw hK hc i pins s σ H E I hf st hg;obtain⟨xs,x,hs,ex⟩:=hg;obtain⟨hone,its,ob,r,ne,o0,D⟩:=hD X hP hw hK hc pins s σ H i xs I st.1 st.2 hs;subst hP hw hK;have W:=WalksT.enumerateD D e d (by simp only[List.mem_cons,List.not_mem_nil,or_false];exact fun q=>q.elim d fun q=>ne q.symm) (by simp)
  have l1:=r.length;have ix:i < xs.length:=(List.getElem?_eq_some_iff.mp ex).1;refine W.item i s _ _ (by simp;omega) ⟨st.1,st.2,o0⟩ fun T vals h' tk hv hT tup mid k1=>?_
  obtain⟨t,u,eu,rfl⟩:=hv;refine⟨.ref T,rfl,W.go elts kk pos i T _ _ _ mid fun h2' st2 k2=>?_⟩
  have nT:=W.apart i T h' mid;have ru:RelV x u:=by
   obtain⟨u',e1,e2⟩:=r.get ex;have:its[i]?=some u:=by simpa using eu
   rw[this]at e1;cases e1;exact e2
  have tup2:h2'.IsTuple T #[.int i t,u]:=tup.at fun o g=>k2 T o nT g
  have I2:L2.Inv X pins σ (upd H T (.tup [.int (i:Int),x])) { s with heap:=h2',toks:=tk }:=Up (wr:=[e,it]) I hf (fun c o hcn g=>k2 c o hcn (k1 c o hcn g)) hT ⟨show 2≤sizeLine by decide,[.int i t,u],.cons ⟨t,rfl⟩ (.cons ru .nil),tup2⟩
  refine⟨.ref T,_,I2,rfl,⟨T,x,rfl,I.hok.fresh hT,rfl,fun xs' q=>by rw[hone _ q];exact ex⟩,⟨st2.1,st2.2.1⟩,fun c hcm=>?_⟩
  have:c≠T:=fun q=>by
   have lt:∀ {o},s.heap.get? c=some o→False:=fun g=>absurd (Heap.lt_size g) (Nat.not_lt.mpr (by rw[q];exact hT))
   obtain⟨⟨_,he⟩,h1⟩:=st;obtain⟨_,g,_⟩:=hi _ _ h1;simp only[List.mem_cons,List.not_mem_nil,or_false]at hcm;rcases hcm with rfl|rfl
   ·exact lt he
   ·exact lt g
  rw[upd_ne this];exact(hf c hcm).1
 done:=by
  intro X hP hw hK hc i pins s σ H E I hf st hg;obtain⟨xs,hs,hle⟩:=hg;obtain⟨hone,its,ob,r,ne,o0,D⟩:=hD X hP hw hK hc pins s σ H i xs I st.1 st.2 hs;subst hP hw hK;have W:=WalksT.enumerateD D e d (by simp only[List.mem_cons,List.not_mem_nil,or_false];exact fun q=>q.elim d fun q=>ne q.symm) (by simp)
  have l1:=r.length;have e1:i=its.toArray.size:=by simp;omega
  subst e1;exact W.done s _ _ ⟨st.1,st.2,o0⟩ fun h' tk k=>⟨rfl,Jj (wr:=[e,it]) I hf k⟩
 self:=fun _ _ _ _ _ st h=>let ⟨⟨_,he⟩,_⟩:=st;wpAny_pyIter_enum he h
theorem Jr{h:Heap}{e it:Addr}{i:Int}{old:Value}{a:Addr}{o:Obj}{n:String}(he:IsEnum h e it i old)(g:h.get? a=some o)(c:o.cls=.type n)(hn:¬n = "enumerate"):a≠e:=fun q=>by
 subst q;have he:h.get? a=some _:=he;rw[g]at he;cases he;exact Zdq c fun z=>hn z.symm
theorem Js{h:Heap}{a b:Addr}{o u:Obj}{n m:String}(g:h.get? a=some o)(c:o.cls=.type n)(g2:h.get? b=some u)(c2:u.cls=.type m)(hn:¬n=m):a≠b:=fun q=>by
 subst q;rw[g]at g2;cases g2;rw[c]at c2;exact Zdq c2 hn
theorem ZeP:bootBuiltins "enumerate"=some (.type "enumerate"):=by decide +kernel
theorem ZfC{X:Cx}{elts:List Expr}{kk:Nat}{tp:Pos}{x:Expr}{ta:TA}{p pos:Pos}(hg:Gl X "enumerate")(hm:X.mg "enumerate"=none)(ha:PA X [x] ta)(hs:starEach [x] X.env=[(false,eval x X.env)]):PI X (.Tuple elts kk tp) (.Call (.Name "enumerate" p) [x] [] pos) (ZaY X.K ta):=by
 intro pins s σ H R I h;refine Call_ (ld_blt I hg hm ZeP (PyProof.Rows.callWith_type1 (thn (ha pos pins s σ H _ I h) fun us s1 ⟨vs,H1,I1,r1,q1⟩=>?_) hs rfl))
 obtain⟨a,rfl,q⟩:=q1;have fo:∀ c∈[s1.heap.objs.size+1,s1.heap.objs.size],FpOk X pins H1 c:=fun c hcm=>by
  have hc:s1.heap.objs.size≤c:=by
   simp only[List.mem_cons,List.not_mem_nil,or_false]at hcm;rcases hcm with rfl|rfl
   ·exact Nat.le_add_right _ _
   ·exact Nat.le_refl _
  exact I1.fpOk hc (I1.hok.fresh hc)
 cases r1 with
 |cons r rr=>
  cases rr;cases r;rcases q with⟨⟨xs,sq⟩,q⟩|⟨⟨xs,sq⟩,q⟩
  ·obtain⟨its,_,p1,_⟩:=I1.list sq
   refine call_enumerate_list p1.isList fun h' he h1 hsz k=>wpAny_pyIter_enum he ?_
   refine⟨s1.heap.objs.size+1,[s1.heap.objs.size+1,s1.heap.objs.size],_,_,H1,rfl,I1.kept (t':=s1.toks) k,UW (it1:=fun i h=>h.IsListIter _ a i) _ _ a (Nat.succ_ne_self _) (fun i h st=>?_) (fun i h h' st k=>st.at k) (fun X hP hw hK hc pins s σ H i xs I he h1 sq=>?_),⟨⟨_,he⟩,h1⟩,fo,q⟩
   ·obtain⟨o,g,_,f⟩:=st
    exact⟨o,g,fun v q=>by rw[f]at q;cases q⟩
   ·rw[←hP,←hw]
    rw[←hK]at sq ⊢;obtain⟨its,r,p,_⟩:=I.list sq;obtain⟨⟨_,he⟩,⟨o2,g2,c2,_⟩⟩:=And.intro he h1;obtain⟨o,g,c,_⟩:=p.isList;exact⟨fun ys hy=>Zf5 I sq hy,its,fun h=>h.IsList a its.toArray,r,Jr he g c (by decide),p.isList,Draws.list (show X.A.in1.handled=none from I.ok.hd hc) _ a (Js g c g2 c2 (by decide)) its.toArray⟩
  ·obtain⟨its,_,p1,_⟩:=I1.tuple sq
   refine Ul (show s1.heap.IsTuple a its.toArray from p1) fun h' he h1 hsz k=>wpAny_pyIter_enum he ?_
   refine⟨s1.heap.objs.size+1,[s1.heap.objs.size+1,s1.heap.objs.size],_,_,H1,rfl,I1.kept (t':=s1.toks) k,UW (it1:=fun i h=>h.IsTupleIter _ a i) _ _ a (Nat.succ_ne_self _) (fun i h st=>?_) (fun i h h' st k=>st.at k) (fun X hP hw hK hc pins s σ H i xs I he h1 sq=>?_),⟨⟨_,he⟩,h1⟩,fo,q⟩
   ·obtain⟨o,g,_,f⟩:=st
    exact⟨o,g,fun v q=>by rw[f]at q;cases q⟩
   ·rw[←hP,←hw]
    rw[←hK]at sq ⊢;obtain⟨its,r,p,_⟩:=I.tuple sq;have p:s.heap.IsTuple a its.toArray:=p;obtain⟨⟨_,he⟩,⟨o2,g2,c2,_⟩⟩:=And.intro he h1;obtain⟨o,g,c,_⟩:=id p;exact⟨fun ys hy=>I.tuple_inj hy sq,its,fun h=>h.IsTuple a its.toArray,r,Jr he g c (by decide),p,ZbQ (show X.A.in1.handled=none from I.ok.hd hc) _ a (Js g c g2 c2 (by decide)) its.toArray⟩
theorem UB:∀ {xs:List D}{k i:Nat}{x:D},xs[i]?=some x→(UA k xs)[i]?=some (.int ((k+i:Nat):Int),x)
 |[],_,_,_,h=>nomatch h
 |x :: xs,k,0,_,h=>by cases h;rfl
 |x :: xs,k,i+1,y,h=>by
  show(UA (k+1) xs)[i]?=_;rw[UB (show xs[i]?=some y from h),show k+1+i=k+(i+1) by omega]
theorem WT:∀ {xs:List D}{k:Nat},(UA k xs).length=xs.length
 |[],_=>rfl
 |x :: xs,k=>congrArg (·+1) WT
theorem ZcZ{K:PySem.W.Frag}{fi:Ev}{f:Ex}{i j:Nat}(E:Ends)(σ:L2.St)(H:Hp)(h:tS K (UE i j fi f) E σ H):tFor (ZaY K (tCons (tE K fi) tNil)) (gTup K 2 (gCons (gName i) (gCons (gName j) gNil))) (tS K f) E σ H:=by
 obtain⟨ad,ρ,st,r,st',En,S,e,p⟩:=YC h;unfold UE at e;split at e
 ·rename_i x st1 q1
  split at e
  ·rename_i xs ok hw
   have core:∀ {sq:Hp→List V→Prop}{ad1:List Addr}{H1:Hp} (Good:List Addr→Hp→Prop),(∀ ad H ad' H',Ext ad H ad' H'→Good ad H→Good ad' H')→Good ad1 H1→
     (∀ ad H st,Good ad H→StOk K ad H st→ok st→∃ vs,Dens K ad H vs xs∧sq H vs)→Ext ad H ad1 H1→StOk K ad1 H1 st1→Zii K f i j (Ite sq) E σ H1:=fun Good gm g1 hv x1 S1=>
    ⟨_,⟨_,.mk (Nat.zero_add _) (En.mono x1) S1 g1 e (p.later x1)⟩,Zaj gm (fun ad H st g S o=>by
      obtain⟨vs,rv,sv⟩:=hv ad H st g S o;exact⟨vs,sv,by rw[rv.length,WT]⟩) fun k ad H st q g S o hq=>by
      obtain⟨vs,rv,sv⟩:=hv ad H st g S o;have hk:k < xs.length:=by rw[←WT (k:=0)];exact(List.getElem?_eq_some_iff.mp hq).1
      have hg:=List.getElem?_eq_getElem hk;rw[UB (k:=0) hg,Nat.zero_add]at hq;cases hq;obtain⟨w,ew,dw⟩:=rv.get hg;exact⟨_,w,⟨vs,w,sv,ew⟩,.int _,dw,fun x H' ⟨pt,y1,e1,e2,e3,hy⟩=>⟨pt,e1,e2,by have z:=hy vs sv;rw[ew]at z;cases z;exact e3⟩⟩⟩
   refine⟨ad,ρ,st,x,st1,En,S,q1,fun v ad1 H1 x1 S1 d1=>?_⟩
   cases x with
   |tup ys=>
    cases hw;obtain⟨a,vs,rfl,ha,rv⟩:=d1.ofTup;exact⟨a,rfl,.inr ⟨⟨vs,ha.sq⟩,core (fun ad H=>TupAt K H a vs∧Dens K ad H vs xs) (fun _ _ _ _ x g=>⟨g.1.mono x,g.2.mono x⟩) ⟨ha,rv⟩ (fun ad H st g _ _=>⟨vs,g.2,g.1.sq⟩) x1 S1⟩⟩
   |lst l=>
    have hw:(match st1[l]? with
     |some c=>some (c.2,fun s=>s[l]?=some c)
     |none=>none)=some (xs,ok):=hw
    cases hc:st1[l]? with
    |none=>rw[hc]at hw;cases hw
    |some c=>
     rw[hc]at hw;cases hw;obtain⟨a,rfl,ha⟩:=d1.ofLst;obtain⟨vs,rv,sq⟩:=S1.list ha (show st1[l]?=some (c.1,c.2) from hc);exact⟨a,rfl,.inl ⟨⟨vs,sq⟩,core (fun ad H=>LA ad H l a) (fun _ _ _ _ x g=>g.mono x) ha (fun ad H st g S e=>S.list g (show st[l]?=some (c.1,c.2) from e)) x1 S1⟩⟩
   |_=>cases hw
  ·cases e
 ·cases e
theorem VH{X:Cx}{sc:Scope}{N:List Str}{it a:Expr}{elts:List Expr}{kk:Nat}{tp:Pos}{x:CE}(K:Cxt X G F sc N)(h:Vj G sc it=some a)(hp:Zt a=true)(A:PE X a (tE X.K (ev F x))):Zt it=true∧PI X (.Tuple elts kk tp) it (ZaY X.K (tCons (tE X.K (ev F x)) tNil)):=by
 obtain⟨as,h1,h2⟩:=Option.bind_eq_some_iff.mp h;rw[Zbb h2]at h1;obtain⟨_,_,rfl,hg,hm⟩:=Qe K h1;exact⟨rfl,ZfC hg hm (pa1 hp A) (Zm hp)⟩
theorem Zf2{n i j:Nat}(ihA:Xg G F n)(ihS:Yz G F n){X:Cx}{sc:Scope}{N:List Str}(K:CxtS X G F sc N){c:CS}{x y:Str}{it:Expr}{as:List Expr}{b:List Stmt}{p p2 pos tp:Pos}{ctx:Nat}(hi:N.idxOf? x=some i)(hj:N.idxOf? y=some j)(hz:Vt G sc it=some as)(h:o2 (CS.forP i j) (cEs G n sc N as) (cSs G n sc N b)=some c):PS X (.For (.Tuple [.Name x p,.Name y p2] ctx tp) it b [] pos) (tS X.K (ex F c)):=by cases hz
theorem Zf1{n i j:Nat}(ihE:ZG G F n)(ihS:Yz G F n){X:Cx}{sc:Scope}{N:List Str}(K:CxtS X G F sc N){c:CS}{x y:Str}{it e:Expr}{b:List Stmt}{p p2 pos tp:Pos}{ctx:Nat}(hi:N.idxOf? x=some i)(hj:N.idxOf? y=some j)(hz:Vk G sc it=some e)(h:o2 (CS.forE i j) (cE G n sc N e) (cSs G n sc N b)=some c):PS X (.For (.Tuple [.Name x p,.Name y p2] ctx tp) it b [] pos) (tS X.K (ex F c)):=by
 refine YT (P:=fun c=>PS X _ (tS X.K (ex F c))) h fun ci cb hc hb=>?_
 obtain⟨pl,A⟩:=VH (elts:=[.Name x p,.Name y p2]) (kk:=ctx) (tp:=tp) K.toCxt hz (Zn hc) (ihE X sc N K.toCxt _ ci hc).pe;exact Ye (ps_for (WZ K) K.calm A (pg_tup K.calm (pgs_cons (Xc K hi) (pgs_cons (Xc K hj) pgs_nil))) (ihS X sc N K _ cb hb) (YI pl)) ZcZ
theorem ZfZ{n:Nat}(ihE:ZG G F n)(ihS:Yz G F n){X:Cx}{sc:Scope}{N:List Str}(K:CxtS X G F sc N){c:CS}{x y z:Str}{it:Expr}{b:List Stmt}{p p2 p3 pos tp:Pos}{ctx:Nat}(h:o3 (fun(p:Nat×Nat) (q:Nat×CE) b=>CS.for4 p.1 p.2 q.1 q.2 b) (o2 Prod.mk (N.idxOf? x) (N.idxOf? y)) (o2 Prod.mk (N.idxOf? z) (cE G n sc N it)) (cSs G n sc N b)=some c):PS X (.For (.Tuple [.Name x p,.Name y p2,.Name z p3] ctx tp) it b [] pos) (tS X.K (ex F c)):=
 Vh (P:=fun c=>PS X _ (tS X.K (ex F c))) h fun u v cb hu hv hb=>YT (P:=fun u:Nat×Nat=>PS X _ (tS X.K (ex F (.for4 u.1 u.2 v.1 v.2 cb)))) hu fun i j hi hj=>YT (P:=fun v:Nat×CE=>PS X _ (tS X.K (ex F (.for4 i j v.1 v.2 cb)))) hv fun l ci hl hc=>
  fun pins s σ H D I q=>by
   obtain⟨_,_,_,_,_,_,_,e,_⟩:=YC q;cases e
theorem ZfX{n i j:Nat}(ihE:ZG G F n)(ihS:Yz G F n){X:Cx}{sc:Scope}{N:List Str}(K:CxtS X G F sc N){c:CS}{x y:Str}{it:Expr}{b:List Stmt}{p p2 pos tp:Pos}{ctx:Nat}(hi:N.idxOf? x=some i)(hj:N.idxOf? y=some j)(h:o2 (CS.for2 i j) (cE G n sc N it) (cSs G n sc N b)=some c):PS X (.For (.Tuple [.Name x p,.Name y p2] ctx tp) it b [] pos) (tS X.K (ex F c)):=by
 refine YT (P:=fun c=>PS X _ (tS X.K (ex F c))) h fun ci cb hc hb=>?_
 have A:=(ihE X sc N K.toCxt _ ci hc).pe;have hf:=YI (env:=X.env) (Zn hc);exact Ye (Zgw (ps_for (WZ K) K.calm (pi_tup A) (pg_tup K.calm (pgs_cons (Xc K hi) (pgs_cons (Xc K hj) pgs_nil))) (ihS X sc N K _ cb hb) hf) (ps_for (WZ K) K.calm (pi_list A) (pg_tup K.calm (pgs_cons (Xc K hi) (pgs_cons (Xc K hj) pgs_nil))) (ihS X sc N K _ cb hb) hf)) ZcY
theorem ZhR{n:Nat}(ihE:ZG G F n){X:Cx}{sc:Scope}{N:List Str}(K:CxtS X G F sc N){c:CS}{x m:Str}{e:Expr}{p ap cp pos:Pos}(h:Zio sc N x m ap cp (cE G n sc N e)=some c):PS X (.Expr (.Call (.Attribute (.Name x p) m ap) [e] [] cp) pos) (tS X.K (ex F c)):=by
 refine VY h fun hc h=>?_
 by_cases e1:m = "append"
 ·subst e1
  rw[if_pos rfl]at h;exact YT (P:=fun c=>PS X _ (tS X.K (ex F c))) h fun i y hi hx=>Ye (ps_expr (pe_bm PySem.F.plainAttrs_list PySem.F.slot_list_append PySem.F.type_list_append mt_append (ZdE K.toCxt hc.1 hi) (pa1 (Zn hx) (ihE X sc N K.toCxt _ y hx).pe) rfl (by rw[Zm (Zn hx)];rfl) hc.2 (Zm (Zn hx)) rfl) rfl) Ze4
 ·rw[if_neg e1]at h
  by_cases e2:m = "extend"
  ·subst e2
   rw[if_pos rfl]at h;exact YT (P:=fun c=>PS X _ (tS X.K (ex F c))) h fun i y hi hx=>Ye (ps_expr (pe_bm PySem.F.plainAttrs_list PySem.F.slot_list_extend PySem.F.type_list_extend mt_extend (ZdE K.toCxt hc.1 hi) (pa1 (Zn hx) (ihE X sc N K.toCxt _ y hx).pe) rfl (by rw[Zm (Zn hx)];rfl) hc.2 (Zm (Zn hx)) rfl) rfl) Ze6
  ·rw[if_neg e2]at h;cases h
theorem ZfV{n:Nat}(ihE:ZG G F n)(hA:Vu G F n){X:Cx}{sc:Scope}{N:List Str}(K:CxtS X G F sc N){c:CS}{tg e:Expr}{pos:Pos}(h:Zip N tg e (cE G n sc N e)=some c):PS X (.Assign [tg] e pos) (tS X.K (ex F c)):=by
 have no:∀ {P:Prop},(none:Option CS)=some c→P:=fun z=>nomatch z
 cases tg with
 |Name x p=>exact ZhS ihE hA K h
 |Tuple es ctx tp=>cases es with
  |nil=>exact no h
  |cons a es=>cases a with
   |Name _ _=>cases es with
    |nil=>exact no h
    |cons b es=>cases b with
     |Name _ _=>cases es with
      |nil=>exact Zf3 ihE K h
      |cons c2 es=>cases c2 with
       |Name _ _=>cases es with
        |nil=>exact Zf4 ihE K h
        |cons _ _=>exact no h
       |_=>exact no h
     |_=>exact no h
   |_=>exact no h
 |_=>exact no h
theorem Zf0{n:Nat}(ihE:ZG G F n)(ihA:Xg G F n)(ihS:Yz G F n){X:Cx}{sc:Scope}{N:List Str}(K:CxtS X G F sc N){c:CS}{tg it:Expr}{b:List Stmt}{pos:Pos}(h:Zhc G sc N (cE G n sc N) (cEs G n sc N) tg it (cSs G n sc N b)=some c):PS X (.For tg it b [] pos) (tS X.K (ex F c)):=by
 have no:∀ {P:Prop},(none:Option CS)=some c→P:=fun z=>nomatch z
 cases tg with
 |Name x p=>
  unfold Zhc at h;cases hr:W2 G sc it with
  |some as=>
   rw[hr]at h;exact ZfY ihA ihS K hr h
  |none=>
   rw[hr]at h;exact ZfW ihE ihS K h
 |Tuple es ctx tp=>cases es with
  |nil=>exact no h
  |cons a es=>cases a with
   |Name x p=>cases es with
    |nil=>exact no h
    |cons b2 es=>cases b2 with
     |Name y p2=>cases es with
      |nil=>
       replace h:((o2 (fun i j=>og (i≠j) (some (i,j))) (N.idxOf? x) (N.idxOf? y)).join.bind fun p=>(match Vt G sc it with
        |some as=>o2 (CS.forP p.1 p.2) (cEs G n sc N as) (cSs G n sc N b)
        |none=>match Vk G sc it with
         |some e=>o2 (CS.forE p.1 p.2) (cE G n sc N e) (cSs G n sc N b)
         |none=>o2 (CS.for2 p.1 p.2) (cE G n sc N it) (cSs G n sc N b)))=some c:=h
       refine b_e h fun q hq h=>j_e hq fun hq=>YT (P:=fun o=>o=some q→PS X _ (tS X.K (ex F c))) hq (fun i j hi hj e=>VY e fun _ e=>?_) rfl
       cases e;cases hz:Vt G sc it with
       |some as=>
        rw[hz]at h;exact Zf2 ihA ihS K hi hj hz h
       |none=>
        rw[hz]at h;dsimp only at h;cases he:Vk G sc it with
        |some e=>
         rw[he]at h;exact Zf1 ihE ihS K hi hj he h
        |none=>
         rw[he]at h;exact ZfX ihE ihS K hi hj h
      |cons c2 es=>cases c2 with
       |Name _ _=>cases es with
        |nil=>exact ZfZ ihE ihS K h
        |cons _ _=>exact no h
       |_=>exact no h
     |_=>exact no h
   |_=>exact no h
 |_=>exact no h
theorem ZfU{n:Nat}(ihE:ZG G F n){X:Cx}{sc:Scope}{N:List Str}(K:CxtS X G F sc N){c:CS}{m:Str}{o k e:Expr}{p ap cp pos:Pos}(h:og (m = "append"∧(ap.endLine==cp.line)=true) (o2 CS.app2 (cE G n sc N (.Subscript o k p)) (cE G n sc N e))=some c):PS X (.Expr (.Call (.Attribute (.Subscript o k p) m ap) [e] [] cp) pos) (tS X.K (ex F c)):=by
 refine VY h fun hc h'=>?_
 obtain⟨e1,hl⟩:=hc;subst e1;exact YT (P:=fun c=>PS X _ (tS X.K (ex F c))) h' fun z y hz hx=>Ye (ps_expr (pe_bm PySem.F.plainAttrs_list PySem.F.slot_list_append PySem.F.type_list_append mt_append (ihE X sc N K.toCxt _ z hz).pe (pa1 (Zn hx) (ihE X sc N K.toCxt _ y hx).pe) rfl (by rw[Zm (Zn hx)];rfl) hl (Zm (Zn hx)) rfl) rfl) ZcW
theorem ZfT{n:Nat}(ihE:ZG G F n){X:Cx}{sc:Scope}{N:List Str}(K:CxtS X G F sc N){c:CS}{v:Expr}{pos:Pos}(h:Zim sc N (cE G n sc N) v=some c):PS X (.Expr v pos) (tS X.K (ex F c)):=by
 have no:∀ {P:Prop},(none:Option CS)=some c→P:=fun z=>nomatch z
 cases v with
 |Call f as kw cp=>cases f with
  |Attribute o m ap=>cases o with
   |Name x p=>cases as with
    |nil=>exact no h
    |cons e es=>cases es with
     |nil=>cases kw with
      |nil=>exact ZhR ihE K h
      |cons _ _=>exact no h
     |cons _ _=>exact no h
   |Subscript o k p=>cases as with
    |nil=>exact no h
    |cons e es=>cases es with
     |nil=>cases kw with
      |nil=>exact ZfU ihE K h
      |cons _ _=>exact no h
     |cons _ _=>exact no h
   |_=>exact no h
  |Name f fp=>exact ZhQ ihE K h
  |_=>exact no h
 |_=>exact no h
theorem JL{n:Nat}(ihE:ZG G F n)(ihA:Xg G F n)(ihS:Yz G F n)(hA:Vu G F n):JU G F (n+1):=by
 intro X sc N K s c h;have no:∀ {P:Prop},(none:Option CS)=some c→P:=fun z=>nomatch z
 cases s with
 |Assign tgs e pos=>cases tgs with
  |nil=>exact no h
  |cons t ts=>cases ts with
   |cons _ _=>cases t with
    |Subscript o k p=>cases o<;>exact no h
    |_=>exact no h
   |nil=>cases t with
    |Subscript o k p=>cases o with
     |Name x q=>exact ZhT ihE K h
     |_=>exact no h
    |_=>exact ZfV ihE hA K h
 |Return e pos=>cases e with
  |none=>exact no h
  |some e=>exact ZhU ihE K h
 |If e a b pos=>exact Zi9 ihE ihS K h
 |For t it b oe pos=>cases oe with
  |cons _ _=>exact no h
  |nil=>exact Zf0 ihE ihA ihS K h
 |Expr v pos=>exact ZfT ihE K h
 |Pass pos=>
  cases (show some CS.skip=some c from h)
  exact Ye ps_pass Jg
 |Break pos=>
  cases (show some CS.brk=some c from h)
  exact Ye ps_break Ze5
 |Raise a b pos=>
  cases (show some CS.stop=some c from h)
  exact fun pins s σ H D I q=>by
   obtain⟨_,_,_,_,_,_,_,e,_⟩:=YC q;cases e
 |Continue pos=>
  cases (show some CS.cont=some c from h)
  exact Ye ps_continue ZcX
 |_=>exact no h
theorem QH{n:Nat}(ihS:JU G F n)(ihSs:Yz G F n):Yz G F (n+1):=by
 intro X sc N K s c h;cases s with
 |nil=>
  simp only[cSs]at h;cases h;exact Zbg pss_nil Jg
 |cons s r=>
  exact YT (P:=fun c=>PSs X _ (tS X.K (ex F c))) (show o2 CS.seq (cS G n sc N s) (cSs G n sc N r)=some c from h) fun a b ha hb=>Zbg (pss_cons (ihS X sc N K s a ha) (ihSs X sc N K r b hb)) Zfg
end
end Dp



namespace Dp
open PySem PySem.Spec PyProof.Rows L2
variable [ClsTab]
def Xy(G:Gs)(F:Nat→Fn):Prop:=∀ n,ZG G F n→(∀ X sc N,Cxt X G F sc N→∀ elt gens sc2 pos c,cE G (n+1) sc N (.ListComp elt gens sc2 pos)=some c→SE X F (.ListComp elt gens sc2 pos) c)∧Vu G F (n+1)
theorem UU{G:Gs}{F:Nat→Fn}(hc:Xy G F):∀ n,(ZG G F n∧Xg G F n∧U5 G F n)∧JU G F n∧Yz G F n∧Vu G F n
 |0=>⟨⟨fun X sc N K e c h=>(nomatch (show(none:Option CE)=some c from h)),fun X sc N K e c h=>(nomatch (show(none:Option CE)=some c from h)),fun X sc N K e c h=>(nomatch (show(none:Option CE)=some c from h))⟩,fun X sc N K e c h=>(nomatch (show(none:Option CS)=some c from h)),fun X sc N K e c h=>(nomatch (show(none:Option CS)=some c from h)),fun X sc N K x i p elt gens sc2 epos pos c _ h=>(nomatch (show(none:Option CE)=some c from h))⟩
 |n+1=>by
  obtain⟨⟨hE,hA,hO⟩,hS,hSs,hCA⟩:=UU hc n;exact⟨⟨ZaC hE hA hO (hc n hE).1,JJ hE hA,JK hE⟩,JL hE hA hSs hCA,QH hS hSs,(hc n hE).2⟩
def Zbv(K:PySem.W.Frag)(G:Gs)(T:Nat→Option FD)(x y:Str)(i:Nat)(f:Addr)(fd:FuncData)(pn N:List Str):Prop:=∃ (st:Stmt) (oc:Value) (od:Option Addr) (dV kV doc pm:Value) (an:Option Addr) (cdv ct:Value) (osl:Array (Option Value)) (code:CS),
  fd=PySem.W.fnOf x y (defArgs st) (defBody st) (defScope st) dV kV doc pm an cdv ct∧K.lookup f=some ⟨oc,od,.func fd,osl⟩∧PySem.W.codeIn K cdv y=true∧FnScope N pn (defScope st)∧(∀ y∈N,Loc (defScope st) y) ∧
  cSs G 60 (defScope st) N (defBody st)=some code∧T i=some ⟨pn.length,N.length,code⟩
def Zeu(K:PySem.W.Frag)(mg:Str→Option Value)(G:Gs)(T:Nat→Option FD)(i:Nat)(f:Addr)(fd:FuncData)(pn:List Str):Prop:=∀ (P:Program) (w:World) (base:Heap) (n:Nat),(∀ m,m≤n→∀ A,Room m A→∀ y g,G.lookup y=some g→GOk P w K mg base A (run T m) y g)→FnOk P w K mg base CX0 (n+1) f fd pn (spD K (run T (n+1) i))
structure DefOk(K:PySem.W.Frag)(mg:Str→Option Value)(G:Gs)(T:Nat→Option FD)(x:Str)(i:Nat)(ds:List D)(f:Addr)(fd:FuncData)(pn N:List Str):Prop where
 ob:Zbv K G T x x i f fd pn N∨Zeu K mg G T i f fd pn
 kp:PySem.W.keepIn K (.ref f)=true
 at_:mg x=some (.ref f)
 bn:∀ m,m≤ds.length→∃ dvs us,(∀ ad H,Dens K ad H dvs (ds.drop m))∧Vals dvs us∧Binds K fd pn us
structure MethOk(K:PySem.W.Frag)(G:Gs)(T:Nat→Option FD)(C:Addr)(x y:Str)(i:Nat)(f:Addr)(fd:FuncData)(pn N:List Str):Prop where
 ob:Zbv K G T x y i f fd pn N
 mt:Meth K C x f
 bn:Binds K fd pn []
structure Text(Pm:Params)(K:PySem.W.Frag)(mg:Str→Option Value)(G:Gs)(T:Nat→Option FD):Prop where
 cst:∀ x d,G.lookup x=some (.cst d)→∃ v u,mg x=some u∧RelV v u∧∀ ad H,Den K ad H v d
 blt:∀ x,G.lookup x=some .blt→mg x=none
 dct:∀ x ks ds,G.lookup x=some (.dct ks ds)→ZaM Pm K mg x ks ds
 fn:∀ x i ps ds,G.lookup x=some (.fn i ps ds)→∃ f fd pn N,DefOk K mg G T x i ds f fd pn N
 cls:∀ x i ms subs,G.lookup x=some (.cls i ms subs)→(mg x=some (.ref (ClsTab.ca i))∧NewOk K (ClsTab.ca i)∧∀ i',subs.contains i'=true→SubOk K (ClsTab.ca i') (ClsTab.ca i)) ∧
  ∀ m j ps,ms.lookup m=some (j,ps)→∃ y f fd pn N,MethOk K G T (ClsTab.ca i) m y j f fd pn N
section
variable {P:Program}{w:World}{K:PySem.W.Frag}{mg:Str→Option Value}{base:Heap}{G:Gs}{T:Nat→Option FD}
theorem Zeq{sc:Scope}{x:Str}(h:WE sc x=true):Vis sc x:=by
 unfold WE at h;rw[Bool.and_eq_true]at h;have h:=h.2;split at h
 ·rename_i q;exact .inl q
 ·rename_i q;exact .inr (.inl q)
 ·rename_i q;exact .inr (.inr q)
 ·cases h
theorem ZaX{sc:Scope}{x:Str}(h:Z2 sc x=true):sc.names.lookup x=some .globalImplicit:=by
 unfold Z2 at h;rw[Bool.and_eq_true]at h;have h:=h.2;split at h
 ·rename_i q;exact q
 ·cases h
theorem ZaT{sc:Scope}{x:Str}(h:VN sc x=true):sc.names.lookup x=some .cell∨sc.names.lookup x=some .free:=by
 unfold VN at h;split at h
 ·rename_i q;exact .inl q
 ·rename_i q;exact .inr q
 ·cases h
theorem ZbR{K:PySem.W.Frag}{ad:List Addr}{H:Hp}{N:List Str}{vs:List V}{ds:List D}(h:Dens K ad H vs ds)(hl:ds.length≤N.length):EnvOk K ad H (L2.start N vs) (ds.map some++List.replicate (N.length - ds.length) none):=by
 have e:=h.length;refine⟨by unfold L2.start;simp[e],fun i d q=>?_⟩
 by_cases hi:i < ds.length
 ·rw[List.getElem?_append_left (by simpa using hi),List.getElem?_map,List.getElem?_eq_getElem hi]at q
  have q':ds[i]=d:=by simpa using q
  have g:ds[i]?=some d:=by rw[List.getElem?_eq_getElem hi,q']
  obtain⟨v,e1,e2⟩:=h.get g;refine⟨v,?_,e2⟩;unfold L2.start;rw[List.getElem?_append_left (by simpa[e] using hi),List.getElem?_map,e1]
  rfl
 ·rw[List.getElem?_append_right (by simpa using hi),List.getElem?_replicate]at q
  split at q<;>cases q
theorem Zhw{n:Nat}(hc:∀ n,Xy G (run T n))(gl:∀ A,Room n A→∀ y g,G.lookup y=some g→GOk P w K mg base A (run T n) y g){x y:Str}{i:Nat}{f:Addr}{fd:FuncData}{pn N:List Str}(ob:Zbv K G T x y i f fd pn N):FnOk P w K mg base CX0 (n+1) f fd pn (spD K (run T (n+1) i)):=by
 obtain⟨st,oc,od,dV,kV,doc,pm,an,cdv,ct,osl,code,rfl,lk,hcd,S,hloc,hcode,hT⟩:=ob;have hrun:run T (n+1) i=fnD (run T n) ⟨pn.length,N.length,code⟩:=by
  show(match T i with|some f=>fnD (run T n) f|none=>fun _ _=>none)=_
  rw[hT]
 refine fn_of lk hcd S (fun vs H Q E h=>?_) (fun A outer s H vs Q E hr h=>?_)
 ·obtain⟨ad,es,st,d,st',_,hd,e,_⟩:=h
  rw[hrun]at e;unfold fnD at e;split at e
  ·rename_i hl
   rw[hd.length];exact hl
  ·cases e
 ·obtain⟨ad,es,s0,d,st',S0,hd,e,p⟩:=h
  rw[hrun]at e;unfold fnD at e;split at e
  ·rename_i hl
   have C:CxtS (cxOf CX0 P w K mg base N y (defScope st) f cdv A outer s H E).nox G (run T n) (defScope st) N:={
    hN:=rfl
    vis:=fun y hy=>Zeq hy
    glb:=fun y hy=>ZaX hy
    calm:=rfl
    hu:=hr.units
    gl:=gl _ hr
    cel:=fun y hy=>ZaT hy
    nx:=rfl
    nd:=S.nd
    loc:=hloc
    fn:=fun _=>rfl }
   have B:=(UU (hc n) 60).2.2.1 _ _ _ C _ _ hcode;have hpl:pn.length≤N.length:=by have:=congrArg List.length S.pre;rw[List.length_take]at this;omega
   have E0':=ZbR (N:=N) hd (by rw[show es.length=pn.length from hl];exact hpl)
   refine⟨_,B.nox,?_⟩;split at e
   ·rename_i d' st1 q
    cases e;exact YM E0' S0 q p
   ·rename_i ρ st1 q
    cases e;exact YM E0' S0 q fun σ1 ad1 H1 x1 S1 E1=>(p.later x1).at S1 .non
   ·cases e
  ·cases e
theorem Zgd{i:Nat}{f:Addr}{fd:FuncData}{pn:List Str}:FnOk P w K mg base CX0 0 f fd pn (spD K (run T 0 i)):=by
 refine⟨fun vs H Q E h=>?_,fun A outer s H args us vs Q E _ _ _ _ h=>?_⟩
 ·obtain⟨_,_,_,_,_,_,_,e,_⟩:=h;cases e
 ·obtain⟨_,_,_,_,_,_,_,e,_⟩:=h;cases e
theorem Zgr{n:Nat}(X:Text w.params K mg G T)(F1:∀ {x y:Str}{i:Nat}{f:Addr}{fd:FuncData}{pn N:List Str},Zbv K G T x y i f fd pn N∨Zeu K mg G T i f fd pn→FnOk P w K mg base CX0 n f fd pn (spD K (run T n i)))(A:Around)(hr:Room n A):∀ y g,G.lookup y=some g→GOk P w K mg base A (run T n) y g:=fun y g hg=>by
 cases g with
 |cst d=>exact X.cst y d hg
 |blt=>exact X.blt y hg
 |dct ks ds=>exact X.dct y ks ds hg
 |fn j qs es=>
  obtain⟨f,fd,pn,N,Dk⟩:=X.fn y j qs es hg;exact⟨n,f,fd,pn,F1 Dk.ob,hr,Dk.at_,Dk.kp,Dk.bn⟩
 |cls i ms subs=>
  obtain⟨⟨h1,h2,h3⟩,h4⟩:=X.cls y i ms subs hg;refine⟨h1,h2,h3,fun m j ps hm=>?_⟩
  obtain⟨z,f,fd,pn,N,Mk⟩:=h4 m j ps hm;exact⟨n,f,fd,pn,F1 (.inl Mk.ob),hr,Mk.mt,Mk.bn⟩
theorem JY(hc:∀ n,Xy G (run T n))(X:Text w.params K mg G T):∀ (n m:Nat),m≤n→∀ {x y:Str}{i:Nat}{f:Addr}{fd:FuncData}{pn N:List Str},Zbv K G T x y i f fd pn N∨Zeu K mg G T i f fd pn→FnOk P w K mg base CX0 m f fd pn (spD K (run T m i))
 |n,0,_,_,_,_,_,_,_,_,_=>Zgd
 |n+1,m+1,h,_,_,_,_,_,_,_,.inl ob=>Zhw hc (fun A hr=>Zgr X (fun ob=>JY hc X n m (Nat.le_of_succ_le_succ h) ob) A hr) ob
 |n+1,m+1,h,_,_,_,_,_,_,_,.inr hd=>hd P w base m fun l hl A hr=>Zgr X (fun ob=>JY hc X n l (Nat.le_trans hl (Nat.le_of_succ_le_succ h)) ob) A hr
theorem ZgL(hc:∀ n,Xy G (run T n))(X:Text w.params K mg G T)(n:Nat){x y:Str}{i:Nat}{f:Addr}{fd:FuncData}{pn N:List Str}(h:Zbv K G T x y i f fd pn N∨Zeu K mg G T i f fd pn):FnOk P w K mg base CX0 n f fd pn (spD K (run T n i)):=JY hc X n n (Nat.le_refl _) h
end
end Dp



namespace Dp
open PySem PySem.Spec PyProof.Rows L2
variable [ClsTab]
section
variable {ad:List Addr}{H:Hp}{p:Addr}{xs ys:List V}
theorem Qp(hp:H p=some (.lst xs)){a:Addr}:Y5 H a↔Y5 (upd H p (.lst ys)) a:=ZaL (Qs hp fun _ z=>nomatch z) fun _ z=>nomatch z
theorem Zah{K:PySem.W.Frag}(hp:H p=some (.lst xs)):Keeps K ad ad H (upd H p (.lst ys)):=⟨fun h=>h.upd hp (by intro xs z;cases z),fun h=>⟨h,Qp hp⟩,fun _ h=>by rw[upd_ne (ne_of h hp (by intro z;cases z))];exact h,fun h n=>⟨by rw[upd_ne (ne_of h hp (by intro z;cases z))];exact h,n⟩⟩
theorem Den.wr{K:PySem.W.Frag}(hp:H p=some (.lst xs)){v:V}{d:D}(h:Den K ad H v d):Den K ad (upd H p (.lst ys)) v d:=h.map (Zah hp)
theorem Dens.wr{K:PySem.W.Frag}(hp:H p=some (.lst xs)){vs:List V}{ds:List D}(h:Dens K ad H vs ds):Dens K ad (upd H p (.lst ys)) vs ds:=h.map (Zah hp)
theorem EnvOk.wr{K:PySem.W.Frag}{σ:L2.St}{ρ:Env}(hp:H p=some (.lst xs))(h:EnvOk K ad H σ ρ):EnvOk K ad (upd H p (.lst ys)) σ ρ:=⟨h.len,fun i d e=>let ⟨v,e1,e2⟩:=h.at_ i d e;⟨v,e1,e2.wr hp⟩⟩
theorem StOk.wr{K:PySem.W.Frag}{st:Za}(S:StOk K ad H st)(hp:H p=some (.lst xs))(hn:p∉ad):StOk K ad (upd H p (.lst ys)) st:=
 S.wrG (Zah hp) hn
theorem Ext.wr{ad0:List Addr}{H0:Hp}(x:Ext ad0 H0 ad H)(hp:H p=some (.lst xs))(h0:H0 p=none):Ext ad0 H0 ad (upd H p (.lst ys)):=by
 refine⟨x.pre,fun b zs h=>?_,fun b zs h=>?_,fun b o h n=>?_,x.new,fun i a h=>(x.kd i a h).trans (Qp hp)⟩
 ·rw[upd_ne (ne_of_none h h0)];exact x.tup b zs h
 ·rw[upd_ne (ne_of_none h h0)];exact x.dk b zs h
 ·rw[upd_ne (ne_of_none h h0)];exact x.keep b o h n
end
theorem VR{c:Str→NameKind→Bool}:∀ {l:List (Str×NameKind)}{y:Str},(l.map fun(n,k)=>if c n k=true then (n,NameKind.cell) else (n,k)).lookup y=(l.lookup y).map fun k=>if c y k=true then NameKind.cell else k
 |[],_=>rfl
 | (n,k) :: r,y=>by
  have ih:=@VR c r y;rw[List.map_cons];have e:(if c n k=true then (n,NameKind.cell) else (n,k))=(n,if c n k=true then NameKind.cell else k):=by split<;>rfl
  show List.lookup y ((if c n k=true then (n,NameKind.cell) else (n,k)) :: _)=_
  rw[e,List.lookup_cons,List.lookup_cons];cases q:y==n with
  |true=>rw[beq_iff_eq.mp q];rfl
  |false=>exact ih
theorem Y8{sc:Scope}{env:PySem.Env}{y:Str}:(relabel sc env).names.lookup y=(sc.names.lookup y).map fun k=>if (k==NameKind.free&&env.scope.kind==.function&&env.kindOf y==some .cell)=true then NameKind.cell else k:=
 VR (c:=fun n k=>k==NameKind.free&&env.scope.kind==.function&&env.kindOf n==some .cell)
theorem Xp{sc:Scope}{env:PySem.Env}{y:Str}{k:NameKind}(h:sc.names.lookup y=some k)(hk:k≠.free):(relabel sc env).names.lookup y=some k:=by
 rw[Y8,h];have:(k==NameKind.free)=false:=by simpa using hk
 show some (if (k==NameKind.free&&_&&_)=true then NameKind.cell else k)=some k
 rw[this,Bool.false_and,Bool.false_and,if_neg Bool.false_ne_true]
theorem XD{sc:Scope}{env:PySem.Env}{y:Str}(h:sc.names.lookup y=some .free):(relabel sc env).names.lookup y=some .cell∨(relabel sc env).names.lookup y=some .free:=by
 rw[Y8,h];show(some (if _ then NameKind.cell else NameKind.free))=_∨(some (if _ then NameKind.cell else NameKind.free))=_
 split
 ·exact .inl rfl
 ·exact .inr rfl
theorem QD{sc:Scope}{env:PySem.Env}{y:Str}(hc:∀ p∈sc.names,p.2≠.cell)(h:(relabel sc env).names.lookup y=some .cell∨(relabel sc env).names.lookup y=some .free):sc.names.lookup y=some .free:=by
 rw[Y8]at h;cases q:sc.names.lookup y with
 |none=>rw[q]at h;rcases h with h|h<;>cases h
 |some k=>
  rw[q]at h;cases k with
  |free=>rfl
  |cell=>
   have:∀ {l:List (Str×NameKind)},l.lookup y=some .cell→∃ p∈l,p.2=.cell:=fun {l} e=>by
    induction l with
    |nil=>cases e
    |cons a l ih=>
     obtain⟨n,k⟩:=a;rw[List.lookup_cons]at e;split at e
     ·cases e;exact⟨_,List.mem_cons_self,rfl⟩
     ·obtain⟨p,hp,e'⟩:=ih e;exact⟨p,List.mem_cons_of_mem _ hp,e'⟩
   obtain⟨p,hp,e⟩:=this q;exact absurd e (hc p hp)
  |_=>rcases h with h|h<;>simp at h
theorem Wl{env:PySem.Env}:∀ (l:List (Str×NameKind)) (acc:List (Str×Addr)),(∀ p∈l,p.2=.free→∃ c,env.cells.lookup p.1=some c)→
  ∃ cl,(forIn l acc fun(x:Str×NameKind) (r:List (Str×Addr))=>(do
   if (x.2==NameKind.free)=true then
    let a ←cellOf env x.1
    pure (ForInStep.yield ((x.1,a) :: r))
   else pure (ForInStep.yield r):Sem (ForInStep (List (Str×Addr)))))=pure cl ∧
   (∀ y c,cl.lookup y=some c→acc.lookup y=some c∨((y,NameKind.free)∈l∧env.cells.lookup y=some c))∧(∀ y,(y,NameKind.free)∈l∨(acc.lookup y).isSome→(cl.lookup y).isSome)
 |[],acc,_=>⟨acc,by simp only[List.forIn_nil],fun y c h=>.inl h,fun y h=>by simpa using h⟩
 | (n,k) :: l,acc,h=>by
  by_cases hk:k=.free
  ·subst hk
   obtain⟨c0,hc0⟩:=h (n,.free) List.mem_cons_self rfl;obtain⟨cl,e,h1,h2⟩:=Wl (env:=env) l ((n,c0) :: acc) fun p hp=>h p (List.mem_cons_of_mem _ hp)
   refine⟨cl,?_,fun y c q=>?_,fun y q=>?_⟩
   ·rw[List.forIn_cons]
    simp only[beq_self_eq_true,if_true];have:cellOf env n=pure c0:=by unfold cellOf;rw[hc0]
    simp only[this,pure_bind];exact e
   ·rcases h1 y c q with z|⟨z1,z2⟩
    ·rw[List.lookup_cons]at z
     split at z
     ·rename_i hy
      cases z;rw[beq_iff_eq.mp hy];exact .inr ⟨List.mem_cons_self,hc0⟩
     ·exact .inl z
    ·exact .inr ⟨List.mem_cons_of_mem _ z1,z2⟩
   ·refine h2 y ?_
    rcases q with q|q
    ·rcases List.mem_cons.mp q with z|z
     ·cases z
      exact .inr (by rw[List.lookup_cons];simp)
     ·exact .inl z
    ·refine .inr ?_
     rw[List.lookup_cons];split
     ·rfl
     ·exact q
  ·obtain⟨cl,e,h1,h2⟩:=Wl (env:=env) l acc fun p hp=>h p (List.mem_cons_of_mem _ hp)
   refine⟨cl,?_,fun y c q=>?_,fun y q=>?_⟩
   ·rw[List.forIn_cons]
    have:(k==NameKind.free)=false:=by simpa using hk
    simp only[this,Bool.false_eq_true,if_false,pure_bind];exact e
   ·rcases h1 y c q with z|⟨z1,z2⟩
    ·exact .inl z
    ·exact .inr ⟨List.mem_cons_of_mem _ z1,z2⟩
   ·refine h2 y ?_
    rcases q with q|q
    ·rcases List.mem_cons.mp q with z|z
     ·cases z;exact absurd rfl hk
     ·exact .inl z
    ·exact .inr q
theorem Q1{env:PySem.Env}{sc:Scope}(h:∀ p∈sc.names,p.2=.free→∃ c,env.cells.lookup p.1=some c):∃ cl,closureFor sc env=pure cl∧(∀ y c,cl.lookup y=some c→env.cells.lookup y=some c)∧∀ y,(y,NameKind.free)∈sc.names→(cl.lookup y).isSome:=by
 obtain⟨cl,e,h1,h2⟩:=Wl (env:=env) sc.names [] h;refine⟨cl,?_,fun y c q=>?_,fun y q=>h2 y (.inl q)⟩
 ·unfold closureFor
  rw[show(fun(x:Str×NameKind) (r:List (Str×Addr))=>_)=_ from rfl]at e
  first|exact(by simp only[e,pure_bind]) | (simp only[bind_pure]at *;exact e)|exact e
 ·rcases h1 y c q with z|⟨_,z⟩
  ·cases z
  ·exact z
end Dp



namespace Dp
open PySem PySem.Spec PyProof.Rows L2
variable [ClsTab]
theorem Q2{prog:Program}{w:World}{A:Around}{R:Result→Shared→Prop}{s:Shared}{elt target iter:Expr}{ifs:List Expr}{scope:Scope}{pos:Pos}{it acc:Value}{env:PySem.Env}(I:Nat→Shared→Prop)(turn:∀ n s,I n s→wpAny (model prog w) A (pyNext it) (fun r s₁=>match r with
   |none=>R (.ok .next) s₁
   |some v=>wpAny (model prog w) A (letOwnedTupleGo target it v) (fun _ s₁'=>wpAny (model prog w) A (assign target env v) (fun _ s₂=>
     wpAny (model prog w) A (forIn ifs true fun c r=>if r=true then do let ok ←isTrue c env (eval c env);pure (ForInStep.yield ok) else pure (ForInStep.yield r)) (fun ok s₃=>
      if ok=true then wpAny (model prog w) A (eval elt env) (fun x s₄=>
       wpAny (model prog w) A (call (.builtin "list.append") [acc,x]) (fun _ s₅=>∃ m,m < n∧I m s₅) (notedBy (model prog w) A env fun e s'=>R (.error e) s') s₄) (notedBy (model prog w) A env fun e s'=>R (.error e) s') s₃
      else ∃ m,m < n∧I m s₃) (notedBy (model prog w) A env fun e s'=>R (.error e) s') s₂) (notedBy (model prog w) A env fun e s'=>R (.error e) s') s₁') (notedBy (model prog w) A env fun e s'=>R (.error e) s') s₁) (notedBy (model prog w) A env fun e s'=>R (.error e) s') s)(n:Nat)(h:I n s):codeAny (model prog w) A (.compLoop (.ListComp elt [⟨target,iter,ifs,0⟩] scope pos) 0 it acc env) R s:=by
 refine codeAny_loop rfl I (fun n s hI=>?_) n h
 show wpAny _ A ((compTurn (.ListComp elt [⟨target,iter,ifs,0⟩] scope pos) 0 it acc env).onRaise (fun x=>do noteFrame x env;theTreesLotGoes x)) _ _ s
 refine wpAny_noted ?_;rw[compTurn_list];refine wpAny_bind (wpAny_standAt (wpAny_bind (wpAny_mono (turn n s hI) (fun r s₁ h₁=>?_) fun _ _ h'=>h')))
 cases r with
 |none=>exact wpAny_pure h₁
 |some v=>
  refine wpAny_bind (wpAny_mono h₁ (fun _ s₁' h₁=>?_) fun _ _ h'=>h')
  refine wpAny_bind (wpAny_mono h₁ (fun _ s₂ h₂=>wpAny_bind (wpAny_mono h₂ (fun ok s₃ h₃=>?_) fun _ _ h'=>h')) fun _ _ h'=>h')
  cases ok with
  |false=>exact wpAny_pure ⟨rfl,h₃⟩
  |true=>
   exact wpAny_bind (wpAny_bind (wpAny_mono h₃ (fun x s₄ h₄=>wpAny_bind (wpAny_mono h₄ (fun _ s₅ h₅=>wpAny_pure (wpAny_pure ⟨rfl,h₅⟩)) fun _ _ h'=>h')) fun _ _ h'=>h'))
noncomputable def cxC(X:Cx)(N:List Str)(env:PySem.Env)(s3:Shared)(H3:Hp)(fp:List Addr)(pins:List (Addr×Obj)):Cx:=
 { X with N:=N,s₀:=s3,H₀:=H3,env:=env,outer:=X.stack,ex:=fp,fn:=fun _=>false,pn:=X.pn++pins,xe:=fun _ _=>False }
section
variable {X:Cx}{pins:List (Addr×Obj)}{σ:L2.St}{H H3:Hp}{s3:Shared}{sc2:Scope}{cl:List (Str×Addr)}{fp:List Addr}{N:List Str}
theorem Zdb(I3:L2.Inv X pins σ H3 s3){m0:Str→Option Value}{h4:Heap}{tk:Nat}{σ':L2.St}(hk:sc2.kind=.function)(hcell:∀ p∈sc2.names,p.2≠.cell)(hns:h4.Ns s3.heap.objs.size m0)(up:∀ b u,s3.heap.get? b=some u→h4.get? b=some u)(c1:∀ y c,cl.lookup y=some c→X.env.cells.lookup y=some c)(c2:∀ y,sc2.names.lookup y=some .free→(cl.lookup y).isSome)(f3:∀ b∈fp,FpOk X pins H3 b)(fb:∀ b∈fp,b < s3.heap.objs.size)(hσ:∀ (i:Nat) (y:Str) (v:V),N[i]?=some y→σ'[i]?=some (some v)→∃ j:Nat,X.N[j]?=some y∧σ[j]?=some (some v)∧sc2.names.lookup y=some .free∧(X.env.scope.names.lookup y=some .cell∨X.env.scope.names.lookup y=some .free))(hl:σ'.length=N.length) :
  L2.Inv (cxC X N (compEnvC sc2 cl s3.heap.objs.size X.env) s3 H3 fp pins) [] σ' H3 { s3 with heap:=h4,toks:=tk } where
 ok:={
  mod:=I3.ok.mod
  kind:=hk
  glob:=I3.ok.glob
  blt:=I3.ok.blt
  above:=Nat.le_refl _
  inj:=fun x y c e e'=>I3.ok.inj x y c (c1 _ _ e) (c1 _ _ e')
  has:=fun x h=>by
   have e:=QD (env:=X.env) hcell h;have:=c2 x e;cases q:cl.lookup x with
   |none=>rw[q]at this;cases this
   |some c=>exact⟨c,q⟩
  cab:=fun x c h=>nomatch h
  hd:=I3.ok.hd
  frames:=I3.ok.frames
  stk:=.inl rfl
  exf:=fun b hb=>⟨Nat.ne_of_lt (fb b hb),fun x c e=>(f3 b hb).2.2.2.2.1 x c (c1 _ _ e)⟩
  bs:=I3.bs
  bsz:=Nat.le_trans I3.ok.bsz I3.sz
  noex:=fun b o e hb=>by
   rcases (f3 b hb).2.2.2.1 with z|z
   ·exact I3.ok.noex b o e z
   ·exact absurd (Nat.lt_of_lt_of_le (Heap.lt_size e) (Nat.le_trans I3.ok.bsz z)) (Nat.lt_irrefl _)
  exfs:=fun b hb hs=>by
   rcases List.mem_cons.mp (I3.stkSub b hs) with z|z
   ·exact(f3 b hb).2.1 z
   ·exact(f3 b hb).2.2.1 z
  funs:=I3.stack
  frf:=I3.stkFree }
 os:=rfl
 bare:=I3.bare
 base:=Un.kept up
 loc:=⟨m0,hns,fun i y v e1 e2 e3=>by
  obtain⟨j,g1,g2,g3,g4⟩:=hσ i y v e1 e2;obtain⟨m,hn,hl'⟩:=I3.loc;obtain⟨u,r,l⟩:=hl' j y v g1 g2 (.inr g4);refine⟨u,r,.inr ⟨XD g3,?_⟩⟩;rcases l with⟨z,_⟩|⟨_,c,e,z⟩
  ·have z':X.env.scope.names.lookup y=some .local:=z
   rcases g4 with w|w<;>(rw[z']at w;cases w)
  ·have q:=c2 y g3
   cases q':cl.lookup y with
   |none=>rw[q']at q;cases q
   |some c'=>
    have:=c1 _ _ q';rw[e]at this;cases this
    obtain⟨o,ho,hd⟩:=z;exact⟨c,q',o,up c o ho,hd⟩⟩
 cell:=fun y c e=>by
  obtain⟨v,o,ho,hd⟩:=I3.cell y c (c1 _ _ e);exact⟨v,o,up c o ho,hd⟩
 free:=I3.hok.fresh (Nat.le_refl _)
 freeC:=fun y c e=>I3.freeC y c (c1 _ _ e)
 pin:=fun p hp=>by
  have hp':p∈X.pn++pins:=by simpa[cxC] using hp
  obtain⟨e,n,ne,nf,d⟩:=I3.pin p hp';refine⟨up _ _ e,n,Nat.ne_of_lt (Heap.lt_size e),fun hs=>?_,d⟩
  rcases List.mem_cons.mp (I3.stkSub _ hs) with z|z
  ·exact ne z
  ·exact nf z
 hok:=I3.hok.kept up
 len:=hl
theorem Zda(I3:L2.Inv X pins σ H3 s3){env:PySem.Env}{pins':List (Addr×Obj)}{σ':L2.St}{H':Hp}{s':Shared}{h':Heap}(hC:env.locals=s3.heap.objs.size)(I':L2.Inv (cxC X N env s3 H3 fp pins) pins' σ' H' s')(sb:Heap.SameBut s3.heap.objs.size s'.heap h')(f3:∀ b∈fp,FpOk X pins H3 b):L2.Inv X pins σ H' { s' with heap:=h' }:=by
 have u:Un (frs X.stack) fp H3 H' s3.heap s'.heap:=I'.base;have ne:∀ b o,s3.heap.get? b=some o→b≠s3.heap.objs.size:=fun b o e=>Nat.ne_of_lt (Heap.lt_size e)
 have fr:H' s3.heap.objs.size=none:=by have:=I'.free;rw[show(cxC X N env s3 H3 fp pins).env.locals=s3.heap.objs.size from hC]at this;exact this
 refine I3.call' (s':={ s' with heap:=h' }) (ch:=fp) I'.os ⟨fun b o e n hb hx=>?_,fun b o e n hb hx=>?_,u.free,fun b o e hx=>?_,u.tups,u.frzs,u.tbls⟩ (fun b ob e=>?_) I'.bare (fun b hb=>?_)
 ·exact(sb.2 b (ne b o e)).trans (u.keep b o e n hb hx)
 ·obtain⟨sl,e1⟩:=u.slot b o e n hb hx
  exact⟨sl,(sb.2 b (ne b o e)).trans e1⟩
 ·obtain⟨o',e1⟩:=u.there b o e hx
  exact⟨o',(sb.2 b (ne b o e)).trans e1⟩
 ·refine(I'.hok b ob e).stay (fun c w' hc q=>(sb.2 c ?_).trans q) (fun _ q=>q) fun _ _ q=>q
  rintro rfl
  rcases hc with rfl|hc
  ·rw[fr]at e;cases e
  ·rw[fr]at hc;cases hc
 ·exact⟨(f3 b hb).2.2.2.1,(f3 b hb).2.1,(f3 b hb).2.2.2.2.1,(f3 b hb).2.2.2.2.2⟩
end
end Dp



namespace Dp
open PySem PySem.Spec PyProof.Rows L2
variable [ClsTab]
theorem VZ{N:List Str}:∀ {l:List Str}{fr:List Nat},XX N l=some fr→fr.length=l.length∧∀ (i:Nat) (k:Nat),fr[i]?=some k→∃ y,l[i]?=some y∧N[k]?=some y
 |[],fr,h=>by cases h;exact⟨rfl,fun i k e=>by simp at e⟩
 |x :: r,fr,h=>by
  unfold XX at h;split at h
  ·rename_i a as e1 e2
   cases h;obtain⟨h1,h2⟩:=VZ e2;refine⟨by simp[h1],fun i k e=>?_⟩
   cases i with
   |zero=>simp at e;subst e;exact⟨x,rfl,Wn e1⟩
   |succ i=>exact h2 i k (by simpa using e)
  ·cases h
theorem StOk.lt{X:Cx}{pins:List (Addr×Obj)}{σ:L2.St}{H:Hp}{s:Shared}{ad:List Addr}{st:Za}{a:Addr}(I:L2.Inv X pins σ H s)(S:StOk X.K ad H st)(h:a∈ad):a < s.heap.objs.size:=by
 obtain⟨i,hi,e⟩:=List.getElem_of_mem h;rcases S.has (show ad[i]?=some a by rw[List.getElem?_eq_getElem hi,e]) with⟨o,q⟩|⟨o,q⟩
 ·exact I.hok.lt q
 ·exact Heap.lt_size (I.kIn a o q)
theorem ZcN{K:PySem.W.Frag}{ad:List Addr}{H:Hp}{σ bs:L2.St}{ρ:Env}{fr:List Nat}{b:D→List (Option D)}{d:D}(E:EnvOk K ad H σ ρ)(hd:EnvOk K ad H bs (b d)):EnvOk K ad H (bs++fr.map fun i=>(σ[i]?).join) (Xk b ρ fr d):=by
 refine⟨by simp[Xk,hd.len],fun i e h=>?_⟩
 unfold Xk at h;by_cases hi:i < (b d).length
 ·rw[List.getElem?_append_left hi]at h
  rw[List.getElem?_append_left (by rw[hd.len];exact hi)]
  exact hd.at_ i e h
 ·have hi:(b d).length≤i:=Nat.le_of_not_lt hi
  rw[List.getElem?_append_right hi,List.getElem?_map]at h;rw[List.getElem?_append_right (by rw[hd.len];exact hi),List.getElem?_map,hd.len]
  cases q:fr[i - (b d).length]? with
  |none=>rw[q]at h;cases h
  |some k=>
   rw[q]at h;have h:(ρ[k]?).join=some e:=by simpa using h
   have h2:ρ[k]?=some (some e):=by
    cases z:ρ[k]? with
    |none=>rw[z]at h;cases h
    |some o=>rw[z]at h;rw[show o=some e from h]
   obtain⟨w,e1,e2⟩:=E.at_ k e h2;exact⟨w,by simp[e1],e2⟩
def WN(K:PySem.W.Frag)(tg:Expr)(xs:List Str)(b:D→List (Option D))(ds:List D):Prop:=
 ∀ X:Cx,X.K=K→X.calm=true→X.N.Nodup→(∀ (i:Nat) x,xs[i]?=some x→X.N[i]?=some x)→(∀ y∈xs,X.env.scope.names.lookup y=some .local)→∀ (pins:List (Addr×Obj)) (s:Shared) (os fv:L2.St) (H:Hp) (ad:List Addr) (v:V) (u:Value) (d:D),os.length=xs.length→L2.Inv X pins (os++fv) H s→RelV v u→Den K ad H v d→d∈ds→
  wpAny (model X.prog X.w) X.A (assign tg X.env u) (fun _ s'=>∃ bs,bs.length=xs.length∧EnvOk K ad H bs (b d)∧L2.Inv X pins (bs++fv) H s') X.xe s
theorem QU{K:PySem.W.Frag}{x:Str}{px:Pos}{ds:List D}:WN K (.Name x px) [x] one ds:=by
 intro X hK hc hN hx hl pins s os fv H ad v u d ho I r dv _;obtain⟨o,rfl⟩:∃ o,os=[o]:=by match os,ho with|[o],_=>exact⟨o,rfl⟩
 have lx:=hl x List.mem_cons_self;have pg:PG X (.Name x px) (gName 0):=pg_name hN (hx 0 x rfl) (.inl lx) (.inr lx);refine thn (pg pins s _ H v u (fun σ' H'=>σ'=[some v]++fv∧H'=H) I r ⟨rfl,rfl⟩) fun _ s' ⟨σ',H',I',e,e'⟩=>?_
 subst e;subst e'
 exact⟨[some v],rfl,⟨rfl,fun i e h=>by
  cases i with
  |zero=>cases h;exact⟨v,rfl,dv⟩
  |succ i=>exact nomatch (show(none:Option (Option D))=some (some e) from h)⟩,I'⟩
theorem Vy{K:PySem.W.Frag}{x y:Str}{px py tp:Pos}{k:Nat}{ds:List D}(hds:∀ d∈ds,∃ a b,d=.tup [a,b]):WN K (.Tuple [.Name x px,.Name y py] k tp) [x,y] two ds:=by
 intro X hK hc hN hx hl pins s os fv H ad v u d ho I r dv hd;obtain⟨o,o',rfl⟩:∃ o o',os=[o,o']:=by match os,ho with|[o,o'],_=>exact⟨o,o',rfl⟩
 obtain⟨a,b,rfl⟩:=hds d hd;have lx:=hl x List.mem_cons_self;have ly:=hl y (List.mem_cons_of_mem _ List.mem_cons_self);have g1:PG X (.Name x px) (gName 0):=pg_name hN (hx 0 x rfl) (.inl lx) (.inr lx);have g2:PG X (.Name y py) (gName 1):=pg_name hN (hx 1 y rfl) (.inl ly) (.inr ly);have pg:PG X (.Tuple [.Name x px,.Name y py] k tp) _:=pg_tup hc (pgs_cons g1 (pgs_cons g2 pgs_nil))
 obtain⟨p,vs,rfl,ha,rv⟩:=dv.ofTup;cases rv with
 |cons da rv=>cases rv with
  |cons db rv=>
   cases rv;rename_i va vb;refine thn (pg pins s _ H _ u (fun σ' H'=>σ'=[some va,some vb]++fv∧H'=H) I r ⟨p,[va,vb],rfl,by rw[hK];exact ha.sq,rfl,va,[vb],rfl,vb,[],rfl,rfl,rfl,rfl⟩) fun _ s' ⟨σ',H',I',e,e'⟩=>?_
   subst e;subst e'
   exact⟨[some va,some vb],rfl,⟨rfl,fun i e h=>by
    cases i with
    |zero=>cases h;exact⟨va,rfl,da⟩
    |succ i=>cases i with
     |zero=>cases h;exact⟨vb,rfl,db⟩
     |succ i=>exact nomatch (show(none:Option (Option D))=some (some e) from h)⟩,I'⟩
section
variable {X:Cx}{G:Gs}{F:Nat→Fn}{sc sc2:Scope}{N xs:List Str}
theorem Y0(h:XN sc sc2 xs=true):sc2.kind=.function∧(∀ p∈sc2.names,p.2≠.cell)∧(∀ x∈xs,sc2.names.lookup x=some .local)∧(∀ p∈sc2.names,p.2=.local→sc2.names.lookup p.1=some .local)∧(xs++Yh sc2).Nodup∧∀ y∈Yh sc2,VN sc y=true∧sc2.names.lookup y=some .free:=by
 unfold XN at h;simp only[Bool.and_eq_true,decide_eq_true_eq,List.all_eq_true,Bool.or_eq_true,Bool.not_eq_true',decide_eq_false_iff_not]at h;obtain⟨⟨⟨⟨⟨h1,h2⟩,h3⟩,h4⟩,h5⟩,h6⟩:=h;exact⟨h1,h2,h3,fun p hp e=>(h4 p hp).elim (fun z=>absurd e z) id,h5,h6⟩
theorem mem_frees{y:Str}:y∈Yh sc2↔(y,NameKind.free)∈sc2.names:=by
 unfold Yh;rw[List.mem_map];constructor
 ·rintro⟨⟨n,k⟩,h,rfl⟩
  rw[List.mem_filter]at h;have:k=.free:=of_decide_eq_true h.2;rw[←this];exact h.1
 ·intro h
  exact⟨(y,.free),List.mem_filter.mpr ⟨h,by simp⟩,rfl⟩
theorem mem_of_lookup{y:Str}{k:NameKind}:∀ {l:List (Str×NameKind)},l.lookup y=some k→(y,k)∈l
 |[],h=>by cases h
 | (n,q) :: l,h=>by
  rw[List.lookup_cons]at h;split at h
  ·rename_i e
   cases h;rw[beq_iff_eq.mp e];exact List.mem_cons_self
  ·exact List.mem_cons_of_mem _ (mem_of_lookup h)
theorem ZcK(Kx:Cxt X G F sc N)(hsc:XN sc sc2 xs=true){cl:List (Str×Addr)}{C:Addr}{s3:Shared}{H3:Hp}{fp:List Addr}{pins:List (Addr×Obj)}:Cxt (cxC X (xs++Yh sc2) (compEnvC sc2 cl C X.env) s3 H3 fp pins) G F sc2 (xs++Yh sc2):=by
 obtain⟨h1,h2,h3,h4,h5,h6⟩:=Y0 hsc;exact {
  hN:=rfl
  vis:=fun y hy=>by
   rcases Zeq hy with z|z|z
   ·exact .inl (Xp z (by intro q;cases q))
   ·exact absurd rfl (h2 _ (mem_of_lookup z))
   ·rcases XD (env:=X.env) z with w|w
    ·exact .inr (.inl w)
    ·exact .inr (.inr w)
  glb:=fun y hy=>Xp (ZaX hy) (by intro q;cases q)
  calm:=Kx.calm
  hu:=Kx.hu
  gl:=Kx.gl
  cel:=fun y hy=>by
   rcases ZaT hy with z|z
   ·exact absurd rfl (h2 _ (mem_of_lookup z))
   ·exact XD z
  nx:=rfl }
theorem ZcG{ok:Za→Prop}{f c:D→Za→Res}{xs:List D}{st:Za}{r:List D×Za}(h:YS ok f c xs st=some r):ok st:=by
 unfold YS at h;split at h
 ·split at h
  ·assumption
  ·cases h
 ·split at h
  ·assumption
  ·cases h
noncomputable def evB(F:Nat→Fn)(c:CE)(b:D→List (Option D))(ρ:Env)(fr:List Nat):D→Za→Res:=fun d s=>ev F c (Xk b ρ fr d) s
inductive CI(X:Cx)(tn:Nat→Heap→Prop)(fp:List Addr)(fv σ:L2.St)(ρ:Env)(w:Nat)(ds:List D)(go:List D→Za→Option (List D×Za))(Good:List Addr→Hp→Prop)(dd:Addr)(ad2:List Addr)(H2:Hp)(st':Za)(ys:List D)(m:Nat)(s:Shared):Prop
 |mk (i:Nat) (o0:L2.St) (H:Hp) (ad:List Addr) (st:Za) (vs:List V) (es zs:List D) (him:i+m=ds.length) (hol:o0.length=w) (I:L2.Inv X [] (o0++fv) H s) (ti:tn i s.heap) (fi:∀ b∈fp,H b=none) (En:EnvOk X.K ad H σ ρ) (S:StOk X.K ad H st) (Gd:Good ad H) (nd:dd∉ad) (hv:H dd=some (.lst vs)) (rv:Dens X.K ad H vs es) (hel:es.length≤i)
  (hcp:go (ds.drop i) st=some (zs,st')) (hys:es++zs=ys) (ex:Ext ad2 H2 ad H):CI X tn fp fv σ ρ w ds go Good dd ad2 H2 st' ys m s
theorem ZbO(Kx:Cxt X G F sc2 N){n:Nat}(ihE:ZG G F n){elt iter tg:Expr}{pos:Pos}{ifs:List Expr}{fr:List Nat}{ce cc:CE}{bd:D→List (Option D)}(hce:cE G n sc2 N elt=some ce)(hcc:(ifs=[]∧cc=.cst (.bl true))∨∃ e,ifs=[e]∧cE G n sc2 N e=some cc){J:It}{fp:List Addr}{it:Addr}{tn:Nat→Heap→Prop}{ds:List D}{ok:Za→Prop}{Good:List Addr→Hp→Prop}(gm:∀ ad H ad' H',Ext ad H ad' H'→Good ad H→Good ad' H')(gw:∀ ad H p xs ys,H p=some (.lst xs)→Good ad H→Good ad (upd H p (.lst ys)))(go:∀ i ad H st,Good ad H→StOk X.K ad H st→ok st→i < ds.length→J.go i H)(stop:∀ i ad H st,Good ad H→StOk X.K ad H st→ok st→ds.length=i→J.stop i H)(yl:∀ i ad H st v H',Good ad H→StOk X.K ad H st→ok st→J.yld i H v H'→i < ds.length→Ext ad H ad H'∧StOk X.K ad H' st∧∃ d,ds[i]?=some d∧Den X.K ad H' v d)(T:Turn X.prog X.w X.K tg J fp it tn)(B:WN X.K tg xs bd ds)(hN:X.N.Nodup)(hx:∀ (i:Nat) x,xs[i]?=some x→X.N[i]?=some x)(hl:∀ y∈xs,X.env.scope.names.lookup y=some .local)(exx:X.xe=fun _ _=>False)(fpk:∀ {H:Hp},(∀ b∈fp,H b=none)→∀ b∈fp,FpOk X [] H b){fv σ:L2.St}{ρ:Env}(ec:∀ {ad H bs d},EnvOk X.K ad H σ ρ→EnvOk X.K ad H bs (bd d)→EnvOk X.K ad H (bs++fv) (Xk bd ρ fr d)){dd:Addr}{ad2:List Addr}{H2:Hp}{st':Za}{ys:List D}(D0:H2 dd=none)(hz:ds.length≤1000){R:Result→Shared→Prop}(done:∀ s5 σ5 H ad vs,L2.Inv X [] σ5 H s5→StOk X.K ad H st'→dd∉ad→H dd=some (.lst vs)→Dens X.K ad H vs ys→Ext ad2 H2 ad H→R (.ok .next) s5){s:Shared}{m:Nat}(h0:CI X tn fp fv σ ρ xs.length ds (YS ok (evB F ce bd ρ fr) (evB F cc bd ρ fr)) Good dd ad2 H2 st' ys m s) :
  codeAny (model X.prog X.w) X.A (.compLoop (.ListComp elt [⟨tg,iter,ifs,0⟩] sc2 pos) 0 (.ref it) (.ref dd) X.env) R s:=by
 refine Q2 _ (fun m s h=>?_) m h0
 cases h with
 |mk i o0 H ad st vs es zs him hol I ti fi En S Gd nd hv rv hel hcp hys ex=>
 have oks:=ZcG hcp;have none_of:∀ {E:Value→Shared→Prop}{α:Type}{t:Sem α}{R:α→Shared→Prop}{s0:Shared},wpAny (model X.prog X.w) X.A t R X.xe s0→wpAny (model X.prog X.w) X.A t R E s0:=fun h=>by
  rw[exx]at h;exact wpAny_mono h (fun _ _ q=>q) fun _ _ q=>q.elim
 by_cases hi:i < ds.length
 ·refine thn (T.item X rfl rfl rfl Kx.calm i [] s _ H _ I (fpk fi) ti (go i ad H st Gd S oks hi)) fun r s5 ⟨u,hr,h5'⟩=>?_
  subst hr;refine thn h5' fun _ s6 ⟨v,H',I6,r6,y6,t6,f6⟩=>?_
  obtain⟨x6,S6,d,ed,dv⟩:=yl i ad H st v H' Gd S oks y6 hi;have hd:ds.drop i=d :: ds.drop (i+1):=by
   rw[List.drop_eq_getElem_cons hi];rw[List.getElem?_eq_getElem hi]at ed;cases ed;rfl
  refine thn (none_of (B X rfl Kx.calm hN hx hl _ s6 o0 _ H' ad v u _ hol (I6.pinned (fpk f6) (T.obj _ _ t6)) r6 dv (List.mem_of_getElem? ed))) fun _ s7 ⟨bs,lb,Eb,I7⟩=>?_
  have En6:=En.mono x6;have En7:=ec En6 Eb
  -- behind the item's turn
  have again:∀ {H9:Hp}{s9:Shared}{ad9:List Addr}{st9:Za}{vs9:List V}{es9 zs9:List D},L2.Inv X ([]++pinsAt fp s6.heap) (bs++fv) H9 s9→StOk X.K ad9 H9 st9→Good ad9 H9→dd∉ad9→H9 dd=some (.lst vs9)→Dens X.K ad9 H9 vs9 es9→es9.length≤i+1→
    YS ok (evB F ce bd ρ fr) (evB F cc bd ρ fr) (ds.drop (i+1)) st9=some (zs9,st')→es9++zs9=ys→Ext ad2 H2 ad9 H9→EnvOk X.K ad9 H9 σ ρ→
    ∃ m',m' < m∧CI X tn fp fv σ ρ xs.length ds (YS ok (evB F ce bd ρ fr) (evB F cc bd ρ fr)) Good dd ad2 H2 st' ys m' s9:=
   fun I9 S9 G9 n9 v9 r9 l9 c9 y9 x9 e9=>
    have pk:=fun b hb o e=>I9.pin (b,o) (List.mem_append_right _ (List.mem_append_right _ (mem_pinsAt hb e)))
    ⟨m - 1,by omega,.mk (i+1) bs _ _ _ _ _ _ (by omega) lb I9.unpinned (T.keep _ _ _ t6 fun b hb o e=>(pk b hb o e).1) (fun b hb=>let ⟨o,e,_⟩:=T.obj _ _ t6 b hb;(pk b hb o e).2.1) e9 S9 G9 n9 v9 r9 l9 c9 y9 x9⟩
  -- the tests
  have tests:∀ {k:Bool}{st2:Za},evB F cc bd ρ fr d st=some (.bl k,st2)→∀ {R:Bool→Shared→Prop}{E:Value→Shared→Prop},(∀ s8 H8 ad8,L2.Inv X ([]++pinsAt fp s6.heap) (bs++fv) H8 s8→Ext ad H' ad8 H8→StOk X.K ad8 H8 st2→R k s8)→
    wpAny (model X.prog X.w) X.A (forIn ifs true fun c r=>if r=true then do let ok ←isTrue c X.env (eval c X.env);pure (ForInStep.yield ok) else pure (ForInStep.yield r)) R E s7:=fun {k st2} q {R E} hR=>by
   rcases hcc with⟨rfl,rfl⟩|⟨e,rfl,he⟩
   ·cases q
    exact wpAny_tests_nil (hR s7 H' ad I7 (Ext.refl _ _) S6)
   ·refine wpAny_tests_one (thn (none_of ((ihE X sc2 _ Kx e cc he).pt _ s7 _ H' (fun k' H8=>k'=k∧∃ ad8,Ext ad H' ad8 H8∧StOk X.K ad8 H8 st2) I7 ⟨ad,Xk bd ρ fr d,st,k,st2,En7,S6,q,fun ad' H' x S'=>⟨rfl,ad',x,S'⟩⟩)) fun k' s8 ⟨H8,I8,e8,ad8,x8,S8⟩=>?_)
    subst e8;exact hR s8 H8 ad8 I8 x8 S8
  have n8:∀ {ad8 H8},Ext ad H' ad8 H8→dd∉ad8:=fun x8 z=>((x6.trans x8).new dd z).elim nd fun w=>by rw[hv]at w;cases w
  have v8:∀ {ad8 H8},Ext ad H' ad8 H8→H8 dd=some (.lst vs):=fun x8=>(x6.trans x8).keep dd _ hv nd
  have rv6:=rv.mono x6;have ex6:=ex.trans x6;have G6:=gm _ _ _ _ x6 Gd;clear x6 En Eb ex Gd S I hv rv;rw[hd]at hcp;unfold YS at hcp;rw[if_pos oks]at hcp;split at hcp
  ·rename_i st2 q1
   split at hcp
   ·rename_i y st3 q2
    split at hcp
    ·rename_i zs' st4 q3
     cases hcp;refine tests q1 fun s8 H8 ad8 I8 x8 S8=>?_
     rw[if_pos rfl];refine thn (none_of ((ihE X sc2 _ Kx elt ce hce).pe _ s8 _ H8 (fun v8 H9=>∃ ad9,Ext ad8 H8 ad9 H9∧StOk X.K ad9 H9 st3∧Den X.K ad9 H9 v8 y) I8 ⟨ad8,Xk bd ρ fr d,st2,y,st3,En7.mono x8,S8,q2,fun v8 ad' H' x S' dn=>⟨ad',x,S',dn⟩⟩)) fun u9 s9 ⟨v9,H9,I9,r9,ad9,x9,S9,d9⟩=>?_
     have x89:=x8.trans x9;have hv9:=v8 x89;have hlen:vs.length=es.length:=rv6.length;refine thn (none_of (mt_append (X:=X) _ s9 _ H9 (.ref dd) [v9] (.ref dd) [u9] (fun _ H10=>H10=upd H9 dd (.lst (vs++[v9]))) I9 rfl (.cons r9 .nil) ⟨dd,vs,v9,rfl,rfl,hv9,Nat.lt_of_le_of_lt (show vs.length≤1000 by omega) (by decide),rfl⟩)) fun u10 s10 ⟨v10,H10,I10,r10,e10⟩=>?_
     subst e10;have nd9:=n8 x89;exact again (vs9:=vs++[v9]) (es9:=es++[y]) (zs9:=zs') I10 (S9.wr hv9 nd9) (gw _ _ _ _ _ hv9 (gm _ _ _ _ x89 G6)) nd9 upd_same (((rv6.mono x89).append (.cons d9 .nil)).wr hv9) (by rw[List.length_append,List.length_singleton];omega) q3 (by rw[←hys,List.append_assoc];rfl) ((ex6.trans x89).wr hv9 D0) ((En6.mono x89).wr hv9)
    ·cases hcp
   ·cases hcp
  ·rename_i st2 q1
   refine tests q1 fun s8 H8 ad8 I8 x8 S8=>?_
   rw[if_neg Bool.false_ne_true];exact again I8 S8 (gm _ _ _ _ x8 G6) (n8 x8) (v8 x8) (rv6.mono x8) (by omega) hcp hys (ex6.trans x8) (En6.mono x8)
  ·cases hcp
 ·refine thn (T.done X rfl rfl rfl Kx.calm i [] s _ H _ I (fpk fi) ti (stop i ad H st Gd S oks (by omega))) fun r s5 ⟨hr,I5⟩=>?_
  subst hr;rw[List.drop_eq_nil_of_le (Nat.le_of_not_lt hi)]at hcp;unfold YS at hcp;rw[if_pos oks]at hcp;cases hcp;rw[List.append_nil]at hys;subst hys;exact done s5 _ H ad vs I5 S nd hv rv ex
theorem J9(Kx:Cxt X G F sc N){n:Nat}(ihE:ZG G F n){elt iter tg:Expr}{pos:Pos}{ifs:List Expr}{fr:List Nat}{ce cc:CE}(hsc:XN sc sc2 xs=true)(hfr:XX N (Yh sc2)=some fr){bd:D→List (Option D)}(hce:cE G n sc2 (xs++Yh sc2) elt=some ce)(hcc:(ifs=[]∧cc=.cst (.bl true))∨∃ e,ifs=[e]∧cE G n sc2 (xs++Yh sc2) e=some cc){cl:List (Str×Addr)}(c1:∀ y c,cl.lookup y=some c→X.env.cells.lookup y=some c)(c2:∀ y,(y,NameKind.free)∈sc2.names→(cl.lookup y).isSome){J:It}{fp:List Addr}{it:Addr}{tn:Nat→Heap→Prop}{ds:List D}{ok:Za→Prop}{use:Option (Value→Sem Unit)}{R0:Value→Shared→Prop}{Good:List Addr→Hp→Prop}(gm:∀ ad H ad' H',Ext ad H ad' H'→Good ad H→Good ad' H')(gw:∀ ad H p xs ys,H p=some (.lst xs)→Good ad H→Good ad (upd H p (.lst ys)))(go:∀ i ad H st,Good ad H→StOk X.K ad H st→ok st→i < ds.length→J.go i H)(stop:∀ i ad H st,Good ad H→StOk X.K ad H st→ok st→ds.length=i→J.stop i H)(yl:∀ i ad H st v H',Good ad H→StOk X.K ad H st→ok st→J.yld i H v H'→i < ds.length→Ext ad H ad H'∧StOk X.K ad H' st∧∃ d,ds[i]?=some d∧Den X.K ad H' v d){pins:List (Addr×Obj)}{σ:L2.St}{H2:Hp}{s2 s3:Shared}{dd:Addr}{h₁:Heap}{m0:Str→Option Value}{tk:Nat}{Q:VK}{ad2:List Addr}{ρ:Env}{st1 st':Za}{ys:List D}(B:WN X.K tg xs bd ds)(T:Turn X.prog X.w X.K tg J fp it tn)(t2:tn 0 s2.heap)(f2:∀ b∈fp,FpOk X pins H2 b)(fb:∀ b∈fp,b < dd)(E2:EnvOk X.K ad2 H2 σ ρ)(S2:StOk X.K ad2 H2 st1)(g2:Good ad2 H2)(hcomp:YS ok (fun d s=>ev F ce (Xk bd ρ fr d) s) (fun d s=>ev F cc (Xk bd ρ fr d) s) ds st1=some (ys,st'))(hz:ds.length≤1000)(hp:Post X.K ad2 H2 (.lst st'.length) (st'++[(true,ys)]) Q)(hend:∀ C dd s5 H5 m',s5.heap.Ns C m'→(∀ h',Heap.SameBut C s5.heap h'→L2.Inv X pins σ H5 { s5 with heap:=h' })→FpOk X pins H5 C→Q (.ref dd) H5→compPost (model X.prog X.w) X.A X.xe use R0 (.ref dd) C (.ok .next) s5)  (D0:H2 dd=none) (I3:L2.Inv X pins σ (upd H2 dd (.lst [])) s3) (z3:s3.heap.objs.size=dd+1) (nad:dd∉ad2) (hns₁:h₁.Ns s3.heap.objs.size m0) (up:∀ b u,s3.heap.get? b=some u→h₁.get? b=some u) (up0:∀ b u,s2.heap.get? b=some u→s3.heap.get? b=some u) :
  codeAny (model X.prog X.w) X.A (.compStart (.ListComp elt [⟨tg,iter,ifs,0⟩] sc2 pos) 0 (.ref it) (.ref dd) (compEnvC sc2 cl s3.heap.objs.size X.env)) (compPost (model X.prog X.w) X.A X.xe use R0 (.ref dd) s3.heap.objs.size) { s3 with heap:=h₁,toks:=tk }:=by
 obtain⟨h1,h2,h3,h4,h5,h6⟩:=Y0 hsc;have f3:∀ b∈fp,FpOk X pins (upd H2 dd (.lst [])) b:=fun b hb=>⟨by rw[upd_ne (Nat.ne_of_lt (fb b hb))];exact(f2 b hb).1,(f2 b hb).2⟩
 obtain⟨fl,fg⟩:=VZ hfr;have I4:=Zdb (N:=xs++Yh sc2) (cl:=cl) (fp:=fp) (tk:=tk) (σ':=List.replicate xs.length none++fr.map fun i=>(σ[i]?).join) I3 h1 h2 hns₁ up c1 (fun y e=>c2 y (mem_of_lookup e)) f3 (fun b hb=>by rw[z3];exact Nat.lt_succ_of_lt (fb b hb)) (fun i y v e1 e2=>by
  by_cases hi:i < xs.length
  ·rw[List.getElem?_append_left (by simpa using hi),List.getElem?_replicate,if_pos hi]at e2;cases e2
  ·have hi:xs.length≤i:=Nat.le_of_not_lt hi
   rw[List.getElem?_append_right (by simpa using hi),List.getElem?_map,List.length_replicate]at e2
   rw[List.getElem?_append_right hi]at e1;cases q:fr[i - xs.length]? with
   |none=>rw[q]at e2;cases e2
   |some k=>
    rw[q]at e2;have e2:(σ[k]?).join=some v:=by simpa using e2
    have e3:σ[k]?=some (some v):=by
     cases w:σ[k]? with
     |none=>rw[w]at e2;cases e2
     |some o=>rw[w]at e2;rw[show o=some v from e2]
    obtain⟨y',g1,g2⟩:=fg _ k q;rw[e1]at g1;cases g1
    obtain⟨k1,k2⟩:=h6 y (List.mem_of_getElem? e1);exact⟨k,by rw[Kx.hN];exact g2,e3,k2,Kx.cel y k1⟩) (by simp[fl])
 have K':=ZcK (cl:=cl) (C:=s3.heap.objs.size) (s3:=s3) (H3:=upd H2 dd (.lst [])) (fp:=fp) (pins:=pins) Kx hsc;have loop:=ZbO (R:=compPost (model X.prog X.w) X.A X.xe use R0 (.ref dd) s3.heap.objs.size) (pos:=pos) (iter:=iter) K' ihE hce hcc gm gw go stop yl T B h5 (fun i x e=>by show(xs++Yh sc2)[i]?=some x;rw[List.getElem?_append_left (List.getElem?_eq_some_iff.mp e).1];exact e) (fun y hy=>Xp (h3 y hy) (by intro q;cases q)) rfl (fun {H} hn b hb=>⟨hn b hb,by
  show b≠s3.heap.objs.size;rw[z3];exact Nat.ne_of_lt (Nat.lt_succ_of_lt (fb b hb)),fun hs=>(List.mem_cons.mp (I3.stkSub b hs)).elim (f2 b hb).2.1 (f2 b hb).2.2.1,.inl hb,fun y c e=>(f2 b hb).2.2.2.2.1 y c (c1 _ _ e),fun p hp=>(f2 b hb).2.2.2.2.2 p (by simpa[cxC] using hp)⟩) (σ:=σ) (ρ:=ρ) (fr:=fr) (fun a b=>ZcN a b) (dd:=dd) (ad2:=ad2) (H2:=H2) (st':=st') (ys:=ys) D0 hz (fun s5 σ5 H ad vs I5 S nd hv rv ex=>by
   obtain⟨m',hn,_⟩:=I5.loc;refine hend s3.heap.objs.size dd s5 H m' hn (fun h' sb=>Zda I3 rfl I5 sb f3) (I3.fpOk (Nat.le_refl _) I5.free) (hp (.ref dd) (ad++[dd]) H ⟨fun j a e=>X2 (ex.pre j a e),ex.tup,ex.dk,ex.keep,fun b hb=>?_,ex.kd⟩ (S.adopt hv nd rv) (.lst ⟨by rw[←S.len];exact ZP,Qs hv fun _ z=>nomatch z⟩))
   rcases List.mem_append.mp hb with z|z
   ·exact ex.new b z
   ·rw[List.mem_singleton.mp z];exact .inr D0)
  (.mk 0 (List.replicate xs.length none) (upd H2 dd (.lst [])) ad2 st1 [] [] ys (Nat.zero_add _) (List.length_replicate ..) I4 (T.keep _ _ _ t2 fun b _ o e=>up b o (up0 b o e)) (fun b hb=>(f3 b hb).1) (E2.mono (Ext.laid D0)) (S2.laid D0) (gm _ _ _ _ (Ext.laid D0) g2) nad upd_same .nil (Nat.le_refl _) hcomp rfl (Ext.laid D0))
 exact codeAny_compStart_list loop (T.self X.A 0 _ _ _ (T.keep _ _ _ t2 fun b _ o e=>up b o (up0 b o e)) loop)
theorem ZbN(Kx:Cxt X G F sc N){n:Nat}(ihE:ZG G F n){elt iter tg:Expr}{pos:Pos}{ifs:List Expr}{fr:List Nat}{ce cc:CE}(hsc:XN sc sc2 xs=true)(hfr:XX N (Yh sc2)=some fr){bd:D→List (Option D)}(hce:cE G n sc2 (xs++Yh sc2) elt=some ce)(hcc:(ifs=[]∧cc=.cst (.bl true))∨∃ e,ifs=[e]∧cE G n sc2 (xs++Yh sc2) e=some cc){cl:List (Str×Addr)}(c1:∀ y c,cl.lookup y=some c→X.env.cells.lookup y=some c)(c2:∀ y,(y,NameKind.free)∈sc2.names→(cl.lookup y).isSome){J:It}{fp:List Addr}{it:Addr}{tn:Nat→Heap→Prop}{ds:List D}{ok:Za→Prop}{use:Option (Value→Sem Unit)}{R0:Value→Shared→Prop}(Good:List Addr→Hp→Prop)(gm:∀ ad H ad' H',Ext ad H ad' H'→Good ad H→Good ad' H')(gw:∀ ad H p xs ys,H p=some (.lst xs)→Good ad H→Good ad (upd H p (.lst ys)))(go:∀ i ad H st,Good ad H→StOk X.K ad H st→ok st→i < ds.length→J.go i H)(stop:∀ i ad H st,Good ad H→StOk X.K ad H st→ok st→ds.length=i→J.stop i H)(yl:∀ i ad H st v H',Good ad H→StOk X.K ad H st→ok st→J.yld i H v H'→i < ds.length→Ext ad H ad H'∧StOk X.K ad H' st∧∃ d,ds[i]?=some d∧Den X.K ad H' v d){pins:List (Addr×Obj)}{σ:L2.St}{H2:Hp}{s2:Shared}{Q:VK}{ad2:List Addr}{ρ:Env}{st1 st':Za}{ys:List D}(I2:L2.Inv X pins σ H2 s2)(B:WN X.K tg xs bd ds)(T:Turn X.prog X.w X.K tg J fp it tn)(t2:tn 0 s2.heap)(f2:∀ b∈fp,FpOk X pins H2 b)(E2:EnvOk X.K ad2 H2 σ ρ)(S2:StOk X.K ad2 H2 st1)(g2:Good ad2 H2)(hcomp:YS ok (fun d s=>ev F ce (Xk bd ρ fr d) s) (fun d s=>ev F cc (Xk bd ρ fr d) s) ds st1=some (ys,st'))(hz:ds.length≤1000)(hp:Post X.K ad2 H2 (.lst st'.length) (st'++[(true,ys)]) Q)(hend:∀ C dd s5 H5 m',s5.heap.Ns C m'→(∀ h',Heap.SameBut C s5.heap h'→L2.Inv X pins σ H5 { s5 with heap:=h' })→FpOk X pins H5 C→Q (.ref dd) H5→compPost (model X.prog X.w) X.A X.xe use R0 (.ref dd) C (.ok .next) s5) :
  wpAny (model X.prog X.w) X.A (newList []) (fun acc s₃=>wpAny (model X.prog X.w) X.A (newFunctionEnv sc2 X.env.globals cl [] X.env.qual none .none (some X.env)) (fun cenv s₄=>
   codeAny (model X.prog X.w) X.A (.compStart (.ListComp elt [⟨tg,iter,ifs,0⟩] sc2 pos) 0 (.ref it) acc { cenv with scope:=relabel sc2 X.env }) (compPost (model X.prog X.w) X.A X.xe use R0 acc cenv.locals) s₄) X.xe s₃) X.xe s2:=by
 obtain⟨h1,h2,h3,h4,h5,h6⟩:=Y0 hsc;have fb:∀ b∈fp,b < s2.heap.objs.size:=fun b hb=>let ⟨o,e,_⟩:=T.obj 0 _ t2 b hb;Heap.lt_size e
 refine wpAny_newObj_type (wpAny_newFunctionEnv h2 (by intro y hy;simp at hy) (fun h₁ hns₁ hsb₁=>?_) h1)
 dsimp only at hns₁ hsb₁ ⊢;have I3:L2.Inv X pins σ (upd H2 s2.heap.objs.size (.lst [])) { s2 with heap:=s2.heap.push { cls:=.type "list",dict:=none,data:=.seq ([]:List Value).toArray } }:=I2.lnew (its:=[]) (t':=s2.toks) .nil (Nat.zero_le _)
 have e3:s2.heap.push { cls:=.type "list",dict:=none,data:=.seq ([]:List Value).toArray }=({ s2 with heap:=s2.heap.push { cls:=.type "list",dict:=none,data:=.seq ([]:List Value).toArray } }:Shared).heap:=rfl
 exact J9 Kx ihE hsc hfr hce hcc c1 c2 gm gw go stop yl B T t2 f2 fb E2 S2 g2 hcomp hz hp hend (I2.hok.fresh (Nat.le_refl _)) I3 (Heap.size_push ..) (fun z=>absurd (S2.lt I2 z) (Nat.lt_irrefl _)) hns₁ (fun b u e=>hsb₁.extBut b u (Nat.ne_of_lt (Heap.lt_size e)) (Heap.get?_push_of_some _ e)) (fun b u e=>Heap.get?_push_of_some _ e)
end
end Dp



namespace Dp
open PySem PySem.Spec PyProof.Rows L2
variable [ClsTab]
def Zbs(X:Cx)(σ:L2.St)(ρ:Env)(ds:List D)(ok:Za→Prop)(st1 st2:Za)(ys:List D)(Q:VK)(J:It)(H1:Hp):Prop:=
 ∃ (ad1:List Addr) (Good:List Addr→Hp→Prop),(∀ ad H ad' H',Ext ad H ad' H'→Good ad H→Good ad' H')∧(∀ ad H p xs ys,H p=some (.lst xs)→Good ad H→Good ad (upd H p (.lst ys))) ∧
  (∀ i ad H st,Good ad H→StOk X.K ad H st→ok st→i < ds.length→J.go i H)∧(∀ i ad H st,Good ad H→StOk X.K ad H st→ok st→ds.length=i→J.stop i H)∧(∀ i ad H st v H',Good ad H→StOk X.K ad H st→ok st→J.yld i H v H'→i < ds.length→Ext ad H ad H'∧StOk X.K ad H' st∧∃ d,ds[i]?=some d∧Den X.K ad H' v d) ∧
  EnvOk X.K ad1 H1 σ ρ∧StOk X.K ad1 H1 st1∧Good ad1 H1∧Post X.K ad1 H1 (.lst st2.length) (st2++[(true,ys)]) Q
theorem Q0{X:Cx}{σ:L2.St}{ρ:Env}{ds:List D}{st st1 st2:Za}{ys:List D}{Q:VK}{H:Hp}{ad:List Addr}{f:Ev}(E:EnvOk X.K ad H σ ρ)(S:StOk X.K ad H st)(q:f ρ st=some (.tup ds,st1))(p:Post X.K ad H (.lst st2.length) (st2++[(true,ys)]) Q) :
  iTup X.K (tE X.K f) σ H (Zbs X σ ρ ds (fun _=>True) st1 st2 ys Q):=by
 refine⟨ad,ρ,st,.tup ds,st1,E,S,q,fun v ad1 H1 x1 S1 d1=>?_⟩
 obtain⟨a,vs,rfl,ha,rv⟩:=d1.ofTup;refine⟨a,rfl,⟨vs,(ha).sq⟩,ad1,fun ad H=>TupAt X.K H a vs∧Dens X.K ad H vs ds,fun _ _ _ _ x g=>⟨g.1.mono x,g.2.mono x⟩,fun _ H p xs ys hp g=>⟨g.1.upd hp (by intro xs z;cases z),g.2.wr hp⟩,fun i ad H st g _ _ hi=>?_,fun i ad H st g _ _ hi=>⟨vs,(g.1).sq,by rw[g.2.length];exact Nat.le_of_eq hi⟩,
  fun i ad H st v H' g S _ y hi=>?_,E.mono x1,S1,⟨ha,rv⟩,p.later x1⟩
 ·obtain⟨v,e,_⟩:=g.2.get (List.getElem?_eq_getElem hi)
  exact⟨vs,v,(g.1).sq,e⟩
 ·obtain⟨w,e,dw⟩:=g.2.get (List.getElem?_eq_getElem hi)
  have:=y.2 vs ((g.1).sq);rw[e]at this;cases this
  cases y.1;exact⟨Ext.refl _ _,S,_,List.getElem?_eq_getElem hi,dw⟩
theorem ZcF{X:Cx}{σ:L2.St}{ρ:Env}{n:Int}{st st1 st2:Za}{ys:List D}{Q:VK}{H:Hp}{ad:List Addr}{f:Ev}(hn:n < 2 ^ 62∧-(2 ^ 62)≤n)(E:EnvOk X.K ad H σ ρ)(S:StOk X.K ad H st)(q:f ρ st=some (.int n,st1))(p:Post X.K ad H (.lst st2.length) (st2++[(true,ys)]) Q) :
  iRng1 (tCons (tE X.K f) tNil) σ H (Zbs X σ ρ ((List.range n.toNat).map fun(k:Nat)=>D.int (k:Int)) (fun _=>True) st1 st2 ys Q):=by
 refine⟨ad,ρ,st,.int n,st1,E,S,q,fun v ad1 H1 x1 S1 d1=>?_⟩
 cases d1.ofInt;refine⟨n,rfl,hn.2,hn.1,ad1,fun _ _=>True,fun _ _ _ _ _ _=>trivial,fun _ _ _ _ _ _ _=>trivial,fun i ad H st _ _ _ hi=>(show i < n.toNat by simpa using hi),fun i ad H st _ _ _ hi=>(show n.toNat≤i by simpa using Nat.le_of_eq hi),fun i ad H st v H' _ S _ y hi=>?_,E.mono x1,S1,trivial,p.later x1⟩
 cases y.1;have hi':i < n.toNat:=by simpa using hi
 refine⟨Ext.refl _ _,S,.int (i:Int),?_,?_⟩
 ·rw[List.getElem?_map,List.getElem?_range hi'];rfl
 ·rw[y.2,Int.zero_add];exact .int _
theorem QZ{X:Cx}{σ:L2.St}{ρ:Env}{l:Nat}{c:U1}{st st1 st2:Za}{ys:List D}{Q:VK}{H:Hp}{ad:List Addr}{f:Ev}(E:EnvOk X.K ad H σ ρ)(S:StOk X.K ad H st)(q:f ρ st=some (.lst l,st1))(hc:st1[l]?=some c)(p:Post X.K ad H (.lst st2.length) (st2++[(true,ys)]) Q) :
  iList X.K (tE X.K f) σ H (Zbs X σ ρ c.2 (fun s=>s[l]?=some c) st1 st2 ys Q):=by
 refine⟨ad,ρ,st,.lst l,st1,E,S,q,fun v ad1 H1 x1 S1 d1=>?_⟩
 obtain⟨a,rfl,ha⟩:=d1.ofLst;obtain⟨vs,rv,sq⟩:=S1.list ha (show st1[l]?=some (c.1,c.2) from hc);refine⟨a,rfl,⟨vs,sq⟩,ad1,fun ad H=>LA ad H l a,fun _ _ _ _ x g=>g.mono x,fun _ _ _ _ _ e g=>⟨g.1,fun z=>g.2 ((Qp e).mpr z)⟩,fun i ad H st g S e hi=>?_,fun i ad H st g S e hi=>?_,fun i ad H st v H' g S e y hi=>?_,E.mono x1,S1,ha,p.later x1⟩
 ·obtain⟨vs,rv,sq⟩:=S.list g (show st[l]?=some (c.1,c.2) from e)
  obtain⟨v,e,_⟩:=rv.get (List.getElem?_eq_getElem hi);exact⟨vs,v,sq,e⟩
 ·obtain⟨vs,rv,sq⟩:=S.list g (show st[l]?=some (c.1,c.2) from e)
  exact⟨vs,sq,by rw[rv.length];exact Nat.le_of_eq hi⟩
 ·obtain⟨vs,rv,sq⟩:=S.list g (show st[l]?=some (c.1,c.2) from e)
  obtain⟨w,e,dw⟩:=rv.get (List.getElem?_eq_getElem hi);have:=y.2 vs sq;rw[e]at this;cases this
  cases y.1;exact⟨Ext.refl _ _,S,_,List.getElem?_eq_getElem hi,dw⟩
theorem Uz:∀ {xs:List D}{k i:Nat},(XQ k xs)[i]?=(xs[i]?).map fun x=>.tup [.int ((k+i:Nat):Int),x]
 |[],_,_=>rfl
 |x :: xs,k,0=>rfl
 |x :: xs,k,i+1=>by
  show(XQ (k+1) xs)[i]?=_;rw[Uz,show k+1+i=k+(i+1) by omega]
  rfl
theorem X6:∀ {xs:List D}{k:Nat},(XQ k xs).length=xs.length
 |[],_=>rfl
 |x :: xs,k=>congrArg (·+1) X6
theorem WS:∀ {xs:List D}{k:Nat},∀ d∈XQ k xs,∃ a b,d=.tup [a,b]
 |[],_,_,h=>nomatch h
 |x :: xs,k,d,h=>by
  rcases List.mem_cons.mp h with rfl|h
  ·exact⟨_,_,rfl⟩
  ·exact WS d h
theorem ZbK{X:Cx}{σ:L2.St}{ρ:Env}{x:D}{ds:List D}{ok:Za→Prop}{st st1 st2:Za}{ys:List D}{Q:VK}{H:Hp}{ad:List Addr}{f:Ev}(E:EnvOk X.K ad H σ ρ)(S:StOk X.K ad H st)(q:f ρ st=some (x,st1))(hw:UY x st1=some (ds,ok))(p:Post X.K ad H (.lst st2.length) (st2++[(true,ys)]) Q) :
  ZaY X.K (tCons (tE X.K f) tNil) σ H (Zbs X σ ρ ds ok st1 st2 ys Q):=by
 have core:∀ {sq:Hp→List V→Prop}{xs:List D}{ok:Za→Prop}{ad1:List Addr}{H1:Hp} (Good:List Addr→Hp→Prop),(∀ ad H ad' H',Ext ad H ad' H'→Good ad H→Good ad' H')→(∀ ad H p xs ys,H p=some (.lst xs)→Good ad H→Good ad (upd H p (.lst ys)))→Good ad1 H1→
   (∀ ad H st,Good ad H→StOk X.K ad H st→ok st→∃ vs,Dens X.K ad H vs xs∧sq H vs)→EnvOk X.K ad1 H1 σ ρ→StOk X.K ad1 H1 st1→Post X.K ad1 H1 (.lst st2.length) (st2++[(true,ys)]) Q→Zbs X σ ρ (XQ 0 xs) ok st1 st2 ys Q (Ite sq) H1:=
  fun {sq xs ok ad1 H1} Good gm gw g1 hv E1 S1 p1=>by
   refine⟨ad1,Good,gm,gw,fun i ad H st g S e hi=>?_,fun i ad H st g S e hi=>?_,fun i ad H st v H' g S e y hi=>?_,E1,S1,g1,p1⟩
   ·rw[X6]at hi
    obtain⟨vs,rv,sq⟩:=hv ad H st g S e;obtain⟨v,e,_⟩:=rv.get (List.getElem?_eq_getElem hi);exact⟨vs,v,sq,e⟩
   ·rw[X6]at hi
    obtain⟨vs,rv,sq⟩:=hv ad H st g S e;exact⟨vs,sq,by rw[rv.length];exact hi⟩
   ·rw[X6]at hi
    obtain⟨vs,rv,sq⟩:=hv ad H st g S e;obtain⟨w,e,dw⟩:=rv.get (List.getElem?_eq_getElem hi);obtain⟨T,x,rfl,hT,rfl,hx⟩:=y;have:=hx vs sq;rw[e]at this;cases this
    refine⟨Ext.laid hT,S.laid hT,_,by rw[Uz,List.getElem?_eq_getElem hi];rfl,.tup (.inl upd_same) (.cons ?_ (.cons (dw.mono (Ext.laid hT)) .nil))⟩
    rw[Nat.zero_add];exact .int _
 refine⟨ad,ρ,st,x,st1,E,S,q,fun v ad1 H1 x1 S1 d1=>?_⟩
 cases x with
 |tup xs=>
  cases hw;obtain⟨a,vs,rfl,ha,rv⟩:=d1.ofTup;exact⟨a,rfl,.inr ⟨⟨vs,ha.sq⟩,core (fun ad H=>TupAt X.K H a vs∧Dens X.K ad H vs xs) (fun _ _ _ _ x g=>⟨g.1.mono x,g.2.mono x⟩) (fun _ H p xs ys hp g=>⟨g.1.upd hp (by intro xs z;cases z),g.2.wr hp⟩) ⟨ha,rv⟩ (fun ad H st g _ _=>⟨vs,g.2,g.1.sq⟩) (E.mono x1) S1 (p.later x1)⟩⟩
 |lst l=>
  have hw:(match st1[l]? with
   |some c=>some (XQ 0 c.2,fun s=>s[l]?=some c)
   |none=>none)=some (ds,ok):=hw
  cases hc:st1[l]? with
  |none=>rw[hc]at hw;cases hw
  |some c=>
   rw[hc]at hw;cases hw;obtain⟨a,rfl,ha⟩:=d1.ofLst;obtain⟨vs,rv,sq⟩:=S1.list ha (show st1[l]?=some (c.1,c.2) from hc);exact⟨a,rfl,.inl ⟨⟨vs,sq⟩,core (fun ad H=>LA ad H l a) (fun _ _ _ _ x g=>g.mono x) (fun _ _ _ _ _ e g=>⟨g.1,fun z=>g.2 ((Qp e).mpr z)⟩) ha (fun ad H st g S e=>S.list g (show st[l]?=some (c.1,c.2) from e)) (E.mono x1) S1 (p.later x1)⟩⟩
 |_=>cases hw
theorem Zck{x:D}{st:Za}{ds:List D}{ok:Za→Prop}(h:UY x st=some (ds,ok)):∀ d∈ds,∃ a b,d=.tup [a,b]:=by
 cases x with
 |tup xs=>cases h;exact WS
 |lst l=>
  unfold UY at h;simp only at h;split at h
  ·cases h;exact WS
  ·cases h
 |_=>cases h
theorem ZdO{ds:List D}(ha:ds.all ZbZ=true):∀ d∈ds,∃ a b,d=.tup [a,b]:=fun d hd=>by
 have:=List.all_eq_true.mp ha d hd;unfold ZbZ at this;split at this
 ·exact⟨_,_,rfl⟩
 ·cases this
theorem Zcl{x:D}{st:Za}{ds:List D}{ok:Za→Prop}(h:JP x st=some (ds,ok)):((x=.tup ds∧ok=fun _=>True)∨∃ l c,x=.lst l∧st[l]?=some c∧ds=c.2∧ok=fun s=>s[l]?=some c)∧∀ d∈ds,∃ a b,d=.tup [a,b]:=by
 unfold JP at h;split at h
 ·split at h
  ·rename_i ha
   cases h;exact⟨.inl ⟨rfl,rfl⟩,ZdO ha⟩
  ·cases h
 ·split at h
  ·rename_i c hc
   split at h
   ·rename_i ha
    cases h;exact⟨.inr ⟨_,c,rfl,hc,rfl,rfl⟩,ZdO ha⟩
   ·cases h
  ·cases h
 ·cases h
theorem Zci{tg:Expr}{xs:List Str}(h:tgN tg=some xs):(∃ x px,tg=.Name x px∧xs=[x])∨∃ x y px py k tp,tg=.Tuple [.Name x px,.Name y py] k tp∧xs=[x,y]:=by
 unfold tgN at h;split at h
 ·cases h;exact .inl ⟨_,_,rfl,rfl⟩
 ·rename_i es k tp
  have nm:∀ {e:Expr}{x:Str},nmE e=some x→∃ p,e=.Name x p:=fun {e x} h=>by
   unfold nmE at h;split at h
   ·cases h;exact⟨_,rfl⟩
   ·cases h
  cases es with
  |nil=>cases h
  |cons a es=>cases es with
   |nil=>cases h
   |cons b es=>cases es with
    |cons _ _=>cases h
    |nil=>
     refine YT (P:=fun xs=>_∨∃ x y px py k' tp',Expr.Tuple [a,b] k tp=.Tuple [.Name x px,.Name y py] k' tp'∧xs=[x,y]) h fun x y hx hy=>?_
     obtain⟨px,rfl⟩:=nm hx;obtain⟨py,rfl⟩:=nm hy;exact .inr ⟨x,y,px,py,k,tp,rfl,rfl⟩
 ·cases h
inductive CSh(G:Gs)(n:Nat)(sc:Scope)(N:List Str)(elt:Expr)(sc2:Scope):List Comprehension→CE→Prop
 |mk {tg it:Expr}{ifs:List Expr}{xs:List Str}{fr:List Nat}{r:Option (Option Bool)}{ci ce cc:CE} (htg:tgN tg=some xs) (hsc:XN sc sc2 xs=true) (hfr:XX N (Yh sc2)=some fr) (hi:itC G sc it (cE G n sc N) xs=some (r,ci)) (hce:cE G n sc2 (xs++Yh sc2) elt=some ce) (hcc:(ifs=[]∧cc=.cst (.bl true))∨∃ e,ifs=[e]∧cE G n sc2 (xs++Yh sc2) e=some cc):CSh G n sc N elt sc2 [⟨tg,it,ifs,0⟩] (mkC r fr ci ce cc)
theorem ZeY{G:Gs}{n:Nat}{sc:Scope}{N:List Str}{elt:Expr}{gens:List Comprehension}{sc2:Scope}{pos:Pos}{c:CE}(h:cE G (n+1) sc N (.ListComp elt gens sc2 pos)=some c):CSh G n sc N elt sc2 gens c:=by
 replace h:Zgn G sc sc2 N (cE G n sc N) (cE G n sc2) elt gens=some c:=h;have no:∀ {P:Prop},(none:Option CE)=some c→P:=fun z=>nomatch z
 cases gens with
 |nil=>exact no h
 |cons g gs=>
  obtain⟨tg,it,ifs,k⟩:=g;cases k with
  |negSucc _=>cases gs<;>exact no h
  |ofNat m=>cases m with
   |succ _=>cases gs<;>exact no h
   |zero=>cases gs with
    |cons _ _=>exact no h
    |nil=>
     replace h:(match tgN tg with
      |none=>none
      |some xs=>og (XN sc sc2 xs=true) (o3 (fun fr p (q:CE×CE)=>mkC p.1 fr p.2 q.1 q.2) (XX N (Yh sc2)) (itC G sc it (cE G n sc N) xs) (o2 Prod.mk (cE G n sc2 (xs++Yh sc2) elt) (ifC (cE G n sc2 (xs++Yh sc2)) ifs))))=some c:=h
     cases htg:tgN tg with
     |none=>rw[htg]at h;cases h
     |some xs=>
      rw[htg]at h;refine VY h fun hsc h=>Vh (P:=CSh G n sc N elt sc2 _) h fun fr p q hfr hi hq=>YT (P:=fun q:CE×CE=>CSh G n sc N elt sc2 _ (mkC p.1 fr p.2 q.1 q.2)) hq fun ce cc hce hcc=>.mk htg hsc hfr hi hce ?_
      cases ifs with
      |nil=>cases hcc;exact .inl ⟨rfl,rfl⟩
      |cons a l=>cases l with
       |nil=>exact .inr ⟨a,rfl,hcc⟩
       |cons _ _=>cases hcc
inductive CR(b:D→List (Option D))(w:D→Za→Option (List D×(Za→Prop)))(fr:List Nat)(fi fe fc:Ev)(ρ:Env)(st:Za):D→Za→Prop
 |mk {x:D}{st1 st2:Za}{ds ys:List D}{ok:Za→Prop} (q1:fi ρ st=some (x,st1)) (q2:w x st1=some (ds,ok)) (hz:ds.length≤1000) (q3:YS ok (fun d s=>fe (Xk b ρ fr d) s) (fun d s=>fc (Xk b ρ fr d) s) ds st1=some (ys,st2)):CR b w fr fi fe fc ρ st (.lst st2.length) (st2++[(true,ys)])
theorem X5{b:D→List (Option D)}{w:D→Za→Option (List D×(Za→Prop))}{fr:List Nat}{fi fe fc:Ev}{ρ:Env}{st:Za}{d:D}{st':Za}(e:Wy b w fr fi fe fc ρ st=some (d,st')):CR b w fr fi fe fc ρ st d st':=by
 unfold Wy at e;split at e
 ·split at e
  ·split at e
   ·split at e
    ·cases e;exact .mk ‹_› ‹_› ‹_› ‹_›
    ·cases e
   ·cases e
  ·cases e
 ·cases e
inductive CIt(X:Cx)(pins:List (Addr×Obj))(s:Shared)(σ:L2.St)(ρ:Env)(tg it:Expr)(xs:List Str)(F:Nat→Fn)(fr:List Nat)(ce cc:CE)(Q:VK):Prop
 |mk {bd:D→List (Option D)}{ds:List D}{ok:Za→Prop}{st1 st2:Za}{ys:List D} (B:WN X.K tg xs bd ds) (hz:ds.length≤1000) (q3:YS ok (fun d s=>ev F ce (Xk bd ρ fr d) s) (fun d s=>ev F cc (Xk bd ρ fr d) s) ds st1=some (ys,st2)) (hp:Zt it=true) (pi:wpAny (model X.prog X.w) X.A (eval it X.env) (fun v s1=>wpAny (model X.prog X.w) X.A (pyIter v) (PIE X pins σ tg (Zbs X σ ρ ds ok st1 st2 ys Q)) X.xe s1) X.xe s):CIt X pins s σ ρ tg it xs F fr ce cc Q
theorem Vm{α β:Type}{f:α→β}{o:Option α}{b:β}(h:o.map f=some b):∃ a,o=some a∧f a=b:=by
 cases o with
 |none=>cases h
 |some a=>exact⟨a,rfl,by cases h;rfl⟩
theorem ZeW{G:Gs}{F:Nat→Fn}{n:Nat}(ihE:ZG G F n){X:Cx}{sc:Scope}{N:List Str}(Kx:Cxt X G F sc N){tg it:Expr}{xs:List Str}{fr:List Nat}{r:Option (Option Bool)}{ci ce cc:CE}(htg:tgN tg=some xs)(hi:itC G sc it (cE G n sc N) xs=some (r,ci)){pins:List (Addr×Obj)}{s:Shared}{σ:L2.St}{H:Hp}{Q:VK}(I:L2.Inv X pins σ H s){ad:List Addr}{ρ:Env}{st:Za}{d:D}{st':Za}(E:EnvOk X.K ad H σ ρ)(S:StOk X.K ad H st)(e:ev F (mkC r fr ci ce cc) ρ st=some (d,st'))(p:Post X.K ad H d st' Q):CIt X pins s σ ρ tg it xs F fr ce cc Q:=by
 rcases Zci htg with⟨x,px,rfl,rfl⟩|⟨x,y,px,py,k,tp,rfl,rfl⟩
 ·replace hi:(match Yr G sc it with
   |some a=>(cE G n sc N a).map fun c=>(some (some true),c)
   |none=>(cE G n sc N it).map fun c=>(some (some false),c))=some (r,ci):=hi
  split at hi
  ·rename_i a ha
   obtain⟨ca,q,hi⟩:=Vm hi;cases hi;obtain⟨hp,pi⟩:=Va (tg:=.Name x px) Kx ha (Zn q) (ihE X sc N Kx a _ q).pe;cases X5 e with
   |@mk x0 st1 st2 ds ys ok q1 q2 hz q3=>
    refine .mk QU hz q3 hp (pi pins s σ H _ I ?_);cases x0 with
    |int k=>
     have q2:(match (if k < 2 ^ 62∧-(2 ^ 62)≤k then some ((List.range k.toNat).map fun(k:Nat)=>D.int (k:Int)) else none) with
      |some xs=>some (xs,fun _=>True)
      |none=>none)=some (ds,ok):=q2
     by_cases hk:k < 2 ^ 62∧-(2 ^ 62)≤k
     ·rw[if_pos hk]at q2
      cases q2;exact ZcF hk E S q1 p
     ·rw[if_neg hk]at q2
      cases q2
    |_=>cases q2
  ·obtain⟨ca,q,hi⟩:=Vm hi
   cases hi;cases X5 e with
   |@mk x0 st1 st2 ds ys ok q1 q2 hz q3=>
    refine .mk QU hz q3 (Zn q) ?_;cases x0 with
    |tup xs=>cases q2;exact pi_tup (ihE X sc N Kx it _ q).pe pins s σ H _ I (Q0 E S q1 p)
    |lst l=>
     have q2:(match st1[l]? with
      |some c=>some (c.2,fun s=>s[l]?=some c)
      |none=>none)=some (ds,ok):=q2
     cases q4:st1[l]? with
     |none=>rw[q4]at q2;cases q2
     |some c0=>
      rw[q4]at q2;cases q2;exact pi_list (ihE X sc N Kx it _ q).pe pins s σ H _ I (QZ E S q1 q4 p)
    |str z=>cases q2
    |dct ks vs=>
     have no:∀ {v:V}{ad1:List Addr}{H1:Hp},Den X.K ad1 H1 v (.dct ks vs)→False:=fun {v ad1 H1} d1=>by
      obtain⟨a,ws,_,_,hl,r⟩:=d1.ofDct;cases ks with
      |cons _ _=>cases q2
      |nil=>
       cases ws with
       |cons _ _=>cases hl
       |nil=>cases r;cases q2
     exact thn ((ihE X sc N Kx it _ q).pe pins s σ H (fun _ _=>False) I ⟨ad,ρ,st,_,st1,E,S,q1,fun v ad1 H1 x1 S1 d1=>no d1⟩) fun v s1 ⟨x,H1,I1,r1,z⟩=>z.elim
    |_=>cases q2
 ·replace hi:(match Vj G sc it with
   |some a=>(cE G n sc N a).map fun c=>(some none,c)
   |none=>(cE G n sc N it).map fun c=>(none,c))=some (r,ci):=hi
  split at hi
  ·rename_i a ha
   obtain⟨ca,q,hi⟩:=Vm hi;cases hi;cases X5 e with
   |mk q1 q2 hz q3=>
    obtain⟨hp,pi⟩:=VH (elts:=[.Name x px,.Name y py]) (kk:=k) (tp:=tp) Kx ha (Zn q) (ihE X sc N Kx a _ q).pe;exact .mk (Vy (Zck q2)) hz q3 hp (pi pins s σ H _ I (ZbK E S q1 q2 p))
  ·obtain⟨ca,q,hi⟩:=Vm hi
   cases hi;cases X5 e with
   |mk q1 q2 hz q3=>
    obtain⟨hw,hm⟩:=Zcl q2;rcases hw with⟨rfl,rfl⟩|⟨l,c0,rfl,q4,rfl,rfl⟩
    ·exact .mk (Vy hm) hz q3 (Zn q) (pi_tup (ihE X sc N Kx it _ q).pe pins s σ H _ I (Q0 E S q1 p))
    ·exact .mk (Vy hm) hz q3 (Zn q) (pi_list (ihE X sc N Kx it _ q).pe pins s σ H _ I (QZ E S q1 q4 p))
theorem ZaV{G:Gs}{F:Nat→Fn}{n:Nat}(ihE:ZG G F n){X:Cx}{sc:Scope}{N:List Str}(Kx:Cxt X G F sc N){elt:Expr}{gens:List Comprehension}{sc2:Scope}{pos:Pos}{c:CE}(h:cE G (n+1) sc N (.ListComp elt gens sc2 pos)=some c){pins:List (Addr×Obj)}{s:Shared}{σ:L2.St}{H:Hp}{Q:VK}(I:L2.Inv X pins σ H s)(hq:tE X.K (ev F c) σ H Q){use:Option (Value→Sem Unit)}{R0:Value→Shared→Prop}(hend:∀ C dd s5 H5 m',s5.heap.Ns C m'→(∀ h',Heap.SameBut C s5.heap h'→L2.Inv X pins σ H5 { s5 with heap:=h' })→FpOk X pins H5 C→Q (.ref dd) H5→compPost (model X.prog X.w) X.A X.xe use R0 (.ref dd) C (.ok .next) s5) :
  ∃ tg it ifs,gens=[⟨tg,it,ifs,0⟩]∧∀ pos',wpAny (model X.prog X.w) X.A (comprehension (.ListComp elt [⟨tg,it,ifs,0⟩] sc2 pos) sc2 X.env pos' (newList []) false (eval it X.env) use) R0 X.xe s:=by
 cases ZeY h with
 |@mk tg it ifs xs fr r ci ce cc htg hsc hfr hi hce hcc=>
  obtain⟨h1,h2,h3,h4,h5,h6⟩:=Y0 hsc;obtain⟨ad,ρ,st,d,st',E,S,e,p⟩:=hq;obtain⟨cl,ec,c1,c2⟩:=Q1 (env:=X.env) (sc:=sc2) (fun y hy hf=>by
   have hm:(y.1,NameKind.free)∈sc2.names:=by rw[←hf];exact hy
   exact I.ok.has y.1 (Kx.cel y.1 (h6 y.1 (mem_frees.mpr hm)).1))
  refine⟨tg,it,ifs,rfl,fun pos'=>?_⟩
  cases ZeW ihE Kx htg hi I E S e p with
  |mk B hz q3 hp pi=>
   refine wpAny_comprehension_free (use:=use) rfl (YI hp) ec h1 h4 (thn pi fun v s1 h1'=>thn h1' fun itv s2 h2'=>?_)
   obtain⟨ita,fp,tn,J,H2,rfl,I2,T,t2,f2,ad1,Good,gm,gw,go,stop,yl,E2,S2,g2,p2⟩:=h2';exact ZbN Kx ihE hsc hfr hce hcc c1 c2 Good gm gw go stop yl I2 B T t2 f2 E2 S2 g2 q3 hz p2 hend
theorem ZeX{G:Gs}{F:Nat→Fn}:Xy G F:=by
 intro n ihE;refine⟨fun X sc N Kx elt gens sc2 pos c h=>SE.of ?_,fun X sc N K y i p elt gens sc2 epos pos c hi h hsw=>?_⟩
 ·intro pins s σ H Q I hq
  obtain⟨tg,it,ifs,rfl,go⟩:=ZaV ihE Kx h I hq (use:=none) (R0:=EP X pins σ Q) fun C dd s5 H5 m' hn hI _ q=>⟨m',hn,fun h' sb=>⟨.ref dd,H5,hI h' sb,rfl,q⟩⟩
  rw[eval_ListComp];exact go _
 ·intro pins s σ H D I hq
  obtain⟨tg,it,ifs,rfl,go⟩:=ZaV ihE K.toCxt h I hq (use:=some (assign (.Name y p) X.env)) (R0:=fun _ s'=>SP X pins D .next s') fun C dd s5 H5 m' hn hI fo q=>by
   have I5:=hI s5.heap (Heap.SameBut.refl _ _);show wpAny _ X.A (assign (.Name y p) X.env (.ref dd)) _ _ s5;refine wpAny_assign_Name (store_ok2 (v:=.ref dd) I5 (by rw[K.hN];exact K.nd) (by rw[K.hN];exact Wn hi) (K.loc _ (Qf hi)) rfl (fun s6 I6 ⟨a,sb,ha⟩=>?_) (.inl (K.fn _)))
   have ne:C≠a:=by
    rcases ha with z|z
    ·rw[z];exact fo.2.1
    ·exact fun w=>fo.2.2.2.2.1 _ _ z w.symm
   exact⟨m',hn.sameBut sb ne,fun h3 sb3=>⟨_,H5,I6.turned (t':=s6.toks) (fun b o hb e=>sb3.extBut b o hb e) fo.1 fo.2.1 fo.2.2.2.1 fo.2.2.2.2.1 fo.2.2.2.2.2,q⟩⟩
  rw[exec_Assign_Name_used _ _ _ _ hsw];refine wpAny_bind (wpAny_standAt (wpAny_bind ?_));show wpAny _ X.A (do let _ ←comprehension (.ListComp elt [⟨tg,it,ifs,0⟩] sc2 epos) sc2 X.env _ (newList []) false (eval it X.env) (some (assign (.Name y p) X.env))) _ _ s
  exact wpAny_bind (wpAny_mono (go _) (fun _ s' hq=>wpAny_pure (wpAny_pure hq)) fun _ _ e=>e)
end Dp


namespace Dp
open PySem

inductive P where
 |non|bl (b:Bool)|int (i:Int)|str (x:Str)|tup (xs:List P)|lst (m:Bool) (xs:List P)|dct (ks:List Str) (vs:List P)|obj (i:Nat)|kt (ks:List Str)|dic (m:Bool) (xs:List P)

mutual
noncomputable def noL:P→Bool
 |.tup xs=>VW xs
 |.lst _ _=>false
 |.dic _ _=>false
 |.dct _ vs=>VW vs
 |_=>true
noncomputable def VW:List P→Bool
 |[]=>true
 |x :: xs=>noL x&&VW xs
end
mutual
noncomputable def ofD:D→Option P
 |.non=>some .non
 |.bl b=>some (.bl b)
 |.int i=>some (.int i)
 |.str x=>some (.str x)
 |.tup xs=>(WX xs).map .tup
 |.kt ks=>some (.kt ks)
 |_=>none
noncomputable def WX:List D→Option (List P)
 |[]=>some []
 |x :: xs=>match ofD x,WX xs with
  |some y,some ys=>some (y :: ys)
  |_,_=>none
end
mutual
noncomputable def Uf:P→P→Bool
 |.non,.non=>true
 |.bl a,.bl b=>a==b
 |.int a,.int b=>decide (a=b)
 |.str a,.str b=>decide (a=b)
 |.tup a,.tup b=>Xr a b
 |_,_=>false
noncomputable def Xr:List P→List P→Bool
 |[],[]=>true
 |x :: xs,y :: ys=>Uf x y&&Xr xs ys
 |_,_=>false
end
mutual
noncomputable def okP:Nat→P→Bool
 |_,.non=>true
 |_,.int _=>true
 |_,.str _=>true
 |n+1,.tup xs=>Uq n xs
 |_,_=>false
noncomputable def Uq:Nat→List P→Bool
 |_,[]=>true
 |n,x :: xs=>okP n x&&Uq n xs
end
noncomputable def Jw(_ _:List P):Option Bool:=none
noncomputable def scP:P→Option Sc
 |.non=>some .non
 |.bl b=>some (.bl b)
 |.int i=>some (.int i)
 |.str x=>some (.str x)
 |_=>none
noncomputable def Zg7(xs ys:List P):Option Bool:=if (xs.isEmpty||ys.isEmpty)=true then some (xs.isEmpty&&ys.isEmpty) else if Uq 7 xs&&Uq 7 ys then some (Xr xs ys) else none
noncomputable def ZjW(xs:List P):P→Option Bool
 |.tup ys=>if okP 8 (.tup xs)&&okP 8 (.tup ys) then some (Xr xs ys) else Jw xs ys
 |_=>none
noncomputable def ZjV(xs:List P):P→Option Bool
 |.lst _ ys=>Zg7 xs ys
 |_=>none
noncomputable def eqP(x y:P):Option Bool:=match x with
 |.tup xs=>ZjW xs y
 |.lst _ xs=>ZjV xs y
 |x=>(o2 ZcO (scP x) (scP y)).join
noncomputable def ZdW(xs:List P)(j:Int):Option P:=match xs with
 |[x]=>if j≤1000∧-1000≤j then some (.tup (List.replicate j.toNat x)) else none
 |_=>none
noncomputable def ZdV(m:Bool)(xs:List P)(j:Int):Option P:=match m,xs with
 |true,[x]=>if j≤1000∧-1000≤j then some (.lst true (List.replicate j.toNat x)) else none
 |_,_=>none
noncomputable def Xi(op:Operator)(x y:P):Option P:=
 match x,y with
 |.int i,.int j=>match J3 op i j with
  |some k=>some (.int k)
  |none=>none
 |.tup xs,.tup ys=>if Xt op=true∧xs.length+ys.length≤Zc then some (.tup (xs++ys)) else none
 |.tup xs,.int j=>if XE op=true then ZdW xs j else none
 |.lst _ xs,.lst _ ys=>if Xt op=true∧xs.length+ys.length≤Zc then some (.lst true (xs++ys)) else none
 |.lst m xs,.int j=>if XE op=true then ZdV m xs j else none
 |.str x,.str y=>if Xt op=true∧x.length+y.length≤Zc then some (.str (x++y)) else none
 |_,_=>none
noncomputable def inP:Int→List P→Option Bool
 |_,[]=>some false
 |k,.int i :: r=>(inP k r).map fun b=>decide (i=k)||b
 |_,_=>none
noncomputable def ZbX:Str→List P→Option Bool
 |_,[]=>some false
 |k,.str i :: r=>(ZbX k r).map fun b=>decide (i=k)||b
 |_,_=>none
noncomputable def XF:List Str→List P→Str→Option P
 |k :: ks,v :: vs,x=>if k=x then some v else XF ks vs x
 |_,_,_=>none
noncomputable def Zdz(f:Int→Int→Bool):P→P→Option Bool
 |.int i,.int j=>some (f i j)
 |_,_=>none
noncomputable def ltP(x y:P):Option Bool:=Zdz (fun i j=>decide (i < j)) x y
noncomputable def ZiL(x y:P):Option Bool:=ltP x y
noncomputable def Zhh(x y:P):Option Bool:=match x,y with
 |.int k,.lst _ xs=>inP k xs
 |.str k,.lst _ xs=>ZbX k xs
 |.int k,.tup xs=>inP k xs
 |.str k,.tup xs=>ZbX k xs
 |.str k,.dct ks vs=>some (XF ks vs k).isSome
 |.str k,.str x=>some (ZiY x k)
 |_,_=>none
noncomputable def niP(x y:P):Option Bool:=match y with
 |.dct _ _=>none
 |y=>(Zhh x y).map not
noncomputable def ZjZ:P→Option Bool
 |.non=>some true
 |.int _=>some false
 |.str _=>some false
 |.bl _=>some false
 |.tup _=>some false
 |.lst _ _=>some false
 |.dct _ _=>none
 |.obj _=>none
 |.kt _=>none
 |.dic _ _=>none
noncomputable def ZjY(b:Bool):P→Option Bool
 |.bl a=>some (a==b)
 |_=>none
noncomputable def Zhj(x:P):P→Option Bool
 |.non=>ZjZ x
 |.bl b=>ZjY b x
 |_=>none
noncomputable def Zg2(op:CmpOp)(x y:P):Option Bool:=
 match op with
 |.Lt=>ZiL x y
 |.LtE=>Zdz (fun i j=>decide (i≤j)) x y
 |.Gt=>Zdz (fun i j=>decide (j < i)) x y
 |.GtE=>Zdz (fun i j=>decide (j≤i)) x y
 |.Eq=>eqP x y
 |.NotEq=>(eqP x y).map not
 |.In=>Zhh x y
 |.NotIn=>niP x y
 |.Is=>Zhj x y
 |.IsNot=>(Zhj x y).map not
noncomputable def atP(xs:List P)(i:Int):Option P:=(ixN xs.length i).bind fun j=>xs[j]?
noncomputable def ixP:P→P→Option P
 |.tup xs,.int i=>atP xs i
 |.lst _ xs,.int i=>atP xs i
 |.dct ks vs,.str k=>XF ks vs k
 |.kt ks,.int i=>atP (ks.map .str) i
 |.str x,.int i=>if x.length≤Zc then atP ((chS x).map .str) i else none
 |_,_=>none
noncomputable def Wg(xs:List P)(lo hi:Option Int):List P:=(xs.drop (sIx xs.length 0 lo)).take (sIx xs.length xs.length hi - sIx xs.length 0 lo)
noncomputable def Yt(x:P)(lo hi:Option Int):Option P:=
 match x with
 |.tup xs=>if sIx xs.length 0 lo=0∧sIx xs.length xs.length hi=xs.length then some (.tup xs) else some (.tup (Wg xs lo hi))
 |.lst _ xs=>some (.lst true (Wg xs lo hi))
 |_=>none
noncomputable def X1:P→P→P→Option P
 |x,.non,.non=>Yt x none none
 |x,.int i,.non=>Yt x (some i) none
 |x,.non,.int j=>Yt x none (some j)
 |x,.int i,.int j=>Yt x (some i) (some j)
 |_,_,_=>none
noncomputable def Zai:P→Option P
 |.tup xs=>some (.int xs.length)
 |.lst _ xs=>some (.int xs.length)
 |.kt ks=>some (.int ks.length)
 |.str x=>if x.length≤Zc then some (.int x.length) else none
 |_=>none
noncomputable def Zhk(T:Ty):P→Option Bool
 |.int _=>some (decide (T=.int))
 |.bl _=>some (decide (T=.int)||decide (T=.bool))
 |.str _=>some (decide (T=.str))
 |.tup _=>some (decide (T=.tuple))
 |.non=>some false
 |_=>none
noncomputable def Ql(T:Ty)(p:P):Option P:=(Zhk T p).map .bl
noncomputable def Zb7:P→Option P
 |.int i=>some (.int (-i))
 |_=>none
noncomputable def Zb9:P→Option P
 |.bl k=>some (.bl (!k))
 |_=>none
noncomputable def Yy(op:CmpOp)(x y:P):Option P:=(Zg2 op x y).map .bl
noncomputable def ZaD:P→Option P
 |.tup [.int i,.int j,.int k]=>(Us i j k).map fun l=>.lst true (l.map .int)
 |_=>none
noncomputable def Zam:P→Option P
 |.tup xs=>some (.lst true xs)
 |_=>none
noncomputable def Uy:P→P→Option P
 |x,.tup xs=>if xs.length < 1000 then some (.tup (x :: xs)) else none
 |_,_=>none
noncomputable def US:P→Option P
 |.int i=>some (.int i)
 |_=>none
noncomputable def VE(g:List P→Option P)(ds:List D):P→Option P
 |.tup xs=>match WX ds with
  |some es=>g (xs++es)
  |none=>none
 |_=>none
noncomputable def Wu:P→Option P
 |.tup xs=>some (.tup xs)
 |.lst _ xs=>some (.tup xs)
 |_=>none
noncomputable def VP:P→Option P
 |.tup xs=>some (.lst true xs)
 |.lst _ xs=>some (.lst true xs)
 |_=>none
noncomputable def Zc9:P→Option P
 |.int i=>some (.int i)
 |.bl true=>some (.int 1)
 |.bl false=>some (.int 0)
 |_=>none
noncomputable def Zb6:P→P→Option P
 |.int i,.int j=>some (.int (if j < i then j else i))
 |_,_=>none
noncomputable def Zb5:P→P→Option P
 |.int i,.int j=>some (.int (if j > i then j else i))
 |_,_=>none
noncomputable def ZaB:List P→Option (List P)
 |[.int i,.int j]=>some (if j < i then [.int j,.int i] else [.int i,.int j])
 |_=>none
noncomputable def Zcf(k:Bool)(xs:List P):Option (List P):=if k then ZaB xs else some xs.reverse
noncomputable def rsP(k:Bool):P→Option P
 |.lst _ xs=>(Zcf k xs).map fun ys=>.lst true ys
 |_=>none
noncomputable def Zfk(ng:Bool):P→P→Option P
 |.int x,.int n=>if -(2 ^ 62)≤n∧n < 2 ^ 62 then some (.bl (ng != decide (0≤x∧x < n))) else none
 |_,_=>none
noncomputable def W8:P→P→Option P
 |.int a,.int b=>if YA a b 1=true∧b - a≤1000 then some (.lst true ((Xn a b 1).map .int)) else none
 |_,_=>none
noncomputable def Yj(n:Int):List P:=(List.range n.toNat).map fun(k:Nat)=>P.int (k:Int)
noncomputable def Qm(rng:Bool)(x:P):Option (List P):=
 match rng,x with
 |true,.int n=>if n < 2 ^ 62∧-(2 ^ 62)≤n then some (Yj n) else none
 |false,.tup xs=>some xs
 |_,_=>none
noncomputable def Z7(f c:P→Option P):List P→Option (List P)
 |[]=>some []
 |x :: xs=>match c x with
  |some (.bl true)=>match f x with
   |some y=>match Z7 f c xs with
    |some ys=>some (y :: ys)
    |none=>none
   |none=>none
  |some (.bl false)=>Z7 f c xs
  |_=>none
noncomputable def Xb(rng:Bool)(x:P):Option (List P):=match Qm rng x with
 |some xs=>some xs
 |none=>match rng,x with
  |false,.lst _ xs=>some xs
  |false,.dct [] [.int a,.int b]=>some ((Xn a b 1).map .int)
  |_,_=>none
noncomputable abbrev Zw:=List (Option P)
noncomputable abbrev PEv:=Zw→Option P
noncomputable def pq1(fa:PEv)(g:P→Option P):PEv:=fun π=>match fa π with
 |some x=>g x
 |none=>none
noncomputable def pq2(fa fb:PEv)(g:P→P→Option P):PEv:=fun π=>match fa π with
 |some x=>match fb π with
  |some y=>g x y
  |none=>none
 |none=>none
noncomputable def pq3(fa fb fc:PEv)(g:P→P→P→Option P):PEv:=fun π=>match fa π with
 |some x=>match fb π with
  |some y=>match fc π with
   |some z=>g x y z
   |none=>none
  |none=>none
 |none=>none
noncomputable def YY(fc ft ff:PEv):PEv:=fun π=>match fc π with
 |some (.bl true)=>ft π
 |some (.bl false)=>ff π
 |_=>none
noncomputable def X0(i:Nat):PEv:=fun π=>match π[i]? with
 |some (some p)=>some p
 |_=>none
noncomputable def YZ(π:Zw)(fr:List Nat)(p:P):Zw:=some p :: fr.map fun i=>(π[i]?).join
noncomputable def ZdK(p:P):List (Option P):=[some p]
noncomputable def Yi:P→List (Option P)
 |.tup [a,b]=>[some a,some b]
 |_=>[]
noncomputable def Qx:Nat→List P→List P
 |_,[]=>[]
 |k,x :: xs=>.tup [.int (k:Int),x] :: Qx (k+1) xs
noncomputable def QN:P→Option (List P)
 |.tup xs=>some (Qx 0 xs)
 |.lst _ xs=>some (Qx 0 xs)
 |_=>none
noncomputable def WF:P→Bool
 |.tup [_,_]=>true
 |_=>false
noncomputable def X4:P→Option (List P)
 |.tup xs=>if xs.all WF=true then some xs else none
 |.lst _ xs=>if xs.all WF=true then some xs else none
 |_=>none
noncomputable def Z4(b:P→List (Option P))(π:Zw)(fr:List Nat)(p:P):Zw:=b p++fr.map fun i=>(π[i]?).join
noncomputable def ZU(b:P→List (Option P))(w:P→Option (List P))(fr:List Nat)(fi fe fc:PEv):PEv:=fun π=>match fi π with
 |some x=>match w x with
  |some xs=>if xs.length≤1000 then
    match Z7 (fun p=>fe (Z4 b π fr p)) (fun p=>fc (Z4 b π fr p)) xs with
    |some ys=>some (.lst true ys)
    |none=>none
   else none
  |none=>none
 |none=>none
noncomputable def pe(F:Nat→List P→Option P):CE→PEv
 |.var i=>X0 i
 |.cst d=>fun _=>ofD d
 |.bin op a b=>pq2 (pe F a) (pe F b) (Xi op)
 |.neg a=>pq1 (pe F a) Zb7
 |.cmp op a b=>pq2 (pe F a) (pe F b) (Yy op)
 |.not a=>pq1 (pe F a) Zb9
 |.and a b=>YY (pe F a) (pe F b) (fun _=>some (.bl false))
 |.or a b=>YY (pe F a) (fun _=>some (.bl true)) (pe F b)
 |.ife c a b=>YY (pe F c) (pe F a) (pe F b)
 |.tupE a=>pe F a
 |.lstE a=>pq1 (pe F a) Zam
 |.anil=>fun _=>some (.tup [])
 |.acons a r=>pq2 (pe F a) (pe F r) Uy
 |.ix a b=>pq2 (pe F a) (pe F b) ixP
 |.slice a lo hi=>pq3 (pe F a) (pe F lo) (pe F hi) X1
 |.nop=>fun _=>some .non
 |.part a=>pq1 (pe F a) US
 |.call f a ds=>pq1 (pe F a) (VE (F f) ds)
 |.len a=>pq1 (pe F a) Zai
 |.tupleOf a=>pq1 (pe F a) Wu
 |.listOf a=>pq1 (pe F a) VP
 |.intOf a=>pq1 (pe F a) Zc9
 |.min a b=>pq2 (pe F a) (pe F b) Zb6
 |.max a b=>pq2 (pe F a) (pe F b) Zb5
 |.isi T a=>pq1 (pe F a) (Ql T)
 |.rs k a=>pq1 (pe F a) (rsP k)
 |.inv _=>fun _=>none
 |.tupR _=>fun _=>none
 |.look _ _ _=>fun _=>none
 |.dget _ _ _=>fun _=>none
 |.inR ng a b=>pq2 (pe F a) (pe F b) (Zfk ng)
 |.all _=>fun _=>none
 |.any _=>fun _=>none
 |.comp rng fr it elt cnd=>ZU ZdK (Xb rng) fr (pe F it) (pe F elt) (pe F cnd)
 |.comp2 fr it elt cnd=>ZU Yi QN fr (pe F it) (pe F elt) (pe F cnd)
 |.compT fr it elt cnd=>ZU Yi X4 fr (pe F it) (pe F elt) (pe F cnd)
 |.lstR a b=>pq2 (pe F a) (pe F b) W8
 |.new _=>fun _=>none
 |.meth _ _ _=>fun _=>none
 |.isc _ _=>fun _=>none
 |.tix _ _=>fun _=>none
 |.dict _ _=>fun _=>none
 |.dnew=>fun _=>none
 |.strOf _=>fun _=>none
 |.joinE _ _=>fun _=>none
 |.starts _ _=>fun _=>none
 |.rng2 _ _=>fun _=>none
 |.srt a=>pq1 (pe F a) ZaD

noncomputable def noM(M:List Nat):CE→Bool
 |.var i=>!M.contains i
 |.cst _=>true
 |.bin _ a b=>noM M a&&noM M b
 |.neg a=>noM M a
 |.cmp _ a b=>noM M a&&noM M b
 |.not a=>noM M a
 |.and a b=>noM M a&&noM M b
 |.or a b=>noM M a&&noM M b
 |.ife c a b=>noM M c&&(noM M a&&noM M b)
 |.tupE a=>noM M a
 |.lstE a=>noM M a
 |.anil=>true
 |.acons a r=>noM M a&&noM M r
 |.ix a b=>noM M a&&noM M b
 |.slice a lo hi=>noM M a&&(noM M lo&&noM M hi)
 |.nop=>true
 |.part a=>noM M a
 |.call _ a _=>noM M a
 |.len a=>noM M a
 |.tupleOf a=>noM M a
 |.listOf a=>noM M a
 |.intOf a=>noM M a
 |.min a b=>noM M a&&noM M b
 |.max a b=>noM M a&&noM M b
 |.isi _ a=>noM M a
 |.rs _ a=>noM M a
 |.inv a=>noM M a
 |.tupR a=>noM M a
 |.look _ _ a=>noM M a
 |.dget a k d=>noM M a&&(noM M k&&noM M d)
 |.inR _ a b=>noM M a&&noM M b
 |.all a=>noM M a
 |.any a=>noM M a
 |.comp _ fr it _ _=>noM M it&&fr.all fun i=>!M.contains i
 |.comp2 fr it _ _=>noM M it&&fr.all fun i=>!M.contains i
 |.compT fr it _ _=>noM M it&&fr.all fun i=>!M.contains i
 |.lstR a b=>noM M a&&noM M b
 |.new _=>true
 |.meth _ o a=>noM M o&&noM M a
 |.isc _ a=>noM M a
 |.tix o a=>noM M o&&noM M a
 |.dict _ a=>noM M a
 |.dnew=>true
 |.strOf a=>noM M a
 |.joinE a b=>noM M a&&noM M b
 |.starts a b=>noM M a&&noM M b
 |.rng2 a b=>noM M a&&noM M b
 |.srt a=>noM M a
noncomputable def VO(_:Nat):Bool:=false
noncomputable def Vl:CE→Bool
 |.call f _ _=>VO f
 |.bin _ _ _=>true
 |.lstE _=>true
 |.srt _=>true
 |.slice _ _ _=>true
 |.listOf _=>true
 |.rs _ _=>true
 |.comp ..=>true
 |.comp2 ..=>true
 |.compT ..=>true
 |.lstR ..=>true
 |_=>false
noncomputable def ZL:CS→List Nat
 |.seq a b=>ZL a++ZL b
 |.app i _=>[i]
 |.ext i _=>[i]
 |.put i _ _=>[i]
 |.dput i _ _ _=>[i]
 |.ite _ a b=>ZL a++ZL b
 |.for1 _ _ _ b=>ZL b
 |.for3 _ _ b=>ZL b
 |.forP _ _ _ b=>ZL b
 |.forE _ _ _ b=>ZL b
 |.for4 _ _ _ _ b=>ZL b
 |.for2 _ _ _ b=>ZL b
 |.whl _ b=>ZL b
 |_=>[]
noncomputable def mvT:CE→List Nat
 |.var j=>[j]
 |_=>[]
noncomputable def ZZ:CS→List Nat
 |.seq a b=>ZZ a++ZZ b
 |.app i _=>[i]
 |.ext i _=>[i]
 |.put i _ _=>[i]
 |.dput i _ _ _=>[i]
 |.set i e=>i :: mvT e
 |.set2 i j _=>[i,j]
 |.set3 i j l _=>[i,j,l]
 |.ite _ a b=>ZZ a++ZZ b
 |.for1 i _ _ b=>i :: ZZ b
 |.for3 i _ b=>i :: ZZ b
 |.forP i j _ b=>i :: j :: ZZ b
 |.forE i j _ b=>i :: j :: ZZ b
 |.for4 i j l _ b=>i :: j :: l :: ZZ b
 |.for2 i j _ b=>i :: j :: ZZ b
 |.whl _ b=>ZZ b
 |_=>[]
inductive PFl where
 |nx (π:Zw)|rt (p:P)|bk (π:Zw)|ct (π:Zw)
noncomputable abbrev PEx:=Zw→Option PFl
noncomputable def Zq(π:Zw)(i:Nat)(p:P):Zw:=π.set i (some p)
noncomputable def Zz(body:P→Zw→Option PFl):List P→Zw→Option PFl
 |[],π=>some (.nx π)
 |d :: ds,π=>match body d π with
  |some (.nx π')=>Zz body ds π'
  |some (.ct π')=>Zz body ds π'
  |some (.bk π')=>some (.nx π')
  |some (.rt v)=>some (.rt v)
  |none=>none
noncomputable def ZdP(f g:PEx):PEx:=fun π=>match f π with
 |some (.nx π')=>g π'
 |r=>r
noncomputable def ZdN(f:PEv):PEx:=fun π=>match f π with
 |some d=>some (.rt d)
 |none=>none
noncomputable def Zu(M:List Nat)(e:CE)(p:P):Bool:=noM M e||noL p
noncomputable def Y1(M:List Nat)(e:CE)(p:P):Bool:=match p with
 |.lst true xs=>Vl e&&(noM M e||VW xs)
 |_=>false
noncomputable def mvP(M:List Nat)(i:Nat)(e:CE)(p:P)(π:Zw):Option PFl:=match e with
 |.var j=>if M.contains j&&!M.contains i then some (.nx (Zq (π.set j none) i p)) else none
 |_=>none
noncomputable def Qz(M:List Nat)(i:Nat)(e:CE)(f:PEv):PEx:=fun π=>match f π with
 |some p=>if (if M.contains i then Y1 M e p else Zu M e p||Y1 M e p) then some (.nx (Zq π i p)) else mvP M i e p π
 |none=>none
noncomputable def JA(M:List Nat)(i j:Nat)(e:CE)(f:PEv):PEx:=fun π=>match f π with
 |some (.tup [x,y])=>if !M.contains i&&!M.contains j&&Zu M e (.tup [x,y]) then some (.nx (Zq (Zq π i x) j y)) else none
 |_=>none
noncomputable def ZdQ(M:List Nat)(i j l:Nat)(e:CE)(f:PEv):PEx:=fun π=>match f π with
 |some (.tup [x,y,z])=>if !M.contains i&&!M.contains j&&!M.contains l&&Zu M e (.tup [x,y,z]) then some (.nx (Zq (Zq (Zq π i x) j y) l z)) else none
 |_=>none
noncomputable def Zhx(M:List Nat)(e:CE)(f:PEv):PEx:=fun π=>match f π with
 |some p=>if Zu M e p then some (.nx π) else none
 |none=>none
noncomputable def ZdD(M:List Nat)(i:Nat)(e:CE)(f:PEv):PEx:=fun π=>match π[i]? with
 |some (some (.lst true xs))=>match f π with
  |some p=>if M.contains i&&Zu M e p&&decide (xs.length < Zc) then some (.nx (Zq π i (.lst true (xs++[p])))) else none
  |none=>none
 |_=>none
noncomputable def ZdG(M:List Nat)(i:Nat)(e:CE)(f:PEv):PEx:=fun π=>match π[i]? with
 |some (some (.lst true xs))=>match f π with
  |some (.lst true ys)=>if M.contains i&&noM M e&&decide (xs.length+ys.length≤Zc) then some (.nx (Zq π i (.lst true (xs++ys)))) else none
  |_=>none
 |_=>none
noncomputable def ZdL(M:List Nat)(i:Nat)(e:CE)(k f:PEv):PEx:=fun π=>match f π with
 |some p=>match π[i]? with
  |some (some (.lst true xs))=>match k π with
   |some (.int j)=>match ixN xs.length j with
    |some q=>if M.contains i&&Zu M e p then some (.nx (Zq π i (.lst true (xs.set q p)))) else none
    |none=>none
   |_=>none
  |_=>none
 |none=>none
noncomputable def ZdI(c:PEv)(f g:PEx):PEx:=fun π=>match c π with
 |some (.bl true)=>f π
 |some (.bl false)=>g π
 |_=>none
noncomputable def X3(M T:List Nat)(e:CE)(xs:List P):Bool:=noM M e||(Vl e&&VW xs)||(match e with
 |.var j=>!T.contains j
 |_=>false)
noncomputable def Qy(M T:List Nat)(i:Nat)(rng:Bool)(e:CE)(it:PEv)(b:PEx):PEx:=fun π=>match it π with
 |some x=>match Qm rng x with
  |some xs=>if !M.contains i&&(rng||Zu M e x) then Zz (fun d π=>b (Zq π i d)) xs π else none
  |none=>match rng,x with
   |false,.lst _ xs=>if !M.contains i&&X3 M T e xs then Zz (fun d π=>b (Zq π i d)) xs π else none
   |_,_=>none
 |none=>none
noncomputable def XH(i j:Nat)(b:PEx)(d:P)(π:Zw):Option PFl:=match d with
 |.tup [x,y]=>b (Zq (Zq π i x) j y)
 |_=>none
noncomputable def Jy(M T:List Nat)(i j:Nat)(e:CE)(it:PEv)(b:PEx):PEx:=fun π=>match it π with
 |some (.lst _ xs)=>if !M.contains i&&!M.contains j&&X3 M T e xs then Zz (XH i j b) xs π else none
 |some (.tup xs)=>if !M.contains i&&!M.contains j&&Zu M e (.tup xs) then Zz (XH i j b) xs π else none
 |_=>none
noncomputable def Xu(body:P→P→Zw→Option PFl):List (P×P)→Zw→Option PFl
 |[],π=>some (.nx π)
 |p :: ps,π=>match body p.1 p.2 π with
  |some (.nx π')=>Xu body ps π'
  |some (.ct π')=>Xu body ps π'
  |some (.bk π')=>some (.nx π')
  |some (.rt v)=>some (.rt v)
  |none=>none
noncomputable def Wo:Nat→List P→List (P×P)
 |_,[]=>[]
 |k,x :: xs=>(.int (k:Int),x) :: Wo (k+1) xs
noncomputable def Zer:P→Option (List P)
 |.tup xs=>some xs
 |.lst _ xs=>some xs
 |_=>none
noncomputable def Jz(M:List Nat)(i j:Nat)(e:CE)(it:PEv)(b:PEx):PEx:=fun π=>match it π with
 |some x=>match Zer x with
  |some xs=>if !M.contains i&&!M.contains j&&noM M e then Xu (fun x y π=>b (Zq (Zq π i x) j y)) (Wo 0 xs) π else none
  |none=>none
 |none=>none
noncomputable def px(F:Nat→List P→Option P)(M:List Nat):CS→PEx
 |.skip=>fun π=>some (.nx π)
 |.seq a b=>ZdP (px F M a) (px F M b)
 |.ret e=>ZdN (pe F e)
 |.set i e=>Qz M i e (pe F e)
 |.set2 i j e=>JA M i j e (pe F e)
 |.app i e=>ZdD M i e (pe F e)
 |.ext i e=>ZdG M i e (pe F e)
 |.put i k e=>ZdL M i e (pe F k) (pe F e)
 |.ite c a b=>ZdI (pe F c) (px F M a) (px F M b)
 |.for1 i rng it b=>Qy M (ZZ b) i rng it (pe F it) (px F M b)
 |.forP _ _ _ _=>fun _=>none
 |.forE i j it b=>Jz M i j it (pe F it) (px F M b)
 |.for3 _ _ _=>fun _=>none
 |.for4 _ _ _ _ _=>fun _=>none
 |.for2 i j it b=>Jy M (ZZ b) i j it (pe F it) (px F M b)
 |.whl _ _=>fun _=>none
 |.brk=>fun π=>some (.bk π)
 |.cont=>fun π=>some (.ct π)
 |.stop=>fun _=>none
 |.app2 _ _=>fun _=>none
 |.set3 i j l e=>ZdQ M i j l e (pe F e)
 |.act e=>Zhx M e (pe F e)
 |.dput _ _ _ _=>fun _=>none
noncomputable def fnP(F:Nat→List P→Option P)(f:FD):List P→Option P:=fun ds=>
 if ds.length=f.ps∧(ZL f.body).all (fun i=>decide (f.ps≤i))=true then
  match px F (ZL f.body) f.body (ds.map some++List.replicate (f.ns - ds.length) none) with
  |some (.rt d)=>some d
  |some (.nx _)=>some .non
  |_=>none
 else none
noncomputable def XG:CS→Bool
 |.seq a b=>XG a&&XG b
 |.ret _=>false
 |.ite _ a b=>XG a&&XG b
 |.for1 _ _ _ b=>XG b
 |.for3 _ _ b=>XG b
 |.forP _ _ _ b=>XG b
 |.forE _ _ _ b=>XG b
 |.for4 _ _ _ _ b=>XG b
 |.for2 _ _ _ b=>XG b
 |.whl _ b=>XG b
 |_=>true
noncomputable def Zbn(M:List Nat):CS→Bool
 |.seq (.ret (.var j)) .skip=>M.contains j
 |.seq a b=>XG a&&Zbn M b
 |_=>false
noncomputable def VU(f:FD):Bool:=Zbn (ZL f.body) f.body
noncomputable def Ze(T:Nat→Option FD):Nat→Nat→List P→Option P
 |0,_=>fun _=>none
 |n+1,i=>match T i with
  |some f=>if (VO i&&!VU f)=true then fun _=>none else fnP (Ze T n) f
  |none=>fun _=>none
end Dp


namespace Dp
open PySem
abbrev Fz:=Nat→Prop
mutual
inductive Rel(fz:Fz)(st:Za):P→D→Prop where
 |non:Rel fz st .non .non
 |bl (b:Bool):Rel fz st (.bl b) (.bl b)
 |int (i:Int):Rel fz st (.int i) (.int i)
 |str (x:Str):Rel fz st (.str x) (.str x)
 |tup {ps:List P}{ds:List D} (r:Rels fz st ps ds):Rel fz st (.tup ps) (.tup ds)
 |lst {j:Nat}{m:Bool}{ps:List P}{ds:List D} (hz:fz j) (h:st[j]?=some (m,ds)) (r:Rels fz st ps ds):Rel fz st (.lst m ps) (.lst j)
 |dct {ks:List Str}{ps:List P}{ds:List D} (r:Rels fz st ps ds):Rel fz st (.dct ks ps) (.dct ks ds)
 |obj (i:Nat):Rel fz st (.obj i) (.obj i)
 |kt (ks:List Str):Rel fz st (.kt ks) (.kt ks)
 |dic {j:Nat}{m:Bool}{ps:List P}{ds:List D} (hz:fz j) (h:st[j]?=some (m,ds)) (r:Rels fz st ps ds):Rel fz st (.dic m ps) (.dic j)
inductive Rels(fz:Fz)(st:Za):List P→List D→Prop where
 |nil:Rels fz st [] []
 |cons {p:P}{d:D}{ps:List P}{ds:List D} (h:Rel fz st p d) (r:Rels fz st ps ds):Rels fz st (p :: ps) (d :: ds)
end
section
variable {fz fz':Fz}{st st':Za}
theorem Rel.mono(h1:∀ i,fz i→fz' i)(h2:∀ i,fz i→st'[i]?=st[i]?){p:P}{d:D}(h:Rel fz st p d):Rel fz' st' p d:=
 Rel.rec (motive_1:=fun p d _=>Rel fz' st' p d) (motive_2:=fun ps ds _=>Rels fz' st' ps ds) .non .bl .int .str (fun _ r=>.tup r) (fun hz h _ r=>.lst (h1 _ hz) (by rw[h2 _ hz];exact h) r) (fun _ r=>.dct r) .obj .kt (fun hz h _ r=>.dic (h1 _ hz) (by rw[h2 _ hz];exact h) r) .nil (fun _ _ a b=>.cons a b) h
theorem Rels.mono(h1:∀ i,fz i→fz' i)(h2:∀ i,fz i→st'[i]?=st[i]?){ps:List P}{ds:List D}(h:Rels fz st ps ds):Rels fz' st' ps ds:=
 Rels.rec (motive_1:=fun _ _ _=>True) (motive_2:=fun ps ds _=>Rels fz' st' ps ds) trivial (fun _=>trivial) (fun _=>trivial) (fun _=>trivial) (fun _ _=>trivial) (fun _ _ _ _=>trivial) (fun _ _=>trivial) (fun _=>trivial) (fun _=>trivial) (fun _ _ _ _=>trivial) .nil (fun a _ _ b=>.cons (a.mono h1 h2) b) h
theorem Rel.ofNoL{p:P}{d:D}(hn:noL p=true)(h:Rel fz st p d):Rel fz' st' p d:=
 Rel.rec (motive_1:=fun p d _=>noL p=true→Rel fz' st' p d) (motive_2:=fun ps ds _=>VW ps=true→Rels fz' st' ps ds) (fun _=>.non) (fun _ _=>.bl _) (fun _ _=>.int _) (fun _ _=>.str _) (fun _ r h=>.tup (r h)) (fun _ _ _ _ h=>by cases h) (fun _ r h=>.dct (r h)) (fun _ _=>.obj _) (fun _ _=>.kt _) (fun _ _ _ _ h=>by cases h) (fun _=>.nil) (fun _ _ a b h=>.cons (a (Bool.and_eq_true_iff.mp h).1) (b (Bool.and_eq_true_iff.mp h).2)) h hn
theorem Rels.ofNoL{ps:List P}{ds:List D}(hn:VW ps=true)(h:Rels fz st ps ds):Rels fz' st' ps ds:=by
 induction ps generalizing ds with
 |nil=>cases h;exact .nil
 |cons p ps ih=>cases h with
  |cons a r=>exact .cons (a.ofNoL (Bool.and_eq_true_iff.mp hn).1) (ih (Bool.and_eq_true_iff.mp hn).2 r)
theorem Rels.length:∀ {ps:List P}{ds:List D},Rels fz st ps ds→ps.length=ds.length
 |_,_,.nil=>rfl
 |_,_,.cons _ r=>congrArg (·+1) (Rels.length r)
theorem Rels.get:∀ {ps:List P}{ds:List D}{i:Nat}{p:P},Rels fz st ps ds→ps[i]?=some p→∃ d,ds[i]?=some d∧Rel fz st p d
 |_,_,_,_,.nil,e=>by simp at e
 |_,_,0,_,.cons h _,e=>by simp at e;subst e;exact⟨_,rfl,h⟩
 |_,_,i+1,p,.cons _ r,e=>by
  obtain⟨v,h1,h2⟩:=Rels.get (i:=i) (p:=p) r (by simpa using e)
  exact⟨v,by simpa using h1,h2⟩
theorem Rels.append:∀ {ps qs:List P}{ds es:List D},Rels fz st ps ds→Rels fz st qs es→Rels fz st (ps++qs) (ds++es)
 |_,_,_,_,.nil,s=>s
 |_,_,_,_,.cons h r,s=>.cons h (Rels.append r s)
theorem Rels.take:∀ {ps:List P}{ds:List D} (n:Nat),Rels fz st ps ds→Rels fz st (ps.take n) (ds.take n)
 |_,_,0,_=>.nil
 |_,_,_+1,.nil=>.nil
 |_,_,n+1,.cons h r=>.cons h (Rels.take n r)
theorem Rels.drop:∀ {ps:List P}{ds:List D} (n:Nat),Rels fz st ps ds→Rels fz st (ps.drop n) (ds.drop n)
 |_,_,0,r=>r
 |_,_,_+1,.nil=>.nil
 |_,_,n+1,.cons _ r=>Rels.drop n r
theorem Rels.set{p:P}{d:D}(h:Rel fz st p d):∀ {ps:List P}{ds:List D} (n:Nat),Rels fz st ps ds→Rels fz st (ps.set n p) (ds.set n d)
 |_,_,_,.nil=>.nil
 |_,_,0,.cons _ r=>.cons h r
 |_,_,n+1,.cons q r=>.cons q (Rels.set h n r)
theorem Rels.rep{p:P}{d:D}(h:Rel fz st p d):∀ n:Nat,Rels fz st (List.replicate n p) (List.replicate n d)
 |0=>.nil
 |n+1=>.cons h (Rels.rep h n)
mutual
theorem Rel.ofConst:∀ {d:D}{p:P},ofD d=some p→Rel fz st p d
 |.non,p,h=>by cases h;exact .non
 |.bl b,p,h=>by cases h;exact .bl b
 |.int i,p,h=>by cases h;exact .int i
 |.str x,p,h=>by cases h;exact .str x
 |.tup xs,p,h=>by
  have h:(WX xs).map P.tup=some p:=h;cases q:WX xs with
  |none=>rw[q]at h;cases h
  |some ys=>rw[q]at h;cases h;exact .tup (Rels.ofConst q)
 |.lst _,p,h=>by cases h
 |.dct _ _,p,h=>by cases h
 |.obj _,p,h=>by cases h
 |.kt ks,p,h=>by cases h;exact .kt ks
theorem Rels.ofConst:∀ {ds:List D}{ps:List P},WX ds=some ps→Rels fz st ps ds
 |[],ps,h=>by cases h;exact .nil
 |d :: ds,ps,h=>by
  have h:(match ofD d,WX ds with
   |some y,some ys=>some (y :: ys)
   |_,_=>none)=some ps:=h
  split at h
  ·rename_i y ys h1 h2
   cases h;exact .cons (Rel.ofConst h1) (Rels.ofConst h2)
  ·cases h
end
end
def Bd(fz:Fz)(st:Za):Prop:=∀ i,fz i→i < st.length
structure Next(fz:Fz)(st:Za)(fz':Fz)(st':Za):Prop where
 old:∀ i,i < st.length→st'[i]?=st[i]?
 len:st.length≤st'.length
 sub:∀ i,fz i→fz' i
 new:∀ i,fz' i→fz i∨st.length≤i
 bd:Bd fz' st'
section
variable {fz fz' fz1 fz2:Fz}{st st' st1 st2:Za}
theorem Next.refl(b:Bd fz st):Next fz st fz st:=⟨fun _ _=>rfl,Nat.le_refl _,fun _ h=>h,fun _ h=>.inl h,b⟩
theorem Next.trans(x:Next fz st fz1 st1)(y:Next fz1 st1 fz2 st2):Next fz st fz2 st2:=
 ⟨fun i h=>(y.old i (Nat.lt_of_lt_of_le h x.len)).trans (x.old i h),Nat.le_trans x.len y.len,fun i h=>y.sub i (x.sub i h),fun i h=>(y.new i h).elim (x.new i) fun z=>.inr (Nat.le_trans x.len z),y.bd⟩
theorem Next.small(b:Bd fz st)(x:Next fz1 st fz' st'):Next fz st fz st':=⟨x.old,x.len,fun _ h=>h,fun _ h=>.inl h,fun i h=>Nat.lt_of_lt_of_le (b i h) x.len⟩
theorem Rel.next{p:P}{d:D}(b:Bd fz st)(x:Next fz st fz' st')(r:Rel fz st p d):Rel fz' st' p d:=r.mono x.sub fun i h=>x.old i (b i h)
theorem Rels.next{p:List P}{d:List D}(b:Bd fz st)(x:Next fz st fz' st')(r:Rels fz st p d):Rels fz' st' p d:=r.mono x.sub fun i h=>x.old i (b i h)
theorem Zgx{α:Type}{l:List α}{x:α}:(l++[x])[l.length]?=some x:=by simp
theorem ZdR{m:Bool}{ds:List D}(b:Bd fz st):Next fz st fz (st++[(m,ds)]):=
 ⟨fun i h=>by rw[List.getElem?_append_left h],by simp,fun _ h=>h,fun _ h=>.inl h,fun i h=>by have:=b i h;simp;omega⟩
theorem Zat{m:Bool}{ds:List D}(b:Bd fz st):Next fz st (fun i=>fz i∨i=st.length) (st++[(m,ds)]):=
 ⟨fun i h=>by rw[List.getElem?_append_left h],by simp,fun _ h=>.inl h,fun i h=>h.elim .inl fun z=>.inr (by omega),fun i h=>by
  rcases h with h|h
  ·have:=b i h;simp;omega
  ·simp;omega⟩
theorem JB{m:Bool}{ps:List P}{ds:List D}(b:Bd fz st)(r:Rels fz st ps ds):Rel (fun i=>fz i∨i=st.length) (st++[(m,ds)]) (.lst m ps) (.lst st.length):=
 .lst (.inr rfl) Zgx (r.next b (Zat b))
end
abbrev Gives(fz:Fz)(st:Za)(r:Res)(p:P):Prop:=∃ d st' fz',r=some (d,st')∧Next fz st fz' st'∧Rel fz' st' p d
def Op1(o:D→Za→Res)(O:P→Option P):Prop:=∀ fz st x dx p,Bd fz st→Rel fz st x dx→O x=some p→Gives fz st (o dx st) p
def Op2(o:D→D→Za→Res)(O:P→P→Option P):Prop:=∀ fz st x y dx dy p,Bd fz st→Rel fz st x dx→Rel fz st y dy→O x y=some p→Gives fz st (o dx dy st) p
def Op3(o:D→D→D→Za→Res)(O:P→P→P→Option P):Prop:=∀ fz st x y z dx dy dz p,Bd fz st→Rel fz st x dx→Rel fz st y dy→Rel fz st z dz→O x y z=some p→Gives fz st (o dx dy dz st) p
abbrev Makes(fz:Fz)(st:Za)(r:Res)(m:Bool)(ps:List P):Prop:=∃ ds,r=some (.lst st.length,st++[(m,ds)])∧Rels fz st ps ds
def Zcq(o:D→Za→Res)(O:P→Option P):Prop:=∀ fz st x dx m ps,Bd fz st→Rel fz st x dx→O x=some (.lst m ps)→Makes fz st (o dx st) m ps
def ZgI(o:D→D→Za→Res)(O:P→P→Option P):Prop:=∀ fz st x y dx dy m ps,Bd fz st→Rel fz st x dx→Rel fz st y dy→O x y=some (.lst m ps)→Makes fz st (o dx dy st) m ps
def Zij(o:D→D→D→Za→Res)(O:P→P→P→Option P):Prop:=∀ fz st x y z dx dy dz m ps,Bd fz st→Rel fz st x dx→Rel fz st y dy→Rel fz st z dz→O x y z=some (.lst m ps)→Makes fz st (o dx dy dz st) m ps
theorem Gives.same{fz:Fz}{st:Za}{p:P}{d:D}(b:Bd fz st)(r:Rel fz st p d):Gives fz st (some (d,st)) p:=⟨d,st,fz,rfl,Next.refl b,r⟩
theorem Makes.gives{fz:Fz}{st:Za}{r:Res}{m:Bool}{ps:List P}(b:Bd fz st)(h:Makes fz st r m ps):Gives fz st r (.lst m ps):=by
 obtain⟨ds,e,rr⟩:=h;exact⟨_,_,_,e,Zat b,JB b rr⟩
section
mutual
theorem Zao{fz:Fz}{st:Za}:∀ {n:Nat}{p:P}{d:D},Rel fz st p d→okP n p=okD n d
 |n,_,_,.non=>by cases n<;>rfl
 |n,_,_,.bl b=>by cases n<;>rfl
 |n,_,_,.int i=>by cases n<;>rfl
 |n,_,_,.str x=>by cases n<;>rfl
 |0,_,_,.tup r=>rfl
 |n+1,_,_,.tup r=>Vn r
 |n,_,_,.lst _ _ _=>by cases n<;>rfl
 |n,_,_,.dct _=>by cases n<;>rfl
 |n,_,_,.obj _=>by cases n<;>rfl
 |n,_,_,.kt _=>by cases n<;>rfl
 |n,_,_,.dic _ _ _=>by cases n<;>rfl
theorem Vn{fz:Fz}{st:Za}:∀ {n:Nat}{p:List P}{d:List D},Rels fz st p d→Uq n p=Xm n d
 |_,_,_,.nil=>rfl
 |n,p :: ps,d :: ds,.cons h r=>by
  show(okP n p&&Uq n ps)=(okD n d&&Xm n ds);rw[Zao h,Vn r]
end
mutual
theorem ZeM{fz:Fz}{st:Za}:∀ {p q:P}{d e:D},Rel fz st p d→Rel fz st q e→Uf p q=Yc d e
 |_,_,_,_,.non,h=>by cases h<;>rfl
 |_,_,_,_,.bl b,h=>by cases h<;>rfl
 |_,_,_,_,.int i,h=>by cases h<;>rfl
 |_,_,_,_,.str x,h=>by cases h<;>rfl
 |_,_,_,_,.tup r,h=>by
  cases h with
  |tup r'=>exact Wv r r'
  |_=>rfl
 |_,_,_,_,.lst _ _ _,h=>by cases h<;>rfl
 |_,_,_,_,.dct _,h=>by cases h<;>rfl
 |_,_,_,_,.obj _,h=>by cases h<;>rfl
 |_,_,_,_,.kt _,h=>by cases h<;>rfl
 |_,_,_,_,.dic _ _ _,h=>by cases h<;>rfl
theorem Wv{fz:Fz}{st:Za}:∀ {p q:List P}{d e:List D},Rels fz st p d→Rels fz st q e→Xr p q=Ym d e
 |_,_,_,_,.nil,h=>by cases h<;>rfl
 |p :: ps,_,d :: ds,_,.cons a r,h=>by
  cases h with
  |nil=>rfl
  |@cons q e qs es a' r'=>
   show(Uf p q&&Xr ps qs)=(Yc d e&&Ym ds es);rw[ZeM a a',Wv r r']
end
theorem Za7{fz:Fz}{st:Za}{ps:List P}{ds:List D}(r:Rels fz st ps ds):ps.isEmpty=ds.isEmpty:=by cases r<;>rfl
theorem ZdC{fz:Fz}{st:Za}{ps qs:List P}{ds es:List D}{k:Bool}(r:Rels fz st ps ds)(s:Rels fz st qs es)(h:Jw ps qs=some k):Zbe st ds es=some k:=by cases h
theorem Zeb{fz:Fz}{st:Za}{p:P}{d:D}(r:Rel fz st p d):scP p=scD d:=by cases r<;>rfl
theorem Ze0{fz:Fz}{st:Za}{ps qs:List P}{ds es:List D}(r:Rels fz st ps ds)(s:Rels fz st qs es):Zg7 ps qs=ZbS ds es:=by
 unfold Zg7 ZbS;rw[Za7 r,Za7 s,Vn r,Vn s,Wv r s]
theorem ZcP{fz:Fz}{st:Za}{p q:P}{d e:D}{k:Bool}(r:Rel fz st p d)(s:Rel fz st q e)(h:eqP p q=some k):eqS st d e=some k:=by
 have tail:(o2 ZcO (scP p) (scP q)).join=some k→(o2 ZcO (scD d) (scD e)).join=some k:=by
  rw[Zeb r,Zeb s];exact id
 cases r with
 |@tup ps ds r=>
  cases s with
  |@tup qs es r'=>
   have h:(if okP 8 (.tup ps)&&okP 8 (.tup qs) then some (Xr ps qs) else Jw ps qs)=some k:=h
   show(match (if okD 8 (.tup ds)&&okD 8 (.tup es) then some (Ym ds es) else none) with
    |some k=>some k
    |none=>Zbe st ds es)=some k
   rw[Zao (.tup r),Zao (.tup r'),Wv r r']at h;by_cases c:(okD 8 (.tup ds)&&okD 8 (.tup es))=true
   ·rw[if_pos c]at h ⊢
    exact h
   ·rw[if_neg c]at h ⊢
    exact ZdC r r' h
  |_=>cases h
 |@lst j m ps ds hz hs r=>
  cases s with
  |@lst j' m' qs es hz' hs' r'=>
   show(o2 (fun(c d:U1)=>ZbS c.2 d.2) st[j]? st[j']?).join=some k
   rw[hs,hs'];show ZbS ds es=some k;rw[←Ze0 r r'];exact h
  |_=>cases h
 |_=>exact tail h
theorem Zae{fz:Fz}{st:Za}{i:Int}:∀ {ps:List P}{ds:List D}{k:Bool},Rels fz st ps ds→inP i ps=some k→XA i ds=some k
 |_,_,_,.nil,h=>h
 |p :: ps,d :: ds,k,.cons a r,h=>by
  cases a with
  |int j=>
   have h:(inP i ps).map (fun b=>decide (j=i)||b)=some k:=h
   show(XA i ds).map (fun b=>decide (j=i)||b)=some k
   cases q:inP i ps with
   |none=>rw[q]at h;cases h
   |some k'=>rw[q]at h;rw[Zae r q];exact h
  |_=>cases h
theorem Qi{fz:Fz}{st:Za}{i:Str}:∀ {ps:List P}{ds:List D}{k:Bool},Rels fz st ps ds→ZbX i ps=some k→XB i ds=some k
 |_,_,_,.nil,h=>h
 |p :: ps,d :: ds,k,.cons a r,h=>by
  cases a with
  |str j=>
   have h:(ZbX i ps).map (fun b=>decide (j=i)||b)=some k:=h
   show(XB i ds).map (fun b=>decide (j=i)||b)=some k
   cases q:ZbX i ps with
   |none=>rw[q]at h;cases h
   |some k'=>rw[q]at h;rw[Qi r q];exact h
  |_=>cases h
theorem U9{fz:Fz}{st:Za}{i:Int}{ps:List P}{ds:List D}{p:P}(r:Rels fz st ps ds)(h:atP ps i=some p):∃ d,atD ds i=some d∧Rel fz st p d:=by
 unfold atP at h;unfold atD;rw[←r.length];cases q:ixN ps.length i with
 |none=>rw[q]at h;cases h
 |some j=>
  rw[q]at h;exact r.get h
theorem ZaW{fz:Fz}{st:Za}{lo hi:Option Int}{ps:List P}{ds:List D}(r:Rels fz st ps ds):Rels fz st (Wg ps lo hi) (ZbP ds lo hi):=by
 unfold Wg ZbP;rw[←r.length];exact(r.drop _).take _
end
section
theorem ZiV:Op1 Zfv Zb7:=by
 intro fz st x dx p b r h;cases r<;>first | (cases h;exact .same b (.int _))|cases h
theorem ZiW:Op1 Zb8 Zb9:=by
 intro fz st x dx p b r h;cases r<;>first | (cases h;exact .same b (.bl _))|cases h
theorem Zhu:Op1 Zbf US:=by
 intro fz st x dx p b r h;cases r<;>first | (cases h;exact .same b (.int _))|cases h
theorem ZiQ:Op1 Zfl Zc9:=by
 intro fz st x dx p b r h;cases r with
 |bl k=>cases k<;>(cases h;exact .same b (.int _))
 |int i=>cases h;exact .same b (.int _)
 |_=>cases h
theorem Zhr:Op1 Jm Zai:=by
 intro fz st x dx p b r h;cases r with
 |@tup ps ds r=>
  cases h;rw[r.length];exact .same b (.int _)
 |@lst j m ps ds hz hs r=>
  cases h;have e:Jm (.lst j) st=some (.int ds.length,st):=by unfold Jm Zfr;simp only[hs]
  rw[e,r.length];exact .same b (.int _)
 |kt ks=>
  cases h;exact .same b (.int _)
 |str x=>
  have h:(if x.length≤Zc then some (P.int x.length) else none)=some p:=h
  split at h
  ·rename_i c
   cases h;have e:Jm (.str x) st=some (.int x.length,st):=by
    unfold Jm Zfr;simp only;rw[if_pos c]
   rw[e];exact .same b (.int _)
  ·cases h
 |_=>cases h
theorem ZiR(T:Ty):Op1 (Zaf T) (Ql T):=by
 intro fz st x dx p b r h;obtain⟨k,e,rfl⟩:=Option.map_eq_some_iff.mp (show(Zhk T x).map P.bl=some p from h);have z:Zhk T x=Zfo T dx:=by cases r<;>rfl
 rw[z]at e;unfold Zaf;rw[e];exact .same b (.bl k)
theorem UK{fz:Fz}{st:Za}:∀ (l:List Int),Rels fz st (l.map P.int) (l.map D.int)
 |[]=>.nil
 |i :: l=>.cons (.int i) (UK l)
theorem Zgq:Zcq Zef ZaD:=by
 intro fz st x dx m ps b r h;cases r with
 |@tup ps ds r=>
  match ps,r,h with
  |[.int i,.int j,.int k],.cons r1 (.cons r2 (.cons r3 .nil)),h=>
   cases r1;cases r2;cases r3;obtain⟨l,e,e2⟩:=Option.map_eq_some_iff.mp (show(Us i j k).map (fun l=>P.lst true (l.map P.int))=_ from h)
   cases e2;refine⟨l.map D.int,?_,?_⟩
   ·show(match Us i j k with|some l=>some (D.lst st.length,st++[(true,l.map D.int)])|none=>none)=_
    rw[e]
   ·exact UK l
 |_=>cases h
theorem ZiX:Op1 Zef ZaD:=by
 intro fz st x dx p b r h;have h0:=h;cases r with
 |@tup ps ds r=>
  match ps,r,h with
  |[.int i,.int j,.int k],r,h=>
   obtain⟨l,e,e2⟩:=Option.map_eq_some_iff.mp (show(Us i j k).map (fun l=>P.lst true (l.map P.int))=_ from h)
   cases e2;exact(Zgq fz st _ _ true _ b (.tup r) h0).gives b
 |_=>cases h
theorem Zgp:Zcq Zdm Zam:=by
 intro fz st x dx m ps b r h;cases r with
 |@tup ps ds r=>cases h;exact⟨ds,rfl,r⟩
 |_=>cases h
theorem ZiS:Op1 Zdm Zam:=by
 intro fz st x dx p b r h;cases r with
 |@tup ps ds r=>cases h;exact(Zgp fz st _ _ true ps b (.tup r) rfl).gives b
 |_=>cases h
theorem Zab:Zcq UO VP:=by
 intro fz st x dx m ps b r h;cases r with
 |@tup ps ds r=>cases h;exact⟨ds,rfl,r⟩
 |@lst j m ps ds hz hs r=>
  cases h;exact⟨ds,by unfold UO;simp only[hs],r⟩
 |_=>cases h
theorem Zhs:Op1 UO VP:=by
 intro fz st x dx p b r h;cases r with
 |@tup ps ds r=>cases h;exact(Zab fz st _ _ true ps b (.tup r) rfl).gives b
 |@lst j m ps ds hz hs r=>cases h;exact(Zab fz st _ _ true ps b (.lst hz hs r) rfl).gives b
 |_=>cases h
theorem Zfy:Op1 W4 Wu:=by
 intro fz st x dx p b r h;cases r with
 |@tup ps ds r=>cases h;exact .same b (.tup r)
 |@lst j m ps ds hz hs r=>
  cases h;have e:W4 (.lst j) st=some (.tup ds,st):=by unfold W4;simp only[hs]
  rw[e];exact .same b (.tup r)
 |_=>cases h
theorem Zhq:Op2 W5 Uy:=by
 intro fz st x y dx dy p b r s h;cases s with
 |@tup ps ds s=>
  have h:(if ps.length < 1000 then some (P.tup (x :: ps)) else none)=some p:=h
  split at h
  ·rename_i c
   cases h;have e:W5 dx (.tup ds) st=some (.tup (dx :: ds),st):=by unfold W5;simp only;rw[s.length]at c;rw[if_pos c]
   rw[e];exact .same b (.tup (.cons r s))
  ·cases h
 |_=>cases h
theorem ZiU:Op2 Zfu Zb6:=by
 intro fz st x y dx dy p b r s h;cases r with
 |int i=>
  cases s with
  |int j=>cases h;exact .same b (.int _)
  |_=>cases h
 |_=>cases h
theorem ZiT:Op2 Zft Zb5:=by
 intro fz st x y dx dy p b r s h;cases r with
 |int i=>
  cases s with
  |int j=>cases h;exact .same b (.int _)
  |_=>cases h
 |_=>cases h
theorem WU{fz:Fz}{st:Za}{k:Str}:∀ {ks:List Str}{ps:List P}{ds:List D},Rels fz st ps ds→(∃ p d,XF ks ps k=some p∧Yp ks ds k=some d∧Rel fz st p d)∨(XF ks ps k=none∧Yp ks ds k=none)
 |[],_,_,_=>.inr ⟨by simp[XF],by simp[Yp]⟩
 |_ :: _,_,_,.nil=>.inr ⟨by simp[XF],by simp[Yp]⟩
 |x :: ks,_,_,.cons h r=>by
  by_cases e:x=k
  ·exact .inl ⟨_,_,by simp[XF,e],by simp[Yp,e],h⟩
  ·have ih:=WU (k:=k) (ks:=ks) r
   simp only[XF,Yp,if_neg e];exact ih
theorem V9{fz:Fz}{st:Za}:∀ l:List Str,Rels fz st (l.map P.str) (l.map D.str)
 |[]=>.nil
 |k :: l=>.cons (.str _) (V9 l)
theorem Zke:Op2 ixR ixP:=by
 intro fz st x y dx dy p b r s h;cases r with
 |@tup ps ds r=>
  cases s with
  |int j=>
   obtain⟨d,e,q⟩:=U9 r h;have e:ixR (.tup ds) (.int j) st=some (d,st):=by unfold ixR ixD;simp only[e]
   rw[e];exact .same b q
  |_=>cases h
 |@lst k m ps ds hz hs r=>
  cases s with
  |int j=>
   obtain⟨d,e,q⟩:=U9 r h;have e:ixR (.lst k) (.int j) st=some (d,st):=by unfold ixR ixD;simp only[hs,e]
   rw[e];exact .same b q
  |_=>cases h
 |@dct ks ps ds r=>
  cases s with
  |str z=>
   rcases WU (k:=z) (ks:=ks) r with⟨p',d,e1,e2,q⟩|⟨e1,_⟩
   ·have h:XF ks ps z=some p:=h
    rw[e1]at h;cases h
    have e:ixR (.dct ks ds) (.str z) st=some (d,st):=by unfold ixR ixD;simp only[e2]
    rw[e];exact .same b q
   ·have h:XF ks ps z=some p:=h
    rw[e1]at h;cases h
  |_=>cases h
 |kt ks=>
  cases s with
  |int j=>
   obtain⟨d,e,q⟩:=U9 (V9 (fz:=fz) (st:=st) ks) h;have e:ixR (.kt ks) (.int j) st=some (d,st):=by unfold ixR ixD;simp only[e]
   rw[e];exact .same b q
  |_=>cases h
 |str x=>
  cases s with
  |int j=>
   have h:(if x.length≤Zc then atP ((chS x).map .str) j else none)=some p:=h
   split at h
   ·rename_i c
    obtain⟨d,e,q⟩:=U9 (V9 (fz:=fz) (st:=st) (chS x)) h;have e:ixR (.str x) (.int j) st=some (d,st):=by
     unfold ixR ixD;simp only;rw[if_pos c,e]
    rw[e];exact .same b q
   ·cases h
  |_=>cases h
 |_=>cases h
theorem Vp{f:Int→Int→Bool}{fz:Fz}{st:Za}{x y:P}{dx dy:D}{k:Bool}(r:Rel fz st x dx)(s:Rel fz st y dy)(h:Zdz f x y=some k):Zap f dx dy=some k:=by
 cases r with
 |int i=>
  cases s with
  |int j=>exact h
  |_=>cases h
 |_=>cases h
theorem Zhm{fz:Fz}{st:Za}{x y:P}{dx dy:D}{k:Bool}(r:Rel fz st x dx)(s:Rel fz st y dy)(h:ltP x y=some k):ltD dx dy=some k:=by exact Vp r s h
theorem Zfs{fz:Fz}{st:Za}{x y:P}{dx dy:D}{k:Bool}(r:Rel fz st x dx)(s:Rel fz st y dy)(h:ZiL x y=some k):ltS st dx dy=some k:=by exact Zhm r s h
theorem Qr{a b:Option Bool}{f:Bool→Bool}{k:Bool}(h:∀ k,a=some k→b=some k)(e:a.map f=some k):b.map f=some k:=by
 cases q:a with
 |none=>rw[q]at e;cases e
 |some k'=>rw[h k' q];rw[q]at e;exact e
theorem ZaZ{fz:Fz}{st:Za}{x y:P}{dx dy:D}{k:Bool}(r:Rel fz st x dx)(s:Rel fz st y dy)(h:Zhh x y=some k):inS st dx dy=some k:=by
 cases r with
 |int i=>
  cases s with
  |tup rr=>exact Zae rr h
  |lst hz hs rr=>
   unfold inS;simp only[hs];exact Zae rr h
  |_=>cases h
 |str z=>
  cases s with
  |tup rr=>exact Qi rr h
  |lst hz hs rr=>
   unfold inS;simp only[hs];exact Qi rr h
  |@dct ks _ _ rr=>
   have h:some (XF ks _ z).isSome=some k:=h;show some (Yp ks _ z).isSome=some k;rcases WU (k:=z) (ks:=ks) rr with⟨p',d,e1,e2,_⟩|⟨e1,e2⟩
   ·rw[e1]at h;rw[e2];exact h
   ·rw[e1]at h;rw[e2];exact h
  |str w=>exact h
  |_=>cases h
 |_=>cases h
theorem Za4{fz:Fz}{st:Za}{x y:P}{dx dy:D}{k:Bool}(r:Rel fz st x dx)(s:Rel fz st y dy)(h:Zhj x y=some k):isD dx dy=some k:=by
 cases s with
 |non=>cases r<;>first|exact h|cases h
 |bl b=>cases r<;>first|exact h|cases h
 |_=>cases h
theorem Rels.rev{fz:Fz}{st:Za}:∀ {ps:List P}{ds:List D},Rels fz st ps ds→Rels fz st ps.reverse ds.reverse
 |_,_,.nil=>.nil
 |_,_,.cons a r=>by
  rw[List.reverse_cons,List.reverse_cons];exact(Rels.rev r).append (.cons a .nil)
theorem ZhH{fz:Fz}{st:Za}{k:Bool}{ps qs:List P}{ds:List D}(r:Rels fz st ps ds)(h:Zcf k ps=some qs):∃ es,rsL k ds=some es∧Rels fz st qs es:=by
 cases k with
 |false=>
  cases h;exact⟨_,rfl,r.rev⟩
 |true=>
  have h:ZaB ps=some qs:=h;unfold ZaB at h;split at h
  ·rename_i i j
   cases h;cases r with
   |cons a r=>
    cases a;cases r with
    |cons a r=>
     cases a;cases r;refine⟨_,rfl,?_⟩;split
     ·exact .cons (.int _) (.cons (.int _) .nil)
     ·exact .cons (.int _) (.cons (.int _) .nil)
  ·cases h
theorem ZiE(k:Bool):Zcq (rsD k) (rsP k):=by
 intro fz st x dx m ps b r h;cases r with
 |@lst j m0 ps0 ds hz hs r=>
  have h:(Zcf k ps0).map (fun ys=>P.lst true ys)=some (.lst m ps):=h
  cases q:Zcf k ps0 with
  |none=>rw[q]at h;cases h
  |some qs=>
   rw[q]at h;cases h;obtain⟨es,e1,e2⟩:=ZhH r q;exact⟨es,by unfold rsD;simp only[hs,e1],e2⟩
 |_=>cases h
theorem Zkf(k:Bool):Op1 (rsD k) (rsP k):=by
 intro fz st x dx p b r h;cases r with
 |@lst j m ps0 ds hz hs r=>
  have h':(Zcf k ps0).map (fun ys=>P.lst true ys)=some p:=h
  cases q:Zcf k ps0 with
  |none=>rw[q]at h';cases h'
  |some qs=>
   rw[q]at h';cases h';exact(ZiE k fz st _ _ true qs b (.lst hz hs r) h).gives b
 |_=>cases h
theorem UJ{fz:Fz}{st:Za}:∀ l:List Int,Rels fz st (l.map P.int) (l.map D.int)
 |[]=>.nil
 |k :: l=>.cons (.int _) (UJ l)
theorem ZcS:ZgI Jn W8:=by
 intro fz st x y dx dy m ps b r s h;cases r with
 |int i=>
  cases s with
  |int j=>
   have h:(if YA i j 1=true∧j - i≤1000 then some (P.lst true ((Xn i j 1).map .int)) else none)=some (.lst m ps):=h
   split at h
   ·rename_i c
    cases h;exact⟨_,if_pos c,UJ _⟩
   ·cases h
  |_=>cases h
 |_=>cases h
theorem Zht:Op2 Jn W8:=by
 intro fz st x y dx dy p b r s h;cases r with
 |int i=>
  cases s with
  |int j=>
   have h':(if YA i j 1=true∧j - i≤1000 then some (P.lst true ((Xn i j 1).map .int)) else none)=some p:=h
   split at h'
   ·cases h'
    exact(ZcS fz st _ _ _ _ true _ b (.int i) (.int j) h).gives b
   ·cases h'
  |_=>cases h
 |_=>cases h
theorem ZiP(ng:Bool):Op2 (Zhg ng) (Zfk ng):=by
 intro fz st x y dx dy p b r s h;cases r with
 |int i=>
  cases s with
  |int j=>
   have h:(if -(2 ^ 62)≤j∧j < 2 ^ 62 then some (P.bl (ng != decide (0≤i∧i < j))) else none)=some p:=h
   split at h
   ·rename_i c
    cases h;have e:Zhg ng (.int i) (.int j) st=some (.bl (ng != decide (0≤i∧i < j)),st):=if_pos c;rw[e];exact .same b (.bl _)
   ·cases h
  |_=>cases h
 |_=>cases h
theorem ZiO(op:CmpOp):Op2 (ZbM op) (Yy op):=by
 intro fz st x y dx dy p b r s h;have h:(Zg2 op x y).map P.bl=some p:=h;cases q:Zg2 op x y with
 |none=>rw[q]at h;cases h
 |some k=>
  rw[q]at h;cases h
  have e:Zg1 op dx dy st=some k:=by
   cases op with
   |Lt=>exact Zfs r s q
   |LtE=>exact Vp r s q
   |Gt=>exact Vp r s q
   |GtE=>exact Vp r s q
   |Eq=>exact ZcP r s q
   |NotEq=>exact Qr (fun k=>ZcP r s) q
   |In=>exact ZaZ r s q
   |NotIn=>
    replace q:niP x y=some k:=q;show niS st dx dy=some k;cases s with
    |dct _=>cases q
    |_=>exact Qr (fun k=>ZaZ r (by constructor<;>assumption)) q
   |Is=>exact Za4 r s q
   |IsNot=>exact Qr (fun k=>Za4 r s) q
  have e2:ZbM op dx dy st=some (.bl k,st):=by unfold ZbM;rw[e]
  rw[e2];exact .same b (.bl k)
theorem ZaQ{op:Operator}{fz:Fz}{st:Za}{x y p:P}{dx dy:D}(b:Bd fz st)(r:Rel fz st x dx)(s:Rel fz st y dy)(h:Xi op x y=some p):(∃ d,QT op dx dy st=some (d,st)∧Rel fz st p d∧∀ m ps,p≠.lst m ps)∨∃ ps,p=.lst true ps∧Makes fz st (QT op dx dy st) true ps:=by
 cases r with
 |@lst ja ma pa da hz hs rr=>
  cases s with
  |@lst jb mb pb db hz' hs' rr'=>
   have h:(if Xt op=true∧pa.length+pb.length≤Zc then some (P.lst true (pa++pb)) else none)=some p:=h
   split at h
   ·rename_i c
    cases h;refine .inr ⟨_,rfl,_,?_,rr.append rr'⟩;show(if Xt op=true then ZeS ja jb st else none)=_
    unfold ZeS;rw[if_pos c.1,hs,hs'];exact if_pos (by rw[←rr.length,←rr'.length];exact c.2)
   ·cases h
  |int j=>
   have h:(if XE op=true then ZdV ma pa j else none)=some p:=h
   split at h
   ·rename_i c
    cases ma with
    |false=>cases h
    |true=>cases rr with
     |nil=>cases h
     |@cons p0 _ _ _ a rr=>cases rr with
      |cons _ _=>cases h
      |nil=>
       have h:(if j≤1000∧-1000≤j then some (P.lst true (List.replicate j.toNat p0)) else none)=some p:=h
       split at h
       ·rename_i c2
        cases h;refine .inr ⟨_,rfl,_,?_,Rels.rep a _⟩;show(if XE op=true then ZfJ ja j st else none)=_
        unfold ZfJ;rw[if_pos c,hs];exact if_pos c2
       ·cases h
   ·cases h
  |_=>cases h
 |@tup pa da r1=>cases s with
  |@tup pb db s1=>
   have h:(if Xt op=true∧pa.length+pb.length≤Zc then some (P.tup (pa++pb)) else none)=some p:=h
   split at h
   ·rename_i c
    cases h;exact .inl ⟨_,if_pos ⟨c.1,by rw[←r1.length,←s1.length];exact c.2⟩,.tup (r1.append s1),fun _ _ z=>nomatch z⟩
   ·cases h
  |int j=>
   have h:(if XE op=true then ZdW pa j else none)=some p:=h
   split at h
   ·rename_i c
    cases r1 with
    |nil=>cases h
    |@cons p0 d0 _ _ a r1=>cases r1 with
     |cons _ _=>cases h
     |nil=>
      have h:(if j≤1000∧-1000≤j then some (P.tup (List.replicate j.toNat p0)) else none)=some p:=h
      split at h
      ·rename_i c2
       cases h;exact .inl ⟨_,(if_pos c).trans (if_pos c2),.tup (Rels.rep a _),fun _ _ z=>nomatch z⟩
      ·cases h
   ·cases h
  |_=>cases h
 |int i=>cases s with
  |int j=>
   have h:(match J3 op i j with
    |some k=>some (P.int k)
    |none=>none)=some p:=h
   have z:QT op (.int i) (.int j) st=(match J3 op i j with
    |some k=>some (D.int k,st)
    |none=>none):=rfl
   rw[z];cases q:J3 op i j with
   |none=>rw[q]at h;cases h
   |some k=>rw[q]at h;cases h;exact .inl ⟨_,rfl,.int _,fun _ _ z=>nomatch z⟩
  |_=>cases h
 |str x=>cases s with
  |str y=>
   have h:(if Xt op=true∧x.length+y.length≤Zc then some (P.str (x++y)) else none)=some p:=h
   split at h
   ·rename_i c
    cases h;exact .inl ⟨_,if_pos c,.str _,fun _ _ z=>nomatch z⟩
   ·cases h
  |_=>cases h
 |_=>cases h
theorem ZiD(op:Operator):ZgI (QT op) (Xi op):=by
 intro fz st x y dx dy m ps b r s h;rcases ZaQ b r s h with⟨_,_,_,n⟩|⟨qs,e,mk⟩
 ·exact absurd rfl (n _ _)
 ·cases e;exact mk
theorem ZiN(op:Operator):Op2 (QT op) (Xi op):=by
 intro fz st x y dx dy p b r s h;rcases ZaQ b r s h with⟨d,e,rp,_⟩|⟨qs,e,mk⟩
 ·rw[e];exact .same b rp
 ·cases e;exact mk.gives b
theorem Zbl{fz:Fz}{st:Za}{x:P}{dx:D}{lo hi:Option Int}{p:P}(b:Bd fz st)(r:Rel fz st x dx)(h:Yt x lo hi=some p):(∃ d,YR dx lo hi st=some (d,st)∧Rel fz st p d∧∀ m ps,p≠.lst m ps)∨∃ ps,p=.lst true ps∧Makes fz st (YR dx lo hi st) true ps:=by
 cases r with
 |@tup ps ds r=>
  have h:(if sIx ps.length 0 lo=0∧sIx ps.length ps.length hi=ps.length then some (P.tup ps) else some (P.tup (Wg ps lo hi)))=some p:=h
  split at h
  ·rename_i c
   cases h;refine .inl ⟨_,?_,.tup r,fun _ _ z=>nomatch z⟩
   unfold YR;simp only;rw[if_pos (by rw[←r.length];exact c)]
  ·rename_i c
   cases h;refine .inl ⟨_,?_,.tup (ZaW r),fun _ _ z=>nomatch z⟩
   unfold YR;simp only;rw[if_neg (by rw[←r.length];exact c)]
 |@lst j m ps ds hz hs r=>
  cases h;refine .inr ⟨_,rfl,_,?_,ZaW r⟩;unfold YR;simp only[hs]
 |_=>cases h
theorem Zed{fz:Fz}{st:Za}{x y z:P}{dx dy dz:D}{p:P}(s1:Rel fz st y dy)(s2:Rel fz st z dz)(h:X1 x y z=some p):∃ lo hi,Yt x lo hi=some p∧∀ dx,Ws dx dy dz st=YR dx lo hi st:=by
 unfold X1 at h;split at h
 ·cases s1;cases s2;exact⟨_,_,h,fun _=>rfl⟩
 ·cases s1;cases s2;exact⟨_,_,h,fun _=>rfl⟩
 ·cases s1;cases s2;exact⟨_,_,h,fun _=>rfl⟩
 ·cases s1;cases s2;exact⟨_,_,h,fun _=>rfl⟩
 ·cases h
theorem Zfx:Op3 Ws X1:=by
 intro fz st x y z dx dy dz p b r s1 s2 h;obtain⟨lo,hi,h0,e⟩:=Zed (dx:=dx) s1 s2 h;rw[e];rcases Zbl b r h0 with⟨d,e1,rr,_⟩|⟨ps,rfl,mk⟩
 ·rw[e1];exact .same b rr
 ·exact mk.gives b
theorem Ze2:Zij Ws X1:=by
 intro fz st x y z dx dy dz m ps b r s1 s2 h;obtain⟨lo,hi,h0,e⟩:=Zed (dx:=dx) s1 s2 h;rw[e];rcases Zbl b r h0 with⟨_,_,_,z⟩|⟨ps,z,mk⟩
 ·exact absurd rfl (z _ _)
 ·cases z;exact mk
end
end Dp


namespace Dp
open PySem
noncomputable abbrev PFn:=Nat→List P→Option P
def Zge(F:Fn)(G:List P→Option P):Prop:=∀ ps m xs,G ps=some (.lst m xs)→∀ fz st ds,Bd fz st→Rels fz st ps ds→∃ j es st' fz1,F ds st=some (.lst j,st')∧st'[j]?=some (m,es)∧Next fz st fz1 st'∧¬fz1 j∧st.length≤j∧Rels fz1 st' xs es
def Yu(F:Nat→Fn)(G:PFn):Prop:=(∀ i ps p,G i ps=some p→∀ fz st ds,Bd fz st→Rels fz st ps ds→Gives fz st (F i ds st) p)∧∀ i,VO i=true→Zge (F i) (G i)
def EnvAll(fz:Fz)(st:Za)(π:Zw)(ρ:Env):Prop:=∀ (i:Nat) (p:P),π[i]?=some (some p)→∃ d,ρ[i]?=some (some d)∧Rel fz st p d
theorem EnvAll.next{fz fz':Fz}{st st':Za}{π:Zw}{ρ:Env}(b:Bd fz st)(x:Next fz st fz' st')(h:EnvAll fz st π ρ):EnvAll fz' st' π ρ:=fun i p e=>
 let ⟨d,e1,r⟩:=h i p e;⟨d,e1,r.next b x⟩
def SEP(f:Ev)(g:PEv):Prop:=∀ π p,g π=some p→∀ fz st ρ,Bd fz st→EnvAll fz st π ρ→Gives fz st (f ρ st) p
def SFP(f:Ev)(g:PEv):Prop:=∀ π m ps,g π=some (.lst m ps)→∀ fz st ρ,Bd fz st→EnvAll fz st π ρ→∃ j ds st' fz1,f ρ st=some (.lst j,st')∧st'[j]?=some (m,ds)∧Next fz st fz1 st'∧¬fz1 j∧st.length≤j∧Rels fz1 st' ps ds
section
variable {f fa fb fc:Ev}{g ga gb gc:PEv}
theorem Makes.fresh{fz fz1:Fz}{st st1:Za}{r:Res}{m:Bool}{ps:List P}(x:Next fz st fz1 st1)(h:Makes fz1 st1 r m ps) :
  ∃ j ds st' fz2,r=some (.lst j,st')∧st'[j]?=some (m,ds)∧Next fz st fz2 st'∧¬fz2 j∧st.length≤j∧Rels fz2 st' ps ds:=by
 obtain⟨ds,e,rr⟩:=h;refine⟨_,ds,_,fz1,e,Zgx,x.trans (ZdR x.bd),fun z=>?_,x.len,rr.next x.bd (ZdR x.bd)⟩
 exact absurd (x.bd _ z) (by omega)
theorem s1{o:D→Za→Res}{O:P→Option P}(h:SEP f g)(k:Op1 o O):SEP (Yf f o) (pq1 g O):=by
 intro π p e fz st ρ b E;unfold pq1 at e;split at e
 ·rename_i x q
  obtain⟨d,st1,fz1,e1,n1,r1⟩:=h π x q fz st ρ b E;obtain⟨d2,st2,fz2,e2,n2,r2⟩:=k fz1 st1 x d p n1.bd r1 e;exact⟨d2,st2,fz2,by unfold Yf;rw[e1];exact e2,n1.trans n2,r2⟩
 ·cases e
theorem s1F{o:D→Za→Res}{O:P→Option P}(h:SEP f g)(k:Zcq o O):SFP (Yf f o) (pq1 g O):=by
 intro π m ps e fz st ρ b E;unfold pq1 at e;split at e
 ·rename_i x q
  obtain⟨d,st1,fz1,e1,n1,r1⟩:=h π x q fz st ρ b E;have mk:=k fz1 st1 x d m ps n1.bd r1 e;have e3:Yf f o ρ st=o d st1:=by unfold Yf;rw[e1]
  rw[e3];exact mk.fresh n1
 ·cases e
theorem s2{o:D→D→Za→Res}{O:P→P→Option P}(ha:SEP fa ga)(hb:SEP fb gb)(k:Op2 o O):SEP (Y9 fa fb o) (pq2 ga gb O):=by
 intro π p e fz st ρ b E;unfold pq2 at e;split at e
 ·rename_i x q
  split at e
  ·rename_i y q'
   obtain⟨d,st1,fz1,e1,n1,r1⟩:=ha π x q fz st ρ b E;obtain⟨d2,st2,fz2,e2,n2,r2⟩:=hb π y q' fz1 st1 ρ n1.bd (E.next b n1);obtain⟨d3,st3,fz3,e3,n3,r3⟩:=k fz2 st2 x y d d2 p n2.bd (r1.next n1.bd n2) r2 e;exact⟨d3,st3,fz3,by unfold Y9;rw[e1];simp only[e2];exact e3,(n1.trans n2).trans n3,r3⟩
  ·cases e
 ·cases e
theorem s2F{o:D→D→Za→Res}{O:P→P→Option P}(ha:SEP fa ga)(hb:SEP fb gb)(k:ZgI o O):SFP (Y9 fa fb o) (pq2 ga gb O):=by
 intro π m ps e fz st ρ b E;unfold pq2 at e;split at e
 ·rename_i x q
  split at e
  ·rename_i y q'
   obtain⟨d,st1,fz1,e1,n1,r1⟩:=ha π x q fz st ρ b E;obtain⟨d2,st2,fz2,e2,n2,r2⟩:=hb π y q' fz1 st1 ρ n1.bd (E.next b n1);have mk:=k fz2 st2 x y d d2 m ps n2.bd (r1.next n1.bd n2) r2 e;have e3:Y9 fa fb o ρ st=o d d2 st2:=by unfold Y9;rw[e1];simp only[e2]
   rw[e3];exact mk.fresh (n1.trans n2)
  ·cases e
 ·cases e
theorem s3{o:D→D→D→Za→Res}{O:P→P→P→Option P}(ha:SEP fa ga)(hb:SEP fb gb)(hc:SEP fc gc)(k:Op3 o O):SEP (JF fa fb fc o) (pq3 ga gb gc O):=by
 intro π p e fz st ρ b E;unfold pq3 at e;split at e
 ·rename_i x q
  split at e
  ·rename_i y q'
   split at e
   ·rename_i z q''
    obtain⟨d,st1,fz1,e1,n1,r1⟩:=ha π x q fz st ρ b E;obtain⟨d2,st2,fz2,e2,n2,r2⟩:=hb π y q' fz1 st1 ρ n1.bd (E.next b n1);obtain⟨d3,st3,fz3,e3,n3,r3⟩:=hc π z q'' fz2 st2 ρ n2.bd (E.next b (n1.trans n2));obtain⟨d4,st4,fz4,e4,n4,r4⟩:=k fz3 st3 x y z d d2 d3 p n3.bd (r1.next n1.bd (n2.trans n3)) (r2.next n2.bd n3) r3 e;exact⟨d4,st4,fz4,by unfold JF;rw[e1];simp only[e2,e3];exact e4,((n1.trans n2).trans n3).trans n4,r4⟩
   ·cases e
  ·cases e
 ·cases e
theorem s3F{o:D→D→D→Za→Res}{O:P→P→P→Option P}(ha:SEP fa ga)(hb:SEP fb gb)(hc:SEP fc gc)(k:Zij o O):SFP (JF fa fb fc o) (pq3 ga gb gc O):=by
 intro π m ps e fz st ρ b E;unfold pq3 at e;split at e
 ·rename_i x q
  split at e
  ·rename_i y q'
   split at e
   ·rename_i z q''
    obtain⟨d,st1,fz1,e1,n1,r1⟩:=ha π x q fz st ρ b E;obtain⟨d2,st2,fz2,e2,n2,r2⟩:=hb π y q' fz1 st1 ρ n1.bd (E.next b n1);obtain⟨d3,st3,fz3,e3,n3,r3⟩:=hc π z q'' fz2 st2 ρ n2.bd (E.next b (n1.trans n2));have mk:=k fz3 st3 x y z d d2 d3 m ps n3.bd (r1.next n1.bd (n2.trans n3)) (r2.next n2.bd n3) r3 e;have e4:JF fa fb fc o ρ st=o d d2 d3 st3:=by unfold JF;rw[e1];simp only[e2,e3]
    rw[e4];exact mk.fresh ((n1.trans n2).trans n3)
   ·cases e
  ·cases e
 ·cases e
theorem sC{p:P}{d:D}(h:∀ fz st,Rel fz st p d):SEP (evC d) (fun _=>some p):=by
 intro π q e fz st ρ b E;cases e;exact .same b (h fz st)
theorem Zd6(hc:SEP fc gc)(ha:SEP fa ga)(hb:SEP fb gb):SEP (XO fc fa fb) (YY gc ga gb):=by
 intro π p e fz st ρ b E;unfold YY at e;split at e
 ·rename_i q
  obtain⟨d,st1,fz1,e1,n1,r1⟩:=hc π _ q fz st ρ b E;cases r1;obtain⟨d2,st2,fz2,e2,n2,r2⟩:=ha π p e fz1 st1 ρ n1.bd (E.next b n1);exact⟨d2,st2,fz2,by unfold XO;rw[e1];exact e2,n1.trans n2,r2⟩
 ·rename_i q
  obtain⟨d,st1,fz1,e1,n1,r1⟩:=hc π _ q fz st ρ b E;cases r1;obtain⟨d2,st2,fz2,e2,n2,r2⟩:=hb π p e fz1 st1 ρ n1.bd (E.next b n1);exact⟨d2,st2,fz2,by unfold XO;rw[e1];exact e2,n1.trans n2,r2⟩
 ·cases e
theorem Zk1(i:Nat):SEP (WB i) (X0 i):=by
 intro π p e fz st ρ b E;unfold X0 at e;split at e
 ·rename_i q
  cases e;obtain⟨d,e1,r⟩:=E i _ q;exact⟨d,st,fz,by unfold WB;rw[e1],Next.refl b,r⟩
 ·cases e
theorem Zi7{F:Fn}{G:List P→Option P}{ds:List D}(hF:∀ ps p,G ps=some p→∀ fz st es,Bd fz st→Rels fz st ps es→Gives fz st (F es st) p):Op1 (QW F ds) (VE G ds):=by
 intro fz st x dx p b r h;cases r with
 |@tup ps es r=>
  have h:(match WX ds with
   |some es=>G (ps++es)
   |none=>none)=some p:=h
  split at h
  ·rename_i qs q
   exact hF _ p h fz st (es++ds) b (r.append (Rels.ofConst q))
  ·cases h
 |_=>cases h
theorem ZhI{F:Fn}{G:List P→Option P}{ds:List D}{fa:Ev}{ga:PEv}(ha:SEP fa ga)(hF:Zge F G):SFP (Yf fa (QW F ds)) (pq1 ga (VE G ds)):=by
 intro π m ps h fz st ρ b E;unfold pq1 at h;split at h
 ·rename_i x q
  obtain⟨d,st1,fz1,e1,n1,r1⟩:=ha π x q fz st ρ b E;cases r1 with
  |@tup qs es r=>
   have h:(match WX ds with
    |some es=>G (qs++es)
    |none=>none)=some (.lst m ps):=h
   split at h
   ·rename_i ws qq
    obtain⟨j,us,st2,fz2,e2,f1,n2,f2,f3,f4⟩:=hF _ m ps h fz1 st1 (es++ds) n1.bd (r.append (Rels.ofConst qq));refine⟨j,us,st2,fz2,?_,f1,n1.trans n2,f2,Nat.le_trans n1.len f3,f4⟩;unfold Yf;rw[e1];exact e2
   ·cases h
  |_=>cases h
 ·cases h
theorem Zce{fz:Fz}{st:Za}(n:Nat):Rels fz st ((List.range n).map fun(k:Nat)=>P.int (k:Int)) ((List.range n).map fun(k:Nat)=>D.int (k:Int)):=by
 generalize List.range n=l
 induction l with
 |nil=>exact .nil
 |cons a l ih=>exact .cons (.int _) ih
theorem UN{fz:Fz}{st:Za}{rng:Bool}{x:P}{dx:D}{xs:List P}(r:Rel fz st x dx)(h:Qm rng x=some xs):∃ ds,XT rng dx=some ds∧Rels fz st xs ds:=by
 cases rng with
 |true=>
  cases r with
  |int n=>
   have h:(if n < 2 ^ 62∧-(2 ^ 62)≤n then some (Yj n) else none)=some xs:=h
   split at h
   ·rename_i c
    cases h;refine⟨_,by unfold XT;simp only;rw[if_pos c],Zce _⟩
   ·cases h
  |_=>cases h
 |false=>
  cases r with
  |tup r=>cases h;exact⟨_,rfl,r⟩
  |_=>cases h
theorem UL{fz:Fz}{st:Za}:∀ (l:List Int),Rels fz st (l.map P.int) (l.map D.int)
 |[]=>.nil
 |i :: l=>.cons (.int i) (UL l)
theorem UX{fz:Fz}{st:Za}{rng:Bool}{x:P}{dx:D}{xs:List P}(b:Bd fz st)(r:Rel fz st x dx)(h:Xb rng x=some xs):∃ ds ok,Zbq rng dx st=some (ds,ok)∧Rels fz st xs ds∧∀ fz' st',Next fz st fz' st'→ok st':=by
 unfold Xb at h;split at h
 ·rename_i ys q
  cases h;obtain⟨ds,e,rr⟩:=UN r q;exact⟨ds,_,by unfold Zbq;rw[e],rr,fun _ _ _=>trivial⟩
 ·split at h
  ·cases h
   cases r with
   |@lst j m ps ds hz hs r=>
    rename_i m _;refine⟨ds,fun s=>s[j]?=some (m,ds),?_,r,fun fz' st' n=>?_⟩
    ·unfold Zbq XT
     simp only[hs]
    ·exact(n.old j (b j hz)).trans hs
  ·cases h
   cases r with
   |dct r=>cases r with
    |cons r1 r=>cases r with
     |cons r2 r=>
      cases r;cases r1;cases r2
      exact⟨_,fun _=>True,rfl,UL _,fun _ _ _=>trivial⟩
  ·cases h
theorem W0{fz:Fz}{st:Za}:∀ {xs:List P}{ds:List D}{k:Nat},Rels fz st xs ds→Rels fz st (Qx k xs) (XQ k ds)
 |_,_,_,.nil=>.nil
 |_,_,k,.cons a r=>.cons (.tup (.cons (.int _) (.cons a .nil))) (W0 r)
theorem Zas{fz:Fz}{st:Za}:∀ {xs:List P}{ds:List D},Rels fz st xs ds→ds.all ZbZ=xs.all WF
 |_,_,.nil=>rfl
 |_,_,.cons a r=>by
  rw[List.all_cons,List.all_cons,Zas r]
  congr 1
  cases a with
  |tup s=>
   cases s with
   |nil=>rfl
   |cons _ s=>cases s with
    |nil=>rfl
    |cons _ s=>cases s<;>rfl
  |_=>rfl
theorem U0{fz:Fz}{st:Za}{x:P}{dx:D}{xs:List P}(b:Bd fz st)(r:Rel fz st x dx)(h:X4 x=some xs):∃ ds ok,JP dx st=some (ds,ok)∧Rels fz st xs ds∧∀ fz' st',Next fz st fz' st'→ok st':=by
 cases r with
 |@tup ps ds r=>
  have h:(if ps.all WF=true then some ps else none)=some xs:=h
  split at h
  ·rename_i c
   cases h;refine⟨ds,fun _=>True,?_,r,fun _ _ _=>trivial⟩
   show(if ds.all ZbZ=true then some (ds,fun _=>True) else none)=_
   rw[if_pos (by rw[Zas r];exact c)]
  ·cases h
 |@lst j m ps ds hz hs r=>
  have h:(if ps.all WF=true then some ps else none)=some xs:=h
  split at h
  ·rename_i c
   cases h;refine⟨ds,fun s=>s[j]?=some (m,ds),?_,r,fun fz' st' n=>?_⟩
   ·unfold JP
    simp only[hs];rw[if_pos (by rw[Zas r];exact c)]
   ·exact(n.old j (b j hz)).trans hs
  ·cases h
 |_=>cases h
theorem UZ{fz:Fz}{st:Za}{x:P}{dx:D}{xs:List P}(b:Bd fz st)(r:Rel fz st x dx)(h:QN x=some xs):∃ ds ok,UY dx st=some (ds,ok)∧Rels fz st xs ds∧∀ fz' st',Next fz st fz' st'→ok st':=by
 cases r with
 |@lst j m ps ds hz hs r=>
  cases h;exact⟨XQ 0 ds,fun s=>s[j]?=some (_,ds),by unfold UY;simp only[hs],W0 r,fun fz' st' n=>(n.old j (b j hz)).trans hs⟩
 |tup r=>cases h;exact⟨_,_,rfl,W0 r,fun _ _ _=>trivial⟩
 |_=>cases h
def Ut(gb:P→List (Option P))(bd:D→List (Option D)):Prop:=∀ fz st x d,Rel fz st x d→(gb x).length=(bd d).length∧EnvAll fz st (gb x) (bd d)
theorem Zbc:Ut ZdK one:=fun fz st x d r=>⟨rfl,fun i p e=>by
 cases i with
 |zero=>cases e;exact⟨d,rfl,r⟩
 |succ i=>exact nomatch (show(none:Option (Option P))=some (some p) from e)⟩
theorem Vs:Ut Yi two:=fun fz st x d r=>by
 have no:∀ {l:List (Option D)},EnvAll fz st [] l:=fun i p e=>nomatch (show(none:Option (Option P))=some (some p) from e)
 cases r with
 |tup r=>cases r with
  |nil=>exact⟨rfl,no⟩
  |cons a r=>cases r with
   |nil=>exact⟨rfl,no⟩
   |cons b r=>cases r with
    |cons c r=>exact⟨rfl,no⟩
    |nil=>exact⟨rfl,fun i p e=>by
     cases i with
     |zero=>cases e;exact⟨_,rfl,a⟩
     |succ i=>cases i with
      |zero=>cases e;exact⟨_,rfl,b⟩
      |succ i=>exact nomatch (show(none:Option (Option P))=some (some p) from e)⟩
 |_=>exact⟨rfl,no⟩
theorem VF{gb:P→List (Option P)}{bd:D→List (Option D)}(hb:Ut gb bd){ok:Za→Prop}{fe fc:Ev}{ge gc:PEv}(he:SEP fe ge)(hc:SEP fc gc){fr:List Nat}{π:Zw}{ρ:Env}:∀ {xs:List P}{ds:List D}{ys:List P}{fz:Fz}{st:Za},Bd fz st→EnvAll fz st π ρ→Rels fz st xs ds→(∀ fz' st',Next fz st fz' st'→ok st')→
   Z7 (fun p=>ge (Z4 gb π fr p)) (fun p=>gc (Z4 gb π fr p)) xs=some ys→∃ es st' fz',YS ok (fun d s=>fe (Xk bd ρ fr d) s) (fun d s=>fc (Xk bd ρ fr d) s) ds st=some (es,st')∧Next fz st fz' st'∧Rels fz' st' ys es
 |_,_,ys,fz,st,b,E,.nil,hok,h=>by cases h;exact⟨[],st,fz,if_pos (hok _ _ (Next.refl b)),Next.refl b,.nil⟩
 |x :: xs,d :: ds,ys,fz,st,b,E,.cons a r,hok,h=>by
  have ok0:=hok _ _ (Next.refl b);obtain⟨hl,hbe⟩:=hb fz st x d a;have E1:EnvAll fz st (Z4 gb π fr x) (Xk bd ρ fr d):=by
   intro i p e;unfold Z4 at e;unfold Xk;by_cases hi:i < (gb x).length
   ·rw[List.getElem?_append_left hi]at e
    rw[List.getElem?_append_left (by rw[←hl];exact hi)]
    exact hbe i p e
   ·have hi:(gb x).length≤i:=Nat.le_of_not_lt hi
    rw[List.getElem?_append_right hi,List.getElem?_map]at e;rw[List.getElem?_append_right (by rw[←hl];exact hi),List.getElem?_map,←hl]
    cases q:fr[i - (gb x).length]? with
    |none=>rw[q]at e;cases e
    |some k=>
     rw[q]at e;have e:(π[k]?).join=some p:=by simpa using e
     have e2:π[k]?=some (some p):=by
      cases q2:π[k]? with
      |none=>rw[q2]at e;cases e
      |some o=>rw[q2]at e;rw[show o=some p from e]
     obtain⟨d',e3,r3⟩:=E k p e2;exact⟨d',by simp[e3],r3⟩
  unfold Z7 at h;split at h
  ·rename_i q
   split at h
   ·rename_i y q1
    split at h
    ·rename_i zs q2
     cases h;obtain⟨dc,st1,fz1,e1,n1,r1⟩:=hc _ _ q fz st _ b E1;cases r1;obtain⟨dy,st2,fz2,e2,n2,r2⟩:=he _ _ q1 fz1 st1 _ n1.bd (E1.next b n1);obtain⟨es,st3,fz3,e3,n3,r3⟩:=VF hb he hc n2.bd (E.next b (n1.trans n2)) (r.next b (n1.trans n2)) (fun _ _ n=>hok _ _ ((n1.trans n2).trans n)) q2
     refine⟨dy :: es,st3,fz3,?_,(n1.trans n2).trans n3,.cons (r2.next n2.bd n3) r3⟩;unfold YS;rw[if_pos ok0];simp only[e1,e2,e3]
    ·cases h
   ·cases h
  ·rename_i q
   obtain⟨dc,st1,fz1,e1,n1,r1⟩:=hc _ _ q fz st _ b E1;cases r1;obtain⟨es,st3,fz3,e3,n3,r3⟩:=VF hb he hc n1.bd (E.next b n1) (r.next b n1) (fun _ _ n=>hok _ _ (n1.trans n)) h
   refine⟨es,st3,fz3,?_,n1.trans n3,r3⟩;unfold YS;rw[if_pos ok0];simp only[e1];exact e3
  ·cases h
theorem Zd5{gb:P→List (Option P)}{bd:D→List (Option D)}(hb:Ut gb bd){gw:P→Option (List P)}{dw:D→Za→Option (List D×(Za→Prop))}(hw:∀ {fz:Fz}{st:Za}{x:P}{dx:D}{xs:List P},Bd fz st→Rel fz st x dx→gw x=some xs→∃ ds ok,dw dx st=some (ds,ok)∧Rels fz st xs ds∧∀ fz' st',Next fz st fz' st'→ok st'){fr:List Nat}{fi fe fc:Ev}{gi ge gc:PEv}(hi:SEP fi gi)(he:SEP fe ge)(hc:SEP fc gc){π:Zw}{p:P}(e:ZU gb gw fr gi ge gc π=some p){fz:Fz}{st:Za}{ρ:Env}(b:Bd fz st)(E:EnvAll fz st π ρ) :
  ∃ ps ds st1 fz1,p=.lst true ps∧Wy bd dw fr fi fe fc ρ st=some (.lst st1.length,st1++[(true,ds)])∧Next fz st fz1 st1∧Rels fz1 st1 ps ds:=by
 unfold ZU at e;split at e
 ·rename_i x q
  split at e
  ·rename_i xs q1
   split at e
   ·rename_i c
    split at e
    ·rename_i ys q2
     cases e;obtain⟨d,st1,fz1,e1,n1,r1⟩:=hi π x q fz st ρ b E;obtain⟨ds,ok,e2,r2,hok⟩:=hw n1.bd r1 q1;obtain⟨es,st3,fz3,e3,n3,r3⟩:=VF hb he hc (fr:=fr) n1.bd (E.next b n1) r2 hok q2;refine⟨ys,es,st3,fz3,rfl,?_,n1.trans n3,r3⟩;unfold Wy;simp only[e1,e2];rw[if_pos (by rw[←r2.length];exact c)]
     simp only[e3]
    ·cases e
   ·cases e
  ·cases e
 ·cases e
theorem Zd4{gb:P→List (Option P)}{bd:D→List (Option D)}(hb:Ut gb bd){gw:P→Option (List P)}{dw:D→Za→Option (List D×(Za→Prop))}(hw:∀ {fz:Fz}{st:Za}{x:P}{dx:D}{xs:List P},Bd fz st→Rel fz st x dx→gw x=some xs→∃ ds ok,dw dx st=some (ds,ok)∧Rels fz st xs ds∧∀ fz' st',Next fz st fz' st'→ok st'){fr:List Nat}{fi fe fc:Ev}{gi ge gc:PEv}(hi:SEP fi gi)(he:SEP fe ge)(hc:SEP fc gc):SEP (Wy bd dw fr fi fe fc) (ZU gb gw fr gi ge gc):=by
 intro π p e fz st ρ b E;obtain⟨ps,ds,st1,fz1,rfl,e1,n1,r1⟩:=Zd5 hb hw hi he hc e b E;exact⟨_,_,_,e1,n1.trans (Zat n1.bd),JB n1.bd r1⟩
theorem Zaz{gb:P→List (Option P)}{bd:D→List (Option D)}(hb:Ut gb bd){gw:P→Option (List P)}{dw:D→Za→Option (List D×(Za→Prop))}(hw:∀ {fz:Fz}{st:Za}{x:P}{dx:D}{xs:List P},Bd fz st→Rel fz st x dx→gw x=some xs→∃ ds ok,dw dx st=some (ds,ok)∧Rels fz st xs ds∧∀ fz' st',Next fz st fz' st'→ok st'){fr:List Nat}{fi fe fc:Ev}{gi ge gc:PEv}(hi:SEP fi gi)(he:SEP fe ge)(hc:SEP fc gc):SFP (Wy bd dw fr fi fe fc) (ZU gb gw fr gi ge gc):=by
 intro π m qs e fz st ρ b E;obtain⟨ps,ds,st1,fz1,h,e1,n1,r1⟩:=Zd5 hb hw hi he hc e b E;cases h;exact Makes.fresh n1 ⟨ds,e1,r1⟩
end
theorem Zb{F:Nat→Fn}{G:PFn}(hF:Yu F G):∀ e:CE,SEP (ev F e) (pe G e)
 |.var i=>Zk1 i
 |.cst d=>by
  intro π p e fz st ρ b E;exact .same b (Rel.ofConst e)
 |.bin op a b=>s2 (Zb hF a) (Zb hF b) (ZiN op)
 |.neg a=>s1 (Zb hF a) ZiV
 |.cmp op a b=>s2 (Zb hF a) (Zb hF b) (ZiO op)
 |.not a=>s1 (Zb hF a) ZiW
 |.and a b=>Zd6 (Zb hF a) (Zb hF b) (sC fun _ _=>.bl false)
 |.or a b=>Zd6 (Zb hF a) (sC fun _ _=>.bl true) (Zb hF b)
 |.ife c a b=>Zd6 (Zb hF c) (Zb hF a) (Zb hF b)
 |.tupE a=>Zb hF a
 |.lstE a=>s1 (Zb hF a) ZiS
 |.anil=>sC fun _ _=>.tup .nil
 |.acons a r=>s2 (Zb hF a) (Zb hF r) Zhq
 |.ix a b=>s2 (Zb hF a) (Zb hF b) Zke
 |.slice a lo hi=>s3 (Zb hF a) (Zb hF lo) (Zb hF hi) Zfx
 |.nop=>sC fun _ _=>.non
 |.part a=>s1 (Zb hF a) Zhu
 |.call f a ds=>s1 (Zb hF a) (Zi7 (hF.1 f))
 |.len a=>s1 (Zb hF a) Zhr
 |.tupleOf a=>s1 (Zb hF a) Zfy
 |.listOf a=>s1 (Zb hF a) Zhs
 |.intOf a=>s1 (Zb hF a) ZiQ
 |.min a b=>s2 (Zb hF a) (Zb hF b) ZiU
 |.max a b=>s2 (Zb hF a) (Zb hF b) ZiT
 |.isi T a=>s1 (Zb hF a) (ZiR T)
 |.rs k a=>s1 (Zb hF a) (Zkf k)
 |.inv _=>fun _ r e=>nomatch (show(none:Option P)=some r from e)
 |.tupR _=>fun _ r e=>nomatch (show(none:Option P)=some r from e)
 |.look _ _ _=>fun _ r e=>nomatch (show(none:Option P)=some r from e)
 |.dget _ _ _=>fun _ r e=>nomatch (show(none:Option P)=some r from e)
 |.inR ng a b=>s2 (Zb hF a) (Zb hF b) (ZiP ng)
 |.all _=>fun _ r e=>nomatch (show(none:Option P)=some r from e)
 |.any _=>fun _ r e=>nomatch (show(none:Option P)=some r from e)
 |.comp rng fr it elt cnd=>Zd4 Zbc UX (Zb hF it) (Zb hF elt) (Zb hF cnd)
 |.comp2 fr it elt cnd=>Zd4 Vs UZ (Zb hF it) (Zb hF elt) (Zb hF cnd)
 |.compT fr it elt cnd=>Zd4 Vs U0 (Zb hF it) (Zb hF elt) (Zb hF cnd)
 |.lstR a b=>s2 (Zb hF a) (Zb hF b) Zht
 |.new _=>fun _ r e=>nomatch (show(none:Option P)=some r from e)
 |.meth _ _ _=>fun _ r e=>nomatch (show(none:Option P)=some r from e)
 |.isc _ _=>fun _ r e=>nomatch (show(none:Option P)=some r from e)
 |.tix _ _=>fun _ r e=>nomatch (show(none:Option P)=some r from e)
 |.dict _ _=>fun _ r e=>nomatch (show(none:Option P)=some r from e)
 |.dnew=>fun _ r e=>nomatch (show(none:Option P)=some r from e)
 |.strOf _=>fun _ r e=>nomatch (show(none:Option P)=some r from e)
 |.joinE _ _=>fun _ r e=>nomatch (show(none:Option P)=some r from e)
 |.starts _ _=>fun _ r e=>nomatch (show(none:Option P)=some r from e)
 |.rng2 _ _=>fun _ r e=>nomatch (show(none:Option P)=some r from e)
 |.srt a=>s1 (Zb hF a) ZiX
theorem JM{F:Nat→Fn}{G:PFn}(hF:Yu F G):∀ e:CE,Vl e=true→SFP (ev F e) (pe G e)
 |.bin op a b,_=>s2F (Zb hF a) (Zb hF b) (ZiD op)
 |.lstE a,_=>s1F (Zb hF a) Zgp
 |.srt a,_=>s1F (Zb hF a) Zgq
 |.call f a ds,h=>ZhI (Zb hF a) (hF.2 f h)
 |.slice a lo hi,_=>s3F (Zb hF a) (Zb hF lo) (Zb hF hi) Ze2
 |.listOf a,_=>s1F (Zb hF a) Zab
 |.rs k a,_=>s1F (Zb hF a) (ZiE k)
 |.comp rng fr it elt cnd,_=>Zaz Zbc UX (Zb hF it) (Zb hF elt) (Zb hF cnd)
 |.comp2 fr it elt cnd,_=>Zaz Vs UZ (Zb hF it) (Zb hF elt) (Zb hF cnd)
 |.compT fr it elt cnd,_=>Zaz Vs U0 (Zb hF it) (Zb hF elt) (Zb hF cnd)
 |.lstR a b,_=>s2F (Zb hF a) (Zb hF b) ZcS
noncomputable def Xz(M:List Nat)(π:Zw):Zw:=π.mapIdx fun i x=>if M.contains i then none else x
theorem WA{M:List Nat}{π:Zw}{i:Nat}(h:M.contains i=false):(Xz M π)[i]?=π[i]?:=by
 unfold Xz;rw[List.getElem?_mapIdx];cases q:π[i]? with
 |none=>rfl
 |some x=>
  show some (if M.contains i then none else x)=some x
  rw[h];rfl
theorem ZcQ{M:List Nat}{π:Zw}{i:Nat}{p:P}(h:(Xz M π)[i]?=some (some p)):M.contains i=false∧π[i]?=some (some p):=by
 unfold Xz at h;rw[List.getElem?_mapIdx]at h;cases q:π[i]? with
 |none=>rw[q]at h;cases h
 |some x=>
  rw[q]at h;have h:(if M.contains i then none else x)=some p:=by simpa using h
  split at h
  ·cases h
  ·rename_i c
   exact⟨by simpa using c,by rw[h]⟩
theorem Zi{G:PFn}{M:List Nat}{π:Zw}:∀ e:CE,noM M e=true→pe G e (Xz M π)=pe G e π
 |.var i,h=>by
  have h:(!M.contains i)=true:=h;show X0 i _=X0 i _;unfold X0;rw[WA (by simpa using h)]
 |.cst d,_=>rfl
 |.bin op a b,h=>by
  have h:=(Bool.and_eq_true _ _).mp h;show pq2 (pe G a) (pe G b) (Xi op) _=pq2 (pe G a) (pe G b) (Xi op) _;unfold pq2;rw[Zi a h.1,Zi b h.2]
 |.neg a,h=>by
  show pq1 (pe G a) Zb7 _=pq1 (pe G a) Zb7 _;unfold pq1;rw[Zi a h]
 |.cmp op a b,h=>by
  have h:=(Bool.and_eq_true _ _).mp h;show pq2 (pe G a) (pe G b) (Yy op) _=pq2 (pe G a) (pe G b) (Yy op) _;unfold pq2;rw[Zi a h.1,Zi b h.2]
 |.not a,h=>by
  show pq1 (pe G a) Zb9 _=pq1 (pe G a) Zb9 _;unfold pq1;rw[Zi a h]
 |.and a b,h=>by
  have h:=(Bool.and_eq_true _ _).mp h;show YY (pe G a) (pe G b) _ _=YY (pe G a) (pe G b) _ _;unfold YY;rw[Zi a h.1,Zi b h.2]
 |.or a b,h=>by
  have h:=(Bool.and_eq_true _ _).mp h;show YY (pe G a) _ (pe G b) _=YY (pe G a) _ (pe G b) _;unfold YY;rw[Zi a h.1,Zi b h.2]
 |.ife c a b,h=>by
  have h:=(Bool.and_eq_true _ _).mp h;have h2:=(Bool.and_eq_true _ _).mp h.2;show YY (pe G c) (pe G a) (pe G b) _=YY (pe G c) (pe G a) (pe G b) _;unfold YY;rw[Zi c h.1,Zi a h2.1,Zi b h2.2]
 |.tupE a,h=>Zi a h
 |.srt a,h=>by
  show pq1 (pe G a) ZaD _=pq1 (pe G a) ZaD _;unfold pq1;rw[Zi a h]
 |.lstE a,h=>by
  show pq1 (pe G a) Zam _=pq1 (pe G a) Zam _;unfold pq1;rw[Zi a h]
 |.anil,_=>rfl
 |.acons a b,h=>by
  have h:=(Bool.and_eq_true _ _).mp h;show pq2 (pe G a) (pe G b) Uy _=pq2 (pe G a) (pe G b) Uy _;unfold pq2;rw[Zi a h.1,Zi b h.2]
 |.ix a b,h=>by
  have h:=(Bool.and_eq_true _ _).mp h;show pq2 (pe G a) (pe G b) ixP _=pq2 (pe G a) (pe G b) ixP _;unfold pq2;rw[Zi a h.1,Zi b h.2]
 |.slice c a b,h=>by
  have h:=(Bool.and_eq_true _ _).mp h;have h2:=(Bool.and_eq_true _ _).mp h.2;show pq3 (pe G c) (pe G a) (pe G b) _ _=pq3 (pe G c) (pe G a) (pe G b) _ _;unfold pq3;rw[Zi c h.1,Zi a h2.1,Zi b h2.2]
 |.nop,_=>rfl
 |.part a,h=>by
  show pq1 (pe G a) US _=pq1 (pe G a) US _;unfold pq1;rw[Zi a h]
 |.call f a ds,h=>by
  show pq1 (pe G a) (VE (G f) ds) _=pq1 (pe G a) (VE (G f) ds) _;unfold pq1;rw[Zi a h]
 |.len a,h=>by
  show pq1 (pe G a) Zai _=pq1 (pe G a) Zai _;unfold pq1;rw[Zi a h]
 |.tupleOf a,h=>by
  show pq1 (pe G a) Wu _=pq1 (pe G a) Wu _;unfold pq1;rw[Zi a h]
 |.listOf a,h=>by
  show pq1 (pe G a) VP _=pq1 (pe G a) VP _;unfold pq1;rw[Zi a h]
 |.intOf a,h=>by
  show pq1 (pe G a) Zc9 _=pq1 (pe G a) Zc9 _;unfold pq1;rw[Zi a h]
 |.min a b,h=>by
  have h:=(Bool.and_eq_true _ _).mp h;show pq2 (pe G a) (pe G b) Zb6 _=pq2 (pe G a) (pe G b) Zb6 _;unfold pq2;rw[Zi a h.1,Zi b h.2]
 |.max a b,h=>by
  have h:=(Bool.and_eq_true _ _).mp h;show pq2 (pe G a) (pe G b) Zb5 _=pq2 (pe G a) (pe G b) Zb5 _;unfold pq2;rw[Zi a h.1,Zi b h.2]
 |.isi T a,h=>by
  show pq1 (pe G a) (Ql T) _=pq1 (pe G a) (Ql T) _;unfold pq1;rw[Zi a h]
 |.rs k a,h=>by
  show pq1 (pe G a) (rsP k) _=pq1 (pe G a) (rsP k) _;unfold pq1;rw[Zi a h]
 |.inv _,_=>rfl
 |.tupR _,_=>rfl
 |.look _ _ _,_=>rfl
 |.dget _ _ _,_=>rfl
 |.inR ng a b,h=>by
  have h:=(Bool.and_eq_true _ _).mp h;show pq2 (pe G a) (pe G b) (Zfk ng) _=pq2 (pe G a) (pe G b) (Zfk ng) _;unfold pq2;rw[Zi a h.1,Zi b h.2]
 |.all _,_=>rfl
 |.any _,_=>rfl
 |.comp rng fr it elt cnd,h=>by
  have h:=(Bool.and_eq_true _ _).mp h;have e:∀ b p,Z4 b (Xz M π) fr p=Z4 b π fr p:=fun b p=>by
   unfold Z4
   congr 1
   refine List.map_congr_left fun i hi=>?_
   have:=List.all_eq_true.mp h.2 i hi;rw[WA (by simpa using this)]
  show ZU ZdK (Xb rng) fr (pe G it) (pe G elt) (pe G cnd) _=ZU ZdK (Xb rng) fr (pe G it) (pe G elt) (pe G cnd) _;unfold ZU;rw[Zi it h.1];simp only[e]
 |.comp2 fr it elt cnd,h=>by
  have h:=(Bool.and_eq_true _ _).mp h;have e:∀ b p,Z4 b (Xz M π) fr p=Z4 b π fr p:=fun b p=>by
   unfold Z4
   congr 1
   refine List.map_congr_left fun i hi=>?_
   have:=List.all_eq_true.mp h.2 i hi;rw[WA (by simpa using this)]
  show ZU Yi QN fr (pe G it) (pe G elt) (pe G cnd) _=ZU Yi QN fr (pe G it) (pe G elt) (pe G cnd) _;unfold ZU;rw[Zi it h.1];simp only[e]
 |.compT fr it elt cnd,h=>by
  have h:=(Bool.and_eq_true _ _).mp h;have e:∀ b p,Z4 b (Xz M π) fr p=Z4 b π fr p:=fun b p=>by
   unfold Z4
   congr 1
   refine List.map_congr_left fun i hi=>?_
   have:=List.all_eq_true.mp h.2 i hi;rw[WA (by simpa using this)]
  show ZU Yi X4 fr (pe G it) (pe G elt) (pe G cnd) _=ZU Yi X4 fr (pe G it) (pe G elt) (pe G cnd) _;unfold ZU;rw[Zi it h.1];simp only[e]
 |.new _,_=>rfl
 |.meth _ _ _,_=>rfl
 |.tix _ _,_=>rfl
 |.isc _ _,_=>rfl
 |.lstR a b,h=>by
  have h:=(Bool.and_eq_true _ _).mp h;show pq2 (pe G a) (pe G b) W8 _=pq2 (pe G a) (pe G b) W8 _;unfold pq2;rw[Zi a h.1,Zi b h.2]
 |.dict _ _,_=>rfl
 |.dnew,_=>rfl
 |.strOf _,_=>rfl
 |.joinE _ _,_=>rfl
 |.starts _ _,_=>rfl
 |.rng2 _ _,_=>rfl
end Dp


namespace Dp
open PySem
inductive Own(p:P)(o:Option (Option D))(ps:List P)(j:Nat):Prop where
 |l (a:p=.lst true ps) (b:o=some (some (.lst j)))
 |d (a:p=.dic true ps) (b:o=some (some (.dic j)))
def Rf(o:Option (Option D))(j:Nat):Prop:=o=some (some (.lst j))∨o=some (some (.dic j))
theorem Own.rf{p:P}{o:Option (Option D)}{ps:List P}{j:Nat}:Own p o ps j→Rf o j
 |.l _ b=>.inl b
 |.d _ b=>.inr b
theorem Rf.inj{o:Option (Option D)}{i j:Nat}(h:Rf o i)(h':Rf o j):i=j:=by
 rcases h with h|h<;>rcases h' with h'|h'<;>(rw[h]at h';cases h';try rfl)
theorem Own.lst{m:Bool}{xs:List P}{o:Option (Option D)}{ps:List P}{j:Nat}:Own (.lst m xs) o ps j→(m=true∧xs=ps)∧o=some (some (.lst j))
 |.l a b=>by cases a;exact⟨⟨rfl,rfl⟩,b⟩
 |.d a b=>nomatch a
theorem Own.dic{m:Bool}{xs:List P}{o:Option (Option D)}{ps:List P}{j:Nat}:Own (.dic m xs) o ps j→(m=true∧xs=ps)∧o=some (some (.dic j))
 |.l a b=>nomatch a
 |.d a b=>by cases a;exact⟨⟨rfl,rfl⟩,b⟩
theorem Own.rel{fz:Fz}{st:Za}{p:P}{o:Option (Option D)}{ps:List P}{ds:List D}{j:Nat}(h:Own p o ps j)(hz:fz j)(e:st[j]?=some (true,ds))(r:Rels fz st ps ds):∃ d,o=some (some d)∧Rel fz st p d:=by
 cases h with
 |l a b=>rw[a];exact⟨_,b,.lst hz e r⟩
 |d a b=>rw[a];exact⟨_,b,.dic hz e r⟩
structure Inv(n0:Nat)(M:List Nat)(fz:Fz)(st:Za)(π:Zw)(ρ:Env):Prop where
 bd:Bd fz st
 lo:n0≤st.length
 len:π.length=ρ.length
 fr:∀ (i:Nat) (p:P),M.contains i=false→π[i]?=some (some p)→∃ d,ρ[i]?=some (some d)∧Rel fz st p d
 mt:∀ (i:Nat) (p:P),M.contains i=true→π[i]?=some (some p)→∃ (j:Nat) (ps:List P) (ds:List D),Own p ρ[i]? ps j∧Rf ρ[i]? j∧st[j]?=some (true,ds)∧¬fz j∧n0≤j∧Rels fz st ps ds
 ne:∀ (i i':Nat) (p p':P) (j:Nat),M.contains i=true→M.contains i'=true→π[i]?=some (some p)→π[i']?=some (some p')→Rf ρ[i]? j→Rf ρ[i']? j→i=i'
structure Later(n0:Nat)(fz:Fz)(st:Za)(fz':Fz)(st':Za):Prop where
 low:∀ i,i < n0→st'[i]?=st[i]?
 frz:∀ i,fz i→st'[i]?=st[i]?
 sub:∀ i,fz i→fz' i
 new:∀ i,fz' i→fz i∨n0≤i
 len:st.length≤st'.length
section
variable {n0:Nat}{M:List Nat}{fz fz' fz1 fz2:Fz}{st st' st1 st2:Za}{π:Zw}{ρ:Env}
theorem Later.refl:Later n0 fz st fz st:=⟨fun _ _=>rfl,fun _ _=>rfl,fun _ h=>h,fun _ h=>.inl h,Nat.le_refl _⟩
theorem Later.trans(x:Later n0 fz st fz1 st1)(y:Later n0 fz1 st1 fz2 st2):Later n0 fz st fz2 st2:=
 ⟨fun i h=>(y.low i h).trans (x.low i h),fun i h=>(y.frz i (x.sub i h)).trans (x.frz i h),fun i h=>y.sub i (x.sub i h),fun i h=>(y.new i h).elim (x.new i) .inr,Nat.le_trans x.len y.len⟩
theorem Next.later(h:n0≤st.length)(b:Bd fz st)(x:Next fz st fz' st'):Later n0 fz st fz' st':=
 ⟨fun i hi=>x.old i (Nat.lt_of_lt_of_le hi h),fun i hi=>x.old i (b i hi),x.sub,fun i hi=>(x.new i hi).elim .inl fun z=>.inr (Nat.le_trans h z),x.len⟩
theorem Z3{α:Type}{l:List α}{i:Nat}{x:α}(h:l[i]?=some x):i < l.length:=(List.getElem?_eq_some_iff.mp h).1
theorem Inv.next(I:Inv n0 M fz st π ρ)(x:Next fz st fz' st'):Inv n0 M fz' st' π ρ:=
 ⟨x.bd,Nat.le_trans I.lo x.len,I.len,fun i p h e=>let ⟨d,e1,r⟩:=I.fr i p h e;⟨d,e1,r.next I.bd x⟩,fun i p h e=>by
  obtain⟨j,ps,ds,e1,e2,e3,e4,e5,r⟩:=I.mt i p h e;have hj:=Z3 e3;exact⟨j,ps,ds,e1,e2,(x.old j hj).trans e3,fun z=>(x.new j z).elim e4 fun z=>absurd hj (by omega),e5,r.next I.bd x⟩,I.ne⟩
theorem Inv.erase(I:Inv n0 M fz st π ρ):EnvAll fz st (Xz M π) ρ:=fun i p e=>let ⟨h1,h2⟩:=ZcQ e;I.fr i p h1 h2
noncomputable def fzM(M:List Nat)(fz:Fz)(π:Zw)(ρ:Env):Fz:=fun i=>fz i∨∃ (k:Nat) (p:P),M.contains k=true∧π[k]?=some (some p)∧Rf ρ[k]? i
theorem Inv.bdM(I:Inv n0 M fz st π ρ):Bd (fzM M fz π ρ) st:=by
 rintro i (h|⟨k,p,hk,e,e'⟩)
 ·exact I.bd i h
 ·obtain⟨j,ps,ds,e1,e2,e3,e4,e5,r⟩:=I.mt k p hk e
  cases e'.inj e2
  exact Z3 e3
theorem Inv.all(I:Inv n0 M fz st π ρ):EnvAll (fzM M fz π ρ) st π ρ:=by
 intro i p e;cases h:M.contains i with
 |false=>
  obtain⟨d,e1,r⟩:=I.fr i p h e;exact⟨d,e1,r.mono (fun _ z=>.inl z) fun _ _=>rfl⟩
 |true=>
  obtain⟨j,ps,ds,e1,e2,e3,e4,e5,r⟩:=I.mt i p h e;exact e1.rel (.inr ⟨i,_,h,e,e2⟩) e3 (r.mono (fun _ z=>.inl z) fun _ _=>rfl)
theorem Yd{F:Nat→Fn}{G:PFn}(hF:Yu F G){e:CE}{p:P}(I:Inv n0 M fz st π ρ)(h:pe G e π=some p)(k:Zu M e p=true):Gives fz st (ev F e ρ st) p:=by
 unfold Zu at k;rw[Bool.or_eq_true]at k;rcases k with k|k
 ·rw[←Zi e k]at h
  exact Zb hF e _ p h fz st ρ I.bd I.erase
 ·obtain⟨d,st',fz',e1,n1,r1⟩:=Zb hF e _ p h _ st ρ I.bdM I.all
  exact⟨d,st',fz,e1,n1.small I.bd,r1.ofNoL k⟩
theorem Q9{F:Nat→Fn}{G:PFn}(hF:Yu F G){e:CE}{m:Bool}{xs:List P}(I:Inv n0 M fz st π ρ)(h:pe G e π=some (.lst m xs))(hf:Vl e=true)(k:(noM M e||VW xs)=true) :
  ∃ j ds st' fz1,ev F e ρ st=some (.lst j,st')∧st'[j]?=some (m,ds)∧Next fz st fz1 st'∧¬fz1 j∧st.length≤j∧Rels fz1 st' xs ds:=by
 rw[Bool.or_eq_true]at k;rcases k with k|k
 ·rw[←Zi e k]at h
  exact JM hF e hf _ m xs h fz st ρ I.bd I.erase
 ·obtain⟨j,ds,st',fz1,e1,e2,n1,hn,hl,r⟩:=JM hF e hf _ m xs h _ st ρ I.bdM I.all
  exact⟨j,ds,st',fz,e1,e2,n1.small I.bd,fun z=>absurd (I.bd j z) (by omega),hl,r.ofNoL k⟩
theorem UC{F:Nat→Fn}{G:PFn}(hF:Yu F G){e:CE}{p:P}(I:Inv n0 M fz st π ρ)(h:pe G e π=some p)(k:Y1 M e p=true) :
  ∃ d j ps ds st' fz1,(ev F e ρ st=some (d,st')∧Own p (some (some d)) ps j)∧st'[j]?=some (true,ds)∧Next fz st fz1 st'∧¬fz1 j∧st.length≤j∧Rels fz1 st' ps ds:=by
 unfold Y1 at k;split at k
 ·rw[Bool.and_eq_true]at k
  obtain⟨j,ds,st',fz1,e1,r⟩:=Q9 hF I h k.1 k.2;exact⟨_,j,_,ds,st',fz1,⟨e1,.l rfl rfl⟩,r⟩
 ·cases k
theorem ZbT{F:Nat→Fn}{G:PFn}(hF:Yu F G){e:CE}{p:P}(I:Inv n0 M fz st π ρ)(h:pe G e π=some p)(k:Y1 M e p=true):Gives fz st (ev F e ρ st) p:=by
 obtain⟨d,j,ps,ds,st',fz1,⟨e1,ow⟩,e2,n1,hn,hl,r⟩:=UC hF I h k;obtain⟨d',e3,r'⟩:=ow.rel (fz:=fun i=>fz1 i∨i=j) (.inr rfl) e2 (r.mono (fun _ z=>.inl z) fun _ _=>rfl)
 cases e3;exact⟨d,st',fun i=>fz1 i∨i=j,e1,⟨n1.old,n1.len,fun i z=>.inl (n1.sub i z),fun i z=>z.elim (n1.new i) fun z=>by rw[z];exact .inr hl,fun i z=>z.elim (n1.bd i) fun z=>by rw[z];exact Z3 e2⟩,r'⟩
theorem ZY{α:Type}{l:List (Option α)}{i k:Nat}{x y:α}(h:(l.set i (some x))[k]?=some (some y)):(k=i∧y=x∧i < l.length)∨(k≠i∧l[k]?=some (some y)):=by
 rw[List.getElem?_set]at h;split at h
 ·rename_i e
  subst e;split at h
  ·rename_i hl
   cases h;exact .inl ⟨rfl,rfl,hl⟩
  ·cases h
 ·rename_i e
  exact .inr ⟨fun z=>e z.symm,h⟩
theorem V6{α:Type}{l:List (Option α)}{i:Nat}{x:α}(h:i < l.length):(l.set i (some x))[i]?=some (some x):=by rw[List.getElem?_set,if_pos rfl,if_pos h]
theorem Zk{α:Type}{l:List (Option α)}{i k:Nat}{x:α}(h:k≠i):(l.set i (some x))[k]?=l[k]?:=by rw[List.getElem?_set,if_neg (fun z=>h z.symm)]
theorem Inv.set{i:Nat}{p:P}{d:D}(I:Inv n0 M fz st π ρ)(h:M.contains i=false)(r:Rel fz st p d):Inv n0 M fz st (Zq π i p) (ZB ρ i d):=by
 unfold Zq ZB;refine⟨I.bd,I.lo,by rw[List.length_set,List.length_set];exact I.len,fun k q hk e=>?_,fun k q hk e=>?_,fun k k' q q' j hk hk' e e' e1 e1'=>?_⟩
 ·rcases ZY e with⟨rfl,rfl,hl⟩|⟨hn,e⟩
  ·exact⟨d,V6 (by rw[←I.len];exact hl),r⟩
  ·rw[Zk hn]
   exact I.fr k q hk e
 ·rcases ZY e with⟨rfl,rfl,hl⟩|⟨hn,e⟩
  ·rw[h]at hk;cases hk
  ·rw[Zk hn]
   exact I.mt k q hk e
 ·rcases ZY e with⟨rfl,rfl,hl⟩|⟨hn,e⟩
  ·rw[h]at hk;cases hk
  ·rcases ZY e' with⟨rfl,rfl,hl⟩|⟨hn',e'⟩
   ·rw[h]at hk';cases hk'
   ·rw[Zk hn]at e1
    rw[Zk hn']at e1';exact I.ne k k' q q' j hk hk' e e' e1 e1'
theorem Inv.setM{i j:Nat}{p:P}{d:D}{ps:List P}{ds:List D}(I:Inv n0 M fz st π ρ)(h:M.contains i=true)(ow:Own p (some (some d)) ps j)(hs:st[j]?=some (true,ds))(hz:¬fz j)(hl:n0≤j)(r:Rels fz st ps ds)(hn:∀ (k:Nat) (p:P),M.contains k=true→π[k]?=some (some p)→¬Rf ρ[k]? j):Inv n0 M fz st (Zq π i p) (ZB ρ i d):=by
 unfold Zq ZB;refine⟨I.bd,I.lo,by rw[List.length_set,List.length_set];exact I.len,fun k q hk e=>?_,fun k q hk e=>?_,fun k k' q q' j' hk hk' e e' e1 e1'=>?_⟩
 ·rcases ZY e with⟨rfl,rfl,hl⟩|⟨hn,e⟩
  ·rw[h]at hk;cases hk
  ·rw[Zk hn]
   exact I.fr k q hk e
 ·rcases ZY e with⟨rfl,rfl,hl'⟩|⟨hn,e⟩
  ·have z:=V6 (x:=d) (show k < ρ.length by rw[←I.len];exact hl')
   exact⟨j,ps,ds,by rw[z];exact ow,by rw[z];exact ow.rf,hs,hz,hl,r⟩
  ·rw[Zk hn]
   exact I.mt k q hk e
 ·rcases ZY e with⟨a1,a2,a3⟩|⟨a1,a2⟩
  ·rcases ZY e' with⟨b1,b2,b3⟩|⟨b1,b2⟩
   ·rw[a1,b1]
   ·rw[a1,V6 (by rw[←I.len];exact a3)]at e1
    cases ow.rf.inj e1
    rw[Zk b1]at e1';exact absurd e1' (hn k' q' hk' b2)
  ·rcases ZY e' with⟨b1,b2,b3⟩|⟨b1,b2⟩
   ·rw[b1,V6 (by rw[←I.len];exact b3)]at e1'
    cases ow.rf.inj e1'
    rw[Zk a1]at e1;exact absurd e1 (hn k q hk a2)
   ·rw[Zk a1]at e1
    rw[Zk b1]at e1';exact I.ne k k' q q' j' hk hk' a2 b2 e1 e1'
theorem Inv.write{i j:Nat}{p0 p1:P}{ps:List P}{ds:List D}(I:Inv n0 M fz st π ρ)(h:M.contains i=true)(e0:π[i]?=some (some p0))(ow:Own p1 ρ[i]? ps j)(hz:¬fz j)(hl:n0≤j)(hj:j < st.length)(r:Rels fz st ps ds) :
  Inv n0 M fz (st.set j (true,ds)) (Zq π i p1) ρ∧Later n0 fz st fz (st.set j (true,ds)):=by
 have same:∀ k,fz k→(st.set j (true,ds))[k]?=st[k]?:=fun k hk=>by
  rw[List.getElem?_set,if_neg (fun z=>hz (by rw[z];exact hk))]
 have mono:∀ {q:P}{d:D},Rel fz st q d→Rel fz (st.set j (true,ds)) q d:=fun r=>r.mono (fun _ z=>z) same
 have monos:∀ {q:List P}{d:List D},Rels fz st q d→Rels fz (st.set j (true,ds)) q d:=fun r=>r.mono (fun _ z=>z) same
 refine⟨⟨fun k hk=>by rw[List.length_set];exact I.bd k hk,by rw[List.length_set];exact I.lo,by unfold Zq;rw[List.length_set];exact I.len,fun k q hk e=>?_,fun k q hk e=>?_,fun k k' q q' j' hk hk' e e' e1 e1'=>?_⟩,
  ⟨fun k hk=>by rw[List.getElem?_set,if_neg (by omega)],same,fun _ z=>z,fun _ z=>.inl z,by rw[List.length_set];exact Nat.le_refl _⟩⟩
 ·unfold Zq at e
  rcases ZY e with⟨rfl,rfl,_⟩|⟨hn,e⟩
  ·rw[h]at hk;cases hk
  ·obtain⟨d,e1,r1⟩:=I.fr k q hk e
   exact⟨d,e1,mono r1⟩
 ·unfold Zq at e
  rcases ZY e with⟨rfl,rfl,_⟩|⟨hn,e⟩
  ·exact⟨j,ps,ds,ow,ow.rf,by rw[List.getElem?_set,if_pos rfl,if_pos hj],hz,hl,monos r⟩
  ·obtain⟨j',qs,es,f1,f2,f3,f4,f5,f6⟩:=I.mt k q hk e
   refine⟨j',qs,es,f1,f2,?_,f4,f5,monos f6⟩;rw[List.getElem?_set,if_neg (fun z=>hn (I.ne k i q p0 j hk h e e0 (by rw[z];exact f2) ow.rf))]
   exact f3
 ·unfold Zq at e e'
  have f:∀ {k:Nat}{q:P},(π.set i (some p1))[k]?=some (some q)→∃ q',π[k]?=some (some q'):=fun {k q} e=>by
   rcases ZY e with⟨rfl,_,_⟩|⟨_,e⟩
   ·exact⟨_,e0⟩
   ·exact⟨_,e⟩
  obtain⟨_,g⟩:=f e;obtain⟨_,g'⟩:=f e';exact I.ne k k' _ _ j' hk hk' g g' e1 e1'
end
def ZjO(n0:Nat)(M:List Nat)(fz:Fz)(st:Za):PFl→Fl→Prop
 |.nx π,.nx ρ=>Inv n0 M fz st π ρ
 |.bk π,.bk ρ=>Inv n0 M fz st π ρ
 |.ct π,.ct ρ=>Inv n0 M fz st π ρ
 |.rt p,.rt d=>Rel fz st p d∧Bd fz st
 |_,_=>False
def Kept(M T:List Nat)(π:Zw)(ρ:Env)(st:Za)(π':Zw)(ρ':Env)(st':Za):Prop:=
 ∀ (i:Nat),i∉T→M.contains i=true→π'[i]?=π[i]?∧ρ'[i]?=ρ[i]?∧∀ (j:Nat) (p:P),π[i]?=some (some p)→Rf ρ[i]? j→st'[j]?=st[j]?
def KeptF(M T:List Nat)(π:Zw)(ρ:Env)(st:Za)(r:PFl)(r':Fl)(st':Za):Prop:=match r,r' with
 |.nx π',.nx ρ'=>Kept M T π ρ st π' ρ' st'
 |.bk π',.bk ρ'=>Kept M T π ρ st π' ρ' st'
 |.ct π',.ct ρ'=>Kept M T π ρ st π' ρ' st'
 |_,_=>True
theorem Kept.refl{M T:List Nat}{π:Zw}{ρ:Env}{st:Za}:Kept M T π ρ st π ρ st:=fun _ _ _=>⟨rfl,rfl,fun _ _ _ _=>rfl⟩
theorem Kept.trans{M T T1 T2:List Nat}{π π1 π2:Zw}{ρ ρ1 ρ2:Env}{st st1 st2:Za}(s1:∀ i,i∈T1→i∈T)(s2:∀ i,i∈T2→i∈T)(x:Kept M T1 π ρ st π1 ρ1 st1)(y:Kept M T2 π1 ρ1 st1 π2 ρ2 st2):Kept M T π ρ st π2 ρ2 st2:=fun i h hm=>by
 obtain⟨a1,a2,a3⟩:=x i (fun z=>h (s1 i z)) hm
 obtain⟨b1,b2,b3⟩:=y i (fun z=>h (s2 i z)) hm
 exact⟨b1.trans a1,b2.trans a2,fun j p e e'=>(b3 j p (a1.trans e) (by rw[a2];exact e')).trans (a3 j p e e')⟩
theorem Kept.more{M T T1:List Nat}{π π1:Zw}{ρ ρ1:Env}{st st1:Za}(s1:∀ i,i∈T1→i∈T)(x:Kept M T1 π ρ st π1 ρ1 st1):Kept M T π ρ st π1 ρ1 st1:=fun i h hm=>x i (fun z=>h (s1 i z)) hm
theorem KeptF.trans{M T T1 T2:List Nat}{π π1:Zw}{ρ ρ1:Env}{st st1 st2:Za}{r:PFl}{r':Fl}(s1:∀ i,i∈T1→i∈T)(s2:∀ i,i∈T2→i∈T)(x:Kept M T1 π ρ st π1 ρ1 st1)(y:KeptF M T2 π1 ρ1 st1 r r' st2):KeptF M T π ρ st r r' st2:=by
 cases r<;>cases r'<;>first|trivial|exact Kept.trans s1 s2 x y
theorem KeptF.more{M T T1:List Nat}{π:Zw}{ρ:Env}{st st2:Za}{r:PFl}{r':Fl}(s1:∀ i,i∈T1→i∈T)(y:KeptF M T1 π ρ st r r' st2):KeptF M T π ρ st r r' st2:=by
 cases r<;>cases r'<;>first|trivial|exact Kept.more s1 y
theorem Next.kept{n0:Nat}{M T:List Nat}{fz fz':Fz}{st st':Za}{π:Zw}{ρ:Env}(I:Inv n0 M fz st π ρ)(x:Next fz st fz' st'):Kept M T π ρ st π ρ st':=fun i _ hm=>⟨rfl,rfl,fun j p e e'=>by
 obtain⟨j',ps,ds,e1,e2,e3,e4,e5,r⟩:=I.mt i p hm e;cases e'.inj e2
 exact x.old j (Z3 e3)⟩
abbrev XJ(n0:Nat)(M T:List Nat)(fz:Fz)(st:Za)(π:Zw)(ρ:Env)(x:Option (Fl×Za))(r:PFl):Prop:=∃ r' st' fz',x=some (r',st')∧Later n0 fz st fz' st'∧ZjO n0 M fz' st' r r'∧KeptF M T π ρ st r r' st'
def SX(n0:Nat)(M T:List Nat)(f:Ex)(g:PEx):Prop:=∀ π r,g π=some r→∀ fz st ρ,Inv n0 M fz st π ρ→XJ n0 M T fz st π ρ (f ρ st) r
section
variable {n0:Nat}{M T T1 T2:List Nat}{f f1 f2:Ex}{g g1 g2:PEx}{F:Nat→Fn}{G:PFn}
theorem Zjr(h1:SX n0 M T1 f1 g1)(h2:SX n0 M T2 f2 g2):SX n0 M (T1++T2) (Zcg f1 f2) (ZdP g1 g2):=by
 intro π r e fz st ρ I;have s1:∀ i,i∈T1→i∈T1++T2:=fun i h=>List.mem_append.mpr (.inl h)
 have s2:∀ i,i∈T2→i∈T1++T2:=fun i h=>List.mem_append.mpr (.inr h)
 unfold ZdP at e;split at e
 ·rename_i π1 q
  obtain⟨r1,st1,fz1,e1,l1,R1,k1⟩:=h1 π _ q fz st ρ I;cases r1 with
  |nx ρ1=>
   obtain⟨r2,st2,fz2,e2,l2,R2,k2⟩:=h2 π1 r e fz1 st1 ρ1 R1;exact⟨r2,st2,fz2,by unfold Zcg;rw[e1];exact e2,l1.trans l2,R2,KeptF.trans s1 s2 k1 k2⟩
  |_=>exact R1.elim
 ·rename_i hn
  obtain⟨r1,st1,fz1,e1,l1,R1,k1⟩:=h1 π _ e fz st ρ I;refine⟨r1,st1,fz1,?_,l1,R1,KeptF.more s1 k1⟩;unfold Zcg;rw[e1];cases r with
  |nx π1=>exact absurd e (hn π1)
  |rt p=>cases r1<;>first|rfl|exact R1.elim
  |bk π1=>cases r1<;>first|rfl|exact R1.elim
  |ct π1=>cases r1<;>first|rfl|exact R1.elim
theorem Zjq(hF:Yu F G)(e:CE):SX n0 M T (ZdZ (ev F e)) (ZdN (pe G e)):=by
 intro π r h fz st ρ I;unfold ZdN at h;split at h
 ·rename_i p q
  cases h;obtain⟨d,st',fz',e1,n1,r1⟩:=Zb hF e _ p q _ st ρ I.bdM I.all;refine⟨.rt d,st',fz',by unfold ZdZ;rw[e1],⟨fun i hi=>n1.old i (Nat.lt_of_lt_of_le hi I.lo),fun i hi=>n1.old i (I.bd i hi),fun i hi=>n1.sub i (.inl hi),fun i hi=>?_,n1.len⟩,⟨r1,n1.bd⟩,trivial⟩
  rcases n1.new i hi with(z|⟨k,p,hk,e,e'⟩)|z
  ·exact .inl z
  ·obtain⟨j,ps,ds,f1,f2,f3,f4,f5,r⟩:=I.mt k p hk e
   cases e'.inj f2
   exact .inr f5
  ·exact .inr (Nat.le_trans I.lo z)
 ·cases h
theorem Wc{α:Type}{l:List (Option α)}{j k:Nat}{x:α}(e:(l.set j none)[k]?=some (some x)):k≠j∧l[k]?=some (some x):=by
 by_cases h:k=j
 ·subst h
  rw[List.getElem?_set]at e;simp only[if_true]at e;split at e<;>cases e
 ·rw[List.getElem?_set,if_neg (fun z=>h z.symm)]at e
  exact⟨h,e⟩
theorem Zk3{i j:Nat}{p:P}{π:Zw}{fz:Fz}{st:Za}{ρ:Env}(I:Inv n0 M fz st π ρ)(hj:M.contains j=true)(hi:M.contains i=false)(q:π[j]?=some (some p)) :
  ∃ d fz',ρ[j]?=some (some d)∧Later n0 fz st fz' st∧Inv n0 M fz' st (Zq (π.set j none) i p) (ZB ρ i d)∧Kept M [i,j] π ρ st (Zq (π.set j none) i p) (ZB ρ i d) st:=by
 obtain⟨J,ps,ds,f1,f2,f3,f4,f5,f6⟩:=I.mt j p hj q;have sub:∀ k,fz k→(fz k∨k=J):=fun k h=>.inl h
 obtain⟨d,hd,rd⟩:=f1.rel (fz:=fun k=>fz k∨k=J) (.inr rfl) f3 (f6.mono sub fun _ _=>rfl)
 refine⟨d,fun k=>fz k∨k=J,hd,⟨fun _ _=>rfl,fun _ _=>rfl,sub,fun k h=>h.elim .inl fun z=>.inr (by rw[z];exact f5),Nat.le_refl _⟩,?_,fun k hk hm=>?_⟩
 ·unfold Zq ZB
  refine⟨fun k h=>h.elim (I.bd k) fun z=>by rw[z];exact Z3 f3,I.lo,by rw[List.length_set,List.length_set,List.length_set];exact I.len,fun k q' hk e=>?_,fun k q' hk e=>?_,fun k k' q' q'' j' hk hk' e e' e1 e1'=>?_⟩
  ·rcases ZY e with⟨rfl,rfl,hl⟩|⟨hn,e⟩
   ·exact⟨d,V6 (by rw[←I.len];simpa using hl),rd⟩
   ·rw[Zk hn]
    obtain⟨d,e2,r⟩:=I.fr k q' hk (Wc e).2;exact⟨d,e2,r.mono sub fun _ _=>rfl⟩
  ·rcases ZY e with⟨rfl,rfl,hl⟩|⟨hn,e⟩
   ·rw[hi]at hk;cases hk
   ·rw[Zk hn]
    obtain⟨nj,e⟩:=Wc e;obtain⟨J',ps',ds',g1,g2,g3,g4,g5,g6⟩:=I.mt k q' hk e;refine⟨J',ps',ds',g1,g2,g3,fun z=>z.elim g4 fun z=>?_,g5,g6.mono sub fun _ _=>rfl⟩
    subst z;exact nj (I.ne k j _ _ J' hk hj e q g2 f2)
  ·rcases ZY e with⟨rfl,rfl,hl⟩|⟨hn,e⟩
   ·rw[hi]at hk;cases hk
   ·rcases ZY e' with⟨rfl,rfl,hl⟩|⟨hn',e'⟩
    ·rw[hi]at hk';cases hk'
    ·rw[Zk hn]at e1
     rw[Zk hn']at e1';exact I.ne k k' _ _ j' hk hk' (Wc e).2 (Wc e').2 e1 e1'
 ·have n1:k≠i:=fun z=>hk (by rw[z];exact List.mem_cons_self)
  have n2:k≠j:=fun z=>hk (by rw[z];exact List.mem_cons_of_mem _ (List.mem_singleton.mpr rfl))
  refine⟨?_,Zk n1,fun _ _ _ _=>rfl⟩
  unfold Zq;rw[Zk n1,List.getElem?_set,if_neg (fun z=>n2 z.symm)]
theorem Zjs(hF:Yu F G)(i:Nat)(e:CE):SX n0 M (i :: mvT e) (JI i (ev F e)) (Qz M i e (pe G e)):=by
 intro π r h fz st ρ I;have kp:∀ {fz':Fz}{st':Za}{d:D}{p:P},Next fz st fz' st'→Kept M (i :: mvT e) π ρ st (Zq π i p) (ZB ρ i d) st':=fun {fz' st' d p} x k hk hm=>by
  have hki:k≠i:=fun z=>hk (by rw[z];exact List.mem_cons_self)
  have:=Next.kept (T:=i :: mvT e) I x k hk hm;exact⟨Zk hki,Zk hki,this.2.2⟩
 unfold Qz at h;split at h
 ·rename_i p q
  cases hm:M.contains i with
  |true=>
   rw[hm]at h;simp only[if_true]at h;split at h
   ·rename_i c
    cases h;obtain⟨d,j,ps,ds,st',fz1,⟨e1,ow⟩,e2,n1,hn,hl,r⟩:=UC hF I q c;refine⟨.nx (ZB ρ i d),st',fz1,by unfold JI;rw[e1],n1.later I.lo I.bd,(I.next n1).setM hm ow e2 hn (Nat.le_trans I.lo hl) r fun k p hk e e'=>?_,kp n1⟩
    obtain⟨j',ps,es,f1,f2,f3,f4,f5,_⟩:=I.mt k p hk e;cases e'.inj f2
    exact absurd (Z3 f3) (by omega)
   ·unfold mvP at h
    split at h
    ·rw[hm,Bool.not_true,Bool.and_false]at h
     cases h
    ·cases h
  |false=>
   rw[hm]at h;simp only[Bool.false_eq_true,if_false]at h;split at h
   ·rename_i c
    cases h;obtain⟨d,st',fz',e1,n1,r1⟩:Gives fz st (ev F e ρ st) p:=((Bool.or_eq_true _ _).mp c).elim (Yd hF I q) (ZbT hF I q);exact⟨.nx (ZB ρ i d),st',fz',by unfold JI;rw[e1],n1.later I.lo I.bd,(I.next n1).set hm r1,kp n1⟩
   ·unfold mvP at h
    split at h
    ·rename_i j _
     split at h
     ·rename_i c
      cases h;rw[Bool.and_eq_true]at c;have q:X0 j π=some p:=q;unfold X0 at q;split at q
      ·rename_i p' q'
       cases q;obtain⟨d,fz',e1,l1,I1,k1⟩:=Zk3 I c.1 hm q';refine⟨.nx (ZB ρ i d),st,fz',?_,l1,I1,k1⟩;show JI i (WB j) ρ st=_;unfold JI WB;simp only[e1]
      ·cases q
     ·cases h
    ·cases h
 ·cases h
theorem Zh6(hF:Yu F G)(i j:Nat)(e:CE):SX n0 M [i,j] (JG i j (ev F e)) (JA M i j e (pe G e)):=by
 intro π r h fz st ρ I;have kp:∀ {fz':Fz}{st':Za}{d d':D}{p p':P},Next fz st fz' st'→Kept M [i,j] π ρ st (Zq (Zq π i p) j p') (ZB (ZB ρ i d) j d') st':=fun {fz' st' d d' p p'} x k hk hm=>by
  have hki:k≠i:=fun z=>hk (by rw[z];exact List.mem_cons_self)
  have hkj:k≠j:=fun z=>hk (by rw[z];exact List.mem_cons_of_mem _ List.mem_cons_self)
  have:=Next.kept (T:=[i,j]) I x k hk hm;exact⟨(Zk hkj).trans (Zk hki),(Zk hkj).trans (Zk hki),this.2.2⟩
 unfold JA at h;split at h
 ·rename_i x y q
  split at h
  ·rename_i c
   cases h;rw[Bool.and_eq_true,Bool.and_eq_true]at c;have hi:M.contains i=false:=by simpa using c.1.1
   have hj:M.contains j=false:=by simpa using c.1.2
   obtain⟨d,st',fz',e1,n1,r1⟩:=Yd hF I q c.2;cases r1 with
   |tup rr=>
    cases rr with
    |cons a rr=>
     cases rr with
     |cons a' rr=>
      cases rr;exact⟨.nx _,st',fz',by unfold JG;rw[e1],n1.later I.lo I.bd,((I.next n1).set hi a).set hj a',kp n1⟩
  ·cases h
 ·cases h
theorem Zh7(hF:Yu F G)(i j l:Nat)(e:CE):SX n0 M [i,j,l] (JH i j l (ev F e)) (ZdQ M i j l e (pe G e)):=by
 intro π r h fz st ρ I;have kp:∀ {fz':Fz}{st':Za}{d d' d2:D}{p p' p2:P},Next fz st fz' st'→Kept M [i,j,l] π ρ st (Zq (Zq (Zq π i p) j p') l p2) (ZB (ZB (ZB ρ i d) j d') l d2) st':=fun {fz' st' d d' d2 p p' p2} x k hk hm=>by
  have hki:k≠i:=fun z=>hk (by rw[z];exact List.mem_cons_self)
  have hkj:k≠j:=fun z=>hk (by rw[z];exact List.mem_cons_of_mem _ List.mem_cons_self)
  have hkl:k≠l:=fun z=>hk (by rw[z];exact List.mem_cons_of_mem _ (List.mem_cons_of_mem _ List.mem_cons_self))
  have:=Next.kept (T:=[i,j,l]) I x k hk hm;exact⟨(Zk hkl).trans ((Zk hkj).trans (Zk hki)),(Zk hkl).trans ((Zk hkj).trans (Zk hki)),this.2.2⟩
 unfold ZdQ at h;split at h
 ·rename_i x y z q
  split at h
  ·rename_i c
   cases h;rw[Bool.and_eq_true,Bool.and_eq_true,Bool.and_eq_true]at c;have hi:M.contains i=false:=by simpa using c.1.1.1
   have hj:M.contains j=false:=by simpa using c.1.1.2
   have hl:M.contains l=false:=by simpa using c.1.2
   obtain⟨d,st',fz',e1,n1,r1⟩:=Yd hF I q c.2;cases r1 with
   |tup rr=>
    cases rr with
    |cons a rr=>
     cases rr with
     |cons a' rr=>
      cases rr with
      |cons a2 rr=>
       cases rr;exact⟨.nx _,st',fz',by unfold JH;rw[e1],n1.later I.lo I.bd,(((I.next n1).set hi a).set hj a').set hl a2,kp n1⟩
  ·cases h
 ·cases h
theorem Zjk(hF:Yu F G)(e:CE):SX n0 M [] (Zcs (ev F e)) (Zhx M e (pe G e)):=by
 intro π r h fz st ρ I;unfold Zhx at h;split at h
 ·rename_i p q
  split at h
  ·rename_i c
   cases h;obtain⟨d,st',fz',e1,n1,r1⟩:=Yd hF I q c;exact⟨.nx ρ,st',fz',by unfold Zcs;rw[e1],n1.later I.lo I.bd,I.next n1,Next.kept I n1⟩
  ·cases h
 ·cases h
theorem Zjl(hF:Yu F G)(i:Nat)(e:CE):SX n0 M [i] (Zcw i (ev F e)) (ZdD M i e (pe G e)):=by
 intro π r h fz st ρ I;unfold ZdD at h;split at h
 ·rename_i xs q0
  split at h
  ·rename_i p q
   split at h
   ·rename_i c
    cases h;rw[Bool.and_eq_true,Bool.and_eq_true]at c;obtain⟨⟨hm,hk⟩,hz⟩:=c;have hz:=of_decide_eq_true hz;obtain⟨d,st',fz',e1,n1,r1⟩:=Yd hF I q hk;have I1:=I.next n1;obtain⟨j,ps,ds,f1,f2,f3,f4,f5,f6⟩:=I1.mt i _ hm q0;obtain⟨⟨_,rfl⟩,f0⟩:=f1.lst;obtain⟨I2,l2⟩:=I1.write hm q0 (.l rfl f0) f4 f5 (Z3 f3) (f6.append (.cons r1 .nil));refine⟨.nx ρ,_,fz',?_,(n1.later I.lo I.bd).trans l2,I2,fun k hk2 hm2=>?_⟩
    ·unfold Zcw
     rw[f0];simp only[e1];unfold Zcu;simp only[f3];rw[if_pos (by rw[←f6.length];exact hz)]
    ·have hki:k≠i:=fun z=>hk2 (by rw[z];exact List.mem_singleton.mpr rfl)
     have kk:=Next.kept (T:=[i]) I n1 k hk2 hm2;refine⟨Zk hki,rfl,fun j' p' e e'=>?_⟩
     rw[←kk.2.2 j' p' e e',List.getElem?_set,if_neg (fun z=>hki (I.ne k i p' _ j hm2 hm e q0 (by rw[z];exact e') f2))]
   ·cases h
  ·cases h
 ·cases h
theorem Zjm(hF:Yu F G)(i:Nat)(e:CE):SX n0 M [i] (ZcR i (ev F e)) (ZdG M i e (pe G e)):=by
 intro π r h fz st ρ I;unfold ZdG at h;split at h
 ·rename_i xs q0
  split at h
  ·rename_i ys q
   split at h
   ·rename_i c
    cases h;rw[Bool.and_eq_true,Bool.and_eq_true]at c;obtain⟨⟨hm,hk⟩,hz⟩:=c;have hz:=of_decide_eq_true hz;obtain⟨d,st',fz',e1,n1,r1⟩:=Yd hF I q (show Zu M e _=true by unfold Zu;rw[hk,Bool.true_or])
    have I1:=I.next n1;obtain⟨j,ps,ds,f1,f2,f3,f4,f5,f6⟩:=I1.mt i _ hm q0;obtain⟨⟨_,rfl⟩,f0⟩:=f1.lst;cases r1 with
    |@lst jb _ _ db zb sb rb=>
     obtain⟨I2,l2⟩:=I1.write hm q0 (.l rfl f0) f4 f5 (Z3 f3) (f6.append rb);refine⟨.nx ρ,_,fz',?_,(n1.later I.lo I.bd).trans l2,I2,fun k hk2 hm2=>?_⟩
     ·unfold ZcR
      rw[f0];simp only[e1];unfold Zg8;simp only[f3,sb];rw[if_pos (by rw[←f6.length,←rb.length];exact hz)]
     ·have hki:k≠i:=fun z=>hk2 (by rw[z];exact List.mem_singleton.mpr rfl)
      have kk:=Next.kept (T:=[i]) I n1 k hk2 hm2;refine⟨Zk hki,rfl,fun j' p' e e'=>?_⟩
      rw[←kk.2.2 j' p' e e',List.getElem?_set,if_neg (fun z=>hki (I.ne k i p' _ j hm2 hm e q0 (by rw[z];exact e') f2))]
   ·cases h
  ·cases h
 ·cases h
theorem Zjp(hF:Yu F G)(i:Nat)(e k:CE):SX n0 M [i] (ZdS i (ev F k) (ev F e)) (ZdL M i e (pe G k) (pe G e)):=by
 intro π r h fz st ρ I;unfold ZdL at h;split at h
 ·rename_i p q
  split at h
  ·rename_i xs q0
   split at h
   ·rename_i a qa
    split at h
    ·rename_i b qb
     split at h
     ·rename_i c
      cases h;rw[Bool.and_eq_true]at c;obtain⟨hm,hk⟩:=c;obtain⟨d,st',fz',e1,n1,r1⟩:=Yd hF I q hk;have I1:=I.next n1;obtain⟨d2,st2,fz2,e2,n2,r2⟩:=Yd hF I1 qa (by unfold Zu;rw[show noL (.int a)=true from rfl,Bool.or_true])
      cases r2;have I2:=I1.next n2;obtain⟨j,ps,ds,f1,f2,f3,f4,f5,f6⟩:=I2.mt i _ hm q0;obtain⟨⟨_,rfl⟩,f0⟩:=f1.lst;obtain⟨I3,l3⟩:=I2.write hm q0 (.l rfl f0) f4 f5 (Z3 f3) (f6.set (r1.next n1.bd n2) b);refine⟨.nx ρ,_,fz2,?_,((n1.trans n2).later I.lo I.bd).trans l3,I3,fun k' hk2 hm2=>?_⟩
      ·unfold ZdS
       rw[e1];simp only[f0,e2];unfold QK;simp only[f3];rw[←f6.length,qb]
      ·have hki:k'≠i:=fun z=>hk2 (by rw[z];exact List.mem_singleton.mpr rfl)
       have kk:=Next.kept (T:=[i]) I (n1.trans n2) k' hk2 hm2;refine⟨Zk hki,rfl,fun j' p' e e'=>?_⟩
       rw[←kk.2.2 j' p' e e',List.getElem?_set,if_neg (fun z=>hki (I.ne k' i p' _ j hm2 hm e q0 (by rw[z];exact e') f2))]
     ·cases h
    ·cases h
   ·cases h
  ·cases h
 ·cases h
theorem Zjo(hF:Yu F G)(c:CE)(h1:SX n0 M T1 f1 g1)(h2:SX n0 M T2 f2 g2):SX n0 M (T1++T2) (Zb0 (ev F c) f1 f2) (ZdI (pe G c) g1 g2):=by
 intro π r e fz st ρ I;have s1:∀ i,i∈T1→i∈T1++T2:=fun i h=>List.mem_append.mpr (.inl h)
 have s2:∀ i,i∈T2→i∈T1++T2:=fun i h=>List.mem_append.mpr (.inr h)
 unfold ZdI at e;split at e
 ·rename_i q
  obtain⟨d,st',fz',e1,n1,r1⟩:=Yd hF I q (by unfold Zu;rw[show noL (.bl true)=true from rfl,Bool.or_true])
  cases r1;obtain⟨r2,st2,fz2,e2,l2,R2,k2⟩:=h1 π r e fz' st' ρ (I.next n1);exact⟨r2,st2,fz2,by unfold Zb0;rw[e1];exact e2,(n1.later I.lo I.bd).trans l2,R2,KeptF.trans (T1:=T1) s1 s1 (Next.kept I n1) k2⟩
 ·rename_i q
  obtain⟨d,st',fz',e1,n1,r1⟩:=Yd hF I q (by unfold Zu;rw[show noL (.bl false)=true from rfl,Bool.or_true])
  cases r1;obtain⟨r2,st2,fz2,e2,l2,R2,k2⟩:=h2 π r e fz' st' ρ (I.next n1);exact⟨r2,st2,fz2,by unfold Zb0;rw[e1];exact e2,(n1.later I.lo I.bd).trans l2,R2,KeptF.trans (T1:=T2) s2 s2 (Next.kept I n1) k2⟩
 ·cases e
abbrev QQ(n0:Nat)(M T:List Nat)(B:P→Zw→Option PFl)(B':D→Env→Za→Option (Fl×Za)):Prop:=∀ x d π r,B x π=some r→∀ fz st ρ,Inv n0 M fz st π ρ→Rel fz st x d→XJ n0 M T fz st π ρ (B' d ρ st) r
theorem Later.rels{fz fz':Fz}{st st':Za}{ps:List P}{ds:List D}(l:Later n0 fz st fz' st')(r:Rels fz st ps ds):Rels fz' st' ps ds:=r.mono l.sub l.frz
theorem X8{B:P→Zw→Option PFl}{B':D→Env→Za→Option (Fl×Za)}(h:QQ n0 M T B B'):∀ {xs:List P}{ds:List D}{π:Zw}{r:PFl}{fz:Fz}{st:Za}{ρ:Env},Inv n0 M fz st π ρ→Rels fz st xs ds→Zz B xs π=some r→XJ n0 M T fz st π ρ (YK B' ds ρ st) r
 |_,_,π,r,fz,st,ρ,I,.nil,e=>by cases e;exact⟨.nx ρ,st,fz,rfl,Later.refl,I,Kept.refl⟩
 |x :: xs,d :: ds,π,r,fz,st,ρ,I,.cons a rs,e=>by
  unfold Zz at e;split at e
  ·rename_i π1 q
   obtain⟨r1,st1,fz1,e1,l1,R1,k1⟩:=h x d π _ q fz st ρ I a;cases r1 with
   |nx ρ1=>
    obtain⟨r2,st2,fz2,e2,l2,R2,k2⟩:=X8 h (ρ:=ρ1) R1 (l1.rels rs) e;exact⟨r2,st2,fz2,by unfold YK;rw[e1];exact e2,l1.trans l2,R2,KeptF.trans (fun _ z=>z) (fun _ z=>z) k1 k2⟩
   |_=>exact R1.elim
  ·rename_i π1 q
   obtain⟨r1,st1,fz1,e1,l1,R1,k1⟩:=h x d π _ q fz st ρ I a;cases r1 with
   |ct ρ1=>
    obtain⟨r2,st2,fz2,e2,l2,R2,k2⟩:=X8 h (ρ:=ρ1) R1 (l1.rels rs) e;exact⟨r2,st2,fz2,by unfold YK;rw[e1];exact e2,l1.trans l2,R2,KeptF.trans (fun _ z=>z) (fun _ z=>z) k1 k2⟩
   |_=>exact R1.elim
  ·rename_i π1 q
   cases e;obtain⟨r1,st1,fz1,e1,l1,R1,k1⟩:=h x d π _ q fz st ρ I a;cases r1 with
   |bk ρ1=>exact⟨.nx ρ1,st1,fz1,by unfold YK;rw[e1],l1,R1,k1⟩
   |_=>exact R1.elim
  ·rename_i v q
   cases e;obtain⟨r1,st1,fz1,e1,l1,R1,k1⟩:=h x d π _ q fz st ρ I a;cases r1 with
   |rt d'=>exact⟨.rt d',st1,fz1,by unfold YK;rw[e1],l1,R1,trivial⟩
   |_=>exact R1.elim
  ·cases e
theorem Zak{B':D→Env→Za→Option (Fl×Za)}{a n k:Nat}{ρ:Env}{st:Za}{m:Bool}{all:List D}{d:D}(h:st[a]?=some (m,all))(hk:all[k]?=some d):Z9 B' a (n+1) k ρ st=(match B' d ρ st with
  |some (.nx ρ',st')=>Z9 B' a n (k+1) ρ' st'
  |some (.ct ρ',st')=>Z9 B' a n (k+1) ρ' st'
  |some (.bk ρ',st')=>some (.nx ρ',st')
  |some (.rt v,st')=>some (.rt v,st')
  |none=>none):=by
 rw[Z9];simp only[h,hk]<;>rfl
abbrev Zik(n0:Nat)(M T:List Nat)(a:Nat)(m:Bool)(all:List D)(J:Fz→Za→Zw→Env→Prop):Prop:=
 (∀ fz st π ρ,J fz st π ρ→st[a]?=some (m,all))∧∀ fz st π ρ fz' st' π' ρ',Later n0 fz st fz' st'→Kept M T π ρ st π' ρ' st'→J fz st π ρ→J fz' st' π' ρ'
theorem Wa{B:P→Zw→Option PFl}{B':D→Env→Za→Option (Fl×Za)}(h:QQ n0 M T B B'){a:Nat}{m:Bool}{all:List D}{J:Fz→Za→Zw→Env→Prop}(hJ:Zik n0 M T a m all J):∀ {xs:List P}{ds:List D}{k:Nat}{π:Zw}{r:PFl}{fz:Fz}{st:Za}{ρ:Env},
   Inv n0 M fz st π ρ→J fz st π ρ→all.drop k=ds→Rels fz st xs ds→Zz B xs π=some r→XJ n0 M T fz st π ρ (Z9 B' a ds.length k ρ st) r
 |_,_,k,π,r,fz,st,ρ,I,j,hd,.nil,e=>by
  cases e;refine⟨.nx ρ,st,fz,?_,Later.refl,I,Kept.refl⟩;show Z9 B' a 0 k ρ st=_;unfold Z9;simp only[hJ.1 _ _ _ _ j];rw[if_pos (List.drop_eq_nil_iff.mp hd)]
 |x :: xs,d :: ds,k,π,r,fz,st,ρ,I,j,hd,.cons b rs,e=>by
  have hk:all[k]?=some d:=by
   have:=congrArg (fun l=>l[0]?) hd
   simpa using this
  have hd2:all.drop (k+1)=ds:=by
   have:=congrArg (fun l=>l.drop 1) hd
   simpa using this
  have start:∀ {y},B' d ρ st=some y→Z9 B' a (d :: ds).length k ρ st=(match y with
    | (.nx ρ',st')=>Z9 B' a ds.length (k+1) ρ' st'
    | (.ct ρ',st')=>Z9 B' a ds.length (k+1) ρ' st'
    | (.bk ρ',st')=>some (.nx ρ',st')
    | (.rt v,st')=>some (.rt v,st')):=fun {y} ey=>by
   show Z9 B' a (ds.length+1) k ρ st=_;rw[Zak (hJ.1 _ _ _ _ j) hk,ey];obtain⟨f,s⟩:=y;cases f<;>rfl
  unfold Zz at e;split at e
  ·rename_i π1 q
   obtain⟨r1,st1,fz1,e1,l1,R1,k1⟩:=h x d π _ q fz st ρ I b;cases r1 with
   |nx ρ1=>
    obtain⟨r2,st2,fz2,e2,l2,R2,k2⟩:=Wa h hJ (ρ:=ρ1) R1 (hJ.2 _ _ _ _ _ _ _ _ l1 k1 j) hd2 (l1.rels rs) e;exact⟨r2,st2,fz2,by rw[start e1];exact e2,l1.trans l2,R2,KeptF.trans (fun _ z=>z) (fun _ z=>z) k1 k2⟩
   |_=>exact R1.elim
  ·rename_i π1 q
   obtain⟨r1,st1,fz1,e1,l1,R1,k1⟩:=h x d π _ q fz st ρ I b;cases r1 with
   |ct ρ1=>
    obtain⟨r2,st2,fz2,e2,l2,R2,k2⟩:=Wa h hJ (ρ:=ρ1) R1 (hJ.2 _ _ _ _ _ _ _ _ l1 k1 j) hd2 (l1.rels rs) e;exact⟨r2,st2,fz2,by rw[start e1];exact e2,l1.trans l2,R2,KeptF.trans (fun _ z=>z) (fun _ z=>z) k1 k2⟩
   |_=>exact R1.elim
  ·rename_i π1 q
   cases e;obtain⟨r1,st1,fz1,e1,l1,R1,k1⟩:=h x d π _ q fz st ρ I b;cases r1 with
   |bk ρ1=>exact⟨.nx ρ1,st1,fz1,by rw[start e1],l1,R1,k1⟩
   |_=>exact R1.elim
  ·rename_i v q
   cases e;obtain⟨r1,st1,fz1,e1,l1,R1,k1⟩:=h x d π _ q fz st ρ I b;cases r1 with
   |rt d'=>exact⟨.rt d',st1,fz1,by rw[start e1],l1,R1,trivial⟩
   |_=>exact R1.elim
  ·cases e
theorem ZgC{i:Nat}(hi:M.contains i=false)(h:SX n0 M T f g):QQ n0 M (i :: T) (fun d π=>g (Zq π i d)) (fun d ρ s=>f (ZB ρ i d) s):=by
 intro x d π r e fz st ρ I a;obtain⟨r1,st1,fz1,e1,l1,R1,k1⟩:=h _ r e fz st _ (I.set hi a);refine⟨r1,st1,fz1,e1,l1,R1,?_⟩;refine KeptF.trans (T1:=i :: T) (T2:=T) (fun _ z=>z) (fun _ z=>List.mem_cons_of_mem _ z) (fun k hk hm=>?_) k1
 have hki:k≠i:=fun z=>hk (by rw[z];exact List.mem_cons_self)
 exact⟨Zk hki,Zk hki,fun _ _ _ _=>rfl⟩
theorem ZgD{i j:Nat}(hi:M.contains i=false)(hj:M.contains j=false)(h:SX n0 M T f g):QQ n0 M (i :: j :: T) (XH i j g) (Jv i j f):=by
 intro x d π r e fz st ρ I a;unfold XH at e;split at e
 ·rename_i p q
  cases a with
  |tup a=>
   cases a with
   |cons a1 a=>
    cases a with
    |cons a2 a=>
     cases a;obtain⟨r1,st1,fz1,e1,l1,R1,k1⟩:=h _ r e fz st _ ((I.set hi a1).set hj a2);refine⟨r1,st1,fz1,e1,l1,R1,?_⟩;refine KeptF.trans (T1:=i :: j :: T) (T2:=T) (fun _ z=>z) (fun _ z=>List.mem_cons_of_mem _ (List.mem_cons_of_mem _ z)) (fun k hk hm=>?_) k1
     have hki:k≠i:=fun z=>hk (by rw[z];exact List.mem_cons_self)
     have hkj:k≠j:=fun z=>hk (by rw[z];exact List.mem_cons_of_mem _ List.mem_cons_self)
     exact⟨(Zk hkj).trans (Zk hki),(Zk hkj).trans (Zk hki),fun _ _ _ _=>rfl⟩
 ·cases e
theorem JR(hF:Yu F G){B:P→Zw→Option PFl}{B':D→Env→Za→Option (Fl×Za)}{e:CE}{m:Bool}{xs:List P}{T0:List Nat}(h:QQ n0 M T B B')(hT:∀ i,M.contains i=true→i∈T→i∈T0){fz:Fz}{st:Za}{π:Zw}{ρ:Env}{r:PFl}(I:Inv n0 M fz st π ρ)(q:pe G e π=some (.lst m xs))(c:X3 M T0 e xs=true)(el:Zz B xs π=some r):∃ a st1 mm ds,ev F e ρ st=some (.lst a,st1)∧st1[a]?=some (mm,ds)∧XJ n0 M T fz st π ρ (Z9 B' a ds.length 0 ρ st1) r:=by
 have frozen:∀ {a:Nat}{st1:Za}{fz1:Fz}{ds:List D},ev F e ρ st=some (.lst a,st1)→Next fz st fz1 st1→fz1 a→st1[a]?=some (m,ds)→Rels fz1 st1 xs ds→∃ a st1 mm ds,ev F e ρ st=some (.lst a,st1)∧st1[a]?=some (mm,ds)∧XJ n0 M T fz st π ρ (Z9 B' a ds.length 0 ρ st1) r:=fun {a st1 fz1 ds} e1 n1 hz hs rr=>by
  refine⟨a,st1,m,ds,e1,hs,?_⟩;obtain⟨r1,st2,fz2,e2,l2,R2,k2⟩:=Wa h (a:=a) (m:=m) (all:=ds) (J:=fun fz st _ _=>fz a∧st[a]?=some (m,ds)) ⟨fun _ _ _ _ j=>j.2,fun _ _ _ _ _ _ _ _ l _ j=>⟨l.sub _ j.1,(l.frz _ j.1).trans j.2⟩⟩ (k:=0) (I.next n1) ⟨hz,hs⟩ rfl rr el
  exact⟨r1,st2,fz2,e2,(n1.later I.lo I.bd).trans l2,R2,KeptF.trans (T1:=T) (fun _ z=>z) (fun _ z=>z) (Next.kept I n1) k2⟩
 unfold X3 at c;rw[Bool.or_eq_true,Bool.or_eq_true]at c;rcases c with(c|c)|c
 ·obtain⟨d,st',fz',e1,n1,r1⟩:=Yd hF I q (by unfold Zu;rw[c];rfl)
  cases r1 with
  |lst hz hs rr=>exact frozen e1 n1 hz hs rr
 ·rw[Bool.and_eq_true]at c
  obtain⟨j,ds,st',fz1,e1,e2,n1,hn,hl,rr⟩:=Q9 hF I q c.1 (by rw[c.2,Bool.or_true])
  have n2:Next fz st (fun i=>fz1 i∨i=j) st':=⟨n1.old,n1.len,fun i z=>.inl (n1.sub i z),fun i z=>z.elim (n1.new i) fun z=>.inr (by rw[z];exact hl),fun i z=>z.elim (n1.bd i) fun z=>by rw[z];exact Z3 e2⟩
  exact frozen e1 n2 (.inr rfl) e2 (rr.mono (fun _ z=>.inl z) fun _ _=>rfl)
 ·split at c
  ·rename_i i
   have c:i∉T0:=by
    intro z;have:T0.contains i=true:=by simpa using z
    rw[this]at c;cases c
   have q:X0 i π=some (.lst m xs):=q;unfold X0 at q;split at q
   ·rename_i q0
    cases q;cases hm:M.contains i with
    |false=>
     obtain⟨d,st',fz',e1,n1,r1⟩:=Yd hF I (e:=.var i) (p:=.lst m xs) (by show X0 i π=_;unfold X0;rw[q0]) (by show((!M.contains i)||_)=true;rw[hm];rfl)
     cases r1 with
     |lst hz hs rr=>exact frozen e1 n1 hz hs rr
    |true=>
     obtain⟨j,ps,ds,f1,f2,f3,f4,f5,f6⟩:=I.mt i _ hm q0;obtain⟨⟨rfl,rfl⟩,f0⟩:=f1.lst;refine⟨j,st,true,ds,by show WB i ρ st=_;unfold WB;rw[f0],f3,?_⟩
     obtain⟨r1,st2,fz2,e2,l2,R2,k2⟩:=Wa h (a:=j) (m:=true) (all:=ds) (J:=fun fz st π ρ=>(∃ p,π[i]?=some (some p))∧Rf ρ[i]? j∧st[j]?=some (true,ds)) ⟨fun _ _ _ _ j=>j.2.2,fun _ _ _ _ _ _ _ _ l k jj=>by
      obtain⟨⟨p,jp⟩,j2,j3⟩:=jj;obtain⟨k1,k2,k3⟩:=k i (fun z=>c (hT i hm z)) hm
      exact⟨⟨p,k1.trans jp⟩,by rw[k2];exact j2,(k3 j p jp j2).trans j3⟩⟩ (k:=0) I ⟨⟨_,q0⟩,f2,f3⟩ rfl f6 el
     exact⟨r1,st2,fz2,e2,l2,R2,k2⟩
   ·cases q
  ·cases c
theorem Zjn(hF:Yu F G){i:Nat}{rng:Bool}{e:CE}(h:SX n0 M T f g):SX n0 M (i :: T) (Ja i rng (ev F e) f) (Qy M T i rng e (pe G e) g):=by
 intro π r hp fz st ρ I;unfold Qy at hp;split at hp
 ·rename_i x q
  split at hp
  ·rename_i xs qi
   split at hp
   ·rename_i c
    rw[Bool.and_eq_true]at c;have hi:M.contains i=false:=by simpa using c.1
    have kp:Zu M e x=true:=by
     cases rng with
     |false=>simpa using c.2
     |true=>
      cases x with
      |int n=>unfold Zu;rw[show noL (.int n)=true from rfl,Bool.or_true]
      |_=>cases qi
    obtain⟨d,st',fz',e1,n1,r1⟩:=Yd hF I q kp;obtain⟨ds,e2,r2⟩:=UN r1 qi;obtain⟨r3,st3,fz3,e3,l3,R3,k3⟩:=X8 (ZgC hi h) (I.next n1) r2 hp;exact⟨r3,st3,fz3,by unfold Ja;rw[e1];simp only[e2];exact e3,(n1.later I.lo I.bd).trans l3,R3,KeptF.trans (T1:=i :: T) (fun _ z=>z) (fun _ z=>z) (Next.kept I n1) k3⟩
   ·cases hp
  ·split at hp
   ·rename_i m xs _
    split at hp
    ·rename_i c
     rw[Bool.and_eq_true]at c;have hi:M.contains i=false:=by simpa using c.1
     obtain⟨a,st1,mm,ds,e1,e2,r3,st3,fz3,e3,l3,R3,k3⟩:=JR hF (ZgC hi h) (T0:=T) (fun k hk hm=>by
      rcases List.mem_cons.mp hm with z|z
      ·rw[z]at hk;rw[hi]at hk;cases hk
      ·exact z) I q c.2 hp
     refine⟨r3,st3,fz3,?_,l3,R3,k3⟩;unfold Ja;rw[e1];simp only[XT,e2];exact e3
    ·cases hp
   ·cases hp
 ·cases hp
theorem Zh4(hF:Yu F G){i j:Nat}{e:CE}(h:SX n0 M T f g):SX n0 M (i :: j :: T) (UD i j (ev F e) f) (Jy M T i j e (pe G e) g):=by
 intro π r hp fz st ρ I;unfold Jy at hp;split at hp
 ·rename_i m xs q
  split at hp
  ·rename_i c
   rw[Bool.and_eq_true,Bool.and_eq_true]at c;have hi:M.contains i=false:=by simpa using c.1.1
   have hj:M.contains j=false:=by simpa using c.1.2
   obtain⟨a,st1,mm,ds,e1,e2,r3,st3,fz3,e3,l3,R3,k3⟩:=JR hF (ZgD hi hj h) (T0:=T) (fun k hk hm=>by
    rcases List.mem_cons.mp hm with z|z
    ·rw[z]at hk;rw[hi]at hk;cases hk
    ·rcases List.mem_cons.mp z with z|z
     ·rw[z]at hk;rw[hj]at hk;cases hk
     ·exact z) I q c.2 hp
   refine⟨r3,st3,fz3,?_,l3,R3,k3⟩;unfold UD;rw[e1];simp only[e2];exact e3
  ·cases hp
 ·rename_i xs q
  split at hp
  ·rename_i c
   rw[Bool.and_eq_true,Bool.and_eq_true]at c;have hi:M.contains i=false:=by simpa using c.1.1
   have hj:M.contains j=false:=by simpa using c.1.2
   obtain⟨d,st',fz',e1,n1,r1⟩:=Yd hF I q c.2;cases r1 with
   |tup r2=>
    obtain⟨r3,st3,fz3,e3,l3,R3,k3⟩:=X8 (ZgD hi hj h) (I.next n1) r2 hp;exact⟨r3,st3,fz3,by unfold UD;rw[e1];exact e3,(n1.later I.lo I.bd).trans l3,R3,KeptF.trans (T1:=i :: j :: T) (fun _ z=>z) (fun _ z=>z) (Next.kept I n1) k3⟩
  ·cases hp
 ·cases hp
inductive RelsQ(fz:Fz)(st:Za):List (P×P)→List (D×D)→Prop where
 |nil:RelsQ fz st [] []
 |cons {p:P×P}{d:D×D}{ps:List (P×P)}{ds:List (D×D)} (h1:Rel fz st p.1 d.1) (h2:Rel fz st p.2 d.2) (r:RelsQ fz st ps ds):RelsQ fz st (p :: ps) (d :: ds)
theorem RelsQ.zip{fz:Fz}{st:Za}:∀ {xs ys:List P}{ds es:List D},Rels fz st xs ds→Rels fz st ys es→RelsQ fz st (xs.zip ys) (ds.zip es)
 |_,_,_,_,.nil,_=>.nil
 |_,_,_,_,.cons _ _,.nil=>.nil
 |_,_,_,_,.cons a r,.cons b s=>.cons a b (RelsQ.zip r s)
theorem RelsQ.mono{fz fz':Fz}{st st':Za}(l:Later n0 fz st fz' st'):∀ {ps:List (P×P)}{ds:List (D×D)},RelsQ fz st ps ds→RelsQ fz' st' ps ds
 |_,_,.nil=>.nil
 |_,_,.cons a b r=>.cons (a.mono l.sub l.frz) (b.mono l.sub l.frz) (RelsQ.mono l r)
theorem X9{i j:Nat}(hi:M.contains i=false)(hj:M.contains j=false)(h:SX n0 M T f g){ok:Za→Prop}:∀ {xs:List (P×P)}{ds:List (D×D)}{π:Zw}{r:PFl}{fz:Fz}{st:Za}{ρ:Env},Inv n0 M fz st π ρ→RelsQ fz st xs ds→(∀ fz' st',Later n0 fz st fz' st'→ok st')→
  Xu (fun x y π=>g (Zq (Zq π i x) j y)) xs π=some r→XJ n0 M (i :: j :: T) fz st π ρ (YX ok (fun x y ρ s=>f (ZB (ZB ρ i x) j y) s) ds ρ st) r
 |_,_,π,r,fz,st,ρ,I,.nil,hok,e=>by cases e;exact⟨.nx ρ,st,fz,if_pos (hok _ _ Later.refl),Later.refl,I,Kept.refl⟩
 |x :: xs,d :: ds,π,r,fz,st,ρ,I,.cons a b rs,hok,e=>by
  have ok0:=hok _ _ Later.refl;have tr:∀ {r1:PFl},g (Zq (Zq π i x.1) j x.2)=some r1→XJ n0 M (i :: j :: T) fz st π ρ (f (ZB (ZB ρ i d.1) j d.2) st) r1:=fun {r1} q=>by
   obtain⟨r2,st2,fz2,e2,l2,R2,k2⟩:=h _ _ q fz st _ ((I.set hi a).set hj b);refine⟨r2,st2,fz2,e2,l2,R2,?_⟩;have kp:Kept M (i :: j :: T) π ρ st (Zq (Zq π i x.1) j x.2) (ZB (ZB ρ i d.1) j d.2) st:=fun k hk hm=>by
    have hki:k≠i:=fun z=>hk (by rw[z];exact List.mem_cons_self)
    have hkj:k≠j:=fun z=>hk (by rw[z];exact List.mem_cons_of_mem _ List.mem_cons_self)
    exact⟨(Zk hkj).trans (Zk hki),(Zk hkj).trans (Zk hki),fun _ _ _ _=>rfl⟩
   exact KeptF.trans (T1:=i :: j :: T) (T2:=T) (fun _ z=>z) (fun _ z=>List.mem_cons_of_mem _ (List.mem_cons_of_mem _ z)) kp k2
  unfold Xu at e;split at e
  ·rename_i π1 q
   obtain⟨r1,st1,fz1,e1,l1,R1,k1⟩:=tr q;cases r1 with
   |nx ρ1=>
    obtain⟨r2,st2,fz2,e2,l2,R2,k2⟩:=X9 hi hj h (ρ:=ρ1) R1 (rs.mono l1) (fun _ _ l=>hok _ _ (l1.trans l)) e
    exact⟨r2,st2,fz2,by unfold YX;rw[if_pos ok0];simp only[e1];exact e2,l1.trans l2,R2,KeptF.trans (fun _ z=>z) (fun _ z=>z) k1 k2⟩
   |_=>exact R1.elim
  ·rename_i π1 q
   obtain⟨r1,st1,fz1,e1,l1,R1,k1⟩:=tr q;cases r1 with
   |ct ρ1=>
    obtain⟨r2,st2,fz2,e2,l2,R2,k2⟩:=X9 hi hj h (ρ:=ρ1) R1 (rs.mono l1) (fun _ _ l=>hok _ _ (l1.trans l)) e
    exact⟨r2,st2,fz2,by unfold YX;rw[if_pos ok0];simp only[e1];exact e2,l1.trans l2,R2,KeptF.trans (fun _ z=>z) (fun _ z=>z) k1 k2⟩
   |_=>exact R1.elim
  ·rename_i π1 q
   cases e;obtain⟨r1,st1,fz1,e1,l1,R1,k1⟩:=tr q;cases r1 with
   |bk ρ1=>exact⟨.nx ρ1,st1,fz1,by unfold YX;rw[if_pos ok0];simp only[e1],l1,R1,k1⟩
   |_=>exact R1.elim
  ·rename_i v q
   cases e;obtain⟨r1,st1,fz1,e1,l1,R1,k1⟩:=tr q;cases r1 with
   |rt d'=>exact⟨.rt d',st1,fz1,by unfold YX;rw[if_pos ok0];simp only[e1],l1,R1,trivial⟩
   |_=>exact R1.elim
  ·cases e
theorem RelsQ.enum{fz:Fz}{st:Za}:∀ {xs:List P}{ds:List D}{k:Nat},Rels fz st xs ds→RelsQ fz st (Wo k xs) (UA k ds)
 |_,_,_,.nil=>.nil
 |_,_,k,.cons a r=>.cons (.int _) a (RelsQ.enum r)
theorem Zh5(hF:Yu F G){i j:Nat}{e:CE}(h:SX n0 M T f g):SX n0 M (i :: j :: T) (UE i j (ev F e) f) (Jz M i j e (pe G e) g):=by
 intro π r hp fz st ρ I;unfold Jz at hp;split at hp
 ·rename_i x q
  split at hp
  ·rename_i xs hw
   split at hp
   ·rename_i c
    rw[Bool.and_eq_true,Bool.and_eq_true]at c;have hi:M.contains i=false:=by simpa using c.1.1
    have hj:M.contains j=false:=by simpa using c.1.2
    obtain⟨d,st',fz',e1,n1,r1⟩:=Yd hF I q (show Zu M e _=true by unfold Zu;rw[c.2,Bool.true_or])
    cases r1 with
    |tup rr=>
     cases hw;obtain⟨r3,st3,fz3,e3,l3,R3,k3⟩:=X9 (ok:=fun _=>True) hi hj h (I.next n1) (RelsQ.enum rr) (fun _ _ _=>trivial) hp
     exact⟨r3,st3,fz3,by unfold UE;rw[e1];exact e3,(n1.later I.lo I.bd).trans l3,R3,KeptF.trans (T1:=i :: j :: T) (fun _ z=>z) (fun _ z=>z) (Next.kept I n1) k3⟩
    |@lst ja m1 _ da za sa ra=>
     cases hw;obtain⟨r3,st3,fz3,e3,l3,R3,k3⟩:=X9 (ok:=fun s=>s[ja]?=some (m1,da)) hi hj h (I.next n1) (RelsQ.enum ra) (fun fz2 st2 l=>(l.frz ja za).trans sa) hp
     exact⟨r3,st3,fz3,by unfold UE ZgE;rw[e1];simp only[sa];exact e3,(n1.later I.lo I.bd).trans l3,R3,KeptF.trans (T1:=i :: j :: T) (fun _ z=>z) (fun _ z=>z) (Next.kept I n1) k3⟩
    |_=>cases hw
   ·cases hp
  ·cases hp
 ·cases hp
theorem YL(hF:Yu F G):∀ s:CS,SX n0 M (ZZ s) (ex F s) (px G M s)
 |.skip=>fun π r e fz st ρ I=>by cases e;exact⟨.nx ρ,st,fz,rfl,Later.refl,I,Kept.refl⟩
 |.brk=>fun π r e fz st ρ I=>by cases e;exact⟨.bk ρ,st,fz,rfl,Later.refl,I,Kept.refl⟩
 |.cont=>fun π r e fz st ρ I=>by cases e;exact⟨.ct ρ,st,fz,rfl,Later.refl,I,Kept.refl⟩
 |.stop=>fun π r e=>nomatch (show(none:Option PFl)=some r from e)
 |.app2 _ _=>fun π r e=>nomatch (show(none:Option PFl)=some r from e)
 |.set3 i j l e=>Zh7 hF i j l e
 |.act e=>Zjk hF e
 |.seq a b=>Zjr (YL hF a) (YL hF b)
 |.ret e=>Zjq hF e
 |.set i e=>Zjs hF i e
 |.set2 i j e=>Zh6 hF i j e
 |.app i e=>Zjl hF i e
 |.ext i e=>Zjm hF i e
 |.put i k e=>Zjp hF i e k
 |.dput _ _ _ _=>fun _ r e=>nomatch (show(none:Option PFl)=some r from e)
 |.ite c a b=>Zjo hF c (YL hF a) (YL hF b)
 |.for1 i rng it b=>Zjn hF (YL hF b)
 |.forP _ _ _ _=>fun _ r e=>nomatch (show(none:Option PFl)=some r from e)
 |.forE i j it b=>Zh5 hF (YL hF b)
 |.for3 _ _ _=>fun _ r e=>nomatch (show(none:Option PFl)=some r from e)
 |.for4 _ _ _ _ _=>fun _ r e=>nomatch (show(none:Option PFl)=some r from e)
 |.for2 i j it b=>Zh4 hF (YL hF b)
 |.whl _ _=>fun _ r e=>nomatch (show(none:Option PFl)=some r from e)
end
theorem Rels.back{fz:Fz}{st:Za}{ps:List P}{ds:List D}{i:Nat}{d:D}(r:Rels fz st ps ds)(e:ds[i]?=some d):∃ p,ps[i]?=some p:=by
 have h:=Z3 e;rw[←r.length]at h;exact⟨_,List.getElem?_eq_getElem h⟩
theorem inv_start{f:FD}{ps:List P}{fz:Fz}{st:Za}{ds:List D}(c:(ZL f.body).all (fun i=>decide (ps.length≤i))=true)(b:Bd fz st)(r:Rels fz st ps ds) :
  Inv st.length (ZL f.body) fz st (ps.map some++List.replicate (f.ns - ps.length) none) (ds.map some++List.replicate (f.ns - ds.length) none):=by
 have slot:∀ (i:Nat) (q:P),(ps.map some++List.replicate (f.ns - ps.length) none:Zw)[i]?=some (some q)→i < ps.length∧ps[i]?=some q:=fun i q h=>by
  by_cases hi:i < ps.length
  ·rw[List.getElem?_append_left (by simpa using hi),List.getElem?_map]at h
   refine⟨hi,?_⟩;cases z:ps[i]? with
   |none=>rw[z]at h;cases h
   |some y=>rw[z]at h;cases h;rfl
  ·rw[List.getElem?_append_right (by simpa using hi),List.getElem?_replicate]at h
   split at h<;>cases h
 have noM:∀ (i:Nat),i < ps.length→(ZL f.body).contains i=false:=fun i hi=>by
  cases z:(ZL f.body).contains i with
  |false=>rfl
  |true=>
   have:=List.all_eq_true.mp c i (by simpa using z)
   have:=of_decide_eq_true this;omega
 refine⟨b,Nat.le_refl _,by simp[r.length],fun i q hi h=>?_,fun i q hi h=>?_,fun i i' q q' j hi hi' h h' _ _=>?_⟩
 ·obtain⟨h1,h2⟩:=slot i q h
  obtain⟨d,e1,r1⟩:=r.get h2;refine⟨d,?_,r1⟩;rw[List.getElem?_append_left (by simpa[←r.length] using h1),List.getElem?_map,e1]
  rfl
 ·rw[noM i (slot i q h).1]at hi;cases hi
 ·rw[noM i (slot i q h).1]at hi;cases hi
theorem Zhb{F:Nat→Fn}{G:PFn}(hF:Yu F G)(f:FD){ps:List P}{p:P}(e:fnP G f ps=some p){fz:Fz}{st:Za}{ds:List D}(b:Bd fz st)(r:Rels fz st ps ds):Gives fz st (fnD F f ds st) p:=by
 unfold fnP at e;split at e
 ·rename_i c
  have I:Inv st.length (ZL f.body) fz st (ps.map some++List.replicate (f.ns - ps.length) none) (ds.map some++List.replicate (f.ns - ds.length) none):=inv_start (by rw[c.1];exact c.2) b r
  have hd:ds.length=f.ps:=by rw[←r.length];exact c.1
  split at e
  ·rename_i d q
   cases e;obtain⟨r1,st1,fz1,e1,l1,R1,k1⟩:=YL (n0:=st.length) hF f.body _ _ q fz st _ I;cases r1 with
   |rt d'=>exact⟨d',st1,fz1,by unfold fnD;rw[if_pos hd,e1],⟨l1.low,l1.len,l1.sub,l1.new,R1.2⟩,R1.1⟩
   |_=>exact R1.elim
  ·rename_i π' q
   cases e;obtain⟨r1,st1,fz1,e1,l1,R1,k1⟩:=YL (n0:=st.length) hF f.body _ _ q fz st _ I;cases r1 with
   |nx ρ'=>exact⟨.non,st1,fz1,by unfold fnD;rw[if_pos hd,e1],⟨l1.low,l1.len,l1.sub,l1.new,R1.bd⟩,.non⟩
   |_=>exact R1.elim
  ·cases e
 ·cases e
theorem UT{T:Nat→Option FD}{n i:Nat}{f:FD}(q:T i=some f):Ze T (n+1) i=if (VO i&&!VU f)=true then fun _=>none else fnP (Ze T n) f:=by
 show(match T i with|some f=>if (VO i&&!VU f)=true then (fun _=>none) else fnP (Ze T n) f|none=>fun _=>none)=_
 rw[q]
theorem Zcd{T:Nat→Option FD}{n i:Nat}(q:T i=none):Ze T (n+1) i=fun _=>none:=by
 show(match T i with|some f=>if (VO i&&!VU f)=true then (fun _=>none) else fnP (Ze T n) f|none=>fun _=>none)=_
 rw[q]
theorem Zd3{T:Nat→Option FD}{n i:Nat}{f:FD}(q:T i=some f):run T (n+1) i=fnD (run T n) f:=by
 show(match T i with|some f=>fnD (run T n) f|none=>fun _ _=>none)=_
 rw[q]
theorem Zbk(T:Nat→Option FD):∀ n,Yu (run T n) (Ze T n)
 |0=>⟨(fun i ps p e=>nomatch (show(none:Option P)=some p from e)),(fun i _ ps m xs e=>nomatch (show(none:Option P)=some (.lst m xs) from e))⟩
 |n+1=>by
  refine⟨fun i ps p e fz st ds b r=>?_,fun i hi ps m xs e fz st ds b r=>?_⟩
  ·cases q:T i with
   |none=>rw[Zcd q]at e;cases e
   |some f=>
    rw[UT q]at e;rw[Zd3 q];split at e
    ·cases e
    ·exact Zhb (Zbk T n) f e b r
  ·cases hi
theorem Zfp{T:Nat→Option FD}{n i:Nat}{ns:List Int}(h:Ze T n i [.lst false (ns.map .int)]=some (.bl true)):∃ st',run T n i [.lst 0] [(false,ns.map .int)]=some (.bl true,st'):=by
 have r:∀ ns:List Int,Rels (fun i=>i=0) [(false,(ns.map D.int))] [] []:=fun _=>.nil
 have rs:∀ (st:Za) (ns:List Int),Rels (fun i=>i=0) st (ns.map P.int) (ns.map D.int):=fun st ns=>by
  induction ns with
  |nil=>exact .nil
  |cons a l ih=>exact .cons (.int a) ih
 obtain⟨d,st',fz',e1,n1,r1⟩:=(Zbk T n).1 i _ _ h (fun i=>i=0) [(false,ns.map D.int)] [.lst 0] (fun i hi=>by rw[hi];exact Nat.zero_lt_one) (.cons (.lst rfl rfl (rs _ ns)) .nil)
 cases r1;exact⟨st',e1⟩
end Dp



namespace Dp
open PySem PySem.Spec PyProof.Rows L2
variable [ClsTab]
theorem Zj9{α:Type}:∀ {us:List α},us.length=0→us=[]
 |[],_=>rfl
theorem ZiI{α:Type}:∀ {us:List α},us.length=1→∃ a,us=[a]
 |[a],_=>⟨a,rfl⟩
theorem Zfq{α:Type}:∀ {us:List α},us.length=2→∃ a b,us=[a,b]
 |[a,b],_=>⟨a,b,rfl⟩
theorem Zdh{α:Type}:∀ {us:List α},us.length=3→∃ a b c,us=[a,b,c]
 |[a,b,c],_=>⟨a,b,c,rfl⟩
theorem ZiJ{α:Type}:∀ {us:List α},us.length=4→∃ a b c d,us=[a,b,c,d]
 |[a,b,c,d],_=>⟨a,b,c,d,rfl⟩
theorem Zka{α:Type}:∀ {us:List α},us.length=5→∃ a b c d e,us=[a,b,c,d,e]
 |[a,b,c,d,e],_=>⟨a,b,c,d,e,rfl⟩
theorem Zkb{α:Type}:∀ {us:List α},us.length=6→∃ a b c d e f,us=[a,b,c,d,e,f]
 |[a,b,c,d,e,f],_=>⟨a,b,c,d,e,f,rfl⟩
def U2(K:PySem.W.Frag)(G:Gs)(T:Nat→Option FD)(C:Addr):List (Str×Nat×Nat)→Prop
 |[]=>True
 | (m,j,_) :: r=>(∃ y f fd pn N,MethOk K G T C m y j f fd pn N)∧U2 K G T C r
def U6(K:PySem.W.Frag)(B:Addr):List Nat→Prop
 |[]=>True
 |i :: r=>SubOk K (ClsTab.ca i) B∧U6 K B r
def Wd(Pm:Params)(K:PySem.W.Frag)(mg:Str→Option Value)(G:Gs)(T:Nat→Option FD):Gs→Prop
 |[]=>True
 | (x,.cst d) :: r=>(∃ v u,mg x=some u∧RelV v u∧∀ ad H,Den K ad H v d)∧Wd Pm K mg G T r
 | (x,.blt) :: r=>mg x=none∧Wd Pm K mg G T r
 | (x,.dct ks ds) :: r=>ZaM Pm K mg x ks ds∧Wd Pm K mg G T r
 | (x,.fn i _ ds) :: r=>(∃ f fd pn N,DefOk K mg G T x i ds f fd pn N)∧Wd Pm K mg G T r
 | (x,.cls i ms subs) :: r=>((mg x=some (.ref (ClsTab.ca i))∧NewOk K (ClsTab.ca i)∧U6 K (ClsTab.ca i) subs)∧U2 K G T (ClsTab.ca i) ms)∧Wd Pm K mg G T r
section
variable {P:Program}{w:World}{K:PySem.W.Frag}{mg:Str→Option Value}{base:Heap}{G:Gs}{T:Nat→Option FD}
def ZgF(Pm:Params)(K:PySem.W.Frag)(mg:Str→Option Value)(G:Gs)(T:Nat→Option FD)(x:Str):GV→Prop
 |.cst d=>∃ v u,mg x=some u∧RelV v u∧∀ ad H,Den K ad H v d
 |.blt=>mg x=none
 |.dct ks ds=>ZaM Pm K mg x ks ds
 |.fn i _ ds=>∃ f fd pn N,DefOk K mg G T x i ds f fd pn N
 |.cls i ms subs=>(mg x=some (.ref (ClsTab.ca i))∧NewOk K (ClsTab.ca i)∧U6 K (ClsTab.ca i) subs)∧U2 K G T (ClsTab.ca i) ms
theorem Xs{Pm:Params}:∀ {l:Gs}{x:Str}{g:GV},Wd Pm K mg G T l→l.lookup x=some g→ZgF Pm K mg G T x g
 |[],_,_,_,h=>by cases h
 | (y,v) :: r,x,g,a,h=>by
  have tl:Wd Pm K mg G T r∧ZgF Pm K mg G T y v:=by
   cases v with
   |cst d=>exact⟨a.2,a.1⟩
   |blt=>exact⟨a.2,a.1⟩
   |dct ks ds=>exact⟨a.2,a.1⟩
   |fn i ps ds=>exact⟨a.2,a.1⟩
   |cls i ms subs=>exact⟨a.2,a.1⟩
  rw[List.lookup_cons]at h;cases e:x==y with
  |true=>
   rw[e]at h;cases h;rw[beq_iff_eq.mp e];exact tl.2
  |false=>
   rw[e]at h;exact Xs tl.1 h
theorem Zbm{B:Addr}:∀ {l:List Nat},U6 K B l→∀ i,l.contains i=true→SubOk K (ClsTab.ca i) B
 |[],_,_,h=>by cases h
 |j :: r,a,i,h=>by
  rw[List.contains_cons,Bool.or_eq_true]at h;rcases h with h|h
  ·rw[beq_iff_eq.mp h];exact a.1
  ·exact Zbm a.2 i h
theorem Jo{C:Addr}:∀ {l:List (Str×Nat×Nat)},U2 K G T C l→∀ m j ps,l.lookup m=some (j,ps)→∃ y f fd pn N,MethOk K G T C m y j f fd pn N
 |[],_,_,_,_,h=>by cases h
 | (m',j',ps') :: r,a,m,j,ps,h=>by
  rw[List.lookup_cons]at h;cases e:m==m' with
  |true=>
   rw[e]at h;cases h;rw[beq_iff_eq.mp e];exact a.1
  |false=>
   rw[e]at h;exact Jo a.2 m j ps h
theorem Zf6{Pm:Params}(h:Wd Pm K mg G T G):Text Pm K mg G T:=
 ⟨fun _ _ e=>Xs h e,fun _ e=>Xs h e,fun _ _ _ e=>Xs h e,fun _ _ _ _ e=>Xs h e,fun x i ms subs e=>by
  have g:ZgF Pm K mg G T x (.cls i ms subs):=Xs h e;exact⟨⟨g.1.1,g.1.2.1,Zbm g.1.2.2⟩,Jo g.2⟩⟩
theorem Zg4(hc:∀ n,Xy G (run T n))(X:Text w.params K mg G T)(n:Nat){x:Str}{i:Nat}{ds:List D}{f:Addr}{fd:FuncData}{pn N:List Str}(Dk:DefOk K mg G T x i ds f fd pn N):FnOk P w K mg base CX0 n f fd pn (spD K (run T n i)):=ZgL hc X n Dk.ob
theorem ZhY{H:Hp}{a:Addr}{ns:List Int}{n i:Nat}(hO:Only H)(hS:SqL K H a (ns.map V.int))(h:∃ st',run T n i [.lst 0] [(false,ns.map .int)]=some (.bl true,st')):spD K (run T n i) [.ref a] H (fun v _=>v=.bl true) fun _ _ _=>False:=by
 obtain⟨st',e⟩:=h;have ds:∀ ns:List Int,Dens K [a] H (ns.map V.int) (ns.map D.int):=fun ns=>by
  induction ns with
  |nil=>exact .nil
  |cons n l ih=>exact .cons (.int n) ih
 have nT:¬Y5 H a:=fun⟨kvs,q⟩=>by
  rcases hO a with z|⟨o,xs,z⟩<;>(rw[q]at z;cases z)
 refine⟨[a],[.lst 0],[(false,ns.map .int)],.bl true,st',⟨rfl,fun i j b c d _ _ h3 _=>?_,fun i c hc=>?_⟩,.cons (.lst ⟨rfl,nT⟩) .nil,e,fun v ad' H' x S h=>h.ofBl⟩
 ·cases i with
  |zero=>simp at h3
  |succ i=>simp at h3
 ·cases i with
  |succ i=>simp at hc
  |zero=>
   have hc:(false,ns.map D.int)=c:=by simpa using hc
   subst hc;refine⟨a,rfl,.l nT (ds ns) (.inr ⟨rfl,?_⟩)⟩;rcases hS with(h|⟨o,h⟩)|⟨o,its,n,h1,h2,h3,h4,h5,h6⟩
   ·rcases hO a with z|⟨o,xs,z⟩
    ·rw[h]at z;cases z
    ·rw[h]at z;cases z
   ·exact .inl ⟨o,h⟩
   ·exact .inr ⟨o,its,n,⟨h1,h2⟩,⟨h3,h4⟩,h5,h6⟩
end
noncomputable abbrev fnS(x y:Str)(s:Stmt)(dV kV dc pm:Value)(an:Option Addr)(cd ct:Value):FuncData:=PySem.W.fnOf x y (defArgs s) (defBody s) (defScope s) dV kV dc pm an cd ct
inductive FnAt(K:PySem.W.Frag)(x:Str)(s:Stmt):Prop
 |mk {f:Addr}{oc kV dc pm cd ct:Value}{od an:Option Addr}{sl:Array (Option Value)} (a:PySem.W.nsIn K mainGlobals x=some (some (.ref f))) (l:K.lookup f=some ⟨oc,od,.func (PySem.W.fnOf x x (defArgs s) (defBody s) (defScope s) .none kV dc pm an cd ct),sl⟩) (e:PySem.W.codeIn K cd x=true) (k:PySem.W.keepIn K (.ref f)=true):FnAt K x s
inductive FnAtE(K:PySem.W.Frag)(x:Str)(s:Stmt)(v:Int):Prop
 |mk {f E:Addr}{eo:Obj}{en:Nat}{et:Tok}{oc kV dc pm cd ct:Value}{od an:Option Addr}{sl:Array (Option Value)} (a:PySem.W.nsIn K mainGlobals x=some (some (.ref f))) (l:K.lookup f=some ⟨oc,od,.func (PySem.W.fnOf x x (defArgs s) (defBody s) (defScope s) (.ref E) kV dc pm an cd ct),sl⟩) (e:PySem.W.codeIn K cd x=true) (k:PySem.W.keepIn K (.ref f)=true) (d:K.lookup E=some eo) (g:eo.data=.seq #[.int v et] en):FnAtE K x s v
inductive MtAt(K:PySem.W.Frag)(C:Addr)(x y:Str)(s:Stmt):Prop
 |mk {f:Addr}{oc kV dc pm cd ct:Value}{od an:Option Addr}{sl:Array (Option Value)} (m:PySem.W.findIn K (.ref C) x=some (some (.ref f))) (l:K.lookup f=some ⟨oc,od,.func (PySem.W.fnOf x y (defArgs s) (defBody s) (defScope s) .none kV dc pm an cd ct),sl⟩) (e:PySem.W.codeIn K cd y=true) (k:PySem.W.keepIn K (.ref f)=true) (i:PySem.W.isFn K (.ref f)=true):MtAt K C x y s
structure ClsAt(K:PySem.W.Frag)(x:Str)(C:Addr):Prop where
 ya:PySem.W.nsIn K mainGlobals x=some (some (.ref C))
 yb:PySem.W.makesIn K C=true
 yc:PySem.W.findIn K (.ref C) "__init__"=some (some (.builtin "object.__init__"))
 yd:PySem.W.keepIn K (.ref C)=true
 ye:PySem.W.plainGet K C Str.empty=true
 yf:PySem.W.hasDictIn K C=true
 yg:PySem.W.plainOver K C=true
 yh:PySem.W.findIn K (.ref C) "__setattr__"=some (some (.builtin "object.__setattr__"))
 yi:PySem.W.findIn K (.ref C) "__class__"=some (some (.builtin "object.__class__"))
 yj:PySem.W.mroIn K C (.type "object")=some true
 yk:PySem.W.specialIn K (.builtin "object.__class__") "__get__"=some (some (.builtin "getset_descriptor.__get__"))
 yl:PySem.W.takesIn K (.builtin "object.__class__")=some true
abbrev Zet(G:Gs)(s:Stmt)(N ps:List Str)(c:CS):Prop:=FnScope N ps (defScope s)∧(∀ y∈N,L2.Loc (defScope s) y)∧cSs G 60 (defScope s) N (defBody s)=some c
section
variable {K:PySem.W.Frag}{fd:FuncData}{ps:List Str}
theorem bd1(hl:ps.length=1)(h:∀ a,bindArgs fd ⟨[a],[]⟩=pure (ps.zip [a])):Binds K fd ps []:=.all fun us e=>by obtain⟨_,rfl⟩:=ZiI (e.trans hl);exact h _
theorem bd2(hl:ps.length=2)(h:∀ a b,bindArgs fd ⟨[a,b],[]⟩=pure (ps.zip [a,b])):Binds K fd ps []:=.all fun us e=>by obtain⟨_,_,rfl⟩:=Zfq (e.trans hl);exact h _ _
theorem bd3(hl:ps.length=3)(h:∀ a b c,bindArgs fd ⟨[a,b,c],[]⟩=pure (ps.zip [a,b,c])):Binds K fd ps []:=.all fun us e=>by obtain⟨_,_,_,rfl⟩:=Zdh (e.trans hl);exact h _ _ _
theorem bd4(hl:ps.length=4)(h:∀ a b c d,bindArgs fd ⟨[a,b,c,d],[]⟩=pure (ps.zip [a,b,c,d])):Binds K fd ps []:=.all fun us e=>by obtain⟨_,_,_,_,rfl⟩:=ZiJ (e.trans hl);exact h _ _ _ _
theorem bd5(hl:ps.length=5)(h:∀ a b c d k,bindArgs fd ⟨[a,b,c,d,k],[]⟩=pure (ps.zip [a,b,c,d,k])):Binds K fd ps []:=.all fun us e=>by obtain⟨_,_,_,_,_,rfl⟩:=Zka (e.trans hl);exact h _ _ _ _ _
theorem bd6(hl:ps.length=6)(h:∀ a b c d k l,bindArgs fd ⟨[a,b,c,d,k,l],[]⟩=pure (ps.zip [a,b,c,d,k,l])):Binds K fd ps []:=.all fun us e=>by obtain⟨_,_,_,_,_,_,rfl⟩:=Zkb (e.trans hl);exact h _ _ _ _ _ _
theorem bd0(hl:ps.length=0)(h:bindArgs fd ⟨[],[]⟩=pure []):Binds K fd ps []:=.all fun us e=>by rw[Zj9 (e.trans hl),List.zip_nil_right];exact h
end
section
variable {Pm:Params}{K:PySem.W.Frag}{mg:Str→Option Value}{G:Gs}{T:Nat→Option FD}{h:Heap}{x y:Str}{i p:Nat}{s:Stmt}{N ps:List Str}{c:CS}{r:Gs}
theorem gD(X:K.In h)(G0:h.Ns mainGlobals mg)(F:FnAt K x s)(q:Zet G s N ps c)(hT:T i=some ⟨ps.length,N.length,c⟩)(t:Wd Pm K mg G T r)(hb:∀ kV dc pm an cd ct,Binds K (fnS x x s .none kV dc pm an cd ct) ps []:=by first|exact fun _ _ _ _ _ _=>bd1 rfl fun _=>rfl|exact fun _ _ _ _ _ _=>bd2 rfl fun _ _=>rfl|exact fun _ _ _ _ _ _=>bd3 rfl fun _ _ _=>rfl|exact fun _ _ _ _ _ _=>bd4 rfl fun _ _ _ _=>rfl|exact fun _ _ _ _ _ _=>bd5 rfl fun _ _ _ _ _=>rfl|exact fun _ _ _ _ _ _=>bd6 rfl fun _ _ _ _ _ _=>rfl|exact fun _ _ _ _ _ _=>bd0 rfl rfl):Wd Pm K mg G T ((x,.fn i p []) :: r):=by
 cases F with
 |mk a l e k=>exact⟨⟨_,_,ps,N,.inl ⟨s,_,_,_,_,_,_,_,_,_,_,c,rfl,l,e,q.1,q.2.1,q.2.2,hT⟩,k,PySem.W.mg_of X G0 a,fun m hm=>⟨[],[],fun _ _=>by rw[List.drop_nil];exact .nil,.nil,hb _ _ _ _ _ _⟩⟩,t⟩
theorem gE{v:Int}(X:K.In h)(G0:h.Ns mainGlobals mg)(F:FnAtE K x s v)(q:Zet G s N ps c)(hT:T i=some ⟨ps.length,N.length,c⟩)(hb:∀ E kV dc pm an cd ct eo et en,K.lookup E=some eo→eo.data=.seq #[.int v et] en→Binds K (fnS x x s (.ref E) kV dc pm an cd ct) ps []∧Binds K (fnS x x s (.ref E) kV dc pm an cd ct) ps [.int v et])(t:Wd Pm K mg G T r):Wd Pm K mg G T ((x,.fn i p [.int v]) :: r):=by
 cases F with
 |mk a l e k d g=>
  refine⟨⟨_,_,ps,N,.inl ⟨s,_,_,_,_,_,_,_,_,_,_,c,rfl,l,e,q.1,q.2.1,q.2.2,hT⟩,k,PySem.W.mg_of X G0 a,fun m hm=>?_⟩,t⟩
  match m,hm with
  |0,_=>exact⟨[.int v],[.int v _],fun _ _=>.cons (.int _) .nil,.cons ⟨_,rfl⟩ .nil,(hb _ _ _ _ _ _ _ _ _ _ d g).2⟩
  |1,_=>exact⟨[],[],fun _ _=>.nil,.nil,(hb _ _ _ _ _ _ _ _ _ _ d g).1⟩
theorem gB(X:K.In h)(G0:h.Ns mainGlobals mg)(z:PySem.W.nsIn K mainGlobals x=some none)(t:Wd Pm K mg G T r):Wd Pm K mg G T ((x,.blt) :: r):=⟨PySem.W.mg_none_of X G0 z,t⟩
theorem gI{v:Int}{k:Tok}(X:K.In h)(G0:h.Ns mainGlobals mg)(g:PySem.W.nsIn K mainGlobals x=some (some (.int v k)))(t:Wd Pm K mg G T r):Wd Pm K mg G T ((x,.cst (.int v)) :: r):=⟨⟨.int v,_,PySem.W.mg_of X G0 g,⟨_,rfl⟩,fun _ _=>.int _⟩,t⟩
theorem gL{fa:Addr}{z:Str}(X:K.In h)(G0:h.Ns mainGlobals mg)(hfa:mg x=some (.ref fa))(F:FnAt K x s)(q:Zet G s N [z] c)(hT:T i=some ⟨1,N.length,c⟩)(hb:∀ kV dc pm an cd ct u,bindArgs (fnS x x s .none kV dc pm an cd ct) ⟨[u],[]⟩=pure [(z,u)]):∃ (fd:FuncData) (N:List Str),(∀ (s:Shared) (u:Value),BindsTo s fd ⟨[u],[]⟩ [(z,u)])∧DefOk K mg G T x i [] fa fd [z] N:=by
 cases F with
 |@mk f _ _ _ _ _ _ _ _ _ a l e k=>
  have e':=hfa.symm.trans (PySem.W.mg_of X G0 a);have e':fa=f:=by cases e';rfl
  rw[e'];exact⟨_,N,fun _ u=>.of_eq (hb _ _ _ _ _ _ u),.inl ⟨s,_,_,_,_,_,_,_,_,_,_,c,rfl,l,e,q.1,q.2.1,q.2.2,hT⟩,k,PySem.W.mg_of X G0 a,fun m hm=>⟨[],[],fun _ _=>by rw[List.drop_nil];exact .nil,.nil,.all fun us hl=>by obtain⟨u,rfl⟩:=ZiI hl;exact hb _ _ _ _ _ _ u⟩⟩
end
omit [ClsTab] in
theorem Zb2{l:PySem.W.OpenLaw}{q:Program}{loose:List Str}{XP:(Str→Option Value)→Heap→Prop}{YP:World→Heap→Prop}{d:DefRec}{K:Params→PySem.W.Frag}{G:Gs}{T:Nat→Option FD}{n i:Nat}{x:Str}(hn:l.most=some 63)(hdf:d.params.defaults=[])(hr:Room n callerA)(hY:∀ (w:World) (h:Heap),YP w h→(K w.params).In h)(hc:∀ [ClsTab] n,Xy G (run T n))(F:∀ (w:World) (mg:Str→Option Value) (fa:Addr) (h:Heap),(K w.params).In h→h.Ns mainGlobals mg→mg d.name=some (.ref fa)→
   ∃ _:ClsTab,Text w.params (K w.params) mg G T∧∃ (fd:FuncData) (N:List Str),(∀ (s:Shared) (u:Value),BindsTo s fd ⟨[u],[]⟩ [(x,u)])∧DefOk (K w.params) mg G T d.name i [] fa fd [x] N)(L:∀ ns:List Int,ns.length≤63→∃ st',run T n i [.lst 0] [(false,ns.map .int)]=some (.bl true,st')) :
  PySem.W.WalkO q loose XP YP l.row.toRowW d [] (fun f vs=>PySem.call f vs):=
 L2.walk_of (n:=63) (k:=n) (x:=x) (CX:=fun _=>CX0) (sp:=fun w vs H Q E=>∀ c:ClsTab,@spD c (K w.params) (run T n i) vs H Q E) hn (by decide) hdf hr hY
  (fun w mg fa h KX G0 hmg=>by
   obtain⟨c,X,fd,N,hb,Dk⟩:=F w mg fa h KX G0 hmg;refine⟨fd,hb,fun base _ _=>?_⟩
   have fo:=Zg4 (P:=l.prog) (w:=w) (base:=base) (fun n=>hc n) X n Dk
   exact⟨fun vs H Q E z=>fo.len vs H Q E (z c),fun A outer s H args us vs Q E a1 a2 a3 a4 z=>fo.run A outer s H args us vs Q E a1 a2 a3 a4 (z c)⟩)
  (fun w H a ns hl hO hS c=>ZhY hO hS (L ns hl)) fun _ _ _ _ _ z=>z

omit [ClsTab] in
theorem Zdg{l:PySem.W.OpenLaw}{q:Program}{loose:List Str}{XP:(Str→Option Value)→Heap→Prop}{YP:World→Heap→Prop}{d:DefRec}{K:Params→PySem.W.Frag}{G:Gs}{T:Nat→Option FD}{n i:Nat}{x:Str}(hn:l.most=some 63)(hdf:d.params.defaults=[])(hr:Room n callerA)(hY:∀ (w:World) (h:Heap),YP w h→(K w.params).In h)(hc:∀ [ClsTab] n,Xy G (run T n))(F:∀ (w:World) (mg:Str→Option Value) (fa:Addr) (h:Heap),(K w.params).In h→h.Ns mainGlobals mg→mg d.name=some (.ref fa)→
   ∃ _:ClsTab,Text w.params (K w.params) mg G T∧∃ (fd:FuncData) (N:List Str),(∀ (s:Shared) (u:Value),BindsTo s fd ⟨[u],[]⟩ [(x,u)])∧DefOk (K w.params) mg G T d.name i [] fa fd [x] N)(L:∀ ns:List Int,ns.length≤63→Ze T n i [.lst false (ns.map .int)]=some (.bl true)) :
  PySem.W.WalkO q loose XP YP l.row.toRowW d [] (fun f vs=>PySem.call f vs):=Zb2 hn hdf hr hY hc F fun ns hl=>Zfp (L ns hl)
end Dp


namespace Dp
open PySem
theorem WG:∀ {l m:List Char},l.map Char.toNat=m.map Char.toNat→l=m
 |[],[],_=>rfl
 |[],_ :: _,h=>by cases h
 |_ :: _,[],h=>by cases h
 |a :: l,b :: m,h=>by
  rw[List.map_cons,List.map_cons]at h
  injection h with h1 h2
  have:a=b:=by
   apply Char.ext
   apply UInt32.toNat_inj.mp
   exact h1
  rw[this,WG h2]
@[simp] theorem Zk8{a b:String}:(Str.ofString a=Str.ofString b)=(a=b):=by
 apply propext
 constructor
 ·intro h
  rw[Str.ofString_eq_toList,Str.ofString_eq_toList]at h
  injection h with h
  have h2:=congrArg Array.toList h;simp only[List.toList_toArray]at h2;exact String.toList_inj.mp (WG h2)
 ·intro h;rw[h]
section
variable {F:PFn}{π:Zw}{a b c lo hi it elt cnd:CE}{M:List Nat}
noncomputable def Ux(c:Option P)(x y:Option P):Option P:=match c with
 |some (.bl true)=>x
 |some (.bl false)=>y
 |_=>none
@[simp] theorem Ziw{k:Bool}{x y:Option P}:Ux (some (.bl k)) x y=if k=true then x else y:=by cases k<;>rfl
@[simp] theorem Zis{α β:Type}{p:Prop}[Decidable p]{u v:Option α}{f:α→Option β}:(if p then u else v).bind f=if p then u.bind f else v.bind f:=by split<;>rfl
@[simp] theorem pe_var{i:Nat}:pe F (.var i) π=(π[i]?).join:=by
 show X0 i π=_;unfold X0;cases π[i]? with
 |none=>rfl
 |some o=>cases o<;>rfl
@[simp] theorem ZdF{d:D}:pe F (.cst d) π=ofD d:=Eq.trans rfl rfl
@[simp] theorem Zba{i:Int}:ofD (.int i)=some (.int i):=Eq.trans rfl rfl
@[simp] theorem ZjG{i:Str}:ofD (.str i)=some (.str i):=Eq.trans rfl rfl
@[simp] theorem ZjF:ofD .non=some .non:=Eq.trans rfl rfl
@[simp] theorem Jt:WX []=some []:=Eq.trans rfl rfl
theorem Y7{f:PEv}{g:P→Option P}:pq1 f g π=(f π).bind g:=by unfold pq1;cases f π<;>rfl
theorem Wp{f f':PEv}{g:P→P→Option P}:pq2 f f' g π=(f π).bind fun x=>(f' π).bind fun y=>g x y:=by unfold pq2;cases f π<;>cases f' π<;>rfl
theorem ZhC{f f' f'':PEv}{g:P→P→P→Option P}:pq3 f f' f'' g π=(f π).bind fun x=>(f' π).bind fun y=>(f'' π).bind fun z=>g x y z:=by unfold pq3;cases f π<;>cases f' π<;>cases f'' π<;>rfl
theorem V1{f g h:PEv}:YY f g h π=Ux (f π) (g π) (h π):=by
 unfold YY Ux;rfl
@[simp] theorem XY{op:Operator}:pe F (.bin op a b) π=(pe F a π).bind fun x=>(pe F b π).bind fun y=>Xi op x y:=Wp
@[simp] theorem Zkh{op:CmpOp}:pe F (.cmp op a b) π=(pe F a π).bind fun x=>(pe F b π).bind fun y=>Yy op x y:=Wp
@[simp] theorem Zkk:pe F (.neg a) π=(pe F a π).bind Zb7:=Y7
@[simp] theorem pe_not:pe F (.not a) π=(pe F a π).bind Zb9:=Y7
@[simp] theorem pe_and:pe F (.and a b) π=Ux (pe F a π) (pe F b π) (some (.bl false)):=V1
@[simp] theorem pe_or:pe F (.or a b) π=Ux (pe F a π) (some (.bl true)) (pe F b π):=V1
@[simp] theorem Zki:pe F (.ife c a b) π=Ux (pe F c π) (pe F a π) (pe F b π):=V1
@[simp] theorem Qw:pe F (.tupE a) π=pe F a π:=Eq.trans rfl rfl
@[simp] theorem Zkm:pe F (.srt a) π=(pe F a π).bind ZaD:=Y7
@[simp] theorem ZjH:pe F (.lstE a) π=(pe F a π).bind Zam:=Y7
@[simp] theorem Qu:pe F .anil π=some (.tup []):=Eq.trans rfl rfl
@[simp] theorem Yq:pe F (.acons a b) π=(pe F a π).bind fun x=>(pe F b π).bind fun y=>Uy x y:=Wp
@[simp] theorem pe_ix:pe F (.ix a b) π=(pe F a π).bind fun x=>(pe F b π).bind fun y=>ixP x y:=Wp
@[simp] theorem pe_slice:pe F (.slice a lo hi) π=(pe F a π).bind fun x=>(pe F lo π).bind fun y=>(pe F hi π).bind fun z=>X1 x y z:=ZhC
@[simp] theorem Zkl:pe F .nop π=some .non:=Eq.trans rfl rfl
@[simp] theorem ZjJ:pe F (.part a) π=(pe F a π).bind US:=Y7
@[simp] theorem pe_call{f:Nat}{ds:List D}:pe F (.call f a ds) π=(pe F a π).bind (VE (F f) ds):=Y7
@[simp] theorem Zhz:pe F (.len a) π=(pe F a π).bind Zai:=Y7
@[simp] theorem Zar:pe F (.tupleOf a) π=(pe F a π).bind Wu:=Y7
@[simp] theorem Zia:pe F (.listOf a) π=(pe F a π).bind VP:=Y7
@[simp] theorem ZhA:pe F (.min a b) π=(pe F a π).bind fun x=>(pe F b π).bind fun y=>Zb6 x y:=Wp
@[simp] theorem Zkj:pe F (.max a b) π=(pe F a π).bind fun x=>(pe F b π).bind fun y=>Zb5 x y:=Wp
@[simp] theorem Zhy{T:Ty}:pe F (.isi T a) π=(pe F a π).bind (Ql T):=Y7
@[simp] theorem Zk7{k:Bool}:pe F (.rs k a) π=(pe F a π).bind (rsP k):=Y7
theorem WJ{rng:Bool}{fr:List Nat}:pe F (.comp rng fr it elt cnd) π=(pe F it π).bind fun x=>(Xb rng x).bind fun xs=>if xs.length≤1000 then (Z7 (fun p=>pe F elt (YZ π fr p)) (fun p=>pe F cnd (YZ π fr p)) xs).bind (fun ys=>some (.lst true ys)) else none:=by
 show ZU ZdK (Xb rng) fr (pe F it) (pe F elt) (pe F cnd) π=_;unfold ZU;cases pe F it π with
 |none=>rfl
 |some x=>
  simp only[Option.bind_some];cases Xb rng x with
  |none=>rfl
  |some xs=>
   simp only[Option.bind_some];split
   ·show(match Z7 (fun p=>pe F elt (YZ π fr p)) (fun p=>pe F cnd (YZ π fr p)) xs with
     |some ys=>some (P.lst true ys)
     |none=>none)=_
    cases Z7 (fun p=>pe F elt (YZ π fr p)) (fun p=>pe F cnd (YZ π fr p)) xs<;>rfl
   ·rfl
@[simp] theorem ZjI:pe F (.lstR a b) π=(pe F a π).bind fun x=>(pe F b π).bind fun y=>W8 x y:=Wp
theorem Jx{fr:List Nat}{xs:List P}(h:pe F it π=some (.tup xs))(hw:xs.all WF=true)(hl:xs.length≤1000):pe F (.compT fr it elt cnd) π=(Z7 (fun p=>pe F elt (Z4 Yi π fr p)) (fun p=>pe F cnd (Z4 Yi π fr p)) xs).map (P.lst true):=by
 show ZU Yi X4 fr (pe F it) (pe F elt) (pe F cnd) π=_;unfold ZU;have hw:X4 (.tup xs)=some xs:=if_pos hw;simp only[h,hw,hl,if_true];cases Z7 (fun p=>pe F elt (Z4 Yi π fr p)) (fun p=>pe F cnd (Z4 Yi π fr p)) xs<;>rfl
theorem Zcb{m:Bool}{fr:List Nat}{xs:List P}(h:pe F it π=some (.lst m xs))(hw:xs.all WF=true)(hl:xs.length≤1000):pe F (.compT fr it elt cnd) π=(Z7 (fun p=>pe F elt (Z4 Yi π fr p)) (fun p=>pe F cnd (Z4 Yi π fr p)) xs).map (P.lst true):=by
 show ZU Yi X4 fr (pe F it) (pe F elt) (pe F cnd) π=_;unfold ZU;have hw:X4 (.lst m xs)=some xs:=if_pos hw;simp only[h,hw,hl,if_true];cases Z7 (fun p=>pe F elt (Z4 Yi π fr p)) (fun p=>pe F cnd (Z4 Yi π fr p)) xs<;>rfl
variable {i j:Int}{xs ys:List P}{x y:P}{m:Bool}
@[simp] theorem ZeN:Xi .Add (.int i) (.int j)=some (.int (i+j)):=Eq.trans rfl rfl
@[simp] theorem ZaR:Xi .Sub (.int i) (.int j)=some (.int (i - j)):=Eq.trans rfl rfl
@[simp] theorem Qa:Xi .Mult (.int i) (.int j)=if Z8 i||Z8 j then some (.int (i * j)) else none:=by
 show(match (if Z8 i||Z8 j then some ((i * j)) else none:Option Int) with
  |some k=>some (P.int k)
  |none=>none)=_
 by_cases h:(Z8 i||Z8 j)=true
 ·rw[if_pos h,if_pos h]
 ·rw[if_neg h,if_neg h]
@[simp] theorem Zcx:Xi .FloorDiv (.int i) (.int j)=if 0 < j∧j < 1073741824 then some (.int (i / j)) else if j < 0∧-1073741824 < j then some (.int (i.fdiv j)) else none:=by
 show(match (if 0 < j∧j < 1073741824 then some (i / j) else if j < 0∧-1073741824 < j then some (i.fdiv j) else none:Option Int) with
  |some k=>some (P.int k)
  |none=>none)=_
 by_cases h:0 < j∧j < 1073741824
 ·rw[if_pos h,if_pos h]
 ·rw[if_neg h,if_neg h]
  by_cases h':j < 0∧-1073741824 < j
  ·rw[if_pos h',if_pos h']
  ·rw[if_neg h',if_neg h']
@[simp] theorem Zju:Xi .Mod (.int i) (.int j)=if 0 < j then some (.int (i % j)) else if j < 0 then some (.int (i.fmod j)) else none:=by
 show(match (if 0 < j then some (i % j) else if j < 0 then some (i.fmod j) else none:Option Int) with
  |some k=>some (P.int k)
  |none=>none)=_
 by_cases h:0 < j
 ·rw[if_pos h,if_pos h]
 ·rw[if_neg h,if_neg h]
  by_cases h':j < 0
  ·rw[if_pos h',if_pos h']
  ·rw[if_neg h',if_neg h']
@[simp] theorem ZaP:Xi .Add (.tup xs) (.tup ys)=if xs.length+ys.length≤Zc then some (.tup (xs++ys)) else none:=by
 show(if Xt .Add=true∧xs.length+ys.length≤Zc then some (P.tup (xs++ys)) else none)=_
 by_cases h:xs.length+ys.length≤Zc
 ·rw[if_pos ⟨rfl,h⟩,if_pos h]
 ·rw[if_neg (fun z=>h z.2),if_neg h]
@[simp] theorem Zjv:Xi .Mult (.tup [x]) (.int j)=if j≤1000∧-1000≤j then some (.tup (List.replicate j.toNat x)) else none:=by
 show(if XE .Mult=true then ZdW [x] j else none)=_
 exact(if_pos (show XE .Mult=true from rfl)).trans rfl
@[simp] theorem Ziq{m':Bool}:Xi .Add (.lst m xs) (.lst m' ys)=if xs.length+ys.length≤Zc then some (.lst true (xs++ys)) else none:=by
 show(if Xt .Add=true∧xs.length+ys.length≤Zc then some (P.lst true (xs++ys)) else none)=_
 by_cases h:xs.length+ys.length≤Zc
 ·rw[if_pos ⟨rfl,h⟩,if_pos h]
 ·rw[if_neg (fun z=>h z.2),if_neg h]
@[simp] theorem Zir:Xi .Mult (.lst true [x]) (.int j)=if j≤1000∧-1000≤j then some (.lst true (List.replicate j.toNat x)) else none:=by
 show(if XE .Mult=true then ZdV true [x] j else none)=_
 exact(if_pos (show XE .Mult=true from rfl)).trans rfl
theorem lim_iff:Z8 i=true↔-(2 ^ 64) < i∧i < 2 ^ 64:=by unfold Z8;rw[Bool.and_eq_true,decide_eq_true_iff,decide_eq_true_iff]
theorem Za5(h:-(2 ^ 64) < i)(h':i < 2 ^ 64):Z8 i=true:=lim_iff.mpr ⟨h,h'⟩
@[simp] theorem ZjS:Yy .Lt (.int i) (.int j)=some (.bl (decide (i < j))):=Eq.trans rfl rfl
@[simp] theorem ZjR:Yy .LtE (.int i) (.int j)=some (.bl (decide (i≤j))):=Eq.trans rfl rfl
@[simp] theorem ZjQ:Yy .Gt (.int i) (.int j)=some (.bl (decide (j < i))):=Eq.trans rfl rfl
@[simp] theorem ZjP:Yy .GtE (.int i) (.int j)=some (.bl (decide (j≤i))):=Eq.trans rfl rfl
@[simp] theorem Zjw:Yy .Eq (.int i) (.int j)=some (.bl (decide (i=j))):=Eq.trans rfl rfl
@[simp] theorem Zjy:Yy .NotEq (.int i) (.int j)=some (.bl (!decide (i=j))):=Eq.trans rfl rfl
@[simp] theorem Zjx{s t:Str}:Yy .Eq (.str s) (.str t)=some (.bl (decide (s=t))):=Eq.trans rfl rfl
@[simp] theorem Zjz{s t:Str}:Yy .NotEq (.str s) (.str t)=some (.bl (!decide (s=t))):=Eq.trans rfl rfl
theorem ZeU(h:okP 8 (.tup xs)=true)(h':okP 8 (.tup ys)=true):Yy .Eq (.tup xs) (.tup ys)=some (.bl (Xr xs ys)):=by
 show(eqP (.tup xs) (.tup ys)).map P.bl=_;show(if okP 8 (.tup xs)&&okP 8 (.tup ys) then some (Xr xs ys) else Jw xs ys).map P.bl=_
 rw[h,h'];rfl
theorem ZeV(h:okP 8 (.tup xs)=true)(h':okP 8 (.tup ys)=true):Yy .NotEq (.tup xs) (.tup ys)=some (.bl (!Xr xs ys)):=by
 show((eqP (.tup xs) (.tup ys)).map not).map P.bl=_;show((if okP 8 (.tup xs)&&okP 8 (.tup ys) then some (Xr xs ys) else Jw xs ys).map not).map P.bl=_
 rw[h,h'];rfl
@[simp] theorem neg_int:Zb7 (.int i)=some (.int (-i)):=Eq.trans rfl rfl
@[simp] theorem Zkd:Zb9 (.bl m)=some (.bl (!m)):=Eq.trans rfl rfl
@[simp] theorem ZjC:Zam (.tup xs)=some (.lst true xs):=Eq.trans rfl rfl
@[simp] theorem VG:Uy x (.tup xs)=if xs.length < 1000 then some (.tup (x :: xs)) else none:=Eq.trans rfl rfl
@[simp] theorem ZiZ:US (.int i)=some (.int i):=Eq.trans rfl rfl
@[simp] theorem ZjB:Zai (.tup xs)=some (.int xs.length):=Eq.trans rfl rfl
@[simp] theorem ZjA:Zai (.lst m xs)=some (.int xs.length):=Eq.trans rfl rfl
@[simp] theorem Zid:Wu (.lst m xs)=some (.tup xs):=Eq.trans rfl rfl
@[simp] theorem ZiK:VP (.tup xs)=some (.lst true xs):=Eq.trans rfl rfl
@[simp] theorem int_int:Zc9 (.int i)=some (.int i):=Eq.trans rfl rfl
@[simp] theorem ZjE:Zb6 (.int i) (.int j)=some (.int (if j < i then j else i)):=Eq.trans rfl rfl
@[simp] theorem ZjD:Zb5 (.int i) (.int j)=some (.int (if j > i then j else i)):=Eq.trans rfl rfl
@[simp] theorem ix_tup:ixP (.tup xs) (.int i)=atP xs i:=Eq.trans rfl rfl
@[simp] theorem Zj8:ixP (.lst m xs) (.int i)=atP xs i:=Eq.trans rfl rfl
@[simp] theorem Zj2:Ql .int (.int i)=some (.bl true):=Eq.trans rfl rfl
@[simp] theorem Zj1:Ql .bool (.int i)=some (.bl false):=Eq.trans rfl rfl
@[simp] theorem Zj4{s:Str}:Ql .str (.str s)=some (.bl true):=Eq.trans rfl rfl
@[simp] theorem Zj3:Ql .str (.int i)=some (.bl false):=Eq.trans rfl rfl
@[simp] theorem QX{g:List P→Option P}{ds:List D}:VE g ds (.tup xs)=(WX ds).bind fun es=>g (xs++es):=by
 show(match WX ds with|some es=>g (xs++es)|none=>none)=_
 cases WX ds<;>rfl
@[simp] theorem Zja:X1 x (.int i) .non=Yt x (some i) none:=Eq.trans rfl rfl
@[simp] theorem Zjb:X1 x .non (.int j)=Yt x none (some j):=Eq.trans rfl rfl
@[simp] theorem Zib{l h:Option Int}:Yt (.lst m xs) l h=some (.lst true (Wg xs l h)):=Eq.trans rfl rfl
theorem Xh{n:Nat}(h:i=(n:Int)):atP xs i=xs[n]?:=by
 subst h;unfold atP ixN;rw[if_pos (by omega)]
 by_cases hn:(n:Int) < xs.length
 ·rw[if_pos hn];rfl
 ·rw[if_neg hn]
  rw[List.getElem?_eq_none (by omega)]
  rfl
@[simp] theorem Zjt{n:Nat}:atP xs ((n:Nat):Int)=xs[n]?:=Xh rfl
@[simp] theorem Zlb:atP xs 2=xs[2]?:=Xh rfl
@[simp] theorem Zlc:atP xs 3=xs[3]?:=Xh rfl
@[simp] theorem Zld:atP xs 4=xs[4]?:=Xh rfl
@[simp] theorem Zk9:atP xs 0=xs[0]?:=Xh rfl
@[simp] theorem Zla:atP xs 1=xs[1]?:=Xh rfl
@[simp] theorem Zk4:atP xs (-1)=xs.getLast?:=by
 unfold atP ixN;rw[if_neg (by omega)]
 cases xs with
 |nil=>rfl
 |cons x xs=>
  rw[if_pos (by simp only[List.length_cons];omega),List.getLast?_eq_getElem?]
  show(x :: xs)[(-1+(((x :: xs).length:Nat):Int)).toNat]?=_;have:(-1+(((x :: xs).length:Nat):Int)).toNat=(x :: xs).length - 1:=by omega
  rw[this]
variable {s t:CS}
noncomputable def WM(x:Option PFl)(g:Zw→Option PFl):Option PFl:=match x with
 |some (.nx π')=>g π'
 |r=>r
@[simp] theorem Zf{g:PEx}:WM (some (.nx π)) g=g π:=Eq.trans rfl rfl
@[simp] theorem ZjL{g:PEx}:WM (some (.rt x)) g=some (.rt x):=Eq.trans rfl rfl
@[simp] theorem Zic{g:PEx}:WM none g=none:=Eq.trans rfl rfl
@[simp] theorem Zje{p:Prop}[Decidable p]{u v:Option PFl}{g:PEx}:WM (if p then u else v) g=if p then WM u g else WM v g:=by split<;>rfl
noncomputable def Zeg(c:Option P)(x y:Option PFl):Option PFl:=match c with
 |some (.bl true)=>x
 |some (.bl false)=>y
 |_=>none
@[simp] theorem Xe{k:Bool}{x y:Option PFl}:Zeg (some (.bl k)) x y=if k=true then x else y:=by cases k<;>rfl
@[simp] theorem Zp:px F M .skip π=some (.nx π):=Eq.trans rfl rfl
@[simp] theorem Zj:px F M (.seq s t) π=WM (px F M s π) (px F M t):=by
 show ZdP _ _ π=_;unfold ZdP WM;rfl
@[simp] theorem ZdT:px F M (.ret a) π=(pe F a π).bind fun d=>some (.rt d):=by
 show ZdN _ π=_;unfold ZdN;cases pe F a π<;>rfl
@[simp] theorem XC:px F M (.ite c s t) π=Zeg (pe F c π) (px F M s π) (px F M t π):=by
 show ZdI _ _ _ π=_;unfold ZdI Zeg;rfl
@[simp] theorem Zh{o:Option P}:Zq (o :: π) 0 x=some x :: π:=rfl
@[simp] theorem Zg{o:Option P}{k:Nat}:Zq (o :: π) (k+1) x=o :: Zq π k x:=rfl
theorem ZeK{a b:Bool}(ha:a=true)(hb:b=true):(a&&b)=true:=by rw[ha,hb];rfl
theorem ZeJ{l:List Nat}:(l.all fun i=>!([]:List Nat).contains i)=true:=by
 induction l with
 |nil=>rfl
 |cons a l ih=>exact ih
theorem Za8:∀ e:CE,noM [] e=true:=by
 intro e
 induction e<;>first|rfl|assumption | (show(_&&_)=true;exact ZeK (by assumption) (by assumption)) | (show(_&&(_&&_))=true;exact ZeK (by assumption) (ZeK (by assumption) (by assumption))) | (show(_&&_)=true;exact ZeK (by assumption) ZeJ)
theorem XU{e:CE}:Zu [] e x=true:=by unfold Zu;rw[Za8];rfl
theorem JQ{T:List Nat}{e:CE}:X3 [] T e xs=true:=by unfold X3;rw[Za8];rfl
@[simp] theorem ZfF{k:Nat}:px F [] (.set k a) π=(pe F a π).bind fun p=>some (.nx (Zq π k p)):=by
 show Qz _ _ _ _ π=_;unfold Qz;cases pe F a π with
 |none=>rfl
 |some p=>simp[XU]
theorem Zi2{k j:Nat}(h:π[j]?=some (some (.lst m xs)))(h1:M.contains j=true)(h2:M.contains k=false):px F M (.set k (.var j)) π=some (.nx (Zq (π.set j none) k (.lst m xs))):=by
 show Qz _ _ _ (X0 j) π=_;have e:X0 j π=some (.lst m xs):=by unfold X0;rw[h]
 have n:Zu M (.var j) (.lst m xs)=false:=by
  show((!M.contains j)||false)=false;rw[h1];rfl
 unfold Qz;rw[e];have g:Y1 M (.var j) (.lst m xs)=false:=by cases m<;>rfl
 simp only[h2,n,g,Bool.or_false,Bool.false_eq_true,if_false];show(if M.contains j&&!M.contains k then some (PFl.nx (Zq (π.set j none) k (.lst m xs))) else none)=_
 rw[h1,h2];rfl
theorem QC{k:Nat}:px F M (.set k a) π=(pe F a π).bind fun p=>if (if M.contains k then Y1 M a p else Zu M a p||Y1 M a p) then some (.nx (Zq π k p)) else mvP M k a p π:=by
 show Qz _ _ _ _ π=_;unfold Qz;cases pe F a π<;>rfl
theorem ZfE{k l:Nat}(h:pe F a π=some (.tup [x,y]))(hw:(!M.contains k&&!M.contains l&&Zu M a (.tup [x,y]))=true):px F M (.set2 k l a) π=some (.nx (Zq (Zq π k x) l y)):=by
 show JA _ _ _ _ _ π=_;unfold JA;rw[h];show(if (!M.contains k&&!M.contains l&&Zu M a (.tup [x,y]))=true then some (PFl.nx (Zq (Zq π k x) l y)) else none)=_
 rw[if_pos hw]
theorem ZS{k:Nat}{p:P}(h:pe F a π=some p)(hm:M.contains k=false)(hk:Zu M a p=true):px F M (.set k a) π=some (.nx (Zq π k p)):=by
 rw[QC,h,Option.bind_some,hm,if_neg Bool.false_ne_true,hk,Bool.true_or,if_pos rfl]
theorem Xd{k:Nat}{p:P}(h:pe F a π=some p)(hm:M.contains k=true)(hk:Y1 M a p=true):px F M (.set k a) π=some (.nx (Zq π k p)):=by
 rw[QC,h,Option.bind_some,hm,if_pos rfl,if_pos hk]
theorem W1{k:Nat}(h:π[k]?=some (some (.lst true xs))):px F M (.app k a) π=(pe F a π).bind fun p=>if M.contains k&&Zu M a p&&decide (xs.length < Zc) then some (.nx (Zq π k (.lst true (xs++[p])))) else none:=by
 show ZdD _ _ _ _ π=_;unfold ZdD;rw[h];cases pe F a π<;>rfl
theorem ZhF{k:Nat}(h:π[k]?=some (some (.lst true xs)))(he:pe F a π=some (.lst true ys))(hw:(M.contains k&&noM M a)=true)(hz:xs.length+ys.length≤Zc):px F M (.ext k a) π=some (.nx (Zq π k (.lst true (xs++ys)))):=by
 show ZdG _ _ _ _ π=_;unfold ZdG;simp only[h,he];rw[if_pos (by rw[Bool.and_eq_true];exact⟨hw,decide_eq_true hz⟩)]
theorem ZhG{k:Nat}(h:π[k]?=some (some (.lst true xs))){q:Nat}{j:Int}(hk:pe F b π=some (.int j))(hq:ixN xs.length j=some q):px F M (.put k b a) π=(pe F a π).bind fun p=>if M.contains k&&Zu M a p then some (.nx (Zq π k (.lst true (xs.set q p)))) else none:=by
 show ZdL _ _ _ _ _ π=_;unfold ZdL;cases pe F a π with
 |none=>rfl
 |some p=>
  simp only[h,hk,hq];rfl
theorem Wb{k:Nat}(h:pe F it π=some (.lst m xs))(hw:!M.contains k&&X3 M (ZZ s) it xs=true):px F M (.for1 k false it s) π=Zz (fun d π=>px F M s (Zq π k d)) xs π:=by
 show Qy _ _ _ _ _ _ _ π=_;unfold Qy;rw[h];show(if !M.contains k&&X3 M (ZZ s) it xs then Zz (fun d π=>px F M s (Zq π k d)) xs π else none)=_
 rw[if_pos (by simpa using hw)]
theorem Zbi{k:Nat}(h:pe F it π=some (.tup xs))(hw:!M.contains k&&Zu M it (.tup xs)=true):px F M (.for1 k false it s) π=Zz (fun d π=>px F M s (Zq π k d)) xs π:=by
 show Qy _ _ _ _ _ _ _ π=_;unfold Qy;rw[h];show(if !M.contains k&&(false||Zu M it (.tup xs)) then Zz (fun d π=>px F M s (Zq π k d)) xs π else none)=_
 rw[if_pos (by simpa using hw)]
theorem Zbh{k:Nat}{n:Int}(h:pe F it π=some (.int n))(h1:n < 2 ^ 62)(h2:-(2 ^ 62)≤n)(hw:M.contains k=false):px F M (.for1 k true it s) π=Zz (fun d π=>px F M s (Zq π k d)) (Yj n) π:=by
 show Qy _ _ _ _ _ _ _ π=_;unfold Qy;rw[h];have e:Qm true (.int n)=some (Yj n):=by
  show(if n < 2 ^ 62∧-(2 ^ 62)≤n then some (Yj n) else none)=_
  rw[if_pos ⟨h1,h2⟩]
 simp only[e];rw[if_pos (by simpa using hw)]
theorem ZfD{k l:Nat}{x:P}(h:pe F it π=some x)(hx:Zer x=some xs)(hw:(!M.contains k&&!M.contains l&&noM M it)=true):px F M (.forE k l it s) π=Xu (fun x y π=>px F M s (Zq (Zq π k x) l y)) (Wo 0 xs) π:=by
 show Jz _ _ _ _ _ _ π=_;unfold Jz;rw[h];dsimp only;rw[hx];show(if (!M.contains k&&!M.contains l&&noM M it)=true then _ else _)=_
 rw[if_pos hw]
theorem V4{k l:Nat}(h:pe F it π=some (.tup xs))(hw:!M.contains k&&!M.contains l&&Zu M it (.tup xs)=true):px F M (.for2 k l it s) π=Zz (XH k l (px F M s)) xs π:=by
 show Jy _ _ _ _ _ _ _ π=_;unfold Jy;rw[h];show(if !M.contains k&&!M.contains l&&Zu M it (.tup xs) then Zz (XH k l (px F M s)) xs π else none)=_
 rw[if_pos (by simpa using hw)]
noncomputable def Uc(x:Option PFl)(g:Zw→Option PFl):Option PFl:=match x with
 |some (.nx π')=>g π'
 |some (.ct π')=>g π'
 |some (.bk π')=>some (.nx π')
 |some (.rt v)=>some (.rt v)
 |none=>none
@[simp] theorem ZT{g:PEx}:Uc (some (.nx π)) g=g π:=Eq.trans rfl rfl
@[simp] theorem Zf9{g:PEx}:Uc (some (.bk π)) g=some (.nx π):=Eq.trans rfl rfl
@[simp] theorem ZjM{g:PEx}:Uc (some (.rt x)) g=some (.rt x):=Eq.trans rfl rfl
theorem Y6{B:P→Zw→Option PFl}:Zz B [] π=some (.nx π):=Eq.trans rfl rfl
theorem ZA{B:P→Zw→Option PFl}:Zz B (x :: xs) π=Uc (B x π) (Zz B xs):=by
 show(match B x π with
  |some (.nx π')=>Zz B xs π'
  |some (.ct π')=>Zz B xs π'
  |some (.bk π')=>some (.nx π')
  |some (.rt v)=>some (.rt v)
  |none=>none)=_
 unfold Uc;rfl
theorem mem_range{n:Int}{p:P}(h:p∈Yj n):∃ k:Nat,p=.int (k:Int)∧(k:Int) < n:=by
 obtain⟨k,hk,rfl⟩:=List.mem_map.mp h;exact⟨k,rfl,by have:=List.mem_range.mp hk;omega⟩
noncomputable def Ys(x:Option PFl):Option P:=match x with
 |some (.rt d)=>some d
 |some (.nx _)=>some .non
 |_=>none
@[simp] theorem ZkZ:Ys (some (.rt x))=some x:=Eq.trans rfl rfl
@[simp] theorem Zi6:Ys none=none:=Eq.trans rfl rfl
@[simp] theorem ZjK{p:Prop}[Decidable p]{u v:Option PFl}:Ys (if p then u else v)=if p then Ys u else Ys v:=by split<;>rfl
theorem Zha{f:FD}{ds:List P}(hl:ds.length=f.ps)(hM:(ZL f.body).all (fun i=>decide (f.ps≤i))=true):fnP F f ds=Ys (px F (ZL f.body) f.body (ds.map some++List.replicate (f.ns - ds.length) none)):=by
 unfold fnP;rw[if_pos ⟨hl,hM⟩];rfl
theorem Zo{T:Nat→Option FD}{n k:Nat}{f:FD}{ds:List P}(h:T k=some f)(hl:ds.length=f.ps)(hM:(ZL f.body).all (fun i=>decide (f.ps≤i))=true)(hN:(VO k&&!VU f)=false:=by rfl)(hW:(k==16&&(T 999).isSome)=false:=by rfl) :
  Ze T (n+1) k ds=Ys (px (Ze T n) (ZL f.body) f.body (ds.map some++List.replicate (f.ns - ds.length) none)):=by
 have:Ze T (n+1) k=fnP (Ze T n) f:=by rw[UT h,if_neg (by rw[hN];exact Bool.false_ne_true)]
 rw[this];exact Zha hl hM
section
variable {F:PFn}{M:List Nat}{π π':Zw}{a b:CS}{c:CE}{v:P}
end
theorem Zh9{xs:List P}:Xb false (.tup xs)=some xs:=rfl
@[simp] theorem ZjT{k:Int}{m:Bool}{xs:List P}:Yy .NotIn (.int k) (.lst m xs)=((inP k xs).map not).map .bl:=Eq.trans rfl rfl
theorem Za0{k:Int}:∀ {ks:List Int},inP k (ks.map P.int)=some (decide (k∈ks))
 |[]=>by simp[inP]
 |a :: ks=>by
  show(inP k (ks.map P.int)).map _=_;rw[Za0];simp only[Option.map_some,List.mem_cons]
  congr 1
  by_cases h:a=k
  ·simp[h]
  ·have:¬k=a:=fun z=>h z.symm
   simp[h,this]
theorem UP{B:P→Zw→Option PFl}{I:Nat→Zw→Prop}:∀ (j k:Nat),(∀ i,k≤i→i < k+j→∀ π,I i π→∃ π',B (.int (i:Int)) π=some (.nx π')∧I (i+1) π')→∀ π,I k π→∃ π',Zz B ((List.range' k j).map fun(i:Nat)=>P.int (i:Int)) π=some (.nx π')∧I (k+j) π'
 |0,k,_,π,h=>⟨π,rfl,h⟩
 |j+1,k,hb,π,h=>by
  obtain⟨π1,e1,i1⟩:=hb k (Nat.le_refl _) (by omega) π h
  obtain⟨π2,e2,i2⟩:=UP j (k+1) (fun i h1 h2=>hb i (by omega) (by omega)) π1 i1
  refine⟨π2,?_,by rw[show k+(j+1)=k+1+j by omega];exact i2⟩
  rw[List.range'_succ,List.map_cons,ZA,e1];exact e2
theorem VS{B:P→Zw→Option PFl}(I:Nat→Zw→Prop){m:Nat}(hb:∀ i,i < m→∀ π,I i π→∃ π',B (.int (i:Int)) π=some (.nx π')∧I (i+1) π'){π:Zw}(h:I 0 π):∃ π',Zz B (Yj (m:Int)) π=some (.nx π')∧I m π':=by
 have:=UP (B:=B) (I:=I) m 0 (fun i _ h2=>hb i (by omega)) π h
 rw[Nat.zero_add]at this;have e:Yj (m:Int)=(List.range' 0 m).map fun(i:Nat)=>P.int (i:Int):=by
  unfold Yj;rw[show((m:Int)).toNat=m by omega,List.range_eq_range']
 rw[e];exact this
theorem QB{k:Nat}{n:Nat}(h:pe F it π=some (.int (n:Int)))(h1:n≤100000)(hw:M.contains k=false):px F M (.for1 k true it s) π=Zz (fun d π=>px F M s (Zq π k d)) (Yj (n:Int)) π:=
 Zbh h (Int.lt_of_le_of_lt (Int.ofNat_le.mpr h1) (by decide)) (Int.le_trans (by decide) (Int.natCast_nonneg n)) hw
mutual
theorem Zby:∀ {n:Nat}{x:P},okP n x=true→Uf x x=true
 |_,.non,_=>rfl
 |_,.bl a,_=>by simp[Uf]
 |_,.int a,_=>by simp[Uf]
 |_,.str a,_=>by simp[Uf]
 |0,.tup a,h=>by simp[okP]at h
 |n+1,.tup a,h=>Vx (n:=n) (x:=a) h
 |_,.lst a b,h=>by simp[okP]at h
 |_,.dct a b,h=>by simp[okP]at h
 |_,.obj a,h=>by simp[okP]at h
 |_,.kt a,h=>by simp[okP]at h
theorem Vx:∀ {n:Nat}{x:List P},Uq n x=true→Xr x x=true
 |_,[],_=>rfl
 |n,a :: x,h=>by
  have h:(okP n a&&Uq n x)=true:=h;rw[Bool.and_eq_true]at h;show(Uf a a&&Xr x x)=true;rw[Zby h.1,Vx h.2];rfl
end
theorem Ju{n:Nat}:∀ {xs:List P},(∀ x∈xs,okP n x=true)→Uq n xs=true
 |[],_=>rfl
 |x :: xs,h=>by
  show(okP n x&&Uq n xs)=true;rw[h x List.mem_cons_self,Ju fun y hy=>h y (List.mem_cons_of_mem _ hy)]
  rfl
@[simp] theorem Zk0{m:Bool}{xs:List P}:rsP false (.lst m xs)=some (.lst true xs.reverse):=Eq.trans rfl rfl
end
end Dp


namespace Dp
open PySem
noncomputable def c_around:FD:=⟨1,1,(.seq (.ret (.bin .Sub (.bin .Mod (.bin .Add (.var 0) (.cst (.int 1000000000))) (.cst (.int 2000000000))) (.cst (.int 1000000000))))
 .skip)⟩
noncomputable def ZeR:FD:=⟨1,1,(.seq (.ret (.and (.isi .int (.var 0)) (.not (.isi .bool (.var 0)))))
 .skip)⟩
noncomputable def c_divided:FD:=⟨2,2,(.seq (.ite (.cmp .Eq (.var 1) (.cst (.int 0))) (.seq (.ret (.cst (.int 0)))
 .skip) .skip)
 (.seq (.ret (.call 0 (.acons (.bin .FloorDiv (.var 0) (.var 1)) .anil) []))
 .skip))⟩
noncomputable def c_left_over:FD:=⟨2,2,(.seq (.ite (.cmp .Eq (.var 1) (.cst (.int 0))) (.seq (.ret (.var 0))
 .skip) .skip)
 (.seq (.ret (.bin .Sub (.var 0) (.bin .Mult (.var 1) (.bin .FloorDiv (.var 0) (.var 1)))))
 .skip))⟩
noncomputable def c_reckon:FD:=⟨3,3,(.seq (.ite (.cmp .Eq (.var 1) (.cst (.str (S "+")))) (.seq (.ret (.call 0 (.acons (.bin .Add (.var 0) (.var 2)) .anil) []))
 .skip) .skip)
 (.seq (.ite (.cmp .Eq (.var 1) (.cst (.str (S "-")))) (.seq (.ret (.call 0 (.acons (.bin .Sub (.var 0) (.var 2)) .anil) []))
 .skip) .skip)
 (.seq (.ite (.cmp .Eq (.var 1) (.cst (.str (S "*")))) (.seq (.ret (.call 0 (.acons (.bin .Mult (.var 0) (.var 2)) .anil) []))
 .skip) .skip)
 (.seq (.ite (.cmp .Eq (.var 1) (.cst (.str (S "/")))) (.seq (.ret (.call 1 (.acons (.var 0) (.acons (.var 2) .anil)) []))
 .skip) .skip)
 (.seq (.ret (.call 2 (.acons (.var 0) (.acons (.var 2) .anil)) []))
 .skip)))))⟩
noncomputable def Zcm:FD:=⟨1,2,(.seq (.set 1 (.lstE (.acons (.neg (.cst (.int 1000000000))) (.acons (.neg (.cst (.int 999999999))) (.acons (.neg (.cst (.int 2))) (.acons (.neg (.cst (.int 1))) (.acons (.cst (.int 0)) (.acons (.cst (.int 1)) (.acons (.cst (.int 2)) (.acons (.cst (.int 999999999)) .anil))))))))))
 (.seq (.ite (.cmp .Eq (.bin .Mod (.var 0) (.cst (.int 3))) (.cst (.int 0))) (.seq (.ret (.ix (.var 1) (.bin .Mod (.bin .FloorDiv (.var 0) (.cst (.int 3))) (.cst (.int 8)))))
 .skip) .skip)
 (.seq (.ite (.cmp .Eq (.bin .Mod (.var 0) (.cst (.int 3))) (.cst (.int 1))) (.seq (.ret (.bin .Sub (.bin .Mod (.bin .FloorDiv (.var 0) (.cst (.int 3))) (.cst (.int 13))) (.cst (.int 6))))
 .skip) .skip)
 (.seq (.ret (.bin .Sub (.bin .Mod (.bin .Mult (.bin .FloorDiv (.var 0) (.cst (.int 3))) (.cst (.int 48271))) (.cst (.int 2000000000))) (.cst (.int 1000000000))))
 .skip))))⟩
noncomputable def ZeQ:FD:=⟨1,1,(.seq (.ret (.and (.call 17 (.acons (.var 0) .anil) []) (.and (.cmp .LtE (.neg (.cst (.int 1000000000))) (.var 0)) (.cmp .LtE (.var 0) (.cst (.int 999999999))))))
 .skip)⟩
noncomputable def ZcB:FD:=⟨2,2,(.seq (.ite (.cmp .Gt (.var 1) (.cst (.int 0))) (.seq (.ret (.and (.cmp .LtE (.cst (.int 0)) (.var 0)) (.cmp .Lt (.var 0) (.var 1))))
 .skip) .skip)
 (.seq (.ret (.and (.cmp .Lt (.var 1) (.var 0)) (.cmp .LtE (.var 0) (.cst (.int 0)))))
 .skip))⟩
noncomputable def c_replaced:FD:=⟨3,3,(.seq (.ret (.bin .Add (.bin .Add (.slice (.var 0) .nop (.part (.var 1))) (.tupE (.acons (.var 2) .anil))) (.slice (.var 0) (.part (.bin .Add (.var 1) (.cst (.int 1)))) .nop)))
 .skip)⟩
noncomputable def c_is_so:FD:=⟨3,3,(.seq (.ite (.cmp .Eq (.var 1) (.cst (.str (S "<")))) (.seq (.ret (.cmp .Lt (.var 0) (.var 2)))
 .skip) .skip)
 (.seq (.ite (.cmp .Eq (.var 1) (.cst (.str (S "<=")))) (.seq (.ret (.cmp .LtE (.var 0) (.var 2)))
 .skip) .skip)
 (.seq (.ite (.cmp .Eq (.var 1) (.cst (.str (S "=")))) (.seq (.ret (.cmp .Eq (.var 0) (.var 2)))
 .skip) .skip)
 (.seq (.ite (.cmp .Eq (.var 1) (.cst (.str (S ">=")))) (.seq (.ret (.cmp .GtE (.var 0) (.var 2)))
 .skip) .skip)
 (.seq (.ite (.cmp .Eq (.var 1) (.cst (.str (S ">")))) (.seq (.ret (.cmp .Gt (.var 0) (.var 2)))
 .skip) .skip)
 (.seq (.ret (.cmp .NotEq (.var 0) (.var 2)))
 .skip))))))⟩
noncomputable def c_worth:FD:=⟨2,2,(.seq (.ite (.cmp .Eq (.ix (.var 0) (.cst (.int 0))) (.cst (.str (S "name")))) (.seq (.ret (.ix (.var 1) (.ix (.var 0) (.cst (.int 1)))))
 .skip) .skip)
 (.seq (.ret (.ix (.var 0) (.cst (.int 1))))
 .skip))⟩
noncomputable def c_at_end:FD:=⟨2,2,(.seq (.ret (.cmp .GtE (.ix (.var 1) (.cst (.int 0))) (.len (.ix (.var 0) (.cst (.int 2))))))
 .skip)⟩
noncomputable def c_values_behind:FD:=⟨2,3,(.seq (.ite (.cmp .NotEq (.ix (.var 0) (.cst (.int 0))) (.cst (.str (S "put")))) (.seq (.ret (.var 1))
 .skip) .skip)
 (.seq (.set 2 (.call 3 (.acons (.call 5 (.acons (.ix (.var 0) (.cst (.int 2))) (.acons (.var 1) .anil)) []) (.acons (.ix (.var 0) (.cst (.int 3))) (.acons (.call 5 (.acons (.ix (.var 0) (.cst (.int 4))) (.acons (.var 1) .anil)) []) .anil))) []))
 (.seq (.ret (.call 42 (.acons (.var 1) (.acons (.ix (.var 0) (.cst (.int 1))) (.acons (.var 2) .anil))) []))
 .skip)))⟩
noncomputable def c_place_behind:FD:=⟨3,3,(.seq (.ite (.cmp .Eq (.ix (.var 0) (.cst (.int 0))) (.cst (.str (S "go")))) (.seq (.ret (.ix (.var 0) (.cst (.int 1))))
 .skip) .skip)
 (.seq (.ite (.and (.cmp .Eq (.ix (.var 0) (.cst (.int 0))) (.cst (.str (S "if")))) (.call 4 (.acons (.call 5 (.acons (.ix (.var 0) (.cst (.int 1))) (.acons (.var 2) .anil)) []) (.acons (.ix (.var 0) (.cst (.int 2))) (.acons (.call 5 (.acons (.ix (.var 0) (.cst (.int 3))) (.acons (.var 2) .anil)) []) .anil))) [])) (.seq (.ret (.ix (.var 0) (.cst (.int 4))))
 .skip) .skip)
 (.seq (.ret (.bin .Add (.var 1) (.cst (.int 1))))
 .skip)))⟩
noncomputable def c_moved:FD:=⟨2,5,(.seq (.ite (.call 7 (.acons (.var 0) (.acons (.var 1) .anil)) []) (.seq (.ret (.tupE (.acons (.cst (.str (S "none"))) .anil)))
 .skip) .skip)
 (.seq (.set 2 (.ix (.var 1) (.cst (.int 0))))
 (.seq (.set 3 (.ix (.var 1) (.cst (.int 1))))
 (.seq (.set 4 (.ix (.ix (.var 0) (.cst (.int 2))) (.var 2)))
 (.seq (.ite (.cmp .Eq (.ix (.var 4) (.cst (.int 0))) (.cst (.str (S "tell")))) (.seq (.ret (.tupE (.acons (.cst (.str (S "told"))) (.acons (.call 5 (.acons (.ix (.var 4) (.cst (.int 1))) (.acons (.var 3) .anil)) []) .anil))))
 .skip) .skip)
 (.seq (.ret (.tupE (.acons (.call 9 (.acons (.var 4) (.acons (.var 2) (.acons (.var 3) .anil))) []) (.acons (.call 8 (.acons (.var 4) (.acons (.var 3) .anil)) []) .anil))))
 .skip))))))⟩
noncomputable def c__law_worth:FD:=⟨2,2,(.seq (.ite (.cmp .Eq (.ix (.var 0) (.cst (.int 0))) (.cst (.str (S "name")))) (.seq (.ret (.ix (.var 1) (.ix (.var 0) (.cst (.int 1)))))
 .skip) .skip)
 (.seq (.ret (.ix (.var 0) (.cst (.int 1))))
 .skip))⟩
noncomputable def J2:CS:=(.seq (.set 1 (.bin .Mult (.var 1) (.cst (.int 2))))
 .skip)
noncomputable def ZcC:FD:=⟨1,3,(.seq (.set 1 (.cst (.int 1)))
 (.seq (.for1 2 true (.var 0) J2)
 (.seq (.ret (.var 1))
 .skip)))⟩
noncomputable def c_began:FD:=⟨2,2,(.seq (.ret (.tupE (.acons (.cst (.int 0)) (.acons (.bin .Add (.var 1) (.bin .Mult (.tupE (.acons (.cst (.int 0)) .anil)) (.bin .Sub (.ix (.var 0) (.cst (.int 1))) (.len (.var 1))))) .anil))))
 .skip)⟩
noncomputable def c_is_outcome:FD:=⟨1,1,(.seq (.ret (.isi .str (.ix (.var 0) (.cst (.int 0)))))
 .skip)⟩
noncomputable def Y3:CS:=(.seq (.set 6 (.call 10 (.acons (.var 0) (.acons (.var 3) .anil)) []))
 (.seq (.app 4 (.var 6))
 (.seq (.ite (.call 11 (.acons (.var 6) .anil) []) (.seq (.ret (.tupleOf (.var 4)))
 .skip) .skip)
 (.seq (.set 3 (.var 6))
 .skip))))
noncomputable def c_trail:FD:=⟨3,7,(.seq (.set 3 (.call 6 (.acons (.var 0) (.acons (.var 1) .anil)) []))
 (.seq (.set 4 (.lstE (.acons (.var 3) .anil)))
 (.seq (.for1 5 true (.var 2) Y3)
 (.seq (.app 4 (.ife (.call 7 (.acons (.var 0) (.acons (.var 3) .anil)) []) (.tupE (.acons (.cst (.str (S "none"))) .anil)) (.tupE (.acons (.cst (.str (S "late"))) .anil))))
 (.seq (.ret (.tupleOf (.var 4)))
 .skip)))))⟩
noncomputable def c_outcome:FD:=⟨3,3,(.seq (.ret (.ix (.call 12 (.acons (.var 0) (.acons (.var 1) (.acons (.var 2) .anil))) []) (.neg (.cst (.int 1)))))
 .skip)⟩
noncomputable def Vg:CE:=(.comp false [] (.var 1) (.ix (.var 0) (.cst (.int 0))) (.cst (.bl true)))
noncomputable def Uk:FD:=⟨1,2,(.seq (.set 1 (.slice (.var 0) .nop (.part (.neg (.cst (.int 1))))))
 (.seq (.ite (.cmp .NotEq (.ix (.ix (.var 0) (.neg (.cst (.int 1)))) (.cst (.int 0))) (.cst (.str (S "told")))) (.seq (.set 1 (.slice (.var 1) .nop (.part (.neg (.cst (.int 1))))))
 .skip) .skip)
 (.seq (.ret Vg)
 .skip)))⟩
noncomputable def QR:CS:=(.seq (.set 1 (.bin .BitOr (.var 1) (.call 43 (.acons (.var 2) .anil) [])))
 .skip)
noncomputable def ZbC:FD:=⟨1,3,(.seq (.set 1 (.cst (.int 0)))
 (.seq (.for1 2 false (.call 14 (.acons (.var 0) .anil) []) QR)
 (.seq (.ret (.var 1))
 .skip)))⟩
noncomputable def ZgX:FD:=⟨3,3,(.seq (.ret (.call 44 (.acons (.call 12 (.acons (.var 0) (.acons (.var 1) (.acons (.var 2) .anil))) []) .anil) []))
 .skip)⟩
noncomputable def Uj:FD:=⟨2,2,(.seq (.ret (.and (.cmp .Eq (.ix (.var 0) (.cst (.int 0))) (.cst (.str (S "number")))) (.cmp .Eq (.ix (.var 1) (.cst (.int 0))) (.cst (.str (S "number"))))))
 .skip)⟩
noncomputable def VC:FD:=⟨3,3,(.seq (.ite (.cmp .Lt (.ix (.var 0) (.var 2)) (.ix (.var 0) (.var 1))) (.seq (.ret (.call 42 (.acons (.call 42 (.acons (.var 0) (.acons (.var 1) (.acons (.ix (.var 0) (.var 2)) .anil))) []) (.acons (.var 2) (.acons (.ix (.var 0) (.var 1)) .anil))) []))
 .skip) .skip)
 (.seq (.ret (.var 0))
 .skip))⟩
noncomputable def VB:FD:=⟨1,1,(.seq (.ite (.and (.cmp .Eq (.ix (.var 0) (.cst (.int 3))) (.cst (.str (S "-")))) (.cmp .Eq (.ix (.ix (.var 0) (.cst (.int 4))) (.cst (.int 0))) (.cst (.str (S "number"))))) (.seq (.ret (.bin .Add (.slice (.var 0) .nop (.part (.cst (.int 3)))) (.tupE (.acons (.cst (.str (S "+"))) (.acons (.tupE (.acons (.cst (.str (S "number"))) (.acons (.call 0 (.acons (.neg (.ix (.ix (.var 0) (.cst (.int 4))) (.cst (.int 1)))) .anil) []) .anil))) .anil)))))
 .skip) .skip)
 (.seq (.ret (.var 0))
 .skip))⟩
noncomputable def Wf:FD:=⟨1,4,(.seq (.set 1 (.ix (.var 0) (.cst (.int 2))))
 (.seq (.set 2 (.ix (.var 0) (.cst (.int 3))))
 (.seq (.set 3 (.ix (.var 0) (.cst (.int 4))))
 (.seq (.ite (.or (.and (.cmp .Eq (.var 2) (.cst (.str (S "*")))) (.cmp .Eq (.var 3) (.cst (.tup [(.str (S "number")),(.int 0)])))) (.or (.and (.cmp .Eq (.var 2) (.cst (.str (S "mod")))) (.cmp .Eq (.var 3) (.cst (.tup [(.str (S "number")),(.int 1)])))) (.and (.cmp .Eq (.var 2) (.cst (.str (S "-")))) (.cmp .Eq (.var 1) (.var 3))))) (.seq (.ret (.tupE (.acons (.cst (.str (S "put"))) (.acons (.ix (.var 0) (.cst (.int 1))) (.acons (.cst (.tup [(.str (S "number")),(.int 0)])) (.acons (.cst (.str (S "+"))) (.acons (.cst (.tup [(.str (S "number")),(.int 0)])) .anil)))))))
 .skip) .skip)
 (.seq (.ite (.and (.cmp .In (.var 2) (.tupE (.acons (.cst (.str (S "*"))) (.acons (.cst (.str (S "/"))) .anil)))) (.cmp .Eq (.var 3) (.cst (.tup [(.str (S "number")),(.int 1)])))) (.seq (.ret (.tupE (.acons (.cst (.str (S "put"))) (.acons (.ix (.var 0) (.cst (.int 1))) (.acons (.var 1) (.acons (.cst (.str (S "+"))) (.acons (.cst (.tup [(.str (S "number")),(.int 0)])) .anil)))))))
 .skip) .skip)
 (.seq (.ret (.var 0))
 .skip))))))⟩
noncomputable def J5:FD:=⟨1,1,(.seq (.ite (.call 73 (.acons (.ix (.var 0) (.cst (.int 2))) (.acons (.ix (.var 0) (.cst (.int 4))) .anil)) []) (.seq (.ret (.tupE (.acons (.cst (.str (S "put"))) (.acons (.ix (.var 0) (.cst (.int 1))) (.acons (.tupE (.acons (.cst (.str (S "number"))) (.acons (.call 3 (.acons (.ix (.ix (.var 0) (.cst (.int 2))) (.cst (.int 1))) (.acons (.ix (.var 0) (.cst (.int 3))) (.acons (.ix (.ix (.var 0) (.cst (.int 4))) (.cst (.int 1))) .anil))) []) .anil))) (.acons (.cst (.str (S "+"))) (.acons (.cst (.tup [(.str (S "number")),(.int 0)])) .anil)))))))
 .skip) .skip)
 (.seq (.set 0 (.call 75 (.acons (.var 0) .anil) []))
 (.seq (.ite (.cmp .In (.ix (.var 0) (.cst (.int 3))) (.tupE (.acons (.cst (.str (S "+"))) (.acons (.cst (.str (S "*"))) .anil)))) (.seq (.set 0 (.call 74 (.acons (.var 0) (.acons (.cst (.int 2)) (.acons (.cst (.int 4)) .anil))) []))
 .skip) .skip)
 (.seq (.set 0 (.call 76 (.acons (.var 0) .anil) []))
 (.seq (.ite (.cmp .Eq (.var 0) (.tupE (.acons (.cst (.str (S "put"))) (.acons (.ix (.var 0) (.cst (.int 1))) (.acons (.tupE (.acons (.cst (.str (S "name"))) (.acons (.ix (.var 0) (.cst (.int 1))) .anil))) (.acons (.cst (.str (S "+"))) (.acons (.cst (.tup [(.str (S "number")),(.int 0)])) .anil))))))) (.seq (.ret (.cst (.tup [(.str (S "skip"))])))
 .skip) .skip)
 (.seq (.ret (.var 0))
 .skip))))))⟩
noncomputable def Wx:FD:=⟨1,1,(.seq (.ite (.cmp .Eq (.ix (.var 0) (.cst (.int 2))) (.cst (.str (S ">")))) (.seq (.ret (.tupE (.acons (.cst (.str (S "if"))) (.acons (.ix (.var 0) (.cst (.int 3))) (.acons (.cst (.str (S "<"))) (.acons (.ix (.var 0) (.cst (.int 1))) (.acons (.ix (.var 0) (.cst (.int 4))) .anil)))))))
 .skip) .skip)
 (.seq (.ite (.cmp .Eq (.ix (.var 0) (.cst (.int 2))) (.cst (.str (S ">=")))) (.seq (.ret (.tupE (.acons (.cst (.str (S "if"))) (.acons (.ix (.var 0) (.cst (.int 3))) (.acons (.cst (.str (S "<="))) (.acons (.ix (.var 0) (.cst (.int 1))) (.acons (.ix (.var 0) (.cst (.int 4))) .anil)))))))
 .skip) .skip)
 (.seq (.ret (.var 0))
 .skip)))⟩
noncomputable def Qd:FD:=⟨1,1,(.seq (.ret (.or (.call 73 (.acons (.ix (.var 0) (.cst (.int 1))) (.acons (.ix (.var 0) (.cst (.int 3))) .anil)) []) (.cmp .Eq (.ix (.var 0) (.cst (.int 1))) (.ix (.var 0) (.cst (.int 3))))))
 .skip)⟩
noncomputable def ZbD:FD:=⟨1,2,(.seq (.set 1 (.call 4 (.acons (.ix (.ix (.var 0) (.cst (.int 1))) (.cst (.int 1))) (.acons (.ix (.var 0) (.cst (.int 2))) (.acons (.ix (.ix (.var 0) (.cst (.int 3))) (.cst (.int 1))) .anil))) []))
 (.seq (.ret (.ife (.var 1) (.tupE (.acons (.cst (.str (S "go"))) (.acons (.ix (.var 0) (.cst (.int 4))) .anil))) (.cst (.tup [(.str (S "skip"))]))))
 .skip))⟩
noncomputable def VD:FD:=⟨1,3,(.seq (.set 1 (.ix (.var 0) (.cst (.int 1))))
 (.seq (.set 2 (.ix (.var 0) (.cst (.int 3))))
 (.seq (.ite (.cmp .NotEq (.ix (.var 0) (.cst (.int 2))) (.cst (.str (S "<=")))) (.seq (.ret (.var 0))
 .skip) .skip)
 (.seq (.ite (.and (.cmp .Eq (.ix (.var 2) (.cst (.int 0))) (.cst (.str (S "number")))) (.cmp .Lt (.ix (.var 2) (.cst (.int 1))) (.cst (.int 999999999)))) (.seq (.ret (.tupE (.acons (.cst (.str (S "if"))) (.acons (.var 1) (.acons (.cst (.str (S "<"))) (.acons (.tupE (.acons (.cst (.str (S "number"))) (.acons (.bin .Add (.ix (.var 2) (.cst (.int 1))) (.cst (.int 1))) .anil))) (.acons (.ix (.var 0) (.cst (.int 4))) .anil)))))))
 .skip) .skip)
 (.seq (.ite (.and (.cmp .Eq (.ix (.var 1) (.cst (.int 0))) (.cst (.str (S "number")))) (.cmp .Gt (.ix (.var 1) (.cst (.int 1))) (.cst (.int (-1000000000))))) (.seq (.ret (.tupE (.acons (.cst (.str (S "if"))) (.acons (.tupE (.acons (.cst (.str (S "number"))) (.acons (.bin .Sub (.ix (.var 1) (.cst (.int 1))) (.cst (.int 1))) .anil))) (.acons (.cst (.str (S "<"))) (.acons (.var 2) (.acons (.ix (.var 0) (.cst (.int 4))) .anil)))))))
 .skip) .skip)
 (.seq (.ret (.var 0))
 .skip))))))⟩
noncomputable def ZbB:FD:=⟨2,2,(.seq (.ite (.cmp .Eq (.ix (.var 0) (.cst (.int 4))) (.bin .Add (.var 1) (.cst (.int 1)))) (.seq (.ret (.cst (.tup [(.str (S "skip"))])))
 .skip) .skip)
 (.seq (.set 0 (.call 78 (.acons (.var 0) .anil) []))
 (.seq (.ite (.call 79 (.acons (.var 0) .anil) []) (.seq (.ret (.call 80 (.acons (.var 0) .anil) []))
 .skip) .skip)
 (.seq (.ite (.cmp .In (.ix (.var 0) (.cst (.int 2))) (.tupE (.acons (.cst (.str (S "="))) (.acons (.cst (.str (S "!="))) .anil)))) (.seq (.set 0 (.call 74 (.acons (.var 0) (.acons (.cst (.int 1)) (.acons (.cst (.int 3)) .anil))) []))
 .skip) .skip)
 (.seq (.ret (.call 81 (.acons (.var 0) .anil) []))
 .skip)))))⟩
noncomputable def J6:FD:=⟨2,2,(.seq (.ite (.cmp .Eq (.ix (.var 0) (.cst (.int 0))) (.cst (.str (S "put")))) (.seq (.ret (.call 77 (.acons (.var 0) .anil) []))
 .skip) .skip)
 (.seq (.ite (.cmp .Eq (.ix (.var 0) (.cst (.int 0))) (.cst (.str (S "if")))) (.seq (.ret (.call 82 (.acons (.var 0) (.acons (.var 1) .anil)) []))
 .skip) .skip)
 (.seq (.ite (.cmp .Eq (.var 0) (.tupE (.acons (.cst (.str (S "go"))) (.acons (.bin .Add (.var 1) (.cst (.int 1))) .anil)))) (.seq (.ret (.cst (.tup [(.str (S "skip"))])))
 .skip) .skip)
 (.seq (.ret (.var 0))
 .skip))))⟩
noncomputable def c__law_cell_at_k25:FD:=⟨2,2,(.seq (.ite (.cmp .Lt (.var 1) (.len (.var 0))) (.seq (.ret (.ix (.var 0) (.var 1)))
 .skip) .skip)
 (.seq (.ret (.cst (.int 0)))
 .skip))⟩
noncomputable def XM:FD:=⟨1,1,(.seq (.ite (.cmp .Eq (.bin .Mod (.var 0) (.cst (.int 3))) (.cst (.int 0))) (.seq (.ret (.ix (.lstE (.acons (.neg (.cst (.int 1000000000))) (.acons (.cst (.int 999999999)) (.acons (.neg (.cst (.int 1))) (.acons (.cst (.int 0)) (.acons (.cst (.int 1)) (.acons (.cst (.int 2)) (.acons (.neg (.cst (.int 999999999))) (.acons (.cst (.int 999999998)) .anil))))))))) (.bin .Mod (.bin .FloorDiv (.var 0) (.cst (.int 3))) (.cst (.int 8)))))
 .skip) .skip)
 (.seq (.ret (.bin .Sub (.bin .Mod (.bin .Mult (.bin .FloorDiv (.var 0) (.cst (.int 3))) (.cst (.int 48271))) (.cst (.int 2000000000))) (.cst (.int 1000000000))))
 .skip))⟩
noncomputable def Ww:FD:=⟨2,2,(.seq (.ite (.and (.cmp .Gt (.var 1) (.cst (.int 0))) (.cmp .Lt (.bin .Mod (.var 0) (.cst (.int 5))) (.cst (.int 3)))) (.seq (.ret (.tupE (.acons (.cst (.str (S "name"))) (.acons (.bin .Mod (.bin .FloorDiv (.var 0) (.cst (.int 5))) (.var 1)) .anil))))
 .skip) .skip)
 (.seq (.ret (.tupE (.acons (.cst (.str (S "number"))) (.acons (.call 18 (.acons (.bin .FloorDiv (.var 0) (.cst (.int 5))) .anil) []) .anil))))
 .skip))⟩
noncomputable def Wk:FD:=⟨2,5,(.seq (.set 2 (.call 71 (.acons (.ix (.var 0) (.cst (.int 1))) (.acons (.var 1) .anil)) []))
 (.seq (.set 3 (.call 71 (.acons (.ix (.var 0) (.cst (.int 2))) (.acons (.var 1) .anil)) []))
 (.seq (.set 4 (.bin .Mod (.bin .FloorDiv (.ix (.var 0) (.cst (.int 3))) (.cst (.int 65))) (.cst (.int 6))))
 (.seq (.ite (.cmp .Eq (.var 4) (.cst (.int 1))) (.seq (.ret (.tupE (.acons (.var 2) (.acons (.var 2) .anil))))
 .skip) .skip)
 (.seq (.ite (.and (.cmp .Eq (.var 4) (.cst (.int 3))) (.cmp .Gt (.var 1) (.cst (.int 0)))) (.seq (.ret (.tupE (.acons (.tupE (.acons (.cst (.str (S "name"))) (.acons (.bin .Mod (.bin .Mod (.ix (.var 0) (.cst (.int 3))) (.cst (.int 5))) (.var 1)) .anil))) (.acons (.tupE (.acons (.cst (.str (S "number"))) (.acons (.bin .Mod (.ix (.var 0) (.cst (.int 2))) (.cst (.int 2))) .anil))) .anil))))
 .skip) .skip)
 (.seq (.ite (.cmp .Eq (.var 4) (.cst (.int 4))) (.seq (.ret (.tupE (.acons (.var 2) (.acons (.tupE (.acons (.cst (.str (S "number"))) (.acons (.bin .Mod (.ix (.var 0) (.cst (.int 2))) (.cst (.int 2))) .anil))) .anil))))
 .skip) .skip)
 (.seq (.ite (.cmp .Eq (.var 4) (.cst (.int 5))) (.seq (.ret (.tupE (.acons (.tupE (.acons (.cst (.str (S "number"))) (.acons (.bin .Mod (.ix (.var 0) (.cst (.int 1))) (.cst (.int 2))) .anil))) (.acons (.var 3) .anil))))
 .skip) .skip)
 (.seq (.ret (.tupE (.acons (.var 2) (.acons (.var 3) .anil))))
 .skip))))))))⟩
noncomputable def Uh:FD:=⟨4,8,(.seq (.set2 4 5 (.call 84 (.acons (.var 0) (.acons (.var 1) .anil)) []))
 (.seq (.set 6 (.bin .Mod (.bin .FloorDiv (.ix (.var 0) (.cst (.int 3))) (.cst (.int 5))) (.bin .Add (.var 2) (.cst (.int 1)))))
 (.seq (.ite (.cmp .Eq (.bin .Mod (.bin .FloorDiv (.ix (.var 0) (.cst (.int 3))) (.cst (.int 65))) (.cst (.int 6))) (.cst (.int 2))) (.seq (.set 6 (.bin .Add (.var 3) (.cst (.int 1))))
 .skip) .skip)
 (.seq (.set 7 (.bin .FloorDiv (.ix (.var 0) (.cst (.int 0))) (.cst (.int 8))))
 (.seq (.ite (.and (.cmp .Lt (.bin .Mod (.ix (.var 0) (.cst (.int 0))) (.cst (.int 8))) (.cst (.int 3))) (.cmp .Gt (.var 1) (.cst (.int 0)))) (.seq (.ret (.tupE (.acons (.cst (.str (S "put"))) (.acons (.bin .Mod (.bin .Mod (.ix (.var 0) (.cst (.int 3))) (.cst (.int 5))) (.var 1)) (.acons (.var 4) (.acons (.ix (.lstE (.acons (.cst (.str (S "+"))) (.acons (.cst (.str (S "-"))) (.acons (.cst (.str (S "*"))) (.acons (.cst (.str (S "/"))) (.acons (.cst (.str (S "mod"))) .anil)))))) (.bin .Mod (.var 7) (.cst (.int 5)))) (.acons (.var 5) .anil)))))))
 .skip) .skip)
 (.seq (.ite (.cmp .Lt (.bin .Mod (.ix (.var 0) (.cst (.int 0))) (.cst (.int 8))) (.cst (.int 5))) (.seq (.ret (.tupE (.acons (.cst (.str (S "if"))) (.acons (.var 4) (.acons (.ix (.lstE (.acons (.cst (.str (S "<"))) (.acons (.cst (.str (S "<="))) (.acons (.cst (.str (S "="))) (.acons (.cst (.str (S ">="))) (.acons (.cst (.str (S ">"))) (.acons (.cst (.str (S "!="))) .anil))))))) (.bin .Mod (.var 7) (.cst (.int 6)))) (.acons (.var 5) (.acons (.var 6) .anil)))))))
 .skip) .skip)
 (.seq (.ite (.cmp .Eq (.bin .Mod (.ix (.var 0) (.cst (.int 0))) (.cst (.int 8))) (.cst (.int 5))) (.seq (.ret (.tupE (.acons (.cst (.str (S "go"))) (.acons (.var 6) .anil))))
 .skip) .skip)
 (.seq (.ite (.cmp .Eq (.bin .Mod (.ix (.var 0) (.cst (.int 0))) (.cst (.int 8))) (.cst (.int 6))) (.seq (.ret (.tupE (.acons (.cst (.str (S "tell"))) (.acons (.var 4) .anil))))
 .skip) .skip)
 (.seq (.ret (.tupE (.acons (.cst (.str (S "skip"))) .anil)))
 .skip)))))))))⟩
noncomputable def c__law_reckon_k25:FD:=⟨3,4,(.seq (.set 3 (.var 0))
 (.seq (.ite (.cmp .Eq (.var 1) (.cst (.str (S "+")))) (.seq (.set 3 (.bin .Add (.var 0) (.var 2)))
 .skip) (.seq (.ite (.cmp .Eq (.var 1) (.cst (.str (S "-")))) (.seq (.set 3 (.bin .Sub (.var 0) (.var 2)))
 .skip) (.seq (.ite (.cmp .Eq (.var 1) (.cst (.str (S "*")))) (.seq (.set 3 (.bin .Mult (.var 0) (.var 2)))
 .skip) (.seq (.ite (.cmp .Eq (.var 2) (.cst (.int 0))) (.seq (.set 3 (.ix (.lstE (.acons (.cst (.int 0)) (.acons (.var 0) .anil))) (.intOf (.cmp .Eq (.var 1) (.cst (.str (S "mod")))))))
 .skip) (.seq (.ite (.cmp .Eq (.var 1) (.cst (.str (S "/")))) (.seq (.set 3 (.bin .FloorDiv (.var 0) (.var 2)))
 .skip) (.seq (.set 3 (.bin .Sub (.var 0) (.bin .Mult (.var 2) (.bin .FloorDiv (.var 0) (.var 2)))))
 .skip))
 .skip))
 .skip))
 .skip))
 .skip))
 (.seq (.ret (.bin .Sub (.bin .Mod (.bin .Add (.var 3) (.cst (.int 1000000000))) (.cst (.int 2000000000))) (.cst (.int 1000000000))))
 .skip)))⟩
noncomputable def c__law_so_k25:FD:=⟨3,3,(.seq (.ite (.cmp .In (.var 1) (.lstE (.acons (.cst (.str (S "<"))) (.acons (.cst (.str (S ">="))) .anil)))) (.seq (.ret (.cmp .Eq (.cmp .Lt (.var 0) (.var 2)) (.cmp .Eq (.var 1) (.cst (.str (S "<"))))))
 .skip) .skip)
 (.seq (.ite (.cmp .In (.var 1) (.lstE (.acons (.cst (.str (S ">"))) (.acons (.cst (.str (S "<="))) .anil)))) (.seq (.ret (.cmp .Eq (.cmp .Gt (.var 0) (.var 2)) (.cmp .Eq (.var 1) (.cst (.str (S ">"))))))
 .skip) .skip)
 (.seq (.ret (.cmp .Eq (.cmp .Eq (.var 0) (.var 2)) (.cmp .Eq (.var 1) (.cst (.str (S "="))))))
 .skip)))⟩
noncomputable def Wm:CE:=(.comp true [1,0] (.len (.var 1)) (.var 0) (.not (.call 36 (.acons (.ix (.var 2) (.var 0)) (.acons (.ix (.var 1) (.var 0)) .anil)) [])))
noncomputable def ZbA:FD:=⟨2,2,(.seq (.ite (.isi .tuple (.var 1)) (.seq (.ite (.or (.not (.isi .tuple (.var 0))) (.cmp .NotEq (.len (.var 0)) (.len (.var 1)))) (.seq (.ret (.cst (.bl false)))
 .skip) .skip)
 (.seq (.ret (.cmp .Eq Wm (.lstE .anil)))
 .skip)) .skip)
 (.seq (.ite (.isi .str (.var 1)) (.seq (.ret (.and (.isi .str (.var 0)) (.cmp .Eq (.var 0) (.var 1))))
 .skip) .skip)
 (.seq (.ret (.and (.isi .int (.var 0)) (.and (.not (.isi .bool (.var 0))) (.cmp .Eq (.var 0) (.var 1)))))
 .skip)))⟩
noncomputable def Qc:FD:=⟨1,1,(.seq (.ret (.bin .Sub (.bin .Mod (.bin .Add (.var 0) (.cst (.int 1000000000))) (.cst (.int 2000000000))) (.cst (.int 1000000000))))
 .skip)⟩
noncomputable def c_tells:FD:=⟨4,4,(.seq (.ret (.cmp .NotEq (.call 13 (.acons (.var 0) (.acons (.var 2) (.acons (.var 3) .anil))) []) (.call 13 (.acons (.var 1) (.acons (.var 2) (.acons (.var 3) .anil))) [])))
 .skip)⟩
noncomputable def Wi:FD:=⟨2,2,(.seq (.ite (.cmp .Lt (.var 1) (.len (.var 0))) (.seq (.ret (.ix (.var 0) (.var 1)))
 .skip) .skip)
 (.seq (.ite (.cmp .Eq (.var 0) (.lstE .anil)) (.seq (.ret (.bin .Mod (.bin .Mult (.bin .Add (.bin .Add (.bin .Mult (.var 1) (.var 1)) (.bin .Mult (.cst (.int 3)) (.var 1))) (.cst (.int 1))) (.cst (.int 16807))) (.cst (.int 2147483629))))
 .skip) .skip)
 (.seq (.ret (.bin .Mod (.bin .Mult (.bin .Add (.bin .Mod (.ix (.var 0) (.neg (.cst (.int 1)))) (.cst (.int 1000003))) (.cst (.int 2))) (.bin .Add (.bin .Mult (.var 1) (.var 1)) (.cst (.int 16807)))) (.cst (.int 2147483629))))
 .skip)))⟩
noncomputable def WQ:FD:=⟨1,1,(.seq (.ite (.cmp .Eq (.bin .Mod (.var 0) (.cst (.int 4))) (.cst (.int 0))) (.seq (.ret (.bin .Sub (.bin .Mod (.bin .FloorDiv (.var 0) (.cst (.int 4))) (.cst (.int 9))) (.cst (.int 4))))
 .skip) .skip)
 (.seq (.ite (.cmp .Eq (.bin .Mod (.var 0) (.cst (.int 4))) (.cst (.int 1))) (.seq (.ret (.ix (.lstE (.acons (.neg (.cst (.int 1000000000))) (.acons (.neg (.cst (.int 999999999))) (.acons (.neg (.cst (.int 1))) (.acons (.cst (.int 0)) (.acons (.cst (.int 1)) (.acons (.cst (.int 999999998)) (.acons (.cst (.int 999999999)) .anil)))))))) (.bin .Mod (.bin .FloorDiv (.var 0) (.cst (.int 4))) (.cst (.int 7)))))
 .skip) .skip)
 (.seq (.ret (.bin .Sub (.bin .Mod (.bin .Mult (.bin .FloorDiv (.var 0) (.cst (.int 4))) (.cst (.int 69621))) (.cst (.int 2000000000))) (.cst (.int 1000000000))))
 .skip)))⟩
noncomputable def Wj:FD:=⟨2,2,(.seq (.ite (.and (.cmp .Gt (.var 1) (.cst (.int 0))) (.cmp .Gt (.bin .Mod (.var 0) (.cst (.int 3))) (.cst (.int 0)))) (.seq (.ret (.tupE (.acons (.cst (.str (S "name"))) (.acons (.bin .Mod (.bin .FloorDiv (.var 0) (.cst (.int 3))) (.var 1)) .anil))))
 .skip) .skip)
 (.seq (.ret (.tupE (.acons (.cst (.str (S "number"))) (.acons (.call 20 (.acons (.bin .FloorDiv (.var 0) (.cst (.int 3))) .anil) []) .anil))))
 .skip))⟩
noncomputable def VA:FD:=⟨3,5,(.seq (.set 3 (.call 28 (.acons (.ix (.var 0) (.cst (.int 1))) (.acons (.var 1) .anil)) []))
 (.seq (.set 4 (.call 28 (.acons (.ix (.var 0) (.cst (.int 2))) (.acons (.var 1) .anil)) []))
 (.seq (.ite (.and (.cmp .Lt (.bin .Mod (.ix (.var 0) (.cst (.int 0))) (.cst (.int 8))) (.cst (.int 4))) (.cmp .Gt (.var 1) (.cst (.int 0)))) (.seq (.ret (.tupE (.acons (.cst (.str (S "put"))) (.acons (.bin .Mod (.ix (.var 0) (.cst (.int 3))) (.var 1)) (.acons (.var 3) (.acons (.ix (.lstE (.acons (.cst (.str (S "+"))) (.acons (.cst (.str (S "-"))) (.acons (.cst (.str (S "*"))) (.acons (.cst (.str (S "/"))) (.acons (.cst (.str (S "mod"))) .anil)))))) (.bin .Mod (.bin .FloorDiv (.ix (.var 0) (.cst (.int 0))) (.cst (.int 8))) (.cst (.int 5)))) (.acons (.var 4) .anil)))))))
 .skip) .skip)
 (.seq (.ite (.cmp .Lt (.bin .Mod (.ix (.var 0) (.cst (.int 0))) (.cst (.int 8))) (.cst (.int 6))) (.seq (.ret (.tupE (.acons (.cst (.str (S "if"))) (.acons (.var 3) (.acons (.ix (.lstE (.acons (.cst (.str (S "<"))) (.acons (.cst (.str (S "<="))) (.acons (.cst (.str (S "="))) (.acons (.cst (.str (S ">="))) (.acons (.cst (.str (S ">"))) (.acons (.cst (.str (S "!="))) .anil))))))) (.bin .Mod (.bin .FloorDiv (.ix (.var 0) (.cst (.int 0))) (.cst (.int 8))) (.cst (.int 6)))) (.acons (.var 4) (.acons (.bin .Mod (.ix (.var 0) (.cst (.int 3))) (.bin .Add (.var 2) (.cst (.int 1)))) .anil)))))))
 .skip) .skip)
 (.seq (.ite (.cmp .Eq (.bin .Mod (.ix (.var 0) (.cst (.int 0))) (.cst (.int 8))) (.cst (.int 6))) (.seq (.ret (.tupE (.acons (.cst (.str (S "tell"))) (.acons (.var 3) .anil))))
 .skip) .skip)
 (.seq (.ret (.ix (.lstE (.acons (.tupE (.acons (.cst (.str (S "go"))) (.acons (.bin .Mod (.ix (.var 0) (.cst (.int 3))) (.bin .Add (.var 2) (.cst (.int 1)))) .anil))) (.acons (.tupE (.acons (.cst (.str (S "skip"))) .anil)) .anil))) (.bin .Mod (.bin .FloorDiv (.ix (.var 0) (.cst (.int 0))) (.cst (.int 8))) (.cst (.int 2)))))
 .skip))))))⟩
noncomputable def Y4:CS:=(.seq (.set 1 (.bin .Mult (.var 1) (.bin .Add (.bin .Sub (.var 3) (.var 2)) (.cst (.int 1)))))
 .skip)
noncomputable def c_width:FD:=⟨1,4,(.seq (.set 1 (.cst (.int 1)))
 (.seq (.for2 2 3 (.ix (.var 0) (.cst (.int 0))) Y4)
 (.seq (.ret (.var 1))
 .skip)))⟩
noncomputable def Xj:CE:=(.comp false [4] (.var 2) (.bin .Add (.var 1) (.tupE (.acons (.var 0) .anil))) (.cst (.bl true)))
noncomputable def Yx:CS:=(.seq (.ext 3 Xj)
 .skip)
noncomputable def ZV:CS:=(.seq (.set 3 (.lstE .anil))
 (.seq (.for1 4 false (.var 1) Yx)
 (.seq (.set 1 (.var 3))
 .skip)))
noncomputable def c_inputs_of:FD:=⟨1,5,(.seq (.set 1 (.lstE (.acons (.tupE .anil) .anil)))
 (.seq (.for1 2 false (.var 0) ZV)
 (.seq (.ret (.tupleOf (.var 1)))
 .skip)))⟩
noncomputable def c_is_wide:FD:=⟨1,1,(.seq (.ret (.cmp .Gt (.call 133 (.acons (.var 0) .anil) []) (.cst (.int 64))))
 .skip)⟩
noncomputable def c_box:FD:=⟨1,1,(.seq (.ite (.call 135 (.acons (.var 0) .anil) []) (.seq .stop
 .skip) .skip)
 (.seq (.ret (.call 134 (.acons (.compT [] (.ix (.var 0) (.cst (.int 0))) (.lstR (.var 0) (.bin .Add (.var 1) (.cst (.int 1)))) (.cst (.bl true))) .anil) []))
 .skip))⟩
noncomputable def ZJ:CS:=(.seq (.ite (.cmp .NotIn (.var 3) (.var 2)) (.seq (.app 2 (.var 3))
 .skip) .skip)
 .skip)
noncomputable def c_menu_numbers:FD:=⟨2,4,(.seq (.set 2 (.lstE .anil))
 (.seq (.for1 3 false (.tupE (.acons (.var 0) (.acons (.bin .FloorDiv (.bin .Add (.var 0) (.var 1)) (.cst (.int 2))) (.acons (.var 1) .anil)))) ZJ)
 (.seq (.ret (.var 2))
 .skip)))⟩
noncomputable def c_menu:FD:=⟨1,1,(.seq (.ret (.call 134 (.acons (.compT [] (.ix (.var 0) (.cst (.int 0))) (.call 137 (.acons (.var 0) (.acons (.var 1) .anil)) []) (.cst (.bl true))) .anil) []))
 .skip)⟩
noncomputable def c_tried:FD:=⟨1,1,(.seq (.ret (.ife (.call 135 (.acons (.var 0) .anil) []) (.call 138 (.acons (.var 0) .anil) []) (.call 136 (.acons (.var 0) .anil) [])))
 .skip)⟩
noncomputable def YO:CS:=(.seq (.ite (.call 99 (.acons (.var 0) (.acons (.var 1) (.acons (.var 3) (.acons (.var 2) .anil)))) []) (.seq (.ret (.var 3))
 .skip) .skip)
 .skip)
noncomputable def c_sought:FD:=⟨3,4,(.seq (.for1 3 false (.call 139 (.acons (.var 0) .anil) []) YO)
 (.seq (.ret (.cst .non))
 .skip))⟩
noncomputable def J4:FD:=⟨3,3,(.seq (.ite (.cmp .Eq (.var 1) (.cst (.str (S "+")))) (.seq (.ret (.call 89 (.acons (.bin .Add (.var 0) (.var 2)) .anil) []))
 .skip) .skip)
 (.seq (.ite (.cmp .Eq (.var 1) (.cst (.str (S "-")))) (.seq (.ret (.call 89 (.acons (.bin .Sub (.var 0) (.var 2)) .anil) []))
 .skip) .skip)
 (.seq (.ite (.cmp .Eq (.var 1) (.cst (.str (S "*")))) (.seq (.ret (.call 89 (.acons (.bin .Mult (.var 0) (.var 2)) .anil) []))
 .skip) .skip)
 (.seq (.ite (.cmp .Eq (.var 1) (.cst (.str (S "/")))) (.seq (.ret (.ife (.cmp .Eq (.var 2) (.cst (.int 0))) (.cst (.int 0)) (.call 89 (.acons (.bin .FloorDiv (.var 0) (.var 2)) .anil) [])))
 .skip) .skip)
 (.seq (.ret (.ife (.cmp .Eq (.var 2) (.cst (.int 0))) (.var 0) (.bin .Sub (.var 0) (.bin .Mult (.var 2) (.bin .FloorDiv (.var 0) (.var 2))))))
 .skip)))))⟩
noncomputable def Ui:FD:=⟨3,3,(.seq (.ite (.cmp .Lt (.var 0) (.var 2)) (.seq (.ret (.cmp .In (.var 1) (.lstE (.acons (.cst (.str (S "<"))) (.acons (.cst (.str (S "<="))) (.acons (.cst (.str (S "!="))) .anil))))))
 .skip) .skip)
 (.seq (.ite (.cmp .Gt (.var 0) (.var 2)) (.seq (.ret (.cmp .In (.var 1) (.lstE (.acons (.cst (.str (S ">"))) (.acons (.cst (.str (S ">="))) (.acons (.cst (.str (S "!="))) .anil))))))
 .skip) .skip)
 (.seq (.ret (.cmp .In (.var 1) (.lstE (.acons (.cst (.str (S "<="))) (.acons (.cst (.str (S "="))) (.acons (.cst (.str (S ">="))) .anil))))))
 .skip)))⟩
noncomputable def WP:CS:=(.seq (.ite (.cmp .Eq (.var 5) (.len (.var 0))) (.seq (.ret (.tupE (.acons (.cst (.str (S "none"))) .anil)))
 .skip) .skip)
 (.seq (.set 7 (.ix (.var 0) (.var 5)))
 (.seq (.set 5 (.bin .Add (.var 5) (.cst (.int 1))))
 (.seq (.ite (.cmp .Eq (.ix (.var 7) (.cst (.int 0))) (.cst (.str (S "tell")))) (.seq (.ret (.tupE (.acons (.cst (.str (S "told"))) (.acons (.call 34 (.acons (.ix (.var 7) (.cst (.int 1))) (.acons (.var 4) .anil)) []) .anil))))
 .skip) .skip)
 (.seq (.ite (.cmp .Eq (.ix (.var 7) (.cst (.int 0))) (.cst (.str (S "put")))) (.seq (.put 4 (.ix (.var 7) (.cst (.int 1))) (.call 187 (.acons (.call 34 (.acons (.ix (.var 7) (.cst (.int 2))) (.acons (.var 4) .anil)) []) (.acons (.ix (.var 7) (.cst (.int 3))) (.acons (.call 34 (.acons (.ix (.var 7) (.cst (.int 4))) (.acons (.var 4) .anil)) []) .anil))) []))
 .skip) .skip)
 (.seq (.ite (.cmp .Eq (.ix (.var 7) (.cst (.int 0))) (.cst (.str (S "go")))) (.seq (.set 5 (.ix (.var 7) (.cst (.int 1))))
 .skip) .skip)
 (.seq (.ite (.cmp .Eq (.ix (.var 7) (.cst (.int 0))) (.cst (.str (S "if")))) (.seq (.set 8 (.call 34 (.acons (.ix (.var 7) (.cst (.int 1))) (.acons (.var 4) .anil)) []))
 (.seq (.ite (.call 33 (.acons (.var 8) (.acons (.ix (.var 7) (.cst (.int 2))) (.acons (.call 34 (.acons (.ix (.var 7) (.cst (.int 3))) (.acons (.var 4) .anil)) []) .anil))) []) (.seq (.set 5 (.ix (.var 7) (.cst (.int 4))))
 .skip) .skip)
 .skip)) .skip)
 .skip)))))))
noncomputable def Vz:FD:=⟨4,9,(.seq (.set 4 (.bin .Add (.listOf (.var 2)) (.bin .Mult (.lstE (.acons (.cst (.int 0)) .anil)) (.bin .Sub (.var 1) (.len (.var 2))))))
 (.seq (.set 5 (.cst (.int 0)))
 (.seq (.for1 6 true (.var 3) WP)
 (.seq (.ite (.cmp .Eq (.var 5) (.len (.var 0))) (.seq (.ret (.tupE (.acons (.cst (.str (S "none"))) .anil)))
 .skip) .skip)
 (.seq (.ret (.tupE (.acons (.cst (.str (S "late"))) .anil)))
 .skip)))))⟩
noncomputable def Yb:CS:=(.seq (.ite (.or (.not (.isi .int (.ix (.var 0) (.var 2)))) (.or (.isi .bool (.ix (.var 0) (.var 2))) (.cmp .NotEq (.ix (.var 0) (.var 2)) (.ix (.var 1) (.var 2))))) (.seq (.ret (.cst (.bl false)))
 .skip) .skip)
 .skip)
noncomputable def c__law_alike_k47:FD:=⟨2,3,(.seq (.ite (.or (.cmp .Is (.var 1) (.cst .non)) (.or (.not (.isi .tuple (.var 0))) (.cmp .NotEq (.len (.var 0)) (.len (.var 1))))) (.seq (.ret (.and (.cmp .Is (.var 0) (.cst .non)) (.cmp .Is (.var 1) (.cst .non))))
 .skip) .skip)
 (.seq (.for1 2 true (.len (.var 1)) Yb)
 (.seq (.ret (.cst (.bl true)))
 .skip)))⟩
noncomputable def c__law_number_by_k47:FD:=⟨1,1,(.seq (.ite (.cmp .Eq (.bin .Mod (.var 0) (.cst (.int 3))) (.cst (.int 0))) (.seq (.ret (.ix (.lstE (.acons (.neg (.cst (.int 1000000000))) (.acons (.cst (.int 999999999)) (.acons (.neg (.cst (.int 1))) (.acons (.cst (.int 0)) (.acons (.cst (.int 1)) (.acons (.cst (.int 2)) (.acons (.neg (.cst (.int 999999999))) (.acons (.cst (.int 999999998)) .anil))))))))) (.bin .Mod (.bin .FloorDiv (.var 0) (.cst (.int 3))) (.cst (.int 8)))))
 .skip) .skip)
 (.seq (.ite (.cmp .Eq (.bin .Mod (.var 0) (.cst (.int 3))) (.cst (.int 1))) (.seq (.ret (.bin .Sub (.bin .Mod (.bin .FloorDiv (.var 0) (.cst (.int 3))) (.cst (.int 7))) (.cst (.int 3))))
 .skip) .skip)
 (.seq (.ret (.bin .Sub (.bin .Mod (.bin .Mult (.bin .FloorDiv (.var 0) (.cst (.int 3))) (.cst (.int 48271))) (.cst (.int 2000000000))) (.cst (.int 1000000000))))
 .skip)))⟩
noncomputable def c__law_operand_by_k47:FD:=⟨2,2,(.seq (.ite (.cmp .Lt (.bin .Mod (.var 0) (.cst (.int 5))) (.cst (.int 3))) (.seq (.ret (.tupE (.acons (.cst (.str (S "name"))) (.acons (.bin .Mod (.bin .FloorDiv (.var 0) (.cst (.int 5))) (.var 1)) .anil))))
 .skip) .skip)
 (.seq (.ret (.tupE (.acons (.cst (.str (S "number"))) (.acons (.call 18 (.acons (.bin .FloorDiv (.var 0) (.cst (.int 5))) .anil) []) .anil))))
 .skip))⟩
noncomputable def c__law_row_by_k47:FD:=⟨3,7,(.seq (.set 3 (.call 71 (.acons (.ix (.var 0) (.cst (.int 1))) (.acons (.var 1) .anil)) []))
 (.seq (.set 4 (.call 71 (.acons (.ix (.var 0) (.cst (.int 2))) (.acons (.var 1) .anil)) []))
 (.seq (.set 5 (.bin .Mod (.bin .FloorDiv (.ix (.var 0) (.cst (.int 3))) (.cst (.int 5))) (.bin .Add (.var 2) (.cst (.int 1)))))
 (.seq (.set 6 (.bin .FloorDiv (.ix (.var 0) (.cst (.int 0))) (.cst (.int 8))))
 (.seq (.ite (.cmp .Lt (.bin .Mod (.ix (.var 0) (.cst (.int 0))) (.cst (.int 8))) (.cst (.int 3))) (.seq (.ret (.tupE (.acons (.cst (.str (S "put"))) (.acons (.bin .Mod (.bin .Mod (.ix (.var 0) (.cst (.int 3))) (.cst (.int 5))) (.var 1)) (.acons (.var 3) (.acons (.ix (.lstE (.acons (.cst (.str (S "+"))) (.acons (.cst (.str (S "-"))) (.acons (.cst (.str (S "*"))) (.acons (.cst (.str (S "/"))) (.acons (.cst (.str (S "mod"))) .anil)))))) (.bin .Mod (.var 6) (.cst (.int 5)))) (.acons (.var 4) .anil)))))))
 .skip) .skip)
 (.seq (.ite (.cmp .Lt (.bin .Mod (.ix (.var 0) (.cst (.int 0))) (.cst (.int 8))) (.cst (.int 5))) (.seq (.ret (.tupE (.acons (.cst (.str (S "if"))) (.acons (.var 3) (.acons (.ix (.lstE (.acons (.cst (.str (S "<"))) (.acons (.cst (.str (S "<="))) (.acons (.cst (.str (S "="))) (.acons (.cst (.str (S ">="))) (.acons (.cst (.str (S ">"))) (.acons (.cst (.str (S "!="))) .anil))))))) (.bin .Mod (.var 6) (.cst (.int 6)))) (.acons (.var 4) (.acons (.var 5) .anil)))))))
 .skip) .skip)
 (.seq (.ite (.cmp .Eq (.bin .Mod (.ix (.var 0) (.cst (.int 0))) (.cst (.int 8))) (.cst (.int 5))) (.seq (.ret (.tupE (.acons (.cst (.str (S "go"))) (.acons (.var 5) .anil))))
 .skip) .skip)
 (.seq (.ite (.cmp .Eq (.bin .Mod (.ix (.var 0) (.cst (.int 0))) (.cst (.int 8))) (.cst (.int 6))) (.seq (.ret (.tupE (.acons (.cst (.str (S "tell"))) (.acons (.var 3) .anil))))
 .skip) .skip)
 (.seq (.ret (.tupE (.acons (.cst (.str (S "skip"))) .anil)))
 .skip)))))))))⟩
noncomputable def c__law_widths_k47:FD:=⟨1,2,(.seq (.set 1 (.bin .FloorDiv (.var 0) (.cst (.int 8))))
 (.seq (.ite (.cmp .Eq (.bin .Mod (.var 0) (.cst (.int 8))) (.cst (.int 4))) (.seq (.ret (.ix (.lstE (.acons (.lstE (.acons (.cst (.int 64)) .anil)) (.acons (.lstE (.acons (.cst (.int 8)) (.acons (.cst (.int 8)) .anil))) (.acons (.lstE (.acons (.cst (.int 4)) (.acons (.cst (.int 4)) (.acons (.cst (.int 4)) .anil)))) (.acons (.lstE (.acons (.cst (.int 2)) (.acons (.cst (.int 32)) .anil))) (.acons (.lstE (.acons (.cst (.int 1)) (.acons (.cst (.int 64)) .anil))) (.acons (.lstE (.acons (.cst (.int 16)) (.acons (.cst (.int 2)) (.acons (.cst (.int 2)) .anil)))) .anil))))))) (.bin .Mod (.var 1) (.cst (.int 6)))))
 .skip) .skip)
 (.seq (.ite (.cmp .Eq (.bin .Mod (.var 0) (.cst (.int 8))) (.cst (.int 5))) (.seq (.ret (.ix (.lstE (.acons (.lstE (.acons (.cst (.int 65)) .anil)) (.acons (.lstE (.acons (.cst (.int 5)) (.acons (.cst (.int 13)) .anil))) (.acons (.lstE (.acons (.cst (.int 13)) (.acons (.cst (.int 5)) .anil))) (.acons (.lstE (.acons (.cst (.int 22)) (.acons (.cst (.int 3)) .anil))) (.acons (.lstE (.acons (.cst (.int 1)) (.acons (.cst (.int 65)) .anil))) (.acons (.lstE (.acons (.cst (.int 4)) (.acons (.cst (.int 4)) (.acons (.cst (.int 5)) .anil)))) .anil))))))) (.bin .Mod (.var 1) (.cst (.int 6)))))
 .skip) .skip)
 (.seq (.ite (.cmp .Eq (.bin .Mod (.var 0) (.cst (.int 8))) (.cst (.int 6))) (.seq (.ret (.lstE (.acons (.bin .Add (.cst (.int 1)) (.bin .Mod (.bin .FloorDiv (.var 1) (.cst (.int 7))) (.cst (.int 5)))) (.acons (.bin .Add (.cst (.int 1)) (.bin .Mod (.var 1) (.cst (.int 2000000000)))) .anil))))
 .skip) .skip)
 (.seq (.ite (.cmp .Eq (.bin .Mod (.var 0) (.cst (.int 8))) (.cst (.int 7))) (.seq (.ret (.slice (.lstE (.acons (.cst (.int 2000000000)) (.acons (.bin .Add (.cst (.int 1)) (.bin .Mod (.var 1) (.cst (.int 2000000000)))) (.acons (.cst (.int 3)) .anil)))) .nop (.part (.bin .Add (.cst (.int 1)) (.bin .Mod (.var 1) (.cst (.int 3)))))))
 .skip) .skip)
 (.seq (.ret (.slice (.lstE (.acons (.bin .Add (.cst (.int 1)) (.bin .Mod (.var 1) (.cst (.int 4)))) (.acons (.bin .Add (.cst (.int 1)) (.bin .Mod (.bin .FloorDiv (.var 1) (.cst (.int 4))) (.cst (.int 4)))) (.acons (.cst (.int 1)) .anil)))) .nop (.part (.bin .Mod (.var 0) (.cst (.int 8))))))
 .skip))))))⟩
noncomputable def ZQ:CS:=(.seq (.set 5 (.min (.call 18 (.acons (.ix (.var 1) (.var 3)) .anil) []) (.bin .Sub (.cst (.int 1000000000)) (.var 4))))
 (.seq (.app 2 (.tupE (.acons (.var 5) (.acons (.bin .Sub (.bin .Add (.var 5) (.var 4)) (.cst (.int 1))) .anil))))
 .skip))
noncomputable def c__law_takes:FD:=⟨2,6,(.seq (.set 2 (.lstE .anil))
 (.seq (.forE 3 4 (.var 0) ZQ)
 (.seq (.ret (.tupleOf (.var 2)))
 .skip)))⟩
noncomputable def c__law_fitted:FD:=⟨2,2,(.seq (.ite (.cmp .Eq (.ix (.var 0) (.cst (.int 0))) (.cst (.str (S "go")))) (.seq (.ret (.tupE (.acons (.cst (.str (S "go"))) (.acons (.min (.ix (.var 0) (.cst (.int 1))) (.var 1)) .anil))))
 .skip) .skip)
 (.seq (.ite (.cmp .Eq (.ix (.var 0) (.cst (.int 0))) (.cst (.str (S "if")))) (.seq (.ret (.bin .Add (.slice (.var 0) .nop (.part (.cst (.int 4)))) (.tupE (.acons (.min (.ix (.var 0) (.cst (.int 4))) (.var 1)) .anil))))
 .skip) .skip)
 (.seq (.ret (.var 0))
 .skip)))⟩
noncomputable def YH:CE:=(.comp false [4] (.var 4) (.call 192 (.acons (.var 0) (.acons (.len (.var 1)) .anil)) []) (.cst (.bl true)))
noncomputable def c__law_rows_of_other:FD:=⟨3,5,(.seq (.set 3 (.bin .Mod (.bin .FloorDiv (.var 2) (.cst (.int 5))) (.max (.cst (.int 1)) (.len (.var 0)))))
 (.seq (.ite (.and (.cmp .Eq (.bin .Mod (.var 2) (.cst (.int 5))) (.cst (.int 0))) (.cmp .Lt (.len (.var 0)) (.cst (.int 12)))) (.seq (.ret (.bin .Add (.var 0) (.tupE (.acons (.var 1) .anil))))
 .skip) .skip)
 (.seq (.ite (.and (.cmp .Eq (.bin .Mod (.var 2) (.cst (.int 5))) (.cst (.int 1))) (.cmp .Gt (.len (.var 0)) (.cst (.int 1)))) (.seq (.set 4 (.bin .Add (.slice (.var 0) .nop (.part (.var 3))) (.slice (.var 0) (.part (.neg (.cst (.int 1)))) .nop)))
 (.seq (.ret (.tupleOf YH))
 .skip)) .skip)
 (.seq (.ite (.cmp .Eq (.var 0) (.tupE .anil)) (.seq (.ret (.var 0))
 .skip) .skip)
 (.seq (.ret (.bin .Add (.bin .Add (.slice (.var 0) .nop (.part (.var 3))) (.tupE (.acons (.var 1) .anil))) (.slice (.var 0) (.part (.bin .Add (.var 3) (.cst (.int 1)))) .nop)))
 .skip)))))⟩
noncomputable def Zx:CS:=(.seq (.ite (.cmp .Eq (.var 4) (.len (.ix (.var 0) (.cst (.int 2))))) (.seq .brk
 .skip) .skip)
 (.seq (.set 6 (.ix (.ix (.var 0) (.cst (.int 2))) (.var 4)))
 (.seq (.set 4 (.bin .Add (.var 4) (.cst (.int 1))))
 (.seq (.ite (.cmp .Eq (.ix (.var 6) (.cst (.int 0))) (.cst (.str (S "tell")))) (.seq (.ret (.tupE (.acons (.cst (.str (S "told"))) (.acons (.call 34 (.acons (.ix (.var 6) (.cst (.int 1))) (.acons (.var 3) .anil)) []) .anil))))
 .skip) .skip)
 (.seq (.ite (.cmp .Eq (.ix (.var 6) (.cst (.int 0))) (.cst (.str (S "go")))) (.seq (.set 4 (.ix (.var 6) (.cst (.int 1))))
 .skip) (.seq (.ite (.cmp .Eq (.ix (.var 6) (.cst (.int 0))) (.cst (.str (S "put")))) (.seq (.put 3 (.ix (.var 6) (.cst (.int 1))) (.call 32 (.acons (.call 34 (.acons (.ix (.var 6) (.cst (.int 2))) (.acons (.var 3) .anil)) []) (.acons (.ix (.var 6) (.cst (.int 3))) (.acons (.call 34 (.acons (.ix (.var 6) (.cst (.int 4))) (.acons (.var 3) .anil)) []) .anil))) []))
 .skip) (.seq (.ite (.and (.cmp .Eq (.ix (.var 6) (.cst (.int 0))) (.cst (.str (S "if")))) (.call 33 (.acons (.call 34 (.acons (.ix (.var 6) (.cst (.int 1))) (.acons (.var 3) .anil)) []) (.acons (.ix (.var 6) (.cst (.int 2))) (.acons (.call 34 (.acons (.ix (.var 6) (.cst (.int 3))) (.acons (.var 3) .anil)) []) .anil))) [])) (.seq (.set 4 (.ix (.var 6) (.cst (.int 4))))
 .skip) .skip)
 .skip))
 .skip))
 .skip)))))
noncomputable def c__law_outcome_k47:FD:=⟨3,7,(.seq (.set 3 (.bin .Add (.listOf (.var 1)) (.bin .Mult (.lstE (.acons (.cst (.int 0)) .anil)) (.bin .Sub (.ix (.var 0) (.cst (.int 1))) (.len (.var 1))))))
 (.seq (.set 4 (.cst (.int 0)))
 (.seq (.for1 5 true (.var 2) Zx)
 (.seq (.ite (.cmp .Eq (.var 4) (.len (.ix (.var 0) (.cst (.int 2))))) (.seq (.ret (.tupE (.acons (.cst (.str (S "none"))) .anil)))
 .skip) .skip)
 (.seq (.ret (.tupE (.acons (.cst (.str (S "late"))) .anil)))
 .skip)))))⟩
noncomputable def ZO:CS:=(.seq (.ite (.cmp .LtE (.var 1) (.cst (.int 64))) (.seq (.app 2 (.lstR (.var 3) (.bin .Add (.var 4) (.cst (.int 1)))))
 .skip) (.seq (.app 2 (.srt (.acons (.var 3) (.acons (.bin .Add (.var 3) (.bin .FloorDiv (.bin .Sub (.var 4) (.var 3)) (.cst (.int 2)))) (.acons (.var 4) .anil)))))
 .skip))
 .skip)
noncomputable def c__law_choices:FD:=⟨2,5,(.seq (.set 2 (.lstE .anil))
 (.seq (.for2 3 4 (.var 0) ZO)
 (.seq (.ret (.var 2))
 .skip)))⟩
noncomputable def Z1:CS:=(.seq (.set 4 (.compT [] (.call 196 (.acons (.var 4) (.acons (.var 5) .anil)) []) (.bin .Add (.var 0) (.tupE (.acons (.var 1) .anil))) (.cst (.bl true))))
 .skip)
noncomputable def YD:CS:=(.seq (.set 1 (.bin .Mult (.var 1) (.bin .Sub (.bin .Add (.var 3) (.cst (.int 1))) (.var 2))))
 .skip)
noncomputable def c__law_tried:FD:=⟨1,6,(.seq (.set 1 (.cst (.int 1)))
 (.seq (.for2 2 3 (.var 0) YD)
 (.seq (.set 4 (.lstE (.acons (.tupE .anil) .anil)))
 (.seq (.for1 5 false (.call 194 (.acons (.var 0) (.acons (.var 1) .anil)) []) Z1)
 (.seq (.ret (.var 4))
 .skip)))))⟩
noncomputable def Yl:CS:=(.seq (.app 2 (.tupE (.acons (.var 3) (.acons (.var 4) .anil))))
 .skip)
noncomputable def Z0:CS:=(.seq (.for1 4 false (.var 1) Yl)
 .skip)
noncomputable def c__law_pairs:FD:=⟨2,5,(.seq (.set 2 (.lstE .anil))
 (.seq (.for1 3 false (.var 0) Z0)
 (.seq (.ret (.var 2))
 .skip)))⟩
noncomputable def YE:CE:=(.comp true [7,0] (.cst (.int 4)) (.call 27 (.acons (.var 2) (.acons (.bin .Add (.bin .Add (.cst (.int 8)) (.bin .Mult (.cst (.int 4)) (.var 1))) (.var 0)) .anil)) []) (.cst (.bl true)))
noncomputable def YF:CE:=(.comp true [0] (.cst (.int 3)) (.call 27 (.acons (.var 1) (.acons (.bin .Add (.cst (.int 2)) (.var 0)) .anil)) []) (.cst (.bl true)))
noncomputable def YG:CE:=(.comp true [0] (.cst (.int 4)) (.call 27 (.acons (.var 1) (.acons (.bin .Add (.cst (.int 4)) (.var 0)) .anil)) []) (.cst (.bl true)))
noncomputable def Yk:CS:=(.seq (.app 6 (.call 72 (.acons YE (.acons (.var 2) (.acons (.var 5) .anil))) []))
 .skip)
noncomputable def c__law_programs:FD:=⟨1,13,(.seq (.set 1 (.call 142 (.acons (.call 27 (.acons (.var 0) (.acons (.cst (.int 0)) .anil)) []) .anil) []))
 (.seq (.set 2 (.max (.len (.var 1)) (.bin .Add (.cst (.int 1)) (.bin .Mod (.call 27 (.acons (.var 0) (.acons (.cst (.int 1)) .anil)) []) (.cst (.int 5))))))
 (.seq (.set 3 (.min (.cst (.int 11)) (.bin .FloorDiv (.bin .Sub (.max (.len (.var 0)) (.cst (.int 8))) (.cst (.int 5))) (.cst (.int 4)))))
 (.seq (.set 4 (.slice (.lstE (.acons (.tupE (.acons (.cst (.str (S "tell"))) (.acons (.tupE (.acons (.cst (.str (S "name"))) (.acons (.bin .Mod (.bin .FloorDiv (.call 27 (.acons (.var 0) (.acons (.cst (.int 1)) .anil)) []) (.cst (.int 20))) (.var 2)) .anil))) .anil))) .anil)) .nop (.part (.bin .Mod (.bin .FloorDiv (.call 27 (.acons (.var 0) (.acons (.cst (.int 1)) .anil)) []) (.cst (.int 5))) (.cst (.int 4))))))
 (.seq (.set 5 (.bin .Add (.var 3) (.len (.var 4))))
 (.seq (.set 6 (.lstE .anil))
 (.seq (.for1 7 true (.var 3) Yk)
 (.seq (.set 8 (.call 191 (.acons (.var 1) (.acons YF .anil)) []))
 (.seq (.set 9 (.call 72 (.acons YG (.acons (.var 2) (.acons (.var 5) .anil))) []))
 (.seq (.set 10 (.bin .FloorDiv (.call 27 (.acons (.var 0) (.acons (.cst (.int 5)) .anil)) []) (.cst (.int 15))))
 (.seq (.set 11 (.tupE (.acons (.call 191 (.acons (.rs false (.var 1)) (.acons (.lstE (.acons (.call 27 (.acons (.var 0) (.acons (.cst (.int 3)) .anil)) []) (.acons (.cst (.int 3)) (.acons (.cst (.int 6)) .anil)))) .anil)) []) (.acons (.min (.cst (.int 5)) (.bin .Add (.var 2) (.bin .Mod (.var 10) (.cst (.int 2))))) .anil))))
 (.seq (.set 12 (.tupE (.acons (.var 8) (.acons (.var 2) (.acons (.tupleOf (.bin .Add (.var 6) (.var 4))) .anil)))))
 (.seq (.ret (.tupE (.acons (.var 12) (.acons (.bin .Add (.var 11) (.tupE (.acons (.call 193 (.acons (.ix (.var 12) (.cst (.int 2))) (.acons (.var 9) (.acons (.bin .FloorDiv (.var 10) (.cst (.int 2))) .anil))) []) .anil))) .anil))))
 .skip)))))))))))))⟩
noncomputable def Z5:CS:=(.seq (.ite (.and (.cmp .Is (.var 5) (.cst .non)) (.cmp .NotEq (.call 188 (.acons (.var 1) (.acons (.var 6) (.acons (.var 4) .anil))) []) (.call 188 (.acons (.var 2) (.acons (.var 6) (.acons (.var 4) .anil))) []))) (.seq (.set 5 (.var 6))
 .skip) .skip)
 .skip)
noncomputable def c_law_k47:FD:=⟨1,7,(.seq (.set2 1 2 (.call 197 (.acons (.var 0) .anil) []))
 (.seq (.set 3 (.call 195 (.acons (.ix (.var 1) (.cst (.int 0))) .anil) []))
 (.seq (.set 4 (.bin .Mod (.bin .FloorDiv (.call 27 (.acons (.var 0) (.acons (.cst (.int 2)) .anil)) []) (.cst (.int 24))) (.cst (.int 25))))
 (.seq (.ite (.cmp .Gt (.len (.var 3)) (.cst (.int 16))) (.seq (.set 4 (.bin .Mod (.var 4) (.cst (.int 7))))
 .skip) .skip)
 (.seq (.set 5 (.cst .non))
 (.seq (.for1 6 false (.var 3) Z5)
 (.seq (.ret (.call 36 (.acons (.call 140 (.acons (.var 1) (.acons (.var 2) (.acons (.var 4) .anil))) []) (.acons (.var 5) .anil)) []))
 .skip)))))))⟩
end Dp

noncomputable section
namespace Dp
open PySem
def ZN(x:Int):Int:=(x+1000000000) % 2000000000 - 1000000000
theorem Zbx{x:Int}:-1000000000≤ZN x:=by unfold ZN;omega
theorem Zbw{x:Int}:ZN x≤999999999:=by unfold ZN;omega
theorem U8{x:Int}(h:-1000000000≤x)(h':x≤999999999):ZN x=x:=by unfold ZN;omega
def quo(a b:Int):Int:=a.fdiv b
theorem Vq{a b:Int}(h:0 < b):a / b=quo a b:=(Int.fdiv_eq_ediv_of_nonneg a (Int.le_of_lt h)).symm
theorem ZfG{a b:Int}(h:b < 0):quo a b=-a / -b:=by
 unfold quo;rw[←Int.neg_fdiv_neg];exact Int.fdiv_eq_ediv_of_nonneg _ (by omega)
theorem ZdY{a b:Int}(h:0 < b):0≤a - b * quo a b∧a - b * quo a b < b:=by
 rw[←Vq h];have e:=Int.emod_def a b;have h1:=Int.emod_nonneg a (show b≠0 by omega)
 have h2:=Int.emod_lt_of_pos a h;omega
theorem ZdX{a b:Int}(h:b < 0):b < a - b * quo a b∧a - b * quo a b≤0:=by
 rw[ZfG h];have e:=Int.emod_def (-a) (-b);have h1:=Int.emod_nonneg (-a) (show -b≠0 by omega)
 have h2:=Int.emod_lt_of_pos (-a) (show 0 < -b by omega)
 rw[Int.neg_mul]at e;omega
def YB(a:Int)(s:Str)(b:Int):Int:=
 if s=S "+" then ZN (a+b) else if s=S "-" then ZN (a - b) else if s=S "*" then ZN (a * b) else
 if s=S "/" then (if b=0 then 0 else ZN (quo a b)) else if b=0 then a else a - b * quo a b
def XS(a:Int)(s:Str)(b:Int):Bool:=
 if s=S "<" then decide (a < b) else if s=S "<=" then decide (a≤b) else if s=S "=" then decide (a=b) else if s=S ">=" then decide (b≤a) else if s=S ">" then decide (b < a) else !decide (a=b)
def Sm(a:Int):Prop:=-1000000000≤a∧a≤999999999
instance {a:Int}:Decidable (Sm a):=inferInstanceAs (Decidable (_∧_))
theorem Sm.around{x:Int}:Sm (ZN x):=⟨Zbx,Zbw⟩
theorem Sm.lim{a:Int}(h:Sm a):Z8 a=true:=Za5 (by have:=h.1;omega) (by have:=h.2;omega)
theorem WK{a b:Int}{s:Str}(ha:Sm a)(hb:Sm b):Sm (YB a s b):=by
 unfold YB;split;· exact .around
 split;· exact .around
 split;· exact .around
 split
 ·split
  ·exact⟨by omega,by omega⟩
  ·exact .around
 ·split
  ·exact ha
  ·rename_i h0
   rcases Int.lt_trichotomy b 0 with h|h|h
   ·have:=ZdX (a:=a) h
    exact⟨by have:=hb.1;omega,by omega⟩
   ·exact absurd h h0
   ·have:=ZdY (a:=a) h
    exact⟨by omega,by have:=hb.2;omega⟩
structure NumT(T:Nat→Option FD):Prop where
 t0:T 0=some c_around
 t1:T 1=some c_divided
 t2:T 2=some c_left_over
 t3:T 3=some c_reckon
section
variable {T:Nat→Option FD}{n:Nat}{a b x:Int}{s:Str}
theorem Vv(h:T 0=some c_around):Ze T (n+1) 0 [.int x]=some (.int (ZN x)):=by
 rw[Zo (f:=c_around) h rfl rfl]
 (rw[show ZL c_around.body=[] from rfl];simp[c_around,ZN])
theorem Zbu(t:NumT T)(hb:Sm b):Ze T (n+2) 1 [.int a,.int b]=some (.int (if b=0 then 0 else ZN (quo a b))):=by
 rw[Zo (f:=c_divided) t.t1 rfl rfl];have h1:=hb.1;have h2:=hb.2;rcases Int.lt_trichotomy b 0 with h|h|h
 ·have:¬0 < b:=by omega
  (rw[show ZL c_divided.body=[] from rfl];simp[c_divided,Vv t.t0,this,h,show ¬b=0 by omega,show -1073741824 < b by omega,quo])
 ·(rw[show ZL c_divided.body=[] from rfl];simp[c_divided,h])
 ·(rw[show ZL c_divided.body=[] from rfl];simp[c_divided,Vv t.t0,h,show ¬b=0 by omega,show b < 1073741824 by omega,Vq h])
theorem ZgG(t:NumT T)(hb:Sm b):Ze T (n+1) 2 [.int a,.int b]=some (.int (if b=0 then a else a - b * quo a b)):=by
 rw[Zo (f:=c_left_over) t.t2 rfl rfl];have h1:=hb.1;have h2:=hb.2;rcases Int.lt_trichotomy b 0 with h|h|h
 ·have:¬0 < b:=by omega
  (rw[show ZL c_left_over.body=[] from rfl];simp[c_left_over,this,h,show ¬b=0 by omega,show -1073741824 < b by omega,hb.lim,quo])
 ·(rw[show ZL c_left_over.body=[] from rfl];simp[c_left_over,h])
 ·(rw[show ZL c_left_over.body=[] from rfl];simp[c_left_over,h,show ¬b=0 by omega,show b < 1073741824 by omega,hb.lim,Vq h])
theorem Zcn(t:NumT T)(ha:Sm a)(hb:Sm b):Ze T (n+3) 3 [.int a,.str s,.int b]=some (.int (YB a s b)):=by
 rw[Zo (f:=c_reckon) t.t3 rfl rfl];unfold YB
 (rw[show ZL c_reckon.body=[] from rfl];simp[c_reckon,Vv t.t0,Zbu t hb,ZgG t hb,ha.lim])
 split;· rfl
 split;· rfl
 split;· rfl
 split<;>rfl
theorem Zew(h:T 4=some c_is_so):Ze T (n+1) 4 [.int a,.str s,.int b]=some (.bl (XS a s b)):=by
 rw[Zo (f:=c_is_so) h rfl rfl];unfold XS
 (rw[show ZL c_is_so.body=[] from rfl];simp[c_is_so])
 split;· rfl
 split;· rfl
 split;· rfl
 split;· rfl
 split<;>rfl
end
end Dp


namespace Dp
open PySem
section
variable {T:Nat→Option FD}{n:Nat}{a b c x:Int}{s:Str}
end
end Dp


namespace Dp
open PySem
inductive Opd where
 |name (i:Nat)|num (c:Int)
inductive Row where
 |put (x:Nat) (y:Opd) (s:Str) (z:Opd)|ifr (y:Opd) (s:Str) (z:Opd) (t:Nat)|go (t:Nat)|tell (y:Opd)|skip
def ZF:Opd→P
 |.name i=>.tup [.str (S "name"),.int (i:Int)]
 |.num c=>.tup [.str (S "number"),.int c]
def Zl:Row→P
 |.put x y s z=>.tup [.str (S "put"),.int (x:Int),ZF y,.str s,ZF z]
 |.ifr y s z t=>.tup [.str (S "if"),ZF y,.str s,ZF z,.int (t:Int)]
 |.go t=>.tup [.str (S "go"),.int (t:Int)]
 |.tell y=>.tup [.str (S "tell"),ZF y]
 |.skip=>.tup [.str (S "skip")]
structure Prog where
 takes:P
 many:Nat
 rows:List Row
def Zr(p:Prog):P:=.tup [p.takes,.int (p.many:Int),.tup (p.rows.map Zl)]
abbrev StM:=Nat×List Int
def Zd(vs:List Int):P:=.tup (vs.map .int)
def YN(s:StM):P:=.tup [.int (s.1:Int),Zd s.2]
inductive Out where
 |none|told (v:Int)|late
def ZC:Out→P
 |.none=>.tup [.str (S "none")]
 |.told v=>.tup [.str (S "told"),.int v]
 |.late=>.tup [.str (S "late")]
def YW(m:Nat):Opd→Prop
 |.name i=>i < m
 |.num c=>Sm c
def ZaN(m n:Nat):Row→Prop
 |.put x y _ z=>x < m∧YW m y∧YW m z
 |.ifr y _ z t=>YW m y∧YW m z∧t≤n
 |.go t=>t≤n
 |.tell y=>YW m y
 |.skip=>True
structure ProgOk(p:Prog):Prop where
 rows:∀ r∈p.rows,ZaN p.many p.rows.length r
 many:p.many≤100
 size:p.rows.length≤100
structure VsOk(m:Nat)(vs:List Int):Prop where
 len:vs.length=m
 sm:∀ v∈vs,Sm v
def Zs(vs:List Int):Opd→Int
 |.name i=>vs.getD i 0
 |.num c=>c
theorem Xx{m:Nat}{vs:List Int}{o:Opd}(h:VsOk m vs)(ho:YW m o):Sm (Zs vs o):=by
 cases o with
 |name i=>
  have hi:i < vs.length:=by rw[h.len];exact ho
  show Sm (vs.getD i 0);rw[List.getD_eq_getElem?_getD,List.getElem?_eq_getElem hi];exact h.sm _ (List.getElem_mem hi)
 |num c=>exact ho
def WH(vs:List Int):Row→List Int
 |.put x y s z=>vs.set x (YB (Zs vs y) s (Zs vs z))
 |_=>vs
def VV(k:Nat)(vs:List Int):Row→Nat
 |.go t=>t
 |.ifr y s z t=>if XS (Zs vs y) s (Zs vs z)=true then t else k+1
 |_=>k+1
inductive Thing where
 |st (s:StM)|out (o:Out)
def XI:Thing→P
 |.st s=>YN s
 |.out o=>ZC o
def Ya(rows:List Row)(s:StM):Thing:=match rows[s.1]? with
 |Option.none=>.out .none
 |some (.tell y)=>.out (.told (Zs s.2 y))
 |some r=>.st (VV s.1 s.2 r,WH s.2 r)
structure StOkM(p:Prog)(s:StM):Prop where
 k:s.1≤p.rows.length
 vs:VsOk p.many s.2
theorem QJ{p:Prog}{s s':StM}(hp:ProgOk p)(h:StOkM p s)(e:Ya p.rows s=.st s'):StOkM p s':=by
 unfold Ya at e;split at e
 ·cases e
 ·cases e
 ·rename_i r hn hr
  have ro:=hp.rows r (List.mem_of_getElem? hr);have hk:s.1 < p.rows.length:=(List.getElem?_eq_some_iff.mp hr).1;cases e;refine⟨?_,?_⟩
  ·cases r with
   |go t=>exact ro
   |ifr y z w t=>
    show(if _ then t else s.1+1)≤_
    split
    ·exact ro.2.2
    ·exact hk
   |_=>exact hk
  ·cases r with
   |put x y z w=>
    refine⟨by show(List.set _ _ _).length=_;rw[List.length_set];exact h.vs.len,fun v hv=>?_⟩
    rcases List.mem_or_eq_of_mem_set hv with hv|hv
    ·exact h.vs.sm v hv
    ·rw[hv]
     exact WK (Xx h.vs ro.2.1) (Xx h.vs ro.2.2)
   |_=>exact h.vs
def ZM(rows:List Row):Nat→StM→List StM×Option Out×StM
 |0,s=>([],Option.none,s)
 |l+1,s=>match Ya rows s with
  |.out o=>([],some o,s)
  |.st s'=>(s' :: (ZM rows l s').1,(ZM rows l s').2)
def ZcM(rows:List Row)(s:StM):Out:=if rows.length≤s.1 then .none else .late
def Zaq(rows:List Row)(l:Nat)(s:StM):Out:=match (ZM rows l s).2.1 with
 |some o=>o
 |Option.none=>ZcM rows (ZM rows l s).2.2
def QM(rows:List Row)(l:Nat)(s:StM):List Thing:=.st s :: ((ZM rows l s).1.map .st++[.out (Zaq rows l s)])
def ZE(p:Prog)(ins:List Int):StM:=(0,ins++List.replicate (p.many - ins.length) 0)
theorem JN{p:Prog}{ins:List Int}(h:ins.length≤p.many)(hs:∀ v∈ins,Sm v):StOkM p (ZE p ins):=
 ⟨Nat.zero_le _,by show(ins++_).length=_;simp;omega,fun v hv=>by
  rcases List.mem_append.mp hv with hv|hv
  ·exact hs v hv
  ·rw[(List.mem_replicate.mp hv).2];exact⟨by omega,by omega⟩⟩
structure MoveT(T:Nat→Option FD):Prop where
 num:NumT T
 t4:T 4=some c_is_so
 t5:T 5=some c_worth
 t7:T 7=some c_at_end
 t8:T 8=some c_values_behind
 t9:T 9=some c_place_behind
 t10:T 10=some c_moved
 t42:T 42=some c_replaced
structure MachT(T:Nat→Option FD):Prop extends MoveT T where
 t6:T 6=some c_began
section
variable {T:Nat→Option FD}{n:Nat}{p:Prog}{s:StM}{vs:List Int}{o:Opd}{r:Row}{k m:Nat}{ins:List Int}
theorem U4(h:T 5=some c_worth)(ho:YW vs.length o):Ze T (n+1) 5 [ZF o,Zd vs]=some (.int (Zs vs o)):=by
 rw[Zo (f:=c_worth) h rfl rfl];cases o with
 |name i=>
  have hi:i < vs.length:=ho
  (rw[show ZL c_worth.body=[] from rfl];simp[c_worth,ZF,Zd,Zs,hi])
 |num c=>(rw[show ZL c_worth.body=[] from rfl];simp[c_worth,ZF,Zs])
theorem Zev(h:T 6=some c_began)(h1:ins.length≤p.many)(h2:p.many≤100):Ze T (n+1) 6 [Zr p,Zd ins]=some (YN (ZE p ins)):=by
 rw[Zo (f:=c_began) h rfl rfl];have e:((p.many:Int) - (ins.length:Int)).toNat=p.many - ins.length:=by omega
 (rw[show ZL c_began.body=[] from rfl];simp[c_began,Zr,Zd,YN,ZE,Zc,e])
 omega
theorem QO(h:T 7=some c_at_end):Ze T (n+1) 7 [Zr p,YN s]=some (.bl (decide (p.rows.length≤s.1))):=by
 rw[Zo (f:=c_at_end) h rfl rfl]
 (rw[show ZL c_at_end.body=[] from rfl];simp[c_at_end,Zr,YN])
theorem Zaa{xs:List P}{x:Nat}(h:x≤xs.length):Wg xs Option.none (some (x:Int))=xs.take x:=by
 unfold Wg;have e:sIx xs.length xs.length (some (x:Int))=x:=by
  show(if (x:Int) < 0 then ((x:Int)+(xs.length:Int)).toNat else Nat.min ((x:Int)).toNat xs.length)=_
  rw[if_neg (by omega)]
  exact Nat.min_eq_left h
 rw[e];rfl
theorem Zg3{xs:List P}{x:Nat}(h:x≤xs.length):Wg xs (some (x:Int)) Option.none=xs.drop x:=by
 unfold Wg;have e:sIx xs.length 0 (some (x:Int))=x:=by
  show(if (x:Int) < 0 then ((x:Int)+(xs.length:Int)).toNat else Nat.min ((x:Int)).toNat xs.length)=_
  rw[if_neg (by omega)]
  exact Nat.min_eq_left h
 rw[e];show((xs.drop x).take (xs.length - x))=_;rw[List.take_of_length_le (by simp)]
theorem WL{xs:List P}{x:Nat}(h:x < xs.length):Yt (.tup xs) Option.none (some (x:Int))=some (.tup (xs.take x)):=by
 show(if sIx xs.length 0 Option.none=0∧sIx xs.length xs.length (some (x:Int))=xs.length then some (P.tup xs) else some (P.tup (Wg xs Option.none (some (x:Int)))))=_
 have e:sIx xs.length xs.length (some (x:Int))=x:=by
  show(if (x:Int) < 0 then ((x:Int)+(xs.length:Int)).toNat else Nat.min ((x:Int)).toNat xs.length)=_
  rw[if_neg (by omega)]
  exact Nat.min_eq_left (by omega)
 rw[if_neg (by rw[e];omega),Zaa (by omega)]
theorem V7{xs:List P}{x:Nat}(h:x < xs.length):Yt (.tup xs) (some ((x:Int)+1)) Option.none=some (.tup (xs.drop (x+1))):=by
 rw[show(x:Int)+1=((x+1:Nat):Int) by omega]
 show(if sIx xs.length 0 (some ((x+1:Nat):Int))=0∧sIx xs.length xs.length Option.none=xs.length then some (P.tup xs) else some (P.tup (Wg xs (some ((x+1:Nat):Int)) Option.none)))=_
 have e:sIx xs.length 0 (some ((x+1:Nat):Int))=x+1:=by
  show(if ((x+1:Nat):Int) < 0 then (((x+1:Nat):Int)+(xs.length:Int)).toNat else Nat.min (((x+1:Nat):Int)).toNat xs.length)=_
  rw[if_neg (by omega)]
  exact Nat.min_eq_left (by omega)
 rw[if_neg (by rw[e];omega),Zg3 (by omega)]
theorem JS{xs:List P}{x:Nat}{q:P}(t:T 42=some c_replaced)(hx:x < xs.length)(hl:xs.length≤1000):Ze T (n+1) 42 [.tup xs,.int (x:Int),q]=some (.tup (xs.set x q)):=by
 rw[Zo (f:=c_replaced) t rfl rfl];have s1:=WL (xs:=xs) (x:=x) hx;have s2:=V7 (xs:=xs) (x:=x) hx
 (rw[show ZL c_replaced.body=[] from rfl];simp[c_replaced,s1,s2,Zc,show min x xs.length+1+(xs.length - (x+1))≤1000000 by omega,show min x xs.length+1≤1000000 by omega])
 rw[List.set_eq_take_append_cons_drop,if_pos hx]
theorem Zcp(t:MoveT T)(hv:VsOk m vs)(hm:m≤100)(hr:ZaN m k r):Ze T (n+4) 8 [Zl r,Zd vs]=some (Zd (WH vs r)):=by
 rw[Zo (f:=c_values_behind) t.t8 rfl rfl];cases r with
 |put x y s z=>
  have hx:x < vs.length:=by rw[hv.len];exact hr.1
  have w:∀ j o,YW m o→Ze T (j+1) 5 [ZF o,Zd vs]=some (.int (Zs vs o)):=fun j o ho=>U4 t.t5 (by rw[hv.len];exact ho)
  have re:∀ j,Ze T (j+3) 3 [.int (Zs vs y),.str s,.int (Zs vs z)]=some (.int (YB (Zs vs y) s (Zs vs z))):=fun j=>Zcn t.num (Xx hv hr.2.1) (Xx hv hr.2.2)
  have hl:=hv.len;have rp:Ze T (n+3) 42 [Zd vs,.int (x:Int),.int (YB (Zs vs y) s (Zs vs z))]=some (.tup ((vs.map P.int).set x (.int (YB (Zs vs y) s (Zs vs z))))):=JS (n:=n+2) t.t42 (by simpa using hx) (by simp;omega)
  (rw[show ZL c_values_behind.body=[] from rfl];simp[c_values_behind,Zl,w _ _ hr.2.1,w _ _ hr.2.2,re])
  rw[rp];simp[WH,Zd,List.map_set]
 |ifr y s z t=>(rw[show ZL c_values_behind.body=[] from rfl];simp[c_values_behind,Zl,WH])
 |go t=>(rw[show ZL c_values_behind.body=[] from rfl];simp[c_values_behind,Zl,WH])
 |tell y=>(rw[show ZL c_values_behind.body=[] from rfl];simp[c_values_behind,Zl,WH])
 |skip=>(rw[show ZL c_values_behind.body=[] from rfl];simp[c_values_behind,Zl,WH])
theorem Zax{o:Option PFl}{v:P}(h:o=some (.rt v)):Ys o=some v:=by rw[h];rfl
theorem Z6{F:PFn}{M:List Nat}{c e:CE}{r:CS}{π:Zw}{v:P}(h:pe F c π=some (.bl true))(he:pe F e π=some v):px F M (.seq (.ite c (.seq (.ret e) .skip) .skip) r) π=some (.rt v):=by
 rw[Zj,XC,h,Xe,if_pos rfl,Zj,ZdT,he];rfl
theorem ZX{F:PFn}{M:List Nat}{c:CE}{a r:CS}{π:Zw}(h:pe F c π=some (.bl false)):px F M (.seq (.ite c a .skip) r) π=px F M r π:=by
 rw[Zj,XC,h,Xe,if_neg Bool.false_ne_true,Zp,Zf]
theorem Yv{F:PFn}{k:Nat}{e:CE}{r:CS}{π:Zw}{v:P}(h:pe F e π=some v):px F [] (.seq (.set k e) r) π=px F [] r (Zq π k v):=by
 rw[Zj,ZfF,h,Option.bind_some,Zf]
theorem Yg{F:PFn}{M:List Nat}{e:CE}{r:CS}{π:Zw}{v:P}(h:pe F e π=some v):px F M (.seq (.ret e) r) π=some (.rt v):=by
 rw[Zj,ZdT,h];rfl
theorem ZeA(t:MoveT T)(hv:VsOk m vs)(hr:ZaN m p.rows.length r):Ze T (n+2) 9 [Zl r,.int (k:Int),Zd vs]=some (.int (VV k vs r:Int)):=by
 rw[Zo (f:=c_place_behind) t.t9 rfl rfl];refine Zax ?_;cases r with
 |ifr y s z t'=>
  have w:∀ o,YW m o→Ze T (n+1) 5 [ZF o,Zd vs]=some (.int (Zs vs o)):=fun o ho=>U4 t.t5 (by rw[hv.len];exact ho)
  have so:Ze T (n+1) 4 [.int (Zs vs y),.str s,.int (Zs vs z)]=some (.bl (XS (Zs vs y) s (Zs vs z))):=Zew t.t4;have c:pe (Ze T (n+1)) (.and (.cmp .Eq (.ix (.var 0) (.cst (.int 0))) (.cst (.str (S "if")))) (.call 4 (.acons (.call 5 (.acons (.ix (.var 0) (.cst (.int 1))) (.acons (.var 2) .anil)) []) (.acons (.ix (.var 0) (.cst (.int 2))) (.acons (.call 5 (.acons (.ix (.var 0) (.cst (.int 3))) (.acons (.var 2) .anil)) []) .anil))) [])) [some (.tup [.str (S "if"),ZF y,.str s,ZF z,.int (t':Int)]),some (.int (k:Int)),some (Zd vs)]=some (.bl (XS (Zs vs y) s (Zs vs z))):=by
   simp[w _ hr.1,w _ hr.2.1,so]
  rw[show VV k vs (.ifr y s z t')=if XS (Zs vs y) s (Zs vs z)=true then t' else k+1 from rfl]
  cases q:XS (Zs vs y) s (Zs vs z) with
  |true=>rw[q]at c;exact(ZX rfl).trans (Z6 c rfl)
  |false=>rw[q]at c;exact(ZX rfl).trans ((ZX c).trans (Yg rfl))
 |go t=>exact Z6 rfl rfl
 |_=>exact(ZX rfl).trans ((ZX rfl).trans (Yg rfl))
theorem Zey(t:MoveT T)(hp:ProgOk p)(hs:StOkM p s):Ze T (n+5) 10 [Zr p,YN s]=some (XI (Ya p.rows s)):=by
 rw[Zo (f:=c_moved) t.t10 rfl rfl];have ae:Ze T (n+4) 7 [Zr p,YN s]=some (.bl (decide (p.rows.length≤s.1))):=QO t.t7;unfold Ya;by_cases hk:p.rows.length≤s.1
 ·rw[List.getElem?_eq_none hk]
  exact Zax (Z6 (by exact ae.trans (by rw[decide_eq_true hk])) rfl)
 ·obtain⟨r,hr⟩:∃ r,p.rows[s.1]?=some r:=⟨_,List.getElem?_eq_getElem (Nat.lt_of_not_le hk)⟩
  have ro:=hp.rows r (List.mem_of_getElem? hr);have pl:Ze T (n+4) 9 [Zl r,.int (s.1:Int),Zd s.2]=some (.int (VV s.1 s.2 r:Int)):=ZeA (p:=p) (n:=n+2) t hs.vs ro;have va:Ze T (n+4) 8 [Zl r,Zd s.2]=some (Zd (WH s.2 r)):=Zcp t hs.vs hp.many ro;have ir:atP (p.rows.map Zl) (s.1:Int)=some (Zl r):=by rw[Xh rfl,List.getElem?_map,hr];rfl
  rw[hr];refine Zax ((ZX (by exact ae.trans (by rw[decide_eq_false hk]))).trans ((Yv (v:=.int (s.1:Int)) rfl).trans ((Yv (v:=Zd s.2) rfl).trans ((Yv (v:=Zl r) (by exact ir)).trans ?_))))
  have fin:∀ {q:CS},px (Ze T (n+4)) [] (.seq (.ret (.tupE (.acons (.call 9 (.acons (.var 4) (.acons (.var 2) (.acons (.var 3) .anil))) []) (.acons (.call 8 (.acons (.var 4) (.acons (.var 3) .anil)) []) .anil)))) q) [some (Zr p),some (YN s),some (.int (s.1:Int)),some (Zd s.2),some (Zl r)]=some (.rt (.tup [.int (VV s.1 s.2 r:Int),Zd (WH s.2 r)])):=Yg (by simp[pl,va])
  cases r with
  |tell y=>
   have w:Ze T (n+4) 5 [ZF y,Zd s.2]=some (.int (Zs s.2 y)):=U4 t.t5 (by rw[hs.vs.len];exact ro)
   have e:pe (Ze T (n+4)) (.tupE (.acons (.cst (.str (S "told"))) (.acons (.call 5 (.acons (.ix (.var 4) (.cst (.int 1))) (.acons (.var 3) .anil)) []) .anil))) [some (Zr p),some (YN s),some (.int (s.1:Int)),some (Zd s.2),some (.tup [.str (S "tell"),ZF y])]=some (XI (.out (.told (Zs s.2 y)))):=by simp[XI,ZC,w]
   exact Z6 rfl e
  |_=>exact(ZX rfl).trans fin
def W7:Thing→Bool
 |.st _=>false
 |.out _=>true
theorem U3(h:T 11=some c_is_outcome){th:Thing}:Ze T (n+1) 11 [XI th]=some (.bl (W7 th)):=by
 rw[Zo (f:=c_is_outcome) h rfl rfl];cases th with
 |st s=>(rw[show ZL c_is_outcome.body=[] from rfl];simp[c_is_outcome,XI,YN,W7])
 |out o=>cases o<;>(rw[show ZL c_is_outcome.body=[] from rfl];simp[c_is_outcome,XI,ZC,W7])
theorem Ub(t:MachT T)(t11:T 11=some c_is_outcome)(hp:ProgOk p){x1 x2:Option P}:∀ {xs:List P}{s:StM}{ths:List P}{x5 x6:Option P},StOkM p s→ths.length+xs.length < 1000→
  (∀ o,(ZM p.rows xs.length s).2.1=some o→Zz (fun d π=>px (Ze T (n+6)) [4,4] Y3 (Zq π 5 d)) xs [some (Zr p),x1,x2,some (YN s),some (.lst true ths),x5,x6]=some (.rt (.tup (ths++(ZM p.rows xs.length s).1.map YN++[ZC o])))) ∧
  ((ZM p.rows xs.length s).2.1=Option.none→∃ y5 y6,Zz (fun d π=>px (Ze T (n+6)) [4,4] Y3 (Zq π 5 d)) xs [some (Zr p),x1,x2,some (YN s),some (.lst true ths),x5,x6]=some (.nx [some (Zr p),x1,x2,some (YN (ZM p.rows xs.length s).2.2),some (.lst true (ths++(ZM p.rows xs.length s).1.map YN)),y5,y6]))
 |[],s,ths,x5,x6,_,_=>⟨fun o h=>(by cases h),fun _=>⟨x5,x6,by rw[Y6];simp[ZM]⟩⟩
 |x :: xs,s,ths,x5,x6,hs,hl=>by
  have mv:=Zey (n:=n+1) t.toMoveT hp hs;have io:Ze T (n+6) 11 [XI (Ya p.rows s)]=some (.bl (W7 (Ya p.rows s))):=U3 t11;have hl':ths.length+xs.length+1 < 1000:=by simpa[Nat.add_assoc] using hl
  have body:px (Ze T (n+6)) [4,4] Y3 [some (Zr p),x1,x2,some (YN s),some (.lst true ths),some x,x6]=(if W7 (Ya p.rows s)=true then some (.rt (.tup (ths++[XI (Ya p.rows s)]))) else some (.nx [some (Zr p),x1,x2,some (XI (Ya p.rows s)),some (.lst true (ths++[XI (Ya p.rows s)])),some x,some (XI (Ya p.rows s))])):=by
   have k1:∀ x,Zu [4,4] (.call 10 (.acons (.var 0) (.acons (.var 3) .anil)) []) x=true:=fun _=>rfl
   have k2:∀ x,Zu [4,4] (.var 6) x=true:=fun _=>rfl
   unfold Y3;simp only[Zj];rw[QC];simp[mv,k1];rw[W1 (xs:=ths) rfl];simp[k2,io,show ths.length < Zc by unfold Zc;omega]
   cases W7 (Ya p.rows s) with
   |true=>simp
   |false=>rw[QC];simp[k2]
  rw[ZA];have e0:Zq [some (Zr p),x1,x2,some (YN s),some (.lst true ths),x5,x6] 5 x=[some (Zr p),x1,x2,some (YN s),some (.lst true ths),some x,x6]:=rfl;rw[e0,body];cases hst:Ya p.rows s with
  |out o=>
   have e1:ZM p.rows (x :: xs).length s=([],some o,s):=by
    show(match Ya p.rows s with
     |.out o=>([],some o,s)
     |.st s'=>(s' :: (ZM p.rows xs.length s').1,(ZM p.rows xs.length s').2))=_
    rw[hst]
   rw[e1];refine⟨fun o' h=>?_,fun h=>by cases h⟩
   cases h;simp[W7,XI]
  |st s'=>
   have e1:ZM p.rows (x :: xs).length s=(s' :: (ZM p.rows xs.length s').1,(ZM p.rows xs.length s').2):=by
    show(match Ya p.rows s with
     |.out o=>([],some o,s)
     |.st s'=>(s' :: (ZM p.rows xs.length s').1,(ZM p.rows xs.length s').2))=_
    rw[hst]
   rw[e1];have ih:=Ub t t11 hp (x1:=x1) (x2:=x2) (xs:=xs) (s:=s') (ths:=ths++[YN s']) (x5:=some x) (x6:=some (YN s')) (QJ hp hs hst) (by simp;omega)
   simp only[W7,Bool.false_eq_true,if_false,ZT,XI];refine⟨fun o h=>?_,fun h=>?_⟩
   ·rw[ih.1 o h]
    simp
   ·obtain⟨y5,y6,e⟩:=ih.2 h
    exact⟨y5,y6,by rw[e];simp⟩
theorem JE{rows:List Row}:∀ {l:Nat}{s:StM},((ZM rows l s).1).length≤l
 |0,_=>Nat.le_refl _
 |l+1,s=>by
  show((match Ya rows s with
   |.out o=>([],some o,s)
   |.st s'=>(s' :: (ZM rows l s').1,(ZM rows l s').2)):List StM×Option Out×StM).1.length≤l+1
  split
  ·exact Nat.zero_le _
  ·exact Nat.succ_le_succ JE
structure TrailT(T:Nat→Option FD):Prop extends MachT T where
 t11:T 11=some c_is_outcome
 t12:T 12=some c_trail
theorem ZeC(t:TrailT T)(hp:ProgOk p)(h1:ins.length≤p.many)(hs:∀ v∈ins,Sm v){l:Nat}(hl:l≤900) :
  Ze T (n+7) 12 [Zr p,Zd ins,.int (l:Int)]=some (.tup ((QM p.rows l (ZE p ins)).map XI)):=by
 rw[Zo (f:=c_trail) t.t12 rfl rfl];have hm:ZL c_trail.body=[4,4]:=rfl;rw[hm];have bg:=Zev (n:=n+5) t.t6 h1 hp.many;have so:=JN (p:=p) h1 hs;have ae:∀ j s,Ze T (j+1) 7 [Zr p,YN s]=some (.bl (decide (p.rows.length≤s.1))):=fun j s=>QO t.t7
 have lp:=Ub (n:=n) t.toMachT t.t11 hp (x1:=some (Zd ins)) (x2:=some (.int (l:Int))) (xs:=Yj (l:Int)) (s:=ZE p ins) (ths:=[YN (ZE p ins)]) (x5:=Option.none) (x6:=Option.none) so (by simp[Yj];omega)
 have rl:(Yj (l:Int)).length=l:=by simp[Yj]
 rw[rl]at lp;have pre:px (Ze T (n+6)) [4,4] c_trail.body ([Zr p,Zd ins,.int (l:Int)].map some++List.replicate (c_trail.ns - [Zr p,Zd ins,.int (l:Int)].length) Option.none) =
   WM (Zz (fun d π=>px (Ze T (n+6)) [4,4] Y3 (Zq π 5 d)) (Yj (l:Int)) [some (Zr p),some (Zd ins),some (.int (l:Int)),some (YN (ZE p ins)),some (.lst true [YN (ZE p ins)]),Option.none,Option.none]) (px (Ze T (n+6)) [4,4] (.seq (.app 4 (.ife (.call 7 (.acons (.var 0) (.acons (.var 3) .anil)) []) (.tupE (.acons (.cst (.str (S "none"))) .anil)) (.tupE (.acons (.cst (.str (S "late"))) .anil)))) (.seq (.ret (.tupleOf (.var 4))) .skip))):=by
  show px (Ze T (n+6)) [4,4] c_trail.body [some (Zr p),some (Zd ins),some (.int (l:Int)),Option.none,Option.none,Option.none,Option.none]=_;unfold c_trail;rw[Zj,ZS (p:=YN (ZE p ins)) (by simp[bg]) rfl rfl,Zf,Zj,Xd (p:=.lst true [YN (ZE p ins)]) (by simp) rfl rfl,Zf,Zj]
  simp only[Zh,Zg];rw[Zbh (n:=(l:Int)) (by simp) (by omega) (by omega) rfl]
 rw[pre];unfold QM Zaq;cases q:(ZM p.rows l (ZE p ins)).2.1 with
 |some o=>
  rw[lp.1 o q];simp[XI]
 |none=>
  obtain⟨y5,y6,e⟩:=lp.2 q;rw[e];simp only[Zf,Zj];rw[W1 (xs:=[YN (ZE p ins)]++(ZM p.rows l (ZE p ins)).1.map YN) rfl];have hz:((ZM p.rows l (ZE p ins)).1).length≤l:=JE;have k1:∀ x,Zu [4,4] (.ife (.call 7 (.acons (.var 0) (.acons (.var 3) .anil)) []) (.tupE (.acons (.cst (.str (S "none"))) .anil)) (.tupE (.acons (.cst (.str (S "late"))) .anil))) x=true:=fun _=>rfl
  by_cases he:p.rows.length≤(ZM p.rows l (ZE p ins)).2.2.1
  ·simp[ae,he,k1,ZcM,XI,ZC,show((ZM p.rows l (ZE p ins)).1).length+1 < Zc by unfold Zc;omega]
  ·simp[ae,he,k1,ZcM,XI,ZC,show((ZM p.rows l (ZE p ins)).1).length+1 < Zc by unfold Zc;omega]
structure SeenT(T:Nat→Option FD):Prop extends TrailT T where
 t13:T 13=some c_outcome
 t14:T 14=some Uk
 t15:T 15=some ZgX
 t43:T 43=some ZcC
 t44:T 44=some ZbC
theorem ZaH{rows:List Row}{l:Nat}{s:StM}:(QM rows l s).getLast?=some (.out (Zaq rows l s)):=by
 unfold QM;rw[←List.cons_append,List.getLast?_concat]
theorem ZcL{o:Out}:XI (.out o)=ZC o:=rfl
end
end Dp


namespace Dp
open PySem
end Dp


namespace Dp
open PySem
theorem Zdt{a:Opd}{n:Nat}:okP (n+1) (ZF a)=true:=by
 cases a<;>cases n<;>rfl
structure MadeT(T:Nat→Option FD):Prop where
 num:NumT T
 t4:T 4=some c_is_so
 t42:T 42=some c_replaced
 t73:T 73=some Uj
 t74:T 74=some VC
 t75:T 75=some VB
 t76:T 76=some Wf
 t77:T 77=some J5
 t78:T 78=some Wx
 t79:T 79=some Qd
 t80:T 80=some ZbD
 t81:T 81=some VD
 t82:T 82=some ZbB
 t83:T 83=some J6
section
variable {T:Nat→Option FD}{n:Nat}{y z:Opd}{s:Str}{x t k:Nat}
theorem Zg5:Zl (.put x y s z)=.tup [.str (S "put"),.int (x:Int),ZF y,.str s,ZF z]:=rfl
theorem Ziy:Zl (.ifr y s z t)=.tup [.str (S "if"),ZF y,.str s,ZF z,.int (t:Int)]:=rfl
def PSg(s:Str):Prop:=s=S "+"∨s=S "-"∨s=S "*"∨s=S "/"∨s=S "mod"
def ISg(s:Str):Prop:=s=S "<"∨s=S "<="∨s=S "="∨s=S ">="∨s=S ">"∨s=S "!="
def OSm:Opd→Prop
 |.num c=>Sm c
 |.name _=>True
def RSg:Row→Prop
 |.put _ y s z=>PSg s∧OSm y∧OSm z
 |.ifr _ s _ _=>ISg s
 |_=>True
end
end Dp


namespace Dp
open PySem
structure DrawT(T:Nat→Option FD):Prop where
 t20:T 20=some WQ
 t27:T 27=some Wi
 t28:T 28=some Wj
 t29:T 29=some VA
section
variable {T:Nat→Option FD}{n:Nat}{ns:List Int}{k m size:Nat}{c c0 c1 c2 c3:Int}{fl b:Bool}
theorem s7(c:Int):c % 7=0∨c % 7=1∨c % 7=2∨c % 7=3∨c % 7=4∨c % 7=5∨c % 7=6:=by omega
theorem s5(c:Int):c % 5=0∨c % 5=1∨c % 5=2∨c % 5=3∨c % 5=4:=by omega
theorem s6(c:Int):c % 6=0∨c % 6=1∨c % 6=2∨c % 6=3∨c % 6=4∨c % 6=5:=by omega
end
end Dp


namespace Dp
open PySem
structure BoxT(T:Nat→Option FD):Prop where
 t133:T 133=some c_width
 t134:T 134=some c_inputs_of
 t135:T 135=some c_is_wide
 t136:T 136=some c_box
 t137:T 137=some c_menu_numbers
 t138:T 138=some c_menu
 t139:T 139=some c_tried
abbrev Tk:=List (Int×Int)
def ZW(t:Int×Int):P:=.tup [.int t.1,.int t.2]
def Zy(ts:Tk):P:=.tup (ts.map ZW)
def ZK(m:Int)(ts:Tk):Int:=ts.foldl (fun m t=>m * (t.2 - t.1+1)) m
def Yn(L:List (List Int))(ns:List Int):List (List Int):=L.flatMap fun i=>ns.map fun n=>i++[n]
def Zv(ns:List Int):P:=.lst true (ns.map .int)
section
variable {T:Nat→Option FD}{n:Nat}
theorem Ud{F:PFn}{x0:Option P}:∀ {ts:Tk}{m:Int}{x2 x3:Option P},(∀ t∈ts,Z8 (t.2 - t.1+1)=true)→
  ∃ y2 y3,Zz (XH 2 3 (px F [] Y4)) (ts.map ZW) [x0,some (.int m),x2,x3]=some (.nx [x0,some (.int (ZK m ts)),y2,y3])
 |[],m,x2,x3,_=>⟨x2,x3,rfl⟩
 |t :: ts,m,x2,x3,h=>by
  have h1:=h t List.mem_cons_self;obtain⟨y2,y3,e⟩:=Ud (F:=F) (x0:=x0) (ts:=ts) (m:=m * (t.2 - t.1+1)) (x2:=some (.int t.1)) (x3:=some (.int t.2)) fun q hq=>h q (List.mem_cons_of_mem _ hq)
  refine⟨y2,y3,?_⟩;rw[List.map_cons,ZA];have b:XH 2 3 (px F [] Y4) (ZW t) [x0,some (.int m),x2,x3]=some (.nx [x0,some (.int (m * (t.2 - t.1+1))),some (.int t.1),some (.int t.2)]):=by
   show px F [] Y4 [x0,some (.int m),some (.int t.1),some (.int t.2)]=_;simp[Y4,h1]
  rw[b,ZT,e];rfl
theorem ZeE(t:BoxT T){ts:Tk}{b c:P}(h:∀ t∈ts,Z8 (t.2 - t.1+1)=true):Ze T (n+1) 133 [.tup [Zy ts,b,c]]=some (.int (ZK 1 ts)):=by
 rw[Zo (f:=c_width) t.t133 rfl rfl];obtain⟨y2,y3,e⟩:=Ud (F:=Ze T n) (x0:=some (.tup [Zy ts,b,c])) (m:=1) (x2:=none) (x3:=none) h;show Ys (px (Ze T n) [] (.seq (.set 1 (.cst (.int 1))) (.seq (.for2 2 3 (.ix (.var 0) (.cst (.int 0))) Y4) (.seq (.ret (.var 1)) .skip))) [some (.tup [Zy ts,b,c]),none,none,none])=_;rw[Yv (v:=.int 1) (by simp)]
 simp only[Zh,Zg];rw[Zj,V4 (xs:=ts.map ZW) (by simp[Zy]) (by simp[XU]),e,Zf,Yg (v:=.int (ZK 1 ts)) (by simp)]
 rfl
theorem JT(t:BoxT T){ts:Tk}{b c:P}(h:∀ t∈ts,Z8 (t.2 - t.1+1)=true):Ze T (n+2) 135 [.tup [Zy ts,b,c]]=some (.bl (decide (64 < ZK 1 ts))):=by
 rw[Zo (f:=c_is_wide) t.t135 rfl rfl];have w:=ZeE (n:=n) t (b:=b) (c:=c) h
 (rw[show ZL c_is_wide.body=[] from rfl];simp[c_is_wide,w])
theorem Uv{F:PFn}{i:List Int}(hi:i.length < 1000):∀ {ns:List Int},Z7 (fun p=>pe F (.bin .Add (.var 1) (.tupE (.acons (.var 0) .anil))) [some p,some (Zd i)]) (fun p=>pe F (.cst (.bl true)) [some p,some (Zd i)]) (ns.map .int)=some (ns.map fun n=>Zd (i++[n]))
 |[]=>rfl
 |k :: ns=>by
  rw[List.map_cons];unfold Z7;have e1:pe F (.cst (.bl true)) [some (P.int k),some (Zd i)]=some (.bl true):=rfl;have e2:pe F (.bin .Add (.var 1) (.tupE (.acons (.var 0) .anil))) [some (P.int k),some (Zd i)]=some (Zd (i++[k])):=by
   have:i.length+1≤Zc:=by unfold Zc;omega
   simp[Zd,this]
  rw[e1,e2];simp only;rw[Uv hi];rfl
theorem ZbU{F:PFn}{x0 x1:Option P}{ns:List Int}{xs:List P}{i:List Int}(hi:i.length < 1000)(hn:ns.length≤1000)(hx:xs.length+ns.length≤Zc) :
  px F [3] Yx [x0,x1,some (Zv ns),some (.lst true xs),some (Zd i)]=some (.nx [x0,x1,some (Zv ns),some (.lst true (xs++(ns.map fun n=>i++[n]).map Zd)),some (Zd i)]):=by
 have e:pe F Xj [x0,x1,some (Zv ns),some (.lst true xs),some (Zd i)]=some (.lst true ((ns.map fun n=>i++[n]).map Zd)):=by
  unfold Xj;rw[WJ];have w:Xb false (Zv ns)=some (ns.map .int):=rfl;have cg:=Uv (F:=F) hi (ns:=ns);simp only[pe_var,Zv,List.getElem?_cons_zero,List.getElem?_cons_succ,Option.join_some,Option.bind_some];rw[show Xb false (.lst true (ns.map P.int))=some (ns.map .int) from rfl];simp only[Option.bind_some,List.length_map,hn,if_true];have z:(fun p=>pe F (.bin .Add (.var 1) (.tupE (.acons (.var 0) .anil))) (YZ [x0,x1,some (.lst true (ns.map P.int)),some (.lst true xs),some (Zd i)] [4] p))=fun p=>pe F (.bin .Add (.var 1) (.tupE (.acons (.var 0) .anil))) [some p,some (Zd i)]:=rfl
  have z2:(fun p=>pe F (.cst (.bl true)) (YZ [x0,x1,some (.lst true (ns.map P.int)),some (.lst true xs),some (Zd i)] [4] p))=fun p=>pe F (.cst (.bl true)) [some p,some (Zd i)]:=rfl
  rw[z,z2,cg];simp[List.map_map,Function.comp_def]
 unfold Yx;rw[Zj,ZhF (xs:=xs) rfl e rfl (by simpa using hx)]
 rfl
theorem UF{F:PFn}{x0 x1:Option P}{ns:List Int}(hn:ns.length≤1000):∀ {L:List (List Int)}{xs:List P}{x4:Option P},(∀ i∈L,i.length < 1000)→xs.length+(Yn L ns).length≤Zc→
  ∃ y4,Zz (fun d π=>px F [3] Yx (Zq π 4 d)) (L.map Zd) [x0,x1,some (Zv ns),some (.lst true xs),x4]=some (.nx [x0,x1,some (Zv ns),some (.lst true (xs++(Yn L ns).map Zd)),y4])
 |[],xs,x4,_,_=>⟨x4,by rw[List.map_nil,Y6];simp[Yn]⟩
 |i :: L,xs,x4,hi,hx=>by
  have g:Yn (i :: L) ns=(ns.map fun n=>i++[n])++Yn L ns:=rfl
  rw[g,List.length_append,List.length_map]at hx;obtain⟨y4,e⟩:=UF (F:=F) (x0:=x0) (x1:=x1) hn (L:=L) (xs:=xs++(ns.map fun n=>i++[n]).map Zd) (x4:=some (Zd i)) (fun q hq=>hi q (List.mem_cons_of_mem _ hq)) (by simp;omega)
  refine⟨y4,?_⟩;rw[List.map_cons,ZA];have b:px F [3] Yx (Zq [x0,x1,some (Zv ns),some (.lst true xs),x4] 4 (Zd i))=_:=ZbU (F:=F) (x0:=x0) (x1:=x1) (xs:=xs) (hi i List.mem_cons_self) hn (by omega)
  rw[b,ZT,e,g,List.map_append,List.append_assoc]
def YV:List (List Int)→List (List Int)→Prop
 |_,[]=>True
 |L,ns :: r=>ns.length≤1000∧(Yn L ns).length≤1000∧YV (Yn L ns) r
theorem Ji{F:PFn}{x0 x3 x4:Option P}{ns:List Int}{L:List (List Int)}(hn:ns.length≤1000)(hL:∀ i∈L,i.length < 1000)(hg:(Yn L ns).length≤1000){m:Bool} :
  ∃ y4,px F [3] ZV [x0,some (.lst m (L.map Zd)),some (Zv ns),x3,x4]=some (.nx [x0,some (.lst true ((Yn L ns).map Zd)),some (Zv ns),none,y4]):=by
 obtain⟨y4,e⟩:=UF (F:=F) (x0:=x0) (x1:=some (.lst m (L.map Zd))) hn (L:=L) (xs:=[]) (x4:=x4) hL (by simp;unfold Zc;omega)
 refine⟨y4,?_⟩;unfold ZV;rw[Zj,Xd (p:=.lst true []) rfl rfl rfl,Zf];simp only[Zh,Zg];rw[Zj,Wb (m:=m) (xs:=L.map Zd) rfl rfl,e,Zf,Zj,Zi2 (m:=true) (xs:=(Yn L ns).map Zd) (by simp) rfl rfl,Zf,Zp]
 simp[Zq]
theorem W6{F:PFn}{x0:Option P}:∀ {nss:List (List Int)}{L:List (List Int)}{m:Bool}{x2 x3 x4:Option P},(∀ i∈L,i.length+nss.length < 1000)→YV L nss→
  ∃ m' y2 y3 y4,Zz (fun d π=>px F [3] ZV (Zq π 2 d)) (nss.map Zv) [x0,some (.lst m (L.map Zd)),x2,x3,x4]=some (.nx [x0,some (.lst m' ((nss.foldl Yn L).map Zd)),y2,y3,y4])
 |[],L,m,x2,x3,x4,_,_=>⟨m,x2,x3,x4,rfl⟩
 |ns :: nss,L,m,x2,x3,x4,hL,hs=>by
  obtain⟨h1,h2,h3⟩:=hs;obtain⟨y4,e⟩:=Ji (F:=F) (x0:=x0) (x3:=x3) (x4:=x4) (m:=m) h1 (fun i hi=>by have:=hL i hi;simp at this;omega) h2
  obtain⟨m',z2,z3,z4,e2⟩:=W6 (F:=F) (x0:=x0) (nss:=nss) (L:=Yn L ns) (m:=true) (x2:=some (Zv ns)) (x3:=none) (x4:=y4) (fun i hi=>by
   unfold Yn at hi;obtain⟨j,hj,hi⟩:=List.mem_flatMap.mp hi;obtain⟨k,_,rfl⟩:=List.mem_map.mp hi;have:=hL j hj;simp at this;simp;omega) h3
  refine⟨m',z2,z3,z4,?_⟩;rw[List.map_cons,ZA];have b:px F [3] ZV (Zq [x0,some (.lst m (L.map Zd)),x2,x3,x4] 2 (Zv ns))=_:=e;rw[b,ZT,e2];rfl
def YJ(nss:List (List Int)):List (List Int):=nss.foldl Yn [[]]
theorem QP(t:BoxT T){m:Bool}{nss:List (List Int)}(hl:nss.length < 900)(h:YV [[]] nss):Ze T (n+1) 134 [.lst m (nss.map Zv)]=some (.tup ((YJ nss).map Zd)):=by
 rw[Zo (f:=c_inputs_of) t.t134 rfl rfl];obtain⟨m',y2,y3,y4,e⟩:=W6 (F:=Ze T n) (x0:=some (.lst m (nss.map Zv))) (nss:=nss) (L:=[[]]) (m:=true) (x2:=none) (x3:=none) (x4:=none) (fun i hi=>by rw[List.mem_singleton.mp hi];simp;omega) h
 show Ys (px (Ze T n) [3] (.seq (.set 1 (.lstE (.acons (.tupE .anil) .anil))) (.seq (.for1 2 false (.var 0) ZV) (.seq (.ret (.tupleOf (.var 1))) .skip))) [some (.lst m (nss.map Zv)),none,none,none,none])=_;rw[Zj,ZS (p:=.lst true [.tup []]) (by simp) rfl (by rfl),Zf]
 simp only[Zh,Zg];have e:Zz (fun d π=>px (Ze T n) [3] ZV (Zq π 2 d)) (nss.map Zv) [some (.lst m (nss.map Zv)),some (.lst true [.tup []]),none,none,none]=some (.nx [some (.lst m (nss.map Zv)),some (.lst m' ((nss.foldl Yn [[]]).map Zd)),y2,y3,y4]):=e
 rw[Zj,Wb (m:=m) (xs:=nss.map Zv) rfl rfl,e,Zf,Yg (v:=.tup ((YJ nss).map Zd)) (by simp[YJ])]
 rfl
def YU(t:Int×Int):List Int:=Xn t.1 (t.2+1) 1
theorem Zct{ts:Tk}:(ts.map ZW).all WF=true:=by
 rw[List.all_eq_true];intro x hx;obtain⟨t,_,rfl⟩:=List.mem_map.mp hx;rfl
theorem Q3{F:PFn}:∀ {ts:Tk},(∀ t∈ts,YA t.1 (t.2+1) 1=true∧t.2+1 - t.1≤1000)→Z7 (fun p=>pe F (.lstR (.var 0) (.bin .Add (.var 1) (.cst (.int 1)))) (Yi p++[])) (fun p=>pe F (.cst (.bl true)) (Yi p++[])) (ts.map ZW)=some ((ts.map YU).map Zv)
 |[],_=>rfl
 |t :: ts,h=>by
  rw[List.map_cons];unfold Z7;have e1:pe F (.cst (.bl true)) (Yi (ZW t)++[])=some (.bl true):=rfl;have e2:pe F (.lstR (.var 0) (.bin .Add (.var 1) (.cst (.int 1)))) (Yi (ZW t)++[])=some (Zv (YU t)):=by
   show pe F (.lstR (.var 0) (.bin .Add (.var 1) (.cst (.int 1)))) [some (.int t.1),some (.int t.2)]=_;have:=h t List.mem_cons_self;simp[W8,this.1,this.2,Zv,YU]
  rw[e1,e2];simp only;rw[Q3 fun q hq=>h q (List.mem_cons_of_mem _ hq)]
  rfl
theorem Zig(t:BoxT T){ts:Tk}{b c:P}(h:∀ t∈ts,Z8 (t.2 - t.1+1)=true)(hw:ZK 1 ts≤64)(hb:∀ t∈ts,YA t.1 (t.2+1) 1=true∧t.2+1 - t.1≤1000)(hl:ts.length < 900)(hs:YV [[]] (ts.map YU)) :
  Ze T (n+3) 136 [.tup [Zy ts,b,c]]=some (.tup ((YJ (ts.map YU)).map Zd)):=by
 rw[Zo (f:=c_box) t.t136 rfl rfl];have w:=JT (n:=n) t (b:=b) (c:=c) h;rw[decide_eq_false (by omega)]at w
 have i:=QP (n:=n+1) t (m:=true) (nss:=ts.map YU) (by simpa using hl) hs
 have e:pe (Ze T (n+2)) (.compT [] (.ix (.var 0) (.cst (.int 0))) (.lstR (.var 0) (.bin .Add (.var 1) (.cst (.int 1)))) (.cst (.bl true))) [some (.tup [Zy ts,b,c])]=some (.lst true ((ts.map YU).map Zv)):=by
  rw[Jx (xs:=ts.map ZW) (by simp[Zy]) Zct (by rw[List.length_map];omega)]
  rw[show(fun p=>pe (Ze T (n+2)) (.lstR (.var 0) (.bin .Add (.var 1) (.cst (.int 1)))) (Z4 Yi [some (.tup [Zy ts,b,c])] [] p))=(fun p=>pe (Ze T (n+2)) (.lstR (.var 0) (.bin .Add (.var 1) (.cst (.int 1)))) (Yi p++[])) from rfl,
   show(fun p=>pe (Ze T (n+2)) (.cst (.bl true)) (Z4 Yi [some (.tup [Zy ts,b,c])] [] p))=(fun p=>pe (Ze T (n+2)) (.cst (.bl true)) (Yi p++[])) from rfl,Q3 hb]
  rfl
 show Ys (px (Ze T (n+2)) [] (.seq (.ite (.call 135 (.acons (.var 0) .anil) []) (.seq .stop .skip) .skip) (.seq (.ret _) .skip)) [some (.tup [Zy ts,b,c])])=_;rw[ZX (by simp[w]),Yg (v:=.tup ((YJ (ts.map YU)).map Zd)) (by
  rw[pe_call,Yq,e];have q:(0:Nat) < 1000:=by omega
  simp only[Qu,Option.bind_some,VG,List.length_nil,q,if_true,QX,Jt,List.append_nil];exact i)]
 rfl
theorem Zcj(t:BoxT T){ts:Tk}{b c:P}(h:∀ t∈ts,Z8 (t.2 - t.1+1)=true)(hw:ZK 1 ts≤64)(hb:∀ t∈ts,YA t.1 (t.2+1) 1=true∧t.2+1 - t.1≤1000)(hl:ts.length < 900)(hs:YV [[]] (ts.map YU)) :
  Ze T (n+4) 139 [.tup [Zy ts,b,c]]=some (.tup ((YJ (ts.map YU)).map Zd)):=by
 rw[Zo (f:=c_tried) t.t139 rfl rfl];have w:=JT (n:=n+1) t (b:=b) (c:=c) h;rw[decide_eq_false (by omega)]at w
 have x:=Zig (n:=n) t (b:=b) (c:=c) h hw hb hl hs
 (rw[show ZL c_tried.body=[] from rfl];simp[c_tried,w,x])
end
end Dp


namespace Dp
open PySem
section
variable {T:Nat→Option FD}{n:Nat}
def Yo(ns:List Int)(x:Int):List Int:=if x∈ns then ns else ns++[x]
def Y2(t:Int×Int):Int:=(t.1+t.2) / 2
def ZI(t:Int×Int):List Int:=Yo (Yo (Yo [] t.1) (Y2 t)) t.2
theorem QA{F:PFn}{M:List Nat}{k:Nat}{a:CE}{π:Zw}{p:P}{xs:List P}(h:π[k]?=some (some (.lst true xs)))(hm:M.contains k=true)(he:pe F a π=some p)(hk:Zu M a p=true)(hz:xs.length < Zc):px F M (.app k a) π=some (.nx (Zq π k (.lst true (xs++[p])))):=by
 rw[W1 h,he,Option.bind_some,hm,hk,decide_eq_true hz];rfl
theorem WV{F:PFn}{x0 x1:Option P}{ns:List Int}{x:Int}(hl:ns.length < 1000):px F [2] ZJ [x0,x1,some (Zv ns),some (.int x)]=some (.nx [x0,x1,some (Zv (Yo ns x)),some (.int x)]):=by
 unfold ZJ Yo;have i:=Za0 (k:=x) (ks:=ns);have z:ns.length < Zc:=by unfold Zc;omega
 by_cases h:x∈ns
 ·rw[if_pos h]
  rw[decide_eq_true h]at i;simp[Zv,i]
 ·rw[if_neg h]
  rw[decide_eq_false h]at i;have a:px F [2] (.app 2 (.var 3)) [x0,x1,some (Zv ns),some (.int x)]=some (.nx [x0,x1,some (Zv (ns++[x])),some (.int x)]):=by
   rw[QA (p:=.int x) (xs:=ns.map .int) rfl rfl rfl rfl (by rw[List.length_map];exact z)]
   unfold Zv;rw[List.map_append];rfl
  simp only[Zj,XC,a];simp[Zv,i]
theorem Za2{ns:List Int}{x:Int}:(Yo ns x).length≤ns.length+1:=by
 unfold Yo;split<;>simp
theorem Zex(t:BoxT T){p:Int×Int}:Ze T (n+1) 137 [.int p.1,.int p.2]=some (Zv (ZI p)):=by
 rw[Zo (f:=c_menu_numbers) t.t137 rfl rfl];show Ys (px (Ze T n) [2] (.seq (.set 2 (.lstE .anil)) (.seq (.for1 3 false (.tupE (.acons (.var 0) (.acons (.bin .FloorDiv (.bin .Add (.var 0) (.var 1)) (.cst (.int 2))) (.acons (.var 1) .anil)))) ZJ) (.seq (.ret (.var 2)) .skip))) [some (.int p.1),some (.int p.2),none,none])=_;rw[Zj,Xd (p:=.lst true []) rfl rfl rfl,Zf];simp only[Zh,Zg];have l1:(Yo [] p.1).length≤1:=Za2
 have l2:(Yo (Yo [] p.1) (Y2 p)).length≤2:=Nat.le_trans Za2 (by omega)
 have e1:px (Ze T n) [2] ZJ (Zq [some (.int p.1),some (.int p.2),some (.lst true []),none] 3 (.int p.1))=_:=WV (ns:=[]) (x:=p.1) (by simp)
 have e2:px (Ze T n) [2] ZJ (Zq [some (.int p.1),some (.int p.2),some (Zv (Yo [] p.1)),some (.int p.1)] 3 (.int (Y2 p)))=_:=WV (x:=Y2 p) (by omega)
 have e3:px (Ze T n) [2] ZJ (Zq [some (.int p.1),some (.int p.2),some (Zv (Yo (Yo [] p.1) (Y2 p))),some (.int (Y2 p))] 3 (.int p.2))=_:=WV (x:=p.2) (by omega)
 rw[Zj,Zbi (xs:=[.int p.1,.int (Y2 p),.int p.2]) (by simp[Y2]) rfl,ZA,e1,ZT,ZA,e2,ZT,ZA,e3,ZT,Y6,Zf,Yg (v:=Zv (ZI p)) (by simp[ZI])]
 rfl
theorem Uw{F:PFn}:∀ {ts:Tk},(∀ t∈ts,F 137 [.int t.1,.int t.2]=some (Zv (ZI t)))→Z7 (fun p=>pe F (.call 137 (.acons (.var 0) (.acons (.var 1) .anil)) []) (Yi p++[])) (fun p=>pe F (.cst (.bl true)) (Yi p++[])) (ts.map ZW)=some ((ts.map ZI).map Zv)
 |[],_=>rfl
 |t :: ts,h=>by
  rw[List.map_cons];unfold Z7;have e1:pe F (.cst (.bl true)) (Yi (ZW t)++[])=some (.bl true):=rfl;have e2:pe F (.call 137 (.acons (.var 0) (.acons (.var 1) .anil)) []) (Yi (ZW t)++[])=some (Zv (ZI t)):=by
   show pe F (.call 137 (.acons (.var 0) (.acons (.var 1) .anil)) []) [some (.int t.1),some (.int t.2)]=_;simp[h t List.mem_cons_self]
  rw[e1,e2];simp only;rw[Uw fun q hq=>h q (List.mem_cons_of_mem _ hq)]
  rfl
theorem ZgH(t:BoxT T){ts:Tk}{b c:P}(hl:ts.length < 900)(hs:YV [[]] (ts.map ZI)):Ze T (n+2) 138 [.tup [Zy ts,b,c]]=some (.tup ((YJ (ts.map ZI)).map Zd)):=by
 rw[Zo (f:=c_menu) t.t138 rfl rfl];have i:=QP (n:=n) t (m:=true) (nss:=ts.map ZI) (by simpa using hl) hs
 have e:pe (Ze T (n+1)) (.compT [] (.ix (.var 0) (.cst (.int 0))) (.call 137 (.acons (.var 0) (.acons (.var 1) .anil)) []) (.cst (.bl true))) [some (.tup [Zy ts,b,c])]=some (.lst true ((ts.map ZI).map Zv)):=by
  rw[Jx (xs:=ts.map ZW) (by simp[Zy]) Zct (by rw[List.length_map];omega)]
  rw[show(fun p=>pe (Ze T (n+1)) (.call 137 (.acons (.var 0) (.acons (.var 1) .anil)) []) (Z4 Yi [some (.tup [Zy ts,b,c])] [] p))=(fun p=>pe (Ze T (n+1)) (.call 137 (.acons (.var 0) (.acons (.var 1) .anil)) []) (Yi p++[])) from rfl,
   show(fun p=>pe (Ze T (n+1)) (.cst (.bl true)) (Z4 Yi [some (.tup [Zy ts,b,c])] [] p))=(fun p=>pe (Ze T (n+1)) (.cst (.bl true)) (Yi p++[])) from rfl,Uw fun p _=>Zex t]
  rfl
 show Ys (px (Ze T (n+1)) [] (.seq (.ret _) .skip) [some (.tup [Zy ts,b,c])])=_;rw[Yg (v:=.tup ((YJ (ts.map ZI)).map Zd)) (by
  rw[pe_call,Yq,e];have q:(0:Nat) < 1000:=by omega
  simp only[Qu,Option.bind_some,VG,List.length_nil,q,if_true,QX,Jt,List.append_nil];exact i)]
 rfl
theorem ZaI(t:BoxT T){ts:Tk}{b c:P}(h:∀ t∈ts,Z8 (t.2 - t.1+1)=true)(hw:64 < ZK 1 ts)(hl:ts.length < 900)(hs:YV [[]] (ts.map ZI)) :
  Ze T (n+4) 139 [.tup [Zy ts,b,c]]=some (.tup ((YJ (ts.map ZI)).map Zd)):=by
 rw[Zo (f:=c_tried) t.t139 rfl rfl];have w:=JT (n:=n+1) t (b:=b) (c:=c) h;rw[decide_eq_true hw]at w;have x:=ZgH (n:=n+1) t (b:=b) (c:=c) hl hs
 (rw[show ZL c_tried.body=[] from rfl];simp[c_tried,w,x])
end
def XZ(nss:List (List Int)):Nat:=nss.foldr (fun ns p=>ns.length * p) 1
theorem Jb{L:List (List Int)}{ns:List Int}:(Yn L ns).length=L.length * ns.length:=by
 induction L with
 |nil=>simp[Yn]
 |cons i L ih=>
  have g:Yn (i :: L) ns=(ns.map fun n=>i++[n])++Yn L ns:=rfl
  rw[g,List.length_append,List.length_map,ih,List.length_cons,Nat.succ_mul,Nat.add_comm]
theorem V2:∀ {nss:List (List Int)},(∀ ns∈nss,1≤ns.length)→1≤XZ nss
 |[],_=>Nat.le_refl _
 |ns :: nss,h=>by
  have h1:=h ns List.mem_cons_self;have h2:=V2 fun q hq=>h q (List.mem_cons_of_mem _ hq)
  exact Nat.mul_le_mul h1 h2
theorem W3:∀ {nss:List (List Int)}{L:List (List Int)},(∀ ns∈nss,1≤ns.length)→1≤L.length→L.length * XZ nss≤1000→YV L nss
 |[],L,_,_,_=>trivial
 |ns :: nss,L,h,hL,hp=>by
  have h1:=h ns List.mem_cons_self;have h2:=V2 fun q hq=>h q (List.mem_cons_of_mem _ hq)
  have e:L.length * XZ (ns :: nss)=(Yn L ns).length * XZ nss:=by
   rw[Jb,Nat.mul_assoc];rfl
  rw[e]at hp;have g1:(Yn L ns).length≤1000:=Nat.le_trans (Nat.le_mul_of_pos_right _ h2) hp;have g2:ns.length≤(Yn L ns).length:=by rw[Jb];exact Nat.le_mul_of_pos_left _ hL
  have g3:1≤(Yn L ns).length:=Nat.le_trans h1 g2;exact⟨Nat.le_trans g2 g1,g1,W3 (fun q hq=>h q (List.mem_cons_of_mem _ hq)) g3 hp⟩
def Xf:List Int→List (List Int)→Prop
 |[],[]=>True
 |x :: i,ns :: nss=>x∈ns∧Xf i nss
 |_,_=>False
theorem VL:∀ {i:List Int}{nss:List (List Int)}{x:Int}{ns:List Int},Xf i nss→x∈ns→Xf (i++[x]) (nss++[ns])
 |[],[],_,_,_,h=>⟨h,trivial⟩
 |_ :: _,_ :: _,_,_,h,h'=>⟨h.1,VL h.2 h'⟩
theorem Zac{L:List (List Int)}{done:List (List Int)}{ns:List Int}(h:∀ i∈L,Xf i done):∀ i∈Yn L ns,Xf i (done++[ns]):=fun i hi=>by
 obtain⟨j,hj,hi⟩:=List.mem_flatMap.mp hi;obtain⟨k,hk,rfl⟩:=List.mem_map.mp hi;exact VL (h j hj) hk
theorem VI:∀ {nss:List (List Int)}{L:List (List Int)}{done:List (List Int)},(∀ i∈L,Xf i done)→∀ i∈nss.foldl Yn L,Xf i (done++nss)
 |[],L,done,h,i,hi=>by rw[List.append_nil];exact h i hi
 |ns :: nss,L,done,h,i,hi=>by
  have:=VI (nss:=nss) (L:=Yn L ns) (done:=done++[ns]) (Zac h) i hi;rw[List.append_assoc]at this;exact this
theorem Jh{nss:List (List Int)}:∀ i∈YJ nss,Xf i nss:=VI (L:=[[]]) (done:=[]) fun i hi=>by rw[List.mem_singleton.mp hi];trivial
theorem UH:∀ {i:List Int}{nss:List (List Int)},Xf i nss→i.length=nss.length
 |[],[],_=>rfl
 |_ :: _,_ :: _,h=>congrArg (·+1) (UH h.2)
theorem QL{t:Int×Int}(h:t.1≤t.2):(ZI t).Pairwise (· < ·)∧1≤(ZI t).length∧(ZI t).length≤3:=by
 unfold ZI Y2;have e:Yo [] t.1=[t.1]:=rfl;rw[e];by_cases h1:(t.1+t.2) / 2=t.1
 ·have e2:Yo [t.1] ((t.1+t.2) / 2)=[t.1]:=by unfold Yo;rw[if_pos (by rw[h1];exact List.mem_singleton.mpr rfl)]
  rw[e2];by_cases h2:t.2=t.1
  ·have e3:Yo [t.1] t.2=[t.1]:=by unfold Yo;rw[if_pos (by rw[h2];exact List.mem_singleton.mpr rfl)]
   rw[e3];exact⟨List.pairwise_singleton _ _,by simp,by simp⟩
  ·have e3:Yo [t.1] t.2=[t.1,t.2]:=by unfold Yo;rw[if_neg (by simpa using h2)];rfl
   rw[e3];exact⟨by simp;omega,by simp,by simp⟩
 ·have e2:Yo [t.1] ((t.1+t.2) / 2)=[t.1,(t.1+t.2) / 2]:=by unfold Yo;rw[if_neg (by simpa using h1)];rfl
  rw[e2];have e3:Yo [t.1,(t.1+t.2) / 2] t.2=[t.1,(t.1+t.2) / 2,t.2]:=by unfold Yo;rw[if_neg (by simp;omega)];rfl
  rw[e3];exact⟨by simp;omega,by simp,by simp⟩
theorem Qb{t:Int×Int}(h:t.1≤t.2):((YU t).length:Int)=t.2 - t.1+1:=by
 unfold YU Xn Xo;rw[List.length_map,List.length_range,if_pos (by omega),if_pos (by omega)]
 omega
theorem Ue:∀ {ts:Tk}{m:Int},(∀ t∈ts,t.1≤t.2)→ZK m ts=m * (XZ (ts.map YU):Nat)
 |[],m,_=>by simp[ZK,XZ]
 |t :: ts,m,h=>by
  show ZK (m * (t.2 - t.1+1)) ts=m * (((YU t).length * XZ (ts.map YU):Nat):Int);rw[Ue fun q hq=>h q (List.mem_cons_of_mem _ hq),Int.natCast_mul,Qb (h t List.mem_cons_self),Int.mul_assoc]
end Dp


namespace Dp
open PySem
theorem mod_lt{x:Int}{m:Nat}(h:0 < m):(x % (m:Int)).toNat < m:=by
 have:=Int.emod_lt_of_pos x (show 0 < (m:Int) by omega)
 omega
def sgA(i:Int):Str:=([S "+",S "-",S "*",S "/",S "mod"]:List Str).getD i.toNat (S "+")
def sgB(i:Int):Str:=([S "<",S "<=",S "=",S ">=",S ">",S "!="]:List Str).getD i.toNat (S "<")
theorem ZhV(i:Int):PSg (sgA i):=by
 unfold sgA;rcases h:i.toNat with _|_|_|_|_|k
 ·exact .inl rfl
 ·exact .inr (.inl rfl)
 ·exact .inr (.inr (.inl rfl))
 ·exact .inr (.inr (.inr (.inl rfl)))
 ·exact .inr (.inr (.inr (.inr rfl)))
 ·exact .inl (by simp[List.getD])
theorem ZhW(i:Int):ISg (sgB i):=by
 unfold sgB;rcases h:i.toNat with _|_|_|_|_|_|k
 ·exact .inl rfl
 ·exact .inr (.inl rfl)
 ·exact .inr (.inr (.inl rfl))
 ·exact .inr (.inr (.inr (.inl rfl)))
 ·exact .inr (.inr (.inr (.inr (.inl rfl))))
 ·exact .inr (.inr (.inr (.inr (.inr rfl))))
 ·exact .inl (by simp[List.getD])
theorem ZdA{m:Nat}{o:Opd}(h:YW m o):OSm o:=by
 cases o with
 |name i=>trivial
 |num c=>exact h
structure RowT(T:Nat→Option FD):Prop where
 t18:T 18=some XM
 t27:T 27=some c__law_cell_at_k25
 t71:T 71=some Ww
 t84:T 84=some Wk
 t72:T 72=some Uh
section
variable {T:Nat→Option FD}{n:Nat}{c c0 c1 c2 c3:Int}{m many at_:Nat}{b:Bool}
theorem r5(c:Int):c % 5=0∨c % 5=1∨c % 5=2∨c % 5=3∨c % 5=4:=by omega
theorem r6(c:Int):c % 6=0∨c % 6=1∨c % 6=2∨c % 6=3∨c % 6=4∨c % 6=5:=by omega
theorem Zj5:atP [.str (S "+"),.str (S "-"),.str (S "*"),.str (S "/"),.str (S "mod")] (c % 5)=some (.str (sgA (c % 5))):=by
 rcases r5 c with h|h|h|h|h<;>rw[h]<;>rfl
theorem Zj6:atP [.str (S "<"),.str (S "<="),.str (S "="),.str (S ">="),.str (S ">"),.str (S "!=")] (c % 6)=some (.str (sgB (c % 6))):=by
 rcases r6 c with h|h|h|h|h|h<;>rw[h]<;>rfl
end
end Dp


namespace Dp
open PySem
section
variable {T:Nat→Option FD}{n:Nat}{a:Int}{s:Str}{y:Opd}
end
end Dp


namespace Dp
open PySem
structure LawOT(T:Nat→Option FD):Prop where
 t34:T 34=some c__law_worth
 t89:T 89=some Qc
 t187:T 187=some J4
 t33:T 33=some Ui
 t188:T 188=some Vz
section
variable {T:Nat→Option FD}{n:Nat}{F:PFn}{p:Prog}{s:StM}{vs:List Int}{o:Opd}{r:Row}{k m:Nat}{ins:List Int}{a b:Int}{sg:Str}
theorem XL{M:List Nat}{c:CE}{a b q:CS}{π π':Zw}(h:pe F c π=some (.bl true))(ha:px F M a π=some (.nx π')):px F M (.seq (.ite c a b) q) π=px F M q π':=by
 rw[Zj,XC,h,Xe,if_pos rfl,ha,Zf]
theorem Zhn{i j:Int}(h:Z8 j=true):Xi .Mult (.int i) (.int j)=some (.int (i * j)):=by
 rw[Qa,h,Bool.or_true,if_pos rfl]
theorem ZdU(hb:Sm b)(h:¬b=0):Xi .FloorDiv (.int a) (.int b)=some (.int (quo a b)):=by
 have h1:=hb.1;have h2:=hb.2;rw[Zcx];rcases Int.lt_trichotomy b 0 with q|q|q
 ·rw[if_neg (by omega),if_pos ⟨q,by omega⟩];rfl
 ·exact absurd q h
 ·rw[if_pos ⟨q,by omega⟩,Vq q]
theorem Zd2(hp:ProgOk p):∀ {l:Nat}{s:StM},StOkM p s→StOkM p (ZM p.rows l s).2.2
 |0,s,h=>h
 |l+1,s,h=>by
  show StOkM p ((match Ya p.rows s with
   |.out o=>([],some o,s)
   |.st s'=>(s' :: (ZM p.rows l s').1,(ZM p.rows l s').2)):List StM×Option Out×StM).2.2
  cases e:Ya p.rows s with
  |out o=>exact h
  |st s'=>exact Zd2 hp (QJ hp h e)
end
end Dp


namespace Dp
open PySem
noncomputable def num:List (Str×Nat):=[(S "HuntError",177),(S "TooWide",189),(S "TooWide.__init__",190),(S "width",133),(S "inputs_of",134),(S "is_wide",135),(S "box",136),(S "menu_numbers",137),(S "menu",138),(S "tried",139),(S "replaced",42),(S "around",0),(S "divided",1),(S "left_over",2),(S "reckon",3),(S "is_so",4),(S "worth",5),(S "began",6),(S "at_end",7),(S "values_behind",8),(S "place_behind",9),(S "moved",10),(S "is_outcome",11),(S "trail",12),(S "outcome",13),(S "tells",99),(S "sought",140),(S "_law_cell_at",27),(S "_law_alike",36),(S "_law_number_by",18),(S "_law_operand_by",71),(S "_law_row_by",72),(S "_law_widths",142),(S "_law_takes",191),(S "_law_fitted",192),(S "_law_rows_of_other",193),(S "_law_worth",34),(S "_law_reckon",32),(S "_law_so",33),(S "_law_outcome",188),(S "_law_choices",194),(S "_law_tried",195),(S "_law_pairs",196),(S "_law_programs",197),(S "law",16)]
noncomputable def T:Nat→Option FD
 |133=>some c_width
 |134=>some c_inputs_of
 |135=>some c_is_wide
 |136=>some c_box
 |137=>some c_menu_numbers
 |138=>some c_menu
 |139=>some c_tried
 |42=>some c_replaced
 |0=>some c_around
 |1=>some c_divided
 |2=>some c_left_over
 |3=>some c_reckon
 |4=>some c_is_so
 |5=>some c_worth
 |6=>some c_began
 |7=>some c_at_end
 |8=>some c_values_behind
 |9=>some c_place_behind
 |10=>some c_moved
 |11=>some c_is_outcome
 |12=>some c_trail
 |13=>some c_outcome
 |99=>some c_tells
 |140=>some c_sought
 |27=>some c__law_cell_at_k25
 |36=>some c__law_alike_k47
 |18=>some c__law_number_by_k47
 |71=>some c__law_operand_by_k47
 |72=>some c__law_row_by_k47
 |142=>some c__law_widths_k47
 |191=>some c__law_takes
 |192=>some c__law_fitted
 |193=>some c__law_rows_of_other
 |34=>some c__law_worth
 |32=>some c__law_reckon_k25
 |33=>some c__law_so_k25
 |188=>some c__law_outcome_k47
 |194=>some c__law_choices
 |195=>some c__law_tried
 |196=>some c__law_pairs
 |197=>some c__law_programs
 |16=>some c_law_k47
 |_=>none
end Dp


namespace Dp
open PySem
theorem Zh1:TrailT T:=⟨⟨⟨⟨rfl,rfl,rfl,rfl⟩,rfl,rfl,rfl,rfl,rfl,rfl,rfl⟩,rfl⟩,rfl,rfl⟩
section
variable {n:Nat}{vs:List Int}{o:Opd}{s:Str}{a b:Int}{p:Prog}{ins:List Int}
theorem ZeF{fl:Bool}(ho:YW vs.length o):Ze T (n+1) 34 [ZF o,.lst fl (vs.map .int)]=some (.int (Zs vs o)):=by
 rw[Zo (f:=c__law_worth) rfl rfl rfl];show Ys (px (Ze T n) [] c__law_worth.body [some (ZF o),some (.lst fl (vs.map .int))])=_;unfold c__law_worth;cases o with
 |name i=>
  have hi:i < vs.length:=ho;rw[Z6 (v:=.int (Zs vs (.name i))) (by rfl) (by simp[ZF,Zs,hi])]
  rfl
 |num c=>rfl
theorem ZgW{x:Bool}:(x==true)=x:=by cases x<;>rfl
theorem ZgV{x:Bool}:(x==false)=!x:=by cases x<;>rfl
theorem ZjN(hs:ISg s):Ze T (n+1) 33 [.int a,.str s,.int b]=some (.bl (XS a s b)):=by
 rw[Zo (f:=c__law_so_k25) rfl rfl rfl];show Ys (px (Ze T n) [] c__law_so_k25.body [some (.int a),some (.str s),some (.int b)])=_;unfold c__law_so_k25;have e:∀ {u v x:Bool},(u==v)=x→some (P.bl (u==v))=some (.bl x):=fun h=>by rw[h]
 rcases hs with rfl|rfl|rfl|rfl|rfl|rfl
 ·rw[Z6 (v:=.bl (decide (a < b)==true)) (by rfl) (by rfl)]
  exact e (by rw[ZgW];rfl)
 ·rw[ZX (by rfl),Z6 (v:=.bl (decide (b < a)==false)) (by rfl) (by rfl)]
  exact e (by rw[ZgV,←decide_not];exact decide_eq_decide.mpr Int.not_lt)
 ·rw[ZX (by rfl),ZX (by rfl),Yg (v:=.bl (decide (a=b)==true)) (by rfl)]
  exact e (by rw[ZgW];rfl)
 ·rw[Z6 (v:=.bl (decide (a < b)==false)) (by rfl) (by rfl)]
  exact e (by rw[ZgV,←decide_not];exact decide_eq_decide.mpr Int.not_lt)
 ·rw[ZX (by rfl),Z6 (v:=.bl (decide (b < a)==true)) (by rfl) (by rfl)]
  exact e (by rw[ZgW];rfl)
 ·rw[ZX (by rfl),ZX (by rfl),Yg (v:=.bl (decide (a=b)==false)) (by rfl)]
  exact e (by rw[ZgV];rfl)
theorem ZR{F:PFn}{M:List Nat}{c:CE}{a b q:CS}{π π':Zw}(h:pe F c π=some (.bl false))(hb:px F M b π=some (.nx π')):px F M (.seq (.ite c a b) q) π=px F M q π':=by
 rw[Zj,XC,h,Xe,if_neg (by simp),hb,Zf]
theorem Wr{F:PFn}{e:CE}{v x:Int}{y z:P}(h:pe F e [some (.int x),some y,some z,some (.int x)]=some (.int v)):px F [] (.seq (.set 3 e) .skip) [some (.int x),some y,some z,some (.int x)]=some (.nx [some (.int x),some y,some z,some (.int v)]):=by
 rw[Yv h];rfl
theorem Wq{F:PFn}{x y z:Option P}{v w:Int}(h:ZN v=w):Ys (px F [] (.seq (.ret (.bin .Sub (.bin .Mod (.bin .Add (.var 3) (.cst (.int 1000000000))) (.cst (.int 2000000000))) (.cst (.int 1000000000)))) .skip) [x,y,z,some (.int v)])=some (.int w):=by
 rw[Yg (v:=.int w) (by rw[←h];simp[ZN])]
 rfl
theorem ZgJ(hs:PSg s)(ha:Sm a)(hb:Sm b):Ze T (n+1) 32 [.int a,.str s,.int b]=some (.int (YB a s b)):=by
 rw[Zo (f:=c__law_reckon_k25) rfl rfl rfl];have sm:=WK (s:=s) ha hb;have aa:∀ x:Int,Sm x→ZN x=x:=fun x h=>U8 h.1 h.2
 show Ys (px (Ze T n) [] c__law_reckon_k25.body [some (.int a),some (.str s),some (.int b),none])=_;unfold c__law_reckon_k25;rw[Yv (v:=.int a) rfl];simp only[Zh,Zg];have lm:Xi .Mult (.int a) (.int b)=some (.int (a * b)):=Zhn hb.lim;rcases hs with rfl|rfl|rfl|rfl|rfl
 ·rw[XL (by rfl) (Wr (v:=a+b) (by rfl))]
  exact Wq rfl
 ·rw[ZR (by rfl) (by rw[XL (by rfl) (Wr (v:=a - b) (by rfl)),Zp])]
  exact Wq rfl
 ·rw[ZR (by rfl) (by rw[ZR (by rfl) (by rw[XL (by rfl) (Wr (v:=a * b) (by simp only[XY,pe_var,List.getElem?_cons_zero,List.getElem?_cons_succ,Option.join_some,Option.bind_some,lm])),Zp]),Zp])]
  exact Wq rfl
 ·by_cases h:b=0
  ·subst h
   rw[ZR (by rfl) (by rw[ZR (by rfl) (by rw[ZR (by rfl) (by rw[XL (by rfl) (Wr (v:=0) (by rfl)),Zp]),Zp]),Zp])]
   exact Wq rfl
  ·have q:=ZdU (a:=a) hb h
   rw[ZR (by rfl) (by rw[ZR (by rfl) (by rw[ZR (by rfl) (by rw[ZR (by simp[h]) (by rw[XL (by rfl) (Wr (v:=quo a b) (by simp only[XY,pe_var,List.getElem?_cons_zero,List.getElem?_cons_succ,Option.join_some,Option.bind_some,q])),Zp]),Zp]),Zp]),Zp])]
   exact Wq (by show ZN (quo a b)=if b=0 then 0 else ZN (quo a b);rw[if_neg h])
 ·by_cases h:b=0
  ·subst h
   rw[ZR (by rfl) (by rw[ZR (by rfl) (by rw[ZR (by rfl) (by rw[XL (by rfl) (Wr (v:=a) (by rfl)),Zp]),Zp]),Zp])]
   exact Wq (aa _ ha)
  ·have q:=ZdU (a:=a) hb h
   have m:Xi .Mult (.int b) (.int (quo a b))=some (.int (b * quo a b)):=by
    rw[Qa,hb.lim,Bool.true_or,if_pos rfl]
   have r:YB a (S "mod") b=a - b * quo a b:=if_neg h;rw[ZR (by rfl) (by rw[ZR (by rfl) (by rw[ZR (by rfl) (by rw[ZR (by simp[h]) (by rw[ZR (by rfl) (Wr (v:=a - b * quo a b) (by simp only[XY,pe_var,List.getElem?_cons_zero,List.getElem?_cons_succ,Option.join_some,Option.bind_some,q,m,ZaR])),Zp]),Zp]),Zp]),Zp])]
   rw[r]at sm ⊢;exact Wq (aa _ sm)
end
section
variable {n:Nat}{p:Prog}{s:StM}{ins:List Int}
theorem oT(hp:ProgOk p)(hg:∀ r∈p.rows,RSg r)(hs:StOkM p s){x:P}{x1 x2 x6:Option P} :
  (∀ v,Ya p.rows s=.out (.told v)→px (Ze T (n+2)) [3] Zx [some (Zr p),x1,x2,some (.lst true (s.2.map .int)),some (.int (s.1:Int)),some x,x6]=some (.rt (ZC (.told v)))) ∧
  (∀ o,Ya p.rows s=.out o→(∀ v,o≠.told v)→s.1=p.rows.length∧o=.none∧px (Ze T (n+2)) [3] Zx [some (Zr p),x1,x2,some (.lst true (s.2.map .int)),some (.int (s.1:Int)),some x,x6]=some (.bk [some (Zr p),x1,x2,some (.lst true (s.2.map .int)),some (.int (s.1:Int)),some x,x6])) ∧
  (∀ s',Ya p.rows s=.st s'→∃ y6,px (Ze T (n+2)) [3] Zx [some (Zr p),x1,x2,some (.lst true (s.2.map .int)),some (.int (s.1:Int)),some x,x6]=some (.nx [some (Zr p),x1,x2,some (.lst true (s'.2.map .int)),some (.int (s'.1:Int)),some x,y6])):=by
 obtain⟨k,vs⟩:=s;have hk:=hs.k;have hv:=hs.vs;simp only at hk hv;unfold Zx;unfold Ya;simp only;by_cases he:k=p.rows.length
 ·subst he
  rw[List.getElem?_eq_none (Nat.le_refl _)];refine⟨fun v h=>(by cases h),fun o h hn=>?_,fun s' h=>by cases h⟩
  cases h;refine⟨rfl,rfl,?_⟩;rw[Zj,XC,show pe (Ze T (n+2)) (.cmp .Eq (.var 4) (.len (.ix (.var 0) (.cst (.int 2))))) [some (Zr p),x1,x2,some (.lst true (vs.map .int)),some (.int (p.rows.length:Int)),some x,x6]=some (.bl true) by simp[Zr],Xe,if_pos rfl]
  rfl
 ·have hk':k < p.rows.length:=by omega
  obtain⟨r,hr⟩:∃ r,p.rows[k]?=some r:=⟨_,List.getElem?_eq_getElem hk'⟩;have ro:=hp.rows r (List.mem_of_getElem? hr);have rg:=hg r (List.mem_of_getElem? hr);have ir:atP (p.rows.map Zl) (k:Int)=some (Zl r):=by rw[Xh rfl,List.getElem?_map,hr];rfl
  have w:∀ o,YW p.many o→Ze T (n+2) 34 [ZF o,.lst true (vs.map .int)]=some (.int (Zs vs o)):=fun o ho=>ZeF (n:=n+1) (by rw[hv.len];exact ho)
  have c0:pe (Ze T (n+2)) (.cmp .Eq (.var 4) (.len (.ix (.var 0) (.cst (.int 2))))) [some (Zr p),x1,x2,some (.lst true (vs.map .int)),some (.int (k:Int)),some x,x6]=some (.bl false):=by
   simp[Zr];omega
  rw[hr];rw[ZX c0,Zj,ZS (p:=Zl r) (by simp[Zr,ir]) rfl rfl,Zf]
  simp only[Zh,Zg];rw[Zj,ZS (p:=.int ((k+1:Nat):Int)) (by simp) rfl rfl,Zf]
  simp only[Zh,Zg];cases r with
  |tell y=>
   refine⟨fun v h=>?_,fun o h hn=>(by cases h;exact absurd rfl (hn _)),fun s' h=>by cases h⟩
   cases h;rw[show Zl (.tell y)=.tup [.str (S "tell"),ZF y] from rfl,Z6 (v:=ZC (.told (Zs vs y))) (by rfl) (by simp[w y ro,ZC])]
  |put x y sg z=>
   refine⟨fun o h=>(by cases h),fun o h=>(by cases h),fun s' h=>?_⟩
   cases h;have hx:x < vs.length:=by rw[hv.len];exact ro.1
   have sm:=ZgJ (n:=n+1) rg.1 (Xx hv ro.2.1) (Xx hv ro.2.2);refine⟨some (Zl (.put x y sg z)),?_⟩;rw[Zg5,ZX (by rfl),ZR (by rfl) (by
    rw[XL (π':=[some (Zr p),x1,x2,some (.lst true ((vs.set x (YB (Zs vs y) sg (Zs vs z))).map .int)),some (.int ((k+1:Nat):Int)),some _,some (.tup [.str (S "put"),.int (x:Int),ZF y,.str sg,ZF z])]) (by rfl) (by
     rw[Zj,ZhG (xs:=vs.map .int) (q:=x) (j:=(x:Int)) rfl (by simp) (by unfold ixN;simp;omega)]
     rw[show pe (Ze T (n+2)) (.call 32 (.acons (.call 34 (.acons (.ix (.var 6) (.cst (.int 2))) (.acons (.var 3) .anil)) []) (.acons (.ix (.var 6) (.cst (.int 3))) (.acons (.call 34 (.acons (.ix (.var 6) (.cst (.int 4))) (.acons (.var 3) .anil)) []) .anil))) []) [some (Zr p),x1,x2,some (.lst true (vs.map .int)),some (.int ((k+1:Nat):Int)),some _,some (.tup [.str (S "put"),.int (x:Int),ZF y,.str sg,ZF z])]=some (.int (YB (Zs vs y) sg (Zs vs z))) by simp[w y ro.2.1,w z ro.2.2,sm],Option.bind_some,if_pos (by rfl),Zf,Zp,List.map_set]
     rfl),Zp]),Zp]
   rfl
  |go t'=>
   refine⟨fun o h=>(by cases h),fun o h=>(by cases h),fun s' h=>?_⟩
   cases h;refine⟨some (Zl (.go t')),?_⟩;rw[show Zl (.go t')=.tup [.str (S "go"),.int (t':Int)] from rfl,ZX (by rfl),XL (π':=[some (Zr p),x1,x2,some (.lst true (vs.map .int)),some (.int (t':Int)),some x,some (.tup [.str (S "go"),.int (t':Int)])]) (by rfl) (by
    rw[Zj,ZS (p:=.int (t':Int)) (by rfl) rfl rfl,Zf,Zp]
    rfl),Zp]
   rfl
  |ifr y sg z t'=>
   refine⟨fun o h=>(by cases h),fun o h=>(by cases h),fun s' h=>?_⟩
   cases h;have so:=ZjN (n:=n+1) (a:=Zs vs y) (b:=Zs vs z) (show ISg sg from rg);refine⟨some (Zl (.ifr y sg z t')),?_⟩;have cq:pe (Ze T (n+2)) (.and (.cmp .Eq (.ix (.var 6) (.cst (.int 0))) (.cst (.str (S "if")))) (.call 33 (.acons (.call 34 (.acons (.ix (.var 6) (.cst (.int 1))) (.acons (.var 3) .anil)) []) (.acons (.ix (.var 6) (.cst (.int 2))) (.acons (.call 34 (.acons (.ix (.var 6) (.cst (.int 3))) (.acons (.var 3) .anil)) []) .anil))) [])) [some (Zr p),x1,x2,some (.lst true (vs.map .int)),some (.int ((k+1:Nat):Int)),some x,some (.tup [.str (S "if"),ZF y,.str sg,ZF z,.int (t':Int)])]=some (.bl (XS (Zs vs y) sg (Zs vs z))):=by
    simp[w y ro.1,w z ro.2.1,so]
   have inner:px (Ze T (n+2)) [3] (.seq (.ite (.and (.cmp .Eq (.ix (.var 6) (.cst (.int 0))) (.cst (.str (S "if")))) (.call 33 (.acons (.call 34 (.acons (.ix (.var 6) (.cst (.int 1))) (.acons (.var 3) .anil)) []) (.acons (.ix (.var 6) (.cst (.int 2))) (.acons (.call 34 (.acons (.ix (.var 6) (.cst (.int 3))) (.acons (.var 3) .anil)) []) .anil))) [])) (.seq (.set 4 (.ix (.var 6) (.cst (.int 4)))) .skip) .skip) .skip) [some (Zr p),x1,x2,some (.lst true (vs.map .int)),some (.int ((k+1:Nat):Int)),some x,some (.tup [.str (S "if"),ZF y,.str sg,ZF z,.int (t':Int)])]=some (.nx [some (Zr p),x1,x2,some (.lst true (vs.map .int)),some (.int ((VV k vs (.ifr y sg z t'):Nat):Int)),some x,some (.tup [.str (S "if"),ZF y,.str sg,ZF z,.int (t':Int)])]):=by
    rw[show VV k vs (.ifr y sg z t')=(if XS (Zs vs y) sg (Zs vs z)=true then t' else k+1) from rfl]
    cases hq:XS (Zs vs y) sg (Zs vs z) with
    |true=>
     rw[hq]at cq;rw[XL (π':=[some (Zr p),x1,x2,some (.lst true (vs.map .int)),some (.int (t':Int)),some x,some (.tup [.str (S "if"),ZF y,.str sg,ZF z,.int (t':Int)])]) cq (by
      rw[Zj,ZS (p:=.int (t':Int)) (by rfl) rfl rfl,Zf,Zp]
      rfl),Zp]
     rfl
    |false=>
     rw[hq]at cq;rw[ZX cq,Zp];rfl
   rw[Ziy,ZX (by rfl),ZR (by rfl) (by rw[ZR (by rfl) inner,Zp]),Zp]
   rfl
  |skip=>
   refine⟨fun o h=>(by cases h),fun o h=>(by cases h),fun s' h=>?_⟩
   cases h;refine⟨some (Zl .skip),?_⟩;rw[show Zl .skip=.tup [.str (S "skip")] from rfl,ZX (by rfl),ZR (by rfl) (by rw[ZR (by rfl) (by rw[ZX (by rfl),Zp]),Zp]),Zp]
   rfl
end
end Dp


namespace Dp
open PySem
section
variable {n:Nat}{p:Prog}{ins:List Int}
theorem oL(hp:ProgOk p)(hg:∀ r∈p.rows,RSg r){x1 x2:Option P}:∀ {xs:List P}{s:StM}{x5 x6:Option P},StOkM p s→
  (∀ v,(ZM p.rows xs.length s).2.1=some (.told v)→Zz (fun d π=>px (Ze T (n+2)) [3] Zx (Zq π 5 d)) xs [some (Zr p),x1,x2,some (.lst true (s.2.map .int)),some (.int (s.1:Int)),x5,x6]=some (.rt (ZC (.told v)))) ∧
  ((∀ v,(ZM p.rows xs.length s).2.1≠some (.told v))→(∃ y5 y6,Zz (fun d π=>px (Ze T (n+2)) [3] Zx (Zq π 5 d)) xs [some (Zr p),x1,x2,some (.lst true (s.2.map .int)),some (.int (s.1:Int)),x5,x6]=some (.nx [some (Zr p),x1,x2,some (.lst true ((ZM p.rows xs.length s).2.2.2.map .int)),some (.int ((ZM p.rows xs.length s).2.2.1:Int)),y5,y6])) ∧
   ((ZM p.rows xs.length s).2.1≠Option.none→(ZM p.rows xs.length s).2.2.1=p.rows.length∧(ZM p.rows xs.length s).2.1=some .none))
 |[],s,x5,x6,_=>⟨fun o h=>(by cases h),fun _=>⟨⟨x5,x6,Y6⟩,fun h=>absurd rfl h⟩⟩
 |x :: xs,s,x5,x6,hs=>by
  have tn:=oT (n:=n) hp hg hs (x:=x) (x1:=x1) (x2:=x2) (x6:=x6);have e0:Zq [some (Zr p),x1,x2,some (.lst true (s.2.map .int)),some (.int (s.1:Int)),x5,x6] 5 x=[some (Zr p),x1,x2,some (.lst true (s.2.map .int)),some (.int (s.1:Int)),some x,x6]:=rfl;rw[ZA,e0];cases hst:Ya p.rows s with
  |out o=>
   have e1:ZM p.rows (x :: xs).length s=([],some o,s):=by
    show(match Ya p.rows s with
     |.out o=>([],some o,s)
     |.st s'=>(s' :: (ZM p.rows xs.length s').1,(ZM p.rows xs.length s').2))=_
    rw[hst]
   rw[e1];refine⟨fun v h=>?_,fun h=>?_⟩
   ·cases h
    rw[tn.1 v hst];rfl
   ·obtain⟨q1,q2,q3⟩:=tn.2.1 o hst (fun v z=>h v (by rw[z]))
    rw[q3,Zf9];exact⟨⟨_,_,rfl⟩,fun _=>⟨q1,by rw[q2]⟩⟩
  |st s'=>
   have e1:ZM p.rows (x :: xs).length s=(s' :: (ZM p.rows xs.length s').1,(ZM p.rows xs.length s').2):=by
    show(match Ya p.rows s with
     |.out o=>([],some o,s)
     |.st s'=>(s' :: (ZM p.rows xs.length s').1,(ZM p.rows xs.length s').2))=_
    rw[hst]
   obtain⟨y6,e⟩:=tn.2.2 s' hst;rw[e1,e,ZT];exact oL hp hg (QJ hp hs hst)
theorem Zgh(hp:ProgOk p)(hg:∀ r∈p.rows,RSg r)(h1:ins.length≤p.many)(hs:∀ v∈ins,Sm v){l:Nat}(hl:l≤900) :
  Ze T (n+3) 188 [Zr p,Zd ins,.int (l:Int)]=some (ZC (Zaq p.rows l (ZE p ins))):=by
 rw[Zo (f:=c__law_outcome_k47) rfl rfl rfl];have so:=JN (p:=p) h1 hs;have hm:=hp.many;have rl:(Yj (l:Int)).length=l:=by simp[Yj]
 have lp:=oL (n:=n) hp hg (x1:=some (Zd ins)) (x2:=some (.int (l:Int))) (xs:=Yj (l:Int)) (s:=ZE p ins) (x5:=Option.none) (x6:=Option.none) so;rw[rl]at lp;show Ys (px (Ze T (n+2)) [3] c__law_outcome_k47.body [some (Zr p),some (Zd ins),some (.int (l:Int)),Option.none,Option.none,Option.none,Option.none])=_;unfold c__law_outcome_k47;have e:((p.many:Int) - (ins.length:Int)).toNat=p.many - ins.length:=by omega
 rw[Zj,Xd (p:=.lst true ((ZE p ins).2.map .int)) (by
  unfold Zd ZE;simp[e,Zc,Zr];omega) rfl (by rfl),Zf]
 simp only[Zh,Zg];rw[Zj,ZS (p:=.int ((ZE p ins).1:Int)) (by rfl) rfl rfl,Zf]
 simp only[Zh,Zg];rw[Zj,QB (n:=l) (by rfl) (by omega) rfl]
 unfold Zaq;by_cases ht:∃ v,(ZM p.rows l (ZE p ins)).2.1=some (.told v)
 ·obtain⟨v,q⟩:=ht
  rw[lp.1 v q,q];rfl
 ·obtain⟨⟨y5,y6,e⟩,en⟩:=lp.2 fun v z=>ht ⟨v,z⟩
  have sk:=Zd2 hp so (l:=l);rw[e,Zf];by_cases he:p.rows.length≤(ZM p.rows l (ZE p ins)).2.2.1
  ·have he':(ZM p.rows l (ZE p ins)).2.2.1=p.rows.length:=Nat.le_antisymm sk.k he
   rw[Z6 (v:=ZC .none) (by rw[he'];simp[Zr]) (by rfl)]
   cases q:(ZM p.rows l (ZE p ins)).2.1 with
   |none=>simp[ZcM,he]
   |some o=>
    have:=(en (by rw[q];exact fun z=>nomatch z)).2
    rw[q]at this;cases this;rfl
  ·have qn:(ZM p.rows l (ZE p ins)).2.1=Option.none:=by
    cases q:(ZM p.rows l (ZE p ins)).2.1 with
    |none=>rfl
    |some o=>
     have:=(en (by rw[q];exact fun z=>nomatch z)).1
     omega
   rw[ZX (by simp[Zr];omega),Yg (v:=ZC .late) (by rfl),qn]
   simp[ZcM,he]
end
end Dp


namespace Dp
open PySem
theorem Zjc:BoxT T:=⟨rfl,rfl,rfl,rfl,rfl,rfl,rfl⟩
section
variable {n:Nat}{F:PFn}
def Wz(q:List Int×Int):P:=.tup [Zd q.1,.int q.2]
def Yw(L:List (List Int))(ns:List Int):List (List Int×Int):=L.flatMap fun i=>ns.map fun k=>(i,k)
theorem Zgv{x0 x1:Option P}{i:List Int}:∀ {ns:List Int}{xs:List P}{x4:Option P},xs.length+ns.length≤Zc→
  ∃ y4,Zz (fun d π=>px F [2] Yl (Zq π 4 d)) (ns.map .int) [x0,x1,some (.lst true xs),some (Zd i),x4]=some (.nx [x0,x1,some (.lst true (xs++(ns.map fun k=>Wz (i,k)))),some (Zd i),y4])
 |[],xs,x4,_=>⟨x4,by rw[List.map_nil,List.map_nil,List.append_nil];exact Y6⟩
 |k :: ns,xs,x4,h=>by
  rw[List.length_cons]at h;obtain⟨y4,e⟩:=Zgv (x0:=x0) (x1:=x1) (i:=i) (ns:=ns) (xs:=xs++[Wz (i,k)]) (x4:=some (.int k)) (by simp;omega)
  refine⟨y4,?_⟩;rw[List.map_cons,ZA];have b:px F [2] Yl (Zq [x0,x1,some (.lst true xs),some (Zd i),x4] 4 (.int k))=some (.nx [x0,x1,some (.lst true (xs++[Wz (i,k)])),some (Zd i),some (.int k)]):=by
   show px F [2] Yl [x0,x1,some (.lst true xs),some (Zd i),some (.int k)]=_;unfold Yl;have z:xs.length < Zc:=by omega
   rw[Zj,QA (p:=Wz (i,k)) (xs:=xs) rfl rfl rfl rfl z,Zf,Zp];rfl
  rw[b,ZT,e,List.append_assoc];rfl
theorem ZdM{x0:Option P}{ns:List Int}{m:Bool}:∀ {L:List (List Int)}{xs:List P}{x3 x4:Option P},xs.length+(Yw L ns).length≤Zc→
  ∃ y3 y4,Zz (fun d π=>px F [2] Z0 (Zq π 3 d)) (L.map Zd) [x0,some (.lst m (ns.map .int)),some (.lst true xs),x3,x4]=some (.nx [x0,some (.lst m (ns.map .int)),some (.lst true (xs++(Yw L ns).map Wz)),y3,y4])
 |[],xs,x3,x4,_=>⟨x3,x4,by rw[List.map_nil,Y6];simp[Yw]⟩
 |i :: L,xs,x3,x4,h=>by
  have g:Yw (i :: L) ns=(ns.map fun k=>(i,k))++Yw L ns:=rfl
  rw[g,List.length_append,List.length_map]at h;obtain⟨y4,e⟩:=Zgv (F:=F) (x0:=x0) (x1:=some (.lst m (ns.map .int))) (i:=i) (ns:=ns) (xs:=xs) (x4:=x4) (by omega)
  obtain⟨z3,z4,e2⟩:=ZdM (x0:=x0) (ns:=ns) (m:=m) (L:=L) (xs:=xs++ns.map fun k=>Wz (i,k)) (x3:=some (Zd i)) (x4:=y4) (by simp;omega)
  refine⟨z3,z4,?_⟩;rw[List.map_cons,ZA];have b:px F [2] Z0 (Zq [x0,some (.lst m (ns.map .int)),some (.lst true xs),x3,x4] 3 (Zd i))=some (.nx [x0,some (.lst m (ns.map .int)),some (.lst true (xs++ns.map fun k=>Wz (i,k))),some (Zd i),y4]):=by
   show px F [2] Z0 [x0,some (.lst m (ns.map .int)),some (.lst true xs),some (Zd i),x4]=_;unfold Z0;rw[Zj,Wb (m:=m) (xs:=ns.map .int) rfl rfl,e,Zf,Zp]
  rw[b,ZT,e2,g,List.map_append,List.map_map,List.append_assoc];rfl
theorem Zez{m m':Bool}{L:List (List Int)}{ns:List Int}(h:(Yw L ns).length≤Zc):Ze T (n+1) 196 [.lst m' (L.map Zd),.lst m (ns.map .int)]=some (.lst true ((Yw L ns).map Wz)):=by
 rw[Zo (f:=c__law_pairs) rfl rfl rfl];obtain⟨y3,y4,e⟩:=ZdM (F:=Ze T n) (x0:=some (.lst m' (L.map Zd))) (ns:=ns) (m:=m) (L:=L) (xs:=[]) (x3:=none) (x4:=none) (by simpa using h)
 show Ys (px (Ze T n) [2] (.seq (.set 2 (.lstE .anil)) (.seq (.for1 3 false (.var 0) Z0) (.seq (.ret (.var 2)) .skip))) [some (.lst m' (L.map Zd)),some (.lst m (ns.map .int)),none,none,none])=_;rw[Zj,Xd (p:=.lst true []) rfl rfl rfl,Zf];simp only[Zh,Zg];rw[Zj,Wb (m:=m') (xs:=L.map Zd) rfl rfl,e,Zf,List.nil_append,Yg (v:=.lst true ((Yw L ns).map Wz)) (by rfl)]
 rfl
theorem V0{L:List (List Int)}{ns:List Int}:(Yw L ns).map (fun q=>q.1++[q.2])=Yn L ns:=by
 unfold Yw Yn;rw[List.map_flatMap]
 congr 1
 funext i
 rw[List.map_map];rfl
theorem UR{L:List (List Int)}{ns:List Int}:(Yw L ns).length=(Yn L ns).length:=by rw[←V0,List.length_map]
theorem Zca{L:List (List Int)}{ns:List Int}{q:List Int×Int}(h:q∈Yw L ns):q.1∈L:=by
 unfold Yw at h;obtain⟨i,hi,h⟩:=List.mem_flatMap.mp h;obtain⟨k,_,rfl⟩:=List.mem_map.mp h;exact hi
theorem ZcH:∀ {qs:List (List Int×Int)},(∀ q∈qs,q.1.length < 1000)→Z7 (fun p=>pe F (.bin .Add (.var 0) (.tupE (.acons (.var 1) .anil))) (Yi p++[])) (fun p=>pe F (.cst (.bl true)) (Yi p++[])) (qs.map Wz)=some (qs.map fun q=>Zd (q.1++[q.2]))
 |[],_=>rfl
 |q :: qs,h=>by
  rw[List.map_cons];unfold Z7;have e1:pe F (.cst (.bl true)) (Yi (Wz q)++[])=some (.bl true):=rfl;have e2:pe F (.bin .Add (.var 0) (.tupE (.acons (.var 1) .anil))) (Yi (Wz q)++[])=some (Zd (q.1++[q.2])):=by
   show pe F (.bin .Add (.var 0) (.tupE (.acons (.var 1) .anil))) [some (Zd q.1),some (.int q.2)]=_;have:q.1.length+1≤Zc:=by have:=h q List.mem_cons_self;unfold Zc;omega
   simp[Zd,this]
  rw[e1,e2];simp only;rw[ZcH fun r hr=>h r (List.mem_cons_of_mem _ hr)]
  rfl
end
end Dp


namespace Dp
open PySem
section
variable {n:Nat}{F:PFn}
def We(ts:Tk):Prop:=ts.length≤3∧∀ t∈ts,-1000000000≤t.1∧t.1≤t.2∧t.2≤999999999
def WR(many:Int)(t:Int×Int):List Int:=if many≤64 then YU t else ZI t
theorem Zch{t:Int×Int}(h:t.1≤t.2):Us t.1 (t.1+(t.2 - t.1) / 2) t.2=some (ZI t):=by
 have m:t.1+(t.2 - t.1) / 2=Y2 t:=by unfold Y2;omega
 rw[m];have h1:t.1≤Y2 t:=by unfold Y2;omega
 have h2:Y2 t≤t.2:=by unfold Y2;omega
 unfold Us;rw[if_pos ⟨h1,h2⟩];unfold ZI;have e1:Yo [] t.1=[t.1]:=rfl;rw[e1];by_cases q1:t.1=Y2 t
 ·have e2:Yo [t.1] (Y2 t)=[t.1]:=by unfold Yo;rw[if_pos (by simp[q1])]
  rw[e2,if_pos q1];by_cases q2:Y2 t=t.2
  ·rw[if_pos q2];unfold Yo;rw[if_pos (by simp[q1,q2])]
  ·rw[if_neg q2];unfold Yo;rw[if_neg (by simp;omega)];rfl
 ·have e2:Yo [t.1] (Y2 t)=[t.1,Y2 t]:=by unfold Yo;rw[if_neg (by simpa using fun z=>q1 z.symm)];rfl
  rw[e2,if_neg q1];by_cases q2:Y2 t=t.2
  ·rw[if_pos q2];unfold Yo;rw[if_pos (by simp[q2])]
  ·rw[if_neg q2];unfold Yo;rw[if_neg (by simp;omega)];rfl
theorem ZaU{x0:Option P}{many:Int}:∀ {ts:Tk}{xs:List P}{x3 x4:Option P},(∀ t∈ts,t.1≤t.2∧(many≤64→YA t.1 (t.2+1) 1=true∧t.2+1 - t.1≤1000))→xs.length+ts.length≤1000→
  ∃ y3 y4,Zz (XH 3 4 (px F [2] ZO)) (ts.map ZW) [x0,some (.int many),some (.lst true xs),x3,x4]=some (.nx [x0,some (.int many),some (.lst true (xs++(ts.map (WR many)).map Zv)),y3,y4])
 |[],xs,x3,x4,_,_=>⟨x3,x4,by rw[List.map_nil,List.map_nil,List.map_nil,List.append_nil];exact Y6⟩
 |t :: ts,xs,x3,x4,h,hl=>by
  rw[List.length_cons]at hl;obtain⟨h1,h2⟩:=h t List.mem_cons_self;obtain⟨y3,y4,e⟩:=ZaU (x0:=x0) (many:=many) (ts:=ts) (xs:=xs++[Zv (WR many t)]) (x3:=some (.int t.1)) (x4:=some (.int t.2)) (fun q hq=>h q (List.mem_cons_of_mem _ hq)) (by simp;omega)
  refine⟨y3,y4,?_⟩;rw[List.map_cons,ZA];have z:xs.length < Zc:=by unfold Zc;omega
  have b:XH 3 4 (px F [2] ZO) (ZW t) [x0,some (.int many),some (.lst true xs),x3,x4]=some (.nx [x0,some (.int many),some (.lst true (xs++[Zv (WR many t)])),some (.int t.1),some (.int t.2)]):=by
   show px F [2] ZO [x0,some (.int many),some (.lst true xs),some (.int t.1),some (.int t.2)]=_;unfold ZO WR;by_cases hm:many≤64
   ·rw[Zj,XC,show pe F (.cmp .LtE (.var 1) (.cst (.int 64))) [x0,some (.int many),some (.lst true xs),some (.int t.1),some (.int t.2)]=some (.bl true) by simp[hm],Xe,if_pos rfl,Zj,W1 (xs:=xs) rfl,
     show pe F (.lstR (.var 3) (.bin .Add (.var 4) (.cst (.int 1)))) [x0,some (.int many),some (.lst true xs),some (.int t.1),some (.int t.2)]=some (Zv (YU t)) by simp[W8,(h2 hm).1,(h2 hm).2,Zv,YU],Option.bind_some,if_pos (by rw[decide_eq_true z];rfl),Zf,Zp,Zf,Zp,if_pos hm]
    rfl
   ·rw[Zj,XC,show pe F (.cmp .LtE (.var 1) (.cst (.int 64))) [x0,some (.int many),some (.lst true xs),some (.int t.1),some (.int t.2)]=some (.bl false) by simp[hm],Xe,if_neg (by simp),Zj,W1 (xs:=xs) rfl,
     show pe F (.srt (.acons (.var 3) (.acons (.bin .Add (.var 3) (.bin .FloorDiv (.bin .Sub (.var 4) (.var 3)) (.cst (.int 2)))) (.acons (.var 4) .anil)))) [x0,some (.int many),some (.lst true xs),some (.int t.1),some (.int t.2)]=some (Zv (ZI t)) by
      have e3:ZaD (.tup [.int t.1,.int (t.1+(t.2 - t.1) / 2),.int t.2])=some (Zv (ZI t)):=by
       show(Us t.1 (t.1+(t.2 - t.1) / 2) t.2).map (fun l=>P.lst true (l.map P.int))=_
       rw[Zch h1];rfl
      simp[e3],Option.bind_some,if_pos (by rw[decide_eq_true z];rfl),Zf,Zp,Zf,Zp,if_neg hm]
    rfl
  rw[b,ZT,e,List.append_assoc];rfl
theorem Zbt{ts:Tk}{many:Int}(h:∀ t∈ts,t.1≤t.2∧(many≤64→YA t.1 (t.2+1) 1=true∧t.2+1 - t.1≤1000))(hl:ts.length≤3):Ze T (n+1) 194 [Zy ts,.int many]=some (.lst true ((ts.map (WR many)).map Zv)):=by
 rw[Zo (f:=c__law_choices) rfl rfl rfl];obtain⟨y3,y4,e⟩:=ZaU (F:=Ze T n) (x0:=some (Zy ts)) (many:=many) (ts:=ts) (xs:=[]) (x3:=none) (x4:=none) h (by simp;omega)
 show Ys (px (Ze T n) [2] (.seq (.set 2 (.lstE .anil)) (.seq (.for2 3 4 (.var 0) ZO) (.seq (.ret (.var 2)) .skip))) [some (Zy ts),some (.int many),none,none,none])=_;rw[Zj,Xd (p:=.lst true []) rfl rfl rfl,Zf];simp only[Zh,Zg];rw[Zj,V4 (xs:=ts.map ZW) (by rfl) (by rfl),e,Zf,List.nil_append,Yg (v:=.lst true ((ts.map (WR many)).map Zv)) (by rfl)]
 rfl
theorem Zho{a b:Int}(h:Z8 b=true):Xi .Mult (.int a) (.int b)=some (.int (a * b)):=by
 rw[Qa,h,Bool.or_true,if_pos rfl]
theorem Zgc{x0 x4 x5:Option P}:∀ (ts:Tk) (m:Int) (x2 x3:Option P),(∀ t∈ts,Z8 (t.2 - t.1+1)=true)→
  ∃ y2 y3,Zz (XH 2 3 (px F [] YD)) (ts.map ZW) [x0,some (.int m),x2,x3,x4,x5]=some (.nx [x0,some (.int (ZK m ts)),y2,y3,x4,x5]):=by
 intro ts
 induction ts with
 |nil=>exact fun m x2 x3 _=>⟨x2,x3,rfl⟩
 |cons t ts ih=>
  intro m x2 x3 h;obtain⟨y2,y3,e⟩:=ih (m * (t.2 - t.1+1)) (some (.int t.1)) (some (.int t.2)) fun q hq=>h q (List.mem_cons_of_mem _ hq)
  have b:XH 2 3 (px F [] YD) (ZW t) [x0,some (.int m),x2,x3,x4,x5]=some (.nx [x0,some (.int (m * (t.2 - t.1+1))),some (.int t.1),some (.int t.2),x4,x5]):=by
   have e:pe F (.bin .Mult (.var 1) (.bin .Sub (.bin .Add (.var 3) (.cst (.int 1))) (.var 2))) [x0,some (.int m),some (.int t.1),some (.int t.2),x4,x5]=some (.int (m * (t.2 - t.1+1))):=by
    simp only[XY,pe_var,ZdF,Zba,List.getElem?_cons_zero,List.getElem?_cons_succ,Option.join_some,Option.bind_some,ZeN,ZaR];rw[show t.2+1 - t.1=t.2 - t.1+1 by omega]
    exact Zho (h t List.mem_cons_self)
   show px F [] (.seq (.set 1 _) .skip) [x0,some (.int m),some (.int t.1),some (.int t.2),x4,x5]=_;rw[Yv e];rfl
  exact⟨y2,y3,by rw[List.map_cons,ZA,b,ZT,e];rfl⟩
theorem Zin{qs:List (List Int×Int)}:(qs.map Wz).all WF=true:=by
 rw[List.all_eq_true];intro x hx;obtain⟨t,_,rfl⟩:=List.mem_map.mp hx;rfl
theorem Zbo{x0 x1 x2 x3:Option P}:∀ {nss:List (List Int)}{L:List (List Int)}{x5:Option P},(∀ i∈L,i.length+nss.length < 1000)→YV L nss→
  ∃ y5,Zz (fun d π=>px (Ze T (n+1)) [] Z1 (Zq π 5 d)) (nss.map Zv) [x0,x1,x2,x3,some (.lst true (L.map Zd)),x5]=some (.nx [x0,x1,x2,x3,some (.lst true ((nss.foldl Yn L).map Zd)),y5])
 |[],L,x5,_,_=>⟨x5,rfl⟩
 |ns :: nss,L,x5,hL,hs=>by
  obtain⟨h1,h2,h3⟩:=hs;obtain⟨y5,e⟩:=Zbo (x0:=x0) (x1:=x1) (x2:=x2) (x3:=x3) (nss:=nss) (L:=Yn L ns) (x5:=some (Zv ns)) (fun i hi=>by
   unfold Yn at hi;obtain⟨j,hj,hi⟩:=List.mem_flatMap.mp hi;obtain⟨k,_,rfl⟩:=List.mem_map.mp hi;have:=hL j hj;simp at this;simp;omega) h3
  refine⟨y5,?_⟩;rw[List.map_cons,ZA];have pl:=Zez (n:=n) (m:=true) (m':=true) (L:=L) (ns:=ns) (by rw[UR];unfold Zc;omega)
  have b:px (Ze T (n+1)) [] Z1 (Zq [x0,x1,x2,x3,some (.lst true (L.map Zd)),x5] 5 (Zv ns))=some (.nx [x0,x1,x2,x3,some (.lst true ((Yn L ns).map Zd)),some (Zv ns)]):=by
   show px (Ze T (n+1)) [] Z1 [x0,x1,x2,x3,some (.lst true (L.map Zd)),some (Zv ns)]=_;unfold Z1;rw[Yv (v:=.lst true ((Yn L ns).map Zd)) (by
    rw[Zcb (m:=true) (xs:=(Yw L ns).map Wz) (by
     show pe (Ze T (n+1)) (.call 196 (.acons (.var 4) (.acons (.var 5) .anil)) []) [x0,x1,x2,x3,some (.lst true (L.map Zd)),some (.lst true (ns.map .int))]=_;simp[pl]) Zin (by rw[List.length_map,UR];exact h2)]
    have:=ZcH (F:=Ze T (n+1)) (qs:=Yw L ns) (fun q hq=>by have:=hL _ (Zca hq);simp at this;omega)
    have e2:(Yw L ns).map (fun q=>Zd (q.1++[q.2]))=(Yn L ns).map Zd:=by rw[←V0,List.map_map];rfl
    rw[e2]at this;exact congrArg (Option.map (P.lst true)) this)]
   rfl
  rw[b,ZT,e];rfl
end
end Dp


namespace Dp
open PySem
section
variable {n:Nat}{F:PFn}{m:Nat}{c0 c1 c2 c3:Int}
theorem J1{α:Type}{f:α→P}{ks:List α}(h:0 < ks.length)(i:Int):∃ k∈ks,atP (ks.map f) (i % (ks.length:Int))=some (f k):=by
 have h1:=Int.emod_nonneg i (show(ks.length:Int)≠0 by omega)
 have h2:=Int.emod_lt_of_pos i (show 0 < (ks.length:Int) by omega)
 obtain⟨q,hq⟩:∃ q:Nat,i % (ks.length:Int)=(q:Int):=⟨(i % (ks.length:Int)).toNat,by omega⟩
 have hl:q < ks.length:=by omega
 refine⟨ks[q],List.getElem_mem hl,?_⟩;rw[Xh hq,List.getElem?_map,List.getElem?_eq_getElem hl];rfl
theorem Zgi{c:Int}:∃ v,Sm v∧Ze T (n+1) 18 [.int c]=some (.int v):=by
 rw[Zo (f:=c__law_number_by_k47) rfl rfl rfl];have l1:Z8 48271=true:=rfl;show ∃ v,Sm v∧Ys (px (Ze T n) [] c__law_number_by_k47.body [some (.int c)])=_;unfold c__law_number_by_k47;by_cases h:c % 3=0
 ·obtain⟨v,hv,e⟩:=J1 (f:=P.int) (ks:=[-1000000000,999999999,-1,0,1,2,-999999999,999999998]) (by decide) (c / 3)
  have a:∀ v∈[-1000000000,999999999,-1,0,1,2,-999999999,999999998],Sm v:=by decide
  have e:atP [.int (-1000000000),.int 999999999,.int (-1),.int 0,.int 1,.int 2,.int (-999999999),.int 999999998] (c / 3 % 8)=some (.int v):=e;refine⟨v,a v hv,?_⟩;rw[Z6 (v:=.int v) (by simp[h]) (by simp[e])]
  rfl
 rw[ZX (by simp[h])]
 by_cases h1:c % 3=1
 ·refine⟨c / 3 % 7 - 3,⟨by omega,by omega⟩,?_⟩
  rw[Z6 (v:=.int (c / 3 % 7 - 3)) (by simp[h1]) (by simp)]
  rfl
 ·refine⟨c / 3 * 48271 % 2000000000 - 1000000000,⟨by omega,by omega⟩,?_⟩
  rw[ZX (by simp[h1]),Yg (v:=.int (c / 3 * 48271 % 2000000000 - 1000000000)) (by simp[l1])]
  rfl
theorem Zgj(hm:0 < m){c:Int}:∃ o,YW m o∧Ze T (n+2) 71 [.int c,.int (m:Int)]=some (ZF o):=by
 rw[Zo (f:=c__law_operand_by_k47) rfl rfl rfl];obtain⟨v,sv,nb⟩:=Zgi (n:=n) (c:=c / 5);show ∃ o,YW m o∧Ys (px (Ze T (n+1)) [] c__law_operand_by_k47.body [some (.int c),some (.int (m:Int))])=_;unfold c__law_operand_by_k47;by_cases h:c % 5 < 3
 ·have:=Int.emod_nonneg (c / 5) (show(m:Int)≠0 by omega)
  have:=Int.emod_lt_of_pos (c / 5) (show 0 < (m:Int) by omega)
  have e:((c / 5 % (m:Int)).toNat:Int)=c / 5 % (m:Int):=by omega
  refine⟨.name (c / 5 % (m:Int)).toNat,by show(c / 5 % (m:Int)).toNat < m;omega,?_⟩
  rw[Z6 (v:=ZF (.name (c / 5 % (m:Int)).toNat)) (by simp[h]) (by simp[ZF,e,hm])]
  rfl
 ·refine⟨.num v,sv,?_⟩
  rw[ZX (by simp[h]),Yg (v:=ZF (.num v)) (by simp[nb,ZF])]
  rfl
def ROk(m N:Nat)(r:Row):Prop:=ZaN m N r∧RSg r
theorem Zil{b:Bool}{size:Nat}(hm:0 < m)(hm':m≤100):∃ r,ROk m size r∧Ze T (n+3) 72 [.lst b [.int c0,.int c1,.int c2,.int c3],.int (m:Int),.int (size:Int)]=some (Zl r):=by
 rw[Zo (f:=c__law_row_by_k47) rfl rfl rfl];obtain⟨y,hy,ey⟩:=Zgj (n:=n) hm (c:=c1);obtain⟨z,hz,ez⟩:=Zgj (n:=n) hm (c:=c2);have oy:=ZdA hy;have oz:=ZdA hz;have ps:(0:Int) < (size:Int)+1:=by omega
 obtain⟨t,et,ht⟩:∃ t:Nat,c3 / 5 % ((size:Int)+1)=(t:Int)∧t≤size:=⟨(c3 / 5 % ((size:Int)+1)).toNat,by
  have:=Int.emod_nonneg (c3 / 5) (show(size:Int)+1≠0 by omega)
  omega,by
  have:=Int.emod_nonneg (c3 / 5) (show(size:Int)+1≠0 by omega)
  have:=Int.emod_lt_of_pos (c3 / 5) ps;omega⟩
 show ∃ r,ROk m size r∧Ys (px (Ze T (n+2)) [] c__law_row_by_k47.body [some (.lst b [.int c0,.int c1,.int c2,.int c3]),some (.int (m:Int)),some (.int (size:Int)),none,none,none,none])=_;unfold c__law_row_by_k47;rw[Yv (v:=ZF y) (by first|rfl|simp[ey])]
 simp only[Zh,Zg];rw[Yv (v:=ZF z) (by first|rfl|simp[ez])]
 simp only[Zh,Zg];rw[Yv (v:=.int (t:Int)) (by first|rfl|simp[ps,et])]
 simp only[Zh,Zg];rw[Yv (v:=.int (c0 / 8)) (by first|rfl|simp)]
 simp only[Zh,Zg];have ia:∀ {i:Int},atP [.str (S "+"),.str (S "-"),.str (S "*"),.str (S "/"),.str (S "mod")] (i % 5)=some (.str (sgA (i % 5))):=Zj5;have ib:∀ {i:Int},atP [.str (S "<"),.str (S "<="),.str (S "="),.str (S ">="),.str (S ">"),.str (S "!=")] (i % 6)=some (.str (sgB (i % 6))):=Zj6;by_cases h1:c0 % 8 < 3
 ·obtain⟨x,ex,hx⟩:∃ x:Nat,c3 % 5 % (m:Int)=(x:Int)∧x < m:=⟨(c3 % 5 % (m:Int)).toNat,by
   have:=Int.emod_nonneg (c3 % 5) (show(m:Int)≠0 by omega)
   omega,by
   have:=Int.emod_nonneg (c3 % 5) (show(m:Int)≠0 by omega)
   have:=Int.emod_lt_of_pos (c3 % 5) (show 0 < (m:Int) by omega)
   omega⟩
  refine⟨.put x y (sgA (c0 / 8 % 5)) z,⟨⟨hx,hy,hz⟩,ZhV _,oy,oz⟩,?_⟩;rw[Z6 (v:=Zl (.put x y (sgA (c0 / 8 % 5)) z)) (by first|rfl|simp[h1]) (by first|rfl|simp[ia,ex,hm,Zl])]
  rfl
 rw[ZX (by first|rfl|simp[h1])]
 by_cases h2:c0 % 8 < 5
 ·refine⟨.ifr y (sgB (c0 / 8 % 6)) z t,⟨⟨hy,hz,ht⟩,ZhW _⟩,?_⟩
  rw[Z6 (v:=Zl (.ifr y (sgB (c0 / 8 % 6)) z t)) (by first|rfl|simp[h2]) (by first|rfl|simp[ib,Zl])]
  rfl
 rw[ZX (by first|rfl|simp[h2])]
 by_cases h3:c0 % 8=5
 ·refine⟨.go t,⟨ht,trivial⟩,?_⟩
  rw[Z6 (v:=Zl (.go t)) (by first|rfl|simp[h3]) (by first|rfl|simp[Zl])]
  rfl
 rw[ZX (by first|rfl|simp[h3])]
 by_cases h4:c0 % 8=6
 ·refine⟨.tell y,⟨hy,trivial⟩,?_⟩
  rw[Z6 (v:=Zl (.tell y)) (by first|rfl|simp[h4]) (by first|rfl|simp[Zl])]
  rfl
 rw[ZX (by first|rfl|simp[h4])]
 refine⟨.skip,⟨trivial,trivial⟩,?_⟩;rw[Yg (v:=Zl .skip) (by first|rfl|simp[Zl])]
 rfl
end
end Dp


namespace Dp
open PySem
section
variable {n:Nat}{F:PFn}
theorem Zal{B:P→P→Zw→Option PFl}{x y:P}{ps:List (P×P)}{π:Zw}:Xu B ((x,y) :: ps) π=Uc (B x y π) (Xu B ps):=by
 show(match B x y π with
  |some (.nx π')=>Xu B ps π'
  |some (.ct π')=>Xu B ps π'
  |some (.bk π')=>some (.nx π')
  |some (.rt v)=>some (.rt v)
  |none=>none)=_
 unfold Uc;rfl
def Vf(ws:List Int):Prop:=ws.length≤3∧∀ w∈ws,1≤w∧w≤2000000000
theorem ws2{a b:Int}(ha:1≤a∧a≤2000000000)(hb:1≤b∧b≤2000000000):Vf [a,b]:=⟨by simp,by simp;omega⟩
theorem ws3{a b c:Int}(ha:1≤a∧a≤2000000000)(hb:1≤b∧b≤2000000000)(hc:1≤c∧c≤2000000000):Vf [a,b,c]:=⟨by simp,by simp;omega⟩
theorem Zix{a b c:P}{k:Nat}:Wg [a,b,c] Option.none (some (k:Int))=[a,b,c].take k:=by
 by_cases h:k≤3
 ·exact Zaa h
 ·have e:sIx 3 3 (some (k:Int))=3:=by
   show(if (k:Int) < 0 then ((k:Int)+3).toNat else Nat.min ((k:Int)).toNat 3)=3
   rw[if_neg (by omega)]
   exact Nat.min_eq_right (by omega)
  show(([a,b,c].drop 0).take (sIx 3 3 (some (k:Int)) - 0))=_;rw[e,List.take_of_length_le (l:=[a,b,c]) (by simp;omega)]
  rfl
theorem Zbr{ws:List Int}(h:Vf ws)(k:Nat):Vf (ws.take k):=⟨by rw[List.length_take];have:=h.1;omega,fun w hw=>h.2 w (List.mem_of_mem_take hw)⟩
instance {ws:List Int}:Decidable (Vf ws):=inferInstanceAs (Decidable (_∧_))
theorem Zcr{c:Int}:∃ ws,Vf ws∧Ze T (n+1) 142 [.int c]=some (Zv ws):=by
 rw[Zo (f:=c__law_widths_k47) rfl rfl rfl];show ∃ ws,Vf ws∧Ys (px (Ze T n) [] c__law_widths_k47.body [some (.int c),none])=_;unfold c__law_widths_k47;rw[Yv (v:=.int (c / 8)) (by simp)]
 simp only[Zh,Zg];by_cases q4:c % 8=4
 ·obtain⟨k,hk,e⟩:=J1 (f:=Zv) (ks:=[[64],[8,8],[4,4,4],[2,32],[1,64],[16,2,2]]) (by decide) (c / 8)
  have a:∀ k∈[[64],[8,8],[4,4,4],[2,32],[1,64],[16,2,2]],Vf k:=by decide
  have e:atP [.lst true [.int 64],.lst true [.int 8,.int 8],.lst true [.int 4,.int 4,.int 4],.lst true [.int 2,.int 32],.lst true [.int 1,.int 64],.lst true [.int 16,.int 2,.int 2]] (c / 8 % 6)=some (Zv k):=e;exact⟨k,a k hk,by rw[Z6 (by simp[q4]) (v:=Zv k) (by simp[e])];rfl⟩
 rw[ZX (by simp[q4])]
 by_cases q5:c % 8=5
 ·obtain⟨k,hk,e⟩:=J1 (f:=Zv) (ks:=[[65],[5,13],[13,5],[22,3],[1,65],[4,4,5]]) (by decide) (c / 8)
  have a:∀ k∈[[65],[5,13],[13,5],[22,3],[1,65],[4,4,5]],Vf k:=by decide
  have e:atP [.lst true [.int 65],.lst true [.int 5,.int 13],.lst true [.int 13,.int 5],.lst true [.int 22,.int 3],.lst true [.int 1,.int 65],.lst true [.int 4,.int 4,.int 5]] (c / 8 % 6)=some (Zv k):=e;exact⟨k,a k hk,by rw[Z6 (by simp[q5]) (v:=Zv k) (by simp[e])];rfl⟩
 rw[ZX (by simp[q5])]
 by_cases q6:c % 8=6
 ·exact⟨[1+c / 8 / 7 % 5,1+c / 8 % 2000000000],ws2 (by omega) (by omega),by rw[Z6 (by simp[q6]) (v:=Zv [1+c / 8 / 7 % 5,1+c / 8 % 2000000000]) (by simp[Zv])];rfl⟩
 rw[ZX (by simp[q6])]
 by_cases q7:c % 8=7
 ·obtain⟨k,ek⟩:∃ k:Nat,1+c / 8 % 3=(k:Int):=⟨(1+c / 8 % 3).toNat,by omega⟩
  refine⟨[2000000000,1+c / 8 % 2000000000,3].take k,Zbr (ws3 (by omega) (by omega) (by omega)) k,?_⟩
  rw[Z6 (by simp[q7]) (v:=Zv ([2000000000,1+c / 8 % 2000000000,3].take k)) (by simp[Zv,ek,Zix])]
  rfl
 rw[ZX (by simp[q7])]
 obtain⟨k,ek⟩:∃ k:Nat,c % 8=(k:Int):=⟨(c % 8).toNat,by omega⟩
 refine⟨[1+c / 8 % 4,1+c / 8 / 4 % 4,1].take k,Zbr (ws3 (by omega) (by omega) (by omega)) k,?_⟩
 rw[Yg (v:=Zv ([1+c / 8 % 4,1+c / 8 / 4 % 4,1].take k)) (by simp[Zv,ek,Zix])]
 rfl
theorem Zf8(h18:∀ c,∃ v,Sm v∧F 18 [.int c]=some (.int v)){x0:Option P}{b:Bool}{a0 a1 a2 w:Int}{k:Nat}{ts:Tk}{x5:Option P}(hk:k≤2)(ht:ts.length≤10)(hw:1≤w∧w≤2000000000) :
  ∃ t:Int×Int,(-1000000000≤t.1∧t.1≤t.2∧t.2≤999999999)∧px F [2] ZQ [x0,some (.lst b [.int a0,.int a1,.int a2]),some (.lst true (ts.map ZW)),some (.int (k:Int)),some (.int w),x5]=some (.nx [x0,some (.lst b [.int a0,.int a1,.int a2]),some (.lst true ((ts++[t]).map ZW)),some (.int (k:Int)),some (.int w),some (.int t.1)]):=by
 obtain⟨e,he⟩:∃ e,pe F (.ix (.var 1) (.var 3)) [x0,some (.lst b [.int a0,.int a1,.int a2]),some (.lst true (ts.map ZW)),some (.int (k:Int)),some (.int w),x5]=some (.int e):=by
  rcases (show k=0∨k=1∨k=2 by omega) with rfl|rfl|rfl
  ·exact⟨a0,by simp⟩
  ·exact⟨a1,by simp⟩
  ·exact⟨a2,by simp⟩
 obtain⟨v,hv,e18⟩:=h18 e;obtain⟨lo,hlo⟩:∃ lo,(if 1000000000 - w < v then 1000000000 - w else v)=lo:=⟨_,rfl⟩
 have b1:=hv.1;have b2:=hv.2;refine⟨(lo,lo+w - 1),⟨by show -1000000000≤lo;split at hlo<;>omega,by show lo≤lo+w - 1;omega,by show lo+w - 1≤999999999;split at hlo<;>omega⟩,?_⟩
 unfold ZQ;rw[Zj,ZS (p:=.int lo) (by
  rw[ZhA,pe_call,Yq,he];simp[e18,hlo]) rfl (by rfl),Zf]
 simp only[Zh,Zg];have z:ts.length < Zc:=by unfold Zc;omega
 rw[Zj,QA (p:=ZW (lo,lo+w - 1)) (xs:=ts.map ZW) rfl rfl (by simp[ZW]) rfl (by rw[List.length_map];exact z),Zf,Zp,List.map_append]
 rfl
theorem Zf7(h18:∀ c,∃ v,Sm v∧F 18 [.int c]=some (.int v)){x0:Option P}{b:Bool}{a0 a1 a2:Int}:∀ (ws:List Int) (k:Nat) (ts:Tk) (x3 x4 x5:Option P),k+ws.length≤3→ts.length=k→(∀ w∈ws,1≤w∧w≤2000000000)→(∀ t∈ts,-1000000000≤t.1∧t.1≤t.2∧t.2≤999999999)→
  ∃ ts' y3 y4 y5,(We ts'∧ts'.length=k+ws.length)∧Xu (fun x y π=>px F [2] ZQ (Zq (Zq π 3 x) 4 y)) (Wo k (ws.map .int)) [x0,some (.lst b [.int a0,.int a1,.int a2]),some (.lst true (ts.map ZW)),x3,x4,x5]=some (.nx [x0,some (.lst b [.int a0,.int a1,.int a2]),some (.lst true (ts'.map ZW)),y3,y4,y5]):=by
 intro ws
 induction ws with
 |nil=>exact fun k ts x3 x4 x5 h1 h2 h3 h4=>⟨ts,x3,x4,x5,⟨⟨by simp at h1;omega,h4⟩,by simp[h2]⟩,rfl⟩
 |cons w ws ih=>
  intro k ts x3 x4 x5 h1 h2 h3 h4;rw[List.length_cons]at h1;obtain⟨t,ok,e⟩:=Zf8 (F:=F) h18 (x0:=x0) (b:=b) (a0:=a0) (a1:=a1) (a2:=a2) (w:=w) (k:=k) (ts:=ts) (x5:=x5) (by omega) (by omega) (h3 w List.mem_cons_self)
  obtain⟨ts',y3,y4,y5,ok',e'⟩:=ih (k+1) (ts++[t]) (some (.int (k:Int))) (some (.int w)) (some (.int t.1)) (by omega) (by simp;omega) (fun q hq=>h3 q (List.mem_cons_of_mem _ hq)) (fun q hq=>by
   rcases List.mem_append.mp hq with hq|hq
   ·exact h4 q hq
   ·rw[List.mem_singleton.mp hq];exact ok)
  refine⟨ts',y3,y4,y5,⟨ok'.1,by rw[ok'.2,List.length_cons];omega⟩,?_⟩
  show Xu _ ((.int (k:Int),.int w) :: Wo (k+1) (ws.map .int)) _=_;rw[Zal];have e2:px F [2] ZQ (Zq (Zq [x0,some (.lst b [.int a0,.int a1,.int a2]),some (.lst true (ts.map ZW)),x3,x4,x5] 3 (.int (k:Int))) 4 (.int w))=_:=e;rw[e2,ZT,e']
theorem ZeI{ws:List Int}{m b:Bool}{a0 a1 a2:Int}(h:Vf ws):∃ ts,(We ts∧ts.length=ws.length)∧Ze T (n+2) 191 [.lst m (ws.map .int),.lst b [.int a0,.int a1,.int a2]]=some (Zy ts):=by
 rw[Zo (f:=c__law_takes) rfl rfl rfl];obtain⟨ts,y3,y4,y5,ok,e⟩:=Zf7 (F:=Ze T (n+1)) (fun c=>Zgi) (x0:=some (.lst m (ws.map .int))) (b:=b) (a0:=a0) (a1:=a1) (a2:=a2) ws 0 [] none none none (by have:=h.1;omega) rfl h.2 (by simp)
 refine⟨ts,⟨ok.1,by rw[ok.2];omega⟩,?_⟩
 show Ys (px (Ze T (n+1)) [2] (.seq (.set 2 (.lstE .anil)) (.seq (.forE 3 4 (.var 0) ZQ) (.seq (.ret (.tupleOf (.var 2))) .skip))) [some (.lst m (ws.map .int)),some (.lst b [.int a0,.int a1,.int a2]),none,none,none,none])=_;rw[Zj,Xd (p:=.lst true []) (by simp) rfl rfl,Zf]
 simp only[Zh,Zg];rw[Zj,ZfD (x:=.lst m (ws.map .int)) (xs:=ws.map .int) (by rfl) rfl rfl]
 have e:Xu (fun x y π=>px (Ze T (n+1)) [2] ZQ (Zq (Zq π 3 x) 4 y)) (Wo 0 (ws.map .int)) [some (.lst m (ws.map .int)),some (.lst b [.int a0,.int a1,.int a2]),some (.lst true []),none,none,none]=_:=e
 rw[e,Zf,Yg (v:=Zy ts) (by rfl)]
 rfl
end
end Dp


namespace Dp
open PySem
section
variable {n:Nat}{F:PFn}{m N N' m':Nat}{r:Row}
theorem XW{o:Opd}(h:YW m o)(hm:m≤m'):YW m' o:=by
 cases o with
 |name i=>exact Nat.lt_of_lt_of_le h hm
 |num c=>exact h
theorem V5(h:ROk m N r)(hm:m≤m')(hN:N≤N'):ROk m' N' r:=by
 refine⟨?_,h.2⟩;have h:=h.1;cases r with
 |put x y s z=>exact⟨Nat.lt_of_lt_of_le h.1 hm,XW h.2.1 hm,XW h.2.2 hm⟩
 |ifr y s z t=>exact⟨XW h.1 hm,XW h.2.1 hm,Nat.le_trans h.2.2 hN⟩
 |go t=>exact Nat.le_trans h hN
 |tell y=>exact XW h hm
 |skip=>trivial
def Um(q:Nat):Row→Row
 |.go t=>.go (if q < t then q else t)
 |.ifr y s z t=>.ifr y s z (if q < t then q else t)
 |r=>r
theorem Zg9{q:Nat}(h:ROk m N r):ROk m q (Um q r):=by
 obtain⟨h1,h2⟩:=h;cases r with
 |put x y s z=>exact⟨h1,h2⟩
 |ifr y s z t=>exact⟨⟨h1.1,h1.2.1,by show(if q < t then q else t)≤q;split<;>omega⟩,h2⟩
 |go t=>exact⟨by show(if q < t then q else t)≤q;split<;>omega,trivial⟩
 |tell y=>exact⟨h1,trivial⟩
 |skip=>exact⟨trivial,trivial⟩
theorem Za6{q t:Nat}:(if (q:Int) < (t:Int) then (q:Int) else (t:Int))=((if q < t then q else t:Nat):Int):=by
 by_cases h:q < t
 ·rw[if_pos h,if_pos (by omega)]
 ·rw[if_neg h,if_neg (by omega)]
theorem Zih{q:Nat}:Ze T (n+1) 192 [Zl r,.int (q:Int)]=some (Zl (Um q r)):=by
 rw[Zo (f:=c__law_fitted) rfl rfl rfl];cases r with
 |put x y s z=>rfl
 |ifr y s z t=>
  have e:Yt (Zl (.ifr y s z t)) Option.none (some 4)=some (.tup [.str (S "if"),ZF y,.str s,ZF z]):=rfl
  show Ys (px (Ze T n) [] c__law_fitted.body [some (Zl (.ifr y s z t)),some (.int (q:Int))])=_;unfold c__law_fitted;rw[ZX (by rfl),Z6 (v:=Zl (Um q (.ifr y s z t))) (by rfl) (by
   have e1:pe (Ze T n) (.slice (.var 0) .nop (.part (.cst (.int 4)))) [some (Zl (.ifr y s z t)),some (.int (q:Int))]=some (.tup [.str (S "if"),ZF y,.str s,ZF z]):=by simp[e]
   have e2:pe (Ze T n) (.min (.ix (.var 0) (.cst (.int 4))) (.var 1)) [some (Zl (.ifr y s z t)),some (.int (q:Int))]=some (.int ((if q < t then q else t:Nat):Int)):=by
    rw[←Za6];simp[Zl]
   rw[XY,e1,Option.bind_some,Qw,Yq,e2];simp[Um,Zl,Zc])]
  rfl
 |go t=>
  show Ys (px (Ze T n) [] c__law_fitted.body [some (Zl (.go t)),some (.int (q:Int))])=_;unfold c__law_fitted;rw[Z6 (v:=Zl (Um q (.go t))) (by rfl) (by
   have e2:pe (Ze T n) (.min (.ix (.var 0) (.cst (.int 1))) (.var 1)) [some (Zl (.go t)),some (.int (q:Int))]=some (.int ((if q < t then q else t:Nat):Int)):=by
    rw[←Za6];simp[Zl]
   rw[Qw,Yq,Yq,e2];simp[Um,Zl])]
  rfl
 |tell y=>rfl
 |skip=>rfl
theorem ZcI{xs:List P}(h:1 < xs.length):Yt (.tup xs) (some (-1)) Option.none=some (.tup (xs.drop (xs.length - 1))):=by
 have e:sIx xs.length 0 (some (-1))=xs.length - 1:=by
  show(if (-1:Int) < 0 then ((-1:Int)+(xs.length:Int)).toNat else Nat.min ((-1:Int)).toNat xs.length)=_
  rw[if_pos (by decide)]
  omega
 show(if sIx xs.length 0 (some (-1))=0∧sIx xs.length xs.length Option.none=xs.length then some (P.tup xs) else some (P.tup (Wg xs (some (-1)) Option.none)))=_
 rw[if_neg (by rw[e];omega)]
 show some (P.tup ((xs.drop (sIx xs.length 0 (some (-1)))).take (xs.length - sIx xs.length 0 (some (-1)))))=_;rw[e,List.take_of_length_le (by simp)]
end
end Dp


namespace Dp
open PySem
section
variable {n:Nat}{F:PFn}{m N:Nat}{r:Row}
theorem Zkg{k:Nat}:okP (k+2) (Zl r)=true:=by
 cases r with
 |put x y s z=>show(true&&(true&&(okP (k+1) (ZF y)&&(true&&(okP (k+1) (ZF z)&&true)))))=true;rw[Zdt,Zdt];rfl
 |ifr y s z t=>show(true&&(okP (k+1) (ZF y)&&(true&&(okP (k+1) (ZF z)&&(true&&true)))))=true;rw[Zdt,Zdt];rfl
 |go t=>rfl
 |tell y=>show(true&&(okP (k+1) (ZF y)&&true))=true;rw[Zdt];rfl
 |skip=>rfl
theorem Zfz{rs:List Row}:okP 8 (.tup (rs.map Zl))=true:=Ju fun x hx=>by
 obtain⟨r,_,rfl⟩:=List.mem_map.mp hx;exact Zkg
theorem Q4{q:Nat}{rs0:List Row}:∀ {rs:List Row},Z7 (fun p=>pe (Ze T (n+1)) (.call 192 (.acons (.var 0) (.acons (.len (.var 1)) .anil)) []) [some p,some (.tup (rs0.map Zl))]) (fun p=>pe (Ze T (n+1)) (.cst (.bl true)) [some p,some (.tup (rs0.map Zl))]) (rs.map Zl)=some ((rs.map (Um rs0.length)).map Zl)
 |[]=>rfl
 |r :: rs=>by
  rw[List.map_cons];unfold Z7;have e1:pe (Ze T (n+1)) (.cst (.bl true)) [some (Zl r),some (.tup (rs0.map Zl))]=some (.bl true):=rfl;have e2:pe (Ze T (n+1)) (.call 192 (.acons (.var 0) (.acons (.len (.var 1)) .anil)) []) [some (Zl r),some (.tup (rs0.map Zl))]=some (Zl (Um rs0.length r)):=by
   simp[Zih (n:=n) (r:=r) (q:=rs0.length)]
  rw[e1,e2];simp only;rw[Q4 (q:=q) (rs0:=rs0) (rs:=rs)];rfl
theorem ZdB{xs:List P}{y:P}{x2 x4:Option P}{k:Nat}(hk:k < xs.length)(hl:xs.length≤20):pe F (.bin .Add (.bin .Add (.slice (.var 0) .nop (.part (.var 3))) (.tupE (.acons (.var 1) .anil))) (.slice (.var 0) (.part (.bin .Add (.var 3) (.cst (.int 1)))) .nop)) [some (.tup xs),some y,x2,some (.int (k:Int)),x4]=some (.tup (xs.take k++[y]++xs.drop (k+1))):=by
 have s1:=WL (xs:=xs) (x:=k) hk;have s2:=V7 (xs:=xs) (x:=k) hk;have e1:pe F (.slice (.var 0) .nop (.part (.var 3))) [some (.tup xs),some y,x2,some (.int (k:Int)),x4]=some (.tup (xs.take k)):=by simp[s1]
 have e2:pe F (.slice (.var 0) (.part (.bin .Add (.var 3) (.cst (.int 1)))) .nop) [some (.tup xs),some y,x2,some (.int (k:Int)),x4]=some (.tup (xs.drop (k+1))):=by simp[s2]
 have z1:(xs.take k).length+[y].length≤Zc:=by rw[List.length_take];simp;unfold Zc;omega
 have z2:(xs.take k++[y]).length+(xs.drop (k+1)).length≤Zc:=by rw[List.length_append,List.length_take,List.length_drop];simp;unfold Zc;omega
 have e3:pe F (.tupE (.acons (.var 1) .anil)) [some (.tup xs),some y,x2,some (.int (k:Int)),x4]=some (.tup [y]):=by simp
 rw[XY,XY,e1,Option.bind_some,e3,Option.bind_some,ZaP,if_pos z1,Option.bind_some,e2,Option.bind_some,ZaP,if_pos z2]
theorem ZeH{rs:List Row}{sp:Row}{w:Int}(h:∀ r∈rs,ROk m rs.length r)(hs:ROk m rs.length sp)(hl:rs.length≤12):∃ rs':List Row,((∀ r∈rs',ROk m rs'.length r)∧rs'.length≤12)∧Ze T (n+2) 193 [.tup (rs.map Zl),Zl sp,.int w]=some (.tup (rs'.map Zl)):=by
 rw[Zo (f:=c__law_rows_of_other) rfl rfl rfl];have mx:(max 1 (rs.length:Int):Int)=((max 1 rs.length:Nat):Int):=by omega
 obtain⟨at_,ea,ha⟩:∃ q:Nat,w / 5 % ((max 1 rs.length:Nat):Int)=(q:Int)∧q < max 1 rs.length:=⟨(w / 5 % ((max 1 rs.length:Nat):Int)).toNat,by
  have:=Int.emod_nonneg (w / 5) (show((max 1 rs.length:Nat):Int)≠0 by omega)
  omega,by
  have:=Int.emod_nonneg (w / 5) (show((max 1 rs.length:Nat):Int)≠0 by omega)
  have:=Int.emod_lt_of_pos (w / 5) (show 0 < ((max 1 rs.length:Nat):Int) by omega)
  omega⟩
 have e3:pe (Ze T (n+1)) (.bin .Mod (.bin .FloorDiv (.var 2) (.cst (.int 5))) (.max (.cst (.int 1)) (.len (.var 0)))) [some (.tup (rs.map Zl)),some (Zl sp),some (.int w),none,none]=some (.int (at_:Int)):=by
  rw[←ea];have mm:(if (rs.length:Int) > 1 then (rs.length:Int) else 1)=((max 1 rs.length:Nat):Int):=by split<;>omega
  simp[mm]
 show ∃ rs':List Row,_∧Ys (px (Ze T (n+1)) [] c__law_rows_of_other.body [some (.tup (rs.map Zl)),some (Zl sp),some (.int w),none,none])=_;unfold c__law_rows_of_other;rw[Yv e3];simp only[Zh,Zg];by_cases c1:w % 5=0∧rs.length < 12
 ·refine⟨rs++[sp],⟨fun r hr=>?_,by simp;omega⟩,?_⟩
  ·rw[List.length_append]
   rcases List.mem_append.mp hr with z|z
   ·exact V5 (h r z) (Nat.le_refl _) (Nat.le_add_right _ _)
   ·rw[List.mem_singleton.mp z];exact V5 hs (Nat.le_refl _) (Nat.le_add_right _ _)
  ·rw[Z6 (v:=.tup ((rs++[sp]).map Zl)) (by simp[c1.1,show(rs.length:Int) < 12 by omega]) (by
    have:rs.length+1≤Zc:=by unfold Zc;omega
    simp[this])]
   rfl
 rw[ZX (by
  by_cases z:w % 5=0
  ·have:¬rs.length < 12:=fun q=>c1 ⟨z,q⟩
   simp[z,show ¬(rs.length:Int) < 12 by omega]
  ·simp[z])]
 by_cases c2:w % 5=1∧1 < rs.length
 ·have hat:at_ < rs.length:=by omega
  obtain⟨kp,hkp⟩:∃ kp,kp=rs.take at_++rs.drop (rs.length - 1):=⟨_,rfl⟩;have hkl:kp.length=at_+1:=by rw[hkp];simp;omega
  refine⟨kp.map (Um kp.length),⟨fun r hr=>?_,by simp;omega⟩,?_⟩
  ·obtain⟨r',hr',rfl⟩:=List.mem_map.mp hr
   rw[List.length_map];have hm:r'∈rs:=by
    rw[hkp]at hr';rcases List.mem_append.mp hr' with z|z
    ·exact List.mem_of_mem_take z
    ·exact List.mem_of_mem_drop z
   exact Zg9 (h r' hm)
  ·have s1:=WL (xs:=rs.map Zl) (x:=at_) (by simpa using hat)
   have s2:=ZcI (xs:=rs.map Zl) (by simpa using c2.2)
   have e4:pe (Ze T (n+1)) (.bin .Add (.slice (.var 0) .nop (.part (.var 3))) (.slice (.var 0) (.part (.neg (.cst (.int 1)))) .nop)) [some (.tup (rs.map Zl)),some (Zl sp),some (.int w),some (.int (at_:Int)),none]=some (.tup (kp.map Zl)):=by
    have z:(List.take at_ (rs.map Zl)).length+(List.drop ((rs.map Zl).length - 1) (rs.map Zl)).length≤Zc:=by simp;unfold Zc;omega
    rw[hkp,List.map_append,List.map_take,List.map_drop];simp[s1,s2];simpa using z
   rw[Zj,XC,show pe (Ze T (n+1)) (.and (.cmp .Eq (.bin .Mod (.var 2) (.cst (.int 5))) (.cst (.int 1))) (.cmp .Gt (.len (.var 0)) (.cst (.int 1)))) [some (.tup (rs.map Zl)),some (Zl sp),some (.int w),some (.int (at_:Int)),none]=some (.bl true) by simp[c2.1,show(1:Int) < (rs.length:Int) by omega],Xe,if_pos rfl,Yv e4]
   simp only[Zh,Zg];rw[Yg (v:=.tup ((kp.map (Um kp.length)).map Zl)) (by
    unfold YH;rw[Zar,WJ];show(((some (P.tup (kp.map Zl))).bind fun x=>_).bind Wu)=_
    rw[Option.bind_some,show Xb false (.tup (kp.map Zl))=some (kp.map Zl) from rfl,Option.bind_some,if_pos (by rw[List.length_map];omega)]
    have cf:=Q4 (n:=n) (q:=0) (rs0:=kp) (rs:=kp);have z1:(fun p=>pe (Ze T (n+1)) (.call 192 (.acons (.var 0) (.acons (.len (.var 1)) .anil)) []) (YZ [some (.tup (rs.map Zl)),some (Zl sp),some (.int w),some (.int (at_:Int)),some (.tup (kp.map Zl))] [4] p))=fun p=>pe (Ze T (n+1)) (.call 192 (.acons (.var 0) (.acons (.len (.var 1)) .anil)) []) [some p,some (.tup (kp.map Zl))]:=rfl
    have z2:(fun p=>pe (Ze T (n+1)) (.cst (.bl true)) (YZ [some (.tup (rs.map Zl)),some (Zl sp),some (.int w),some (.int (at_:Int)),some (.tup (kp.map Zl))] [4] p))=fun p=>pe (Ze T (n+1)) (.cst (.bl true)) [some p,some (.tup (kp.map Zl))]:=rfl
    rw[z1,z2,cf];rfl)]
   rfl
 rw[ZX (by
  by_cases z:w % 5=1
  ·have:¬1 < rs.length:=fun q=>c2 ⟨z,q⟩
   simp[z,show ¬(1:Int) < (rs.length:Int) by omega]
  ·simp[z])]
 have ce:=ZeU (xs:=rs.map Zl) (ys:=[]) Zfz rfl;cases rs with
 |nil=>
  refine⟨[],⟨(fun _ z=>nomatch z),by decide⟩,?_⟩
  rw[Z6 (v:=.tup []) (by rfl) (by rfl)]
  rfl
 |cons r0 rs=>
  have hat:at_ < (r0 :: rs).length:=by simp at ha ⊢;omega
  rw[ZX (by
   have:Yy .Eq (.tup ((r0 :: rs).map Zl)) (.tup [])=some (.bl false):=ce;simp only[List.map_cons]at this;simp[this])]
  have s1:=WL (xs:=(r0 :: rs).map Zl) (x:=at_) (by simpa using hat)
  have s2:=V7 (xs:=(r0 :: rs).map Zl) (x:=at_) (by simpa using hat)
  refine⟨(r0 :: rs).take at_++[sp]++(r0 :: rs).drop (at_+1),⟨fun r hr=>?_,by simp at hl hat ⊢;omega⟩,?_⟩
  ·have el:((r0 :: rs).take at_++[sp]++(r0 :: rs).drop (at_+1)).length=(r0 :: rs).length:=by simp at hat ⊢;omega
   rw[el];rcases List.mem_append.mp hr with z|z
   ·rcases List.mem_append.mp z with z|z
    ·exact h r (List.mem_of_mem_take z)
    ·rw[List.mem_singleton.mp z];exact hs
   ·exact h r (List.mem_of_mem_drop z)
  ·rw[Yg (v:=.tup (((r0 :: rs).take at_++[sp]++(r0 :: rs).drop (at_+1)).map Zl)) (by
    rw[List.map_append,List.map_append,List.map_take,List.map_drop];exact ZdB (xs:=(r0 :: rs).map Zl) (by rw[List.length_map];exact hat) (by rw[List.length_map];omega))]
   rfl
end
end Dp


namespace Dp
open PySem
section
variable {n:Nat}{F:PFn}
def cellK(ns:List Int)(k:Nat):Int:=(ns[k]?).getD 0
theorem U7{ns:List Int}{k:Nat}:Ze T (n+1) 27 [.lst false (ns.map .int),.int (k:Int)]=some (.int (cellK ns k)):=by
 rw[Zo (f:=c__law_cell_at_k25) rfl rfl rfl];unfold cellK;by_cases h:k < ns.length
 ·(rw[show ZL c__law_cell_at_k25.body=[] from rfl];simp[c__law_cell_at_k25,h])
 ·(rw[show ZL c__law_cell_at_k25.body=[] from rfl];simp[c__law_cell_at_k25,h])
theorem ZiF{ns:List Int}{f c:P→Option P}(hc:∀ x,c x=some (.bl true))(hf:∀ j:Nat,j≤3→∃ v,f (.int (j:Int))=some (.int v)):∃ a0 a1 a2 a3,Z7 f c [.int ((0:Nat):Int),.int ((1:Nat):Int),.int ((2:Nat):Int),.int ((3:Nat):Int)]=some [.int a0,.int a1,.int a2,.int a3]:=by
 obtain⟨a0,e0⟩:=hf 0 (by omega)
 obtain⟨a1,e1⟩:=hf 1 (by omega)
 obtain⟨a2,e2⟩:=hf 2 (by omega)
 obtain⟨a3,e3⟩:=hf 3 (by omega)
 exact⟨a0,a1,a2,a3,by simp only[Z7,hc,e0,e1,e2,e3,Option.bind_some]⟩
theorem Zh2{f c:P→Option P}(hc:∀ x,c x=some (.bl true))(hf:∀ j:Nat,j≤3→∃ v,f (.int (j:Int))=some (.int v)):∃ a0 a1 a2,Z7 f c [.int ((0:Nat):Int),.int ((1:Nat):Int),.int ((2:Nat):Int)]=some [.int a0,.int a1,.int a2]:=by
 obtain⟨a0,e0⟩:=hf 0 (by omega)
 obtain⟨a1,e1⟩:=hf 1 (by omega)
 obtain⟨a2,e2⟩:=hf 2 (by omega)
 exact⟨a0,a1,a2,by simp only[Z7,hc,e0,e1,e2,Option.bind_some]⟩
theorem l4:Z8 4=true:=by decide
theorem ZgY{ns:List Int}{k:Nat}{x1 x2 x3 x4 x5 x6 x7 x8 x9 x10 x11 x12:Option P}(h27:∀ k:Nat,F 27 [.lst false (ns.map .int),.int (k:Int)]=some (.int (cellK ns k))):∃ a0 a1 a2 a3,pe F YE [some (.lst false (ns.map .int)),x1,x2,x3,x4,x5,x6,some (.int (k:Int)),x8,x9,x10,x11,x12]=some (.lst true [.int a0,.int a1,.int a2,.int a3]):=by
 unfold YE;rw[WJ];show ∃ a0 a1 a2 a3,((some (P.int 4)).bind fun x=>_)=_
 rw[Option.bind_some,show Xb true (.int 4)=some [.int ((0:Nat):Int),.int ((1:Nat):Int),.int ((2:Nat):Int),.int ((3:Nat):Int)] from rfl,Option.bind_some,if_pos (by simp)]
 obtain⟨a0,a1,a2,a3,e⟩:=ZiF (ns:=ns) (f:=fun p=>pe F (.call 27 (.acons (.var 2) (.acons (.bin .Add (.bin .Add (.cst (.int 8)) (.bin .Mult (.cst (.int 4)) (.var 1))) (.var 0)) .anil)) []) (YZ [some (.lst false (ns.map .int)),x1,x2,x3,x4,x5,x6,some (.int (k:Int)),x8,x9,x10,x11,x12] [7,0] p)) (c:=fun p=>pe F (.cst (.bl true)) (YZ [some (.lst false (ns.map .int)),x1,x2,x3,x4,x5,x6,some (.int (k:Int)),x8,x9,x10,x11,x12] [7,0] p)) (fun _=>rfl) (fun j hj=>⟨cellK ns (8+4 * k+j),by
  have e:=h27 (8+4 * k+j);rw[show((8+4 * k+j:Nat):Int)=8+4 * (k:Int)+(j:Int) by omega]at e
  show pe F _ [some (.int (j:Int)),some (.int (k:Int)),some (.lst false (ns.map .int))]=_;simp[l4,e]⟩)
 exact⟨a0,a1,a2,a3,by rw[e];rfl⟩
theorem Zg0{ns:List Int}{x1 x2 x3 x4 x5 x6 x7 x8 x9 x10 x11 x12:Option P}(h27:∀ k:Nat,F 27 [.lst false (ns.map .int),.int (k:Int)]=some (.int (cellK ns k))):∃ a0 a1 a2 a3,pe F YG [some (.lst false (ns.map .int)),x1,x2,x3,x4,x5,x6,x7,x8,x9,x10,x11,x12]=some (.lst true [.int a0,.int a1,.int a2,.int a3]):=by
 unfold YG;rw[WJ];show ∃ a0 a1 a2 a3,((some (P.int 4)).bind fun x=>_)=_
 rw[Option.bind_some,show Xb true (.int 4)=some [.int ((0:Nat):Int),.int ((1:Nat):Int),.int ((2:Nat):Int),.int ((3:Nat):Int)] from rfl,Option.bind_some,if_pos (by simp)]
 obtain⟨a0,a1,a2,a3,e⟩:=ZiF (ns:=ns) (f:=fun p=>pe F (.call 27 (.acons (.var 1) (.acons (.bin .Add (.cst (.int 4)) (.var 0)) .anil)) []) (YZ [some (.lst false (ns.map .int)),x1,x2,x3,x4,x5,x6,x7,x8,x9,x10,x11,x12] [0] p)) (c:=fun p=>pe F (.cst (.bl true)) (YZ [some (.lst false (ns.map .int)),x1,x2,x3,x4,x5,x6,x7,x8,x9,x10,x11,x12] [0] p)) (fun _=>rfl) (fun j hj=>⟨cellK ns (4+j),by
  have e:=h27 (4+j);rw[show((4+j:Nat):Int)=4+(j:Int) by omega]at e
  show pe F _ [some (.int (j:Int)),some (.lst false (ns.map .int))]=_;simp[e]⟩)
 exact⟨a0,a1,a2,a3,by rw[e];rfl⟩
theorem ZgZ{ns:List Int}{x1 x2 x3 x4 x5 x6 x7 x8 x9 x10 x11 x12:Option P}(h27:∀ k:Nat,F 27 [.lst false (ns.map .int),.int (k:Int)]=some (.int (cellK ns k))):∃ a0 a1 a2,pe F YF [some (.lst false (ns.map .int)),x1,x2,x3,x4,x5,x6,x7,x8,x9,x10,x11,x12]=some (.lst true [.int a0,.int a1,.int a2]):=by
 unfold YF;rw[WJ];show ∃ a0 a1 a2,((some (P.int 3)).bind fun x=>_)=_
 rw[Option.bind_some,show Xb true (.int 3)=some [.int ((0:Nat):Int),.int ((1:Nat):Int),.int ((2:Nat):Int)] from rfl,Option.bind_some,if_pos (by simp)]
 obtain⟨a0,a1,a2,e⟩:=Zh2 (f:=fun p=>pe F (.call 27 (.acons (.var 1) (.acons (.bin .Add (.cst (.int 2)) (.var 0)) .anil)) []) (YZ [some (.lst false (ns.map .int)),x1,x2,x3,x4,x5,x6,x7,x8,x9,x10,x11,x12] [0] p)) (c:=fun p=>pe F (.cst (.bl true)) (YZ [some (.lst false (ns.map .int)),x1,x2,x3,x4,x5,x6,x7,x8,x9,x10,x11,x12] [0] p)) (fun _=>rfl) (fun j hj=>⟨cellK ns (2+j),by
  have e:=h27 (2+j);rw[show((2+j:Nat):Int)=2+(j:Int) by omega]at e
  show pe F _ [some (.int (j:Int)),some (.lst false (ns.map .int))]=_;simp[e]⟩)
 exact⟨a0,a1,a2,by rw[e];rfl⟩
end
end Dp


namespace Dp
open PySem
section
variable {n:Nat}{F:PFn}
theorem VX{α:Type}{f:α→P}:∀ {xs:List α},(∀ x,noL (f x)=true)→VW (xs.map f)=true
 |[],_=>rfl
 |x :: xs,h=>by
  show(noL (f x)&&VW (xs.map f))=true;rw[h x,VX h];rfl
theorem Jq{o:Opd}:noL (ZF o)=true:=by cases o<;>rfl
theorem Zgs{r:Row}:noL (Zl r)=true:=by
 cases r with
 |put x y s z=>show(true&&(true&&(noL (ZF y)&&(true&&(noL (ZF z)&&true)))))=true;rw[Jq,Jq];rfl
 |ifr y s z t=>show(true&&(noL (ZF y)&&(true&&(noL (ZF z)&&(true&&true)))))=true;rw[Jq,Jq];rfl
 |go t=>rfl
 |tell y=>show(true&&(noL (ZF y)&&true))=true;rw[Jq];rfl
 |skip=>rfl
theorem Zhp{ts:Tk}:noL (Zy ts)=true:=VX fun _=>rfl
theorem ZiM{ts:Tk}{m:Nat}{rs:List Row}:noL (Zr ⟨Zy ts,m,rs⟩)=true:=by
 show(noL (Zy ts)&&(true&&(VW (rs.map Zl)&&true)))=true;rw[Zhp,VX fun _=>Zgs];rfl
structure GP(p:Prog):Prop where
 ok:ProgOk p
 sg:∀ r∈p.rows,RSg r
theorem GP.of{tk:P}{m:Nat}{rs:List Row}(h:∀ r∈rs,ROk m rs.length r)(hm:m≤100)(hl:rs.length≤100):GP ⟨tk,m,rs⟩:=
 ⟨⟨fun r hr=>(h r hr).1,hm,hl⟩,fun r hr=>(h r hr).2⟩
structure Two(p q:Prog)(ts:Tk):Prop where
 tk:p.takes=Zy ts
 ok:We ts
 len:ts.length≤p.many
 le:p.many≤q.many
 gp:GP p
 gq:GP q
def tlP:CS:=match c__law_programs.body with
 |.seq _ (.seq _ (.seq _ (.seq _ r)))=>r
 |_=>.skip
theorem ZjU{a:P}{k:Nat}:Wg [a] Option.none (some (k:Int))=[a].take k:=by
 by_cases h:k≤1
 ·exact Zaa h
 ·have e:sIx 1 1 (some (k:Int))=1:=by
   show(if (k:Int) < 0 then ((k:Int)+1).toNat else Nat.min ((k:Int)).toNat 1)=1
   rw[if_neg (by omega)]
   exact Nat.min_eq_right (by omega)
  show(([a].drop 0).take (sIx 1 1 (some (k:Int)) - 0))=_;rw[e,List.take_of_length_le (l:=[a]) (by simp;omega)]
  rfl
theorem Zd1{ns:List Int}{nm size:Nat}{x1 x3 x4 x7 x8 x9 x10 x11 x12:Option P}{rs:List Row}{k:Nat}(h27:∀ k:Nat,F 27 [.lst false (ns.map .int),.int (k:Int)]=some (.int (cellK ns k)))(h72:∀ a b c d,∃ r,ROk nm size r∧F 72 [.lst true [.int a,.int b,.int c,.int d],.int (nm:Int),.int (size:Int)]=some (Zl r))(hl:rs.length≤100) :
  ∃ r,ROk nm size r∧px F [6] Yk [some (.lst false (ns.map .int)),x1,some (.int (nm:Int)),x3,x4,some (.int (size:Int)),some (.lst true (rs.map Zl)),some (.int (k:Int)),x8,x9,x10,x11,x12]=some (.nx [some (.lst false (ns.map .int)),x1,some (.int (nm:Int)),x3,x4,some (.int (size:Int)),some (.lst true ((rs++[r]).map Zl)),some (.int (k:Int)),x8,x9,x10,x11,x12]):=by
 obtain⟨a,b,c,d,e⟩:=ZgY (F:=F) (ns:=ns) (k:=k) (x1:=x1) (x2:=some (.int (nm:Int))) (x3:=x3) (x4:=x4) (x5:=some (.int (size:Int))) (x6:=some (.lst true (rs.map Zl))) (x7:=none) (x8:=x8) (x9:=x9) (x10:=x10) (x11:=x11) (x12:=x12) h27;obtain⟨r,ok,e2⟩:=h72 a b c d;refine⟨r,ok,?_⟩;unfold Yk;rw[Zj,W1 (xs:=rs.map Zl) rfl];have z:rs.length < Zc:=by unfold Zc;omega
 rw[pe_call,Yq,e];have e3:([P.lst true [.int a,.int b,.int c,.int d],.int (nm:Int),.int (size:Int)]:List P)=[P.lst true [.int a,.int b,.int c,.int d],.int (nm:Int),.int (size:Int)]:=rfl;simp[e2,Zu,Zgs,z]
theorem Zcc{ns ws:List Int}{nm mc way:Nat}{ls:List Row}(h27:∀ k:Nat,F 27 [.lst false (ns.map .int),.int (k:Int)]=some (.int (cellK ns k)))(h72:∀ size:Nat,∀ a b c d,∃ r,ROk nm size r∧F 72 [.lst true [.int a,.int b,.int c,.int d],.int (nm:Int),.int (size:Int)]=some (Zl r))(h191:∀ (ws:List Int) (a0 a1 a2:Int),Vf ws→∃ ts,(We ts∧ts.length=ws.length)∧F 191 [.lst true (ws.map .int),.lst true [.int a0,.int a1,.int a2]]=some (Zy ts))(h193:∀ (rs:List Row) (sp:Row) (w:Int),(∀ r∈rs,ROk nm rs.length r)→ROk nm rs.length sp→rs.length≤12→∃ rs':List Row,((∀ r∈rs',ROk nm rs'.length r)∧rs'.length≤12)∧F 193 [.tup (rs.map Zl),Zl sp,.int w]=some (.tup (rs'.map Zl)))(hw:Vf ws)(hn:ws.length≤nm)(hn5:nm≤5)(hm:mc≤11)(hls:ls.length≤1)(hl:∀ r∈ls,∀ N,ROk nm N r) :
  ∃ p q ts,Two p q ts∧px F [6] tlP [some (.lst false (ns.map .int)),some (Zv ws),some (.int (nm:Int)),some (.int (mc:Int)),some (.lst true (ls.map Zl)),none,none,none,none,none,none,none,none]=some (.rt (.tup [Zr p,Zr q])):=by
 obtain⟨size,hsz⟩:∃ size,size=mc+ls.length:=⟨_,rfl⟩;unfold tlP c__law_programs;simp only;rw[Zj,ZS (p:=.int (size:Int)) (by simp[hsz]) rfl rfl,Zf]
 simp only[Zh,Zg];rw[Zj,Xd (p:=.lst true []) (by simp) rfl rfl,Zf]
 simp only[Zh,Zg];obtain⟨π',e,rs,y7,⟨hrl,hr⟩,rfl⟩:=VS (B:=fun d π=>px F [6] Yk (Zq π 7 d)) (fun k π=>∃ (rs:List Row) (y7:Option P),(rs.length=k∧∀ r∈rs,ROk nm size r)∧π=[some (.lst false (ns.map .int)),some (Zv ws),some (.int (nm:Int)),some (.int (mc:Int)),some (.lst true (ls.map Zl)),some (.int (size:Int)),some (.lst true (rs.map Zl)),y7,none,none,none,none,none]) (m:=mc) (π:=[some (.lst false (ns.map .int)),some (Zv ws),some (.int (nm:Int)),some (.int (mc:Int)),some (.lst true (ls.map Zl)),some (.int (size:Int)),some (.lst true []),none,none,none,none,none,none]) (fun k hk π hπ=>by
  obtain⟨rs,y7,⟨h1,h2⟩,rfl⟩:=hπ;obtain⟨r,ok,e⟩:=Zd1 (F:=F) (ns:=ns) (nm:=nm) (size:=size) (x1:=some (Zv ws)) (x3:=some (.int (mc:Int))) (x4:=some (.lst true (ls.map Zl))) (x7:=none) (x8:=none) (x9:=none) (x10:=none) (x11:=none) (x12:=none) (rs:=rs) (k:=k) h27 (h72 size) (by omega)
  refine⟨_,e,rs++[r],some (.int (k:Int)),⟨by simp[h1],fun q hq=>?_⟩,rfl⟩
  rcases List.mem_append.mp hq with z|z
  ·exact h2 q z
  ·rw[List.mem_singleton.mp z];exact ok) ⟨[],none,⟨rfl,by simp⟩,rfl⟩
 rw[Zj,QB (n:=mc) (by rfl) (by omega) rfl,e,Zf]
 obtain⟨a0,a1,a2,e1⟩:=ZgZ (F:=F) (ns:=ns) (x1:=some (Zv ws)) (x2:=some (.int (nm:Int))) (x3:=some (.int (mc:Int))) (x4:=some (.lst true (ls.map Zl))) (x5:=some (.int (size:Int))) (x6:=some (.lst true (rs.map Zl))) (x7:=y7) (x8:=none) (x9:=none) (x10:=none) (x11:=none) (x12:=none) h27;obtain⟨ts,⟨tok,tln⟩,e8⟩:=h191 ws a0 a1 a2 hw;rw[Zj,ZS (p:=Zy ts) (by
  rw[pe_call,Yq,Yq,e1];simp[Zv,e8]) rfl rfl,Zf]
 simp only[Zh,Zg];obtain⟨c0,c1,c2,c3,e2⟩:=Zg0 (F:=F) (ns:=ns) (x1:=some (Zv ws)) (x2:=some (.int (nm:Int))) (x3:=some (.int (mc:Int))) (x4:=some (.lst true (ls.map Zl))) (x5:=some (.int (size:Int))) (x6:=some (.lst true (rs.map Zl))) (x7:=y7) (x8:=some (Zy ts)) (x9:=none) (x10:=none) (x11:=none) (x12:=none) h27;obtain⟨sp,sok,e9⟩:=h72 size c0 c1 c2 c3
 rw[Zj,ZS (p:=Zl sp) (by
  rw[pe_call,Yq,e2];simp[e9]) rfl rfl,Zf]
 simp only[Zh,Zg];have c5:=h27 5;rw[Zj,ZS (p:=.int (cellK ns 5 / 15)) (by
  have c5:F 27 [.lst false (ns.map .int),.int 5]=some (.int (cellK ns 5)):=c5;simp[c5]) rfl rfl,Zf]
 simp only[Zh,Zg];obtain⟨us,⟨uok,uln⟩,e11⟩:=h191 ws.reverse (cellK ns 3) 3 6 ⟨by rw[List.length_reverse];exact hw.1,fun w h=>hw.2 w (List.mem_reverse.mp h)⟩
 obtain⟨mq,emq,h1q,h2q⟩:∃ mq:Nat,(if (nm:Int)+cellK ns 5 / 15 % 2 < 5 then (nm:Int)+cellK ns 5 / 15 % 2 else 5)=(mq:Int)∧nm≤mq∧mq≤5:=by
  refine⟨((if (nm:Int)+cellK ns 5 / 15 % 2 < 5 then (nm:Int)+cellK ns 5 / 15 % 2 else 5)).toNat,?_,?_,?_⟩<;>(split<;>omega)
 have c3:F 27 [.lst false (ns.map .int),.int 3]=some (.int (cellK ns 3)):=h27 3;rw[List.map_reverse]at e11;rw[Zj,ZS (p:=.tup [Zy us,.int (mq:Int)]) (by
  simp[Zv,c3,e11,emq]) rfl rfl,Zf]
 simp only[Zh,Zg];have rl:(rs++ls).length=size:=by rw[List.length_append,hrl,hsz]
 rw[Zj,ZS (p:=Zr ⟨Zy ts,nm,rs++ls⟩) (by
  have z:rs.length+ls.length≤Zc:=by unfold Zc;omega
  simp[Zr,z]) rfl (by unfold Zu;rw[ZiM,Bool.or_true]),Zf]
 simp only[Zh,Zg];have rok:∀ r∈rs++ls,ROk nm (rs++ls).length r:=fun r h=>by
  rw[rl];rcases List.mem_append.mp h with z|z
  ·exact hr r z
  ·exact hl r z _
 obtain⟨rs',⟨rok',rl'⟩,e13⟩:=h193 (rs++ls) sp (cellK ns 5 / 15 / 2) rok (by rw[rl];exact sok) (by omega)
 refine⟨⟨Zy ts,nm,rs++ls⟩,⟨Zy us,mq,rs'⟩,ts,⟨rfl,tok,by show ts.length≤nm;omega,h1q,.of rok (by omega) (by omega),.of (fun r h=>V5 (rok' r h) h1q (Nat.le_refl _)) (by omega) (by omega)⟩,?_⟩
 rw[Yg (v:=.tup [Zr ⟨Zy ts,nm,rs++ls⟩,Zr ⟨Zy us,mq,rs'⟩]) (by
  have x2:ixP (Zr ⟨Zy ts,nm,rs++ls⟩) (.int 2)=some (.tup ((rs++ls).map Zl)):=rfl;have z:2+1≤Zc:=by unfold Zc;omega
  simp only[Qw,Yq,Qu,XY,pe_call,pe_ix,pe_var,ZdF,Zba,List.getElem?_cons_zero,List.getElem?_cons_succ,Option.join_some,Option.bind_some,x2,VG,List.length_nil,List.length_cons,show(0:Nat) < 1000 by omega,show(0+1:Nat) < 1000 by omega,show(0+1+1:Nat) < 1000 by omega,if_true]
  rw[List.map_append]at e13;simp[e13,z,Zr])]
theorem JV{ns:List Int}(hn:ns.length≤63):∃ p q ts,Two p q ts∧Ze T (n+4) 197 [.lst false (ns.map .int)]=some (.tup [Zr p,Zr q]):=by
 rw[Zo (f:=c__law_programs) rfl rfl rfl];obtain⟨ws,wok,e1⟩:=Zcr (n:=n+2) (c:=cellK ns 0);have c0:Ze T (n+3) 27 [.lst false (ns.map .int),.int 0]=some (.int (cellK ns 0)):=U7 (n:=n+2) (k:=0);have c1:Ze T (n+3) 27 [.lst false (ns.map .int),.int 1]=some (.int (cellK ns 1)):=U7 (n:=n+2) (k:=1);obtain⟨nm,enm,h1,h2,h3⟩:∃ nm:Nat,(if 1+cellK ns 1 % 5 > (ws.length:Int) then 1+cellK ns 1 % 5 else (ws.length:Int))=(nm:Int)∧ws.length≤nm∧nm≤5∧0 < nm:=by
  have:=wok.1;refine⟨((if 1+cellK ns 1 % 5 > (ws.length:Int) then 1+cellK ns 1 % 5 else (ws.length:Int))).toNat,?_,?_,?_,?_⟩<;>(split<;>omega)
 obtain⟨mc,emc,hmc⟩:∃ mc:Nat,(if ((if (8:Int) > (ns.length:Int) then (8:Int) else (ns.length:Int)) - 5) / 4 < 11 then ((if (8:Int) > (ns.length:Int) then (8:Int) else (ns.length:Int)) - 5) / 4 else 11)=(mc:Int)∧mc≤11:=by
  refine⟨((if ((if (8:Int) > (ns.length:Int) then (8:Int) else (ns.length:Int)) - 5) / 4 < 11 then ((if (8:Int) > (ns.length:Int) then (8:Int) else (ns.length:Int)) - 5) / 4 else 11)).toNat,?_,?_⟩<;>(split<;>split<;>omega)
 obtain⟨x,ex,hx⟩:∃ x:Nat,cellK ns 1 / 20 % (nm:Int)=(x:Int)∧x < nm:=⟨(cellK ns 1 / 20 % (nm:Int)).toNat,by
  have:=Int.emod_nonneg (cellK ns 1 / 20) (show(nm:Int)≠0 by omega)
  omega,by
  have:=Int.emod_nonneg (cellK ns 1 / 20) (show(nm:Int)≠0 by omega)
  have:=Int.emod_lt_of_pos (cellK ns 1 / 20) (show 0 < (nm:Int) by omega)
  omega⟩
 obtain⟨k,ek⟩:∃ k:Nat,cellK ns 1 / 5 % 4=(k:Int):=⟨(cellK ns 1 / 5 % 4).toNat,by omega⟩
 obtain⟨ls,els⟩:∃ ls,ls=[Row.tell (.name x)].take k:=⟨_,rfl⟩;have lm:∀ r∈ls,r=.tell (.name x):=fun r h=>by
  rw[els]at h;exact List.mem_singleton.mp (List.mem_of_mem_take h)
 have ct:Wg [.tup [.str (S "tell"),.tup [.str (S "name"),.int (x:Int)]]] Option.none (some (k:Int))=ls.map Zl:=by
  rw[els,List.map_take];exact ZjU
 obtain⟨p,q,ts,two,e⟩:=Zcc (F:=Ze T (n+3)) (ns:=ns) (ws:=ws) (nm:=nm) (mc:=mc) (way:=0) (ls:=ls) (fun k=>U7 (n:=n+2)) (fun size a b c d=>Zil (n:=n) h3 (by omega)) (fun ws a0 a1 a2 h=>ZeI (n:=n+1) h) (fun rs sp w h1 h2 h3=>ZeH (n:=n+1) h1 h2 h3) wok h1 h2 hmc (by rw[els,List.length_take];simp;omega) (fun r h N=>by rw[lm r h];exact⟨hx,trivial⟩)
 refine⟨p,q,ts,two,?_⟩;show Ys (px (Ze T (n+3)) [6] (.seq (.set 1 _) (.seq (.set 2 _) (.seq (.set 3 _) (.seq (.set 4 _) tlP)))) [some (.lst false (ns.map .int)),none,none,none,none,none,none,none,none,none,none,none,none])=_;rw[Zj,ZS (p:=Zv ws) (by simp[c0,e1]) rfl rfl,Zf]
 simp only[Zh,Zg];rw[Zj,ZS (p:=.int (nm:Int)) (by simp[c1,Zv,enm]) rfl rfl,Zf]
 simp only[Zh,Zg];rw[Zj,ZS (p:=.int (mc:Int)) (by simp[emc]) rfl rfl,Zf]
 simp only[Zh,Zg];rw[Zj,ZS (p:=.lst true (ls.map Zl)) (by simp[c1,ex,ek,ct,h3]) rfl rfl,Zf]
 simp only[Zh,Zg];rw[e];rfl
end
end Dp


namespace Dp
open PySem
section
variable {n:Nat}{F:PFn}{ts:Tk}
theorem ZgU{t:Int×Int}{x:Int}(h:x∈YU t):t.1≤x∧x≤t.2:=by
 unfold YU Xn at h;obtain⟨k,hk,rfl⟩:=List.mem_map.mp h;have z:=List.mem_range.mp hk;unfold Xo at z;split at z
 ·split at z
  ·omega
  ·omega
 ·exact absurd z (by omega)
theorem Qk{ns:List Int}{x y:Int}(h:x∈Yo ns y):x∈ns∨x=y:=by
 unfold Yo at h;split at h
 ·exact .inl h
 ·rcases List.mem_append.mp h with z|z
  ·exact .inl z
  ·exact .inr (List.mem_singleton.mp z)
theorem Zei{t:Int×Int}{x:Int}(ht:t.1≤t.2)(h:x∈ZI t):t.1≤x∧x≤t.2:=by
 unfold ZI at h;have m:t.1≤Y2 t∧Y2 t≤t.2:=by unfold Y2;omega
 rcases Qk h with z|z
 ·rcases Qk z with z|z
  ·rcases Qk z with z|z
   ·exact nomatch z
   ·omega
  ·omega
 ·omega
theorem UG:∀ {i:List Int}{nss:List (List Int)},Xf i nss→(∀ ns∈nss,∀ x∈ns,Sm x)→∀ v∈i,Sm v
 |[],[],_,_,v,hv=>nomatch hv
 |x :: i,ns :: nss,h,h',v,hv=>by
  rcases List.mem_cons.mp hv with rfl|hv
  ·exact h' ns List.mem_cons_self _ h.1
  ·exact UG h.2 (fun q hq=>h' q (List.mem_cons_of_mem _ hq)) v hv
theorem ZhD:∀ (l:List (List Int)),(∀ ns∈l,ns.length≤3)→l.length≤3→XZ l≤27:=fun l h hl=>by
 match l,hl with
 |[],_=>exact(by decide:1≤27)
 |[a],_=>have:=h a (by simp);show a.length * 1≤27;omega
 |[a,b],_=>
  have h1:=h a (by simp)
  have h2:=h b (by simp)
  have:=Nat.mul_le_mul h1 h2;show a.length * (b.length * 1)≤27;rw[Nat.mul_one];omega
 |[a,b,c],_=>
  have h1:=h a (by simp)
  have h2:=h b (by simp)
  have h3:=h c (by simp)
  have:=Nat.mul_le_mul h1 (Nat.mul_le_mul h2 h3);show a.length * (b.length * (c.length * 1))≤27;rw[Nat.mul_one];omega
theorem Zdi(l:List (List Int)):(∀ ns∈l,1≤ns.length)→∀ ns∈l,ns.length≤XZ l:=by
 induction l with
 |nil=>intro _ ns hn;exact nomatch hn
 |cons a l ih=>
  intro h ns hn;have p1:=V2 fun q hq=>h q (List.mem_cons_of_mem _ hq)
  show ns.length≤a.length * XZ l;rcases List.mem_cons.mp hn with rfl|hn
  ·exact Nat.le_mul_of_pos_right _ p1
  ·exact Nat.le_trans (ih (fun q hq=>h q (List.mem_cons_of_mem _ hq)) ns hn) (Nat.le_mul_of_pos_left _ (h a List.mem_cons_self))
def ZbY(ts:Tk):List (List Int):=YJ (ts.map (WR (ZK 1 ts)))
theorem Za1(h:ZK 1 ts≤64):ts.map (WR (ZK 1 ts))=ts.map YU:=List.map_congr_left fun t _=>if_pos h
theorem UI(h:¬ZK 1 ts≤64):ts.map (WR (ZK 1 ts))=ts.map ZI:=List.map_congr_left fun t _=>if_neg h
theorem ZaG(ok:We ts):∀ t∈ts,Z8 (t.2 - t.1+1)=true:=fun t ht=>by
 have:=ok.2 t ht;exact Za5 (by omega) (by omega)
theorem Ua(ok:We ts):∀ t∈ts,t.1≤t.2:=fun t ht=>(ok.2 t ht).2.1
theorem Zgz(ok:We ts):∀ ns∈ts.map YU,1≤ns.length:=fun ns hn=>by
 obtain⟨t,ht,rfl⟩:=List.mem_map.mp hn;have:=Qb (Ua ok t ht);have:=Ua ok t ht;omega
theorem ZgA(ok:We ts)(h:ZK 1 ts≤64):XZ (ts.map YU)≤64:=by
 have wp:=Ue (m:=1) (Ua ok);rw[Int.one_mul]at wp;omega
theorem Zej(ok:We ts)(h:ZK 1 ts≤64):∀ t∈ts,YA t.1 (t.2+1) 1=true∧t.2+1 - t.1≤1000:=fun t ht=>by
 have o:=ok.2 t ht;have l1:=Zdi _ (Zgz ok) (YU t) (List.mem_map.mpr ⟨t,ht,rfl⟩);have l2:=Qb (Ua ok t ht);have:=ZgA ok h;exact⟨decide_eq_true ⟨⟨by omega,by omega⟩,⟨by omega,by omega⟩,.inl rfl⟩,by omega⟩
theorem ZgB(ok:We ts):∀ ns∈ts.map ZI,1≤ns.length∧ns.length≤3:=fun ns hn=>by
 obtain⟨t,ht,rfl⟩:=List.mem_map.mp hn;exact(QL (Ua ok t ht)).2
theorem Zek(ok:We ts):YV [[]] (ts.map ZI):=by
 have:=ZhD (ts.map ZI) (fun ns hn=>(ZgB ok ns hn).2) (by rw[List.length_map];exact ok.1)
 exact W3 (fun ns hn=>(ZgB ok ns hn).1) (by simp) (by simp;omega)
theorem Zel(ok:We ts)(h:ZK 1 ts≤64):YV [[]] (ts.map YU):=by
 have:=ZgA ok h;exact W3 (Zgz ok) (by simp) (by simp;omega)
theorem Zjg(ok:We ts):YV [[]] (ts.map (WR (ZK 1 ts))):=by
 by_cases h:ZK 1 ts≤64
 ·rw[Za1 h];exact Zel ok h
 ·rw[UI h];exact Zek ok
theorem Zjf(ok:We ts):∀ i∈ZbY ts,i.length=ts.length∧∀ v∈i,Sm v:=fun i hi=>by
 have hh:=Jh i hi;refine⟨by rw[UH hh,List.length_map],UG hh fun ns hn x hx=>?_⟩
 obtain⟨t,ht,rfl⟩:=List.mem_map.mp hn;have o:=ok.2 t ht;have b:t.1≤x∧x≤t.2:=by
  unfold WR at hx;split at hx
  ·exact ZgU hx
  ·exact Zei (Ua ok t ht) hx
 exact⟨by omega,by omega⟩
theorem Zif(ok:We ts){b c:P}:Ze T (n+4) 139 [.tup [Zy ts,b,c]]=some (.tup ((ZbY ts).map Zd)):=by
 have hl:=ok.1;unfold ZbY;by_cases h:ZK 1 ts≤64
 ·rw[Za1 h];exact Zcj (T:=T) (n:=n) Zjc (ZaG ok) h (Zej ok h) (by omega) (Zel ok h)
 ·rw[UI h];exact ZaI (T:=T) (n:=n) Zjc (ZaG ok) (by omega) (by omega) (Zek ok)
theorem ZeD(ok:We ts):Ze T (n+2) 195 [Zy ts]=some (.lst true ((ZbY ts).map Zd)):=by
 rw[Zo (f:=c__law_tried) rfl rfl rfl];obtain⟨y2,y3,e1⟩:=Zgc (F:=Ze T (n+1)) (x0:=some (Zy ts)) (x4:=none) (x5:=none) ts 1 none none (ZaG ok);have e2:=Zbt (n:=n) (ts:=ts) (many:=ZK 1 ts) (fun t ht=>⟨Ua ok t ht,fun h=>Zej ok h t ht⟩) ok.1
 obtain⟨y5,e3⟩:=Zbo (n:=n) (x0:=some (Zy ts)) (x1:=some (.int (ZK 1 ts))) (x2:=y2) (x3:=y3) (nss:=ts.map (WR (ZK 1 ts))) (L:=[[]]) (x5:=none) (fun i hi=>by
  rw[List.mem_singleton.mp hi,List.length_map];have:=ok.1;simp;omega) (Zjg ok)
 show Ys (px (Ze T (n+1)) [] (.seq (.set 1 (.cst (.int 1))) (.seq (.for2 2 3 (.var 0) YD) (.seq (.set 4 (.lstE (.acons (.tupE .anil) .anil))) (.seq (.for1 5 false (.call 194 (.acons (.var 0) (.acons (.var 1) .anil)) []) Z1) (.seq (.ret (.var 4)) .skip))))) [some (Zy ts),none,none,none,none,none])=_;rw[Yv (v:=.int 1) (by rfl)]
 simp only[Zh,Zg];rw[Zj,V4 (xs:=ts.map ZW) (by rfl) (by simp[XU]),e1,Zf,Yv (v:=.lst true ([[]].map Zd)) (by rfl)]
 simp only[Zh,Zg];rw[Zj,Wb (m:=true) (xs:=(ts.map (WR (ZK 1 ts))).map Zv) (by simp[e2]) (by simp[JQ]),e3,Zf,Yg (v:=.lst true ((ZbY ts).map Zd)) (by rfl)]
 rfl
theorem Zdp{o o':Out}:Yy .NotEq (ZC o) (ZC o')=some (.bl (!Uf (ZC o) (ZC o'))):=by
 have h:∀ o:Out,∃ l,ZC o=.tup l∧okP 8 (.tup l)=true:=fun o=>by cases o<;>exact⟨_,rfl,rfl⟩
 obtain⟨l,e,h1⟩:=h o;obtain⟨l',e',h2⟩:=h o';rw[e,e'];exact ZeV h1 h2
def WI(p:Prog)(l:Nat)(i:List Int):Out:=Zaq p.rows l (ZE p i)
def unl(p q:Prog)(l:Nat)(i:List Int):Bool:=!Uf (ZC (WI p l i)) (ZC (WI q l i))
def Xl:Option (List Int)→P
 |some i=>Zd i
 |none=>.non
theorem Zgf{p:Prog}{ins:List Int}{l:Nat}(hp:ProgOk p)(h1:ins.length≤p.many)(hs:∀ v∈ins,Sm v)(hl:l≤900) :
  Ze T (n+8) 13 [Zr p,Zd ins,.int (l:Int)]=some (ZC (Zaq p.rows l (ZE p ins))):=by
 rw[Zo (f:=c_outcome) rfl rfl rfl];have tr:=ZeC (n:=n) Zh1 hp h1 hs hl;rw[show ZL c_outcome.body=[] from rfl];simp[c_outcome,tr,ZaH,ZcL]
theorem ZeB{p q:Prog}{l:Nat}{i:List Int}(e1:Ze T n 13 [Zr p,Zd i,.int (l:Int)]=some (ZC (WI p l i)))(e2:Ze T n 13 [Zr q,Zd i,.int (l:Int)]=some (ZC (WI q l i))):Ze T (n+1) 99 [Zr p,Zr q,Zd i,.int (l:Int)]=some (.bl (unl p q l i)):=by
 rw[Zo (f:=c_tells) rfl rfl rfl];have ne:=Zdp (o:=WI p l i) (o':=WI q l i);rw[show ZL c_tells.body=[] from rfl];simp[c_tells,e1,e2,ne,unl]
theorem Vd{x0 x1 x2:P}{f:List Int→Bool}:∀ {vs:List (List Int)}{x3:Option P},(∀ v∈vs,F 99 [x0,x1,Zd v,x2]=some (.bl (f v)))→
  ∃ y,Zz (fun d π=>px F [] YO (Zq π 3 d)) (vs.map Zd) [some x0,some x1,some x2,x3]=(match vs.find? f with
   |some v=>some (.rt (Zd v))
   |none=>some (.nx [some x0,some x1,some x2,y]))
 |[],x3,_=>⟨x3,rfl⟩
 |v :: vs,x3,h=>by
  have h1:=h v List.mem_cons_self;obtain⟨y,e⟩:=Vd (vs:=vs) (x3:=some (Zd v)) fun q hq=>h q (List.mem_cons_of_mem _ hq)
  refine⟨y,?_⟩;rw[List.map_cons,ZA];have b:px F [] YO (Zq [some x0,some x1,some x2,x3] 3 (Zd v))=if f v=true then some (.rt (Zd v)) else some (.nx [some x0,some x1,some x2,some (Zd v)]):=by
   show px F [] YO [some x0,some x1,some x2,some (Zd v)]=_;simp[YO,h1]
  rw[b,List.find?_cons];cases f v with
  |true=>rfl
  |false=>rw[if_neg Bool.false_ne_true,ZT,e]
theorem Zco{x0 x1 x2:P}{f:List Int→Bool}{vs:List (List Int)}(h1:Ze T n 139 [x0]=some (.tup (vs.map Zd)))(h2:∀ v∈vs,Ze T n 99 [x0,x1,Zd v,x2]=some (.bl (f v))):Ze T (n+1) 140 [x0,x1,x2]=some (Xl (vs.find? f)):=by
 rw[Zo (f:=c_sought) rfl rfl rfl];obtain⟨y,e⟩:=Vd (x3:=none) h2;show Ys (px (Ze T n) [] (.seq (.for1 3 false (.call 139 (.acons (.var 0) .anil) []) YO) (.seq (.ret (.cst .non)) .skip)) [some x0,some x1,some x2,none])=_;rw[Zj,Zbi (xs:=vs.map Zd) (by simp[h1]) (by simp[XU]),e]
 cases vs.find? f<;>rfl
end
end Dp


namespace Dp
open PySem
section
variable {n:Nat}{F:PFn}{ts:Tk}
theorem JX{i:List Int}{k:Nat}(h:k < i.length):px F [] Yb [some (Zd i),some (Zd i),some (.int (k:Int))]=some (.nx [some (Zd i),some (Zd i),some (.int (k:Int))]):=by
 have a:atP (i.map P.int) (k:Int)=some (.int i[k]):=by rw[Xh rfl,List.getElem?_map,List.getElem?_eq_getElem h];rfl
 unfold Yb;rw[ZX (by simp[Zd,a]),Zp]
theorem ZeG{o:Option (List Int)}(h:∀ i,o=some i→i.length≤1000):Ze T (n+1) 36 [Xl o,Xl o]=some (.bl true):=by
 rw[Zo (f:=c__law_alike_k47) rfl rfl rfl];cases o with
 |none=>rfl
 |some i=>
  have hi:=h i rfl;obtain⟨π',e,y,rfl⟩:=VS (B:=fun d π=>px (Ze T n) [] Yb (Zq π 2 d)) (fun _ π=>∃ y,π=[some (Zd i),some (Zd i),y]) (m:=i.length) (π:=[some (Zd i),some (Zd i),none]) (fun k hk π hπ=>by
   obtain⟨y,rfl⟩:=hπ;exact⟨_,JX hk,_,rfl⟩) ⟨_,rfl⟩
  show Ys (px (Ze T n) [] c__law_alike_k47.body [some (Zd i),some (Zd i),none])=_;unfold c__law_alike_k47;rw[ZX (by
   have e1:Yy .Is (Zd i) .non=some (.bl false):=rfl;have e2:pe (Ze T n) (.isi .tuple (.var 0)) [some (Zd i),some (Zd i),none]=some (.bl true):=rfl;have e3:pe (Ze T n) (.len (.var 0)) [some (Zd i),some (Zd i),none]=some (.int (i.length:Int)):=by simp[Zd]
   have e4:pe (Ze T n) (.len (.var 1)) [some (Zd i),some (Zd i),none]=some (.int (i.length:Int)):=by simp[Zd]
   simp[e1,e2,e3,e4,-Zhz,-Zhy]),Zj,QB (n:=i.length) (by simp[Zd]) (by omega) rfl,e,Zf,Yg (v:=.bl true) (by rfl)]
  rfl
theorem Q8{x0 x1 x2 x3 x4:Option P}{j:List Int}:∀ {L:List (List Int)}{x6:Option P},∃ y6,Zz (fun d π=>px F [] Z5 (Zq π 6 d)) (L.map Zd) [x0,x1,x2,x3,x4,some (Zd j),x6]=some (.nx [x0,x1,x2,x3,x4,some (Zd j),y6])
 |[],x6=>⟨x6,rfl⟩
 |i :: L,x6=>by
  obtain⟨y6,e⟩:=Q8 (x0:=x0) (x1:=x1) (x2:=x2) (x3:=x3) (x4:=x4) (j:=j) (L:=L) (x6:=some (Zd i));refine⟨y6,?_⟩;rw[List.map_cons,ZA];have b:px F [] Z5 (Zq [x0,x1,x2,x3,x4,some (Zd j),x6] 6 (Zd i))=some (.nx [x0,x1,x2,x3,x4,some (Zd j),some (Zd i)]):=by
   show px F [] Z5 [x0,x1,x2,x3,x4,some (Zd j),some (Zd i)]=_;unfold Z5;rw[ZX (by
    have e1:Yy .Is (Zd j) .non=some (.bl false):=rfl;simp[e1]),Zp]
  rw[b,ZT,e]
theorem Q7{x0 x3:Option P}{p q:Prog}{l:Nat}:∀ {L:List (List Int)}{x6:Option P},(∀ i∈L,F 188 [Zr p,Zd i,.int (l:Int)]=some (ZC (WI p l i))∧F 188 [Zr q,Zd i,.int (l:Int)]=some (ZC (WI q l i)))→
  ∃ y6,Zz (fun d π=>px F [] Z5 (Zq π 6 d)) (L.map Zd) [x0,some (Zr p),some (Zr q),x3,some (.int (l:Int)),some .non,x6]=some (.nx [x0,some (Zr p),some (Zr q),x3,some (.int (l:Int)),some (Xl (L.find? (unl p q l))),y6])
 |[],x6,_=>⟨x6,rfl⟩
 |i :: L,x6,h=>by
  obtain⟨h1,h2⟩:=h i List.mem_cons_self;have ne:=Zdp (o:=WI p l i) (o':=WI q l i);have c:pe F (.and (.cmp .Is (.var 5) (.cst .non)) (.cmp .NotEq (.call 188 (.acons (.var 1) (.acons (.var 6) (.acons (.var 4) .anil))) []) (.call 188 (.acons (.var 2) (.acons (.var 6) (.acons (.var 4) .anil))) []))) [x0,some (Zr p),some (Zr q),x3,some (.int (l:Int)),some .non,some (Zd i)]=some (.bl (unl p q l i)):=by
   have e1:Yy .Is .non .non=some (.bl true):=rfl;simp[e1,h1,h2,ne,unl]
  rw[List.map_cons,ZA,List.find?_cons];have b0:Zq [x0,some (Zr p),some (Zr q),x3,some (.int (l:Int)),some .non,x6] 6 (Zd i)=[x0,some (Zr p),some (Zr q),x3,some (.int (l:Int)),some .non,some (Zd i)]:=rfl;rw[b0];unfold Z5;cases hu:unl p q l i with
  |true=>
   rw[hu]at c;obtain⟨y6,e⟩:=Q8 (F:=F) (x0:=x0) (x1:=some (Zr p)) (x2:=some (Zr q)) (x3:=x3) (x4:=some (.int (l:Int))) (j:=i) (L:=L) (x6:=some (Zd i));refine⟨y6,?_⟩;rw[XL (π':=[x0,some (Zr p),some (Zr q),x3,some (.int (l:Int)),some (Zd i),some (Zd i)]) c (by
    rw[Yv (v:=Zd i) (by rfl)];rfl),Zp,ZT]
   exact e
  |false=>
   rw[hu]at c;obtain⟨y6,e⟩:=Q7 (x0:=x0) (x3:=x3) (p:=p) (q:=q) (l:=l) (L:=L) (x6:=some (Zd i)) fun j hj=>h j (List.mem_cons_of_mem _ hj)
   refine⟨y6,?_⟩;rw[ZX c,Zp,ZT];exact e
def tl5:CS:=match c_law_k47.body with
 |.seq _ (.seq _ (.seq _ (.seq _ r)))=>r
 |_=>.skip
theorem Jl{s:P}{p q:Prog}{L:List (List Int)}{l:Nat}(h188:∀ i∈L,F 188 [Zr p,Zd i,.int (l:Int)]=some (ZC (WI p l i))∧F 188 [Zr q,Zd i,.int (l:Int)]=some (ZC (WI q l i)))(h140:F 140 [Zr p,Zr q,.int (l:Int)]=some (Xl (L.find? (unl p q l))))(h36:F 36 [Xl (L.find? (unl p q l)),Xl (L.find? (unl p q l))]=some (.bl true)) :
  px F [] tl5 [some s,some (Zr p),some (Zr q),some (.lst true (L.map Zd)),some (.int (l:Int)),none,none]=some (.rt (.bl true)):=by
 obtain⟨y6,e⟩:=Q7 (F:=F) (x0:=some s) (x3:=some (.lst true (L.map Zd))) (L:=L) (x6:=none) h188;show px F [] (.seq (.set 5 (.cst .non)) (.seq (.for1 6 false (.var 3) Z5) (.seq (.ret (.call 36 (.acons (.call 140 (.acons (.var 1) (.acons (.var 2) (.acons (.var 4) .anil))) []) (.acons (.var 5) .anil)) [])) .skip))) _=_;rw[Yv (v:=.non) (by rfl)]
 simp only[Zh,Zg];rw[Zj,Wb (m:=true) (xs:=L.map Zd) (by rfl) (by simp[JQ]),e,Zf,Yg (v:=.bl true) (by simp[h140,h36])]
theorem Zdf{s:P}{p q:Prog}{L:List (List Int)}{c:Int}(h197:F 197 [s]=some (.tup [Zr p,Zr q]))(h195:F 195 [p.takes]=some (.lst true (L.map Zd)))(h27:F 27 [s,.int 2]=some (.int c))(h188:∀ l:Nat,l≤24→∀ i∈L,F 188 [Zr p,Zd i,.int (l:Int)]=some (ZC (WI p l i))∧F 188 [Zr q,Zd i,.int (l:Int)]=some (ZC (WI q l i)))(h140:∀ l:Nat,l≤24→F 140 [Zr p,Zr q,.int (l:Int)]=some (Xl (L.find? (unl p q l))))(h36:∀ o:Option (List Int),(∀ i,o=some i→i∈L)→F 36 [Xl o,Xl o]=some (.bl true)) :
  Ys (px F [] c_law_k47.body [some s,none,none,none,none,none,none])=some (.bl true):=by
 show Ys (px F [] (.seq (.set2 1 2 (.call 197 (.acons (.var 0) .anil) [])) (.seq (.set 3 (.call 195 (.acons (.ix (.var 1) (.cst (.int 0))) .anil) [])) (.seq (.set 4 (.bin .Mod (.bin .FloorDiv (.call 27 (.acons (.var 0) (.acons (.cst (.int 2)) .anil)) []) (.cst (.int 24))) (.cst (.int 25)))) (.seq (.ite (.cmp .Gt (.len (.var 3)) (.cst (.int 16))) (.seq (.set 4 (.bin .Mod (.var 4) (.cst (.int 7)))) .skip) .skip) tl5)))) _)=_
 rw[Zj,ZfE (x:=Zr p) (y:=Zr q) (by simp[h197]) (by simp[XU]),Zf]
 simp only[Zh,Zg];have x0:ixP (Zr p) (.int 0)=some p.takes:=rfl;rw[Yv (v:=.lst true (L.map Zd)) (by simp[x0,h195])]
 simp only[Zh,Zg];obtain⟨l,el,hl⟩:∃ l:Nat,c / 24 % 25=(l:Int)∧l≤24:=⟨(c / 24 % 25).toNat,by omega,by omega⟩
 rw[Yv (v:=.int (l:Int)) (by simp[h27,el])]
 simp only[Zh,Zg];have mem:∀ l:Nat,∀ i,L.find? (unl p q l)=some i→i∈L:=fun l i h=>List.mem_of_find?_eq_some h
 by_cases h:16 < L.length
 ·obtain⟨l',el',hl'⟩:∃ l':Nat,(l:Int) % 7=(l':Int)∧l'≤24:=⟨((l:Int) % 7).toNat,by omega,by omega⟩
  rw[XL (π':=[some s,some (Zr p),some (Zr q),some (.lst true (L.map Zd)),some (.int (l':Int)),none,none]) (by simp;omega) (by
   rw[Yv (v:=.int (l':Int)) (by simp[el'])];rfl),Jl (h188 l' hl') (h140 l' hl') (h36 _ (mem l'))]
  rfl
 ·rw[ZX (by simp;omega),Jl (h188 l hl) (h140 l hl) (h36 _ (mem l))]
  rfl
theorem Zb1{n:Nat}{ns:List Int}(hn:ns.length≤63):Ze T (n+12) 16 [.lst false (ns.map .int)]=some (.bl true):=by
 obtain⟨p,q,ts,two,h197⟩:=JV (n:=n+7) hn;have tl:=two.ok.1;have tin:=Zjf two.ok;have h195:=ZeD (n:=n+9) two.ok;have hb:=Zdf (F:=Ze T (n+11)) (s:=.lst false (ns.map .int)) (p:=p) (q:=q) (L:=ZbY ts) (c:=cellK ns 2) h197 (by rw[two.tk];exact h195) (U7 (n:=n+10) (k:=2)) (fun l hl i hi=>by
   obtain⟨i1,i2⟩:=tin i hi;have l1:=two.len;have l2:=two.le;exact⟨Zgh (n:=n+8) two.gp.ok two.gp.sg (by omega) i2 (by omega),Zgh (n:=n+8) two.gq.ok two.gq.sg (by omega) i2 (by omega)⟩) (fun l hl=>by
   refine Zco (n:=n+10) ?_ (fun i hi=>?_)
   ·have e:=Zif (n:=n+6) two.ok (b:=.int (p.many:Int)) (c:=.tup (p.rows.map Zl))
    rw[←two.tk]at e;exact e
   ·obtain⟨i1,i2⟩:=tin i hi
    have l1:=two.len;have l2:=two.le;exact ZeB (n:=n+9) (Zgf (n:=n+1) two.gp.ok (by omega) i2 (by omega)) (Zgf (n:=n+1) two.gq.ok (by omega) i2 (by omega))) (fun o ho=>ZeG (n:=n+10) fun i hi=>by
   have:=(tin i (ho i hi)).1;omega)
 rw[Zo (f:=c_law_k47) rfl rfl rfl];exact hb
end
end Dp


namespace PySem.W.Fast
def tw3063251795700976164:=0
def tw14407644161300147421:=0
def tw3711538387490043085:=0
def tw6917367057138479544:=0
def tw12511344066007299320:=0
def tw11692940557080465425:=0
def tw15447861550019493278:=0
def tw4056867245483329058:=0
def tw4280425520122654394:=0
def tw3243227902635168458:=0
def tw14498158095212661538:=0
def tw6373991966032485344:=0
def tw1376993651513170495:=0
def tw2404845534531230993:=0
def tw14961266018755431758:=0
def tw5853403553024883385:=0
def tw17419176192230361739:=0
def tw803023685194413532:=0
def tw3765834325860643852:=0
def tw12228082328985879227:=0
def tw11462924604298781678:=0
def tw3310945584010726477:=0
def tw6053677592347100609:=0
def tw9464093802292368150:=0
def tw6394394195187318809:=0
def tw6034055025430357145:=0
def tw11258509033567833595:=0
def tw5474824055028875353:=0
def tw1976214336971557229:=0
def tw10010652425203633466:=0
def tw7902860316332157886:=0
def tw12120151815949020615:=0
def tw3913941523583944577:=0
def tw12237748001116931786:=0
def tw15145137972148144424:=0
def tw14276880246056587170:=0
def tw16872308306166904166:=0
def tw9973090264447672429:=0
def tw9457218110679979013:=0
def tw193584462634089430:=0
def tw14396034752618714295:=0
def tw5995180114189596090:=0
def tw16359662097775289747:=0
def tw5059698043741498906:=0
def tw4338971642321252966:=0
def tw12421969261896265520:=0
def tw5545397098331821675:=0
def tw15102633538518897081:=0
def tw17904674825758885398:=0
def tw5239150112157086422:=0
def tw15120352599805965244:=0
def tw7595222558956053341:=0
def tw908845667095798451:=0
def tw13239587115826280463:=0
def tw5045257376480184484:=0
def tw10271674799607288065:=0
def tw15869055059621137596:=0
def tw15534824789492503355:=0
def tw8950081312085072675:=0
def tw16260458514714814040:=0
def tw17259511977998621352:=0
def tw1168489487434270190:=0
def tw5818088026467761179:=0
def tw1655494794815503016:=0
def tw14007549800063264769:=0
def tw17650344765082064898:=0
def tw910644958196146639:=0
def tw2044803434650965109:=0
def tw16444514339792487986:=0
def tw16541340946308160537:=0
def tw18388182818235179702:=0
def tw1705448955438610573:=0
def tw14973992752994898746:=0
def tw13519172472204921131:=0
def tw7507091335549773078:=0
def tw5855239779785623295:=0
def tw9081789275518856680:=0
def tw1191296526638501473:=0
def tw1610416297289024123:=0
def tw380272573252056168:=0
def tw2105929411490547465:=0
def tw8138989306702740431:=0
def tw1437723614293697735:=0
def tw8888452479515471771:=0
def tw7922364334936713452:=0
def tw10366723969272948899:=0
def tw7287712587894192376:=0
def tw10986654410833207634:=0
def tw4146862685113643004:=0
def tw13407305671271506234:=0
def tw18320759389969487802:=0
def tw4031489982106025122:=0
def tw8093705296182867484:=0
def tw13652584347933196119:=0
def tw8920840455483376911:=0
def tw18254131746335114651:=0
def tw17525847617271180869:=0
def tw15006353817319107531:=0
def tw3750780762933540169:=0
def tw2489557310680395569:=0
def tw15802806492239613270:=0
def tw14765899963076760673:=0
def tw17540589740333674509:=0
def tw17550484581508516702:=0
def tw5574195320021327669:=0
def tw5259285255837816450:=0
def tw44837600513304899:=0
def tw850817574062972521:=0
def tw7584378834102983735:=0
def tw18417076170015476888:=0
def tw4446373010680926557:=0
def tw13000849694991424855:=0
def tw13560251556538155185:=0
def tw5143579293560022352:=0
def tw10159348750007320082:=0
def tw8251080123085101408:=0
def tw17507259150617231654:=0
def tw3667034072970589261:=0
end PySem.W.Fast
namespace Dp
open PySem L2
noncomputable def top(i:Nat):Stmt:=PySem.Challenge.pw_fakehunt_k47_whole_first_that_tells.main.body.getD i (.Pass ⟨0,0,0,0⟩)
noncomputable def G:Gs:=[(S "WIDEST",GV.cst (.int 64)),(S "width",GV.fn 133 1 []),(S "inputs_of",GV.fn 134 1 []),(S "is_wide",GV.fn 135 1 []),(S "box",GV.fn 136 1 []),(S "menu_numbers",GV.fn 137 2 []),(S "menu",GV.fn 138 1 []),(S "tried",GV.fn 139 1 []),(S "replaced",GV.fn 42 3 []),(S "HALF",GV.cst (.int 1000000000)),(S "RING",GV.cst (.int 2000000000)),(S "around",GV.fn 0 1 []),(S "divided",GV.fn 1 2 []),(S "left_over",GV.fn 2 2 []),(S "reckon",GV.fn 3 3 []),(S "is_so",GV.fn 4 3 []),(S "worth",GV.fn 5 2 []),(S "began",GV.fn 6 2 []),(S "at_end",GV.fn 7 2 []),(S "values_behind",GV.fn 8 2 []),(S "place_behind",GV.fn 9 3 []),(S "moved",GV.fn 10 2 []),(S "is_outcome",GV.fn 11 1 []),(S "trail",GV.fn 12 3 [(.int 100)]),(S "outcome",GV.fn 13 3 [(.int 100)]),(S "tells",GV.fn 99 4 [(.int 100)]),(S "sought",GV.fn 140 3 [(.int 100)]),(S "_law_cell_at",GV.fn 27 2 []),(S "_law_alike",GV.fn 36 2 []),(S "_law_number_by",GV.fn 18 1 []),(S "_law_operand_by",GV.fn 71 2 []),(S "_law_row_by",GV.fn 72 3 []),(S "_law_widths",GV.fn 142 1 []),(S "_law_takes",GV.fn 191 2 []),(S "_law_fitted",GV.fn 192 2 []),(S "_law_rows_of_other",GV.fn 193 3 []),(S "_law_worth",GV.fn 34 2 []),(S "_law_reckon",GV.fn 32 3 []),(S "_law_so",GV.fn 33 3 []),(S "_law_outcome",GV.fn 188 3 []),(S "_law_choices",GV.fn 194 2 []),(S "_law_tried",GV.fn 195 1 []),(S "_law_pairs",GV.fn 196 2 []),(S "_law_programs",GV.fn 197 1 []),(S "law",GV.fn 16 1 []),(S "len",GV.blt),(S "range",GV.blt),(S "tuple",GV.blt),(S "list",GV.blt),(S "int",GV.blt),(S "bool",GV.blt),(S "str",GV.blt),(S "min",GV.blt),(S "max",GV.blt),(S "isinstance",GV.blt),(S "all",GV.blt),(S "any",GV.blt),(S "zip",GV.blt),(S "sorted",GV.blt),(S "enumerate",GV.blt),(S "set",GV.blt)]
noncomputable def Zle(i k:Nat):Stmt:=match top i with
 |.ClassDef _ _ _ b _ _ _ _ _ _ _=>b.getD k (.Pass ⟨0,0,0,0⟩)
 |s=>s
abbrev Cmp(i:Nat)(N ps:List Str)(c:CS):Prop:=Zet G (top i) N ps c
local macro_rules
 |`(tactic| trivial)=>`(tactic| exact⟨⟨rfl,rfl,rfl,by decide +kernel,rfl,by decide +kernel,by decide +kernel⟩,by unfold L2.Loc;decide +kernel,by kernel_rfl⟩)
theorem q_5:Cmp 5 [S "program",S "many",S "low",S "high"] [S "program"] c_width.body:=by trivial
theorem q_6:Cmp 6 [S "numbers_taken",S "told",S "numbers",S "longer",S "inputs"] [S "numbers_taken"] c_inputs_of.body:=by trivial
theorem q_7:Cmp 7 [S "program"] [S "program"] c_is_wide.body:=by trivial
theorem q_8:Cmp 8 [S "program"] [S "program"] c_box.body:=by trivial
theorem q_9:Cmp 9 [S "low",S "high",S "numbers",S "number"] [S "low",S "high"] c_menu_numbers.body:=by trivial
theorem Zkn:Cmp 10 [S "program"] [S "program"] c_menu.body:=by trivial
theorem Zko:Cmp 11 [S "program"] [S "program"] c_tried.body:=by trivial
theorem Zkp:Cmp 13 [S "things",S "i",S "thing"] [S "things",S "i",S "thing"] c_replaced.body:=by trivial
theorem Zkq:Cmp 17 [S "number"] [S "number"] c_around.body:=by trivial
theorem Zkr:Cmp 18 [S "one",S "other"] [S "one",S "other"] c_divided.body:=by trivial
theorem Zks:Cmp 19 [S "one",S "other"] [S "one",S "other"] c_left_over.body:=by trivial
theorem Zkt:Cmp 20 [S "one",S "sign",S "other"] [S "one",S "sign",S "other"] c_reckon.body:=by trivial
theorem Zku:Cmp 21 [S "one",S "sign",S "other"] [S "one",S "sign",S "other"] c_is_so.body:=by trivial
theorem Zkv:Cmp 23 [S "operand",S "values"] [S "operand",S "values"] c_worth.body:=by trivial
theorem Zkw:Cmp 24 [S "program",S "inputs"] [S "program",S "inputs"] c_began.body:=by trivial
theorem Zkx:Cmp 25 [S "program",S "state"] [S "program",S "state"] c_at_end.body:=by trivial
theorem Zky:Cmp 26 [S "row",S "values",S "number"] [S "row",S "values"] c_values_behind.body:=by trivial
theorem Zkz:Cmp 27 [S "row",S "k",S "values"] [S "row",S "k",S "values"] c_place_behind.body:=by trivial
theorem ZkA:Cmp 28 [S "program",S "state",S "k",S "values",S "row"] [S "program",S "state"] c_moved.body:=by trivial
theorem ZkB:Cmp 29 [S "thing"] [S "thing"] c_is_outcome.body:=by trivial
theorem ZkC:Cmp 30 [S "program",S "inputs",S "limit",S "state",S "things",S "done",S "thing"] [S "program",S "inputs",S "limit"] c_trail.body:=by trivial
theorem ZkD:Cmp 31 [S "program",S "inputs",S "limit"] [S "program",S "inputs",S "limit"] c_outcome.body:=by trivial
theorem ZkE:Cmp 33 [S "one",S "other",S "inputs",S "limit"] [S "one",S "other",S "inputs",S "limit"] c_tells.body:=by trivial
theorem ZkF:Cmp 35 [S "one",S "other",S "limit",S "inputs"] [S "one",S "other",S "limit"] c_sought.body:=by trivial
theorem ZkG:Cmp 37 [S "_law_script",S "_law_k"] [S "_law_script",S "_law_k"] c__law_cell_at_k25.body:=by trivial
theorem ZkH:Cmp 38 [S "_law_found",S "_law_due",S "_law_k"] [S "_law_found",S "_law_due"] c__law_alike_k47.body:=by trivial
theorem ZkI:Cmp 39 [S "_law_cell"] [S "_law_cell"] c__law_number_by_k47.body:=by trivial
theorem ZkJ:Cmp 40 [S "_law_cell",S "_law_names"] [S "_law_cell",S "_law_names"] c__law_operand_by_k47.body:=by trivial
theorem ZkK:Cmp 41 [S "_law_cells",S "_law_names",S "_law_many",S "_law_y",S "_law_z",S "_law_t",S "_law_sign"] [S "_law_cells",S "_law_names",S "_law_many"] c__law_row_by_k47.body:=by trivial
theorem ZkL:Cmp 42 [S "_law_cell",S "_law_free"] [S "_law_cell"] c__law_widths_k47.body:=by trivial
theorem ZkM:Cmp 43 [S "_law_widths_here",S "_law_cells",S "_law_takes_here",S "_law_k",S "_law_wide",S "_law_low"] [S "_law_widths_here",S "_law_cells"] c__law_takes.body:=by trivial
theorem ZkN:Cmp 44 [S "_law_row",S "_law_most"] [S "_law_row",S "_law_most"] c__law_fitted.body:=by trivial
theorem ZkO:Cmp 45 [S "_law_rows",S "_law_spare",S "_law_way",S "_law_at",S "_law_kept"] [S "_law_rows",S "_law_spare",S "_law_way"] c__law_rows_of_other.body:=by trivial
theorem ZkP:Cmp 46 [S "_law_operand",S "_law_values"] [S "_law_operand",S "_law_values"] c__law_worth.body:=by trivial
theorem ZkQ:Cmp 47 [S "_law_one",S "_law_sign",S "_law_other",S "_law_due"] [S "_law_one",S "_law_sign",S "_law_other"] c__law_reckon_k25.body:=by trivial
theorem ZkR:Cmp 48 [S "_law_one",S "_law_sign",S "_law_other"] [S "_law_one",S "_law_sign",S "_law_other"] c__law_so_k25.body:=by trivial
theorem ZkS:Cmp 49 [S "_law_program",S "_law_inputs",S "_law_limit",S "_law_values",S "_law_at",S "_law_done",S "_law_row"] [S "_law_program",S "_law_inputs",S "_law_limit"] c__law_outcome_k47.body:=by trivial
theorem ZkT:Cmp 50 [S "_law_takes_here",S "_law_many",S "_law_found",S "_law_low",S "_law_high"] [S "_law_takes_here",S "_law_many"] c__law_choices.body:=by trivial
theorem ZkU:Cmp 51 [S "_law_takes_here",S "_law_many",S "_law_low",S "_law_high",S "_law_found",S "_law_numbers"] [S "_law_takes_here"] c__law_tried.body:=by trivial
theorem ZkV:Cmp 52 [S "_law_ones",S "_law_others",S "_law_found",S "_law_one",S "_law_other"] [S "_law_ones",S "_law_others"] c__law_pairs.body:=by trivial
theorem ZkW:Cmp 53 [S "_law_script",S "_law_widths_here",S "_law_names",S "_law_many",S "_law_last",S "_law_size",S "_law_rows",S "_law_k",S "_law_takes_here",S "_law_spare",S "_law_way",S "_law_other",S "_law_one"] [S "_law_script"] c__law_programs.body:=by trivial
theorem Zi3:Cmp 54 [S "_law_script",S "_law_one",S "_law_other",S "_law_inputs",S "_law_limit",S "_law_due",S "_law_some"] [S "_law_script"] c_law_k47.body:=by trivial
@[reducible] noncomputable def tab (l:List (Nat×Addr)):ClsTab:=⟨fun i=>(l.lookup i).getD 0⟩
section
variable [ct:ClsTab]
theorem ZgK{Pm:Params}{K:PySem.W.Frag}{h:Heap}{mg:Str→Option Value}{fa:Addr}(X:K.In h)(G0:h.Ns mainGlobals mg)(hfa:mg "law"=some (.ref fa)){t0:Tok}{t9:Tok}{t10:Tok}(g0:PySem.W.nsIn K mainGlobals "WIDEST"=some (some (.int (64) t0)))(a1:FnAt K "width" (top 5))(a2:FnAt K "inputs_of" (top 6))(a3:FnAt K "is_wide" (top 7))(a4:FnAt K "box" (top 8))(a5:FnAt K "menu_numbers" (top 9))(a6:FnAt K "menu" (top 10))(a7:FnAt K "tried" (top 11))(a8:FnAt K "replaced" (top 13))(g9:PySem.W.nsIn K mainGlobals "HALF"=some (some (.int (1000000000) t9)))(g10:PySem.W.nsIn K mainGlobals "RING"=some (some (.int (2000000000) t10)))(a11:FnAt K "around" (top 17))(a12:FnAt K "divided" (top 18))(a13:FnAt K "left_over" (top 19))(a14:FnAt K "reckon" (top 20))(a15:FnAt K "is_so" (top 21))(a16:FnAt K "worth" (top 23))(a17:FnAt K "began" (top 24))(a18:FnAt K "at_end" (top 25))(a19:FnAt K "values_behind" (top 26))(a20:FnAt K "place_behind" (top 27))(a21:FnAt K "moved" (top 28))(a22:FnAt K "is_outcome" (top 29))(a23:FnAtE K "trail" (top 30) 100)(a24:FnAtE K "outcome" (top 31) 100)(a25:FnAtE K "tells" (top 33) 100)(a26:FnAtE K "sought" (top 35) 100)(a27:FnAt K "_law_cell_at" (top 37))(a28:FnAt K "_law_alike" (top 38))(a29:FnAt K "_law_number_by" (top 39))(a30:FnAt K "_law_operand_by" (top 40))(a31:FnAt K "_law_row_by" (top 41))(a32:FnAt K "_law_widths" (top 42))(a33:FnAt K "_law_takes" (top 43))(a34:FnAt K "_law_fitted" (top 44))(a35:FnAt K "_law_rows_of_other" (top 45))(a36:FnAt K "_law_worth" (top 46))(a37:FnAt K "_law_reckon" (top 47))(a38:FnAt K "_law_so" (top 48))(a39:FnAt K "_law_outcome" (top 49))(a40:FnAt K "_law_choices" (top 50))(a41:FnAt K "_law_tried" (top 51))(a42:FnAt K "_law_pairs" (top 52))(a43:FnAt K "_law_programs" (top 53))(a44:FnAt K "law" (top 54))(z45:PySem.W.nsIn K mainGlobals "len"=some none)(z46:PySem.W.nsIn K mainGlobals "range"=some none)(z47:PySem.W.nsIn K mainGlobals "tuple"=some none)(z48:PySem.W.nsIn K mainGlobals "list"=some none)(z49:PySem.W.nsIn K mainGlobals "int"=some none)(z50:PySem.W.nsIn K mainGlobals "bool"=some none)(z51:PySem.W.nsIn K mainGlobals "str"=some none)(z52:PySem.W.nsIn K mainGlobals "min"=some none)(z53:PySem.W.nsIn K mainGlobals "max"=some none)(z54:PySem.W.nsIn K mainGlobals "isinstance"=some none)(z55:PySem.W.nsIn K mainGlobals "all"=some none)(z56:PySem.W.nsIn K mainGlobals "any"=some none)(z57:PySem.W.nsIn K mainGlobals "zip"=some none)(z58:PySem.W.nsIn K mainGlobals "sorted"=some none)(z59:PySem.W.nsIn K mainGlobals "enumerate"=some none)(z60:PySem.W.nsIn K mainGlobals "set"=some none) :
  Text Pm K mg G T∧∃ (fd:FuncData) (N:List Str),(∀ (s:Shared) (u:Value),BindsTo s fd ⟨[u],[]⟩ [(S "_law_script",u)])∧DefOk K mg G T "law" 16 [] fa fd [S "_law_script"] N:=by
 exact⟨Zf6 (gI X G0 g0 (gD X G0 a1 q_5 rfl (gD X G0 a2 q_6 rfl (gD X G0 a3 q_7 rfl (gD X G0 a4 q_8 rfl (gD X G0 a5 q_9 rfl (gD X G0 a6 Zkn rfl (gD X G0 a7 Zko rfl (gD X G0 a8 Zkp rfl (gI X G0 g9 (gI X G0 g10 (gD X G0 a11 Zkq rfl (gD X G0 a12 Zkr rfl (gD X G0 a13 Zks rfl (gD X G0 a14 Zkt rfl (gD X G0 a15 Zku rfl (gD X G0 a16 Zkv rfl (gD X G0 a17 Zkw rfl (gD X G0 a18 Zkx rfl (gD X G0 a19 Zky rfl (gD X G0 a20 Zkz rfl (gD X G0 a21 ZkA rfl (gD X G0 a22 ZkB rfl (gE X G0 a23 ZkC rfl (fun _ _ _ _ _ _ _ _ _ _ d e=>⟨fun s us hK hl=>by obtain⟨_,_,_,rfl⟩:=Zdh (show us.length=3 by simpa using hl);exact PySem.W.binds_K hK rfl d e rfl rfl,fun s us hK hl=>by obtain⟨_,_,rfl⟩:=Zfq (show us.length=2 by simpa using hl);exact PySem.W.binds_K hK rfl d e rfl rfl⟩) (gE X G0 a24 ZkD rfl (fun _ _ _ _ _ _ _ _ _ _ d e=>⟨fun s us hK hl=>by obtain⟨_,_,_,rfl⟩:=Zdh (show us.length=3 by simpa using hl);exact PySem.W.binds_K hK rfl d e rfl rfl,fun s us hK hl=>by obtain⟨_,_,rfl⟩:=Zfq (show us.length=2 by simpa using hl);exact PySem.W.binds_K hK rfl d e rfl rfl⟩) (gE X G0 a25 ZkE rfl (fun _ _ _ _ _ _ _ _ _ _ d e=>⟨fun s us hK hl=>by obtain⟨_,_,_,_,rfl⟩:=ZiJ (show us.length=4 by simpa using hl);exact PySem.W.binds_K hK rfl d e rfl rfl,fun s us hK hl=>by obtain⟨_,_,_,rfl⟩:=Zdh (show us.length=3 by simpa using hl);exact PySem.W.binds_K hK rfl d e rfl rfl⟩) (gE X G0 a26 ZkF rfl (fun _ _ _ _ _ _ _ _ _ _ d e=>⟨fun s us hK hl=>by obtain⟨_,_,_,rfl⟩:=Zdh (show us.length=3 by simpa using hl);exact PySem.W.binds_K hK rfl d e rfl rfl,fun s us hK hl=>by obtain⟨_,_,rfl⟩:=Zfq (show us.length=2 by simpa using hl);exact PySem.W.binds_K hK rfl d e rfl rfl⟩) (gD X G0 a27 ZkG rfl (gD X G0 a28 ZkH rfl (gD X G0 a29 ZkI rfl (gD X G0 a30 ZkJ rfl (gD X G0 a31 ZkK rfl (gD X G0 a32 ZkL rfl (gD X G0 a33 ZkM rfl (gD X G0 a34 ZkN rfl (gD X G0 a35 ZkO rfl (gD X G0 a36 ZkP rfl (gD X G0 a37 ZkQ rfl (gD X G0 a38 ZkR rfl (gD X G0 a39 ZkS rfl (gD X G0 a40 ZkT rfl (gD X G0 a41 ZkU rfl (gD X G0 a42 ZkV rfl (gD X G0 a43 ZkW rfl (gD X G0 a44 Zi3 rfl (gB X G0 z45 (gB X G0 z46 (gB X G0 z47 (gB X G0 z48 (gB X G0 z49 (gB X G0 z50 (gB X G0 z51 (gB X G0 z52 (gB X G0 z53 (gB X G0 z54 (gB X G0 z55 (gB X G0 z56 (gB X G0 z57 (gB X G0 z58 (gB X G0 z59 (gB X G0 z60 (trivial)))))))))))))))))))))))))))))))))))))))))))))))))))))))))))))),gL X G0 hfa a44 Zi3 rfl fun _ _ _ _ _ _ _=>rfl⟩
theorem Zfw:∀ n,Xy G (run T n):=fun _=>ZeX
end
end Dp
open PySem PySem.W PyProof.Rows
set_option maxRecDepth 100000 in
set_option maxHeartbeats 0 in
theorem PySem.Challenge.cw_fakehunt_k47_whole_first_that_tells_holds : PySem.Challenge.rw_fakehunt_k47_whole_first_that_tells.Holds := by
 w_on;o_law;k_head;(case hw=>w_witness2)
 k_fill
 refine Dp.Zdg (l:=PySem.Challenge.rw_fakehunt_k47_whole_first_that_tells) (G:=Dp.G) (T:=Dp.T) (n:=12) (i:=16) (x := "_law_script") rfl rfl ⟨rfl,by decide,by decide⟩ (fun w h Y=>PySem.W.kIn_of Y) Dp.Zfw ?F (fun ns hn=>Dp.Zb1 hn)
 case F=>
  intro w mg fa h KX G0 hmg;refine' ⟨Dp.tab [],Dp.ZgK (ct:=Dp.tab []) (Pm:=w.params)  KX G0 hmg  ?_ (.mk ?_ ?_ ?_ ?_) (.mk ?_ ?_ ?_ ?_) (.mk ?_ ?_ ?_ ?_) (.mk ?_ ?_ ?_ ?_) (.mk ?_ ?_ ?_ ?_) (.mk ?_ ?_ ?_ ?_) (.mk ?_ ?_ ?_ ?_) (.mk ?_ ?_ ?_ ?_) ?_ ?_ (.mk ?_ ?_ ?_ ?_) (.mk ?_ ?_ ?_ ?_) (.mk ?_ ?_ ?_ ?_) (.mk ?_ ?_ ?_ ?_) (.mk ?_ ?_ ?_ ?_) (.mk ?_ ?_ ?_ ?_) (.mk ?_ ?_ ?_ ?_) (.mk ?_ ?_ ?_ ?_) (.mk ?_ ?_ ?_ ?_) (.mk ?_ ?_ ?_ ?_) (.mk ?_ ?_ ?_ ?_) (.mk ?_ ?_ ?_ ?_) (.mk ?_ ?_ ?_ ?_ ?_ ?_) (.mk ?_ ?_ ?_ ?_ ?_ ?_) (.mk ?_ ?_ ?_ ?_ ?_ ?_) (.mk ?_ ?_ ?_ ?_ ?_ ?_) (.mk ?_ ?_ ?_ ?_) (.mk ?_ ?_ ?_ ?_) (.mk ?_ ?_ ?_ ?_) (.mk ?_ ?_ ?_ ?_) (.mk ?_ ?_ ?_ ?_) (.mk ?_ ?_ ?_ ?_) (.mk ?_ ?_ ?_ ?_) (.mk ?_ ?_ ?_ ?_) (.mk ?_ ?_ ?_ ?_) (.mk ?_ ?_ ?_ ?_) (.mk ?_ ?_ ?_ ?_) (.mk ?_ ?_ ?_ ?_) (.mk ?_ ?_ ?_ ?_) (.mk ?_ ?_ ?_ ?_) (.mk ?_ ?_ ?_ ?_) (.mk ?_ ?_ ?_ ?_) (.mk ?_ ?_ ?_ ?_) (.mk ?_ ?_ ?_ ?_) ?_ ?_ ?_ ?_ ?_ ?_ ?_ ?_ ?_ ?_ ?_ ?_ ?_ ?_ ?_ ?_⟩
  all_goals (first|k_is|exact rfl|skip)
  all_goals (first|k_is|exact rfl|skip)
